import PyProof.Rows.All
import Wide.All
import OpenK.AllK
import Wide.FinOn
import Lean
import PyProof.EqAt
import PyProof.EqKinds
import PyProof.TupleCall
import PyProof.SetKind
import PyProof.SetNew
import PyProof.SetRoads
import PyProof.CollectIter
import PyProof.WalksMore
import PyProof.MakeMany
import PyProof.ZipIter
import PyProof.EnumMake
import PyProof.EnumFor
import KE.KDictOf
import KE.KEqDict
import PyProof.Rows.SortWalk
import PyProof.Rows.SortStr
import PyProof.ConsumeWalk
import KE.KItemsList
import PyProof.StrCalls
import PyProof.StrCaseBound
import PyProof.SetScanFacts
import KE.KSortTup
import PyProof.Rows.SortShellK
import PyProof.ReprRoads
import PyProof.ReprLen
import PyProof.CallFns
import KE.KIntText
import PyProof.Rows.StrWeight2
import PyProof.Rows.StrSplitAre
import PyProof.Rows.StrKeys3
import PyProof.ListRange
import PyProof.StrWalks
import PyProof.StrBlockI
import PyProof.SliceStr2
import PyProof.StrLawsIn
import OpenK.KOwn
import PyProof.NsDelKeeps
import KE.KIsAll
import PyProof.ExcArgsOwn
import PyProof.Ascii
import PyProof.P3Eq
import PyProof.TupleKey
import PySem.Challenge.RW_worldsay_k85_texts_of_no_paper
open List (all_cons all_eq_true all_map append_nil drop_eq_getElem_cons filterMap_cons getElem?_append_right getElem?_eq_getElem getElem?_map getElem?_set_ne getElem?_set_self length_append length_cons length_map length_replicate length_set length_take lookup_cons map_append map_cons map_set mem_append mem_append_right mem_cons mem_cons_of_mem mem_cons_self mem_filterMap mem_map mem_of_getElem? mem_singleton nodup_cons of_mem_zip size_toArray)
open PySem.Heap (get?_push_of_some get?_push_size get?_update_other lt_size size_push)
open Option (map_eq_some_iff map_some toList_some)
open Bool (and_eq_true)
open Nat (le_of_lt le_refl le_succ le_trans lt_irrefl lt_of_lt_of_le ne_of_gt ne_of_lt zero_le)
open Int (emod_nonneg toNat_natCast)
set_option Elab.async false
set_option linter.all false
set_option maxRecDepth 100000
set_option maxHeartbeats 4000000
noncomputable section
section
namespace L2
open PySem PySem.Spec PyProof.Rows
abbrev Key:=Sum Int Str
noncomputable def b5k:Key->Value->Bool
 | .inl k,v=>Value.isInt k v
 | .inr x,v=>Value.isStrOf x v
noncomputable def keyH(w:World):Key->Int
 | .inl k=>hashInt k
 | .inr x=>hashStr w x
theorem a1t:∀ {k:Key} {v:Value},b5k k v=true->(∃ i t,k=Sum.inl i/\v=Value.int i t) ∨ (∃ x t,k=Sum.inr x/\v=Value.str x t)
 | .inl i,v,h=>by
  obtain⟨t,e⟩:=Value.isInt_shape (k:=i) (v:=v) h
  exact .inl ⟨i,t,rfl,e⟩
 | .inr x,v,h=>by
  obtain⟨t,e⟩:=Value.isStrOf_shape (x:=x) (v:=v) h
  exact .inr ⟨x,t,rfl,e⟩
theorem d4j(a b:Int):decide ((Sum.inl a:Key)=Sum.inl b)=(a == b):=by
 by_cases e:a=b
 ·subst e;simp
 ·have h:¬ (Sum.inl a:Key)=Sum.inl b:=fun q=>e (Sum.inl.inj q)
  rw [decide_eq_false h]
  exact(beq_eq_false_iff_ne.mpr e).symm
theorem d4k(a b:Str):decide ((Sum.inr a:Key)=Sum.inr b)=decide (a=b):=by
 by_cases e:a=b
 ·subst e;simp
 ·have h:¬ (Sum.inr a:Key)=Sum.inr b:=fun q=>e (Sum.inr.inj q)
  rw [decide_eq_false h,decide_eq_false e]
theorem d4l(a:Int)(b:Str):decide ((Sum.inl a:Key)=Sum.inr b)=false:=decide_eq_false (fun q=>nomatch q)
theorem d4m(a:Str)(b:Int):decide ((Sum.inr a:Key)=Sum.inl b)=false:=decide_eq_false (fun q=>nomatch q)
noncomputable def b0n(prog:Program)(w:World):PySem.KeyKind prog w Key where
 is:=b5k
 hash:=keyH w
 inj:=fun v a b ha hb=>by
  rcases a1t ha with⟨i,t,rfl,rfl⟩ | ⟨x,t,rfl,rfl⟩
  ·rcases a1t hb with⟨j,u,rfl,e⟩ | ⟨y,u,rfl,e⟩
   ·injection e with e1 _;rw [e1]
   ·exact nomatch e
  ·rcases a1t hb with⟨j,u,rfl,e⟩ | ⟨y,u,rfl,e⟩
   ·exact nomatch e
   ·injection e with e1 _;rw [e1]
 byValue:=fun k v h=>by
  rcases a1t h with⟨i,t,rfl,rfl⟩ | ⟨x,t,rfl,rfl⟩<;>rfl
 pyHash:=fun hv h=>by
  rcases a1t hv with⟨i,t,rfl,rfl⟩ | ⟨x,t,rfl,rfl⟩
  ·exact wpAny_pyHash_int h
  ·exact wpAny_pyHash_str h
 eqBool:=fun hu hv h=>by
  rcases a1t hu with⟨i,t,rfl,rfl⟩ | ⟨x,t,rfl,rfl⟩
  ·rcases a1t hv with⟨j,u,rfl,rfl⟩ | ⟨y,u,rfl,rfl⟩
   ·rw [d4j] at h;exact wpAny_eqBool_int h
   ·rw [d4l] at h;exact SeqAt.EqAt.int_str i t y u _ _ _ _ h
  ·rcases a1t hv with⟨j,u,rfl,rfl⟩ | ⟨y,u,rfl,rfl⟩
   ·rw [d4m] at h;exact SeqAt.EqAt.str_int x t j u _ _ _ _ h
   ·rw [d4k] at h;exact wpAny_eqBool_str h
 «strs»:=fun k x t v h=>by
  rcases a1t h with⟨i,u,rfl,e⟩ | ⟨y,u,rfl,e⟩
  ·exact nomatch e
  ·injection e with e1 _
   subst e1
   cases v<;>rfl
end L2
namespace L2
open PySem PySem.Spec PyProof.Rows
inductive V where
 | non | bl (b:Bool) | int (i:Int) | str (x:Str) | byt (b:Array UInt8) | flt (b:UInt64) | ref (a:Addr) | ty (n:String)
 deriving DecidableEq
noncomputable def RelV:V->Value->Prop
 | .non,u=>u=Value.none
 | .bl b,u=>u=Value.bool b
 | .int i,u=>∃ t,u=Value.int i t
 | .str x,u=>∃ t,u=Value.str x t
 | .byt b,u=>∃ t,u=Value.bytes b t
 | .flt b,u=>∃ t,u=Value.float b t
 | .ref a,u=>u=Value.ref a
 | .ty n,u=>u=Value.type n
abbrev Vals:List V->List Value->Prop:=Paired RelV
theorem Vals.length{xs:List V}{us:List Value}(r:Vals xs us):xs.length=us.length:=Paired.length r
theorem Vals.get:∀ {xs:List V} {us:List Value} {i:Nat} {x:V},Vals xs us->xs[i]? = some x->∃ u,us[i]? = some u/\RelV x u
 | _,_,_,_,.nil,e=>by simp at e
 | _,_,0,_,.cons r _,e=>by simp at e;subst e;exact⟨_,rfl,r⟩
 | _,_,i + 1,x,.cons _ t,e=>by
  obtain⟨u,h1,h2⟩:=Vals.get (i:=i) (x:=x) t (by simpa using e)
  exact⟨u,by simpa using h1,h2⟩
theorem Vals.set{x:V}{u:Value}(r:RelV x u):∀ {xs:List V} {us:List Value} (i:Nat),Vals xs us->Vals (xs.set i x) (us.set i u)
 | _,_,_,.nil=>.nil
 | _,_,0,.cons _ t=>.cons r t
 | _,_,i + 1,.cons q t=>.cons q (Vals.set r i t)
theorem Vals.append:∀ {xs ys:List V} {us ws:List Value},Vals xs us->Vals ys ws->Vals (xs ++ ys) (us ++ ws)
 | _,_,_,_,.nil,s=>s
 | _,_,_,_,.cons r t,s=>.cons r (Vals.append t s)
theorem Vals.take:∀ {xs:List V} {us:List Value} (n:Nat),Vals xs us->Vals (xs.take n) (us.take n)
 | _,_,0,_=>.nil
 | _,_,_ + 1,.nil=>.nil
 | _,_,n + 1,.cons r t=>.cons r (Vals.take n t)
theorem Vals.drop:∀ {xs:List V} {us:List Value} (n:Nat),Vals xs us->Vals (xs.drop n) (us.drop n)
 | _,_,0,r=>r
 | _,_,_ + 1,.nil=>.nil
 | _,_,n + 1,.cons _ t=>Vals.drop n t
noncomputable def RelO:Option V->Option Value->Prop
 | some v,some u=>RelV v u
 | none,none=>True
 | _,_=>False
noncomputable def KV{κ:Type}:List (κ × V)->List (κ × Value)->Prop:=Paired fun(p:κ × V) (q:κ × Value)=>p.1=q.1/\RelV p.2 q.2
noncomputable def kV:Key->V
 | .inl i=>.int i
 | .inr x=>.str x
inductive HO where
 /-- a list -/
 | lst (xs:List V)
 /-- a tuple (never changes) -/
 | tup (xs:List V)
 /-- a dict whose keys are ints and texts; one whose keys are tuples of ints and texts (the empty one is both) -/
 | dK (kvs:List (Key × V)) | dT (kvs:List (List Key × V))
 /-- a set of ints: its members, its size -/
 | set (S:Int->Bool) (n:Nat)
 /-- an instance of the class at C, its dict at dx, its attributes -/
 | ins (C dx:Addr) (fs:List (Str × V))
 /-- the dict of the instance at x -/
 | own (x:Addr)
 /-- the dict of an exception -/
 | xd (fs:List (Str × V))
 /-- a bound method, f of x -/
 | met (f x:Addr)
 /-- a range object lo, lo + 1, .. below hi -/
 | rng (lo hi:Int)
 /-- a thing that is known to the object (the script; a dict while a loop walks it): read, never written while it is so -/
 | frz (o:Obj) (u:HO)
 /-- a code object's table -/
 | tbl (ps:Array Value)
 /-- any other thing, by what is true of its one object (a def of one's own: SetO a S n := HO.ext fun h => ..) -/
 | ext (φ:Heap->Prop)
abbrev Hp:=Addr->Option HO
noncomputable def upd(H:Hp)(a:Addr)(o:HO):Hp:=fun b=>if b=a then some o else H b
theorem a0c{H:Hp}{a:Addr}{o:HO}:upd H a o a=some o:=by unfold upd;rw [if_pos rfl]
theorem a0d{H:Hp}{a b:Addr}{o:HO}(h:b ≠ a):upd H a o b=H b:=by unfold upd;rw [if_neg h]
theorem b5l{H:Hp}{a b:Addr}{o u:HO}(h:H a=some o)(h':H b=some u)(d:o ≠ u):a ≠ b:=by
 intro e;subst e;rw [h] at h';exact d (Option.some.inj h')
theorem a0v{H:Hp}{a b:Addr}{o:HO}(h:H a=some o)(h':H b=none):a ≠ b:=by
 intro e;subst e;rw [h] at h';cases h'
def a4u(h:Heap)(a:Addr)(items:Array Value):Prop:=∃ o,h.get? a=some o/\(o.cls=.type "tuple" /\ o.dict=none)/\∃ n,o.data=.seq items n
theorem a4u.tup{h:Heap}{a:Addr}{items:Array Value}(x:a4u h a items):IsTup h a items:=by obtain⟨o,e,c,n,d⟩:=x;exact⟨o,e,c.1,n,d⟩
theorem a4u.new(h:Heap)(xs:Array Value):a4u (h.push { cls:=.type "tuple",data:=.seq xs }) h.objs.size xs:=⟨_,get?_push_size _ rfl,⟨rfl,rfl⟩,_,rfl⟩
def TabOk(H:Hp)(h:Heap)(a:Addr)(ps qs:Array Value):Prop:=h.get? a=some { cls:=.none,data:=.fields qs }/\TriplesOk qs.toList /\
 ∀ pos v,codeAmong pos qs.toList=some v->∃ c oc vs q t t',v=.ref c/\ps = #[.str q t]/\H c=some (.frz oc (.own c))/\oc.data=.fields vs/\vs[1]? = some (.str q t')
section
variable(P:Program)(w:World)
noncomputable def a1k(H:Hp)(h:Heap)(a:Addr):HO->Prop
 | .lst xs=>xs.length <= sizeLine/\∃ (its:List Value) (n:Nat),Vals xs its/\h.get? a=some { cls:=.type "list",data:=.seq its.toArray n }
 | .tup xs=>xs.length <= sizeLine/\∃ its:List Value,Vals xs its/\a4u h a its.toArray
 | .dK kvs=>kvs.length <= sizeLine/\(a == sysModules)=false/\∃ vs,KV kvs vs/\h.DictOf (b0n P w) a vs
 | .dT kvs=>kvs.length <= sizeLine/\(a == sysModules)=false/\∃ xs:List (List Key × Addr × Value),
   Paired (fun(p:List Key × V) (q:List Key × Addr × Value)=>p.1=q.1/\H q.2.1=some (.tup (p.1.map kV))/\RelV p.2 q.2.2) kvs xs /\
   ∃ o es ep,h.get? a=some o/\o.ExactDict/\o.data=.dict es ep/\es.toList=xs.map (entryOfKey (tupleKind (b0n P w)))/\(xs.map (·.1)).Nodup
 | .set S n=>h.SetOf (intKind P w) a S n
 | .ins C dx fs=>H dx=some (.own a)/\fs.length <= 1000/\dx ≠ a/\h.get? a=some (PySem.W.instObj C dx) /\
   ∃ mA,h.Ns1 dx mA/\(∀ f,RelO (fs.lookup f) (mA f))/\PySem.Within mA (fs.map (·.1))
 | .own _=>∃ o,h.get? a=some o
 | .xd fs=>∃ mA,h.Ns1 a mA/\∀ f,RelO (fs.lookup f) (mA f)
 | .rng lo hi=>∃ t u v,h.get? a=some { cls:=.type "range",data:=.fields #[.int lo t,.int hi u,.int 1 v] }
 | .frz o u=>(match u with
   | .tbl ps=>∃ qs:Array Value,TabOk H h a ps qs
   | _=>h.get? a=some o)/\a1k H h a u
 | .tbl ps=>∃ o,h.get? a=some o
 | .met f x=>h.get? a=some (PySem.W.methodObj (.ref f) (.ref x))
 | .ext φ=>φ h/\(∃ o,h.get? a=some o)/\∀ h1 h2:Heap,φ h1->(∀ o,h1.get? a=some o->h2.get? a=some o)->φ h2
def HOk(H:Hp)(h:Heap):Prop:=∀ a o,H a=some o->a1k P w H h a o
end
section
variable{P:Program}{w:World}{H H':Hp}{h h':Heap}{a:Addr}{o:HO}
theorem a1k.lt(x:a1k P w H h a o):a < h.objs.size:=by
 cases o with
 | lst xs=>obtain⟨_,_,_,_,e⟩:=x;exact lt_size e
 | tup xs=>obtain⟨_,_,_,p⟩:=x;exact p.tup.lt
 | dK kvs=>obtain⟨_,_,_,_,o,_,_,e,_⟩:=x;exact lt_size e
 | dT kvs=>obtain⟨_,_,_,_,o,_,_,e,_⟩:=x;exact lt_size e
 | set S n=>obtain⟨o,_,_,_,e,_⟩:=x;exact lt_size e
 | ins C dx fs=>obtain⟨_,_,_,e,_⟩:=x;exact lt_size e
 | own y=>obtain⟨_,e⟩:=x;exact lt_size e
 | xd fs=>obtain⟨_,⟨_,_,_,e,_⟩,_⟩:=x;exact lt_size e
 | rng lo hi=>obtain⟨_,_,_,e⟩:=x;exact lt_size e
 | frz ob u =>
  obtain⟨e,_⟩:=x
  cases u with
  | tbl ps=>obtain⟨_,e,_⟩:=e;exact lt_size e
  | _=>exact lt_size (show h.get? a=some _ from e)
 | tbl ps=>obtain⟨_,e⟩:=x;exact lt_size e
 | met f y=>exact lt_size (show h.get? a=some _ from x)
 | ext φ=>obtain⟨_,⟨_,e⟩,_⟩:=x;exact lt_size e
theorem Paired.mapP{α β:Type}{F G:α->β->Prop}:∀ {l₁:List α} {l₂:List β},Paired F l₁ l₂->(∀ a b,F a b->G a b)->Paired G l₁ l₂
 | _,_,.nil,_=>.nil
 | _,_,.cons r t,f=>.cons (f _ _ r) (Paired.mapP t f)
theorem Paired.imp'{α β:Type}{F G:α->β->Prop}(f:∀ a b,F a b->G a b){l₁:List α}{l₂:List β}(r:Paired F l₁ l₂):Paired G l₁ l₂:=Paired.mapP r f
theorem a1k.stay(x:a1k P w H h a o)(k:∀ b u,(b=a ∨ H b=some (.own a))->h.get? b=some u->h'.get? b=some u)
  (ho:∀ b,H b=some (.own a)->H' b=some (.own a)) (ht:∀ b xs,H b=some (.tup xs)->H' b=some (.tup xs)) (hf:∀ b ob u,H b=some (.frz ob u)->H' b=some (.frz ob u)):a1k P w H' h' a o:=by
 induction o with
 | lst xs=>obtain⟨z,its,n,r,e⟩:=x;exact⟨z,its,n,r,k _ _ (.inl rfl) e⟩
 | tup xs=>obtain⟨z,its,r,ob,e,c⟩:=x;exact⟨z,its,r,ob,k _ _ (.inl rfl) e,c⟩
 | dK kvs=>obtain⟨z,y,vs,r,ob,es,ep,e,c⟩:=x;exact⟨z,y,vs,r,ob,es,ep,k _ _ (.inl rfl) e,c⟩
 | dT kvs =>
  obtain⟨z,y,xs,r,ob,es,ep,e,c⟩:=x
  exact⟨z,y,xs,Paired.mapP r fun p q z=>⟨z.1,ht _ _ z.2.1,z.2.2⟩,ob,es,ep,k _ _ (.inl rfl) e,c⟩
 | set S n=>obtain⟨ob,es,ep,t,e,c⟩:=x;exact⟨ob,es,ep,t,k _ _ (.inl rfl) e,c⟩
 | ins C dx fs =>
  obtain⟨d,z,ne,e,mA,⟨od,es,ep,e2,c⟩,r⟩:=x
  exact⟨ho _ d,z,ne,k _ _ (.inl rfl) e,mA,⟨od,es,ep,k _ _ (.inr d) e2,c⟩,r⟩
 | own y=>obtain⟨ob,e⟩:=x;exact⟨ob,k _ _ (.inl rfl) e⟩
 | xd fs=>obtain⟨mA,⟨od,es,ep,e,c⟩,r⟩:=x;exact⟨mA,⟨od,es,ep,k _ _ (.inl rfl) e,c⟩,r⟩
 | rng lo hi=>obtain⟨t,u,v,e⟩:=x;exact⟨t,u,v,k _ _ (.inl rfl) e⟩
 | frz ob u ih =>
  obtain⟨e,q⟩:=x
  refine⟨?_,ih q⟩
  cases u with
  | tbl ps =>
   obtain⟨qs,e1,e2,e3⟩:=e
   exact⟨qs,k _ _ (.inl rfl) e1,e2,fun pos v hv=>by obtain⟨c,oc,vs,q,t,t',h1,h2,h3,h4⟩:=e3 pos v hv;exact⟨c,oc,vs,q,t,t',h1,h2,hf _ _ _ h3,h4⟩⟩
  | _=>exact k _ _ (.inl rfl) e
 | tbl ps=>obtain⟨o,e⟩:=x;exact⟨o,k a _ (.inl rfl) e⟩
 | met f y =>
  have e:h.get? a=some (PySem.W.methodObj (.ref f) (.ref y)):=x
  show h'.get? a=some (PySem.W.methodObj (.ref f) (.ref y))
  exact k a _ (.inl rfl) e
 | ext φ=>obtain⟨p,⟨o,e⟩,st⟩:=x;exact⟨st _ _ p fun o q=>k _ _ (.inl rfl) q,⟨o,k _ _ (.inl rfl) e⟩,st⟩
theorem HOk.lt(x:HOk P w H h)(e:H a=some o):a < h.objs.size:=(x a o e).lt
theorem HOk.fresh(x:HOk P w H h)(e:h.objs.size <= a):H a=none:=by
 cases q:H a with
 | none=>rfl
 | some u=>exact absurd (lt_of_lt_of_le (x.lt q) e) (lt_irrefl _)
theorem HOk.kept(x:HOk P w H h)(k:∀ b u,h.get? b=some u->h'.get? b=some u):HOk P w H h':=fun a o e =>
 (x a o e).stay (fun b u _ q=>k b u q) (fun _ q=>q) (fun _ _ q=>q) fun _ _ _ q=>q
theorem HOk.laid(x:HOk P w H h)(k:∀ b u,h.get? b=some u->h'.get? b=some u)(hp:h.objs.size <= a)(new:a1k P w (upd H a o) h' a o):HOk P w (upd H a o) h':=fun b u e=>by
 have hn:=x.fresh hp
 by_cases hb:b=a
 ·subst hb;rw [a0c] at e;cases e;exact new
 ·rw [a0d hb] at e
  exact(x b u e).stay (fun c v _ q=>k c v q) (fun c q=>by rw [a0d (a0v q hn)];exact q) (fun c xs q=>by rw [a0d (a0v q hn)];exact q) fun c ob u q=>by rw [a0d (a0v q hn)];exact q
end
def Rd(H:Hp)(a:Addr)(u:HO):Prop:=H a=some u ∨ ∃ o,H a=some (.frz o u)
theorem Rd.ok{P:Program}{w:World}{H:Hp}{h:Heap}{a:Addr}{u:HO}(r:Rd H a u)(x:HOk P w H h):a1k P w H h a u:=by
 rcases r with r | ⟨o,r⟩
 ·exact x a u r
 ·obtain⟨_,q⟩:=x a _ r
  exact q
noncomputable def Mut:Option HO->Prop
 | some (.lst _)=>True
 | some (.dK _)=>True
 | some (.dT _)=>True
 | some (.set _ _)=>True
 | some (.ins _ _ _)=>True
 | some (.ext _)=>True
 | _=>False
section
variable{P:Program}{w:World}{H:Hp}{h h':Heap}{x e:Addr}{o':HO}
theorem HOk.write(ok:HOk P w H h)(mu:Mut (H x))(he:e=x ∨ H e=some (.own x))(k:∀ b u,b ≠ e->h.get? b=some u->h'.get? b=some u)(heo:∃ u,h'.get? e=some u)
  (new:a1k P w (upd H x o') h' x o'):HOk P w (upd H x o') h':=fun b u q=>by
 have nown:∀ c y,H c=some (.own y)->c ≠ x:=fun c y r z=>by subst z;rw [r] at mu;exact mu
 have ntup:∀ c xs,H c=some (.tup xs)->c ≠ x:=fun c xs r z=>by subst z;rw [r] at mu;exact mu
 by_cases hb:b=x
 ·subst hb;rw [a0c] at q;cases q;exact new
 ·rw [a0d hb] at q
  by_cases hbe:b=e
  ·have q':H b=some (.own x):=by
    rcases he with z | z
    ·exact absurd (hbe.trans z) hb
    ·rw [hbe];exact z
   rw [q] at q';cases q'
   obtain⟨v,hv⟩:=heo
   exact⟨v,by rw [hbe];exact hv⟩
  ·refine(ok b u q).stay (fun c v hc r=>k c v ?_ r) (fun c r=>by rw [a0d (nown c b r)];exact r) (fun c xs r=>by rw [a0d (ntup c xs r)];exact r) fun c ob u r=>by rw [a0d (fun z=>by subst z;rw [r] at mu;exact mu)];exact r
   rcases hc with rfl | hc
   ·exact hbe
   ·rintro rfl
    rcases he with z | z
    ·exact nown c b hc z
    ·rw [hc] at z;cases z;exact hb rfl
end
structure Un(fs ex:List Addr)(H H':Hp)(h h':Heap):Prop where
 keep:∀ b o,h.get? b=some o->H b=none->b ∉ fs->b ∉ ex->h'.get? b=some o
 slot:∀ b o,h.get? b=some o->H b=none->b ∈ fs->b ∉ ex->∃ sl,h'.get? b=some { o with slots:=sl }
 free:∀ b o,h.get? b=some o->H b=none->b ∉ ex->H' b=none
 there:∀ b o,h.get? b=some o->b ∉ ex->∃ o',h'.get? b=some o'
 tups:∀ b xs,H b=some (.tup xs)->H' b=some (.tup xs)
 frzs:∀ b o u,H b=some (.frz o u)->H' b=some (.frz o u)
 tbls:∀ b ps,H b=some (.tbl ps)->∃ more,H' b=some (.tbl (ps ++ more))
section
variable{fs fs' ex ex':List Addr}{H H1 H2:Hp}{h h1 h2 h':Heap}{a x e:Addr}{o:HO}
theorem Un.any(u:Un fs ex H H1 h h1){b:Addr}{ob:Obj}(q:h.get? b=some ob)(n:H b=none)(hx:b ∉ ex):∃ sl,h1.get? b=some { ob with slots:=sl }:=by
 by_cases hb:b ∈ fs
 ·exact u.slot b ob q n hb hx
 ·exact⟨ob.slots,u.keep b ob q n hb hx⟩
theorem Un.trans(a:Un fs ex H H1 h h1)(b:Un fs ex H1 H2 h1 h2):Un fs ex H H2 h h2 where
 keep:=fun c ob q n hc hx=>b.keep c ob (a.keep c ob q n hc hx) (a.free c ob q n hx) hc hx
 slot:=fun c ob q n hc hx=>by
  obtain⟨sl,e1⟩:=a.slot c ob q n hc hx
  obtain⟨sl',e2⟩:=b.slot c _ e1 (a.free c ob q n hx) hc hx
  exact⟨sl',e2⟩
 free:=fun c ob q n hx=>by
  obtain⟨o',e1⟩:=a.there c ob q hx
  exact b.free c o' e1 (a.free c ob q n hx) hx
 there:=fun c ob q hx=>by
  obtain⟨o',e1⟩:=a.there c ob q hx
  exact b.there c o' e1 hx
 tups:=fun c xs q=>b.tups c xs (a.tups c xs q)
 frzs:=fun c ob xs q=>b.frzs c ob xs (a.frzs c ob xs q)
 tbls:=fun c ps q=>by
  obtain⟨m1,e1⟩:=a.tbls c ps q
  obtain⟨m2,e2⟩:=b.tbls c _ e1
  exact⟨m1 ++ m2,by rw [e2,Array.append_assoc]⟩
theorem Un.kept(k:∀ b u,h.get? b=some u->h'.get? b=some u):Un fs ex H H h h':=
 ⟨fun b ob q _ _ _=>k b ob q,fun b ob q _ _ _=>⟨ob.slots,k b ob q⟩,fun _ _ _ n _=>n,fun b ob q _=>⟨ob,k b ob q⟩,fun _ _ q=>q,fun _ _ _ q=>q,fun _ ps q=>⟨#[],by rw [q];simp⟩⟩
theorem Un.refl:Un fs ex H H h h:=Un.kept fun _ _ q=>q
theorem Un.laid(k:∀ b u,h.get? b=some u->h'.get? b=some u)(hp:h.objs.size <= a)(hn:H a=none):Un fs ex H (upd H a o) h h' where
 keep:=fun b u q _ _ _=>k b u q
 slot:=fun b u q _ _ _=>⟨u.slots,k b u q⟩
 free:=fun b u q n _=>by rw [a0d (ne_of_lt (lt_of_lt_of_le (lt_size q) hp))];exact n
 there:=fun b u q _=>⟨u,k b u q⟩
 tups:=fun b xs q=>by rw [a0d (a0v q hn)];exact q
 frzs:=fun b u xs q=>by rw [a0d (a0v q hn)];exact q
 tbls:=fun b ps q=>⟨#[],by rw [a0d (a0v q hn),q];simp⟩
theorem Un.write(mu:Mut (H x))(he:e=x ∨ H e=some (.own x))(k:∀ b u,b ≠ e->h.get? b=some u->h'.get? b=some u)(heo:∃ u,h'.get? e=some u):Un fs ex H (upd H x o) h h':=by
 have hx:∀ b,H b=none->b ≠ x:=fun b n z=>by subst z;rw [n] at mu;exact mu
 have hb:∀ b,H b=none->b ≠ e:=fun b n z=>by
  subst z
  rcases he with r | r
  ·exact hx b n r
  ·rw [n] at r;cases r
 have hm:∀ b u,H b=some u->¬ Mut (some u)->b ≠ x:=fun b u q nm z=>by subst z;rw [q] at mu;exact nm mu
 refine⟨fun b u q n _ _=>k b u (hb b n) q,fun b u q n _ _=>⟨u.slots,k b u (hb b n) q⟩,fun b u q n _=>by rw [a0d (hx b n)];exact n,fun b u q _=>?_,
  fun b xs q=>by rw [a0d (hm b _ q fun z=>z)];exact q,fun b u xs q=>by rw [a0d (hm b _ q fun z=>z)];exact q,fun b ps q=>⟨#[],by rw [a0d (hm b _ q fun z=>z),q];simp⟩⟩
 by_cases hbe:b=e
 ·subst hbe;exact heo
 ·exact⟨u,k b u hbe q⟩
end
noncomputable def trk(h:Heap)(H:Hp):List Addr:=(List.range h.objs.size).filter fun a=>(H a).isSome
noncomputable def hidT(h:Heap)(H:Hp):Heap:=PySem.W.hideAll h (trk h H)
theorem c2m(h:Heap)(H:Hp):(hidT h H).objs.size=h.objs.size:=PySem.W.hideAll_size _ _
theorem c5x{h:Heap}{H:Hp}{b:Addr}{o:Obj}(e:h.get? b=some o)(n:H b=none):(hidT h H).get? b=some o:=
 PySem.W.hideAll_get _ e fun hm=>by
  have q:(H b).isSome=true:=(List.mem_filter.mp hm).2
  rw [n] at q;simp at q
theorem d0d{h:Heap}{H:Hp}{b:Addr}{o:Obj}(e:(hidT h H).get? b=some o):h.get? b=some o/\H b=none:=by
 have e':h.get? b=some o:=PySem.W.of_hideAll (trk h H) e
 refine⟨e',?_⟩
 cases q:H b with
 | none=>rfl
 | some x =>
  have hm:b ∈ trk h H:=List.mem_filter.mpr ⟨List.mem_range.mpr (lt_size e'),by simp [q]⟩
  have z:(hidT h H).get? b=none:=PySem.W.hideAll_none (trk h H) hm
  rw [z] at e;cases e
noncomputable def d0e(g h:Heap)(L:Addr):List (Addr × Obj):=(List.range h.objs.size).filterMap fun a=>if a=L ∨ (g.get? a).isSome=true then none else(h.get? a).map fun o=>(a,o)
noncomputable def rest(g h:Heap)(L d:Addr):List (Addr × Obj):=(d0e g h L).filter fun p=>decide (p.1 ≠ d)
end L2
namespace L2
open PySem PySem.Spec PyProof.Rows
structure Mod(K:W.Frag)(mg:Str->Option Value)(base:Heap):Prop where
 kin:K.In base
 glob:base.Ns mainGlobals mg
 blt:∃ mb,base.Ns builtinsNs mb/\∀ x:Str,x ≠ "__name__" -> mb x=bootBuiltins x
 nolimit:base.NoLimit
structure Cx where
 prog:Program
 w:World
 K:W.Frag
 mg:Str->Option Value
 base:Heap
 A:Around
 N:List Str
 s₀:Shared
 H₀:Hp
 env:Env
 outer:List Env
 stack:List Env
 ex:List Addr
 fn:Str->Bool
 calm:Bool
 pn:List (Addr × Obj)
 xe:Value->Shared->Prop
noncomputable def frs(l:List Env):List Addr:=l.filterMap (·.frame)
abbrev Cx.fs(X:Cx):List Addr:=frs X.outer
def Vis(sc:Scope)(x:Str):Prop:=sc.names.lookup x=some .local ∨ sc.names.lookup x=some .cell ∨ sc.names.lookup x=some .free
def Loc(sc:Scope)(x:Str):Prop:=sc.names.lookup x=some .local ∨ sc.names.lookup x=some .cell
def Look(env:Env)(h:Heap)(m:Str->Option Value)(x:Str)(u:Value):Prop:=
 (env.kindOf x=some .local/\m x=some u) ∨ ((env.kindOf x=some .cell ∨ env.kindOf x=some .free)/\∃ c,env.cells.lookup x=some c/\h.IsCell c (some u))
structure Cx.Ok(X:Cx):Prop where
 mod:Mod X.K X.mg X.base
 kind:X.env.scope.kind=.function
 glob:X.env.globals=mainGlobals
 blt:X.env.builtins=builtinsNs
 above:X.s₀.heap.objs.size <= X.env.locals
 inj:∀ x y c,X.env.cells.lookup x=some c->X.env.cells.lookup y=some c->x=y
 has:∀ x,(X.env.kindOf x=some .cell ∨ X.env.kindOf x=some .free)->∃ c,X.env.cells.lookup x=some c
 cab:∀ x c,X.fn x=true->X.env.cells.lookup x=some c->X.s₀.heap.objs.size <= c
 hd:X.calm=true->X.A.handled=none
 frames:X.A.frames=some X.stack
 stk:X.stack=X.outer ∨ (X.stack=X.env :: X.outer/\X.env.frame=some X.env.locals)
 exf:∀ b ∈ X.ex,b ≠ X.env.locals/\∀ x c,X.env.cells.lookup x=some c->c ≠ b
 bs:∀ b o,X.base.get? b=some o->X.s₀.heap.get? b=some o/\X.H₀ b=none
 bsz:X.base.objs.size <= X.s₀.heap.objs.size
 noex:∀ b o,X.base.get? b=some o->b ∉ X.ex
 exfs:∀ b ∈ X.ex,b ∉ X.fs
 funs:X.s₀.heap.FunFrames X.base X.outer
 frf:∀ b ∈ X.fs,X.H₀ b=none
structure Inv(X:Cx)(pins:List (Addr × Obj))(σ:List (Option V))(H:Hp)(s:Shared):Prop where
 ok:X.Ok
 os:s.os=X.s₀.os
 bare:AllBare s.gens
 base:Un X.fs X.ex X.H₀ H X.s₀.heap s.heap
 loc:∃ m,s.heap.Ns X.env.locals m/\∀ (i:Nat) (x:Str) (v:V),X.N[i]? = some x->σ[i]? = some (some v)->Vis X.env.scope x->∃ u,RelV v u/\Look X.env s.heap m x u
 cell:∀ x c,X.env.cells.lookup x=some c->∃ v,s.heap.IsCell c v
 free:H X.env.locals=none
 freeC:∀ x c,X.env.cells.lookup x=some c->H c=none
 pin:∀ p ∈ X.pn ++ pins,s.heap.get? p.1=some p.2/\H p.1=none/\p.1 ≠ X.env.locals/\p.1 ∉ X.fs/\∀ v,p.2.data ≠ .cell v
 hok:HOk X.prog X.w H s.heap
 len:σ.length=X.N.length
section
variable{X:Cx}{pins:List (Addr × Obj)}{σ:List (Option V)}{H H':Hp}{s:Shared}{h':Heap}
theorem Cx.Ok.nofr(ok:X.Ok){b:Addr}{o:Obj}(e:X.base.get? b=some o):b ∉ X.fs:=fun hb=>by
 have:=(ok.funs.mem hb).1
 rw [e] at this;cases this
theorem Inv.bs(I:Inv X pins σ H s):∀ b o,X.base.get? b=some o->s.heap.get? b=some o/\H b=none:=fun b o e =>
 ⟨I.base.keep b o (I.ok.bs b o e).1 (I.ok.bs b o e).2 (I.ok.nofr e) (I.ok.noex b o e),I.base.free b o (I.ok.bs b o e).1 (I.ok.bs b o e).2 (I.ok.noex b o e)⟩
theorem Inv.bk(I:Inv X pins σ H s):∀ b o,X.base.get? b=some o->s.heap.get? b=some o:=fun b o e=>(I.bs b o e).1
theorem Inv.mod(I:Inv X pins σ H s):Mod X.K X.mg X.base:=I.ok.mod
theorem Inv.kIn(I:Inv X pins σ H s):X.K.In s.heap:=I.ok.mod.kin.keeps I.bk
theorem Inv.lt(I:Inv X pins σ H s):X.env.locals < s.heap.objs.size:=by obtain⟨_,hn,_⟩:=I.loc;exact hn.lt
theorem Inv.sz(I:Inv X pins σ H s):X.s₀.heap.objs.size <= s.heap.objs.size:=le_trans I.ok.above (le_of_lt I.lt)
theorem Inv.nofs(I:Inv X pins σ H s){a:Addr}(h:s.heap.objs.size <= a):a ∉ X.fs:=fun hb=>by
 obtain⟨_,o,ho,_⟩:=I.ok.funs.mem hb
 exact absurd (lt_of_lt_of_le (lt_size ho) (le_trans I.sz h)) (lt_irrefl _)
theorem Inv.cne(I:Inv X pins σ H s):∀ x c,X.env.cells.lookup x=some c->c ≠ X.env.locals:=fun x c e z=>by
 obtain⟨v,o,ho,hd⟩:=I.cell x c e
 obtain⟨m,⟨o',es,ep,ho',hd',_⟩,_⟩:=I.loc
 rw [z,ho'] at ho;cases ho;rw [hd'] at hd;cases hd
theorem Inv.funs(I:Inv X pins σ H s):s.heap.FunFrames X.base X.outer:=by
 have all:∀ (l:List Env),(∀ b ∈ frs l,b ∈ X.fs)->X.s₀.heap.FunFrames X.base l->s.heap.FunFrames X.base l:=by
  intro l
  induction l with
  | nil=>intro _ _;trivial
  | cons env r ih =>
   intro hs hl
   obtain⟨hk,⟨L,o,hf,hn,ho,hd⟩,hr⟩:=hl
   have hL:L ∈ X.fs:=hs L (by unfold frs;rw [filterMap_cons,hf];exact mem_cons_self)
   obtain⟨sl,e⟩:=I.base.slot L o ho (I.ok.frf L hL) hL fun z=>I.ok.exfs L z hL
   exact⟨hk,⟨L,_,hf,hn,e,hd⟩,ih (fun b hb=>hs b (by unfold frs;rw [filterMap_cons,hf];exact mem_cons_of_mem _ hb)) hr⟩
 exact all X.outer (fun _ hb=>hb) I.ok.funs
theorem Inv.stack(I:Inv X pins σ H s):s.heap.FunFrames X.base X.stack:=by
 rcases I.ok.stk with e | ⟨e,hf⟩
 ·rw [e];exact I.funs
 ·rw [e]
  obtain⟨m,hn,_⟩:=I.loc
  refine .cons (by rw [I.ok.kind];decide) hf hn ?_ I.funs
  exact Heap.get?_none_of_le (le_trans I.ok.bsz I.ok.above)
theorem Inv.stkSub(I:Inv X pins σ H s):∀ b ∈ frs X.stack,b ∈ X.env.locals :: X.fs:=fun b hb=>by
 rcases I.ok.stk with e | ⟨e,hf⟩
 ·rw [e] at hb;exact mem_cons_of_mem _ hb
 ·rw [e] at hb
  unfold frs at hb
  rw [filterMap_cons,hf] at hb
  exact hb
theorem Inv.stkFree(I:Inv X pins σ H s):∀ b ∈ frs X.stack,H b=none:=fun b hb=>by
 rcases mem_cons.mp (I.stkSub b hb) with e | hb
 ·rw [e];exact I.free
 ·obtain⟨_,o,ho,_⟩:=I.ok.funs.mem hb
  exact I.base.free b o ho (I.ok.frf b hb) fun z=>I.ok.exfs b z hb
theorem Inv.step{g':Array GenState}{t':Nat}{d':Drawn}{ch:List Addr}(I:Inv X pins σ H s)
  (hch:∀ b ∈ ch,(b ∈ X.ex ∨ X.s₀.heap.objs.size <= b)/\b ≠ X.env.locals/\(∀ x c,X.env.cells.lookup x=some c->c ≠ b)/\∀ p ∈ X.pn ++ pins,p.1 ≠ b)
  (keep:∀ b o,b ≠ X.env.locals->b ∉ X.fs->b ∉ ch->s.heap.get? b=some o->H b=none->h'.get? b=some o)
  (slot:∀ b o,b ≠ X.env.locals->b ∈ X.fs->b ∉ ch->s.heap.get? b=some o->H b=none->∃ sl,h'.get? b=some { o with slots:=sl }) (free:∀ b o,b ∉ ch->s.heap.get? b=some o->H b=none->H' b=none)
  (there:∀ b o,b ∉ ch->s.heap.get? b=some o->∃ o',h'.get? b=some o')
  (tups:∀ b xs,H b=some (.tup xs)->H' b=some (.tup xs)) (frzs:∀ b o u,H b=some (.frz o u)->H' b=some (.frz o u)) (tbls:∀ b ps,H b=some (.tbl ps)->∃ more,H' b=some (.tbl (ps ++ more)))
  (ns:∀ m,s.heap.Ns X.env.locals m->h'.Ns X.env.locals m) (hok:HOk X.prog X.w H' h') (hg:AllBare g') :
  Inv X pins σ H' { s with heap:=h',gens:=g',drawn:=d',toks:=t' }:=by
 have neL:∀ b o,X.s₀.heap.get? b=some o->b ≠ X.env.locals:=fun b o e=>ne_of_lt (lt_of_lt_of_le (lt_size e) I.ok.above)
 have neC:∀ b o,X.s₀.heap.get? b=some o->b ∉ X.ex->b ∉ ch:=fun b o e hx hb=>by
  rcases (hch b hb).1 with z | z
  ·exact hx z
  ·exact absurd (lt_of_lt_of_le (lt_size e) z) (lt_irrefl _)
 have cellK:∀ x c,X.env.cells.lookup x=some c->∀ v,s.heap.IsCell c v->h'.IsCell c v:=fun x c e v hq8=>by
  obtain⟨o,ho,hd⟩:=hq8
  have nch:c ∉ ch:=fun z=>(hch c z).2.2.1 x c e rfl
  by_cases hc:c ∈ X.fs
  ·obtain⟨sl,q⟩:=slot c o (I.cne x c e) hc nch ho (I.freeC x c e)
   exact⟨_,q,hd⟩
  ·exact⟨o,keep c o (I.cne x c e) hc nch ho (I.freeC x c e),hd⟩
 refine⟨I.ok,I.os,hg,⟨fun b o e n hb hx=>?_,fun b o e n hb hx=>?_,fun b o e n hx=>?_,fun b o e hx=>?_,fun b xs e=>tups b xs (I.base.tups b xs e),fun b o xs e=>frzs b o xs (I.base.frzs b o xs e),fun b ps e=>?_⟩,?_,fun x c e=>?_,?_,fun x c e=>?_,fun p hp=>?_,hok,I.len⟩
 ·exact keep b o (neL b o e) hb (neC b o e hx) (I.base.keep b o e n hb hx) (I.base.free b o e n hx)
 ·obtain⟨sl,e1⟩:=I.base.slot b o e n hb hx
  obtain⟨sl',e2⟩:=slot b _ (neL b o e) hb (neC b o e hx) e1 (I.base.free b o e n hx)
  exact⟨sl',e2⟩
 ·obtain⟨o',e1⟩:=I.base.there b o e hx
  exact free b o' (neC b o e hx) e1 (I.base.free b o e n hx)
 ·obtain⟨o',e1⟩:=I.base.there b o e hx
  exact there b o' (neC b o e hx) e1
 ·obtain⟨m1,e1⟩:=I.base.tbls b ps e
  obtain⟨m2,e2⟩:=tbls b _ e1
  exact⟨m1 ++ m2,by rw [e2,Array.append_assoc]⟩
 ·obtain⟨m,hn,hl⟩:=I.loc
  refine⟨m,ns m hn,fun i x v e1 e2 e3=>?_⟩
  obtain⟨u,r,l⟩:=hl i x v e1 e2 e3
  refine⟨u,r,?_⟩
  rcases l with l | ⟨k,c,e,z⟩
  ·exact .inl l
  ·exact .inr ⟨k,c,e,cellK x c e _ z⟩
 ·obtain⟨v,z⟩:=I.cell x c e
  exact⟨v,cellK x c e v z⟩
 ·obtain⟨m,⟨o,_,_,ho,_⟩,_⟩:=I.loc
  exact free _ o (fun z=>(hch _ z).2.1 rfl) ho I.free
 ·obtain⟨v,o,ho,hd⟩:=I.cell x c e
  exact free c o (fun z=>(hch c z).2.2.1 x c e rfl) ho (I.freeC x c e)
 ·obtain⟨e,n,ne,nf,d⟩:=I.pin p hp
  have nch:p.1 ∉ ch:=fun z=>(hch p.1 z).2.2.2 p hp rfl
  exact⟨keep p.1 p.2 ne nf nch e n,free p.1 p.2 nch e n,ne,nf,d⟩
theorem Inv.un{t':Nat}(I:Inv X pins σ H s)(u:Un X.fs [] H H' s.heap h')(hok:HOk X.prog X.w H' h'):Inv X pins σ H' { s with heap:=h',toks:=t' }:=by
 obtain⟨m,⟨o,es,ep,ho,r⟩,_⟩:=id I.loc
 obtain⟨sl,hL⟩:=u.any ho I.free (by simp)
 exact I.step (g':=s.gens) (d':=s.drawn) (ch:=[]) (fun _ z=>nomatch z) (fun b o _ hb _ e n=>u.keep b o e n hb (by simp)) (fun b o _ hb _ e n=>u.slot b o e n hb (by simp)) (fun b o _ e n=>u.free b o e n (by simp)) (fun b o _ e=>u.there b o e (by simp)) u.tups u.frzs u.tbls (fun m' hm=>by
  obtain⟨o',es',ep',ho',r'⟩:=hm
  rw [ho] at ho';cases ho'
  exact⟨_,es',ep',hL,r'⟩) hok I.bare
theorem Inv.call{g':Array GenState}{t':Nat}{d':Drawn}{ch:List Addr}(I:Inv X pins σ H s)(u:Un (frs X.stack) ch H H' s.heap h')(hok:HOk X.prog X.w H' h')(hg:AllBare g')
  (hch:∀ b ∈ ch,(b ∈ X.ex ∨ X.s₀.heap.objs.size <= b)/\b ≠ X.env.locals/\(∀ x c,X.env.cells.lookup x=some c->c ≠ b)/\∀ p ∈ X.pn ++ pins,p.1 ≠ b) :
  Inv X pins σ H' { s with heap:=h',gens:=g',drawn:=d',toks:=t' }:=by
 obtain⟨m,⟨o,es,ep,ho,r⟩,_⟩:=id I.loc
 obtain⟨sl,hL⟩:=u.any ho I.free fun z=>(hch _ z).2.1 rfl
 exact I.step (ch:=ch) hch (fun b o hL hb hc e n=>u.keep b o e n (fun z=>(mem_cons.mp (I.stkSub b z)).elim hL hb) hc) (fun b o _ _ hc e n=>u.any e n hc) (fun b o hc e n=>u.free b o e n hc) (fun b o hc e=>u.there b o e hc) u.tups u.frzs u.tbls (fun m' hm=>by
  obtain⟨o',es',ep',ho',r'⟩:=hm
  rw [ho] at ho';cases ho'
  exact⟨_,es',ep',hL,r'⟩) hok hg
theorem Inv.turned{t':Nat}{it:Addr}(I:Inv X pins σ H s)(k:∀ b o,b ≠ it->s.heap.get? b=some o->h'.get? b=some o)(hn:H it=none)(hL:it ≠ X.env.locals)
  (h1:it ∈ X.ex ∨ X.s₀.heap.objs.size <= it) (h2:∀ x c,X.env.cells.lookup x=some c->c ≠ it) (h3:∀ p ∈ X.pn ++ pins,p.1 ≠ it):Inv X pins σ H { s with heap:=h',toks:=t' }:=by
 have nit:∀ b u,H b=some u->b ≠ it:=fun b u e z=>by rw [z,hn] at e;cases e
 refine I.step (g':=s.gens) (d':=s.drawn) (ch:=[it]) (fun b hb=>?_) (fun b o _ _ hc e _=>k b o (fun z=>hc (by simp [z])) e) (fun b o _ _ hc e _=>⟨o.slots,k b o (fun z=>hc (by simp [z])) e⟩) (fun _ _ _ _ n=>n)
  (fun b o hc e=>⟨o,k b o (fun z=>hc (by simp [z])) e⟩) (fun _ _ e=>e) (fun _ _ _ e=>e) (fun b ps e=>⟨#[],by rw [e];simp⟩) (fun m hm=>?_) (fun b u e=>?_) I.bare
 ·have e:b=it:=by simpa using hb
  subst e
  exact⟨h1,hL,h2,h3⟩
 ·obtain⟨o,es,ep,ho,r⟩:=hm
  exact⟨o,es,ep,k _ o (Ne.symm hL) ho,r⟩
 ·refine(I.hok b u e).stay (fun c v hc q=>k c v ?_ q) (fun _ q=>q) (fun _ _ q=>q) fun _ _ _ q=>q
  rcases hc with z | z
  ·rw [z];exact nit b u e
  ·exact nit c _ z
theorem Inv.tok(I:Inv X pins σ H s)(t:Nat):Inv X pins σ H { s with toks:=t }:=I.un (h':=s.heap) (t':=t) Un.refl I.hok
theorem Inv.kept{t':Nat}(I:Inv X pins σ H s)(k:∀ b u,s.heap.get? b=some u->h'.get? b=some u):Inv X pins σ H { s with heap:=h',toks:=t' }:=I.un (Un.kept k) (I.hok.kept k)
theorem Inv.laid{a:Addr}{o:HO}{t':Nat}(I:Inv X pins σ H s)(k:∀ b u,s.heap.get? b=some u->h'.get? b=some u)(hp:s.heap.objs.size <= a)(new:a1k X.prog X.w (upd H a o) h' a o) :
  Inv X pins σ (upd H a o) { s with heap:=h',toks:=t' }:=I.un (Un.laid k hp (I.hok.fresh hp)) (I.hok.laid k hp new)
theorem Inv.write{x e:Addr}{o:HO}{t':Nat}(I:Inv X pins σ H s)(mu:Mut (H x))(he:e=x ∨ H e=some (.own x))(k:∀ b u,b ≠ e->s.heap.get? b=some u->h'.get? b=some u)(heo:∃ u,h'.get? e=some u)
  (new:a1k X.prog X.w (upd H x o) h' x o):Inv X pins σ (upd H x o) { s with heap:=h',toks:=t' }:=I.un (Un.write mu he k heo) (I.hok.write mu he k heo new)
theorem Inv.pins_of{pins':List (Addr × Obj)}(I:Inv X pins σ H s)(h:∀ p ∈ pins',s.heap.get? p.1=some p.2/\H p.1=none/\p.1 ≠ X.env.locals/\p.1 ∉ X.fs/\∀ v,p.2.data ≠ .cell v):Inv X pins' σ H s:=
 ⟨I.ok,I.os,I.bare,I.base,I.loc,I.cell,I.free,I.freeC,fun p hp=>(mem_append.mp hp).elim (fun z=>I.pin p (List.mem_append_left _ z)) (h p),I.hok,I.len⟩
theorem b1o{N:List Str}(hN:N.Nodup){i j:Nat}{x:Str}(a:N[i]? = some x)(b:N[j]? = some x):i=j:=by
 obtain⟨h1,e1⟩:=List.getElem?_eq_some_iff.mp a
 obtain⟨h2,e2⟩:=List.getElem?_eq_some_iff.mp b
 exact(List.getElem_inj hN).mp (e1.trans e2.symm)
theorem b3y{M:Model}{A:Around}{E:Value->Shared->Prop}{i:Nat}{x:Str}{v:V}{u:Value}{Q:Unit->Shared->Prop}(I:Inv X pins σ H s)(hN:X.N.Nodup)(hi:X.N[i]? = some x)(hx:Loc X.env.scope x)(r:RelV v u)
  (h:∀ s',Inv X pins (σ.set i (some v)) H s'->(∃ a,Heap.SameBut a s.heap s'.heap/\(a=X.env.locals ∨ X.env.cells.lookup x=some a))->Q () s') (hf:X.fn x=true ∨ X.env.scope.names.lookup x=some .local:=by first | exact .inl rfl | exact .inr rfl | assumption):wpAny M A (storeName X.env x u) Q E s:=by
 obtain⟨m,hn,hl⟩:=id I.loc
 have hcls:(X.env.scope.kind == .class || (X.env.scope.kind == .module && X.env.locals != X.env.globals))=false:=by rw [I.ok.kind];rfl
 have hiσ:i < σ.length:=by rw [I.len];exact(List.getElem?_eq_some_iff.mp hi).1
 have cne:=I.cne
 have tracked:∀ {a:Addr} {h':Heap},(∃ o,s.heap.get? a=some o/\H a=none)->Heap.SameBut a s.heap h'->HOk X.prog X.w H h':=fun{a h'} ha hs b ob e=>by
  obtain⟨_,_,hfree⟩:=ha
  refine(I.hok b ob e).stay (fun c w' hc q=>(hs.2 c ?_).trans q) (fun _ q=>q) (fun _ _ q=>q) fun _ _ _ q=>q
  rintro rfl
  rcases hc with rfl | hc
  ·rw [hfree] at e;cases e
  ·rw [hfree] at hc;cases hc
 rcases hx with hk | hk
 ·refine wpAny_storeName_local hk hn (fun h' hn' hs=>?_) hcls
  obtain⟨oL,_,_,hoL,_⟩:=id hn
  refine h _ ⟨I.ok,I.os,I.bare,⟨fun b o e n hb hx=>?_,fun b o e n hb hx=>?_,I.base.free,fun b o e hx=>?_,I.base.tups,I.base.frzs,I.base.tbls⟩,⟨_,hn',fun j y v' e1 e2 e3=>?_⟩,fun y c e=>?_,I.free,I.freeC,fun p hp=>?_,tracked ⟨oL,hoL,I.free⟩ hs,by simpa using I.len⟩ ⟨_,hs,.inl rfl⟩
  ·exact(hs.2 b (ne_of_lt (lt_of_lt_of_le (lt_size e) I.ok.above))).trans (I.base.keep b o e n hb hx)
  ·obtain⟨sl,e1⟩:=I.base.slot b o e n hb hx
   exact⟨sl,(hs.2 b (ne_of_lt (lt_of_lt_of_le (lt_size e) I.ok.above))).trans e1⟩
  ·obtain⟨o',e1⟩:=I.base.there b o e hx
   exact⟨o',(hs.2 b (ne_of_lt (lt_of_lt_of_le (lt_size e) I.ok.above))).trans e1⟩
  ·by_cases hj:j=i
   ·subst hj
    rw [hi] at e1;cases e1
    rw [getElem?_set_self hiσ] at e2
    cases e2
    exact⟨u,r,.inl ⟨hk,by simp⟩⟩
   ·rw [getElem?_set_ne (Ne.symm hj)] at e2
    obtain⟨u',r',q⟩:=hl j y v' e1 e2 e3
    refine⟨u',r',?_⟩
    rcases q with⟨k,e⟩ | ⟨k,c,e,z⟩
    ·refine .inl ⟨k,?_⟩
     have:y ≠ x:=fun e=>hj (b1o hN e1 (e ▸ hi))
     simp [this,e]
    ·exact .inr ⟨k,c,e,z.sameBut hs (cne y c e)⟩
  ·obtain⟨w',z⟩:=I.cell y c e
   exact⟨w',z.sameBut hs (cne y c e)⟩
  ·obtain⟨e,n,ne,nf,d⟩:=I.pin p hp
   exact⟨(hs.2 p.1 ne).trans e,n,ne,nf,d⟩
 ·have hfn:X.fn x=true:=by
   rcases hf with z | z
   ·exact z
   ·rw [z] at hk;cases hk
  obtain⟨c,hc⟩:=I.ok.has x (.inl hk)
  obtain⟨w',z⟩:=I.cell x c hc
  refine wpAny_storeName_cell I.ok.kind hk hc z (fun h' hc' hs=>?_)
  obtain⟨oc,hoc,hocd⟩:=id z
  refine h { s with heap:=h' } ⟨I.ok,I.os,I.bare,⟨fun b o e n hb hx=>?_,fun b o e n hb hx=>?_,I.base.free,fun b o e hx=>?_,I.base.tups,I.base.frzs,I.base.tbls⟩,⟨m,hn.sameBut hs (Ne.symm (cne x c hc)),fun j y v' e1 e2 e3=>?_⟩,fun y c' e=>?_,I.free,I.freeC,fun p hp=>?_,tracked ⟨oc,hoc,I.freeC x c hc⟩ hs,by simpa using I.len⟩ ⟨c,hs,.inr hc⟩
  ·exact(hs.2 b (ne_of_lt (lt_of_lt_of_le (lt_size e) (I.ok.cab x c hfn hc)))).trans (I.base.keep b o e n hb hx)
  ·obtain⟨sl,e1⟩:=I.base.slot b o e n hb hx
   exact⟨sl,(hs.2 b (ne_of_lt (lt_of_lt_of_le (lt_size e) (I.ok.cab x c hfn hc)))).trans e1⟩
  ·obtain⟨o',e1⟩:=I.base.there b o e hx
   exact⟨o',(hs.2 b (ne_of_lt (lt_of_lt_of_le (lt_size e) (I.ok.cab x c hfn hc)))).trans e1⟩
  ·by_cases hj:j=i
   ·subst hj
    rw [hi] at e1;cases e1
    rw [getElem?_set_self hiσ] at e2
    cases e2
    exact⟨u,r,.inr ⟨.inl hk,c,hc,hc'⟩⟩
   ·rw [getElem?_set_ne (Ne.symm hj)] at e2
    obtain⟨u',r',q⟩:=hl j y v' e1 e2 e3
    refine⟨u',r',?_⟩
    rcases q with q | ⟨k,c',e,z'⟩
    ·exact .inl q
    ·refine .inr ⟨k,c',e,z'.sameBut hs ?_⟩
     rintro rfl
     exact hj (b1o hN e1 (I.ok.inj _ _ _ e hc ▸ hi))
  ·by_cases hcc:c'=c
   ·subst hcc;exact⟨_,hc'⟩
   ·obtain⟨w2,z2⟩:=I.cell y c' e
    exact⟨w2,z2.sameBut hs hcc⟩
  ·obtain⟨e,n,ne,nf,d⟩:=I.pin p hp
   refine⟨(hs.2 p.1 ?_).trans e,n,ne,nf,d⟩
   intro q
   rw [q,hoc] at e
   have q':oc=p.2:=Option.some.inj e
   exact d w' (by rw [← q'];exact hocd)
theorem a8v{M:Model}{A:Around}{E:Value->Shared->Prop}{i:Nat}{x:Str}{v:V}{u:Value}{Q:Unit->Shared->Prop}(I:Inv X pins σ H s)(hN:X.N.Nodup)(hi:X.N[i]? = some x)(hx:Loc X.env.scope x)(r:RelV v u)
  (h:∀ s',Inv X pins (σ.set i (some v)) H s'->Q () s') (hf:X.fn x=true ∨ X.env.scope.names.lookup x=some .local:=by first | exact .inl rfl | exact .inr rfl | assumption):wpAny M A (storeName X.env x u) Q E s:=
 b3y I hN hi hx r (fun s' I' _=>h s' I') hf
theorem Inv.call'{s':Shared}{ch:List Addr}(I:Inv X pins σ H s)(ho:s'.os=s.os)(u:Un (frs X.stack) ch H H' s.heap s'.heap)(hok:HOk X.prog X.w H' s'.heap)(hg:AllBare s'.gens)
  (hch:∀ b ∈ ch,(b ∈ X.ex ∨ X.s₀.heap.objs.size <= b)/\b ≠ X.env.locals/\(∀ x c,X.env.cells.lookup x=some c->c ≠ b)/\∀ p ∈ X.pn ++ pins,p.1 ≠ b):Inv X pins σ H' s':=by
 obtain⟨h',g',d',t',o'⟩:=s'
 have e:o'=s.os:=ho
 subst e
 exact I.call (g':=g') (t':=t') (d':=d') u hok hg hch
end
abbrev XK:=Value->Option Addr->Hp->Prop
abbrev St:=List (Option V)
abbrev VK:=V->Hp->Prop
abbrev TE:=St->Hp->VK->Prop
abbrev TT:=St->Hp->(Bool->Hp->Prop)->Prop
abbrev TA:=St->Hp->(List V->Hp->Prop)->Prop
structure Ends where
 nx:St->Hp->Prop
 rt:VK
 bk:St->Hp->Prop:=fun _ _=>False
 ct:St->Hp->Prop:=fun _ _=>False
abbrev TS:=Ends->St->Hp->Prop
def EP(X:Cx)(pins:List (Addr × Obj))(σ:St)(Q:VK)(u:Value)(s':Shared):Prop:=∃ v H',Inv X pins σ H' s'/\RelV v u/\Q v H'
def TP(X:Cx)(pins:List (Addr × Obj))(σ:St)(Q:Bool->Hp->Prop)(b:Bool)(s':Shared):Prop:=∃ H',Inv X pins σ H' s'/\Q b H'
def AP(X:Cx)(pins:List (Addr × Obj))(σ:St)(Q:List V->Hp->Prop)(us:List Value)(s':Shared):Prop:=∃ vs H',Inv X pins σ H' s'/\Vals vs us/\Q vs H'
def SP(X:Cx)(pins:List (Addr × Obj))(D:Ends)(f:Flow)(s':Shared):Prop:=
 match f with
 | .next=>∃ σ' H',Inv X pins σ' H' s'/\D.nx σ' H'
 | .brk=>∃ σ' H',Inv X pins σ' H' s'/\D.bk σ' H'
 | .cont=>∃ σ' H',Inv X pins σ' H' s'/\D.ct σ' H'
 | .ret u=>∃ v σ' H',Inv X pins σ' H' s'/\RelV v u/\D.rt v H'
def PE(X:Cx)(e:Expr)(t:TE):Prop:=
 ∀ (pins:List (Addr × Obj)) (s:Shared) (σ:St) (H:Hp) (Q:VK),Inv X pins σ H s->t σ H Q->wpAny (model X.prog X.w) X.A (eval e X.env) (EP X pins σ Q) X.xe s
def PT(X:Cx)(e:Expr)(t:TT):Prop:=
 ∀ (pins:List (Addr × Obj)) (s:Shared) (σ:St) (H:Hp) (Q:Bool->Hp->Prop),Inv X pins σ H s->t σ H Q->wpAny (model X.prog X.w) X.A (isTrue e X.env (eval e X.env)) (TP X pins σ Q) X.xe s
def PW(X:Cx)(e:Expr)(t:TT):Prop:=
 ∀ (whole:Sem Value) (pins:List (Addr × Obj)) (s:Shared) (σ:St) (H:Hp) (Q:Bool->Hp->Prop),Inv X pins σ H s->t σ H Q->wpAny (model X.prog X.w) X.A (isTrue e X.env whole) (TP X pins σ Q) X.xe s
theorem PW.pt{X:Cx}{e:Expr}{t:TT}(h:PW X e t):PT X e t:=h _
def PA(X:Cx)(es:List Expr)(t:TA):Prop:=
 ∀ (pos:Pos) (pins:List (Addr × Obj)) (s:Shared) (σ:St) (H:Hp) (Q:List V->Hp->Prop),Inv X pins σ H s->t σ H Q->wpAny (model X.prog X.w) X.A (spliced (backTo pos (starEach es X.env))) (AP X pins σ Q) X.xe s
def PS(X:Cx)(st:Stmt)(t:TS):Prop:=
 ∀ (pins:List (Addr × Obj)) (s:Shared) (σ:St) (H:Hp) (D:Ends),Inv X pins σ H s->t D σ H->wpAny (model X.prog X.w) X.A (exec st X.env) (SP X pins D) X.xe s
def PSs(X:Cx)(st:List Stmt)(t:TS):Prop:=
 ∀ (pins:List (Addr × Obj)) (s:Shared) (σ:St) (H:Hp) (D:Ends),Inv X pins σ H s->t D σ H->wpAny (model X.prog X.w) X.A (execs st X.env) (SP X pins D) X.xe s
theorem thn{α:Type}{t:Sem α}{Q Q':α->Shared->Prop}{M:Model}{A:Around}{E:Value->Shared->Prop}{s:Shared}(h:wpAny M A t Q E s)(hQ:∀ a s,Q a s->Q' a s):wpAny M A t Q' E s:=wpAny_mono h hQ fun _ _ x=>x
end L2
namespace L2
open PySem PySem.Spec PyProof.Rows
section
variable{X:Cx}
def tVar(i:Nat):TE:=fun σ H Q=>∃ v,σ[i]? = some (some v)/\Q v H
def tC(v:V):TE:=fun _ H Q=>Q v H
theorem a7t{i:Nat}{x:Str}{pos:Pos}(hN:X.N[i]? = some x)(hv:Vis X.env.scope x) (hd:(x == ("__debug__" : Str))=false:=by decide) (hcd:(x == ("__classdict__" : Str))=false:=by decide):PE X (.Name x pos) (tVar i):=by
 intro pins s σ H Q I h
 obtain⟨v,e,h⟩:=h
 obtain⟨m,hn,hl⟩:=I.loc
 obtain⟨u,r,l⟩:=hl i x v hN e hv
 have fin:EP X pins σ Q u s:=⟨v,H,I,r,h⟩
 rcases l with⟨hk,hm⟩ | ⟨hk,c,hc,hcell⟩
 ·exact wpAny_Name (wpAny_loadName_local I.ok.kind hk hn hm fin) hd
 ·rcases hk with hk | hk
  ·exact wpAny_Name (wpAny_loadName_cell I.ok.kind hk hc hcell fin) hd
  ·exact wpAny_Name (wpAny_loadName_free I.ok.kind hk hc hcell fin hcd) hd
theorem a1c{i j pos}:PE X (.Constant (.int i) j pos) (tC (.int i)):=fun _ _ _ H _ I h=>wpAny_Constant_int ⟨.int i,H,I.tok _,⟨_,rfl⟩,h⟩
theorem pe_bl{b j pos}:PE X (.Constant (.bool b) j pos) (tC (.bl b)):=fun _ _ _ H _ I h=>Constant_bool ⟨.bl b,H,I,rfl,h⟩
theorem b2b{j pos}:PE X (.Constant .none j pos) (tC .non):=fun _ _ _ H _ I h=>Constant_none ⟨.non,H,I,rfl,h⟩
theorem a3m{x j pos}:PE X (.Constant (.str x) j pos) (tC (.str x)):=fun _ _ _ H _ I h=>Calls.Constant_str ⟨.str x,H,I.tok _,⟨_,rfl⟩,h⟩
def Gl(X:Cx)(x:Str):Prop:=X.env.kindOf x=some .globalImplicit
theorem a6p{E:Value->Shared->Prop}{pins:List (Addr × Obj)}{s:Shared}{σ:St}{H:Hp}{x:Str}{u:Value}{pos:Pos}{Q:Value->Shared->Prop}(I:Inv X pins σ H s)(hg:Gl X x)(hm:X.mg x=some u)(h:Q u s)
  (hd:(x == ("__debug__" : Str))=false:=by decide):wpAny (model X.prog X.w) X.A (eval (.Name x pos) X.env) Q E s:=
 Calls.Name_function_global I.ok.kind hg (Calls.loadGlobal_global (by rw [I.ok.glob];exact I.mod.glob.keeps I.bk) hm h) hd
theorem a9s{E:Value->Shared->Prop}{pins:List (Addr × Obj)}{s:Shared}{σ:St}{H:Hp}{x:Str}{u:Value}{pos:Pos}{Q:Value->Shared->Prop}(I:Inv X pins σ H s)(hg:Gl X x)(hm:X.mg x=none)(hv:bootBuiltins x=some u)(h:Q u s)
  (hn:x ≠ "__name__":=by decide) (hd:(x == ("__debug__" : Str))=false:=by decide):wpAny (model X.prog X.w) X.A (eval (.Name x pos) X.env) Q E s:=by
 obtain⟨mb,h1,h2⟩:=I.mod.blt
 exact Calls.Name_function_global I.ok.kind hg (Calls.loadGlobal_builtin (by rw [I.ok.glob];exact I.mod.glob.keeps I.bk) hm (by rw [I.ok.blt];exact h1.keeps I.bk) ((h2 x hn).trans hv) h) hd
theorem a2v{x:Str}{v:V}{u:Value}{pos:Pos}(hg:Gl X x)(hm:X.mg x=some u)(r:RelV v u) (hd:(x == ("__debug__" : Str))=false:=by decide):PE X (.Name x pos) (tC v):=
 fun _ _ _ H _ I h=>a6p I hg hm ⟨v,H,I,r,h⟩ hd
theorem d0f{x:Str}{v:V}{u:Value}{pos:Pos}(hg:Gl X x)(hm:X.mg x=none)(hv:bootBuiltins x=some u)(r:RelV v u) (hn:x ≠ "__name__":=by decide) (hd:(x == ("__debug__" : Str))=false:=by decide):PE X (.Name x pos) (tC v):=
 fun _ _ _ H _ I h=>a9s I hg hm hv ⟨v,H,I,r,h⟩ hn hd
variable{a b:Expr}{ta tb:TE}{pos:Pos}
def tB(t:TE):TT:=fun σ H Q=>t σ H fun x H1=>∃ c,x=.bl c/\Q c H1
theorem a7u{e:Expr}{t:TE}(h:PE X e t)(he:∀ whole,isTrue e X.env whole=(do let v ← whole;standAt e.pos;holding [v] (truthy v)):=by intro _;rfl):PT X e (tB t):=by
 intro pins s σ H Q I hw
 refine isTrue_plain (thn (h pins s σ H _ I hw) fun v s1 hq8=>?_) (he _)
 obtain⟨x,H1,I1,r1,q1⟩:=hq8
 obtain⟨d,rfl,q⟩:=q1
 cases r1
 exact wpAny_truthy_bool ⟨H1,I1,q⟩
variable{tA tB':TT}{rest:List Expr}
def tAnd(t u:TT):TT:=fun σ H Q=>t σ H fun c H1=>if c=true then u σ H1 Q else Q false H1
def tOr(t u:TT):TT:=fun σ H Q=>t σ H fun c H1=>if c=true then Q true H1 else u σ H1 Q
def tNot(t:TT):TT:=fun σ H Q=>t σ H fun c H1=>Q (!c) H1
theorem b8h(ha:PT X a tA):PW X (.BoolOp .And [a] pos) tA:=by
 intro wh pins s σ H Q I h
 refine isTrue_and (thn (ha pins s σ H Q I h) fun c s1 e=>?_)
 cases c with
 | true=>exact isTrue_and_nil e
 | false=>exact e
theorem c2n(ha:PT X a tA):PW X (.BoolOp .Or [a] pos) tA:=by
 intro wh pins s σ H Q I h
 refine isTrue_or (thn (ha pins s σ H Q I h) fun c s1 e=>?_)
 cases c with
 | false=>exact isTrue_or_nil e
 | true=>exact e
theorem b6b(ha:PT X a tA)(hb:PW X (.BoolOp .And (b :: rest) pos) tB'):PW X (.BoolOp .And (a :: b :: rest) pos) (tAnd tA tB'):=by
 intro wh pins s σ H Q I h
 refine isTrue_and (thn (ha pins s σ H _ I h) fun c s1 hq9=>?_)
 obtain⟨H1,I1,q1⟩:=hq9
 cases c with
 | true=>exact hb wh pins s1 σ H1 Q I1 q1
 | false=>exact⟨H1,I1,q1⟩
theorem c8y(ha:PT X a tA)(hb:PW X (.BoolOp .Or (b :: rest) pos) tB'):PW X (.BoolOp .Or (a :: b :: rest) pos) (tOr tA tB'):=by
 intro wh pins s σ H Q I h
 refine isTrue_or (thn (ha pins s σ H _ I h) fun c s1 hq9=>?_)
 obtain⟨H1,I1,q1⟩:=hq9
 cases c with
 | true=>exact⟨H1,I1,q1⟩
 | false=>exact hb wh pins s1 σ H1 Q I1 q1
theorem b2c(ha:PT X a tA):PT X (.UnaryOp .Not a pos) (tNot tA):=by
 intro pins s σ H Q I h
 exact isTrue_not (ha pins s σ H (fun c H1=>Q (!c) H1) I h)
def c8z(ta tb:TE):TE:=fun σ H Q=>ta σ H fun x H1=>∃ c,x=.bl c/\if c=true then tb σ H1 Q else Q (.bl false) H1
def tOrV(ta tb:TE):TE:=fun σ H Q=>ta σ H fun x H1=>∃ c,x=.bl c/\if c=true then Q (.bl true) H1 else tb σ H1 Q
def c9a(ta:TE):TE:=fun σ H Q=>ta σ H fun x H1=>∃ c,x=.bl c/\Q (.bl (!c)) H1
theorem b6c{op}{t:TE}(h:PE X a t):PE X (.BoolOp op [a] pos) t:=fun pins s σ H Q I hw=>BoolOp_one (h pins s σ H Q I hw)
theorem d4n(ha:PE X a ta)(hb:PE X (.BoolOp .And (b :: rest) pos) tb):PE X (.BoolOp .And (a :: b :: rest) pos) (c8z ta tb):=by
 intro pins s σ H Q I h
 refine BoolOp_and (thn (ha pins s σ H _ I h) fun v s1 hq9=>?_)
 obtain⟨x,H1,I1,r1,q1⟩:=hq9
 obtain⟨c,rfl,q1⟩:=q1
 cases r1
 refine wpAny_truthy_bool ?_
 cases c with
 | true=>exact hb pins s1 σ H1 Q I1 q1
 | false=>exact⟨.bl false,H1,I1,rfl,q1⟩
theorem b9t(ha:PE X a ta)(hb:PE X (.BoolOp .Or (b :: rest) pos) tb):PE X (.BoolOp .Or (a :: b :: rest) pos) (tOrV ta tb):=by
 intro pins s σ H Q I h
 refine BoolOp_or (thn (ha pins s σ H _ I h) fun v s1 hq9=>?_)
 obtain⟨x,H1,I1,r1,q1⟩:=hq9
 obtain⟨c,rfl,q1⟩:=q1
 cases r1
 refine wpAny_truthy_bool ?_
 cases c with
 | false=>exact hb pins s1 σ H1 Q I1 q1
 | true=>exact⟨.bl true,H1,I1,rfl,q1⟩
theorem d4o(ha:PE X a ta):PE X (.UnaryOp .Not a pos) (c9a ta):=by
 intro pins s σ H Q I h
 refine UnaryOp_ (thn (ha pins s σ H _ I h) fun v s1 hq9=>?_)
 obtain⟨x,H1,I1,r1,q1⟩:=hq9
 obtain⟨c,rfl,q1⟩:=q1
 cases r1
 exact not_of (wpAny_truthy_bool ⟨.bl (!c),H1,I1,rfl,q1⟩)
def tIf(t:TT)(ta tb:TE):TE:=fun σ H Q=>t σ H fun c H1=>if c=true then ta σ H1 Q else tb σ H1 Q
theorem b1p{c:Expr}(hc:PT X c tA)(ha:PE X a ta)(hb:PE X b tb):PE X (.IfExp c a b pos) (tIf tA ta tb):=by
 intro pins s σ H Q I h
 refine wpAny_IfExp (thn (hc pins s σ H _ I h) fun d s1 hq9=>?_)
 obtain⟨H1,I1,q1⟩:=hq9
 cases d with
 | true=>exact ha pins s1 σ H1 Q I1 q1
 | false=>exact hb pins s1 σ H1 Q I1 q1
end
end L2
namespace L2
open PySem PySem.Spec PyProof.Rows
def SqL(K:W.Frag)(H:Hp)(a:Addr)(xs:List V):Prop:=
 Rd H a (.lst xs) ∨
  ∃ (o:Obj) (its:Array Value) (n:Nat),K.lookup a=some o/\o.cls=.type "list" /\ o.dict=none/\o.data=.seq its n/\its.size <= sizeLine/\Vals xs its.toList
def SqT(K:W.Frag)(H:Hp)(a:Addr)(xs:List V):Prop:=
 Rd H a (.tup xs) ∨
  ∃ (o:Obj) (its:Array Value) (n:Nat),K.lookup a=some o/\(o.cls=.type "tuple" /\ o.dict=none)/\o.data=.seq its n/\its.size <= sizeLine/\Vals xs its.toList
noncomputable def absV:Value->Option V
 | .none=>some .non
 | .bool b=>some (.bl b)
 | .int i _=>some (.int i)
 | .str x _=>some (.str x)
 | .bytes b _=>some (.byt b)
 | .float b _=>some (.flt b)
 | .ref a=>some (.ref a)
 | .type n=>some (.ty n)
 | _=>none
theorem RelV.abs{x:V}{u:Value}(r:RelV x u):absV u=some x:=by
 cases x with
 | non=>cases r;rfl
 | bl _=>cases r;rfl
 | int _=>obtain⟨t,rfl⟩:=r;rfl
 | str _=>obtain⟨t,rfl⟩:=r;rfl
 | byt _=>obtain⟨t,rfl⟩:=r;rfl
 | flt _=>obtain⟨t,rfl⟩:=r;rfl
 | ref _=>cases r;rfl
 | ty _=>cases r;rfl
theorem RelV.inj{x y:V}{u:Value}(r:RelV x u)(q:RelV y u):x=y:=Option.some.inj (r.abs.symm.trans q.abs)
theorem Vals.inj:∀ {xs ys:List V} {us:List Value},Vals xs us->Vals ys us->xs=ys
 | _,_,_,.nil,.nil=>rfl
 | _,_,_,.cons r t,.cons r' t'=>by rw [r.inj r',Vals.inj t t']
section
variable{X:Cx}{pins:List (Addr × Obj)}{σ:St}{H:Hp}{s:Shared}{a:Addr}{xs ys:List V}
theorem SqL.of{K:W.Frag}(h:H a=some (.lst xs)):SqL K H a xs:=.inl (.inl h)
theorem SqT.of{K:W.Frag}(h:H a=some (.tup xs)):SqT K H a xs:=.inl (.inl h)
theorem Inv.list(I:Inv X pins σ H s)(h:SqL X.K H a xs):∃ its:List Value,Vals xs its/\PlainL s.heap a its.toArray/\xs.length <= sizeLine:=by
 rcases h with h | ⟨o,its,n,hk,hc,hd,hs,hz,r⟩
 ·obtain⟨z,its,n,r,e⟩:=h.ok I.hok
  exact⟨its,r,⟨_,n,e,rfl,rfl,rfl⟩,z⟩
 ·refine⟨its.toList,r,⟨o,n,I.kIn a o hk,hc,hd,by simpa using hs⟩,?_⟩
  have e:=r.length
  simp only [Array.length_toList] at e
  omega
theorem Inv.tupleP(I:Inv X pins σ H s)(h:SqT X.K H a xs):∃ its:List Value,Vals xs its/\a4u s.heap a its.toArray/\xs.length <= sizeLine:=by
 rcases h with h | ⟨o,its,n,hk,hc,hs,hz,r⟩
 ·obtain⟨z,its,r,p⟩:=h.ok I.hok
  exact⟨its,r,p,z⟩
 ·refine⟨its.toList,r,⟨o,I.kIn a o hk,hc,n,by simpa using hs⟩,?_⟩
  have e:=r.length
  simp only [Array.length_toList] at e
  omega
theorem Inv.tuple(I:Inv X pins σ H s)(h:SqT X.K H a xs):∃ its:List Value,Vals xs its/\IsTup s.heap a its.toArray/\xs.length <= sizeLine:=by obtain⟨its,r,p,z⟩:=I.tupleP h;exact⟨its,r,p.tup,z⟩
theorem Inv.list_inj(I:Inv X pins σ H s)(h:SqL X.K H a xs)(h':SqL X.K H a ys):xs=ys:=by
 obtain⟨its,r,⟨o,n,e,_,_,d⟩,_⟩:=I.list h
 obtain⟨its',r',⟨o',n',e',_,_,d'⟩,_⟩:=I.list h'
 rw [e] at e';cases e'
 rw [d] at d'
 injection d' with d1 _
 have:its=its':=by simpa using congrArg Array.toList d1
 subst this
 exact r.inj r'
theorem Inv.tuple_inj(I:Inv X pins σ H s)(h:SqT X.K H a xs)(h':SqT X.K H a ys):xs=ys:=by
 obtain⟨its,r,⟨o,e,_,n,d⟩,_⟩:=I.tuple h
 obtain⟨its',r',⟨o',e',_,n',d'⟩,_⟩:=I.tuple h'
 rw [e] at e';cases e'
 rw [d] at d'
 injection d' with d1 _
 have:its=its':=by simpa using congrArg Array.toList d1
 subst this
 exact r.inj r'
end
abbrev Cx.wish(X:Cx)(E:Value->Shared->Prop):Cx:={ X with xe:=E }
abbrev Cx.nox(X:Cx):Cx:=X.wish fun _ _=>False
theorem Cx.Ok.wish{X:Cx}(ok:X.Ok)(E:Value->Shared->Prop):(X.wish E).Ok:=
 ⟨ok.mod,ok.kind,ok.glob,ok.blt,ok.above,ok.inj,ok.has,ok.cab,ok.hd,ok.frames,ok.stk,ok.exf,ok.bs,ok.bsz,ok.noex,ok.exfs,ok.funs,ok.frf⟩
theorem Cx.Ok.unwish{X:Cx}{E:Value->Shared->Prop}(ok:(X.wish E).Ok):X.Ok:=
 ⟨ok.mod,ok.kind,ok.glob,ok.blt,ok.above,ok.inj,ok.has,ok.cab,ok.hd,ok.frames,ok.stk,ok.exf,ok.bs,ok.bsz,ok.noex,ok.exfs,ok.funs,ok.frf⟩
section
variable{X:Cx}{pins:List (Addr × Obj)}{σ:St}{H:Hp}{s:Shared}{E:Value->Shared->Prop}
theorem Inv.wish(I:Inv X pins σ H s)(E:Value->Shared->Prop):Inv (X.wish E) pins σ H s:=⟨I.ok.wish E,I.os,I.bare,I.base,I.loc,I.cell,I.free,I.freeC,I.pin,I.hok,I.len⟩
theorem Inv.unwish(I:Inv (X.wish E) pins σ H s):Inv X pins σ H s:=⟨I.ok.unwish,I.os,I.bare,I.base,I.loc,I.cell,I.free,I.freeC,I.pin,I.hok,I.len⟩
theorem SP.unwish{D:Ends}{f:Flow}{s':Shared}(h:SP (X.wish E) pins D f s'):SP X pins D f s':=by
 cases f with
 | next=>obtain⟨σ',H',I,q⟩:=h;exact⟨σ',H',I.unwish,q⟩
 | brk=>obtain⟨σ',H',I,q⟩:=h;exact⟨σ',H',I.unwish,q⟩
 | cont=>obtain⟨σ',H',I,q⟩:=h;exact⟨σ',H',I.unwish,q⟩
 | ret u=>obtain⟨v,σ',H',I,r,q⟩:=h;exact⟨v,σ',H',I.unwish,r,q⟩
theorem PSs.nox{st:List Stmt}{t:TS}(h:PSs X.nox st t):PSs X st t:=fun pins s σ H D I hw =>
 wpAny_mono (h pins s σ H D (I.wish _) hw) (fun _ _ q=>q.unwish) fun _ _ z=>False.elim z
end
section
variable{X:Cx}{st:Stmt}{rest:List Stmt}{t u:TS}{e:Expr}{te:TE}{pos:Pos}
def c9b:TS:=fun D σ H=>D.nx σ H
def tSeq(t u:TS):TS:=fun D σ H=>t { D with nx:=u D } σ H
theorem a5f:PSs X [] c9b:=fun _ _ σ H _ I h=>wpAny_execs_nil ⟨σ,H,I,h⟩
theorem a0t(h1:PS X st t)(h2:PSs X rest u):PSs X (st :: rest) (tSeq t u):=by
 intro pins s σ H D I h
 refine wpAny_execs_cons (thn (h1 pins s σ H { D with nx:=u D } I h) fun f s1 q=>?_)
 cases f with
 | next =>
  obtain⟨σ',H',I',q⟩:=q
  exact h2 pins s1 σ' H' D I' q
 | ret v=>exact q
 | brk=>exact q
 | cont=>exact q
theorem a1i(h1:PS X st t):PSs X [st] t:=by
 intro pins s σ H D I h
 refine wpAny_execs_cons (thn (h1 pins s σ H D I h) fun f s1 q=>?_)
 cases f with
 | next=>exact wpAny_execs_nil q
 | ret v=>exact q
 | brk=>exact q
 | cont=>exact q
theorem Inv.quiet{pins:List (Addr × Obj)}{σ:St}{H:Hp}{s:Shared}(I:Inv X pins σ H s):interactive X.env=false:=by simp [interactive,I.ok.kind]
def c9c(te:TE):TS:=fun D σ H=>te σ H fun _ H1=>D.nx σ H1
theorem b8i(he:PE X e te)(hs:swapsWith e none pos.line X.env=pure false:=by rfl):PS X (.Expr e pos) (c9c te):=by
 intro pins s σ H D I h
 exact wpAny_Expr_any (thn (he pins s σ H _ I h) fun v s1 hq8=>by obtain⟨x,H1,I1,r1,q1⟩:=hq8;exact⟨σ,H1,I1,q1⟩) I.quiet hs
def tRet(te:TE):TS:=fun D σ H=>te σ H D.rt
theorem a3n(he:PE X e te):PS X (.Return (some e) pos) (tRet te):=by
 intro pins s σ H D I h
 exact wpAny_Return_some (thn (he pins s σ H _ I h) fun v s1 hq8=>by obtain⟨x,H1,I1,r1,q1⟩:=hq8;exact⟨x,σ,H1,I1,r1,q1⟩)
def tIfS(c:TT)(t u:TS):TS:=fun D σ H=>c σ H fun b H1=>if b=true then t D σ H1 else u D σ H1
theorem a8w{c:Expr}{a b:List Stmt}{tc:TT}(hc:PT X c tc)(ha:PSs X a t)(hb:PSs X b u):PS X (.If c a b pos) (tIfS tc t u):=by
 intro pins s σ H D I h
 refine wpAny_If (thn (hc pins s σ H _ I h) fun d s1 hq9=>?_)
 obtain⟨H1,I1,q1⟩:=hq9
 cases d with
 | true=>exact ha pins s1 σ H1 D I1 q1
 | false=>exact hb pins s1 σ H1 D I1 q1
end
abbrev TG:=V->St->Hp->(St->Hp->Prop)->Prop
abbrev TGs:=List V->St->Hp->(St->Hp->Prop)->Prop
def PG(X:Cx)(target:Expr)(t:TG):Prop:=
 ∀ (pins:List (Addr × Obj)) (s:Shared) (σ:St) (H:Hp) (v:V) (u:Value) (Q:St->Hp->Prop),Inv X pins σ H s->RelV v u->t v σ H Q ->
  wpAny (model X.prog X.w) X.A (assign target X.env u) (fun _ s'=>∃ σ' H',Inv X pins σ' H' s'/\Q σ' H') X.xe s
def PGs(X:Cx)(ts:List Expr)(t:TGs):Prop:=
 ∀ (pins:List (Addr × Obj)) (s:Shared) (σ:St) (H:Hp) (vs:List V) (us:List Value) (Q:St->Hp->Prop),Inv X pins σ H s->Vals vs us->t vs σ H Q ->
  wpAny (model X.prog X.w) X.A (assignInOrder ((assignEach ts X.env).map (·.2)) us) (fun _ s'=>∃ σ' H',Inv X pins σ' H' s'/\Q σ' H') X.xe s
abbrev TSet:=V->V->V->Hp->(Hp->Prop)->Prop
def PSet(X:Cx)(t:TSet):Prop:=
 ∀ (pins:List (Addr × Obj)) (s:Shared) (σ:St) (H:Hp) (o i v:V) (ov iv u:Value) (Q:Hp->Prop),Inv X pins σ H s->RelV o ov->RelV i iv->RelV v u->t o i v H Q ->
  wpAny (model X.prog X.w) X.A (setItem ov iv u) (fun _ s'=>∃ H',Inv X pins σ H' s'/\Q H') X.xe s
section
variable{X:Cx}{pos:Pos}
noncomputable def a4v(i:Nat):TG:=fun v σ H Q=>Q (σ.set i (some v)) H
theorem a7v{i:Nat}{x:Str}(hN:X.N.Nodup)(hi:X.N[i]? = some x)(hx:Loc X.env.scope x)(hf:X.fn x=true ∨ X.env.scope.names.lookup x=some .local:=by first | exact .inl rfl | exact .inr rfl | assumption):PG X (.Name x pos) (a4v i):=by
 intro pins s σ H v u Q I r h
 exact wpAny_assign_Name (a8v I hN hi hx r (fun s' I'=>⟨_,H,I',h⟩) hf)
noncomputable def gNil:TGs:=fun vs σ H Q=>vs=[]/\Q σ H
noncomputable def b9u(t:TG)(u:TGs):TGs:=fun vs σ H Q=>∃ v r,vs=v :: r/\t v σ H fun σ' H'=>u r σ' H' Q
theorem d0g:PGs X [] gNil:=by
 intro pins s σ H vs us Q I r h
 obtain⟨e,h⟩:=h
 subst e
 cases r
 exact assignInOrder_nil ⟨σ,H,I,h⟩
theorem b6d{e:Expr}{es:List Expr}{t:TG}{u:TGs}(h1:PG X e t)(h2:PGs X es u)
  (hs:(assignEach (e :: es) X.env).map (·.2)=assign e X.env :: (assignEach es X.env).map (·.2):=by rfl):PGs X (e :: es) (b9u t u):=by
 intro pins s σ H vs us Q I r h
 obtain⟨v,vr,e1,h⟩:=h
 subst e1
 cases r with
 | cons r rr =>
  rw [hs]
  refine assignInOrder_cons (thn (h1 pins s σ H _ _ _ I r h) fun _ s1 hq9=>?_)
  obtain⟨σ1,H1,I1,q1⟩:=hq9
  exact h2 pins s1 σ1 H1 _ _ Q I1 rr q1
noncomputable def gTup(K:W.Frag)(n:Nat)(t:TGs):TG:=fun v σ H Q=>∃ a xs,v=.ref a/\SqT K H a xs/\xs.length=n/\t xs σ H Q
theorem d4p{es:List Expr}{k:Nat}{t:TGs}{n:Nat}(hc:X.calm=true)(h:PGs X es t)
  (hn:(assignEach es X.env).length=n:=by rfl) (hst:(assignEach es X.env).findIdx? (·.1)=none:=by rfl):PG X (.Tuple es k pos) (gTup X.K n t):=by
 intro pins s σ H v u Q I r hw
 obtain⟨a,xs,e1,hq,hl,hw⟩:=hw
 subst e1
 cases r
 obtain⟨its,rv,ht,hz⟩:=I.tuple hq
 refine assign_Tuple_tuple (I.ok.hd hc) ht (by simp [hn,← hl,rv.length]) hst fun h' hx=>?_
 have I1:Inv X pins σ H { s with heap:=h' }:=I.kept (t':=s.toks) fun b o e=>hx b o (ne_of_lt (lt_size e)) e
 exact h pins _ σ H xs _ Q I1 (by simpa using rv) hw
def gSub(to ti:TE)(t:TSet):TG:=fun v σ H Q=>to σ H fun o H1=>ti σ H1 fun i H2=>t o i v H2 fun H3=>Q σ H3
theorem c2o{o i:Expr}{to ti:TE}{t:TSet}(ho:PE X o to)(hi:PE X i ti)(hs:PSet X t)
  (ha:∀ v,assign (.Subscript o i pos) X.env v=(do
   let ov ← holding [v] (eval o X.env)
   let iv ← holding [v,ov] (eval i X.env)
   standAt pos
   holding [v,ov,iv] (setItem ov iv v)
   release [v,ov,iv] []):=by intro _;rfl):PG X (.Subscript o i pos) (gSub to ti t):=by
 intro pins s σ H v u Q I r h
 rw [ha]
 refine wpAny_bind (wpAny_holding (thn (ho pins s σ H _ I h) fun ov s1 hq9=>?_))
 obtain⟨x,H1,I1,r1,q1⟩:=hq9
 refine wpAny_bind (wpAny_holding (thn (hi pins s1 σ H1 _ I1 q1) fun iv s2 hq9=>?_))
 obtain⟨y,H2,I2,r2,q2⟩:=hq9
 refine wpAny_bind (wpAny_standAt (wpAny_bind (wpAny_holding (thn (hs pins s2 σ H2 x y v ov iv u _ I2 r1 r2 r q2) fun _ s3 hq9=>?_))))
 obtain⟨H3,I3,q3⟩:=hq9
 exact wpAny_release ⟨σ,H3,I3,q3⟩
def tAsg(te:TE)(g:TG):TS:=fun D σ H=>te σ H fun x H1=>g x σ H1 D.nx
theorem c2p{tg e:Expr}{te:TE}{g:TG}(he:PE X e te)(hg:PG X tg g)(hs:swapsWithSole [tg] e pos.line X.env=pure false:=by rfl)(hw:swappedStores [tg] e X.env=pure none:=by rfl)
  (h1:(assignEach [tg] X.env).map (·.2)=[assign tg X.env]:=by rfl):PS X (.Assign [tg] e pos) (tAsg te g):=by
 intro pins s σ H D I h
 refine wpAny_Assign_stores (thn (he pins s σ H _ I h) fun v s1 hq8=>?_) hs hw
 obtain⟨x,H1,I1,r1,q1⟩:=hq8
 rw [h1]
 exact thn (hg pins s1 σ H1 x v _ I1 r1 q1) fun _ s2 q=>q
theorem a2g{i:Nat}{x:Str}{e:Expr}{te:TE}{pos':Pos}(hN:X.N.Nodup)(hi:X.N[i]? = some x)(hx:Loc X.env.scope x)(he:PE X e te)(hs:swapsWith e (some (.Name x pos')) pos.line X.env=pure false:=by rfl)(hf:X.fn x=true ∨ X.env.scope.names.lookup x=some .local:=by first | exact .inl rfl | exact .inr rfl | assumption) :
  PS X (.Assign [.Name x pos'] e pos) (tAsg te (a4v i)):=by
 intro pins s σ H D I h
 refine wpAny_Assign_Name (thn (he pins s σ H _ I h) fun v s1 hq8=>?_) hs
 obtain⟨y,H1,I1,r1,q1⟩:=hq8
 exact a8v I1 hN hi hx r1 (fun s2 I2=>⟨_,H1,I2,q1⟩) hf
end
section
variable{X:Cx}{pos:Pos}
end
structure It where
 go:Nat->Hp->Prop
 yld:Nat->Hp->V->Hp->Prop
 stop:Nat->Hp->Prop
def FpOk(X:Cx)(pins:List (Addr × Obj))(H:Hp)(b:Addr):Prop:=
 H b=none/\b ≠ X.env.locals/\b ∉ X.fs/\(b ∈ X.ex ∨ X.s₀.heap.objs.size <= b)/\(∀ x c,X.env.cells.lookup x=some c->c ≠ b)/\∀ p ∈ X.pn ++ pins,p.1 ≠ b
theorem Inv.fpOk{X:Cx}{pins:List (Addr × Obj)}{σ:St}{H H':Hp}{s:Shared}{b:Addr}(I:Inv X pins σ H s)(hb:s.heap.objs.size <= b)(hn:H' b=none):FpOk X pins H' b:=by
 refine⟨hn,ne_of_gt (lt_of_lt_of_le I.lt hb),I.nofs hb,.inr (le_trans I.sz hb),fun x c e z=>?_,fun p hp z=>?_⟩
 ·obtain⟨v,q⟩:=I.cell x c e
  exact absurd (lt_of_lt_of_le q.lt (by rw [z];exact hb)) (lt_irrefl _)
 ·exact absurd (lt_of_lt_of_le (lt_size (I.pin p hp).1) (by rw [z];exact hb)) (lt_irrefl _)
structure Turn(P:Program)(w:World)(K:W.Frag)(tg:Expr)(J:It)(fp:List Addr)(it:Addr)(tn:Nat->Heap->Prop):Prop where
 mem:it ∈ fp
 obj:∀ i h,tn i h->∀ b ∈ fp,∃ o,h.get? b=some o/\∀ v,o.data ≠ .cell v
 keep:∀ i h h',tn i h->(∀ b ∈ fp,∀ o,h.get? b=some o->h'.get? b=some o)->tn i h'
 item:∀ (X:Cx),X.prog=P->X.w=w->X.K=K->X.calm=true->∀ (i:Nat) (pins:List (Addr × Obj)) (s:Shared) (σ:St) (H:Hp) (E:Value->Shared->Prop),Inv X pins σ H s->(∀ b ∈ fp,FpOk X pins H b)->tn i s.heap->J.go i H ->
  wpAny (model P w) X.A (pyNext (.ref it)) (fun r s1=>∃ u,r=some u /\
   wpAny (model P w) X.A (letOwnedTupleGo tg (.ref it) u) (fun _ s2=>∃ x H',Inv X pins σ H' s2/\RelV x u/\J.yld i H x H'/\tn (i + 1) s2.heap/\∀ b ∈ fp,H' b=none) E s1) E s
 done:∀ (X:Cx),X.prog=P->X.w=w->X.K=K->X.calm=true->∀ (i:Nat) (pins:List (Addr × Obj)) (s:Shared) (σ:St) (H:Hp) (E:Value->Shared->Prop),Inv X pins σ H s->(∀ b ∈ fp,FpOk X pins H b)->tn i s.heap->J.stop i H ->
  wpAny (model P w) X.A (pyNext (.ref it)) (fun r s1=>r=none/\Inv X pins σ H s1) E s
 self:∀ (A:Around) (i:Nat) (s:Shared) (Q:Value->Shared->Prop) (E:Value->Shared->Prop),tn i s.heap->Q (.ref it) s->wpAny (model P w) A (pyIter (.ref it)) Q E s
abbrev TI:=St->Hp->(It->Hp->Prop)->Prop
def PIE(X:Cx)(pins:List (Addr × Obj))(σ:St)(tg:Expr)(R:It->Hp->Prop)(itv:Value)(s2:Shared):Prop:=
 ∃ (it:Addr) (fp:List Addr) (tn:Nat->Heap->Prop) (J:It) (H':Hp),itv=.ref it/\Inv X pins σ H' s2/\Turn X.prog X.w X.K tg J fp it tn/\tn 0 s2.heap/\(∀ b ∈ fp,FpOk X pins H' b)/\R J H'
def PI(X:Cx)(tg iter:Expr)(wi:TI):Prop:=
 ∀ (pins:List (Addr × Obj)) (s:Shared) (σ:St) (H:Hp) (R:It->Hp->Prop),Inv X pins σ H s->wi σ H R ->
  wpAny (model X.prog X.w) X.A (eval iter X.env) (fun v s1=>wpAny (model X.prog X.w) X.A (pyIter v) (PIE X pins σ tg R) X.xe s1) X.xe s
theorem b2d{M:Model}{A:Around}{E:Value->Shared->Prop}{s:Shared}{tg:Expr}{it:Addr}{u:Value}{o:Obj}{n:String}{vs:Array Value}{Q:Unit->Shared->Prop}(ho:s.heap.get? it=some o)(hc:o.cls=.type n)(hd:o.data=.fields vs)
  (hn:["enumerate","zip","dict_itemiterator","dict_reverseitemiterator","odict_iterator","itertools.zip_longest","itertools.pairwise"].contains n=false) (hQ:Q () s):wpAny M A (letOwnedTupleGo tg (.ref it) u) Q E s:=by
 unfold letOwnedTupleGo
 cases tg<;>first
  | exact wpAny_pure hQ
  | (cases u<;>first
    | exact wpAny_pure hQ
    | (
      refine wpAny_bind (wpAny_load ho ?_)
      rw [hc,hd]
      show wpAny M A (if (["enumerate","zip","dict_itemiterator","dict_reverseitemiterator","odict_iterator","itertools.zip_longest","itertools.pairwise"].contains n && vs[0]? == some (rawInt _))=true then _ else _) Q E s
      rw [if_neg (by intro h;rw [hn,Bool.false_and] at h;cases h)]
      exact wpAny_pure hQ))
noncomputable def Itl(K:W.Frag)(a:Addr):It:=
 ⟨fun i H=>∃ xs x,SqL K H a xs/\xs[i]? = some x,fun i H x H'=>H'=H/\∀ xs,SqL K H a xs->xs[i]? = some x,fun i H=>∃ xs,SqL K H a xs/\xs.length <= i⟩
noncomputable def Itt(K:W.Frag)(a:Addr):It:=
 ⟨fun i H=>∃ xs x,SqT K H a xs/\xs[i]? = some x,fun i H x H'=>H'=H/\∀ xs,SqT K H a xs->xs[i]? = some x,fun i H=>∃ xs,SqT K H a xs/\xs.length <= i⟩
noncomputable def Itr(lo:Int)(n:Nat):It:=⟨fun i _=>i < n,fun i H x H'=>H'=H/\x=.int (lo + i),fun i _=>n <= i⟩
theorem b3z{P:Program}{w:World}{K:W.Frag}{tg:Expr}(a it:Addr):Turn P w K tg (Itl K a) [it] it (fun i h=>h.IsListIter it a i) where
 mem:=by simp
 obj:=fun i h st b hb=>by
  have e:b=it:=by simpa using hb
  subst e
  obtain⟨o,e,c,d⟩:=st
  exact⟨o,e,fun v z=>by rw [d] at z;cases z⟩
 keep:=fun i h h' st k=>st.at fun o e=>k it (by simp) o e
 item:=by
  intro X hP hw hK hc i pins s σ H E I hf st hg
  subst hP hw hK
  obtain⟨xs,x,hq,hx⟩:=hg
  obtain⟨its,rv,p,hz⟩:=I.list hq
  obtain⟨u,hu,ru⟩:=rv.get hx
  obtain⟨f0,f1,f2,f3,f4,f5⟩:=hf it (by simp)
  refine wpAny_pyNext_list_item st p.isList (x:=u) (by simpa using hu) fun h' st' sb=>?_
  have I1:Inv X pins σ H { s with heap:=h' }:=I.turned (t':=s.toks) (fun b o hb e=>(sb.2 b hb).trans e) f0 f1 f3 f4 f5
  obtain⟨o,e,c,d⟩:=id st'
  exact⟨u,rfl,b2d (s:={ s with heap:=h' }) e c d (by decide) ⟨x,H,I1,ru,⟨rfl,fun ys hy=>by rw [I.list_inj hy hq];exact hx⟩,st',fun b hb=>(hf b hb).1⟩⟩
 done:=by
  intro X hP hw hK hc i pins s σ H E I hf st hg
  subst hP hw hK
  obtain⟨xs,hq,hx⟩:=hg
  obtain⟨its,rv,p,hz⟩:=I.list hq
  obtain⟨f0,f1,f2,f3,f4,f5⟩:=hf it (by simp)
  have hl:=rv.length
  exact wpAny_pyNext_list_end (I.ok.hd hc) st p.isList (by simp;omega) fun h' eb=>⟨rfl,I.turned (t':=s.toks) (fun b o hb e=>eb b o hb e) f0 f1 f3 f4 f5⟩
 self:=fun _ _ _ _ _ st h=>wpAny_pyIter_listiter st h
theorem b9v{P:Program}{w:World}{K:W.Frag}{tg:Expr}(a it:Addr):Turn P w K tg (Itt K a) [it] it (fun i h=>h.IsTupleIter it a i) where
 mem:=by simp
 obj:=fun i h st b hb=>by
  have e:b=it:=by simpa using hb
  subst e
  obtain⟨o,e,c,d⟩:=st
  exact⟨o,e,fun v z=>by rw [d] at z;cases z⟩
 keep:=fun i h h' st k=>st.at fun o e=>k it (by simp) o e
 item:=by
  intro X hP hw hK hc i pins s σ H E I hf st hg
  subst hP hw hK
  obtain⟨xs,x,hq,hx⟩:=hg
  obtain⟨its,rv,p,hz⟩:=I.tuple hq
  obtain⟨u,hu,ru⟩:=rv.get hx
  obtain⟨f0,f1,f2,f3,f4,f5⟩:=hf it (by simp)
  refine wpAny_pyNext_tuple_item st (show s.heap.IsTuple a its.toArray from p) (x:=u) (by simpa using hu) fun h' st' sb=>?_
  have I1:Inv X pins σ H { s with heap:=h' }:=I.turned (t':=s.toks) (fun b o hb e=>(sb.2 b hb).trans e) f0 f1 f3 f4 f5
  obtain⟨o,e,c,d⟩:=id st'
  exact⟨u,rfl,b2d (s:={ s with heap:=h' }) e c d (by decide) ⟨x,H,I1,ru,⟨rfl,fun ys hy=>by rw [I.tuple_inj hy hq];exact hx⟩,st',fun b hb=>(hf b hb).1⟩⟩
 done:=by
  intro X hP hw hK hc i pins s σ H E I hf st hg
  subst hP hw hK
  obtain⟨xs,hq,hx⟩:=hg
  obtain⟨its,rv,p,hz⟩:=I.tuple hq
  obtain⟨f0,f1,f2,f3,f4,f5⟩:=hf it (by simp)
  have hl:=rv.length
  exact wpAny_pyNext_tuple_end (I.ok.hd hc) st (show s.heap.IsTuple a its.toArray from p) (by simp;omega) fun h' eb=>⟨rfl,I.turned (t':=s.toks) (fun b o hb e=>eb b o hb e) f0 f1 f3 f4 f5⟩
 self:=fun _ _ _ _ _ st h=>wpAny_pyIter_tupleiter st h
theorem b9w{P:Program}{w:World}{K:W.Frag}{tg:Expr}(it:Addr)(lo:Int)(n:Nat):Turn P w K tg (Itr lo n) [it] it (fun i h=>IsRangeIter h it (lo + (i:Nat) * 1) ((n:Int) - (i:Nat)) 1) where
 mem:=by simp
 obj:=fun i h st b hb=>by
  have e:b=it:=by simpa using hb
  subst e
  exact⟨_,st,fun v z=>by
   have z':Data.fields _=Data.cell v:=z
   cases z'⟩
 keep:=fun i h h' st k=>k it (by simp) _ st
 item:=by
  intro X hP hw hK hc i pins s σ H E I hf st hg
  subst hP hw hK
  obtain⟨f0,f1,f2,f3,f4,f5⟩:=hf it (by simp)
  have W:=Walks.range (prog:=X.prog) (w:=X.w) (I.ok.hd hc) it lo 1 n
  refine W.item i s _ _ hg st fun v h' tk hv st' kk=>?_
  obtain⟨t,rfl⟩:=hv
  have I1:Inv X pins σ H { s with heap:=h',toks:=tk }:=I.turned (fun b o hb e=>kk b o (by simpa using hb) e) f0 f1 f3 f4 f5
  refine⟨_,rfl,b2d (s:={ s with heap:=h',toks:=tk }) (n:="range_iterator") st' rfl rfl (by decide) ⟨.int (lo + i),H,I1,⟨t,?_⟩,⟨rfl,rfl⟩,st',fun b hb=>(hf b hb).1⟩⟩
  rw [Int.mul_one]
 done:=by
  intro X hP hw hK hc i pins s σ H E I hf st hg
  subst hP hw hK
  obtain⟨f0,f1,f2,f3,f4,f5⟩:=hf it (by simp)
  exact wpAny_pyNext_range_end (I.ok.hd hc) st (by have:n <= i:=hg;omega) fun h' eb=>⟨rfl,I.turned (t':=s.toks) (fun b o hb e=>eb b o hb e) f0 f1 f3 f4 f5⟩
 self:=fun _ _ _ _ _ st h=>wpAny_pyIter_rangeiter st h
end L2
namespace L2
open PySem PySem.Spec PyProof.Rows
section
variable{X:Cx}{tg:Expr}
def iList(K:W.Frag)(tl:TE):TI:=fun σ H R=>tl σ H fun x H1=>∃ a,x=.ref a/\(∃ xs,SqL K H1 a xs)/\R (Itl K a) H1
theorem b8j{l:Expr}{tl:TE}(hl:PE X l tl):PI X tg l (iList X.K tl):=by
 intro pins s σ H R I h
 refine thn (hl pins s σ H _ I h) fun v s1 hq9=>?_
 obtain⟨x,H1,I1,r1,q1⟩:=hq9
 obtain⟨a,e,⟨xs,hq⟩,q⟩:=q1
 subst e
 cases r1
 obtain⟨its,rv,p,hz⟩:=I1.list hq
 refine wpAny_pyIter_list p.isList ?_
 refine⟨s1.heap.objs.size,[s1.heap.objs.size],_,_,H1,rfl,I1.kept (t':=s1.toks) fun b o e=>get?_push_of_some _ e,b3z a _,⟨_,get?_push_size _ rfl,rfl,rfl⟩,fun b hb=>?_,q⟩
 have e:b=s1.heap.objs.size:=by simpa using hb
 subst e
 exact I1.fpOk (le_refl _) (I1.hok.fresh (le_refl _))
theorem c5y{pins:List (Addr × Obj)}{σ:St}{H:Hp}{s:Shared}{R:It->Hp->Prop}{E:Value->Shared->Prop}{lo hi:Int}{t u v:Tok}{tk:Nat}(I:Inv X pins σ H s)(h1:-(2 ^ 62) <= lo)(h2:lo < 2 ^ 62)(h3:-(2 ^ 62) <= hi)(h4:hi < 2 ^ 62)
  (q:R (Itr lo (hi - lo).toNat) H):wpAny (model X.prog X.w) X.A (pyIter (.ref s.heap.objs.size)) (PIE X pins σ tg R) E { s with heap:=s.heap.push { cls:=.type "range",data:=.fields #[.int lo t,.int hi u,.int 1 v] },toks:=tk }:=by
 refine wpAny_pyIter_range (IsRange.new ..) (small_one h1 h2 h3 h4) ?_
 have I1:Inv X pins σ H { s with heap:=s.heap.push { cls:=.type "range",data:=.fields #[.int lo t,.int hi u,.int 1 v] },toks:=tk }:=I.kept fun b o e=>get?_push_of_some _ e
 refine⟨(s.heap.push { cls:=.type "range",data:=.fields #[.int lo t,.int hi u,.int 1 v] }).objs.size,[(s.heap.push { cls:=.type "range",data:=.fields #[.int lo t,.int hi u,.int 1 v] }).objs.size],_,_,H,rfl,
  I1.kept (t':=tk) fun b o e=>get?_push_of_some _ e,b9w _ lo (hi - lo).toNat,?_,fun b hb=>?_,q⟩
 ·have e1:lo + ((0:Nat):Int) * 1=lo:=by simp
  have e2:(((hi - lo).toNat:Nat):Int) - ((0:Nat):Int)=Builtin.Range.rangeSize lo hi 1:=by rw [rangeSize_one];split<;>omega
  show IsRangeIter _ _ (lo + ((0:Nat):Int) * 1) ((((hi - lo).toNat:Nat):Int) - ((0:Nat):Int)) 1
  rw [e1,e2]
  exact get?_push_size _ rfl
 ·have e:b=(s.heap.push { cls:=.type "range",data:=.fields #[.int lo t,.int hi u,.int 1 v] }).objs.size:=by simpa using hb
  subst e
  exact I1.fpOk (le_refl _) (I1.hok.fresh (le_refl _))
def c9d(ta:TA):TI:=fun σ H R=>ta σ H fun vs H1=>∃ j:Int,vs=[.int j] /\ -(2 ^ 62) <= j/\j < 2 ^ 62/\R (Itr 0 j.toNat) H1
theorem c2q{a:Expr}{ta:TA}{p pos:Pos} (hg:Gl X "range") (hm:X.mg "range" = none) (ha:PA X [a] ta) (hs:starEach [a] X.env=[(false,eval a X.env)]:=by rfl):PI X tg (.Call (.Name "range" p) [a] [] pos) (c9d ta):=by
 intro pins s σ H R I h
 refine Call_ (a9s I hg hm boot_range (PyProof.Rows.callWith_type1 (thn (ha pos pins s σ H _ I h) fun us s1 hq8=>?_) hs rfl))
 obtain⟨vs,H1,I1,r1,q1⟩:=hq8
 obtain⟨j,e,q1,q2,q⟩:=q1
 subst e
 cases r1 with
 | cons r rr =>
  cases rr
  obtain⟨t,rfl⟩:=r
  exact call_range_1 (c5y I1 (by omega) (by omega) q1 q2 (by simpa using q))
def tFor(wi:TI)(g:TG)(tb:TS):TS:=fun D σ H=>wi σ H fun J H1=>∃ W:Nat->Nat->St->Hp->Prop,(∃ m,W 0 m σ H1)/\∀ i m σ H,W i m σ H ->
 (J.stop i H/\D.nx σ H) ∨ (J.go i H/\∃ N:St->Hp->Prop,(∀ σ' H',N σ' H'->∃ m',m' < m/\W (i + 1) m' σ' H')/\∀ x H',J.yld i H x H'->g x σ H' fun σ2 H2=>tb { D with nx:=N,ct:=N,bk:=D.nx } σ2 H2)
noncomputable def a7w(fp:List Addr)(h:Heap):List (Addr × Obj):=fp.filterMap fun b=>(h.get? b).map fun o=>(b,o)
theorem a3v{fp:List Addr}{h:Heap}{b:Addr}{o:Obj}(hb:b ∈ fp)(e:h.get? b=some o):(b,o) ∈ a7w fp h:=mem_filterMap.mpr ⟨b,hb,by rw [e];rfl⟩
theorem c2r{fp:List Addr}{h:Heap}{p:Addr × Obj}(hp:p ∈ a7w fp h):p.1 ∈ fp/\h.get? p.1=some p.2:=by
 obtain⟨b,hb,e⟩:=mem_filterMap.mp hp
 cases q:h.get? b with
 | none=>rw [q] at e;cases e
 | some o =>
  rw [q] at e
  have e':(b,o)=p:=Option.some.inj e
  subst e'
  exact⟨hb,q⟩
theorem Inv.pinned{pins:List (Addr × Obj)}{σ:St}{H:Hp}{s:Shared}{fp:List Addr}(I:Inv X pins σ H s)(hf:∀ b ∈ fp,FpOk X pins H b)(ho:∀ b ∈ fp,∃ o,s.heap.get? b=some o/\∀ v,o.data ≠ .cell v):Inv X (pins ++ a7w fp s.heap) σ H s:=
 I.pins_of fun p hp=>(mem_append.mp hp).elim (fun z=>I.pin p (mem_append_right _ z)) fun z=>by
  obtain⟨hb,e⟩:=c2r z
  obtain⟨f0,f1,f2,_⟩:=hf p.1 hb
  obtain⟨o,e',d⟩:=ho p.1 hb
  rw [e] at e';cases e'
  exact⟨e,f0,f1,f2,d⟩
theorem Inv.unpinned{pins pl:List (Addr × Obj)}{σ:St}{H:Hp}{s:Shared}(I:Inv X (pins ++ pl) σ H s):Inv X pins σ H s:=I.pins_of fun p hp=>I.pin p (mem_append_right _ (List.mem_append_left _ hp))
theorem d4q{iter:Expr}{body:List Stmt}{wi:TI}{g:TG}{tb:TS}{pos:Pos}(hp:PassesOwn (model X.prog X.w) X.A X.env X.xe)(hc:X.calm=true)(hi:PI X tg iter wi)(hg:PG X tg g)(hb:PSs X body tb)
  (hs:∀ x,foldedSetIterable iter X.env x=pure x:=by intro _;rfl):PS X (.For tg iter body [] pos) (tFor wi g tb):=by
 intro pins s σ H D I h
 refine wpAny_For (thn (hi pins s σ H _ I h) fun v s1 h1=>thn h1 fun itv s2 h2=>?_) hs
 obtain⟨it,fp,tn,J,H2,e,I2,T,st2,f2,W,⟨m0,w0⟩,turn⟩:=h2
 subst e
 -- what stays true of the iterator's objects through the loop
 have stat:∀ {H':Hp},(∀ b ∈ fp,H' b=none)->∀ b ∈ fp,FpOk X pins H' b:=fun hn b hb=>⟨hn b hb,(f2 b hb).2⟩
 refine codeAny_forLoop_any (fun n s'=>∃ i σ' H',Inv X pins σ' H' s'/\tn i s'.heap/\(∀ b ∈ fp,H' b=none)/\W i n σ' H') ?_ m0 ⟨0,σ,H2,I2,st2,fun b hb=>(f2 b hb).1,w0⟩
 rintro n s3 ⟨i,σ3,H3,I3,st3,fr3,w3⟩
 rcases turn i n σ3 H3 w3 with⟨stop,qn⟩ | ⟨go,N,hN,step⟩
 ·refine wpAny_passesOwn hp (thn (T.done X rfl rfl rfl hc i pins s3 σ3 H3 X.xe I3 (stat fr3) st3 stop) fun r s4 hq9=>?_)
  obtain⟨hr,I4⟩:=hq9
  subst hr
  exact wpAny_execs_nil ⟨σ3,H3,I4,qn⟩
 ·refine wpAny_passesOwn hp (thn (T.item X rfl rfl rfl hc i pins s3 σ3 H3 X.xe I3 (stat fr3) st3 go) fun r s4 hq9=>?_)
  obtain⟨u,hr,h4⟩:=hq9
  subst hr
  refine wpAny_passesOwn hp (thn h4 fun _ s5 hq9=>?_)
  obtain⟨x,H5,I5,r5,y5,st5,fr5⟩:=hq9
  have I5':=I5.pinned (stat fr5) (T.obj _ _ st5)
  refine wpAny_passesOwn hp (thn (hg _ s5 σ3 H5 x u _ I5' r5 (step x H5 y5)) fun _ s6 hq9=>?_)
  obtain⟨σ6,H6,I6,q6⟩:=hq9
  refine wpAny_passesOwn hp (thn (hb _ s6 σ6 H6 _ I6 q6) fun f s7 q7=>?_)
  have again:∀ {σ7:St} {H7:Hp},Inv X (pins ++ a7w fp s5.heap) σ7 H7 s7->N σ7 H7->∃ m,m < n/\∃ i σ' H',Inv X pins σ' H' s7/\tn i s7.heap/\(∀ b ∈ fp,H' b=none)/\W i m σ' H':=fun{σ7 H7} I7 n7=>by
   obtain⟨m',hm,w7⟩:=hN σ7 H7 n7
   refine⟨m',hm,i + 1,σ7,H7,I7.unpinned,T.keep _ _ _ st5 fun b hb o e=>(I7.pin (b,o) (mem_append_right _ (mem_append_right _ (a3v hb e)))).1,fun b hb=>?_,w7⟩
   obtain⟨o,e,d⟩:=T.obj _ _ st5 b hb
   exact(I7.pin (b,o) (mem_append_right _ (mem_append_right _ (a3v hb e)))).2.1
  cases f with
  | next=>obtain⟨σ7,H7,I7,n7⟩:=q7;exact again I7 n7
  | cont=>obtain⟨σ7,H7,I7,n7⟩:=q7;exact again I7 n7
  | brk=>obtain⟨σ7,H7,I7,q7⟩:=q7;exact⟨σ7,H7,I7.unpinned,q7⟩
  | ret v=>obtain⟨x7,σ7,H7,I7,r7,q7⟩:=q7;exact⟨x7,σ7,H7,I7.unpinned,r7,q7⟩
end
end L2
namespace L2
open PySem PySem.Spec PyProof.Rows
abbrev R2:=V->V->Hp->VK->Prop
def OpR(X:Cx)(f:Value->Value->Sem Value)(r:R2):Prop:=
 ∀ (pins:List (Addr × Obj)) (s:Shared) (σ:St) (H:Hp) (x y:V) (v u:Value) (Q:VK),Inv X pins σ H s->RelV x v->RelV y u->r x y H Q ->
  wpAny (model X.prog X.w) X.A (f v u) (EP X pins σ Q) X.xe s
def a1x(X:Cx)(f:Value)(r:List V->Hp->VK->Prop):Prop:=
 ∀ (pins:List (Addr × Obj)) (s:Shared) (σ:St) (H:Hp) (xs:List V) (us:List Value) (Q:VK),Inv X pins σ H s->Vals xs us->r xs H Q ->
  wpAny (model X.prog X.w) X.A (call f us) (EP X pins σ Q) X.xe s
def TruR(X:Cx)(r:V->Hp->(Bool->Hp->Prop)->Prop):Prop:=
 ∀ (pins:List (Addr × Obj)) (s:Shared) (σ:St) (H:Hp) (x:V) (v:Value) (Q:Bool->Hp->Prop),Inv X pins σ H s->RelV x v->r x H Q ->
  wpAny (model X.prog X.w) X.A (truthy v) (TP X pins σ Q) X.xe s
def tOp(r:R2)(ta tb:TE):TE:=fun σ H Q=>ta σ H fun x H1=>tb σ H1 fun y H2=>r x y H2 Q
def rI(C:Int->Int->Prop)(g:Int->Int->V):R2:=fun x y H Q=>∃ i j,x=.int i/\y=.int j/\C i j/\Q (g i j) H
def rI0(g:Int->Int->V):R2:=fun x y H Q=>∃ i j,x=.int i/\y=.int j/\Q (g i j) H
section
variable{X:Cx}{a b c:Expr}{ta tb tc:TE}{pos:Pos}
theorem binT(ha:PE X a ta)(hb:PE X b tb){pins:List (Addr × Obj)}{s:Shared}{σ:St}{H:Hp}{R:V->V->Hp->Prop}(I:Inv X pins σ H s)
  (h:ta σ H fun x H1=>tb σ H1 fun y H2=>R x y H2) {Q:Value->Shared->Prop} {f:Value->Value->Sem Value}
  (hf:∀ v u s2 x y H2,Inv X pins σ H2 s2->RelV x v->RelV y u->R x y H2->wpAny (model X.prog X.w) X.A (f v u) Q X.xe s2) :
  wpAny (model X.prog X.w) X.A (eval a X.env) (fun v s₁=>wpAny (model X.prog X.w) X.A (eval b X.env) (fun u s₂=>wpAny (model X.prog X.w) X.A (f v u) Q X.xe s₂) X.xe s₁) X.xe s:=by
 refine thn (ha pins s σ H _ I h) fun v s1 hq9=>?_
 obtain⟨x,H1,I1,r1,q1⟩:=hq9
 refine thn (hb pins s1 σ H1 _ I1 q1) fun u s2 hq9=>?_
 obtain⟨y,H2,I2,r2,q2⟩:=hq9
 exact hf v u s2 x y H2 I2 r1 r2 q2
theorem a2e{op:Operator}{r:R2}(ho:OpR X (binaryOp op) r)(ha:PE X a ta)(hb:PE X b tb):PE X (.BinOp a op b pos) (tOp r ta tb):=by
 intro pins s σ H Q I h
 exact wpAny_BinOp (binT ha hb I h fun v u s2 x y H2 I2 rx ry q=>ho pins s2 σ H2 x y v u Q I2 rx ry q)
theorem opI{f:Value->Value->Sem Value}{C:Int->Int->Prop}{g:Int->Int->Int}
  (rule:∀ (i j:Int) (t u:Tok) (s:Shared) (Q:Value->Shared->Prop) (E:Value->Shared->Prop),C i j->Q (.int (g i j) s.toks) { s with toks:=s.toks + 1 }->wpAny (model X.prog X.w) X.A (f (.int i t) (.int j u)) Q E s) :
  OpR X f (rI C fun i j=>.int (g i j)):=by
 intro pins s σ H x y v u Q I rx ry h
 obtain⟨i,j,rfl,rfl,hc,q⟩:=h
 obtain⟨t,rfl⟩:=rx
 obtain⟨t',rfl⟩:=ry
 exact rule i j t t' s _ _ hc ⟨.int (g i j),H,I.tok _,⟨_,rfl⟩,q⟩
theorem opI0{f:Value->Value->Sem Value}{g:Int->Int->Int}
  (rule:∀ (i j:Int) (t u:Tok) (s:Shared) (Q:Value->Shared->Prop) (E:Value->Shared->Prop),Q (.int (g i j) s.toks) { s with toks:=s.toks + 1 }->wpAny (model X.prog X.w) X.A (f (.int i t) (.int j u)) Q E s) :
  OpR X f (rI0 fun i j=>.int (g i j)):=by
 intro pins s σ H x y v u Q I rx ry h
 obtain⟨i,j,rfl,rfl,q⟩:=h
 obtain⟨t,rfl⟩:=rx
 obtain⟨t',rfl⟩:=ry
 exact rule i j t t' s _ _ ⟨.int (g i j),H,I.tok _,⟨_,rfl⟩,q⟩
theorem opB0{f:Value->Value->Sem Value}{g:Int->Int->Bool}
  (rule:∀ (i j:Int) (t u:Tok) (s:Shared) (Q:Value->Shared->Prop) (E:Value->Shared->Prop),Q (.bool (g i j)) s->wpAny (model X.prog X.w) X.A (f (.int i t) (.int j u)) Q E s) :
  OpR X f (rI0 fun i j=>.bl (g i j)):=by
 intro pins s σ H x y v u Q I rx ry h
 obtain⟨i,j,rfl,rfl,q⟩:=h
 obtain⟨t,rfl⟩:=rx
 obtain⟨t',rfl⟩:=ry
 exact rule i j t t' s _ _ ⟨.bl (g i j),H,I,rfl,q⟩
def CDiv(i j:Int):Prop:=0 < j/\j < 1073741824
def CPow(i j:Int):Prop:=0 <= j/\j <= 1000000/\i.natAbs < 2 ^ 64
def CMul(i j:Int):Prop:=(-(2 ^ 64) < i/\i < 2 ^ 64) ∨ (-(2 ^ 64) < j/\j < 2 ^ 64)
theorem CMul.ok{i j:Int}(h:CMul i j):IntMulOk i j:=by
 rcases h with⟨h1,h2⟩ | ⟨h1,h2⟩
 ·exact .of_left (intBits_le_64 h1 h2)
 ·exact .of_right (intBits_le_64 h1 h2)
theorem b9x(k:Nat):(0:Int) <= 2 ^ k:=by
 rw [two_pow_cast]
 exact Int.natCast_nonneg _
theorem a9t:OpR X (binaryOp .Add) (rI0 fun i j=>.int (i + j)):=opI0 fun _ _ _ _ _ _ _ q=>add_int q
theorem d4r:OpR X (binaryOp .Sub) (rI0 fun i j=>.int (i - j)):=opI0 fun _ _ _ _ _ _ _ q=>sub_int q
theorem a9u:OpR X (binaryOp .Mult) (rI CMul fun i j=>.int (i * j)):=opI fun _ _ _ _ _ _ _ hc q=>mul_int q hc.ok
theorem d0h:OpR X (binaryOp .FloorDiv) (rI CDiv fun i j=>.int (i / j)):=opI fun i j _ _ _ _ _ hc q=>by
 have h1:(0:Int) < j:=hc.1
 have h2:j < 1073741824:=hc.2
 exact floordiv_int (by omega) (by rw [Int.fdiv_eq_ediv_of_nonneg i (by omega)];exact q) (.inl (PyProof.noPylong_small (by omega)))
theorem a7x:OpR X (binaryOp .Mod) (rI (fun _ j=>0 < j) fun i j=>.int (i % j)):=opI fun i j _ _ _ _ _ hc q=>by
 have h1:(0:Int) < j:=hc
 exact mod_int' (by omega) (by rw [Int.fmod_eq_emod_of_nonneg i (by omega)];exact q)
theorem d4s:OpR X (binaryOp .Pow) (rI CPow fun i j=>.int (i ^ j.toNat)):=opI fun _ _ _ _ _ _ _ hc q=>pow_int_small hc.1 hc.2.1 hc.2.2 q
theorem d4t:OpR X (binaryOp .RShift) (rI (fun _ j=>0 <= j) fun i j=>.int (i / 2 ^ j.toNat)):=opI fun i j _ _ _ _ _ hc q =>
 rshift_int hc (by rw [Int.fdiv_eq_ediv_of_nonneg i (b9x _)];exact q)
end
noncomputable def scal:V->V->Bool
 | .non,.non=>true | .non,.int _=>true | .int _,.non=>true | .non,.bl _=>true | .bl _,.non=>true | .non,.str _=>true | .str _,.non=>true
 | .int _,.int _=>true | .bl _,.bl _=>true | .str _,.str _=>true | .byt _,.byt _=>true
 | .int _,.str _=>true | .str _,.int _=>true | .bl _,.str _=>true | .str _,.bl _=>true
 | _,_=>false
def rEq:R2:=fun x y H Q=>scal x y=true/\Q (.bl (decide (x=y))) H
def rNe:R2:=fun x y H Q=>scal x y=true/\Q (.bl (!decide (x=y))) H
theorem b8k{i j:Int}:decide (V.int i=V.int j)=(i == j):=by
 rw [Bool.eq_iff_iff]
 simp
theorem c2s{i j:Bool}:decide (V.bl i=V.bl j)=(i == j):=by
 rw [Bool.eq_iff_iff]
 simp
theorem b8l{i j:Str}:decide (V.str i=V.str j)=(i == j):=by
 rw [Bool.eq_iff_iff]
 simp
theorem b8m{i j:Array UInt8}:decide (V.byt i=V.byt j)=(i.toList == j.toList):=by
 rw [Bool.eq_iff_iff]
 cases i
 cases j
 simp
section
variable{X:Cx}{a b c:Expr}{ta tb tc:TE}{pos:Pos}
theorem a0u{pins:List (Addr × Obj)}{σ:St}{H:Hp}{s:Shared}{Q:VK}{k k':Bool}(I:Inv X pins σ H s)(q:Q (.bl k) H)(e:k=k'):EP X pins σ Q (.bool k') s:=by
 subst e
 exact⟨.bl k,H,I,rfl,q⟩
theorem b0o:OpR X (compareOp .Eq) rEq:=by
 intro pins s σ H x y v u Q I rx ry h
 obtain⟨hs,q⟩:=h
 cases x with
 | non =>
  cases rx
  cases y with
  | non=>cases ry;exact PySem.EqNone.eq_none_none (a0u I q (by simp))
  | bl j=>cases ry;exact PySem.EqNone.eq_none_bool (a0u I q (by simp))
  | int j=>obtain⟨t',rfl⟩:=ry;exact PySem.EqNone.eq_none_int (a0u I q (by simp))
  | str j=>obtain⟨t',rfl⟩:=ry;exact PySem.EqNone.eq_none_str (a0u I q (by simp))
  | _=>exact absurd (show false=true from hs) Bool.false_ne_true
 | bl i =>
  cases rx
  cases y with
  | non=>cases ry;exact PySem.EqNone.eq_bool_none (a0u I q (by simp))
  | bl j=>cases ry;exact eq_bool (a0u I q c2s)
  | str j=>obtain⟨t',rfl⟩:=ry;exact PySem.EqMixed.eq_bool_str (a0u I q (by simp))
  | _=>exact absurd (show false=true from hs) Bool.false_ne_true
 | int i =>
  obtain⟨t,rfl⟩:=rx
  cases y with
  | non=>cases ry;exact PySem.EqNone.eq_int_none (a0u I q (by simp))
  | int j=>obtain⟨t',rfl⟩:=ry;exact eq_int (a0u I q b8k)
  | str j=>obtain⟨t',rfl⟩:=ry;exact PySem.EqMixed.eq_int_str (a0u I q (by simp))
  | _=>exact absurd (show false=true from hs) Bool.false_ne_true
 | str i =>
  obtain⟨t,rfl⟩:=rx
  cases y with
  | non=>cases ry;exact PySem.EqNone.eq_str_none (a0u I q (by simp))
  | bl j=>cases ry;exact PySem.EqMixed.eq_str_bool (a0u I q (by simp))
  | int j=>obtain⟨t',rfl⟩:=ry;exact PySem.EqMixed.eq_str_int (a0u I q (by simp))
  | str j=>obtain⟨t',rfl⟩:=ry;exact eq_str (a0u I q b8l)
  | _=>exact absurd (show false=true from hs) Bool.false_ne_true
 | byt i =>
  obtain⟨t,rfl⟩:=rx
  cases y with
  | byt j=>obtain⟨t',rfl⟩:=ry;exact PySem.W.eq_bytes (a0u I q b8m)
  | _=>exact absurd (show false=true from hs) Bool.false_ne_true
 | _=>cases y<;>exact absurd (show false=true from hs) Bool.false_ne_true
theorem op_ne:OpR X (compareOp .NotEq) rNe:=by
 intro pins s σ H x y v u Q I rx ry h
 obtain⟨hs,q⟩:=h
 cases x with
 | non =>
  cases rx
  cases y with
  | non=>cases ry;exact PySem.EqNone.ne_none_none (a0u I q (by simp))
  | bl j=>cases ry;exact PySem.EqNone.ne_none_bool (a0u I q (by simp))
  | int j=>obtain⟨t',rfl⟩:=ry;exact PySem.EqNone.ne_none_int (a0u I q (by simp))
  | str j=>obtain⟨t',rfl⟩:=ry;exact PySem.EqNone.ne_none_str (a0u I q (by simp))
  | _=>exact absurd (show false=true from hs) Bool.false_ne_true
 | bl i =>
  cases rx
  cases y with
  | non=>cases ry;exact PySem.EqNone.ne_bool_none (a0u I q (by simp))
  | bl j=>cases ry;exact ne_bool (a0u I q (congrArg not c2s))
  | str j=>obtain⟨t',rfl⟩:=ry;exact PySem.EqMixed.ne_bool_str (a0u I q (by simp))
  | _=>exact absurd (show false=true from hs) Bool.false_ne_true
 | int i =>
  obtain⟨t,rfl⟩:=rx
  cases y with
  | non=>cases ry;exact PySem.EqNone.ne_int_none (a0u I q (by simp))
  | int j=>obtain⟨t',rfl⟩:=ry;exact ne_int (a0u I q (congrArg not b8k))
  | str j=>obtain⟨t',rfl⟩:=ry;exact PySem.EqMixed.ne_int_str (a0u I q (by simp))
  | _=>exact absurd (show false=true from hs) Bool.false_ne_true
 | str i =>
  obtain⟨t,rfl⟩:=rx
  cases y with
  | non=>cases ry;exact PySem.EqNone.ne_str_none (a0u I q (by simp))
  | bl j=>cases ry;exact PySem.EqMixed.ne_str_bool (a0u I q (by simp))
  | int j=>obtain⟨t',rfl⟩:=ry;exact PySem.EqMixed.ne_str_int (a0u I q (by simp))
  | str j=>obtain⟨t',rfl⟩:=ry;exact ne_str (a0u I q (congrArg not b8l))
  | _=>exact absurd (show false=true from hs) Bool.false_ne_true
 | byt i =>
  obtain⟨t,rfl⟩:=rx
  cases y with
  | byt j=>obtain⟨t',rfl⟩:=ry;exact PySem.W.ne_bytes (a0u I q (congrArg not b8m))
  | _=>exact absurd (show false=true from hs) Bool.false_ne_true
 | _=>cases y<;>exact absurd (show false=true from hs) Bool.false_ne_true
theorem b5m:OpR X (compareOp .LtE) (rI0 fun i j=>.bl (decide (i <= j))):=opB0 fun _ _ _ _ _ _ _ q=>le_int q
theorem b5n:OpR X (compareOp .Gt) (rI0 fun i j=>.bl (decide (j < i))):=opB0 fun _ _ _ _ _ _ _ q=>gt_int q
theorem c9e:OpR X (compareOp .GtE) (rI0 fun i j=>.bl (decide (j <= i))):=opB0 fun _ _ _ _ _ _ _ q=>ge_int q
theorem c2t:OpR X (compareOp .In) (fun x y H Q=>∃ i j,x=.str i/\y=.str j/\Q (.bl (!(Builtin.Str.occurrences j i 0 j.length 1).isEmpty)) H):=by
 intro pins s σ H x y v u Q I rx ry h
 obtain⟨i,j,rfl,rfl,q⟩:=h
 obtain⟨t,rfl⟩:=rx
 obtain⟨t',rfl⟩:=ry
 exact in_str (a0u I q rfl)
theorem b6e:OpR X (compareOp .Is) (fun x y H Q=>y=.non/\Q (.bl (decide (x=.non))) H):=by
 intro pins s σ H x y v u Q I rx ry h
 obtain⟨rfl,q⟩:=h
 cases ry
 refine is_none_gen (a0u I q ?_)
 cases x<;>first
  | (cases rx;rfl)
  | (obtain⟨t,rfl⟩:=rx;rfl)
theorem d0i:OpR X (compareOp .IsNot) (fun x y H Q=>y=.non/\Q (.bl (!decide (x=.non))) H):=by
 intro pins s σ H x y v u Q I rx ry h
 obtain⟨rfl,q⟩:=h
 cases ry
 refine isnot_none_gen (a0u I q ?_)
 cases x<;>first
  | (cases rx;rfl)
  | (obtain⟨t,rfl⟩:=rx;rfl)
theorem OpR.or{f:Value->Value->Sem Value}{r r':R2}(h:OpR X f r)(h':OpR X f r'):OpR X f (fun x y H Q=>r x y H Q ∨ r' x y H Q):=by
 intro pins s σ H x y v u Q I rx ry q
 rcases q with q | q
 ·exact h pins s σ H x y v u Q I rx ry q
 ·exact h' pins s σ H x y v u Q I rx ry q
theorem a0p(b:Expr){op:CmpOp}(h:op ≠ .In:=by decide)(h2:op ≠ .NotIn:=by decide):behindInMarks op b=false:=by
 have e1:(op == CmpOp.In)=false:=by cases op<;>first | rfl | exact absurd rfl h
 have e2:(op == CmpOp.NotIn)=false:=by cases op<;>first | rfl | exact absurd rfl h2
 cases b<;>simp [behindInMarks,e1,e2]
theorem a7y{op:CmpOp}{r:R2}(ho:OpR X (compareOp op) r)(ha:PE X a ta)(hb:PE X b tb)(hm:behindInMarks op b=false):PE X (.Compare a [op] [b] pos) (tOp r ta tb):=by
 intro pins s σ H Q I h
 exact wpAny_Compare1 (binT ha hb I h fun v u s2 x y H2 I2 rx ry q=>ho pins s2 σ H2 x y v u Q I2 rx ry q) hm
def b9y(t:TE):TT:=fun σ H Q=>t σ H fun x H'=>∃ k,x=.bl k/\Q k H'
theorem a6q{op:CmpOp}{r:R2}(ho:OpR X (compareOp op) r)(ha:PE X a ta)(hb:PE X b tb)(hm:behindInMarks op b=false):PT X (.Compare a [op] [b] pos) (b9y (tOp r ta tb)):=by
 intro pins s σ H Q I h
 refine wpAny_isTrue_Compare1 (thn (ha pins s σ H _ I h) fun v s1 ⟨x,H1,I1,r1,q1⟩=>thn (hb pins s1 σ H1 _ I1 q1) fun u s2 ⟨y,H2,I2,r2,q2⟩ =>
  thn (ho pins s2 σ H2 x y v u _ I2 r1 r2 q2) fun c s3 ⟨z,H3,I3,r3,k,e,q3⟩=>?_) hm
 subst e
 cases r3
 exact wpAny_truthy_bool ⟨H3,I3,q3⟩
def c2u(r r':R2)(ta tb tc:TE):TE:=fun σ H Q=>ta σ H fun x H1=>tb σ H1 fun y H2=>r x y H2 fun z H3=>∃ k,z=.bl k /\
 (if k=true then tc σ H3 fun w' H4=>r' y w' H4 Q else Q (.bl false) H3)
theorem c5z{op op':CmpOp}{r r':R2}(ho:OpR X (compareOp op) r)(ho':OpR X (compareOp op') r')(ha:PE X a ta)(hb:PE X b tb)(hc:PE X c tc)
  (hm:lastMarks [op,op'] [b,c]=false:=by with_unfolding_all rfl):PT X (.Compare a [op,op'] [b,c] pos) (b9y (c2u r r' ta tb tc)):=by
 intro pins s σ H Q I h
 refine isTrue_chain (thn (ha pins s σ H _ I h) fun v s1 ⟨x,H1,I1,r1,q1⟩=>test_link (thn (hb pins s1 σ H1 _ I1 q1) fun u s2 ⟨y,H2,I2,r2,q2⟩ =>
  thn (ho pins s2 σ H2 x y v u _ I2 r1 r2 q2) fun d s3 ⟨z,H3,I3,r3,k,e,q3⟩=>?_)) hm
 subst e
 cases r3
 refine wpAny_truthy_bool ?_
 cases k with
 | false =>
  obtain⟨k',e',q'⟩:=q3
  cases e'
  exact ite_ff ⟨H3,I3,q'⟩
 | true =>
  refine ite_tt (test_last (thn (hc pins s3 σ H3 _ I3 q3) fun w' s4 ⟨z',H4,I4,r4,q4⟩=>thn (ho' pins s4 σ H4 y z' u w' _ I4 r2 r4 q4) fun d' s5 hq9=>?_))
  obtain⟨z2,H5,I5,r5,k2,e2,q5⟩:=hq9
  subst e2
  cases r5
  exact wpAny_truthy_bool ⟨H5,I5,q5⟩
def TruV(K:W.Frag)(x:V)(H:Hp)(k:Bool):Prop:=
 match x with
 | .non=>k=false
 | .bl b=>k=b
 | .int i=>k=(i != 0)
 | .str y=>y.length <= sizeLine/\k=((y.length:Int) != 0)
 | .byt y=>y.size <= sizeLine/\k=((y.size:Int) != 0)
 | .ref p=>(∃ xs,SqL K H p xs/\k = !xs.isEmpty) ∨ (∃ xs,SqT K H p xs/\k = !xs.isEmpty) ∨ ∃ kvs,H p=some (.dK kvs)/\k = !kvs.isEmpty
 | _=>False
theorem b9z{κ:Type}{kvs:List (κ × V)}{vs:List (κ × Value)}(r:KV kvs vs):(!vs.isEmpty) = !kvs.isEmpty:=by
 cases r<;>rfl
theorem b2e{xs:List V}{its:List Value}(r:Vals xs its):(!its.toArray.isEmpty) = !xs.isEmpty:=by
 cases r<;>simp
theorem a6x:(sizeLine:Nat) < 2 ^ 63:=by rw [sizeLine_eq];decide
theorem d4u:TruR X (fun x H Q=>∃ k,TruV X.K x H k/\Q k H):=by
 intro pins s σ H x v Q I rx h
 obtain⟨k,e,q⟩:=h
 have hl:=a6x
 have hs:sizeLine=16777216:=sizeLine_eq
 cases x with
 | non =>
  cases rx
  have e':k=false:=e
  subst e'
  exact truthy_none ⟨H,I,q⟩
 | bl b =>
  cases rx
  have e':k=b:=e
  subst e'
  exact wpAny_truthy_bool ⟨H,I,q⟩
 | int i =>
  obtain⟨t,rfl⟩:=rx
  have e':k=(i != 0):=e
  subst e'
  exact PySem.P.truthy_int ⟨H,I,q⟩
 | str y =>
  obtain⟨t,rfl⟩:=rx
  obtain⟨hy,e'⟩:y.length <= sizeLine/\k=((y.length:Int) != 0):=e
  subst e'
  exact PySem.P.truthy_str (by omega) ⟨H,I.tok _,q⟩
 | byt y =>
  obtain⟨t,rfl⟩:=rx
  obtain⟨hy,e'⟩:y.size <= sizeLine/\k=((y.size:Int) != 0):=e
  subst e'
  exact PySem.W.truthy_bytes (by omega) ⟨H,I.tok _,q⟩
 | ref p =>
  cases rx
  have e':(∃ xs,SqL X.K H p xs/\k = !xs.isEmpty) ∨ (∃ xs,SqT X.K H p xs/\k = !xs.isEmpty) ∨ ∃ kvs,H p=some (.dK kvs)/\k = !kvs.isEmpty:=e
  rcases e' with⟨xs,hx,e'⟩ | ⟨xs,hx,e'⟩ | ⟨kvs,hx,e'⟩
  ·subst e'
   obtain⟨its,r,pl,hz⟩:=I.list hx
   have hlen:=r.length
   exact wpAny_truthy_list pl.isList (by simp only [size_toArray];omega) ⟨H,I.tok _,by rw [b2e r];exact q⟩
  ·subst e'
   obtain⟨its,r,pl,hz⟩:=I.tuple hx
   have hlen:=r.length
   exact truthy_tuple pl (by simp only [size_toArray];omega) ⟨H,I.tok _,by rw [b2e r];exact q⟩
  ·subst e'
   obtain⟨hz,hS,vs,r,m⟩:kvs.length <= sizeLine/\(p == sysModules)=false/\∃ vs,KV kvs vs/\s.heap.DictOf (b0n X.prog X.w) p vs:=I.hok p _ hx
   have hlen:kvs.length=vs.length:=Paired.length r
   exact wpAny_truthy_dict hS m (by omega) ⟨H,I.tok _,by rw [b9z r];exact q⟩
 | _=>exact(show False from e).elim
theorem b6f(ha:PE X a ta)(he:∀ whole,isTrue a X.env whole=(do let v ← whole;standAt a.pos;holding [v] (truthy v))) :
  PT X a (fun σ H Q=>ta σ H fun x H'=>∃ k,TruV X.K x H' k/\Q k H'):=by
 intro pins s σ H Q I h
 exact isTrue_plain (thn (ha pins s σ H _ I h) fun v s1 hq8=>by obtain⟨x,H1,I1,r1,q1⟩:=hq8;exact d4u pins s1 σ H1 x v Q I1 r1 q1) (he _)
theorem c0a:OpR X (binaryOp .Add) (fun x y H Q=>∃ i j,x=.str i/\y=.str j/\i.length + j.length <= sizeLine/\Q (.str (i ++ j)) H):=by
 intro pins s σ H x y v u Q I rx ry h
 obtain⟨i,j,rfl,rfl,hz,q⟩:=h
 obtain⟨t,rfl⟩:=rx
 obtain⟨t',rfl⟩:=ry
 exact add_str (fun t' tk=>⟨.str (i ++ j),H,I.tok _,⟨_,rfl⟩,q⟩) hz
theorem vals1{x:V}{us:List Value}(r:Vals [x] us):∃ u,us=[u]/\RelV x u:=by
 cases r with
 | cons r1 r2=>cases r2;exact⟨_,rfl,r1⟩
theorem a4w:a1x X (.type "str") (fun xs H Q=>∃ i,xs=[.int i]/\i.natAbs.log2 < 1920/\Q (.str (toString i)) H):=by
 intro pins s σ H xs us Q I r h
 obtain⟨i,rfl,hz,q⟩:=h
 obtain⟨u,rfl,t,rfl⟩:=vals1 r
 exact PySem.P.str_of_int hz ⟨.str _,H,I.tok _,⟨_,rfl⟩,q⟩
end
end L2
namespace L2
open PySem PySem.Spec PyProof.Rows
structure ObjM(h:Heap)(x dx C:Addr)(mA:Str->Option Value):Prop where
 obj:h.get? x=some (PySem.W.instObj C dx)
 ns:h.Ns1 dx mA
 ne:dx ≠ x
theorem b4a{h:Heap}{dx:Addr}{mA:Str->Option Value}(n:h.Ns1 dx mA):∃ od,h.get? dx=some od/\∀ name,PySem.W.lookIn name od=some (mA name):=by
 obtain⟨o,es,ep,ho,hd,hk,_,hm⟩:=n
 refine⟨o,ho,fun name=>?_⟩
 have e:=hm name
 unfold nsFind findBy at e
 rw [← Array.find?_toList] at e
 unfold PySem.W.lookIn
 rw [hd]
 dsimp only
 split
 ·rename_i y q
  rw [q] at e
  exact congrArg some e
 ·rename_i q
  rw [q] at e
  have a:es.toList.any (·.refKey)=false:=by
   rw [List.any_eq_false]
   intro y hy
   obtain⟨z,t,hkey⟩:=hk y (Array.mem_toList_iff.mp hy)
   simp [DictEntry.refKey,hkey]
  have a':¬ es.toList.any (·.refKey)=true:=by rw [a];exact Bool.false_ne_true
  rw [if_neg a']
  exact congrArg some e
theorem ObjM.look{h:Heap}{x dx C:Addr}{mA:Str->Option Value}(I:ObjM h x dx C mA):∃ od,PySem.W.InstAt h x (PySem.W.instObj C dx) C (some od)/\∀ name,PySem.W.lookIn name od=some (mA name):=
 let ⟨od,ho,hl⟩:=b4a I.ns
 ⟨od,⟨I.obj,rfl,rfl,ho⟩,hl⟩
section
variable{prog:Program}{w:World}{A:Around}{E:Value->Shared->Prop}{s:Shared}{K:W.Frag}{x dx C f:Addr}{mA:Str->Option Value}{name:Str}{v:Value}
theorem d0j{expr:Bool}{Q:Value->Shared->Prop}(X:K.In s.heap)(I:ObjM s.heap x dx C mA)(hg:PySem.W.plainGet K C name=true)(hh:PySem.W.hasDictIn K C=true)
  (ha:PySem.W.findIn K (.ref C) name=some none) (hv:mA name=some v) (hv':PySem.W.handedIn v=true) (h:Q v { s with toks:=s.toks + 1 }) :
  wpAny (model prog w) A (getAttr (.ref x) name expr) Q E s:=by
 obtain⟨od,J,hl⟩:=I.look
 exact PySem.W.get_value X J (PySem.W.plainGet_of hg).1 (PySem.W.findObj_own hh ha rfl (by rw [hl,hv])) hv' h
theorem c6a{pl:Sem Bool}{Q:Value × List Value->Shared->Prop}(X:K.In s.heap)(I:ObjM s.heap x dx C mA)(hg:PySem.W.plainGet K C name=true)
  (hf:PySem.W.findIn K (.ref C) name=some (some (.ref f))) (ht:PySem.W.isFn K (.ref f)=true) (hv:mA name=none) (h:Q (.ref f,[.ref x]) s) :
  wpAny (model prog w) A (getMethod (.ref x) name pl) Q E s:=by
 obtain⟨od,J,hl⟩:=I.look
 exact PySem.W.method_fn X J (PySem.W.plainGet_of hg).1 (PySem.W.plainGet_of hg).2 hf (beq_iff_eq.mp ht) (by show(PySem.W.lookIn name od).map (·.isSome)=some false;rw [hl,hv];rfl) h
theorem d0k{ns:List Str}{Q:Unit->Shared->Prop}(X:K.In s.heap)(I:ObjM s.heap x dx C mA)
  (hs:PySem.W.findIn K (.ref C) "__setattr__" = some (some (.builtin "object.__setattr__"))) (hp:PySem.W.plainOver K C=true) (ht:PySem.W.takerIn K C name=some none) (hh:PySem.W.hasDictIn K C=true)
  (hw:PySem.Within mA ns) (hsz:ns.length <= sizeLine)
  (h:∀ h',ObjM h' x dx C (fun y=>if y=name then some v else mA y)->Heap.SameBut dx s.heap h'->Q () { s with heap:=h',toks:=s.toks + 2 }) :
  wpAny (model prog w) A (setAttr (.ref x) name v) Q E s:=by
 obtain⟨od,J,hl⟩:=I.look
 refine PySem.W.set_plain X J hs (PySem.W.osa_open (s:={ s with toks:=s.toks + 1 }) (r:=none) X J hp ht fun b=>?_)
 obtain⟨cd,hc,hd'⟩:=PySem.W.any_some hh
 have hx:s.heap.get? x=some ⟨.ref C,some dx,.plain,#[]⟩:=I.obj
 refine wpAny_bind (wpAny_pure (wpAny_bind (wpAny_bind (wpAny_loadPart hx (wpAny_bind (PySem.W.Looks.here (s:={ s with toks:=s.toks + 1 }) (PySem.W.looks_clsIn X hc) ?_))))))
 rw [hd']
 refine wpAny_pure (a:=some dx) (wpAny_bind (wpAny_pure (wpAny_bind ?_)))
 refine wpAny_nsSet1 (s:={ s with toks:=s.toks + 1 }) I.ns fun h' hn2 hs2=>?_
 obtain⟨oD,esD,epD,hoD,hdD,hcD⟩:=hn2.count (PySem.Within.cons name v hw)
 refine wpAny_bind (wpAny_lookBehind hoD (by rw [hdD];exact pastItsLine_dict (le_trans hcD (by rw [length_cons];omega))) ?_)
 exact wpAny_pure (h _ ⟨(hs2.2 _ (Ne.symm I.ne)).trans I.obj,hn2,I.ne⟩ hs2)
theorem c6b{R:Result->Shared->Prop}{vs:List Value}{kw:List (Str × Value)}(X:K.In s.heap)(hm:PySem.W.makesIn K C=true)
  (hi:PySem.W.findIn K (.ref C) "__init__" = some (some (.ref f))) (hf:PySem.W.typeIn K (.ref f)=some (.type "function"))
  (h:codeAny (model prog w) (A.under (.builtin "type.__call__" ⟨.ref C :: vs,kw⟩)) (.call (.ref f) ⟨.ref (s.heap.objs.size + 1) :: vs,kw⟩) (PySem.W.InitBack (s.heap.objs.size + 1) R)
   { s with heap:=(s.heap.push PySem.W.emptyDict).push (PySem.W.instObj C s.heap.objs.size) }) :
  codeAny (model prog w) A (.call (.ref C) ⟨vs,kw⟩) R s:=by
 obtain⟨hh,g,d,t,os⟩:=s
 exact PySem.W.make_core (PySem.W.makes_of X hm) (PySem.W.looks_findIn X hi) (fun self=>PySem.W.bind_fn X self hf) (.inl rfl) h
end
noncomputable def putF(f:Str)(v:V):List (Str × V)->List (Str × V)
 | []=>[(f,v)]
 | (g,x) :: r=>if g=f then(g,v) :: r else(g,x) :: putF f v r
theorem a7q(f g:Str)(v:V):∀ fs:List (Str × V),(putF f v fs).lookup g=if g=f then some v else fs.lookup g
 | []=>by
  show List.lookup g [(f,v)]=_
  by_cases h:g=f
  ·have hb:(g == f)=true:=beq_iff_eq.mpr h
   simp only [List.lookup,hb,if_pos h]
  ·have hb:(g == f)=false:=beq_eq_false_iff_ne.mpr h
   simp only [List.lookup,hb,if_neg h]
 | (k,x) :: r=>by
  have ih:=a7q f g v r
  rw [show putF f v ((k,x) :: r)=(if k=f then(k,v) :: r else(k,x) :: putF f v r) from rfl]
  by_cases hk:k=f
  ·rw [if_pos hk]
   by_cases h:g=k
   ·have hb:(g == k)=true:=beq_iff_eq.mpr h
    simp only [List.lookup,hb,if_pos (h.trans hk)]
   ·have hb:(g == k)=false:=beq_eq_false_iff_ne.mpr h
    simp only [List.lookup,hb,if_neg (fun e:g=f=>h (e.trans hk.symm))]
  ·rw [if_neg hk]
   by_cases h:g=k
   ·have hb:(g == k)=true:=beq_iff_eq.mpr h
    simp only [List.lookup,hb,if_neg (fun e:g=f=>hk (h.symm.trans e))]
   ·have hb:(g == k)=false:=beq_eq_false_iff_ne.mpr h
    simp only [List.lookup,hb]
    exact ih
theorem a9v(f:Str)(v:V):∀ fs:List (Str × V),f ∈ (putF f v fs).map (·.1)/\∀ g,g ∈ fs.map (·.1)->g ∈ (putF f v fs).map (·.1)
 | []=>⟨by simp [putF],fun g h=>by simp at h⟩
 | (k,x) :: r=>by
  obtain⟨i1,i2⟩:=a9v f v r
  rw [show putF f v ((k,x) :: r)=(if k=f then(k,v) :: r else(k,x) :: putF f v r) from rfl]
  by_cases hk:k=f
  ·rw [if_pos hk]
   subst hk
   exact⟨by simp,fun g h=>by simpa using h⟩
  ·rw [if_neg hk]
   refine⟨?_,fun g h=>?_⟩
   ·rw [map_cons]
    exact mem_cons_of_mem _ i1
   ·rw [map_cons] at h ⊢
    rcases mem_cons.mp h with e | e
    ·exact mem_cons.mpr (.inl e)
    ·exact mem_cons_of_mem _ (i2 g e)
theorem b1j(f:Str)(v:V):∀ fs:List (Str × V),(putF f v fs).length <= fs.length + 1
 | []=>by simp [putF]
 | (k,x) :: r=>by
  have ih:=b1j f v r
  rw [show putF f v ((k,x) :: r)=(if k=f then(k,v) :: r else(k,x) :: putF f v r) from rfl]
  by_cases hk:k=f
  ·rw [if_pos hk,length_cons,length_cons];omega
  ·rw [if_neg hk,length_cons,length_cons];omega
theorem RelO.some_of{v:V}{o:Option Value}(r:RelO (some v) o):∃ u,o=some u/\RelV v u:=by
 cases o with
 | none=>exact(show False from r).elim
 | some u=>exact⟨u,rfl,r⟩
theorem RelO.none_of{o:Option Value}(r:RelO none o):o=none:=by
 cases o with
 | none=>rfl
 | some u=>exact(show False from r).elim
theorem b4b{v:V}{u:Value}(r:RelV v u):PySem.W.handedIn u=true:=by
 cases v with
 | non=>cases (show u=Value.none from r);rfl
 | bl b=>cases (show u=Value.bool b from r);rfl
 | int i=>obtain⟨t,e⟩:=(show ∃ t,u=Value.int i t from r);cases e;rfl
 | str x=>obtain⟨t,e⟩:=(show ∃ t,u=Value.str x t from r);cases e;rfl
 | byt b=>obtain⟨t,e⟩:=(show ∃ t,u=Value.bytes b t from r);cases e;rfl
 | flt b=>obtain⟨t,e⟩:=(show ∃ t,u=Value.float b t from r);cases e;rfl
 | ref a=>cases (show u=Value.ref a from r);rfl
 | ty n=>cases (show u=Value.type n from r);rfl
section
variable{P:Program}{w:World}{H H':Hp}{h h':Heap}{a C dx:Addr}{fs fs':List (Str × V)}
theorem b3f(hok:HOk P w H h)(e:H a=some (.ins C dx fs)):∃ mA,ObjM h a dx C mA/\(∀ f,RelO (fs.lookup f) (mA f))/\PySem.Within mA (fs.map (·.1))/\fs.length <= 1000/\H dx=some (.own a):=by
 obtain⟨d,z,ne,ob,mA,n,r,q⟩:=(show a1k P w H h a (.ins C dx fs) from hok a _ e)
 exact⟨mA,⟨ob,n,ne⟩,r,q,z,d⟩
end
structure Cls(K:W.Frag)(C:Addr):Prop where
 pg:PySem.W.plainGet K C Str.empty=true
 hd:PySem.W.hasDictIn K C=true
 po:PySem.W.plainOver K C=true
 sa:PySem.W.findIn K (.ref C) "__setattr__" = some (some (.builtin "object.__setattr__"))
theorem Cls.get{K:W.Frag}{C:Addr}(c:Cls K C)(f:Str):PySem.W.plainGet K C f=true:=c.pg
def a1z(K:W.Frag)(C:Addr)(f:Str):Prop:=PySem.W.findIn K (.ref C) f=some none
theorem a1z.taker{K:W.Frag}{C:Addr}{f:Str}(n:a1z K C f):PySem.W.takerIn K C f=some none:=by
 unfold PySem.W.takerIn
 rw [show PySem.W.findIn K (.ref C) f=some none from n]
 rfl
structure Meth(K:W.Frag)(C:Addr)(m:Str)(f:Addr):Prop where
 at_:PySem.W.findIn K (.ref C) m=some (some (.ref f))
 fn:PySem.W.isFn K (.ref f)=true
 kp:PySem.W.keepIn K (.ref f)=true
section
variable{X:Cx}{pins:List (Addr × Obj)}{σ:St}{H:Hp}{s:Shared}{a C dx:Addr}{fs:List (Str × V)}{f:Str}{v:V}{A:Around}{E:Value->Shared->Prop}
theorem c0b{b:Bool}{Q:Value->Shared->Prop}(I:Inv X pins σ H s)(e:H a=some (.ins C dx fs))(c:Cls X.K C)(n:a1z X.K C f)(l:fs.lookup f=some v)
  (h:∀ u s',Inv X pins σ H s'->RelV v u->Q u s'):wpAny (model X.prog X.w) A (getAttr (.ref a) f b) Q E s:=by
 obtain⟨mA,O,r,_,_,_⟩:=b3f I.hok e
 obtain⟨u,hu,ru⟩:=RelO.some_of (v:=v) (o:=mA f) (by rw [← l];exact r f)
 exact d0j I.kIn O (c.get f) c.hd n hu (b4b ru) (h u _ (I.tok _) ru)
theorem b2f{m:Str}{g:Addr}{pl:Sem Bool}{Q:Value × List Value->Shared->Prop}(I:Inv X pins σ H s)(e:H a=some (.ins C dx fs))(c:Cls X.K C)(k:Meth X.K C m g)(l:fs.lookup m=none)
  (h:Q (.ref g,[.ref a]) s):wpAny (model X.prog X.w) A (getMethod (.ref a) m pl) Q E s:=by
 obtain⟨mA,O,r,_,_,_⟩:=b3f I.hok e
 have hn:mA m=none:=RelO.none_of (by rw [← l];exact r m)
 exact c6a I.kIn O (c.get m) k.at_ k.fn hn h
theorem c0c{y:V}{u:Value}{Q:Unit->Shared->Prop}(I:Inv X pins σ H s)(e:H a=some (.ins C dx fs))(c:Cls X.K C)(n:a1z X.K C f)(hl:fs.length < 1000)(ry:RelV y u)
  (h:∀ s',Inv X pins σ (upd H a (.ins C dx (putF f y fs))) s'->Q () s'):wpAny (model X.prog X.w) A (setAttr (.ref a) f u) Q E s:=by
 obtain⟨mA,O,r,wi,_,ho⟩:=b3f I.hok e
 have hz:(fs.map (·.1)).length <= sizeLine:=by rw [length_map,sizeLine_eq];omega
 refine d0k I.kIn O c.sa c.po n.taker c.hd wi hz fun h' O' sb=>h _ ?_
 have hd:∃ o,h'.get? dx=some o:=by obtain⟨o,_,_,e',_⟩:=O'.ns;exact⟨o,e'⟩
 refine I.write (x:=a) (e:=dx) (by rw [e];exact True.intro) (.inr ho) (fun b q hb z=>(sb.2 b hb).trans z) hd ?_
 refine⟨by rw [a0d O.ne];exact ho,?_,O.ne,O'.obj,_,O'.ns,fun g=>?_,fun g hg=>?_⟩
 ·have:=b1j f y fs;omega
 ·show RelO ((putF f y fs).lookup g) (if g=f then some u else mA g)
  rw [a7q]
  by_cases q:g=f
  ·rw [if_pos q,if_pos q];exact ry
  ·rw [if_neg q,if_neg q];exact r g
 ·by_cases q:g=f
  ·rw [q];exact(a9v f y fs).1
  ·refine(a9v f y fs).2 g (wi g fun z=>hg ?_)
   show(if g=f then some u else mA g)=none
   rw [if_neg q];exact z
theorem Inv.made(I:Inv X pins σ H s):Inv X pins σ (upd (upd H s.heap.objs.size (.own (s.heap.objs.size + 1))) (s.heap.objs.size + 1) (.ins C s.heap.objs.size []))
  { s with heap:=(s.heap.push PySem.W.emptyDict).push (PySem.W.instObj C s.heap.objs.size) }:=by
 have e1:(s.heap.push PySem.W.emptyDict).get? s.heap.objs.size=some PySem.W.emptyDict:=get?_push_size s.heap rfl
 have e2:((s.heap.push PySem.W.emptyDict).push (PySem.W.instObj C s.heap.objs.size)).get? (s.heap.objs.size + 1)=some (PySem.W.instObj C s.heap.objs.size):=by
  have:=get?_push_size (s.heap.push PySem.W.emptyDict) (o:=PySem.W.instObj C s.heap.objs.size) rfl
  rwa [size_push] at this
 have e3:(s.heap.push PySem.W.emptyDict).Ns s.heap.objs.size (fun _=>none):=⟨PySem.W.emptyDict,#[],_,e1,rfl,(fun e he=>absurd he (by simp)),fun _=>rfl⟩
 have I1:=I.laid (a:=s.heap.objs.size) (o:=.own (s.heap.objs.size + 1)) (h':=s.heap.push PySem.W.emptyDict) (t':=s.toks) (fun b u q=>get?_push_of_some _ q) (le_refl _) ⟨_,e1⟩
 refine I1.laid (a:=s.heap.objs.size + 1) (o:=.ins C s.heap.objs.size []) (t':=s.toks) (fun b u q=>get?_push_of_some _ q) (Nat.le_of_eq (size_push _ _)) ?_
 have ne:s.heap.objs.size ≠ s.heap.objs.size + 1:=ne_of_lt (Nat.lt_succ_self _)
 refine⟨by rw [a0d ne,a0c],zero_le _,ne,e2,fun _=>none,(Heap.Ns1.of_empty e3).at fun o q=>get?_push_of_some _ q,fun _=>True.intro,fun y hy=>absurd rfl hy⟩
theorem b8n{prog:Program}{w:World}{env:Env}{e:Expr}{f:Str}{pos:Pos}{s:Shared}{Q:Value->Shared->Prop}(hb:attributeBase e f env (eval e env)=eval e env)
  (h:wpAny (model prog w) A (eval e env) (fun o s₁=>wpAny (model prog w) A (getAttr o f true) Q E s₁) E s):wpAny (model prog w) A (eval (.Attribute e f pos) env) Q E s:=
 Attribute_any_ h (by rw [arm_eval_Attribute,hb])
end
def tFld(K:W.Frag)(ta:TE)(f:Str):TE:=fun σ H Q=>ta σ H fun x H1=>∃ a C dx fs v,x=.ref a/\H1 a=some (.ins C dx fs)/\Cls K C/\a1z K C f/\fs.lookup f=some v/\Q v H1
def sFld(K:W.Frag)(ta tv:TE)(f:Str):TS:=fun D σ H=>tv σ H fun y H1=>ta σ H1 fun x H2=>∃ a C dx fs,x=.ref a/\H2 a=some (.ins C dx fs)/\Cls K C/\a1z K C f/\fs.length < 1000 /\
 D.nx σ (upd H2 a (.ins C dx (putF f y fs)))
section
variable{X:Cx}{o e value:Expr}{f:Str}{pos pos' tpos:Pos}{ta tv:TE}
theorem a3o(he:PE X e ta)(hb:attributeBase e f X.env (eval e X.env)=eval e X.env):PE X (.Attribute e f pos) (tFld X.K ta f):=by
 intro pins s σ H Q I h
 refine b8n hb (thn (he pins s σ H _ I h) fun u s1 hq9=>?_)
 obtain⟨x,H1,I1,rx,a,C,dx,fs,v,ex,ea,c,n,l,q⟩:=hq9
 subst ex
 obtain rfl:u=Value.ref a:=rx
 exact c0b I1 ea c n l fun u' s2 I2 ru=>⟨v,H1,I2,ru,q⟩
theorem b2g(ha:PE X o ta)(hv:PE X value tv)(hs:swapsWith value (some (.Attribute o f pos')) pos.line X.env=pure false):PS X (.Assign [.Attribute o f pos'] value pos) (sFld X.K ta tv f):=by
 intro pins s σ H D I h
 refine plainObj_wpAny_Assign_Attribute (thn (hv pins s σ H _ I h) fun u s1 ⟨y,H1,I1,ry,q⟩=>thn (ha pins s1 σ H1 _ I1 q) fun ov s2 hq8=>?_) hs
 obtain⟨x,H2,I2,rx,a,C,dx,fs,ex,ea,c,n,l,q2⟩:=hq8
 subst ex
 obtain rfl:ov=Value.ref a:=rx
 exact c0c I2 ea c n l ry fun s3 I3=>⟨σ,_,I3,q2⟩
end
section
variable{X:Cx}{pins:List (Addr × Obj)}{σ:St}{H:Hp}{s:Shared}{A:Around}{E:Value->Shared->Prop}{Q:Value->Shared->Prop}{c:Value}{b:Bool}
end
end L2
namespace L2
open PySem PySem.Spec PyProof.Rows
structure Room(k:Nat)(A:Around):Prop where
 hd:A.handled=none
 dp:A.depth + 3 * k + 5 < recursionLimit
 un:A.units + 16 * k + 200 < cLine
 gd:A.guards=some []
theorem Room.mono{j k:Nat}{A:Around}(r:Room k A)(h:j <= k):Room j A:=⟨r.hd,by have:=r.dp;omega,by have:=r.un;omega,r.gd⟩
theorem Room.deeper{k:Nat}{A:Around}(r:Room (k + 1) A)(env:Env):Room k (A.deeper env):=
 ⟨r.hd,by have:=r.dp;show A.depth + 1 + 3 * k + 5 < _;omega,by have:=r.un;show A.units + 3 + 16 * k + 200 < _;omega,r.gd⟩
theorem c0d{A:Around}{C:Addr}{us:List Value}{kw:List (Str × Value)}:(A.under (.builtin "type.__call__" ⟨.ref C :: us,kw⟩)).depth=A.depth + 1:=by
 first | rfl | simp [Around.under,Code.weight,Code.isCreation,Code.isGuard,Code.isCaller,Code.frames,Code.isFrame,guardIds]
theorem c0e{A:Around}{C:Addr}{us:List Value}{kw:List (Str × Value)}:(A.under (.builtin "type.__call__" ⟨.ref C :: us,kw⟩)).units=A.units + 1:=by
 first | rfl | simp [Around.under,Code.cUnits,Code.frames,Code.isFrame]
theorem Room.make{k:Nat}{A:Around}(r:Room (k + 1) A)(C:Addr)(us:List Value)(kw:List (Str × Value)):Room k (A.under (.builtin "type.__call__" ⟨.ref C :: us,kw⟩)):=
 ⟨r.hd,by have:=r.dp;rw [c0d];omega,by have:=r.un;rw [c0e];omega,by rw [show(A.under (.builtin "type.__call__" ⟨.ref C :: us,kw⟩)).guards=A.guards from by first | rfl | simp [Around.under,Code.guards,Code.isGuard,guardIds,pushGuards]];exact r.gd⟩
theorem Room.depth{k:Nat}{A:Around}(r:Room k A):A.depth < recursionLimit:=by have:=r.dp;omega
theorem Room.units{k:Nat}{A:Around}(r:Room k A):A.units + 64 < cLine:=by have:=r.un;omega
def tNil:TA:=fun _ H Q=>Q [] H
def a1l(ta:TE)(tr:TA):TA:=fun σ H Q=>ta σ H fun x H1=>tr σ H1 fun xs H2=>Q (x :: xs) H2
section
variable{X:Cx}{e:Expr}{es:List Expr}{te:TE}{t:TA}{pos:Pos}
theorem a0l:PA X [] tNil:=fun _ _ _ _ H Q I h=>Calls.spliced_nil ⟨[],H,I,.nil,h⟩
theorem a0e(ha:PE X e te)(hr:PA X es t)(hs:starEach (e :: es) X.env=(false,eval e X.env) :: starEach es X.env:=by rfl):PA X (e :: es) (a1l te t):=by
 intro pos pins s σ H Q I h
 rw [hs]
 show wpAny _ _ (spliced ((false,eval e X.env) :: backTo pos (starEach es X.env))) _ _ s
 refine Calls.spliced_cons (thn (ha pins s σ H _ I h) fun u s1 hq9=>?_)
 obtain⟨x,H1,I1,r1,q1⟩:=hq9
 exact thn (hr pos pins s1 σ H1 _ I1 q1) fun us s2 hq8=>by obtain⟨xs,H2,I2,r2,q2⟩:=hq8;exact⟨x :: xs,H2,I2,.cons r1 r2,q2⟩
def tTup(t:TA):TE:=fun σ H Q=>t σ H fun xs H1=>xs.length <= sizeLine/\∀ p,H1 p=none->Q (.ref p) (upd H1 p (.tup xs))
def tLst(t:TA):TE:=fun σ H Q=>t σ H fun xs H1=>xs.length <= sizeLine/\∀ p,H1 p=none->Q (.ref p) (upd H1 p (.lst xs))
theorem a5u{x1}(h:PA X es t):PE X (.Tuple es x1 pos) (tTup t):=by
 intro pins s σ H Q I hq
 refine wpAny_Tuple_spliced (thn (h pos pins s σ H _ I hq) fun us s1 ⟨xs,H1,I1,r,z,q⟩=>⟨by rw [← r.length];exact z,?_⟩)
 have hf:H1 s1.heap.objs.size=none:=I1.hok.fresh (le_refl _)
 refine⟨.ref s1.heap.objs.size,upd H1 s1.heap.objs.size (.tup xs),I1.laid (t':=s1.toks) (fun b u e=>get?_push_of_some _ e) (le_refl _) ?_,rfl,q _ hf⟩
 exact⟨z,us,r,⟨_,get?_push_size _ rfl,⟨rfl,rfl⟩,_,rfl⟩⟩
theorem c2v(h:PA X es t):PE X (.List es pos) (tLst t):=by
 intro pins s σ H Q I hq
 refine wpAny_List_spliced (thn (h pos pins s σ H _ I hq) fun us s1 ⟨xs,H1,I1,r,z,q⟩=>⟨by rw [← r.length];exact z,?_⟩)
 have hf:H1 s1.heap.objs.size=none:=I1.hok.fresh (le_refl _)
 refine⟨.ref s1.heap.objs.size,upd H1 s1.heap.objs.size (.lst xs),I1.laid (t':=s1.toks) (fun b u e=>get?_push_of_some _ e) (le_refl _) ?_,rfl,q _ hf⟩
 exact⟨z,us,0,r,get?_push_size _ rfl⟩
end
abbrev Sp:=List V->Hp->VK->XK->Prop
abbrev CXT:=List Env->Hp->Shared->XK->Value->Shared->Prop
structure Env0(P:Program)(w:World)(K:W.Frag)(mg:Str->Option Value)(base:Heap)(A:Around)(outer:List Env)(s:Shared)(H:Hp):Prop where
 frames:A.frames=some outer
 mod:Mod K mg base
 bs:∀ b o,base.get? b=some o->s.heap.get? b=some o/\H b=none
 bsz:base.objs.size <= s.heap.objs.size
 funs:s.heap.FunFrames base outer
 frf:∀ b ∈ frs outer,H b=none
 hok:HOk P w H s.heap
 bare:AllBare s.gens
def CE(outer:List Env)(P:Program)(w:World)(H:Hp)(s:Shared)(Q:VK)(u:Value)(s':Shared):Prop:=
 ∃ v H',s'.os=s.os/\AllBare s'.gens/\Un (frs outer) [] H H' s.heap s'.heap/\HOk P w H' s'.heap/\RelV v u/\Q v H'
def CR(CX:CXT)(outer:List Env)(P:Program)(w:World)(H:Hp)(s:Shared)(Q:VK)(E:XK)(r:Result)(s':Shared):Prop:=
 match r with
 | .ok (.ret u)=>CE outer P w H s Q u s'
 | .ok _=>False
 | .error e=>CX outer H s E e s'
structure FnOk(P:Program)(w:World)(K:W.Frag)(mg:Str->Option Value)(base:Heap)(CX:CXT)(k:Nat)(f:Addr)(fd:FuncData)(ps:List Str)(sp:Sp):Prop where
 len:∀ vs H Q E,sp vs H Q E->vs.length=ps.length
 run:∀ (A:Around) (outer:List Env) (s:Shared) (H:Hp) (args:Args) (us:List Value) (vs:List V) (Q:VK) (E:XK),Room k A->Env0 P w K mg base A outer s H->BindsTo s fd args (ps.zip us)->Vals vs us->sp vs H Q E ->
  codeAny (model P w) A (.call (.ref f) args) (CR CX outer P w H s Q E) s
theorem FnOk.mono{P:Program}{w:World}{K:W.Frag}{mg:Str->Option Value}{base:Heap}{CX:CXT}{j k:Nat}{f:Addr}{fd:FuncData}{ps:List Str}{sp:Sp}(F:FnOk P w K mg base CX j f fd ps sp)(h:j <= k) :
  FnOk P w K mg base CX k f fd ps sp:=⟨F.len,fun A outer s H args us vs Q E hr=>F.run A outer s H args us vs Q E (hr.mono h)⟩
theorem Env0.make{P:Program}{w:World}{K:W.Frag}{mg:Str->Option Value}{base:Heap}{A:Around}{outer:List Env}{s:Shared}{H:Hp}(e:Env0 P w K mg base A outer s H)(C:Addr)(us:List Value)(kw:List (Str × Value)) :
  Env0 P w K mg base (A.under (.builtin "type.__call__" ⟨.ref C :: us,kw⟩)) outer s H:=⟨by first | exact e.frames | (simpa [Around.under,Code.envs,Code.isFrame,pushEnvs] using e.frames),e.mod,e.bs,e.bsz,e.funs,e.frf,e.hok,e.bare⟩
section
variable{X:Cx}{pins:List (Addr × Obj)}{σ:St}{H:Hp}{s s':Shared}
theorem Inv.env0(I:Inv X pins σ H s):Env0 X.prog X.w X.K X.mg X.base X.A X.stack s H:=
 ⟨I.ok.frames,I.ok.mod,I.bs,le_trans I.ok.bsz I.sz,I.stack,I.stkFree,I.hok,I.bare⟩
theorem Inv.after{Q:VK}{u:Value}(I:Inv X pins σ H s)(h:CE X.stack X.prog X.w H s Q u s'):EP X pins σ Q u s':=by
 obtain⟨v,H',os,bare,un,hok,r,q⟩:=h
 obtain⟨hh,g,d,t,os'⟩:=s'
 obtain rfl:os'=s.os:=os
 exact⟨v,H',I.call (h':=hh) (g':=g) (d':=d) (t':=t) (ch:=[]) un hok bare (fun b z=>absurd z (by simp)),r,q⟩
end
def b0p(sp:Sp)(dvs:List V)(E:XK)(t:TA):TE:=fun σ H Q=>t σ H fun vs H1=>sp (vs ++ dvs) H1 Q E
def c0f(C:Addr)(m:Str)(sp:Sp)(dvs:List V)(E:XK)(ta:TE)(t:TA):TE:=fun σ H Q=>ta σ H fun x H1=>∃ a dx fs,x=.ref a/\H1 a=some (.ins C dx fs)/\fs.lookup m=none /\
 t σ H1 fun vs H2=>sp (x :: (vs ++ dvs)) H2 Q E
def tMake(C:Addr)(sp:Sp)(dvs:List V)(E:XK)(t:TA):TE:=fun σ H Q=>t σ H fun vs H1=>∀ x dx,H1 x=none->H1 dx=none->dx ≠ x ->
 sp (.ref x :: (vs ++ dvs)) (upd (upd H1 dx (.own x)) x (.ins C dx [])) (fun v H2=>v=.non/\Q (.ref x) H2) E
def Binds(K:W.Frag)(fd:FuncData)(ps:List Str)(ds:List Value):Prop:=
 ∀ (s:Shared) (us:List Value),K.In s.heap->(us ++ ds).length=ps.length->BindsTo s fd ⟨us,[]⟩ (ps.zip (us ++ ds))
theorem Binds.all{K:W.Frag}{fd:FuncData}{ps:List Str}(h:∀ us:List Value,us.length=ps.length->bindArgs fd ⟨us,[]⟩=pure (ps.zip us)):Binds K fd ps []:=fun s us _ hl=>by
 rw [append_nil] at hl ⊢
 exact .of_eq (h us hl)
def a4f(CX:CXT)(X:Cx)(E:XK):Prop:=∀ (pins:List (Addr × Obj)) (σ:St) (H:Hp) (s:Shared) (e:Value) (s':Shared),Inv X pins σ H s->CX X.stack H s E e s'->X.xe e s'
section
variable{X:Cx}{CX:CXT}{k:Nat}{f C:Addr}{fd:FuncData}{ps:List Str}{sp:Sp}{dvs:List V}{ds:List Value}{E:XK}{x m:Str}{p pos apos:Pos}{e o:Expr}{es:List Expr}{ta:TE}{t:TA}
theorem b2h{pins:List (Addr × Obj)}{σ:St}{H:Hp}{s:Shared}{Q:VK}{us:List Value}{vs:List V}(F:FnOk X.prog X.w X.K X.mg X.base CX k f fd ps sp)(hr:Room k X.A)(hb:Binds X.K fd ps ds)(hd:Vals dvs ds)(hx:a4f CX X E)
  (I:Inv X pins σ H s) (r:Vals vs us) (h:sp (vs ++ dvs) H Q E):wpAny (model X.prog X.w) X.A (call (.ref f) us) (EP X pins σ Q) X.xe s:=by
 have r2:Vals (vs ++ dvs) (us ++ ds):=r.append hd
 have hl:(us ++ ds).length=ps.length:=by rw [← r2.length];exact F.len _ _ _ _ h
 refine wpAny_call (codeAny_mono (F.run X.A X.stack s H ⟨us,[]⟩ (us ++ ds) (vs ++ dvs) Q E hr I.env0 (hb s us I.kIn hl) r2 h) fun r s' hq=>?_)
 cases r with
 | error e=>exact hx pins σ H s e s' I hq
 | ok fl =>
  cases fl with
  | ret u=>exact I.after hq
  | next=>exact False.elim hq
  | brk=>exact False.elim hq
  | cont=>exact False.elim hq
theorem b8o(F:FnOk X.prog X.w X.K X.mg X.base CX k f fd ps sp)(hr:Room k X.A)(hg:Gl X x)(hm:X.mg x=some (.ref f))(hk:PySem.W.keepIn X.K (.ref f)=true)(hb:Binds X.K fd ps ds)(hd:Vals dvs ds)(hx:a4f CX X E)
  (ha:PA X (e :: es) t) (hdb:(x == ("__debug__" : Str))=false:=by decide) (he:starEach (e :: es) X.env=(false,eval e X.env) :: starEach es X.env:=by rfl) (hpl:(backTo pos (starEach es X.env)).any (·.1)=false:=by rfl) :
  PE X (.Call (.Name x p) (e :: es) [] pos) (b0p sp dvs E t):=by
 intro pins s σ H Q I h
 refine wpAny_Call_Name_kw (a6p I hg hm ?_ hdb)
 refine PySem.W.callWith_K (h₀:=X.base) I.ok.mod.kin hk (thn (ha pos pins s σ H _ I h) fun us s1 ⟨vs,H1,I1,r,q⟩=>⟨I1.kIn,?_⟩) he hpl
 exact b2h F hr hb hd hx I1 r q
theorem a7z{pl:Sem Bool}(he:PE X o ta)(c:Cls X.K C)(hm:Meth X.K C m f)(F:FnOk X.prog X.w X.K X.mg X.base CX k f fd ps sp)(hr:Room k X.A)(hb:Binds X.K fd ps ds)(hd:Vals dvs ds)(hx:a4f CX X E)(ha:PA X (e :: es) t)
  (hst:starEach (e :: es) X.env=(false,eval e X.env) :: starEach es X.env:=by rfl) (hpl:(backTo pos (starEach es X.env)).any (·.1)=false:=by rfl)
  (ht:eval (.Call (.Attribute o m apos) (e :: es) [] pos) X.env=(do
   let ov ← eval o X.env
   standAt apos.atName
   let (f,first) ← holding [ov] (getMethod ov m pl)
   callWith pos f first (backTo pos (starEach (e :: es) X.env)) (backToKw pos (keywordEach [] X.env))):=by rfl) :
  PE X (.Call (.Attribute o m apos) (e :: es) [] pos) (c0f C m sp dvs E ta t):=by
 intro pins s σ H Q I h
 refine PySem.W.methodCall_KW (pl:=pl) (thn (he pins s σ H _ I h) fun u s1 hq8=>?_) ht
 obtain⟨x,H1,I1,rx,a,dx,fs,ex,ea,l,q⟩:=hq8
 subst ex
 obtain rfl:u=Value.ref a:=rx
 refine b2f I1 ea c hm l ?_
 refine PySem.W.callWith_K (first:=[.ref a]) (h₀:=X.base) I.ok.mod.kin hm.kp (thn (ha pos pins s1 σ H1 _ I1 q) fun us s2 ⟨vs,H2,I2,r,q2⟩=>⟨I2.kIn,?_⟩) hst hpl
 exact b2h (us:=.ref a :: us) (vs:=.ref a :: vs) F hr hb hd hx I2 (.cons rfl r) q2
theorem b1q{pl:Sem Bool}(he:PE X o ta)(c:Cls X.K C)(hm:Meth X.K C m f)(F:FnOk X.prog X.w X.K X.mg X.base CX k f fd ps sp)(hr:Room k X.A)(hb:Binds X.K fd ps ds)(hd:Vals dvs ds)(hx:a4f CX X E)
  (ht:eval (.Call (.Attribute o m apos) [] [] pos) X.env=(do
   let ov ← eval o X.env
   standAt apos.atName
   let (f,first) ← holding [ov] (getMethod ov m pl)
   callWith pos f first (backTo pos (starEach [] X.env)) (backToKw pos (keywordEach [] X.env))):=by rfl) :
  PE X (.Call (.Attribute o m apos) [] [] pos) (c0f C m sp dvs E ta tNil):=by
 intro pins s σ H Q I h
 refine PySem.W.methodCall_KW (pl:=pl) (thn (he pins s σ H _ I h) fun u s1 hq8=>?_) ht
 obtain⟨x,H1,I1,rx,a,dx,fs,ex,ea,l,q⟩:=hq8
 subst ex
 obtain rfl:u=Value.ref a:=rx
 refine b2f I1 ea c hm l ?_
 exact PySem.W.callWith_K0 (first:=[.ref a]) I1.kIn hm.kp (b2h (us:=[.ref a]) (vs:=[.ref a]) F hr hb hd hx I1 (.cons rfl .nil) q)
structure Mk(K:W.Frag)(C f:Addr):Prop where
 makes:PySem.W.makesIn K C=true
 init:PySem.W.findIn K (.ref C) "__init__" = some (some (.ref f))
 fn:PySem.W.isFn K (.ref f)=true
 kp:PySem.W.keepIn K (.ref C)=true
theorem c6c{pins:List (Addr × Obj)}{σ:St}{H:Hp}{s:Shared}{Q:VK}{us:List Value}{vs:List V}(M:Mk X.K C f)(F:FnOk X.prog X.w X.K X.mg X.base CX k f fd ps sp)(hr:Room (k + 1) X.A)(hb:Binds X.K fd ps ds)(hd:Vals dvs ds)
  (hx:a4f CX X E) (I:Inv X pins σ H s) (r:Vals vs us)
  (h:∀ x dx,H x=none->H dx=none->dx ≠ x->sp (.ref x :: (vs ++ dvs)) (upd (upd H dx (.own x)) x (.ins C dx [])) (fun v H2=>v=.non/\Q (.ref x) H2) E) :
  wpAny (model X.prog X.w) X.A (call (.ref C) us) (EP X pins σ Q) X.xe s:=by
 have hq:=h (s.heap.objs.size + 1) s.heap.objs.size (I.hok.fresh (le_succ _)) (I.hok.fresh (le_refl _)) (ne_of_lt (Nat.lt_succ_self _))
 have I2:=Inv.made (C:=C) I
 have r2:Vals (V.ref (s.heap.objs.size + 1) :: (vs ++ dvs)) (Value.ref (s.heap.objs.size + 1) :: (us ++ ds)):=.cons rfl (r.append hd)
 have hl:(Value.ref (s.heap.objs.size + 1) :: us ++ ds).length=ps.length:=by
  have e:=r2.length
  rw [F.len _ _ _ _ hq] at e
  exact e.symm
 refine wpAny_call (c6b (f:=f) I.kIn M.makes M.init (beq_iff_eq.mp M.fn) (codeAny_mono (F.run _ X.stack _ _ ⟨Value.ref (s.heap.objs.size + 1) :: us,[]⟩ (Value.ref (s.heap.objs.size + 1) :: (us ++ ds)) _ _ E (hr.make C us [])
  (I2.env0.make C us []) (hb _ (Value.ref (s.heap.objs.size + 1) :: us) I2.kIn hl) r2 hq) fun r s' hq'=>?_))
 cases r with
 | error e=>exact hx pins σ _ _ e s' I2 hq'
 | ok fl =>
  cases fl with
  | ret u =>
   obtain⟨v,H',I3,rv,ev,q3⟩:=I2.after hq'
   subst ev
   exact⟨rv,⟨V.ref (s.heap.objs.size + 1),H',I3,rfl,q3⟩⟩
  | next=>exact False.elim hq'
  | brk=>exact False.elim hq'
  | cont=>exact False.elim hq'
theorem d0l(M:Mk X.K C f)(F:FnOk X.prog X.w X.K X.mg X.base CX k f fd ps sp)(hr:Room (k + 1) X.A)(hg:Gl X x)(hm:X.mg x=some (.ref C))(hb:Binds X.K fd ps ds)(hd:Vals dvs ds)(hx:a4f CX X E)
  (ha:PA X (e :: es) t) (hdb:(x == ("__debug__" : Str))=false:=by decide) (he:starEach (e :: es) X.env=(false,eval e X.env) :: starEach es X.env:=by rfl) (hpl:(backTo pos (starEach es X.env)).any (·.1)=false:=by rfl) :
  PE X (.Call (.Name x p) (e :: es) [] pos) (tMake C sp dvs E t):=by
 intro pins s σ H Q I h
 refine wpAny_Call_Name_kw (a6p I hg hm ?_ hdb)
 refine PySem.W.callWith_K (h₀:=X.base) I.ok.mod.kin M.kp (thn (ha pos pins s σ H _ I h) fun us s1 ⟨vs,H1,I1,r,q⟩=>⟨I1.kIn,?_⟩) he hpl
 exact c6c M F hr hb hd hx I1 r q
end
section
variable{X:Cx}{CX:CXT}{k:Nat}{f C:Addr}{fd:FuncData}{ps ks:List Str}{sp:Sp}{E:XK}{x m:Str}{p pos apos kpos:Pos}{e o:Expr}{es:List Expr}{kws:List Keyword}{te ta:TE}{t tk:TA}{nm:Option Str}
variable{g:List Value->List Value->List Value}{gV:List V->List V->List V}
end
structure FnScope(N P:List Str)(sc:Scope):Prop where
 kind:sc.kind=.function
 co:sc.isCoroutine=false
 gen:sc.isGenerator=false
 nd:N.Nodup
 pre:N.take P.length=P
 par:∀ x ∈ P,sc.names.lookup x=some .local ∨ sc.names.lookup x=some .cell
 nofree:∀ y ∈ sc.names,y.2 ≠ .free
theorem b4c{kindOf:Str->Option NameKind}{x:Str}:∀ {binds:List (Str × Value)} {m:Str->Option Value},(∀ v,(x,v) ∉ binds)->bindL kindOf binds m x=m x
 | [],_,_=>rfl
 | (n,v) :: r,m,h=>by
  unfold bindL
  rw [b4c fun w hw=>h w (mem_cons_of_mem _ hw)]
  split
  ·have:x ≠ n:=by rintro rfl;exact h v mem_cons_self
   simp [this]
  ·rfl
theorem b4d{kindOf:Str->Option NameKind}{x:Str}:∀ {binds:List (Str × Value)} {m:Str->Option Value},(∀ v,(x,v) ∉ binds)->bindC kindOf binds m x=m x
 | [],_,_=>rfl
 | (n,v) :: r,m,h=>by
  unfold bindC
  rw [b4d fun w hw=>h w (mem_cons_of_mem _ hw)]
  split
  ·rfl
  ·have:x ≠ n:=by rintro rfl;exact h v mem_cons_self
   simp [this]
theorem b4e{kindOf:Str->Option NameKind}{x:Str}{v:Value}:∀ {P:List Str} {vs:List Value} {i:Nat} {m:Str->Option Value},P.Nodup->P[i]? = some x->vs[i]? = some v->kindOf x=some .local ->
  bindL kindOf (P.zip vs) m x=some v
 | [],_,_,_,_,h,_,_=>by simp at h
 | _ :: _,[],_,_,_,_,h,_=>by simp at h
 | p :: P,w :: vs,0,m,nd,h1,h2,hk=>by
  simp at h1 h2;subst h1;subst h2
  show bindL kindOf ((p,w) :: P.zip vs) m p=_
  unfold bindL
  rw [b4c fun v hv=>(nodup_cons.mp nd).1 (of_mem_zip hv).1,if_pos hk]
  simp
 | p :: P,w :: vs,i + 1,m,nd,h1,h2,hk=>by
  show bindL kindOf ((p,w) :: P.zip vs) m x=_
  unfold bindL
  exact b4e (i:=i) (nodup_cons.mp nd).2 (by simpa using h1) (by simpa using h2) hk
theorem b4f{kindOf:Str->Option NameKind}{x:Str}{v:Value}:∀ {P:List Str} {vs:List Value} {i:Nat} {m:Str->Option Value},P.Nodup->P[i]? = some x->vs[i]? = some v->kindOf x ≠ some .local ->
  bindC kindOf (P.zip vs) m x=some v
 | [],_,_,_,_,h,_,_=>by simp at h
 | _ :: _,[],_,_,_,_,h,_=>by simp at h
 | p :: P,w :: vs,0,m,nd,h1,h2,hk=>by
  simp at h1 h2;subst h1;subst h2
  show bindC kindOf ((p,w) :: P.zip vs) m p=_
  unfold bindC
  rw [b4d fun v hv=>(nodup_cons.mp nd).1 (of_mem_zip hv).1,if_neg hk]
  simp
 | p :: P,w :: vs,i + 1,m,nd,h1,h2,hk=>by
  show bindC kindOf ((p,w) :: P.zip vs) m x=_
  unfold bindC
  exact b4f (i:=i) (nodup_cons.mp nd).2 (by simpa using h1) (by simpa using h2) hk
noncomputable def start(N:List Str)(vs:List V):St:=vs.map some ++ List.replicate (N.length - vs.length) none
noncomputable def cxOf(CX:CXT)(P:Program)(w:World)(K:W.Frag)(mg:Str->Option Value)(base:Heap)(N:List Str)(qual:Str)(scope:Scope)(f:Addr)(cd:Value)(A:Around)(outer:List Env)(s:Shared)(H:Hp)(E:XK):Cx where
 prog:=P
 w:=w
 K:=K
 mg:=mg
 base:=base
 A:=A.deeper (envOfC qual scope s.heap.objs.size f cd)
 N:=N
 s₀:=s
 H₀:=H
 env:=envOfC qual scope s.heap.objs.size f cd
 outer:=outer
 stack:=envOfC qual scope s.heap.objs.size f cd :: outer
 ex:=[]
 calm:=true
 fn:=fun _=>true
 pn:=[]
 xe:=fun e s'=>wpAny (model P w) (A.deeper (envOfC qual scope s.heap.objs.size f cd)) (leaving (envOfC qual scope s.heap.objs.size f cd) e) (fun _ s''=>CX outer H s E e s'') (fun e' s''=>CX outer H s E e' s'') s'
theorem b6g{sc:Scope}{n:Nat}{x:Str}(h:sc.names.lookup x=some .cell):∃ c,(cellsFrom n sc.names []).lookup x=some c:=by
 have q:=PySem.W.cellsFrom_some sc.names n [] (.inl h)
 exact Option.isSome_iff_exists.mp q
theorem b4g{CX:CXT}{P:Program}{w:World}{K:W.Frag}{mg:Str->Option Value}{base:Heap}{N ps:List Str}{qual:Str}{scope:Scope}{f:Addr}{cd:Value}{A:Around}{outer:List Env}{s s1:Shared}{H:Hp}{E:XK}{us:List Value}{vs:List V}
  (S:FnScope N ps scope) (hd:A.handled=none) (e0:Env0 P w K mg base A outer s H) (hl:vs.length=ps.length) (r:Vals vs us)
  (x:InCallC s s.heap.objs.size (bindL (envOfC qual scope s.heap.objs.size f cd).kindOf (ps.zip us) fun _=>none) (cellsFrom (s.heap.objs.size + 1) scope.names []) (bindC (envOfC qual scope s.heap.objs.size f cd).kindOf (ps.zip us) fun _=>none) s1) :
  Inv (cxOf CX P w K mg base N qual scope f cd A outer s H E) [] (start N vs) H s1:=by
 have hpl:ps.length <= N.length:=by have:=congrArg List.length S.pre;rw [length_take] at this;omega
 obtain⟨h1,tk,rfl,hk⟩:=x.done
 have noA:∀ b:Addr,b ∉ (cxOf CX P w K mg base N qual scope f cd A outer s H E).ex:=fun b z=>absurd (show b ∈ ([]:List Addr) from z) (by simp)
 refine⟨⟨e0.mod,S.kind,rfl,rfl,le_refl _,fun y z c h1 h2=>?_,fun y hy=>?_,fun y c _ h=>?_,fun _=>hd,Around.frames_deeper e0.frames,.inr ⟨rfl,rfl⟩,fun b z=>absurd z (noA b),e0.bs,e0.bsz,fun b _ _=>noA b,fun b z=>absurd z (noA b),e0.funs,e0.frf⟩,
  rfl,e0.bare,Un.kept hk,⟨_,x.toInCall.ns,fun i y v h1 h2 h3=>?_⟩,fun y c h=>⟨_,x.cell y c h⟩,e0.hok.fresh (le_refl _),fun y c h=>?_,fun p hp=>absurd (show p ∈ ([]:List (Addr × Obj)) from hp) (by simp),e0.hok.kept hk,?_⟩
 ·exact name_of_addr x.apart (PySem.mem_of_lookup h1) (PySem.mem_of_lookup h2)
 ·have hy:scope.names.lookup y=some .cell ∨ scope.names.lookup y=some .free:=hy
  rcases hy with hy | hy
  ·exact b6g hy
  ·exact absurd rfl (S.nofree _ (PySem.mem_of_lookup hy))
 ·exact le_of_lt (x.above y c (PySem.mem_of_lookup h))
 ·have hi:i < vs.length:=by
   unfold start at h2
   by_cases hi:i < vs.length
   ·exact hi
   ·rw [getElem?_append_right (by simpa using hi)] at h2
    rw [List.getElem?_replicate] at h2
    split at h2<;>cases h2
  have ha:vs[i]? = some v:=by
   unfold start at h2
   rw [List.getElem?_append_left (by simpa using hi),getElem?_map] at h2
   cases e:vs[i]? with
   | none=>rw [e] at h2;cases h2
   | some a=>rw [e] at h2;cases h2;rfl
  obtain⟨u,hu,rv⟩:=r.get ha
  have hp:ps[i]? = some y:=by
   rw [← S.pre,List.getElem?_take_of_lt (by omega)];exact h1
  have ndP:ps.Nodup:=by rw [← S.pre];exact S.nd.sublist (List.take_sublist _ _)
  refine⟨u,rv,?_⟩
  rcases S.par y (mem_of_getElem? hp) with k | k
  ·exact .inl ⟨k,b4e ndP hp hu k⟩
  ·obtain⟨c,e⟩:=b6g (n:=s.heap.objs.size + 1) k
   refine .inr ⟨.inl k,c,e,?_⟩
   have q:=x.cell y c e
   rw [b4f ndP hp hu (by show scope.names.lookup y ≠ _;rw [k];decide)] at q
   exact q
 ·exact e0.hok.fresh (le_of_lt (x.above y c (PySem.mem_of_lookup h)))
 ·unfold start
  show _=N.length
  rw [length_append,length_map,length_replicate]
  omega
theorem c0g{CX:CXT}{P:Program}{w:World}{K:W.Frag}{mg:Str->Option Value}{base:Heap}{k:Nat}{f:Addr}{name qual:Str}{params:Arguments}{body:List Stmt}{scope:Scope}{dV kV doc pm cdv ct oc:Value}{an od:Option Addr}
  {osl:Array (Option Value)} {N ps:List Str} {sp:Sp} (lk:K.lookup f=some ⟨oc,od,.func (PySem.W.fnOf name qual params body scope dV kV doc pm an cdv ct),osl⟩) (hcd:PySem.W.codeIn K cdv qual=true) (S:FnScope N ps scope)
  (len:∀ vs H Q E,sp vs H Q E->vs.length=ps.length)
  (hbody:∀ (A:Around) (outer:List Env) (s:Shared) (H:Hp) (vs:List V) (Q:VK) (E:XK),Room k (A.deeper (envOfC qual scope s.heap.objs.size f cdv))->sp vs H Q E ->
   ∃ t,PSs (cxOf CX P w K mg base N qual scope f cdv A outer s H E) body t/\t { nx:=fun _ H'=>Q .non H',rt:=Q } (start N vs) H) :
  FnOk P w K mg base CX (k + 1) f (PySem.W.fnOf name qual params body scope dV kV doc pm an cdv ct) ps sp:=by
 refine⟨len,fun A outer s H args us vs Q E hr e0 hb r hsp=>?_⟩
 have hl:=len _ _ _ _ hsp
 have KX:K.In s.heap:=e0.mod.kin.keeps fun b o e=>(e0.bs b o e).1
 have lim:s.heap.NoLimit:=e0.mod.nolimit.keeps fun b o e=>(e0.bs b o e).1
 have hkind:∀ y ∈ ps.zip us,scope.names.lookup y.1=some .local ∨ (scope.names.lookup y.1=some .cell/\((cellsFrom (s.heap.objs.size + 1) scope.names []).lookup y.1).isSome=true):=fun⟨n,v⟩ hy=>by
  rcases S.par n (of_mem_zip hy).1 with q | q
  ·exact .inl q
  ·exact .inr ⟨q,PySem.W.cellsFrom_some _ _ _ (.inl q)⟩
 refine codeAny_call_function hr.depth (KX _ _ lk) rfl S.co S.gen rfl (PySem.W.codeRec_of KX hcd) (hb _ _ _ _ ?_)
 refine wpAny_newFunctionEnv_cells S.kind hkind fun env he s1 x=>?_
 subst he
 refine⟨lim.keeps x.toInCall.keep,codeAny_func ?_⟩
 obtain⟨t,ht,hq⟩:=hbody A outer s H vs Q E (hr.deeper _) hsp
 have I:Inv (cxOf CX P w K mg base N qual scope f cdv A outer s H E) [] (start N vs) H s1:=b4g S hr.hd e0 hl r x
 refine wpAny_mono (ht [] s1 (start N vs) H _ I hq) (fun fl s' hs=>?_) fun e s' hs=>hs
 have fin:∀ {σ':St} {H':Hp} {v:V} {u:Value},Inv (cxOf CX P w K mg base N qual scope f cdv A outer s H E) [] σ' H' s'->RelV v u->Q v H'->CE outer P w H s Q u s':=
  fun{σ' H' v u} J rv q=>⟨v,H',J.os,J.bare,J.base,J.hok,rv,q⟩
 cases fl with
 | ret u =>
  obtain⟨v,σ',H',J,rv,q⟩:=hs
  exact fin J rv q
 | next =>
  obtain⟨σ',H',J,q⟩:=hs
  exact fin (v:=V.non) (u:=Value.none) J rfl q
 | brk =>
  obtain⟨_,_,_,q⟩:=hs
  exact False.elim q
 | cont =>
  obtain⟨_,_,_,q⟩:=hs
  exact False.elim q
end L2
namespace L2
open PySem PySem.Spec PyProof.Rows
section
variable{X:Cx}{x:Str}{p pos:Pos}{e:Expr}{es:List Expr}{t:TA}{id T:String}{r:List V->Hp->VK->Prop}
def tCB(r:List V->Hp->VK->Prop)(t:TA):TE:=fun σ H Q=>t σ H fun vs H1=>r vs H1 Q
theorem a2k(hc:a1x X (.builtin id) r)(hg:Gl X x)(hm:X.mg x=none)(hv:bootBuiltins x=some (.builtin id))(ha:PA X (e :: es) t) (hn:x ≠ "__name__":=by decide) (hdb:(x == ("__debug__" : Str))=false:=by decide)
  (he:starEach (e :: es) X.env=(false,eval e X.env) :: starEach es X.env:=by rfl) (hpl:(backTo pos (starEach es X.env)).any (·.1)=false:=by rfl):PE X (.Call (.Name x p) (e :: es) [] pos) (tCB r t):=by
 intro pins s σ H Q I h
 refine wpAny_Call_Name_kw (a9s I hg hm hv ?_ hn hdb)
 exact PyProof.Rows.callWith_builtin1 (thn (ha pos pins s σ H _ I h) fun us s1 hq8=>by obtain⟨vs,H1,I1,r1,q1⟩:=hq8;exact hc pins s1 σ H1 vs us Q I1 r1 q1) he hpl
theorem a3a(hc:a1x X (.type T) r)(hg:Gl X x)(hm:X.mg x=none)(hv:bootBuiltins x=some (.type T))(ha:PA X (e :: es) t) (hn:x ≠ "__name__":=by decide) (hdb:(x == ("__debug__" : Str))=false:=by decide)
  (he:starEach (e :: es) X.env=(false,eval e X.env) :: starEach es X.env:=by rfl) (hpl:(backTo pos (starEach es X.env)).any (·.1)=false:=by rfl):PE X (.Call (.Name x p) (e :: es) [] pos) (tCB r t):=by
 intro pins s σ H Q I h
 refine wpAny_Call_Name_kw (a9s I hg hm hv ?_ hn hdb)
 exact PyProof.Rows.callWith_type1 (thn (ha pos pins s σ H _ I h) fun us s1 hq8=>by obtain⟨vs,H1,I1,r1,q1⟩:=hq8;exact hc pins s1 σ H1 vs us Q I1 r1 q1) he hpl
end
end L2
namespace HT
open PySem PyProof.Rows
section
open PySem.SeqAt
open PySem.AutoSeq1 (wpAny_loadPart')
open PySem.MeetsSeq PySem.MeetsSeq2 PySem.MeetsSeq3
end
section
variable{prog:Program}{w:World}{A:Around}{E:Value->Shared->Prop}{s:Shared}
theorem d0m{t b:Addr}{vs ws:List Value}{Q:Value->Shared->Prop}(ht:IsTup s.heap t vs.toArray)(hb:IsTup s.heap b ws.toArray)(hv:vs ≠ [])
  (h1:ws=[]->Q (.ref t) s) (h2:ws ≠ []->Q (.ref s.heap.objs.size) { s with heap:=s.heap.push { cls:=.type "tuple",data:=.seq (vs ++ ws).toArray } })
  (hsz:vs.length + ws.length <= sizeLine):wpAny (model prog w) A (binaryOp .Add (.ref t) (.ref b)) Q E s:=by
 obtain⟨⟨cls,dd,data,sl⟩,ho,hc,n,hd⟩:=id ht
 obtain⟨⟨cls2,dd2,data2,sl2⟩,ho2,hc2,n2,hd2⟩:=id hb
 simp only at hc hd hc2 hd2
 subst hc hd hc2 hd2
 have e:vs.toArray ++ ws.toArray=(vs ++ ws).toArray:=by simp
 by_cases hw:ws=[]
 ·exact concat_meets ⟨_,ho,rfl⟩ ⟨_,ho2,rfl⟩ noFill_tuple_add seq_tuple_add PySem.F.slot_tuple_add PySem.F.entry_tuple_add (PySem.F.args_tuple_add_2 _ _)
   (tuple_addW1 t b vs.toArray ws.toArray n n2 dd dd2 sl sl2 (by simpa using hv) (by simp [hw])) ⟨ho,ho2,h1 hw⟩
 ·refine concat_meets ⟨_,ho,rfl⟩ ⟨_,ho2,rfl⟩ noFill_tuple_add seq_tuple_add PySem.F.slot_tuple_add PySem.F.entry_tuple_add (PySem.F.args_tuple_add_2 _ _)
   (tuple_addW2 t b vs.toArray ws.toArray n n2 dd dd2 sl sl2 (by simpa using hv) (by simpa using hw) (by rw [size_toArray,size_toArray];exact hsz)) ⟨ho,ho2,?_⟩
  rw [e]
  exact h2 hw
noncomputable def sIx(n d:Nat):Option Int->Nat
 | none=>d
 | some v=>if v < 0 then(v + (n:Int)).toNat else min v.toNat n
end
end HT
namespace L2
open PySem PySem.Spec PyProof.Rows
abbrev TO:=St->Hp->(Option Int->Hp->Prop)->Prop
def PO(X:Cx)(e:Option Expr)(t:TO):Prop:=
 ∀ (pins:List (Addr × Obj)) (s:Shared) (σ:St) (H:Hp) (Q:Option Int->Hp->Prop),Inv X pins σ H s->t σ H Q ->
  wpAny (model X.prog X.w) X.A (evalPart e X.env) (fun u s'=>∃ o H',Inv X pins σ H' s'/\IsPart u o/\Q o H') X.xe s
noncomputable def b8p:TO:=fun _ H Q=>Q none H
def c9f(t:TE):TO:=fun σ H Q=>t σ H fun x H1=>∃ i,x=.int i/\Q (some i) H1
section
variable{X:Cx}{e:Expr}{te:TE}{lo hi:Option Expr}{tl th:TO}{pos p2:Pos}
theorem d0n:PO X none b8p:=by
 intro pins s σ H Q I h
 rw [evalPart_none]
 exact wpAny_pure ⟨none,H,I,.none,h⟩
theorem d0o(h:PE X e te):PO X (some e) (c9f te):=by
 intro pins s σ H Q I hw
 rw [evalPart_some]
 refine thn (h pins s σ H _ I hw) fun u s1 hq9=>?_
 obtain⟨x,H1,I1,r1,q1⟩:=hq9
 obtain⟨i,rfl,q⟩:=q1
 obtain⟨t,rfl⟩:=r1
 exact⟨some i,H1,I1,.int i t,q⟩
def SlR(X:Cx)(r:V->Option Int->Option Int->Hp->VK->Prop):Prop:=
 ∀ (pins:List (Addr × Obj)) (s:Shared) (σ:St) (H:Hp) (x:V) (v vl vu:Value) (lo hi:Option Int) (sl:Addr) (Q:VK),Inv X pins σ H s->RelV x v->s.heap.IsSliceOf sl vl vu .none->IsPart vl lo->IsPart vu hi->r x lo hi H Q ->
  ∃ T id,typeLookup (.type T) "__getitem__" = pure (some (.builtin id))/\s.TypeIs v T/\wpAny (model X.prog X.w) X.A (getItem v (.ref sl)) (EP X pins σ Q) X.xe s
def tSl(r:V->Option Int->Option Int->Hp->VK->Prop)(te:TE)(tl th:TO):TE:=fun σ H Q=>te σ H fun x H1=>tl σ H1 fun l H2=>th σ H2 fun u H3=>r x l u H3 Q
theorem c6d{r:V->Option Int->Option Int->Hp->VK->Prop}(hr:SlR X r)(he:PE X e te)(hl:PO X lo tl)(hu:PO X hi th):PE X (.Subscript e (.Slice lo hi none p2) pos) (tSl r te tl th):=by
 intro pins s σ H Q I h
 refine Subscript_ (thn (he pins s σ H _ I h) fun v s1 hq9=>?_)
 obtain⟨x,H1,I1,r1,q1⟩:=hq9
 refine wpAny_Slice (thn (hl pins s1 σ H1 _ I1 q1) fun vl s2 ⟨l,H2,I2,pl,q2⟩=>thn (hu pins s2 σ H2 _ I2 q2) fun vu s3 hq9=>?_)
 obtain⟨u,H3,I3,pu,q3⟩:=hq9
 rw [evalPart_none]
 refine wpAny_pure ?_
 have I4:Inv X pins σ H3 { s3 with heap:=s3.heap.push { cls:=.type "slice",data:=.fields #[vl,vu,.none] } }:=I3.kept (t':=s3.toks) fun b ob q=>get?_push_of_some _ q
 obtain⟨T,id,hT,ht,hg⟩:=hr pins { s3 with heap:=s3.heap.push { cls:=.type "slice",data:=.fields #[vl,vu,.none] } } σ H3 x v vl vu l u s3.heap.objs.size Q I4 r1 (Heap.IsSliceOf.new ..) pl pu q3
 show wpAny (model X.prog X.w) X.A (subscriptTail e (.Slice lo hi none p2) v (.ref s3.heap.objs.size)) (EP X pins σ Q) X.xe { s3 with heap:=s3.heap.push { cls:=.type "slice",data:=.fields #[vl,vu,.none] } }
 exact tail_any (ops:=[.ref s3.heap.objs.size,v]) ht hT hg (by with_unfolding_all rfl)
def c9g(K:W.Frag):R2:=fun x y H Q=>∃ a b xs ys,x=.ref a/\y=.ref b/\SqT K H a xs/\SqT K H b ys/\xs ≠ []/\xs.length + ys.length <= sizeLine /\
 (ys=[]->Q (.ref a) H)/\(ys ≠ []->∀ p,H p=none->Q (.ref p) (upd H p (.tup (xs ++ ys))))
theorem Vals.nil_iff{xs:List V}{us:List Value}(r:Vals xs us):us=[] ↔ xs=[]:=by
 cases r with
 | nil=>simp
 | cons _ _=>simp
theorem d0p:OpR X (binaryOp .Add) (c9g X.K):=by
 intro pins s σ H x y v u Q I rx ry h
 obtain⟨a,b,xs,ys,rfl,rfl,ha,hb,hx,hz,q1,q2⟩:=h
 cases rx
 cases ry
 obtain⟨its,r1,p1,_⟩:=I.tuple ha
 obtain⟨its2,r2,p2,_⟩:=I.tuple hb
 refine HT.d0m p1 p2 (fun z=>hx (r1.nil_iff.mp z)) (fun z=>⟨.ref a,H,I,rfl,q1 (r2.nil_iff.mp z)⟩) (fun z=>?_) (by rw [← r1.length,← r2.length];exact hz)
 refine⟨.ref s.heap.objs.size,_,I.laid (t':=s.toks) (o:=.tup (xs ++ ys)) (fun b ob q=>get?_push_of_some _ q) (le_refl _) ?_,rfl,q2 (fun w=>z (r2.nil_iff.mpr w)) _ (I.hok.fresh (le_refl _))⟩
 exact⟨by rw [length_append];exact hz,_,r1.append r2,a4u.new _ _⟩
end
end L2
namespace L2
open PySem PySem.Spec PyProof.Rows
noncomputable def ixN(n:Nat)(i:Int):Option Nat:=if 0 <= i then(if i < n then some i.toNat else none) else if -(n:Int) <= i then some (i + n).toNat else none
noncomputable def atI{α:Type}(xs:List α)(i:Int):Option α:=(ixN xs.length i).bind fun j=>xs[j]?
theorem b8q{n:Nat}{i:Int}{j:Nat}(h:ixN n i=some j):seqIndex? i n=some j/\j < n /\ -(n:Int) <= i/\i < n:=by
 unfold ixN at h
 by_cases h0:0 <= i
 ·rw [if_pos h0] at h
  by_cases h1:i < n
  ·rw [if_pos h1] at h
   have e:i.toNat=j:=Option.some.inj h
   exact⟨by rw [seqIndex_of h0 h1,e],by omega,by omega,h1⟩
  ·rw [if_neg h1] at h;cases h
 ·rw [if_neg h0] at h
  by_cases h1:-(n:Int) <= i
  ·rw [if_pos h1] at h
   have e:(i + n).toNat=j:=Option.some.inj h
   exact⟨by rw [seqIndex_neg (by omega) h1,e],by omega,h1,by omega⟩
  ·rw [if_neg h1] at h;cases h
theorem b3g{α:Type}{xs:List α}{i:Int}{v:α}(h:atI xs i=some v):∃ j,seqIndex? i xs.length=some j/\xs[j]? = some v/\j < xs.length /\ -(xs.length:Int) <= i/\i < xs.length:=by
 unfold atI at h
 cases e:ixN xs.length i with
 | none=>rw [e] at h;cases h
 | some j =>
  rw [e] at h
  obtain⟨h1,h2,h3,h4⟩:=b8q e
  exact⟨j,h1,h,h2,h3,h4⟩
theorem a2l{α:Type}{xs:List α}{j:Nat}{v:α}(h:xs[j]? = some v):atI xs (j:Int)=some v:=by
 have hj:j < xs.length:=(List.getElem?_eq_some_iff.mp h).1
 have e:ixN xs.length (j:Int)=some j:=by
  unfold ixN
  rw [if_pos (by omega),if_pos (by omega)];simp
 unfold atI;rw [e];exact h
def b8r(b:Expr):Prop:=∀ o i,subscripted b false o i=operate [o,i] (getItem o i)
def IxR(X:Cx)(r:R2):Prop:=
 ∀ (value slice:Expr) (pins:List (Addr × Obj)) (s:Shared) (σ:St) (H:Hp) (x y:V) (v u:Value) (Q:VK),Inv X pins σ H s->RelV x v->RelV y u->r x y H Q ->
  subscripted slice false v u=operate [v,u] (getItem v u)->wpAny (model X.prog X.w) X.A (subscriptTail value slice v u) (EP X pins σ Q) X.xe s
def MtR(X:Cx)(id:String)(r:V->List V->Hp->VK->Prop):Prop:=
 ∀ (pins:List (Addr × Obj)) (s:Shared) (σ:St) (H:Hp) (x:V) (xs:List V) (v:Value) (us:List Value) (Q:VK),Inv X pins σ H s->RelV x v->Vals xs us->r x xs H Q ->
  wpAny (model X.prog X.w) X.A (call (.builtin id) (v :: us)) (EP X pins σ Q) X.xe s
section
variable{X:Cx}{a b:Expr}{ta tb:TE}{pos:Pos}
theorem IxR.or{r r':R2}(h:IxR X r)(h':IxR X r'):IxR X (fun x y H Q=>r x y H Q ∨ r' x y H Q):=by
 intro value slice pins s σ H x y v u Q I rx ry q hs
 rcases q with q | q
 ·exact h value slice pins s σ H x y v u Q I rx ry q hs
 ·exact h' value slice pins s σ H x y v u Q I rx ry q hs
theorem a7l{r:R2}(hr:IxR X r)(ha:PE X a ta)(hb:PE X b tb)(hs:b8r b):PE X (.Subscript a b pos) (tOp r ta tb):=by
 intro pins s σ H Q I h
 exact Subscript_ (binT ha hb I h fun v u s2 x y H2 I2 rx ry q=>hr a b pins s2 σ H2 x y v u Q I2 rx ry q (hs _ _))
def rIxL(K:W.Frag):R2:=fun x y H Q=>∃ p xs i v,x=.ref p/\y=.int i/\SqL K H p xs/\atI xs i=some v/\Q v H
def rIxT(K:W.Frag):R2:=fun x y H Q=>∃ p xs i v,x=.ref p/\y=.int i/\SqT K H p xs/\atI xs i=some v/\Q v H
def rIxS:R2:=fun x y H Q=>∃ z i c,x=.str z/\y=.int i/\z.length <= sizeLine/\atI z.cps.toList i=some c/\Q (.str ⟨#[c]⟩) H
theorem a5g:IxR X (rIxL X.K):=by
 intro value slice pins s σ H x y v u Q I rx ry h hs
 obtain⟨p,xs,i,z,rfl,rfl,hq,he,q⟩:=h
 cases rx
 obtain⟨t,rfl⟩:=ry
 obtain⟨its,r,pl,hz⟩:=I.list hq
 obtain⟨j,h1,h2,h3,h4,h5⟩:=b3g he
 obtain⟨w,ew,rw'⟩:=r.get h2
 have hl:=r.length
 have hn:=a6x
 have fin:EP X pins σ Q w s:=⟨z,H,I,rw',q⟩
 by_cases h0:0 <= i
 ·have hj:i.toNat=j:=by
   rw [seqIndex_of h0 h5] at h1
   exact Option.some.inj h1
  exact item_listR pl.isList h0 (by omega) (by rw [hj];simpa using ew) fin hs
 ·have hj:(i + (its.toArray.size:Int)).toNat=j:=by
   rw [seqIndex_neg (by omega) h4] at h1
   rw [size_toArray,← hl]
   exact Option.some.inj h1
  exact subscriptTail_builtinR (x:=w) pl.isList.typeIs slot_list_getitem.lookup
   (wpAny_getItem_list_neg (Q:=fun r s'=>r=w/\EP X pins σ Q r s') pl.isList (by omega) (by rw [size_toArray]<;>omega) (by omega) (by rw [hj];simpa using ew) ⟨rfl,fin⟩) hs
theorem d4v:IxR X (rIxT X.K):=by
 intro value slice pins s σ H x y v u Q I rx ry h hs
 obtain⟨p,xs,i,z,rfl,rfl,hq,he,q⟩:=h
 cases rx
 obtain⟨t,rfl⟩:=ry
 obtain⟨its,r,pl,hz⟩:=I.tuple hq
 obtain⟨j,h1,h2,h3,h4,h5⟩:=b3g he
 obtain⟨w,ew,rw'⟩:=r.get h2
 have hl:=r.length
 have hn:=a6x
 have fin:EP X pins σ Q w s:=⟨z,H,I,rw',q⟩
 exact subscriptTail_builtinR (x:=w) pl.typeIs slot_tuple_getitem.lookup
  (getItem_tuple (j:=j) (Q:=fun r s'=>r=w/\EP X pins σ Q r s') pl (by omega) (by omega) (by rw [size_toArray,← hl];exact h1) (by simpa using ew) ⟨rfl,fin⟩) hs
theorem d4w:IxR X rIxS:=by
 intro value slice pins s σ H x y v u Q I rx ry h hs
 obtain⟨z,i,c,rfl,rfl,hz,he,q⟩:=h
 obtain⟨t,rfl⟩:=rx
 obtain⟨t',rfl⟩:=ry
 obtain⟨j,h1,h2,h3,h4,h5⟩:=b3g he
 have hl:z.cps.toList.length=z.length:=by simp [Str.length]
 rw [hl] at h1 h4 h5
 have hn:=a6x
 exact tail_any (typeIs_str s z t) slot_str_getitem.lookup (getItem_str (c:=c) (by
  have e1:decide (i < -(2 ^ 63:Int))=false:=decide_eq_false (by omega)
  have e2:decide (i ≥ 2 ^ 63)=false:=decide_eq_false (by omega)
  rw [e1,e2,Bool.or_false]) (by rw [h1];simpa using h2) ⟨.str ⟨#[c]⟩,H,I.tok _,⟨_,rfl⟩,q⟩) hs
def rIx(K:W.Frag):R2:=fun x y H Q=>rIxL K x y H Q ∨ rIxT K x y H Q ∨ rIxS x y H Q
theorem a0w:IxR X (rIx X.K):=a5g.or (d4v.or d4w)
theorem c0h(its:List Value)(n j:Nat)(u:Value):Obj.mapSeq (·.setIfInBounds j u) { cls:=.type "list",data:=.seq its.toArray n }={ cls:=.type "list",data:=.seq (its.set j u).toArray n }:=by
 simp [Obj.mapSeq]
theorem Inv.lst{pins:List (Addr × Obj)}{σ:St}{H:Hp}{s:Shared}{p:Addr}{xs:List V}(I:Inv X pins σ H s)(h:H p=some (.lst xs)) :
  ∃ (its:List Value) (n:Nat),Vals xs its/\s.heap.get? p=some { cls:=.type "list",data:=.seq its.toArray n }/\xs.length <= sizeLine:=by
 obtain⟨z,its,n,r,e⟩:=I.hok p _ h
 exact⟨its,n,r,e,z⟩
theorem Inv.lstUpd{pins:List (Addr × Obj)}{σ:St}{H:Hp}{s:Shared}{p:Addr}{xs ys:List V}{its its':List Value}{n n':Nat}{f:Obj->Obj}(I:Inv X pins σ H s)(h:H p=some (.lst xs))
  (ho:s.heap.get? p=some { cls:=.type "list",data:=.seq its.toArray n }) (hf:f { cls:=.type "list",data:=.seq its.toArray n }={ cls:=.type "list",data:=.seq its'.toArray n' }) (r:Vals ys its') (hz:ys.length <= sizeLine) (t:Nat) :
  Inv X pins σ (upd H p (.lst ys)) { s with heap:=s.heap.update p f,toks:=t }:=by
 have e:(s.heap.update p f).get? p=some { cls:=.type "list",data:=.seq its'.toArray n' }:=by
  rw [Heap.get?_update_self f ho (by rw [hf]<;>rfl),hf]
 refine I.write (x:=p) (e:=p) (by rw [h];trivial) (.inl rfl) (fun b u hb q=>(get?_update_other _ _ (Ne.symm hb)).trans q) ⟨_,e⟩ ?_
 exact⟨hz,its',n',r,e⟩
noncomputable def c9h:V->V->V->Hp->(Hp->Prop)->Prop:=fun o i v H Q=>∃ p xs k j,o=.ref p/\i=.int k/\H p=some (.lst xs)/\ixN xs.length k=some j/\Q (upd H p (.lst (xs.set j v)))
theorem set_list:PSet X c9h:=by
 intro pins s σ H o i v ov iv u Q I ro ri rv h
 obtain⟨p,xs,k,j,rfl,rfl,hp,hj,q⟩:=h
 cases ro
 obtain⟨t,rfl⟩:=ri
 obtain⟨its,n,r,ho,hz⟩:=I.lst hp
 obtain⟨h1,h2,h3,h4⟩:=b8q hj
 have hl:=r.length
 have hn:=a6x
 have I':Inv X pins σ (upd H p (.lst (xs.set j v))) { s with heap:=s.heap.update p (Obj.mapSeq (·.setIfInBounds j u)) }:=
  I.lstUpd hp ho (c0h its n j u) (r.set rv j) (by rw [length_set];exact hz) s.toks
 by_cases h0:0 <= k
 ·have hk:k.toNat=j:=by
   rw [seqIndex_of h0 h4] at h1
   exact Option.some.inj h1
  exact PySem.W.ki_setAt ho h0 (by omega) (by rw [size_toArray,← hl];exact h4) (by rw [hk];exact⟨_,I',q⟩)
 ·have hk:(k + (its.toArray.size:Int)).toNat=j:=by
   rw [seqIndex_neg (by omega) h3] at h1
   rw [size_toArray,← hl]
   exact Option.some.inj h1
  exact PySem.W.ki_setBack ho (by omega) (by rw [size_toArray,← hl];exact h3) (by omega) (by rw [hk];exact⟨_,I',q⟩)
noncomputable def a5p:V->Bool
 | .non=>true
 | .bl _=>true
 | .int _=>true
 | .str _=>true
 | _=>false
noncomputable def eqV:V->V->Bool
 | .non,.non=>true
 | .bl a,.bl b=>a == b
 | .bl a,.int b=>(if a then 1 else 0) == b
 | .int a,.bl b=>a == (if b then 1 else 0)
 | .int a,.int b=>a == b
 | .str a,.str b=>a == b
 | _,_=>false
theorem d4x{A:Around}{s:Shared}{y x:V}{u v:Value}(ry:RelV y u)(rx:RelV x v)(fy:a5p y=true)(fx:a5p x=true):SeqAt.EqAt A s u v (eqV y x):=by
 cases y with
 | non =>
  cases ry
  cases x with
  | non=>cases rx;exact SeqAt.EqAt.same _
  | bl b=>cases rx;exact SeqAt.EqAt.none_bool b
  | int b=>obtain⟨t,rfl⟩:=rx;exact SeqAt.EqAt.none_int b t
  | str b=>obtain⟨t,rfl⟩:=rx;exact SeqAt.EqAt.none_str b t
  | _=>exact absurd (show false=true from fx) Bool.false_ne_true
 | bl a =>
  cases ry
  cases x with
  | non=>cases rx;exact SeqAt.EqAt.bool_none a
  | bl b=>cases rx;exact SeqAt.EqAt.bool_bool a b
  | int b=>obtain⟨t,rfl⟩:=rx;exact SeqAt.EqAt.bool_int a b t
  | str b=>obtain⟨t,rfl⟩:=rx;exact SeqAt.EqAt.bool_str a b t
  | _=>exact absurd (show false=true from fx) Bool.false_ne_true
 | int a =>
  obtain⟨t',rfl⟩:=ry
  cases x with
  | non=>cases rx;exact SeqAt.EqAt.int_none a t'
  | bl b=>cases rx;exact SeqAt.EqAt.int_bool a t' b
  | int b=>obtain⟨t,rfl⟩:=rx;exact SeqAt.EqAt.int_int a t' b t
  | str b=>obtain⟨t,rfl⟩:=rx;exact SeqAt.EqAt.int_str a t' b t
  | _=>exact absurd (show false=true from fx) Bool.false_ne_true
 | str a =>
  obtain⟨t',rfl⟩:=ry
  cases x with
  | non=>cases rx;exact SeqAt.EqAt.str_none a t'
  | bl b=>cases rx;exact SeqAt.EqAt.str_bool a t' b
  | int b=>obtain⟨t,rfl⟩:=rx;exact SeqAt.EqAt.str_int a t' b t
  | str b=>obtain⟨t,rfl⟩:=rx;exact SeqAt.EqAt.str_str a t' b t
  | _=>exact absurd (show false=true from fx) Bool.false_ne_true
 | _=>exact absurd (show false=true from fy) Bool.false_ne_true
noncomputable def eqU(x:V)(u:Value):Bool:=match u with
 | .none=>eqV .non x
 | .bool b=>eqV (.bl b) x
 | .int i _=>eqV (.int i) x
 | .str z _=>eqV (.str z) x
 | _=>false
theorem c2w{x y:V}{u:Value}(r:RelV y u)(f:a5p y=true):eqU x u=eqV y x:=by
 cases y with
 | non=>cases r;rfl
 | bl b=>cases r;rfl
 | int i=>obtain⟨t,rfl⟩:=r;rfl
 | str z=>obtain⟨t,rfl⟩:=r;rfl
 | _=>exact absurd (show false=true from f) Bool.false_ne_true
theorem b3h{x:V}:∀ {xs:List V} {us:List Value},Vals xs us->xs.all a5p=true->us.any (eqU x)=xs.any fun y=>eqV y x
 | _,_,.nil,_=>rfl
 | y :: xs,u :: us,.cons r t,f=>by
  rw [all_cons,and_eq_true] at f
  rw [List.any_cons,List.any_cons,c2w r f.1,b3h t f.2]
theorem b1r{A:Around}{s:Shared}{x:V}{v:Value}(rx:RelV x v)(fx:a5p x=true):∀ {xs:List V} {us:List Value},Vals xs us->xs.all a5p=true->∀ u ∈ us,SeqAt.EqAt A s u v (eqU x u)
 | _,_,.nil,_=>fun u hu=>by cases hu
 | y :: xs,u :: us,.cons r t,f=>fun u' hu=>by
  rw [all_cons,and_eq_true] at f
  rcases mem_cons.mp hu with rfl | hu
  ·rw [c2w r f.1];exact d4x r rx f.1 fx
  ·exact b1r rx fx t f.2 u' hu
noncomputable def inV(x:V)(xs:List V):Bool:=xs.any fun y=>eqV y x
def rIn(K:W.Frag)(neg:Bool):R2:=fun x y H Q=>∃ p xs,y=.ref p/\(SqL K H p xs ∨ SqT K H p xs)/\a5p x=true/\xs.all a5p=true/\Q (.bl (if neg then !inV x xs else inV x xs)) H
theorem c2x:OpR X (compareOp .In) (rIn X.K false):=by
 intro pins s σ H x y v u Q I rx ry h
 obtain⟨p,xs,rfl,hq,fx,fs,q⟩:=h
 cases ry
 rcases hq with hq | hq
 ·obtain⟨its,r,pl,hz⟩:=I.list hq
  refine SeqAt.in_listAt (eqU x) pl.isList (fun w hw=>b1r rx fx r fs w (by simpa using hw)) ⟨.bl _,H,I,rfl,?_⟩
  rw [show its.toArray.any (eqU x)=its.any (eqU x) by simp,b3h r fs]
  exact q
 ·obtain⟨its,r,pl,hz⟩:=I.tuple hq
  refine SeqAt.in_tupleAt (eqU x) pl (fun w hw=>b1r rx fx r fs w (by simpa using hw)) ⟨.bl _,H,I,rfl,?_⟩
  rw [show its.toArray.any (eqU x)=its.any (eqU x) by simp,b3h r fs]
  exact q
theorem a3p:a1x X (.builtin "len") (fun xs H Q=>∃ p ys,xs=[.ref p]/\(SqL X.K H p ys ∨ SqT X.K H p ys)/\Q (.int ys.length) H):=by
 intro pins s σ H xs us Q I r h
 obtain⟨p,ys,rfl,hq,q⟩:=h
 obtain⟨u,rfl,rx⟩:=vals1 r
 cases rx
 have hn:=a6x
 rcases hq with hq | hq
 ·obtain⟨its,r',pl,hz⟩:=I.list hq
  have hlen:=r'.length
  exact Calls.call_len_list pl.isList (by simp only [size_toArray]<;>omega) ⟨.int ys.length,H,I.tok _,⟨s.toks + 1,by rw [size_toArray,hlen]⟩,q⟩
 ·obtain⟨its,r',pl,hz⟩:=I.tuple hq
  have hlen:=r'.length
  exact len_tuple pl (by simp only [size_toArray]<;>omega) ⟨.int ys.length,H,I.tok _,⟨s.toks + 1,by rw [size_toArray,hlen]⟩,q⟩
theorem b6h:a1x X (.builtin "len") (fun xs H Q=>∃ z,xs=[.str z]/\z.length <= sizeLine/\Q (.int z.length) H):=by
 intro pins s σ H xs us Q I r h
 obtain⟨z,rfl,hz,q⟩:=h
 obtain⟨u,rfl,t,rfl⟩:=vals1 r
 have hn:=a6x
 exact len_str (by omega) ⟨.int z.length,H,I.tok _,⟨_,rfl⟩,q⟩
theorem a1x.or{f:Value}{r r':List V->Hp->VK->Prop}(h:a1x X f r)(h':a1x X f r'):a1x X f (fun xs H Q=>r xs H Q ∨ r' xs H Q):=by
 intro pins s σ H xs us Q I rs q
 rcases q with q | q
 ·exact h pins s σ H xs us Q I rs q
 ·exact h' pins s σ H xs us Q I rs q
theorem a9w:a1x X (.type "list") (fun xs H Q=>∃ p ys,xs=[.ref p]/\(SqL X.K H p ys ∨ SqT X.K H p ys)/\∀ l,H l=none->Q (.ref l) (upd H l (.lst ys))):=by
 intro pins s σ H xs us Q I r h
 obtain⟨p,ys,rfl,hq,q⟩:=h
 obtain⟨u,rfl,rx⟩:=vals1 r
 cases rx
 have fin:∀ (its:List Value),Vals ys its->ys.length <= sizeLine->∀ (h':Heap) (c':Nat),(∀ b o',s.heap.get? b=some o'->h'.get? b=some o') ->
   h'.get? s.heap.objs.size=some { cls:=.type "list",dict:=none,data:=.seq its.toArray c',slots:=#[] }->EP X pins σ Q (.ref s.heap.objs.size) { s with heap:=h' }:=fun its r' hz h' c' kp e =>
  ⟨.ref s.heap.objs.size,_,I.laid (t':=s.toks) kp (le_refl _) (show a1k X.prog X.w _ h' _ (.lst ys) from⟨hz,its,c',r',e⟩),rfl,q _ (I.hok.fresh (le_refl _))⟩
 rcases hq with hq | hq
 ·obtain⟨its,r',pl,hz⟩:=I.list hq
  have hlen:=r'.length
  obtain⟨o,ho,hc,n,hd⟩:=pl.isList
  exact call_list_seq p (.inl rfl) ho hc hd (fun h' c' kp e=>fin its r' hz h' c' kp e) (by simp only [size_toArray]<;>omega)
 ·obtain⟨its,r',pl,hz⟩:=I.tuple hq
  have hlen:=r'.length
  obtain⟨o,ho,hc,n,hd⟩:=pl
  exact call_list_seq p (.inr rfl) ho hc hd (fun h' c' kp e=>fin its r' hz h' c' kp e) (by simp only [size_toArray]<;>omega)
theorem a4k:a1x X (.type "tuple") (fun xs H Q=>∃ p ys,xs=[.ref p]/\((SqL X.K H p ys/\∀ l,H l=none->Q (.ref l) (upd H l (.tup ys))) ∨ (SqT X.K H p ys/\Q (.ref p) H))):=by
 intro pins s σ H xs us Q I r h
 obtain⟨p,ys,rfl,h⟩:=h
 obtain⟨u,rfl,rx⟩:=vals1 r
 cases rx
 rcases h with⟨hq,q⟩ | ⟨hq,q⟩
 ·obtain⟨its,r',pl,hz⟩:=I.list hq
  have hlen:=r'.length
  refine call_tuple_list pl.isList (fun h' kp=>?_) (by simp only [size_toArray]<;>omega)
  have I1:Inv X pins σ H { s with heap:=h' }:=I.kept (t':=s.toks) kp
  have I2:Inv X pins σ (upd H h'.objs.size (.tup ys)) { s with heap:=h'.push { cls:=.type "tuple",data:=.seq its.toArray } }:=
   I1.laid (t':=s.toks) (fun b o e=>get?_push_of_some _ e) (le_refl _) (show a1k X.prog X.w _ _ _ (.tup ys) from⟨hz,its,r',a4u.new _ _⟩)
  exact⟨.ref h'.objs.size,_,I2,rfl,q _ (I1.hok.fresh (le_refl _))⟩
 ·obtain⟨its,r',pl,hz⟩:=I.tuple hq
  exact call_tuple_same pl ⟨.ref p,H,I,rfl,q⟩
def tyV(K:W.Frag)(T:String)(x:V)(H:Hp):Prop:=match x with
 | .str _=>T = "str"
 | .int _=>T = "int"
 | .ref p=>(T = "list" /\ ∃ xs,SqL K H p xs) ∨ (T = "tuple" /\ ∃ o,K.lookup p=some o/\o.cls=.type "tuple" /\ o.dict=none) ∨
   (T = "dict" /\ ((∃ kvs,H p=some (.dK kvs)) ∨ ∃ kvs,H p=some (.dT kvs))) ∨ (T = "set" /\ ∃ S n,H p=some (.set S n))
 | _=>False
theorem d4y{pins:List (Addr × Obj)}{σ:St}{H:Hp}{s:Shared}{T:String}{x:V}{v:Value}(I:Inv X pins σ H s)(r:RelV x v)(ty:tyV X.K T x H) :
  s.TypeIs v T/\∀ a,v=.ref a->∃ ob,s.heap.get? a=some ob/\ob.dict=none:=by
 cases x with
 | str z =>
  obtain⟨t,rfl⟩:=r
  cases (show T = "str" from ty)
  exact⟨typeIs_str s z t,fun _ e=>nomatch e⟩
 | int i =>
  obtain⟨t,rfl⟩:=r
  cases (show T = "int" from ty)
  exact⟨typeIs_int s i t,fun _ e=>nomatch e⟩
 | ref p =>
  cases r
  rcases ty with⟨rfl,xs,hq⟩ | ⟨rfl,o,hk,hc,hd⟩ | ⟨rfl,hk⟩ | ⟨rfl,S,n,hk⟩
  ·obtain⟨its,_,pl,_⟩:=I.list hq
   refine⟨pl.isList.typeIs,fun a e=>?_⟩
   cases e
   obtain⟨o,n,e,c,hd,_⟩:=pl
   exact⟨o,e,hd⟩
  ·refine⟨⟨o,I.kIn p o hk,hc⟩,fun a e=>?_⟩
   cases e
   exact⟨o,I.kIn _ o hk,hd⟩
  ·have z:∃ o,s.heap.get? p=some o/\o.ExactDict:=by
    rcases hk with⟨kvs,hk⟩ | ⟨kvs,hk⟩
    ·obtain⟨_,_,_,_,o,_,_,e,ex,_⟩:=I.hok p _ hk
     exact⟨o,e,ex⟩
    ·obtain⟨_,_,_,_,o,_,_,e,ex,_⟩:=I.hok p _ hk
     exact⟨o,e,ex⟩
   obtain⟨o,e,ex⟩:=z
   refine⟨⟨o,e,ex.1⟩,fun a e2=>?_⟩
   cases e2
   exact⟨o,e,ex.2.1⟩
  ·obtain⟨o,_,_,_,e,ex,_⟩:=I.hok p _ hk
   refine⟨⟨o,e,ex.1⟩,fun a e2=>?_⟩
   cases e2
   exact⟨o,e,ex.2.1⟩
 | _=>exact False.elim ty
def tBM(K:W.Frag)(T:String)(r:V->List V->Hp->VK->Prop)(to:TE)(t:TA):TE:=fun σ H Q=>to σ H fun x H1=>tyV K T x H1/\t σ H1 fun xs H2=>r x xs H2 Q
variable{o e:Expr}{es:List Expr}{to:TE}{t:TA}{name:Str}{apos cpos:Pos}{T id:String}{r:V->List V->Hp->VK->Prop}
theorem a7m(pa:PlainAttrs T)(slot:Slot T name id) (hty:typeOf (.builtin id)=pure (.type "method_descriptor")) (hm:MtR X id r) (ho:PE X o to) (ha:PA X (e :: es) t)
  (hbase:attributeBase o name X.env (eval o X.env)=eval o X.env:=by rfl)
  (hfew:((backTo cpos (starEach (e :: es) X.env)).all (fun x=>!x.1) && (backToKw cpos (keywordEach [] X.env)).all (fun x=>x.1.isSome)
   && decide ((e :: es).length + ([]:List Keyword).length + (if ([]:List Keyword).isEmpty then 0 else 1) < 30))=true:=by rfl)
  (hline:(apos.endLine == cpos.line)=true:=by rfl) (hs:starEach (e :: es) X.env=(false,eval e X.env) :: starEach es X.env:=by rfl) (hplain:(backTo cpos (starEach es X.env)).any (·.1)=false:=by rfl) :
  PE X (.Call (.Attribute o name apos) (e :: es) [] cpos) (tBM X.K T r to t):=by
 intro pins s σ H Q I h
 refine wpAny_Call_method_late hbase hfew hline rfl (thn (ho pins s σ H _ I h) fun v s1 hq9=>?_)
 obtain⟨x,H1,I1,r1,ty,q1⟩:=hq9
 obtain⟨h1,h2⟩:=d4y I1 r1 ty
 refine⟨T,id,pa,slot,hty,h1,h2,?_⟩
 have hA:=ha cpos pins s1 σ H1 _ I1 q1
 rw [hs] at hA ⊢
 refine Calls.callWith_builtin (by show(false || (backTo cpos (starEach es X.env)).any (·.1))=false;rw [hplain]<;>rfl) (Calls.evalArgs_plain ?_)
 exact thn hA fun us s2 hq8=>by obtain⟨vs,H2,I2,r2,q2⟩:=hq8;exact hm pins s2 σ H2 x vs v us Q I2 r1 r2 q2
end
end L2
namespace L2
open PySem PySem.Spec PyProof.Rows
def MtM(X:Cx)(id:String)(r:V->List V->Hp->VK->Prop):Prop:=
 ∀ (pins:List (Addr × Obj)) (s:Shared) (σ:St) (H:Hp) (x:V) (xs:List V) (v:Value) (us:List Value) (Q:VK),Inv X pins σ H s->RelV x v->Vals xs us->r x xs H Q ->
  wpAny (model X.prog X.w) X.A (call (.builtin id) (v :: us)) (EP X pins σ Q) X.xe s
theorem Vals.one:∀ {x:V} {us:List Value},Vals [x] us->∃ u,us=[u]/\RelV x u
 | _,_,.cons r .nil=>⟨_,rfl,r⟩
theorem Vals.two:∀ {x y:V} {us:List Value},Vals [x,y] us->∃ u v,us=[u,v]/\RelV x u/\RelV y v
 | _,_,_,.cons r (.cons q .nil)=>⟨_,_,rfl,r,q⟩
theorem Vals.zero:∀ {us:List Value},Vals [] us->us=[]
 | _,.nil=>rfl
theorem Vals.eraseIdx:∀ {xs:List V} {us:List Value} (i:Nat),Vals xs us->Vals (xs.eraseIdx i) (us.eraseIdx i)
 | _,_,_,.nil=>.nil
 | _,_,0,.cons _ t=>t
 | _,_,i + 1,.cons r t=>.cons r (Vals.eraseIdx i t)
theorem b4h{α:Type}:∀ (l:List α) (i:Nat),(l.eraseIdx i).length <= l.length
 | [],_=>le_refl _
 | _ :: _,0=>le_succ _
 | _ :: r,i + 1=>Nat.succ_le_succ (b4h r i)
section
variable{X:Cx}{pins:List (Addr × Obj)}{σ:St}{H:Hp}{s:Shared}{l b:Addr}{xs ys zs:List V}
theorem Inv.lset{its its':List Value}{n:Nat}{f:Array Value->Array Value}{t':Nat}(I:Inv X pins σ H s)(hH:H l=some (.lst xs))
  (e:s.heap.get? l=some { cls:=.type "list",data:=.seq its.toArray n }) (hf:f its.toArray=its'.toArray) (hv:Vals ys its') (hz:ys.length <= sizeLine) :
  Inv X pins σ (upd H l (.lst ys)) { s with heap:=s.heap.update l (Obj.mapSeq f),toks:=t' }:=by
 have q:=PySem.IsL.update e f
 rw [hf] at q
 refine I.write (x:=l) (e:=l) (by rw [hH];exact trivial) (.inl rfl) (fun b' u hb hu=>(get?_update_other s.heap (Obj.mapSeq f) (Ne.symm hb)).trans hu) ⟨_,q⟩ ?_
 exact⟨hz,its',_,hv,q⟩
theorem Inv.lnew{its:List Value}{t':Nat}(I:Inv X pins σ H s)(hv:Vals ys its)(hz:ys.length <= sizeLine) :
  Inv X pins σ (upd H s.heap.objs.size (.lst ys)) { s with heap:=s.heap.push { cls:=.type "list",data:=.seq its.toArray },toks:=t' }:=
 I.laid (fun _ _ q=>get?_push_of_some _ q) (le_refl _) ⟨hz,its,0,hv,get?_push_size _ rfl⟩
theorem Inv.fresh(I:Inv X pins σ H s):H s.heap.objs.size=none:=I.hok.fresh (le_refl _)
theorem Inv.lstM(I:Inv X pins σ H s)(hH:H l=some (.lst xs)):xs.length <= sizeLine/\∃ (its:List Value) (n:Nat),Vals xs its/\xs.length=its.length/\s.heap.get? l=some { cls:=.type "list",data:=.seq its.toArray n }:=by
 obtain⟨z,its,n,r,e⟩:=I.hok l _ hH
 exact⟨z,its,n,r,r.length,e⟩
end
section
variable{X:Cx}
noncomputable def b8s:V->List V->Hp->VK->Prop:=fun x vs H Q=>∃ l xs y,x=.ref l/\vs=[y]/\H l=some (.lst xs)/\xs.length < sizeLine/\Q .non (upd H l (.lst (xs ++ [y])))
theorem a9x:MtM X "list.append" b8s:=by
 intro pins s σ H x vs v us Q I rx rv h
 obtain⟨l,xs,y,rfl,rfl,hH,hz,q⟩:=h
 cases rx
 obtain⟨u,rfl,ru⟩:=rv.one
 obtain⟨z,its,n,r,hl,e⟩:=I.lstM hH
 refine call_meets F.slot_list_append ⟨_,e,rfl⟩ F.entry_list_append (F.args_list_append_2 _ _) (PySem.list_append l its.toArray n u (by rw [size_toArray];omega)) ⟨e,?_⟩
 refine⟨.non,_,I.lset (its':=its ++ [u]) hH e (by simp) (r.append (.cons ru .nil)) ?_,rfl,q⟩
 rw [length_append,List.length_singleton]
 omega
noncomputable def c2y:V->List V->Hp->VK->Prop:=fun x vs H Q=>∃ l xs i k y,x=.ref l/\vs=[.int i]/\H l=some (.lst xs) /\ -(2 ^ 63) <= i/\i < 2 ^ 63/\seqIndex? i xs.length=some k/\xs[k]? = some y/\Q y (upd H l (.lst (xs.eraseIdx k)))
theorem c6e:MtM X "list.pop" c2y:=by
 intro pins s σ H x vs v us Q I rx rv h
 obtain⟨l,xs,i,k,y,rfl,rfl,hH,h1,h2,hk,hy,q⟩:=h
 cases rx
 obtain⟨u,rfl,ru⟩:=rv.one
 obtain⟨t,rfl⟩:=ru
 obtain⟨z,its,n,r,hl,e⟩:=I.lstM hH
 obtain⟨w,hw,rw'⟩:=r.get hy
 refine call_meets F.slot_list_pop ⟨_,e,rfl⟩ F.entry_list_pop (F.args_list_pop_2 _ _)
  (MeetsSeq.list_pop_at l its.toArray n i t k w (fitsIndex_both h1 h2) (by rw [size_toArray,← hl];exact hk) (by rw [← Array.getElem?_toList];exact hw) (by rw [size_toArray];omega)) ⟨e,?_⟩
 refine⟨y,_,I.lset (its':=its.eraseIdx k) hH e ?_ (r.eraseIdx k) ?_,rw',q⟩
 ·show its.toArray.eraseIdxIfInBounds k=(its.eraseIdx k).toArray
  rw [List.eraseIdxIfInBounds_toArray]
 ·have:=b4h xs k
  omega
def rCat:R2:=fun x y H Q=>∃ l b xs zs,x=.ref l/\y=.ref b/\H l=some (.lst xs)/\H b=some (.lst zs)/\xs.length + zs.length <= sizeLine/\∀ p,H p=none->Q (.ref p) (upd H p (.lst (xs ++ zs)))
theorem b6i:OpR X (binaryOp .Add) rCat:=by
 intro pins s σ H x y v u Q I rx ry h
 obtain⟨l,b,xs,zs,rfl,rfl,hH,hB,hz,q⟩:=h
 cases rx
 cases ry
 obtain⟨z,its,n,r,hl,e⟩:=I.lstM hH
 obtain⟨z2,its2,n2,r2,hl2,e2⟩:=I.lstM hB
 refine PySem.P.add_list e e2 ?_ (by rw [size_toArray,size_toArray];omega)
 have ea:its.toArray ++ its2.toArray=(its ++ its2).toArray:=by simp
 rw [ea]
 exact⟨.ref _,_,I.lnew (t':=s.toks) (r.append r2) (by rw [length_append];omega),rfl,q _ I.fresh⟩
end
section
variable{prog:Program}{w:World}{A:Around}{E:Value->Shared->Prop}{s:Shared}
set_option maxRecDepth 100000 in
end
section
variable{X:Cx}
end
end L2
namespace Att
open PySem PySem.W PySem.Calls PyProof.Rows
theorem b2j{P:Params}{h:Heap}:∀ (ns:List Int) (vs:List Value),WellAll P h vs (ns.map WData.int)->IntsAre vs ns:=by
 intro ns
 induction ns with
 | nil =>
  intro vs w
  rw [List.map_nil] at w
  cases w
  exact .nil
 | cons n ns ih =>
  intro vs w
  rw [map_cons] at w
  cases w with
  | cons a b =>
   cases a
   exact .cons _ _ (ih _ b)
theorem c2z{l:OpenLaw}{n:Nat}(hn:l.most=some n){P:Params}{h:Heap}{args:List WData}{vals:List Value}
  (hpre:l.row.toRowW.claim.pre args=true) (hwl:WellAll P h vals args) :
  ∃ a vs ns,vals=[Value.ref a]/\args=[WData.list (ns.map WData.int)]/\h.get? a=some { cls:=.type "list",data:=.seq vs.toArray }/\IntsAre vs ns/\ns.length <= n:=by
 have hsh:WShape.hasAll [] args [.list .int]=true:=(pre_splitW hpre).1
 have hc:l.pre.holds [] { args:=args }=true:=(pre_splitW hpre).2
 obtain⟨d,r,rfl,h1,h2⟩:=hasAllW_cons hsh
 obtain rfl:=hasAllW_nil h2
 obtain⟨xs,rfl,h3⟩:=hasW_list h1
 obtain⟨ns,rfl⟩:=items_int h3
 have hlen:ns.length <= n:=by
  unfold OpenLaw.pre at hc
  have h4:(WTm.not (.lt (.lit (.int (n:Int))) (.len (.arg 0)))).holds [] { args:=[.list (ns.map .int)] }=true:=by
   have h4:=(holds_andW hc).1
   rw [hn] at h4
   exact h4
  have h5:=condW_of h4 (w_not (w_lt w_lit (w_len_list (w_arg rfl))))
  rw [length_map] at h5
  refine Nat.le_of_not_lt fun q=>?_
  have q':(n:Int) < ((ns.length:Nat):Int):=by omega
  first
   | (rw [decide_eq_true q'] at h5;exact absurd h5 (by decide))
   | (simp at h5;omega)
 cases hwl with
 | cons w1 w2 =>
  cases w2
  cases w1 with
  | list ho hall=>exact⟨_,_,ns,rfl,rfl,ho,b2j ns _ hall,hlen⟩
theorem c3a(l:OpenLaw)(args:List WData):l.row.toRowW.claim.post args (.bool true) args=true:=
 postW_of (r:=l.row.toRowW) (X:=(true == true))
  (show WShape.has [] (.bool true) .bool=true by first | rfl | decide | simp [WShape.has,WShape.arms,WShape.armsAll])
  (show(WTm.eq .res (.lit (.bool true))).value [] { args:=args,res:=some (.bool true),after:=args }=some (.bool (true == true)) from w_eq_bool (w_res rfl) w_lit) rfl
theorem attach_call{l:OpenLaw}{n:Nat}{q:Program}{loose:List Str}{XP:(Str->Option Value)->Heap->Prop}{YP:World->Heap->Prop}{d:DefRec}
  (hn:l.most=some n) (hdf:d.params.defaults=[])
  (call:∀ (w:World) (s₀ s₁:Shared) (mg mb:Str->Option Value) (fa:Addr) (o:Obj) (pm cd doc:Value) (a:Addr) (vs:List Value) (ns:List Int),
   Ground q loose [] XP w s₀ mg mb s₁.heap->YP w s₁.heap ->
   s₁.heap.get? fa=some o->o.data=.func (docDef d.name d.params d.body d.scope pm cd doc)->s₁.heap.CodeRec cd d.name->mg d.name=some (.ref fa) ->
   s₁.heap.get? a=some { cls:=.type "list",data:=.seq vs.toArray }->IntsAre vs ns->ns.length <= n->s₁.gens = #[] ->
   codeAny (model l.prog w) callerA (.call (.ref fa) ⟨[.ref a],[]⟩) (fun r s'=>r=.ok (.ret (.bool true))/\OldK s₁.heap s'.heap/\s'.os=s₁.os/\AllBare s'.gens) s₁) :
  WalkO q loose XP YP l.row.toRowW d [] (fun f vs=>PySem.call f vs):=by
 intro w s₀ s₁ mg mb G Y fa o pm cd doc dV kV ho hd hcd hD hmg hg args vals as hpre hlay hrd hwl hlo
 obtain rfl:dV=.none:=Dflts.none hD hdf
 obtain rfl:kV=.none:=Dflts.noKw hD
 obtain⟨a,vs,ns,rfl,rfl,hobj,hints,hlen⟩:=c2z hn hpre hwl
 refine enter_call (codeAny_mono (call w s₀ s₁ mg mb fa o pm cd doc a vs ns G Y ho (fd_plain hd) hcd hmg hobj hints hlen hg) fun r s' hq=>?_)
 obtain⟨rfl,h2,h3,h4⟩:=hq
 exact⟨.inl ⟨.bool true,.bool true,[],rfl,fun _=>rfl,.bool true,c3a l _,fun _=>⟨List.Pairwise.nil,fun _ hm=>(nomatch hm)⟩⟩,h2,h3,h4⟩
section
variable{prog:Program}{w:World}{A:Around}{E:Value->Shared->Prop}{s:Shared}{K:Frag}
end
end Att
namespace L2
open PySem PySem.Spec PyProof.Rows
theorem b4i:∀ {vs:List Value} {ns:List Int},IntsAre vs ns->Vals (ns.map V.int) vs
 | _,_,.nil=>.nil
 | _,_,.cons n t h=>.cons ⟨t,rfl⟩ (b4i h)
end L2
namespace L2
open PySem PySem.Spec PyProof.Rows
end L2
namespace L2
open PySem PySem.Spec PyProof.Rows
noncomputable def inClass(s:Stmt)(j:Nat):Stmt:=match s with
 | .ClassDef _ _ _ body _ _ _ _ _ _ _=>body.getD j (.Pass ⟨0,0,0,0⟩)
 | _=>.Pass ⟨0,0,0,0⟩
noncomputable def a2m(s:Stmt):Arguments:=match s with
 | .FunctionDef _ a _ _ _ _ _ _ _ _=>a
 | _=>{ posonlyargs:=[],args:=[],vararg:=none,kwonlyargs:=[],kw_defaults:=[],kwarg:=none,defaults:=[] }
noncomputable def a1q(s:Stmt):List Stmt:=match s with
 | .FunctionDef _ _ b _ _ _ _ _ _ _=>b
 | _=>[]
noncomputable def a0g(s:Stmt):Scope:=match s with
 | .FunctionDef _ _ _ _ _ _ sc _ _ _=>sc
 | _=>{ kind:=.function,names:=[],isGenerator:=false,isCoroutine:=false }
abbrev CX0:CXT:=fun _ _ _ _ _ _=>False
abbrev E0:XK:=fun _ _ _=>False
theorem b2k{X:Cx}:a4f CX0 X E0:=fun _ _ _ _ _ _ _ h=>h.elim
structure Fun(K:W.Frag)(x qual:Str)(st:Stmt)(f:Addr)(fd:FuncData):Prop where
 ex:∃ (oc:Value) (od:Option Addr) (kV doc pm:Value) (an:Option Addr) (cdv ct:Value) (osl:Array (Option Value)),
  fd=PySem.W.fnOf x qual (a2m st) (a1q st) (a0g st) .none kV doc pm an cdv ct/\K.lookup f=some ⟨oc,od,.func fd,osl⟩/\PySem.W.codeIn K cdv qual=true
 kp:PySem.W.keepIn K (.ref f)=true
section
variable{P:Program}{w:World}{K:W.Frag}{mg:Str->Option Value}{base:Heap}
theorem Fun.ok{x qual:Str}{st:Stmt}{f:Addr}{fd:FuncData}{N ps:List Str}{k:Nat}{sp:Sp}(F:Fun K x qual st f fd)(S:FnScope N ps (a0g st))(len:∀ vs H Q E,sp vs H Q E->vs.length=ps.length)
  (hbody:∀ (cdv:Value) (A:Around) (outer:List Env) (s:Shared) (H:Hp) (vs:List V) (Q:VK) (E:XK),Room k (A.deeper (envOfC qual (a0g st) s.heap.objs.size f cdv))->sp vs H Q E ->
   ∃ t,PSs (cxOf CX0 P w K mg base N qual (a0g st) f cdv A outer s H E).nox (a1q st) t/\t { nx:=fun _ H'=>Q .non H',rt:=Q } (start N vs) H):FnOk P w K mg base CX0 (k + 1) f fd ps sp:=by
 obtain⟨oc,od,kV,doc,pm,an,cdv,ct,osl,rfl,lk,hcd⟩:=F.ex
 refine c0g lk hcd S len fun A outer s H vs Q E hr hsp=>?_
 obtain⟨t,h,q⟩:=hbody cdv A outer s H vs Q E hr hsp
 exact⟨t,h.nox,q⟩
theorem Fun.binds{x qual:Str}{st:Stmt}{f:Addr}{fd:FuncData}{ps:List Str}(F:Fun K x qual st f fd)
  (h:∀ (kV doc pm:Value) (an:Option Addr) (cdv ct:Value) (us:List Value),us.length=ps.length->bindArgs (PySem.W.fnOf x qual (a2m st) (a1q st) (a0g st) .none kV doc pm an cdv ct) ⟨us,[]⟩=pure (ps.zip us)):Binds K fd ps []:=by
 obtain⟨oc,od,kV,doc,pm,an,cdv,ct,osl,rfl,lk,hcd⟩:=F.ex
 exact .all (h kV doc pm an cdv ct)
theorem a2q{x qual:Str}{st:Stmt}{f:Addr}{oc:Value}{od an:Option Addr}{osl:Array (Option Value)}{kV doc pm cdv ct:Value}(l:K.lookup f=some ⟨oc,od,.func (PySem.W.fnOf x qual (a2m st) (a1q st) (a0g st) .none kV doc pm an cdv ct),osl⟩)
  (c:PySem.W.codeIn K cdv qual=true) (k:PySem.W.keepIn K (.ref f)=true):Fun K x qual st f (PySem.W.fnOf x qual (a2m st) (a1q st) (a0g st) .none kV doc pm an cdv ct):=⟨⟨oc,od,kV,doc,pm,an,cdv,ct,osl,rfl,l,c⟩,k⟩
end
section
variable{X:Cx}
theorem pv(i:Nat){x:Str}{pos:Pos}(hN:X.N[i]? = some x:=by rfl)(hv:Vis X.env.scope x:=by first | exact Or.inl rfl | exact Or.inr (Or.inl rfl) | exact Or.inr (Or.inr rfl)) (hd:(x == ("__debug__" : Str))=false:=by decide)
  (hcd:(x == ("__classdict__" : Str))=false:=by decide):PE X (.Name x pos) (tVar i):=a7t hN hv hd hcd
end
theorem iteF{A B:Prop}(h:B):if false=true then A else B:=by
 rw [if_neg Bool.false_ne_true]
 exact h
theorem iteT{A B:Prop}(h:A):if true=true then A else B:=by
 rw [if_pos rfl]
 exact h
theorem ite2{c A B:Prop}[Decidable c](h1:c->A)(h2:¬ c->B):if c then A else B:=by
 by_cases h:c
 ·rw [if_pos h]
  exact h1 h
 ·rw [if_neg h]
  exact h2 h
def Same(H H':Hp):Prop:=∀ b o,H b=some o->H' b=some o
theorem Same.refl(H:Hp):Same H H:=fun _ _ h=>h
theorem Same.trans{H H1 H2:Hp}(a:Same H H1)(b:Same H1 H2):Same H H2:=fun c o h=>b c o (a c o h)
theorem Same.free{H H':Hp}(e:Same H H'){l:Addr}(h:H' l=Option.none):H l=Option.none:=by
 cases q:H l with
 | none=>rfl
 | some o =>
  rw [e l o q] at h
  cases h
end L2
end
section
namespace Sx
open PySem
abbrev Up(xs:Array Nat):Prop:=∀ i k:Nat,i < k->∀ hk:k < xs.size,∀ hi:i < xs.size,xs[i] < xs[k]
structure Bel(xs:Array Nat)(j r:Nat):Prop where
 le:r <= xs.size
 lo:∀ i,i < r->∀ h:i < xs.size,xs[i] < j
 hi:∀ i,r <= i->∀ h:i < xs.size,j <= xs[i]
abbrev UpL(xs:List Nat):Prop:=xs.Pairwise (· < ·)
structure TOk(t:SetTable):Prop where
 none:t.dummies = #[]
 up:UpL t.place.toList
end Sx
end
section
namespace Sx
open PySem
section
variable{prog:Program}{w:World}{K:Type}[DecidableEq K](knd:KeyKind prog w K)(dec:Value->K)
structure Fc(ks:List K)(es:Array (Int × Value))(t:SetTable):Prop where
 el:ElemsOf knd es.toList
 pm:(es.toList.map fun e=>dec e.2).Perm ks
 nd:ks.Nodup
 sz:es.size < scanBound
 ft:t.fits es.size=true
 ok:TOk t
 ld:t.led = !w.params.followText "set-order"
noncomputable def ins(ks:List K)(k:K):List K:=if k ∈ ks then ks else ks ++ [k]
variable{knd dec}
variable{A:Around}{E:Value->Shared->Prop}{s:Shared}
end
end Sx
end
section
namespace Sx
open PySem
section
variable{K:Type}[DecidableEq K]
end
section
variable{prog:Program}{w:World}{K:Type}[DecidableEq K]{knd:KeyKind prog w K}{dec:Value->K}{A:Around}{R:Result->Shared->Prop}{I:Addr}{fp wr:List Addr}{G:Array GenState->Array GenState->Prop}{St:Nat->Shared->Prop}{items:Array Value}{ks:List K}
end
section
variable{prog:Program}{w:World}{A:Around}{E:Value->Shared->Prop}{s:Shared}
end
end Sx
end
section
namespace Sx
open PySem
section
variable{M:Model}{A:Around}{E:Value->Shared->Prop}{s:Shared}
end
section
variable{prog:Program}{w:World}{A:Around}{E:Value->Shared->Prop}{s:Shared}{I S:Addr}{es:Array (Int × Value)}{ep i n:Nat}{t:SetTable}{first:Value}
end
end Sx
end
section
namespace Sx
open PySem
section
variable{prog:Program}{w:World}{A:Around}{I S:Addr}{es:Array (Int × Value)}{ep:Nat}{t:SetTable}
end
section
variable{prog:Program}{w:World}{A:Around}{E:Value->Shared->Prop}{s:Shared}{S:Addr}{es:Array (Int × Value)}{ep:Nat}{t:SetTable}
end
end Sx
end
section
namespace Sx
open PySem
section
variable{prog:Program}{w:World}{A:Around}{E:Value->Shared->Prop}{s:Shared}{S:Addr}{es:Array (Int × Value)}{ep:Nat}{t:SetTable}
end
end Sx
end
section
namespace L2
open PySem PySem.Spec PyProof.Rows
noncomputable def clOf(env:Env):List (Str × NameKind)->List (Str × Addr)->List (Str × Addr)
 | [],acc=>acc
 | (n,k) :: r,acc=>if k == .free then clOf env r ((n,(env.cells.lookup n).getD 0) :: acc) else clOf env r acc
theorem a8x(env:Env)(f:Str × NameKind->List (Str × Addr)->Sem (ForInStep (List (Str × Addr)))) :
  ∀ (names:List (Str × NameKind)) (acc:List (Str × Addr)),
   (∀ y ∈ names,∀ c,f y c=if (y.2 == .free)=true then pure (.yield ((y.1,(env.cells.lookup y.1).getD 0) :: c)) else pure (.yield c)) ->
   (forIn names acc f:Sem _)=pure (clOf env names acc)
 | [],acc,_=>by rw [List.forIn_nil];rfl
 | (n,k) :: r,acc,h=>by
  rw [List.forIn_cons,h (n,k) mem_cons_self]
  have hr:∀ y ∈ r,∀ c,f y c=if (y.2 == .free)=true then pure (.yield ((y.1,(env.cells.lookup y.1).getD 0) :: c)) else pure (.yield c):=fun y hy=>h y (mem_cons_of_mem _ hy)
  unfold clOf
  by_cases hk:(k == NameKind.free)=true
  ·rw [if_pos hk,if_pos hk,← a8x env f r _ hr]
   all_goals rfl
  ·rw [if_neg hk,if_neg hk,← a8x env f r _ hr]
   all_goals rfl
theorem a6a{env:Env}{scope:Scope}(h:∀ y ∈ scope.names,y.2=.free->∃ c,env.cells.lookup y.1=some c) :
  closureFor scope env=pure (clOf env scope.names []):=by
 simp only [closureFor]
 rw [a8x env _ scope.names [] (fun y hy c=>by
  obtain⟨n,k⟩:=y
  by_cases hk:k=.free
  ·subst hk
   obtain⟨a,ha⟩:=h (n,.free) hy rfl
   have e:cellOf env n=pure a:=by unfold cellOf;rw [ha]
   simp only [beq_self_eq_true,if_true,e,ha,Option.getD_some]
   rfl
  ·have hb:(k == NameKind.free)=false:=by simpa using hk
   simp only [hb,Bool.false_eq_true,if_false])]
 rfl
theorem a5h(env:Env):∀ (names:List (Str × NameKind)) (acc:List (Str × Addr)),clOf env names acc=clOf env names [] ++ acc
 | [],acc=>rfl
 | (n,k) :: r,acc=>by
  unfold clOf
  split
  ·rw [a5h env r,a5h env r [_],List.append_assoc];rfl
  ·exact a5h env r acc
theorem a5i{env:Env}:∀ {names:List (Str × NameKind)} {x:Str} {c:Addr},(x,c) ∈ clOf env names []->(x,NameKind.free) ∈ names/\c=(env.cells.lookup x).getD 0
 | [],x,c,h=>by cases h
 | (n,k) :: r,x,c,h=>by
  unfold clOf at h
  split at h
  ·rename_i hk
   rw [a5h] at h
   rcases mem_append.mp h with h | h
   ·exact⟨mem_cons_of_mem _ (a5i h).1,(a5i h).2⟩
   ·have e:(x,c)=(n,(env.cells.lookup n).getD 0):=by simpa using h
    have hk':k=.free:=by simpa using hk
    cases e
    exact⟨by rw [hk'];exact mem_cons_self,rfl⟩
  ·exact⟨mem_cons_of_mem _ (a5i h).1,(a5i h).2⟩
theorem b3i{env:Env}:∀ {names:List (Str × NameKind)} {x:Str},(x,NameKind.free) ∈ names->(x,(env.cells.lookup x).getD 0) ∈ clOf env names []
 | [],x,h=>by cases h
 | (n,k) :: r,x,h=>by
  unfold clOf
  rcases mem_cons.mp h with e | h
  ·cases e
   rw [if_pos (by rfl),a5h]
   exact mem_append_right _ (by simp)
  ·split
   ·rw [a5h];exact List.mem_append_left _ (b3i h)
   ·exact b3i h
theorem a3f:∀ (names:List (Str × NameKind)) (n:Nat) (acc:List (Str × Addr)),cellsFrom n names acc=cellsFrom n names [] ++ acc
 | [],_,acc=>rfl
 | (x,k) :: r,n,acc=>by
  unfold cellsFrom
  split
  ·rw [a3f r,a3f r _ [_],List.append_assoc];rfl
  ·exact a3f r n acc
theorem a1w:∀ {names:List (Str × NameKind)} {n:Nat} {x:Str} {c:Addr},(x,c) ∈ cellsFrom n names []->(x,NameKind.cell) ∈ names/\n <= c
 | [],n,x,c,h=>by cases h
 | (y,k) :: r,n,x,c,h=>by
  unfold cellsFrom at h
  split at h
  ·rename_i hk
   rw [a3f] at h
   rcases mem_append.mp h with h | h
   ·have q:=a1w h
    exact⟨mem_cons_of_mem _ q.1,by omega⟩
   ·have e:(x,c)=(y,n):=by simpa using h
    have hk':k=.cell:=by simpa using hk
    cases e
    exact⟨by rw [hk'];exact mem_cons_self,le_refl _⟩
  ·have q:=a1w h
   exact⟨mem_cons_of_mem _ q.1,q.2⟩
theorem a5j{α:Type}(x:Str):∀ (a b:List (Str × α)),(a ++ b).lookup x=(a.lookup x).or (b.lookup x)
 | [],b=>by simp
 | (k,v) :: r,b=>by
  rw [List.cons_append,lookup_cons,lookup_cons]
  cases x == k with
  | true=>rfl
  | false=>exact a5j x r b
theorem lookup_mem{α:Type}:∀ {l:List (Str × α)} {x:Str} {v:α},(x,v) ∈ l->∃ u,l.lookup x=some u
 | (k,w) :: r,x,v,h=>by
  rw [lookup_cons]
  cases e:x == k with
  | true=>exact⟨w,rfl⟩
  | false =>
   rcases mem_cons.mp h with q | q
   ·cases q;simp at e
   ·exact lookup_mem q
theorem a3q{α:Type}:∀ {l:List (Str × α)} {x:Str} {v:α},(l.map (·.1)).Nodup->(x,v) ∈ l->l.lookup x=some v
 | (k,w) :: r,x,v,hn,h=>by
  rw [lookup_cons]
  rw [map_cons,nodup_cons] at hn
  rcases mem_cons.mp h with q | q
  ·cases q;simp
  ·have:(x == k)=false:=by
    refine beq_eq_false_iff_ne.mpr ?_
    rintro rfl
    exact hn.1 (mem_map.mpr ⟨(x,v),q,rfl⟩)
   rw [this]
   exact a3q hn.2 q
theorem a8a(env:Env)(x:Str):∀ (names:List (Str × NameKind)),
  (names.map fun(n,k)=>if (k == NameKind.free && env.scope.kind == .function && env.kindOf n == some .cell) then(n,NameKind.cell) else(n,k)).lookup x =
   (names.lookup x).map fun k=>if (k == NameKind.free && env.scope.kind == .function && env.kindOf x == some .cell) then NameKind.cell else k
 | []=>rfl
 | (n,k) :: r=>by
  rw [map_cons,lookup_cons]
  cases hx:x == n with
  | true =>
   have e:x=n:=by simpa using hx
   subst e
   by_cases hc:(k == NameKind.free && env.scope.kind == .function && env.kindOf x == some .cell)=true
   ·simp only [if_pos hc,lookup_cons,hx,map_some]
   ·simp only [if_neg hc,lookup_cons,hx,map_some]
  | false =>
   have ih:=a8a env x r
   by_cases hc:(k == NameKind.free && env.scope.kind == .function && env.kindOf n == some .cell)=true
   ·simp only [if_pos hc,lookup_cons,hx];exact ih
   ·simp only [if_neg hc,lookup_cons,hx];exact ih
theorem b1k{M:Model}{A:Around}{E:Value->Shared->Prop}{s:Shared}{scope:Scope}{globals:Addr}{cl:List (Str × Addr)}{qual:Str}{outer:Env}{Q:Env->Shared->Prop}
  (hQ:Q (newEnv scope s.heap.objs.size globals (cellsFrom (s.heap.objs.size + 1) scope.names cl) qual none .none (some outer) builtinsNs)
    { s with heap:=pushCells (s.heap.push { cls:=.type "dict",data:=.dict #[] }) scope.names }) :
  wpAny M A (newFunctionEnv scope globals cl [] qual none .none (some outer)) Q E s:=by
 simp only [newFunctionEnv,Option.isSome_some,if_true]
 refine wpAny_bind (wpAny_alloc ?_)
 refine wpAny_bind (wpAny_layCells _ (fun name kind cells=>by cases hkc:kind == NameKind.cell<;>simp [hkc]) _ _ _ _ ?_)
 rw [show({ s with heap:=s.heap.push { cls:=.type "dict",data:=.dict #[] } }:Shared).heap.objs.size=s.heap.objs.size + 1 from size_push ..]
 rw [List.forIn_nil]
 exact wpAny_bind (wpAny_pure (wpAny_pure hQ))
section
variable{prog:Program}{w:World}{A:Around}{R:Result->Shared->Prop}{s:Shared}
theorem b1l{elt target iter:Expr}{ifs:List Expr}{scope:Scope}{pos:Pos}{it acc:Value}{env:Env}(I:Nat->Shared->Prop)
  (turn:∀ n s,I n s->wpAny (model prog w) A (pyNext it) (fun r s₁=>match r with
   | none=>R (.ok .next) s₁
   | some v=>wpAny (model prog w) A (letOwnedTupleGo target it v) (fun _ s₂'=>wpAny (model prog w) A (assign target env v) (fun _ s₂ =>
     wpAny (model prog w) A (forIn ifs true fun c r=>if r=true then do let ok ← isTrue c env (eval c env);pure (ForInStep.yield ok) else pure (ForInStep.yield r)) (fun ok s₃ =>
      if ok=true then wpAny (model prog w) A (eval elt env) (fun x s₄ =>
       wpAny (model prog w) A (call (.builtin "list.append") [acc,x]) (fun _ s₅=>∃ m,m < n/\I m s₅) (notedBy (model prog w) A env fun e s'=>R (.error e) s') s₄) (notedBy (model prog w) A env fun e s'=>R (.error e) s') s₃
      else ∃ m,m < n/\I m s₃) (notedBy (model prog w) A env fun e s'=>R (.error e) s') s₂) (notedBy (model prog w) A env fun e s'=>R (.error e) s') s₂') (notedBy (model prog w) A env fun e s'=>R (.error e) s') s₁) (notedBy (model prog w) A env fun e s'=>R (.error e) s') s)
  (n:Nat) (h:I n s) :
  codeAny (model prog w) A (.compLoop (.ListComp elt [⟨target,iter,ifs,0⟩] scope pos) 0 it acc env) R s:=by
 refine codeAny_loop rfl I (fun n s hI=>?_) n h
 show wpAny _ A ((compTurn (.ListComp elt [⟨target,iter,ifs,0⟩] scope pos) 0 it acc env).onRaise (fun x=>do noteFrame x env;theTreesLotGoes x)) _ _ s
 refine wpAny_noted ?_
 rw [compTurn_list]
 refine wpAny_bind (wpAny_standAt (wpAny_bind (wpAny_mono (turn n s hI) (fun r s₁ h₁=>?_) fun _ _ h'=>h')))
 cases r with
 | none=>exact wpAny_pure h₁
 | some v =>
  refine wpAny_bind (wpAny_mono h₁ (fun _ s₂' h₂'=>?_) fun _ _ h'=>h')
  refine wpAny_bind (wpAny_mono h₂' (fun _ s₂ h₂=>wpAny_bind (wpAny_mono h₂ (fun ok s₃ h₃=>?_) fun _ _ h'=>h')) fun _ _ h'=>h')
  cases ok with
  | false=>exact wpAny_pure ⟨rfl,h₃⟩
  | true =>
   exact wpAny_bind (wpAny_bind (wpAny_mono h₃ (fun x s₄ h₄=>wpAny_bind (wpAny_mono h₄ (fun _ s₅ h₅=>wpAny_pure (wpAny_pure ⟨rfl,h₅⟩)) fun _ _ h'=>h')) fun _ _ h'=>h'))
end
theorem nlt{a b:Nat}(h:b <= a):¬ a < b:=Nat.not_lt.mpr h
noncomputable def cxC(X:Cx)(scope:Scope)(own:List Str)(cap:List (Str × Nat))(fp:List Addr)(s2:Shared)(H2:Hp):Cx where
 prog:=X.prog
 w:=X.w
 K:=X.K
 mg:=X.mg
 base:=X.base
 A:=X.A
 N:=own ++ cap.map (·.1)
 s₀:=s2
 H₀:=H2
 env:={ scope:=relabel scope X.env,locals:=s2.heap.objs.size + 1,globals:=X.env.globals,cells:=cellsFrom (s2.heap.objs.size + 1 + 1) scope.names (clOf X.env scope.names []),qual:=X.env.qual,func:=none,code:=X.env.code,frame:=X.env.frame,builtins:=X.env.builtins }
 outer:=X.stack
 stack:=X.stack
 ex:=fp
 fn:=fun x=>scope.names.lookup x == some .cell
 calm:=X.calm
 pn:=[]
 xe:=fun _ _=>False
noncomputable def a5q(own:List Str)(cap:List (Str × Nat))(σ:St):St:=List.replicate own.length none ++ cap.map fun p=>(σ[p.2]?).join
noncomputable def a3l(X:Cx)(scope:Scope)(own:List Str)(cap:List (Str × Nat)):Bool:=
 scope.kind == .function && (scope.names.all fun y=>y.2 != .free || X.env.kindOf y.1 == some .cell || X.env.kindOf y.1 == some .free) &&
 (cap.all fun p=>X.N[p.2]? == some p.1 && scope.names.lookup p.1 == some .free) && (own.all fun x=>!((cap.map (·.1)).contains x))
section
variable{X:Cx}{pins:List (Addr × Obj)}{σ:St}{H2:Hp}{s2:Shared}{scope:Scope}{own:List Str}{cap:List (Str × Nat)}{fp:List Addr}
theorem a6c(h:a3l X scope own cap=true):scope.kind=.function:=by
 simp only [a3l,and_eq_true,beq_iff_eq] at h
 exact h.1.1.1
theorem a6d(h:a3l X scope own cap=true):∀ y ∈ scope.names,y.2=.free->X.env.kindOf y.1=some .cell ∨ X.env.kindOf y.1=some .free:=by
 simp only [a3l,and_eq_true,beq_iff_eq] at h
 intro y hy hf
 have q:=all_eq_true.mp h.1.1.2 y hy
 simp only [hf,bne_self_eq_false,Bool.false_or,Bool.or_eq_true,beq_iff_eq] at q
 exact q
theorem c3b(h:a3l X scope own cap=true):∀ p ∈ cap,X.N[p.2]? = some p.1/\scope.names.lookup p.1=some .free:=by
 simp only [a3l,and_eq_true,beq_iff_eq] at h
 intro p hp
 have q:=all_eq_true.mp h.1.2 p hp
 simp only [and_eq_true,beq_iff_eq] at q
 exact q
theorem b6j(I:Inv X pins σ H2 s2)(hok:a3l X scope own cap=true)(hnd:(scope.names.map (·.1)).Nodup)(hfp:∀ b ∈ fp,FpOk X pins H2 b)(hob:∀ b ∈ fp,∃ o,s2.heap.get? b=some o) :
  Inv (cxC X scope own cap fp s2 H2) [] (a5q own cap σ) (upd H2 s2.heap.objs.size (.lst []))
   { s2 with heap:=pushCells ((s2.heap.push { cls:=.type "list",dict:=none,data:=.seq ([]:List Value).toArray }).push { cls:=.type "dict",data:=.dict #[] }) scope.names }:=by
 have hkind:=a6c hok
 have hfree:=a6d hok
 have hcap:=c3b hok
 have hdf:H2 s2.heap.objs.size=none:=I.fresh
 generalize hh1:s2.heap.push { cls:=.type "list",dict:=none,data:=.seq ([]:List Value).toArray }=h1
 have z1:h1.objs.size=s2.heap.objs.size + 1:=by rw [← hh1,size_push]
 generalize hh2:h1.push { cls:=.type "dict",data:=.dict #[] }=h2
 have z2:h2.objs.size=s2.heap.objs.size + 1 + 1:=by rw [← hh2,size_push,z1]
 have k1:∀ b o,s2.heap.get? b=some o->h1.get? b=some o:=fun b o e=>by rw [← hh1];exact get?_push_of_some _ e
 have k2:∀ b o,h1.get? b=some o->h2.get? b=some o:=fun b o e=>by rw [← hh2];exact get?_push_of_some _ e
 have k3:∀ b o,h2.get? b=some o->(pushCells h2 scope.names).get? b=some o:=fun b o e=>pushCells_keeps _ _ b o e
 have k:∀ b o,s2.heap.get? b=some o->(pushCells h2 scope.names).get? b=some o:=fun b o e=>k3 b o (k2 b o (k1 b o e))
 have hD:(pushCells h2 scope.names).get? s2.heap.objs.size=some { cls:=.type "list",dict:=none,data:=.seq ([]:List Value).toArray }:=by
  refine k3 _ _ (k2 _ _ ?_)
  rw [← hh1];exact get?_push_size _ rfl
 have hC:(pushCells h2 scope.names).Ns (s2.heap.objs.size + 1) fun _=>none:=by
  have q:h2.Ns h1.objs.size fun _=>none:=by rw [← hh2];exact Heap.Ns.new h1 (.type "dict")
  rw [z1] at q
  exact q.keeps k3
 have own_ok:=cellsFrom_ok scope.names h2 (s2.heap.objs.size + 1 + 1) [] ⟨fun _ _ hm=>(nomatch hm),List.Pairwise.nil⟩ (by rw [z2];exact le_refl _)
 rw [z2] at own_ok
 have ec:(cxC X scope own cap fp s2 H2).env.cells=cellsFrom (s2.heap.objs.size + 1 + 1) scope.names [] ++ clOf X.env scope.names []:=a3f _ _ _
 -- an entry is a new cell, or one of the names around
 have split:∀ x c,(cxC X scope own cap fp s2 H2).env.cells.lookup x=some c->((x,c) ∈ cellsFrom (s2.heap.objs.size + 1 + 1) scope.names []) ∨ ((x,NameKind.free) ∈ scope.names/\X.env.cells.lookup x=some c):=fun x c e=>by
  rw [ec,a5j] at e
  cases e1:(cellsFrom (s2.heap.objs.size + 1 + 1) scope.names []).lookup x with
  | some c'=>rw [e1] at e;cases e;exact .inl (mem_of_lookup e1)
  | none =>
   rw [e1] at e
   have e':(clOf X.env scope.names []).lookup x=some c:=e
   obtain⟨m1,m2⟩:=a5i (mem_of_lookup e')
   obtain⟨c',hc'⟩:=I.ok.has x (hfree _ m1 rfl)
   rw [hc'] at m2
   exact .inr ⟨m1,by rw [hc',m2];rfl⟩
 have capCell:∀ x,(x,NameKind.free) ∈ scope.names->∀ c,X.env.cells.lookup x=some c->(cxC X scope own cap fp s2 H2).env.cells.lookup x=some c:=fun x hx c hc=>by
  rw [ec,a5j]
  cases e1:(cellsFrom (s2.heap.objs.size + 1 + 1) scope.names []).lookup x with
  | some c' =>
   have q:=(a1w (mem_of_lookup e1)).1
   have q1:=a3q hnd q
   have q2:=a3q hnd hx
   rw [q1] at q2;cases q2
  | none =>
   obtain⟨u,hu⟩:=lookup_mem (b3i (env:=X.env) hx)
   have m2:=(a5i (mem_of_lookup hu)).2
   rw [hc] at m2
   show(clOf X.env scope.names []).lookup x=some c
   rw [hu,m2];rfl
 have lt_of_around:∀ x c,X.env.cells.lookup x=some c->c < s2.heap.objs.size:=fun x c e=>by
  obtain⟨v,q⟩:=I.cell x c e
  exact q.lt
 have kof:∀ x,(cxC X scope own cap fp s2 H2).env.kindOf x=(scope.names.lookup x).map fun k=>if (k == NameKind.free && X.env.scope.kind == .function && X.env.kindOf x == some .cell) then NameKind.cell else k:=fun x=>a8a X.env x scope.names
 have fpLt:∀ b ∈ fp,b < s2.heap.objs.size:=fun b hb=>by obtain⟨o,e⟩:=hob b hb;exact lt_size e
 have hokH:HOk X.prog X.w (upd H2 s2.heap.objs.size (.lst [])) (pushCells h2 scope.names):=I.hok.laid k (le_refl _) ⟨zero_le _,[],_,.nil,hD⟩
 refine⟨⟨I.ok.mod,?_,I.ok.glob,I.ok.blt,le_succ _,fun x y c e1 e2=>?_,fun x hx=>?_,fun x c hf e=>?_,I.ok.hd,I.ok.frames,.inl rfl,fun b hb=>⟨?_,fun x c e=>?_⟩,I.bs,le_trans I.ok.bsz I.sz,fun b o e hb=>?_,fun b hb hb2=>?_,I.stack,I.stkFree⟩,
  rfl,I.bare,Un.laid k (le_refl _) hdf,⟨_,hC,fun i x v e1 e2 e3=>?_⟩,fun x c e=>?_,?_,fun x c e=>?_,fun p hp=>?_,hokH,?_⟩
 ·exact hkind
 ·rcases split x c e1 with m1 | ⟨m1,q1⟩<;>rcases split y c e2 with m2 | ⟨m2,q2⟩
  ·exact name_of_addr own_ok.apart m1 m2
  ·exact absurd (lt_of_around y c q2) (nlt (by have:=(a1w m1).2;omega))
  ·exact absurd (lt_of_around x c q1) (nlt (by have:=(a1w m2).2;omega))
  ·exact I.ok.inj x y c q1 q2
 ·rw [kof x] at hx
  cases e1:scope.names.lookup x with
  | none=>rw [e1] at hx;rcases hx with z | z<;>cases z
  | some kx =>
   have mx:=mem_of_lookup e1
   cases kx with
   | free =>
    obtain⟨c,hc⟩:=I.ok.has x (hfree _ mx rfl)
    exact⟨c,capCell x mx c hc⟩
   | cell =>
    have q:=PySem.W.cellsFrom_some scope.names (s2.heap.objs.size + 1 + 1) (clOf X.env scope.names []) (x:=x) (.inl e1)
    exact Option.isSome_iff_exists.mp q
   | _=>rw [e1] at hx;rcases hx with z | z<;>simp at z
 ·rcases split x c e with m1 | ⟨m1,q1⟩
  ·have:=(a1w m1).2;show s2.heap.objs.size <= c;omega
  ·have q2:=a3q hnd m1
   have hf':(scope.names.lookup x == some NameKind.cell)=true:=hf
   rw [q2] at hf';simp at hf'
 ·exact ne_of_lt (Nat.lt_succ_of_lt (fpLt b hb))
 ·have h1:=fpLt b hb
  rcases split x c e with m1 | ⟨m1,q1⟩
  ·exact ne_of_gt (lt_of_lt_of_le h1 (by have:=(a1w m1).2;omega))
  ·exact(hfp b hb).2.2.2.2.1 x c q1
 ·rcases (hfp b hb).2.2.2.1 with z | z
  ·exact I.ok.noex b o e z
  ·exact absurd (lt_of_lt_of_le (lt_size e) (le_trans I.ok.bsz z)) (lt_irrefl _)
 ·rcases mem_cons.mp (I.stkSub b hb2) with z | z
  ·exact(hfp b hb).2.1 z
  ·exact(hfp b hb).2.2.1 z
 ·-- names that are closed over
  have ei:own.length <= i:=by
   by_cases hi:i < own.length
   ·unfold a5q at e2
    rw [List.getElem?_append_left (by simpa using hi),List.getElem?_replicate,if_pos hi] at e2
    cases e2
   ·omega
  have e1':(cap.map (·.1))[i - own.length]? = some x:=by
   have:(own ++ cap.map (·.1))[i]? = some x:=e1
   rwa [getElem?_append_right ei] at this
  have e2':(cap.map fun p=>(σ[p.2]?).join)[i - own.length]? = some (some v):=by
   unfold a5q at e2
   rw [getElem?_append_right (by simpa using ei)] at e2
   simpa using e2
  rw [getElem?_map] at e1' e2'
  cases ep:cap[i - own.length]? with
  | none=>rw [ep] at e1';cases e1'
  | some p =>
   rw [ep] at e1' e2'
   have hx:p.1=x:=by simpa using e1'
   have hv:(σ[p.2]?).join=some v:=by simpa using e2'
   have hσ:σ[p.2]? = some (some v):=by
    cases eσ:σ[p.2]? with
    | none=>rw [eσ] at hv;cases hv
    | some w'=>rw [eσ] at hv;simp at hv;rw [hv]
   obtain⟨hN,hl⟩:=hcap p (mem_of_getElem? ep)
   rw [hx] at hN hl
   have mx:=mem_of_lookup hl
   have hvis:Vis X.env.scope x:=by
    rcases hfree _ mx rfl with z | z
    ·exact .inr (.inl z)
    ·exact .inr (.inr z)
   obtain⟨m,_,hl'⟩:=I.loc
   obtain⟨u,r,lk⟩:=hl' p.2 x v hN hσ hvis
   refine⟨u,r,.inr ?_⟩
   rcases lk with⟨z,_⟩ | ⟨z,c,hc,hcell⟩
   ·rcases hfree _ mx rfl with z' | z'<;>rw [z'] at z<;>cases z
   ·refine⟨?_,c,capCell x mx c hc,hcell.keeps k⟩
    rw [kof x,hl]
    by_cases hcc:(NameKind.free == NameKind.free && X.env.scope.kind == .function && X.env.kindOf x == some .cell)=true
    ·left;simp only [map_some,if_pos hcc]
    ·right;simp only [map_some,if_neg hcc]
 ·rcases split x c e with m1 | ⟨m1,q1⟩
  ·exact⟨_,(own_ok.empty x c m1).1⟩
  ·obtain⟨v,q⟩:=I.cell x c q1
   exact⟨v,q.keeps k⟩
 ·show upd H2 s2.heap.objs.size (.lst []) (s2.heap.objs.size + 1)=none
  rw [a0d (Nat.succ_ne_self _)]
  exact I.hok.fresh (le_succ _)
 ·rcases split x c e with m1 | ⟨m1,q1⟩
  ·have hle:=(a1w m1).2
   rw [a0d (ne_of_gt (lt_of_lt_of_le (Nat.lt_succ_self _) (by omega)))]
   exact I.hok.fresh (by omega)
  ·rw [a0d (ne_of_lt (lt_of_around x c q1))]
   exact I.freeC x c q1
 ·exact absurd (show p ∈ ([]:List (Addr × Obj)) from hp) (by simp)
 ·unfold a5q
  show _=(own ++ cap.map (·.1)).length
  simp
end
def PIf(X:Cx)(ifs:List Expr)(t:TT):Prop:=
 ∀ (pins:List (Addr × Obj)) (s:Shared) (σ:St) (H:Hp) (Q:Bool->Hp->Prop),Inv X pins σ H s->t σ H Q ->
  wpAny (model X.prog X.w) X.A (forIn ifs true fun c r=>if r=true then do let ok ← isTrue c X.env (eval c X.env);pure (ForInStep.yield ok) else pure (ForInStep.yield r)) (TP X pins σ Q) X.xe s
def tYes:TT:=fun _ H Q=>Q true H
theorem b0q{X:Cx}:PIf X [] tYes:=fun _ _ _ H _ I h=>wpAny_tests_nil ⟨H,I,h⟩
theorem d0q{X:Cx}{c:Expr}{t:TT}(h:PT X c t):PIf X [c] t:=fun pins s σ H Q I hq=>wpAny_tests_one (h pins s σ H Q I hq)
def a8y(own:List Str)(cap:List (Str × Nat))(g:TG)(tt:TT)(te:TE)(J:It)(D:Addr)(σ:St)(H1:Hp)(Z:Hp->Prop):Prop:=
 ∃ W:Nat->Nat->St->Hp->Prop,(∃ m,W 0 m (a5q own cap σ) (upd H1 D (.lst [])))/\∀ i m σ' H',W i m σ' H' ->
  (J.stop i H'/\Z H') ∨ (J.go i H'/\∃ N:St->Hp->Prop,(∀ σ'' H'',N σ'' H''->∃ m',m' < m/\W (i + 1) m' σ'' H'')/\∀ x H'',J.yld i H' x H'' ->
   g x σ' H'' fun σ2 H2=>tt σ2 H2 fun b H3=>if b=true then te σ2 H3 fun y H4=>∃ ys,H4 D=some (.lst ys)/\ys.length < sizeLine/\N σ2 (upd H4 D (.lst (ys ++ [y]))) else N σ2 H3)
def b5o(own:List Str)(cap:List (Str × Nat))(wi:TI)(g:TG)(tt:TT)(te:TE):TE:=fun σ H Q=>wi σ H fun J H1=>∀ D,H1 D=none->a8y own cap g tt te J D σ H1 (Q (.ref D))
theorem b6k{X:Cx}{elt tg iter:Expr}{ifs:List Expr}{scope:Scope}{pos:Pos}{own:List Str}{cap:List (Str × Nat)}{g:TG}{tt:TT}{te:TE}
  (hc:X.calm=true) (hok:a3l X scope own cap=true) (hnd:(scope.names.map (·.1)).Nodup)
  (hg:∀ fp s2 H2,PG (cxC X scope own cap fp s2 H2) tg g) (ht:∀ fp s2 H2,PIf (cxC X scope own cap fp s2 H2) ifs tt) (he:∀ fp s2 H2,PE (cxC X scope own cap fp s2 H2) elt te)
  {pins:List (Addr × Obj)} {σ:St} {H1:Hp} {s2:Shared} {it:Addr} {fp:List Addr} {tn:Nat->Heap->Prop} {J:It} {Z:Hp->Prop} {RR:Result->Shared->Prop}
  (I:Inv X pins σ H1 s2) (T:Turn X.prog X.w X.K tg J fp it tn) (h0:tn 0 s2.heap) (hfp:∀ b ∈ fp,FpOk X pins H1 b)
  (hb:a8y own cap g tt te J s2.heap.objs.size σ H1 Z)
  (hR:∀ s' H' m,(∀ h',Heap.SameBut (s2.heap.objs.size + 1) s'.heap h'->Inv X pins σ H' { s' with heap:=h' })->s'.heap.Ns (s2.heap.objs.size + 1) m->H' (s2.heap.objs.size + 1)=none->Z H'->RR (.ok .next) s') :
  wpAny (model X.prog X.w) X.A (newFunctionEnv scope X.env.globals (clOf X.env scope.names []) [] X.env.qual none .none (some X.env)) (fun cenv s₄ =>
   cenv.locals=s2.heap.objs.size + 1/\codeAny (model X.prog X.w) X.A (.compStart (.ListComp elt [⟨tg,iter,ifs,0⟩] scope pos) 0 (.ref it) (.ref s2.heap.objs.size) { cenv with scope:=relabel scope X.env }) RR s₄)
   X.xe { s2 with heap:=s2.heap.push { cls:=.type "list",dict:=none,data:=.seq ([]:List Value).toArray } }:=by
 have hob:∀ b ∈ fp,∃ o,s2.heap.get? b=some o:=fun b hb=>let ⟨o,e,_⟩:=T.obj _ _ h0 b hb;⟨o,e⟩
 have I0:=b6j (own:=own) (cap:=cap) I hok hnd hfp hob
 refine b1k ?_
 have z1:(s2.heap.push { cls:=.type "list",dict:=none,data:=.seq ([]:List Value).toArray }).objs.size=s2.heap.objs.size + 1:=size_push ..
 dsimp only
 rw [z1]
 refine⟨rfl,?_⟩
 show codeAny (model X.prog X.w) X.A (.compStart (.ListComp elt [⟨tg,iter,ifs,0⟩] scope pos) 0 (.ref it) (.ref s2.heap.objs.size) (cxC X scope own cap fp s2 H1).env) RR _
 generalize hs4:({ s2 with heap:=pushCells ((s2.heap.push { cls:=.type "list",dict:=none,data:=.seq ([]:List Value).toArray }).push { cls:=.type "dict",data:=.dict #[] }) scope.names }:Shared)=s4 at I0 ⊢
 have kp:∀ b o,s2.heap.get? b=some o->s4.heap.get? b=some o:=fun b o e=>by
  rw [← hs4];exact pushCells_keeps _ _ b o (get?_push_of_some _ (get?_push_of_some _ e))
 have st4:tn 0 s4.heap:=T.keep _ _ _ h0 fun b _ o e=>kp b o e
 obtain⟨W,⟨m0,w0⟩,turn⟩:=hb
 -- the iterator's records are the block's own
 have stat:∀ {H':Hp},(∀ b ∈ fp,H' b=none)->∀ b ∈ fp,FpOk (cxC X scope own cap fp s2 H1) [] H' b:=fun hn b hb =>
  ⟨hn b hb,(I0.ok.exf b hb).1,I0.ok.exfs b hb,.inl hb,fun x c e=>(I0.ok.exf b hb).2 x c e,fun p hp=>absurd (show p ∈ ([]:List (Addr × Obj)) from hp) (by simp)⟩
 have fr0:∀ b ∈ fp,upd H1 s2.heap.objs.size (.lst []) b=none:=fun b hb=>by
  obtain⟨o,e⟩:=hob b hb
  rw [a0d (ne_of_lt (lt_size e))]
  exact(hfp b hb).1
 have loop:codeAny (model X.prog X.w) X.A (.compLoop (.ListComp elt [⟨tg,iter,ifs,0⟩] scope pos) 0 (.ref it) (.ref s2.heap.objs.size) (cxC X scope own cap fp s2 H1).env) RR s4:=by
  refine b1l (fun n s'=>∃ i σ' H',Inv (cxC X scope own cap fp s2 H1) [] σ' H' s'/\tn i s'.heap/\(∀ b ∈ fp,H' b=none)/\W i n σ' H') ?_ m0 ⟨0,_,_,I0,st4,fr0,w0⟩
  rintro n s3 ⟨i,σ3,H3,I3,st3,fr3,w3⟩
  rcases turn i n σ3 H3 w3 with⟨stop,qn⟩ | ⟨go,N,hN,step⟩
  ·refine wpAny_noRaise (thn (T.done (cxC X scope own cap fp s2 H1) rfl rfl rfl hc i [] s3 σ3 H3 _ I3 (stat fr3) st3 stop) fun r s5 hq9=>?_)
   obtain⟨hr,I5⟩:=hq9
   subst hr
   obtain⟨m5,hm5,_⟩:=id I5.loc
   refine hR s5 H3 m5 (fun h' hs'=>?_) hm5 I5.free qn
   ·have un:Un (frs X.stack) fp H1 H3 s2.heap s5.heap:=I5.base
    have low:∀ b o,s2.heap.get? b=some o->b ≠ s2.heap.objs.size + 1:=fun b o e=>ne_of_lt (Nat.lt_succ_of_lt (lt_size e))
    refine I.call' (s':={ s5 with heap:=h' }) (ch:=fp) I5.os ⟨fun b o e n hb hx=>(hs'.2 b (low b o e)).trans (un.keep b o e n hb hx),fun b o e n hb hx=>?_,un.free,fun b o e hx=>?_,un.tups,un.frzs,un.tbls⟩ ?_ I5.bare fun b hb=>⟨(hfp b hb).2.2.2.1,(hfp b hb).2.1,(hfp b hb).2.2.2.2.1,(hfp b hb).2.2.2.2.2⟩
    ·obtain⟨sl,q⟩:=un.slot b o e n hb hx
     exact⟨sl,(hs'.2 b (low b o e)).trans q⟩
    ·obtain⟨o',q⟩:=un.there b o e hx
     exact⟨o',(hs'.2 b (low b o e)).trans q⟩
    ·intro b ob e
     refine(I5.hok b ob e).stay (fun c w' hc' q=>(hs'.2 c ?_).trans q) (fun _ q=>q) (fun _ _ q=>q) fun _ _ _ q=>q
     have nC:H3 (s2.heap.objs.size + 1)=none:=I5.free
     rintro rfl
     rcases hc' with rfl | hc'
     ·rw [nC] at e;cases e
     ·rw [nC] at hc';cases hc'
  ·refine wpAny_noRaise (thn (T.item (cxC X scope own cap fp s2 H1) rfl rfl rfl hc i [] s3 σ3 H3 (fun _ _=>False) I3 (stat fr3) st3 go) fun r s5 hq9=>?_)
   obtain⟨u,hr,h5⟩:=hq9
   subst hr
   refine wpAny_noRaise (thn h5 fun _ s6 hq9=>?_)
   obtain⟨x,H6,I6,r6,y6,st6,fr6⟩:=hq9
   have I6':=I6.pinned (stat fr6) (T.obj _ _ st6)
   refine wpAny_noRaise (thn (hg fp s2 H1 _ s6 σ3 H6 x u _ I6' r6 (step x H6 y6)) fun _ s7 hq9=>?_)
   obtain⟨σ7,H7,I7,q7⟩:=hq9
   refine wpAny_noRaise (thn (ht fp s2 H1 _ s7 σ7 H7 _ I7 q7) fun ok s8 hq9=>?_)
   obtain⟨H8,I8,q8⟩:=hq9
   have again:∀ {σ9:St} {H9:Hp} {s9:Shared},Inv (cxC X scope own cap fp s2 H1) ([] ++ a7w fp s6.heap) σ9 H9 s9->N σ9 H9->∃ m,m < n/\∃ i σ' H',Inv (cxC X scope own cap fp s2 H1) [] σ' H' s9/\tn i s9.heap/\(∀ b ∈ fp,H' b=none)/\W i m σ' H':=fun{σ9 H9 s9} I9 n9=>by
    obtain⟨m',hm,w9⟩:=hN σ9 H9 n9
    refine⟨m',hm,i + 1,σ9,H9,I9.unpinned,T.keep _ _ _ st6 fun b hb o e=>(I9.pin (b,o) (mem_append_right _ (mem_append_right _ (a3v hb e)))).1,fun b hb=>?_,w9⟩
    obtain⟨o,e,d⟩:=T.obj _ _ st6 b hb
    exact(I9.pin (b,o) (mem_append_right _ (mem_append_right _ (a3v hb e)))).2.1
   cases ok with
   | false=>exact again I8 q8
   | true =>
    rw [if_pos rfl] at q8
    rw [if_pos rfl]
    refine wpAny_noRaise (thn (he fp s2 H1 _ s8 σ7 H8 _ I8 q8) fun y s9 hq9=>?_)
    obtain⟨yv,H9,I9,r9,ys,hD,hz,q9⟩:=hq9
    refine wpAny_noRaise (thn (a9x _ s9 σ7 H9 (.ref s2.heap.objs.size) [yv] (.ref s2.heap.objs.size) [y] (fun _ H'=>N σ7 H') I9 rfl (.cons r9 .nil) ⟨_,ys,yv,rfl,rfl,hD,hz,q9⟩) fun _ s10 hq9=>?_)
    obtain⟨_,H10,I10,_,q10⟩:=hq9
    exact again I10 q10
 exact codeAny_compStart_list loop (T.self X.A 0 _ _ _ st4 loop)
theorem a7r{scope:Scope}(hnd:(scope.names.map (·.1)).Nodup):∀ x ∈ scope.names,x.2=.local->scope.names.lookup x.1=some .local:=fun x hx e=>by
 obtain⟨n,k⟩:=x
 have e':k=.local:=e
 subst e'
 exact a3q hnd hx
theorem b3j{X:Cx}{elt tg iter:Expr}{ifs:List Expr}{scope:Scope}{pos:Pos}{own:List Str}{cap:List (Str × Nat)}{wi:TI}{g:TG}{tt:TT}{te:TE}
  (hc:X.calm=true) (hok:a3l X scope own cap=true) (hnd:(scope.names.map (·.1)).Nodup) (hi:PI X tg iter wi)
  (hg:∀ fp s2 H2,PG (cxC X scope own cap fp s2 H2) tg g) (ht:∀ fp s2 H2,PIf (cxC X scope own cap fp s2 H2) ifs tt) (he:∀ fp s2 H2,PE (cxC X scope own cap fp s2 H2) elt te)
  (hs:∀ x,foldedSetIterable iter X.env x=pure x:=by intro _;rfl) :
  PE X (.ListComp elt [⟨tg,iter,ifs,0⟩] scope pos) (b5o own cap wi g tt te):=by
 intro pins s σ H Q I h
 have hkind:=a6c hok
 have hclos:closureFor scope X.env=pure (clOf X.env scope.names []):=a6a fun y hy hf=>I.ok.has y.1 (a6d hok y hy hf)
 rw [eval_ListComp]
 refine wpAny_comprehension_free (use:=none) rfl hs hclos hkind (a7r hnd) (thn (hi pins s σ H _ I h) fun xv s1 h1=>thn h1 fun itv s2 h2=>?_)
 obtain⟨it,fp,tn,J,H1,e,I2,T,st2,f2,hb⟩:=h2
 subst e
 refine wpAny_newObj_type (thn (b6k (iter:=iter) (pos:=pos) (RR:=compPost (model X.prog X.w) X.A X.xe none (EP X pins σ Q) (.ref s2.heap.objs.size) (s2.heap.objs.size + 1)) hc hok hnd hg ht he I2 T st2 f2 (hb _ I2.fresh) fun s' H' m hI hm hnC z=>?_) fun cenv s4 ⟨e,q⟩=>?_)
 ·exact⟨m,hm,fun h' hs'=>⟨.ref s2.heap.objs.size,H',hI h' hs',rfl,z⟩⟩
 ·rw [← e] at q;exact q
theorem d0r{X:Cx}{i:Nat}{y:Str}{py spos:Pos}{elt tg iter:Expr}{ifs:List Expr}{scope:Scope}{pos:Pos}{own:List Str}{cap:List (Str × Nat)}{wi:TI}{g:TG}{tt:TT}{te:TE}
  (hN:X.N.Nodup) (hi':X.N[i]? = some y) (hy:X.env.scope.names.lookup y=some .local)
  (hc:X.calm=true) (hok:a3l X scope own cap=true) (hnd:(scope.names.map (·.1)).Nodup) (hi:PI X tg iter wi)
  (hg:∀ fp s2 H2,PG (cxC X scope own cap fp s2 H2) tg g) (ht:∀ fp s2 H2,PIf (cxC X scope own cap fp s2 H2) ifs tt) (he:∀ fp s2 H2,PE (cxC X scope own cap fp s2 H2) elt te)
  (hsw:swapsWith (.ListComp elt [⟨tg,iter,ifs,0⟩] scope pos) (some (.Name y py)) spos.line X.env=pure true:=by rfl)
  (hs:∀ x,foldedSetIterable iter X.env x=pure x:=by intro _;rfl) :
  PS X (.Assign [.Name y py] (.ListComp elt [⟨tg,iter,ifs,0⟩] scope pos) spos) (tAsg (b5o own cap wi g tt te) (a4v i)):=by
 intro pins s σ H D I h
 have hkind:=a6c hok
 have hclos:closureFor scope X.env=pure (clOf X.env scope.names []):=a6a fun y hy hf=>I.ok.has y.1 (a6d hok y hy hf)
 rw [exec_Assign_Name_used _ _ _ _ hsw]
 refine wpAny_bind (wpAny_standAt (wpAny_bind ?_))
 show wpAny _ X.A (do let _ ← comprehension (.ListComp elt [⟨tg,iter,ifs,0⟩] scope pos) scope X.env _ (newList []) false (eval iter X.env) (some (assign (.Name y py) X.env))) _ _ s
 refine wpAny_bind (wpAny_mono (wpAny_comprehension_free (use:=some (assign (.Name y py) X.env)) (Q:=fun _ s'=>SP X pins D .next s') rfl hs hclos hkind (a7r hnd)
  (thn (hi pins s σ H _ I h) fun xv s1 h1=>thn h1 fun itv s2 h2=>?_)) (fun _ s' hq=>wpAny_pure (wpAny_pure hq)) fun _ _ e=>e)
 obtain⟨it,fp,tn,J,H1,e,I2,T,st2,f2,hb⟩:=h2
 subst e
 refine wpAny_newObj_type (thn (b6k (iter:=iter) (pos:=pos) (RR:=compPost (model X.prog X.w) X.A X.xe (some (assign (.Name y py) X.env)) (fun _ s'=>SP X pins D .next s') (.ref s2.heap.objs.size) (s2.heap.objs.size + 1)) hc hok hnd hg ht he I2 T st2 f2 (hb _ I2.fresh) fun s' H' m hI hm hnC z=>?_) fun cenv s4 ⟨e,q⟩=>?_)
 ·show wpAny _ _ (assign (.Name y py) X.env (.ref s2.heap.objs.size)) _ _ s'
  have I':Inv X pins σ H' s':=hI s'.heap (Heap.SameBut.refl ..)
  refine wpAny_assign_Name (b3y I' hN hi' (.inl hy) (v:=.ref s2.heap.objs.size) rfl (fun s'' I'' hsb=>?_) (.inr hy))
  obtain⟨a,hs1,ha⟩:=hsb
  have nC:s2.heap.objs.size + 1 ≠ a:=by
   rintro rfl
   rcases ha with ha | ha
   ·have q:=I2.lt
    rw [← ha] at q
    exact absurd q (nlt (le_succ _))
   ·obtain⟨v,q⟩:=I2.cell _ _ ha
    exact absurd q.lt (nlt (le_succ _))
  refine⟨m,hm.sameBut hs1 nC,fun h' hs'=>⟨_,H',?_,z⟩⟩
  obtain⟨_,f1,f2,f3,f4,f5⟩:=I2.fpOk (b:=s2.heap.objs.size + 1) (le_succ _) hnC
  exact I''.turned (t':=s''.toks) (it:=s2.heap.objs.size + 1) (fun b o hb e=>(hs'.2 b hb).trans e) hnC f1 f3 f4 f5
 ·rw [← e] at q;exact q
end L2
end
section
namespace L2
open PySem PySem.Spec PyProof.Rows
theorem a2i:bootBuiltins "len" = some (.builtin "len"):=by decide +kernel
theorem a3g:bootBuiltins "isinstance" = some (.builtin "isinstance"):=by decide +kernel
theorem a4g:bootBuiltins "int" = some (.type "int"):=by decide +kernel
theorem b0r:bootBuiltins "bool" = some (.type "bool"):=by decide +kernel
theorem a9y:bootBuiltins "str" = some (.type "str"):=by decide +kernel
theorem a8b:bootBuiltins "list" = some (.type "list"):=by decide +kernel
theorem a4n:bootBuiltins "tuple" = some (.type "tuple"):=by decide +kernel
noncomputable def kvE(p:Str × Int):Key × V:=(Sum.inr p.1,V.int p.2)
noncomputable def kvD(p:Str × Int):PyData × PyData:=(.str p.1,.int p.2)
inductive FD where
 | none
 | bool (b:Bool)
 | int (n:Int)
 | str (x:Str)
noncomputable def FD.v:FD->V
 | .none=>.non
 | .bool b=>.bl b
 | .int n=>.int n
 | .str x=>.str x
noncomputable def FD.d:FD->PyData
 | .none=>.none
 | .bool b=>.bool b
 | .int n=>.int n
 | .str x=>.str x
noncomputable def keyD:Key->PyData
 | .inl i=>.int i
 | .inr x=>.str x
noncomputable def gE(p:Key × FD):Key × V:=(p.1,p.2.v)
noncomputable def gD(p:Key × FD):PyData × PyData:=(keyD p.1,p.2.d)
noncomputable def emb(p:Str × Int):Key × FD:=(Sum.inr p.1,FD.int p.2)
mutual
noncomputable def AtD(K:W.Frag)(H:Hp)(S:Addr->Prop):PyData->V->Prop
 | .none,v=>v=.non
 | .bool b,v=>v=.bl b
 | .int i,v=>v=.int i
 | .str x,v=>v=.str x
 | .list ds,v=>∃ a xs,v=.ref a/\S a/\H a=some (.lst xs)/\a0b K H S ds xs
 | .tuple ds,v=>∃ a xs,v=.ref a/\SqT K H a xs/\a0b K H S ds xs
 | .dict kvs,v=>∃ (a:Addr) (κ:List (Key × V)),v=.ref a/\S a/\H a=some (.dK κ)/\a0r K H S kvs κ
noncomputable def a0b(K:W.Frag)(H:Hp)(S:Addr->Prop):List PyData->List V->Prop
 | [],vs=>vs=[]
 | d :: ds,vs=>∃ v r,vs=v :: r/\AtD K H S d v/\a0b K H S ds r
noncomputable def a0r(K:W.Frag)(H:Hp)(S:Addr->Prop):List (PyData × PyData)->List (Key × V)->Prop
 | [],κ=>κ=[]
 | (x,d) :: r,κ=>∃ k v t,κ=(k,v) :: t/\x=keyD k/\AtD K H S d v/\a0r K H S r t
end
abbrev Any:Addr->Prop:=fun _=>True
abbrev But(t:Addr):Addr->Prop:=fun b=>b ≠ t
def Keep(S:Addr->Prop)(H H':Hp):Prop:=(∀ b xs,H b=some (.tup xs)->H' b=some (.tup xs))/\(∀ b o u,H b=some (.frz o u)->H' b=some (.frz o u))/\∀ b o,S b->H b=some o->H' b=some o
section
variable{K:W.Frag}{H H':Hp}{S S':Addr->Prop}
theorem Keep.refl(S:Addr->Prop)(H:Hp):Keep S H H:=⟨fun _ _ h=>h,fun _ _ _ h=>h,fun _ _ _ h=>h⟩
theorem Keep.trans{H1:Hp}(a:Keep S H H1)(b:Keep S H1 H'):Keep S H H':=⟨fun c xs h=>b.1 c xs (a.1 c xs h),fun c o xs h=>b.2.1 c o xs (a.2.1 c o xs h),fun c xs s h=>b.2.2 c xs s (a.2.2 c xs s h)⟩
theorem Keep.less(e:Keep S H H')(h:∀ b,S' b->S b):Keep S' H H':=⟨e.1,e.2.1,fun b xs s q=>e.2.2 b xs (h b s) q⟩
theorem Same.keep(e:Same H H'):Keep S H H':=⟨fun b xs h=>e b _ h,fun b o xs h=>e b _ h,fun b xs _ h=>e b _ h⟩
theorem c3c{p:Addr}{xs ys:List V}(h:H p=some (.lst xs)):Keep (But p) H (upd H p (.lst ys)):=
 ⟨fun b zs q=>by rw [a0d (b5l q h (by intro z;cases z))];exact q,fun b o zs q=>by rw [a0d (b5l q h (by intro z;cases z))];exact q,fun b zs hb q=>by rw [a0d hb];exact q⟩
theorem Keep.seqT{a:Addr}{xs:List V}(e:Keep S H H')(h:SqT K H a xs):SqT K H' a xs:=by
 rcases h with(h | ⟨o,h⟩) | h
 ·exact .inl (.inl (e.1 _ _ h))
 ·exact .inl (.inr ⟨o,e.2.1 _ _ _ h⟩)
 ·exact .inr h
theorem a0o{H:Hp}{p:Addr}(h:H p=none)(o:HO):Same H (upd H p o):=fun b u q=>by rw [a0d (a0v q h)];exact q
mutual
theorem AtD.mono(e:Keep S H H'):∀ (d:PyData) (v:V),AtD K H S d v->AtD K H' S d v
 | .none,_,h=>by unfold AtD at h ⊢;exact h
 | .bool _,_,h=>by unfold AtD at h ⊢;exact h
 | .int _,_,h=>by unfold AtD at h ⊢;exact h
 | .str _,_,h=>by unfold AtD at h ⊢;exact h
 | .list ds,v,h=>by
  unfold AtD at h ⊢
  obtain⟨a,xs,e1,s,q,r⟩:=h
  exact⟨a,xs,e1,s,e.2.2 _ _ s q,a0b.mono e ds xs r⟩
 | .tuple ds,v,h=>by
  unfold AtD at h ⊢
  obtain⟨a,xs,e1,q,r⟩:=h
  exact⟨a,xs,e1,e.seqT q,a0b.mono e ds xs r⟩
 | .dict kvs,v,h=>by
  unfold AtD at h ⊢
  obtain⟨a,ν,e1,s,q,e2⟩:=h
  exact⟨a,ν,e1,s,e.2.2 a _ s q,a0r.mono e kvs ν e2⟩
theorem a0b.mono(e:Keep S H H'):∀ (ds:List PyData) (vs:List V),a0b K H S ds vs->a0b K H' S ds vs
 | [],_,h=>by unfold a0b at h ⊢;exact h
 | d :: ds,vs,h=>by
  unfold a0b at h ⊢
  obtain⟨v,r,e1,h1,h2⟩:=h
  exact⟨v,r,e1,AtD.mono e d v h1,a0b.mono e ds r h2⟩
theorem a0r.mono(e:Keep S H H'):∀ (kvs:List (PyData × PyData)) (κ:List (Key × V)),a0r K H S kvs κ->a0r K H' S kvs κ
 | [],_,h=>by unfold a0r at h ⊢;exact h
 | (x,d) :: r,κ,h=>by
  unfold a0r at h ⊢
  obtain⟨k,v,t,e1,e2,h1,h2⟩:=h
  exact⟨k,v,t,e1,e2,AtD.mono e d v h1,a0r.mono e r t h2⟩
end
mutual
theorem AtD.more(e:∀ b,S b->S' b):∀ (d:PyData) (v:V),AtD K H S d v->AtD K H S' d v
 | .none,_,h=>by unfold AtD at h ⊢;exact h
 | .bool _,_,h=>by unfold AtD at h ⊢;exact h
 | .int _,_,h=>by unfold AtD at h ⊢;exact h
 | .str _,_,h=>by unfold AtD at h ⊢;exact h
 | .list ds,v,h=>by
  unfold AtD at h ⊢
  obtain⟨a,xs,e1,s,q,r⟩:=h
  exact⟨a,xs,e1,e a s,q,a0b.more e ds xs r⟩
 | .tuple ds,v,h=>by
  unfold AtD at h ⊢
  obtain⟨a,xs,e1,q,r⟩:=h
  exact⟨a,xs,e1,q,a0b.more e ds xs r⟩
 | .dict kvs,v,h=>by
  unfold AtD at h ⊢
  obtain⟨a,ν,e1,s,q,e2⟩:=h
  exact⟨a,ν,e1,e a s,q,a0r.more e kvs ν e2⟩
theorem a0b.more(e:∀ b,S b->S' b):∀ (ds:List PyData) (vs:List V),a0b K H S ds vs->a0b K H S' ds vs
 | [],_,h=>by unfold a0b at h ⊢;exact h
 | d :: ds,vs,h=>by
  unfold a0b at h ⊢
  obtain⟨v,r,e1,h1,h2⟩:=h
  exact⟨v,r,e1,AtD.more e d v h1,a0b.more e ds r h2⟩
theorem a0r.more(e:∀ b,S b->S' b):∀ (kvs:List (PyData × PyData)) (κ:List (Key × V)),a0r K H S kvs κ->a0r K H S' kvs κ
 | [],_,h=>by unfold a0r at h ⊢;exact h
 | (x,d) :: r,κ,h=>by
  unfold a0r at h ⊢
  obtain⟨k,v,t,e1,e2,h1,h2⟩:=h
  exact⟨k,v,t,e1,e2,AtD.more e d v h1,a0r.more e r t h2⟩
end
mutual
noncomputable def a6y:PyData->Bool
 | .none=>true | .bool _=>true | .int _=>true | .str _=>true
 | .list _=>false
 | .tuple ds=>b0s ds
 | .dict _=>false
noncomputable def b0s:List PyData->Bool
 | []=>true
 | d :: ds=>a6y d && b0s ds
end
mutual
theorem AtD.tups:∀ (d:PyData) (v:V),a6y d=true->AtD K H S d v->AtD K H S' d v
 | .none,_,_,h=>by unfold AtD at h ⊢;exact h
 | .bool _,_,_,h=>by unfold AtD at h ⊢;exact h
 | .int _,_,_,h=>by unfold AtD at h ⊢;exact h
 | .str _,_,_,h=>by unfold AtD at h ⊢;exact h
 | .list ds,v,t,h=>by unfold a6y at t;cases t
 | .tuple ds,v,t,h=>by
  unfold a6y at t
  unfold AtD at h ⊢
  obtain⟨a,xs,e1,q,r⟩:=h
  exact⟨a,xs,e1,q,a0b.tups ds xs t r⟩
 | .dict _,_,t,_=>by unfold a6y at t;cases t
theorem a0b.tups:∀ (ds:List PyData) (vs:List V),b0s ds=true->a0b K H S ds vs->a0b K H S' ds vs
 | [],_,_,h=>by unfold a0b at h ⊢;exact h
 | d :: ds,vs,t,h=>by
  unfold b0s at t
  rw [and_eq_true] at t
  unfold a0b at h ⊢
  obtain⟨v,r,e1,h1,h2⟩:=h
  exact⟨v,r,e1,AtD.tups d v t.1 h1,a0b.tups ds r t.2 h2⟩
end
theorem a0b.nil:a0b K H S [] []:=by unfold a0b;rfl
theorem a0b.cons{d:PyData}{ds:List PyData}{v:V}{vs:List V}(h:AtD K H S d v)(t:a0b K H S ds vs):a0b K H S (d :: ds) (v :: vs):=by
 unfold a0b;exact⟨v,vs,rfl,h,t⟩
theorem a0b.uncons{d:PyData}{ds:List PyData}{vs:List V}(h:a0b K H S (d :: ds) vs):∃ v r,vs=v :: r/\AtD K H S d v/\a0b K H S ds r:=by
 unfold a0b at h;exact h
theorem a0b.unnil{vs:List V}(h:a0b K H S [] vs):vs=[]:=by unfold a0b at h;exact h
theorem a0b.length:∀ {ds:List PyData} {vs:List V},a0b K H S ds vs->vs.length=ds.length
 | [],_,h=>by rw [h.unnil];rfl
 | d :: ds,vs,h=>by
  obtain⟨v,r,e,_,t⟩:=h.uncons
  rw [e,length_cons,length_cons,a0b.length t]
theorem a0b.get:∀ {ds:List PyData} {vs:List V} {i:Nat} {d:PyData},a0b K H S ds vs->ds[i]? = some d->∃ v,vs[i]? = some v/\AtD K H S d v
 | [],_,i,d,_,e=>by simp at e
 | d' :: ds,vs,0,d,h,e=>by
  obtain⟨v,r,rfl,hd,t⟩:=h.uncons
  simp at e;subst e
  exact⟨v,by simp,hd⟩
 | d' :: ds,vs,i + 1,d,h,e=>by
  obtain⟨v,r,rfl,hd,t⟩:=h.uncons
  obtain⟨w,e1,e2⟩:=a0b.get (i:=i) t (by simpa using e)
  exact⟨w,by simpa using e1,e2⟩
theorem a0b.append:∀ {ds es:List PyData} {vs ws:List V},a0b K H S ds vs->a0b K H S es ws->a0b K H S (ds ++ es) (vs ++ ws)
 | [],_,_,_,h,t=>by rw [h.unnil];exact t
 | d :: ds,es,vs,ws,h,t=>by
  obtain⟨v,r,rfl,hd,q⟩:=h.uncons
  exact .cons hd (a0b.append q t)
theorem a0b.snoc{ds:List PyData}{vs:List V}{d:PyData}{v:V}(h:a0b K H S ds vs)(hd:AtD K H S d v):a0b K H S (ds ++ [d]) (vs ++ [v]):=h.append (.cons hd .nil)
theorem a0b.drop:∀ {ds:List PyData} {vs:List V} (n:Nat),a0b K H S ds vs->a0b K H S (ds.drop n) (vs.drop n)
 | _,_,0,h=>by simpa using h
 | [],vs,n + 1,h=>by rw [h.unnil];exact .nil
 | d :: ds,vs,n + 1,h=>by
  obtain⟨v,r,rfl,hd,q⟩:=h.uncons
  exact a0b.drop n q
theorem a0b.take:∀ {ds:List PyData} {vs:List V} (n:Nat),a0b K H S ds vs->a0b K H S (ds.take n) (vs.take n)
 | _,_,0,h=>by simpa using a0b.nil
 | [],vs,n + 1,h=>by rw [h.unnil];exact .nil
 | d :: ds,vs,n + 1,h=>by
  obtain⟨v,r,rfl,hd,q⟩:=h.uncons
  exact .cons hd (a0b.take n q)
theorem a0b.set:∀ {ds:List PyData} {vs:List V} (i:Nat) {d:PyData} {v:V},a0b K H S ds vs->AtD K H S d v->a0b K H S (ds.set i d) (vs.set i v)
 | [],_,i,d,v,h,_=>by rw [h.unnil];exact .nil
 | d' :: ds,vs,0,d,v,h,hd=>by
  obtain⟨v',r,rfl,_,q⟩:=h.uncons
  exact .cons hd q
 | d' :: ds,vs,i + 1,d,v,h,hd=>by
  obtain⟨v',r,rfl,h',q⟩:=h.uncons
  exact .cons h' (a0b.set i q hd)
theorem a8z:AtD K H S .none .non:=by unfold AtD;rfl
theorem a0z(b:Bool):AtD K H S (.bool b) (.bl b):=by unfold AtD;rfl
theorem a2d(i:Int):AtD K H S (.int i) (.int i):=by unfold AtD;rfl
theorem a2n(x:Str):AtD K H S (.str x) (.str x):=by unfold AtD;rfl
theorem a8c{v:V}(h:AtD K H S .none v):v=.non:=by unfold AtD at h;exact h
theorem a5k{b:Bool}{v:V}(h:AtD K H S (.bool b) v):v=.bl b:=by unfold AtD at h;exact h
theorem a8d{i:Int}{v:V}(h:AtD K H S (.int i) v):v=.int i:=by unfold AtD at h;exact h
theorem a8e{x:Str}{v:V}(h:AtD K H S (.str x) v):v=.str x:=by unfold AtD at h;exact h
theorem a5v{ds:List PyData}{v:V}(h:AtD K H S (.tuple ds) v):∃ a xs,v=.ref a/\SqT K H a xs/\a0b K H S ds xs:=by unfold AtD at h;exact h
theorem a3r{ds:List PyData}{v:V}(h:AtD K H S (.list ds) v):∃ a xs,v=.ref a/\S a/\H a=some (.lst xs)/\a0b K H S ds xs:=by unfold AtD at h;exact h
theorem a2h{ds:List PyData}{a:Addr}{xs:List V}(q:SqT K H a xs)(h:a0b K H S ds xs):AtD K H S (.tuple ds) (.ref a):=by unfold AtD;exact⟨a,xs,rfl,q,h⟩
theorem a3w{ds:List PyData}{a:Addr}{xs:List V}(s:S a)(q:H a=some (.lst xs))(h:a0b K H S ds xs):AtD K H S (.list ds) (.ref a):=by unfold AtD;exact⟨a,xs,rfl,s,q,h⟩
theorem a6r{kvs:List (PyData × PyData)}{v:V}(h:AtD K H S (.dict kvs) v):∃ (a:Addr) (κ:List (Key × V)),v=.ref a/\S a/\H a=some (.dK κ)/\a0r K H S kvs κ:=by unfold AtD at h;exact h
theorem b4j{kvs:List (PyData × PyData)}{κ:List (Key × V)}{a:Addr}(s:S a)(q:H a=some (.dK κ))(h:a0r K H S kvs κ):AtD K H S (.dict kvs) (.ref a):=by unfold AtD;exact⟨a,κ,rfl,s,q,h⟩
theorem a0r.nil:a0r K H S [] []:=by unfold a0r;rfl
theorem a0r.cons{k:Key}{v:V}{d:PyData}{r:List (PyData × PyData)}{t:List (Key × V)}(h:AtD K H S d v)(hr:a0r K H S r t):a0r K H S ((keyD k,d) :: r) ((k,v) :: t):=by
 unfold a0r;exact⟨k,v,t,rfl,rfl,h,hr⟩
theorem a0r.uncons{x d:PyData}{r:List (PyData × PyData)}{κ:List (Key × V)}(h:a0r K H S ((x,d) :: r) κ):∃ k v t,κ=(k,v) :: t/\x=keyD k/\AtD K H S d v/\a0r K H S r t:=by unfold a0r at h;exact h
theorem a0r.unnil{κ:List (Key × V)}(h:a0r K H S [] κ):κ=[]:=by unfold a0r at h;exact h
theorem b1s{ds:List PyData}{p:Addr}{xs:List V}(hp:H p=none)(h:a0b K H S ds xs):AtD K (upd H p (.tup xs)) S (.tuple ds) (.ref p):=
 a2h (SqT.of a0c) (a0b.mono (a0o hp _).keep _ _ h)
theorem c6f{ds:List PyData}{p:Addr}{xs:List V}(s:S p)(hp:H p=none)(h:a0b K H S ds xs):AtD K (upd H p (.lst xs)) S (.list ds) (.ref p):=
 a3w s a0c (a0b.mono (a0o hp _).keep _ _ h)
theorem a0b.ints(ns:List Int):a0b K H S (ns.map .int) (ns.map V.int):=by
 induction ns with
 | nil=>exact .nil
 | cons n r ih=>exact .cons (a2d n) ih
end
theorem c3d(h:Heap){k:Key}{u:Value}(q:b5k k u=true):Reads h u (keyD k) []:=by
 rcases a1t q with⟨i,t,e',h'⟩ | ⟨x,t,e',h'⟩
 ·rw [e',h'];exact .int i t
 ·rw [e',h'];exact .str x t
section
variable{X:Cx}{pins:List (Addr × Obj)}{σ:St}{H:Hp}{s:Shared}{S:Addr->Prop}
mutual
theorem AtD.reads(I:Inv X pins σ H s):∀ (d:PyData) (v:V) (u:Value),AtD X.K H S d v->RelV v u->∃ as,Reads s.heap u d as
 | .none,v,u,h,r=>by cases a8c h;cases r;exact⟨_,.none⟩
 | .bool b,v,u,h,r=>by cases a5k h;cases r;exact⟨_,.bool b⟩
 | .int i,v,u,h,r=>by cases a8d h;obtain⟨t,rfl⟩:=r;exact⟨_,.int i t⟩
 | .str x,v,u,h,r=>by cases a8e h;obtain⟨t,rfl⟩:=r;exact⟨_,.str x t⟩
 | .list ds,v,u,h,r=>by
  obtain⟨a,xs,rfl,_,q,t⟩:=a3r h
  cases r
  obtain⟨its,rv,⟨o,n,e,hc,_,hd⟩,_⟩:=I.list (SqL.of q)
  obtain⟨as,ra⟩:=a0b.reads I ds xs its t rv
  exact⟨_,.list e hc hd (by simpa using ra)⟩
 | .tuple ds,v,u,h,r=>by
  obtain⟨a,xs,rfl,q,t⟩:=a5v h
  cases r
  obtain⟨its,rv,⟨o,e,hc,n,hd⟩,_⟩:=I.tuple q
  obtain⟨as,ra⟩:=a0b.reads I ds xs its t rv
  exact⟨_,.tuple e hc hd (by simpa using ra)⟩
 | .dict kvs,v,u,h,r=>by
  obtain⟨a,ν,rfl,_,q,t⟩:=a6r h
  cases r
  obtain⟨_,_,vs,kv,o,es,ep,e,hc,hd,_,hp,_⟩:=(show a1k X.prog X.w H s.heap a (.dK ν) from I.hok a _ q)
  obtain⟨as,bs,r1,r2⟩:=a0r.reads I kvs ν vs es.toList t kv hp
  exact⟨_,.dict e hc.1 hd r1 r2⟩
theorem a0b.reads(I:Inv X pins σ H s):∀ (ds:List PyData) (vs:List V) (us:List Value),a0b X.K H S ds vs->Vals vs us->∃ as,ReadsAll s.heap us ds as
 | [],vs,us,h,r=>by
  cases h.unnil
  cases r
  exact⟨_,.nil⟩
 | d :: ds,vs,us,h,r=>by
  obtain⟨v,vr,rfl,hd,t⟩:=h.uncons
  cases r with
  | cons r1 r2 =>
   obtain⟨as,q1⟩:=AtD.reads I d v _ hd r1
   obtain⟨bs,q2⟩:=a0b.reads I ds vr _ t r2
   exact⟨_,.cons q1 q2⟩
theorem a0r.reads(I:Inv X pins σ H s):∀ (kvs:List (PyData × PyData)) (κ:List (Key × V)) (vs:List (Key × Value)) (es:List DictEntry),a0r X.K H S kvs κ->KV κ vs->Pairs (b0n X.prog X.w) es vs->∃ as bs,ReadsAll s.heap (es.map (·.key)) (kvs.map (·.1)) as/\ReadsAll s.heap (es.map (·.val)) (kvs.map (·.2)) bs
 | [],κ,vs,es,h,r,q=>by
  cases h.unnil
  cases r
  cases q
  exact⟨_,_,.nil,.nil⟩
 | (x,d) :: kr,κ,vs,es,h,r,q=>by
  obtain⟨k,v,t,rfl,rfl,h1,h2⟩:=h.uncons
  cases r with
  | cons r1 r2 =>
   cases q with
   | cons q1 q2 q3 =>
    rename_i kv _ e _
    obtain⟨kk,kv2⟩:=kv
    obtain⟨e1,e2⟩:=r1
    cases e1
    obtain⟨a1,w1⟩:=AtD.reads I d v kv2 h1 e2
    obtain⟨as,bs,c1,c2⟩:=a0r.reads I kr t _ _ h2 r2 q3
    have hk:Reads s.heap e.key (keyD k) []:=c3d _ (show b5k k e.key=true from q1)
    have g1:=ReadsAll.cons hk c1
    have g2:=ReadsAll.cons w1 c2
    rw [show kv2=e.val from q2.symm] at g2
    exact⟨_,_,g1,g2⟩
end
end
section
variable{X:Cx}
theorem b8t{K:W.Frag}{H:Hp}{S:Addr->Prop}{ds:List PyData}{xs:List V}{i:Int}{d:PyData}(h:a0b K H S ds xs)(e:atI ds i=some d):∃ v,atI xs i=some v/\AtD K H S d v:=by
 unfold atI at e ⊢
 rw [h.length]
 cases q:ixN ds.length i with
 | none=>rw [q] at e;cases e
 | some j =>
  rw [q] at e
  obtain⟨v,e1,e2⟩:=h.get (show ds[j]? = some d from e)
  exact⟨v,e1,e2⟩
def rEqD(K:W.Frag)(neg:Bool):R2:=fun x y H Q=>∃ S S' d e,AtD K H S d x/\AtD K H S' e y/\SeqAt.shaped d=true/\SeqAt.shaped e=true/\Q (.bl (if neg then !PyData.eqv d e else PyData.eqv d e)) H
theorem c3e(hu:X.A.units + 64 < cLine):OpR X (compareOp .Eq) (rEqD X.K false):=by
 intro pins s σ H x y v u Q I rx ry h
 obtain⟨S,S',d,e,hd,he,sd,se,q⟩:=h
 obtain⟨as,ra⟩:=AtD.reads I d x v hd rx
 obtain⟨bs,rb⟩:=AtD.reads I e y u he ry
 exact SeqAt.compareEq_shaped ra rb sd se hu ⟨.bl _,H,I,rfl,q⟩
theorem c3f(hu:X.A.units + 64 < cLine):OpR X (compareOp .NotEq) (rEqD X.K true):=by
 intro pins s σ H x y v u Q I rx ry h
 obtain⟨S,S',d,e,hd,he,sd,se,q⟩:=h
 obtain⟨as,ra⟩:=AtD.reads I d x v hd rx
 obtain⟨bs,rb⟩:=AtD.reads I e y u he ry
 exact SeqAt.compareNe_shaped ra rb sd se hu ⟨.bl _,H,I,rfl,q⟩
noncomputable def tyD:PyData->String
 | .none => "NoneType" | .bool _ => "bool" | .int _ => "int" | .str _ => "str" | .list _ => "list" | .tuple _ => "tuple" | .dict _ => "dict"
noncomputable def isD(T:String)(d:PyData):Bool:=tyD d == T || (T == "int" && tyD d == "bool")
theorem b5p{x:Str}{T:String}{pos:Pos}(hg:Gl X x)(hm:X.mg x=none)(hv:bootBuiltins x=some (.type T)) (hn:x ≠ "__name__":=by decide) (hd:(x == ("__debug__" : Str))=false:=by decide):PE X (.Name x pos) (tC (.ty T)):=
 d0f hg hm hv rfl hn hd
theorem c6g{pins:List (Addr × Obj)}{s:Shared}{σ:St}{H:Hp}{S:Addr->Prop}{d:PyData}{v:V}{u:Value}{T:String}{Q:VK}(I:Inv X pins σ H s)(h:AtD X.K H S d v)(r:RelV v u)
  (ht:PySem.W.kitOne X.K (.type (tyD d)) (.type T)=some (isD T d)) (q:Q (.bl (isD T d)) H) :
  wpAny (model X.prog X.w) X.A (call (.builtin "isinstance") [u,.type T]) (EP X pins σ Q) X.xe s:=by
 have fin:∀ tk,EP X pins σ Q (.bool (isD T d)) { s with toks:=tk }:=fun tk=>⟨.bl _,H,I.tok tk,rfl,q⟩
 cases d with
 | none=>cases a8c h;cases r;exact PySem.W.kia_one PySem.W.kitx_none I.kIn True.intro ht (fun z=>nomatch z) fin
 | bool b=>cases a5k h;cases r;exact PySem.W.kia_one PySem.W.kitx_bool I.kIn True.intro ht (fun z=>nomatch z) fin
 | int i=>cases a8d h;obtain⟨t,rfl⟩:=r;exact PySem.W.kia_one PySem.W.kitx_int I.kIn True.intro ht (fun z=>nomatch z) fin
 | str x=>cases a8e h;obtain⟨t,rfl⟩:=r;exact PySem.W.kia_one PySem.W.kitx_str I.kIn True.intro ht (fun z=>nomatch z) fin
 | list ds =>
  obtain⟨a,xs,rfl,_,hq,_⟩:=a3r h
  cases r
  obtain⟨its,_,⟨o,n,e,hc,_,hd⟩,_⟩:=I.list (SqL.of hq)
  exact PySem.W.kia_one PySem.W.kitx_list I.kIn ⟨o,e,hc⟩ ht (fun z=>nomatch z) fin
 | tuple ds =>
  obtain⟨a,xs,rfl,hq,_⟩:=a5v h
  cases r
  obtain⟨its,_,⟨o,e,hc,n,hd⟩,_⟩:=I.tuple hq
  exact PySem.W.kia_one PySem.W.kitx_tuple I.kIn ⟨o,e,hc⟩ ht (fun z=>nomatch z) fin
 | dict kvs =>
  obtain⟨a,ν,rfl,_,hq,_⟩:=a6r h
  cases r
  obtain⟨_,_,vs,kv,o,es,ep,e,hc,hd,_,hp,_⟩:=(show a1k X.prog X.w H s.heap a (.dK ν) from I.hok a _ hq)
  exact PySem.W.kia_one PySem.W.kitx_dict I.kIn ⟨o,e,hc.1⟩ ht (fun z=>nomatch z) fin
noncomputable def a1j(T:String):Bool:=T == "int" || T == "str" || T == "bool" || T == "list" || T == "tuple" || T == "dict"
theorem b6l(K:W.Frag)(d:PyData)(T:String)(hT:a1j T=true):PySem.W.kitOne K (.type (tyD d)) (.type T)=some (isD T d):=by
 simp only [a1j,Bool.or_eq_true,beq_iff_eq] at hT
 rcases hT with((((rfl | rfl) | rfl) | rfl) | rfl) | rfl<;>cases d<;>rfl
theorem c6h:a1x X (.builtin "isinstance") (fun xs H Q=>∃ v S d T,xs=[v,.ty T]/\AtD X.K H S d v/\a1j T=true/\Q (.bl (isD T d)) H):=by
 intro pins s σ H xs us Q I rs h
 obtain⟨v,S,d,T,rfl,hd,hT,q⟩:=h
 obtain⟨u,u2,rfl,r1,r2⟩:=rs.two
 cases r2
 exact c6g I hd r1 (b6l X.K d T hT) q
end
section
variable{X:Cx}{tg:Expr}
def iDat(K:W.Frag)(tl:TE):TI:=fun σ H R=>tl σ H fun x H1=>(∃ a,x=.ref a/\(∃ xs,SqT K H1 a xs)/\R (Itt K a) H1) ∨ (∃ a,x=.ref a/\(∃ xs,SqL K H1 a xs)/\R (Itl K a) H1)
theorem d4z{l:Expr}{tl:TE}(hl:PE X l tl):PI X tg l (iDat X.K tl):=by
 intro pins s σ H R I h
 refine thn (hl pins s σ H (fun x H1=>(∃ a,x=.ref a/\(∃ xs,SqT X.K H1 a xs)/\R (Itt X.K a) H1) ∨ (∃ a,x=.ref a/\(∃ xs,SqL X.K H1 a xs)/\R (Itl X.K a) H1)) I h) fun v s1 hq9=>?_
 obtain⟨x,H1,I1,r1,q1⟩:=hq9
 rcases q1 with⟨a,rfl,⟨xs,hq⟩,q⟩ | ⟨a,rfl,⟨xs,hq⟩,q⟩
 ·cases r1
  obtain⟨its,rv,p,hz⟩:=I1.tuple hq
  refine wpAny_pyIter_tuple (show s1.heap.IsTuple a its.toArray from p) ?_
  refine⟨s1.heap.objs.size,[s1.heap.objs.size],_,_,H1,rfl,I1.kept (t':=s1.toks) fun b o e=>get?_push_of_some _ e,b9v a _,⟨_,get?_push_size _ rfl,rfl,rfl⟩,fun b hb=>?_,q⟩
  have e:b=s1.heap.objs.size:=by simpa using hb
  subst e
  exact I1.fpOk (le_refl _) (I1.hok.fresh (le_refl _))
 ·cases r1
  obtain⟨its,rv,p,hz⟩:=I1.list hq
  refine wpAny_pyIter_list p.isList ?_
  refine⟨s1.heap.objs.size,[s1.heap.objs.size],_,_,H1,rfl,I1.kept (t':=s1.toks) fun b o e=>get?_push_of_some _ e,b3z a _,⟨_,get?_push_size _ rfl,rfl,rfl⟩,fun b hb=>?_,q⟩
  have e:b=s1.heap.objs.size:=by simpa using hb
  subst e
  exact I1.fpOk (le_refl _) (I1.hok.fresh (le_refl _))
end
def c0i(J:It)(σ:St)(H:Hp)(go:V->St->Hp->(St->Hp->Prop)->Prop)(done:St->Hp->Prop):Prop:=
 ∃ W:Nat->Nat->St->Hp->Prop,(∃ m,W 0 m σ H)/\∀ i m σ H,W i m σ H ->
  (J.stop i H/\done σ H) ∨ (J.go i H/\∃ N:St->Hp->Prop,(∀ σ' H',N σ' H'->∃ m',m' < m/\W (i + 1) m' σ' H')/\∀ x H',J.yld i H x H'->go x σ H' N)
theorem b4k{K:W.Frag}{a:Addr}{xs:List V}{σ:St}{H:Hp}{go:V->St->Hp->(St->Hp->Prop)->Prop}{done:St->Hp->Prop}(Pv:Nat->St->Hp->Prop)(h0:Pv 0 σ H)(hl:∀ i σ H,i <= xs.length->Pv i σ H->SqL K H a xs)
  (hs:∀ i x σ H,xs[i]? = some x->Pv i σ H->go x σ H (Pv (i + 1))) (hd:∀ σ H,Pv xs.length σ H->done σ H):c0i (Itl K a) σ H go done:=by
 refine⟨fun i m σ H=>m=xs.length - i/\i <= xs.length/\Pv i σ H,⟨xs.length,by simp,zero_le _,h0⟩,?_⟩
 rintro i m σ H ⟨rfl,hi,p⟩
 have q:=hl i σ H hi p
 by_cases hlt:i < xs.length
 ·refine .inr ⟨⟨xs,xs[i],q,by simp [hlt]⟩,Pv (i + 1),fun σ' H' p'=>⟨xs.length - (i + 1),by omega,rfl,hlt,p'⟩,fun x H' y=>?_⟩
  obtain⟨e,y⟩:=y
  subst e
  exact hs i x σ _ (y xs q) p
 ·have e:i=xs.length:=by omega
  subst e
  exact .inl ⟨⟨xs,q,le_refl _⟩,hd σ H p⟩
theorem a9z{own:List Str}{cap:List (Str × Nat)}{g:TG}{tt:TT}{te:TE}{J:It}{D:Addr}{σ:St}{H1:Hp}{Z:Hp->Prop}
  (h:c0i J (a5q own cap σ) (upd H1 D (.lst [])) (fun x σ' H'' N=>g x σ' H'' fun σ2 H2=>tt σ2 H2 fun b H3=>if b=true then te σ2 H3 fun y H4=>∃ ys,H4 D=some (.lst ys)/\ys.length < sizeLine/\N σ2 (upd H4 D (.lst (ys ++ [y]))) else N σ2 H3) (fun _ H'=>Z H')) :
  a8y own cap g tt te J D σ H1 Z:=h
end L2
end
section
namespace L2
open PySem PySem.Spec PyProof.Rows
structure Def(K:W.Frag)(mg:Str->Option Value)(x:Str)(st:Stmt)(ps:List Str)(f:Addr)(fd:FuncData):Prop where
 fn:Fun K x x st f fd
 bd:Binds K fd ps []
 gl:mg x=some (.ref f)
section
variable{X:Cx}{k:Nat}{f:Addr}{fd:FuncData}{ps:List Str}{sp:Sp}{x:Str}{st:Stmt}{p pos:Pos}{e:Expr}{es:List Expr}{t:TA}
theorem a4o(d:Def X.K X.mg x st ps f fd)(g:FnOk X.prog X.w X.K X.mg X.base CX0 k f fd ps sp)(hr:Room k X.A)(hg:Gl X x)(ha:PA X (e :: es) t) (hdb:(x == ("__debug__" : Str))=false:=by decide)
  (he:starEach (e :: es) X.env=(false,eval e X.env) :: starEach es X.env:=by rfl) (hpl:(backTo pos (starEach es X.env)).any (·.1)=false:=by rfl):PE X (.Call (.Name x p) (e :: es) [] pos) (b0p sp [] E0 t):=
 b8o g hr hg d.gl d.fn.kp d.bd .nil b2k ha hdb he hpl
end
section
variable{X:Cx}{tg:Expr}
end
section
variable{X:Cx}
end
end L2
namespace L2
open PySem PySem.Spec PyProof.Rows
def Frs(S:Addr->Prop)(H:Hp):Prop:=∀ p,H p=none->S p
section
variable{K:W.Frag}{S:Addr->Prop}{σ:St}{H:Hp}{d:PyData}{ds:List PyData}{t te:TE}{ta:TA}
theorem c3g{α:Type}{xs:List α}{i:Int}(h0:0 <= i)(h1:i < xs.length):∃ x,atI xs i=some x/\x ∈ xs/\xs[i.toNat]? = some x:=by
 have hk:i.toNat < xs.length:=by omega
 have ei:i=((i.toNat:Nat):Int):=by omega
 have q:atI xs ((i.toNat:Nat):Int)=some xs[i.toNat]:=a2l (getElem?_eq_getElem hk)
 rw [← ei] at q
 exact⟨_,q,List.getElem_mem hk,getElem?_eq_getElem hk⟩
end
end L2
end
section
namespace L2
open PySem PySem.Spec PyProof.Rows
section
variable{prog:Program}{w:World}{A:Around}{E:Value->Shared->Prop}{s:Shared}
end
section
variable{X:Cx}{tg:Expr}
end
end L2
end
section
namespace L2
open PySem PySem.Spec PyProof.Rows
inductive Ents (w:World):List DictEntry->List (Str × V)->Prop where
 | nil:Ents w [] []
 | cons {x:Str} {t:Tok} {u:Value} {v:V} {es:List DictEntry} {kvs:List (Str × V)}:RelV v u->Ents w es kvs->Ents w (⟨PyData.keyHash w.params x,.str x t,u⟩ :: es) ((x,v) :: kvs)
def KDict(K:W.Frag)(w:World)(a:Addr)(kvs:List (Str × V)):Prop:=(kvs.map (·.1)).Nodup/\∃ (es:Array DictEntry) (ep:Nat),K.lookup a=some ⟨.type "dict",none,.dict es ep,#[]⟩/\Ents w es.toList kvs
theorem Ents.pairs{prog:Program}{w:World}{es:List DictEntry}{kvs:List (Str × V)}(h:Ents w es kvs):∃ vs:List (Str × Value),Pairs (strKind prog w) es vs/\KV kvs vs/\(∀ e ∈ es,∃ x t,e.key=.str x t/\e.hash=hashStr w x):=by
 induction h with
 | nil=>exact⟨[],.nil,.nil,fun e he=>by cases he⟩
 | @cons x t u v es kvs r _ ih =>
  obtain⟨vs,p,q,k⟩:=ih
  refine⟨(x,u) :: vs,.cons (strKind_is prog w x t) rfl p,.cons ⟨rfl,r⟩ q,fun e he=>?_⟩
  rcases mem_cons.mp he with rfl | he
  ·exact⟨x,t,rfl,rfl⟩
  ·exact k e he
theorem KV.look{kvs:List (Str × V)}{vs:List (Str × Value)}(h:KV kvs vs):(kvs.map (·.1))=(vs.map (·.1))/\∀ x v,kvs.lookup x=some v->∃ u,valueAt vs x=some u/\RelV v u:=by
 induction h with
 | nil=>exact⟨rfl,fun x v e=>by cases e⟩
 | @cons p q kvs vs r _ ih =>
  obtain⟨x,v⟩:=p
  obtain⟨y,u⟩:=q
  obtain⟨e,rv⟩:=r
  have e':x=y:=e
  subst e'
  refine⟨by rw [map_cons,map_cons,ih.1],fun z w' hz=>?_⟩
  rw [lookup_cons] at hz
  by_cases hzx:z=x
  ·subst hzx
   simp at hz
   subst hz
   exact⟨u,by simp [valueAt],rv⟩
  ·have:(z == x)=false:=beq_eq_false_iff_ne.mpr hzx
   rw [this] at hz
   obtain⟨u',h1,h2⟩:=ih.2 z w' hz
   refine⟨u',?_,h2⟩
   unfold valueAt at h1 ⊢
   rw [List.find?_cons_of_neg (by simpa using fun q=>hzx q.symm)]
   exact h1
section
variable{X:Cx}
def rIxK(K:W.Frag)(w:World):R2:=fun x y H Q=>∃ a kvs z v,x=.ref a/\KDict K w a kvs/\y=.str z/\kvs.lookup z=some v/\Q v H
theorem c6i:IxR X (rIxK X.K X.w):=by
 intro value slice pins s σ H x y v u Q I rx ry h hs
 obtain⟨a,kvs,z,v',rfl,⟨hnd,es,ep,hk,he⟩,rfl,hl,q⟩:=h
 cases rx
 obtain⟨t,rfl⟩:=ry
 have ho:=I.kIn a _ hk
 obtain⟨vs,hp,hkv,hkeys⟩:=he.pairs (prog:=X.prog)
 obtain⟨e1,hlook⟩:=KV.look hkv
 obtain⟨u',hu,ru⟩:=hlook z v' hl
 have hd:s.heap.DictOf (strKind X.prog X.w) a vs:=by
  refine⟨_,es,ep,ho,⟨rfl,rfl,rfl⟩,rfl,?_,hp,by rw [← e1];exact hnd⟩
  intro e hm
  obtain⟨x',t',e2,e3⟩:=hkeys e (by simpa using hm)
  exact⟨x',by rw [e2];exact strKind_is X.prog X.w x' t',e3⟩
 have fin:∀ s',Inv X pins σ H s'->EP X pins σ Q u' s':=fun s' I'=>⟨v',H,I',ru,q⟩
 exact subscriptTail_builtinR (x:=u') (T:="dict") ⟨_,ho,rfl⟩ PySem.F.slot_dict_getitem.lookup
  (wpAny_getItem_of (Q:=fun r s'=>r=u'/\EP X pins σ Q r s') (strKind_is X.prog X.w z t) hd.mapOf hu ⟨rfl,fin _ (I.tok _)⟩) hs
end
end L2
end
section
namespace L2
open PySem PySem.Spec PyProof.Rows
inductive L where
 /-- data that nobody changes any more -/
 | d (x:PyData)
 /-- a list that this name alone has -/
 | own (xs:List PyData)
 /-- a list of a caller's, lent to be changed -/
 | bor (xs:List PyData)
 /-- the tape: the script and how many draws were made -/
 | tape (k:Nat)
 /-- the script -/
 | scr
abbrev Rho:=List (Option L)
abbrev Own:=Nat->Option Addr
structure Rc where
 H0:Hp
 S:Addr->Prop
 P:Addr->Prop
 M:Addr->Prop
 A:Addr->Prop
 B:Addr->Prop
 lent:Own
 sa:Addr
 ns:List Int
noncomputable def isIO:L->Bool
 | .bor _=>true
 | .tape _=>true
 | _=>false
noncomputable def live(c:Rc)(O:Own):Addr->Prop:=fun a=>c.S a/\¬ c.P a/\∀ i,O i ≠ some a
def a9a(c:Rc)(p:Addr):Prop:=¬ c.B p/\c.S p/\¬ c.P p
noncomputable def LAMS:List Str:=["read_row","Reading.read_thing","Reading.read_taken","Reading.read_hands","WorldReading.__init__","WorldReading.read_row","WorldReading.read_point","WorldReading.read_parts","read_rising_name","MachineReading.read_row","MachineReading.read_box","MachineReading.read_seer","MachineReading.read_reckoning","read_number","Ranking.best_option"]
abbrev a9b(q:Str):HO:=.frz { cls:=.none,data:=.fields #[] } (.tbl #[.str q 0])
noncomputable def lamOf(K:W.Frag)(p:Addr × Obj):Option (Addr × Addr × Str):=match p.2.data with
 | .func fd=>if LAMS.any (· == fd.qualname) then(match fd.code with
   | .ref c=>(match K.lookup c with
    | some ⟨.type "code",_,.fields vs,_⟩=>(match (vs[11]?:Option Value) with
     | some (.ref P)=>some (c,P,fd.qualname ++ ".<locals>.<lambda>")
     | _=>none)
    | _=>none)
   | _=>none) else none
 | _=>none
noncomputable def a8f(K:W.Frag):List (Addr × Addr × Str):=K.filterMap (lamOf K)
def TB(K:W.Frag)(H:Hp):Prop:=∀ p ∈ a8f K,H p.2.1=some (a9b p.2.2)
def Scr(K:W.Frag)(H:Hp)(a:Addr)(xs:List V):Prop:=TB K H/\xs.length <= 63 /\
 ((∃ o,H a=some (.frz o (.lst xs))) ∨ ∃ (o:Obj) (its:Array Value) (n:Nat),K.lookup a=some o/\o.cls=.type "list" /\ o.dict=none/\o.data=.seq its n/\its.size <= sizeLine/\Vals xs its.toList)
theorem Scr.seq{K:W.Frag}{H:Hp}{a:Addr}{xs:List V}(h:Scr K H a xs):SqL K H a xs:=by
 rcases h.2.2 with⟨o,h⟩ | h
 ·exact .inl (.inr ⟨o,h⟩)
 ·exact .inr h
structure Rel(K:W.Frag)(c:Rc)(O:Own)(ρ:Rho)(σ:St)(H:Hp):Prop where
 dat:∀ (i:Nat) (x:PyData),ρ[i]? = some (some (L.d x))->∃ v,σ[i]? = some (some v)/\AtD K H (live c O) x v
 own:∀ (i:Nat) (xs:List PyData),ρ[i]? = some (some (.own xs))->∃ p vs,O i=some p/\a9a c p/\σ[i]? = some (some (.ref p))/\H p=some (.lst vs)/\a0b K H (live c O) xs vs
 bor:∀ (i:Nat) (xs:List PyData),ρ[i]? = some (some (.bor xs))->∃ p vs,O i=some p/\σ[i]? = some (some (.ref p))/\H p=some (.lst vs)/\a0b K H (live c O) xs vs
 tap:∀ (i k:Nat),ρ[i]? = some (some (.tape k))->∃ p,O i=some p/\σ[i]? = some (some (.ref p))/\H p=some (.lst [.ref c.sa,.int k])
 scr:∀ i:Nat,ρ[i]? = some (some .scr)->σ[i]? = some (some (.ref c.sa))
 inj:∀ i j p,O i=some p->O j=some p->i=j
 has':∀ i p,O i=some p->c.A p/\∃ vs,H p=some (.lst vs)
 am:∀ p,c.A p->c.M p ∨ c.H0 p=none
 frs:∀ p,c.H0 p=none->c.S p
 same:∀ b o,¬ c.M b->c.H0 b=some o->H b=some o
 kept:∀ b,c.H0 b ≠ none->H b ≠ none
 ml:∀ p,c.M p->∃ vs,H p=some (.lst vs)
 pin:∀ p,c.P p ∨ c.B p->H p ≠ none
 lnt:∀ (i:Nat) (p:Addr),c.lent i=some p->∀ l:L,ρ[i]? = some (some l)->isIO l=true->O i=some p
 sc:Scr K H c.sa (c.ns.map V.int)
 len:σ.length=ρ.length
theorem Rel.has{K:W.Frag}{c:Rc}{O:Own}{ρ:Rho}{σ:St}{H:Hp}(R:Rel K c O ρ σ H)(i:Nat)(p:Addr)(h:O i=some p):(c.M p ∨ c.H0 p=none)/\∃ vs,H p=some (.lst vs):=⟨R.am p (R.has' i p h).1,(R.has' i p h).2⟩
def Pers(K:W.Frag)(S:Addr->Prop)(H:Hp)(S':Addr->Prop)(H':Hp):Prop:=∀ d v,AtD K H S d v->AtD K H' S' d v
section
variable{K:W.Frag}{S S' S2:Addr->Prop}{H H' H2:Hp}
theorem Pers.refl:Pers K S H S H:=fun _ _ h=>h
theorem Pers.trans(a:Pers K S H S' H')(b:Pers K S' H' S2 H2):Pers K S H S2 H2:=fun d v h=>b d v (a d v h)
theorem Pers.all(a:Pers K S H S' H'):∀ {ds:List PyData} {vs:List V},a0b K H S ds vs->a0b K H' S' ds vs
 | [],_,h=>by rw [h.unnil];exact .nil
 | d :: ds,vs,h=>by
  obtain⟨v,r,rfl,h1,h2⟩:=h.uncons
  exact .cons (a d v h1) (Pers.all a h2)
theorem Pers.of(e:Keep S H H')(m:∀ a,S a->S' a):Pers K S H S' H':=fun d v h=>AtD.more m d v (AtD.mono e d v h)
theorem Pers.same(e:Same H H'):Pers K S H S H':=.of e.keep fun _ h=>h
mutual
theorem AtD.less{p:Addr}(hp:H p=none)(hs:∀ a,S a->a ≠ p->S' a):∀ (d:PyData) (v:V),AtD K H S d v->AtD K H S' d v
 | .none,_,h=>by unfold AtD at h ⊢;exact h
 | .bool _,_,h=>by unfold AtD at h ⊢;exact h
 | .int _,_,h=>by unfold AtD at h ⊢;exact h
 | .str _,_,h=>by unfold AtD at h ⊢;exact h
 | .list ds,v,h=>by
  obtain⟨a,xs,e1,s,q,r⟩:=a3r h
  subst e1
  exact a3w (hs a s (a0v q hp)) q (a0b.less hp hs ds xs r)
 | .tuple ds,v,h=>by
  obtain⟨a,xs,e1,q,r⟩:=a5v h
  subst e1
  exact a2h q (a0b.less hp hs ds xs r)
 | .dict kvs,v,h=>by
  obtain⟨a,ν,e1,s,q,e2⟩:=a6r h
  subst e1
  exact b4j (hs a s (a0v q hp)) q (a0r.less hp hs kvs ν e2)
theorem a0b.less{p:Addr}(hp:H p=none)(hs:∀ a,S a->a ≠ p->S' a):∀ (ds:List PyData) (vs:List V),a0b K H S ds vs->a0b K H S' ds vs
 | [],_,h=>by rw [h.unnil];exact .nil
 | d :: ds,vs,h=>by
  obtain⟨v,r,rfl,h1,h2⟩:=h.uncons
  exact .cons (AtD.less hp hs d v h1) (a0b.less hp hs ds r h2)
theorem a0r.less{p:Addr}(hp:H p=none)(hs:∀ a,S a->a ≠ p->S' a):∀ (kvs:List (PyData × PyData)) (κ:List (Key × V)),a0r K H S kvs κ->a0r K H S' kvs κ
 | [],_,h=>by rw [h.unnil];exact .nil
 | (x,d) :: r,κ,h=>by
  obtain⟨k,v,t,rfl,rfl,h1,h2⟩:=h.uncons
  exact .cons (AtD.less hp hs d v h1) (a0r.less hp hs r t h2)
end
theorem Pers.new{p:Addr}(hp:H p=none)(hs:∀ a,S a->a ≠ p->S' a)(o:HO):Pers K S H S' (upd H p o):=fun d v h =>
 AtD.mono (a0o hp o).keep d v (AtD.less hp hs d v h)
end
section
variable{K:W.Frag}{c:Rc}{O:Own}{ρ:Rho}{σ:St}{H H':Hp}
theorem Scr.keep{a:Addr}{xs:List V}{S:Addr->Prop}(h:Scr K H a xs)(e:Keep S H H'):Scr K H' a xs:=by
 refine⟨fun p hp=>e.2.1 _ _ _ (h.1 p hp),h.2.1,?_⟩
 rcases h.2.2 with⟨o,h⟩ | h
 ·exact .inl ⟨o,e.2.1 _ _ _ h⟩
 ·exact .inr h
theorem Rel.to{c':Rc}{O':Own}(R:Rel K c O ρ σ H)(hO:∀ i,O' i=O i)(hB:∀ i p,O i=some p->a9a c p->a9a c' p)(hsa:c'.sa=c.sa)(hns:c'.ns=c.ns)
  (hp:Pers K (live c O) H (live c' O') H') (ho:∀ i p vs,O i=some p->H p=some (.lst vs)->H' p=some (.lst vs))
  (hA:∀ i p,O i=some p->c.A p->c'.A p) (am:∀ p,c'.A p->c'.M p ∨ c'.H0 p=none) (frs:∀ p,c'.H0 p=none->c'.S p) (same:∀ b o,¬ c'.M b->c'.H0 b=some o->H' b=some o) (kept:∀ b,c'.H0 b ≠ none->H' b ≠ none) (ml:∀ p,c'.M p->∃ vs,H' p=some (.lst vs))
  (pin:∀ p,c'.P p ∨ c'.B p->H' p ≠ none) (hl:∀ i,c'.lent i=c.lent i) (sc:Scr K H' c.sa (c.ns.map V.int)):Rel K c' O' ρ σ H' where
 dat i x e:=by obtain⟨v,h1,h2⟩:=R.dat i x e;exact⟨v,h1,hp _ _ h2⟩
 own i xs e:=by obtain⟨p,vs,h1,h2,h3,h4,h5⟩:=R.own i xs e;exact⟨p,vs,(hO i).trans h1,hB i p h1 h2,h3,ho i p vs h1 h4,hp.all h5⟩
 bor i xs e:=by obtain⟨p,vs,h1,h3,h4,h5⟩:=R.bor i xs e;exact⟨p,vs,(hO i).trans h1,h3,ho i p vs h1 h4,hp.all h5⟩
 tap i k e:=by obtain⟨p,h1,h2,h3⟩:=R.tap i k e;exact⟨p,(hO i).trans h1,h2,by rw [hsa];exact ho i p _ h1 h3⟩
 scr i e:=by rw [hsa];exact R.scr i e
 inj i j p e1 e2:=R.inj i j p ((hO i).symm.trans e1) ((hO j).symm.trans e2)
 has' i p e:=by
  have e':=(hO i).symm.trans e
  obtain⟨h0,vs,h⟩:=R.has' i p e'
  exact⟨hA i p e' h0,vs,ho i p vs e' h⟩
 am:=am
 frs:=frs
 same:=same
 kept:=kept
 ml:=ml
 pin:=pin
 lnt i p e l h1 h2:=(hO i).trans (R.lnt i p ((hl i).symm.trans e) l h1 h2)
 sc:=by rw [hsa,hns];exact sc
 len:=R.len
theorem c6j{i:Nat}{p:Addr}(h:O i=some p):¬ live c O p:=fun z=>z.2.2 i h
theorem Rel.grow(R:Rel K c O ρ σ H)(e:Same H H'):Rel K c O ρ σ H':=
 R.to (fun _=>rfl) (fun _ _ _ z=>z) rfl rfl (.same e) (fun i p vs _ q=>e _ _ q) (fun _ _ _ z=>z) R.am R.frs (fun b o n q=>e _ _ (R.same b o n q))
  (fun b n z=>R.kept b n (e.free z)) (fun p h=>let ⟨vs,q⟩:=R.ml p h;⟨vs,e _ _ q⟩) (fun p h z=>R.pin p h (e.free z)) (fun _=>rfl) (R.sc.keep (S:=Any) e.keep)
theorem Rel.free0(R:Rel K c O ρ σ H){p:Addr}(h:H p=none):c.H0 p=none:=by
 cases q:c.H0 p with
 | none=>rfl
 | some o=>exact absurd h (R.kept p (by rw [q];exact fun z=>nomatch z))
theorem Rel.liveNew(R:Rel K c O ρ σ H){p:Addr}(h:H p=none):live c O p:=
 ⟨R.frs p (R.free0 h),fun z=>R.pin p (.inl z) h,fun i e=>by obtain⟨_,vs,q⟩:=R.has i p e;rw [h] at q;cases q⟩
theorem Rel.frsLive(R:Rel K c O ρ σ H):Frs (live c O) H:=fun _ h=>R.liveNew h
theorem Rel.write{i:Nat}{p:Addr}{xs:List PyData}{vs vs':List V}{l:L}(R:Rel K c O ρ σ H)(hO:O i=some p)(hH:H p=some (.lst vs))
  (hl:ρ[i]? = some (some (.own xs)) ∨ ρ[i]? = some (some (.bor xs)) ∨ ∃ k:Nat,ρ[i]? = some (some (.tape k)))
  (hl':(∃ ys,ρ[i]? = some (some (.own xs))/\l=.own ys/\a0b K H (live c O) ys vs') ∨ (∃ ys,ρ[i]? = some (some (.bor xs))/\l=.bor ys/\a0b K H (live c O) ys vs') ∨ (∃ k k':Nat,ρ[i]? = some (some (.tape k))/\l=.tape k'/\vs'=[.ref c.sa,.int k'])) :
  Rel K c O (ρ.set i (some l)) σ (upd H p (.lst vs'))/\Pers K (live c O) H (live c O) (upd H p (.lst vs')):=by
 have hi:i < ρ.length:=by
  rcases hl with h | h | ⟨k,h⟩<;>exact(List.getElem?_eq_some_iff.mp h).1
 have kp:Keep (live c O) H (upd H p (.lst vs')):=(c3c hH).less fun b hb e=>by
  subst e;exact c6j hO hb
 have P:Pers K (live c O) H (live c O) (upd H p (.lst vs')):=.of kp fun _ h=>h
 have at_i:(ρ.set i (some l))[i]? = some (some l):=by rw [getElem?_set_self hi]
 have at_j:∀ j,j ≠ i->(ρ.set i (some l))[j]? = ρ[j]?:=fun j hj=>getElem?_set_ne (Ne.symm hj)
 have other:∀ j q,j ≠ i->O j=some q->q ≠ p:=fun j q hj e z=>hj (R.inj j i p (by rw [← z];exact e) hO)
 have hσ:σ[i]? = some (some (.ref p)):=by
  rcases hl with h | h | ⟨k,h⟩
  ·obtain⟨p',_,h1,_,h3,_⟩:=R.own i xs h;rw [hO] at h1;cases h1;exact h3
  ·obtain⟨p',_,h1,h3,_⟩:=R.bor i xs h;rw [hO] at h1;cases h1;exact h3
  ·obtain⟨p',h1,h3,_⟩:=R.tap i k h;rw [hO] at h1;cases h1;exact h3
 refine⟨⟨fun j x e=>?_,fun j ys e=>?_,fun j ys e=>?_,fun j k e=>?_,fun j e=>?_,R.inj,fun j q e=>?_,R.am,R.frs,fun b o n q=>?_,fun b n z=>?_,fun q h=>?_,fun q h z=>?_,fun j q e l2 h1 h2=>?_,?_,?_⟩,P⟩
 ·by_cases hj:j=i
  ·subst hj;rw [at_i] at e
   rcases hl' with⟨ys,_,rfl,_⟩ | ⟨ys,_,rfl,_⟩ | ⟨k,k',_,rfl,_⟩<;>cases e
  ·rw [at_j j hj] at e
   obtain⟨v,h1,h2⟩:=R.dat j x e
   exact⟨v,h1,P _ _ h2⟩
 ·by_cases hj:j=i
  ·subst hj;rw [at_i] at e
   rcases hl' with⟨zs,h0,rfl,h⟩ | ⟨zs,_,rfl,_⟩ | ⟨k,k',_,rfl,_⟩<;>cases e
   obtain⟨p',_,h1,h2,h3,_⟩:=R.own j xs h0
   rw [hO] at h1;cases h1
   exact⟨p,vs',hO,h2,h3,a0c,P.all h⟩
  ·rw [at_j j hj] at e
   obtain⟨q,ws,h1,h2,h3,h4,h5⟩:=R.own j ys e
   exact⟨q,ws,h1,h2,h3,by rw [a0d (other j q hj h1)];exact h4,P.all h5⟩
 ·by_cases hj:j=i
  ·subst hj;rw [at_i] at e
   rcases hl' with⟨zs,_,rfl,_⟩ | ⟨zs,h0,rfl,h⟩ | ⟨k,k',_,rfl,_⟩<;>cases e
   exact⟨p,vs',hO,hσ,a0c,P.all h⟩
  ·rw [at_j j hj] at e
   obtain⟨q,ws,h1,h3,h4,h5⟩:=R.bor j ys e
   exact⟨q,ws,h1,h3,by rw [a0d (other j q hj h1)];exact h4,P.all h5⟩
 ·by_cases hj:j=i
  ·subst hj;rw [at_i] at e
   rcases hl' with⟨zs,_,rfl,_⟩ | ⟨zs,_,rfl,_⟩ | ⟨k1,k',_,rfl,h⟩<;>cases e
   exact⟨p,hO,hσ,by rw [a0c,h]⟩
  ·rw [at_j j hj] at e
   obtain⟨q,h1,h3,h4⟩:=R.tap j k e
   exact⟨q,h1,h3,by rw [a0d (other j q hj h1)];exact h4⟩
 ·by_cases hj:j=i
  ·subst hj;rw [at_i] at e
   rcases hl' with⟨ys,_,rfl,_⟩ | ⟨ys,_,rfl,_⟩ | ⟨k,k',_,rfl,_⟩<;>cases e
  ·rw [at_j j hj] at e
   exact R.scr j e
 ·obtain⟨h1,ws,h2⟩:=R.has' j q e
  refine⟨h1,?_⟩
  by_cases hq:q=p
  ·subst hq;exact⟨vs',a0c⟩
  ·exact⟨ws,by rw [a0d hq];exact h2⟩
 ·have hb:b ≠ p:=by
   rintro rfl
   rcases (R.has i b hO).1 with z | z
   ·exact n z
   ·rw [z] at q;cases q
  rw [a0d hb];exact R.same b o n q
 ·by_cases hb:b=p
  ·subst hb;rw [a0c] at z;cases z
  ·rw [a0d hb] at z;exact R.kept b n z
 ·obtain⟨ws,h2⟩:=R.ml q h
  by_cases hq:q=p
  ·subst hq;exact⟨vs',a0c⟩
  ·exact⟨ws,by rw [a0d hq];exact h2⟩
 ·by_cases hb:q=p
  ·subst hb;rw [a0c] at z;cases z
  ·rw [a0d hb] at z;exact R.pin q h z
 ·by_cases hj:j=i
  ·subst hj;rw [at_i] at h1;cases h1
   rcases hl' with⟨zs,_,rfl,_⟩ | ⟨zs,h0,rfl,_⟩ | ⟨k1,k',h0,rfl,_⟩
   ·cases h2
   ·exact R.lnt j q e _ h0 rfl
   ·exact R.lnt j q e _ h0 rfl
  ·rw [at_j j hj] at h1;exact R.lnt j q e _ h1 h2
 ·exact R.sc.keep kp
 ·rw [length_set];exact R.len
noncomputable def a4x(O:Own)(i:Nat):Own:=fun j=>if j=i then none else O j
theorem b2l{i:Nat}{a:Addr}(h:live c O a):live c (a4x O i) a:=⟨h.1,h.2.1,fun j e=>by
 unfold a4x at e
 by_cases hj:j=i
 ·rw [if_pos hj] at e;cases e
 ·rw [if_neg hj] at e;exact h.2.2 j e⟩
theorem a3c{i j:Nat}(h:j ≠ i):a4x O i j=O j:=if_neg h
theorem c0j{i:Nat}:a4x O i i=none:=if_pos rfl
theorem a3d{i j:Nat}{p:Addr}(e:a4x O i j=some p):j ≠ i/\O j=some p:=by
 by_cases hj:j=i
 ·subst hj;rw [c0j] at e;cases e
 ·rw [a3c hj] at e;exact⟨hj,e⟩
theorem Rel.freeze{i:Nat}{xs:List PyData}(R:Rel K c O ρ σ H)(hl:ρ[i]? = some (some (.own xs))) :
  Rel K c (a4x O i) (ρ.set i (some (.d (.list xs)))) σ H/\Pers K (live c O) H (live c (a4x O i)) H:=by
 obtain⟨p,vs,hO,hB,hσ,hH,hA⟩:=R.own i xs hl
 have hi:i < ρ.length:=(List.getElem?_eq_some_iff.mp hl).1
 have P:Pers K (live c O) H (live c (a4x O i)) H:=.of (Keep.refl _ _) fun _ h=>b2l h
 have at_i:(ρ.set i (some (.d (.list xs))))[i]? = some (some (.d (.list xs))):=by rw [getElem?_set_self hi]
 have at_j:∀ j,j ≠ i->(ρ.set i (some (.d (.list xs))))[j]? = ρ[j]?:=fun j hj=>getElem?_set_ne (Ne.symm hj)
 have ne:∀ {j:Nat} {l:L},(ρ.set i (some (.d (.list xs))))[j]? = some (some l)->(∀ x,l ≠ .d x)->j ≠ i/\ρ[j]? = some (some l):=fun{j l} e n=>by
  by_cases hj:j=i
  ·subst hj;rw [at_i] at e;cases e;exact absurd rfl (n _)
  ·rw [at_j j hj] at e;exact⟨hj,e⟩
 refine⟨⟨fun j x e=>?_,fun j ys e=>?_,fun j ys e=>?_,fun j k e=>?_,fun j e=>?_,fun a b q e1 e2=>R.inj a b q (a3d e1).2 (a3d e2).2,fun j q e=>R.has' j q (a3d e).2,R.am,R.frs,R.same,R.kept,R.ml,R.pin,fun j q e l h1 h2=>?_,R.sc,?_⟩,P⟩
 ·by_cases hj:j=i
  ·subst hj;rw [at_i] at e;cases e
   refine⟨.ref p,hσ,a3w ⟨hB.2.1,hB.2.2,fun k e=>?_⟩ hH (P.all hA)⟩
   obtain⟨h1,h2⟩:=a3d e
   exact h1 (R.inj k j p h2 hO)
  ·rw [at_j j hj] at e
   obtain⟨v,h1,h2⟩:=R.dat j x e
   exact⟨v,h1,P _ _ h2⟩
 ·obtain⟨hj,e⟩:=ne e fun _ z=>nomatch z
  obtain⟨q,ws,h1,h2,h3,h4,h5⟩:=R.own j ys e
  exact⟨q,ws,(a3c hj).trans h1,h2,h3,h4,P.all h5⟩
 ·obtain⟨hj,e⟩:=ne e fun _ z=>nomatch z
  obtain⟨q,ws,h1,h3,h4,h5⟩:=R.bor j ys e
  exact⟨q,ws,(a3c hj).trans h1,h3,h4,P.all h5⟩
 ·obtain⟨hj,e⟩:=ne e fun _ z=>nomatch z
  obtain⟨q,h1,h3,h4⟩:=R.tap j k e
  exact⟨q,(a3c hj).trans h1,h3,h4⟩
 ·obtain⟨hj,e⟩:=ne e fun _ z=>nomatch z
  exact R.scr j e
 ·obtain⟨hj,e'⟩:=ne h1 fun x z=>by subst z;cases h2
  rw [a3c hj];exact R.lnt j q e _ e' h2
 ·rw [length_set];exact R.len
theorem Rel.setD{i:Nat}{x:PyData}{v:V}(R:Rel K c O ρ σ H)(hi:i < ρ.length)(h:AtD K H (live c O) x v) :
  Rel K c (a4x O i) (ρ.set i (some (.d x))) (σ.set i (some v)) H/\Pers K (live c O) H (live c (a4x O i)) H:=by
 have P:Pers K (live c O) H (live c (a4x O i)) H:=.of (Keep.refl _ _) fun _ h=>b2l h
 have at_i:∀ l:Option L,(ρ.set i l)[i]? = some l:=fun l=>by rw [getElem?_set_self hi]
 have at_j:∀ (l:Option L) j,j ≠ i->(ρ.set i l)[j]? = ρ[j]?:=fun l j hj=>getElem?_set_ne (Ne.symm hj)
 have st_j:∀ j,j ≠ i->(σ.set i (some v))[j]? = σ[j]?:=fun j hj=>getElem?_set_ne (Ne.symm hj)
 have ne:∀ {j:Nat} {l:L},(ρ.set i (some (.d x)))[j]? = some (some l)->(∀ x,l ≠ .d x)->j ≠ i/\ρ[j]? = some (some l):=fun{j l} e n=>by
  by_cases hj:j=i
  ·subst hj;rw [at_i] at e;cases e;exact absurd rfl (n _)
  ·rw [at_j _ j hj] at e;exact⟨hj,e⟩
 refine⟨⟨fun j y e=>?_,fun j ys e=>?_,fun j ys e=>?_,fun j k e=>?_,fun j e=>?_,fun a b q e1 e2=>R.inj a b q (a3d e1).2 (a3d e2).2,fun j q e=>R.has' j q (a3d e).2,R.am,R.frs,R.same,R.kept,R.ml,R.pin,fun j q e l h1 h2=>?_,R.sc,?_⟩,P⟩
 ·by_cases hj:j=i
  ·subst hj;rw [at_i] at e;cases e
   exact⟨v,by rw [getElem?_set_self (by rw [R.len];exact hi)],P _ _ h⟩
  ·rw [at_j _ j hj] at e
   obtain⟨v,h1,h2⟩:=R.dat j y e
   exact⟨v,by rw [st_j j hj];exact h1,P _ _ h2⟩
 ·obtain⟨hj,e⟩:=ne e fun _ z=>nomatch z
  obtain⟨q,ws,h1,h2,h3,h4,h5⟩:=R.own j ys e
  exact⟨q,ws,(a3c hj).trans h1,h2,by rw [st_j j hj];exact h3,h4,P.all h5⟩
 ·obtain⟨hj,e⟩:=ne e fun _ z=>nomatch z
  obtain⟨q,ws,h1,h3,h4,h5⟩:=R.bor j ys e
  exact⟨q,ws,(a3c hj).trans h1,by rw [st_j j hj];exact h3,h4,P.all h5⟩
 ·obtain⟨hj,e⟩:=ne e fun _ z=>nomatch z
  obtain⟨q,h1,h3,h4⟩:=R.tap j k e
  exact⟨q,(a3c hj).trans h1,by rw [st_j j hj];exact h3,h4⟩
 ·obtain⟨hj,e⟩:=ne e fun _ z=>nomatch z
  rw [st_j j hj];exact R.scr j e
 ·obtain⟨hj,e'⟩:=ne h1 fun x z=>by subst z;cases h2
  rw [a3c hj];exact R.lnt j q e _ e' h2
 ·rw [length_set,length_set];exact R.len
noncomputable def Rc.add(c:Rc)(p:Addr):Rc:={ c with P:=fun a=>c.P a ∨ a=p }
theorem a9c{p a:Addr}(h:live c O a)(n:a ≠ p):live (c.add p) O a:=⟨h.1,fun z=>z.elim h.2.1 n,h.2.2⟩
theorem a3x{p a:Addr}(h:live (c.add p) O a):live c O a/\a ≠ p:=⟨⟨h.1,fun z=>h.2.1 (.inl z),h.2.2⟩,fun z=>h.2.1 (.inr z)⟩
theorem Rel.lay{p:Addr}{o:HO}(R:Rel K c O ρ σ H)(hp:H p=none):Rel K (c.add p) O ρ σ (upd H p o)/\Pers K (live c O) H (live (c.add p) O) (upd H p o):=by
 have P:Pers K (live c O) H (live (c.add p) O) (upd H p o):=.new hp (fun a h n=>a9c h n) o
 have S:=a0o hp o
 refine⟨R.to (fun _=>rfl) (fun i q hq z=>⟨z.1,z.2.1,fun w=>w.elim z.2.2 fun e=>?_⟩) rfl rfl P (fun i q vs _ h=>S _ _ h) (fun _ _ _ z=>z) R.am R.frs (fun b ob n q=>S _ _ (R.same b ob n q))
  (fun b n z=>R.kept b n (S.free z)) (fun p h=>let ⟨vs,q⟩:=R.ml p h;⟨vs,S _ _ q⟩) (fun q h z=>?_) (fun _=>rfl) (R.sc.keep (S:=Any) S.keep),P⟩
 ·obtain⟨_,vs,h⟩:=R.has i q hq
  rw [e,hp] at h;cases h
 ·rcases h with(h | rfl) | h
  ·exact R.pin q (.inl h) (S.free z)
  ·rw [a0c] at z;cases z
  ·exact R.pin q (.inr h) (S.free z)
theorem Rel.unadd{p:Addr}(R:Rel K (c.add p) O ρ σ H):Rel K c O ρ σ H/\Pers K (live (c.add p) O) H (live c O) H:=by
 have P:Pers K (live (c.add p) O) H (live c O) H:=.of (Keep.refl _ _) fun a h=>(a3x h).1
 exact⟨R.to (fun _=>rfl) (fun i q _ z=>⟨z.1,z.2.1,fun w=>z.2.2 (.inl w)⟩) rfl rfl P (fun _ _ _ _ h=>h) (fun _ _ _ z=>z) R.am R.frs R.same R.kept R.ml (fun q h=>R.pin q (h.elim (fun z=>.inl (.inl z)) .inr)) (fun _=>rfl) R.sc,P⟩
noncomputable def owned(O:Own)(i:Nat)(p:Addr):Own:=fun j=>if j=i then some p else O j
theorem a5l{i j:Nat}{p:Addr}(h:j ≠ i):owned O i p j=O j:=if_neg h
theorem a9d{i:Nat}{p:Addr}:owned O i p i=some p:=if_pos rfl
theorem Rel.setOwn{i:Nat}{p:Addr}{xs:List PyData}{vs:List V}(R:Rel K (c.add p) O ρ σ H)(hi:i < ρ.length)(h0:c.H0 p=none)(hB:¬ c.B p)(hP:¬ c.P p)(hn:∀ j,O j ≠ some p)(hAp:c.A p)(hH:H p=some (.lst vs))(hA:a0b K H (live (c.add p) O) xs vs) :
  Rel K c (owned O i p) (ρ.set i (some (.own xs))) (σ.set i (some (.ref p))) H/\Pers K (live (c.add p) O) H (live c (owned O i p)) H:=by
 have P:Pers K (live (c.add p) O) H (live c (owned O i p)) H:=.of (Keep.refl _ _) fun a h=>by
  obtain⟨h1,h2⟩:=a3x h
  refine⟨h1.1,h1.2.1,fun j e=>?_⟩
  by_cases hj:j=i
  ·subst hj;rw [a9d] at e;cases e;exact h2 rfl
  ·rw [a5l hj] at e;exact h1.2.2 j e
 have at_i:(ρ.set i (some (.own xs)))[i]? = some (some (.own xs)):=by rw [getElem?_set_self hi]
 have at_j:∀ j,j ≠ i->(ρ.set i (some (.own xs)))[j]? = ρ[j]?:=fun j hj=>getElem?_set_ne (Ne.symm hj)
 have st_j:∀ j,j ≠ i->(σ.set i (some (.ref p)))[j]? = σ[j]?:=fun j hj=>getElem?_set_ne (Ne.symm hj)
 have ne:∀ {j:Nat} {l:L},(ρ.set i (some (.own xs)))[j]? = some (some l)->(∀ x,l ≠ .own x)->j ≠ i/\ρ[j]? = some (some l):=fun{j l} e n=>by
  by_cases hj:j=i
  ·subst hj;rw [at_i] at e;cases e;exact absurd rfl (n _)
  ·rw [at_j j hj] at e;exact⟨hj,e⟩
 have ow:∀ {j:Nat} {q:Addr},owned O i p j=some q->(j=i/\q=p) ∨ (j ≠ i/\O j=some q):=fun{j q} e=>by
  by_cases hj:j=i
  ·subst hj;rw [a9d] at e;cases e;exact .inl ⟨rfl,rfl⟩
  ·rw [a5l hj] at e;exact .inr ⟨hj,e⟩
 refine⟨⟨fun j y e=>?_,fun j ys e=>?_,fun j ys e=>?_,fun j k e=>?_,fun j e=>?_,fun a b q e1 e2=>?_,fun j q e=>?_,R.am,R.frs,R.same,R.kept,R.ml,fun q h=>R.pin q (h.elim (fun z=>.inl (.inl z)) .inr),fun j q e l h1 h2=>?_,R.sc,?_⟩,P⟩
 ·obtain⟨hj,e⟩:=ne e fun _ z=>nomatch z
  obtain⟨v,h1,h2⟩:=R.dat j y e
  exact⟨v,by rw [st_j j hj];exact h1,P _ _ h2⟩
 ·by_cases hj:j=i
  ·subst hj;rw [at_i] at e;cases e
   exact⟨p,vs,a9d,⟨hB,R.frs p h0,hP⟩,by rw [getElem?_set_self (by rw [R.len];exact hi)],hH,P.all hA⟩
  ·rw [at_j j hj] at e
   obtain⟨q,ws,h1,h2,h3,h4,h5⟩:=R.own j ys e
   exact⟨q,ws,(a5l hj).trans h1,⟨h2.1,h2.2.1,fun z=>h2.2.2 (.inl z)⟩,by rw [st_j j hj];exact h3,h4,P.all h5⟩
 ·obtain⟨hj,e⟩:=ne e fun _ z=>nomatch z
  obtain⟨q,ws,h1,h3,h4,h5⟩:=R.bor j ys e
  exact⟨q,ws,(a5l hj).trans h1,by rw [st_j j hj];exact h3,h4,P.all h5⟩
 ·obtain⟨hj,e⟩:=ne e fun _ z=>nomatch z
  obtain⟨q,h1,h3,h4⟩:=R.tap j k e
  exact⟨q,(a5l hj).trans h1,by rw [st_j j hj];exact h3,h4⟩
 ·obtain⟨hj,e⟩:=ne e fun _ z=>nomatch z
  rw [st_j j hj];exact R.scr j e
 ·rcases ow e1 with⟨h1,h2⟩ | ⟨h1,h2⟩<;>rcases ow e2 with⟨h3,h4⟩ | ⟨h3,h4⟩
  ·rw [h1,h3]
  ·rw [h2] at h4;exact absurd h4 (hn b)
  ·rw [h4] at h2;exact absurd h2 (hn a)
  ·exact R.inj a b q h2 h4
 ·rcases ow e with⟨h1,h2⟩ | ⟨h1,h2⟩
  ·subst h2;exact⟨hAp,vs,hH⟩
  ·exact R.has' j q h2
 ·obtain⟨hj,e'⟩:=ne h1 fun x z=>by subst z;cases h2
  rw [a5l hj];exact R.lnt j q e _ e' h2
 ·rw [length_set,length_set];exact R.len
end
end L2
end
section
namespace L2
open PySem PySem.Spec PyProof.Rows
inductive DV where
 | d (x:PyData)
 | sl (i:Nat)
noncomputable def AtV(K:W.Frag)(S:Addr->Prop)(σ:St)(H:Hp):DV->V->Prop
 | .d x,v=>AtD K H S x v
 | .sl i,v=>σ[i]? = some (some v)
noncomputable def a8g:L->Option PyData
 | .d x=>some x
 | .own xs=>some (.list xs)
 | .bor xs=>some (.list xs)
 | _=>none
noncomputable def a0h(ρ:Rho):DV->Option PyData
 | .d x=>some x
 | .sl i=>(ρ[i]?.join).bind a8g
def AtT(K:W.Frag)(H:Hp)(S:Addr->Prop)(x:PyData)(v:V):Prop:=AtD K H S x v ∨ ∃ ds a vs,x=.list ds/\v=.ref a/\H a=some (.lst vs)/\a0b K H S ds vs
def need{α:Type}(o:Option α)(k:α->Prop):Prop:=match o with
 | some a=>k a
 | none=>False
theorem a5w{α:Type}{a:α}{k:α->Prop}:need (some a) k=k a:=rfl
theorem c3h{α:Type}{k:α->Prop}:need (none:Option α) k=False:=rfl
theorem ne{α:Type}{o:Option α}{k:α->Prop}(h:need o k):∃ a,o=some a/\k a:=by
 cases o with
 | none=>exact h.elim
 | some a=>exact⟨a,rfl,h⟩
theorem d0s{α:Type}{o:Option α}{k:α->Prop}{a:α}(e:o=some a)(h:k a):need o k:=by rw [e];exact h
theorem itT{a b:Prop}:(if true=true then a else b)=a:=rfl
theorem itF{a b:Prop}:(if false=true then a else b)=b:=rfl
theorem mapC{α β:Type}{f:α->β}{a:α}{l:List α}:(a :: l).map f=f a :: l.map f:=rfl
theorem mapN{α β:Type}{f:α->β}:([]:List α).map f=[]:=rfl
abbrev TDE:=Rho->(DV->Rho->Prop)->Prop
abbrev TDF:=Rho->(List PyData->Rho->Prop)->Prop
abbrev TDT:=Rho->(Bool->Rho->Prop)->Prop
abbrev TDA:=Rho->(List DV->Rho->Prop)->Prop
def b0t(c:Rc)(O:Own)(p:Addr):Prop:=c.H0 p=none/\¬ c.B p/\¬ c.P p/\∀ j,O j ≠ some p
def AdE(K:W.Frag)(t:TE)(dt:TDE):Prop:=∀ (c:Rc) (O:Own) (ρ:Rho) (σ:St) (H:Hp) (Qd:DV->Rho->Prop) (Q:VK),Rel K c O ρ σ H->dt ρ Qd ->
 (∀ x ρ' O' v H',Qd x ρ'->Rel K c O' ρ' σ H'->Pers K (live c O) H (live c O') H'->AtV K (live c O') σ H' x v->Q v H')->t σ H Q
def AdF(K:W.Frag)(t:TE)(dt:TDF):Prop:=∀ (c:Rc) (O:Own) (ρ:Rho) (σ:St) (H:Hp) (Qd:List PyData->Rho->Prop) (Q:VK),Rel K c O ρ σ H->dt ρ Qd ->
 (∀ xs ρ' O' p vs H',Qd xs ρ'->Rel K (c.add p) O' ρ' σ H'->Pers K (live c O) H (live (c.add p) O') H'->b0t c O' p->H' p=some (.lst vs)->a0b K H' (live (c.add p) O') xs vs->Q (.ref p) H')->t σ H Q
def AdT(K:W.Frag)(t:TT)(dt:TDT):Prop:=∀ (c:Rc) (O:Own) (ρ:Rho) (σ:St) (H:Hp) (Qd:Bool->Rho->Prop) (Q:Bool->Hp->Prop),Rel K c O ρ σ H->dt ρ Qd ->
 (∀ b ρ' O' H',Qd b ρ'->Rel K c O' ρ' σ H'->Pers K (live c O) H (live c O') H'->Q b H')->t σ H Q
noncomputable def AtVs(K:W.Frag)(S:Addr->Prop)(σ:St)(H:Hp):List DV->List V->Prop:=Paired (AtV K S σ H)
def AdA(K:W.Frag)(t:TA)(dt:TDA):Prop:=∀ (c:Rc) (O:Own) (ρ:Rho) (σ:St) (H:Hp) (Qd:List DV->Rho->Prop) (Q:List V->Hp->Prop),Rel K c O ρ σ H->dt ρ Qd ->
 (∀ xs ρ' O' vs H',Qd xs ρ'->Rel K c O' ρ' σ H'->Pers K (live c O) H (live c O') H'->AtVs K (live c O') σ H' xs vs->Q vs H')->t σ H Q
def DE(X:Cx)(e:Expr)(dt:TDE):Prop:=∃ t,PE X e t/\AdE X.K t dt
def DF(X:Cx)(e:Expr)(dt:TDF):Prop:=∃ t,PE X e t/\AdF X.K t dt
def DT(X:Cx)(e:Expr)(dt:TDT):Prop:=∃ t,PT X e t/\AdT X.K t dt
def DW(X:Cx)(e:Expr)(dt:TDT):Prop:=∃ t,PW X e t/\AdT X.K t dt
def DA(X:Cx)(es:List Expr)(dt:TDA):Prop:=∃ t,PA X es t/\AdA X.K t dt
section
variable{K:W.Frag}{c:Rc}{O:Own}{ρ:Rho}{σ:St}{H H':Hp}{S S':Addr->Prop}
theorem AtV.pers{x:DV}{v:V}(h:AtV K S σ H x v)(P:Pers K S H S' H'):AtV K S' σ H' x v:=by
 cases x with
 | d x=>exact P _ _ h
 | sl i=>exact h
theorem AtVs.pers{xs:List DV}{vs:List V}(h:AtVs K S σ H xs vs)(P:Pers K S H S' H'):AtVs K S' σ H' xs vs:=Paired.imp' (fun _ _ q=>q.pers P) h
theorem AtD.top{x:PyData}{v:V}(h:AtD K H S x v):AtT K H S x v:=.inl h
theorem Rel.top(R:Rel K c O ρ σ H){x:DV}{v:V}{d:PyData}(h:AtV K (live c O) σ H x v)(e:a0h ρ x=some d):AtT K H (live c O) d v:=by
 cases x with
 | d x=>cases e;exact .inl h
 | sl i =>
  have h':σ[i]? = some (some v):=h
  have e':(ρ[i]?.join).bind a8g=some d:=e
  cases q:ρ[i]? with
  | none=>rw [q] at e';cases e'
  | some ol =>
   cases ol with
   | none=>rw [q] at e';cases e'
   | some l =>
    rw [q] at e'
    cases l with
    | d x =>
     cases e'
     obtain⟨w,h1,h2⟩:=R.dat i _ q
     rw [h'] at h1;cases h1
     exact .inl h2
    | own xs =>
     cases e'
     obtain⟨p,vs,_,_,h1,h2,h3⟩:=R.own i _ q
     rw [h'] at h1;cases h1
     exact .inr ⟨xs,p,vs,rfl,rfl,h2,h3⟩
    | bor xs =>
     cases e'
     obtain⟨p,vs,_,h1,h2,h3⟩:=R.bor i _ q
     rw [h'] at h1;cases h1
     exact .inr ⟨xs,p,vs,rfl,rfl,h2,h3⟩
    | tape k=>cases e'
    | scr=>cases e'
theorem AtT.list{ds:List PyData}{v:V}(h:AtT K H S (.list ds) v):∃ a vs,v=.ref a/\H a=some (.lst vs)/\a0b K H S ds vs:=by
 rcases h with h | ⟨ds',a,vs,e,e2,h1,h2⟩
 ·obtain⟨a,vs,e,_,h1,h2⟩:=a3r h
  exact⟨a,vs,e,h1,h2⟩
 ·cases e;exact⟨a,vs,e2,h1,h2⟩
theorem AtT.at{x:PyData}{v:V}(h:AtT K H S x v)(n:∀ ds,x ≠ .list ds):AtD K H S x v:=by
 rcases h with h | ⟨ds',a,vs,e,_⟩
 ·exact h
 ·exact absurd e (n ds')
theorem AtT.any{x:PyData}{v:V}(h:AtT K H S x v):AtD K H Any x v:=by
 rcases h with h | ⟨ds',a,vs,e,e2,h1,h2⟩
 ·exact AtD.more (fun _ _=>trivial) _ _ h
 ·subst e e2;exact a3w trivial h1 (a0b.more (fun _ _=>trivial) _ _ h2)
def dVar(i:Nat):TDE:=fun ρ Q=>(ρ[i]?.join).isSome=true/\Q (.sl i) ρ
theorem d5a{i:Nat}:AdE K (tVar i) (dVar i):=by
 intro c O ρ σ H Qd Q R h k
 obtain⟨h0,h⟩:=h
 have ex:∃ v,σ[i]? = some (some v):=by
  cases q:ρ[i]? with
  | none=>rw [q] at h0;cases h0
  | some ol =>
   cases ol with
   | none=>rw [q] at h0;cases h0
   | some l =>
    cases l with
    | d x=>obtain⟨w,h1,_⟩:=R.dat i _ q;exact⟨w,h1⟩
    | own xs=>obtain⟨p,vs,_,_,h1,_⟩:=R.own i _ q;exact⟨_,h1⟩
    | bor xs=>obtain⟨p,vs,_,h1,_⟩:=R.bor i _ q;exact⟨_,h1⟩
    | tape k=>obtain⟨p,_,h1,_⟩:=R.tap i _ q;exact⟨_,h1⟩
    | scr=>exact⟨_,R.scr i q⟩
 obtain⟨v,hv⟩:=ex
 exact⟨v,hv,k _ _ _ _ _ h R .refl hv⟩
def dC(x:PyData):TDE:=fun ρ Q=>Q (.d x) ρ
theorem ad_c{x:PyData}{v:V}(hx:∀ (S:Addr->Prop) H,AtD K H S x v):AdE K (tC v) (dC x):=fun c O ρ σ H Qd Q R h k=>k _ _ _ _ _ h R .refl (hx _ _)
end
section
variable{X:Cx}{a b e:Expr}{es:List Expr}{da db:TDE}{pos:Pos}
theorem dv(i:Nat){x:Str}(hN:X.N[i]? = some x:=by rfl)(hv:Vis X.env.scope x:=by first | exact Or.inl rfl | exact Or.inr (Or.inl rfl) | exact Or.inr (Or.inr rfl)) (hd:(x == ("__debug__" : Str))=false:=by decide)
  (hcd:(x == ("__classdict__" : Str))=false:=by decide):DE X (.Name x pos) (dVar i):=⟨_,a7t hN hv hd hcd,d5a⟩
theorem a0m{i j}:DE X (.Constant (.int i) j pos) (dC (.int i)):=⟨_,a1c,ad_c fun _ _=>a2d i⟩
theorem a0i{i j}:DE X (.Constant (.str i) j pos) (dC (.str i)):=⟨_,a3m,ad_c fun _ _=>a2n i⟩
theorem b0u{i j}:DE X (.Constant (.bool i) j pos) (dC (.bool i)):=⟨_,pe_bl,ad_c fun _ _=>a0z i⟩
theorem a6z{j}:DE X (.Constant .none j pos) (dC .none):=⟨_,b2b,ad_c fun _ _=>a8z⟩
abbrev F2:=PyData->PyData->Option PyData
def AdR(K:W.Frag)(r:R2)(f:F2):Prop:=∀ (S:Addr->Prop) (H:Hp) (x y:V) (dx dy z:PyData) (Q:VK),Frs S H->AtT K H S dx x->AtT K H S dy y->f dx dy=some z ->
 (∀ v H',Same H H'->AtD K H' S z v->Q v H')->r x y H Q
def dOp(f:F2)(da db:TDE):TDE:=fun ρ Q=>da ρ fun x ρ1=>db ρ1 fun y ρ2=>need (a0h ρ2 x) fun dx=>need (a0h ρ2 y) fun dy=>need (f dx dy) fun z=>Q (.d z) ρ2
theorem b5q{K:W.Frag}{r:R2}{f:F2}{ta tb:TE}(hr:AdR K r f)(ha:AdE K ta da)(hb:AdE K tb db):AdE K (tOp r ta tb) (dOp f da db):=by
 intro c O ρ σ H Qd Q R h k
 refine ha c O ρ σ H _ _ R h fun x ρ1 O1 v H1 h1 R1 P1 a1=>?_
 refine hb c O1 ρ1 σ H1 _ _ R1 h1 fun y ρ2 O2 u H2 h2 R2 P2 a2=>?_
 obtain⟨dx,e1,hn1⟩:=ne (h2)
 obtain⟨dy,e2,hn2⟩:=ne (hn1)
 obtain⟨z,e3,h3⟩:=ne (hn2)
 refine hr (live c O2) H2 v u dx dy z Q R2.frsLive (R2.top (a1.pers P2) e1) (R2.top a2 e2) e3 fun w H3 s3 a3=>?_
 exact k _ _ _ _ _ h3 (R2.grow s3) ((P1.trans P2).trans (.same s3)) a3
theorem b0v{op:Operator}{r:R2}{f:F2}(ho:OpR X (binaryOp op) r)(hr:AdR X.K r f)(ha:DE X a da)(hb:DE X b db):DE X (.BinOp a op b pos) (dOp f da db):=by
 obtain⟨ta,pa,aa⟩:=ha
 obtain⟨tb,pb,ab⟩:=hb
 exact⟨_,a2e ho pa pb,b5q hr aa ab⟩
theorem a2w{op:CmpOp}{r:R2}{f:F2}(ho:OpR X (compareOp op) r)(hr:AdR X.K r f)(ha:DE X a da)(hb:DE X b db)(hm:behindInMarks op b=false):DE X (.Compare a [op] [b] pos) (dOp f da db):=by
 obtain⟨ta,pa,aa⟩:=ha
 obtain⟨tb,pb,ab⟩:=hb
 exact⟨_,a7y ho pa pb hm,b5q hr aa ab⟩
theorem a1d{r:R2}{f:F2}(ho:IxR X r)(hr:AdR X.K r f)(ha:DE X a da)(hb:DE X b db)(hs:b8r b):DE X (.Subscript a b pos) (dOp f da db):=by
 obtain⟨ta,pa,aa⟩:=ha
 obtain⟨tb,pb,ab⟩:=hb
 exact⟨_,a7l ho pa pb hs,b5q hr aa ab⟩
end
section
variable{K:W.Frag}
theorem AtT.int{H:Hp}{S:Addr->Prop}{i:Int}{v:V}(h:AtT K H S (.int i) v):v=.int i:=a8d (h.at fun _ z=>nomatch z)
theorem AtT.str{H:Hp}{S:Addr->Prop}{i:Str}{v:V}(h:AtT K H S (.str i) v):v=.str i:=a8e (h.at fun _ z=>nomatch z)
theorem AtT.bool{H:Hp}{S:Addr->Prop}{i:Bool}{v:V}(h:AtT K H S (.bool i) v):v=.bl i:=a5k (h.at fun _ z=>nomatch z)
theorem AtT.none{H:Hp}{S:Addr->Prop}{v:V}(h:AtT K H S .none v):v=.non:=a8c (h.at fun _ z=>nomatch z)
theorem AtT.tup{H:Hp}{S:Addr->Prop}{ds:List PyData}{v:V}(h:AtT K H S (.tuple ds) v):∃ a xs,v=.ref a/\SqT K H a xs/\a0b K H S ds xs:=a5v (h.at fun _ z=>nomatch z)
theorem a0b.eq_nil{H:Hp}{S:Addr->Prop}{ds:List PyData}(h:a0b K H S ds []):ds=[]:=List.eq_nil_of_length_eq_zero h.length.symm
noncomputable def fAdd:F2
 | .int i,.int j=>some (.int (i + j))
 | .str x,.str y=>if x.length + y.length <= sizeLine then some (.str (x ++ y)) else none
 | .list xs,.list ys=>if xs.length + ys.length <= sizeLine then some (.list (xs ++ ys)) else none
 | .tuple xs,.tuple ys=>if xs.length + ys.length <= sizeLine then some (.tuple (xs ++ ys)) else none
 | _,_=>none
noncomputable def fSub:F2
 | .int i,.int j=>some (.int (i - j))
 | _,_=>none
noncomputable def fCmp(p:Int->Int->Bool):F2
 | .int i,.int j=>some (.bool (p i j))
 | _,_=>none
theorem a7a(p:Int->Int->Bool):AdR K (rI0 fun i j=>.bl (p i j)) (fCmp p):=by
 intro S H x y dx dy z Q f hx hy e k
 unfold fCmp at e
 split at e<;>cases e
 rw [hx.int,hy.int]
 exact⟨_,_,rfl,rfl,k _ _ (Same.refl _) (a0z _)⟩
def c9i(K:W.Frag):R2:=fun x y H Q=>∃ a b ys,x=.ref a/\y=.ref b/\SqT K H a []/\SqT K H b ys/\Q (.ref b) H
theorem d0t{X:Cx}:OpR X (binaryOp .Add) (c9i X.K):=by
 intro pins s σ H x y v u Q I rx ry h
 obtain⟨a,b,ys,rfl,rfl,ha,hb,q⟩:=h
 cases rx
 cases ry
 obtain⟨its,r1,p1,_⟩:=I.tuple ha
 obtain⟨its2,r2,p2,_⟩:=I.tuple hb
 cases r1
 obtain⟨⟨cls,dd,data,sl⟩,ho,hc,n,hd⟩:=id p1
 obtain⟨⟨cls2,dd2,data2,sl2⟩,ho2,hc2,n2,hd2⟩:=id p2
 simp only at hc hd hc2 hd2
 subst hc hd hc2 hd2
 exact concat_meets ⟨_,ho,rfl⟩ ⟨_,ho2,rfl⟩ noFill_tuple_add seq_tuple_add PySem.F.slot_tuple_add PySem.F.entry_tuple_add (PySem.F.args_tuple_add_2 _ _)
   (tuple_addW0 a b _ its2.toArray n n2 dd dd2 sl sl2 (by simp)) ⟨ho,ho2,⟨.ref b,H,I,rfl,q⟩⟩
def b8u(K:W.Frag):R2:=fun x y H Q=>rI0 (fun i j=>.int (i + j)) x y H Q ∨ (∃ i j,x=.str i/\y=.str j/\i.length + j.length <= sizeLine/\Q (.str (i ++ j)) H) ∨ rCat x y H Q ∨ c9g K x y H Q ∨ c9i K x y H Q
theorem a4p{X:Cx}:OpR X (binaryOp .Add) (b8u X.K):=a9t.or (c0a.or (b6i.or (d0p.or d0t)))
theorem a8h:AdR K (b8u K) fAdd:=by
 intro S H x y dx dy z Q f hx hy e k
 unfold fAdd at e
 split at e
 ·cases e
  rw [hx.int,hy.int]
  exact .inl ⟨_,_,rfl,rfl,k _ _ (Same.refl _) (a2d _)⟩
 ·split at e
  ·rename_i hc
   cases e
   rw [hx.str,hy.str]
   exact .inr (.inl ⟨_,_,rfl,rfl,hc,k _ _ (Same.refl _) (a2n _)⟩)
  ·cases e
 ·split at e
  ·rename_i hc
   cases e
   obtain⟨a,vs,rfl,h1,h2⟩:=hx.list
   obtain⟨b,ws,rfl,h3,h4⟩:=hy.list
   refine .inr (.inr (.inl ⟨a,b,vs,ws,rfl,rfl,h1,h3,by rw [h2.length,h4.length];exact hc,fun p hp=>k _ _ (a0o hp _) (c6f (f p hp) hp (h2.append h4))⟩))
  ·cases e
 ·split at e
  ·rename_i hc
   cases e
   obtain⟨a,vs,rfl,h1,h2⟩:=hx.tup
   obtain⟨b,ws,rfl,h3,h4⟩:=hy.tup
   by_cases hv:vs=[]
   ·subst hv
    obtain rfl:=h2.eq_nil
    refine .inr (.inr (.inr (.inr ⟨a,b,ws,rfl,rfl,h1,h3,k _ _ (Same.refl _) ?_⟩)))
    exact a2h h3 h4
   ·refine .inr (.inr (.inr (.inl ⟨a,b,vs,ws,rfl,rfl,h1,h3,hv,by rw [h2.length,h4.length];exact hc,fun ew=>k _ _ (Same.refl _) ?_,fun ew p hp=>k _ _ (a0o hp _) (b1s hp (h2.append h4))⟩)))
    subst ew
    obtain rfl:=h4.eq_nil
    rw [append_nil]
    exact a2h h1 h2
  ·cases e
 ·cases e
noncomputable def fEq(neg:Bool):F2:=fun d e=>if SeqAt.shaped d=true/\SeqAt.shaped e=true then some (.bool (if neg then !PyData.eqv d e else PyData.eqv d e)) else none
theorem c9j{neg:Bool}:AdR K (rEqD K neg) (fEq neg):=by
 intro S H x y dx dy z Q f hx hy e k
 unfold fEq at e
 split at e
 ·rename_i hc
  cases e
  exact⟨Any,Any,dx,dy,hx.any,hy.any,hc.1,hc.2,k _ _ (Same.refl _) (a0z _)⟩
 ·cases e
noncomputable def fIx:F2
 | .list xs,.int i=>atI xs i
 | .tuple xs,.int i=>atI xs i
 | .str x,.int i=>if x.length <= sizeLine then(atI x.cps.toList i).map fun c=>.str ⟨#[c]⟩ else none
 | _,_=>none
theorem a1e:AdR K (rIx K) fIx:=by
 intro S H x y dx dy z Q f hx hy e k
 unfold fIx at e
 split at e
 ·obtain⟨a,vs,rfl,h1,h2⟩:=hx.list
  rw [hy.int]
  obtain⟨v,e1,e2⟩:=b8t h2 e
  exact .inl ⟨a,vs,_,v,rfl,rfl,SqL.of h1,e1,k _ _ (Same.refl _) e2⟩
 ·obtain⟨a,vs,rfl,h1,h2⟩:=hx.tup
  rw [hy.int]
  obtain⟨v,e1,e2⟩:=b8t h2 e
  exact .inr (.inl ⟨a,vs,_,v,rfl,rfl,h1,e1,k _ _ (Same.refl _) e2⟩)
 ·split at e
  ·rename_i hc
   rw [hx.str,hy.int]
   cases q:atI (PySem.Str.cps _).toList _ with
   | none=>rw [q] at e;cases e
   | some cc =>
    rw [q] at e
    cases e
    exact .inr (.inr ⟨_,_,cc,rfl,rfl,hc,q,k _ _ (Same.refl _) (a2n _)⟩)
  ·cases e
 ·cases e
noncomputable def a1a:PyData->Bool
 | .none=>true | .bool _=>true | .int _=>true | .str _=>true
 | _=>false
noncomputable def seqD:PyData->Option (List PyData)
 | .list xs=>some xs
 | .tuple xs=>some xs
 | _=>none
noncomputable def eqF:PyData->PyData->Bool
 | .none,.none=>true
 | .bool a,.bool b=>a == b
 | .int a,.int b=>a == b
 | .bool a,.int b=>(if a then(1:Int) else 0) == b
 | .int a,.bool b=>a == (if b then(1:Int) else 0)
 | .str a,.str b=>a == b
 | _,_=>false
noncomputable def inF(x:PyData)(xs:List PyData):Bool:=xs.any fun y=>eqF y x
noncomputable def fIn(neg:Bool):F2:=fun x y=>match y with
 | .str z=>match x with
  | .str w=>some (.bool (if neg then !(!(Builtin.Str.occurrences z w 0 z.length 1).isEmpty) else !(Builtin.Str.occurrences z w 0 z.length 1).isEmpty))
  | _=>none
 | y=>match seqD y with
  | some xs=>if a1a x && xs.all a1a then some (.bool (if neg then !inF x xs else inF x xs)) else none
  | none=>none
end
end L2
end
section
namespace L2
open PySem PySem.Spec PyProof.Rows
section
variable{K:W.Frag}{c:Rc}{O:Own}{ρ:Rho}{σ:St}{H H':Hp}{S S':Addr->Prop}
noncomputable def toV:PyData->V
 | .bool b=>.bl b
 | .int i=>.int i
 | .str x=>.str x
 | _=>.non
theorem a6s{d:PyData}{v:V}(h:AtD K H S d v)(f:a1a d=true):v=toV d/\a5p v=true:=by
 cases d with
 | none=>rw [a8c h];exact⟨rfl,rfl⟩
 | bool b=>rw [a5k h];exact⟨rfl,rfl⟩
 | int i=>rw [a8d h];exact⟨rfl,rfl⟩
 | str x=>rw [a8e h];exact⟨rfl,rfl⟩
 | _=>cases f
theorem d0u{x y:PyData}(fx:a1a x=true)(fy:a1a y=true):eqV (toV y) (toV x)=eqF y x:=by
 cases x<;>cases y<;>first | rfl | (cases fx;done) | (cases fy;done)
theorem b6m{x:PyData}(fx:a1a x=true):∀ {ds:List PyData} {vs:List V},a0b K H S ds vs->ds.all a1a=true->vs.all a5p=true/\inV (toV x) vs=inF x ds
 | [],vs,h,_=>by rw [h.unnil];exact⟨rfl,rfl⟩
 | d :: ds,vs,h,f=>by
  obtain⟨v,r,rfl,h1,h2⟩:=h.uncons
  rw [all_cons,and_eq_true] at f
  obtain⟨e1,e2⟩:=a6s h1 f.1
  obtain⟨e3,e4⟩:=b6m fx h2 f.2
  refine⟨by rw [all_cons,e2,e3];rfl,?_⟩
  show(eqV v (toV x) || inV (toV x) r)=(eqF d x || inF x ds)
  rw [e1,d0u fx f.1,e4]
def c3i(K:W.Frag)(neg:Bool):R2:=fun x y H Q=>rIn K neg x y H Q ∨ (∃ i j,x=.str i/\y=.str j/\Q (.bl (if neg then !(!(Builtin.Str.occurrences j i 0 j.length 1).isEmpty) else !(Builtin.Str.occurrences j i 0 j.length 1).isEmpty)) H)
theorem c6k{X:Cx}:OpR X (compareOp .In) (c3i X.K false):=c2x.or c2t
theorem AtT.seq{x:PyData}{ds:List PyData}{v:V}(h:AtT K H S x v)(e:seqD x=some ds):∃ a vs,v=.ref a/\(SqL K H a vs ∨ SqT K H a vs)/\a0b K H S ds vs:=by
 cases x with
 | list xs=>cases e;obtain⟨a,vs,e1,h1,h2⟩:=h.list;exact⟨a,vs,e1,.inl (SqL.of h1),h2⟩
 | tuple xs=>cases e;obtain⟨a,vs,e1,h1,h2⟩:=h.tup;exact⟨a,vs,e1,.inr h1,h2⟩
 | _=>cases e
theorem ad_in{neg:Bool}:AdR K (c3i K neg) (fIn neg):=by
 intro S H x y dx dy z Q f hx hy e k
 unfold fIn at e
 split at e
 ·split at e
  ·cases e
   rw [hx.str,hy.str]
   exact .inr ⟨_,_,rfl,rfl,k _ _ (Same.refl _) (a0z _)⟩
  ·cases e
 ·split at e
  ·rename_i xs es
   split at e
   ·rename_i hf
    cases e
    rw [and_eq_true] at hf
    obtain⟨a,vs,rfl,h1,h2⟩:=hy.seq es
    obtain⟨e1,e2⟩:=a6s (hx.at fun ds z=>by subst z;exact absurd hf.1 (by simp [a1a])) hf.1
    obtain⟨e3,e4⟩:=b6m hf.1 h2 hf.2
    refine .inl ⟨a,vs,rfl,h1,e2,e3,?_⟩
    rw [e1,e4]
    exact k _ _ (Same.refl _) (a0z _)
   ·cases e
  ·cases e
def fz(ρ:Rho)(x:DV)(Q:PyData->Rho->Prop):Prop:=match x with
 | .d y=>Q y ρ
 | .sl i=>match ρ[i]?.join with
  | some (.d y)=>Q y ρ
  | some (.own xs)=>Q (.list xs) (ρ.set i (some (.d (.list xs))))
  | _=>False
theorem a1r{i:Nat}{l:L}(h:ρ[i]?.join=some l):ρ[i]? = some (some l):=by
 cases q:ρ[i]? with
 | none=>rw [q] at h;cases h
 | some o=>rw [q] at h;cases o with
  | none=>cases h
  | some l'=>cases h;rfl
theorem Rel.fz{x:DV}{v:V}{Q:PyData->Rho->Prop}(R:Rel K c O ρ σ H)(a:AtV K (live c O) σ H x v)(h:fz ρ x Q):∃ y ρ' O',Q y ρ'/\Rel K c O' ρ' σ H/\Pers K (live c O) H (live c O') H/\AtD K H (live c O') y v:=by
 cases x with
 | d y=>exact⟨y,ρ,O,h,R,.refl,a⟩
 | sl i =>
  have a':σ[i]? = some (some v):=a
  simp only [L2.fz] at h
  split at h
  ·rename_i y e
   have e':=a1r e
   obtain⟨w,h1,h2⟩:=R.dat i y e'
   rw [a'] at h1;cases h1
   exact⟨y,ρ,O,h,R,.refl,h2⟩
  ·rename_i xs e
   have e':=a1r e
   obtain⟨R',P⟩:=R.freeze e'
   have hi:i < ρ.length:=(List.getElem?_eq_some_iff.mp e').1
   obtain⟨w,h1,h2⟩:=R'.dat i (.list xs) (by rw [getElem?_set_self hi])
   rw [a'] at h1;cases h1
   exact⟨_,_,_,h,R',P,h2⟩
  ·exact h.elim
noncomputable def fzs:Rho->List DV->(List PyData->Rho->Prop)->Prop
 | ρ,[],Q=>Q [] ρ
 | ρ,x :: xs,Q=>fz ρ x fun y ρ1=>fzs ρ1 xs fun ys ρ2=>Q (y :: ys) ρ2
theorem b8v{xs:List DV}:∀ {vs:List V} {ρ:Rho} {O:Own} {Q:List PyData->Rho->Prop},Rel K c O ρ σ H->AtVs K (live c O) σ H xs vs->fzs ρ xs Q->∃ ys ρ' O',Q ys ρ'/\Rel K c O' ρ' σ H/\Pers K (live c O) H (live c O') H/\a0b K H (live c O') ys vs:=by
 induction xs with
 | nil =>
  intro vs ρ O Q R a h
  cases a
  exact⟨[],ρ,O,h,R,.refl,.nil⟩
 | cons x xs ih =>
  intro vs ρ O Q R a h
  cases a with
  | cons a as =>
   obtain⟨y,ρ1,O1,h1,R1,P1,a1⟩:=R.fz a h
   obtain⟨ys,ρ2,O2,h2,R2,P2,a2⟩:=ih R1 (AtVs.pers as P1) h1
   exact⟨y :: ys,ρ2,O2,h2,R2,P1.trans P2,.cons (P2 _ _ a1) a2⟩
def dNil:TDA:=fun ρ Q=>Q [] ρ
def c0k(de:TDE)(dr:TDA):TDA:=fun ρ Q=>de ρ fun x ρ1=>dr ρ1 fun xs ρ2=>Q (x :: xs) ρ2
theorem d5b:AdA K tNil dNil:=fun c O ρ σ H Qd Q R h k=>k _ _ _ _ _ h R .refl .nil
theorem d0v{te:TE}{ta:TA}{de:TDE}{da:TDA}(he:AdE K te de)(ha:AdA K ta da):AdA K (a1l te ta) (c0k de da):=by
 intro c O ρ σ H Qd Q R h k
 refine he c O ρ σ H _ _ R h fun x ρ1 O1 v H1 h1 R1 P1 a1=>?_
 refine ha c O1 ρ1 σ H1 _ _ R1 h1 fun xs ρ2 O2 vs H2 h2 R2 P2 a2=>?_
 exact k _ _ _ _ _ h2 R2 (P1.trans P2) (.cons (a1.pers P2) a2)
def dTup(da:TDA):TDE:=fun ρ Q=>da ρ fun xs ρ1=>fzs ρ1 xs fun ys ρ2=>ys.length <= 1000000/\Q (.d (.tuple ys)) ρ2
def dLst(da:TDA):TDF:=fun ρ Q=>da ρ fun xs ρ1=>fzs ρ1 xs fun ys ρ2=>ys.length <= 1000000/\Q ys ρ2
theorem mil{n:Nat}(h:n <= 1000000):n < sizeLine:=Nat.lt_of_le_of_lt h (by decide +kernel)
theorem d5c{ta:TA}{da:TDA}(ha:AdA K ta da):AdE K (tTup ta) (dTup da):=by
 intro c O ρ σ H Qd Q R h k
 refine ha c O ρ σ H _ _ R h fun xs ρ1 O1 vs H1 h1 R1 P1 a1=>?_
 obtain⟨ys,ρ2,O2,⟨hz,h2⟩,R2,P2,a2⟩:=b8v R1 a1 h1
 refine⟨by rw [a2.length];exact le_of_lt (mil hz),fun p hp=>?_⟩
 have s:=a0o hp (.tup vs)
 exact k _ _ _ _ _ h2 (R2.grow s) ((P1.trans P2).trans (.same s)) (b1s hp a2)
theorem b1t{p:Addr}(R:Rel K c O ρ σ H)(hp:H p=none):b0t c O p:=⟨R.free0 hp,fun z=>R.pin p (.inr z) hp,fun z=>R.pin p (.inl z) hp,fun j e=>by obtain⟨_,vs,q⟩:=R.has j p e;rw [hp] at q;cases q⟩
theorem Rel.newL{p:Addr}{ys:List PyData}{vs:List V}(R:Rel K c O ρ σ H)(hp:H p=none)(h:a0b K H (live c O) ys vs) :
  Rel K (c.add p) O ρ σ (upd H p (.lst vs))/\Pers K (live c O) H (live (c.add p) O) (upd H p (.lst vs))/\b0t c O p/\a0b K (upd H p (.lst vs)) (live (c.add p) O) ys vs:=by
 obtain⟨R1,P1⟩:=R.lay (o:=.lst vs) hp
 exact⟨R1,P1,b1t R hp,P1.all h⟩
theorem d5d{ta:TA}{da:TDA}(ha:AdA K ta da):AdF K (tLst ta) (dLst da):=by
 intro c O ρ σ H Qd Q R h k
 refine ha c O ρ σ H _ _ R h fun xs ρ1 O1 vs H1 h1 R1 P1 a1=>?_
 obtain⟨ys,ρ2,O2,⟨hz,h2⟩,R2,P2,a2⟩:=b8v R1 a1 h1
 refine⟨by rw [a2.length];exact le_of_lt (mil hz),fun p hp=>?_⟩
 obtain⟨R3,P3,f3,a3⟩:=R2.newL hp a2
 exact k _ _ _ _ _ _ h2 R3 ((P1.trans P2).trans P3) f3 a0c a3
def dFz(df:TDF):TDE:=fun ρ Q=>df ρ fun xs ρ1=>Q (.d (.list xs)) ρ1
theorem ad_fz{t:TE}{df:TDF}(h:AdF K t df):AdE K t (dFz df):=by
 intro c O ρ σ H Qd Q R h0 k
 refine h c O ρ σ H _ _ R h0 fun xs ρ1 O1 p vs H1 h1 R1 P1 f1 hp a1=>?_
 obtain⟨R2,P2⟩:=R1.unadd
 exact k _ _ _ _ _ h1 R2 (P1.trans P2) (a3w ⟨R1.frs p f1.1,f1.2.2.1,f1.2.2.2⟩ hp (P2.all a1))
abbrev F2L:=PyData->PyData->Option (List PyData)
def AdRF(K:W.Frag)(r:R2)(f:F2L):Prop:=∀ (S:Addr->Prop) (H:Hp) (x y:V) (dx dy:PyData) (z:List PyData) (Q:VK),AtT K H S dx x->AtT K H S dy y->f dx dy=some z ->
 (∀ p vs,H p=none->a0b K H S z vs->Q (.ref p) (upd H p (.lst vs)))->r x y H Q
def dOpF(f:F2L)(da db:TDE):TDF:=fun ρ Q=>da ρ fun x ρ1=>db ρ1 fun y ρ2=>need (a0h ρ2 x) fun dx=>need (a0h ρ2 y) fun dy=>need (f dx dy) fun z=>Q z ρ2
theorem d5e{r:R2}{f:F2L}{ta tb:TE}{da db:TDE}(hr:AdRF K r f)(ha:AdE K ta da)(hb:AdE K tb db):AdF K (tOp r ta tb) (dOpF f da db):=by
 intro c O ρ σ H Qd Q R h k
 refine ha c O ρ σ H _ _ R h fun x ρ1 O1 v H1 h1 R1 P1 a1=>?_
 refine hb c O1 ρ1 σ H1 _ _ R1 h1 fun y ρ2 O2 u H2 h2 R2 P2 a2=>?_
 obtain⟨dx,e1,hn3⟩:=ne (h2)
 obtain⟨dy,e2,hn4⟩:=ne (hn3)
 obtain⟨z,e3,h3⟩:=ne (hn4)
 refine hr (live c O2) H2 v u dx dy z Q (R2.top (a1.pers P2) e1) (R2.top a2 e2) e3 fun p vs hp a3=>?_
 obtain⟨R3,P3,f3,a4⟩:=R2.newL hp a3
 exact k _ _ _ _ _ _ h3 R3 ((P1.trans P2).trans P3) f3 a0c a4
noncomputable def fCat:F2L
 | .list xs,.list ys=>if xs.length + ys.length <= sizeLine then some (xs ++ ys) else none
 | _,_=>none
theorem c3j:AdRF K rCat fCat:=by
 intro S H x y dx dy z Q hx hy e k
 unfold fCat at e
 split at e
 ·split at e
  ·rename_i hc
   cases e
   obtain⟨a,vs,rfl,h1,h2⟩:=hx.list
   obtain⟨b,ws,rfl,h3,h4⟩:=hy.list
   exact⟨a,b,vs,ws,rfl,rfl,h1,h3,by rw [h2.length,h4.length];exact hc,fun p hp=>k p _ hp (h2.append h4)⟩
  ·cases e
 ·cases e
noncomputable def a1f(ρ:Rho):List DV->Option (List PyData)
 | []=>some []
 | x :: xs=>(a0h ρ x).bind fun y=>(a1f ρ xs).map (y :: ·)
noncomputable def AtTs(K:W.Frag)(H:Hp)(S:Addr->Prop):List PyData->List V->Prop:=Paired (AtT K H S)
theorem Rel.tops(R:Rel K c O ρ σ H){xs:List DV}:∀ {vs:List V} {ds:List PyData},AtVs K (live c O) σ H xs vs->a1f ρ xs=some ds->AtTs K H (live c O) ds vs:=by
 induction xs with
 | nil =>
  intro vs ds a e
  cases a;cases e;exact .nil
 | cons x xs ih =>
  intro vs ds a e
  cases a with
  | cons a as =>
   unfold a1f at e
   cases q:a0h ρ x with
   | none=>rw [q] at e;cases e
   | some y =>
    rw [q] at e
    have e':(a1f ρ xs).map (y :: ·)=some ds:=e
    cases q2:a1f ρ xs with
    | none=>rw [q2] at e';cases e'
    | some ys =>
     rw [q2] at e'
     cases e'
     exact .cons (R.top a q) (ih as q2)
abbrev FC:=List PyData->Option PyData
abbrev FCL:=List PyData->Option (List PyData)
def AdC(K:W.Frag)(r:List V->Hp->VK->Prop)(f:FC):Prop:=∀ (S:Addr->Prop) (H:Hp) (vs:List V) (ds:List PyData) (z:PyData) (Q:VK),Frs S H->AtTs K H S ds vs->f ds=some z ->
 (∀ v H',Same H H'->AtD K H' S z v->Q v H')->r vs H Q
def AdCF(K:W.Frag)(r:List V->Hp->VK->Prop)(f:FCL):Prop:=∀ (S:Addr->Prop) (H:Hp) (vs:List V) (ds:List PyData) (z:List PyData) (Q:VK),AtTs K H S ds vs->f ds=some z ->
 (∀ p ws,H p=none->a0b K H S z ws->Q (.ref p) (upd H p (.lst ws)))->r vs H Q
def dCB(f:FC)(da:TDA):TDE:=fun ρ Q=>da ρ fun xs ρ1=>need (a1f ρ1 xs) fun ds=>need (f ds) fun z=>Q (.d z) ρ1
def dCBF(f:FCL)(da:TDA):TDF:=fun ρ Q=>da ρ fun xs ρ1=>need (a1f ρ1 xs) fun ds=>need (f ds) fun z=>Q z ρ1
theorem c9k{r:List V->Hp->VK->Prop}{f:FC}{ta:TA}{da:TDA}(hr:AdC K r f)(ha:AdA K ta da):AdE K (tCB r ta) (dCB f da):=by
 intro c O ρ σ H Qd Q R h k
 refine ha c O ρ σ H _ _ R h fun xs ρ1 O1 vs H1 h1 R1 P1 a1=>?_
 obtain⟨ds,e1,hn2⟩:=ne (h1)
 obtain⟨z,e2,h2⟩:=ne (hn2)
 refine hr (live c O1) H1 vs ds z Q R1.frsLive (R1.tops a1 e1) e2 fun v H2 s2 a2=>?_
 exact k _ _ _ _ _ h2 (R1.grow s2) (P1.trans (.same s2)) a2
theorem d5f{r:List V->Hp->VK->Prop}{f:FCL}{ta:TA}{da:TDA}(hr:AdCF K r f)(ha:AdA K ta da):AdF K (tCB r ta) (dCBF f da):=by
 intro c O ρ σ H Qd Q R h k
 refine ha c O ρ σ H _ _ R h fun xs ρ1 O1 vs H1 h1 R1 P1 a1=>?_
 obtain⟨ds,e1,hn1⟩:=ne (h1)
 obtain⟨z,e2,h2⟩:=ne (hn1)
 refine hr (live c O1) H1 vs ds z Q (R1.tops a1 e1) e2 fun p ws hp a2=>?_
 obtain⟨R3,P3,f3,a4⟩:=R1.newL hp a2
 exact k _ _ _ _ _ _ h2 R3 (P1.trans P3) f3 a0c a4
theorem AtTs.one{d:PyData}{vs:List V}(h:AtTs K H S [d] vs):∃ v,vs=[v]/\AtT K H S d v:=by
 cases h with
 | cons h t=>cases t;exact⟨_,rfl,h⟩
noncomputable def fLen:FC
 | [.list xs]=>some (.int xs.length)
 | [.tuple xs]=>some (.int xs.length)
 | [.str x]=>if x.length <= sizeLine then some (.int x.length) else none
 | _=>none
noncomputable def b8w(K:W.Frag):List V->Hp->VK->Prop:=fun xs H Q=>(∃ p ys,xs=[.ref p]/\(SqL K H p ys ∨ SqT K H p ys)/\Q (.int ys.length) H) ∨ (∃ z,xs=[.str z]/\z.length <= sizeLine/\Q (.int z.length) H)
theorem a1h{X:Cx}:a1x X (.builtin "len") (b8w X.K):=a3p.or b6h
theorem a3h:AdC K (b8w K) fLen:=by
 intro S H vs ds z Q f h e k
 unfold fLen at e
 split at e
 ·cases e
  obtain⟨v,rfl,h1⟩:=h.one
  obtain⟨a,ws,rfl,h2,h3⟩:=h1.list
  exact .inl ⟨a,ws,rfl,.inl (SqL.of h2),by rw [h3.length];exact k _ _ (Same.refl _) (a2d _)⟩
 ·cases e
  obtain⟨v,rfl,h1⟩:=h.one
  obtain⟨a,ws,rfl,h2,h3⟩:=h1.tup
  exact .inl ⟨a,ws,rfl,.inr h2,by rw [h3.length];exact k _ _ (Same.refl _) (a2d _)⟩
 ·split at e
  ·rename_i hc
   cases e
   obtain⟨v,rfl,h1⟩:=h.one
   rw [h1.str]
   exact .inr ⟨_,rfl,hc,k _ _ (Same.refl _) (a2d _)⟩
  ·cases e
 ·cases e
noncomputable def b2m:FC
 | [.list xs]=>some (.tuple xs)
 | [.tuple xs]=>some (.tuple xs)
 | _=>none
theorem b6n:AdC K (fun xs H Q=>∃ p ys,xs=[.ref p]/\((SqL K H p ys/\∀ l,H l=none->Q (.ref l) (upd H l (.tup ys))) ∨ (SqT K H p ys/\Q (.ref p) H))) b2m:=by
 intro S H vs ds z Q f h e k
 unfold b2m at e
 split at e
 ·cases e
  obtain⟨v,rfl,h1⟩:=h.one
  obtain⟨a,ws,rfl,h2,h3⟩:=h1.list
  exact⟨a,ws,rfl,.inl ⟨SqL.of h2,fun l hl=>k _ _ (a0o hl _) (b1s hl h3)⟩⟩
 ·cases e
  obtain⟨v,rfl,h1⟩:=h.one
  obtain⟨a,ws,rfl,h2,h3⟩:=h1.tup
  exact⟨a,ws,rfl,.inr ⟨h2,k _ _ (Same.refl _) (a2h h2 h3)⟩⟩
 ·cases e
noncomputable def b5r:FCL
 | [.list xs]=>some xs
 | [.tuple xs]=>some xs
 | _=>none
theorem b8x:AdCF K (fun xs H Q=>∃ p ys,xs=[.ref p]/\(SqL K H p ys ∨ SqT K H p ys)/\∀ l,H l=none->Q (.ref l) (upd H l (.lst ys))) b5r:=by
 intro S H vs ds z Q h e k
 unfold b5r at e
 split at e
 ·cases e
  obtain⟨v,rfl,h1⟩:=h.one
  obtain⟨a,ws,rfl,h2,h3⟩:=h1.list
  exact⟨a,ws,rfl,.inl (SqL.of h2),fun l hl=>k _ _ hl h3⟩
 ·cases e
  obtain⟨v,rfl,h1⟩:=h.one
  obtain⟨a,ws,rfl,h2,h3⟩:=h1.tup
  exact⟨a,ws,rfl,.inr h2,fun l hl=>k _ _ hl h3⟩
 ·cases e
end
section
variable{X:Cx}{a b e:Expr}{es:List Expr}{da db de:TDE}{daa:TDA}{pos:Pos}
theorem a0f:DA X [] dNil:=⟨_,a0l,d5b⟩
theorem a0a(he:DE X e de)(ha:DA X es daa)(hs:starEach (e :: es) X.env=(false,eval e X.env) :: starEach es X.env:=by rfl):DA X (e :: es) (c0k de daa):=by
 obtain⟨te,p1,a1⟩:=he
 obtain⟨ta,p2,a2⟩:=ha
 exact⟨_,a0e p1 p2 hs,d0v a1 a2⟩
theorem a8i{x1}(ha:DA X es daa):DE X (.Tuple es x1 pos) (dTup daa):=by obtain⟨t,p,a⟩:=ha;exact⟨_,a5u p,d5c a⟩
theorem a2x(ha:DA X es daa):DF X (.List es pos) (dLst daa):=by obtain⟨t,p,a⟩:=ha;exact⟨_,c2v p,d5d a⟩
theorem a1m{df:TDF}(h:DF X e df):DE X e (dFz df):=by obtain⟨t,p,a⟩:=h;exact⟨t,p,ad_fz a⟩
theorem c9l{op:Operator}{r:R2}{f:F2L}(ho:OpR X (binaryOp op) r)(hr:AdRF X.K r f)(ha:DE X a da)(hb:DE X b db):DF X (.BinOp a op b pos) (dOpF f da db):=by
 obtain⟨ta,pa,aa⟩:=ha
 obtain⟨tb,pb,ab⟩:=hb
 exact⟨_,a2e ho pa pb,d5e hr aa ab⟩
theorem a1u{x:Str}{p:Pos}{id:String}{r:List V->Hp->VK->Prop}{f:FC}(hc:a1x X (.builtin id) r)(hr:AdC X.K r f)(hg:Gl X x)(hm:X.mg x=none)(hv:bootBuiltins x=some (.builtin id))(ha:DA X (e :: es) daa) (hn:x ≠ "__name__":=by decide) (hdb:(x == ("__debug__" : Str))=false:=by decide)
  (he:starEach (e :: es) X.env=(false,eval e X.env) :: starEach es X.env:=by rfl) (hpl:(backTo pos (starEach es X.env)).any (·.1)=false:=by rfl):DE X (.Call (.Name x p) (e :: es) [] pos) (dCB f daa):=by
 obtain⟨ta,pa,aa⟩:=ha
 exact⟨_,a2k hc hg hm hv pa hn hdb he hpl,c9k hr aa⟩
theorem a2j{x:Str}{p:Pos}{T:String}{r:List V->Hp->VK->Prop}{f:FC}(hc:a1x X (.type T) r)(hr:AdC X.K r f)(hg:Gl X x)(hm:X.mg x=none)(hv:bootBuiltins x=some (.type T))(ha:DA X (e :: es) daa) (hn:x ≠ "__name__":=by decide) (hdb:(x == ("__debug__" : Str))=false:=by decide)
  (he:starEach (e :: es) X.env=(false,eval e X.env) :: starEach es X.env:=by rfl) (hpl:(backTo pos (starEach es X.env)).any (·.1)=false:=by rfl):DE X (.Call (.Name x p) (e :: es) [] pos) (dCB f daa):=by
 obtain⟨ta,pa,aa⟩:=ha
 exact⟨_,a3a hc hg hm hv pa hn hdb he hpl,c9k hr aa⟩
theorem b4l{x:Str}{p:Pos}{T:String}{r:List V->Hp->VK->Prop}{f:FCL}(hc:a1x X (.type T) r)(hr:AdCF X.K r f)(hg:Gl X x)(hm:X.mg x=none)(hv:bootBuiltins x=some (.type T))(ha:DA X (e :: es) daa) (hn:x ≠ "__name__":=by decide) (hdb:(x == ("__debug__" : Str))=false:=by decide)
  (he:starEach (e :: es) X.env=(false,eval e X.env) :: starEach es X.env:=by rfl) (hpl:(backTo pos (starEach es X.env)).any (·.1)=false:=by rfl):DF X (.Call (.Name x p) (e :: es) [] pos) (dCBF f daa):=by
 obtain⟨ta,pa,aa⟩:=ha
 exact⟨_,a3a hc hg hm hv pa hn hdb he hpl,d5f hr aa⟩
end
end L2
end
section
namespace L2
open PySem PySem.Spec PyProof.Rows
section
variable{K:W.Frag}{c:Rc}{O:Own}{ρ:Rho}{σ:St}{H H':Hp}{S S':Addr->Prop}
noncomputable def asB:PyData->Option Bool
 | .bool b=>some b
 | _=>none
def dB(de:TDE):TDT:=fun ρ Q=>de ρ fun x ρ1=>need (a0h ρ1 x) fun d=>need (asB d) fun b=>Q b ρ1
theorem ad_b{t:TE}{de:TDE}(h:AdE K t de):AdT K (fun σ H Q=>t σ H fun x H'=>∃ k,x=.bl k/\Q k H') (dB de):=by
 intro c O ρ σ H Qd Q R h0 k
 refine h c O ρ σ H _ _ R h0 fun x ρ1 O1 v H1 h1 R1 P1 a1=>?_
 obtain⟨d,e1,hn12⟩:=ne (h1)
 obtain⟨b,e2,h2⟩:=ne (hn12)
 have a2:=R1.top a1 e1
 cases d with
 | bool b'=>cases e2;exact⟨b,a2.bool,k _ _ _ _ h2 R1 P1⟩
 | _=>cases e2
noncomputable def tru:PyData->Option Bool
 | .none=>some false
 | .bool b=>some b
 | .int i=>some (i != 0)
 | .str x=>if x.length <= sizeLine then some ((x.length:Int) != 0) else none
 | .list xs=>some (!xs.isEmpty)
 | .tuple xs=>some (!xs.isEmpty)
 | .dict _=>none
def dTru(de:TDE):TDT:=fun ρ Q=>de ρ fun x ρ1=>need (a0h ρ1 x) fun d=>need (tru d) fun b=>Q b ρ1
theorem a0b.empty{ds:List PyData}{vs:List V}(h:a0b K H S ds vs):(!vs.isEmpty) = !ds.isEmpty:=by
 have:=h.length
 cases ds<;>cases vs<;>simp at this ⊢
theorem d5g{t:TE}{de:TDE}(h:AdE K t de):AdT K (fun σ H Q=>t σ H fun x H'=>∃ k,TruV K x H' k/\Q k H') (dTru de):=by
 intro c O ρ σ H Qd Q R h0 k
 refine h c O ρ σ H _ _ R h0 fun x ρ1 O1 v H1 h1 R1 P1 a1=>?_
 obtain⟨d,e1,hn11⟩:=ne (h1)
 obtain⟨b,e2,h2⟩:=ne (hn11)
 have a2:=R1.top a1 e1
 refine⟨b,?_,k _ _ _ _ h2 R1 P1⟩
 cases d with
 | none=>cases e2;rw [a2.none];rfl
 | bool b'=>cases e2;rw [a2.bool];rfl
 | int i=>cases e2;rw [a2.int];rfl
 | str x =>
  simp only [tru] at e2
  split at e2
  ·rename_i hc
   cases e2;rw [a2.str];exact⟨hc,rfl⟩
  ·cases e2
 | list xs =>
  cases e2
  obtain⟨a,vs,rfl,h3,h4⟩:=a2.list
  exact .inl ⟨vs,SqL.of h3,h4.empty.symm⟩
 | tuple xs =>
  cases e2
  obtain⟨a,vs,rfl,h3,h4⟩:=a2.tup
  exact .inr (.inl ⟨vs,h3,h4.empty.symm⟩)
 | dict _=>cases e2
def dAnd(t u:TDT):TDT:=fun ρ Q=>t ρ fun b ρ1=>if b=true then u ρ1 Q else Q false ρ1
def dOr(t u:TDT):TDT:=fun ρ Q=>t ρ fun b ρ1=>if b=true then Q true ρ1 else u ρ1 Q
def dNot(t:TDT):TDT:=fun ρ Q=>t ρ fun b ρ1=>Q (!b) ρ1
theorem d5h{t u:TT}{dt du:TDT}(h:AdT K t dt)(h':AdT K u du):AdT K (tAnd t u) (dAnd dt du):=by
 intro c O ρ σ H Qd Q R h0 k
 refine h c O ρ σ H _ _ R h0 fun b ρ1 O1 H1 h1 R1 P1=>?_
 cases b with
 | true=>rw [if_pos rfl] at h1 ⊢;exact h' c O1 ρ1 σ H1 _ _ R1 h1 fun b ρ2 O2 H2 h2 R2 P2=>k _ _ _ _ h2 R2 (P1.trans P2)
 | false=>rw [if_neg Bool.false_ne_true] at h1 ⊢;exact k _ _ _ _ h1 R1 P1
theorem ad_or{t u:TT}{dt du:TDT}(h:AdT K t dt)(h':AdT K u du):AdT K (tOr t u) (dOr dt du):=by
 intro c O ρ σ H Qd Q R h0 k
 refine h c O ρ σ H _ _ R h0 fun b ρ1 O1 H1 h1 R1 P1=>?_
 cases b with
 | true=>rw [if_pos rfl] at h1 ⊢;exact k _ _ _ _ h1 R1 P1
 | false=>rw [if_neg Bool.false_ne_true] at h1 ⊢;exact h' c O1 ρ1 σ H1 _ _ R1 h1 fun b ρ2 O2 H2 h2 R2 P2=>k _ _ _ _ h2 R2 (P1.trans P2)
theorem d5i{t:TT}{dt:TDT}(h:AdT K t dt):AdT K (tNot t) (dNot dt):=by
 intro c O ρ σ H Qd Q R h0 k
 exact h c O ρ σ H _ _ R h0 fun b ρ1 O1 H1 h1 R1 P1=>k _ _ _ _ h1 R1 P1
def dIfE(c:TDT)(a b:TDE):TDE:=fun ρ Q=>c ρ fun k ρ1=>if k=true then a ρ1 Q else b ρ1 Q
theorem d5j{t:TT}{ta tb:TE}{dt:TDT}{da db:TDE}(h:AdT K t dt)(ha:AdE K ta da)(hb:AdE K tb db):AdE K (tIf t ta tb) (dIfE dt da db):=by
 intro c O ρ σ H Qd Q R h0 k
 refine h c O ρ σ H _ _ R h0 fun b ρ1 O1 H1 h1 R1 P1=>?_
 cases b with
 | true=>rw [if_pos rfl] at h1 ⊢;exact ha c O1 ρ1 σ H1 _ _ R1 h1 fun x ρ2 O2 v H2 h2 R2 P2 a2=>k _ _ _ _ _ h2 R2 (P1.trans P2) a2
 | false=>rw [if_neg Bool.false_ne_true] at h1 ⊢;exact hb c O1 ρ1 σ H1 _ _ R1 h1 fun x ρ2 O2 v H2 h2 R2 P2 a2=>k _ _ _ _ _ h2 R2 (P1.trans P2) a2
theorem b6o:AtV K S σ H (.d .none) .non:=(a8z:AtD K H S .none .non)
theorem a5m{b:Bool}:AtV K S σ H (.d (.bool b)) (.bl b):=(a0z b:AtD K H S (.bool b) (.bl b))
def c0l(a b:TDE):TDE:=fun ρ Q=>a ρ fun x ρ1=>need (a0h ρ1 x) fun d=>need (asB d) fun k=>if k=true then b ρ1 Q else Q (.d (.bool false)) ρ1
def dOrV(a b:TDE):TDE:=fun ρ Q=>a ρ fun x ρ1=>need (a0h ρ1 x) fun d=>need (asB d) fun k=>if k=true then Q (.d (.bool true)) ρ1 else b ρ1 Q
theorem b2n{d:PyData}{v:V}{b:Bool}(h:AtT K H S d v)(e:asB d=some b):v=.bl b:=by
 cases d with
 | bool b'=>cases e;exact h.bool
 | _=>cases e
theorem d0w{ta tb:TE}{da db:TDE}(ha:AdE K ta da)(hb:AdE K tb db):AdE K (c8z ta tb) (c0l da db):=by
 intro c O ρ σ H Qd Q R h0 k
 refine ha c O ρ σ H _ _ R h0 fun x ρ1 O1 v H1 h1 R1 P1 a1=>?_
 obtain⟨d,e1,hn10⟩:=ne (h1)
 obtain⟨b,e2,h2⟩:=ne (hn10)
 refine⟨b,b2n (R1.top a1 e1) e2,?_⟩
 cases b with
 | true=>rw [if_pos rfl] at h2 ⊢;exact hb c O1 ρ1 σ H1 _ _ R1 h2 fun x ρ2 O2 v H2 h2 R2 P2 a2=>k _ _ _ _ _ h2 R2 (P1.trans P2) a2
 | false=>rw [if_neg Bool.false_ne_true] at h2 ⊢;exact k _ _ _ _ _ h2 R1 P1 a5m
theorem d5k{ta tb:TE}{da db:TDE}(ha:AdE K ta da)(hb:AdE K tb db):AdE K (tOrV ta tb) (dOrV da db):=by
 intro c O ρ σ H Qd Q R h0 k
 refine ha c O ρ σ H _ _ R h0 fun x ρ1 O1 v H1 h1 R1 P1 a1=>?_
 obtain⟨d,e1,hn9⟩:=ne (h1)
 obtain⟨b,e2,h2⟩:=ne (hn9)
 refine⟨b,b2n (R1.top a1 e1) e2,?_⟩
 cases b with
 | true=>rw [if_pos rfl] at h2 ⊢;exact k _ _ _ _ _ h2 R1 P1 a5m
 | false=>rw [if_neg Bool.false_ne_true] at h2 ⊢;exact hb c O1 ρ1 σ H1 _ _ R1 h2 fun x ρ2 O2 v H2 h2 R2 P2 a2=>k _ _ _ _ _ h2 R2 (P1.trans P2) a2
def c0m(a:TDE):TDE:=fun ρ Q=>a ρ fun x ρ1=>need (a0h ρ1 x) fun d=>need (asB d) fun k=>Q (.d (.bool (!k))) ρ1
theorem d0x{ta:TE}{da:TDE}(ha:AdE K ta da):AdE K (c9a ta) (c0m da):=by
 intro c O ρ σ H Qd Q R h0 k
 refine ha c O ρ σ H _ _ R h0 fun x ρ1 O1 v H1 h1 R1 P1 a1=>?_
 obtain⟨d,e1,hn8⟩:=ne (h1)
 obtain⟨b,e2,h2⟩:=ne (hn8)
 exact⟨b,b2n (R1.top a1 e1) e2,k _ _ _ _ _ h2 R1 P1 a5m⟩
def b6p(f f':F2)(da db dc:TDE):TDE:=fun ρ Q=>da ρ fun x ρ1=>db ρ1 fun y ρ2=>need (a0h ρ2 x) fun dx=>need (a0h ρ2 y) fun dy=>need (f dx dy) fun z=>need (asB z) fun k =>
 if k=true then dc ρ2 fun w ρ3=>need (a0h ρ3 y) fun dy=>need (a0h ρ3 w) fun dw=>need (f' dy dw) fun z'=>Q (.d z') ρ3 else Q (.d (.bool false)) ρ2
theorem c6l{r r':R2}{f f':F2}{ta tb tc:TE}{da db dc:TDE}(hr:AdR K r f)(hr':AdR K r' f')(ha:AdE K ta da)(hb:AdE K tb db)(hc:AdE K tc dc):AdE K (c2u r r' ta tb tc) (b6p f f' da db dc):=by
 intro c O ρ σ H Qd Q R h k
 refine ha c O ρ σ H _ _ R h fun x ρ1 O1 v H1 h1 R1 P1 a1=>?_
 refine hb c O1 ρ1 σ H1 _ _ R1 h1 fun y ρ2 O2 u H2 h2 R2 P2 a2=>?_
 obtain⟨dx,e1,hn7⟩:=ne (h2)
 obtain⟨dy,e2,hn17⟩:=ne (hn7)
 obtain⟨z,e3,hn20⟩:=ne (hn17)
 obtain⟨b,e4,h3⟩:=ne (hn20)
 refine hr (live c O2) H2 v u dx dy z _ R2.frsLive (R2.top (a1.pers P2) e1) (R2.top a2 e2) e3 fun w H3 s3 a3=>?_
 have R3:=R2.grow s3
 have P3:Pers K (live c O2) H2 (live c O2) H3:=.same s3
 refine⟨b,b2n (.inl a3) e4,?_⟩
 cases b with
 | false=>rw [if_neg Bool.false_ne_true] at h3 ⊢;exact k _ _ _ _ _ h3 R3 ((P1.trans P2).trans P3) a5m
 | true =>
  rw [if_pos rfl] at h3 ⊢
  refine hc c O2 ρ2 σ H3 _ _ R3 h3 fun w ρ4 O4 u4 H4 h4 R4 P4 a4=>?_
  obtain⟨dy',e5,hn26⟩:=ne (h4)
  obtain⟨dw,e6,hn28⟩:=ne (hn26)
  obtain⟨z',e7,h5⟩:=ne (hn28)
  refine hr' (live c O4) H4 u u4 dy' dw z' Q R4.frsLive (R4.top ((a2.pers P3).pers P4) e5) (R4.top a4 e6) e7 fun w5 H5 s5 a5=>?_
  exact k _ _ _ _ _ h5 (R4.grow s5) ((((P1.trans P2).trans P3).trans P4).trans (.same s5)) a5
end
section
variable{X:Cx}{a b c e:Expr}{rest:List Expr}{da db dc de:TDE}{dt du:TDT}{pos:Pos}
theorem a7b(h:DE X e de)(he:∀ whole,isTrue e X.env whole=(do let v ← whole;standAt e.pos;holding [v] (truthy v)):=by intro _;rfl):DT X e (dB de):=by
 obtain⟨t,p,a⟩:=h
 exact⟨_,a7u p he,ad_b a⟩
theorem c6m(h:DE X e de)(he:∀ whole,isTrue e X.env whole=(do let v ← whole;standAt e.pos;holding [v] (truthy v)):=by intro _;rfl):DT X e (dTru de):=by
 obtain⟨t,p,a⟩:=h
 exact⟨_,b6f p he,d5g a⟩
theorem a1g{op:CmpOp}{r:R2}{f:F2}(ho:OpR X (compareOp op) r)(hr:AdR X.K r f)(ha:DE X a da)(hb:DE X b db)(hm:behindInMarks op b=false):DT X (.Compare a [op] [b] pos) (dB (dOp f da db)):=by
 obtain⟨ta,pa,aa⟩:=ha
 obtain⟨tb,pb,ab⟩:=hb
 exact⟨_,a6q ho pa pb hm,ad_b (b5q hr aa ab)⟩
theorem b6q{op op':CmpOp}{r r':R2}{f f':F2}(ho:OpR X (compareOp op) r)(hr:AdR X.K r f)(ho':OpR X (compareOp op') r')(hr':AdR X.K r' f')(ha:DE X a da)(hb:DE X b db)(hc:DE X c dc)
  (hm:lastMarks [op,op'] [b,c]=false:=by with_unfolding_all rfl):DT X (.Compare a [op,op'] [b,c] pos) (dB (b6p f f' da db dc)):=by
 obtain⟨ta,pa,aa⟩:=ha
 obtain⟨tb,pb,ab⟩:=hb
 obtain⟨tc,pc,ac⟩:=hc
 exact⟨_,c5z ho ho' pa pb pc hm,ad_b (c6l hr hr' aa ab ac)⟩
theorem DW.toT(h:DW X e dt):DT X e dt:=by obtain⟨t,p,a⟩:=h;exact⟨t,p.pt,a⟩
theorem b3k(ha:DT X a dt):DW X (.BoolOp .And [a] pos) dt:=by obtain⟨t,p,a⟩:=ha;exact⟨t,b8h p,a⟩
theorem b2o(ha:DT X a dt):DW X (.BoolOp .Or [a] pos) dt:=by obtain⟨t,p,a⟩:=ha;exact⟨t,c2n p,a⟩
theorem b6r(ha:DT X a dt)(hb:DW X (.BoolOp .And (b :: rest) pos) du):DW X (.BoolOp .And (a :: b :: rest) pos) (dAnd dt du):=by obtain⟨_,p,a⟩:=ha;obtain⟨_,p',a'⟩:=hb;exact⟨_,b6b p p',d5h a a'⟩
theorem b5s(ha:DT X a dt)(hb:DW X (.BoolOp .Or (b :: rest) pos) du):DW X (.BoolOp .Or (a :: b :: rest) pos) (dOr dt du):=by obtain⟨_,p,a⟩:=ha;obtain⟨_,p',a'⟩:=hb;exact⟨_,c8y p p',ad_or a a'⟩
theorem a7c(ha:DT X a dt):DT X (.UnaryOp .Not a pos) (dNot dt):=by obtain⟨_,p,a⟩:=ha;exact⟨_,b2c p,d5i a⟩
theorem a7d{op}(h:DE X a da):DE X (.BoolOp op [a] pos) da:=by obtain⟨t,p,a⟩:=h;exact⟨t,b6c p,a⟩
theorem a7e(ha:DE X a da)(hb:DE X (.BoolOp .And (b :: rest) pos) db):DE X (.BoolOp .And (a :: b :: rest) pos) (c0l da db):=by obtain⟨_,p,a⟩:=ha;obtain⟨_,p',a'⟩:=hb;exact⟨_,d4n p p',d0w a a'⟩
theorem c9m(ha:DE X a da)(hb:DE X (.BoolOp .Or (b :: rest) pos) db):DE X (.BoolOp .Or (a :: b :: rest) pos) (dOrV da db):=by obtain⟨_,p,a⟩:=ha;obtain⟨_,p',a'⟩:=hb;exact⟨_,b9t p p',d5k a a'⟩
theorem d5l(ha:DE X a da):DE X (.UnaryOp .Not a pos) (c0m da):=by obtain⟨_,p,a⟩:=ha;exact⟨_,d4o p,d0x a⟩
theorem c0n(hc:DT X c dt)(ha:DE X a da)(hb:DE X b db):DE X (.IfExp c a b pos) (dIfE dt da db):=by obtain⟨_,p,a⟩:=hc;obtain⟨_,p',a'⟩:=ha;obtain⟨_,p2,a2⟩:=hb;exact⟨_,b1p p p' p2,d5j a a' a2⟩
end
inductive RV where
 | d (x:PyData)
 | new (xs:List PyData)
structure DEnds where
 nx:Rho->Prop
 rt:RV->Rho->Prop
 bk:Rho->Prop:=fun _=>False
 ct:Rho->Prop:=fun _=>False
abbrev TDS:=DEnds->Rho->Prop
noncomputable def b5t(K:W.Frag)(c:Rc)(O:Own)(ρ:Rho)(σ:St)(H:Hp):RV->V->Prop
 | .d x,v=>Rel K c O ρ σ H/\AtD K H (live c O) x v
 | .new xs,v=>∃ p vs,v=.ref p/\Rel K (c.add p) O ρ σ H/\b0t c O p/\H p=some (.lst vs)/\a0b K H (live (c.add p) O) xs vs
structure EndsOk(K:W.Frag)(c:Rc)(S0:Addr->Prop)(H0:Hp)(D:Ends)(Dd:DEnds):Prop where
 nx:∀ O ρ σ H,Rel K c O ρ σ H->Pers K S0 H0 (live c O) H->Dd.nx ρ->D.nx σ H
 rt:∀ r O ρ σ H v,b5t K c O ρ σ H r v->Dd.rt r ρ->D.rt v H
 bk:∀ O ρ σ H,Rel K c O ρ σ H->Pers K S0 H0 (live c O) H->Dd.bk ρ->D.bk σ H
 ct:∀ O ρ σ H,Rel K c O ρ σ H->Pers K S0 H0 (live c O) H->Dd.ct ρ->D.ct σ H
 mb:∀ p,c.M p->c.B p
 oa:∀ p,c.H0 p=none->c.A p
theorem EndsOk.later{K:W.Frag}{c:Rc}{S0 S1:Addr->Prop}{H0 H1:Hp}{D:Ends}{Dd:DEnds}(E:EndsOk K c S0 H0 D Dd)(P:Pers K S0 H0 S1 H1):EndsOk K c S1 H1 D Dd:=
 ⟨fun O ρ σ H R q=>E.nx O ρ σ H R (P.trans q),E.rt,fun O ρ σ H R q=>E.bk O ρ σ H R (P.trans q),fun O ρ σ H R q=>E.ct O ρ σ H R (P.trans q),E.mb,E.oa⟩
def AdS(K:W.Frag)(t:TS)(dt:TDS):Prop:=∀ (c:Rc) (O:Own) (ρ:Rho) (σ:St) (H:Hp) (D:Ends) (Dd:DEnds),Rel K c O ρ σ H->EndsOk K c (live c O) H D Dd->dt Dd ρ->t D σ H
def DS(X:Cx)(st:Stmt)(dt:TDS):Prop:=∃ t,PS X st t/\AdS X.K t dt
def DSs(X:Cx)(st:List Stmt)(dt:TDS):Prop:=∃ t,PSs X st t/\AdS X.K t dt
section
variable{K:W.Frag}{c:Rc}{O:Own}{ρ:Rho}{σ:St}{H H':Hp}{S S':Addr->Prop}
def c0o:TDS:=fun D ρ=>D.nx ρ
def dSeq(t u:TDS):TDS:=fun D ρ=>t { D with nx:=u D } ρ
theorem d0y:AdS K c9b c0o:=fun c O ρ σ H D Dd R E h=>E.nx O ρ σ H R .refl h
theorem d5m{t u:TS}{dt du:TDS}(h:AdS K t dt)(h':AdS K u du):AdS K (tSeq t u) (dSeq dt du):=fun c O ρ σ H D Dd R E q =>
 h c O ρ σ H { D with nx:=u D } { Dd with nx:=du Dd } R ⟨fun O1 ρ1 σ1 H1 R1 P1 q1=>h' c O1 ρ1 σ1 H1 D Dd R1 (E.later P1) q1,E.rt,E.bk,E.ct,E.mb,E.oa⟩ q
def d5n:TDS:=fun D ρ=>D.bk ρ
def dCont:TDS:=fun D ρ=>D.ct ρ
def c0p(de:TDE):TDS:=fun D ρ=>de ρ fun _ ρ1=>D.nx ρ1
theorem d0z{t:TE}{de:TDE}(h:AdE K t de):AdS K (c9c t) (c0p de):=fun c O ρ σ H D Dd R E q =>
 h c O ρ σ H _ _ R q fun x ρ1 O1 v H1 h1 R1 P1 a1=>E.nx O1 ρ1 σ H1 R1 P1 h1
def dRet(de:TDE):TDS:=fun D ρ=>de ρ fun x ρ1=>fz ρ1 x fun y ρ2=>D.rt (.d y) ρ2
theorem d5o{t:TE}{de:TDE}(h:AdE K t de):AdS K (tRet t) (dRet de):=fun c O ρ σ H D Dd R E q =>
 h c O ρ σ H _ _ R q fun x ρ1 O1 v H1 h1 R1 P1 a1=>by
  obtain⟨y,ρ2,O2,h2,R2,P2,a2⟩:=R1.fz a1 h1
  exact E.rt (.d y) O2 ρ2 σ H1 v ⟨R2,a2⟩ h2
def dRetF(df:TDF):TDS:=fun D ρ=>df ρ fun xs ρ1=>D.rt (.new xs) ρ1
noncomputable def ownAt(ρ:Rho)(i:Nat):Option (List PyData):=match ρ[i]?.join with
 | some (.own xs)=>some xs
 | _=>none
def d1a(i:Nat):TDS:=fun D ρ=>need (ownAt ρ i) fun xs=>D.rt (.new xs) (ρ.set i none)
def dIf(c:TDT)(t u:TDS):TDS:=fun D ρ=>c ρ fun b ρ1=>if b=true then t D ρ1 else u D ρ1
theorem ad_if{tc:TT}{t u:TS}{dc:TDT}{dt du:TDS}(hc:AdT K tc dc)(h:AdS K t dt)(h':AdS K u du):AdS K (tIfS tc t u) (dIf dc dt du):=fun c O ρ σ H D Dd R E q =>
 hc c O ρ σ H _ _ R q fun b ρ1 O1 H1 h1 R1 P1=>by
  cases b with
  | true=>rw [if_pos rfl] at h1 ⊢;exact h c O1 ρ1 σ H1 D Dd R1 (E.later P1) h1
  | false=>rw [if_neg Bool.false_ne_true] at h1 ⊢;exact h' c O1 ρ1 σ H1 D Dd R1 (E.later P1) h1
def dRetN:TDS:=fun D ρ=>D.rt (.d .none) ρ
def dSet(i:Nat)(de:TDE):TDS:=fun D ρ=>de ρ fun x ρ1=>fz ρ1 x fun y ρ2=>i < ρ2.length/\D.nx (ρ2.set i (some (.d y)))
theorem d5p{i:Nat}{t:TE}{de:TDE}(h:AdE K t de):AdS K (tAsg t (a4v i)) (dSet i de):=fun c O ρ σ H D Dd R E q =>
 h c O ρ σ H _ _ R q fun x ρ1 O1 v H1 h1 R1 P1 a1=>by
  obtain⟨y,ρ2,O2,⟨hi,h2⟩,R2,P2,a2⟩:=R1.fz a1 h1
  obtain⟨R3,P3⟩:=R2.setD hi a2
  exact E.nx _ _ _ H1 R3 ((P1.trans P2).trans P3) h2
def b5u(i:Nat)(df:TDF):TDS:=fun D ρ=>df ρ fun xs ρ1=>i < ρ1.length/\D.nx (ρ1.set i (some (.own xs)))
theorem b8y{i:Nat}{t:TE}{df:TDF}(h:AdF K t df):AdS K (tAsg t (a4v i)) (b5u i df):=fun c O ρ σ H D Dd R E q =>
 h c O ρ σ H _ _ R q fun xs ρ1 O1 p vs H1 h1 R1 P1 f1 hp a1=>by
  obtain⟨hi,h2⟩:=h1
  obtain⟨R3,P3⟩:=R1.setOwn hi f1.1 f1.2.1 f1.2.2.1 f1.2.2.2 (E.oa _ f1.1) hp a1
  exact E.nx _ _ _ H1 R3 (P1.trans P3) h2
abbrev TDG:=PyData->Rho->(Rho->Prop)->Prop
abbrev TDGs:=List PyData->Rho->(Rho->Prop)->Prop
def AdG(K:W.Frag)(g:TG)(dg:TDG):Prop:=∀ (c:Rc) (O:Own) (ρ:Rho) (σ:St) (H:Hp) (x:PyData) (v:V) (Qd:Rho->Prop) (Q:St->Hp->Prop),Rel K c O ρ σ H->AtD K H (live c O) x v->dg x ρ Qd ->
 (∀ O' ρ' σ' ,Rel K c O' ρ' σ' H->Pers K (live c O) H (live c O') H->Qd ρ'->Q σ' H)->g v σ H Q
def b6s(i:Nat):TDG:=fun x ρ Q=>i < ρ.length/\Q (ρ.set i (some (.d x)))
theorem d1b{i:Nat}:AdG K (a4v i) (b6s i):=fun c O ρ σ H x v Qd Q R a h k=>by
 obtain⟨R1,P1⟩:=R.setD h.1 a
 exact k _ _ _ R1 P1 h.2
noncomputable def c9n:TDGs:=fun xs ρ Q=>xs=[]/\Q ρ
def d5q(t:TDG)(u:TDGs):TDGs:=fun xs ρ Q=>match xs with
 | x :: r=>t x ρ fun ρ1=>u r ρ1 Q
 | []=>False
def dgTup(n:Nat)(t:TDGs):TDG:=fun x ρ Q=>match x with
 | .tuple xs=>xs.length=n/\t xs ρ Q
 | _=>False
def dAsg(de:TDE)(g:TDG):TDS:=fun D ρ=>de ρ fun x ρ1=>fz ρ1 x fun y ρ2=>g y ρ2 D.nx
inductive OK where | o | b
noncomputable def ownB(ρ:Rho)(i:Nat):Option (OK × List PyData):=match ρ[i]?.join with
 | some (.own xs)=>some (.o,xs)
 | some (.bor xs)=>some (.b,xs)
 | _=>none
noncomputable def okL:OK->List PyData->L
 | .o,xs=>.own xs
 | .b,xs=>.bor xs
theorem a4q{i:Nat}{o:OK}{xs:List PyData}(R:Rel K c O ρ σ H)(h:ownB ρ i=some (o,xs)):ρ[i]? = some (some (okL o xs))/\∃ p vs,O i=some p/\σ[i]? = some (some (.ref p))/\H p=some (.lst vs)/\a0b K H (live c O) xs vs:=by
 unfold ownB at h
 split at h
 ·rename_i ys e
  cases h
  have e':=a1r e
  obtain⟨p,vs,h1,_,h3,h4,h5⟩:=R.own i _ e'
  exact⟨e',p,vs,h1,h3,h4,h5⟩
 ·rename_i ys e
  cases h
  have e':=a1r e
  obtain⟨p,vs,h1,h3,h4,h5⟩:=R.bor i _ e'
  exact⟨e',p,vs,h1,h3,h4,h5⟩
 ·cases h
theorem Rel.writeB{i:Nat}{o:OK}{p:Addr}{xs ys:List PyData}{vs vs':List V}(R:Rel K c O ρ σ H)(hO:O i=some p)(hH:H p=some (.lst vs))(e:ρ[i]? = some (some (okL o xs)))(h:a0b K H (live c O) ys vs') :
  Rel K c O (ρ.set i (some (okL o ys))) σ (upd H p (.lst vs'))/\Pers K (live c O) H (live c O) (upd H p (.lst vs')):=by
 cases o with
 | o=>exact R.write hO hH (.inl e) (.inl ⟨ys,e,rfl,h⟩)
 | b=>exact R.write hO hH (.inr (.inl e)) (.inr (.inl ⟨ys,e,rfl,h⟩))
def b3l(i:Nat)(de:TDE):TDE:=fun ρ Q=>need (ownB ρ i) fun _=>de ρ fun x ρ1=>fz ρ1 x fun y ρ2=>need (ownB ρ2 i) fun o=>o.2.length <= 1000000/\Q (.d .none) (ρ2.set i (some (okL o.1 (o.2 ++ [y]))))
theorem c3k{i:Nat}{t:TE}{de:TDE}(h:AdE K t de):AdE K (tBM K "list" b8s (tVar i) (a1l t tNil)) (b3l i de):=by
 intro c O ρ σ H Qd Q R q k
 obtain⟨hz6,e,q⟩:=ne (q)
 obtain⟨o,xs⟩:=hz6
 obtain⟨e0,p,vs,hO,hσ,hH,hA⟩:=a4q R e
 refine⟨.ref p,hσ,.inl ⟨rfl,vs,SqL.of hH⟩,?_⟩
 refine h c O ρ σ H _ _ R q fun x ρ1 O1 v H1 h1 R1 P1 a1=>?_
 obtain⟨y,ρ2,O2,hz19,R2,P2,a2⟩:=R1.fz a1 h1
 obtain⟨hz23,e2,hn25⟩:=ne (hz19)
 obtain⟨hz,h2⟩:=hn25
 obtain⟨o2,xs2⟩:=hz23
 obtain⟨e3,p2,vs2,hO2,hσ2,hH2,hA2⟩:=a4q R2 e2
 rw [hσ] at hσ2;cases hσ2
 refine⟨p,vs2,v,rfl,rfl,hH2,by rw [hA2.length];exact mil hz,?_⟩
 obtain⟨R3,P3⟩:=R2.writeB hO2 hH2 e3 (hA2.snoc a2)
 exact k _ _ _ _ _ h2 R3 ((P1.trans P2).trans P3) b6o
def dPop(i:Nat):TDE:=fun ρ Q=>need (ownB ρ i) fun o=>need o.2.getLast? fun y=>Q (.d y) (ρ.set i (some (okL o.1 o.2.dropLast)))
def b0a(i:Nat)(di de:TDE):TDS:=fun D ρ=>de ρ fun x ρ1=>fz ρ1 x fun y ρ2=>need (ownB ρ2 i) fun _=>di ρ2 fun z ρ3=>need (a0h ρ3 z) fun dz=>need (asI dz) fun n=>need (ownB ρ3 i) fun o=>need (ixN o.2.length n) fun j=>D.nx (ρ3.set i (some (okL o.1 (o.2.set j y))))
 where asI:PyData->Option Int
  | .int i=>some i
  | _=>none
theorem c6n{i:Nat}{ti te:TE}{di de:TDE}(hi:AdE K ti di)(h:AdE K te de):AdS K (tAsg te (gSub (tVar i) ti c9h)) (b0a i di de):=fun c O ρ σ H D Dd R E q =>
 h c O ρ σ H _ _ R q fun x ρ1 O1 v H1 h1 R1 P1 a1=>by
  obtain⟨y,ρ2,O2,hz4,R2,P2,a2⟩:=R1.fz a1 h1
  obtain⟨hz15,e,h2⟩:=ne (hz4)
  obtain⟨o,xs⟩:=hz15
  obtain⟨e0,p,vs,hO,hσ,hH,hA⟩:=a4q R2 e
  refine⟨.ref p,hσ,?_⟩
  refine hi c O2 ρ2 σ H1 _ _ R2 h2 fun z ρ3 O3 w H3 h3 R3 P3 a3=>?_
  obtain⟨dz,e1,hn24⟩:=ne (h3)
  obtain⟨n,e2,hn27⟩:=ne (hn24)
  obtain⟨hz22,e4,hn29⟩:=ne (hn27)
  obtain⟨j,e5,h4⟩:=ne (hn29)
  obtain⟨o4,xs4⟩:=hz22
  obtain⟨e6,p4,vs4,hO4,hσ4,hH4,hA4⟩:=a4q R3 e4
  rw [hσ] at hσ4;cases hσ4
  have a4:=R3.top a3 e1
  cases dz with
  | int n' =>
   cases e2
   refine⟨p,vs4,n,j,rfl,a4.int,hH4,by rw [hA4.length];exact e5,?_⟩
   obtain⟨R5,P5⟩:=R3.writeB hO4 hH4 e6 (hA4.set j (P3 _ _ a2))
   exact E.nx _ _ _ _ R5 (((P1.trans P2).trans P3).trans P5) h4
  | _=>cases e2
abbrev TDI:=Rho->(List PyData->Rho->Prop)->Prop
def b0b(K:W.Frag)(S:Addr->Prop)(H:Hp)(J:It)(xs:List PyData):Prop:=∀ (S':Addr->Prop) (H':Hp),Pers K S H S' H' ->
 (∀ (i:Nat) (x:PyData),xs[i]? = some x->J.go i H'/\∀ v H'',J.yld i H' v H''->Same H' H''/\AtD K H'' S' x v)/\J.stop xs.length H'
def AdI(K:W.Frag)(t:TI)(di:TDI):Prop:=∀ (c:Rc) (O:Own) (ρ:Rho) (σ:St) (H:Hp) (Qd:List PyData->Rho->Prop) (Q:It->Hp->Prop),Rel K c O ρ σ H->di ρ Qd ->
 (∀ xs ρ' O' J H',Qd xs ρ'->Rel K c O' ρ' σ H'->Pers K (live c O) H (live c O') H'->b0b K (live c O') H' J xs->Q J H')->t σ H Q
def DI(X:Cx)(tg iter:Expr)(di:TDI):Prop:=∃ t,PI X tg iter t/\AdI X.K t di
theorem c0q{a:Addr}{vs:List V}{xs:List PyData}(h1:SqT K H a vs)(h2:a0b K H S xs vs):b0b K S H (Itt K a) xs:=fun S' H' P=>by
 obtain⟨b,ws,e,h3,h4⟩:=a5v (P _ _ (a2h h1 h2))
 cases e
 refine⟨fun i x e=>?_,⟨ws,h3,by rw [h4.length];exact le_refl _⟩⟩
 obtain⟨w,e1,e2⟩:=h4.get e
 refine⟨⟨ws,w,h3,e1⟩,fun v H'' y=>?_⟩
 obtain⟨rfl,y⟩:=y
 have e3:=y ws h3
 rw [e1] at e3;cases e3
 exact⟨Same.refl _,e2⟩
theorem c0r{a:Addr}{vs:List V}{xs:List PyData}(hS:S a)(h1:H a=some (.lst vs))(h2:a0b K H S xs vs):b0b K S H (Itl K a) xs:=fun S' H' P=>by
 obtain⟨b,ws,e,_,h3,h4⟩:=a3r (P _ _ (a3w hS h1 h2))
 cases e
 refine⟨fun i x e=>?_,⟨ws,SqL.of h3,by rw [h4.length];exact le_refl _⟩⟩
 obtain⟨w,e1,e2⟩:=h4.get e
 refine⟨⟨ws,w,SqL.of h3,e1⟩,fun v H'' y=>?_⟩
 obtain⟨rfl,y⟩:=y
 have e3:=y ws (SqL.of h3)
 rw [e1] at e3;cases e3
 exact⟨Same.refl _,e2⟩
def c0s(de:TDE):TDI:=fun ρ Q=>de ρ fun x ρ1=>fz ρ1 x fun y ρ2=>need (seqD y) fun xs=>Q xs ρ2
theorem d5r{t:TE}{de:TDE}(h:AdE K t de):AdI K (iDat K t) (c0s de):=fun c O ρ σ H Qd Q R q k =>
 h c O ρ σ H _ _ R q fun x ρ1 O1 v H1 h1 R1 P1 a1=>by
  obtain⟨y,ρ2,O2,hz3,R2,P2,a2⟩:=R1.fz a1 h1
  obtain⟨xs,e,h2⟩:=ne (hz3)
  cases y with
  | list ys =>
   cases e
   obtain⟨a,vs,rfl,hS,h3,h4⟩:=a3r a2
   exact .inr ⟨a,rfl,⟨vs,SqL.of h3⟩,k _ _ _ _ _ h2 R2 (P1.trans P2) (c0r hS h3 h4)⟩
  | tuple ys =>
   cases e
   obtain⟨a,vs,rfl,h3,h4⟩:=a5v a2
   exact .inl ⟨a,rfl,⟨vs,h3⟩,k _ _ _ _ _ h2 R2 (P1.trans P2) (c0q h3 h4)⟩
  | _=>cases e
noncomputable def rngD(lo:Int)(n:Nat):List PyData:=(List.range n).map fun i=>.int (lo + (i:Nat))
theorem c0t{lo:Int}{n:Nat}:b0b K S H (Itr lo n) (rngD lo n):=fun S' H' P=>by
 have hl:(rngD lo n).length=n:=by simp [rngD]
 refine⟨fun i x e=>?_,by rw [hl];exact le_refl _⟩
 have hi:i < n:=by rw [← hl];exact(List.getElem?_eq_some_iff.mp e).1
 have ex:x=.int (lo + (i:Nat)):=by
  simp only [rngD,getElem?_map,List.getElem?_range hi,map_some] at e
  exact(Option.some.inj e).symm
 subst ex
 refine⟨hi,fun v H'' y=>?_⟩
 obtain⟨rfl,rfl⟩:=y
 exact⟨Same.refl _,a2d _⟩
noncomputable def asI:PyData->Option Int
 | .int i=>some i
 | _=>none
theorem b2p{d:PyData}{v:V}{i:Int}(h:AtT K H S d v)(e:asI d=some i):v=.int i:=by
 cases d with
 | int i'=>cases e;exact h.int
 | _=>cases e
def sm62(i:Int):Prop:=-(2 ^ 62) <= i/\i < 2 ^ 62
def b6t(de:TDE):TDI:=fun ρ Q=>de ρ fun x ρ1=>need (a0h ρ1 x) fun d=>need (asI d) fun j=>sm62 j/\Q (rngD 0 j.toNat) ρ1
theorem d1c{t:TE}{de:TDE}(h:AdE K t de):AdI K (c9d (a1l t tNil)) (b6t de):=fun c O ρ σ H Qd Q R q k =>
 h c O ρ σ H _ _ R q fun x ρ1 O1 v H1 h1 R1 P1 a1=>by
  obtain⟨d,e1,hn2⟩:=ne (h1)
  obtain⟨j,e2,hn14⟩:=ne (hn2)
  obtain⟨hj,h2⟩:=hn14
  have ev:=b2p (R1.top a1 e1) e2
  exact⟨j,by rw [ev],hj.1,hj.2,k _ _ _ _ _ h2 R1 P1 c0t⟩
def a4l(g:TDG)(b:TDS)(D:DEnds):List PyData->Rho->Prop
 | [],ρ=>D.nx ρ
 | x :: r,ρ=>g x ρ fun ρ1=>b { D with nx:=a4l g b D r,ct:=a4l g b D r,bk:=D.nx } ρ1
def dFor(di:TDI)(g:TDG)(b:TDS):TDS:=fun D ρ=>di ρ fun xs ρ1=>a4l g b D xs ρ1
theorem d5s{ti:TI}{tg:TG}{tb:TS}{di:TDI}{dg:TDG}{db:TDS}(hi:AdI K ti di)(hg:AdG K tg dg)(hb:AdS K tb db):AdS K (tFor ti tg tb) (dFor di dg db):=fun c O ρ σ H D Dd R E q =>
 hi c O ρ σ H _ _ R q fun xs ρ1 O1 J H1 h1 R1 P1 I1=>by
  refine⟨fun i m σ' H'=>m=xs.length - i/\i <= xs.length/\∃ O' ρ',Rel K c O' ρ' σ' H'/\Pers K (live c O1) H1 (live c O') H'/\a4l dg db Dd (xs.drop i) ρ',⟨xs.length,by simp,zero_le _,O1,ρ1,R1,.refl,by rw [List.drop_zero];exact h1⟩,?_⟩
  rintro i m σ2 H2 ⟨rfl,hle,O2,ρ2,R2,P2,h2⟩
  obtain⟨it,stop⟩:=I1 _ _ P2
  by_cases hlt:i < xs.length
  ·rw [drop_eq_getElem_cons hlt] at h2
   obtain⟨go,yld⟩:=it i xs[i] (getElem?_eq_getElem hlt)
   have h2':dg xs[i] ρ2 fun ρ1=>db { Dd with nx:=a4l dg db Dd (xs.drop (i + 1)),ct:=a4l dg db Dd (xs.drop (i + 1)),bk:=Dd.nx } ρ1:=h2
   refine .inr ⟨go,fun σ' H'=>∃ O' ρ',Rel K c O' ρ' σ' H'/\Pers K (live c O1) H1 (live c O') H'/\a4l dg db Dd (xs.drop (i + 1)) ρ',fun σ' H' hq8=>by obtain⟨O',ρ',R',P',q'⟩:=hq8;exact⟨xs.length - (i + 1),by omega,rfl,hlt,O',ρ',R',P',q'⟩,fun v H3 y=>?_⟩
   obtain⟨s3,a3⟩:=yld v H3 y
   refine hg c O2 ρ2 σ2 H3 xs[i] v _ _ (R2.grow s3) a3 h2' fun O4 ρ4 σ4 R4 P4 h4=>?_
   have P5:Pers K (live c O1) H1 (live c O4) H3:=(P2.trans (.same s3)).trans P4
   exact hb c O4 ρ4 σ4 H3 _ { Dd with nx:=a4l dg db Dd (xs.drop (i + 1)),ct:=a4l dg db Dd (xs.drop (i + 1)),bk:=Dd.nx } R4 ⟨fun O6 ρ6 σ6 H6 R6 P6 q6=>⟨O6,ρ6,R6,P5.trans P6,q6⟩,E.rt,fun O6 ρ6 σ6 H6 R6 P6=>E.nx _ _ _ _ R6 ((P1.trans P5).trans P6),fun O6 ρ6 σ6 H6 R6 P6 q6=>⟨O6,ρ6,R6,P5.trans P6,q6⟩,E.mb,E.oa⟩ h4
  ·have e:i=xs.length:=by omega
   subst e
   rw [List.drop_eq_nil_of_le (le_refl _)] at h2
   exact .inl ⟨stop,E.nx _ _ _ _ R2 (P1.trans P2) h2⟩
end
end L2
end
section
namespace L2
open PySem PySem.Spec PyProof.Rows
noncomputable def a6e:L->L->Option L
 | .own _,.bor xs=>some (.own xs)
 | .bor _,.bor xs=>some (.bor xs)
 | .tape _,.tape k=>some (.tape k)
 | _,_=>none
noncomputable def lend:L->L
 | .own xs=>.bor xs
 | l=>l
noncomputable def isOw:L->Bool
 | .own _=>true
 | .bor _=>true
 | .tape _=>true
 | _=>false
abbrev Lent:=Nat->Option Nat
section
variable{K:W.Frag}{c:Rc}{O:Own}{ρ:Rho}{σ:St}{H H':Hp}{S S':Addr->Prop}
theorem Rel.ow{i:Nat}{l:L}(R:Rel K c O ρ σ H)(h:ρ[i]? = some (some l))(ho:isOw l=true):∃ p,O i=some p/\σ[i]? = some (some (.ref p)):=by
 cases l with
 | own xs=>obtain⟨p,vs,h1,_,h3,_⟩:=R.own i xs h;exact⟨p,h1,h3⟩
 | bor xs=>obtain⟨p,vs,h1,h3,_⟩:=R.bor i xs h;exact⟨p,h1,h3⟩
 | tape k=>obtain⟨p,h1,h3,_⟩:=R.tap i k h;exact⟨p,h1,h3⟩
 | _=>cases ho
noncomputable def Holds(K:W.Frag)(c:Rc)(S:Addr->Prop)(H:Hp)(p:Addr):L->Prop
 | .own xs=>∃ vs,H p=some (.lst vs)/\a0b K H S xs vs
 | .bor xs=>∃ vs,H p=some (.lst vs)/\a0b K H S xs vs
 | .tape k=>H p=some (.lst [.ref c.sa,.int k])
 | _=>False
theorem Rel.holds{i:Nat}{l:L}(R:Rel K c O ρ σ H)(h:ρ[i]? = some (some l))(ho:isOw l=true):∃ p,O i=some p/\σ[i]? = some (some (.ref p))/\Holds K c (live c O) H p l/\(∀ xs,l=.own xs->a9a c p):=by
 cases l with
 | own xs=>obtain⟨p,vs,h1,h2,h3,h4,h5⟩:=R.own i xs h;exact⟨p,h1,h3,⟨vs,h4,h5⟩,fun _ _=>h2⟩
 | bor xs=>obtain⟨p,vs,h1,h3,h4,h5⟩:=R.bor i xs h;exact⟨p,h1,h3,⟨vs,h4,h5⟩,fun _ z=>nomatch z⟩
 | tape k=>obtain⟨p,h1,h3,h4⟩:=R.tap i k h;exact⟨p,h1,h3,h4,fun _ z=>nomatch z⟩
 | _=>cases ho
mutual
theorem AtD.inH(hs:∀ a,S a->H a ≠ none->S' a):∀ (d:PyData) (v:V),AtD K H S d v->AtD K H S' d v
 | .none,_,h=>by unfold AtD at h ⊢;exact h
 | .bool _,_,h=>by unfold AtD at h ⊢;exact h
 | .int _,_,h=>by unfold AtD at h ⊢;exact h
 | .str _,_,h=>by unfold AtD at h ⊢;exact h
 | .list ds,v,h=>by
  obtain⟨a,xs,e1,s,q,r⟩:=a3r h
  subst e1
  exact a3w (hs a s (by rw [q];exact fun z=>nomatch z)) q (a0b.inH hs ds xs r)
 | .tuple ds,v,h=>by
  obtain⟨a,xs,e1,q,r⟩:=a5v h
  subst e1
  exact a2h q (a0b.inH hs ds xs r)
 | .dict kvs,v,h=>by
  obtain⟨a,ν,e1,s,q,e2⟩:=a6r h
  subst e1
  exact b4j (hs a s (by rw [q];exact fun z=>nomatch z)) q (a0r.inH hs kvs ν e2)
theorem a0b.inH(hs:∀ a,S a->H a ≠ none->S' a):∀ (ds:List PyData) (vs:List V),a0b K H S ds vs->a0b K H S' ds vs
 | [],_,h=>by rw [h.unnil];exact .nil
 | d :: ds,vs,h=>by
  obtain⟨v,r,rfl,h1,h2⟩:=h.uncons
  exact .cons (AtD.inH hs d v h1) (a0b.inH hs ds r h2)
theorem a0r.inH(hs:∀ a,S a->H a ≠ none->S' a):∀ (kvs:List (PyData × PyData)) (κ:List (Key × V)),a0r K H S kvs κ->a0r K H S' kvs κ
 | [],_,h=>by rw [h.unnil];exact .nil
 | (x,d) :: r,κ,h=>by
  obtain⟨k,v,t,rfl,rfl,h1,h2⟩:=h.uncons
  exact .cons (AtD.inH hs d v h1) (a0r.inH hs r t h2)
end
noncomputable def a0x(O:Own)(ρ:Rho)(f:Lent):Own:=fun j=>(f j).bind fun i=>match ρ[i]?.join with
 | some l=>if isOw l then O i else none
 | none=>none
noncomputable def Rc.in(c:Rc)(O Oc:Own)(P:Addr->Prop)(b:Bool)(H:Hp):Rc:={ A:=fun p=>(∃ j,Oc j=some p) ∨ (b=true/\H p=none),H0:=H,S:=live c O,P:=P,M:=fun p=>∃ j,Oc j=some p,B:=fun p=>∃ j,Oc j=some p,lent:=Oc,sa:=c.sa,ns:=c.ns }
theorem a1v{f:Lent}{j:Nat}{p:Addr}(h:a0x O ρ f j=some p):∃ i l,f j=some i/\ρ[i]? = some (some l)/\isOw l=true/\O i=some p:=by
 unfold a0x at h
 cases e:f j with
 | none=>rw [e] at h;cases h
 | some i =>
  rw [e] at h
  have h':(match ρ[i]?.join with | some l=>if isOw l then O i else none | none=>none)=some p:=h
  split at h'
  ·rename_i l el
   split at h'
   ·rename_i ho
    exact⟨i,l,rfl,a1r el,ho,h'⟩
   ·cases h'
  ·cases h'
theorem b1u{f:Lent}{j i:Nat}{l:L}(e:f j=some i)(h:ρ[i]? = some (some l))(ho:isOw l=true):a0x O ρ f j=O i:=by
 unfold a0x
 rw [e]
 show(match ρ[i]?.join with | some l=>if isOw l then O i else none | none=>none)=O i
 rw [h]
 show(if isOw l then O i else none)=O i
 rw [if_pos ho]
structure Begins(K:W.Frag)(c:Rc)(O:Own)(ρ:Rho)(σ:St)(H:Hp)(f:Lent)(ρi:Rho)(σi:St):Prop where
 io:∀ (j:Nat) (l:L),ρi[j]? = some (some l)->isOw l=true->∃ i l0,f j=some i/\ρ[i]? = some (some l0)/\isOw l0=true/\l=lend l0/\σi[j]? = σ[i]?
 dat:∀ (j:Nat) (x:PyData),ρi[j]? = some (some (.d x))->∃ v,σi[j]? = some (some v)/\AtD K H (live c O) x v
 scr:∀ j:Nat,ρi[j]? = some (some .scr)->σi[j]? = some (some (.ref c.sa))
 inj:∀ j k i,f j=some i->f k=some i->j=k
 len:σi.length=ρi.length
theorem Rel.begin{b:Bool}{f:Lent}{ρi:Rho}{σi:St}{P:Addr->Prop}{H':Hp}(R:Rel K c O ρ σ H)(B:Begins K c O ρ σ H f ρi σi)(hs:Same H H')(hP:∀ p,P p->H p=none/\H' p ≠ none) :
  Rel K (c.in O (a0x O ρ f) P b H') (a0x O ρ f) ρi σi H'/\Pers K (live c O) H (live (c.in O (a0x O ρ f) P b H') (a0x O ρ f)) H':=by
 have hl:∀ a,live c O a->H a ≠ none->live (c.in O (a0x O ρ f) P b H') (a0x O ρ f) a:=fun a h n=>⟨h,fun z=>n (hP a z).1,fun j e=>by
  obtain⟨i,l,_,_,_,e2⟩:=a1v e
  exact h.2.2 i e2⟩
 have P1:Pers K (live c O) H (live (c.in O (a0x O ρ f) P b H') (a0x O ρ f)) H':=fun d v h =>
  AtD.mono hs.keep _ _ (AtD.inH hl d v h)
 refine⟨⟨fun j x e=>?_,fun j xs e=>?_,fun j xs e=>?_,fun j k e=>?_,fun j e=>B.scr j e,fun j k p e1 e2=>?_,fun j p e=>?_,fun p hp=>hp.elim .inl fun z=>.inr z.2,fun p hp=>?_,fun b o _ q=>q,fun b n=>n,fun p h=>?_,fun p h=>?_,fun j p e l h1 h2=>e,?_,B.len⟩,P1⟩
 ·obtain⟨v,h1,h2⟩:=B.dat j x e
  exact⟨v,h1,P1 _ _ h2⟩
 ·obtain⟨i,l0,_,h2,h3,h4,_⟩:=B.io j _ e rfl
  cases l0<;>cases h4
 ·obtain⟨i,l0,h1,h2,h3,h4,h5⟩:=B.io j _ e rfl
  obtain⟨p,e1,e2,e3,_⟩:=R.holds h2 h3
  have eO:a0x O ρ f j=some p:=(b1u h1 h2 h3).trans e1
  cases l0 with
  | own ys=>cases h4;obtain⟨vs,e4,e5⟩:=e3;exact⟨p,vs,eO,by rw [h5];exact e2,hs _ _ e4,P1.all e5⟩
  | bor ys=>cases h4;obtain⟨vs,e4,e5⟩:=e3;exact⟨p,vs,eO,by rw [h5];exact e2,hs _ _ e4,P1.all e5⟩
  | _=>cases h4
 ·obtain⟨i,l0,h1,h2,h3,h4,h5⟩:=B.io j _ e rfl
  obtain⟨p,e1,e2,e3,_⟩:=R.holds h2 h3
  have eO:a0x O ρ f j=some p:=(b1u h1 h2 h3).trans e1
  cases l0 with
  | tape k0=>cases h4;exact⟨p,eO,by rw [h5];exact e2,hs _ _ e3⟩
  | _=>cases h4
 ·obtain⟨i1,_,f1,_,_,o1⟩:=a1v e1
  obtain⟨i2,_,f2,_,_,o2⟩:=a1v e2
  have:=R.inj i1 i2 p o1 o2
  subst this
  exact B.inj j k i1 f1 f2
 ·obtain⟨i1,_,f1,_,_,o1⟩:=a1v e
  obtain⟨_,vs,h⟩:=R.has i1 p o1
  exact⟨.inl ⟨j,e⟩,vs,hs _ _ h⟩
 ·have hp':H p=none:=hs.free hp
  exact R.liveNew hp'
 ·obtain⟨j,e⟩:=h
  obtain⟨i1,_,f1,_,_,o1⟩:=a1v e
  obtain⟨_,vs,h⟩:=R.has i1 p o1
  exact⟨vs,hs _ _ h⟩
 ·rcases h with h | ⟨j,e⟩
  ·exact(hP p h).2
  ·obtain⟨i1,_,f1,_,_,o1⟩:=a1v e
   obtain⟨_,vs,h⟩:=R.has i1 p o1
   rw [hs _ _ h];exact fun z=>nomatch z
 ·exact R.sc.keep (S:=Any) hs.keep
end
end L2
end
section
namespace L2
open PySem PySem.Spec PyProof.Rows
noncomputable def a4y(ρi:Rho)(l0:L)(j:Nat):Option L:=(ρi[j]?.join).bind (a6e l0)
noncomputable def a3y(ρi:Rho)(j i:Nat)(ρ:Rho):Rho:=match ρ[i]?.join with
 | some l0=>if isOw l0 then ρ.set i (a4y ρi l0 j) else ρ
 | none=>ρ
noncomputable def fills(ρi:Rho):List (Nat × Nat)->Rho->Rho
 | [],ρ=>ρ
 | (j,i) :: r,ρ=>fills ρi r (a3y ρi j i ρ)
theorem b6u{ρi ρ:Rho}{j i k:Nat}(h:k ≠ i):(a3y ρi j i ρ)[k]? = ρ[k]?:=by
 unfold a3y
 split
 ·split
  ·exact getElem?_set_ne (Ne.symm h)
  ·rfl
 ·rfl
theorem c6o{ρi ρ:Rho}{j i:Nat}{l0:L}(h:ρ[i]? = some (some l0))(ho:isOw l0=true):(a3y ρi j i ρ)[i]? = some (a4y ρi l0 j):=by
 have hi:i < ρ.length:=(List.getElem?_eq_some_iff.mp h).1
 unfold a3y
 rw [h]
 show(if isOw l0 then ρ.set i (a4y ρi l0 j) else ρ)[i]? = _
 rw [if_pos ho,getElem?_set_self hi]
theorem c6p{ρi ρ:Rho}{j i:Nat}(h:∀ l0,ρ[i]? = some (some l0)->isOw l0=false):a3y ρi j i ρ=ρ:=by
 unfold a3y
 split
 ·rename_i l0 e
  rw [h l0 (a1r e)]
  rfl
 ·rfl
theorem c3l{ρi ρ:Rho}{j i:Nat}:(a3y ρi j i ρ).length=ρ.length:=by
 unfold a3y
 split
 ·split
  ·rw [length_set]
  ·rfl
 ·rfl
theorem b4m{ρi:Rho}:∀ {fl:List (Nat × Nat)} {ρ:Rho},(fills ρi fl ρ).length=ρ.length
 | [],_=>rfl
 | (j,i) :: r,ρ=>by unfold fills;rw [b4m,c3l]
theorem a5r{ρi:Rho}:∀ {fl:List (Nat × Nat)} {ρ:Rho} {k:Nat},(∀ j,(j,k) ∈ fl->∀ l0,ρ[k]? = some (some l0)->isOw l0=false)->(fills ρi fl ρ)[k]? = ρ[k]?
 | [],_,_,_=>rfl
 | (j,i) :: r,ρ,k,h=>by
  unfold fills
  by_cases hk:k=i
  ·subst hk
   have e:=c6p (ρi:=ρi) (j:=j) (h j mem_cons_self)
   rw [e]
   exact a5r fun j' m=>h j' (mem_cons_of_mem _ m)
  ·have e:=b6u (ρi:=ρi) (ρ:=ρ) (j:=j) hk
   rw [a5r (ρ:=a3y ρi j i ρ) (fun j' m l0 q=>h j' (mem_cons_of_mem _ m) l0 (by rw [← e];exact q)),e]
theorem b6v{ρi:Rho}:∀ {fl:List (Nat × Nat)} {ρ:Rho} {j i:Nat} {l0:L},(fl.map (·.2)).Nodup->(j,i) ∈ fl->ρ[i]? = some (some l0)->isOw l0=true->(fills ρi fl ρ)[i]? = some (a4y ρi l0 j)
 | (j',i') :: r,ρ,j,i,l0,nd,m,h,ho=>by
  rw [map_cons,nodup_cons] at nd
  unfold fills
  rcases mem_cons.mp m with e | m2
  ·cases e
   rw [a5r fun j2 m2=>absurd (mem_map.mpr ⟨(j2,_),m2,rfl⟩) nd.1]
   exact c6o h ho
  ·have ne:i ≠ i':=by
    rintro rfl
    exact nd.1 (mem_map.mpr ⟨(j,_),m2,rfl⟩)
   exact b6v nd.2 m2 (by rw [b6u ne];exact h) ho
section
variable{K:W.Frag}{c:Rc}{O:Own}{ρ:Rho}{σ:St}{H H':Hp}{S S':Addr->Prop}
theorem b6w{l:L}(h:isIO l=true):isOw l=true:=by cases l<;>first | rfl | cases h
theorem Rel.finish{P':Addr->Prop}{fl:List (Nat × Nat)}{f:Lent}{ρi:Rho}{Oi:Own}{ci:Rc}{σi:St}(R:Rel K c O ρ σ H)(nd:(fl.map (·.2)).Nodup)(hf:∀ j i,(j,i) ∈ fl->f j=some i)(hf':∀ j i,f j=some i->(j,i) ∈ fl)
  (Ri:Rel K ci Oi ρi σi H') (hln:∀ j,ci.lent j=a0x O ρ f j) (hsa:ci.sa=c.sa) (hns:ci.ns=c.ns)
  (fr:∀ b o,(∀ j,a0x O ρ f j ≠ some b)->H b=some o->H' b=some o) (hk:∀ j p,a0x O ρ f j=some p->∃ vs,H' p=some (.lst vs))
  (hP:Pers K (live ci Oi) H' (live { c with P:=P' } O) H') (hp:Pers K (live c O) H (live { c with P:=P' } O) H')
  (hP':∀ p,P' p->c.P p ∨ (H' p ≠ none/\∀ i,O i ≠ some p)):Rel K { c with P:=P' } O (fills ρi fl ρ) σ H':=by
 -- a slot is lent, or it is as it was
 have cases_:∀ i:Nat,(∃ j l0,(j,i) ∈ fl/\ρ[i]? = some (some l0)/\isOw l0=true/\(fills ρi fl ρ)[i]? = some (a4y ρi l0 j)) ∨ ((fills ρi fl ρ)[i]? = ρ[i]? /\ ∀ p,O i=some p->(∃ l,ρ[i]? = some (some l)/\isOw l=true)->∀ j,a0x O ρ f j ≠ some p):=fun i=>by
  by_cases h:∃ j l0,(j,i) ∈ fl/\ρ[i]? = some (some l0)/\isOw l0=true
  ·obtain⟨j,l0,h1,h2,h3⟩:=h
   exact .inl ⟨j,l0,h1,h2,h3,b6v nd h1 h2 h3⟩
  ·refine .inr ⟨a5r fun j m l0 q=>?_,fun p hO ⟨l,e1,e2⟩ j z=>?_⟩
   ·cases q2:isOw l0 with
    | false=>rfl
    | true=>exact absurd ⟨j,l0,m,q,q2⟩ h
   ·obtain⟨i2,l2,g1,g2,g3,g4⟩:=a1v z
    have:=R.inj i2 i p g4 hO
    subst this
    exact h ⟨j,l2,hf' j _ g1,g2,g3⟩
 -- what a lent slot has now
 have lent_:∀ {i j:Nat} {l0 l:L},(j,i) ∈ fl->ρ[i]? = some (some l0)->isOw l0=true->a4y ρi l0 j=some l->∃ p l',O i=some p/\σ[i]? = some (some (.ref p))/\isIO l'=true/\a6e l0 l'=some l/\Holds K c (live { c with P:=P' } O) H' p l'/\(∀ xs,l0=.own xs->a9a c p):=fun{i j l0 l} m h2 h3 e=>by
  obtain⟨p,e1,e2,e3,e4⟩:=R.holds h2 h3
  unfold a4y at e
  cases el:ρi[j]?.join with
  | none=>rw [el] at e;cases e
  | some l' =>
   rw [el] at e
   have e':a6e l0 l'=some l:=e
   have hio:isIO l'=true:=by cases l0<;>cases l'<;>first | rfl | cases e'
   have el':=a1r el
   have elent:ci.lent j=some p:=(hln j).trans ((b1u (hf j i m) h2 h3).trans e1)
   have eO:=Ri.lnt j p elent l' el' hio
   obtain⟨p',g1,_,g3,_⟩:=Ri.holds el' (b6w hio)
   rw [eO] at g1;cases g1
   refine⟨p,l',e1,e2,hio,e',?_,e4⟩
   cases l' with
   | bor xs=>obtain⟨vs,q1,q2⟩:=g3;exact⟨vs,q1,hP.all q2⟩
   | tape k=>show H' p=_;rw [← hsa];exact g3
   | _=>cases hio
 have ok':∀ i p,O i=some p->a9a c p->a9a { c with P:=P' } p:=fun i p e h=>⟨h.1,h.2.1,fun z=>(hP' p z).elim h.2.2 fun w=>w.2 i e⟩
 have stay:∀ i p o,O i=some p->(∃ l,ρ[i]? = some (some l)/\isOw l=true)->(∀ p,O i=some p->(∃ l,ρ[i]? = some (some l)/\isOw l=true)->∀ j,a0x O ρ f j ≠ some p)->H p=some o->H' p=some o:=fun i p o e l n q=>fr p o (n p e l) q
 refine⟨fun i x e=>?_,fun i xs e=>?_,fun i xs e=>?_,fun i k e=>?_,fun i e=>?_,R.inj,fun i p e=>⟨(R.has' i p e).1,?_⟩,R.am,R.frs,fun b o n q=>?_,fun b n=>?_,fun p h=>?_,fun p h=>?_,fun i p e l h1 h2=>?_,?_,?_⟩
 ·rcases cases_ i with⟨j,l0,m,h2,h3,h4⟩ | ⟨h1,_⟩
  ·rw [h4] at e
   obtain⟨p,l',_,_,hio,hl,_⟩:=lent_ m h2 h3 (Option.some.inj e)
   cases l'<;>first | (cases hio;done) | (cases l0<;>cases hl)
  ·rw [h1] at e
   obtain⟨v,e1,e2⟩:=R.dat i x e
   exact⟨v,e1,hp _ _ e2⟩
 ·rcases cases_ i with⟨j,l0,m,h2,h3,h4⟩ | ⟨h1,h2⟩
  ·rw [h4] at e
   obtain⟨p,l',g1,g2,hio,hl,g3,g4⟩:=lent_ m h2 h3 (Option.some.inj e)
   cases l' with
   | bor ys =>
    cases l0 with
    | own zs=>cases hl;obtain⟨vs,q1,q2⟩:=g3;exact⟨p,vs,g1,ok' i p g1 (g4 _ rfl),g2,q1,q2⟩
    | _=>cases hl
   | tape k=>cases l0<;>cases hl
   | _=>cases hio
  ·rw [h1] at e
   obtain⟨p,vs,g1,g2,g3,g4,g5⟩:=R.own i xs e
   exact⟨p,vs,g1,ok' i p g1 g2,g3,stay i p _ g1 ⟨_,e,rfl⟩ h2 g4,hp.all g5⟩
 ·rcases cases_ i with⟨j,l0,m,h2,h3,h4⟩ | ⟨h1,h2⟩
  ·rw [h4] at e
   obtain⟨p,l',g1,g2,hio,hl,g3,g4⟩:=lent_ m h2 h3 (Option.some.inj e)
   cases l' with
   | bor ys =>
    cases l0<;>cases hl<;>(obtain⟨vs,q1,q2⟩:=g3;exact⟨p,vs,g1,g2,q1,q2⟩)
   | tape k=>cases l0<;>cases hl
   | _=>cases hio
  ·rw [h1] at e
   obtain⟨p,vs,g1,g3,g4,g5⟩:=R.bor i xs e
   exact⟨p,vs,g1,g3,stay i p _ g1 ⟨_,e,rfl⟩ h2 g4,hp.all g5⟩
 ·rcases cases_ i with⟨j,l0,m,h2,h3,h4⟩ | ⟨h1,h2⟩
  ·rw [h4] at e
   obtain⟨p,l',g1,g2,hio,hl,g3,g4⟩:=lent_ m h2 h3 (Option.some.inj e)
   cases l' with
   | bor ys=>cases l0<;>cases hl
   | tape k2=>cases l0<;>cases hl<;>exact⟨p,g1,g2,g3⟩
   | _=>cases hio
  ·rw [h1] at e
   obtain⟨p,g1,g3,g4⟩:=R.tap i k e
   exact⟨p,g1,g3,stay i p _ g1 ⟨_,e,rfl⟩ h2 g4⟩
 ·rcases cases_ i with⟨j,l0,m,h2,h3,h4⟩ | ⟨h1,h2⟩
  ·rw [h4] at e
   obtain⟨p,l',g1,g2,hio,hl,g3,g4⟩:=lent_ m h2 h3 (Option.some.inj e)
   cases l'<;>first | (cases hio;done) | (cases l0<;>cases hl)
  ·rw [h1] at e;exact R.scr i e
 ·obtain⟨_,vs,q⟩:=R.has i p e
  by_cases hlt:∃ j,a0x O ρ f j=some p
  ·obtain⟨j,hj⟩:=hlt;exact hk j p hj
  ·exact⟨vs,fr p _ (fun j z=>hlt ⟨j,z⟩) q⟩
 ·refine fr b o (fun j z=>?_) (R.same b o n q)
  obtain⟨i,l,_,_,_,hO⟩:=a1v z
  rcases (R.has i b hO).1 with w | w
  ·exact n w
  ·rw [w] at q;cases q
 ·have n':=R.kept b n
  by_cases hlt:∃ j,a0x O ρ f j=some b
  ·obtain⟨j,hj⟩:=hlt
   obtain⟨vs,q⟩:=hk j b hj
   rw [q];exact fun z=>nomatch z
  ·cases q:H b with
   | none=>exact absurd q n'
   | some o=>rw [fr b o (fun j z=>hlt ⟨j,z⟩) q];exact fun z=>nomatch z
 ·obtain⟨vs,q⟩:=R.ml p h
  by_cases hlt:∃ j,a0x O ρ f j=some p
  ·obtain⟨j,hj⟩:=hlt;exact hk j p hj
  ·exact⟨vs,fr p _ (fun j z=>hlt ⟨j,z⟩) q⟩
 ·have fin:∀ q,(c.P q ∨ c.B q)->H' q ≠ none:=fun q hq=>by
   have n':=R.pin q hq
   by_cases hlt:∃ j,a0x O ρ f j=some q
   ·obtain⟨j,hj⟩:=hlt
    obtain⟨vs,q⟩:=hk j q hj
    rw [q];exact fun z=>nomatch z
   ·cases q2:H q with
    | none=>exact absurd q2 n'
    | some o=>rw [fr q o (fun j z=>hlt ⟨j,z⟩) q2];exact fun z=>nomatch z
  rcases h with h | h
  ·rcases hP' p h with w | w
   ·exact fin p (.inl w)
   ·exact w.1
  ·exact fin p (.inr h)
 ·rcases cases_ i with⟨j,l0,m,h3,h4,h5⟩ | ⟨h3,h4⟩
  ·rw [h5] at h1
   obtain⟨p',l',g1,g2,hio,hl,g3,g4⟩:=lent_ m h3 h4 (Option.some.inj h1)
   cases l0 with
   | own zs=>cases l'<;>cases hl;cases h2
   | bor zs=>exact R.lnt i p e _ h3 rfl
   | tape k=>exact R.lnt i p e _ h3 rfl
   | _=>cases h4
  ·rw [h3] at h1;exact R.lnt i p e l h1 h2
 ·have:=Ri.sc
  rw [hsa,hns] at this
  exact this
 ·rw [b4m];exact R.len
end
end L2
end
section
namespace L2
open PySem PySem.Spec PyProof.Rows
abbrev DSp:=List L->(RV->Rho->Prop)->Prop
noncomputable def mask:List L->Rho->Rho
 | [],_=>[]
 | l :: ls,ρ=>(if isIO l then ρ.head?.join else none) :: mask ls ρ.tail
noncomputable def b2q(N:List Str)(ls:List L):Rho:=ls.map some ++ List.replicate (N.length - ls.length) none
def spD(K:W.Frag)(ds:DSp):Sp:=fun vs H Q _=>∃ (c:Rc) (O:Own) (ls:List L) (Qd:RV->Rho->Prop),c.H0=H/\(∀ p,¬ c.P p)/\(∀ p,c.M p->c.B p)/\(∀ p,c.H0 p=none->c.A p)/\(∀ i,c.lent i=O i)/\Rel K c O (ls.map some) (vs.map some) H/\ds ls Qd /\
 ∀ r O' ρ' σ' v H',Qd r (mask ls ρ')->b5t K c O' ρ' σ' H' r v->Q v H'
section
variable{K:W.Frag}{c:Rc}{O:Own}{ρ:Rho}{σ:St}{H H':Hp}{S S':Addr->Prop}
theorem Rel.more{n:Nat}(R:Rel K c O ρ σ H):Rel K c O (ρ ++ List.replicate n none) (σ ++ List.replicate n none) H:=by
 have at_:∀ {i:Nat} {l:L},(ρ ++ List.replicate n none)[i]? = some (some l)->ρ[i]? = some (some l):=fun{i l} e=>by
  by_cases hi:i < ρ.length
  ·rwa [List.getElem?_append_left hi] at e
  ·rw [getElem?_append_right (by omega),List.getElem?_replicate] at e
   split at e<;>cases e
 have st:∀ {i:Nat} {v:V},σ[i]? = some (some v)->(σ ++ List.replicate n none)[i]? = some (some v):=fun{i v} e=>by
  rw [List.getElem?_append_left (List.getElem?_eq_some_iff.mp e).1];exact e
 refine⟨fun i x e=>?_,fun i xs e=>?_,fun i xs e=>?_,fun i k e=>?_,fun i e=>st (R.scr i (at_ e)),R.inj,R.has',R.am,R.frs,R.same,R.kept,R.ml,R.pin,fun i p e l h1 h2=>R.lnt i p e l (at_ h1) h2,R.sc,?_⟩
 ·obtain⟨v,h1,h2⟩:=R.dat i x (at_ e);exact⟨v,st h1,h2⟩
 ·obtain⟨p,vs,h1,h2,h3,h4⟩:=R.own i xs (at_ e);exact⟨p,vs,h1,h2,st h3,h4⟩
 ·obtain⟨p,vs,h1,h3,h4⟩:=R.bor i xs (at_ e);exact⟨p,vs,h1,st h3,h4⟩
 ·obtain⟨p,h1,h3,h4⟩:=R.tap i k (at_ e);exact⟨p,h1,st h3,h4⟩
 ·rw [length_append,length_append,R.len,length_replicate,length_replicate]
end
section
variable{P:Program}{w:World}{K:W.Frag}{mg:Str->Option Value}{base:Heap}
theorem Fun.dok{x qual:Str}{st:Stmt}{f:Addr}{fd:FuncData}{N ps:List Str}{k:Nat}{ds:DSp}(F:Fun K x qual st f fd)(S:FnScope N ps (a0g st))
  (hbody:∀ (cdv:Value) (A:Around) (outer:List Env) (s:Shared) (H:Hp) (E:XK),Room k (A.deeper (envOfC qual (a0g st) s.heap.objs.size f cdv)) ->
   ∀ (ls:List L) (Qd:RV->Rho->Prop),ds ls Qd->ls.length=ps.length/\∃ dt,DSs (cxOf CX0 P w K mg base N qual (a0g st) f cdv A outer s H E).nox (a1q st) dt/\dt { nx:=fun ρ=>Qd (.d .none) (mask ls ρ),rt:=fun r ρ=>Qd r (mask ls ρ) } (b2q N ls)) (len:∀ ls Qd,ds ls Qd->ls.length=ps.length):FnOk P w K mg base CX0 (k + 1) f fd ps (spD K ds):=by
 refine F.ok S (fun vs H Q E h=>?_) (fun cdv A outer s H vs Q E hr h=>?_)
 ·obtain⟨c,O,ls,Qd,_,_,_,_,_,R,h1,_⟩:=h
  have:=R.len
  rw [length_map,length_map] at this
  rw [this];exact len ls Qd h1
 ·obtain⟨c,O,ls,Qd,h0,hP,hM,hA,hL,R,h1,fin⟩:=h
  obtain⟨hl,dt,⟨t,p,a⟩,q⟩:=hbody cdv A outer s H E hr ls Qd h1
  have hlv:vs.length=ls.length:=by have:=R.len;rwa [length_map,length_map] at this
  refine⟨t,p,a c O (b2q N ls) (start N vs) H _ { nx:=fun ρ=>Qd (.d .none) (mask ls ρ),rt:=fun r ρ=>Qd r (mask ls ρ) } ?_ ⟨fun O1 ρ1 σ1 H1 R1 _ q1=>?_,fun r O1 ρ1 σ1 H1 v h q1=>?_,fun _ _ _ _ _ _ z=>(show False from z).elim,fun _ _ _ _ _ _ z=>(show False from z).elim,hM,hA⟩ q⟩
  ·unfold b2q start
   rw [hlv]
   exact R.more
  ·exact fin (.d .none) O1 ρ1 σ1 .non H1 q1 ⟨R1,a8z⟩
  ·exact fin r O1 ρ1 σ1 v H1 q1 h
end
def fzL(ρ:Rho)(x:DV)(Q:L->Rho->Prop):Prop:=match x with
 | .d y=>Q (.d y) ρ
 | .sl i=>match ρ[i]?.join with
  | some (.d y)=>Q (.d y) ρ
  | some (.own xs)=>Q (.d (.list xs)) (ρ.set i (some (.d (.list xs))))
  | some .scr=>Q .scr ρ
  | _=>False
noncomputable def ioAt(ρ:Rho)(i:Nat):Option L:=match ρ[i]?.join with
 | some l=>if isOw l then some (lend l) else none
 | none=>none
noncomputable def pass:List Bool->List DV->Rho->(List L->Rho->Prop)->Prop
 | [],[],ρ,Q=>Q [] ρ
 | false :: fs,x :: xs,ρ,Q=>fzL ρ x fun l ρ1=>pass fs xs ρ1 fun ls ρ2=>Q (l :: ls) ρ2
 | true :: fs,.sl i :: xs,ρ,Q=>pass fs xs ρ fun ls ρ2=>need (ioAt ρ2 i) fun l=>Q (l :: ls) ρ2
 | _,_,_,_=>False
noncomputable def a1n:List Bool->List DV->Lent
 | true :: _,.sl i :: _,0=>some i
 | _ :: fs,_ :: xs,j + 1=>a1n fs xs j
 | _,_,_=>none
noncomputable def flOf:Nat->List Bool->List DV->List (Nat × Nat)
 | j,true :: fs,.sl i :: xs=>(j,i) :: flOf (j + 1) fs xs
 | j,true :: fs,.d _ :: xs=>flOf (j + 1) fs xs
 | j,false :: fs,_ :: xs=>flOf (j + 1) fs xs
 | _,_,_=>[]
theorem a9e{fs:List Bool}:∀ {xs:List DV} {j0 j i:Nat},(j,i) ∈ flOf j0 fs xs ↔ ∃ k,j=j0 + k/\a1n fs xs k=some i:=by
 induction fs with
 | nil =>
  intro xs j0 j i
  have e1:flOf j0 [] xs=[]:=by cases xs<;>rfl
  have e2:∀ k,a1n [] xs k=none:=fun k=>by cases xs<;>cases k<;>rfl
  rw [e1]
  exact⟨fun h=>absurd h (List.not_mem_nil),fun hq8=>by obtain⟨k,_,h⟩:=hq8;rw [e2] at h;cases h⟩
 | cons f fs ih =>
  intro xs j0 j i
  cases xs with
  | nil =>
   have e1:flOf j0 (f :: fs) []=[]:=by cases f<;>rfl
   have e2:∀ k,a1n (f :: fs) [] k=none:=fun k=>by cases f<;>cases k<;>rfl
   rw [e1]
   exact⟨fun h=>absurd h (List.not_mem_nil),fun hq8=>by obtain⟨k,_,h⟩:=hq8;rw [e2] at h;cases h⟩
  | cons x xs =>
   have step:(∃ k,j=j0 + 1 + k/\a1n fs xs k=some i)->∃ k,j=j0 + k/\a1n (f :: fs) (x :: xs) k=some i:=fun hq8=>by obtain⟨k,e1,e2⟩:=hq8;exact⟨k + 1,by omega,by cases f<;>cases x<;>exact e2⟩
   have back:∀ k,j=j0 + (k + 1)->a1n (f :: fs) (x :: xs) (k + 1)=some i->∃ k,j=j0 + 1 + k/\a1n fs xs k=some i:=fun k e1 e2=>⟨k,by omega,by cases f<;>cases x<;>exact e2⟩
   cases f with
   | false =>
    have e:flOf j0 (false :: fs) (x :: xs)=flOf (j0 + 1) fs xs:=by cases x<;>rfl
    rw [e,ih]
    refine⟨step,fun hq8=>?_⟩
    obtain⟨k,e1,e2⟩:=hq8
    cases k with
    | zero=>cases x<;>cases e2
    | succ k=>exact back k e1 e2
   | true =>
    cases x with
    | d y =>
     show(j,i) ∈ flOf (j0 + 1) fs xs ↔ _
     rw [ih]
     refine⟨step,fun hq8=>?_⟩
     obtain⟨k,e1,e2⟩:=hq8
     cases k with
     | zero=>cases e2
     | succ k=>exact back k e1 e2
    | sl i0 =>
     show(j,i) ∈ (j0,i0) :: flOf (j0 + 1) fs xs ↔ _
     rw [mem_cons,ih]
     constructor
     ·rintro(e | h)
      ·cases e;exact⟨0,rfl,rfl⟩
      ·exact step h
     ·rintro⟨k,e1,e2⟩
      cases k with
      | zero =>
       have e3:some i0=some i:=e2
       cases e3
       exact .inl (by rw [e1];rfl)
      | succ k=>exact .inr (back k e1 e2)
inductive Args (K:W.Frag) (S:Addr->Prop) (sa:Addr) (ρ:Rho) (σ:St) (H:Hp):List Bool->List DV->List L->List V->Prop where
 | nil:Args K S sa ρ σ H [] [] [] []
 | dat {fs xs ls vs x y v}:AtD K H S y v->Args K S sa ρ σ H fs xs ls vs->Args K S sa ρ σ H (false :: fs) (x :: xs) (.d y :: ls) (v :: vs)
 | scr {fs xs ls vs x}:Args K S sa ρ σ H fs xs ls vs->Args K S sa ρ σ H (false :: fs) (x :: xs) (.scr :: ls) (.ref sa :: vs)
 | io {fs xs ls vs v} {i:Nat} {l0:L}:ρ[i]? = some (some l0)->isOw l0=true->σ[i]? = some (some v)->Args K S sa ρ σ H fs xs ls vs->Args K S sa ρ σ H (true :: fs) (.sl i :: xs) (lend l0 :: ls) (v :: vs)
section
variable{K:W.Frag}{c:Rc}{O:Own}{ρ:Rho}{σ:St}{H H':Hp}{S S':Addr->Prop}
theorem Rel.fzL{x:DV}{v:V}{Q:L->Rho->Prop}(R:Rel K c O ρ σ H)(a:AtV K (live c O) σ H x v)(h:fzL ρ x Q):∃ l ρ' O',Q l ρ'/\Rel K c O' ρ' σ H/\Pers K (live c O) H (live c O') H/\((∃ y,l=.d y/\AtD K H (live c O') y v) ∨ (l=.scr/\v=.ref c.sa)):=by
 cases x with
 | d y=>exact⟨.d y,ρ,O,h,R,.refl,.inl ⟨y,rfl,a⟩⟩
 | sl i =>
  have a':σ[i]? = some (some v):=a
  simp only [L2.fzL] at h
  split at h
  ·rename_i y e
   obtain⟨w,h1,h2⟩:=R.dat i y (a1r e)
   rw [a'] at h1;cases h1
   exact⟨.d y,ρ,O,h,R,.refl,.inl ⟨y,rfl,h2⟩⟩
  ·rename_i xs e
   have e':=a1r e
   obtain⟨R',P⟩:=R.freeze e'
   have hi:i < ρ.length:=(List.getElem?_eq_some_iff.mp e').1
   obtain⟨w,h1,h2⟩:=R'.dat i (.list xs) (by rw [getElem?_set_self hi])
   rw [a'] at h1;cases h1
   exact⟨_,_,_,h,R',P,.inl ⟨_,rfl,h2⟩⟩
  ·rename_i e
   have:=R.scr i (a1r e)
   rw [a'] at this;cases this
   exact⟨_,ρ,O,h,R,.refl,.inr ⟨rfl,rfl⟩⟩
  ·exact h.elim
theorem d1d{fs:List Bool}:∀ {xs:List DV} {vs:List V} {ρ:Rho} {O:Own} {Q:List L->Rho->Prop},Rel K c O ρ σ H->AtVs K (live c O) σ H xs vs->pass fs xs ρ Q ->
  ∃ ls ρ' O',Q ls ρ'/\Rel K c O' ρ' σ H/\Pers K (live c O) H (live c O') H/\Args K (live c O') c.sa ρ' σ H fs xs ls vs:=by
 induction fs with
 | nil =>
  intro xs vs ρ O Q R a h
  cases xs with
  | nil=>cases a;exact⟨[],ρ,O,h,R,.refl,.nil⟩
  | cons _ _=>exact(show False from h).elim
 | cons f fs ih =>
  intro xs vs ρ O Q R a h
  cases xs with
  | nil=>cases f<;>exact(show False from h).elim
  | cons x xs =>
   cases a with
   | @cons _ _ v vs a as =>
   cases f with
   | false =>
    have h':L2.fzL ρ x fun l ρ1=>pass fs xs ρ1 fun ls ρ2=>Q (l :: ls) ρ2:=h
    obtain⟨l,ρ1,O1,h1,R1,P1,a1⟩:=R.fzL a h'
    obtain⟨ls,ρ2,O2,h2,R2,P2,a2⟩:=ih R1 (AtVs.pers as P1) h1
    refine⟨l :: ls,ρ2,O2,h2,R2,P1.trans P2,?_⟩
    rcases a1 with⟨y,rfl,a1⟩ | ⟨rfl,rfl⟩
    ·exact .dat (P2 _ _ a1) a2
    ·exact .scr a2
   | true =>
    cases x with
    | d y=>exact(show False from h).elim
    | sl i =>
     have h':pass fs xs ρ fun ls ρ2=>need (ioAt ρ2 i) fun l=>Q (l :: ls) ρ2:=h
     obtain⟨ls,ρ2,O2,hz1,R2,P2,a2⟩:=ih R as h'
     obtain⟨l,e,h2⟩:=ne (hz1)
     refine⟨l :: ls,ρ2,O2,h2,R2,P2,?_⟩
     unfold ioAt at e
     split at e
     ·rename_i l0 el
      split at e
      ·rename_i ho
       cases e
       exact .io (a1r el) ho a a2
      ·cases e
     ·cases e
theorem Args.begins{fs:List Bool}{xs:List DV}{ls:List L}{vs:List V}(a:Args K (live c O) c.sa ρ σ H fs xs ls vs)(inj:∀ j k i,a1n fs xs j=some i->a1n fs xs k=some i->j=k) :
  Begins K c O ρ σ H (a1n fs xs) (ls.map some) (vs.map some):=by
 refine⟨?_,?_,?_,inj,?_⟩
 ·clear inj
  induction a with
  | nil=>intro j l e;simp at e
  | dat h _ ih =>
   intro j l e ho
   cases j with
   | zero=>cases e;cases ho
   | succ j=>obtain⟨i,l0,h1,h2⟩:=ih j l (by simpa using e) ho;exact⟨i,l0,h1,by simpa using h2⟩
  | scr _ ih =>
   intro j l e ho
   cases j with
   | zero=>cases e;cases ho
   | succ j=>obtain⟨i,l0,h1,h2⟩:=ih j l (by simpa using e) ho;exact⟨i,l0,h1,by simpa using h2⟩
  | @io fs xs ls vs v i l0 h1 h2 h3 _ ih =>
   intro j l e ho
   cases j with
   | zero=>cases e;exact⟨i,l0,rfl,h1,h2,rfl,by simpa using h3.symm⟩
   | succ j=>obtain⟨i,l0,h1,h2⟩:=ih j l (by simpa using e) ho;exact⟨i,l0,h1,by simpa using h2⟩
 ·clear inj
  induction a with
  | nil=>intro j x e;simp at e
  | dat h _ ih =>
   intro j x e
   cases j with
   | zero=>cases e;exact⟨_,rfl,h⟩
   | succ j=>obtain⟨v,h1,h2⟩:=ih j x (by simpa using e);exact⟨v,by simpa using h1,h2⟩
  | scr _ ih =>
   intro j x e
   cases j with
   | zero=>cases e
   | succ j=>obtain⟨v,h1,h2⟩:=ih j x (by simpa using e);exact⟨v,by simpa using h1,h2⟩
  | @io fs xs ls vs v i l0 h1 h2 h3 _ ih =>
   intro j x e
   cases j with
   | zero=>cases l0<;>first | (cases h2;done) | cases e
   | succ j=>obtain⟨v,h1,h2⟩:=ih j x (by simpa using e);exact⟨v,by simpa using h1,h2⟩
 ·clear inj
  induction a with
  | nil=>intro j e;simp at e
  | dat h _ ih =>
   intro j e
   cases j with
   | zero=>cases e
   | succ j=>have:=ih j (by simpa using e);simpa using this
  | scr _ ih =>
   intro j e
   cases j with
   | zero=>rfl
   | succ j=>have:=ih j (by simpa using e);simpa using this
  | @io fs xs ls vs v i l0 h1 h2 h3 _ ih =>
   intro j e
   cases j with
   | zero=>cases l0<;>first | (cases h2;done) | cases e
   | succ j=>have:=ih j (by simpa using e);simpa using this
 ·clear inj
  rw [length_map,length_map]
  induction a with
  | nil=>rfl
  | dat _ _ ih=>simp [ih]
  | scr _ ih=>simp [ih]
  | io _ _ _ _ ih=>simp [ih]
theorem Args.mask{fs:List Bool}{xs:List DV}{ls:List L}{vs:List V}(a:Args K (live c O) c.sa ρ σ H fs xs ls vs):∀ (ρ':Rho) {j i:Nat},a1n fs xs j=some i->(L2.mask ls ρ')[j]?.join=ρ'[j]?.join:=by
 have hd:∀ ρ':Rho,ρ'.head?.join=ρ'[0]?.join:=fun ρ'=>by cases ρ'<;>rfl
 have tl:∀ (ρ':Rho) (j:Nat),ρ'.tail[j]? = ρ'[j + 1]?:=fun ρ' j=>by cases ρ'<;>simp
 induction a with
 | nil=>intro ρ' j i e;cases e
 | dat h _ ih =>
  intro ρ' j i e
  cases j with
  | zero=>cases e
  | succ j =>
   have:=ih ρ'.tail (j:=j) (i:=i) e
   rw [tl] at this
   rw [← this];simp [L2.mask]
 | scr _ ih =>
  intro ρ' j i e
  cases j with
  | zero=>cases e
  | succ j =>
   have:=ih ρ'.tail (j:=j) (i:=i) e
   rw [tl] at this
   rw [← this];simp [L2.mask]
 | @io fs xs ls vs v i0 l0 h1 h2 h3 _ ih =>
  intro ρ' j i e
  cases j with
  | zero =>
   have hio:isIO (lend l0)=true:=by cases l0<;>first | rfl | cases h2
   simp only [L2.mask,hio,if_true,List.getElem?_cons_zero]
   show ρ'.head?.join=_
   exact hd ρ'
  | succ j =>
   have:=ih ρ'.tail (j:=j) (i:=i) e
   rw [tl] at this
   rw [← this];simp [L2.mask]
end
theorem b1m{ρi ρj:Rho}:∀ {fl:List (Nat × Nat)} {ρ:Rho},(∀ j i,(j,i) ∈ fl->ρi[j]?.join=ρj[j]?.join)->fills ρi fl ρ=fills ρj fl ρ
 | [],_,_=>rfl
 | (j,i) :: r,ρ,h=>by
  have e:a3y ρi j i ρ=a3y ρj j i ρ:=by
   unfold a3y a4y
   rw [h j i mem_cons_self]
  unfold fills
  rw [e]
  exact b1m fun j' i' m=>h j' i' (mem_cons_of_mem _ m)
def dCall(fs:List Bool)(sp:DSp)(da:TDA)(ρ:Rho)(Q:RV->Rho->Prop):Prop:=da ρ fun xs ρ1=>pass fs xs ρ1 fun ls ρ2=>((flOf 0 fs xs).map (·.2)).Nodup/\sp ls fun r outs=>Q r (fills outs (flOf 0 fs xs) ρ2)
def b6x(fs:List Bool)(sp:DSp)(da:TDA):TDE:=fun ρ Q=>dCall fs sp da ρ fun r ρ1=>match r with
 | .d x=>Q (.d x) ρ1
 | .new xs=>Q (.d (.list xs)) ρ1
def d5t(fs:List Bool)(sp:DSp)(da:TDA):TDF:=fun ρ Q=>dCall fs sp da ρ fun r ρ1=>match r with
 | .d _=>False
 | .new xs=>Q xs ρ1
section
variable{K:W.Frag}{c:Rc}{O:Own}{ρ:Rho}{σ:St}{H H':Hp}{S S':Addr->Prop}
theorem c3m{fs:List Bool}{xs:List DV}(nd:((flOf 0 fs xs).map (·.2)).Nodup):∀ j k i,a1n fs xs j=some i->a1n fs xs k=some i->j=k:=fun j k i e1 e2=>by
 have m1:(j,i) ∈ flOf 0 fs xs:=a9e.mpr ⟨j,by omega,e1⟩
 have m2:(k,i) ∈ flOf 0 fs xs:=a9e.mpr ⟨k,by omega,e2⟩
 exact congrArg Prod.fst (key _ nd m1 m2 rfl)
where
 key:∀ (l:List (Nat × Nat)) {a b:Nat × Nat},(l.map (·.2)).Nodup->a ∈ l->b ∈ l->a.2=b.2->a=b:=fun l=>by
  induction l with
  | nil=>intro a b _ h;cases h
  | cons x l ih =>
   intro a b nd ha hb e
   rw [map_cons,nodup_cons] at nd
   rcases mem_cons.mp ha with ea | ha2<;>rcases mem_cons.mp hb with eb | hb2
   ·rw [ea,eb]
   ·exact absurd (mem_map.mpr ⟨b,hb2,by rw [← e,ea]⟩) nd.1
   ·exact absurd (mem_map.mpr ⟨a,ha2,by rw [e,eb]⟩) nd.1
   ·exact ih nd.2 ha2 hb2 e
theorem c0u{fs:List Bool}{sp:DSp}{ta:TA}{da:TDA}(ha:∀ (Qa:List DV->Rho->Prop) (Qv:List V->Hp->Prop),da ρ Qa->(∀ xs ρ1 O1 vs H1,Qa xs ρ1->Rel K c O1 ρ1 σ H1->Pers K (live c O) H (live c O1) H1->AtVs K (live c O1) σ H1 xs vs->Qv vs H1)->ta σ H Qv)
  {Qd:RV->Rho->Prop} {Q:VK} (h:dCall fs sp da ρ Qd)
  (k:∀ r ρ' O' v H',Qd r ρ'->b5t K c O' ρ' σ H' r v->Pers K (live c O) H (match r with | .d _=>live c O' | .new _=>fun a=>live c O' a/\v ≠ .ref a) H'->Q v H'):b0p (spD K sp) [] E0 ta σ H Q:=by
 refine ha _ _ h fun xs ρ1 O1 vs H1 h1 R1 P1 a1=>?_
 obtain⟨ls,ρ2,O2,⟨nd,h2⟩,R2,P2,as⟩:=d1d R1 a1 h1
 have inj:=c3m nd
 obtain⟨Ri,Pi⟩:=R2.begin (b:=true) (P:=fun _=>False) (H':=H1) (as.begins inj) (Same.refl _) (fun p z=>z.elim)
 rw [append_nil]
 have hf:∀ j i,(j,i) ∈ flOf 0 fs xs->a1n fs xs j=some i:=fun j i m=>by
  obtain⟨k,e1,e2⟩:=a9e.mp m
  have:j=k:=by omega
  subst this;exact e2
 have hf':∀ j i,a1n fs xs j=some i->(j,i) ∈ flOf 0 fs xs:=fun j i e=>a9e.mpr ⟨j,by omega,e⟩
 refine⟨c.in O2 (a0x O2 ρ2 (a1n fs xs)) (fun _=>False) true H1,a0x O2 ρ2 (a1n fs xs),ls,_,rfl,fun p z=>z,fun p z=>z,fun p z=>.inr ⟨rfl,z⟩,fun i=>rfl,Ri,h2,fun r O' ρ' σ' v H' q ok=>?_⟩
 have ef:fills (mask ls ρ') (flOf 0 fs xs) ρ2=fills ρ' (flOf 0 fs xs) ρ2:=b1m fun j i m=>as.mask ρ' (hf j i m)
 rw [ef] at q
 have P12:=P1.trans P2
 have lentM:∀ {b:Addr},(∃ j,a0x O2 ρ2 (a1n fs xs) j=some b)->∃ vs,H1 b=some (.lst vs):=fun hq8=>by
  obtain⟨j,e⟩:=hq8
  obtain⟨i,_,_,_,_,hO⟩:=a1v e
  exact(R2.has i _ hO).2
 have hsame:∀ {ci:Rc},Rel K ci O' ρ' σ' H'->ci.H0=H1->(∀ p,ci.M p->∃ j,a0x O2 ρ2 (a1n fs xs) j=some p)->(∀ b o,(∀ j,a0x O2 ρ2 (a1n fs xs) j ≠ some b)->H1 b=some o->H' b=some o):=fun{ci} Rf h0 hM b o n q=>by
  refine Rf.same b o (fun z=>?_) (by rw [h0];exact q)
  obtain⟨j,e⟩:=hM b z
  exact n j e
 have keep:(∀ b o,(∀ j,a0x O2 ρ2 (a1n fs xs) j ≠ some b)->H1 b=some o->H' b=some o)->Keep (live c O2) H1 H':=fun fr =>
  ⟨fun b ws e=>fr b _ (fun j z=>by obtain⟨vs,w⟩:=lentM ⟨j,z⟩;rw [e] at w;cases w) e,fun b o u e=>fr b _ (fun j z=>by obtain⟨vs,w⟩:=lentM ⟨j,z⟩;rw [e] at w;cases w) e,
   fun b ws hl e=>fr b _ (fun j z=>by obtain⟨i,_,_,_,_,hO⟩:=a1v z;exact hl.2.2 i hO) e⟩
 cases r with
 | d x =>
  obtain⟨Rf,ax⟩:=ok
  have fr:=hsame Rf rfl (fun p z=>z)
  have hl:∀ a,live (c.in O2 (a0x O2 ρ2 (a1n fs xs)) (fun _=>False) true H1) O' a->live c O2 a:=fun a z=>z.1
  have hp:Pers K (live c O2) H1 (live c O2) H':=.of (keep fr) fun _ z=>z
  have hP:Pers K (live (c.in O2 (a0x O2 ρ2 (a1n fs xs)) (fun _=>False) true H1) O') H' (live c O2) H':=.of (Keep.refl _ _) hl
  have Rn:=R2.finish (P':=c.P) nd hf hf' Rf (fun _=>rfl) rfl rfl fr (fun j p e=>Rf.ml p ⟨j,e⟩) hP hp (fun p z=>.inl z)
  exact k (.d x) _ O2 v H' q ⟨Rn,hP _ _ ax⟩ (P12.trans hp)
 | new ys =>
  obtain⟨p,ws,rfl,Rf,ff,hH,ax⟩:=ok
  have fr:=hsame Rf rfl (fun p z=>z)
  have h1p:H1 p=none:=ff.1
  have hl:∀ a,live ((c.in O2 (a0x O2 ρ2 (a1n fs xs)) (fun _=>False) true H1).add p) O' a->live (c.add p) O2 a:=fun a z=>by
   have z1:live c O2 a:=z.1
   exact a9c z1 fun e=>z.2.1 (.inr e)
  have hp:Pers K (live c O2) H1 (live (c.add p) O2) H':=fun d u h=>by
   refine AtD.mono (S:=live (c.add p) O2) ((keep fr).less fun b z=>(a3x z).1) _ _ (AtD.less h1p (fun a z n=>a9c z n) _ _ h)
  have hP:Pers K (live ((c.in O2 (a0x O2 ρ2 (a1n fs xs)) (fun _=>False) true H1).add p) O') H' (live (c.add p) O2) H':=.of (Keep.refl _ _) hl
  have fp:=b1t R2 h1p
  have Rn:Rel K (c.add p) O2 (fills ρ' (flOf 0 fs xs) ρ2) σ H':=R2.finish (P':=fun a=>c.P a ∨ a=p) nd hf hf' Rf (fun _=>rfl) rfl rfl fr (fun j q e=>Rf.ml q ⟨j,e⟩) hP hp (fun q z=>z.elim .inl fun e=>.inr (by subst e;exact⟨by rw [hH];exact(fun z=>nomatch z),fp.2.2.2⟩))
  refine k (.new ys) _ O2 _ H' q ⟨p,ws,rfl,Rn,fp,hH,hP.all ax⟩ ((P12.trans hp).trans (.of (Keep.refl _ _) fun a z=>⟨(a3x z).1,fun e=>(a3x z).2 (by cases e;rfl)⟩))
theorem c3n{fs:List Bool}{sp:DSp}{ta:TA}{da:TDA}(ha:AdA K ta da)(R:Rel K c O ρ σ H){Qd:RV->Rho->Prop}{Q:VK}(h:dCall fs sp da ρ Qd)
  (k:∀ r ρ' O' v H',Qd r ρ'->b5t K c O' ρ' σ H' r v->Pers K (live c O) H (match r with | .d _=>live c O' | .new _=>fun a=>live c O' a/\v ≠ .ref a) H'->Q v H'):b0p (spD K sp) [] E0 ta σ H Q:=
 c0u (fun Qa Qv q k'=>ha c O ρ σ H Qa Qv R q k') h k
theorem c6q{fs:List Bool}{sp:DSp}{ta:TA}{da:TDA}(ha:AdA K ta da):AdE K (b0p (spD K sp) [] E0 ta) (b6x fs sp da):=fun c O ρ σ H Qd Q R h k =>
 c3n ha R h fun r ρ' O' v H' q ok P=>by
  cases r with
  | d x=>exact k _ _ _ _ _ q ok.1 P ok.2
  | new xs =>
   obtain⟨p,ws,rfl,Rn,fp,hH,ax⟩:=ok
   obtain⟨R2,P2⟩:=Rn.unadd
   exact k _ _ _ _ _ q R2 (P.trans (.of (Keep.refl _ _) fun a z=>z.1)) (a3w ⟨Rn.frs p fp.1,fp.2.2.1,fp.2.2.2⟩ hH (P2.all ax))
end
section
variable{X:Cx}{k:Nat}{f:Addr}{fd:FuncData}{ps:List Str}{sp:DSp}{x:Str}{st:Stmt}{p pos:Pos}{e:Expr}{es:List Expr}{da:TDA}
theorem a0n(fs:List Bool)(d:Def X.K X.mg x st ps f fd)(g:FnOk X.prog X.w X.K X.mg X.base CX0 k f fd ps (spD X.K sp))(hr:Room k X.A)(hg:Gl X x)(ha:DA X (e :: es) da) (hdb:(x == ("__debug__" : Str))=false:=by decide)
  (he:starEach (e :: es) X.env=(false,eval e X.env) :: starEach es X.env:=by rfl) (hpl:(backTo pos (starEach es X.env)).any (·.1)=false:=by rfl):DE X (.Call (.Name x p) (e :: es) [] pos) (b6x fs sp da):=by
 obtain⟨t,pt,at_⟩:=ha
 exact⟨_,a4o d g hr hg pt hdb he hpl,c6q at_⟩
end
end L2
end
section
namespace L2
open PySem PySem.Spec PyProof.Rows
noncomputable def capR(n:Nat)(cap:List (Str × Nat))(ρ:Rho):Rho:=List.replicate n none ++ cap.map fun p=>(ρ[p.2]?.join).map lend
noncomputable def flC:Nat->List (Str × Nat)->List (Nat × Nat)
 | _,[]=>[]
 | j,p :: r=>(j,p.2) :: flC (j + 1) r
noncomputable def a6f(n:Nat)(cap:List (Str × Nat)):Lent:=fun j=>if j < n then none else(cap[j - n]?).map (·.2)
theorem b8z:∀ {cap:List (Str × Nat)} {n j i:Nat},(j,i) ∈ flC n cap ↔ n <= j/\(cap[j - n]?).map (·.2)=some i:=by
 intro cap
 induction cap with
 | nil=>intro n j i;simp [flC]
 | cons p r ih =>
  intro n j i
  unfold flC
  rw [mem_cons,ih]
  constructor
  ·rintro(e | ⟨h1,h2⟩)
   ·cases e;simp
   ·refine⟨by omega,?_⟩
    have:j - n=(j - (n + 1)) + 1:=by omega
    rw [this,List.getElem?_cons_succ];exact h2
  ·rintro⟨h1,h2⟩
   by_cases e:j=n
   ·subst e
    simp at h2
    exact .inl (by rw [h2])
   ·refine .inr ⟨by omega,?_⟩
    have:j - n=(j - (n + 1)) + 1:=by omega
    rw [this,List.getElem?_cons_succ] at h2;exact h2
theorem b9a:∀ {cap:List (Str × Nat)} {n:Nat},(flC n cap).map (·.2)=cap.map (·.2)
 | [],_=>rfl
 | p :: r,n=>by unfold flC;rw [map_cons,map_cons,b9a]
def a1o(g:TDG)(tt:TDT)(te:TDE)(Q:List PyData->Rho->Prop):List PyData->Rho->List PyData->Prop
 | [],ρ,acc=>Q acc ρ
 | x :: r,ρ,acc=>g x ρ fun ρ1=>tt ρ1 fun b ρ2=>if b=true then te ρ2 fun y ρ3=>fz ρ3 y fun z ρ4=>a1o g tt te Q r ρ4 (acc ++ [z]) else a1o g tt te Q r ρ2 acc
def b5v(n:Nat)(cap:List (Str × Nat))(di:TDI)(g:TDG)(tt:TDT)(te:TDE):TDF:=fun ρ Q=>di ρ fun xs ρ1=>xs.length <= 1000000/\(cap.map (·.2)).Nodup/\a1o g tt te (fun acc ρ'=>Q acc (fills ρ' (flC n cap) ρ1)) xs (capR n cap ρ1) []
section
variable{K:W.Frag}{c:Rc}{O:Own}{ρ:Rho}{σ:St}{H H':Hp}{S S':Addr->Prop}
theorem c3o{l:L}:isOw (lend l)=isOw l:=by cases l<;>rfl
theorem c0v{n:Nat}{cap:List (Str × Nat)}{own:List Str}(hn:own.length=n)(R:Rel K c O ρ σ H)(nd:(cap.map (·.2)).Nodup):Begins K c O ρ σ H (a6f n cap) (capR n cap ρ) (a5q own cap σ):=by
 have at_:∀ {j:Nat} {l:L},(capR n cap ρ)[j]? = some (some l)->n <= j/\∃ p l0,cap[j - n]? = some p/\ρ[p.2]? = some (some l0)/\l=lend l0:=fun{j l} e=>by
  unfold capR at e
  by_cases hj:j < n
  ·rw [List.getElem?_append_left (by simpa using hj),List.getElem?_replicate,if_pos hj] at e;cases e
  ·rw [getElem?_append_right (by simpa using Nat.le_of_not_lt hj),length_replicate,getElem?_map] at e
   cases q:cap[j - n]? with
   | none=>rw [q] at e;cases e
   | some p =>
    rw [q] at e
    have e':(ρ[p.2]?.join).map lend=some l:=Option.some.inj e
    cases q2:ρ[p.2]?.join with
    | none=>rw [q2] at e';cases e'
    | some l0=>rw [q2] at e';cases e';exact⟨by omega,p,l0,rfl,a1r q2,rfl⟩
 have st:∀ {j:Nat} {p:Str × Nat},n <= j->cap[j - n]? = some p->(a5q own cap σ)[j]? = some (σ[p.2]?).join:=fun{j p} h1 h2=>by
  unfold a5q
  rw [getElem?_append_right (by simp;omega),length_replicate,hn,getElem?_map,h2];rfl
 refine⟨fun j l e ho=>?_,fun j x e=>?_,fun j e=>?_,fun j k i e1 e2=>?_,?_⟩
 ·obtain⟨h1,p,l0,h2,h3,h4⟩:=at_ e
  have ho':isOw l0=true:=by rw [h4,c3o] at ho;exact ho
  obtain⟨q,_,hq⟩:=R.ow h3 ho'
  refine⟨p.2,l0,?_,h3,ho',h4,?_⟩
  ·unfold a6f;rw [if_neg (by omega),h2];rfl
  ·rw [st h1 h2,hq];rfl
 ·obtain⟨h1,p,l0,h2,h3,h4⟩:=at_ e
  cases l0 with
  | d y =>
   cases h4
   obtain⟨v,e1,e2⟩:=R.dat _ _ h3
   exact⟨v,by rw [st h1 h2,e1];rfl,e2⟩
  | _=>cases h4
 ·obtain⟨h1,p,l0,h2,h3,h4⟩:=at_ e
  cases l0 with
  | scr=>rw [st h1 h2,R.scr _ h3];rfl
  | _=>cases h4
 ·unfold a6f at e1 e2
  split at e1
  ·cases e1
  ·split at e2
   ·cases e2
   ·rename_i h1 h2
    rw [← getElem?_map] at e1 e2
    obtain⟨a1,b1⟩:=List.getElem?_eq_some_iff.mp e1
    obtain⟨a2,b2⟩:=List.getElem?_eq_some_iff.mp e2
    have:=(List.getElem_inj nd).mp (b1.trans b2.symm)
    omega
 ·unfold a5q capR;simp [hn]
theorem b9b{n:Nat}{own:List Str}{cap:List (Str × Nat)}{wi:TI}{g:TG}{tt:TT}{te:TE}{di:TDI}{dg:TDG}{dt:TDT}{de:TDE}(hn:own.length=n)(hi:AdI K wi di)(hg:AdG K g dg)(ht:AdT K tt dt)(he:AdE K te de) :
  AdF K (b5o own cap wi g tt te) (b5v n cap di dg dt de):=by
 intro c O ρ σ H Qd Q R h k
 refine hi c O ρ σ H _ _ R h fun xs ρ1 O1 J H1 h1 R1 P1 I1 D hD=>?_
 obtain⟨hz,nd,hloop⟩:=h1
 have B:=c0v (own:=own) hn R1 nd
 generalize hOc:a0x O1 ρ1 (a6f n cap)=Oc
 have s0:=a0o hD (.lst [])
 obtain⟨R2,P2⟩:=R1.begin (b:=false) (P:=fun a=>a=D) B s0 (fun p e=>by subst e;exact⟨hD,by rw [a0c];exact fun z=>nomatch z⟩)
 rw [hOc] at R2 P2
 have lentM:∀ {b:Addr},(∃ j,Oc j=some b)->∃ vs,H1 b=some (.lst vs):=fun hq8=>by
  obtain⟨j,e⟩:=hq8
  rw [← hOc] at e
  obtain⟨i,_,_,_,_,hO⟩:=a1v e
  exact(R1.has i _ hO).2
 have nD:∀ j,Oc j ≠ some D:=fun j e=>by
  obtain⟨vs,q⟩:=lentM ⟨j,e⟩
  rw [hD] at q;cases q
 -- what holds between two turns
 let Jn:St->Hp->Own->Rho->List PyData->List V->Prop:=fun σ' H' O' ρ' acc ys=>Rel K (c.in O1 Oc (fun a=>a=D) false H') O' ρ' σ' H'/\H' D=some (.lst ys)/\a0b K H' (live (c.in O1 Oc (fun a=>a=D) false H') O') acc ys /\
  (∀ b o,(∀ j,Oc j ≠ some b)->b ≠ D->H1 b=some o->H' b=some o)/\Pers K (live c O1) H1 (live (c.in O1 Oc (fun a=>a=D) false H') O') H'
 refine⟨fun i m σ' H'=>m=xs.length - i/\i <= xs.length/\∃ O' ρ' acc ys,Jn σ' H' O' ρ' acc ys/\acc.length <= i/\a1o dg dt de (fun acc ρ'=>Qd acc (fills ρ' (flC n cap) ρ1)) (xs.drop i) ρ' acc,⟨xs.length,by simp,zero_le _,Oc,_,[],[],⟨R2,a0c,.nil,fun b o _ nb q=>by rw [a0d nb];exact q,P2⟩,le_refl _,by rw [List.drop_zero];exact hloop⟩,?_⟩
 rintro i m σ' H' ⟨rfl,hle,O',ρ',acc,ys,⟨R3,hDy,hacc,fr3,P3⟩,hal,q3⟩
 obtain⟨it,stop⟩:=I1 _ _ P3
 by_cases hlt:i < xs.length
 ·rw [drop_eq_getElem_cons hlt] at q3
  obtain⟨go,yld⟩:=it i xs[i] (getElem?_eq_getElem hlt)
  have q3':dg xs[i] ρ' fun ρ1'=>dt ρ1' fun b ρ2=>if b=true then de ρ2 fun y ρ3=>fz ρ3 y fun z ρ4=>a1o dg dt de (fun acc ρ'=>Qd acc (fills ρ' (flC n cap) ρ1)) (xs.drop (i + 1)) ρ4 (acc ++ [z]) else a1o dg dt de (fun acc ρ'=>Qd acc (fills ρ' (flC n cap) ρ1)) (xs.drop (i + 1)) ρ2 acc:=q3
  -- to the next turn, at a heap that differs from H4 at D alone
  have next:∀ (σ4:St) (H4 H5:Hp) (O4:Own) (ρ4:Rho) (acc':List PyData) (ys':List V),Rel K (c.in O1 Oc (fun a=>a=D) false H') O4 ρ4 σ4 H4->Pers K (live (c.in O1 Oc (fun a=>a=D) false H') O') H' (live (c.in O1 Oc (fun a=>a=D) false H') O4) H4 ->
    H5 D=some (.lst ys')->(∀ b,b ≠ D->H5 b=H4 b)->a0b K H4 (live (c.in O1 Oc (fun a=>a=D) false H') O4) acc' ys'->Jn σ4 H5 O4 ρ4 acc' ys':=fun σ4 H4 H5 O4 ρ4 acc' ys' R4 P4 h5 ne a4=>by
   have h4D:H4 D ≠ none:=R4.kept D (by show H' D ≠ none;rw [hDy];exact fun z=>nomatch z)
   have kp:Keep (live (c.in O1 Oc (fun a=>a=D) false H') O4) H4 H5:=by
    have hDl:∃ zs,H4 D=some (.lst zs):=⟨ys,R4.same D _ (fun hq8=>by obtain⟨j,e⟩:=hq8;exact nD j e) hDy⟩
    obtain⟨zs,hDl⟩:=hDl
    exact⟨fun b ws e=>by rw [ne b (b5l e hDl (by intro z;cases z))];exact e,fun b o u e=>by rw [ne b (b5l e hDl (by intro z;cases z))];exact e,fun b ws hl e=>by rw [ne b (fun z=>hl.2.1 z)];exact e⟩
   have hl:∀ a,live (c.in O1 Oc (fun a=>a=D) false H') O4 a->live (c.in O1 Oc (fun a=>a=D) false H5) O4 a:=fun a z=>z
   have P5:Pers K (live (c.in O1 Oc (fun a=>a=D) false H') O4) H4 (live (c.in O1 Oc (fun a=>a=D) false H5) O4) H5:=.of kp hl
   have inM:∀ i p,O4 i=some p->∃ j,Oc j=some p:=fun i p e=>by
    rcases (R4.has' i p e).1 with z | z
    ·exact z
    ·exact absurd z.1 Bool.false_ne_true
   refine⟨R4.to (fun _=>rfl) (fun _ _ _ z=>z) rfl rfl P5 (fun i p vs e q=>?_) (fun i p e _=>.inl (inM i p e)) (fun p z=>z.elim .inl fun w=>absurd w.1 Bool.false_ne_true) (fun p z=>?_) (fun b o _ z=>z) (fun b z=>z) (fun p z=>?_) (fun p z=>?_) (fun _=>rfl) (R4.sc.keep kp),h5,P5.all a4,fun b o n1 n2 q=>?_,(P3.trans P4).trans P5⟩
   ·obtain⟨j,ej⟩:=inM i p e
    rw [ne p (fun z=>nD j (by rw [← z];exact ej))];exact q
   ·have z':H5 p=none:=z
    have np:p ≠ D:=by rintro rfl;rw [h5] at z';cases z'
    rw [ne p np] at z'
    exact R4.frs p (R4.free0 z')
   ·obtain⟨j,ej⟩:=z
    obtain⟨vs,q⟩:=R4.ml p ⟨j,ej⟩
    exact⟨vs,by rw [ne p (fun w=>nD j (by rw [← w];exact ej))];exact q⟩
   ·rcases z with z | ⟨j,ej⟩
    ·rw [show p=D from z,h5];exact fun w=>nomatch w
    ·obtain⟨vs,q⟩:=R4.ml p ⟨j,ej⟩
     rw [ne p (fun w=>nD j (by rw [← w];exact ej)),q];exact fun w=>nomatch w
   ·rw [ne b n2]
    exact R4.same b o (fun hq8=>by obtain⟨j,e⟩:=hq8;exact n1 j e) (fr3 b o n1 n2 q)
  refine .inr ⟨go,fun σ'' H''=>∃ O'' ρ'' acc' ys',Jn σ'' H'' O'' ρ'' acc' ys'/\acc'.length <= i + 1/\a1o dg dt de (fun acc ρ'=>Qd acc (fills ρ' (flC n cap) ρ1)) (xs.drop (i + 1)) ρ'' acc',fun σ'' H'' hq8=>by obtain⟨O'',ρ'',acc',ys',a1,a2,a3⟩:=hq8;exact⟨xs.length - (i + 1),by omega,rfl,hlt,O'',ρ'',acc',ys',a1,a2,a3⟩,fun v H4 y=>?_⟩
  obtain⟨s4,a4⟩:=yld v H4 y
  refine hg _ O' ρ' σ' H4 xs[i] v _ _ (R3.grow s4) a4 q3' fun O5 ρ5 σ5 R5 P5 q5=>?_
  refine ht _ O5 ρ5 σ5 H4 _ _ R5 q5 fun b ρ6 O6 H6 q6 R6 P6=>?_
  have P06:=((Pers.same s4).trans P5).trans P6
  have dAt:∀ {O9:Own} {ρ9:Rho} {σ9:St} {H9:Hp},Rel K (c.in O1 Oc (fun a=>a=D) false H') O9 ρ9 σ9 H9->H9 D=some (.lst ys):=fun Rx=>Rx.same D _ (fun hq8=>by obtain⟨j,e⟩:=hq8;exact nD j e) hDy
  cases b with
  | false =>
   rw [if_neg Bool.false_ne_true] at q6 ⊢
   exact⟨O6,ρ6,acc,ys,next σ5 H6 H6 O6 ρ6 acc ys R6 P06 (dAt R6) (fun _ _=>rfl) (P06.all hacc),by omega,q6⟩
  | true =>
   rw [if_pos rfl] at q6 ⊢
   refine he _ O6 ρ6 σ5 H6 _ _ R6 q6 fun y ρ7 O7 u H7 q7 R7 P7 a7=>?_
   obtain⟨z,ρ8,O8,q8,R8,P8,a8⟩:=R7.fz a7 q7
   have P08:=(P06.trans P7).trans P8
   have accl:ys.length=acc.length:=hacc.length
   refine⟨ys,dAt R8,by rw [accl];exact mil (by omega),O8,ρ8,acc ++ [z],ys ++ [u],next σ5 H7 _ O8 ρ8 _ _ R8 P08 a0c (fun b nb=>a0d nb) ((P08.all hacc).snoc a8),by rw [length_append,List.length_singleton];omega,q8⟩
 ·have e:i=xs.length:=by omega
  subst e
  rw [List.drop_eq_nil_of_le (le_refl _)] at q3
  refine .inl ⟨stop,?_⟩
  have fr:∀ b o,(∀ j,a0x O1 ρ1 (a6f n cap) j ≠ some b)->H1 b=some o->H' b=some o:=fun b o n1 q=>fr3 b o (by rw [← hOc];exact n1) (a0v q hD) q
  have fp:=b1t R1 hD
  have hl:∀ a,live (c.in O1 Oc (fun a=>a=D) false H') O' a->live (c.add D) O1 a:=fun a z=>a9c z.1 z.2.1
  have hP:Pers K (live (c.in O1 Oc (fun a=>a=D) false H') O') H' (live (c.add D) O1) H':=.of (Keep.refl _ _) hl
  have hp:Pers K (live c O1) H1 (live (c.add D) O1) H':=P3.trans hP
  have hf:∀ j i,(j,i) ∈ flC n cap->a6f n cap j=some i:=fun j i m=>by
   obtain⟨h1,h2⟩:=b8z.mp m
   unfold a6f;rw [if_neg (by omega)];exact h2
  have hf':∀ j i,a6f n cap j=some i->(j,i) ∈ flC n cap:=fun j i e=>by
   unfold a6f at e
   split at e
   ·cases e
   ·exact b8z.mpr ⟨by omega,e⟩
  have Rn:Rel K (c.add D) O1 (fills ρ' (flC n cap) ρ1) σ H':=R1.finish (P':=fun a=>c.P a ∨ a=D) (by rw [b9a];exact nd) hf hf' R3 (fun j=>by rw [hOc];rfl) rfl rfl fr (fun j p e=>R3.ml p ⟨j,by rw [← hOc];exact e⟩) hP hp (fun q z=>z.elim .inl fun e=>.inr (by subst e;exact⟨by rw [hDy];exact(fun z=>nomatch z),fp.2.2.2⟩))
  exact k _ _ O1 D ys H' q3 Rn (P1.trans hp) fp hDy (hP.all hacc)
end
end L2
end
section
namespace L2
open PySem PySem.Spec PyProof.Rows
def DG(X:Cx)(target:Expr)(dg:TDG):Prop:=∃ g,PG X target g/\AdG X.K g dg
def DIf(X:Cx)(ifs:List Expr)(dt:TDT):Prop:=∃ t,PIf X ifs t/\AdT X.K t dt
section
variable{X:Cx}{st:Stmt}{rest:List Stmt}{e tg iter a b c:Expr}{es ifs:List Expr}{de da db dc:TDE}{df:TDF}{dt du:TDS}{dg:TDG}{dgs:TDGs}{di:TDI}{dtt:TDT}{daa:TDA}{pos:Pos}
theorem a1b:DSs X [] c0o:=⟨_,a5f,d0y⟩
theorem a0j(h1:DS X st dt)(h2:DSs X rest du):DSs X (st :: rest) (dSeq dt du):=by obtain⟨_,p,a⟩:=h1;obtain⟨_,p',a'⟩:=h2;exact⟨_,a0t p p',d5m a a'⟩
theorem a0q(h1:DS X st dt):DSs X [st] dt:=by obtain⟨_,p,a⟩:=h1;exact⟨_,a1i p,a⟩
theorem b0w(he:DE X e de)(hs:swapsWith e none pos.line X.env=pure false:=by rfl):DS X (.Expr e pos) (c0p de):=by obtain⟨_,p,a⟩:=he;exact⟨_,b8i p hs,d0z a⟩
theorem a1s(he:DE X e de):DS X (.Return (some e) pos) (dRet de):=by obtain⟨_,p,a⟩:=he;exact⟨_,a3n p,d5o a⟩
theorem a2f{c:Expr}{a b:List Stmt}(hc:DT X c dtt)(ha:DSs X a dt)(hb:DSs X b du):DS X (.If c a b pos) (dIf dtt dt du):=by obtain⟨_,p,a⟩:=hc;obtain⟨_,p',a'⟩:=ha;obtain⟨_,p2,a2⟩:=hb;exact⟨_,a8w p p' p2,ad_if a a' a2⟩
theorem a2a{i:Nat}{x:Str}{pos':Pos}(hN:X.N.Nodup)(hi:X.N[i]? = some x)(hx:Loc X.env.scope x)(he:DE X e de)(hs:swapsWith e (some (.Name x pos')) pos.line X.env=pure false:=by rfl)(hf:X.fn x=true ∨ X.env.scope.names.lookup x=some .local:=by first | exact .inl rfl | exact .inr rfl) :
  DS X (.Assign [.Name x pos'] e pos) (dSet i de):=by obtain⟨_,p,a⟩:=he;exact⟨_,a2g hN hi hx p hs hf,d5p a⟩
theorem b3m{i:Nat}{x:Str}{pos':Pos}(hN:X.N.Nodup)(hi:X.N[i]? = some x)(hx:Loc X.env.scope x)(he:DF X e df)(hs:swapsWith e (some (.Name x pos')) pos.line X.env=pure false:=by rfl)(hf:X.fn x=true ∨ X.env.scope.names.lookup x=some .local:=by first | exact .inl rfl | exact .inr rfl) :
  DS X (.Assign [.Name x pos'] e pos) (b5u i df):=by obtain⟨_,p,a⟩:=he;exact⟨_,a2g hN hi hx p hs hf,b8y a⟩
theorem a2o{i:Nat}{x:Str}(hN:X.N.Nodup)(hi:X.N[i]? = some x)(hx:Loc X.env.scope x)(hf:X.fn x=true ∨ X.env.scope.names.lookup x=some .local:=by first | exact .inl rfl | exact .inr rfl | assumption):DG X (.Name x pos) (b6s i):=⟨_,a7v hN hi hx hf,d1b⟩
theorem b1v(i:Nat){x:Str}{b:Expr}{p p2:Pos}(hN:X.N[i]? = some x)(hb:DE X b db)(he:DE X e de)(hv:Vis X.env.scope x:=by first | exact Or.inl rfl | exact Or.inr (Or.inl rfl) | exact Or.inr (Or.inr rfl)) (hd:(x == ("__debug__" : Str))=false:=by decide)
  (hcd:(x == ("__classdict__" : Str))=false:=by decide) (ha:∀ v,assign (.Subscript (.Name x p) b p2) X.env v=(do
   let ov ← holding [v] (eval (.Name x p) X.env)
   let iv ← holding [v,ov] (eval b X.env)
   standAt p2
   holding [v,ov,iv] (setItem ov iv v)
   release [v,ov,iv] []):=by intro _;rfl)
  (hs:swapsWithSole [.Subscript (.Name x p) b p2] e pos.line X.env=pure false:=by rfl) (hw:swappedStores [.Subscript (.Name x p) b p2] e X.env=pure none:=by rfl)
  (h1:(assignEach [.Subscript (.Name x p) b p2] X.env).map (·.2)=[assign (.Subscript (.Name x p) b p2) X.env]:=by rfl):DS X (.Assign [.Subscript (.Name x p) b p2] e pos) (b0a i db de):=by
 obtain⟨ti,pi,ai⟩:=hb
 obtain⟨te,pe,ae⟩:=he
 exact⟨_,c2p pe (c2o (a7t hN hv hd hcd) pi set_list ha) hs hw h1,c6n ai ae⟩
theorem c3p(i:Nat){x:Str}{p p2:Pos}(hN:X.N[i]? = some x)(he:DE X e de)(hv:Vis X.env.scope x:=by first | exact Or.inl rfl | exact Or.inr (Or.inl rfl) | exact Or.inr (Or.inr rfl)) (hd:(x == ("__debug__" : Str))=false:=by decide)
  (hcd:(x == ("__classdict__" : Str))=false:=by decide) (hs:starEach [e] X.env=[(false,eval e X.env)]:=by rfl)
  (hbase:attributeBase (.Name x p) "append" X.env (eval (.Name x p) X.env)=eval (.Name x p) X.env:=by rfl)
  (hfew:((backTo pos (starEach [e] X.env)).all (fun x=>!x.1) && (backToKw pos (keywordEach [] X.env)).all (fun x=>x.1.isSome)
   && decide (([e]:List Expr).length + ([]:List Keyword).length + (if ([]:List Keyword).isEmpty then 0 else 1) < 30))=true:=by rfl)
  (hline:(p2.endLine == pos.line)=true:=by rfl):DE X (.Call (.Attribute (.Name x p) "append" p2) [e] [] pos) (b3l i de):=by
 obtain⟨te,pe,ae⟩:=he
 exact⟨_,a7m PySem.F.plainAttrs_list PySem.F.slot_list_append PySem.F.type_list_append a9x (a7t hN hv hd hcd) (a0e pe a0l hs) hbase hfew hline hs rfl,c3k ae⟩
theorem b2r{body:List Stmt}(hp:PassesOwn (model X.prog X.w) X.A X.env X.xe)(hc:X.calm=true)(hi:DI X tg iter di)(hg:DG X tg dg)(hb:DSs X body dt)(hs:∀ x,foldedSetIterable iter X.env x=pure x:=by intro _;rfl):DS X (.For tg iter body [] pos) (dFor di dg dt):=
 by obtain⟨_,p,a⟩:=hi;obtain⟨_,p',a'⟩:=hg;obtain⟨_,p2,a2⟩:=hb;exact⟨_,d4q hp hc p p' p2 hs,d5s a a' a2⟩
theorem b6y(h:DE X e de):DI X tg e (c0s de):=by obtain⟨_,p,a⟩:=h;exact⟨_,d4z p,d5r a⟩
theorem a3s{p:Pos} (hg:Gl X "range") (hm:X.mg "range" = none) (ha:DE X a da) (hs:starEach [a] X.env=[(false,eval a X.env)]:=by rfl):DI X tg (.Call (.Name "range" p) [a] [] pos) (b6t da):=
 by obtain⟨_,p,a⟩:=ha;exact⟨_,c2q hg hm (a0e p a0l hs) hs,d1c a⟩
theorem a6t:DIf X [] (fun ρ Q=>Q true ρ):=⟨_,b0q,fun c O ρ σ H Qd Q R h k=>k _ _ _ _ h R .refl⟩
theorem b9c(h:DT X e dtt):DIf X [e] dtt:=by obtain⟨_,p,a⟩:=h;exact⟨_,d0q p,a⟩
end
def upE(K:W.Frag)(dt:TDE):TE:=fun σ H Q=>∃ c O ρ Qd,Rel K c O ρ σ H/\dt ρ Qd/\(∀ x ρ' O' v H',Qd x ρ'->Rel K c O' ρ' σ H'->Pers K (live c O) H (live c O') H'->AtV K (live c O') σ H' x v->Q v H')
def upT(K:W.Frag)(dt:TDT):TT:=fun σ H Q=>∃ c O ρ Qd,Rel K c O ρ σ H/\dt ρ Qd/\(∀ b ρ' O' H',Qd b ρ'->Rel K c O' ρ' σ H'->Pers K (live c O) H (live c O') H'->Q b H')
def upG(K:W.Frag)(dg:TDG):TG:=fun v σ H Q=>∃ c O ρ x Qd,Rel K c O ρ σ H/\AtD K H (live c O) x v/\dg x ρ Qd/\(∀ O' ρ' σ' ,Rel K c O' ρ' σ' H->Pers K (live c O) H (live c O') H->Qd ρ'->Q σ' H)
theorem c3q{K:W.Frag}{dt:TDE}:AdE K (upE K dt) dt:=fun c O ρ σ H Qd Q R h k=>⟨c,O,ρ,Qd,R,h,k⟩
theorem c3r{K:W.Frag}{dt:TDT}:AdT K (upT K dt) dt:=fun c O ρ σ H Qd Q R h k=>⟨c,O,ρ,Qd,R,h,k⟩
theorem c3s{K:W.Frag}{dg:TDG}:AdG K (upG K dg) dg:=fun c O ρ σ H x v Qd Q R a h k=>⟨c,O,ρ,x,Qd,R,a,h,k⟩
theorem DE.up{X:Cx}{e:Expr}{de:TDE}(h:DE X e de):PE X e (upE X.K de):=fun pins s σ H Q I q=>by
 obtain⟨t,p,a⟩:=h
 obtain⟨c,O,ρ,Qd,R,q,k⟩:=q
 exact p pins s σ H Q I (a c O ρ σ H Qd Q R q k)
theorem DIf.up{X:Cx}{e:List Expr}{de:TDT}(h:DIf X e de):PIf X e (upT X.K de):=fun pins s σ H Q I q=>by
 obtain⟨t,p,a⟩:=h
 obtain⟨c,O,ρ,Qd,R,q,k⟩:=q
 exact p pins s σ H Q I (a c O ρ σ H Qd Q R q k)
theorem DG.up{X:Cx}{e:Expr}{dg:TDG}(h:DG X e dg):PG X e (upG X.K dg):=fun pins s σ H v u Q I r q=>by
 obtain⟨t,p,a⟩:=h
 obtain⟨c,O,ρ,x,Qd,R,ax,q,k⟩:=q
 exact p pins s σ H v u Q I r (a c O ρ σ H x v Qd Q R ax q k)
section
variable{X:Cx}{elt tg iter:Expr}{ifs:List Expr}{scope:Scope}{pos:Pos}{own:List Str}{cap:List (Str × Nat)}{di:TDI}{dg:TDG}{dt:TDT}{de:TDE}
theorem a5n(own:List Str)(cap:List (Str × Nat))(hc:X.calm=true)(hok:a3l X scope own cap=true)(hnd:(scope.names.map (·.1)).Nodup)(hi:DI X tg iter di)
  (hg:∀ fp s2 H2,DG (cxC X scope own cap fp s2 H2) tg dg) (ht:∀ fp s2 H2,DIf (cxC X scope own cap fp s2 H2) ifs dt) (he:∀ fp s2 H2,DE (cxC X scope own cap fp s2 H2) elt de)
  (hs:∀ x,foldedSetIterable iter X.env x=pure x:=by intro _;rfl):DF X (.ListComp elt [⟨tg,iter,ifs,0⟩] scope pos) (b5v own.length cap di dg dt de):=by
 obtain⟨ti,pi,ai⟩:=hi
 exact⟨_,b3j hc hok hnd pi (fun a b c=>(hg a b c).up) (fun a b c=>(ht a b c).up) (fun a b c=>(he a b c).up) hs,b9b rfl ai c3s c3r c3q⟩
theorem d1e{i:Nat}{y:Str}{py spos:Pos}(hN:X.N.Nodup)(hi':X.N[i]? = some y)(hy:X.env.scope.names.lookup y=some .local)
  (own:List Str) (cap:List (Str × Nat)) (hc:X.calm=true) (hok:a3l X scope own cap=true) (hnd:(scope.names.map (·.1)).Nodup) (hi:DI X tg iter di)
  (hg:∀ fp s2 H2,DG (cxC X scope own cap fp s2 H2) tg dg) (ht:∀ fp s2 H2,DIf (cxC X scope own cap fp s2 H2) ifs dt) (he:∀ fp s2 H2,DE (cxC X scope own cap fp s2 H2) elt de)
  (hsw:swapsWith (.ListComp elt [⟨tg,iter,ifs,0⟩] scope pos) (some (.Name y py)) spos.line X.env=pure true:=by rfl)
  (hs:∀ x,foldedSetIterable iter X.env x=pure x:=by intro _;rfl):DS X (.Assign [.Name y py] (.ListComp elt [⟨tg,iter,ifs,0⟩] scope pos) spos) (b5u i (b5v own.length cap di dg dt de)):=by
 obtain⟨ti,pi,ai⟩:=hi
 exact⟨_,d0r hN hi' hy hc hok hnd pi (fun a b c=>(hg a b c).up) (fun a b c=>(ht a b c).up) (fun a b c=>(he a b c).up) hsw hs,b8y (b9b rfl ai c3s c3r c3q)⟩
end
section
variable{K:W.Frag}
def dIs(T:String)(de:TDE):TDE:=fun ρ Q=>de ρ fun x ρ1=>need (a0h ρ1 x) fun d=>Q (.d (.bool (isD T d))) ρ1
theorem ad_is{t:TE}{de:TDE}{T:String}(hT:a1j T=true)(h:AdE K t de):AdE K (tCB (fun xs H Q=>∃ v S d T,xs=[v,.ty T]/\AtD K H S d v/\a1j T=true/\Q (.bl (isD T d)) H) (a1l t (a1l (tC (.ty T)) tNil))) (dIs T de):=fun c O ρ σ H Qd Q R q k =>
 h c O ρ σ H _ _ R q fun x ρ1 O1 v H1 h1 R1 P1 a1=>by
  obtain⟨d,e1,h2⟩:=ne (h1)
  exact⟨v,Any,d,T,rfl,(R1.top a1 e1).any,hT,k _ _ _ _ _ h2 R1 P1 a5m⟩
end
theorem a4z{X:Cx}{e:Expr}{de:TDE}{x:Str}{T:String}{p p2 pos:Pos} (hg:Gl X "isinstance") (hm:X.mg "isinstance" = none) (hg2:Gl X x) (hm2:X.mg x=none) (hv:bootBuiltins x=some (.type T)) (hT:a1j T=true) (he:DE X e de) (hn:x ≠ "__name__":=by decide) (hd:(x == ("__debug__" : Str))=false:=by decide)
  (hs:starEach [e,.Name x p2] X.env=(false,eval e X.env) :: starEach [.Name x p2] X.env:=by rfl):DE X (.Call (.Name "isinstance" p) [e,.Name x p2] [] pos) (dIs T de):=by
 obtain⟨t,pe,ae⟩:=he
 exact⟨_,a2k c6h hg hm a3g (a0e pe (a0e (b5p hg2 hm2 hv hn hd) a0l) hs) (by decide) (by decide) hs rfl,ad_is hT ae⟩
end L2
end
section
namespace L2
open PySem PySem.Spec PyProof.Rows
noncomputable def fEqA(neg:Bool):F2:=fun x y=>if (a1a x && a1a y && scal (toV x) (toV y))=true then some (.bool (if neg then !decide (toV x=toV y) else decide (toV x=toV y))) else fEq neg x y
section
variable{K:W.Frag}
theorem a2b:AdR K (fun x y H Q=>rEq x y H Q ∨ rEqD K false x y H Q) (fEqA false):=by
 intro S H x y dx dy z Q f hx hy e k
 unfold fEqA at e
 split at e
 ·rename_i hc
  rw [and_eq_true,and_eq_true] at hc
  cases e
  obtain⟨e1,_⟩:=a6s (hx.at fun ds z=>by subst z;exact absurd hc.1.1 (by simp [a1a])) hc.1.1
  obtain⟨e2,_⟩:=a6s (hy.at fun ds z=>by subst z;exact absurd hc.1.2 (by simp [a1a])) hc.1.2
  rw [e1,e2]
  exact .inl ⟨hc.2,k _ _ (Same.refl _) (a0z _)⟩
 ·exact .inr (c9j S H x y dx dy z Q f hx hy e k)
theorem a8j:AdR K (fun x y H Q=>rNe x y H Q ∨ rEqD K true x y H Q) (fEqA true):=by
 intro S H x y dx dy z Q f hx hy e k
 unfold fEqA at e
 split at e
 ·rename_i hc
  rw [and_eq_true,and_eq_true] at hc
  cases e
  obtain⟨e1,_⟩:=a6s (hx.at fun ds z=>by subst z;exact absurd hc.1.1 (by simp [a1a])) hc.1.1
  obtain⟨e2,_⟩:=a6s (hy.at fun ds z=>by subst z;exact absurd hc.1.2 (by simp [a1a])) hc.1.2
  rw [e1,e2]
  exact .inl ⟨hc.2,k _ _ (Same.refl _) (a0z _)⟩
 ·exact .inr (c9j S H x y dx dy z Q f hx hy e k)
theorem a2c{X:Cx}(hu:X.A.units + 64 < cLine):OpR X (compareOp .Eq) (fun x y H Q=>rEq x y H Q ∨ rEqD X.K false x y H Q):=b0o.or (c3e hu)
theorem a8k{X:Cx}(hu:X.A.units + 64 < cLine):OpR X (compareOp .NotEq) (fun x y H Q=>rNe x y H Q ∨ rEqD X.K true x y H Q):=op_ne.or (c3f hu)
end
theorem c6r{neg:Bool}{x y:Str}:fEqA neg (.str x) (.str y)=some (.bool (if neg then !decide (x=y) else decide (x=y))):=by
 have e:decide (V.str x=V.str y)=decide (x=y):=by simp
 unfold fEqA
 rw [if_pos (show(a1a (.str x) && a1a (.str y) && scal (toV (.str x)) (toV (.str y)))=true from rfl)]
 show some (PyData.bool (if neg=true then !decide (V.str x=V.str y) else decide (V.str x=V.str y)))=_
 rw [e]
theorem c6s{neg:Bool}{x y:Int}:fEqA neg (.int x) (.int y)=some (.bool (if neg then !decide (x=y) else decide (x=y))):=by
 have e:decide (V.int x=V.int y)=decide (x=y):=by simp
 unfold fEqA
 rw [if_pos (show(a1a (.int x) && a1a (.int y) && scal (toV (.int x)) (toV (.int y)))=true from rfl)]
 show some (PyData.bool (if neg=true then !decide (V.int x=V.int y) else decide (V.int x=V.int y)))=_
 rw [e]
theorem c3t{neg:Bool}{x y:Bool}:fEqA neg (.bool x) (.bool y)=some (.bool (if neg then !decide (x=y) else decide (x=y))):=by
 have e:decide (V.bl x=V.bl y)=decide (x=y):=by simp
 unfold fEqA
 rw [if_pos (show(a1a (.bool x) && a1a (.bool y) && scal (toV (.bool x)) (toV (.bool y)))=true from rfl)]
 show some (PyData.bool (if neg=true then !decide (V.bl x=V.bl y) else decide (V.bl x=V.bl y)))=_
 rw [e]
theorem c9o{xs:List PyData}{i:Int}:fIx (.list xs) (.int i)=atI xs i:=rfl
theorem fIx_t{xs:List PyData}{i:Int}:fIx (.tuple xs) (.int i)=atI xs i:=rfl
theorem d5u{i j:Int}:fAdd (.int i) (.int j)=some (.int (i + j)):=rfl
theorem d5v{i j:Int}:fSub (.int i) (.int j)=some (.int (i - j)):=rfl
theorem d5w{p:Int->Int->Bool}{i j:Int}:fCmp p (.int i) (.int j)=some (.bool (p i j)):=rfl
theorem d5x{xs:List PyData}:fLen [.list xs]=some (.int xs.length):=rfl
theorem d5y{xs:List PyData}:fLen [.tuple xs]=some (.int xs.length):=rfl
theorem c6t{xs:List PyData}:b2m [.list xs]=some (.tuple xs):=rfl
theorem c6u{xs:List PyData}:b2m [.tuple xs]=some (.tuple xs):=rfl
theorem d1f{xs:List PyData}:b5r [.list xs]=some xs:=rfl
theorem d1g{xs:List PyData}:b5r [.tuple xs]=some xs:=rfl
theorem fIn_f{neg:Bool}{x:PyData}{xs:List PyData}(h:(a1a x && xs.all a1a)=true):fIn neg x (.tuple xs)=some (.bool (if neg then !inF x xs else inF x xs)):=by
 show(if a1a x && xs.all a1a then some (PyData.bool (if neg then !inF x xs else inF x xs)) else none)=_
 rw [if_pos h]
theorem d5z{neg:Bool}{x:PyData}{xs:List PyData}(h:(a1a x && xs.all a1a)=true):fIn neg x (.list xs)=some (.bool (if neg then !inF x xs else inF x xs)):=by
 show(if a1a x && xs.all a1a then some (PyData.bool (if neg then !inF x xs else inF x xs)) else none)=_
 rw [if_pos h]
theorem c3u{xs ys:List PyData}(h:xs.length + ys.length <= sizeLine):fCat (.list xs) (.list ys)=some (xs ++ ys):=by
 show(if xs.length + ys.length <= sizeLine then some (xs ++ ys) else none)=_
 rw [if_pos h]
theorem a3j{xs:List PyData}{i:Int}{k:PyData->Prop}(h0:0 <= i)(h1:i < xs.length)(h:∀ d,d ∈ xs->xs[i.toNat]? = some d->k d):need (atI xs i) k:=by
 obtain⟨x,e1,e2,e3⟩:=c3g h0 h1
 exact d0s e1 (h x e2 e3)
theorem b4n{α:Type}{xs r:List α}{i:Nat}{x:α}(h:xs.drop i=x :: r):xs[i]? = some x/\xs.drop (i + 1)=r:=by
 have hi:i < xs.length:=by
  by_cases h':i < xs.length
  ·exact h'
  ·rw [List.drop_eq_nil_of_le (by omega)] at h;cases h
 rw [drop_eq_getElem_cons hi] at h
 injection h with h1 h2
 exact⟨by rw [getElem?_eq_getElem hi,h1],h2⟩
theorem b6z{α:Type}{xs:List α}{i:Nat}(hi:i <= xs.length)(h:xs.drop i=[]):i=xs.length:=by
 have:=congrArg List.length h
 simp at this
 omega
theorem a9f{g:TDG}{b:TDS}{D:DEnds}{xs:List PyData}{ρ:Rho}(Pv:Nat->Rho->Prop)(h0:Pv 0 ρ)
  (hs:∀ (i:Nat) (x:PyData) (ρ:Rho) (N:Rho->Prop),xs[i]? = some x->Pv i ρ->(∀ ρ',Pv (i + 1) ρ'->N ρ')->g x ρ fun ρ1=>b { D with nx:=N,ct:=N,bk:=D.nx } ρ1)
  (hd:∀ ρ,Pv xs.length ρ->D.nx ρ):a4l g b D xs ρ:=by
 have key:∀ (r:List PyData) (i:Nat),i <= xs.length->xs.drop i=r->∀ ρ,Pv i ρ->a4l g b D r ρ:=fun r=>by
  induction r with
  | nil =>
   intro i hi e ρ p
   rw [b6z hi e] at p
   exact hd ρ p
  | cons x r ih =>
   intro i hi e ρ p
   obtain⟨e1,e2⟩:=b4n e
   have hlt:i < xs.length:=(List.getElem?_eq_some_iff.mp e1).1
   exact hs i x ρ _ e1 p fun ρ' p'=>ih (i + 1) hlt e2 ρ' p'
 exact key xs 0 (zero_le _) (by simp) ρ h0
theorem a9g{g:TDG}{tt:TDT}{te:TDE}{Q:List PyData->Rho->Prop}{xs:List PyData}{ρ:Rho}(Pv:Nat->Rho->List PyData->Prop)(h0:Pv 0 ρ [])
  (hs:∀ (i:Nat) (x:PyData) (ρ:Rho) (acc:List PyData) (N:Rho->List PyData->Prop),xs[i]? = some x->Pv i ρ acc->(∀ ρ' acc',Pv (i + 1) ρ' acc'->N ρ' acc') ->
   g x ρ fun ρ1=>tt ρ1 fun b ρ2=>if b=true then te ρ2 fun y ρ3=>fz ρ3 y fun z ρ4=>N ρ4 (acc ++ [z]) else N ρ2 acc)
  (hd:∀ ρ acc,Pv xs.length ρ acc->Q acc ρ):a1o g tt te Q xs ρ []:=by
 have key:∀ (r:List PyData) (i:Nat),i <= xs.length->xs.drop i=r->∀ ρ acc,Pv i ρ acc->a1o g tt te Q r ρ acc:=fun r=>by
  induction r with
  | nil =>
   intro i hi e ρ acc p
   rw [b6z hi e] at p
   exact hd ρ acc p
  | cons x r ih =>
   intro i hi e ρ acc p
   obtain⟨e1,e2⟩:=b4n e
   have hlt:i < xs.length:=(List.getElem?_eq_some_iff.mp e1).1
   exact hs i x ρ acc _ e1 p fun ρ' acc' p'=>ih (i + 1) hlt e2 ρ' acc' p'
 exact key xs 0 (zero_le _) (by simp) ρ [] h0
end L2
end
section
namespace L2
open PySem PySem.Spec PyProof.Rows
def later(u:TDS)(D:DEnds)(ρ:Rho):Prop:=u D ρ
theorem b9d{u:TDS}{D:DEnds}{ρ:Rho}(h:u D ρ):later u D ρ:=h
section
variable{t u b:TDS}{c tt:TDT}{D:DEnds}{ρ ρi:Rho}{i j n:Nat}{da db dc de te:TDE}{df:TDF}{daa:TDA}{f f':F2}{fl:F2L}{fc:FC}{fcl:FCL}{T:String}{dg g:TDG}{dgs:TDGs}{di:TDI}{x:PyData}{y:DV}{xs:List PyData}{ys:List DV}{fs:List Bool}{sp:DSp}
 {Q:DV->Rho->Prop} {QF:List PyData->Rho->Prop} {QB:Bool->Rho->Prop} {QA:List DV->Rho->Prop} {QR:RV->Rho->Prop} {QD:PyData->Rho->Prop} {N:Rho->Prop} {QL:L->Rho->Prop} {QLs:List L->Rho->Prop}
theorem d6a:dSeq t u D ρ=t { D with nx:=later u D } ρ:=rfl
theorem d1h:c0o D ρ=D.nx ρ:=rfl
theorem c6v:d5n D ρ=D.bk ρ:=rfl
theorem d1i:dCont D ρ=D.ct ρ:=rfl
theorem dIf_a:dIf c t u D ρ=c ρ fun b ρ1=>if b=true then t D ρ1 else u D ρ1:=rfl
theorem d1j:c0p de D ρ=de ρ fun _ ρ1=>D.nx ρ1:=rfl
theorem d6b:dRet de D ρ=de ρ fun x ρ1=>fz ρ1 x fun y ρ2=>D.rt (.d y) ρ2:=rfl
theorem d1k:dRetF df D ρ=df ρ fun xs ρ1=>D.rt (.new xs) ρ1:=rfl
theorem d1l:dRetN D ρ=D.rt (.d .none) ρ:=rfl
noncomputable def c3v:Option L->Option (List PyData)
 | some (.own xs)=>some xs
 | _=>none
theorem c6w:c3v (some (.own xs))=some xs:=rfl
theorem c3w:d1a i D ρ=need (c3v (ρ[i]?.join)) fun xs=>D.rt (.new xs) (ρ.set i none):=rfl
theorem d6c:dSet i de D ρ=de ρ fun x ρ1=>fz ρ1 x fun y ρ2=>i < ρ2.length/\D.nx (ρ2.set i (some (.d y))):=rfl
theorem d1m:b5u i df D ρ=df ρ fun xs ρ1=>i < ρ1.length/\D.nx (ρ1.set i (some (.own xs))):=rfl
theorem d6d:dAsg de dg D ρ=de ρ fun x ρ1=>fz ρ1 x fun y ρ2=>dg y ρ2 D.nx:=rfl
theorem d6e:dFor di dg b D ρ=di ρ fun xs ρ1=>a4l dg b D xs ρ1:=rfl
theorem d6f:dVar i ρ Q=((ρ[i]?.join).isSome=true/\Q (.sl i) ρ):=rfl
theorem dC_a:dC x ρ Q=Q (.d x) ρ:=rfl
theorem dOp_a:dOp f da db ρ Q=da ρ fun x ρ1=>db ρ1 fun y ρ2=>need (a0h ρ2 x) fun dx=>need (a0h ρ2 y) fun dy=>need (f dx dy) fun z=>Q (.d z) ρ2:=rfl
theorem d6g:dOpF fl da db ρ QF=da ρ fun x ρ1=>db ρ1 fun y ρ2=>need (a0h ρ2 x) fun dx=>need (a0h ρ2 y) fun dy=>need (fl dx dy) fun z=>QF z ρ2:=rfl
theorem dCB_a:dCB fc daa ρ Q=daa ρ fun xs ρ1=>need (a1f ρ1 xs) fun ds=>need (fc ds) fun z=>Q (.d z) ρ1:=rfl
theorem d6h:dCBF fcl daa ρ QF=daa ρ fun xs ρ1=>need (a1f ρ1 xs) fun ds=>need (fcl ds) fun z=>QF z ρ1:=rfl
theorem d6i:dTup daa ρ Q=daa ρ fun xs ρ1=>fzs ρ1 xs fun ys ρ2=>ys.length <= 1000000/\Q (.d (.tuple ys)) ρ2:=rfl
theorem d6j:dLst daa ρ QF=daa ρ fun xs ρ1=>fzs ρ1 xs fun ys ρ2=>ys.length <= 1000000/\QF ys ρ2:=rfl
theorem dFz_a:dFz df ρ Q=df ρ fun xs ρ1=>Q (.d (.list xs)) ρ1:=rfl
theorem d6k:dNil ρ QA=QA [] ρ:=rfl
theorem d1n:c0k de daa ρ QA=de ρ fun x ρ1=>daa ρ1 fun xs ρ2=>QA (x :: xs) ρ2:=rfl
theorem dB_a:dB de ρ QB=de ρ fun x ρ1=>need (a0h ρ1 x) fun d=>need (asB d) fun b=>QB b ρ1:=rfl
theorem d6l:dTru de ρ QB=de ρ fun x ρ1=>need (a0h ρ1 x) fun d=>need (tru d) fun b=>QB b ρ1:=rfl
theorem d6m{v w:TDT}:dAnd v w ρ QB=v ρ fun b ρ1=>if b=true then w ρ1 QB else QB false ρ1:=rfl
theorem dOr_a{v w:TDT}:dOr v w ρ QB=v ρ fun b ρ1=>if b=true then QB true ρ1 else w ρ1 QB:=rfl
theorem d6n{v:TDT}:dNot v ρ QB=v ρ fun b ρ1=>QB (!b) ρ1:=rfl
theorem d6o:dIfE c da db ρ Q=c ρ fun k ρ1=>if k=true then da ρ1 Q else db ρ1 Q:=rfl
theorem d1o:c0l da db ρ Q=da ρ fun x ρ1=>need (a0h ρ1 x) fun d=>need (asB d) fun k=>if k=true then db ρ1 Q else Q (.d (.bool false)) ρ1:=rfl
theorem d6p:dOrV da db ρ Q=da ρ fun x ρ1=>need (a0h ρ1 x) fun d=>need (asB d) fun k=>if k=true then Q (.d (.bool true)) ρ1 else db ρ1 Q:=rfl
theorem d1p:c0m da ρ Q=da ρ fun x ρ1=>need (a0h ρ1 x) fun d=>need (asB d) fun k=>Q (.d (.bool (!k))) ρ1:=rfl
theorem c6x:b6p f f' da db dc ρ Q=da ρ fun x ρ1=>db ρ1 fun y ρ2=>need (a0h ρ2 x) fun dx=>need (a0h ρ2 y) fun dy=>need (f dx dy) fun z=>need (asB z) fun k =>
 if k=true then dc ρ2 fun w ρ3=>need (a0h ρ3 y) fun dy=>need (a0h ρ3 w) fun dw=>need (f' dy dw) fun z'=>Q (.d z') ρ3 else Q (.d (.bool false)) ρ2:=rfl
theorem dIs_a:dIs T de ρ Q=de ρ fun x ρ1=>need (a0h ρ1 x) fun d=>Q (.d (.bool (isD T d))) ρ1:=rfl
noncomputable def a2u:Option L->Option (OK × List PyData)
 | some (.own xs)=>some (.o,xs)
 | some (.bor xs)=>some (.b,xs)
 | _=>none
theorem d6q:ownB ρ i=a2u (ρ[i]?.join):=rfl
theorem d1q:a2u (some (.own xs))=some (.o,xs):=rfl
theorem d1r:a2u (some (.bor xs))=some (.b,xs):=rfl
theorem okL_o:okL .o xs=.own xs:=rfl
theorem okL_b:okL .b xs=.bor xs:=rfl
theorem c3x:b3l i de ρ Q=need (a2u (ρ[i]?.join)) fun _=>de ρ fun x ρ1=>fz ρ1 x fun y ρ2=>need (a2u (ρ2[i]?.join)) fun o=>o.2.length <= 1000000/\Q (.d .none) (ρ2.set i (some (okL o.1 (o.2 ++ [y])))):=rfl
theorem d6r:dPop i ρ Q=need (a2u (ρ[i]?.join)) fun o=>need o.2.getLast? fun y=>Q (.d y) (ρ.set i (some (okL o.1 o.2.dropLast))):=rfl
theorem c6y:b0a i di' de D ρ=de ρ fun x ρ1=>fz ρ1 x fun y ρ2=>need (a2u (ρ2[i]?.join)) fun _=>di' ρ2 fun z ρ3=>need (a0h ρ3 z) fun dz=>need (b0a.asI dz) fun n=>need (a2u (ρ3[i]?.join)) fun o=>need (ixN o.2.length n) fun j=>D.nx (ρ3.set i (some (okL o.1 (o.2.set j y)))):=rfl
theorem d6s{n:Int}:b0a.asI (.int n)=some n:=rfl
theorem asI_i{n:Int}:asI (.int n)=some n:=rfl
theorem c6z:b6s i x ρ N=(i < ρ.length/\N (ρ.set i (some (.d x)))):=rfl
theorem d1s:dgTup n dgs (.tuple xs) ρ N=(xs.length=n/\dgs xs ρ N):=rfl
theorem c7a:d5q dg dgs (x :: xs) ρ N=dg x ρ fun ρ1=>dgs xs ρ1 N:=rfl
theorem d1t:c9n [] ρ N=N ρ:=by unfold c9n;simp
theorem d1u:c0s de ρ QF=de ρ fun x ρ1=>fz ρ1 x fun y ρ2=>need (seqD y) fun xs=>QF xs ρ2:=rfl
theorem c7b:b6t de ρ QF=de ρ fun x ρ1=>need (a0h ρ1 x) fun d=>need (asI d) fun j=>sm62 j/\QF (rngD 0 j.toNat) ρ1:=rfl
theorem c7c:b6x fs sp daa ρ Q=daa ρ fun xs ρ1=>pass fs xs ρ1 fun ls ρ2=>((flOf 0 fs xs).map (·.2)).Nodup/\sp ls fun r outs=>match r with
 | .d x=>Q (.d x) (fills outs (flOf 0 fs xs) ρ2)
 | .new ys=>Q (.d (.list ys)) (fills outs (flOf 0 fs xs) ρ2):=rfl
theorem c7d:d5t fs sp daa ρ QF=daa ρ fun xs ρ1=>pass fs xs ρ1 fun ls ρ2=>((flOf 0 fs xs).map (·.2)).Nodup/\sp ls fun r outs=>match r with
 | .d _=>False
 | .new ys=>QF ys (fills outs (flOf 0 fs xs) ρ2):=rfl
theorem d6t:pass [] [] ρ QLs=QLs [] ρ:=rfl
theorem d6u:pass (false :: fs) (y :: ys) ρ QLs=fzL ρ y fun l ρ1=>pass fs ys ρ1 fun ls ρ2=>QLs (l :: ls) ρ2:=by cases y<;>rfl
noncomputable def ioJ:Option L->Option L
 | some l=>if isOw l then some (lend l) else none
 | none=>none
theorem d6v:pass (true :: fs) (.sl i :: ys) ρ QLs=pass fs ys ρ fun ls ρ2=>need (ioJ (ρ2[i]?.join)) fun l=>QLs (l :: ls) ρ2:=rfl
theorem ioJ_o:ioJ (some (.own xs))=some (.bor xs):=rfl
theorem ioJ_b:ioJ (some (.bor xs))=some (.bor xs):=rfl
theorem ioJ_t:ioJ (some (.tape n))=some (.tape n):=rfl
def fzJ(l:Option L)(ρ:Rho)(i:Nat)(Q:PyData->Rho->Prop):Prop:=match l with
 | some (.d y)=>Q y ρ
 | some (.own xs)=>Q (.list xs) (ρ.set i (some (.d (.list xs))))
 | _=>False
theorem fz_d:fz ρ (.d x) QD=QD x ρ:=rfl
theorem fz_sl:fz ρ (.sl i) QD=fzJ (ρ[i]?.join) ρ i QD:=rfl
theorem fzJ_d:fzJ (some (.d x)) ρ i QD=QD x ρ:=rfl
theorem fzJ_o:fzJ (some (.own xs)) ρ i QD=QD (.list xs) (ρ.set i (some (.d (.list xs)))):=rfl
def fzLJ(l:Option L)(ρ:Rho)(i:Nat)(Q:L->Rho->Prop):Prop:=match l with
 | some (.d y)=>Q (.d y) ρ
 | some (.own xs)=>Q (.d (.list xs)) (ρ.set i (some (.d (.list xs))))
 | some .scr=>Q .scr ρ
 | _=>False
theorem fzL_d:fzL ρ (.d x) QL=QL (.d x) ρ:=rfl
theorem d6w:fzL ρ (.sl i) QL=fzLJ (ρ[i]?.join) ρ i QL:=rfl
theorem d6x:fzLJ (some (.d x)) ρ i QL=QL (.d x) ρ:=rfl
theorem d6y:fzLJ (some (.own xs)) ρ i QL=QL (.d (.list xs)) (ρ.set i (some (.d (.list xs)))):=rfl
theorem d6z:fzLJ (some .scr) ρ i QL=QL .scr ρ:=rfl
theorem fzs_n:fzs ρ [] QF=QF [] ρ:=rfl
theorem fzs_c:fzs ρ (y :: ys) QF=fz ρ y fun z ρ1=>fzs ρ1 ys fun zs ρ2=>QF (z :: zs) ρ2:=rfl
theorem d7a:flOf n [] ys=[]:=by cases ys<;>rfl
theorem d7b:flOf n (false :: fs) (y :: ys)=flOf (n + 1) fs ys:=by cases y<;>rfl
theorem d7c:flOf n (true :: fs) (.sl i :: ys)=(n,i) :: flOf (n + 1) fs ys:=rfl
noncomputable def a7f(l:Option L)(ρi:Rho)(j i:Nat)(ρ:Rho):Rho:=match l with
 | some l0=>if isOw l0 then ρ.set i (a4y ρi l0 j) else ρ
 | none=>ρ
theorem d1v:fills ρi [] ρ=ρ:=rfl
theorem d1w{r:List (Nat × Nat)}:fills ρi ((j,i) :: r) ρ=fills ρi r (a7f (ρ[i]?.join) ρi j i ρ):=rfl
theorem c7e:a7f (some (.own xs)) ρi j i ρ=ρ.set i ((ρi[j]?.join).bind (a6e (.own xs))):=rfl
theorem c7f:a7f (some (.bor xs)) ρi j i ρ=ρ.set i ((ρi[j]?.join).bind (a6e (.bor xs))):=rfl
theorem c7g:a7f (some (.tape n)) ρi j i ρ=ρ.set i ((ρi[j]?.join).bind (a6e (.tape n))):=rfl
theorem c7h:a7f (some (.d x)) ρi j i ρ=ρ:=rfl
theorem c7i:a7f (some .scr) ρi j i ρ=ρ:=rfl
theorem c7j:a7f none ρi j i ρ=ρ:=rfl
theorem d1x:a6e (.own xs) (.bor x')=some (.own x'):=rfl
theorem d1y:a6e (.bor xs) (.bor x')=some (.bor x'):=rfl
theorem d1z{m:Nat}:a6e (.tape n) (.tape m)=some (.tape m):=rfl
theorem d7d:lend (.own xs)=.bor xs:=rfl
theorem d7e:lend (.bor xs)=.bor xs:=rfl
theorem d7f:lend (.tape n)=.tape n:=rfl
theorem d7g:lend (.d x)=.d x:=rfl
theorem d7h:lend .scr=.scr:=rfl
theorem d2a{cap:List (Str × Nat)}:b5v n cap di g tt te ρ QF=di ρ fun xs ρ1=>xs.length <= 1000000/\(cap.map (·.2)).Nodup/\a1o g tt te (fun acc ρ'=>QF acc (fills ρ' (flC n cap) ρ1)) xs (capR n cap ρ1) []:=rfl
theorem flC_n:flC n []=[]:=rfl
theorem flC_c{p:Str × Nat}{r:List (Str × Nat)}:flC n (p :: r)=(n,p.2) :: flC (n + 1) r:=rfl
theorem d7i{cap:List (Str × Nat)}:capR n cap ρ=List.replicate n none ++ cap.map fun p=>(ρ[p.2]?.join).map lend:=rfl
theorem d2b:a0h ρ (.d x)=some x:=rfl
theorem c7k:a0h ρ (.sl i)=(ρ[i]?.join).bind a8g:=rfl
theorem c7l:a8g (.d x)=some x:=rfl
theorem c7m:a8g (.own xs)=some (.list xs):=rfl
theorem c7n:a8g (.bor xs)=some (.list xs):=rfl
theorem c7o:a1f ρ []=some []:=rfl
theorem c7p:a1f ρ (y :: ys)=(a0h ρ y).bind fun z=>(a1f ρ ys).map (z :: ·):=rfl
theorem asB_b{b:Bool}:asB (.bool b)=some b:=rfl
theorem tru_b{b:Bool}:tru (.bool b)=some b:=rfl
theorem tru_n:tru .none=some false:=rfl
theorem tru_i{i:Int}:tru (.int i)=some (i != 0):=rfl
theorem tru_l:tru (.list xs)=some (!xs.isEmpty):=rfl
theorem tru_t:tru (.tuple xs)=some (!xs.isEmpty):=rfl
theorem d7j:seqD (.list xs)=some xs:=rfl
theorem d7k:seqD (.tuple xs)=some xs:=rfl
theorem d7l:mask [] ρ=[]:=rfl
theorem d7m{ls:List L}{l:Option L}:mask (.d x :: ls) (l :: ρ)=none :: mask ls ρ:=rfl
theorem d7n{ls:List L}{l:Option L}:mask (.scr :: ls) (l :: ρ)=none :: mask ls ρ:=rfl
theorem d7o{ls:List L}{l:Option L}:mask (.tape n :: ls) (l :: ρ)=l :: mask ls ρ:=rfl
theorem d7p{ls:List L}{l:Option L}:mask (.bor xs :: ls) (l :: ρ)=l :: mask ls ρ:=rfl
end
end L2
namespace L2
open PySem
theorem a7g{g:TDG}{tt:TDT}{te:TDE}{Q:List PyData->Rho->Prop}{xs:List PyData}{ρ:Rho}(Sh:Rho->Prop)(fm:PyData->Option PyData)(h0:Sh ρ)
  (hs:∀ (x:PyData) (ρ:Rho) (N:Rho->Option PyData->Prop),x ∈ xs->Sh ρ->(∀ ρ',Sh ρ'->N ρ' (fm x))->g x ρ fun ρ1=>tt ρ1 fun b ρ2=>if b=true then te ρ2 fun y ρ3=>fz ρ3 y fun z ρ4=>N ρ4 (some z) else N ρ2 none)
  (hd:∀ ρ,Sh ρ->Q (xs.filterMap fm) ρ):a1o g tt te Q xs ρ []:=by
 have key:∀ (r:List PyData) (acc:List PyData) (ρ:Rho),(∀ x ∈ r,x ∈ xs)->Sh ρ->(∀ ρ,Sh ρ->Q (acc ++ r.filterMap fm) ρ)->a1o g tt te Q r ρ acc:=fun r=>by
  induction r with
  | nil=>intro acc ρ _ h hq;have:=hq ρ h;show Q acc ρ;simpa using this
  | cons x r ih =>
   intro acc ρ hm h hq
   have step:=hs x ρ (fun ρ' o=>match o with | some z=>a1o g tt te Q r ρ' (acc ++ [z]) | none=>a1o g tt te Q r ρ' acc) (hm x mem_cons_self) h fun ρ' h'=>?_
   ·exact step
   ·cases e:fm x with
    | none =>
     refine ih acc ρ' (fun y hy=>hm y (mem_cons_of_mem _ hy)) h' fun ρ2 h2=>?_
     have:=hq ρ2 h2
     rwa [List.filterMap_cons_none e] at this
    | some z =>
     refine ih (acc ++ [z]) ρ' (fun y hy=>hm y (mem_cons_of_mem _ hy)) h' fun ρ2 h2=>?_
     have:=hq ρ2 h2
     rw [List.filterMap_cons_some e] at this
     simpa using this
 exact key xs [] ρ (fun _ h=>h) h0 fun ρ h=>by simpa using hd ρ h
theorem b0x{c A B:Prop}[Decidable c](h1:c->A)(h2:¬ c->B):if decide c=true then A else B:=by
 by_cases h:c
 ·rw [if_pos (decide_eq_true h)];exact h1 h
 ·rw [if_neg (by simpa using h)];exact h2 h
theorem b7a{c A B:Prop}[Decidable c](h1:¬ c->A)(h2:c->B):if (!decide c)=true then A else B:=by
 by_cases h:c
 ·rw [if_neg (by simpa using h)];exact h2 h
 ·rw [if_pos (by simpa using h)];exact h1 h
theorem ite_b{b:Bool}{A B:Prop}(h1:b=true->A)(h2:b=false->B):if b=true then A else B:=by
 cases b
 ·rw [if_neg Bool.false_ne_true];exact h2 rfl
 ·rw [if_pos rfl];exact h1 rfl
end L2
namespace L2
end L2
end
section
namespace L2
open PySem PySem.Spec PyProof.Rows
abbrev TDO:=Rho->(Option Int->Rho->Prop)->Prop
section
variable{K:W.Frag}{c:Rc}{O:Own}{ρ:Rho}{σ:St}{H H':Hp}{S S':Addr->Prop}
def AdO(K:W.Frag)(t:TO)(dt:TDO):Prop:=∀ (c:Rc) (O:Own) (ρ:Rho) (σ:St) (H:Hp) (Qd:Option Int->Rho->Prop) (Q:Option Int->Hp->Prop),Rel K c O ρ σ H->dt ρ Qd ->
 (∀ o ρ' O' H',Qd o ρ'->Rel K c O' ρ' σ H'->Pers K (live c O) H (live c O') H'->Q o H')->t σ H Q
noncomputable def b7b:TDO:=fun ρ Q=>Q none ρ
def b7c(de:TDE):TDO:=fun ρ Q=>de ρ fun x ρ1=>need (a0h ρ1 x) fun d=>need (asI d) fun i=>Q (some i) ρ1
theorem d2c:AdO K b8p b7b:=fun c O ρ σ H Qd Q R h k=>k _ _ _ _ h R .refl
theorem d2d{t:TE}{de:TDE}(h:AdE K t de):AdO K (c9f t) (b7c de):=fun c O ρ σ H Qd Q R q k =>
 h c O ρ σ H _ _ R q fun x ρ1 O1 v H1 h1 R1 P1 a1=>by
  obtain⟨d,e1,hn6⟩:=ne (h1)
  obtain⟨i,e2,h2⟩:=ne (hn6)
  exact⟨i,b2p (R1.top a1 e1) e2,k _ _ _ _ h2 R1 P1⟩
noncomputable def cutD(xs:List PyData)(lo hi:Option Int):List PyData:=(xs.drop (HT.sIx xs.length 0 lo)).take (HT.sIx xs.length xs.length hi - HT.sIx xs.length 0 lo)
abbrev FSl:=PyData->Option Int->Option Int->Option PyData
def dSl(f:FSl)(de:TDE)(dl dh:TDO):TDE:=fun ρ Q=>de ρ fun x ρ1=>dl ρ1 fun lo ρ2=>dh ρ2 fun hi ρ3=>need (a0h ρ3 x) fun d=>need (f d lo hi) fun z=>Q (.d z) ρ3
def AdSl(K:W.Frag)(r:V->Option Int->Option Int->Hp->VK->Prop)(f:FSl):Prop:=∀ (S:Addr->Prop) (H:Hp) (x:V) (d z:PyData) (lo hi:Option Int) (Q:VK),Frs S H->AtT K H S d x->f d lo hi=some z->(∀ v H',Same H H'->AtD K H' S z v->Q v H')->r x lo hi H Q
theorem ad_sl{r:V->Option Int->Option Int->Hp->VK->Prop}{f:FSl}{te:TE}{tl th:TO}{de:TDE}{dl dh:TDO}(hr:AdSl K r f)(he:AdE K te de)(hl:AdO K tl dl)(hh:AdO K th dh):AdE K (tSl r te tl th) (dSl f de dl dh):=by
 intro c O ρ σ H Qd Q R h k
 refine he c O ρ σ H _ _ R h fun x ρ1 O1 v H1 h1 R1 P1 a1=>?_
 refine hl c O1 ρ1 σ H1 _ _ R1 h1 fun lo ρ2 O2 H2 h2 R2 P2=>?_
 refine hh c O2 ρ2 σ H2 _ _ R2 h2 fun hi ρ3 O3 H3 h3 R3 P3=>?_
 obtain⟨d,e1,hn5⟩:=ne (h3)
 obtain⟨z,e2,h4⟩:=ne (hn5)
 refine hr (live c O3) H3 v d z lo hi Q R3.frsLive (R3.top ((a1.pers P2).pers P3) e1) e2 fun w H4 s4 a4=>?_
 exact k _ _ _ _ _ h4 (R3.grow s4) (((P1.trans P2).trans P3).trans (.same s4)) a4
noncomputable def fTab(tab:List (Str × PyData)):PyData->Option PyData
 | .str x=>tab.lookup x
 | _=>none
def dTab(tab:List (Str × PyData))(de:TDE):TDE:=fun ρ Q=>de ρ fun x ρ1=>need (a0h ρ1 x) fun d=>need (fTab tab d) fun z=>Q (.d z) ρ1
def c0w(de:TDE):TDI:=fun ρ Q=>de ρ fun x ρ1=>need (a0h ρ1 x) fun d=>need (asT d) fun xs=>Q xs.reverse ρ1
 where asT:PyData->Option (List PyData)
  | .tuple xs=>some xs
  | _=>none
noncomputable def c9p(hi:Int)(n:Nat):List PyData:=(List.range n).map fun i=>.int (hi - (i:Nat))
def sm60(i:Int):Prop:=-(2 ^ 60) <= i/\i < 2 ^ 60
def b7d(da:TDA):TDI:=fun ρ Q=>da ρ fun xs ρ1=>need (a1f ρ1 xs) fun ds=>need (three ds) fun p=>(sm60 p.1/\sm60 p.2)/\Q (c9p p.1 (p.1 - p.2).toNat) ρ1
 where three:List PyData->Option (Int × Int)
  | [.int i,.int j,.int (-1)]=>some (i,j)
  | _=>none
def dNeg(de:TDE):TDE:=fun ρ Q=>de ρ fun x ρ1=>need (a0h ρ1 x) fun d=>need (asI d) fun i=>Q (.d (.int (-i))) ρ1
end
section
variable{X:Cx}{e a b:Expr}{de da db:TDE}{lo hi:Option Expr}{dl dh:TDO}{tg:Expr}{pos p2:Pos}
def DO(X:Cx)(e:Option Expr)(dt:TDO):Prop:=∃ t,PO X e t/\AdO X.K t dt
theorem b9e:DO X none b7b:=⟨_,d0n,d2c⟩
theorem b9f(h:DE X e de):DO X (some e) (b7c de):=by obtain⟨_,p,a⟩:=h;exact⟨_,d0o p,d2d a⟩
theorem b7e{r:V->Option Int->Option Int->Hp->VK->Prop}{f:FSl}(hr:SlR X r)(ha:AdSl X.K r f)(he:DE X e de)(hl:DO X lo dl)(hu:DO X hi dh):DE X (.Subscript e (.Slice lo hi none p2) pos) (dSl f de dl dh):=
 by obtain⟨_,p,a⟩:=he;obtain⟨_,p',a'⟩:=hl;obtain⟨_,p3,a3⟩:=hu;exact⟨_,c6d hr p p' p3,ad_sl ha a a' a3⟩
end
section
variable{ρ:Rho}{de:TDE}{daa:TDA}{dl dh:TDO}{f:FSl}{tab:List (Str × PyData)}{Q:DV->Rho->Prop}{QF:List PyData->Rho->Prop}{QO:Option Int->Rho->Prop}{xs:List PyData}{x:Str}{i j:Int}
theorem dSl_a:dSl f de dl dh ρ Q=de ρ fun x ρ1=>dl ρ1 fun lo ρ2=>dh ρ2 fun hi ρ3=>need (a0h ρ3 x) fun d=>need (f d lo hi) fun z=>Q (.d z) ρ3:=rfl
theorem c7q:b7b ρ QO=QO none ρ:=rfl
theorem c7r:b7c de ρ QO=de ρ fun x ρ1=>need (a0h ρ1 x) fun d=>need (asI d) fun i=>QO (some i) ρ1:=rfl
theorem d7q:dTab tab de ρ Q=de ρ fun x ρ1=>need (a0h ρ1 x) fun d=>need (fTab tab d) fun z=>Q (.d z) ρ1:=rfl
theorem d7r:fTab tab (.str x)=tab.lookup x:=rfl
theorem d2e:c0w de ρ QF=de ρ fun x ρ1=>need (a0h ρ1 x) fun d=>need (c0w.asT d) fun xs=>QF xs.reverse ρ1:=rfl
theorem asT_t:c0w.asT (.tuple xs)=some xs:=rfl
theorem c7s:b7d daa ρ QF=daa ρ fun xs ρ1=>need (a1f ρ1 xs) fun ds=>need (b7d.three ds) fun p=>(sm60 p.1/\sm60 p.2)/\QF (c9p p.1 (p.1 - p.2).toNat) ρ1:=rfl
theorem d2f:b7d.three [.int i,.int j,.int (-1)]=some (i,j):=rfl
theorem d7s:dNeg de ρ Q=de ρ fun x ρ1=>need (a0h ρ1 x) fun d=>need (asI d) fun i=>Q (.d (.int (-i))) ρ1:=rfl
end
end L2
namespace L2
open PySem
end L2
end
section
namespace L2
open PySem PySem.Spec PyProof.Rows
section
variable{α:Type}{a b c d e:α}{l:List α}{x y:Str}{i j:Int}{r:List PyData}
theorem c0x:atI (a :: l) 0=some a:=a2l (j:=0) rfl
theorem atI_1:atI (a :: b :: l) 1=some b:=a2l (j:=1) rfl
theorem atI_2:atI (a :: b :: c :: l) 2=some c:=a2l (j:=2) rfl
theorem atI_3:atI (a :: b :: c :: d :: l) 3=some d:=a2l (j:=3) rfl
theorem atI_4:atI (a :: b :: c :: d :: e :: l) 4=some e:=a2l (j:=4) rfl
theorem d2g:a1a (.str x)=true:=rfl
theorem d2h:a1a (.int i)=true:=rfl
theorem d2i{z:PyData}:inF z []=false:=rfl
theorem inF_s:inF (.str x) (.str y :: r)=(decide (y=x) || inF (.str x) r):=by
 show((y == x) || inF (.str x) r)=_
 congr 1
theorem inF_i:inF (.int i) (.int j :: r)=(decide (j=i) || inF (.int i) r):=by
 show((j == i) || inF (.int i) r)=_
 congr 1
end
end L2
namespace L2
open PySem PySem.Spec PyProof.Rows
def b5w(K:W.Frag):Sp:=fun vs H Q _=>∃ (a:Addr) (ns:List Int),vs=[.ref a]/\SqL K H a (ns.map V.int)/\((∀ xs,H a ≠ some (.lst xs))/\TB K H)/\ns.length <= 63/\∀ H',Q (.bl true) H'
section
variable{P:Program}{w:World}{K:W.Frag}{mg:Str->Option Value}{base:Heap}
theorem d2j{H:Hp}{a p:Addr}{ns:List Int}{n:Nat}(hO:(∀ xs,H a ≠ some (.lst xs))/\TB K H)(hS:SqL K H a (ns.map V.int))(hl:ns.length <= 63)(hp:H p=none) :
  Rel K { H0:=upd H p (.lst [.ref a,.int 0]),S:=fun b=>b ≠ p,P:=fun _=>False,M:=fun b=>b=p,A:=fun b=>b=p ∨ upd H p (.lst [.ref a,.int 0]) b=none,B:=fun b=>b=p,lent:=fun i=>if i=1 then some p else none,sa:=a,ns:=ns }
   (fun i=>if i=1 then some p else none) (some .scr :: some (.tape 0) :: List.replicate n none) (some (.ref a) :: some (.ref p) :: List.replicate n none) (upd H p (.lst [.ref a,.int 0])):=by
 have at_:∀ {i:Nat} {l:L},(some L.scr :: some (L.tape 0) :: List.replicate n none:Rho)[i]? = some (some l)->(i=0/\l=.scr) ∨ (i=1/\l=.tape 0):=fun{i l} e=>by
  match i,e with
  | 0,e=>cases e;exact .inl ⟨rfl,rfl⟩
  | 1,e=>cases e;exact .inr ⟨rfl,rfl⟩
  | i + 2,e =>
   rw [List.getElem?_cons_succ,List.getElem?_cons_succ,List.getElem?_replicate] at e
   split at e<;>cases e
 have own:∀ {i:Nat} {q:Addr},(if i=1 then some p else none)=some q->i=1/\q=p:=fun{i q} e=>by
  split at e
  ·cases e;exact⟨by assumption,rfl⟩
  ·cases e
 have sc:Scr K H a (ns.map V.int):=by
  refine⟨hO.2,by simpa using hl,?_⟩
  rcases hS with(h | h) | h
  ·exact absurd h (hO.1 _)
  ·exact .inl h
  ·exact .inr h
 refine⟨fun i x e=>?_,fun i x e=>?_,fun i x e=>?_,fun i k e=>?_,fun i e=>?_,fun i j q e1 e2=>?_,fun i q e=>?_,fun q h=>?_,fun q h=>?_,fun b o _ h=>h,fun b h=>h,fun q h=>?_,fun q h=>?_,fun i q e l h1 h2=>e,sc.keep (S:=Any) (a0o hp _).keep,by simp⟩
 ·rcases at_ e with⟨_,z⟩ | ⟨_,z⟩<;>cases z
 ·rcases at_ e with⟨_,z⟩ | ⟨_,z⟩<;>cases z
 ·rcases at_ e with⟨_,z⟩ | ⟨_,z⟩<;>cases z
 ·rcases at_ e with⟨_,z⟩ | ⟨rfl,z⟩
  ·cases z
  ·cases z;exact⟨p,if_pos rfl,rfl,a0c⟩
 ·rcases at_ e with⟨rfl,_⟩ | ⟨_,z⟩
  ·rfl
  ·cases z
 ·rw [(own e1).1,(own e2).1]
 ·rw [(own e).2];exact⟨.inl rfl,_,a0c⟩
 ·rcases h with h | h
  ·exact .inl h
  ·exact .inr h
 ·rintro rfl
  have h':upd H q (.lst [.ref a,.int 0]) q=none:=h
  rw [a0c] at h';cases h'
 ·have h':q=p:=h
  subst h';exact⟨_,a0c⟩
 ·rcases h with h | h
  ·exact h.elim
  ·have h':q=p:=h
   subst h';rw [a0c];exact fun z=>nomatch z
theorem Fun.law{st:Stmt}{f:Addr}{fd:FuncData}{N':List Str}{k:Nat} (F:Fun K "law" "law" st f fd) (S:FnScope ("_law_script" :: "_law_tape" :: N') ["_law_script"] (a0g st))
  (hbody:∀ (cdv:Value) (A:Around) (outer:List Env) (s:Shared) (H:Hp) (E:XK),Room k (A.deeper (envOfC "law" (a0g st) s.heap.objs.size f cdv)) ->
   ∃ (st0:Stmt) (rest:List Stmt),a1q st=st0 :: rest/\PS (cxOf CX0 P w K mg base ("_law_script" :: "_law_tape" :: N') "law" (a0g st) f cdv A outer s H E).nox st0 (tAsg (tLst (a1l (tVar 0) (a1l (tC (.int 0)) tNil))) (a4v 1)) /\
    ∃ dt,DSs (cxOf CX0 P w K mg base ("_law_script" :: "_law_tape" :: N') "law" (a0g st) f cdv A outer s H E).nox rest dt/\dt { nx:=fun _=>False,rt:=fun r _=>r=.d (.bool true) } (some .scr :: some (.tape 0) :: List.replicate N'.length none)) :
  FnOk P w K mg base CX0 (k + 1) f fd ["_law_script"] (b5w K):=by
 refine F.ok S (fun vs H Q E h=>?_) (fun cdv A outer s H vs Q E hr h=>?_)
 ·obtain⟨a,ns,rfl,_⟩:=h;rfl
 obtain⟨a,ns,rfl,hS,hO,hl,q⟩:=h
 obtain⟨st0,rest,eb,p0,dt,⟨t,pt,at_⟩,hd⟩:=hbody cdv A outer s H E hr
 rw [eb]
 refine⟨_,a0t p0 pt,⟨.ref a,rfl,by show 2 <= sizeLine;decide,fun p hp=>?_⟩⟩
 have e:(start ("_law_script" :: "_law_tape" :: N') [.ref a]).set 1 (some (.ref p))=some (.ref a) :: some (.ref p) :: List.replicate N'.length none:=by
  unfold start
  simp [List.replicate_succ]
 show t _ ((start ("_law_script" :: "_law_tape" :: N') [.ref a]).set 1 (some (.ref p))) (upd H p (.lst [.ref a,.int 0]))
 rw [e]
 refine at_ _ _ _ _ _ _ _ (d2j hO hS hl hp) ⟨fun _ _ _ _ _ _ z=>(show False from z).elim,fun r O1 ρ1 σ1 H1 v h z=>?_,fun _ _ _ _ _ _ z=>(show False from z).elim,fun _ _ _ _ _ _ z=>(show False from z).elim,fun _ z=>z,fun _ z=>.inr z⟩ hd
 have z':r=.d (.bool true):=z
 subst z'
 have ev:=a5k h.2
 subst ev
 exact q H1
end
end L2
end
section
namespace L2
open PySem PySem.Spec PyProof.Rows
section
variable{P:Program}{w:World}{K:W.Frag}{mg:Str->Option Value}{base:Heap}
theorem d2k{n:Nat}{f:Addr}{fd:FuncData}{ps:List Str}{ds:DSp}(h:∀ ls Q,¬ ds ls Q):FnOk P w K mg base CX0 n f fd ps (spD K ds):=by
 have no:∀ vs H Q E,¬ spD K ds vs H Q E:=fun vs H Q E z=>by
  obtain⟨c,O,ls,Qd,_,_,_,_,_,_,z,_⟩:=z
  exact h _ _ z
 exact⟨fun vs H Q E h=>absurd h (no vs H Q E),fun A outer s H args us vs Q E _ _ _ _ h=>absurd h (no vs H Q E)⟩
end
end L2
end
section
namespace L2
open PySem PySem.Spec PyProof.Rows
def ItX(b:Bool)(h:Heap)(it a:Addr)(k:Nat):Prop:=match b with | true=>h.IsListIter it a k | false=>h.IsTupleIter it a k
def SqX(b:Bool)(h:Heap)(a:Addr)(xs:Array Value):Prop:=match b with | true=>h.IsList a xs | false=>h.IsTuple a xs
section
variable{prog:Program}{w:World}{A:Around}{E:Value->Shared->Prop}{s:Shared}
end
section
variable{X:Cx}{pins:List (Addr × Obj)}{σ:List (Option V)}{H H':Hp}{s:Shared}{h':Heap}
theorem Inv.turnedL{t':Nat}{ch:List Addr}(I:Inv X pins σ H s)(k:∀ b o,b ∉ ch->s.heap.get? b=some o->h'.get? b=some o)(hf:∀ b ∈ ch,FpOk X pins H b):Inv X pins σ H { s with heap:=h',toks:=t' }:=by
 have nit:∀ b u,H b=some u->b ∉ ch:=fun b u e z=>by have:=(hf b z).1;rw [e] at this;cases this
 have nl:X.env.locals ∉ ch:=fun z=>(hf _ z).2.1 rfl
 refine I.step (g':=s.gens) (d':=s.drawn) (ch:=ch) (fun b hb=>⟨(hf b hb).2.2.2.1,(hf b hb).2.1,(hf b hb).2.2.2.2.1,(hf b hb).2.2.2.2.2⟩) (fun b o _ _ hc e _=>k b o hc e) (fun b o _ _ hc e _=>⟨o.slots,k b o hc e⟩) (fun _ _ _ _ n=>n)
  (fun b o hc e=>⟨o,k b o hc e⟩) (fun _ _ e=>e) (fun _ _ _ e=>e) (fun b ps e=>⟨#[],by rw [e];simp⟩) (fun m hm=>?_) (fun b u e=>?_) I.bare
 ·obtain⟨o,es,ep,ho,r⟩:=hm
  exact⟨o,es,ep,k _ o nl ho,r⟩
 ·refine(I.hok b u e).stay (fun c v hc q=>k c v ?_ q) (fun _ q=>q) (fun _ _ q=>q) fun _ _ _ q=>q
  rcases hc with z | z
  ·rw [z];exact nit b u e
  ·exact nit c _ z
def SqB(b:Bool)(K:W.Frag)(H:Hp)(a:Addr)(xs:List V):Prop:=match b with | true=>SqL K H a xs | false=>SqT K H a xs
end
end L2
end
section
namespace L2
open PySem PySem.Spec PyProof.Rows
section
variable{X:Cx}
end
section
variable{K:W.Frag}{S:Addr->Prop}{H:Hp}
noncomputable def zipP(xs ys:List PyData):List PyData:=List.zipWith (fun x y=>.tuple [x,y]) xs ys
noncomputable def zipD:List PyData->Option (List PyData)
 | [.list xs,.list ys]=>if xs.length=ys.length then some (zipP xs ys) else none
 | [.tuple xs,.tuple ys]=>if xs.length=ys.length then some (zipP xs ys) else none
 | _=>none
def SqS(b:Bool)(K:W.Frag)(S:Addr->Prop)(H:Hp)(a:Addr)(vs:List V):Prop:=match b with | true=>S a/\H a=some (.lst vs) | false=>SqT K H a vs
def diZip(da:TDA):TDI:=fun ρ Q=>da ρ fun xs ρ1=>fzs ρ1 xs fun ds ρ2=>need (zipD ds) fun zs=>Q zs ρ2
end
section
variable{ρ:Rho}{daa:TDA}{Q:List PyData->Rho->Prop}
theorem d2l:diZip daa ρ Q=daa ρ fun xs ρ1=>fzs ρ1 xs fun ds ρ2=>need (zipD ds) fun zs=>Q zs ρ2:=rfl
end
end L2
end
section
namespace L2
open PySem PySem.Spec PyProof.Rows
section
variable{X:Cx}
theorem kit2(K:W.Frag)(d:PyData)(T U:String)(hT:a1j T=true)(hU:a1j U=true):PySem.W.kitAny K (.type (tyD d)) [.type T,.type U]=some (isD T d || isD U d):=by
 have e1:=b6l K d T hT
 have e2:=b6l K d U hU
 simp only [PySem.W.kitAny,e1,e2]
 cases isD T d<;>cases isD U d<;>rfl
theorem c3y{pins:List (Addr × Obj)}{s:Shared}{σ:St}{H:Hp}{S:Addr->Prop}{d:PyData}{v:V}{u:Value}{tp:Addr}{T U:String}{Q:VK}(I:Inv X pins σ H s)(h:AtD X.K H S d v)(r:RelV v u)(ht:SqT X.K H tp [.ty T,.ty U])
  (hT:a1j T=true) (hU:a1j U=true) (q:Q (.bl (isD T d || isD U d)) H):wpAny (model X.prog X.w) X.A (call (.builtin "isinstance") [u,.ref tp]) (EP X pins σ Q) X.xe s:=by
 obtain⟨its,rv,⟨⟨oc,od,odt,osl⟩,e,hc,n,hd⟩,_⟩:=I.tuple ht
 obtain⟨t1,t2,rfl,q1,q2⟩:=rv.two
 cases q1;cases q2
 simp only at hc hd
 subst hc;subst hd
 have fin:∀ tk,EP X pins σ Q (.bool (isD T d || isD U d)) { s with toks:=tk }:=fun tk=>⟨.bl _,H,I.tok tk,rfl,q⟩
 have k2:=kit2 X.K d T U hT hU
 cases d with
 | none=>cases a8c h;cases r;exact PySem.W.kia_tup PySem.W.kitx_none I.kIn True.intro e k2 (fun z=>nomatch z) fin
 | bool b=>cases a5k h;cases r;exact PySem.W.kia_tup PySem.W.kitx_bool I.kIn True.intro e k2 (fun z=>nomatch z) fin
 | int i=>cases a8d h;obtain⟨t,rfl⟩:=r;exact PySem.W.kia_tup PySem.W.kitx_int I.kIn True.intro e k2 (fun z=>nomatch z) fin
 | str x=>cases a8e h;obtain⟨t,rfl⟩:=r;exact PySem.W.kia_tup PySem.W.kitx_str I.kIn True.intro e k2 (fun z=>nomatch z) fin
 | list ds =>
  obtain⟨a,xs,rfl,_,hq,_⟩:=a3r h
  cases r
  obtain⟨its,_,⟨o,n,e',hc,_,hd⟩,_⟩:=I.list (SqL.of hq)
  exact PySem.W.kia_tup PySem.W.kitx_list I.kIn ⟨o,e',hc⟩ e k2 (fun z=>nomatch z) fin
 | tuple ds =>
  obtain⟨a,xs,rfl,hq,_⟩:=a5v h
  cases r
  obtain⟨its,_,⟨o,e',hc,n,hd⟩,_⟩:=I.tuple hq
  exact PySem.W.kia_tup PySem.W.kitx_tuple I.kIn ⟨o,e',hc⟩ e k2 (fun z=>nomatch z) fin
 | dict kvs =>
  obtain⟨a,ν,rfl,_,hq,_⟩:=a6r h
  cases r
  obtain⟨_,_,vs,kv,o,es,ep,e',hc,hd,_,hp,_⟩:=(show a1k X.prog X.w H s.heap a (.dK ν) from I.hok a _ hq)
  exact PySem.W.kia_tup PySem.W.kitx_dict I.kIn ⟨o,e',hc.1⟩ e k2 (fun z=>nomatch z) fin
noncomputable def rIs2(K:W.Frag):List V->Hp->VK->Prop:=fun xs H Q=>∃ v S d tp T U,xs=[v,.ref tp]/\AtD K H S d v/\SqT K H tp [.ty T,.ty U]/\a1j T=true/\a1j U=true/\Q (.bl (isD T d || isD U d)) H
theorem c3z:a1x X (.builtin "isinstance") (rIs2 X.K):=by
 intro pins s σ H xs us Q I rs h
 obtain⟨v,S,d,tp,T,U,rfl,hd,ht,hT,hU,q⟩:=h
 obtain⟨u,u2,rfl,r1,r2⟩:=rs.two
 cases r2
 exact c3y I hd r1 ht hT hU q
end
section
variable{K:W.Frag}
def dIs2(T U:String)(de:TDE):TDE:=fun ρ Q=>de ρ fun x ρ1=>need (a0h ρ1 x) fun d=>Q (.d (.bool (isD T d || isD U d))) ρ1
theorem d7t{t:TE}{de:TDE}{T U:String}(hT:a1j T=true)(hU:a1j U=true)(h:AdE K t de):AdE K (tCB (rIs2 K) (a1l t (a1l (tTup (a1l (tC (.ty T)) (a1l (tC (.ty U)) tNil))) tNil))) (dIs2 T U de):=fun c O ρ σ H Qd Q R q k =>
 h c O ρ σ H _ _ R q fun x ρ1 O1 v H1 h1 R1 P1 a1=>by
  obtain⟨d,e1,h2⟩:=ne (h1)
  refine⟨by show 2 <= sizeLine;decide,fun p hp=>?_⟩
  have e:=a0o hp (.tup [V.ty T,V.ty U])
  exact⟨v,Any,d,p,T,U,rfl,AtD.mono e.keep _ _ (R1.top a1 e1).any,SqT.of a0c,hT,hU,k _ _ _ _ _ h2 (R1.grow e) (P1.trans (Pers.of e.keep fun _ z=>z)) a5m⟩
end
theorem d7u{X:Cx}{e:Expr}{de:TDE}{x y:Str}{T U:String}{p p2 p3 pt pos:Pos}{kk:Nat} (hg:Gl X "isinstance") (hm:X.mg "isinstance" = none) (hg2:Gl X x) (hm2:X.mg x=none) (hv:bootBuiltins x=some (.type T)) (hT:a1j T=true)
  (hg3:Gl X y) (hm3:X.mg y=none) (hv3:bootBuiltins y=some (.type U)) (hU:a1j U=true) (he:DE X e de) (hn:x ≠ "__name__":=by decide) (hd:(x == ("__debug__" : Str))=false:=by decide) (hn3:y ≠ "__name__":=by decide) (hd3:(y == ("__debug__" : Str))=false:=by decide)
  (hs:starEach [e,.Tuple [.Name x p2,.Name y p3] kk pt] X.env=(false,eval e X.env) :: starEach [.Tuple [.Name x p2,.Name y p3] kk pt] X.env:=by rfl):DE X (.Call (.Name "isinstance" p) [e,.Tuple [.Name x p2,.Name y p3] kk pt] [] pos) (dIs2 T U de):=by
 obtain⟨t,pe,ae⟩:=he
 exact⟨_,a2k c3z hg hm a3g (a0e pe (a0e (a5u (a0e (b5p hg2 hm2 hv hn hd) (a0e (b5p hg3 hm3 hv3 hn3 hd3) a0l))) a0l) hs) (by decide) (by decide) hs rfl,d7t hT hU ae⟩
theorem d7v{T U:String}{de:TDE}{ρ:Rho}{Q:DV->Rho->Prop}:dIs2 T U de ρ Q=de ρ fun x ρ1=>need (a0h ρ1 x) fun d=>Q (.d (.bool (isD T d || isD U d))) ρ1:=rfl
section
variable{K:W.Frag}{H:Hp}
end
end L2
end
section
namespace L2
open PySem PySem.Spec PyProof.Rows
section
variable{K:W.Frag}{c:Rc}{O:Own}{ρ:Rho}{σ:St}{H H':Hp}
end
end L2
end
section
namespace L2
open PySem PySem.Spec PyProof.Rows
theorem b7f:bootBuiltins "enumerate" = some (.type "enumerate"):=by decide +kernel
noncomputable def Ite(K:W.Frag)(a:Addr):It:=
 ⟨fun i H=>∃ xs x,SqL K H a xs/\xs[i]? = some x,fun i H v H'=>∃ T x,v=.ref T/\H T=none/\H'=upd H T (.tup [.int i,x])/\∀ xs,SqL K H a xs->xs[i]? = some x,fun i H=>∃ xs,SqL K H a xs/\xs.length <= i⟩
def ESt(e it a:Addr)(i:Nat)(h:Heap):Prop:=(∃ old,IsEnum h e it i old)/\h.IsListIter it a i
theorem c4a{P:Program}{w:World}{K:W.Frag}{elts:List Expr}{kk:Nat}{tp:Pos}{e it a:Addr}(ne:e ≠ it):Turn P w K (.Tuple elts kk tp) (Ite K a) [e,it] e (ESt e it a) where
 mem:=by simp
 obj:=fun i h st c hc=>by
  obtain⟨⟨old,x1⟩,x2⟩:=st
  have hc:c=e ∨ c=it:=by simpa using hc
  rcases hc with rfl | rfl
  ·exact⟨_,x1,fun v y=>by cases (show Data.fields _=Data.cell v from y)⟩
  ·obtain⟨o,g,_,d⟩:=x2
   exact⟨o,g,fun v y=>by rw [d] at y;cases y⟩
 keep:=fun i h h' st k=>by
  obtain⟨⟨old,x1⟩,x2⟩:=st
  exact⟨⟨old,k e (by simp) _ x1⟩,x2.at fun o g=>k it (by simp) o g⟩
 item:=by
  intro X hP hw hK hc i pins s σ H E I hf st hg
  subst hP hw hK
  obtain⟨xs,x,hq,hx⟩:=hg
  obtain⟨⟨old,x1⟩,x2⟩:=id st
  obtain⟨its,rv,p,_⟩:=I.list hq
  obtain⟨u,hu,ru⟩:=rv.get hx
  have lt:∀ c ∈ [e,it],c < s.heap.objs.size:=fun c hc=>by
   have hc:c=e ∨ c=it:=by simpa using hc
   rcases hc with rfl | rfl
   ·exact lt_size x1
   ·obtain⟨o,g,_⟩:=x2;exact lt_size g
  refine wpAny_pyNext_enum_item x1 x2 p.isList (x:=u) (by simpa using hu) ne fun h1 j1 j2 j3 j4 j5=>⟨_,rfl,wpAny_letOwnedTupleGo_enum j1 fun h2 e2 s2=>?_⟩
  have up:∀ c o,c ≠ e->h1.get? c=some o->h2.get? c=some o:=fun c o d g=>s2.extBut _ _ d g
  have I1:Inv X pins σ (upd H s.heap.objs.size (.tup [.int i,x])) { s with heap:=s.heap.push { cls:=.type "tuple",data:=.seq [Value.int i s.toks,u].toArray } }:=
   I.laid (t':=s.toks) (fun b o e=>get?_push_of_some _ e) (le_refl _) (show a1k X.prog X.w _ _ _ (.tup [.int i,x]) from⟨by show 2 <= sizeLine;decide,[Value.int i s.toks,u],.cons ⟨_,rfl⟩ (.cons ru .nil),a4u.new _ _⟩)
  have fpn:∀ c ∈ [e,it],(upd H s.heap.objs.size (.tup [.int i,x])) c=none:=fun c hc=>by rw [a0d (ne_of_lt (lt c hc))];exact(hf c hc).1
  have I2:Inv X pins σ (upd H s.heap.objs.size (.tup [.int i,x])) { s with heap:=h2,toks:=s.toks + 1 }:=by
   refine Inv.turnedL (s:={ s with heap:=s.heap.push { cls:=.type "tuple",data:=.seq [Value.int i s.toks,u].toArray } }) (t':=s.toks + 1) (ch:=[e,it]) I1 (fun c o hc g=>?_) fun c hc=>⟨fpn c hc,(hf c hc).2⟩
   have g:(s.heap.push { cls:=.type "tuple",data:=.seq [Value.int i s.toks,u].toArray }).get? c=some o:=g
   have hc:c ≠ e/\c ≠ it:=by simpa using hc
   refine up c o hc.1 ?_
   rcases Heap.get?_push_cases g with⟨rfl,rfl⟩ | g'
   ·exact j3
   ·exact j5 c o hc.1 hc.2 g'
  exact⟨.ref s.heap.objs.size,_,I2,rfl,⟨_,x,rfl,I.hok.fresh (le_refl _),rfl,fun zs hz=>by rw [I.list_inj hz hq];exact hx⟩,⟨⟨_,by simpa using e2⟩,j2.at fun o g=>up _ _ (Ne.symm ne) g⟩,fpn⟩
 done:=by
  intro X hP hw hK hc i pins s σ H E I hf st hg
  subst hP hw hK
  obtain⟨xs,hq,hx⟩:=hg
  obtain⟨⟨old,x1⟩,x2⟩:=id st
  obtain⟨its,rv,p,_⟩:=I.list hq
  have hl:=rv.length
  refine wpAny_pyNext_enum_end (I.ok.hd hc) x1 x2 p.isList (by simp;omega) fun h1 j=>⟨rfl,?_⟩
  exact I.turnedL (t':=s.toks) (ch:=[e,it]) (fun c o hc g=>j c o (fun z=>hc (by simp [z])) g) hf
 self:=fun _ _ _ _ _ st h=>by obtain⟨⟨old,x1⟩,_⟩:=st;exact wpAny_pyIter_enum x1 h
section
variable{X:Cx}
def c9q(K:W.Frag)(ta:TE):TI:=fun σ H R=>ta σ H fun x H1=>∃ a xs,x=.ref a/\SqL K H1 a xs/\R (Ite K a) H1
theorem d2m{l:Expr}{tl:TE}{p pos tp:Pos}{elts:List Expr}{kk:Nat} (hg:Gl X "enumerate") (hm:X.mg "enumerate" = none) (hl:PE X l tl) (hs:starEach [l] X.env=[(false,eval l X.env)]:=by rfl) :
  PI X (.Tuple elts kk tp) (.Call (.Name "enumerate" p) [l] [] pos) (c9q X.K tl):=by
 intro pins s σ H R I h
 refine Call_ (a9s I hg hm b7f (PyProof.Rows.callWith_type1 (thn ((a0e (t:=tNil) hl a0l hs) pos pins s σ H (fun vs H1=>∃ a xs,vs=[.ref a]/\SqL X.K H1 a xs/\R (Ite X.K a) H1) I ?_) fun us s1 ⟨vs,H1,I1,r1,q1⟩=>?_) hs rfl))
 ·show tl σ H fun x H1=>∃ a xs,[x]=[V.ref a]/\SqL X.K H1 a xs/\R (Ite X.K a) H1
  simpa [c9q] using h
 ·obtain⟨a,xs,rfl,hq,q⟩:=q1
  obtain⟨u,rfl,ru⟩:=r1.one
  cases ru
  obtain⟨its,rv,pl,hz⟩:=I1.list hq
  refine call_enumerate_list pl.isList fun h' j1 j2 j3 j4=>wpAny_pyIter_enum j1 ⟨s1.heap.objs.size + 1,[s1.heap.objs.size + 1,s1.heap.objs.size],_,_,H1,rfl,I1.kept (t':=s1.toks) j4,c4a (Nat.succ_ne_self _),⟨⟨_,j1⟩,j2⟩,fun c hc=>?_,q⟩
  have hc:c=s1.heap.objs.size + 1 ∨ c=s1.heap.objs.size:=by simpa using hc
  have ge:s1.heap.objs.size <= c:=by rcases hc with rfl | rfl;exact le_succ _;exact le_refl _
  exact I1.fpOk ge (I1.hok.fresh ge)
end
section
variable{K:W.Frag}{S:Addr->Prop}{H:Hp}
noncomputable def c9r(xs:List PyData):List PyData:=xs.zipIdx.map fun p=>.tuple [.int (p.2:Int),p.1]
def d7w(de:TDE):TDI:=fun ρ Q=>de ρ fun x ρ1=>fz ρ1 x fun y ρ2=>need (match y with | .list xs=>some xs | _=>none) fun xs=>Q (c9r xs) ρ2
end
theorem c7t{de:TDE}{ρ:Rho}{Q:List PyData->Rho->Prop}:d7w de ρ Q=de ρ fun x ρ1=>fz ρ1 x fun y ρ2=>need (match y with | .list xs=>some xs | _=>none) fun xs=>Q (c9r xs) ρ2:=rfl
end L2
end
section
namespace L2
open PySem PySem.Spec PyProof.Rows
section
variable{K:W.Frag}{c:Rc}{O:Own}{ρ:Rho}{σ:St}{H H':Hp}
end
end L2
end
section
namespace L2
open PySem PySem.Spec PyProof.Rows
section
variable{κ:Type}[DecidableEq κ]
noncomputable def valV(kvs:List (κ × V))(k:κ):Option V:=(kvs.find? fun kv=>decide (kv.1=k)).map (·.2)
noncomputable def putK(kvs:List (κ × V))(k:κ)(v:V):List (κ × V):=
 if (kvs.any fun kv=>decide (kv.1=k))=true then kvs.map (fun kv=>if kv.1=k then(kv.1,v) else kv) else kvs ++ [(k,v)]
noncomputable def dropK(kvs:List (κ × V))(k:κ):List (κ × V):=kvs.filter fun kv=>decide (kv.1 ≠ k)
end
abbrev KT(H:Hp):List (List Key × V)->List (List Key × Addr × Value)->Prop:=Paired fun p q=>p.1=q.1/\H q.2.1=some (.tup (p.1.map kV))/\RelV p.2 q.2.2
section
variable{P:Program}{w:World}{H:Hp}{h:Heap}{a:Addr}
end
def DGet(H:Hp)(a:Addr)(y:V)(r:Option V):Prop:=
 (∃ kvs k,Rd H a (.dK kvs)/\y=kV k/\r=valV kvs k) ∨ ∃ kvs k b,Rd H a (.dT kvs)/\y=.ref b/\H b=some (.tup (k.map kV))/\r=valV kvs k
def DPut(H:Hp)(a:Addr)(y v:V)(H':Hp):Prop:=
 (∃ kvs k,H a=some (.dK kvs)/\y=kV k/\kvs.length < sizeLine/\H'=upd H a (.dK (putK kvs k v))) ∨
 ∃ kvs k b,H a=some (.dT kvs)/\y=.ref b/\H b=some (.tup (k.map kV))/\kvs.length < sizeLine/\H'=upd H a (.dT (putK kvs k v))
section
variable{X:Cx}{pins:List (Addr × Obj)}{σ:St}{H:Hp}{s:Shared}{a:Addr}{y v:V}{u r:Value}{o:Option V}{A:Around}{E:Value->Shared->Prop}
end
section
variable{X:Cx}{pins:List (Addr × Obj)}{σ:St}{H:Hp}{s:Shared}{a:Addr}{kvs:List (Key × V)}{k:Key}{u:Value}{A:Around}{E:Value->Shared->Prop}
end
section
variable{X:Cx}{o i e value:Expr}{pos pos' tpos:Pos}{td ty tv:TE}
end
section
variable{X:Cx}{pos:Pos}
end
end L2
end
section
namespace L2
open PySem PySem.Spec PyProof.Rows
section
variable{X:Cx}
end
noncomputable def unD:List (PyData × PyData)->Option (List (Str × Int))
 | []=>some []
 | (.str k,.int n) :: r=>(unD r).map ((k,n) :: ·)
 | _ :: _=>none
theorem c4b:∀ ν:List (Str × Int),unD (ν.map kvD)=some ν
 | []=>rfl
 | (k,n) :: r=>by
  show(unD (r.map kvD)).map _=_
  rw [c4b r];rfl
section
variable{K:W.Frag}{H:Hp}{S:Addr->Prop}
theorem AtT.dict{H:Hp}{S:Addr->Prop}{kvs:List (PyData × PyData)}{v:V}(h:AtT K H S (.dict kvs) v):∃ (a:Addr) (κ:List (Key × V)),v=.ref a/\S a/\H a=some (.dK κ)/\a0r K H S kvs κ:=a6r (h.at fun _ z=>nomatch z)
end
section
variable{K:W.Frag}{da db:TDE}
end
end L2
end
section
namespace L2
open PySem PySem.Spec PyProof.Rows
noncomputable def Rc.reb(c:Rc)(O:Own)(p:Addr)(H:Hp):Rc:={ c with H0:=H,P:=fun a=>c.P a ∨ a=p,M:=fun a=>∃ j,O j=some a,A:=fun a=>∃ j,O j=some a }
structure Pin(K:W.Frag)(c:Rc)(p:Addr)(ν:List (Str × Int))(i:Nat)(O:Own)(ρ:Rho)(σ:St)(H:Hp):Prop where
 rel:Rel K (c.reb O p H) O ρ σ H
 at_:H p=some (.dK (ν.map kvE))
 slot:σ[i]? = some (some (.ref p))
 nul:ρ[i]? = some none
 bA:∀ j q,O j=some q->c.A q
 bS:∀ b o,¬ c.M b->c.H0 b=some o->H b=some o
 bK:∀ b,c.H0 b ≠ none->H b ≠ none
 bM:∀ q,c.M q->∃ vs,H q=some (.lst vs)
 am:∀ q,c.A q->c.M q ∨ c.H0 q=none
 frs:∀ q,c.H0 q=none->c.S q
 fr0:c.H0 p=none
 np:¬ c.P p
section
variable{K:W.Frag}{c:Rc}{O O1:Own}{ρ ρ1:Rho}{σ σ1:St}{H H1 H2:Hp}{p:Addr}{ν μ:List (Str × Int)}{i:Nat}
end
section
variable{K:W.Frag}
end
section
variable{X:Cx}{iter kE vE:Expr}{rest:List Stmt}{di:TDI}{dk dv:TDE}{du:TDS}{x y:Str}{p1 p2 p3 p4 p5 p6 p7 p8 p9 p10 p11 p12 p13:Pos}
end
end L2
end
section
namespace L2
open PySem PySem.Spec PyProof.Rows
section
variable{prog:Program}{w:World}{A:Around}{R:Result->Shared->Prop}{I:Addr}{fp wr:List Addr}{G:Array GenState->Array GenState->Prop}{St:Nat->Shared->Prop}{items:Array Value}{ps:List (Str × Int)}
end
section
variable{prog:Program}{w:World}{A:Around}{E:Value->Shared->Prop}{s:Shared}
end
end L2
end
section
namespace L2
open PySem PySem.Spec PyProof.Rows
def NotSq(o:HO):Prop:=(∀ xs,o ≠ .lst xs)/\(∀ xs,o ≠ .tup xs)/\∀ a u,o ≠ .frz a u
structure PinG(K:W.Frag)(c:Rc)(p:Addr)(o:HO)(O:Own)(ρ:Rho)(σ:St)(H:Hp):Prop where
 rel:Rel K (c.reb O p H) O ρ σ H
 at_:H p=some o
 nsq:NotSq o
 bA:∀ j q,O j=some q->c.A q
 bS:∀ b o,¬ c.M b->c.H0 b=some o->H b=some o
 bK:∀ b,c.H0 b ≠ none->H b ≠ none
 bM:∀ q,c.M q->∃ vs,H q=some (.lst vs)
 am:∀ q,c.A q->c.M q ∨ c.H0 q=none
 frs:∀ q,c.H0 q=none->c.S q
 fr0:c.H0 p=none
 np:¬ c.P p
section
variable{K:W.Frag}{c:Rc}{O O1:Own}{ρ ρ1:Rho}{σ σ1:St}{H H1 H2:Hp}{p:Addr}{o o2:HO}
end
end L2
end
section
namespace L2
open PySem PySem.Spec PyProof.Rows
section
variable{X:Cx}
noncomputable def b9g:V->List V->Hp->VK->Prop:=fun x vs H Q=>∃ l xs,∃ j:Int,∃ y,x=.ref l/\vs=[.int j,y]/\H l=some (.lst xs)/\0 <= j/\j <= xs.length/\xs.length < sizeLine/\Q .non (upd H l (.lst (xs.take j.toNat ++ y :: xs.drop j.toNat)))
theorem c4c:MtM X "list.insert" b9g:=by
 intro pins s σ H x vs v us Q I rx rv h
 obtain⟨l,xs,j,y,rfl,rfl,hH,h0,h1,hz,q⟩:=h
 cases rx
 obtain⟨u0,u,rfl,⟨t,e0⟩,ru⟩:=Vals.two rv
 subst e0
 obtain⟨z,its,n,r,hl,e⟩:=I.lstM hH
 have hfit:¬ (!Builtin.List.listFitsIndex j)=true:=by
  have:=sizeLine_eq
  have e1:Builtin.List.listFitsIndex j=true:=by
   unfold Builtin.List.listFitsIndex
   rw [and_eq_true]
   exact⟨decide_eq_true (by omega),decide_eq_true (by omega)⟩
  rw [e1]
  exact Bool.false_ne_true
 refine call_meets PySem.F.slot_list_insert ⟨_,e,rfl⟩ PySem.F.entry_list_insert (PySem.F.args_list_insert_3 _ _ _) (AutoSeq1.list_insert_list_int_val_1 l its.toArray n j t u hfit (by rw [size_toArray];omega)) ⟨e,?_⟩
 have hk:j.toNat <= its.length:=by omega
 refine⟨.non,_,I.lset (its':=its.take j.toNat ++ u :: its.drop j.toNat) hH e ?_ ?_ ?_,rfl,q⟩
 ·have hj:¬ j < 0:=by omega
  simp only [if_neg hj]
  apply Array.ext'
  simp
  have:min j.toNat its.length=j.toNat:=by omega
  rw [this]
  simp [List.take_of_length_le]
 ·exact(r.take _).append (.cons ru (r.drop _))
 ·rw [length_append,length_cons,length_take,List.length_drop]
  omega
end
end L2
end
section
namespace L2
open PySem PySem.Spec PyProof.Rows
section
variable{X:Cx}
noncomputable def c9s(K:W.Frag):List V->Hp->VK->Prop:=fun xs H Q=>∃ v S,∃ n:Nat,xs=[v]/\AtD K H S (.list (List.replicate n (.bool true))) v/\Q (.bl true) H
theorem b0c{K:W.Frag}{H:Hp}{S:Addr->Prop}:∀ {n:Nat} {xs:List V},a0b K H S (List.replicate n (.bool true)) xs->xs=List.replicate n (V.bl true)
 | 0,xs,h=>h.unnil
 | n + 1,xs,h=>by
  obtain⟨v,vr,rfl,hd,t⟩:=a0b.uncons (d:=.bool true) (ds:=List.replicate n (.bool true)) h
  rw [AtT.bool (AtD.top hd),b0c t];rfl
theorem b2s:∀ {n:Nat} {us:List Value},Vals (List.replicate n (V.bl true)) us->∀ (i:Nat) (v:Value),us[i]? = some v->v=Value.bool true
 | 0,us,h,i,v,e=>by rw [Vals.zero h] at e;cases e
 | n + 1,us,h,i,v,e=>by
  cases h with
  | cons h1 h2 =>
   cases i with
   | zero=>cases e;exact h1
   | succ i=>exact b2s h2 i v e
theorem c4d(hc:X.calm=true):a1x X (.builtin "all") (c9s X.K):=by
 intro pins s σ H xs us Q I rs h
 obtain⟨v,S,n,rfl,hd,q⟩:=h
 obtain⟨u,rfl,r⟩:=vals1 rs
 obtain⟨a,ys,rfl,_,hq,t⟩:=a3r hd
 cases r
 have ey:=b0c t
 subst ey
 obtain⟨its,rv,pl,hz⟩:=I.list (SqL.of hq)
 have la:a < s.heap.objs.size:=lt_size pl.isList.choose_spec.1
 refine call_all_walk (wpAny_pyIter_list pl.isList ⟨s.heap.objs.size,_,_,_,_,_,fun _=>true,rfl,Walks.list (by simpa using I.ok.hd hc) s.heap.objs.size a (ne_of_lt la) its.toArray,⟨⟨_,get?_push_size _ rfl,rfl,rfl⟩,pl.isList.push _⟩,fun i v s' Q' E' hP hQ=>?_,fun h' tk hk=>?_⟩)
 ·rw [b2s rv i v (by simpa using hP)]
  exact wpAny_truthy_bool hQ
 ·rw [show((List.range its.toArray.size).all fun _=>true)=true by simp]
  refine⟨.bl true,H,I.kept fun b o e=>hk b o ?_ (get?_push_of_some _ e),rfl,q⟩
  rw [mem_singleton]
  exact ne_of_lt (lt_size e)
theorem b7g:bootBuiltins "all" = some (.builtin "all"):=by decide +kernel
end
noncomputable def fMax2:FC:=fun ds=>match ds with
 | [.int a,.int b]=>some (.int (max a b))
 | _=>none
noncomputable def fMin2:FC:=fun ds=>match ds with
 | [.int a,.int b]=>some (.int (min a b))
 | _=>none
noncomputable def allT:List PyData->Bool
 | []=>true
 | .bool true :: r=>allT r
 | _ :: _=>false
theorem b7h:∀ n:Nat,allT (List.replicate n (.bool true))=true
 | 0=>rfl
 | n + 1=>b7h n
theorem b7i:∀ {xs:List PyData},allT xs=true->xs=List.replicate xs.length (.bool true)
 | [],_=>rfl
 | .bool true :: r,h=>by
  have:=b7i (xs:=r) h
  rw [length_cons,List.replicate_succ,← this]
noncomputable def c0y:FC:=fun ds=>match ds with
 | [.list xs]=>if allT xs=true then some (.bool true) else none
 | _=>none
noncomputable def c0z:PyData->List PyData->Option PyData:=fun x ds=>match x,ds with
 | .dict kvs,[.str k,.int n]=>(unD kvs).map fun ν=>.int ((ν.lookup k).getD n)
 | _,_=>none
section
variable{K:W.Frag}{H:Hp}{S:Addr->Prop}
theorem d2n:AdC K (c9s K) c0y:=by
 intro S H vs ds z Q f h e k
 unfold c0y at e
 split at e
 ·rename_i xs
  split at e
  ·rename_i hx
   cases e
   obtain⟨v,rfl,h1⟩:=h.one
   rw [b7i hx] at h1
   exact⟨v,Any,_,rfl,h1.any,k _ _ (Same.refl _) (a0z _)⟩
  ·cases e
 ·cases e
def d7x(da:TDA):TDE:=fun ρ Q=>da ρ fun xs ρ1=>need (a1f ρ1 xs) fun ds=>∃ ss:List Str,ds=[.list (ss.map .str)]/\ss.length < 64/\∀ ss':List Str,ss'.Perm ss->Q (.d (.list (ss'.map .str))) ρ1
def dGet2(dd:TDE)(da:TDA):TDE:=fun ρ Q=>dd ρ fun x ρ1=>need (a0h ρ1 x) fun dx=>(∃ kvs,dx=.dict kvs)/\da ρ1 fun ys ρ2=>need (a0h ρ2 x) fun dx2=>need (a1f ρ2 ys) fun ds=>need (c0z dx2 ds) fun z=>Q (.d z) ρ2
def b3n(i:Nat)(di de:TDE):TDE:=fun ρ Q=>need (ownB ρ i) fun _=>di ρ fun x ρ1=>need (a0h ρ1 x) fun dx=>need (asI dx) fun j=>de ρ1 fun y ρ2=>fz ρ2 y fun z ρ3=>need (ownB ρ3 i) fun o=>(0 <= j/\j <= o.2.length/\o.2.length <= 1000000)/\Q (.d .none) (ρ3.set i (some (okL o.1 (o.2.take j.toNat ++ z :: o.2.drop j.toNat))))
theorem c4e{i:Nat}{t1 t2:TE}{di de:TDE}(h1:AdE K t1 di)(h2:AdE K t2 de):AdE K (tBM K "list" b9g (tVar i) (a1l t1 (a1l t2 tNil))) (b3n i di de):=by
 intro c O ρ σ H Qd Q R q k
 obtain⟨hz2,e,q⟩:=ne (q)
 obtain⟨o,xs⟩:=hz2
 obtain⟨e0,p,vs,hO,hσ,hH,hA⟩:=a4q R e
 refine⟨.ref p,hσ,.inl ⟨rfl,vs,SqL.of hH⟩,?_⟩
 refine h1 c O ρ σ H _ _ R q fun x ρ1 O1 v1 H1 q1 R1 P1 a1=>?_
 obtain⟨dx,e1,hn8⟩:=ne (q1)
 obtain⟨j,e2,q1⟩:=ne (hn8)
 have ev:v1=.int j:=b2p (R1.top a1 e1) e2
 subst ev
 refine h2 c O1 ρ1 σ H1 _ _ R1 q1 fun y ρ2 O2 v H2 q2 R2 P2 a2=>?_
 obtain⟨z,ρ3,O3,hz12,R3,P3,a3⟩:=R2.fz a2 q2
 obtain⟨hz13,e3,hn15⟩:=ne (hz12)
 obtain⟨hz14,q3⟩:=hn15
 obtain⟨o3,xs3⟩:=hz13
 obtain⟨hj0,hj1,hz⟩:=hz14
 obtain⟨e4,p3,vs3,hO3,hσ3,hH3,hA3⟩:=a4q R3 e3
 rw [hσ] at hσ3;cases hσ3
 refine⟨p,vs3,j,v,rfl,rfl,hH3,hj0,by rw [hA3.length];exact hj1,by rw [hA3.length];exact mil hz,?_⟩
 obtain⟨R4,P4⟩:=R3.writeB hO3 hH3 e4 (ys:=xs3.take j.toNat ++ z :: xs3.drop j.toNat) (vs':=vs3.take j.toNat ++ v :: vs3.drop j.toNat) (by
  have h:=((hA3.take j.toNat).snoc a3).append (hA3.drop j.toNat)
  simpa using h)
 exact k _ _ _ _ _ q3 R4 (((P1.trans P2).trans P3).trans P4) b6o
end
section
variable{X:Cx}{e e1 e2:Expr}{es:List Expr}{daa:TDA}{de d1 d2:TDE}{pos:Pos}
theorem b4o(i:Nat){x:Str}{p p2:Pos}(hN:X.N[i]? = some x)(h1:DE X e1 d1)(h2:DE X e2 d2)(hv:Vis X.env.scope x:=by first | exact Or.inl rfl | exact Or.inr (Or.inl rfl) | exact Or.inr (Or.inr rfl)) (hd:(x == ("__debug__" : Str))=false:=by decide)
  (hcd:(x == ("__classdict__" : Str))=false:=by decide)
  (hbase:attributeBase (.Name x p) "insert" X.env (eval (.Name x p) X.env)=eval (.Name x p) X.env:=by rfl)
  (hfew:((backTo pos (starEach [e1,e2] X.env)).all (fun x=>!x.1) && (backToKw pos (keywordEach [] X.env)).all (fun x=>x.1.isSome)
   && decide (([e1,e2]:List Expr).length + ([]:List Keyword).length + (if ([]:List Keyword).isEmpty then 0 else 1) < 30))=true:=by rfl)
  (hline:(p2.endLine == pos.line)=true:=by rfl) (hs:starEach [e1,e2] X.env=(false,eval e1 X.env) :: starEach [e2] X.env:=by rfl) (hs2:starEach [e2] X.env=[(false,eval e2 X.env)]:=by rfl) (hpl:(backTo pos (starEach [e2] X.env)).any (·.1)=false:=by rfl):DE X (.Call (.Attribute (.Name x p) "insert" p2) [e1,e2] [] pos) (b3n i d1 d2):=by
 obtain⟨ta,pa,aa⟩:=h1
 obtain⟨tb,pb,ab⟩:=h2
 exact⟨_,a7m PySem.F.plainAttrs_list PySem.F.slot_list_insert PySem.F.type_list_insert c4c (a7t hN hv hd hcd) (a0e pa (a0e pb a0l hs2) hs) hbase hfew hline hs hpl,c4e aa ab⟩
end
section
variable{i:Nat}{de di da dd:TDA}{ρ:Rho}{Q:DV->Rho->Prop}{d1 d2:TDE}
theorem c7u:d7x da ρ Q=da ρ fun xs ρ1=>need (a1f ρ1 xs) fun ds=>∃ ss:List Str,ds=[.list (ss.map .str)]/\ss.length < 64/\∀ ss':List Str,ss'.Perm ss->Q (.d (.list (ss'.map .str))) ρ1:=rfl
theorem d2o:dGet2 d1 da ρ Q=d1 ρ fun x ρ1=>need (a0h ρ1 x) fun dx=>(∃ kvs,dx=.dict kvs)/\da ρ1 fun ys ρ2=>need (a0h ρ2 x) fun dx2=>need (a1f ρ2 ys) fun ds=>need (c0z dx2 ds) fun z=>Q (.d z) ρ2:=rfl
theorem c4f:b3n i d1 d2 ρ Q=need (a2u (ρ[i]?.join)) fun _=>d1 ρ fun x ρ1=>need (a0h ρ1 x) fun dx=>need (asI dx) fun j=>d2 ρ1 fun y ρ2=>fz ρ2 y fun z ρ3=>need (a2u (ρ3[i]?.join)) fun o=>(0 <= j/\j <= o.2.length/\o.2.length <= 1000000)/\Q (.d .none) (ρ3.set i (some (okL o.1 (o.2.take j.toNat ++ z :: o.2.drop j.toNat)))):=rfl
theorem d2p{ν:List (Str × Int)}{k:Str}{n:Int}:c0z (.dict (ν.map kvD)) [.str k,.int n]=some (.int ((ν.lookup k).getD n)):=by
 show(unD (ν.map kvD)).map _=_
 rw [c4b];rfl
end
section
variable{K:W.Frag}
end
section
variable{X:Cx}{iter kE vE tg:Expr}{rest:List Stmt}{di:TDI}{dg:TDG}{dk dv:TDE}{du:TDS}{x y z:Str}{pos p1 p2 p3 p4 p5 p6 p7 p8 p9 p10 p11 p12 p13:Pos}
end
end L2
end
section
namespace L2
open PySem PySem.Spec PyProof.Rows
section
variable{prog:Program}{w:World}{A:Around}{E:Value->Shared->Prop}{s:Shared}
def IsZ2(h:Heap)(z TI TO T:Addr)(b:Bool):Prop:=h.get? z=some { cls:=.type "zip",dict:=none,data:=.fields #[rawInt T,.bool b,.bool false,.ref TI,.ref TO],slots:=#[] }
def ZF(h:Heap)(z TI TO:Addr):Prop:=(IsZip h z TI TO .none/\∃ p q,IsPair h TO p q) ∨ ∃ T b o,IsZ2 h z TI TO T b/\h.get? T=some o
end
end L2
end
section
namespace L2
open PySem PySem.Spec PyProof.Rows
section
variable{prog:Program}{w:World}{A:Around}{R:Result->Shared->Prop}{ps:List (Str × Int)}{z TI TO i1 i2 l1 l2:Addr}{xs ys:Array Value}
end
section
variable{prog:Program}{w:World}{A:Around}{E:Value->Shared->Prop}{s:Shared}
end
section
variable{X:Cx}
end
noncomputable def a9h:List PyData->Option (List Str)
 | []=>some []
 | .str x :: r=>(a9h r).map (x :: ·)
 | _ :: _=>none
theorem b7j:∀ ss:List Str,a9h (ss.map .str)=some ss
 | []=>rfl
 | x :: r=>by show(a9h (r.map .str)).map (x :: ·)=_;rw [b7j r];rfl
theorem b4p:∀ {xs:List PyData} {ss:List Str},a9h xs=some ss->xs=ss.map .str
 | [],ss,h=>by cases h;rfl
 | .str x :: r,ss,h=>by
  have h':(a9h r).map (x :: ·)=some ss:=h
  obtain⟨qs,h1,rfl⟩:=map_eq_some_iff.mp h'
  rw [b4p h1];rfl
end L2
end
section
namespace L2
open PySem
theorem d2q{a b:Int}:fMax2 [.int a,.int b]=some (.int (max a b)):=rfl
theorem d2r{a b:Int}:fMin2 [.int a,.int b]=some (.int (min a b)):=rfl
theorem b9h{n:Nat}:c0y [.list (List.replicate n (.bool true))]=some (.bool true):=by
 show(if allT _=true then _ else _)=_
 rw [if_pos (b7h n)]
noncomputable def a2y:PyData->Bool
 | .none=>true
 | _=>false
noncomputable def fIsN:F2:=fun x y=>match y with
 | .none=>some (.bool (a2y x))
 | _=>none
noncomputable def c1a:F2:=fun x y=>match y with
 | .none=>some (.bool (!a2y x))
 | _=>none
theorem d7y{x:PyData}:fIsN x .none=some (.bool (a2y x)):=rfl
theorem d2s{x:PyData}:c1a x .none=some (.bool (!a2y x)):=rfl
theorem c4g:a2y .none=true:=rfl
theorem c4h{i:Int}:a2y (.int i)=false:=rfl
theorem c4i{xs:List PyData}:a2y (.tuple xs)=false:=rfl
section
variable{K:W.Frag}{H:Hp}{S:Addr->Prop}
theorem b4q{d:PyData}{v:V}(h:AtT K H S d v):decide (v=.non)=a2y d:=by
 cases d with
 | none=>rw [h.none];rfl
 | bool b=>rw [h.bool];rfl
 | int i=>rw [h.int];rfl
 | str x=>rw [h.str];rfl
 | list xs=>obtain⟨a,ws,rfl,_,_⟩:=h.list;rfl
 | tuple xs=>obtain⟨a,ws,rfl,_,_⟩:=h.tup;rfl
 | dict kvs=>obtain⟨a,ν,rfl,_⟩:=h.dict;rfl
theorem b7k:AdR K (fun x y H Q=>y=.non/\Q (.bl (decide (x=.non))) H) fIsN:=by
 intro S H x y dx dy z Q f hx hy e k
 unfold fIsN at e
 split at e<;>cases e
 rw [hy.none,b4q hx]
 exact⟨rfl,k _ _ (Same.refl _) (a0z _)⟩
theorem d2t:AdR K (fun x y H Q=>y=.non/\Q (.bl (!decide (x=.non))) H) c1a:=by
 intro S H x y dx dy z Q f hx hy e k
 unfold c1a at e
 split at e<;>cases e
 rw [hy.none,b4q hx]
 exact⟨rfl,k _ _ (Same.refl _) (a0z _)⟩
end
end L2
end
section
namespace L2
open PySem PySem.Spec PyProof.Rows
section
variable{prog:Program}{w:World}{A:Around}{E:Value->Shared->Prop}{s:Shared}
end
section
variable{X:Cx}{e:Expr}{te:TE}{pos p2:Pos}
def rInK(K:W.Frag)(w:World):R2:=fun x y H Q=>∃ a kvs z,y=.ref a/\KDict K w a kvs/\(a == sysModules)=false/\x=.str z/\Q (.bl (kvs.lookup z).isSome) H
theorem KV.some_eq{kvs:List (Str × V)}{vs:List (Str × Value)}(h:KV kvs vs)(z:Str):(valueAt vs z).isSome=(kvs.lookup z).isSome:=by
 induction h with
 | nil=>rfl
 | @cons p q kvs vs r _ ih =>
  obtain⟨x,v⟩:=p
  obtain⟨y,u⟩:=q
  obtain⟨e,rv⟩:=r
  have e':x=y:=e
  subst e'
  rw [lookup_cons]
  by_cases hzx:z=x
  ·subst hzx
   simp [valueAt]
  ·have:(z == x)=false:=beq_eq_false_iff_ne.mpr hzx
   rw [this]
   unfold valueAt at ih ⊢
   rw [List.find?_cons_of_neg (by simpa using fun q=>hzx q.symm)]
   exact ih
theorem d7z:OpR X (compareOp .In) (rInK X.K X.w):=by
 intro pins s σ H x y v u Q I rx ry h
 obtain⟨a,kvs,z,rfl,⟨hnd,es,ep,hk,he⟩,hsm,rfl,q⟩:=h
 cases ry
 obtain⟨t,rfl⟩:=rx
 have ho:=I.kIn a _ hk
 obtain⟨vs,hp,hkv,hkeys⟩:=he.pairs (prog:=X.prog)
 obtain⟨e1,hlook⟩:=KV.look hkv
 have hd:s.heap.DictOf (strKind X.prog X.w) a vs:=by
  refine⟨_,es,ep,ho,⟨rfl,rfl,rfl⟩,rfl,?_,hp,by rw [← e1];exact hnd⟩
  intro e hm
  obtain⟨x',t',e2,e3⟩:=hkeys e (by simpa using hm)
  exact⟨x',by rw [e2];exact strKind_is X.prog X.w x' t',e3⟩
 refine wpAny_in_of (strKind_is X.prog X.w z t) hsm hd.mapOf ?_
 have e:(valueAt vs z).isSome=(kvs.lookup z).isSome:=KV.some_eq hkv z
 rw [e]
 exact⟨.bl _,H,I.tok _,rfl,q⟩
end
end L2
end
section
namespace L2
open PySem PySem.Spec PyProof.Rows
noncomputable def fSlA:FSl:=fun x lo hi=>match x with
 | .tuple xs=>some (.tuple (cutD xs lo hi))
 | _=>none
theorem d8a{xs:List PyData}{lo hi:Option Int}:fSlA (.tuple xs) lo hi=some (.tuple (cutD xs lo hi)):=rfl
section
variable{K:W.Frag}{H:Hp}{S:Addr->Prop}
def dNilD:TDE:=fun ρ Q=>Q (.d (.dict [])) ρ
def d8b(de:TDE):TDE:=fun ρ Q=>de ρ fun x ρ1=>need (a0h ρ1 x) fun dx=>∃ z:Str,dx=.str z/\z.length <= 1000/\Q (.d (.str (Txt.upper z))) ρ1
def dExtT(i:Nat)(de:TDE):TDE:=fun ρ Q=>need (ownB ρ i) fun _=>de ρ fun x ρ1=>need (a0h ρ1 x) fun dx=>∃ ys,dx=.tuple ys/\need (ownB ρ1 i) fun o=>o.2.length + ys.length <= 1000000/\Q (.d .none) (ρ1.set i (some (okL o.1 (o.2 ++ ys))))
def dInK(keys:List Str)(de:TDE):TDE:=fun ρ Q=>de ρ fun x ρ1=>need (a0h ρ1 x) fun dx=>∃ z:Str,dx=.str z/\Q (.d (.bool (keys.contains z))) ρ1
end
section
variable{X:Cx}{e st:Expr}{de ds:TDE}{pos p2:Pos}
end
section
variable{i:Nat}{ρ:Rho}{Q:DV->Rho->Prop}{d1 d2:TDE}{keys:List Str}
theorem d2u:dNilD ρ Q=Q (.d (.dict [])) ρ:=rfl
theorem c7v:d8b d1 ρ Q=d1 ρ fun x ρ1=>need (a0h ρ1 x) fun dx=>∃ z:Str,dx=.str z/\z.length <= 1000/\Q (.d (.str (Txt.upper z))) ρ1:=rfl
theorem d2v:dExtT i d1 ρ Q=need (a2u (ρ[i]?.join)) fun _=>d1 ρ fun x ρ1=>need (a0h ρ1 x) fun dx=>∃ ys,dx=.tuple ys/\need (a2u (ρ1[i]?.join)) fun o=>o.2.length + ys.length <= 1000000/\Q (.d .none) (ρ1.set i (some (okL o.1 (o.2 ++ ys)))):=rfl
theorem d8c:dInK keys d1 ρ Q=d1 ρ fun x ρ1=>need (a0h ρ1 x) fun dx=>∃ z:Str,dx=.str z/\Q (.d (.bool (keys.contains z))) ρ1:=rfl
end
end L2
end
section
namespace L2
open PySem PySem.Spec PyProof.Rows
end L2
end
section
namespace L2
open PySem PySem.Spec PyProof.Rows
end L2
end
section
namespace L2
open PySem PySem.Spec PyProof.Rows
theorem b5b(l:Addr)(items:Array Value)(n:Nat)(b:Addr)(items2:Array Value)(n2:Nat)(hc0:(items.size != items2.size)=true) :
  Meets (Builtin.«list.__ne__» ⟨[.ref l,.ref b],[]⟩) (fun _ R s=>s.heap.get? l=some ⟨.type "list",none,.seq items n,#[]⟩/\s.heap.get? b=some ⟨.type "list",none,.seq items2 n2,#[]⟩/\R (.ok (.ret (Value.bool true))) { s with heap:=s.heap,toks:=s.toks }):=
 .of_wp fun prog w A R s h=>by
  obtain⟨hp,g,d,tk,os⟩:=s
  obtain⟨hl,hb,h⟩:=h
  have f3:=AutoSeq1.sub_list_list
  wp_walk using wpAny_loadPart' hl,wpAny_loadPart' hb
  exact⟨_,rfl,h⟩
section
variable{X:Cx}
def rNeS:R2:=fun x y H Q=>∃ a b vs,x=.ref a/\y=.ref b/\H a=some (.lst vs)/\vs ≠ []/\H b=some (.lst [])/\Q (.bl true) H
theorem d8d(hu:X.A.units + 64 < cLine):OpR X (compareOp .NotEq) rNeS:=by
 intro pins s σ H x y v u Q I rx ry h
 obtain⟨a,b,vs,rfl,rfl,ha,hne,hb,q⟩:=h
 cases rx;cases ry
 obtain⟨z,its,n,r,hl,e⟩:=I.lstM ha
 obtain⟨z2,its2,n2,r2,hl2,e2⟩:=I.lstM hb
 have h2:its2=[]:=r2.zero
 subst h2
 have hs:(its.toArray.size != (#[]:Array Value).size)=true:=by
  cases its with
  | nil=>exact absurd (List.length_eq_zero_iff.mp (by rw [hl];rfl)) hne
  | cons _ _=>simp
 have main:wpAny (model X.prog X.w) X.A (richCompare .NotEq (.ref a) (.ref b)) (EP X pins σ Q) X.xe s:=
  richCompare_meets_room (op:=.NotEq) ⟨_,e,rfl⟩ ⟨_,e2,rfl⟩ PySem.F.slot_list_ne PySem.F.entry_list_ne (PySem.F.args_list_ne_2 _ _) (b5b a its.toArray n b #[] n2 hs) ⟨e,e2,by nofun,.bl true,H,I,rfl,q⟩ (by omega)
 exact main
end
noncomputable def fNeN:F2:=fun x y=>match x,y with
 | .list xs,.list []=>some (.bool (!xs.isEmpty))
 | _,_=>none
theorem d8e{xs:List PyData}:fNeN (.list xs) (.list [])=some (.bool (!xs.isEmpty)):=rfl
theorem d8f{K:W.Frag}:AdR K (fun x y H Q=>rNeS x y H Q ∨ rEqD K true x y H Q) fNeN:=by
 intro S H x y dx dy z Q f hx hy e k
 unfold fNeN at e
 split at e
 ·rename_i xs
  cases e
  obtain⟨b,ws2,rfl,h3,h4⟩:=hy.list
  cases h4.unnil
  cases xs with
  | nil=>exact .inr ⟨Any,Any,.list [],.list [],hx.any,hy.any,by decide,by decide,k _ _ (Same.refl _) (a0z _)⟩
  | cons d r =>
   obtain⟨a,ws,rfl,h1,h2⟩:=hx.list
   refine .inl ⟨a,b,ws,rfl,rfl,h1,?_,h3,k _ _ (Same.refl _) (a0z _)⟩
   rintro rfl
   have:=h2.length
   cases this
 ·cases e
end L2
end
section
namespace Sx
open PySem PySem.Spec PyProof.Rows
def leS(a b:Str):Prop:=a.cps.toList <= b.cps.toList
instance (a b:Str):Decidable (leS a b):=by unfold leS;infer_instance
section
variable{prog:Program}{w:World}{A:Around}{E:Value->Shared->Prop}{s:Shared}{S:Addr}
end
end Sx
end
section
namespace L2
open PySem PySem.Spec PyProof.Rows
section
variable{X:Cx}{pins:List (Addr × Obj)}{σ:List (Option V)}{H:Hp}{s:Shared}
end
section
variable{K:W.Frag}{H:Hp}{S:Addr->Prop}
end
section
variable{X:Cx}{a:Expr}{daa:TDA}{p p2 pos pos2:Pos}
end
end L2
end
section
namespace Sx
open PySem PySem.W PyProof.Rows
section
variable{n:Nat}(hn:0 < n)
include hn
end
section
variable{prog:Program}{w:World}{A:Around}{E:Value->Shared->Prop}{s:Shared}
end
end Sx
end
section
namespace L2
open PySem PySem.Spec PyProof.Rows
abbrev encT(t:List Int):PyData:=.tuple (t.map .int)
section
variable{prog:Program}{w:World}{A:Around}{E:Value->Shared->Prop}{s:Shared}
end
section
variable{K:W.Frag}{H:Hp}{S:Addr->Prop}
end
section
variable{X:Cx}
end
def d8g(da:TDA):TDE:=fun ρ Q=>da ρ fun xs ρ1=>need (a1f ρ1 xs) fun ds=>∃ tss:List (List Int),ds=[.list (tss.map encT)]/\(∀ t ∈ tss,t ≠ [])/\tss.length < 64/\∀ tss':List (List Int),tss'.Perm tss->Q (.d (.list (tss'.map encT))) ρ1
section
variable{K:W.Frag}
end
theorem c7w{da:TDA}{ρ:Rho}{Q:DV->Rho->Prop}:d8g da ρ Q=(da ρ fun xs ρ1=>need (a1f ρ1 xs) fun ds=>∃ tss:List (List Int),ds=[.list (tss.map encT)]/\(∀ t ∈ tss,t ≠ [])/\tss.length < 64/\∀ tss':List (List Int),tss'.Perm tss->Q (.d (.list (tss'.map encT))) ρ1):=rfl
section
variable{X:Cx}{e:Expr}{es:List Expr}{daa:TDA}{pos:Pos}
end
end L2
namespace Sn
instance stands:Nonempty Unit:=⟨()⟩
end Sn
end
section
namespace L2
open PySem PySem.Spec PyProof.Rows
end L2
end
section
namespace L2
open PySem PySem.Spec PyProof.Rows PySem.Builtin PySem.Builtin.Str
section
variable{X:Cx}
theorem b9i:∀ {ys:List Str} {us:List Value},Vals (ys.map V.str) us->StrsAre us ys
 | [],_,h=>by cases h;exact .nil
 | y :: ys,_,h=>by
  cases h with
  | cons r t =>
   obtain⟨k,rfl⟩:=r
   exact .cons y k (b9i t)
theorem b9j:∀ {ys:List Str} {us:List Value},StrsAre us ys->Vals (ys.map V.str) us
 | _,_,.nil=>.nil
 | _,_,.cons y k h=>.cons ⟨k,rfl⟩ (b9j h)
noncomputable def rJoin(K:W.Frag):V->List V->Hp->VK->Prop:=fun x vs H Q=>∃ (z:Str) (p:Addr) (ys:List Str),x=.str z/\vs=[.ref p]/\SqL K H p (ys.map V.str)/\z.length <= 16/\(ys.map (·.length)).sum + ys.length <= 1048576/\Q (.str (Txt.join z ys)) H
theorem d2w:MtM X "str.join" (rJoin X.K):=by
 intro pins s σ H x vs v us Q I rx rv h
 obtain⟨z,p,ys,rfl,rfl,hp,hz,hw,q⟩:=h
 obtain⟨t,rfl⟩:=rx
 obtain⟨u,rfl,r⟩:=vals1 rv
 cases r
 obtain⟨its,rs,⟨o,n,e,hc,hd,hda⟩,_⟩:=I.list hp
 exact join_listW (ys:=ys) (items:=its.toArray) ⟨o,e,hc,n,hda⟩ (b9i rs) hz hw fun t' k=>⟨.str _,H,I.tok _,⟨_,rfl⟩,q⟩
noncomputable def c4j:V->List V->Hp->VK->Prop:=fun x vs H Q=>∃ (z y:Str),x=.str z/\vs=[.str y]/\(y.length == 0)=false/\z.length <= 1000000/\∀ p,H p=none->Q (.ref p) (upd H p (.lst ((Txt.split z y).map V.str)))
theorem c4k{prog:Program}{w:World}{A:Around}{E:Value->Shared->Prop}{s:Shared}{x y:Str}{t u:Tok}{Q:Value->Shared->Prop}(hy:(y.length == 0)=false)(hz:x.length + 2 <= sizeLine)
  (h:∀ l k,l.map (·.1)=Txt.split x y->l.length <= sizeLine->Q (.ref s.heap.objs.size) { s with heap:=s.heap.push { cls:=.type "list",data:=.seq (strValues l).toArray },toks:=k }):wpAny (model prog w) A (call (.builtin "str.split") [.str x t,.str y u]) Q E s:=by
 have T:=typeIs_str s x t
 cases c:(decide (x.length < y.length) || decide (PySem.Builtin.Str.strKind x < PySem.Builtin.Str.strKind y)) with
 | true=>exact call_meets F.slot_str_split T F.entry_str_split (F.args_str_split_2 _ _) (meets_str_split_cannot_occur x y t u c) (h [(x,t)] s.toks (if_pos c).symm (by rw [sizeLine_eq];show 1 <= _;omega))
 | false =>
  have c0:¬ (decide (x.length < y.length) || decide (PySem.Builtin.Str.strKind x < PySem.Builtin.Str.strKind y))=true:=by rw [c];decide
  cases o:(occurrences x y 0 x.length (x.length + 1)).isEmpty with
  | true=>exact call_meets F.slot_str_split T F.entry_str_split (F.args_str_split_2 _ _) (meets_str_split_not_found x y t u c hy o) (h [(x,t)] s.toks ((if_neg c0).trans (if_pos o)).symm (by rw [sizeLine_eq];show 1 <= _;omega))
  | false =>
   have o0:¬ (occurrences x y 0 x.length (x.length + 1)).isEmpty=true:=by rw [o];decide
   have le:=StrLaws.occ_length_le x y 0 x.length (x.length + 1)
   have n0:(partsBetween x (occurrences x y 0 x.length (x.length + 1)) y.length).length <= sizeLine:=by
    rw [length_partsBetween];omega
   refine call_meets F.slot_str_split T F.entry_str_split (F.args_str_split_2 _ _) (meets_str_split_sep x y t u c hy o (by omega) n0) ?_
   have k:=h (numbered s.toks (partsBetween x (occurrences x y 0 x.length (x.length + 1)) y.length)) (s.toks + (partsBetween x (occurrences x y 0 x.length (x.length + 1)) y.length).length) ((numbered_texts _ _).trans ((if_neg c0).trans (if_neg o0)).symm) (by
    have e:=congrArg List.length (numbered_texts s.toks (partsBetween x (occurrences x y 0 x.length (x.length + 1)) y.length))
    rw [length_map] at e
    rw [e];exact n0)
   rw [← strsFrom_eq] at k
   exact k
theorem a9i:MtM X "str.split" c4j:=by
 intro pins s σ H x vs v us Q I rx rv h
 obtain⟨z,y,rfl,rfl,hy,hz,q⟩:=h
 obtain⟨t,rfl⟩:=rx
 obtain⟨u,rfl,r⟩:=vals1 rv
 obtain⟨k,rfl⟩:=r
 refine c4k hy (by rw [sizeLine_eq];omega) fun l tk e hl=>?_
 refine⟨.ref s.heap.objs.size,_,I.laid (a:=s.heap.objs.size) (o:=.lst ((Txt.split z y).map V.str)) (fun b o q=>get?_push_of_some _ q) (le_refl _) ?_,rfl,q _ (I.hok.fresh (le_refl _))⟩
 refine⟨?_,strValues l,0,?_,get?_push_size _ rfl⟩
 ·rw [length_map,← e,length_map];exact hl
 ·rw [← e]
  exact b9j (strsAre_of_values l)
noncomputable def c1b:List V->Hp->VK->Prop:=fun xs H Q=>∃ (x:Str) (n:Int),xs=[.str x]/\PySem.intText? x=some n/\x.length <= 640/\Q (.int n) H
theorem a3b:a1x X (.type "int") c1b:=by
 intro pins s σ H xs us Q I rs h
 obtain⟨x,n,rfl,hn,hl,q⟩:=h
 obtain⟨u,rfl,r⟩:=vals1 rs
 obtain⟨t,rfl⟩:=r
 exact PySem.W.KIN.call_text hn hl ⟨.int n,H,I.tok _,⟨_,rfl⟩,q⟩
end
end L2
end
section
namespace L2
open PySem PySem.Spec PyProof.Rows
section
variable{X:Cx}
end
end L2
end
section
namespace L2
open PySem PySem.Spec PyProof.Rows
noncomputable def Its(x:Str):It:=⟨fun i _=>i < x.cps.size,fun i H y H'=>H'=H/\∃ c,x.cps[i]? = some c/\y=.str ⟨#[c]⟩,fun i _=>x.cps.size <= i⟩
theorem c4l{P:Program}{w:World}{K:W.Frag}{tg:Expr}(it:Addr)(x:Str)(t:Tok):Turn P w K tg (Its x) [it] it (fun i h=>h.IsStrIter it "str_ascii_iterator" x t i) where
 mem:=by simp
 obj:=fun i h st b hb=>by
  have e:b=it:=by simpa using hb
  subst e
  obtain⟨o,e,c,d⟩:=st
  exact⟨o,e,fun v z=>by rw [d] at z;cases z⟩
 keep:=fun i h h' st k=>let ⟨o,ho,r⟩:=st;⟨o,k it (by simp) o ho,r⟩
 item:=by
  intro X hP hw hK hc i pins s σ H E I hf st hg
  subst hP hw hK
  obtain⟨f0,f1,f2,f3,f4,f5⟩:=hf it (by simp)
  refine(Walks.strAscii (prog:=X.prog) (w:=X.w) (I.ok.hd hc) it x t).item i s _ _ hg st fun v h' tk hv st' kk=>?_
  obtain⟨c,u,hcu,rfl⟩:=hv
  have I1:Inv X pins σ H { s with heap:=h',toks:=tk }:=I.turned (fun b o hb e=>kk b o (by simpa using hb) e) f0 f1 f3 f4 f5
  obtain⟨o,e,c1,d⟩:=id st'
  exact⟨_,rfl,b2d (s:={ s with heap:=h',toks:=tk }) e c1 d (by decide) ⟨.str ⟨#[c]⟩,H,I1,⟨u,rfl⟩,⟨rfl,c,hcu,rfl⟩,st',fun b hb=>(hf b hb).1⟩⟩
 done:=by
  intro X hP hw hK hc i pins s σ H E I hf st hg
  subst hP hw hK
  obtain⟨f0,f1,f2,f3,f4,f5⟩:=hf it (by simp)
  have hn:x.cps[i]? = none:=Array.getElem?_eq_none hg
  exact wpAny_pyNext_ascii_end (I.ok.hd hc) st hn fun h' eb=>⟨rfl,I.turned (t':=s.toks) (fun b o hb e=>eb b o hb e) f0 f1 f3 f4 f5⟩
 self:=fun _ _ _ _ _ st h=>wpAny_pyIter_striter_ascii st h
theorem c4m{P:Program}{w:World}{K:W.Frag}{tg:Expr}(it:Addr)(x:Str)(t:Tok):Turn P w K tg (Its x) [it] it (fun i h=>h.IsStrIter it "str_iterator" x t i) where
 mem:=by simp
 obj:=fun i h st b hb=>by
  have e:b=it:=by simpa using hb
  subst e
  obtain⟨o,e,c,d⟩:=st
  exact⟨o,e,fun v z=>by rw [d] at z;cases z⟩
 keep:=fun i h h' st k=>let ⟨o,ho,r⟩:=st;⟨o,k it (by simp) o ho,r⟩
 item:=by
  intro X hP hw hK hc i pins s σ H E I hf st hg
  subst hP hw hK
  obtain⟨f0,f1,f2,f3,f4,f5⟩:=hf it (by simp)
  refine(Walks.strWide (prog:=X.prog) (w:=X.w) (I.ok.hd hc) it x t).item i s _ _ hg st fun v h' tk hv st' kk=>?_
  obtain⟨c,u,hcu,rfl⟩:=hv
  have I1:Inv X pins σ H { s with heap:=h',toks:=tk }:=I.turned (fun b o hb e=>kk b o (by simpa using hb) e) f0 f1 f3 f4 f5
  obtain⟨o,e,c1,d⟩:=id st'
  exact⟨_,rfl,b2d (s:={ s with heap:=h',toks:=tk }) e c1 d (by decide) ⟨.str ⟨#[c]⟩,H,I1,⟨u,rfl⟩,⟨rfl,c,hcu,rfl⟩,st',fun b hb=>(hf b hb).1⟩⟩
 done:=by
  intro X hP hw hK hc i pins s σ H E I hf st hg
  subst hP hw hK
  obtain⟨f0,f1,f2,f3,f4,f5⟩:=hf it (by simp)
  have hn:x.cps[i]? = none:=Array.getElem?_eq_none hg
  exact wpAny_pyNext_wide_end (I.ok.hd hc) st hn fun h' eb=>⟨rfl,I.turned (t':=s.toks) (fun b o hb e=>eb b o hb e) f0 f1 f3 f4 f5⟩
 self:=fun _ _ _ _ _ st h=>wpAny_pyIter_striter_wide st h
section
variable{X:Cx}{tg:Expr}
def iStr(tl:TE):TI:=fun σ H R=>tl σ H fun x H1=>∃ z,x=.str z/\R (Its z) H1
theorem d8h{l:Expr}{tl:TE}(hl:PE X l tl):PI X tg l (iStr tl):=by
 intro pins s σ H R I h
 refine thn (hl pins s σ H _ I h) fun v s1 hq9=>?_
 obtain⟨x,H1,I1,r1,q1⟩:=hq9
 obtain⟨z,rfl,q⟩:=q1
 obtain⟨t,rfl⟩:=r1
 have fp:∀ b ∈ [s1.heap.objs.size],FpOk X pins H1 b:=fun b hb=>by
  have e:b=s1.heap.objs.size:=by simpa using hb
  subst e
  exact I1.fpOk (le_refl _) (I1.hok.fresh (le_refl _))
 cases ha:z.cps.all (· < 128) with
 | true=>exact wpAny_pyIter_ascii ha ⟨s1.heap.objs.size,[s1.heap.objs.size],_,_,H1,rfl,I1.kept (t':=s1.toks) fun b o e=>get?_push_of_some _ e,c4l _ z t,⟨_,get?_push_size _ rfl,rfl,rfl⟩,fp,q⟩
 | false=>exact wpAny_pyIter_wide ha ⟨s1.heap.objs.size,[s1.heap.objs.size],_,_,H1,rfl,I1.kept (t':=s1.toks) fun b o e=>get?_push_of_some _ e,c4m _ z t,⟨_,get?_push_size _ rfl,rfl,rfl⟩,fp,q⟩
end
abbrev signs(x:Str):List PyData:=x.cps.toList.map fun c=>.str ⟨#[c]⟩
noncomputable def asSt:PyData->Option Str
 | .str x=>some x
 | _=>none
theorem d8i{x:Str}:asSt (.str x)=some x:=rfl
def c1c(de:TDE):TDI:=fun ρ Q=>de ρ fun x ρ1=>need (a0h ρ1 x) fun d=>need (asSt d) fun z=>Q (signs z) ρ1
section
variable{K:W.Frag}{H:Hp}{S:Addr->Prop}
theorem c1d{z:Str}:b0b K S H (Its z) (signs z):=fun S' H' P=>by
 refine⟨fun i x e=>?_,by simp [Its]⟩
 rw [getElem?_map,Array.getElem?_toList] at e
 obtain⟨c,hc,rfl⟩:=map_eq_some_iff.mp e
 refine⟨(Array.getElem?_eq_some_iff.mp hc).1,fun v H'' y=>?_⟩
 obtain⟨rfl,c',hc',rfl⟩:=y
 rw [hc] at hc'
 cases hc'
 exact⟨Same.refl _,a2n _⟩
theorem d8j{t:TE}{de:TDE}(h:AdE K t de):AdI K (iStr t) (c1c de):=fun c O ρ σ H Qd Q R q k =>
 h c O ρ σ H _ _ R q fun x ρ1 O1 v H1 h1 R1 P1 a1=>by
  obtain⟨d,e1,hn1⟩:=ne (h1)
  obtain⟨z,e2,h2⟩:=ne (hn1)
  cases d with
  | str z' =>
   cases e2
   exact⟨z,(R1.top a1 e1).str,k _ _ _ _ _ h2 R1 P1 c1d⟩
  | _=>cases e2
end
theorem c4n{X:Cx}{tg e:Expr}{de:TDE}(h:DE X e de):DI X tg e (c1c de):=by obtain⟨_,p,a⟩:=h;exact⟨_,d8h p,d8j a⟩
theorem d2x{de:TDE}{ρ:Rho}{Q:List PyData->Rho->Prop}:c1c de ρ Q=(de ρ fun x ρ1=>need (a0h ρ1 x) fun d=>need (asSt d) fun z=>Q (signs z) ρ1):=rfl
noncomputable def leC(x y:Str):Bool:=decide (x.cps.toList <= y.cps.toList)
noncomputable def fLeS:F2
 | .str i,.str j=>some (.bool (leC i j))
 | _,_=>none
theorem d8k{x y:Str}:fLeS (.str x) (.str y)=some (.bool (leC x y)):=rfl
section
variable{X:Cx}
noncomputable def c9t(K:W.Frag):List V->Hp->VK->Prop:=fun xs H Q=>∃ v S,∃ bs:List Bool,xs=[v]/\AtD K H S (.list (bs.map .bool)) v/\Q (.bl (bs.all id)) H
theorem bools_of_all{K:W.Frag}{H:Hp}{S:Addr->Prop}:∀ {bs:List Bool} {xs:List V},a0b K H S (bs.map .bool) xs->xs=bs.map V.bl
 | [],xs,h=>by rw [h.unnil];rfl
 | n :: r,xs,h=>by
  obtain⟨v,vr,rfl,hd,t⟩:=h.uncons
  rw [a5k hd,bools_of_all t];rfl
theorem b2t:∀ {bs:List Bool} {us:List Value},Vals (bs.map V.bl) us->us=bs.map Value.bool
 | [],us,h=>by rw [Vals.zero h];rfl
 | x :: r,us,h=>by
  cases h with
  | cons h1 h2 =>
   rw [b2t h2,map_cons]
   congr 1
theorem b4r(hc:X.calm=true):a1x X (.builtin "all") (c9t X.K):=by
 intro pins s σ H xs us Q I rs h
 obtain⟨v,S,bs,rfl,hd,q⟩:=h
 obtain⟨u,rfl,r⟩:=vals1 rs
 obtain⟨a,ys,rfl,_,hq,t⟩:=a3r hd
 cases r
 have ey:=bools_of_all t
 subst ey
 obtain⟨its,rv,pl,hz⟩:=I.list (SqL.of hq)
 have ei:=b2t rv
 subst ei
 have la:a < s.heap.objs.size:=lt_size pl.isList.choose_spec.1
 refine call_all_walk (wpAny_pyIter_list pl.isList ⟨s.heap.objs.size,_,_,_,_,_,fun i=>bs.getD i true,rfl,Walks.list (by simpa using I.ok.hd hc) s.heap.objs.size a (ne_of_lt la) (bs.map Value.bool).toArray,⟨⟨_,get?_push_size _ rfl,rfl,rfl⟩,pl.isList.push _⟩,fun i v s' Q' E' hP hQ=>?_,fun h' tk hk=>?_⟩)
 ·have hP:(bs.map Value.bool).toArray[i]? = some v:=hP
  rw [List.getElem?_toArray,getElem?_map] at hP
  obtain⟨b,hb,rfl⟩:=map_eq_some_iff.mp hP
  have e:bs.getD i true=b:=by rw [List.getD_eq_getElem?_getD,hb];rfl
  have hQ:Q' (bs.getD i true) s':=hQ
  rw [e] at hQ
  exact wpAny_truthy_bool hQ
 ·have e:((List.range (bs.map Value.bool).toArray.size).all fun i=>bs.getD i true)=bs.all id:=by
   rw [size_toArray,length_map,Bool.eq_iff_iff,all_eq_true,all_eq_true]
   constructor
   ·intro h b hb
    obtain⟨i,hi,rfl⟩:=List.getElem_of_mem hb
    have:=h i (List.mem_range.mpr hi)
    rw [List.getD_eq_getElem?_getD,getElem?_eq_getElem hi] at this
    exact this
   ·intro h i hi
    have hi':=List.mem_range.mp hi
    rw [List.getD_eq_getElem?_getD,getElem?_eq_getElem hi']
    exact h _ (List.getElem_mem hi')
  rw [e]
  refine⟨.bl _,H,I.kept fun b o e=>hk b o ?_ (get?_push_of_some _ e),rfl,q⟩
  rw [mem_singleton]
  exact ne_of_lt (lt_size e)
end
noncomputable def a7h:List PyData->Option (List Bool)
 | []=>some []
 | .bool b :: r=>(a7h r).map (b :: ·)
 | _ :: _=>none
theorem b4s:∀ bs:List Bool,a7h (bs.map .bool)=some bs
 | []=>rfl
 | x :: r=>by show(a7h (r.map .bool)).map (x :: ·)=_;rw [b4s r];rfl
theorem b2u:∀ {xs:List PyData} {bs:List Bool},a7h xs=some bs->xs=bs.map .bool
 | [],bs,h=>by cases h;rfl
 | .bool x :: r,bs,h=>by
  have h':(a7h r).map (x :: ·)=some bs:=h
  obtain⟨qs,h1,rfl⟩:=map_eq_some_iff.mp h'
  rw [b2u h1];rfl
noncomputable def c1e:FC:=fun ds=>match ds with
 | [.list xs]=>(a7h xs).map fun bs=>.bool (bs.all id)
 | _=>none
theorem c7x(bs:List Bool):c1e [.list (bs.map .bool)]=some (.bool (bs.all id)):=by
 show(a7h (bs.map .bool)).map _=_
 rw [b4s];rfl
theorem d2y{K:W.Frag}:AdC K (c9t K) c1e:=by
 intro S H vs ds z Q f h e k
 unfold c1e at e
 split at e
 ·rename_i xs
  obtain⟨bs,q1,rfl⟩:=map_eq_some_iff.mp e
  obtain⟨v,rfl,h1⟩:=h.one
  have e1:=b2u q1
  subst e1
  exact⟨v,Any,bs,rfl,h1.any,k _ _ (Same.refl _) (a0z _)⟩
 ·cases e
end L2
end
section
namespace L2
open PySem PySem.Spec PyProof.Rows
section
variable{X:Cx}
end
end L2
end
section
namespace L2
open PySem PySem.Spec PyProof.Rows
noncomputable def rSlS:V->Option Int->Option Int->Hp->VK->Prop:=fun x lo hi H Q=>∃ z,x=.str z/\z.length <= sizeLine/\Q (.str (Txt.slice z lo hi)) H
theorem b4t{v:Value}{o:Option Int}(h:IsPart v o):∃ p:Option (Int × Tok),v=partValue p/\p.map (·.1)=o:=by
 cases h with
 | none=>exact⟨none,rfl,rfl⟩
 | int i t=>exact⟨some (i,t),rfl,rfl⟩
theorem c4o{X:Cx}:SlR X rSlS:=by
 intro pins s σ H x v vl vu lo hi sl Q I rx hs pl pu h
 obtain⟨z,rfl,hz,q⟩:=h
 obtain⟨t,rfl⟩:=rx
 obtain⟨l,rfl,rfl⟩:=b4t pl
 obtain⟨u,rfl,rfl⟩:=b4t pu
 obtain⟨o,ho,hc,hd⟩:=hs
 refine⟨"str",_,PySem.F.slot_str_getitem.lookup,typeIs_str _ _ _,wpAny_getItem_str_slice (l:=l) (u:=u) (st:=none) ⟨o,ho,hc,hd⟩ rfl ?_⟩
 exact post_val_or_str ⟨le_trans (Txt.slice_le z _ _) hz,fun t' k=>⟨.str _,H,I.tok k,⟨t',rfl⟩,q⟩⟩
noncomputable def fSlS:FSl
 | .str z,lo,hi=>if z.length <= sizeLine then some (.str (Txt.slice z lo hi)) else none
 | _,_,_=>none
theorem c4p{z:Str}{lo hi:Option Int}(h:z.length <= sizeLine):fSlS (.str z) lo hi=some (.str (Txt.slice z lo hi)):=if_pos h
theorem c4q{K:W.Frag}:AdSl K rSlS fSlS:=by
 intro S H x d z lo hi Q f hx e k
 unfold fSlS at e
 split at e
 ·split at e
  ·rename_i hz
   cases e
   exact⟨_,hx.str,hz,k _ _ (Same.refl _) (a2n _)⟩
  ·cases e
 ·cases e
theorem b5c(l:Addr)(items:Array Value)(n:Nat)(b:Addr)(items2:Array Value)(n2:Nat)(hc0:(items.size != items2.size)=true) :
  Meets (Builtin.«list.__eq__» ⟨[.ref l,.ref b],[]⟩) (fun _ R s=>s.heap.get? l=some ⟨.type "list",none,.seq items n,#[]⟩/\s.heap.get? b=some ⟨.type "list",none,.seq items2 n2,#[]⟩/\R (.ok (.ret (Value.bool false))) { s with heap:=s.heap,toks:=s.toks }):=
 .of_wp fun prog w A R s h=>by
  obtain⟨hp,g,d,tk,os⟩:=s;obtain⟨hl,hb,h⟩:=h;have f3:=AutoSeq1.sub_list_list
  wp_walk using wpAny_loadPart' hl,wpAny_loadPart' hb
  exact⟨_,rfl,h⟩
section
variable{X:Cx}
def rEqS:R2:=fun x y H Q=>∃ a b vs,x=.ref a/\y=.ref b/\H a=some (.lst vs)/\vs ≠ []/\H b=some (.lst [])/\Q (.bl false) H
theorem d8l(hu:X.A.units + 64 < cLine):OpR X (compareOp .Eq) rEqS:=by
 intro pins s σ H x y v u Q I rx ry h
 obtain⟨a,b,vs,rfl,rfl,ha,hne,hb,q⟩:=h
 cases rx;cases ry
 obtain⟨z,its,n,r,hl,e⟩:=I.lstM ha
 obtain⟨z2,its2,n2,r2,hl2,e2⟩:=I.lstM hb
 have h2:its2=[]:=r2.zero
 subst h2
 have hs:(its.toArray.size != (#[]:Array Value).size)=true:=by
  cases its with
  | nil=>exact absurd (List.length_eq_zero_iff.mp (by rw [hl];rfl)) hne
  | cons _ _=>simp
 have main:wpAny (model X.prog X.w) X.A (richCompare .Eq (.ref a) (.ref b)) (EP X pins σ Q) X.xe s:=
  richCompare_meets_room (op:=.Eq) ⟨_,e,rfl⟩ ⟨_,e2,rfl⟩ PySem.F.slot_list_eq PySem.F.entry_list_eq (PySem.F.args_list_eq_2 _ _) (b5c a its.toArray n b #[] n2 hs) ⟨e,e2,by nofun,.bl false,H,I,rfl,q⟩ (by omega)
 exact main
end
noncomputable def fEqN:F2:=fun x y=>match x,y with
 | .list xs,.list []=>some (.bool xs.isEmpty)
 | _,_=>none
theorem d8m{xs:List PyData}:fEqN (.list xs) (.list [])=some (.bool xs.isEmpty):=rfl
theorem d8n{K:W.Frag}:AdR K (fun x y H Q=>rEqS x y H Q ∨ rEqD K false x y H Q) fEqN:=by
 intro S H x y dx dy z Q f hx hy e k
 unfold fEqN at e
 split at e
 ·rename_i xs
  cases e
  obtain⟨b,ws2,rfl,h3,h4⟩:=hy.list
  cases h4.unnil
  cases xs with
  | nil=>exact .inr ⟨Any,Any,.list [],.list [],hx.any,hy.any,by decide,by decide,k _ _ (Same.refl _) (a0z _)⟩
  | cons d r =>
   obtain⟨a,ws,rfl,h1,h2⟩:=hx.list
   refine .inl ⟨a,b,ws,rfl,rfl,h1,?_,h3,k _ _ (Same.refl _) (a0z _)⟩
   rintro rfl
   have:=h2.length
   cases this
 ·cases e
end L2
end
section
namespace L2
open PySem PySem.Spec PyProof.Rows
structure PinK(K:W.Frag)(c:Rc)(p:Addr)(ν:List (Key × V))(i:Nat)(O:Own)(ρ:Rho)(σ:St)(H:Hp):Prop where
 rel:Rel K (c.reb O p H) O ρ σ H
 at_:H p=some (.dK ν)
 slot:σ[i]? = some (some (.ref p))
 nul:ρ[i]? = some none
 bA:∀ j q,O j=some q->c.A q
 bS:∀ b o,¬ c.M b->c.H0 b=some o->H b=some o
 bK:∀ b,c.H0 b ≠ none->H b ≠ none
 bM:∀ q,c.M q->∃ vs,H q=some (.lst vs)
 am:∀ q,c.A q->c.M q ∨ c.H0 q=none
 frs:∀ q,c.H0 q=none->c.S q
 fr0:c.H0 p=none
 np:¬ c.P p
section
variable{K:W.Frag}{c:Rc}{O O1:Own}{ρ ρ1:Rho}{σ σ1:St}{H H1 H2:Hp}{p:Addr}{ν μ:List (Key × V)}{i:Nat}
end
section
variable{K:W.Frag}
end
section
variable{X:Cx}{iter kE vE tg:Expr}{rest:List Stmt}{di:TDI}{dg:TDG}{dk dv:TDE}{du:TDS}{x y z:Str}{pos p1 p2 p3 p4 p5 p6 p7 p8 p9 p10 p11 p12 p13:Pos}
end
section
variable{X:Cx}
end
end L2
end
section
namespace L2
open PySem PySem.Spec PyProof.Rows
open AutoSeq1 (wpAny_loadPart')
section
variable{X:Cx}
end
section
variable{K:W.Frag}
def dExtL(i:Nat)(de:TDE):TDE:=fun ρ Q=>need (ownB ρ i) fun _=>de ρ fun x ρ1=>need (a0h ρ1 x) fun dx=>∃ ys,dx=.list ys/\need (ownB ρ1 i) fun o=>o.2.length + ys.length <= 1000000/\Q (.d .none) (ρ1.set i (some (okL o.1 (o.2 ++ ys))))
end
section
variable{X:Cx}{e:Expr}{de:TDE}{pos:Pos}
theorem d2z{i:Nat}{ρ:Rho}{Q:DV->Rho->Prop}{d1:TDE}:dExtL i d1 ρ Q=need (a2u (ρ[i]?.join)) fun _=>d1 ρ fun x ρ1=>need (a0h ρ1 x) fun dx=>∃ ys,dx=.list ys/\need (a2u (ρ1[i]?.join)) fun o=>o.2.length + ys.length <= 1000000/\Q (.d .none) (ρ1.set i (some (okL o.1 (o.2 ++ ys)))):=rfl
end
end L2
end
section
namespace L2
open PySem PySem.Spec PyProof.Rows
section
variable{X:Cx}
open Classical in
end
end L2
end
section
namespace L2
open PySem PySem.Spec PyProof.Rows
section
variable{X:Cx}{pins:List (Addr × Obj)}{σ:List (Option V)}{H:Hp}{s:Shared}
end
end L2
end
section
namespace L2
open PySem PySem.Spec PyProof.Rows
section
variable{fs:List Bool}{y:PyData}{i n:Nat}{ys:List DV}{ρ:Rho}{QLs:List L->Rho->Prop}
theorem d3a:pass (false :: fs) (.d y :: ys) ρ QLs=fzL ρ (.d y) fun l ρ1=>pass fs ys ρ1 fun ls ρ2=>QLs (l :: ls) ρ2:=rfl
theorem d3b:pass (false :: fs) (.sl i :: ys) ρ QLs=fzL ρ (.sl i) fun l ρ1=>pass fs ys ρ1 fun ls ρ2=>QLs (l :: ls) ρ2:=rfl
theorem d3c:flOf n [] []=[]:=rfl
theorem d3d:flOf n (false :: fs) (.d y :: ys)=flOf (n + 1) fs ys:=rfl
theorem d3e:flOf n (false :: fs) (.sl i :: ys)=flOf (n + 1) fs ys:=rfl
end
end L2
end
section
namespace L2
open PySem PySem.Spec PyProof.Rows
section
open PySem.SeqAt PySem.MeetsSeq
variable{A:Around}{s:Shared}
end
section
variable{X:Cx}
open Classical in
end
section
variable{X:Cx}
open Classical in
end
section
variable{X:Cx}
end
section
variable{X:Cx}
end
section
variable{K:W.Frag}
theorem b1w{H:Hp}{S:Addr->Prop}:∀ {ss:List Str} {xs:List V},a0b K H S (ss.map .str) xs->xs=ss.map V.str
 | [],xs,h=>by rw [h.unnil];rfl
 | n :: r,xs,h=>by
  obtain⟨v,vr,rfl,hd,t⟩:=h.uncons
  rw [a8e hd,b1w t];rfl
variable{X:Cx}{e1:Expr}{daa:TDA}{pos:Pos}
variable{d1:TDE}{da:TDA}{ρ:Rho}{Q:DV->Rho->Prop}
end
end L2
end
section
namespace L2
open PySem PySem.Spec PyProof.Rows
def rTin(neg:Bool):R2:=fun x y H Q=>∃ a b:Str,x=.str a/\y=.str b/\Q (.bl (if neg then !Txt.contains b a else Txt.contains b a)) H
noncomputable def fTin(neg:Bool):F2:=fun dx dy=>match dx,dy with
 | .str a,.str b=>some (.bool (if neg then !Txt.contains b a else Txt.contains b a))
 | _,_=>none
section
variable{X:Cx}{K:W.Frag}
theorem d8o:OpR X (compareOp .In) (rTin false):=by
 intro pins s σ H x y v u Q I rx ry h
 obtain⟨a,b,rfl,rfl,q⟩:=h
 obtain⟨t,rfl⟩:=rx
 obtain⟨t',rfl⟩:=ry
 exact SB.contains ⟨.bl _,H,I,rfl,q⟩
theorem d3f:OpR X (compareOp .NotIn) (rTin true):=by
 intro pins s σ H x y v u Q I rx ry h
 obtain⟨a,b,rfl,rfl,q⟩:=h
 obtain⟨t,rfl⟩:=rx
 obtain⟨t',rfl⟩:=ry
 exact SB.notContains ⟨.bl _,H,I,rfl,q⟩
theorem c4r{neg:Bool}:AdR K (rTin neg) (fTin neg):=by
 intro S H x y dx dy z Q f hx hy e k
 unfold fTin at e
 split at e
 ·cases e
  exact⟨_,_,hx.str,hy.str,k _ _ (Same.refl _) (a0z _)⟩
 ·cases e
noncomputable def b0y(z:Str):FC:=fun ds=>match ds with
 | [.list xs]=>(a9h xs).bind fun ss=>if z.length <= 16/\(ss.map (·.length)).sum + ss.length <= 1048576 then some (.str (Txt.join z ss)) else none
 | _=>none
theorem b3o{z:Str}{ss:List Str}(h1:z.length <= 16)(h2:(ss.map (·.length)).sum + ss.length <= 1048576):b0y z [.list (ss.map .str)]=some (.str (Txt.join z ss)):=by
 show((a9h (ss.map .str)).bind _)=_
 rw [b7j]
 exact if_pos ⟨h1,h2⟩
def c1f(dd:TDE)(da:TDA):TDE:=fun ρ Q=>dd ρ fun x ρ1=>need (a0h ρ1 x) fun dx=>∃ z:Str,dx=.str z/\da ρ1 fun ys ρ2=>need (a1f ρ2 ys) fun ds=>need (b0y z ds) fun r=>Q (.d r) ρ2
theorem d3g{td:TE}{ta:TA}{dd:TDE}{da:TDA}(hd:AdE K td dd)(ha:AdA K ta da):AdE K (tBM K "str" (rJoin K) td ta) (c1f dd da):=by
 intro c O ρ σ H Qd Q R h k
 refine hd c O ρ σ H _ _ R h fun x ρ1 O1 v H1 h1 R1 P1 a1=>?_
 obtain⟨dx,e1,hn6⟩:=ne (h1)
 obtain⟨z,rfl,h1⟩:=hn6
 have ev:=(R1.top a1 e1).str
 subst ev
 refine⟨rfl,ha c O1 ρ1 σ H1 _ _ R1 h1 fun ys ρ2 O2 vs H2 h2 R2 P2 a2=>?_⟩
 obtain⟨ds,e3,hn9⟩:=ne (h2)
 obtain⟨r,e4,h2⟩:=ne (hn9)
 have t2:=R2.tops a2 e3
 unfold b0y at e4
 split at e4
 ·rename_i xs
  obtain⟨ss,q1,q2⟩:=Option.bind_eq_some_iff.mp e4
  split at q2
  ·rename_i hl
   cases q2
   have e5:=b4p q1
   subst e5
   obtain⟨v1,rfl,h7⟩:=t2.one
   obtain⟨b,vs1,rfl,hb,hall⟩:=h7.list
   have e6:=b1w hall
   subst e6
   exact⟨z,b,ss,rfl,rfl,SqL.of hb,hl.1,hl.2,k _ _ _ _ _ h2 R2 (P1.trans P2) (show AtD K H2 (live c O2) (.str _) (.str _) from a2n _)⟩
  ·cases q2
 ·cases e4
def b7l(dd:TDE)(da:TDA):TDF:=fun ρ Q=>dd ρ fun x ρ1=>need (a0h ρ1 x) fun dx=>∃ z:Str,dx=.str z/\z.length <= 1000000/\da ρ1 fun ys ρ2=>need (a1f ρ2 ys) fun ds=>∃ y:Str,ds=[.str y]/\(y.length == 0)=false/\Q ((Txt.split z y).map .str) ρ2
theorem all_strs{H:Hp}{S:Addr->Prop}:∀ {ss:List Str},a0b K H S (ss.map .str) (ss.map V.str)
 | []=>.nil
 | s :: r=>.cons (a2n _) all_strs
theorem c7y{td:TE}{ta:TA}{dd:TDE}{da:TDA}(hd:AdE K td dd)(ha:AdA K ta da):AdF K (tBM K "str" c4j td ta) (b7l dd da):=by
 intro c O ρ σ H Qd Q R h k
 refine hd c O ρ σ H _ _ R h fun x ρ1 O1 v H1 h1 R1 P1 a1=>?_
 obtain⟨dx,e1,hn6⟩:=ne (h1)
 obtain⟨z,rfl,hz,h1⟩:=hn6
 have ev:=(R1.top a1 e1).str
 subst ev
 refine⟨rfl,ha c O1 ρ1 σ H1 _ _ R1 h1 fun ys ρ2 O2 vs H2 h2 R2 P2 a2=>?_⟩
 obtain⟨ds,e3,hn9⟩:=ne (h2)
 obtain⟨y,rfl,hy,h2⟩:=hn9
 obtain⟨v1,rfl,h7⟩:=(R2.tops a2 e3).one
 have ev:=h7.str
 subst ev
 refine⟨z,y,rfl,rfl,hy,hz,fun p hp=>?_⟩
 obtain⟨R3,P3,f3,a4⟩:=R2.newL hp (all_strs (K:=K) (H:=H2) (S:=live c O2) (ss:=Txt.split z y))
 exact k _ _ _ _ _ _ h2 R3 ((P1.trans P2).trans P3) f3 a0c a4
noncomputable def c1g:FC:=fun ds=>match ds with
 | [.str x]=>if x.length <= 640 then(PySem.intText? x).map .int else none
 | _=>none
theorem b0z:AdC K c1b c1g:=by
 intro S H vs ds z Q f h e k
 unfold c1g at e
 split at e
 ·split at e
  ·rename_i x hl
   obtain⟨n,e1,e2⟩:=map_eq_some_iff.mp e
   subst e2
   obtain⟨v,rfl,h1⟩:=h.one
   rw [h1.str]
   exact⟨x,n,rfl,e1,hl,k _ _ (Same.refl _) (a2d _)⟩
  ·cases e
 ·cases e
noncomputable def b5x:FC:=fun ds=>match ds with
 | [.int i]=>@ite _ (i.natAbs.log2 < 1920) (Classical.propDecidable _) (some (.str (toString i))) none
 | _=>none
theorem d3h{i:Int}(h:i.natAbs.log2 < 1920):b5x [.int i]=some (.str (toString i)):=@if_pos _ (Classical.propDecidable _) h _ _ _
theorem b1a:AdC K (fun xs H Q=>∃ i,xs=[.int i]/\i.natAbs.log2 < 1920/\Q (.str (toString i)) H) b5x:=by
 intro S H vs ds z Q f h e k
 unfold b5x at e
 split at e
 ·rename_i i
  by_cases hz:i.natAbs.log2 < 1920
  ·rw [@if_pos _ (Classical.propDecidable _) hz] at e
   cases e
   obtain⟨v,rfl,h1⟩:=h.one
   rw [h1.int]
   exact⟨i,rfl,hz,k _ _ (Same.refl _) (a2n _)⟩
  ·rw [@if_neg _ (Classical.propDecidable _) hz] at e
   cases e
 ·cases e
theorem b3p{o e1:Expr}{dd:TDE}{daa:TDA}{p2 pos:Pos}(ho:DE X o dd)(ha:DA X [e1] daa)
  (hbase:attributeBase o "join" X.env (eval o X.env)=eval o X.env:=by rfl)
  (hfew:((backTo pos (starEach [e1] X.env)).all (fun x=>!x.1) && (backToKw pos (keywordEach [] X.env)).all (fun x=>x.1.isSome) && decide ([e1].length + ([]:List Keyword).length + (if ([]:List Keyword).isEmpty then 0 else 1) < 30))=true:=by rfl)
  (hline:(p2.endLine == pos.line)=true:=by rfl) (hs:starEach [e1] X.env=(false,eval e1 X.env) :: starEach [] X.env:=by rfl) (hpl:(backTo pos (starEach [] X.env)).any (·.1)=false:=by rfl):DE X (.Call (.Attribute o "join" p2) [e1] [] pos) (c1f dd daa):=by
 obtain⟨_,pd,ad⟩:=ho
 obtain⟨_,pa,aa⟩:=ha
 exact⟨_,a7m PySem.F.plainAttrs_str PySem.F.slot_str_join PySem.F.type_str_join d2w pd pa hbase hfew hline hs hpl,d3g ad aa⟩
theorem a7i{o e1:Expr}{dd:TDE}{daa:TDA}{p2 pos:Pos}(ho:DE X o dd)(ha:DA X [e1] daa)
  (hbase:attributeBase o "split" X.env (eval o X.env)=eval o X.env:=by rfl)
  (hfew:((backTo pos (starEach [e1] X.env)).all (fun x=>!x.1) && (backToKw pos (keywordEach [] X.env)).all (fun x=>x.1.isSome) && decide ([e1].length + ([]:List Keyword).length + (if ([]:List Keyword).isEmpty then 0 else 1) < 30))=true:=by rfl)
  (hline:(p2.endLine == pos.line)=true:=by rfl) (hs:starEach [e1] X.env=(false,eval e1 X.env) :: starEach [] X.env:=by rfl) (hpl:(backTo pos (starEach [] X.env)).any (·.1)=false:=by rfl):DF X (.Call (.Attribute o "split" p2) [e1] [] pos) (b7l dd daa):=by
 obtain⟨_,pd,ad⟩:=ho
 obtain⟨_,pa,aa⟩:=ha
 exact⟨_,a7m PySem.F.plainAttrs_str PySem.F.slot_str_split PySem.F.type_str_split a9i pd pa hbase hfew hline hs hpl,c7y ad aa⟩
theorem d3i{x:Str}{i:Str}{pos:Pos}(hg:Gl X x)(hm:∃ t,X.mg x=some (.str i t)) (hd:(x == ("__debug__" : Str))=false:=by decide):DE X (.Name x pos) (dC (.str i)):=by
 obtain⟨t,hm⟩:=hm
 exact⟨_,a2v hg hm (v:=.str i) ⟨t,rfl⟩ hd,ad_c fun _ _=>a2n i⟩
variable{ρ:Rho}{d1:TDE}{da:TDA}
theorem d3j{Q:DV->Rho->Prop}:c1f d1 da ρ Q=d1 ρ fun x ρ1=>need (a0h ρ1 x) fun dx=>∃ z:Str,dx=.str z/\da ρ1 fun ys ρ2=>need (a1f ρ2 ys) fun ds=>need (b0y z ds) fun r=>Q (.d r) ρ2:=rfl
theorem c7z{Q:List PyData->Rho->Prop}:b7l d1 da ρ Q=d1 ρ fun x ρ1=>need (a0h ρ1 x) fun dx=>∃ z:Str,dx=.str z/\z.length <= 1000000/\da ρ1 fun ys ρ2=>need (a1f ρ2 ys) fun ds=>∃ y:Str,ds=[.str y]/\(y.length == 0)=false/\Q ((Txt.split z y).map .str) ρ2:=rfl
end
theorem occ_none{s sub:Str}{lo hi limit:Nat}(h:∀ i,Builtin.Str.subAt s sub i=false):Builtin.Str.occurrences s sub lo hi limit=[]:=by
 unfold Builtin.Str.occurrences
 simp only [h,Bool.and_false,Bool.false_eq_true,if_false]
 have key:∀ (l:List Nat) (p:Array Nat × Nat),List.foldl (fun(b:Array Nat × Nat) (_:Nat)=>(b.fst,b.snd)) p l=p:=by
  intro l
  induction l with
  | nil=>intro p;rfl
  | cons a l ih=>intro p;exact ih p
 simp [key]
theorem c4s{c:Nat} (h:Txt.contains "0123456789" ⟨#[c]⟩=true):48 <= c/\c <= 57:=by
 have e:(Str.ofString "0123456789").cps = #[48,49,50,51,52,53,54,55,56,57]:=by decide +kernel
 by_cases hc:48 <= c/\c <= 57
 ·exact hc
 exfalso
 have hs:∀ i,Builtin.Str.subAt "0123456789" ⟨#[c]⟩ i=false:=fun i=>by
  unfold Builtin.Str.subAt
  rw [e]
  show(Array.extract #[48,49,50,51,52,53,54,55,56,57] i (i + 1) == #[c])=false
  match i with
  | 0 | 1 | 2 | 3 | 4 | 5 | 6 | 7 | 8 | 9=>simp;omega
  | i + 10=>simp
 unfold Txt.contains at h
 rw [occ_none hs] at h
 cases h
end L2
end
section
namespace L2
open PySem PySem.Spec PyProof.Rows
theorem c1h{pos:Pos}{a b:Int}{c v:Value}(l:List Value)(h:TriplesOk l)(hv:codeAmong pos (l ++ [rawInt a,rawInt b,c])=some v):codeAmong pos l=some v ∨ v=c:=by
 fun_induction TriplesOk l with
 | case1 =>
  simp only [List.nil_append,codeAmong,rawInt] at hv
  split at hv
  ·exact .inr (Option.some.inj hv).symm
  ·cases hv
 | case2 a t b u x rest ih =>
  simp only [List.cons_append,codeAmong] at hv ⊢
  split at hv
  ·rename_i hc;rw [if_pos hc];exact .inl hv
  ·rename_i hc;rw [if_neg hc];exact ih h hv
 | case3 l h1 h2=>exact h.elim
abbrev a8l(q:Str)(params:Arguments)(body:Expr)(scope:Scope)(cl:List (Str × Addr))(pm:Value)(c:Addr)(ct:Value):Obj:=PySem.W.kla_obj "<lambda>" q params body scope cl pm c ct
abbrev c9u(q:Str)(params:Arguments)(body:Expr)(scope:Scope)(cl:List (Str × Addr))(pm:Value)(c:Addr)(ct:Value):FuncData:=PySem.W.kla_fn "<lambda>" q params body scope cl pm (.ref c) ct
def Lam(H:Hp)(f:Addr)(q:Str)(params:Arguments)(body:Expr)(scope:Scope)(cl:List (Str × Addr))(pm:Value)(c:Addr)(ct:Value):Prop:=
 H f=some (.frz (a8l q params body scope cl pm c ct) (.own f))/\∃ oc vs t,H c=some (.frz oc (.own c))/\oc.data=.fields vs/\vs[1]? = some (.str q t)
section
variable{H H':Hp}{f c:Addr}{q:Str}{params:Arguments}{body:Expr}{scope:Scope}{cl:List (Str × Addr)}{pm ct:Value}
theorem Lam.keep{S:Addr->Prop}(L:Lam H f q params body scope cl pm c ct)(k:Keep S H H'):Lam H' f q params body scope cl pm c ct:=
 by obtain⟨h,oc,vs,t,e,r⟩:=L;exact⟨k.2.1 _ _ _ h,oc,vs,t,k.2.1 _ _ _ e,r⟩
theorem d8p{CX:CXT}{P:Program}{w:World}{K:W.Frag}{mg:Str->Option Value}{base:Heap}{k:Nat}{N ps:List Str}{sp:Sp}(S:FnScope N ps scope)(len:∀ vs H Q E,sp vs H Q E->vs.length=ps.length)
  (hbody:∀ (A:Around) (outer:List Env) (s:Shared) (H:Hp) (vs:List V) (Q:VK) (E:XK),Room k (A.deeper (envOfC q scope s.heap.objs.size f (.ref c)))->sp vs H Q E ->
   ∃ t,PE (cxOf CX P w K mg base N q scope f (.ref c) A outer s H E) body t/\t (start N vs) H Q) :
  FnOk P w K mg base CX (k + 1) f (c9u q params body scope [] pm c ct) ps (fun vs H Q E=>Lam H f q params body scope [] pm c ct/\sp vs H Q E):=by
 refine⟨fun vs H Q E h=>len _ _ _ _ h.2,fun A outer s H args us vs Q E hr e0 hb r hsp=>?_⟩
 obtain⟨⟨hf,oc,vc,tc,hc,hd,hv⟩,hsp⟩:=hsp
 have hl:=len _ _ _ _ hsp
 have lim:s.heap.NoLimit:=e0.mod.nolimit.keeps fun b o e=>(e0.bs b o e).1
 have ef:s.heap.get? f=some (a8l q params body scope [] pm c ct):=(e0.hok f _ hf).1
 have ec:s.heap.get? c=some oc:=(e0.hok c _ hc).1
 have hkind:∀ y ∈ ps.zip us,scope.names.lookup y.1=some .local ∨ (scope.names.lookup y.1=some .cell/\((cellsFrom (s.heap.objs.size + 1) scope.names []).lookup y.1).isSome=true):=fun⟨n,v⟩ hy=>by
  rcases S.par n (of_mem_zip hy).1 with q | q
  ·exact .inl q
  ·exact .inr ⟨q,PySem.W.cellsFrom_some _ _ _ (.inl q)⟩
 refine PySem.W.kla_callFunE hr.depth ef rfl S.co S.gen rfl ⟨c,oc,vc,tc,rfl,ec,hd,hv⟩ (hb _ _ _ _ ?_)
 refine wpAny_newFunctionEnv_cells S.kind hkind fun env he s1 x=>?_
 subst he
 refine⟨lim.keeps x.toInCall.keep,PySem.W.kla_codeExpr ?_⟩
 obtain⟨t,ht,hq⟩:=hbody A outer s H vs Q E (hr.deeper _) hsp
 have I:Inv (cxOf CX P w K mg base N q scope f (.ref c) A outer s H E) [] (start N vs) H s1:=b4g S hr.hd e0 hl r x
 refine wpAny_mono (ht [] s1 (start N vs) H _ I hq) (fun u s' hs=>?_) fun e s' hs=>hs
 obtain⟨v,H',J,rv,q⟩:=hs
 exact⟨v,H',J.os,J.bare,J.base,J.hok,rv,q⟩
end
section
variable{X:Cx}{x:Str}{i k:Nat}{f:Addr}{o:Obj}{fd:FuncData}{ps:List Str}{sp:Sp}{CX:CXT}{E:XK}{e:Expr}{es:List Expr}{t:TA}{p pos:Pos}
def d8q(i:Nat)(f:Addr)(o:Obj)(sp:Sp)(E:XK)(t:TA):TE:=fun σ H Q=>σ[i]? = some (some (.ref f))/\t σ H fun vs H1=>H1 f=some (.frz o (.own f))/\sp vs H1 Q E
theorem c8a(F:FnOk X.prog X.w X.K X.mg X.base CX k f fd ps sp)(hr:Room k X.A)(hN:X.N[i]? = some x)(hb:Binds X.K fd ps [])(hx:a4f CX X E)(hfo:∃ g,o.data=.func g)(ha:PA X (e :: es) t)
  (hv:Vis X.env.scope x:=by first | exact Or.inl rfl | exact Or.inr (Or.inl rfl) | exact Or.inr (Or.inr rfl)) (hd:(x == ("__debug__" : Str))=false:=by decide) (hcd:(x == ("__classdict__" : Str))=false:=by decide)
  (he:starEach (e :: es) X.env=(false,eval e X.env) :: starEach es X.env:=by rfl) (hpl:(backTo pos (starEach es X.env)).any (·.1)=false:=by rfl) :
  PE X (.Call (.Name x p) (e :: es) [] pos) (d8q i f o sp E t):=by
 intro pins s σ H Q I h
 obtain⟨e1,h⟩:=h
 obtain⟨m,hn,hl⟩:=I.loc
 obtain⟨u,r,l⟩:=hl i x (.ref f) hN e1 hv
 obtain rfl:u=Value.ref f:=r
 obtain⟨g,hg⟩:=hfo
 have fin:wpAny (model X.prog X.w) X.A (callWith pos (.ref f) [] (backTo pos (starEach (e :: es) X.env)) (backToKw pos (keywordEach [] X.env))) (EP X pins σ Q) X.xe s:=by
  have h2:wpAny (model X.prog X.w) X.A (spliced (backTo pos (starEach (e :: es) X.env))) (fun vs s₁=>s₁.heap.get? f=some o/\wpAny (model X.prog X.w) X.A (call (.ref f) ([] ++ vs)) (EP X pins σ Q) X.xe s₁) X.xe s:=
   thn (ha pos pins s σ H _ I h) fun us s1 ⟨vs,H1,I1,r,q⟩=>⟨(I1.hok f _ q.1).1,b2h F hr hb .nil hx I1 r (by rw [append_nil];exact q.2)⟩
  rw [he] at h2 ⊢
  refine PySem.W.callWith_of (P:=fun h=>h.get? f=some o) (by show((false || (backTo pos (starEach es X.env)).any (·.1)) || false)=false;rw [hpl];rfl) (fun h q=>⟨.frame,.inl rfl,?_⟩) (Calls.evalArgs_plain h2)
  obtain⟨oc,od,odt,osl⟩:=o
  obtain rfl:odt=.func g:=hg
  exact(PySem.W.Looks.ld (part:=none) q).andThen .now
 refine wpAny_Call_Name_kw ?_
 rcases l with⟨hk,hm⟩ | ⟨hk,c,hc,hcell⟩
 ·exact wpAny_Name (wpAny_loadName_local I.ok.kind hk hn hm fin) hd
 ·rcases hk with hk | hk
  ·exact wpAny_Name (wpAny_loadName_cell I.ok.kind hk hc hcell fin) hd
  ·exact wpAny_Name (wpAny_loadName_free I.ok.kind hk hc hcell fin hcd) hd
end
def BMain(mg:Str->Option Value)(base:Heap):Prop:=∃ bm ob,mg "__builtins__" = some (.ref bm)/\bm ≠ builtinsNs/\base.get? bm=some ob/\ob.cls=.type "module" /\ ob.dict=some builtinsNs/\ob.data=.plain
def c9v(P:Addr)(q:Str)(params:Arguments)(body:Expr)(scope:Scope)(cl:List (Str × Addr))(pm:Value):TE:=fun _ H Q=>H P=some (a9b q)/\∀ f c ct H',Same H H'->H f=none->Lam H' f q params body scope cl pm c ct->Q (.ref f) H'
def tLam(P:Addr)(q:Str)(params:Arguments)(body:Expr)(scope:Scope)(pm:Value):TE:=c9v P q params body scope [] pm
section
variable{X:Cx}{c P:Addr}{q:Str}{params:Arguments}{body:Expr}{scope:Scope}{cl:List (Str × Addr)}{pos:Pos}
theorem d3k(bm:BMain X.mg X.base)(hcd:X.env.code=.ref c)(hC:PySem.W.codeHdIn X.K c P=true) (hq:X.env.qual ++ "<lambda>" = q) (hcl:closureFor scope X.env=pure cl) (hdef:defaultsOf params X.env=([],[]):=by rfl) :
  PE X (.Lambda params body scope pos) (c9v P q params body scope cl ((X.mg "__name__").getD .none)):=by
 intro pins s σ H Q I h
 obtain⟨hP,h⟩:=h
 subst hq
 refine PySem.W.kla_eval hdef ?_
 obtain⟨qs,e1,e2,e3⟩:∃ qs,TabOk H s.heap P #[.str (X.env.qual ++ "<lambda>") 0] qs:=(I.hok P _ hP).1
 have C:=PySem.W.codeHd_of_K I.kIn hC
 have hg:s.heap.Ns mainGlobals X.mg:=I.mod.glob.keeps I.bk
 obtain⟨b,ob,b1,b2,b3,b4,b5,b6⟩:=bm
 have bh:=I.bk _ _ b3
 have hgP:mainGlobals ≠ P:=fun z=>by
  obtain⟨o,es,ep,e,hd,_⟩:=hg
  rw [z,e1] at e;cases e;cases hd
 have hbP:b ≠ P:=fun z=>by rw [z,e1] at bh;cases bh;cases b4
 have hbG:b ≠ mainGlobals:=fun z=>by
  obtain⟨o,es,ep,e,hd,_⟩:=hg
  rw [z,e] at bh;cases bh;rw [hd] at b6;cases b6
 have hB:s.heap.BuiltinsAt X.mg P:=⟨b,ob,b1,b2,hbG,hbP,bh,b4,b5,b6⟩
 cases hA:codeAmong pos qs.toList with
 | some v =>
  obtain⟨c',oc,vs,q,t,t',rfl,hps,hc',hd,hv⟩:=e3 pos v hA
  have eq1:q=X.env.qual ++ "<lambda>":=by
   have:=congrArg Array.toList hps
   simp only [List.cons.injEq,and_true] at this
   injection this with z1 _
   exact z1.symm
  subst eq1
  refine PySem.W.kla_makeFunctionHit (mg:=X.mg) hcl I.ok.glob hg hcd C e1 e2 hA hB fun ctv h' tk hk hsz=>?_
  have hn:H h'.objs.size=none:=I.hok.fresh hsz
  have I2:=I.laid (a:=h'.objs.size) (o:=.frz (a8l (X.env.qual ++ "<lambda>") params body scope cl ((X.mg "__name__").getD .none) c' ctv) (.own h'.objs.size)) (t':=tk) (h':=h'.push (a8l (X.env.qual ++ "<lambda>") params body scope cl ((X.mg "__name__").getD .none) c' ctv))
   (fun b o e=>get?_push_of_some _ (hk _ _ e)) hsz ⟨get?_push_size _ rfl,_,get?_push_size _ rfl⟩
  refine⟨.ref h'.objs.size,_,I2,rfl,h _ c' ctv _ (a0o hn _) hn ⟨a0c,oc,vs,t',?_,hd,hv⟩⟩
  rw [a0d (a0v hc' hn)];exact hc'
 | none =>
  refine PySem.W.kla_makeFunction (mg:=X.mg) hcl I.ok.glob hg hcd C e1 e2 hA hgP hB fun c' ctv h' tk hx hge hlt hrec htb=>?_
  obtain⟨c2,oc,vs,t,ec2,hoc,hd,hv⟩:=hrec
  cases ec2
  obtain⟨fo,hfo⟩:∃ fo,fo=a8l (X.env.qual ++ "<lambda>") params body scope cl ((X.mg "__name__").getD .none) c' ctv:=⟨_,rfl⟩
  show EP X pins σ Q (.ref h'.objs.size) { s with heap:=h'.push (a8l (X.env.qual ++ "<lambda>") params body scope cl ((X.mg "__name__").getD .none) c' ctv),toks:=tk }
  rw [← hfo]
  have hn1:H c'=none:=I.hok.fresh hge
  have hn2:H h'.objs.size=none:=I.hok.fresh (le_trans hge (le_of_lt hlt))
  have nfc:h'.objs.size ≠ c':=ne_of_gt hlt
  obtain⟨H',hH'⟩:∃ H',H'=upd (upd H c' (.frz oc (.own c'))) h'.objs.size (.frz fo (.own h'.objs.size)):=⟨_,rfl⟩
  have kp:∀ b o,b ≠ P->s.heap.get? b=some o->(h'.push fo).get? b=some o:=fun b o n e=>get?_push_of_some _ (hx b o n e)
  have nP:∀ b,H b=none->b ≠ P:=fun b n z=>by rw [z,hP] at n;cases n
  have sm:Same H H':=fun b o e=>by
   rw [hH',a0d (a0v e hn2),a0d (a0v e hn1)];exact e
  have pushP:(h'.push fo).get? P=some (PySem.W.tabObj (qs ++ #[rawInt pos.line,rawInt pos.col,.ref c'])):=get?_push_of_some _ htb
  have pushF:(h'.push fo).get? h'.objs.size=some fo:=get?_push_size _ (by rw [hfo];rfl)
  have H'c:H' c'=some (.frz oc (.own c')):=by rw [hH',a0d (Ne.symm nfc),a0c]
  have H'f:H' h'.objs.size=some (.frz fo (.own h'.objs.size)):=by rw [hH',a0c]
  have un:Un X.fs [] H H' s.heap (h'.push fo):={
   keep:=fun b o e n _ _=>kp b o (nP b n) e
   slot:=fun b o e n _ _=>⟨o.slots,kp b o (nP b n) e⟩
   free:=fun b o e n _=>by
    have lt:=lt_size e
    rw [hH',a0d (ne_of_lt (Nat.lt_trans (lt_of_lt_of_le lt hge) hlt)),a0d (ne_of_lt (lt_of_lt_of_le lt hge))];exact n
   there:=fun b o e _=>by
    by_cases z:b=P
    ·exact⟨_,by rw [z];exact pushP⟩
    ·exact⟨o,kp b o z e⟩
   tups:=fun b xs e=>sm _ _ e
   frzs:=fun b o u e=>sm _ _ e
   tbls:=fun b ps e=>⟨#[],by rw [sm _ _ e];simp⟩ }
  have hok:HOk X.prog X.w H' (h'.push fo):=fun b o e=>by
   by_cases z1:b=h'.objs.size
   ·subst z1
    rw [H'f] at e
    cases e
    exact⟨pushF,_,pushF⟩
   ·by_cases z2:b=c'
    ·subst z2
     rw [H'c] at e
     cases e
     exact⟨get?_push_of_some _ hoc,_,get?_push_of_some _ hoc⟩
    ·rw [hH',a0d z1,a0d z2] at e
     by_cases z3:b=P
     ·subst z3
      rw [hP] at e
      cases e
      refine⟨⟨_,pushP,?_,fun pos' v hv'=>?_⟩,_,pushP⟩
      ·rw [Array.toList_append];exact TriplesOk_snoc _ _ _ _ e2
      ·rw [Array.toList_append] at hv'
       rcases c1h _ e2 hv' with z | rfl
       ·obtain⟨c0,oc0,vs0,q0,t0,t0',y1,y2,y3,y4⟩:=e3 pos' v z
        exact⟨c0,oc0,vs0,q0,t0,t0',y1,y2,sm _ _ y3,y4⟩
       ·exact⟨c',oc,vs,_,_,t,rfl,rfl,H'c,hd,hv⟩
     ·refine(I.hok b o e).stay (fun b' u hb' e'=>kp b' u ?_ e') (fun b' e'=>sm _ _ e') (fun b' xs e'=>sm _ _ e') fun b' ob u e'=>sm _ _ e'
      rcases hb' with rfl | hb'
      ·exact z3
      ·rintro rfl
       rw [hP] at hb';cases hb'
  exact⟨.ref h'.objs.size,_,I.un un hok,rfl,h _ c' ctv _ sm hn2 ⟨by rw [H'f,hfo],oc,vs,t,H'c,hd,hv⟩⟩
theorem b0d(bm:BMain X.mg X.base)(hcd:X.env.code=.ref c)(hC:PySem.W.codeHdIn X.K c P=true) (hq:X.env.qual ++ "<lambda>" = q) (hdef:defaultsOf params X.env=([],[]):=by rfl) (hcl:closureFor scope X.env=pure []:=by rfl) :
  PE X (.Lambda params body scope pos) (tLam P q params body scope ((X.mg "__name__").getD .none)):=d3k bm hcd hC hq hcl hdef
end
end L2
end
section
namespace L2
open PySem PySem.Spec PyProof.Rows
theorem c4t{K:W.Frag}{c P:Addr}{q:Str}(h:(c,P,q) ∈ a8f K):∃ od vs sl,K.lookup c=some ⟨.type "code",od,.fields vs,sl⟩/\vs[11]? = some (.ref P):=by
 obtain⟨p,_,e⟩:=mem_filterMap.mp h
 unfold lamOf at e
 split at e
 ·split at e
  ·split at e
   ·split at e
    ·rename_i hk
     split at e
     ·rename_i hv
      cases e
      exact⟨_,_,_,hk,hv⟩
     ·cases e
    ·cases e
   ·cases e
  ·cases e
 ·cases e
theorem c4u{P:Program}{w:World}{K:W.Frag}{mg mb:Str->Option Value}{CX:CXT}{k:Nat}{fa a:Addr}{fd:FuncData}{x:Str}{sp:Sp}{s₁:Shared}{vs:List Value}{ns:List Int}{tl:List (Addr × Addr × Str)}
  (KX:K.In s₁.heap) (hns:s₁.heap.Ns mainGlobals mg) (hb:s₁.heap.Ns builtinsNs mb) (hbb:∀ x:Str,x ≠ "__name__" -> mb x=bootBuiltins x) (hlim:s₁.heap.NoLimit) (hg:s₁.gens = #[]) (hB:BMain mg s₁.heap)
  (ha:s₁.heap.get? a=some { cls:=.type "list",data:=.seq vs.toArray }) (hi:IntsAre vs ns) (hl:ns.length <= sizeLine) (hr:Room k callerA)
  (htl:a8f K=tl) (hT:∀ p ∈ tl,s₁.heap.get? p.2.1=some (PySem.W.tabObj #[])) (hU:tl.Pairwise fun p p'=>p.2.1 ≠ p'.2.1) (hN:tl.all (fun p=>(K.lookup p.2.1).isNone)=true)
  (F:∀ base:Heap,K.In base->base.Ns mainGlobals mg->BMain mg base->FnOk P w K mg base CX k fa fd [x] sp) (hbind:∀ (s:Shared) (u:Value),BindsTo s fd ⟨[u],[]⟩ [(x,u)])
  (hsp:∀ H:Hp,((∀ xs,H a ≠ some (.lst xs))/\TB K H)->SqL K H a (ns.map V.int)->sp [.ref a] H (fun v _=>v=.bl true) fun _ _ _=>False)
  (hCX:∀ H e s',CX [] H s₁ (fun _ _ _=>False) e s'->False) :
  codeAny (model P w) callerA (.call (.ref fa) ⟨[.ref a],[]⟩) (fun r s'=>r=.ok (.ret (.bool true))/\OldK s₁.heap s'.heap/\s'.os=s₁.os/\AllBare s'.gens) s₁:=by
 have rv:=b4i hi
 have lenV:=hi.length
 have Tn:∀ {q q':Addr × Addr × Str},q ∈ tl->q' ∈ tl->q.2.1=q'.2.1->q=q':=by
  clear hT hN htl
  induction tl with
  | nil=>intro q q' h;cases h
  | cons y r ih =>
   rw [List.pairwise_cons] at hU
   intro q q' h h' e
   rcases mem_cons.mp h with h1 | h1<;>rcases mem_cons.mp h' with h2 | h2
   ·rw [h1,h2]
   ·exact absurd (h1 ▸ e) (hU.1 _ h2)
   ·exact absurd (h2 ▸ e.symm) (hU.1 _ h1)
   ·exact ih hU.2 h1 h2 e
 obtain⟨Ht,hHt⟩:∃ Ht:Hp,Ht=fun b=>(tl.find? (fun p=>decide (p.2.1=b))).map fun p=>a9b p.2.2:=⟨_,rfl⟩
 have Ht1:∀ p ∈ tl,Ht p.2.1=some (a9b p.2.2):=fun p hp=>by
  rw [hHt]
  show(tl.find? _).map _=_
  cases e:tl.find? (fun q=>decide (q.2.1=p.2.1)) with
  | none=>rw [List.find?_eq_none] at e;exact absurd (decide_eq_true rfl) (e p hp)
  | some q =>
   have h1:=of_decide_eq_true (List.find?_some (p:=fun q:Addr × Addr × Str=>decide (q.2.1=p.2.1)) e)
   rw [Tn (List.mem_of_find?_eq_some e) hp h1];rfl
 have Ht2:∀ b u,Ht b=some u->∃ p ∈ tl,p.2.1=b/\u=a9b p.2.2:=fun b u e=>by
  rw [hHt] at e
  obtain⟨p,e1,e2⟩:=map_eq_some_iff.mp e
  exact⟨p,List.mem_of_find?_eq_some e1,of_decide_eq_true (List.find?_some (p:=fun q:Addr × Addr × Str=>decide (q.2.1=b)) e1),e2.symm⟩
 have aT:Ht a=none:=by
  cases q:Ht a with
  | none=>rfl
  | some u =>
   obtain⟨p,hp,e,_⟩:=Ht2 a u q
   have:=hT p hp
   rw [e,ha] at this
   cases this
 have core:∀ H:Hp,((∀ xs,H a ≠ some (.lst xs))/\TB K H)->SqL K H a (ns.map V.int)->HOk P w H s₁.heap->(∀ b u,H b=some u->(b=a/\∃ o xs,u=.frz o (.lst xs)) ∨ Ht b=some u)->(H a ≠ none->K.lookup a=none) ->
   codeAny (model P w) callerA (.call (.ref fa) ⟨[.ref a],[]⟩) (fun r s'=>r=.ok (.ret (.bool true))/\OldK s₁.heap s'.heap/\s'.os=s₁.os/\AllBare s'.gens) s₁:=by
  intro H hO hS hok hA hK
  have base_of:∀ {b:Addr} {o:Obj},s₁.heap.get? b=some o->H b=none->(hidT s₁.heap H).get? b=some o:=fun e n=>c5x e n
  have noC:∀ {b:Addr} {o:Obj},s₁.heap.get? b=some o->(o.cls ≠ .none)->(o.cls ≠ .type "list")->H b=none:=fun{b o} e c1 c2=>by
   cases q:H b with
   | none=>rfl
   | some u =>
    rcases hA b u q with⟨e',_⟩ | e'
    ·subst e'
     rw [ha] at e;cases e
     exact absurd rfl c2
    ·obtain⟨p,hp,e2,_⟩:=Ht2 b u e'
     have:=hT p hp
     rw [e2,e] at this
     cases this
     exact absurd rfl c1
  have noA:∀ {b:Addr} {o:Obj} {es:Array DictEntry} {ep:Nat},s₁.heap.get? b=some o->o.data=.dict es ep->H b=none:=fun{b o es ep} e d=>by
   cases q:H b with
   | none=>rfl
   | some u =>
    rcases hA b u q with⟨e',_⟩ | e'
    ·subst e'
     rw [ha] at e;cases e
     have d':Data.seq vs.toArray _=Data.dict es ep:=d
     cases d'
    ·obtain⟨p,hp,e2,_⟩:=Ht2 b u e'
     have:=hT p hp
     rw [e2,e] at this
     cases this
     cases d
  have nsK:∀ {b:Addr} {m:Str->Option Value},s₁.heap.Ns b m->(hidT s₁.heap H).Ns b m:=fun{b m} ⟨o,es,ep,e,d,r⟩=>⟨o,es,ep,base_of e (noA e d),d,r⟩
  have hKb:K.In (hidT s₁.heap H):=fun b o e=>base_of (KX b o e) (by
   cases q:H b with
   | none=>rfl
   | some u =>
    rcases hA b u q with⟨e',_⟩ | e'
    ·subst e'
     rw [hK (by rw [q];simp)] at e;cases e
    ·obtain⟨p,hp,e2,_⟩:=Ht2 b u e'
     have:=all_eq_true.mp hN p hp
     rw [e2,e] at this
     cases this)
  have hM:Mod K mg (hidT s₁.heap H):=⟨hKb,nsK hns,⟨mb,nsK hb,hbb⟩,let ⟨mc,h1,h2⟩:=hlim;⟨mc,nsK h1,h2⟩⟩
  have hB':BMain mg (hidT s₁.heap H):=by obtain⟨bm,ob,h1,h2,h3,h4,h5⟩:=hB;exact⟨bm,ob,h1,h2,base_of h3 (noC h3 (by rw [h4];exact fun z=>nomatch z) (by rw [h4];decide)),h4,h5⟩
  have e0:Env0 P w K mg (hidT s₁.heap H) callerA [] s₁ H:=⟨rfl,hM,fun b o e=>d0d e,Nat.le_of_eq (c2m _ _),trivial,fun b hb=>absurd (show b ∈ ([]:List Addr) from hb) (by simp),hok,.of_eq hg⟩
  refine codeAny_mono ((F _ hKb (nsK hns) hB').run callerA [] s₁ H ⟨[.ref a],[]⟩ [.ref a] [.ref a] _ _ hr e0 (hbind s₁ (.ref a)) (.cons rfl .nil) (hsp H hO hS)) fun r s' h=>?_
  cases r with
  | error e=>exact(hCX H e s' h).elim
  | ok fl =>
   cases fl with
   | next=>exact False.elim h
   | brk=>exact False.elim h
   | cont=>exact False.elim h
   | ret u =>
    obtain⟨v,H',os,bare,un,hok',r',q⟩:=h
    have q':v=.bl true:=q
    subst q'
    obtain rfl:u=Value.bool true:=r'
    refine⟨rfl,⟨fun b o e=>?_,fun b o e=>un.there b o e (by simp)⟩,os,bare⟩
    cases q:H b with
    | none=>exact .inl (un.keep b o e q (by intro z;exact absurd (show b ∈ ([]:List Addr) from z) (by simp)) (by simp))
    | some u =>
     rcases hA b u q with⟨_,ob,xs,rfl⟩ | e'
     ·have z2:=un.frzs b ob _ q
      obtain⟨e1,_⟩:=hok b _ q
      obtain⟨e2,_⟩:=hok' b _ z2
      have e1:s₁.heap.get? b=some ob:=e1
      rw [e] at e1;cases e1
      exact .inl e2
     ·obtain⟨p,hp,e2,rfl⟩:=Ht2 b u e'
      have z2:=un.frzs b _ _ q
      obtain⟨⟨qs,y1,_⟩,_⟩:=hok' b _ z2
      have e3:=hT p hp
      rw [e2,e] at e3
      cases e3
      obtain⟨od,cs,sl,k1,k2⟩:=c4t (show(p.1,p.2.1,p.2.2) ∈ a8f K by rw [htl];exact hp)
      exact .inr (.inl ⟨⟨p.1,_,cs,KX _ _ k1,rfl,rfl,by rw [← e2];exact k2⟩,rfl,#[],qs,rfl,by rw [y1];simp⟩)
 have tbO:∀ H:Hp,(∀ b u,Ht b=some u->H b=some u)->TB K H:=fun H h p hp=>by
  rw [htl] at hp
  exact h _ _ (Ht1 p hp)
 have tabok:∀ (H:Hp) b u,Ht b=some u->a1k P w H s₁.heap b u:=fun H b u e=>by
  obtain⟨p,hp,e2,rfl⟩:=Ht2 b u e
  have:=hT p hp
  rw [e2] at this
  exact⟨⟨#[],this,trivial,fun pos v hv=>by cases hv⟩,_,this⟩
 cases hk:K.lookup a with
 | some o =>
  have e:=KX a o hk
  rw [ha] at e
  cases e
  exact core Ht ⟨(fun xs=>by rw [aT];exact(fun z=>nomatch z)),tbO _ fun b u z=>z⟩ (.inr ⟨_,vs.toArray,_,hk,rfl,rfl,rfl,by rw [size_toArray,lenV];exact hl,by simpa using rv⟩) (fun b u z=>tabok _ b u z) (fun b u z=>.inr z) fun z=>absurd aT z
 | none =>
  refine core (fun b=>if b=a then some (.frz { cls:=.type "list",data:=.seq vs.toArray } (.lst (ns.map V.int))) else Ht b) ⟨fun xs z=>?_,tbO _ fun b u z=>?_⟩ (.inl (.inr ⟨{ cls:=.type "list",data:=.seq vs.toArray },if_pos rfl⟩)) (fun b u z=>?_) (fun b u z=>?_) fun _=>hk
  ·have z':=(if_pos rfl).symm.trans z
   cases z'
  ·by_cases hb:b=a
   ·rw [hb,aT] at z;cases z
   ·exact(if_neg hb).trans z
  ·by_cases hb:b=a
   ·have z':=(if_pos hb).symm.trans z
    cases z'
    subst hb
    exact⟨ha,by rw [length_map];exact hl,vs,_,rv,ha⟩
   ·exact tabok _ b u ((if_neg hb).symm.trans z)
  ·by_cases hb:b=a
   ·have z':=(if_pos hb).symm.trans z
    cases z'
    exact .inl ⟨hb,_,_,rfl⟩
   ·exact .inr ((if_neg hb).symm.trans z)
theorem c8b{l:PySem.W.OpenLaw}{n k:Nat}{q:Program}{loose:List Str}{XP:(Str->Option Value)->Heap->Prop}{YP:World->Heap->Prop}{d:DefRec}{K:Params->W.Frag}{CX:World->CXT}{sp:World->Sp}{x:Str}{tl:List (Addr × Addr × Str)}
  (hn:l.most=some n) (hn2:n <= sizeLine) (hdf:d.params.defaults=[]) (hr:Room k callerA)
  (hY:∀ (w:World) (h:Heap),YP w h->(K w.params).In h/\∀ p ∈ tl,h.get? p.2.1=some (PySem.W.tabObj #[]))
  (htl:∀ w:World,a8f (K w.params)=tl) (hU:tl.Pairwise fun p p'=>p.2.1 ≠ p'.2.1) (hN:∀ w:World,tl.all (fun p=>((K w.params).lookup p.2.1).isNone)=true)
  (F:∀ (w:World) (mg:Str->Option Value) (fa:Addr) (h:Heap),(K w.params).In h->h.Ns mainGlobals mg->mg d.name=some (.ref fa) ->
   ∃ fd:FuncData,(∀ (s:Shared) (u:Value),BindsTo s fd ⟨[u],[]⟩ [(x,u)]) /\
    ∀ base:Heap,(K w.params).In base->base.Ns mainGlobals mg->BMain mg base->FnOk l.prog w (K w.params) mg base (CX w) k fa fd [x] (sp w))
  (hsp:∀ (w:World) (H:Hp) (a:Addr) (ns:List Int),ns.length <= n->((∀ xs,H a ≠ some (.lst xs))/\TB (K w.params) H)->SqL (K w.params) H a (ns.map V.int)->sp w [.ref a] H (fun v _=>v=.bl true) fun _ _ _=>False)
  (hCX:∀ (w:World) (H:Hp) (s:Shared) (e:Value) (s':Shared),CX w [] H s (fun _ _ _=>False) e s'->False) :
  PySem.W.WalkO q loose XP YP l.row.toRowW d [] (fun f vs=>PySem.call f vs):=by
 refine Att.attach_call hn hdf fun w s₀ s₁ mg mb fa o pm cd doc a vs ns G Y ho hd hcd hmg hobj hints hlen hg=>?_
 obtain⟨KX,hT⟩:=hY w _ Y
 obtain⟨fd,hb,hF⟩:=F w mg fa _ KX G.T.g hmg
 obtain⟨bm,ob,b1,b2,b3,b4,b5,b6⟩:=G.T.bmain
 exact c4u KX G.T.g G.T.b G.T.builtins G.T.nolimit hg ⟨bm,ob,b1,b2,b3,b4,b5,b6⟩ hobj hints (le_trans hlen hn2) hr (htl w) hT hU (hN w) hF hb (fun H hO hS=>hsp w H a ns hlen hO hS) fun H e s'=>hCX w H s₁ e s'
end L2
end
section
namespace L2
open PySem PySem.Spec PyProof.Rows
theorem a1k.there{P:Program}{w:World}{H:Hp}{h:Heap}{a:Addr}{o:HO}(x:a1k P w H h a o):∃ u,h.get? a=some u:=by
 cases o with
 | lst xs=>obtain⟨_,_,_,_,e⟩:=x;exact⟨_,e⟩
 | tup xs=>obtain⟨_,_,_,o,e,_⟩:=x;exact⟨_,e⟩
 | dK kvs=>obtain⟨_,_,_,_,o,_,_,e,_⟩:=x;exact⟨_,e⟩
 | dT kvs=>obtain⟨_,_,_,_,o,_,_,e,_⟩:=x;exact⟨_,e⟩
 | set S n=>obtain⟨o,_,_,_,e,_⟩:=x;exact⟨_,e⟩
 | ins C dx fs=>obtain⟨_,_,_,e,_⟩:=x;exact⟨_,e⟩
 | own y=>obtain⟨_,e⟩:=x;exact⟨_,e⟩
 | xd fs=>obtain⟨_,⟨_,_,_,e,_⟩,_⟩:=x;exact⟨_,e⟩
 | rng lo hi=>obtain⟨_,_,_,e⟩:=x;exact⟨_,e⟩
 | frz ob u =>
  obtain⟨e,_⟩:=x
  cases u with
  | tbl ps=>obtain⟨_,e,_⟩:=e;exact⟨_,e⟩
  | _=>exact⟨_,show h.get? a=some _ from e⟩
 | tbl ps=>exact x
 | met f y=>exact⟨_,show h.get? a=some _ from x⟩
 | ext φ=>obtain⟨_,z,_⟩:=x;exact z
def Cov(l:List Env)(H:Hp)(h0 B h:Heap):Prop:=∀ b o,h.get? b=some o->(H b ≠ none ∨ ∃ o',h0.get? b=some o')->b ∉ frs l->B.get? b=some o
noncomputable def CX1(P:Program)(w:World):CXT:=fun outer H s E e s'=>∃ (a C:Addr) (t:Value) (B:Heap) (H':Hp),e=.ref a/\s'.os=s.os/\AllBare s'.gens/\Un (frs outer) [] H H' s.heap s'.heap/\HOk P w H' s'.heap/\H' a=none /\
 Heap.FlyingW B outer a (.ref C) t s'.heap/\Cov outer H' s.heap B s'.heap/\E (.ref C) none H'
section
variable{X:Cx}{pins:List (Addr × Obj)}{σ:St}{H H':Hp}{s s':Shared}{h1 B:Heap}
theorem a9j(I:Inv X pins σ H s)(un:Un (frs X.stack) [] H H' s.heap s'.heap)(hok:HOk X.prog X.w H' s'.heap)(cov:Cov X.stack H' s.heap B s'.heap)(bt:B.StaysIn h1)(up:s'.heap.UpToSlots h1) :
  Un (frs X.stack) [] H H' s.heap h1/\HOk X.prog X.w H' h1/\Cov X.stack H' s.heap B h1:=by
 have nf:∀ b o,s'.heap.get? b=some o->b ∈ frs X.stack->∀ vs,o.data ≠ .fields vs:=fun b o e hb=>by
  obtain⟨_,o2,ho2,hd⟩:=I.stack.mem hb
  obtain⟨sl,e2⟩:=un.slot b o2 ho2 (I.stkFree b hb) hb (by simp)
  rw [e] at e2
  cases e2
  exact hd
 have fr:∀ b,H' b ≠ none->b ∉ frs X.stack:=fun b n hb=>by
  obtain⟨_,o2,ho2,_⟩:=I.stack.mem hb
  exact n (un.free b o2 ho2 (I.stkFree b hb) (by simp))
 have inB:∀ b o,s'.heap.get? b=some o->(H' b ≠ none ∨ ∃ o',s.heap.get? b=some o')->b ∉ frs X.stack->h1.get? b=some o:=fun b o e c n=>bt b o (cov b o e c n)
 refine⟨⟨fun b o e n hb _=>inB b o (un.keep b o e n hb (by simp)) (.inr ⟨o,e⟩) hb,fun b o e n hb _=>?_,un.free,fun b o e _=>?_,un.tups,un.frzs,un.tbls⟩,fun a o q=>?_,fun b o e c n=>?_⟩
 ·obtain⟨sl,e1⟩:=un.slot b o e n hb (by simp)
  obtain⟨sl',e2⟩:=up b _ e1 (nf b _ e1 hb)
  exact⟨sl',e2⟩
 ·obtain⟨o1,e1⟩:=un.there b o e (by simp)
  by_cases hb:b ∈ frs X.stack
  ·obtain⟨sl',e2⟩:=up b _ e1 (nf b _ e1 hb)
   exact⟨_,e2⟩
  ·exact⟨o1,inB b o1 e1 (.inr ⟨o,e⟩) hb⟩
 ·refine(hok a o q).stay (fun b u hb e=>?_) (fun _ z=>z) (fun _ _ z=>z) fun _ _ _ z=>z
  have hn:H' b ≠ none:=by
   rcases hb with rfl | hb
   ·rw [q];exact fun z=>nomatch z
   ·rw [hb];exact fun z=>nomatch z
  exact inB b u e (.inl hn) (fr b hn)
 ·have:∃ u,s'.heap.get? b=some u:=by
   rcases c with c | ⟨o',c⟩
   ·cases q:H' b with
    | none=>exact absurd q c
    | some ho=>exact(hok b ho q).there
   ·exact un.there b o' c (by simp)
  obtain⟨u,hu⟩:=this
  have hB:=cov b u hu c n
  have:=bt b u hB
  rw [e] at this
  cases this
  exact hB
theorem d3l{a C:Addr}{t:Value}{E:XK}(J:Inv X pins σ H' { s' with heap:=h1 })(hst:X.stack=X.env :: X.outer)(hex:X.ex=[])(fl:Heap.FlyingW B X.outer a (.ref C) t h1)(cov:Cov X.stack H' X.s₀.heap B h1)(ha:H' a=none)(hE:E (.ref C) none H') :
  CX1 X.prog X.w X.outer X.H₀ X.s₀ E (.ref a) { s' with heap:=h1 }:=by
 have hb:=J.base
 rw [hex] at hb
 refine⟨a,C,t,B,H',rfl,J.os,J.bare,hb,J.hok,ha,fl,fun b o e c n=>cov b o e c fun hm=>?_,hE⟩
 rcases mem_cons.mp (J.stkSub b hm) with z | z
 ·rcases c with c | ⟨o',c⟩
  ·exact c (by rw [z];exact J.free)
  ·have hlt:=lt_of_lt_of_le (lt_size c) J.ok.above
   rw [z] at hlt
   exact absurd hlt (lt_irrefl _)
 ·exact n z
end
end L2
end
section
namespace L2
open PySem PySem.Spec PyProof.Rows
abbrev veM:List Value:=[.type "ValueError",.type "Exception",.type "BaseException",.type "object"]
section
variable{X:Cx}{x:Str}{C:Addr}{E:XK}{np cpos pos:Pos}
end
section
variable{P:Program}{w:World}{K:W.Frag}{mg:Str->Option Value}{base:Heap}
end
end L2
end
section
namespace L2
open PySem PySem.Spec PyProof.Rows
def exq(a C:Addr)(h:Heap):Prop:=∃ o,h.get? a=some o/\o.cls=.ref C
noncomputable def markX(X:Cx)(v:Value):Cx:={ X with A:=X.A.mark (some v),calm:=false,xe:=fun _ _=>False }
structure XCls(K:W.Frag)(C:Addr)(bm:List Value):Prop where
 obj:∃ nm qn N bs hd sn sub ab col dd k0 k1 k2 k3 k5 newId,K.lookup C=some (excClassObj nm qn C N bs bm hd sn sub ab col dd k0 k1 k2 k3 k5 newId)
 base:bm.contains (.type "BaseException")=true
theorem d3m{M:Model}{A:Around}{E:Value->Shared->Prop}{K:W.Frag}{s:Shared}{C Wk e:Addr}{bm bw:List Value}{oe:Obj}{Q:Bool->Shared->Prop}(X:K.In s.heap)(c:XCls K C bm)(cw:XCls K Wk bw)(he:s.heap.get? e=some oe)(hcls:oe.cls=.ref C)
  (hs:(Value.ref C :: bm).contains (.ref Wk)=true) (hq:Q true s):wpAny M A (excMatches (.ref e) (.ref Wk)) Q E s:=by
 obtain⟨hp,g,d,tk,os⟩:=s
 obtain⟨nm,qn,N,bs,hd,sn,sub,ab,col,dd,k0,k1,k2,k3,k5,newId,l⟩:=c.obj
 obtain⟨nm',qn',N',bs',hd',sn',sub',ab',col',dd',k0',k1',k2',k3',k5',newId',l'⟩:=cw.obj
 have hC:=X _ _ l
 have hW:=X _ _ l'
 have hcB:(Value.ref Wk :: bw).contains (.type "BaseException")=true:=by rw [List.contains_cons,cw.base,Bool.or_true]
 have f:=tc_notTuple
 unfold excMatches
 repeat (first | (with_reducible refine wpAny_loadPart_at he ?_;rw [hcls]) | with_reducible refine wpAny_loadPart_at hW ?_ | (with_reducible refine wpAny_isSubtype_exc hW ?_;rw [hcB]) | (with_reducible refine wpAny_isSubtype_exc hC ?_;rw [hs]) | wp_step)
 exact hq
section
variable{X:Cx}{pins:List (Addr × Obj)}{σ:St}{H H':Hp}{s s':Shared}{h1 B:Heap}
theorem Inv.mark(I:Inv X pins σ H s)(v:Value):Inv (markX X v) pins σ H s:=
 ⟨⟨I.ok.mod,I.ok.kind,I.ok.glob,I.ok.blt,I.ok.above,I.ok.inj,I.ok.has,I.ok.cab,fun h=>(nomatch h),I.ok.frames,I.ok.stk,I.ok.exf,I.ok.bs,I.ok.bsz,I.ok.noex,I.ok.exfs,I.ok.funs,I.ok.frf⟩,I.os,I.bare,I.base,I.loc,I.cell,I.free,I.freeC,I.pin,I.hok,I.len⟩
theorem Inv.unmark{v:Value}(hd:X.calm=true->X.A.handled=none)(I:Inv (markX X v) pins σ H s):Inv X pins σ H s:=
 ⟨⟨I.ok.mod,I.ok.kind,I.ok.glob,I.ok.blt,I.ok.above,I.ok.inj,I.ok.has,I.ok.cab,hd,I.ok.frames,I.ok.stk,I.ok.exf,I.ok.bs,I.ok.bsz,I.ok.noex,I.ok.exfs,I.ok.funs,I.ok.frf⟩,I.os,I.bare,I.base,I.loc,I.cell,I.free,I.freeC,I.pin,I.hok,I.len⟩
theorem Inv.track{a:Addr}{o:HO}(I:Inv X pins σ H s)(ha:H a=none)(h0:X.s₀.heap.get? a=none)(hl:a ≠ X.env.locals)(hc:∀ x c,X.env.cells.lookup x=some c->c ≠ a)(hp:∀ p ∈ X.pn ++ pins,p.1 ≠ a)(new:a1k X.prog X.w (upd H a o) s.heap a o):Inv X pins σ (upd H a o) s:=by
 have nn:∀ b u,H b=some u->b ≠ a:=fun b u e z=>by rw [z,ha] at e;cases e
 refine⟨I.ok,I.os,I.bare,⟨I.base.keep,I.base.slot,fun b ob e n hx=>?_,I.base.there,fun b xs e=>?_,fun b ob u e=>?_,fun b ps e=>?_⟩,I.loc,I.cell,?_,fun x c e=>?_,fun p hp'=>?_,fun b u e=>?_,I.len⟩
 ·rw [a0d (fun z=>by rw [z,h0] at e;cases e)];exact I.base.free b ob e n hx
 ·have q:=I.base.tups b xs e
  rw [a0d (nn b _ q)];exact q
 ·have q:=I.base.frzs b ob u e
  rw [a0d (nn b _ q)];exact q
 ·obtain⟨m,q⟩:=I.base.tbls b ps e
  exact⟨m,by rw [a0d (nn b _ q)];exact q⟩
 ·rw [a0d (Ne.symm hl)];exact I.free
 ·rw [a0d (hc x c e)];exact I.freeC x c e
 ·obtain⟨q1,q2,q3⟩:=I.pin p hp'
  exact⟨q1,by rw [a0d (hp p hp')];exact q2,q3⟩
 ·by_cases hb:b=a
  ·subst hb
   rw [a0c] at e;cases e;exact new
  ·rw [a0d hb] at e
   exact(I.hok b u e).stay (fun _ _ _ q=>q) (fun c q=>by rw [a0d (nn c _ q)];exact q) (fun c xs q=>by rw [a0d (nn c _ q)];exact q) fun c ob u q=>by rw [a0d (nn c _ q)];exact q
theorem d3n{M:Model}{A:Around}{E:Value->Shared->Prop}{j:Nat}{n:Str}{pos:Pos}{Q:Unit->Shared->Prop}(I:Inv X pins σ H s)(hN:X.N.Nodup)(hj:X.N[j]? = some n)(hk:X.env.kindOf n=some .local)
  (h:∀ s',Inv X pins (σ.set j none) H s'->Q () s'):wpAny M A (do bindName X.env n .none;unbindBehindTheSuite X.env n pos) Q E s:=by
 obtain⟨m,hn,hl⟩:=I.loc
 have hcls:(X.env.scope.kind == .class || (X.env.scope.kind == .module && X.env.locals != X.env.globals))=false:=by rw [I.ok.kind];rfl
 refine wpAny_nameGoes_keeps hk hn hcls fun h' v hn' hs=>?_
 have neL:∀ b o,X.s₀.heap.get? b=some o->b ≠ X.env.locals:=fun b o e=>ne_of_lt (lt_of_lt_of_le (lt_size e) I.ok.above)
 refine h _ ⟨I.ok,I.os,I.bare,⟨fun b o e n hb hx=>(hs.2 b (neL b o e)).trans (I.base.keep b o e n hb hx),fun b o e n hb hx=>?_,I.base.free,fun b o e hx=>?_,I.base.tups,I.base.frzs,I.base.tbls⟩,⟨_,hn',fun i y v' e1 e2 e3=>?_⟩,fun y c e=>?_,I.free,I.freeC,fun p hp=>?_,fun b ob e=>?_,by simpa using I.len⟩
 ·obtain⟨sl,e1⟩:=I.base.slot b o e n hb hx
  exact⟨sl,(hs.2 b (neL b o e)).trans e1⟩
 ·obtain⟨o',e1⟩:=I.base.there b o e hx
  exact⟨o',(hs.2 b (neL b o e)).trans e1⟩
 ·have hij:i ≠ j:=fun z=>by
   subst z
   rw [List.getElem?_set] at e2
   rw [if_pos rfl] at e2
   split at e2<;>cases e2
  rw [getElem?_set_ne (Ne.symm hij)] at e2
  obtain⟨u',r',q⟩:=hl i y v' e1 e2 e3
  refine⟨u',r',?_⟩
  rcases q with⟨k,e⟩ | ⟨k,c,e,z⟩
  ·refine .inl ⟨k,?_⟩
   have:y ≠ n:=fun e=>hij (b1o hN e1 (e ▸ hj))
   simp [this,e]
  ·exact .inr ⟨k,c,e,z.sameBut hs (I.cne y c e)⟩
 ·obtain⟨w',z⟩:=I.cell y c e
  exact⟨w',z.sameBut hs (I.cne y c e)⟩
 ·obtain⟨e,n,ne,nf,d⟩:=I.pin p hp
  exact⟨(hs.2 p.1 ne).trans e,n,ne,nf,d⟩
 ·refine(I.hok b ob e).stay (fun c w' hc q=>(hs.2 c ?_).trans q) (fun _ q=>q) (fun _ _ q=>q) fun _ _ _ q=>q
  rintro rfl
  rcases hc with rfl | hc
  ·rw [I.free] at e;cases e
  ·rw [I.free] at hc;cases hc
end
section
variable{X:Cx}{k:Nat}{f:Addr}{fd:FuncData}{ps:List Str}{sp:Sp}{E:XK}{x:Str}{p pos:Pos}{e:Expr}{es:List Expr}{t:TA}
end
section
variable{X:Cx}{e:Expr}{te:XK->TE}{wx n:Str}{Wk:Addr}{bw:List Value}{j:Nat}{b₀:Stmt}{suite:List Stmt}{th:TS}{p2 np hp tp:Pos}
end
end L2
end
section
namespace L2
open PySem PySem.Spec
noncomputable def Tame{α:Type}:Sem α->Prop
 | .pure _ | .raise _ | .unsupported _ | .finish _ | .yield .. | .fork .. | .await .. | .register .. => True
 | .call .. | .resume .. => False
 | .rule _ k | .at _ k | .point _ k=>Tame (k ())
 | .load _ _ k=>∀ o,Tame (k o)
 | .update _ _ f k=>(∀ o,(f o).dict=o.dict)/\Tame (k ())
 | .alloc _ k=>∀ a,Tame (k a)
 | .loadIfAlive _ k=>∀ o,Tame (k o)
 | .fresh k=>∀ t,Tame (k t)
 | .ask k=>∀ x,Tame (k x)
 | .choose _ _ k=>∀ x,Tame (k x)
 | .os _ _ k=>∀ x,Tame (k x)
 | .handled _ k=>∀ x,Tame (k x)
 | .newGen _ k=>∀ x,Tame (k x)
 | .genState _ k=>∀ x,Tame (k x)
 | .stack k=>∀ x,Tame (k x)
 | .thread k=>∀ x,Tame (k x)
theorem Tame.bind{α β:Type}{m:Sem α}{f:α->Sem β}(h:Tame m)(hf:∀ a,Tame (f a)):Tame (m >>= f):=by
 show Tame (m.bind f)
 induction m with
 | pure a=>exact hf a
 | raise e=>exact True.intro
 | unsupported w=>exact True.intro
 | finish e=>exact True.intro
 | yield=>exact True.intro
 | fork=>exact True.intro
 | await=>exact True.intro
 | register=>exact True.intro
 | call=>exact h.elim
 | resume=>exact h.elim
 | rule _ k ih | «at» _ k ih | point _ k ih=>exact ih () h
 | update _ _ g k ih=>exact⟨h.1,ih () h.2⟩
 | load _ _ k ih | alloc _ k ih | loadIfAlive _ k ih | fresh k ih | ask k ih | choose _ _ k ih | os _ _ k ih | handled _ k ih | newGen _ k ih | genState _ k ih | stack k ih | thread k ih=>exact fun x=>ih x (h x)
theorem Tame.ite{α:Type}{c:Prop}[Decidable c]{a b:Sem α}(h:Tame a)(h':Tame b):Tame (if c then a else b):=by
 split
 ·exact h
 ·exact h'
def DK(h h':Heap):Prop:=h.objs.size <= h'.objs.size/\∀ a o',h'.get? a=some o'->(∃ o,h.get? a=some o/\o'.dict=o.dict) ∨ h.objs.size <= a
theorem DK.refl(h:Heap):DK h h:=⟨le_refl _,fun a o e=>.inl ⟨o,e,rfl⟩⟩
theorem DK.trans{h h1 h2:Heap}(x:DK h h1)(y:DK h1 h2):DK h h2:=⟨le_trans x.1 y.1,fun a o e=>by
 rcases y.2 a o e with⟨o1,e1,d1⟩ | z
 ·rcases x.2 a o1 e1 with⟨o0,e0,d0⟩ | z
  ·exact .inl ⟨o0,e0,d1.trans d0⟩
  ·exact .inr z
 ·exact .inr (le_trans x.1 z)⟩
theorem DK.at{h h':Heap}{a:Addr}{o o':Obj}(x:DK h h')(e:h.get? a=some o)(e':h'.get? a=some o'):o'.dict=o.dict:=by
 rcases x.2 a o' e' with⟨o1,e1,d⟩ | z
 ·rw [e] at e1
  cases e1
  exact d
 ·exact absurd (lt_size e) (Nat.not_lt_of_le z)
theorem DK.upd{h:Heap}{a:Addr}{f:Obj->Obj}(hf:∀ o,(f o).dict=o.dict)(hs:(h.get? a).isSome):DK h (h.update a f):=by
 obtain⟨objs,l⟩:=h
 refine⟨by show objs.size <= (objs.modify a f).size;rw [Array.size_modify];exact le_refl _,fun b o' e=>?_⟩
 by_cases hb:a=b
 ·subst hb
  obtain⟨o,ho⟩:=Option.isSome_iff_exists.mp hs
  refine .inl ⟨o,ho,?_⟩
  have h1:objs[a]? = some o:=by
   unfold Heap.get? at ho
   dsimp only at ho
   split at ho
   ·cases ho
   ·exact ho
  have h2:(objs.modify a f)[a]? = some (f o):=by rw [Array.getElem?_modify,if_pos rfl,h1];rfl
  unfold Heap.get? Heap.update at e
  dsimp only at e
  split at e
  ·cases e
  ·rw [h2] at e
   cases e
   exact hf o
 ·rw [get?_update_other _ _ hb] at e
  exact .inl ⟨o',e,rfl⟩
theorem DK.push(h:Heap)(o:Obj):DK h (h.push o):=by
 refine⟨by rw [size_push];omega,fun b o' e=>?_⟩
 by_cases hb:b < h.objs.size
 ·refine .inl ⟨o',?_,rfl⟩
  obtain⟨objs,l⟩:=h
  have:(objs.push o)[b]? = objs[b]?:=by
   rw [Array.getElem?_push,if_neg (ne_of_lt hb)]
  unfold Heap.get? Heap.push at e
  unfold Heap.get?
  dsimp only at e ⊢
  rw [← this]
  exact e
 ·exact .inr (Nat.le_of_not_lt hb)
theorem Tame.wpK{α:Type}{M:Model}{Γ:PySem.Ctx}{h0:Heap}{Q:α->Pos->Shared->Prop}{E:Value->Pos->Shared->Prop}{t:Sem α}:∀ {p:Pos} {s:Shared},Tame t->DK h0 s.heap->Sem.wp M Γ t (fun a p s'=>DK h0 s'.heap->Q a p s') E p s->Sem.wp M Γ t Q E p s:=by
 induction t with
 | pure a=>exact fun _ d h=>h d
 | raise e=>exact fun _ _ h=>h
 | unsupported | finish | yield | fork | await | register=>exact fun _ _ h=>h
 | call=>exact fun h=>h.elim
 | resume=>exact fun h=>h.elim
 | rule _ k ih | «at» _ k ih | point _ k ih=>exact fun t d h=>ih () t d h
 | load a _ k ih=>exact fun t d ⟨o,e,h⟩=>⟨o,e,ih o (t o) d h⟩
 | update a _ f k ih=>exact fun t d ⟨e,h⟩=>⟨e,ih () t.2 (d.trans (DK.upd t.1 e)) h⟩
 | alloc o k ih=>exact fun t d h=>ih _ (t _) (d.trans (DK.push _ o)) h
 | loadIfAlive _ k ih | fresh k ih | ask k ih | os _ _ k ih | handled _ k ih | newGen _ k ih | stack k ih | thread k ih=>exact fun t d h=>ih _ (t _) d h
 | choose _ _ k ih=>exact fun t d ⟨e,h⟩=>⟨e,ih _ (t _) d h⟩
 | genState _ k ih=>exact fun t d ⟨o,e,h⟩=>⟨o,e,ih _ (t _) d h⟩
theorem Tame.any{α:Type}{M:Model}{A:Around}{Q:α->Shared->Prop}{E:Value->Shared->Prop}{t:Sem α}{s:Shared}(h:Tame t)(q:wpAny M A t (fun a s'=>DK s.heap s'.heap->Q a s') E s):wpAny M A t Q E s:=fun Γ p hΓ=>h.wpK (DK.refl _) (q Γ p hΓ)
theorem a3z{α:Type}(x:String):Tame (unsupported x:Sem α):=True.intro
theorem a1p{α:Type}(a:α):Tame (pure a:Sem α):=True.intro
theorem b0e(a:Addr):Tame (load a):=fun _=>True.intro
theorem a6g(v:Value)(i:Nat):Tame (field v i):=by
 unfold field fieldsOf
 refine Tame.bind ?_ fun vs=>?_
 ·cases v<;>first | exact a3z _ | skip
  refine(b0e _).bind fun o=>?_
  split
  ·exact a1p _
  ·exact a3z _
 ·split
  ·exact a1p _
  ·exact a3z _
theorem a6b(v:Value)(i:Nat)(x:Value):Tame (setField v i x):=by
 unfold setField
 cases v<;>first | exact a3z _ | skip
 refine Tame.bind (b0e _) fun o=>?_
 split
 ·refine Tame.ite ⟨fun o=>?_,True.intro⟩ (a3z _)
  obtain⟨c,d,da,sl⟩:=o
  cases da<;>rfl
 ·exact a3z _
theorem b2v:∀ l:List Env,Tame (readyFrames l)
 | []=>True.intro
 | env :: outer=>by
  unfold readyFrames
  cases env.frame with
  | none=>exact a3z _
  | some f =>
   refine Tame.bind (b0e _) fun o=>Tame.ite (a1p _) ?_
   refine Tame.bind ?_ fun b=>Tame.bind ?_ fun v=>Tame.bind ⟨fun _=>rfl,True.intro⟩ fun _=>b2v outer
   ·unfold behindIsImport
    refine Tame.ite (a1p _) (Tame.ite (a1p _) ((a6g _ _).bind fun _=>a1p _))
   ·unfold keptBack
    split
    ·refine Tame.ite (a1p _) (Tame.bind (fun _=>True.intro) fun b=>a1p _)
    ·exact a1p _
theorem b7m(env:Env):Tame (frameOf env):=by
 unfold frameOf
 refine Tame.bind (fun _=>True.intro) fun l=>Tame.bind ?_ fun x=>?_
 ·cases List.dropWhile _ l with
  | nil=>exact a1p _
  | cons e r=>exact(b2v _).bind fun _=>a1p _
 ·cases x with
  | none=>exact a3z _
  | some v=>exact a1p _
theorem c1i(f:Addr)(b:Bool):Tame (entryPlaceOf f b):=by
 unfold entryPlaceOf
 refine Tame.bind (fun _=>True.intro) fun acts=>?_
 split<;>exact True.intro
theorem c1j(a b c d e:Value)(l:List Value):Tame (EntryCells.newEntry a b c d e l):=by
 unfold EntryCells.newEntry newFields newObj newObjAsIs
 dsimp only
 refine Tame.ite ?_ ?_
 ·exact True.intro
 ·exact fun _=>True.intro
theorem b0f(e:Value)(env:Env):Tame (noteFrame e env):=by
 unfold noteFrame
 cases env.frame with
 | none=>exact a3z _
 | some f =>
  refine(a6g _ _).bind fun head=>?_
  have tl:Tame (do setField e 1 (← EntryCells.newEntry head (← frameOf env) .none (rawInt f) .none (← entryPlaceOf f (head != .none))):Sem Unit):=
   (b7m env).bind fun _=>(c1i _ _).bind fun _=>(c1j _ _ _ _ _ _).bind fun _=>a6b _ _ _
  refine Tame.ite ((a6g _ _).bind fun x=>Tame.ite (a1p _) ((a6b _ _ _).bind fun _=>tl)) tl
theorem a4h(e:Value)(o:Option Addr):Tame (setFlight e o):=by
 unfold setFlight
 exact(a6g _ _).bind fun x=>Tame.ite (a6b _ _ _) (a1p _)
theorem b0g(env:Env)(e:Value):Tame (leaving env e):=(b0f _ _).bind fun _=>a4h _ _
end L2
end
section
namespace L2
open PySem PySem.Spec PyProof.Rows
def exm(a C t:Addr)(od:Option Addr)(h:Heap):Prop:=h.get? a=some { cls:=.ref C,dict:=od,data:=.fields #[.ref t,.none,.none,.none,.bool false,.none] }
def exd(a C:Addr)(od:Option Addr)(h:Heap):Prop:=∃ o,h.get? a=some o/\o.cls=.ref C/\o.dict=od/\∃ vs,o.data=.fields vs
def nsq(d:Addr)(fs:List (Str × V))(h:Heap):Prop:=∃ mA,h.Ns1 d mA/\∀ f,RelO (fs.lookup f) (mA f)
theorem c4v{P:Program}{w:World}{H:Hp}{h:Heap}{a C t:Addr}{od:Option Addr}(e:exm a C t od h):a1k P w H h a (.ext (exm a C t od)):=⟨e,⟨_,e⟩,fun _ _ p k=>k _ p⟩
theorem d8r{P:Program}{w:World}{H:Hp}{h:Heap}{a C:Addr}{od:Option Addr}(e:exd a C od h):a1k P w H h a (.ext (exd a C od)):=⟨e,let ⟨o,q,_⟩:=e;⟨o,q⟩,fun _ _ ⟨o,q,r⟩ k=>⟨o,k o q,r⟩⟩
theorem c4w{P:Program}{w:World}{H:Hp}{h:Heap}{d:Addr}{fs:List (Str × V)}(e:nsq d fs h):a1k P w H h d (.ext (nsq d fs)):=⟨e,let ⟨_,⟨o,_,_,q,_⟩,_⟩:=e;⟨o,q⟩,fun _ _ ⟨mA,n,r⟩ k=>⟨mA,n.at k,r⟩⟩
noncomputable def drop(H:Hp)(a:Addr):Hp:=fun b=>if b=a then none else H b
theorem b4u{H:Hp}{a:Addr}:drop H a a=none:=if_pos rfl
theorem b1b{H:Hp}{a b:Addr}(h:b ≠ a):drop H a b=H b:=if_neg h
theorem c4x{H:Hp}{a b:Addr}{o:HO}(h:drop H a b=some o):b ≠ a/\H b=some o:=by
 unfold drop at h
 split at h
 ·cases h
 ·rename_i n
  exact⟨n,h⟩
noncomputable def CX2(P:Program)(w:World):CXT:=fun outer H s E e s'=>∃ (a C:Addr) (t:Value) (B:Heap) (H':Hp) (oe:Obj),e=.ref a/\s'.os=s.os/\AllBare s'.gens/\Un (frs outer) [] H H' s.heap s'.heap/\HOk P w H' s'.heap/\H' a=none /\
 Heap.FlyingW B outer a (.ref C) t s'.heap/\Cov outer H' s.heap B s'.heap/\s'.heap.get? a=some oe/\E (.ref C) oe.dict H'
section
variable{X:Cx}{pins:List (Addr × Obj)}{σ:St}{H H':Hp}{s s':Shared}{h1 B:Heap}
theorem b1x{a C:Addr}{t:Value}{E:XK}{oe:Obj}(J:Inv X pins σ H' { s' with heap:=h1 })(hst:X.stack=X.env :: X.outer)(hex:X.ex=[])(fl:Heap.FlyingW B X.outer a (.ref C) t h1)(cov:Cov X.stack H' X.s₀.heap B h1)(ha:H' a=none)(ho:h1.get? a=some oe)(hE:E (.ref C) oe.dict H') :
  CX2 X.prog X.w X.outer X.H₀ X.s₀ E (.ref a) { s' with heap:=h1 }:=by
 obtain⟨_,_,_,B',H2,e0,os,bare,un,hok,ha2,fl2,cov2,_⟩:=d3l (E:=fun _ _ H=>H=H') J hst hex fl cov ha rfl
 exact⟨a,C,t,B,H',oe,rfl,os,bare,by have:=J.base;rwa [hex] at this,J.hok,ha,fl,by
  intro b o e c n
  refine cov b o e c fun hm=>?_
  rcases mem_cons.mp (J.stkSub b hm) with z | z
  ·rcases c with c | ⟨o',c⟩
   ·exact c (by rw [z];exact J.free)
   ·have hlt:=lt_of_lt_of_le (lt_size c) J.ok.above
    rw [z] at hlt
    exact absurd hlt (lt_irrefl _)
  ·exact n z,ho,hE⟩
theorem leave_on2{E:XK}{e:Value}{Ex:Value->Shared->Prop}(I:Inv X pins σ H s)(hst:X.stack=X.env :: X.outer)(hf:X.env.frame=some X.env.locals)(hex:X.ex=[])(c:CX2 X.prog X.w X.stack H s E e s') :
  wpAny (model X.prog X.w) X.A (leaving X.env e) (fun _ s''=>CX2 X.prog X.w X.outer X.H₀ X.s₀ E e s'') Ex s':=by
 obtain⟨a,C,t,B,H',oe,rfl,os,bare,un,hok,ha,fl,cov,ho,hE⟩:=c
 have hfr:X.A.frames=some (X.env :: X.outer):=by rw [← hst];exact I.ok.frames
 have fl0:=fl
 rw [hst] at fl0
 refine(b0g _ _).any (wpAny_leaves_onW hfr hf fl0 fun h1 fl1 up dk=>?_)
 obtain⟨o1,ho1,_⟩:=fl1.there
 obtain⟨un1,hok1,cov1⟩:=a9j I un hok cov fl1.1 up
 have J:Inv X pins σ H' { s' with heap:=h1 }:=I.call' (s':={ s' with heap:=h1 }) os un1 hok1 bare (fun b z=>absurd z (by simp))
 refine b1x (s':=s') J hst hex fl1 (fun b o e c n=>cov1 b o e ?_ n) ha ho1 (by rw [dk.at ho ho1];exact hE)
 rcases c with c | ⟨o',c⟩
 ·exact .inl c
 ·exact .inr (I.base.there b o' c (by rw [hex];simp))
theorem a4r{H:Hp}{a b:Addr}{u:HO}{φ:Heap->Prop}(ha:H a=some (.ext φ))(e:H b=some u)(n:∀ ψ,u ≠ .ext ψ):drop H a b=some u:=by
 by_cases hb:b=a
 ·rw [hb,ha] at e
  cases e
  exact absurd rfl (n φ)
 ·rw [b1b hb];exact e
theorem d3o{fs:List Addr}{h h':Heap}{a:Addr}{φ:Heap->Prop}(u:Un fs [] H H' h h')(ha:H' a=some (.ext φ)):Un fs [] H (drop H' a) h h':=by
 refine⟨u.keep,u.slot,fun b ob e n hx=>?_,u.there,fun b xs e=>a4r ha (u.tups b xs e) (fun _ z=>nomatch z),fun b ob v e=>a4r ha (u.frzs b ob v e) (fun _ z=>nomatch z),fun b ps e=>?_⟩
 ·have:=u.free b ob e n hx
  unfold drop
  split
  ·rfl
  ·exact this
 ·obtain⟨m,q⟩:=u.tbls b ps e
  exact⟨m,a4r ha q (fun _ z=>nomatch z)⟩
theorem c8c{P:Program}{w:World}{h:Heap}{a:Addr}{φ:Heap->Prop}(k:HOk P w H h)(ha:H a=some (.ext φ)):HOk P w (drop H a) h:=fun b u e=>by
 obtain⟨hb,e'⟩:=c4x e
 exact(k b u e').stay (fun _ _ _ q=>q) (fun c q=>a4r ha q (fun _ z=>nomatch z)) (fun c xs q=>a4r ha q (fun _ z=>nomatch z)) fun c ob u q=>a4r ha q (fun _ z=>nomatch z)
theorem c4y{E:XK}{a C t:Addr}{od:Option Addr}{Ex:Value->Shared->Prop}(I:Inv X pins σ H s)(hst:X.stack=X.env :: X.outer)(hf:X.env.frame=some X.env.locals)(hex:X.ex=[])
  (os:s'.os=s.os) (bare:AllBare s'.gens) (un:Un (frs X.stack) [] H H' s.heap s'.heap) (hok:HOk X.prog X.w H' s'.heap) (ha:H' a=some (.ext (exm a C t od))) (hn:s.heap.get? a=none) (hE:E (.ref C) od (drop H' a)) :
  wpAny (model X.prog X.w) X.A (leaving X.env (.ref a)) (fun _ s''=>CX2 X.prog X.w X.outer X.H₀ X.s₀ E (.ref a) s'') Ex s':=by
 have hfr:X.A.frames=some (X.env :: X.outer):=by rw [← hst];exact I.ok.frames
 have he:exm a C t od s'.heap:=(hok a _ ha).1
 have I2:Inv X pins σ H' s':=I.call' os un hok bare (fun b z=>absurd z (by simp))
 have hst2:=I2.stack
 have hfs:s'.heap.FunFrames (PySem.W.hideAll s'.heap (a :: frs X.stack)) (X.env :: X.outer):=by
  rw [hst] at hst2 ⊢
  exact PySem.W.funFrames_hide hst2 fun env he b hb=>mem_cons_of_mem _ (mem_filterMap.mpr ⟨env,he,hb⟩)
 have hen:(PySem.W.hideAll s'.heap (a :: frs X.stack)).get? a=none:=PySem.W.hideAll_none _ (mem_cons_self ..)
 have hkb:(PySem.W.hideAll s'.heap (a :: frs X.stack)).StaysIn s'.heap:=fun b o q=>PySem.W.of_hideAll _ q
 have cov:Cov X.stack (drop H' a) s.heap (PySem.W.hideAll s'.heap (a :: frs X.stack)) s'.heap:=fun b o e c n=>PySem.W.hideAll_get _ e fun hm=>by
  rcases mem_cons.mp hm with z | z
  ·subst z
   rcases c with c | ⟨o',c⟩
   ·exact c b4u
   ·rw [hn] at c;cases c
  ·exact n z
 have un':=d3o un ha
 have hok':=c8c hok ha
 refine(b0g _ _).any (wpAny_leaving_firstW (a0:=.ref t) hfr hfs hf he hkb hen rfl rfl rfl fun h1 ⟨k1,⟨_,_,k2⟩,k3,k4⟩ dk=>?_)
 have fl:Heap.FlyingW (PySem.W.hideAll s'.heap (a :: frs X.stack)) X.outer a (.ref C) (.ref t) h1:=⟨k1,hen,k2,k3⟩
 obtain⟨o1,ho1,_⟩:=fl.there
 obtain⟨un1,hok1,cov1⟩:=a9j I un' hok' cov k1 k4
 have J:Inv X pins σ (drop H' a) { s' with heap:=h1 }:=I.call' (s':={ s' with heap:=h1 }) os un1 hok1 bare (fun b z=>absurd z (by simp))
 refine b1x (s':=s') J hst hex fl (fun b o e c n=>cov1 b o e ?_ n) b4u ho1 (by rw [dk.at he ho1];exact hE)
 rcases c with c | ⟨o',c⟩
 ·exact .inl c
 ·exact .inr (I.base.there b o' c (by rw [hex];simp))
end
end L2
end
section
namespace L2
open PySem PySem.Spec PySem.Calls PyProof.Rows PySem.W
noncomputable def exc2(K:Frag)(C:Addr)(bB:List Value)(nid:String):Bool:=match K.lookup C with
 | some ⟨.type "type",_,.cls cd,sl⟩=>(match cd.mro,sl.toList with
  | .ref D :: bm,[_,_,_,_,some (.builtin n),_]=>!cd.hasDel && tailIn K bB bm && n == nid && D == C
  | _,_=>false)
 | _=>false
theorem b7n{K:Frag}{h:Heap}{C:Addr}{bB:List Value}{nid:String}(X:K.In h)(q:exc2 K C bB nid=true) :
  ∃ bm N nm qn bs hd sn sub ab col dd k0 k1 k2 k3 k5,h.get? C=some (excClassObj nm qn C N bs bm hd sn sub ab col dd k0 k1 k2 k3 k5 nid)/\OwnTail h bB bm:=by
 unfold exc2 at q
 split at q
 ·rename_i dd cd sl ho
  split at q
  ·rename_i D bm k0 k1 k2 k3 n k5 hm hs
   simp only [and_eq_true,beq_iff_eq,Bool.not_eq_true'] at q
   obtain⟨⟨⟨hdel,ht⟩,rfl⟩,rfl⟩:=q
   obtain⟨nm,bs,mro,ns,qn,hd,sn,sub,ab,col,del⟩:=cd
   dsimp only at hm hdel
   subst hm hdel
   have e:sl = #[k0,k1,k2,k3,some (.builtin n),k5]:=by
    cases sl
    simp only at hs
    rw [hs]
   subst e
   exact⟨bm,ns,nm,qn,bs,hd,sn,sub,ab,col,dd,k0,k1,k2,k3,k5,X _ _ ho,tail_of_in X ht⟩
  ·cases q
 ·cases q
abbrev xTup(vs:List Value):Obj:={ cls:=.type "tuple",data:=.seq vs.toArray }
abbrev xObj(C t:Addr)(od:Option Addr):Obj:={ cls:=.ref C,dict:=od,data:=.fields #[.ref t,.none,.none,.none,.bool false,.none] }
abbrev a9k(h:Heap)(C:Addr)(vs:List Value):Heap:=(h.push (xTup vs)).push (xObj C h.objs.size none)
section
variable{prog:Program}{w:World}{A:Around}{E:Value->Shared->Prop}{K:Frag}{h:Heap}{g:Array GenState}{d:Drawn}{t:Nat}{os:OsState}{C f:Addr}{rest:List Value}{Q:Value->Shared->Prop}
theorem xcall(X:K.In h) (q:exc2 K C veM "ValueError.__new__" = true) (hi:findIn K (.ref C) "__init__" = some (some (.ref f))) (hf:typeIn K (.ref f)=some (.type "function")) (hl:rest.length <= sizeLine)
  (hq:wpAny (model prog w) (A.under (.builtin "type.__call__" ⟨.ref C :: rest,[]⟩)) (call (.ref f) (.ref (h.objs.size + 1) :: rest)) (fun r s'=>r=.none/\Q (.ref (h.objs.size + 1)) s') E ⟨a9k h C rest,g,d,t,os⟩) :
  wpAny (model prog w) A (call (.ref C) rest) Q E ⟨h,g,d,t,os⟩:=by
 obtain⟨bm,N,nm,qn,bs,hd,sn,sub,ab,col,dd,k0,k1,k2,k3,k5,hC,T⟩:=b7n X q
 have F:=PySem.F.excBase_ValueError
 have kp:∀ b o,h.get? b=some o->(a9k h C rest).get? b=some o:=fun b o e=>get?_push_of_some _ (get?_push_of_some _ e)
 have X1:K.In (a9k h C rest):=fun b o e=>kp b o (X b o e)
 have hC1:=kp _ _ hC
 have hx:(a9k h C rest).get? (h.objs.size + 1)=some { cls:=.ref C,data:=.fields #[.ref h.objs.size,.none,.none,.none,.bool false,.none] }:=by heap_get
 have own:(Value.ref C :: bm).contains (.ref C)=true:=by simp
 have f1:=tc_lookup
 have f2:=tc_bind (.ref C)
 have hT:(⟨h,g,d,t,os⟩:Shared).TypeIs (.ref C) "type":=⟨_,hC,rfl⟩
 refine wpAny_call (codeAny_of_tree (show wpAny _ _ (callAny (.ref C) _) _ _ _ from ?_))
 repeat (any_goals (first | with_reducible refine wpAny_loadPart_at hC ?_ | assumption | wp_step))
 refine⟨rfl,codeAny_call_builtin_at (Code.quiet_builtin _ (by decide +kernel)) entry_typeCall (wpAny_check_type_call_sub hC ?_)⟩
 repeat (first | with_reducible refine wpAny_madeBy_exc hC ?_ | with_reducible refine wpAny_loadPart_at hC ?_ | wp_step)
 refine codeAny_call_builtin_code (Code.quiet_builtin _ F.quiet) (wpAny_check_new_subT F T hC (codeAny_exc_new_subT F T hC (show wpAny _ _ _ _ _ _ from ?_) hl))
 unfold isInstance
 repeat (first | with_reducible refine wpAny_loadPart_at hx ?_ | wp_step)
 refine wpAny_isSubtype_exc hC1 ?_
 show wpAny _ _ (if (!(Value.ref C :: bm).contains (.ref C))=true then _ else _) _ _ _
 rw [own]
 unfold callSpecial? specialOf
 repeat (first | with_reducible refine wpAny_loadPart_at hx ?_ | wp_step)
 refine(looks_findIn (M:=model prog w) X1 hi).at ?_
 refine wpAny_holding (wpAny_bind ((bind_fn X1 _ hf).at (wpAny_bind (wpAny_mono hq (fun r s' hr=>?_) fun _ _ z=>z))))
 obtain⟨rfl,z⟩:=hr
 wp_walk
 exact z
end
end L2
end
section
namespace L2
open PySem PySem.Spec PySem.Calls PyProof.Rows PySem.W PySem.Builtin PySem.Builtin.ObjectAttr PySem.Builtin.Getset_descriptor
structure XFacts(K:Frag)(C:Addr):Prop where
 ga:findIn K (.ref C) "__getattribute__" = some (some (.builtin "BaseException.__getattribute__"))
 hk:findIn K (.ref C) "__getattr__" = some none
 cl:findIn K (.ref C) "__class__" = some (some (.builtin "object.__class__"))
 gt:specialIn K (.builtin "object.__class__") "__get__" = some (some (.builtin "getset_descriptor.__get__"))
 tk:takesIn K (.builtin "object.__class__")=some true
 ob:mroIn K C (.type "object")=some true
 be:mroIn K C (.type "BaseException")=some true
theorem a8m{a C:Addr}{M:Model}{h:Heap}(p:exq a C h):Looks M h (typeOf (.ref a)) (.ref C):=by
 obtain⟨o,h1,h2⟩:=p
 exact h2 ▸ (Looks.ld h1).andThen .now
section
variable{prog:Program}{w:World}{A:Around}{E:Value->Shared->Prop}{K:Frag}{a C:Addr}{s:Shared}
theorem b8b{R:Result->Shared->Prop}{tp:Value}(X:K.In s.heap)(p:exq a C s.heap)(F:XFacts K C)(h:R (.ok (.ret (.ref C))) s):codeAny (model prog w) A (.call (.builtin "getset_descriptor.__get__") ⟨[.builtin "object.__class__",.ref a,tp],[]⟩) R s:=by
 obtain⟨hh,g,dr,t,os⟩:=s
 have L0:=a8m (M:=model prog w) p
 have L1:=looks_mroIn (M:=model prog w) X F.ob
 refine codeAny_call_builtin KF.slot_gs.plain KF.entry_gs (KF.slot_gs.check _ _ _ _ _ _ _ _ KF.type_class (KF.args_gs _ _ _) ?_)
 unfold Builtin.«getset_descriptor.__get__» descrGet
 rw [dga_obj]
 refine wpAny_bind (wpAny_pure ?_)
 unfold descrGetter descrCheckInstance descrNameAndClass isInstance
 simp only [KF.owner_class]
 repeat lk
 refine⟨Code.quiet_builtin _ (by decide +kernel),codeAny_builtin KF.entry_class ?_⟩
 unfold Builtin.«object.__class__» shownTypeOf
 repeat lk
 exact h
theorem b4v{nameV:Value}{Q:Unit->Shared->Prop}{M:Model}(X:K.In s.heap)(p:exq a C s.heap)(F:XFacts K C)(h:Q () s):wpAny M A (checkBuiltinCall "BaseException.__getattribute__" ⟨[.ref a,nameV],[]⟩) Q E s:=by
 have hk:builtinKind "BaseException.__getattribute__" = some .slot:=by decide +kernel
 have hsplit:splitId "BaseException.__getattribute__" = some ("BaseException","__getattribute__"):=by decide +kernel
 have ha:=PySem.F.args_bexc_ga (.ref a) nameV
 obtain⟨hh,g,dr,t,os⟩:=s
 have L0:=a8m (M:=M) p
 have L1:=looks_mroIn (M:=M) X F.be
 simp only [checkBuiltinCall,hk,hsplit]
 refine wpAny_bind ?_
 unfold isInstance
 refine wpAny_bind (L0.at (L1.at ?_))
 repeat (any_goals (first | assumption | wp_step))
theorem c8d(X:K.In s.heap)(F:XFacts K C):Looks (model prog w) s.heap (find (.ref a) (.ref C) "__class__") (.bind (.builtin "getset_descriptor.__get__") (.builtin "object.__class__")):=by
 have L1:=looks_findIn (M:=model prog w) X F.cl
 have L2:=looks_specialIn (M:=model prog w) X F.gt
 have L3:=looks_takesIn (M:=model prog w) X F.tk
 unfold find
 refine L1.andThen (Looks.andThen (show Looks _ _ (getOf (some _)) _ from L2) ?_)
 refine Looks.andThen (a:=some (.builtin "getset_descriptor.__get__",.builtin "object.__class__")) (L3.andThen .now) (Looks.tag .now)
theorem c4z{tk:Tok}{Q:PySem.Fin->Shared->Prop}(X:K.In s.heap)(p:exq a C s.heap)(F:XFacts K C)(h:Q (.done (.ret (.ref C))) s) :
  wpAny (model prog w) A (Builtin.«object.__getattribute__» ⟨[.ref a,.str "__class__" tk],[]⟩) Q E s:=by
 have L0:=a8m (M:=model prog w) p
 have L1:=c8d (prog:=prog) (w:=w) (a:=a) X F
 unfold Builtin.«object.__getattribute__»
 refine wpAny_bind (wpAny_pure (wpAny_bind (wpAny_pure (wpAny_bind (L0.at (wpAny_bind (L1.at ?_)))))))
 show wpAny _ _ (holding [_] (call (.builtin "getset_descriptor.__get__") [.builtin "object.__class__",.ref a,.ref C]) >>= ret) _ _ _
 exact wpAny_bind (wpAny_holding (wpAny_call (b8b X p F (wpAny_pure h))))
theorem c5a{Q:Option Value->Shared->Prop}(X:K.In s.heap)(p:exq a C s.heap)(F:XFacts K C)(h:Q (some (.ref C)) { s with toks:=s.toks + 1 }):wpAny (model prog w) A (getAttr? (.ref a) "__class__") Q E s:=by
 have L0:=a8m (M:=model prog w) p
 have L1:=looks_findIn (M:=model prog w) X F.ga
 have L2:=looks_findIn (M:=model prog w) X F.hk
 unfold getAttr? getAttrBy? getAttrBy
 refine wpAny_bind (wpAny_mkText (wpAny_bind (wpAny_attempt (wpAny_holding (wpAny_bind (L0.at (wpAny_bind (L1.at ?_))))))))
 show wpAny _ _ (getAttrByItsOwn _ _ _ _ _ _) _ _ _
 unfold getAttrByItsOwn
 refine wpAny_bind ((show Looks _ _ (hookBefore (.ref C)) _ from L2).at (wpAny_bind (wpAny_attempt (wpAny_holding ?_))))
 show wpAny _ _ (boundAndCalled _ _ _) _ _ _
 unfold boundAndCalled
 rw [PySem.F.attrBase_ValueError.ga.bind (.ref a)]
 refine wpAny_bind (wpAny_pure (wpAny_call ?_))
 refine codeAny_call_builtin PySem.F.attrBase_ValueError.ga.plain PySem.F.entry_bexc_ga (b4v (s:={ s with toks:=s.toks + 1 }) X p F (c4z (s:={ s with toks:=s.toks + 1 }) X p F ?_))
 exact wpAny_pure (wpAny_pure h)
theorem b7o{o:Obj}(l:K.lookup C=some o)(hcl:∃ cd,o.data=.cls cd)(F:XFacts K C):KitX K (.ref a) (.ref C) (exq a C) where
 ty:=fun _ _ _ p=>a8m p
 it:=fun _ _ X _=>by
  intro A' Q' E' s' k q
  obtain⟨cd,hd⟩:=hcl
  unfold isType loadHead
  refine wpAny_bind (wpAny_loadPart (k _ _ (X _ _ l)) ?_)
  rw [hd]
  exact wpAny_pure q
 ne:=fun h tp dd its n sl X htp=>by
  refine Bool.eq_false_iff.mpr fun q=>?_
  have e:C=tp:=Value.ref.inj (beq_iff_eq.mp q)
  subst e
  have z:=(X _ _ l).symm.trans htp
  cases z
  obtain⟨cd,hd⟩:=hcl
  cases hd
 ca:=fun X p k=>c5a X p F k
end
end L2
end
section
namespace L2
open PySem PySem.Spec PySem.Calls PyProof.Rows PySem.W PySem.Builtin PySem.Builtin.ObjectAttr
structure XSt(K:Frag)(C:Addr):Prop where
 sa:findIn K (.ref C) "__setattr__" = some (some (.builtin "object.__setattr__"))
 mr:∃ cd D,clsIn K C=some cd/\cd.mro=.ref C :: .ref D :: veM/\cd.hasDict=true
section
variable{prog:Program}{w:World}{A:Around}{E:Value->Shared->Prop}{K:Frag}{s:Shared}{x C:Addr}{ox:Obj}{od:Option Obj}{name:Str}{v:Value}
theorem b9k{tk:Tok}{R:Result->Shared->Prop}(X:K.In s.heap)(I:InstAt s.heap x ox C od)(F:XSt K C)(n:a1z K C name)
  (h:∀ b,wpAny (model prog w) A.in1 (storeInOwnDict (.ref x) (.ref C) (.str name tk) name v b)
   (fun fin s'=>match fin with | .done f=>R (.ok f) s' | .again c'=>c'.quiet=true/\codeAny (model prog w) A c' R s') (fun e s'=>R (.error e) s') s) :
  codeAny (model prog w) A (.call (.builtin "object.__setattr__") ⟨[.ref x,.str name tk,v],[]⟩) R s:=by
 have SF:=PySem.F.store_object
 obtain⟨cd,D,hc,hm,_⟩:=F.mr
 have sub:Looks (model prog w) s.heap (isInstance (.ref x) (.type "object")) true:=I.type.andThen (looks_mroIn X (by unfold mroIn;rw [hc,Option.bind_some,hm];rfl))
 refine codeAny_call_builtin SF.slot.plain SF.entry (@check_slot (model prog w) _ _ s "object.__setattr__" "object" "__setattr__" (.ref x) [.str name tk,v] [] _ SF.kind SF.split sub (SF.args (.ref x) (.str name tk) v) ?_)
 have lm:Looks (model prog w) s.heap (mroOf (.ref C)) (.ref C :: .ref D :: veM):=hm ▸ (looks_clsIn X hc).andThen .now
 rw [osa_eq,refuse_eq]
 refine wpAny_bind (wpAny_bind (I.type.here (wpAny_bind (lm.here ?_))))
 rw [refuseLoop_ref,refuseLoop_ref,PySem.F.store_ValueError.passes]
 exact wpAny_pure (wpAny_bind (I.type.here (wpAny_bind ((looks_findIn X n).here (wpAny_bind (wpAny_pure (h _)))))))
end
section
variable{X:Cx}{pins:List (Addr × Obj)}{σ:St}{H:Hp}{s:Shared}{a C t d:Addr}{f:Str}{y:V}{u:Value}{A:Around}{E:Value->Shared->Prop}{fs:List (Str × V)}
theorem c1k{h:Heap}(p:nsq d fs h):∃ mA,h.Ns1 d mA/\(∀ f,RelO (fs.lookup f) (mA f))/\PySem.Within mA (fs.map (·.1)):=by
 obtain⟨mA,n,r⟩:=p
 refine⟨mA,n,r,fun g hg=>?_⟩
 cases q:fs.lookup g with
 | none =>
  have:=r g
  rw [q] at this
  exact absurd this.none_of hg
 | some v =>
  have:∀ l:List (Str × V),l.lookup g=some v->g ∈ l.map (·.1):=fun l=>by
   induction l with
   | nil=>intro z;cases z
   | cons p l ih =>
    obtain⟨k,z⟩:=p
    intro e
    rw [lookup_cons] at e
    split at e
    ·rename_i hk
     rw [beq_iff_eq.mp hk];simp
    ·exact mem_cons_of_mem _ (ih e)
  exact this fs q
theorem c9w{tk:Tok}{Q:PySem.Fin->Shared->Prop}(I:Inv X pins σ H s)(hd:H d=some (.ext (nsq d fs)))(hl:fs.length < 1000)(ry:RelV y u)
  (h:∀ s',Inv X pins σ (upd H d (.ext (nsq d (putF f y fs)))) s'->Q (.done (.ret .none)) s'):wpAny (model X.prog X.w) A (storeInDict d (.str f tk) f u) Q E s:=by
 obtain⟨mA,n,r,wi⟩:=c1k (I.hok d _ hd).1
 have hz:(fs.map (·.1)).length <= sizeLine:=by rw [length_map,sizeLine_eq];omega
 unfold storeInDict newKeyGuard
 refine wpAny_bind (wpAny_pure (wpAny_bind (wpAny_nsSet1 n fun h' n2 sb=>?_)))
 obtain⟨oD,es,ep,hoD,hdD,hcD⟩:=n2.count (PySem.Within.cons f u wi)
 refine wpAny_bind (wpAny_lookBehind hoD (by rw [hdD];exact pastItsLine_dict (le_trans hcD (by rw [length_cons];omega))) ?_)
 refine wpAny_pure (h _ ?_)
 refine I.write (x:=d) (e:=d) (by rw [hd];exact True.intro) (.inl rfl) (fun b q hb z=>(sb.2 b hb).trans z) ⟨_,hoD⟩ (c4w ⟨_,n2,fun g=>?_⟩)
 show RelO ((putF f y fs).lookup g) (if g=f then some u else mA g)
 rw [a7q]
 by_cases q:g=f
 ·rw [if_pos q,if_pos q];exact ry
 ·rw [if_neg q,if_neg q];exact r g
theorem b7p{h:Heap}{od:Option Addr}(e:exm a C t od h)(hd:∀ d,od=some d->∃ o,h.get? d=some o):∃ oo,InstAt h a (xObj C t od) C oo:=by
 cases od with
 | none=>exact⟨none,⟨e,rfl,rfl,True.intro⟩⟩
 | some d =>
  obtain⟨o,q⟩:=hd d rfl
  exact⟨some o,⟨e,rfl,rfl,q⟩⟩
theorem c5b{Q:Unit->Shared->Prop}(I:Inv X pins σ H s)(ha:H a=some (.ext (exm a C t none)))(F:XSt X.K C)(n:a1z X.K C f)(ry:RelV y u)
  (h:∀ d s',H d=none->d ≠ a->Inv X pins σ (upd (upd (upd H d (.ext (nsq d []))) a (.ext (exm a C t (some d)))) d (.ext (nsq d [(f,y)]))) s'->Q () s'):wpAny (model X.prog X.w) A (setAttr (.ref a) f u) Q E s:=by
 have e:exm a C t none s.heap:=(I.hok a _ ha).1
 obtain⟨oo,J⟩:=b7p e (fun d z=>nomatch z)
 refine set_plain I.kIn J F.sa (b9k (s:={ s with toks:=s.toks + 1 }) I.kIn J F n fun b=>?_)
 obtain⟨cd,D,hc,hm,hdc⟩:=F.mr
 have I0:Inv X pins σ H { s with toks:=s.toks + 1 }:=I.tok _
 have ne:a ≠ s.heap.objs.size:=ne_of_lt (lt_size e)
 refine wpAny_bind (wpAny_pure (wpAny_bind (wpAny_bind (wpAny_loadPart e (wpAny_bind (Looks.here (s:={ s with toks:=s.toks + 1 }) (looks_clsIn I.kIn hc) ?_))))))
 rw [hdc]
 refine wpAny_bind (wpAny_alloc' ?_)
 have e1:(s.heap.push PySem.W.emptyDict).get? s.heap.objs.size=some PySem.W.emptyDict:=get?_push_size s.heap rfl
 have e3:(s.heap.push PySem.W.emptyDict).Ns s.heap.objs.size (fun _=>none):=⟨PySem.W.emptyDict,#[],_,e1,rfl,(fun e he=>absurd he (by simp)),fun _=>rfl⟩
 have I1:=I0.laid (a:=s.heap.objs.size) (o:=.ext (nsq s.heap.objs.size [])) (h':=s.heap.push PySem.W.emptyDict) (t':=s.toks + 1) (fun b u q=>get?_push_of_some _ q) (le_refl _) (c4w ⟨_,Heap.Ns1.of_empty e3,fun _=>True.intro⟩)
 have ex:(s.heap.push PySem.W.emptyDict).get? a=some (xObj C t none):=get?_push_of_some _ e
 refine wpAny_bind (wpAny_update' ex ?_)
 have e4:=Heap.get?_update_self (fun o:Obj=>{ o with dict:=some s.heap.objs.size }) ex rfl
 have I2:=I1.write (x:=a) (e:=a) (o:=.ext (exm a C t (some s.heap.objs.size))) (h':=(s.heap.push PySem.W.emptyDict).update a fun o=>{ o with dict:=some s.heap.objs.size }) (t':=s.toks + 1) (by rw [a0d ne,ha];exact True.intro) (.inl rfl) (fun b q hb z=>(get?_update_other _ _ (Ne.symm hb)).trans z) ⟨_,e4⟩ (c4v e4)
 refine wpAny_pure (a:=some s.heap.objs.size) ?_
 refine c9w (fs:=[]) I2 (by rw [a0d (Ne.symm ne),a0c]) (by decide) ry fun s' I3=>?_
 exact h _ s' (I.hok.fresh (le_refl _)) (Ne.symm ne) I3
theorem c8e{Q:Unit->Shared->Prop}(I:Inv X pins σ H s)(ha:H a=some (.ext (exm a C t (some d))))(hd:H d=some (.ext (nsq d fs)))(hl:fs.length < 1000)(F:XSt X.K C)(n:a1z X.K C f)(ry:RelV y u)
  (h:∀ s',Inv X pins σ (upd H d (.ext (nsq d (putF f y fs)))) s'->Q () s'):wpAny (model X.prog X.w) A (setAttr (.ref a) f u) Q E s:=by
 have e:exm a C t (some d) s.heap:=(I.hok a _ ha).1
 obtain⟨oo,J⟩:=b7p e (fun d' z=>by cases z;exact(I.hok d _ hd).2.1)
 refine set_plain I.kIn J F.sa (b9k (s:={ s with toks:=s.toks + 1 }) I.kIn J F n fun b=>?_)
 obtain⟨cd,D,hc,hm,hdc⟩:=F.mr
 refine wpAny_bind (wpAny_pure (wpAny_bind (wpAny_bind (wpAny_loadPart e (wpAny_bind (Looks.here (s:={ s with toks:=s.toks + 1 }) (looks_clsIn I.kIn hc) ?_))))))
 rw [hdc]
 refine wpAny_pure (a:=some d) ?_
 exact c9w (I.tok _) hd hl ry h
end
end L2
end
section
namespace L2
open PySem PySem.Spec PyProof.Rows
def sX1(K:W.Frag)(ta tv:TE)(f:Str):TS:=fun D σ H=>tv σ H fun y H1=>ta σ H1 fun x H2=>∃ a C t,x=.ref a/\H2 a=some (.ext (exm a C t none))/\XSt K C/\a1z K C f /\
 ∀ d,H2 d=none->d ≠ a->D.nx σ (upd (upd (upd H2 d (.ext (nsq d []))) a (.ext (exm a C t (some d)))) d (.ext (nsq d [(f,y)])))
def sX2(K:W.Frag)(ta tv:TE)(f:Str):TS:=fun D σ H=>tv σ H fun y H1=>ta σ H1 fun x H2=>∃ a C t d fs,x=.ref a/\H2 a=some (.ext (exm a C t (some d)))/\H2 d=some (.ext (nsq d fs))/\fs.length < 1000/\XSt K C/\a1z K C f /\
 D.nx σ (upd H2 d (.ext (nsq d (putF f y fs))))
section
variable{X:Cx}{o value:Expr}{f:Str}{pos pos':Pos}{ta tv:TE}
theorem ps_x1(ha:PE X o ta)(hv:PE X value tv)(hs:swapsWith value (some (.Attribute o f pos')) pos.line X.env=pure false):PS X (.Assign [.Attribute o f pos'] value pos) (sX1 X.K ta tv f):=by
 intro pins s σ H D I h
 refine plainObj_wpAny_Assign_Attribute (thn (hv pins s σ H _ I h) fun u s1 ⟨y,H1,I1,ry,q⟩=>thn (ha pins s1 σ H1 _ I1 q) fun ov s2 hq8=>?_) hs
 obtain⟨x,H2,I2,rx,a,C,t,ex,ea,c,n,q2⟩:=hq8
 subst ex
 cases rx
 exact c5b I2 ea c n ry fun d s3 hd hn I3=>⟨σ,_,I3,q2 d hd hn⟩
theorem ps_x2(ha:PE X o ta)(hv:PE X value tv)(hs:swapsWith value (some (.Attribute o f pos')) pos.line X.env=pure false):PS X (.Assign [.Attribute o f pos'] value pos) (sX2 X.K ta tv f):=by
 intro pins s σ H D I h
 refine plainObj_wpAny_Assign_Attribute (thn (hv pins s σ H _ I h) fun u s1 ⟨y,H1,I1,ry,q⟩=>thn (ha pins s1 σ H1 _ I1 q) fun ov s2 hq8=>?_) hs
 obtain⟨x,H2,I2,rx,a,C,t,d,fs,ex,ea,ed,l,c,n,q2⟩:=hq8
 subst ex
 cases rx
 exact c8e I2 ea ed l c n ry fun s3 I3=>⟨σ,_,I3,q2⟩
end
structure Out2(X:Cx)(E:XK):Prop where
 st:X.stack=X.env :: X.outer
 fr:X.env.frame=some X.env.locals
 ex:X.ex=[]
 xe:∀ e s',wpAny (model X.prog X.w) X.A (leaving X.env e) (fun _ s''=>CX2 X.prog X.w X.outer X.H₀ X.s₀ E e s'') (fun e' s''=>CX2 X.prog X.w X.outer X.H₀ X.s₀ E e' s'') s'->X.xe e s'
theorem a4a{P:Program}{w:World}{K:W.Frag}{mg:Str->Option Value}{base:Heap}{N:List Str}{qual:Str}{scope:Scope}{f:Addr}{cd:Value}{A:Around}{outer:List Env}{s:Shared}{H:Hp}{E:XK} :
  Out2 (cxOf (CX2 P w) P w K mg base N qual scope f cd A outer s H E) E:=⟨rfl,rfl,rfl,fun _ _ h=>h⟩
structure XMk(K:W.Frag)(C f:Addr):Prop where
 q:exc2 K C veM "ValueError.__new__" = true
 init:PySem.W.findIn K (.ref C) "__init__" = some (some (.ref f))
 fn:PySem.W.typeIn K (.ref f)=some (.type "function")
 kp:PySem.W.keepIn K (.ref C)=true
def b9l(E:XK)(C:Addr)(sp:Sp)(t:TA):TS:=fun _ σ H=>t σ H fun vs H1=>∀ e t0,H1 e=none->sp (.ref e :: vs) (upd H1 e (.ext (exm e C t0 none))) (fun v H2=>v=.non/\∃ od,H2 e=some (.ext (exm e C t0 od))/\E (.ref C) od (drop H2 e)) E0
theorem c1l{M:Model}{A:Around}{E:Value->Shared->Prop}{K:W.Frag}{env:Env}{s:Shared}{x:Sem Value}{Q:Flow->Shared->Prop}(hh:A.handled=none)
  (h:wpAny M A x (fun v s1=>∃ e C t od,v=.ref e/\K.In s1.heap/\exm e C t od s1.heap/\exc2 K C veM "ValueError.__new__" = true/\E v s1) E s):wpAny M A (raiseStmt env (some x) none) Q E s:=by
 unfold raiseStmt
 refine wpAny_bind (wpAny_mono h (fun v s1 h1=>?_) fun _ _ z=>z)
 obtain⟨e,C,t,od,rfl,X,he,q,hE⟩:=h1
 obtain⟨bm,N,nm,qn,bs,hd,sn,sub,ab,col,dd,k0,k1,k2,k3,k5,hC,T⟩:=b7n X q
 have hb:(Value.ref C :: bm).contains (.type "BaseException")=true:=by rw [List.contains_cons,T.hasType (b:=true) (by decide),Bool.or_true]
 unfold exm at he
 obtain⟨hp,g,d,tk,os⟩:=s1
 repeat (first | with_reducible refine wpAny_loadPart_at hC ?_ | with_reducible refine wpAny_loadPart_at he ?_ | (with_reducible refine wpAny_isSubtype_exc hC ?_;rw [hb]) | wp_step)
 exact wpAny_raiseNew_none hh hE
section
variable{X:Cx}{k:Nat}{x:Str}{C f:Addr}{fd:FuncData}{ps:List Str}{sp:Sp}{E:XK}{np cpos pos:Pos}{e:Expr}{es:List Expr}{t:TA}
theorem b4w(O:Out2 X E)(hc:X.calm=true)(M:XMk X.K C f)(F:FnOk X.prog X.w X.K X.mg X.base CX0 k f fd ps sp)(hr:Room (k + 1) X.A)(hg:Gl X x)(hm:X.mg x=some (.ref C))(hb:Binds X.K fd ps [])(ha:PA X (e :: es) t)(hz:ps.length <= 1000)
  (hdb:(x == ("__debug__" : Str))=false:=by decide) (he:starEach (e :: es) X.env=(false,eval e X.env) :: starEach es X.env:=by rfl) (hpl:(backTo cpos (starEach es X.env)).any (·.1)=false:=by rfl) :
  PS X (.Raise (some (.Call (.Name x np) (e :: es) [] cpos)) none pos) (b9l E C sp t):=by
 intro pins s σ H D I h
 rw [arm_exec_Raise]
 refine wpAny_bind (wpAny_standAt (c1l (K:=X.K) (I.ok.hd hc) (wpAny_bind (wpAny_mono ?_ (fun v s3 h3=>wpAny_bind (wpAny_standAt (wpAny_pure h3))) fun _ _ z=>z))))
 refine wpAny_Call_Name_kw (a6p I hg hm ?_ hdb)
 refine PySem.W.callWith_K (h₀:=X.base) I.ok.mod.kin M.kp (thn (ha cpos pins s σ H _ I h) fun us s1 ⟨vs,H1,I1,r,q⟩=>⟨I1.kIn,?_⟩) he hpl
 obtain⟨hh,g,d,tk,os⟩:=s1
 have hq:=q (hh.objs.size + 1) hh.objs.size (I1.hok.fresh (le_succ _))
 have r2:Vals (V.ref (hh.objs.size + 1) :: vs) (Value.ref (hh.objs.size + 1) :: us):=.cons rfl r
 have hl:(Value.ref (hh.objs.size + 1) :: us).length=ps.length:=by rw [← r2.length];exact F.len _ _ _ _ hq
 have hx:(a9k hh C us).get? (hh.objs.size + 1)=some (xObj C hh.objs.size none):=by heap_get
 have kp:∀ b o,hh.get? b=some o->(a9k hh C us).get? b=some o:=fun b o e=>get?_push_of_some _ (get?_push_of_some _ e)
 have I2:=I1.laid (a:=hh.objs.size + 1) (o:=.ext (exm (hh.objs.size + 1) C hh.objs.size none)) (h':=a9k hh C us) (t':=tk) kp (le_succ _) (c4v hx)
 refine xcall I1.kIn M.q M.init M.fn (by rw [length_cons] at hl;rw [sizeLine_eq,List.nil_append];omega) ?_
 refine wpAny_call (codeAny_mono (F.run _ X.stack _ _ ⟨Value.ref (hh.objs.size + 1) :: us,[]⟩ (Value.ref (hh.objs.size + 1) :: us) _ _ E0 (hr.make C us []) (I2.env0.make C us []) (by have:=hb _ (Value.ref (hh.objs.size + 1) :: us) I2.kIn (by rw [append_nil];exact hl);rwa [append_nil] at this) r2 hq) fun r s' hq'=>?_)
 cases r with
 | error e=>exact False.elim hq'
 | ok fl =>
  cases fl with
  | ret u =>
   obtain⟨v,H',os,bare,un,hok,rv,ev,od,hex,hE⟩:=hq'
   subst ev
   refine⟨rv,?_⟩
   have he':exm (hh.objs.size + 1) C hh.objs.size od s'.heap:=(hok _ _ hex).1
   have J:Inv X pins σ H' s':=I2.call' os un hok bare (fun b z=>absurd z (by simp))
   have un0:Un (frs X.stack) [] H1 H' hh s'.heap:=(Un.laid (a:=hh.objs.size + 1) kp (le_succ _) (I1.hok.fresh (le_succ _))).trans un
   have key:X.xe (.ref (hh.objs.size + 1)) s':=O.xe _ _ (c4y I1 O.st O.fr O.ex os bare un0 hok hex (Heap.get?_none_of_le (le_succ _)) hE)
   exact⟨_,C,_,od,rfl,J.kIn,he',M.q,key⟩
  | next=>exact False.elim hq'
  | brk=>exact False.elim hq'
  | cont=>exact False.elim hq'
end
end L2
end
section
namespace L2
open PySem PySem.Spec PyProof.Rows
section
variable{X:Cx}{pins:List (Addr × Obj)}{σ:St}{H H':Hp}{s s':Shared}{h1 B:Heap}
end
section
variable{X:Cx}{x:Str}{C:Addr}{E:XK}{np cpos pos:Pos}
theorem b1c(O:Out2 X E):a4f (CX2 X.prog X.w) X E:=fun pins σ H s e s' I c=>O.xe e s' (leave_on2 I O.st O.fr O.ex c)
end
section
variable{P:Program}{w:World}{K:W.Frag}{mg:Str->Option Value}{base:Heap}
theorem Fun.okX2{x qual:Str}{st:Stmt}{f:Addr}{fd:FuncData}{N ps:List Str}{k:Nat}{sp:Sp}(F:Fun K x qual st f fd)(S:FnScope N ps (a0g st))(len:∀ vs H Q E,sp vs H Q E->vs.length=ps.length)
  (hbody:∀ (cdv:Value) (A:Around) (outer:List Env) (s:Shared) (H:Hp) (vs:List V) (Q:VK) (E:XK),Room k (A.deeper (envOfC qual (a0g st) s.heap.objs.size f cdv))->sp vs H Q E ->
   ∃ t,PSs (cxOf (CX2 P w) P w K mg base N qual (a0g st) f cdv A outer s H E) (a1q st) t/\t { nx:=fun _ H'=>Q .non H',rt:=Q } (start N vs) H):FnOk P w K mg base (CX2 P w) (k + 1) f fd ps sp:=by
 obtain⟨oc,od,kV,doc,pm,an,cdv,ct,osl,rfl,lk,hcd⟩:=F.ex
 exact c0g lk hcd S len fun A outer s H vs Q E hr hsp=>hbody cdv A outer s H vs Q E hr hsp
end
def PEx2(X:Cx)(e:Expr)(t:TE)(E:XK):Prop:=∀ (pins:List (Addr × Obj)) (s:Shared) (σ:St) (H:Hp) (Q:VK),Inv X pins σ H s->t σ H Q ->
 wpAny (model X.prog X.w) X.A (eval e X.env) (EP X pins σ Q) (fun x s'=>∃ H1 s1,Inv X pins σ H1 s1/\CX2 X.prog X.w X.stack H1 s1 E x s') s
section
variable{X:Cx}{k:Nat}{f:Addr}{fd:FuncData}{ps:List Str}{sp:Sp}{E:XK}{x:Str}{p pos:Pos}{e:Expr}{es:List Expr}{t:TA}
theorem c5c(hx:∀ e s,X.xe e s->False)(F:FnOk X.prog X.w X.K X.mg X.base (CX2 X.prog X.w) k f fd ps sp)(hr:Room k X.A)(hg:Gl X x)(hm:X.mg x=some (.ref f))(hk:PySem.W.keepIn X.K (.ref f)=true)(hb:Binds X.K fd ps [])(ha:PA X (e :: es) t)
  (hdb:(x == ("__debug__" : Str))=false:=by decide) (he:starEach (e :: es) X.env=(false,eval e X.env) :: starEach es X.env:=by rfl) (hpl:(backTo pos (starEach es X.env)).any (·.1)=false:=by rfl) :
  PEx2 X (.Call (.Name x p) (e :: es) [] pos) (b0p sp [] E t) E:=by
 intro pins s σ H Q I h
 refine wpAny_Call_Name_kw (a6p I hg hm ?_ hdb)
 refine PySem.W.callWith_K (h₀:=X.base) I.ok.mod.kin hk (wpAny_mono (ha pos pins s σ H _ I h) (fun us s1 ⟨vs,H1,I1,r,q⟩=>⟨I1.kIn,?_⟩) fun e s z=>(hx e s z).elim) he hpl
 have r2:Vals (vs ++ []) (us ++ []):=r.append .nil
 have hl:(us ++ []).length=ps.length:=by rw [← r2.length];exact F.len _ _ _ _ q
 refine wpAny_call (codeAny_mono (F.run X.A X.stack s1 H1 ⟨us,[]⟩ (us ++ []) (vs ++ []) Q E hr I1.env0 (hb s1 us I1.kIn hl) r2 q) fun r s' hq=>?_)
 cases r with
 | error e=>exact⟨H1,s1,I1,hq⟩
 | ok fl =>
  cases fl with
  | ret u=>exact I1.after hq
  | next=>exact False.elim hq
  | brk=>exact False.elim hq
  | cont=>exact False.elim hq
end
section
variable{X:Cx}{e:Expr}{te:XK->TE}{wx n:Str}{Wk:Addr}{bw:List Value}{j:Nat}{b₀:Stmt}{suite:List Stmt}{th:TS}{p2 np hp tp:Pos}
def XH2(K:W.Frag)(Wk:Addr)(j:Nat)(th:TS)(D:Ends)(σ:St):XK:=fun cls od H2=>∃ C bm,cls=.ref C/\XCls K C bm/\(Value.ref C :: bm).contains (.ref Wk)=true /\
 ∀ a,H2 a=none->th { nx:=fun σ' H'=>D.nx (σ'.set j none) H',rt:=fun _ _=>False } (σ.set j (some (.ref a))) (upd H2 a (.ext (exd a C od)))
theorem c1m{pins:List (Addr × Obj)}{σ:St}{H1:Hp}{s1 s':Shared}{D:Ends}{v:Value}(I:Inv X pins σ H1 s1)(c:CX2 X.prog X.w X.stack H1 s1 (XH2 X.K Wk j th D σ) v s')
  (hst:X.stack=X.env :: X.outer) (hf:X.env.frame=some X.env.locals) (hex:X.ex=[]) (hN:X.N.Nodup) (hj:X.N[j]? = some n) (hk:X.env.kindOf n=some .local) (hlo:Loc X.env.scope n) (hg:Gl X wx) (hm:X.mg wx=some (.ref Wk)) (cw:XCls X.K Wk bw) (hh:∀ a,PSs (markX X (.ref a)) (b₀ :: suite) th)
  (hd:(wx == ("__debug__" : Str))=false:=by decide) (hfn:X.fn n=true ∨ X.env.scope.names.lookup n=some .local:=by first | exact .inl rfl | exact .inr rfl | assumption) :
  wpAny (model X.prog X.w) X.A (noteFrame v X.env) (fun _ s₂=>wpAny (model X.prog X.w) X.A (setFlight v none) (fun _ s₃=>wpAny (model X.prog X.w) X.A (handleBy v X.env [.ExceptHandler (some (.Name wx np)) (some n) (b₀ :: suite) hp]) (SP X pins D) X.xe s₃) X.xe s₂) X.xe s':=by
 obtain⟨a,C,t,B,H',oe,rfl,os,bare,un,hok,ha,fl,cov,hoe,hE⟩:=c
 have hfr:X.A.frames=some (X.env :: X.outer):=by rw [← hst];exact I.ok.frames
 have fl0:=fl
 rw [hst] at fl0
 refine(b0f _ _).any (wpAny_looks_onW hfr hf fl0 fun h4 held4 up4 dk4=>?_)
 refine(a4h _ _).any (wpAny_landsW held4 fun h5 fl5 up5 dk5=>?_)
 obtain⟨un5,hok5,cov5⟩:=a9j I un hok cov fl5.1 (up4.trans up5)
 have I5:Inv X pins σ H' { s' with heap:=h5 }:=I.call' (s':={ s' with heap:=h5 }) os un5 hok5 bare (fun b z=>absurd z (by simp))
 obtain⟨ob,hob,hobc⟩:=fl5.there
 obtain⟨C',bm,ec,cc,hsub,hth⟩:=hE
 cases ec
 refine wpAny_handleBy_cons (codeAny_handlers_test (a6p (X:=markX X (.ref a)) (I5.mark _) hg hm ?_ hd)) (by intro q;cases q)
 refine d3m I5.kIn cc cw hob hobc hsub ?_
 refine codeAny_handlers_suite_as ((a4h _ _).any (lands_againW fl5 fun h6 fl6 up6 dk6=>?_))
 obtain⟨un6,hok6,cov6⟩:=a9j I un hok cov fl6.1 ((up4.trans up5).trans up6)
 have I6:Inv X pins σ H' { s' with heap:=h6 }:=I.call' (s':={ s' with heap:=h6 }) os un6 hok6 bare (fun b z=>absurd z (by simp))
 obtain⟨o6,v6,he6,hc6,hd6,_⟩:=fl6.first
 have hdi:o6.dict=oe.dict:=((dk4.trans dk5).trans dk6).at hoe he6
 -- the exception was not there ahead of the call
 have hna:s1.heap.get? a=none:=by
  cases q:s1.heap.get? a with
  | none=>rfl
  | some o1 =>
   have hnf:a ∉ frs X.stack:=fun hb=>by
    rw [hst] at hb
    obtain⟨_,o2,ho2,hd2⟩:=fl6.2.2.1.mem hb
    rw [he6] at ho2
    cases ho2
    exact hd2 _ hd6
   have:=cov6 a o6 he6 (.inr ⟨o1,q⟩) hnf
   rw [fl6.2.1] at this
   cases this
 have I7:Inv X pins σ (upd H' a (.ext (exd a C oe.dict))) { s' with heap:=h6 }:=by
  refine I6.track ha ?_ ?_ (fun x c e z=>?_) (fun p hp z=>?_) (d8r ⟨o6,he6,hc6,hdi,v6,hd6⟩)
  ·cases q:X.s₀.heap.get? a with
   | none=>rfl
   | some o0 =>
    obtain⟨o',e'⟩:=I.base.there a o0 q (by rw [hex];simp)
    rw [hna] at e';cases e'
  ·rintro rfl
   obtain⟨_,⟨_,_,_,e,_⟩,_⟩:=I.loc
   rw [hna] at e;cases e
  ·obtain⟨_,_,e',_⟩:=I.cell x c e
   rw [z,hna] at e';cases e'
  ·obtain⟨e',_⟩:=I.pin p hp
   rw [z,hna] at e';cases e'
 refine a8v (X:=markX X (.ref a)) (I7.mark _) hN hj hlo (v:=V.ref a) rfl (fun s7 I8=>?_) hfn
 refine wpAny_mono (hh a pins s7 _ _ _ I8 (hth a ha)) (fun fl s8 q=>?_) fun _ _ z=>z.elim
 cases fl with
 | next =>
  obtain⟨σ8,H8,I9,q9⟩:=q
  exact d3n (I9.unmark I.ok.hd) hN hj hk fun s9 I10=>⟨_,_,I10,q9⟩
 | ret u=>obtain⟨_,_,_,_,_,z⟩:=q;exact z.elim
 | brk=>obtain⟨_,_,_,z⟩:=q;exact z.elim
 | cont=>obtain⟨_,_,_,z⟩:=q;exact z.elim
end
end L2
end
section
namespace L2
open PySem PySem.Spec PyProof.Rows
section
variable{P:Program}{w:World}{K:W.Frag}{mg:Str->Option Value}{base:Heap}
theorem Fun.okX2c{x qual:Str}{st:Stmt}{f:Addr}{fd:FuncData}{N ps:List Str}{k:Nat}{sp:Sp}(F:Fun K x qual st f fd)(S:FnScope N ps (a0g st))(len:∀ vs H Q E,sp vs H Q E->vs.length=ps.length)
  (hbody:∀ (cdv:Value) (A:Around) (outer:List Env) (s:Shared) (H:Hp) (vs:List V) (Q:VK) (E:XK),fd.code=cdv->Room k (A.deeper (envOfC qual (a0g st) s.heap.objs.size f cdv))->sp vs H Q E ->
   ∃ t,PSs (cxOf (CX2 P w) P w K mg base N qual (a0g st) f cdv A outer s H E) (a1q st) t/\t { nx:=fun _ H'=>Q .non H',rt:=Q } (start N vs) H):FnOk P w K mg base (CX2 P w) (k + 1) f fd ps sp:=by
 obtain⟨oc,od,kV,doc,pm,an,cdv,ct,osl,rfl,lk,hcd⟩:=F.ex
 exact c0g lk hcd S len fun A outer s H vs Q E hr hsp=>hbody cdv A outer s H vs Q E rfl hr hsp
theorem d3p{x qual:Str}{st:Stmt}{f c T:Addr}{fd:FuncData}(F:Fun K x qual st f fd)(hL:LAMS.any (· == qual)=true)(hc:fd.code=.ref c)(hC:PySem.W.codeHdIn K c T=true):(c,T,qual ++ ".<locals>.<lambda>") ∈ a8f K:=by
 obtain⟨oc,od,kV,doc,pm,an,cdv,ct,osl,rfl,lk,hcd⟩:=F.ex
 refine mem_filterMap.mpr ⟨_,PySem.W.mem_of_lookupK lk,?_⟩
 obtain rfl:cdv=.ref c:=hc
 unfold lamOf
 show(if LAMS.any (· == qual)=true then _ else _)=_
 rw [if_pos hL]
 unfold PySem.W.codeHdIn at hC
 split at hC
 ·rename_i vs hk
  simp only [and_eq_true] at hC
  obtain⟨⟨⟨⟨⟨e1,_⟩,_⟩,_⟩,_⟩,_⟩:=hC
  split at e1
  ·rename_i P' h11
   obtain rfl:P'=T:=beq_iff_eq.mp e1
   dsimp only
   rw [hk]
   simp only [h11]
  ·cases e1
 ·cases hC
def c1n(P:Program)(w:World)(K:W.Frag)(mg:Str->Option Value)(base:Heap)(n:Nat)(H:Hp)(f:Addr)(g:Str->Bool):Prop:=∃ (o:Obj) (fd:FuncData) (pn:Str) (sp:Sp),(∃ gd,o.data=.func gd)/\H f=some (.frz o (.own f))/\FnOk P w K mg base CX0 n f fd [pn] sp/\Binds K fd [pn] [] /\
 ∀ (x:Str) (H1:Hp) (Q:VK),x.length <= 1000000->Same H H1->(∀ H2,Same H1 H2->Q (.bl (g x)) H2)->sp [.str x] H1 Q E0
theorem b0h{g:Str->Bool}{pn q:Str}{H:Hp}{f c:Addr}{params:Arguments}{body:Expr}{scope:Scope}{pm ct:Value}{k:Nat}(L:Lam H f q params body scope [] pm c ct)(S:FnScope [pn] [pn] scope)
  (hbind:∀ u:Value,bindArgs (c9u q params body scope [] pm c ct) ⟨[u],[]⟩=pure [(pn,u)])
  (hb:∀ (A:Around) (outer:List Env) (s:Shared) (H1:Hp) (E:XK) (x:Str),Room k (A.deeper (envOfC q scope s.heap.objs.size f (.ref c)))->x.length <= 1000000->Same H H1 ->
   ∃ t,PE (cxOf CX0 P w K mg base [pn] q scope f (.ref c) A outer s H1 E) body t/\∀ Q:VK,(∀ H2,Same H1 H2->Q (.bl (g x)) H2)->t [some (.str x)] H1 Q):c1n P w K mg base (k + 1) H f g:=by
 refine⟨_,_,pn,_,⟨_,rfl⟩,L.1,d8p (f:=f) (c:=c) (q:=q) (params:=params) (body:=body) (scope:=scope) (pm:=pm) (ct:=ct) (sp:=fun vs H1 Q E=>∃ x:Str,vs=[.str x]/\x.length <= 1000000/\Same H H1/\∀ H2,Same H1 H2->Q (.bl (g x)) H2) S (fun vs H Q E hq8=>by obtain⟨x,e,_⟩:=hq8;rw [e];rfl) (fun A outer s H1 vs Q E hr h=>?_),Binds.all fun us hl=>?_,fun x H1 Q hx s1 hq=>⟨L.keep (S:=Any) s1.keep,x,rfl,hx,s1,hq⟩⟩
 ·obtain⟨x,rfl,hx,s1,hq⟩:=h
  obtain⟨t,ht,hq2⟩:=hb A outer s H1 E x hr hx s1
  exact⟨t,ht,hq2 Q hq⟩
 ·obtain⟨u,rfl⟩:∃ u,us=[u]:=by
   rcases us with _ | ⟨u,_ | ⟨_,_⟩⟩
   ·cases hl
   ·exact⟨u,rfl⟩
   ·cases hl
  exact hbind u
end
end L2
end
section
namespace L2
open PySem PySem.Spec PyProof.Rows
end L2
end
section
namespace Kd
open PySem PyProof.Rows
noncomputable def TK(h:Heap):Nat->PyData->Value->Prop
 | _,.int i,v=>∃ t,v=.int i t
 | _,.str x,v=>∃ t,v=.str x t
 | n + 1,.tuple ds,v=>∃ a o items m,v=.ref a/\h.get? a=some o/\o.cls=.type "tuple" /\ o.data=.seq items m/\Paired (TK h n) ds items.toList
 | _,_,_=>False
noncomputable def kr:Nat->PyData->Nat
 | _,.int _=>1
 | _,.str _=>1
 | n + 1,.tuple ds=>(ds.map (kr n)).sum + 1
 | _,_=>0
section
variable{prog:Program}{w:World}{E:Value->Shared->Prop}
end
end Kd
end
section
namespace Kd
open PySem PyProof.Rows
section
variable{prog:Program}{w:World}{E:Value->Shared->Prop}
end
noncomputable instance:DecidableEq PyData:=fun a b=>Classical.propDecidable (a=b)
def isK(h:Heap)(d:PyData)(a:Addr):Prop:=d.canLay0=true/\TK h 8 d (.ref a)
end Kd
end
section
namespace L2
open PySem PySem.Spec PyProof.Rows Kd
noncomputable def kd:Nat->PyData->Bool
 | _,.int _=>true
 | _,.str _=>true
 | n + 1,.tuple ds=>ds.all (kd n)
 | _,_=>false
section
variable{X:Cx}{pins:List (Addr × Obj)}{σ:St}{H:Hp}{s:Shared}{S:Addr->Prop}
end
abbrev KX:=PyData × Addr × V
def KF(p:KX)(q:PyData × Addr × Value):Prop:=p.1=q.1/\p.2.1=q.2.1/\RelV p.2.2 q.2.2
def KOk(K:W.Frag)(H:Hp)(d:PyData)(a:Addr):Prop:=kd 8 d=true/\d.canLay0=true/\∃ S,AtD K H S d (.ref a)
section
variable{X:Cx}{pins:List (Addr × Obj)}{σ:St}{H:Hp}{s:Shared}{d b:Addr}{xs:List KX}{k:PyData}{v:V}{r:Value}{A:Around}{E:Value->Shared->Prop}
end
end L2
end
section
namespace L2
open PySem PySem.Spec PyProof.Rows Kd
section
variable{X:Cx}
end
section
variable{K:W.Frag}{H:Hp}{S:Addr->Prop}{sa:Addr}{ns:List Int}
noncomputable def RcA(H:Hp)(S:Addr->Prop)(sa:Addr)(ns:List Int):Rc:={ H0:=H,S:=fun a=>S a ∨ H a=none,P:=fun _=>False,M:=fun _=>False,A:=fun p=>H p=none,B:=fun _=>False,lent:=fun _=>none,sa:=sa,ns:=ns }
theorem c8f(sc:Scr K H sa (ns.map V.int)){ds:List PyData}{vs:List V}(h:a0b K H S ds vs):Rel K (RcA H S sa ns) (fun _=>none) ((ds.map L.d).map some) (vs.map some) H:=by
 have hat:∀ (i:Nat) (x:PyData),ds[i]? = some x->∃ v,vs[i]? = some v/\AtD K H (live (RcA H S sa ns) fun _=>none) x v:=fun i x e=>by
  obtain⟨v,e1,e2⟩:=h.get e
  exact⟨v,e1,AtD.more (fun a z=>⟨.inl z,fun z=>z,fun i z=>nomatch z⟩) _ _ e2⟩
 have no:∀ (i:Nat) (l:L),((ds.map L.d).map some)[i]? = some (some l)->∃ x,l=.d x/\ds[i]? = some x:=fun i l e=>by
  rw [getElem?_map,getElem?_map] at e
  cases q:ds[i]? with
  | none=>rw [q] at e;cases e
  | some x=>rw [q] at e;cases e;exact⟨x,rfl,rfl⟩
 refine⟨fun i x e=>?_,fun i xs e=>?_,fun i xs e=>?_,fun i k e=>?_,fun i e=>?_,(fun i j p e=>nomatch e),(fun i p e=>nomatch e),fun p z=>.inr z,fun p z=>.inr z,fun b o _ e=>e,fun b z=>z,fun p z=>z.elim,fun p z=>z.elim (fun z=>z.elim) fun z=>z.elim,(fun i p e=>nomatch e),sc,?_⟩
 ·obtain⟨y,e1,e2⟩:=no i _ e
  cases e1
  obtain⟨v,h1,h2⟩:=hat i x e2
  exact⟨v,by rw [getElem?_map,h1];rfl,h2⟩
 ·obtain⟨_,e1,_⟩:=no i _ e;cases e1
 ·obtain⟨_,e1,_⟩:=no i _ e;cases e1
 ·obtain⟨_,e1,_⟩:=no i _ e;cases e1
 ·obtain⟨_,e1,_⟩:=no i _ e;cases e1
 ·rw [length_map,length_map,length_map,h.length]
noncomputable def Ret(K:W.Frag)(H:Hp)(S:Addr->Prop)(H':Hp):RV->V->Prop
 | .d x,v=>AtD K H' (fun a=>S a ∨ H a=none) x v
 | .new xs,v=>∃ p vs,v=.ref p/\H p=none/\H' p=some (.lst vs)/\a0b K H' (fun a=>(S a ∨ H a=none)/\a ≠ p) xs vs
theorem d3q{sp:DSp}{ds:List PyData}{vs:List V}{Q:VK}{E:XK}{Qd:RV->Rho->Prop}(sc:Scr K H sa (ns.map V.int))(h:a0b K H S ds vs)(hs:sp (ds.map L.d) Qd)
  (hq:∀ r v H' ρ',Qd r ρ'->Same H H'->Ret K H S H' r v->Q v H'):spD K sp vs H Q E:=by
 refine⟨RcA H S sa ns,fun _=>none,ds.map L.d,Qd,rfl,fun p z=>z,fun p z=>z.elim,fun p z=>z,fun _=>rfl,c8f sc h,hs,fun r O' ρ' σ' v H' q ro=>?_⟩
 cases r with
 | d x=>exact hq _ v H' _ q (fun b o e=>ro.1.same b o (fun z=>z) e) (AtD.more (fun a z=>z.1) _ _ ro.2)
 | new xs =>
  obtain⟨p,vs,rfl,R',fr,hp,ha⟩:=ro
  refine hq _ _ H' _ q (fun b o e=>R'.same b o (fun z=>z) e) ⟨p,vs,rfl,?_,hp,?_⟩
  ·exact fr.1
  ·exact a0b.more (fun a z=>⟨z.1,(a3x z).2⟩) _ _ ha
end
end L2
end
section
namespace L2
open PySem PySem.Spec PySem.Calls PyProof.Rows PySem.W PySem.Builtin PySem.Builtin.ObjectAttr
section
variable{X:Cx}{pins:List (Addr × Obj)}{σ:St}{H:Hp}{s:Shared}{a C d:Addr}{f:Str}{v:V}{A:Around}{E:Value->Shared->Prop}{fs:List (Str × V)}{od:Option Addr}
theorem b1d{h:Heap}(p:exd a C od h):exq a C h:=by obtain⟨o,e,c,_⟩:=p;exact⟨o,e,c⟩
theorem d3r{b:Bool}{Q:Value->Shared->Prop}(I:Inv X pins σ H s)(ha:H a=some (.ext (exd a C (some d))))(hd:H d=some (.ext (nsq d fs)))(F:XFacts X.K C)(hh:hasDictIn X.K C=true)(n:a1z X.K C f)(l:fs.lookup f=some v)
  (h:∀ u s',Inv X pins σ H s'->RelV v u->Q u s'):wpAny (model X.prog X.w) A (getAttr (.ref a) f b) Q E s:=by
 have p:exd a C (some d) s.heap:=(I.hok a _ ha).1
 obtain⟨mA,nA,r⟩:=(show nsq d fs s.heap from(I.hok d _ hd).1)
 obtain⟨o,e,hc,hdi,vs,hda⟩:=id p
 obtain⟨u,hu,ru⟩:=RelO.some_of (v:=v) (o:=mA f) (by rw [← l];exact r f)
 obtain⟨oD,hoD,hlk⟩:=b4a nA
 have J:InstAt s.heap a o C (some oD):=by
  refine⟨e,hc,by unfold notCls;rw [hda],?_⟩
  rw [hdi]
  exact hoD
 have L3:=looks_find (M:=model X.prog X.w) I.kIn J (findObj_own hh n rfl (show lookIn f oD=some (some u) by rw [hlk,hu]))
 have hv:=b4b ru
 have L0:=a8m (M:=model X.prog X.w) (b1d p)
 have L1:=looks_findIn (M:=model X.prog X.w) I.kIn F.ga
 have L2:=looks_findIn (M:=model X.prog X.w) I.kIn F.hk
 have x0:(b && onTheHeap (Value.builtin "BaseException.__getattribute__"))=false:=by cases b<;>rfl
 unfold getAttr getAttrBy
 refine wpAny_bind (wpAny_mkText (wpAny_holding (wpAny_bind (L0.at (wpAny_bind (L1.at ?_))))))
 show wpAny _ _ (getAttrByItsOwn _ _ _ _ _ _) _ _ _
 unfold getAttrByItsOwn
 refine wpAny_bind ((show Looks _ _ (hookBefore (.ref C)) _ from L2).at (wpAny_bind (wpAny_attempt (wpAny_holding ?_))))
 unfold callGetattribute
 rw [x0]
 show wpAny _ _ (boundAndCalled _ _ _) _ _ _
 unfold boundAndCalled
 rw [PySem.F.attrBase_ValueError.ga.bind (.ref a)]
 refine wpAny_bind (wpAny_pure (wpAny_call ?_))
 refine codeAny_call_builtin PySem.F.attrBase_ValueError.ga.plain PySem.F.entry_bexc_ga (b4v (s:={ s with toks:=s.toks + 1 }) I.kIn (b1d p) F ?_)
 unfold Builtin.«object.__getattribute__»
 refine wpAny_bind (wpAny_pure (wpAny_bind (wpAny_pure (wpAny_bind (L0.at (wpAny_bind (L3.at ?_)))))))
 refine wpAny_pure ?_
 show wpAny _ _ (handedOut u) _ _ _
 rw [handedOut_of hv]
 exact wpAny_pure (h u _ (I.tok _) ru)
end
def tXF(K:Frag)(ta:TE)(f:Str):TE:=fun σ H Q=>ta σ H fun x H1=>∃ a C d fs v,x=.ref a/\H1 a=some (.ext (exd a C (some d)))/\H1 d=some (.ext (nsq d fs))/\XFacts K C/\hasDictIn K C=true/\a1z K C f/\fs.lookup f=some v/\Q v H1
theorem pe_xf{X:Cx}{e:Expr}{f:Str}{pos:Pos}{ta:TE}(he:PE X e ta)(hb:attributeBase e f X.env (eval e X.env)=eval e X.env):PE X (.Attribute e f pos) (tXF X.K ta f):=by
 intro pins s σ H Q I h
 refine b8n hb (thn (he pins s σ H _ I h) fun u s1 hq9=>?_)
 obtain⟨x,H1,I1,rx,a,C,d,fs,v,ex,ea,ed,F,hh,n,l,q⟩:=hq9
 subst ex
 cases rx
 exact d3r I1 ea ed F hh n l fun u' s2 I2 ru=>⟨v,H1,I2,ru,q⟩
structure XOk2(K:Frag)(C:Addr):Prop where
 at_:∃ o cd,K.lookup C=some o/\o.data=.cls cd
 fa:XFacts K C
noncomputable def rIsY(K:Frag):List V->Hp->VK->Prop:=fun xs H Q=>∃ a C od b,H a=some (.ext (exd a C od))/\XOk2 K C/\Q (.bl b) H /\
 ((∃ D,xs=[.ref a,.ref D]/\kitOne K (.ref C) (.ref D)=some b) ∨ (∃ T,xs=[.ref a,.ty T]/\kitOne K (.ref C) (.type T)=some b))
theorem b7q{X:Cx}:a1x X (.builtin "isinstance") (rIsY X.K):=by
 intro pins s σ H xs us Q I rs h
 obtain⟨a,C,od,b,ha,⟨⟨o,cd,l,hd⟩,F⟩,q,h⟩:=h
 have p:exq a C s.heap:=b1d (I.hok a _ ha).1
 have Z:KitX X.K (.ref a) (.ref C) (exq a C):=b7o l ⟨cd,hd⟩ F
 have fin:∀ tk,EP X pins σ Q (.bool b) { s with toks:=tk }:=fun tk=>⟨.bl b,H,I.tok _,rfl,q⟩
 rcases h with⟨D,rfl,e⟩ | ⟨T,rfl,e⟩
 ·obtain⟨u,u2,rfl,r1,r2⟩:=rs.two
  cases r1;cases r2
  exact kia_one Z I.kIn p e (fun z=>nomatch z) fin
 ·obtain⟨u,u2,rfl,r1,r2⟩:=rs.two
  cases r1;cases r2
  exact kia_one Z I.kIn p e (fun z=>nomatch z) fin
end L2
end
section
namespace L2
open PySem PySem.Spec PyProof.Rows
theorem b0i{h h' B B':Heap}:∀ {l:List Env},(∀ b ∈ frs l,∀ o,h.get? b=some o->(∀ vs,o.data ≠ .fields vs)->∃ o',h'.get? b=some o'/\o'.data=o.data)->(∀ b,B.get? b=none->B'.get? b=none)->h.FunFrames B l->h'.FunFrames B' l
 | [],_,_,_=>trivial
 | env :: rest,k,kb,hl=>by
  obtain⟨hk,⟨L,o,hf,hn,ho,hd⟩,hr⟩:=hl
  have el:frs (env :: rest)=L :: frs rest:=by unfold frs;rw [filterMap_cons,hf]
  obtain⟨o',ho',hd'⟩:=k L (by rw [el];exact mem_cons_self ..) o ho hd
  exact⟨hk,⟨L,o',hf,kb _ hn,ho',fun vs=>hd' ▸ hd vs⟩,b0i (fun b hb=>k b (by rw [el];exact mem_cons_of_mem _ hb)) kb hr⟩
theorem c5d{M:Model}{A:Around}{E:Value->Shared->Prop}{s:Shared}{B:Heap}{l:List Env}{a:Addr}{cls t fl:Value}(f:Option Addr){Q:Unit->Shared->Prop}(kb:B.StaysIn s.heap)(ff:s.heap.FunFrames B l)(tr:s.heap.TracedAtW B a cls t fl)
  (q:∀ h',B.StaysIn h'->h'.FunFrames B l->h'.TracedAtW B a cls t (f.elim .none fun x=>rawInt x)->(∀ b o,s.heap.get? b=some o->(∀ vs,o.data ≠ .fields vs)->h'.get? b=some o)->Q () { s with heap:=h' }):wpAny M A (setFlight (.ref a) f) Q E s:=by
 obtain⟨oa,us,T,oT,ts,ea,ec,da,e1,nT,na,eT,dT,e3⟩:=tr
 have sz:3 < ts.size:=(Array.getElem?_eq_some_iff.mp e3).1
 have ot:∀ b,b ≠ T->(s.heap.update T (Obj.mapFields (·.setIfInBounds 3 (f.elim Value.none fun x=>rawInt x)))).get? b=s.heap.get? b:=fun b z=>get?_update_other _ _ (Ne.symm z)
 have nr:∀ b o,s.heap.get? b=some o->(∀ vs,o.data ≠ .fields vs)->b ≠ T:=fun b o e z y=>by
  rw [y,eT] at e
  cases e
  exact z ts dT
 unfold setFlight
 refine wpAny_bind (wpAny_field ea da e1 ?_)
 rw [if_pos (by simp)]
 refine wpAny_setField eT dT sz (q _ (fun b o e=>(ot b fun y=>by rw [y,nT] at e;cases e).trans (kb b o e)) (ff.of_keeps fun b o e z=>⟨o,(ot b (nr b o e z)).trans e,rfl⟩) ?_ fun b o e z=>(ot b (nr b o e z)).trans e)
 exact⟨oa,us,T,_,_,(ot a (Ne.symm na)).trans ea,ec,da,e1,nT,na,Heap.get?_update_self _ eT (Obj.isFreed_of_fields (Obj.data_mapFields dT _)),Obj.data_mapFields dT _,by simp [sz]⟩
def ErrC(X:Cx)(C:Addr)(e:Value)(s':Shared):Prop:=∃ m,s'.heap.Ns C m/\∀ h',Heap.SameBut C s'.heap h'->∀ ce:Env,ce.frame=X.env.frame->wpAny (model X.prog X.w) X.A (passOn "comprehension.variables-let-go" e ce:Sem Value) (fun _ _=>False) X.xe { s' with heap:=h' }
noncomputable def cxX(X:Cx)(scope:Scope)(own:List Str)(cap:List (Str × Nat))(fp:List Addr)(s2:Shared)(H2:Hp):Cx:=
 { cxC X scope own cap fp s2 H2 with xe:=fun e s'=>wpAny (model X.prog X.w) X.A (noteFrame e X.env) (fun _ s''=>ErrC X (s2.heap.objs.size + 1) e s'') (ErrC X (s2.heap.objs.size + 1)) s' }
section
variable{X:Cx}{pins:List (Addr × Obj)}{σ:St}{H H':Hp}{s s':Shared}{h1 B:Heap}{scope:Scope}{own:List Str}{cap:List (Str × Nat)}{fp:List Addr}{s2:Shared}{H2:Hp}
theorem Inv.xeTo(I:Inv (cxC X scope own cap fp s2 H2) pins σ H s):Inv (cxX X scope own cap fp s2 H2) pins σ H s:=
 ⟨⟨I.ok.mod,I.ok.kind,I.ok.glob,I.ok.blt,I.ok.above,I.ok.inj,I.ok.has,I.ok.cab,I.ok.hd,I.ok.frames,I.ok.stk,I.ok.exf,I.ok.bs,I.ok.bsz,I.ok.noex,I.ok.exfs,I.ok.funs,I.ok.frf⟩,I.os,I.bare,I.base,I.loc,I.cell,I.free,I.freeC,I.pin,I.hok,I.len⟩
theorem Inv.xeOf(I:Inv (cxX X scope own cap fp s2 H2) pins σ H s):Inv (cxC X scope own cap fp s2 H2) pins σ H s:=
 ⟨⟨I.ok.mod,I.ok.kind,I.ok.glob,I.ok.blt,I.ok.above,I.ok.inj,I.ok.has,I.ok.cab,I.ok.hd,I.ok.frames,I.ok.stk,I.ok.exf,I.ok.bs,I.ok.bsz,I.ok.noex,I.ok.exfs,I.ok.funs,I.ok.frf⟩,I.os,I.bare,I.base,I.loc,I.cell,I.free,I.freeC,I.pin,I.hok,I.len⟩
theorem c5e{C:Addr}(I:Inv X pins σ H s)(un:Un (frs X.stack) fp H H' s.heap s'.heap)(hok:HOk X.prog X.w H' s'.heap)(hC:H' C=none)(hs:s.heap.get? C=none)(nfp:∀ b ∈ fp,b ∉ frs X.stack)
  (cov:∀ b o,s'.heap.get? b=some o->(H' b ≠ none ∨ (b ∉ fp/\∃ o',s.heap.get? b=some o'))->b ∉ frs X.stack->b ≠ C->h1.get? b=some o)
  (up:∀ b o,b ≠ C->s'.heap.get? b=some o->(∀ vs,o.data ≠ .fields vs)->∃ sl,h1.get? b=some { o with slots:=sl }):Un (frs X.stack) fp H H' s.heap h1/\HOk X.prog X.w H' h1:=by
 have nf:∀ b o,s'.heap.get? b=some o->b ∈ frs X.stack->∀ vs,o.data ≠ .fields vs:=fun b o e hb=>by
  obtain⟨_,o2,ho2,hd⟩:=I.stack.mem hb
  obtain⟨sl,e2⟩:=un.slot b o2 ho2 (I.stkFree b hb) hb (fun z=>nfp b z hb)
  rw [e] at e2
  cases e2
  exact hd
 have fr:∀ b,H' b ≠ none->b ∉ frs X.stack:=fun b n hb=>by
  obtain⟨_,o2,ho2,_⟩:=I.stack.mem hb
  exact n (un.free b o2 ho2 (I.stkFree b hb) (fun z=>nfp b z hb))
 have nC:∀ b o,s.heap.get? b=some o->b ≠ C:=fun b o e z=>by rw [z,hs] at e;cases e
 refine⟨⟨fun b o e n hb hx=>cov b o (un.keep b o e n hb hx) (.inr ⟨hx,o,e⟩) hb (nC b o e),fun b o e n hb hx=>?_,un.free,fun b o e hx=>?_,un.tups,un.frzs,un.tbls⟩,fun a o q=>?_⟩
 ·obtain⟨sl,e1⟩:=un.slot b o e n hb hx
  obtain⟨sl',e2⟩:=up b _ (nC b o e) e1 (nf b _ e1 hb)
  exact⟨sl',e2⟩
 ·obtain⟨o1,e1⟩:=un.there b o e hx
  by_cases hb:b ∈ frs X.stack
  ·obtain⟨sl',e2⟩:=up b _ (nC b o e) e1 (nf b _ e1 hb)
   exact⟨_,e2⟩
  ·exact⟨o1,cov b o1 e1 (.inr ⟨hx,o,e⟩) hb (nC b o e)⟩
 ·refine(hok a o q).stay (fun b u hb e=>?_) (fun _ z=>z) (fun _ _ z=>z) fun _ _ _ z=>z
  have hn:H' b ≠ none:=by
   rcases hb with rfl | hb
   ·rw [q];exact fun z=>nomatch z
   ·rw [hb];exact fun z=>nomatch z
  exact cov b u e (.inl hn) (fr b hn) (fun z=>hn (by rw [z];exact hC))
theorem c5f{E:XK}(O:Out2 X E)(hI:∃ pins σ,Inv X pins σ H2 s2/\∀ b ∈ fp,FpOk X pins H2 b):a4f (CX2 X.prog X.w) (cxX X scope own cap fp s2 H2) E:=by
 obtain⟨pins0,σ0,I2,hfp⟩:=hI
 intro pins σ H s e s' I c
 obtain⟨a,Cc,t,B,H',oe,rfl,os,bare,un,hok,ha,fl,cov,hoe,hE⟩:=c
 have J:Inv (cxX X scope own cap fp s2 H2) pins σ H' s':=I.call' os un hok bare (fun b z=>absurd z (by simp))
 have hfr:X.A.frames=some (X.env :: X.outer):=by rw [← O.st];exact I2.ok.frames
 obtain⟨m,hm,_⟩:=id J.loc
 have hm:s'.heap.Ns (s2.heap.objs.size + 1) m:=hm
 have hC:H' (s2.heap.objs.size + 1)=none:=J.free
 generalize hCe:s2.heap.objs.size + 1=C at hm hC
 have hs2:s2.heap.get? C=none:=by
  cases q:s2.heap.get? C with
  | none=>rfl
  | some o=>exact absurd (lt_size q) (Nat.not_lt_of_le (by rw [← hCe];exact le_succ _))
 have kb:∀ b,B.get? b=none->(PySem.W.hideAll B [C]).get? b=none:=fun b e=>by
  cases q:(PySem.W.hideAll B [C]).get? b with
  | none=>rfl
  | some o=>rw [PySem.W.of_hideAll _ q] at e;cases e
 have fl0:=fl
 rw [show(cxX X scope own cap fp s2 H2).stack=X.stack from rfl,O.st] at fl0
 have fl1:Heap.FlyingW (PySem.W.hideAll B [C]) (X.env :: X.outer) a (.ref Cc) t s'.heap:=by
  obtain⟨f1,f2,f3,oa,us,T,oT,ts,ea,ec,da,e1,nT,r⟩:=fl0
  exact⟨fun b o q=>f1 b o (PySem.W.of_hideAll _ q),kb _ f2,b0i (fun b _ o z _=>⟨o,z,rfl⟩) kb f3,oa,us,T,oT,ts,ea,ec,da,e1,kb _ nT,r⟩
 show wpAny (model X.prog X.w) X.A (noteFrame (.ref a) X.env) (fun _ s''=>ErrC X (s2.heap.objs.size + 1) (.ref a) s'') (ErrC X (s2.heap.objs.size + 1)) s'
 rw [hCe]
 refine(b0f _ _).any (wpAny_looks_onW hfr O.fr fl1 fun h4 held4 up4 dk4=>?_)
 have hm4:=up4.ns hm
 refine⟨m,hm4,fun h5 sb5 ce hce=>?_⟩
 obtain⟨f1,f2,f3,oa,us,T,oT,ts,ea,ec,da,e1,nT,na,eT,dT,e3⟩:=held4
 obtain⟨oC,es,ep,hoC,hdC,_⟩:=id hm4
 have aC:a ≠ C:=fun z=>by rw [z,hoC] at ea;cases ea;rw [hdC] at da;cases da
 have TC:T ≠ C:=fun z=>by rw [z,hoC] at eT;cases eT;rw [hdC] at dT;cases dT
 have hCf:C ∉ frs X.stack:=fun z=>by
  obtain⟨_,o2,ho2,_⟩:=I2.stack.mem z
  rw [hs2] at ho2;cases ho2
 have tr5:Heap.TracedAtW h5 (PySem.W.hideAll B [C]) a (.ref Cc) t (rawInt X.env.locals):=⟨oa,us,T,oT,ts,(sb5.2 _ aC).trans ea,ec,da,e1,nT,na,(sb5.2 _ TC).trans eT,dT,e3⟩
 have ff5:h5.FunFrames (PySem.W.hideAll B [C]) (X.env :: X.outer):=b0i (fun b hb o z _=>⟨o,(sb5.2 b (fun y=>hCf (by rw [O.st,← y];exact hb))).trans z,rfl⟩) (fun _ z=>z) f3
 have kb5:(PySem.W.hideAll B [C]).StaysIn h5:=fun b o q=>(sb5.2 b (fun y=>by rw [y,PySem.W.hideAll_none _ (mem_singleton.mpr rfl)] at q;cases q)).trans (f1 b o q)
 unfold PySem.passOn
 refine wpAny_bind (wpAny_field (s:={ s' with heap:=h5 }) ((sb5.2 _ aC).trans ea) da e1 ?_)
 rw [if_neg (by simp),hce,O.fr]
 have go:wpAny (model X.prog X.w) X.A (do setFlight (.ref a) (some X.env.locals);throw (.ref a):Sem Value) (fun _ _=>False) X.xe { s' with heap:=h5 }:=by
  refine wpAny_bind ((a4h _ _).any (c5d (s:={ s' with heap:=h5 }) _ kb5 ff5 tr5 fun h6 k1 k2 k3 k4 dk6=>wpAny_throw (O.xe _ _ ?_)))
  unfold leaving
  refine wpAny_bind (wpAny_noteFrame_againW O.fr k3 ?_)
  refine(a4h _ _).any (wpAny_landsW (s:={ s' with heap:=h6 }) ⟨k1,f2,k2,k3⟩ fun h7 fl7 up7 dk7=>?_)
  have up:∀ b o,b ≠ C->s'.heap.get? b=some o->(∀ vs,o.data ≠ .fields vs)->∃ sl,h7.get? b=some { o with slots:=sl }:=fun b o nb e z=>by
   obtain⟨sl,e4⟩:=up4 b o e z
   exact up7 b { o with slots:=sl } (k4 b { o with slots:=sl } ((sb5.2 b nb).trans e4) z) z
  have st:∀ b o,s'.heap.get? b=some o->(H' b ≠ none ∨ (b ∉ fp/\∃ o',s2.heap.get? b=some o'))->b ∉ frs X.stack->b ≠ C->(PySem.W.hideAll B [C]).get? b=some o:=fun b o e c n nb=>by
   refine PySem.W.hideAll_get _ (cov b o e ?_ n) (by simpa using nb)
   rcases c with c | ⟨c1,o',c2⟩
   ·exact .inl c
   ·exact .inr (I.base.there b o' c2 c1)
  obtain⟨un7,hok7⟩:=c5e (h1:=h7) I2 J.base hok hC hs2 (fun b hb z=>(mem_cons.mp (I2.stkSub b z)).elim (hfp b hb).2.1 (hfp b hb).2.2.1) (fun b o e c n nb=>fl7.1 b o (st b o e c n nb)) up
  have J2:Inv X pins0 σ0 H' { s' with heap:=h7 }:=I2.call' (s':={ s' with heap:=h7 }) (ch:=fp) J.os un7 hok7 bare fun b hb=>⟨(hfp b hb).2.2.2.1,(hfp b hb).2.1,(hfp b hb).2.2.2.2.1,(hfp b hb).2.2.2.2.2⟩
  obtain⟨o7,ho7,_⟩:=fl7.there
  obtain⟨o4,ho4⟩:∃ o,h4.get? a=some o:=⟨_,ea⟩
  obtain⟨o6,ho6⟩:∃ o,h6.get? a=some o:=by obtain⟨o,_,_,_,_,q,_⟩:=k3;exact⟨o,q⟩
  have d6:o6.dict=o4.dict:=dk6.at ((sb5.2 _ aC).trans ho4) ho6
  have dd:o7.dict=oe.dict:=(dk7.at ho6 ho7).trans (d6.trans (dk4.at hoe ho4))
  obtain⟨g1,g2,⟨_,_,g3⟩,g4⟩:=id fl7
  refine b1x (s':=s') J2 O.st O.ex ⟨g1,g2,g3,g4⟩ (fun b o e c n=>?_) ha ho7 (by rw [dd];exact hE)
  have c':H' b ≠ none ∨ (b ∉ fp/\∃ o',s2.heap.get? b=some o'):=by
   rcases c with c | ⟨o',c⟩
   ·exact .inl c
   ·refine .inr ⟨fun z=>?_,I2.base.there b o' c (by rw [O.ex];simp)⟩
    rcases (hfp b z).2.2.2.1 with y | y
    ·rw [O.ex] at y;simp at y
    ·exact absurd (lt_size c) (Nat.not_lt_of_le y)
  have nb:b ≠ C:=fun z=>by
   rcases c' with y | ⟨_,o',y⟩
   ·exact y (by rw [z];exact hC)
   ·rw [z,hs2] at y;cases y
  obtain⟨u,hu⟩:∃ u,s'.heap.get? b=some u:=by
   rcases c' with y | ⟨y1,o',y⟩
   ·cases q:H' b with
    | none=>exact absurd q y
    | some ho=>exact(hok b ho q).there
   ·exact J.base.there b o' y y1
  have hB:=st b u hu c' n nb
  have e2:=g1 b u hB
  rw [e] at e2
  cases e2
  exact hB
 exact go
end
noncomputable def b9m(X:Cx)(Q:Value->Shared->Prop)(acc:Value)(C:Addr):Result->Shared->Prop
 | .ok _,s'=>∃ m,s'.heap.Ns C m/\∀ h',Heap.SameBut C s'.heap h'->Q acc { s' with heap:=h' }
 | .error x,s'=>ErrC X C x s'
theorem c1o{X:Cx}{s:Shared}{e:Expr}{scope:Scope}{pos:Pos}{na first:Sem Value}{g:Comprehension}{gs:List Comprehension}{cl:List (Str × Addr)}{Q:Value->Shared->Prop}
  (hcl:clausesOf e=g :: gs) (hs:∀ x,foldedSetIterable g.iter X.env x=pure x) (hclos:closureFor scope X.env=pure cl) (hkind:scope.kind=.function) (hnames:∀ x ∈ scope.names,x.2=.local->scope.names.lookup x.1=some .local)
  (h:wpAny (model X.prog X.w) X.A first (fun x s₁=>wpAny (model X.prog X.w) X.A (pyIter x) (fun it s₂=>wpAny (model X.prog X.w) X.A na (fun acc s₃=>wpAny (model X.prog X.w) X.A (newFunctionEnv scope X.env.globals cl [] X.env.qual none .none (some X.env)) (fun ce s₄ =>
   ce.frame=X.env.frame/\codeAny (model X.prog X.w) X.A (.compStart e 0 it acc { ce with scope:=relabel scope X.env }) (b9m X Q acc ce.locals) s₄) X.xe s₃) X.xe s₂) X.xe s₁) X.xe s) :
  wpAny (model X.prog X.w) X.A (comprehension e scope X.env pos na false first) Q X.xe s:=by
 unfold comprehension
 rw [hclos,hcl]
 refine wpAny_bind (thn h fun x s₁ h₁=>wpAny_bind (wpAny_standAt (wpAny_bind (wpAny_of_eq (hs x) (wpAny_bind (wpAny_holding (thn h₁ fun it s₂ h₂=>wpAny_standIf (wpAny_bind (thn h₂ fun acc s₃ h₃=>wpAny_bind (wpAny_pure (wpAny_bind (thn h₃ fun ce s₄ h₄=>?_))))))))))))
 dsimp only
 obtain⟨hf,h₄⟩:=h₄
 have hv:∀ x ∈ (scope.names.filter fun x=>(x.2 == .local || x.2 == .cell) && x.1 != (".0" : Str)).reverse,x.2=.local->Env.kindOf { ce with scope:=relabel scope X.env } x.1=some .local:=fun x hx hl=>lookup_relabel_local (hnames x (List.mem_filter.mp (List.mem_reverse.mp hx)).1 hl)
 refine wpAny_holding (wpAny_bind (wpAny_attempt (wpAny_holding (wpAny_run (codeAny_mono h₄ fun r s' hr=>?_)))))
 cases r with
 | ok f =>
  obtain⟨m,hn,hr⟩:=hr
  exact wpAny_bind (wpAny_holding (wpAny_comp_letGo (cenv:={ ce with scope:=relabel scope X.env }) hkind _ s' m hv hn fun h' m' _ hs'=>wpAny_pure (hr h' hs')))
 | error x =>
  obtain⟨m,hn,hr⟩:=hr
  exact wpAny_bind (wpAny_holding (wpAny_comp_letGo (cenv:={ ce with scope:=relabel scope X.env }) hkind _ s' m hv hn fun h' m' _ hs'=>wpAny_mono (hr h' hs' _ hf) (fun _ _ f=>f.elim) fun _ _ y=>y))
theorem c5g{X:Cx}{elt tg iter:Expr}{ifs:List Expr}{scope:Scope}{pos:Pos}{own:List Str}{cap:List (Str × Nat)}{g:TG}{tt:TT}{te:TE}
  (hc:X.calm=true) (hok:a3l X scope own cap=true) (hnd:(scope.names.map (·.1)).Nodup)
  (hg:∀ fp s2 H2,PG (cxC X scope own cap fp s2 H2) tg g) (ht:∀ fp s2 H2,PIf (cxC X scope own cap fp s2 H2) ifs tt) (he:∀ fp s2 H2,(∃ pins σ,Inv X pins σ H2 s2/\∀ b ∈ fp,FpOk X pins H2 b)->PE (cxX X scope own cap fp s2 H2) elt te)
  {pins:List (Addr × Obj)} {σ:St} {H1:Hp} {s2:Shared} {it:Addr} {fp:List Addr} {tn:Nat->Heap->Prop} {J:It} {Z:Hp->Prop} {RR:Result->Shared->Prop}
  (I:Inv X pins σ H1 s2) (T:Turn X.prog X.w X.K tg J fp it tn) (h0:tn 0 s2.heap) (hfp:∀ b ∈ fp,FpOk X pins H1 b)
  (hb:a8y own cap g tt te J s2.heap.objs.size σ H1 Z)
  (hX:∀ e s',ErrC X (s2.heap.objs.size + 1) e s'->RR (.error e) s')
  (hR:∀ s' H' m,(∀ h',Heap.SameBut (s2.heap.objs.size + 1) s'.heap h'->Inv X pins σ H' { s' with heap:=h' })->s'.heap.Ns (s2.heap.objs.size + 1) m->H' (s2.heap.objs.size + 1)=none->Z H'->RR (.ok .next) s') :
  wpAny (model X.prog X.w) X.A (newFunctionEnv scope X.env.globals (clOf X.env scope.names []) [] X.env.qual none .none (some X.env)) (fun cenv s₄ =>
   (cenv.locals=s2.heap.objs.size + 1/\cenv.frame=X.env.frame)/\codeAny (model X.prog X.w) X.A (.compStart (.ListComp elt [⟨tg,iter,ifs,0⟩] scope pos) 0 (.ref it) (.ref s2.heap.objs.size) { cenv with scope:=relabel scope X.env }) RR s₄)
   X.xe { s2 with heap:=s2.heap.push { cls:=.type "list",dict:=none,data:=.seq ([]:List Value).toArray } }:=by
 have hob:∀ b ∈ fp,∃ o,s2.heap.get? b=some o:=fun b hb=>let ⟨o,e,_⟩:=T.obj _ _ h0 b hb;⟨o,e⟩
 have I0:=b6j (own:=own) (cap:=cap) I hok hnd hfp hob
 refine b1k ?_
 have z1:(s2.heap.push { cls:=.type "list",dict:=none,data:=.seq ([]:List Value).toArray }).objs.size=s2.heap.objs.size + 1:=size_push ..
 dsimp only
 rw [z1]
 refine⟨⟨rfl,rfl⟩,?_⟩
 show codeAny (model X.prog X.w) X.A (.compStart (.ListComp elt [⟨tg,iter,ifs,0⟩] scope pos) 0 (.ref it) (.ref s2.heap.objs.size) (cxC X scope own cap fp s2 H1).env) RR _
 generalize hs4:({ s2 with heap:=pushCells ((s2.heap.push { cls:=.type "list",dict:=none,data:=.seq ([]:List Value).toArray }).push { cls:=.type "dict",data:=.dict #[] }) scope.names }:Shared)=s4 at I0 ⊢
 have kp:∀ b o,s2.heap.get? b=some o->s4.heap.get? b=some o:=fun b o e=>by
  rw [← hs4];exact pushCells_keeps _ _ b o (get?_push_of_some _ (get?_push_of_some _ e))
 have st4:tn 0 s4.heap:=T.keep _ _ _ h0 fun b _ o e=>kp b o e
 obtain⟨W,⟨m0,w0⟩,turn⟩:=hb
 -- the iterator's records are the block's own
 have stat:∀ {H':Hp},(∀ b ∈ fp,H' b=none)->∀ b ∈ fp,FpOk (cxC X scope own cap fp s2 H1) [] H' b:=fun hn b hb =>
  ⟨hn b hb,(I0.ok.exf b hb).1,I0.ok.exfs b hb,.inl hb,fun x c e=>(I0.ok.exf b hb).2 x c e,fun p hp=>absurd (show p ∈ ([]:List (Addr × Obj)) from hp) (by simp)⟩
 have fr0:∀ b ∈ fp,upd H1 s2.heap.objs.size (.lst []) b=none:=fun b hb=>by
  obtain⟨o,e⟩:=hob b hb
  rw [a0d (ne_of_lt (lt_size e))]
  exact(hfp b hb).1
 have loop:codeAny (model X.prog X.w) X.A (.compLoop (.ListComp elt [⟨tg,iter,ifs,0⟩] scope pos) 0 (.ref it) (.ref s2.heap.objs.size) (cxC X scope own cap fp s2 H1).env) RR s4:=by
  refine b1l (fun n s'=>∃ i σ' H',Inv (cxC X scope own cap fp s2 H1) [] σ' H' s'/\tn i s'.heap/\(∀ b ∈ fp,H' b=none)/\W i n σ' H') ?_ m0 ⟨0,_,_,I0,st4,fr0,w0⟩
  rintro n s3 ⟨i,σ3,H3,I3,st3,fr3,w3⟩
  rcases turn i n σ3 H3 w3 with⟨stop,qn⟩ | ⟨go,N,hN,step⟩
  ·refine wpAny_noRaise (thn (T.done (cxC X scope own cap fp s2 H1) rfl rfl rfl hc i [] s3 σ3 H3 _ I3 (stat fr3) st3 stop) fun r s5 hq9=>?_)
   obtain⟨hr,I5⟩:=hq9
   subst hr
   obtain⟨m5,hm5,_⟩:=id I5.loc
   refine hR s5 H3 m5 (fun h' hs'=>?_) hm5 I5.free qn
   ·have un:Un (frs X.stack) fp H1 H3 s2.heap s5.heap:=I5.base
    have low:∀ b o,s2.heap.get? b=some o->b ≠ s2.heap.objs.size + 1:=fun b o e=>ne_of_lt (Nat.lt_succ_of_lt (lt_size e))
    refine I.call' (s':={ s5 with heap:=h' }) (ch:=fp) I5.os ⟨fun b o e n hb hx=>(hs'.2 b (low b o e)).trans (un.keep b o e n hb hx),fun b o e n hb hx=>?_,un.free,fun b o e hx=>?_,un.tups,un.frzs,un.tbls⟩ ?_ I5.bare fun b hb=>⟨(hfp b hb).2.2.2.1,(hfp b hb).2.1,(hfp b hb).2.2.2.2.1,(hfp b hb).2.2.2.2.2⟩
    ·obtain⟨sl,q⟩:=un.slot b o e n hb hx
     exact⟨sl,(hs'.2 b (low b o e)).trans q⟩
    ·obtain⟨o',q⟩:=un.there b o e hx
     exact⟨o',(hs'.2 b (low b o e)).trans q⟩
    ·intro b ob e
     refine(I5.hok b ob e).stay (fun c w' hc' q=>(hs'.2 c ?_).trans q) (fun _ q=>q) (fun _ _ q=>q) fun _ _ _ q=>q
     have nC:H3 (s2.heap.objs.size + 1)=none:=I5.free
     rintro rfl
     rcases hc' with rfl | hc'
     ·rw [nC] at e;cases e
     ·rw [nC] at hc';cases hc'
  ·refine wpAny_noRaise (thn (T.item (cxC X scope own cap fp s2 H1) rfl rfl rfl hc i [] s3 σ3 H3 (fun _ _=>False) I3 (stat fr3) st3 go) fun r s5 hq9=>?_)
   obtain⟨u,hr,h5⟩:=hq9
   subst hr
   refine wpAny_noRaise (thn h5 fun _ s6 hq9=>?_)
   obtain⟨x,H6,I6,r6,y6,st6,fr6⟩:=hq9
   have I6':=I6.pinned (stat fr6) (T.obj _ _ st6)
   refine wpAny_noRaise (thn (hg fp s2 H1 _ s6 σ3 H6 x u _ I6' r6 (step x H6 y6)) fun _ s7 hq9=>?_)
   obtain⟨σ7,H7,I7,q7⟩:=hq9
   refine wpAny_noRaise (thn (ht fp s2 H1 _ s7 σ7 H7 _ I7 q7) fun ok s8 hq9=>?_)
   obtain⟨H8,I8,q8⟩:=hq9
   have again:∀ {σ9:St} {H9:Hp} {s9:Shared},Inv (cxC X scope own cap fp s2 H1) ([] ++ a7w fp s6.heap) σ9 H9 s9->N σ9 H9->∃ m,m < n/\∃ i σ' H',Inv (cxC X scope own cap fp s2 H1) [] σ' H' s9/\tn i s9.heap/\(∀ b ∈ fp,H' b=none)/\W i m σ' H':=fun{σ9 H9 s9} I9 n9=>by
    obtain⟨m',hm,w9⟩:=hN σ9 H9 n9
    refine⟨m',hm,i + 1,σ9,H9,I9.unpinned,T.keep _ _ _ st6 fun b hb o e=>(I9.pin (b,o) (mem_append_right _ (mem_append_right _ (a3v hb e)))).1,fun b hb=>?_,w9⟩
    obtain⟨o,e,d⟩:=T.obj _ _ st6 b hb
    exact(I9.pin (b,o) (mem_append_right _ (mem_append_right _ (a3v hb e)))).2.1
   cases ok with
   | false=>exact again I8 q8
   | true =>
    rw [if_pos rfl] at q8
    rw [if_pos rfl]
    refine wpAny_mono (he fp s2 H1 ⟨_,_,I,hfp⟩ _ s8 σ7 H8 _ I8.xeTo q8) (fun y s9 hq8=>?_) fun x s9 z=>wpAny_mono z (fun _ s10 q=>hX _ _ q) fun _ s10 q=>hX _ _ q
    obtain⟨yv,H9,I9x,r9,ys,hD,hz,q9⟩:=hq8
    have I9:Inv (cxC X scope own cap fp s2 H1) _ σ7 H9 s9:=I9x.xeOf
    refine wpAny_noRaise (thn (a9x _ s9 σ7 H9 (.ref s2.heap.objs.size) [yv] (.ref s2.heap.objs.size) [y] (fun _ H'=>N σ7 H') I9 rfl (.cons r9 .nil) ⟨_,ys,yv,rfl,rfl,hD,hz,q9⟩) fun _ s10 hq9=>?_)
    obtain⟨_,H10,I10,_,q10⟩:=hq9
    exact again I10 q10
 exact codeAny_compStart_list loop (T.self X.A 0 _ _ _ st4 loop)
theorem c8g{X:Cx}{elt tg iter:Expr}{ifs:List Expr}{scope:Scope}{pos:Pos}{own:List Str}{cap:List (Str × Nat)}{wi:TI}{g:TG}{tt:TT}{te:TE}
  (hc:X.calm=true) (hok:a3l X scope own cap=true) (hnd:(scope.names.map (·.1)).Nodup) (hi:PI X tg iter wi)
  (hg:∀ fp s2 H2,PG (cxC X scope own cap fp s2 H2) tg g) (ht:∀ fp s2 H2,PIf (cxC X scope own cap fp s2 H2) ifs tt) (he:∀ fp s2 H2,(∃ pins σ,Inv X pins σ H2 s2/\∀ b ∈ fp,FpOk X pins H2 b)->PE (cxX X scope own cap fp s2 H2) elt te)
  (hs:∀ x,foldedSetIterable iter X.env x=pure x:=by intro _;rfl) :
  PE X (.ListComp elt [⟨tg,iter,ifs,0⟩] scope pos) (b5o own cap wi g tt te):=by
 intro pins s σ H Q I h
 have hkind:=a6c hok
 have hclos:closureFor scope X.env=pure (clOf X.env scope.names []):=a6a fun y hy hf=>I.ok.has y.1 (a6d hok y hy hf)
 rw [eval_ListComp]
 refine c1o rfl hs hclos hkind (a7r hnd) (thn (hi pins s σ H _ I h) fun xv s1 h1=>thn h1 fun itv s2 h2=>?_)
 obtain⟨it,fp,tn,J,H1,e,I2,T,st2,f2,hb⟩:=h2
 subst e
 refine wpAny_newObj_type (thn (c5g (iter:=iter) (pos:=pos) (RR:=b9m X (EP X pins σ Q) (.ref s2.heap.objs.size) (s2.heap.objs.size + 1)) hc hok hnd hg ht he I2 T st2 f2 (hb _ I2.fresh) (fun _ _ h=>h) fun s' H' m hI hm hnC z=>?_) fun cenv s4 ⟨e,q⟩=>⟨e.2,?_⟩)
 ·exact⟨m,hm,fun h' hs'=>⟨.ref s2.heap.objs.size,H',hI h' hs',rfl,z⟩⟩
 ·rw [← e.1] at q;exact q
end L2
end
section
namespace L2
open PySem PySem.Spec PyProof.Rows
section
variable{K:W.Frag}
def c1p(i:Nat)(di:TDE):TDE:=fun ρ Q=>need (ownB ρ i) fun _=>di ρ fun x ρ1=>need (a0h ρ1 x) fun dx=>need (asI dx) fun j=>need (ownB ρ1 i) fun o=>(0 <= j/\o.2.length <= 1000000)/\need o.2[j.toNat]? fun y=>Q (.d y) (ρ1.set i (some (okL o.1 (o.2.eraseIdx j.toNat))))
theorem d3s{i:Nat}{t1:TE}{di:TDE}(h1:AdE K t1 di):AdE K (tBM K "list" c2y (tVar i) (a1l t1 tNil)) (c1p i di):=by
 intro c O ρ σ H Qd Q R q k
 obtain⟨hz2,e,q⟩:=ne (q)
 obtain⟨o,xs⟩:=hz2
 obtain⟨e0,p,vs,hO,hσ,hH,hA⟩:=a4q R e
 refine⟨.ref p,hσ,.inl ⟨rfl,vs,SqL.of hH⟩,?_⟩
 refine h1 c O ρ σ H _ _ R q fun x ρ1 O1 v1 H1 q1 R1 P1 a1=>?_
 obtain⟨dx,e1,hn8⟩:=ne (q1)
 obtain⟨j,e2,q1⟩:=ne (hn8)
 have ev:v1=.int j:=b2p (R1.top a1 e1) e2
 subst ev
 obtain⟨hz13,e3,hj,q2⟩:=ne (q1)
 obtain⟨y,ey,q3⟩:=ne q2
 obtain⟨o3,xs3⟩:=hz13
 obtain⟨e4,p3,vs3,hO3,hσ3,hH3,hA3⟩:=a4q R1 e3
 rw [hσ] at hσ3;cases hσ3
 obtain⟨v,ev,av⟩:=hA3.get ey
 have hl:j.toNat < vs3.length:=(List.getElem?_eq_some_iff.mp ev).1
 have hlen:=hA3.length
 have h5:xs3.length <= 1000000:=hj.2
 have h0:0 <= j:=hj.1
 refine⟨p,vs3,j,j.toNat,v,rfl,rfl,hH3,by omega,by omega,PySem.StrLaws.seqIndex_nonneg h0 (by omega),ev,?_⟩
 have ae:a0b K H1 (live c O1) (xs3.eraseIdx j.toNat) (vs3.eraseIdx j.toNat):=by
  have h:=(hA3.take j.toNat).append (hA3.drop (j.toNat + 1))
  rw [List.eraseIdx_eq_take_drop_succ,List.eraseIdx_eq_take_drop_succ]
  exact h
 obtain⟨R4,P4⟩:=R1.writeB hO3 hH3 e4 ae
 exact k _ _ _ _ _ q3 R4 (P1.trans P4) (P4 _ _ av:AtD _ _ _ y v)
theorem d3t{i:Nat}{di:TDE}{ρ:Rho}{Q:DV->Rho->Prop}:c1p i di ρ Q=need (a2u (ρ[i]?.join)) fun _=>di ρ fun x ρ1=>need (a0h ρ1 x) fun dx=>need (asI dx) fun j=>need (a2u (ρ1[i]?.join)) fun o=>(0 <= j/\o.2.length <= 1000000)/\need o.2[j.toNat]? fun y=>Q (.d y) (ρ1.set i (some (okL o.1 (o.2.eraseIdx j.toNat)))):=rfl
end
section
variable{X:Cx}{e1:Expr}{d1:TDE}{pos:Pos}
theorem d3u(i:Nat){x:Str}{p p2:Pos}(hN:X.N[i]? = some x)(h1:DE X e1 d1)(hv:Vis X.env.scope x:=by first | exact Or.inl rfl | exact Or.inr (Or.inl rfl) | exact Or.inr (Or.inr rfl)) (hd:(x == ("__debug__" : Str))=false:=by decide)
  (hcd:(x == ("__classdict__" : Str))=false:=by decide)
  (hbase:attributeBase (.Name x p) "pop" X.env (eval (.Name x p) X.env)=eval (.Name x p) X.env:=by rfl)
  (hfew:((backTo pos (starEach [e1] X.env)).all (fun x=>!x.1) && (backToKw pos (keywordEach [] X.env)).all (fun x=>x.1.isSome)
   && decide (([e1]:List Expr).length + ([]:List Keyword).length + (if ([]:List Keyword).isEmpty then 0 else 1) < 30))=true:=by rfl)
  (hline:(p2.endLine == pos.line)=true:=by rfl) (hs:starEach [e1] X.env=(false,eval e1 X.env) :: starEach [] X.env:=by rfl) (hpl:(backTo pos (starEach [] X.env)).any (·.1)=false:=by rfl):DE X (.Call (.Attribute (.Name x p) "pop" p2) [e1] [] pos) (c1p i d1):=by
 obtain⟨ta,pa,aa⟩:=h1
 exact⟨_,a7m PySem.F.plainAttrs_list PySem.F.slot_list_pop PySem.F.type_list_pop c6e (a7t hN hv hd hcd) (a0e pa a0l hs) hbase hfew hline hs hpl,d3s aa⟩
end
end L2
end
section
namespace L2
open PySem PySem.Spec PyProof.Rows
section
variable{X:Cx}{c:Rc}{st:Stmt}{rest:List Stmt}{dt du:TDS}
end
section
variable{P:Program}{w:World}{K:W.Frag}{mg:Str->Option Value}{base:Heap}
end
end L2
end
section
namespace L2
open PySem PySem.Spec PyProof.Rows
theorem b2w:∀ {ds:List Addr} {us:List Value},Vals (ds.map V.ref) us->us=ds.map Value.ref
 | [],_,h=>by cases h;rfl
 | d :: ds,_,h=>by
  cases h with
  | cons r t=>rw [b2w t,show _=Value.ref d from r];rfl
section
variable{K:W.Frag}{c:Rc}{O:Own}{ρ:Rho}{σ:St}{H:Hp}
noncomputable def Rc.ask(c:Rc)(O:Own)(H:Hp):Rc:={ H0:=H,S:=fun a=>live c O a ∨ H a=none,P:=fun _=>False,M:=fun _=>False,A:=fun p=>H p=none,B:=fun _=>False,lent:=fun _=>none,sa:=c.sa,ns:=c.ns }
end
end L2
end
section
namespace L2
open PySem PySem.Spec PyProof.Rows
section
variable{X:Cx}{e:Expr}{te:XK->TE}{wx n:Str}{Wk:Addr}{bw:List Value}{j:Nat}{b₀:Stmt}{suite:List Stmt}{th:TS}{p2 np hp tp:Pos}
def d8s(te:XK->TE)(i:Nat)(K:W.Frag)(Wk:Addr)(j:Nat)(th:TS):TS:=fun D σ H=>te (XH2 K Wk j th D σ) σ H fun v H2=>D.nx (σ.set i (some v)) H2
theorem c8h{i:Nat}{y:Str}{py:Pos}(he:∀ E,PEx2 X e (te E) E)(hi:X.N[i]? = some y)(hy:Loc X.env.scope y)
  (hst:X.stack=X.env :: X.outer) (hf:X.env.frame=some X.env.locals) (hex:X.ex=[]) (hN:X.N.Nodup) (hj:X.N[j]? = some n) (hk:X.env.kindOf n=some .local) (hlo:Loc X.env.scope n) (hg:Gl X wx) (hm:X.mg wx=some (.ref Wk)) (cw:XCls X.K Wk bw) (hh:∀ a,PSs (markX X (.ref a)) (b₀ :: suite) th)
  (hs:swapsWith e (some (.Name y py)) p2.line X.env=pure false:=by rfl) (hd:(wx == ("__debug__" : Str))=false:=by decide) (hfn:X.fn n=true ∨ X.env.scope.names.lookup n=some .local:=by first | exact .inl rfl | exact .inr rfl | assumption) (hfy:X.fn y=true ∨ X.env.scope.names.lookup y=some .local:=by first | exact .inl rfl | exact .inr rfl | assumption) :
  PS X (.Try [.Assign [.Name y py] e p2] [.ExceptHandler (some (.Name wx np)) (some n) (b₀ :: suite) hp] [] [] tp) (d8s te i X.K Wk j th):=by
 intro pins s σ H D I h
 refine wpAny_Try_except (wpAny_execs_cons (wpAny_Assign_Name (wpAny_mono (he _ pins s σ H _ I h) (fun v s1 ⟨x,H1,I1,r1,q1⟩=>?_) fun x s' z=>?_) hs))
 ·exact a8v I1 hN hi hy r1 (fun s2 I2=>wpAny_execs_nil (wpAny_execs_nil ⟨_,H1,I2,q1⟩)) hfy
 ·obtain⟨H1,s1,I1,c⟩:=z
  exact c1m I1 c hst hf hex hN hj hk hlo hg hm cw hh hd hfn
end
theorem c8i{X:Cx}{e1 e2:Expr}{t1 t2:TE}{E:XK}{x1}{pos:Pos}(hx:∀ e s,X.xe e s->False)(h1:PE X e1 t1)(h2:PEx2 X e2 t2 E)(hs:starEach [e1,e2] X.env=[(false,eval e1 X.env),(false,eval e2 X.env)]:=by rfl):PEx2 X (.Tuple [e1,e2] x1 pos) (tTup (a1l t1 (a1l t2 tNil))) E:=by
 intro pins s σ H Q I hq
 refine wpAny_Tuple_spliced ?_
 rw [hs]
 show wpAny _ _ (spliced ((false,eval e1 X.env) :: backTo pos [(false,eval e2 X.env)])) _ _ s
 refine Calls.spliced_cons (wpAny_mono (h1 pins s σ H _ I hq) (fun u s1 hq8=>?_) fun e s z=>(hx e s z).elim)
 obtain⟨x,H1,I1,r1,q1⟩:=hq8
 refine Calls.spliced_cons (wpAny_mono (h2 pins s1 σ H1 _ I1 q1) (fun u2 s2 hq8=>?_) fun e s z=>z)
 obtain⟨y,H2,I2,r2,q2⟩:=hq8
 refine Calls.spliced_nil ⟨by show(2:Nat) <= sizeLine;rw [sizeLine_eq];omega,?_⟩
 obtain⟨z,q2⟩:=q2
 have hf:H2 s2.heap.objs.size=none:=I2.hok.fresh (le_refl _)
 refine⟨.ref s2.heap.objs.size,upd H2 s2.heap.objs.size (.tup [x,y]),I2.laid (t':=s2.toks) (fun b u e=>get?_push_of_some _ e) (le_refl _) ?_,rfl,q2 _ hf⟩
 exact⟨z,[u,u2],.cons r1 (.cons r2 .nil),⟨_,get?_push_size _ rfl,⟨rfl,rfl⟩,_,rfl⟩⟩
noncomputable def rIsZ(K:W.Frag):List V->Hp->VK->Prop:=fun xs H Q=>∃ a C od b,H a=some (.ext (exd a C od))/\XOk2 K C/\Q (.bl b) H /\
 ((∃ D,xs=[.ref a,.ref D]/\PySem.W.kitOne K (.ref C) (.ref D)=some b) ∨ (∃ T,xs=[.ref a,.ty T]/\PySem.W.kitOne K (.ref C) (.type T)=some b) ∨
  ∃ (tp:Addr) (ds:List Addr),xs=[.ref a,.ref tp]/\H tp=some (.tup (ds.map V.ref))/\PySem.W.kitAny K (.ref C) (ds.map Value.ref)=some b)
theorem b1y{X:Cx}:a1x X (.builtin "isinstance") (rIsZ X.K):=by
 intro pins s σ H xs us Q I rs h
 obtain⟨a,C,od,b,ha,xo,q,h⟩:=h
 rcases h with h | h | ⟨tp,ds,rfl,ht,e⟩
 ·exact b7q pins s σ H xs us Q I rs ⟨a,C,od,b,ha,xo,q,.inl h⟩
 ·exact b7q pins s σ H xs us Q I rs ⟨a,C,od,b,ha,xo,q,.inr h⟩
 ·obtain⟨⟨o,cd,l,hd⟩,F⟩:=xo
  have p:exq a C s.heap:=b1d (I.hok a _ ha).1
  have Z:PySem.W.KitX X.K (.ref a) (.ref C) (exq a C):=b7o l ⟨cd,hd⟩ F
  obtain⟨u,u2,rfl,r1,r2⟩:=rs.two
  cases r1;cases r2
  obtain⟨_,its,rv,⟨ot,e1,⟨hc,hdi⟩,n,hda⟩⟩:=I.hok tp _ ht
  have ei:=b2w rv
  subst ei
  obtain⟨oc,odi,oda,osl⟩:=ot
  cases hc;cases hdi;cases hda
  exact PySem.W.kia_tup Z I.kIn p e1 e (fun z=>nomatch z) fun tk=>⟨.bl b,H,I.tok _,rfl,q⟩
end L2
end
section
namespace K85
open PySem L2 Sn
open Lean in
def c1q (p : Bool) : MacroM (TSyntaxArray `Lean.Parser.Tactic.simpLemma) := (("↓d3t ↓d3j ↓c7z ↓c7v ↓c7u ↓c4f d2q d2r ↓c6v ↓d1i ↓d2l ↓c7s ↓c7d ↓c3w ↓d1l ↓d2o d7y d2s c4g c4h c4i ↓itT ↓itF ↓d2v ↓c7t ↓c6y ↓d6g ↓d7v ↓d7s mapC mapN c6w d1q d1r ↓c7w ↓d2e ↓d2z ↓d3a ↓d3b d3c d3d d3e ↓d2x d8i d8k ↓d6a ↓d2u ↓d8c d8a ↓d1h ↓dIf_a ↓d1j ↓d6b ↓d1k ↓d6c ↓d1m ↓d6d ↓d6e ↓d6f ↓dC_a ↓dOp_a ↓dCB_a ↓d6h ↓d6i ↓d6j ↓dFz_a ↓d6k ↓d1n ↓dB_a ↓d6l ↓d6m ↓dOr_a ↓d6n ↓d6o ↓d1o ↓d6p ↓d1p ↓c6x ↓dIs_a ↓c3x ↓d6r ↓c6z ↓d1s ↓c7a ↓d1u ↓c7b ↓c7c ↓d6t ↓d6v ↓fz_d ↓fz_sl ↓fzL_d ↓d6w ↓fzs_n ↓fzs_c ↓d2a ↓dSl_a ↓c7q ↓c7r ↓d7q d7r asT_t d2g d2h d2i List.all_cons List.all_nil d2f d6q okL_o okL_b d6s asI_i ioJ_o ioJ_b ioJ_t fzJ_d fzJ_o d6x d6y d6z d7c d1v d1w c7e c7f c7g c7h c7i c7j d1x d1y d1z d7d d7e d7f d7g d7h flC_n flC_c d7i d2b c7k c7l c7m c7n c7o c7p asB_b tru_b tru_n tru_i tru_l tru_t d7j d7k d7l d7m d7n d7o d7p a5w c3h d5u d5v d5w d5x d5y c6t c6u d1f d1g c9o fIx_t List.getElem?_cons_zero List.getElem?_cons_succ List.getElem?_nil List.set_cons_zero List.set_cons_succ Option.join_some Option.join_none Option.bind_some Option.bind_none Option.map_some Option.map_none Option.isSome_some List.length_cons List.length_nil List.cons_append List.nil_append b2q Nat.reduceAdd Nat.reduceSub Bool.not_true Bool.not_false" ++ (if p then " ↓d1t ↓d6u c0x atI_1 atI_2 atI_3 atI_4 fIn_f d5z inF_s inF_i Bool.and_self Bool.and_true Bool.or_false Bool.or_true Bool.true_or Bool.false_or d7a d7b c6r c6s c3t List.map_cons List.map_nil List.replicate if_true if_false Bool.false_eq_true true_and and_true List.nodup_cons List.nodup_nil List.not_mem_nil not_false_eq_true List.mem_cons Nat.reduceLeDiff Nat.reduceLT reduceCtorEq Nat.zero_add Nat.reduceEqDiff false_or or_false d2p" else "")).splitOn " ").toArray.mapM fun s => if s.startsWith "↓" then `(Parser.Tactic.simpLemma| ↓$(mkIdent (s.drop 1).toName):ident) else `(Parser.Tactic.simpLemma| $(mkIdent s.toName):ident)
local macro_rules | `(tactic| walk_at "p1") => do let a ← c1q true; `(tactic| simp only [$[$a:simpLemma],*])
local macro_rules | `(tactic| walk_at "d1") => do let a ← c1q false; `(tactic| first | dsimp only [$[$a:simpLemma],*] | walk_at "p1")
local macro_rules | `(tactic| walk_at "dd") => `(tactic| (repeat first | (with_reducible refine b9d ?_) | walk_at "d1"))
local macro_rules | `(tactic| walk_at "k1") => do let a ← c1q true; `(tactic| simp +decide only [$[$a:simpLemma],*])
local macro_rules | `(tactic| walk_at "dk") => `(tactic| (repeat first | (with_reducible refine b9d ?_) | walk_at "k1"))
noncomputable def top(i:Nat):Stmt:=PySem.Challenge.pw_worldsay_k85_texts_of_no_paper.main.body.getD i (.Pass ⟨0,0,0,0⟩)
--TOP
theorem usS{α:Type}{us:List α}{n:Nat}(h:us.length=n + 1):∃ a r,us=a :: r/\r.length=n:=by
 cases us with
 | nil=>cases h
 | cons a r=>exact⟨a,r,rfl,Nat.succ.inj h⟩
structure Bl(mg:Str->Option Value):Prop where
 len_:mg "len" = none
 range_:mg "range" = none
 tuple_:mg "tuple" = none
 bool_:mg "bool" = none
 isinstance_:mg "isinstance" = none
 reversed_:mg "reversed" = none
 max_:mg "max" = none
 zip_:mg "zip" = none
 list_:mg "list" = none
 str_:mg "str" = none
 enumerate_:mg "enumerate" = none
 dict_:mg "dict" = none
 sum_:mg "sum" = none
 int_:mg "int" = none
 min_:mg "min" = none
 sorted_:mg "sorted" = none
 all_:mg "all" = none
 set_:mg "set" = none
 repr_:mg "repr" = none
 any_:mg "any" = none
def c5h(K:W.Frag):Sp:=fun vs H Q _=>∃ (v:Addr) (ns:List Int) (k:Int),vs=[.ref v,.int k]/\SqL K H v (ns.map V.int)/\0 <= k/\∀ c:Int,(ns=[]->c=0)->Q (.int c) H
def spBy(K:W.Frag):Sp:=fun vs H Q _=>∃ (v:Addr) (ns:List Int) (k many:Int),vs=[.ref v,.int k,.int many]/\SqL K H v (ns.map V.int)/\ns.length <= 63/\0 <= k/\k <= 1000000/\0 < many/\∀ r:Int,0 <= r->r < many->Q (.int r) H
def c5i:DSp:=fun ls Q=>∃ (k:Nat) (many:Int),ls=[.tape k,.d (.int many)]/\0 < many/\k < 1000000/\∀ r:Int,0 <= r->r < many->Q (.d (.int r)) [some (.tape (k + 1)),none]
section
variable{P:Program}{w:World}{K:W.Frag}{mg:Str->Option Value}{base:Heap}
abbrev a3i:Stmt:=top 16
theorem b3q:FnScope ["_law_script","_law_k"] ["_law_script","_law_k"] (a0g a3i):=⟨rfl,rfl,rfl,by decide +kernel,rfl,by decide +kernel,by decide +kernel⟩
theorem c1r{f:Addr}{fd:FuncData} (F:Fun K "_law_cell_at" "_law_cell_at" a3i f fd) (B:Bl mg):FnOk P w K mg base CX0 1 f fd ["_law_script","_law_k"] (c5h K):=by
 refine F.ok b3q (fun vs H Q E h=>?_) (fun cdv A outer s H vs Q E hr h=>?_)
 ·obtain⟨v,ns,k,rfl,_⟩:=h
  rfl
 obtain⟨v,ns,k,rfl,hv,hk,q⟩:=h
 refine⟨_,(a0t (a8w (a6q b5n (a2k a3p rfl B.len_ a2i (a0e (pv 0) a0l)) a1c (a0p _))
  (a1i (a3n (a7l a5g (pv 0) (a2e a7x (pv 1) (a2k a3p rfl B.len_ a2i (a0e (pv 0) a0l))) (fun _ _=>rfl))))
  a5f)
  (a1i (a3n a1c))),?_⟩
 have hl:(ns.map V.int).length=ns.length:=length_map _
 refine⟨_,rfl,v,_,rfl,.inl hv,_,_,rfl,rfl,_,rfl,?_⟩
 rw [hl]
 refine ite2 (fun c=>?_) (fun c=>?_)
 ·have c':(0:Int) < (ns.length:Int):=of_decide_eq_true c
  refine⟨_,rfl,_,rfl,_,rfl,v,_,rfl,.inl hv,_,_,rfl,rfl,?_,?_⟩
  ·rw [hl];exact c'
  ·rw [hl]
   have m0:0 <= k % (ns.length:Int):=emod_nonneg _ (by omega)
   have m1:k % (ns.length:Int) < (ns.length:Int):=Int.emod_lt_of_pos _ c'
   obtain⟨d,e1,e2,_⟩:=c3g (xs:=ns.map V.int) m0 (by rw [hl];exact m1)
   obtain⟨n,_,rfl⟩:=mem_map.mp e2
   exact⟨v,_,_,_,rfl,rfl,hv,e1,q n fun e=>by rw [e] at c';exact absurd c' (by decide)⟩
 ·exact q 0 fun _=>rfl
abbrev a9l:Stmt:=top 17
theorem a5x:FnScope ["_law_script","_law_k","_law_many","_law_cell","_law_part","_law_seed"] ["_law_script","_law_k","_law_many"] (a0g a9l):=⟨rfl,rfl,rfl,by decide +kernel,rfl,by decide +kernel,by decide +kernel⟩
theorem ok_by{f f1:Addr}{fd fd1:FuncData} (F:Fun K "_law_by" "_law_by" a9l f fd) (B:Bl mg) (a2p:Def K mg "_law_cell_at" a3i ["_law_script","_law_k"] f1 fd1):FnOk P w K mg base CX0 2 f fd ["_law_script","_law_k","_law_many"] (spBy K):=by
 have b5d:FnOk P w K mg base CX0 1 f1 fd1 ["_law_script","_law_k"] (c5h K):=c1r a2p.fn B
 refine F.ok a5x (fun vs H Q E h=>?_) (fun cdv A outer s H vs Q E hr h=>?_)
 ·obtain⟨v,ns,k,many,rfl,_⟩:=h
  rfl
 obtain⟨v,ns,k,many,rfl,hv,hl,hk,hk2,hm,q⟩:=h
 refine⟨_,(a0t (a2g (i:=3) a5x.nd rfl (Or.inl rfl) (a4o a2p b5d hr rfl (a0e (pv 0) (a0e (pv 1) a0l))))
  (a0t (a2g (i:=4) a5x.nd rfl (Or.inl rfl) a1c)
  (a0t (a8w (a6q c9e (pv 3) (a2e d4s a1c a1c) (a0p _))
  (a1i (a2g (i:=4) a5x.nd rfl (Or.inl rfl) (a2e d4t (pv 3) (a2e a9u a1c (a2e d0h (pv 1) (a2k a3p rfl B.len_ a2i (a0e (pv 0) a0l)))))))
  a5f)
  (a0t (a8w (a6q b5n (pv 4) a1c (a0p _))
  (a1i (a3n (a2e a7x (pv 4) (pv 2))))
  a5f)
  (a0t (a2g (i:=5) a5x.nd rfl (Or.inl rfl) (a2e a9t (a2e a9t (a2e a7x (pv 3) a1c) (a2e a9u (a2e a9u a1c (pv 1)) (pv 1))) a1c))
  (a1i (a3n (a2e a7x (a2e a7x (a2e a9u (a2e a7x (a2e a9u (pv 5) a1c) a1c) a1c) a1c) (pv 2))))))))),?_⟩
 have hln:(ns.map V.int).length=ns.length:=length_map _
 refine⟨_,rfl,_,rfl,v,ns,k,rfl,hv,hk,fun c hc=>?_⟩
 have e64:(2:Int) ^ 64=18446744073709551616:=by decide
 refine⟨_,rfl,_,_,rfl,rfl,⟨by decide,by decide,by decide⟩,_,_,rfl,rfl,_,rfl,?_⟩
 refine ite2 (fun c1=>?_) (fun c1=>?_)
 ·have c1':(10:Int) ^ (18:Int).toNat <= c:=of_decide_eq_true c1
  have hne:0 < ns.length:=by
   cases ns with
   | nil=>rw [hc rfl] at c1';exact absurd c1' (by decide)
   | cons _ _=>exact Nat.succ_pos _
  have hd0:0 <= k / (ns.length:Int):=Int.ediv_nonneg hk (by omega)
  refine⟨_,rfl,_,rfl,_,rfl,v,_,rfl,.inl hv,_,_,rfl,rfl,?_,_,_,rfl,rfl,.inl ⟨by decide,by decide⟩,_,_,rfl,rfl,?_,?_⟩
  ·rw [hln];exact⟨by omega,by omega⟩
  ·rw [hln];show(0:Int) <= 20 * (k / (ns.length:Int));omega
  refine⟨_,rfl,_,_,rfl,rfl,_,rfl,?_⟩
  refine ite2 (fun c2=>?_) (fun c2=>?_)
  ·exact⟨_,rfl,_,rfl,_,_,rfl,rfl,hm,q _ (emod_nonneg _ (by omega)) (Int.emod_lt_of_pos _ hm)⟩
  ·refine⟨_,rfl,_,_,rfl,rfl,(by show(0:Int) < 1000003;decide),_,rfl,_,_,rfl,rfl,.inl ⟨by decide,by decide⟩,_,rfl,_,_,rfl,rfl,.inr ⟨by omega,by omega⟩,_,_,rfl,rfl,_,_,rfl,rfl,?_⟩
   refine⟨_,rfl,_,_,rfl,rfl,.inr ⟨by decide,by decide⟩,_,_,rfl,rfl,(by show(0:Int) < 999983;decide),_,_,rfl,rfl,.inr ⟨by decide,by decide⟩,_,_,rfl,rfl,(by show(0:Int) < 524287;decide),_,rfl,_,_,rfl,rfl,hm,?_⟩
   exact q _ (emod_nonneg _ (by omega)) (Int.emod_lt_of_pos _ hm)
 ·refine⟨_,rfl,_,_,rfl,rfl,_,rfl,?_⟩
  refine ite2 (fun c2=>?_) (fun c2=>?_)
  ·exact⟨_,rfl,_,rfl,_,_,rfl,rfl,hm,q _ (emod_nonneg _ (by omega)) (Int.emod_lt_of_pos _ hm)⟩
  ·refine⟨_,rfl,_,_,rfl,rfl,(by show(0:Int) < 1000003;decide),_,rfl,_,_,rfl,rfl,.inl ⟨by decide,by decide⟩,_,rfl,_,_,rfl,rfl,.inr ⟨by omega,by omega⟩,_,_,rfl,rfl,_,_,rfl,rfl,?_⟩
   refine⟨_,rfl,_,_,rfl,rfl,.inr ⟨by decide,by decide⟩,_,_,rfl,rfl,(by show(0:Int) < 999983;decide),_,_,rfl,rfl,.inr ⟨by decide,by decide⟩,_,_,rfl,rfl,(by show(0:Int) < 524287;decide),_,rfl,_,_,rfl,rfl,hm,?_⟩
   exact q _ (emod_nonneg _ (by omega)) (Int.emod_lt_of_pos _ hm)
abbrev a6h:Stmt:=top 18
theorem b8c:FnScope ["_law_tape","_law_many"] ["_law_tape","_law_many"] (a0g a6h):=⟨rfl,rfl,rfl,by decide +kernel,rfl,by decide +kernel,by decide +kernel⟩
theorem d3v{f f1 f2:Addr}{fd fd1 fd2:FuncData} (F:Fun K "_law_next" "_law_next" a6h f fd) (B:Bl mg) (a2p:Def K mg "_law_cell_at" a3i ["_law_script","_law_k"] f1 fd1)
  (a9m:Def K mg "_law_by" a9l ["_law_script","_law_k","_law_many"] f2 fd2):FnOk P w K mg base CX0 3 f fd ["_law_tape","_law_many"] (spD K c5i):=by
 have c8j:FnOk P w K mg base CX0 2 f2 fd2 ["_law_script","_law_k","_law_many"] (spBy K):=ok_by a9m.fn B a2p
 refine F.ok b8c (fun vs H Q E h=>?_) (fun cdv A outer s H vs Q E hr h=>?_)
 ·obtain⟨c,O,ls,Qd,_,_,_,_,_,R,⟨k,many,rfl,_⟩,_⟩:=h
  have:=R.len
  rw [length_map] at this
  exact this
 obtain⟨c,O,ls,Qd,_,_,_,_,_,R,⟨k,many,rfl,hm,hk2,q⟩,fin⟩:=h
 obtain⟨t,hO,hσ0,ht⟩:=R.tap 0 k rfl
 obtain⟨v1,hσ1,a1⟩:=R.dat 1 _ rfl
 have e1:=a8d a1
 subst e1
 have hvs:vs=[.ref t,.int many]:=by
  have hl:=R.len
  rw [length_map] at hl
  obtain⟨x,us,rfl,h1⟩:=usS (n:=1) (by first | exact hl | exact hl.symm)
  obtain⟨y,us,rfl,h2⟩:=usS (n:=0) h1
  obtain rfl:=List.eq_nil_of_length_eq_zero h2
  have e0:x=.ref t:=by simpa using hσ0
  have e1:y=.int many:=by simpa using hσ1
  rw [e0,e1]
 subst hvs
 have hs:=R.sc
 have hl:c.ns.length <= 63:=by simpa using hs.2.1
 refine⟨_,(a0t (c2p (a2e a9t (a7l a5g (pv 0) a1c (fun _ _=>rfl)) a1c) (c2o (pv 0) a1c set_list))
  (a1i (a3n (a4o a9m c8j hr rfl (a0e (a7l a5g (pv 0) a1c (fun _ _=>rfl)) (a0e (a7l a5g (pv 0) a1c (fun _ _=>rfl)) (a0e (pv 1) a0l))))))),?_⟩
 have ht':(upd H t (.lst ([V.ref c.sa,V.int k].set 1 (.int ((k:Int) + 1))))) t=some (.lst [.ref c.sa,.int ((k:Int) + 1)]):=a0c
 obtain⟨R2,P2⟩:=R.write (l:=.tape (k + 1)) (xs:=[]) (vs':=[.ref c.sa,.int ((k + 1:Nat):Int)]) hO ht (.inr (.inr ⟨k,rfl⟩)) (.inr (.inr ⟨k,k + 1,rfl,rfl,rfl⟩))
 have ek:((k + 1:Nat):Int)=(k:Int) + 1:=by omega
 rw [ek] at R2
 refine⟨_,rfl,t,_,1,_,rfl,rfl,SqL.of ht,rfl,_,_,rfl,rfl,_,rfl,t,_,1,1,rfl,rfl,ht,rfl,?_⟩
 refine⟨_,rfl,t,_,0,_,rfl,rfl,SqL.of ht',rfl,_,rfl,t,_,1,_,rfl,rfl,SqL.of ht',rfl,_,rfl,?_⟩
 refine⟨_,c.ns,_,_,rfl,R2.sc.seq,hl,by omega,by omega,hm,fun r h0 h1=>?_⟩
 exact fin (.d (.int r)) O [some (.tape (k + 1)),some (.d (.int many))] _ _ _ (q r h0 h1) ⟨R2,a2d r⟩
end
section
variable{P:Program}{w:World}{K:W.Frag}{mg:Str->Option Value}{base:Heap}{n:Nat}
abbrev b5y(P:Program)(w:World)(K:W.Frag)(mg:Str->Option Value)(base:Heap)(n:Nat)(f:Addr)(fd:FuncData):Prop:=FnOk P w K mg base CX0 n f fd ["_law_tape","_law_many"] (spD K c5i)
abbrev b5z(K:W.Frag)(mg:Str->Option Value)(f:Addr)(fd:FuncData):Prop:=Def K mg "_law_next" a6h ["_law_tape","_law_many"] f fd
end
abbrev FIG:Str:="0123456789"
noncomputable def a4m(c:Nat):Bool:=Txt.contains FIG ⟨#[c]⟩
noncomputable def b7r(x:Str):Bool:=match x.cps.toList with
 | c :: _=>!decide ((⟨#[c]⟩:Str) = "0") || decide (x = "0")
 | []=>false
noncomputable def figs(m:Int)(x:Str):Bool:=decide (1 <= (x.length:Int)) && decide ((x.length:Int) <= m) && x.cps.toList.all a4m && b7r x
theorem b7s{x:Str}(h:x.length <= 1000000):fLen [.str x]=some (.int (x.length:Int)):=if_pos (by rw [sizeLine_eq];omega)
theorem a8n(x:Str):x.cps.toList.length=x.length:=by simp [Str.length]
theorem a0k{α:Type}{o:Option α}{x:α}{Q:α->Prop}(e:o=some x)(h:Q x):need o Q:=by rw [e];exact h
noncomputable def num(x:Str):Int:=(PySem.intText? x).getD 0
theorem a4b{x:Str}{m:Int}(h:figs m x=true)(hm:m <= 100):PySem.intText? x=some (num x)/\x.length <= 100:=by
 unfold figs at h
 simp only [and_eq_true] at h
 obtain⟨⟨⟨h1,h2⟩,h3⟩,_⟩:=h
 have h1:=of_decide_eq_true h1
 have h2:=of_decide_eq_true h2
 have hn:x.cps.toList ≠ []:=fun e=>by have:=a8n x;rw [e] at this;simp at this;omega
 have hd:=PySem.intText_digits (x:=x) (fun c hc=>c4s (all_eq_true.mp h3 c hc)) hn (by omega)
 exact⟨by unfold num;rw [hd];rfl,by omega⟩
def b2x:DSp:=fun ls Q=>∃ (x:Str) (m:Int),ls=[.d (.str x),.d (.int m)]/\x.length <= 1000000/\m <= 100/\Q (.d (.bool (figs m x))) [none,none]
section
variable{P:Program}{w:World}{K:W.Frag}{mg:Str->Option Value}{base:Heap}{n:Nat}
abbrev a5a:Stmt:=top 9
theorem b5e:FnScope ["text","most"] ["text","most"] (a0g a5a):=⟨rfl,rfl,rfl,by decide +kernel,rfl,by decide +kernel,by decide +kernel⟩
theorem d3w{f:Addr}{fd:FuncData} (F:Fun K "is_figures" "is_figures" a5a f fd) (B:Bl mg) (m_FIGURES:∃ t,mg "FIGURES" = some (.str FIG t)):FnOk P w K mg base CX0 (n + 1) f fd ["text","most"] (spD K b2x):=by
 refine F.dok b5e (fun cdv A outer s H E hr ls Qd h=>?_) (fun ls Qd hq8=>by obtain⟨_,_,e,_⟩:=hq8;rw [e];rfl)
 obtain⟨x,m,rfl,hl,hm,q⟩:=h
 refine⟨rfl,?_⟩
 refine⟨_,(a0j (a2f (DW.toT (b5s (a7c (b6q b5m (a7a _) b5m (a7a _) a0m (a1u a1h a3h rfl B.len_ a2i (a0a (dv 0) a0f)) (dv 1))) (b2o (a7c (a7b (a1u (b4r rfl) d2y rfl B.all_ b7g (a0a (a1m (a5n ["sign"] [] rfl (by rfl) (by decide +kernel) (c4n (dv 0)) (fun _ _ _=>(a2o (i:=0) (show(["sign"]:List Str).Nodup by decide +kernel) rfl (Or.inl rfl))) (fun _ _ _=>a6t) (fun _ _ _=>(a2w d8o c4r (dv 0) (d3i rfl m_FIGURES) (by rfl))))) a0f)))))))
  (a0q (a1s b0u))
  a1b)
  (a0q (a1s (c9m (a2w (a8k hr.units) a8j (a1d a0w a1e (dv 0) a0m (fun _ _=>rfl)) a0i (a0p _)) (a7d (a2w (a2c hr.units) a2b (dv 0) a0i (a0p _))))))),?_⟩
 walk_at "dd"
 refine a0k (b7s hl) ?_
 walk_at "dd"
 refine b0x (fun c1=>?_) (fun c1=>?_)
 ·walk_at "dd"
  refine b7a (fun c2=>?_) (fun c2=>?_)
  ·have ef:figs m x=false:=by unfold figs;rw [decide_eq_false c2];simp
   rw [← ef]
   exact q
  refine⟨by rw [length_map,a8n];omega,?_⟩
  refine L2.a7g (fun ρ=>∃ v0:Option L,ρ=[v0]) (fun d=>match d with | .str z=>some (.bool (z.cps.toList.all a4m)) | _=>none) ⟨_,rfl⟩ ?_ ?_
  ·rintro y ρ N hy ⟨v0,rfl⟩ hN
   obtain⟨c,hc,rfl⟩:=mem_map.mp hy
   have el:(Str.cps ⟨#[c]⟩).toList.all a4m=Txt.contains FIG ⟨#[c]⟩:=by simp [a4m]
   simp only [el] at hN
   walk_at "dd"
   exact hN _ ⟨_,rfl⟩
  rintro ρ _
  have ef:(signs x).filterMap (fun d=>match d with | .str z=>some (PyData.bool (z.cps.toList.all a4m)) | _=>none)=(x.cps.toList.map a4m).map .bool:=by
   unfold signs
   generalize x.cps.toList=l
   induction l with
   | nil=>rfl
   | cons c r ih=>rw [map_cons,filterMap_cons,ih];simp
  rw [ef,c7x,a5w]
  walk_at "dd"
  have ea:(x.cps.toList.map a4m).all id=x.cps.toList.all a4m:=by rw [all_map];rfl
  rw [ea]
  cases hx:x.cps.toList.all a4m with
  | false =>
   walk_at "dd"
   have ef:figs m x=false:=by unfold figs;rw [hx];simp
   rw [← ef]
   exact q
  | true =>
   walk_at "dd"
   obtain⟨c,r,hc⟩:∃ c r,x.cps.toList=c :: r:=by
    cases e:x.cps.toList with
    | nil=>have:=a8n x;rw [e] at this;simp at this;omega
    | cons c r=>exact⟨c,r,rfl⟩
   have ei:fIx (.str x) (.int 0)=some (.str ⟨#[c]⟩):=by
    show(if x.length <= sizeLine then(atI x.cps.toList 0).map _ else none)=_
    rw [if_pos (by rw [sizeLine_eq];omega),hc,c0x];rfl
   refine a0k ei ?_
   have ef:figs m x=(!decide ((⟨#[c]⟩:Str) = "0") || decide (x = "0")):=by unfold figs b7r;rw [hx,hc,decide_eq_true c1,decide_eq_true c2];rfl
   rw [ef] at q
   walk_at "dd"
   refine ite_b (fun e=>?_) (fun e=>?_)
   ·rw [show(!decide ((⟨#[c]⟩:Str) = "0"))=true from e] at q;exact q
   ·rw [show(!decide ((⟨#[c]⟩:Str) = "0"))=false from e] at q;exact q
 ·walk_at "dd"
  have ef:figs m x=false:=by unfold figs;rw [decide_eq_false c1];simp
  rw [← ef]
  exact q
end
structure TxtF(K:W.Frag)(mg:Str->Option Value)(C:Addr):Prop where
 cl:Cls K C
 n1:a1z K C "row"
 n2:a1z K C "words"
 n3:a1z K C "place"
 mgC:mg "Words" = some (.ref C)
structure ExN(K:W.Frag)(mg:Str->Option Value)(NT:Addr):Prop where
 mN:mg "NoText" = some (.ref NT)
 st:XSt K NT
 n1:a1z K NT "row"
 n2:a1z K NT "word"
noncomputable def wfs(r:Int)(wl:Addr)(p:Int):List (Str × V):=[("row",.int r),("words",.ref wl),("place",.int p)]
theorem b9n{r:Int}{wl:Addr}{p:Int}:(wfs r wl p).lookup ("row" : Str)=some (.int r):=rfl
theorem b0j{r:Int}{wl:Addr}{p:Int}:(wfs r wl p).lookup ("words" : Str)=some (.ref wl):=rfl
theorem a4s{r:Int}{wl:Addr}{p:Int}:(wfs r wl p).lookup ("place" : Str)=some (.int p):=rfl
theorem c5j{r:Int}{wl:Addr}{p q:Int}:putF "place" (.int q) (wfs r wl p)=wfs r wl q:=rfl
def WOk(C:Addr)(H:Hp)(x dx:Addr)(r:Int)(wl:Addr)(p:Nat)(ws:List Str):Prop:=H x=some (.ins C dx (wfs r wl (p:Int)))/\H wl=some (.lst (ws.map V.str))
def But(x:Addr)(H H':Hp):Prop:=∀ c o,c ≠ x->H c=some o->H' c=some o
def NTd(H:Hp)(d:Addr)(r p:Int):Prop:=H d=some (.ext (nsq d [("row",.int r),("word",.int p)]))
abbrev s_i0:Stmt:=inClass (top 2) 0
abbrev a6u:Stmt:=inClass (top 8) 0
abbrev a6v:Stmt:=inClass (top 8) 1
abbrev a8o:Stmt:=inClass (top 8) 2
abbrev a8p:Stmt:=inClass (top 8) 3
theorem sc_i0:FnScope ["self","row","word"] ["self","row","word"] (a0g s_i0):=⟨rfl,rfl,rfl,by decide +kernel,rfl,by decide +kernel,by decide +kernel⟩
theorem c8k:FnScope ["self","row","text"] ["self","row","text"] (a0g a6u):=⟨rfl,rfl,rfl,by decide +kernel,rfl,by decide +kernel,by decide +kernel⟩
theorem c8l:FnScope ["self","fits"] ["self","fits"] (a0g a6v):=⟨rfl,rfl,rfl,by decide +kernel,rfl,by decide +kernel,by decide +kernel⟩
theorem d3x:FnScope ["self"] ["self"] (a0g a8o):=⟨rfl,rfl,rfl,by decide +kernel,rfl,by decide +kernel,by decide +kernel⟩
theorem d3y:FnScope ["self"] ["self"] (a0g a8p):=⟨rfl,rfl,rfl,by decide +kernel,rfl,by decide +kernel,by decide +kernel⟩
def spI0(C:Addr):Sp:=fun vs H Q _=>∃ (e t:Addr) (a b:Int),vs=[.ref e,.int a,.int b]/\H e=some (.ext (exm e C t none))/\∀ d H',H d=none->H' e=some (.ext (exm e C t (some d)))->H' d=some (.ext (nsq d [("row",.int a),("word",.int b)]))->(∀ x,x ≠ e->x ≠ d->H' x=H x)->Q .non H'
def b3r(C:Addr):Sp:=fun vs H Q _=>∃ (x dx:Addr) (r:Int) (t:Str),vs=[.ref x,.int r,.str t]/\H x=some (.ins C dx [])/\t.length <= 1000000/\∀ wl H',H wl=none->But x H H'->WOk C H' x dx r wl 0 (Txt.split t " ")->Q .non H'
def b2y(C:Addr):Sp:=fun vs H Q _=>∃ (x dx:Addr) (r:Int) (wl:Addr) (p:Nat) (ws:List Str),vs=[.ref x]/\WOk C H x dx r wl p ws/\Q (.bl (decide (p=ws.length))) H
def b7t(C NT:Addr):Sp:=fun vs H Q E=>∃ (x dx:Addr) (r:Int) (wl:Addr) (p:Nat) (ws:List Str),vs=[.ref x]/\WOk C H x dx r wl p ws/\(p=ws.length->Q .non H)/\(p ≠ ws.length->∀ d H',Same H H'->NTd H' d r p->E (.ref NT) (some d) H')
def b1e(P:Program)(w:World)(K:W.Frag)(mg:Str->Option Value)(base:Heap)(n:Nat)(C NT:Addr):Sp:=fun vs H Q E=>∃ (x dx f:Addr) (r:Int) (wl:Addr) (p:Nat) (ws:List Str) (g:Str->Bool),vs=[.ref x,.ref f]/\WOk C H x dx r wl p ws/\p <= ws.length/\c1n P w K mg base n H f g/\(∀ z ∈ ws,z.length <= 1000000) /\
 (∀ z,ws[p]? = some z->g z=true->∀ H',But x H H'->WOk C H' x dx r wl (p + 1) ws->Q (.str z) H')/\((∀ z,ws[p]? = some z->g z=false)->∀ d H',Same H H'->NTd H' d r p->E (.ref NT) (some d) H')
theorem c1s{p A B:Prop}[Decidable p](h:p)(a:A):if decide p=true then A else B:=by rw [decide_eq_true h];exact iteT a
theorem c1t{p A B:Prop}[Decidable p](h:¬ p)(b:B):if decide p=true then A else B:=by rw [decide_eq_false h];exact iteF b
theorem b4x{H H':Hp}{e d:Addr}(he:H e=none)(hd:H d=none)(h:∀ x,x ≠ e->x ≠ d->H' x=H x):Same H (drop H' e):=fun b o q=>by
 have n1:b ≠ e:=fun z=>by rw [z,he] at q;cases q
 have n2:b ≠ d:=fun z=>by rw [z,hd] at q;cases q
 rw [b1b n1,h b n1 n2]
 exact q
section
variable{P:Program}{w:World}{K:W.Frag}{mg:Str->Option Value}{base:Heap}{n:Nat}{C NT:Addr}
theorem ok_i0{f:Addr}{fd:FuncData} (F:Fun K "__init__" "NoText.__init__" s_i0 f fd) (xx:ExN K mg NT):FnOk P w K mg base CX0 1 f fd ["self","row","word"] (spI0 NT):=by
 refine F.ok sc_i0 (fun vs H Q E h=>?_) (fun cdv A outer s H vs Q E hr h=>?_)
 ·obtain⟨e,t,a,b,rfl,_⟩:=h
  rfl
 obtain⟨e,t,a,b,rfl,he,q⟩:=h
 refine⟨_,a0t (ps_x1 (pv 0) (pv 1) rfl) (a1i (ps_x2 (pv 0) (pv 2) rfl)),?_⟩
 refine⟨_,rfl,_,rfl,e,NT,t,rfl,he,xx.st,xx.n1,fun d hd ne=>?_⟩
 refine⟨_,rfl,_,rfl,e,NT,t,d,_,rfl,?_,a0c,(by show 1 < 1000;decide),xx.st,xx.n2,?_⟩
 ·rw [a0d (Ne.symm ne),a0c]
 ·refine q d _ hd ?_ a0c (fun x h1 h2=>?_)
  ·rw [a0d (Ne.symm ne),a0d (Ne.symm ne),a0c]
  ·rw [a0d h2,a0d h2,a0d h1,a0d h2]
theorem c8m{f:Addr}{fd:FuncData} (F:Fun K "__init__" "Words.__init__" a6u f fd) (T:TxtF K mg C):FnOk P w K mg base CX0 (n + 1) f fd ["self","row","text"] (b3r C):=by
 refine F.ok c8k (fun vs H Q E h=>?_) (fun cdv A outer s H vs Q E hr h=>?_)
 ·obtain⟨x,dx,r,t,rfl,_⟩:=h
  rfl
 obtain⟨x,dx,r,t,rfl,hx,ht,q⟩:=h
 refine⟨_,a0t (b2g (pv 0) (pv 1) rfl) (a0t (b2g (pv 0) (a7m PySem.F.plainAttrs_str PySem.F.slot_str_split PySem.F.type_str_split a9i (pv 2) (a0e a3m a0l)) rfl) (a1i (b2g (pv 0) a1c rfl))),?_⟩
 refine⟨_,rfl,_,rfl,x,C,dx,[],rfl,hx,T.cl,T.n1,by decide,?_⟩
 refine⟨_,rfl,rfl,t,_,rfl,rfl,by decide,ht,fun wl hwl=>?_⟩
 have nx:wl ≠ x:=fun z=>by rw [z,a0c] at hwl;cases hwl
 refine⟨_,rfl,x,C,dx,putF "row" (.int r) [],rfl,by rw [a0d (Ne.symm nx),a0c],T.cl,T.n2,(show(1:Nat) < 1000 by decide),?_⟩
 refine⟨_,rfl,x,C,dx,_,rfl,a0c,T.cl,T.n3,(show(2:Nat) < 1000 by decide),?_⟩
 rw [a0d nx] at hwl
 refine q wl _ hwl (fun c o n e=>?_) ⟨a0c,?_⟩
 ·rw [a0d n,a0d n,a0d (fun z=>by rw [z,hwl] at e;cases e),a0d n];exact e
 ·rw [a0d nx,a0d nx,a0c]
theorem d3z{f:Addr}{fd:FuncData} (F:Fun K "are_over" "Words.are_over" a8o f fd) (B:Bl mg) (T:TxtF K mg C):FnOk P w K mg base CX0 (n + 1) f fd ["self"] (b2y C):=by
 refine F.ok d3x (fun vs H Q E h=>?_) (fun cdv A outer s H vs Q E hr h=>?_)
 ·obtain⟨x,dx,r,wl,p,ws,rfl,_⟩:=h
  rfl
 obtain⟨x,dx,r,wl,p,ws,rfl,⟨h1,h2⟩,q⟩:=h
 refine⟨_,a1i (a3n (a7y b0o (a3o (pv 0) rfl) (a2k a3p rfl B.len_ a2i (a0e (a3o (pv 0) rfl) a0l)) (a0p _))),?_⟩
 refine⟨_,rfl,x,C,dx,_,_,rfl,h1,T.cl,T.n3,a4s,?_⟩
 refine⟨_,rfl,x,C,dx,_,_,rfl,h1,T.cl,T.n2,b0j,wl,_,rfl,.inl (SqL.of h2),rfl,?_⟩
 have e:decide (V.int (p:Int)=V.int ((ws.map V.str).length:Int))=decide (p=ws.length):=by
  rw [length_map]
  by_cases c:p=ws.length
  ·rw [c];simp
  ·rw [decide_eq_false c,decide_eq_false (fun z=>c (by injection z with z;omega))]
 rw [e]
 exact q
theorem c8n{f f1 f2:Addr}{fd fd1 fd2:FuncData} (F:Fun K "taken" "Words.taken" a6v f fd) (T:TxtF K mg C) (xx:ExN K mg NT) (m_over:Meth K C "are_over" f1) (b_over:Binds K fd1 ["self"] []) (g_over:FnOk P w K mg base CX0 n f1 fd1 ["self"] (b2y C))
  (M0:XMk K NT f2) (g0:FnOk P w K mg base CX0 n f2 fd2 ["self","row","word"] (spI0 NT)) (b0:Binds K fd2 ["self","row","word"] []):FnOk P w K mg base (CX2 P w) (n + 2) f fd ["self","fits"] (b1e P w K mg base (n + 1) C NT):=by
 refine F.okX2 c8l (fun vs H Q E h=>?_) (fun cdv A outer s H vs Q E hr h=>?_)
 ·obtain⟨x,dx,f,r,wl,p,ws,g,rfl,_⟩:=h
  rfl
 obtain⟨x,dx,f,r,wl,p,ws,g,rfl,⟨h1,h2⟩,hp,⟨o,fdl,pn,spl,ho,hf,gl,bl,hl⟩,hw,q,qX⟩:=h
 refine⟨_,a0t (a8w (PW.pt (c8y (L2.a7u (b1q (pv 0) T.cl m_over g_over (hr.mono (le_succ _)) b_over .nil b2k)) (c2n (b2c (L2.a7u (c8a (i:=1) gl hr rfl bl b2k ho (a0e (a7l a5g (a3o (pv 0) rfl) (a3o (pv 0) rfl) (fun _ _=>rfl)) a0l)))))))
   (a1i (b4w a4a rfl M0 g0 hr rfl xx.mN b0 (a0e (a3o (pv 0) rfl) (a0e (a3o (pv 0) rfl) a0l)) (by decide))) a5f)
  (a0t (b2g (pv 0) (a2e a9t (a3o (pv 0) rfl) a1c) rfl)
  (a1i (a3n (a7l a5g (a3o (pv 0) rfl) (a2e d4r (a3o (pv 0) rfl) a1c) (fun _ _=>rfl))))),?_⟩
 have RS:∀ (H2:Hp) (D:Ends),Same H H2->(∀ z,ws[p]? = some z->g z=false)->b9l E NT (spI0 NT) (a1l (tFld K (tVar 0) "row") (a1l (tFld K (tVar 0) "place") tNil)) D [some (.ref x),some (.ref f)] H2:=fun H2 D s2 hg=>by
  refine⟨_,rfl,x,C,dx,_,_,rfl,s2 _ _ h1,T.cl,T.n1,b9n,_,rfl,x,C,dx,_,_,rfl,s2 _ _ h1,T.cl,T.n3,a4s,fun e t0 he=>⟨e,t0,r,p,rfl,a0c,fun d H' hd k1 k2 k3=>⟨rfl,_,k1,?_⟩⟩⟩
  have ne:d ≠ e:=fun z=>by rw [z,a0c] at hd;cases hd
  rw [a0d ne] at hd
  have s3:=b4x (H':=H') he hd fun y n1 n2=>by rw [k3 y n1 n2,a0d n1]
  exact qX hg d _ (fun b o e=>s3 _ _ (s2 _ _ e)) (by unfold NTd;rw [b1b ne];exact k2)
 refine⟨_,rfl,x,dx,_,rfl,h1,rfl,x,dx,r,wl,p,ws,rfl,⟨h1,h2⟩,_,rfl,?_⟩
 by_cases c:p=ws.length
 ·refine c1s c ?_
  exact iteT (RS H _ (Same.refl _) fun z hz=>by rw [c] at hz;simp at hz)
 refine c1t c ?_
 have pl:p < ws.length:=by omega
 obtain⟨z,hz⟩:∃ z,ws[p]? = some z:=⟨_,getElem?_eq_getElem pl⟩
 refine⟨rfl,_,rfl,x,C,dx,_,_,rfl,h1,T.cl,T.n2,b0j,_,rfl,x,C,dx,_,_,rfl,h1,T.cl,T.n3,a4s,wl,_,(p:Int),.str z,rfl,rfl,SqL.of h2,a2l (j:=p) (by rw [getElem?_map,hz];rfl),hf,?_⟩
 refine hl z H _ (hw z (mem_of_getElem? hz)) (Same.refl _) fun H2 s2=>⟨_,rfl,?_⟩
 cases hg:g z with
 | false=>exact iteT (RS H2 _ s2 fun z' hz'=>by rw [hz] at hz';cases hz';exact hg)
 | true =>
  have k1:=s2 _ _ h1
  have k2:=s2 _ _ h2
  have nx:wl ≠ x:=fun z=>by rw [z,k1] at k2;cases k2
  refine iteF ?_
  refine⟨_,rfl,x,C,dx,_,_,rfl,k1,T.cl,T.n3,a4s,_,_,rfl,rfl,_,rfl,x,C,dx,_,rfl,k1,T.cl,T.n3,(show(3:Nat) < 1000 by decide),?_⟩
  rw [c5j]
  have k3:(upd H2 x (.ins C dx (wfs r wl ((p:Int) + 1)))) wl=some (.lst (ws.map V.str)):=by rw [a0d nx];exact k2
  refine⟨_,rfl,x,C,dx,_,_,rfl,a0c,T.cl,T.n2,b0j,_,rfl,x,C,dx,_,_,rfl,a0c,T.cl,T.n3,a4s,_,_,rfl,rfl,wl,_,(p:Int),.str z,rfl,?_,SqL.of k3,a2l (j:=p) (by rw [getElem?_map,hz];rfl),?_⟩
  ·show V.int (((p:Int) + 1) - 1)=V.int (p:Int)
   rw [Int.add_sub_cancel]
  ·exact q z hz hg _ (fun c o n e=>by rw [a0d n];exact s2 _ _ e) ⟨by rw [a0c];rfl,k3⟩
theorem d4a{f f1 f2:Addr}{fd fd1 fd2:FuncData} (F:Fun K "finish" "Words.finish" a8p f fd) (T:TxtF K mg C) (xx:ExN K mg NT) (m_over:Meth K C "are_over" f1) (b_over:Binds K fd1 ["self"] []) (g_over:FnOk P w K mg base CX0 n f1 fd1 ["self"] (b2y C))
  (M0:XMk K NT f2) (g0:FnOk P w K mg base CX0 n f2 fd2 ["self","row","word"] (spI0 NT)) (b0:Binds K fd2 ["self","row","word"] []):FnOk P w K mg base (CX2 P w) (n + 2) f fd ["self"] (b7t C NT):=by
 refine F.okX2 d3y (fun vs H Q E h=>?_) (fun cdv A outer s H vs Q E hr h=>?_)
 ·obtain⟨x,dx,r,wl,p,ws,rfl,_⟩:=h
  rfl
 obtain⟨x,dx,r,wl,p,ws,rfl,⟨h1,h2⟩,q,qX⟩:=h
 refine⟨_,a1i (a8w (b2c (L2.a7u (b1q (pv 0) T.cl m_over g_over (hr.mono (le_succ _)) b_over .nil b2k)))
   (a1i (b4w a4a rfl M0 g0 hr rfl xx.mN b0 (a0e (a3o (pv 0) rfl) (a0e (a3o (pv 0) rfl) a0l)) (by decide))) a5f),?_⟩
 refine⟨_,rfl,x,dx,_,rfl,h1,rfl,x,dx,r,wl,p,ws,rfl,⟨h1,h2⟩,_,rfl,?_⟩
 by_cases c:p=ws.length
 ·rw [decide_eq_true c]
  exact iteF (q c)
 ·rw [decide_eq_false c]
  refine iteT ⟨_,rfl,x,C,dx,_,_,rfl,h1,T.cl,T.n1,b9n,_,rfl,x,C,dx,_,_,rfl,h1,T.cl,T.n3,a4s,fun e t0 he=>⟨e,t0,r,p,rfl,a0c,fun d H' hd k1 k2 k3=>⟨rfl,_,k1,?_⟩⟩⟩
  have ne:d ≠ e:=fun z=>by rw [z,a0c] at hd;cases hd
  rw [a0d ne] at hd
  exact qX c d _ (b4x he hd fun y n1 n2=>by rw [k3 y n1 n2,a0d n1]) (by unfold NTd;rw [b1b ne];exact k2)
end
theorem But.refl{x:Addr}{H:Hp}:But x H H:=fun _ _ _ e=>e
theorem But.trans{x:Addr}{H H1 H2:Hp}(a:But x H H1)(b:But x H1 H2):But x H H2:=fun c o n e=>b c o n (a c o n e)
theorem But.of{x:Addr}{H H1:Hp}(s:Same H H1):But x H H1:=fun c o _ e=>s c o e
theorem But.keep{x:Addr}{H H1:Hp}{C dx:Addr}{fs:List (Str × V)}(b:But x H H1)(h:H x=some (.ins C dx fs)):Keep (fun _=>False) H H1:=
 ⟨fun c xs e=>b c _ (fun z=>by rw [z,h] at e;cases e) e,fun c o u e=>b c _ (fun z=>by rw [z,h] at e;cases e) e,fun _ _ z=>z.elim⟩
noncomputable def KvT:List (Str × V):=[("yes",.bl true),("no",.bl false)]
def TabT(K:W.Frag)(w:World)(mg:Str->Option Value):Prop:=∃ a:Addr,mg "WORDS_OF_TRUTH" = some (.ref a)/\KDict K w a KvT/\(a == sysModules)=false
noncomputable def isTr(x:Str):Bool:=(KvT.lookup x).isSome
noncomputable def allF(x:Str):Bool:=decide (x = "-") || ((Txt.split x ",").map (figs 9)).all id
noncomputable def oneF(x:Str):Bool:=decide (x = "-") || figs 9 x
noncomputable def fine(k:Nat)(z:Str):Bool:=if k < 2 then figs 9 z else if k=2 then isTr z else if k=3 then allF z else oneF z
noncomputable def okAt(ws:List Str)(k:Nat):Bool:=match ws[k]? with
 | some z=>fine k z
 | none=>false
noncomputable def a1y(ws:List Str):Option Nat:=if okAt ws 0=true then(if okAt ws 1=true then(if okAt ws 2=true then(if okAt ws 3=true then(if okAt ws 4=true then(if ws.length=5 then none else some 5) else some 4) else some 3) else some 2) else some 1) else some 0
noncomputable def trv(x:Str):PyData:=.bool (decide (x = "yes"))
noncomputable def a4i(x:Str):PyData:=if x = "-" then .tuple [] else .tuple ((Txt.split x ",").map fun z=>.int (num z))
noncomputable def a4t(x:Str):PyData:=if x = "-" then .none else .int (num x)
noncomputable def rowD(ws:List Str):PyData:=.tuple [.int (num (ws.getD 0 "")),.int (num (ws.getD 1 "")),trv (ws.getD 2 ""),a4i (ws.getD 3 ""),a4t (ws.getD 4 "")]
theorem a8q{ws:List Str}{k:Nat}{z:Str}(h:ws[k]? = some z):okAt ws k=fine k z:=by unfold okAt;rw [h]
theorem a8r{ws:List Str}{k:Nat}{g:Str->Bool}(hg:∀ z,fine k z=g z)(h:∀ z,ws[k]? = some z->g z=false):okAt ws k=false:=by
 unfold okAt
 cases e:ws[k]? with
 | none=>rfl
 | some z=>exact(hg z).trans (h z e)
theorem b0k{ws:List Str}{k:Nat}{z:Str}(h:ws[k]? = some z):ws.getD k "" = z:=by rw [List.getD_eq_getElem?_getD,h];rfl
theorem d4b{z:Str}(h:isTr z=true):KvT.lookup z=some (.bl (decide (z = "yes"))):=by
 unfold isTr KvT at h
 rw [lookup_cons,lookup_cons] at h
 unfold KvT
 rw [lookup_cons,lookup_cons]
 by_cases e:z = "yes"
 ·subst e;rfl
 ·rw [beq_eq_false_iff_ne.mpr e] at h ⊢
  by_cases e2:z = "no"
  ·subst e2;rfl
  ·rw [beq_eq_false_iff_ne.mpr e2] at h;cases h
theorem all_bools{K:W.Frag}{H:Hp}{S:Addr->Prop}:∀ {bs:List Bool},a0b K H S (bs.map .bool) (bs.map V.bl)
 | []=>.nil
 | b :: r=>.cons (a0z _) all_bools
theorem sdec{a b:Str}:decide (V.str a=V.str b)=decide (a=b):=by
 by_cases e:a=b
 ·rw [e];simp
 ·rw [decide_eq_false e,decide_eq_false fun z=>e (V.str.inj z)]
def c1u(K:W.Frag)(C NT:Addr):Sp:=fun vs H Q E=>∃ (x dx:Addr) (r:Int) (wl:Addr) (ws:List Str) (sa:Addr) (ns:List Int),vs=[.ref x]/\WOk C H x dx r wl 0 ws/\(∀ z ∈ ws,z.length <= 100000)/\L2.Scr K H sa (ns.map V.int) /\
 (a1y ws=none->∀ v H',But x H H'->AtD K H' (fun _=>False) (rowD ws) v->Q v H')/\(∀ k,a1y ws=some k->∀ d H',But x H H'->NTd H' d r k->E (.ref NT) (some d) H')
section
variable{P:Program}{w:World}{K:W.Frag}{mg:Str->Option Value}{base:Heap}{n:Nat}{C NT:Addr}
theorem a5y{x dx wl T:Addr}{r:Int}{p:Nat}{ws:List Str}{σ:St}{H:Hp}{Q:VK}{E:XK}{q:Str}{params:Arguments}{body:Expr}{scope:Scope}{pm:Value}(g:Str->Bool)(hσ:σ[0]? = some (some (.ref x)))(k:WOk C H x dx r wl p ws)(hp:p <= ws.length)(hw:∀ z ∈ ws,z.length <= 1000000)(hT:H T=some (a9b q))
  (lam:∀ f c ct H1,Same H H1->Lam H1 f q params body scope [] pm c ct->c1n P w K mg base n H1 f g)
  (ok:∀ z H2,ws[p]? = some z->g z=true->But x H H2->WOk C H2 x dx r wl (p + 1) ws->Q (.str z) H2)
  (no:(∀ z,ws[p]? = some z->g z=false)->∀ d H2,Same H H2->NTd H2 d r p->E (.ref NT) (some d) H2) :
  c0f C "taken" (b1e P w K mg base n C NT) [] E (tVar 0) (a1l (tLam T q params body scope pm) tNil) σ H Q:=by
 refine⟨_,hσ,x,dx,_,rfl,k.1,rfl,hT,fun f c ct H1 s1 hf L=>?_⟩
 exact⟨x,dx,f,r,wl,p,ws,g,rfl,⟨s1 _ _ k.1,s1 _ _ k.2⟩,hp,lam f c ct H1 s1 L,hw,fun z hz hg H2 b2 k2=>ok z H2 hz hg ((But.of s1).trans b2) k2,fun hno d H2 s2 nt=>no hno d H2 (s1.trans s2) nt⟩
theorem a9n{H1:Hp}{sa:Addr}{ns:List Int}{z:Str}{Q:VK}(sc:L2.Scr K H1 sa (ns.map V.int))(hz:z.length <= 1000000)(hq:∀ H2,Same H1 H2->Q (.bl (figs 9 z)) H2):spD K b2x [.str z,.int 9] H1 Q E0:=
 d3q (E:=E0) (S:=fun _=>False) (ds:=[.str z,.int 9]) (Qd:=fun r _=>r=.d (.bool (figs 9 z))) sc (.cons (a2n _) (.cons (a2d _) (by unfold a0b;rfl))) ⟨z,9,rfl,hz,by decide,rfl⟩ (fun r v H2 ρ' h s2 ret=>by
  subst h
  have ev:v=.bl (figs 9 z):=by unfold Ret at ret;unfold AtD at ret;exact ret
  rw [ev];exact hq H2 s2)
theorem b9o{x:Addr}{a b:Int}{c:Bool}{z3 z4:Str}{v6:V}{d6:PyData}{H:Hp}{Q:VK}(h6:AtD K H (fun _=>False) d6 v6)(g4:oneF z4=true)(hq:∀ v H',Same H H'->AtD K H' (fun _=>False) (.tuple [.int a,.int b,.bool c,d6,a4t z4]) v->Q v H') :
  tTup (a1l (tVar 1) (a1l (tVar 2) (a1l (tVar 3) (a1l (tVar 6) (a1l (tIf (b9y (tOp rEq (tVar 5) (tC (.str "-")))) (tC .non) (tCB c1b (a1l (tVar 5) tNil))) tNil))))) [some (.ref x),some (.int a),some (.int b),some (.bl c),some (.str z3),some (.str z4),some v6] H Q:=by
 refine⟨_,rfl,_,rfl,_,rfl,_,rfl,_,rfl,rfl,_,rfl,?_⟩
 rw [sdec]
 have fin:∀ (v7:V) (d7:PyData),a4t z4=d7->AtD K H (fun _=>False) d7 v7->(5:Nat) <= sizeLine/\∀ p,H p=none->Q (.ref p) (upd H p (.tup [.int a,.int b,.bl c,v6,v7])):=fun v7 d7 e h7=>by
  refine⟨by rw [sizeLine_eq];omega,fun p hp=>hq _ _ (a0o hp _) (a2h (SqT.of a0c) (.cons (a2d _) (.cons (a2d _) (.cons (a0z _) (.cons (AtD.mono (a0o hp _).keep _ _ h6) (.cons ?_ (by unfold a0b;rfl)))))))⟩
  rw [e]
  exact AtD.mono (a0o hp _).keep _ _ h7
 by_cases e:z4 = "-"
 ·exact c1s e (fin .non .none (if_pos e) a8z)
 ·refine c1t e ?_
  have g:figs 9 z4=true:=by unfold oneF at g4;rw [decide_eq_false e] at g4;exact g4
  exact⟨_,rfl,z4,num z4,rfl,(a4b g (by decide)).1,by have:=(a4b g (by decide)).2;omega,fin (.int (num z4)) _ (if_neg e) (a2d _)⟩
abbrev a6i:Stmt:=top 14
theorem a2r:FnScope ["words","number","point","truth","ranks","choice","numbers"] ["words"] (a0g a6i):=⟨rfl,rfl,rfl,by decide +kernel,rfl,by decide +kernel,by decide +kernel⟩
theorem b8d{f f1 f2 f3 cR T:Addr}{fd fd1 fd2 fd3:FuncData} (F:Fun K "read_row" "read_row" a6i f fd) (B:Bl mg) (TX:TxtF K mg C) (bm:BMain mg base) (hcR:fd.code=.ref cR) (hCR:W.codeHdIn K cR T=true)
  (mMF:∃ t,mg "MOST_FIGURES" = some (.int 9 t)) (mWT:TabT K w mg)
  (m_taken:Meth K C "taken" f1) (b_taken:Binds K fd1 ["self","fits"] []) (g_taken:FnOk P w K mg base (CX2 P w) (n + 2) f1 fd1 ["self","fits"] (b1e P w K mg base (n + 1) C NT))
  (m_wfin:Meth K C "finish" f2) (b_wfin:Binds K fd2 ["self"] []) (g_wfin:FnOk P w K mg base (CX2 P w) (n + 2) f2 fd2 ["self"] (b7t C NT))
  (d_figs:Def K mg "is_figures" a5a ["text","most"] f3 fd3) (g_figs:FnOk P w K mg base CX0 n f3 fd3 ["text","most"] (spD K b2x)):FnOk P w K mg base (CX2 P w) (n + 3) f fd ["words"] (c1u K C NT):=by
 obtain⟨tMF,hMF⟩:=mMF
 obtain⟨aT,hWT,kdT,syT⟩:=mWT
 refine F.okX2c a2r (fun vs H Q E h=>?_) (fun cdv A outer s H vs Q E hcd hr h=>?_)
 ·obtain⟨x,dx,r,wl,ws,sa,ns,rfl,_⟩:=h
  rfl
 rw [hcR] at hcd
 subst hcd
 obtain⟨x,dx,r,wl,ws,sa,ns,rfl,k0,hw,sc,q,qX⟩:=h
 refine⟨_,a0t (a2g (i:=1) a2r.nd rfl (Or.inl rfl) (a3a a3b rfl B.int_ a4g (a0e (a7z (pv 0) TX.cl m_taken g_taken hr b_taken .nil (b1c a4a) (a0e (b0d bm rfl hCR (q:="read_row.<locals>.<lambda>") (by rfl)) a0l)) a0l)))
  (a0t (a2g (i:=2) a2r.nd rfl (Or.inl rfl) (a3a a3b rfl B.int_ a4g (a0e (a7z (pv 0) TX.cl m_taken g_taken hr b_taken .nil (b1c a4a) (a0e (b0d bm rfl hCR (q:="read_row.<locals>.<lambda>") (by rfl)) a0l)) a0l)))
  (a0t (a2g (i:=3) a2r.nd rfl (Or.inl rfl) (a7l c6i (a2v rfl hWT (v:=.ref aT) rfl) (a7z (pv 0) TX.cl m_taken g_taken hr b_taken .nil (b1c a4a) (a0e (b0d bm rfl hCR (q:="read_row.<locals>.<lambda>") (by rfl)) a0l)) (fun _ _=>rfl)))
  (a0t (a2g (i:=4) a2r.nd rfl (Or.inl rfl) (a7z (pv 0) TX.cl m_taken g_taken hr b_taken .nil (b1c a4a) (a0e (b0d bm rfl hCR (q:="read_row.<locals>.<lambda>") (by rfl)) a0l)))
  (a0t (a2g (i:=5) a2r.nd rfl (Or.inl rfl) (a7z (pv 0) TX.cl m_taken g_taken hr b_taken .nil (b1c a4a) (a0e (b0d bm rfl hCR (q:="read_row.<locals>.<lambda>") (by rfl)) a0l)))
  (a0t (b8i (b1q (pv 0) TX.cl m_wfin g_wfin hr b_wfin .nil (b1c a4a)))
  (a0t (a2g (i:=6) a2r.nd rfl (Or.inl rfl) (b1p (a6q b0o (pv 4) a3m (a0p _)) (a5u a0l) (a3a a4k rfl B.tuple_ a4n (a0e (b3j (own:=["text"]) (cap:=[]) rfl (by rfl) (by decide +kernel) (b8j (a7m PySem.F.plainAttrs_str PySem.F.slot_str_split PySem.F.type_str_split a9i (pv 4) (a0e a3m a0l))) (fun _ _ _=>a7v (i:=0) (show(["text"]:List Str).Nodup by decide +kernel) rfl (Or.inl rfl)) (fun _ _ _=>b0q) (fun _ _ _=>a3a a3b rfl B.int_ a4g (a0e (pv 0) a0l))) a0l))))
  (a1i (a3n (a5u (a0e (pv 1) (a0e (pv 2) (a0e (pv 3) (a0e (pv 6) (a0e (b1p (a6q b0o (pv 5) a3m (a0p _)) b2b (a3a a3b rfl B.int_ a4g (a0e (pv 5) a0l))) a0l)))))))))))))),?_⟩
 have hw':∀ z ∈ ws,z.length <= 1000000:=fun z hz=>by have:=hw z hz;omega
 have TBm:∀ H',But x H H'->H' T=some (a9b "read_row.<locals>.<lambda>"):=fun H' b=>by
  have h:=sc.1 _ (d3p F (by decide +kernel) hcR hCR)
  rw [show(("read_row" : Str) ++ (".<locals>.<lambda>" : Str)) = "read_row.<locals>.<lambda>" by decide +kernel] at h
  exact b _ _ (fun z=>by rw [z,k0.1] at h;cases h) h
 have scB:∀ H',But x H H'->L2.Scr K H' sa (ns.map V.int):=fun H' b=>sc.keep (b.keep k0.1)
 refine a5y (figs 9) rfl k0 (zero_le _) hw' (TBm H .refl) (fun f c ct H1 s1 L=>b0h L ⟨rfl,rfl,rfl,by decide +kernel,rfl,by decide +kernel,by decide +kernel⟩ (fun u=>rfl) (fun A outer s H2 E z hr hz s2=>⟨_,a4o d_figs g_figs hr rfl (a0e (pv 0) (a0e (a2v rfl hMF (v:=.int 9) ⟨_,rfl⟩) a0l)),fun Q hq=>⟨_,rfl,a9n (scB H2 (.of (s1.trans s2))) hz hq⟩⟩)) (fun z0 H1 hz0 g0 b1 k1=>?_) (fun hno d H2 s2 nt=>qX 0 (by unfold a1y;rw [a8r (fun z=>rfl) hno];rfl) d H2 (.of s2) nt)
 have o0:okAt ws 0=true:=(a8q hz0).trans g0
 refine⟨z0,num z0,rfl,(a4b g0 (by decide)).1,by have:=(a4b g0 (by decide)).2;omega,?_⟩
 have l0:0 < ws.length:=(List.getElem?_eq_some_iff.mp hz0).1
 refine a5y (figs 9) rfl k1 (by omega) hw' (TBm H1 b1) (fun f c ct H2 s1 L=>b0h L ⟨rfl,rfl,rfl,by decide +kernel,rfl,by decide +kernel,by decide +kernel⟩ (fun u=>rfl) (fun A outer s H3 E z hr hz s2=>⟨_,a4o d_figs g_figs hr rfl (a0e (pv 0) (a0e (a2v rfl hMF (v:=.int 9) ⟨_,rfl⟩) a0l)),fun Q hq=>⟨_,rfl,a9n (scB H3 (b1.trans (.of (s1.trans s2)))) hz hq⟩⟩)) (fun z1 H2 hz1 g1 b2 k2=>?_) (fun hno d H2 s2 nt=>qX 1 (by unfold a1y;rw [o0,a8r (k:=1) (fun z=>rfl) hno];rfl) d H2 (b1.trans (.of s2)) nt)
 have o1:okAt ws 1=true:=(a8q hz1).trans g1
 have b2:=b1.trans b2
 refine⟨z1,num z1,rfl,(a4b g1 (by decide)).1,by have:=(a4b g1 (by decide)).2;omega,?_⟩
 have l1:1 < ws.length:=(List.getElem?_eq_some_iff.mp hz1).1
 refine a5y isTr rfl k2 (by omega) hw' (TBm H2 b2) (fun f c ct H3 s1 L=>b0h L ⟨rfl,rfl,rfl,by decide +kernel,rfl,by decide +kernel,by decide +kernel⟩ (fun u=>rfl) (fun A outer s H4 E z hr hz s2=>⟨_,a7y d7z (pv 0) (a2v rfl hWT (v:=.ref aT) rfl) (by rfl),fun Q hq=>⟨_,rfl,aT,KvT,z,rfl,kdT,syT,rfl,hq _ (Same.refl _)⟩⟩)) (fun z2 H3 hz2 g2 b3 k3=>?_) (fun hno d H3 s2 nt=>qX 2 (by unfold a1y;rw [o0,o1,a8r (k:=2) (fun z=>rfl) hno];rfl) d H3 (b2.trans (.of s2)) nt)
 have o2:okAt ws 2=true:=(a8q hz2).trans g2
 have b3:=b2.trans b3
 refine⟨aT,KvT,z2,_,rfl,kdT,rfl,d4b g2,?_⟩
 have l2:2 < ws.length:=(List.getElem?_eq_some_iff.mp hz2).1
 refine a5y allF rfl k3 (by omega) hw' (TBm H3 b3) (fun f c ct H4 s1 L=>b0h L ⟨rfl,rfl,rfl,by decide +kernel,rfl,by decide +kernel,by decide +kernel⟩ (fun u=>rfl) (fun A outer s H5 E z hr hz s2=>⟨_,b9t (a7y b0o (pv 0) a3m (a0p _)) (b6c (a2k (b4r rfl) rfl B.all_ b7g (a0e (b3j (own:=["text"]) (cap:=[]) rfl (by rfl) (by decide +kernel) (b8j (a7m PySem.F.plainAttrs_str PySem.F.slot_str_split PySem.F.type_str_split a9i (pv 0) (a0e a3m a0l))) (fun _ _ _=>a7v (i:=0) (show(["text"]:List Str).Nodup by decide +kernel) rfl (Or.inl rfl)) (fun _ _ _=>b0q) (fun _ _ _=>a4o d_figs g_figs hr rfl (a0e (pv 0) (a0e (a2v rfl hMF (v:=.int 9) ⟨_,rfl⟩) a0l)))) a0l))),fun Q hq=>?lam4⟩)) (fun z3 H4 hz3 g3 b4 k4=>?_) (fun hno d H4 s2 nt=>qX 3 (by unfold a1y;rw [o0,o1,o2,a8r (k:=3) (fun z=>rfl) hno];rfl) d H4 (b3.trans (.of s2)) nt)
 case lam4 =>
  refine⟨_,rfl,rfl,_,rfl,?_⟩
  rw [sdec]
  unfold allF at hq
  by_cases e:z = "-"
  ·rw [decide_eq_true e] at hq ⊢
   exact iteT (hq _ (Same.refl _))
  rw [decide_eq_false e,Bool.false_or] at hq
  rw [decide_eq_false e]
  refine iteF ⟨_,rfl,rfl,z,_,rfl,rfl,by decide,hz,fun p hp=>⟨p,rfl,⟨_,SqL.of a0c⟩,fun D0 hD0=>a9z (b4k (xs:=(Txt.split z ",").map V.str) (fun i σ2 H6=>∃ u,σ2=[u]/\Same H5 H6/\H6 p=some (.lst ((Txt.split z ",").map V.str))/\H6 D0=some (.lst ((((Txt.split z ",").take i).map (figs 9)).map V.bl))) ⟨none,rfl,(a0o hp _).trans (a0o hD0 _),by rw [a0d (a0v a0c hD0),a0c],a0c⟩ (fun i σ2 H6 _ h=>by obtain⟨_,_,_,h,_⟩:=h;exact SqL.of h) ?_ ?_)⟩⟩
  ·rintro i y σ2 H6 hy ⟨u,rfl,s6,hp6,hD6⟩
   rw [getElem?_map] at hy
   obtain⟨yt,hyt,rfl⟩:=map_eq_some_iff.mp hy
   dsimp only [a4v,tYes]
   rw [if_pos rfl]
   have ym:=mem_of_getElem? hyt
   have il:i < (Txt.split z ",").length:=(List.getElem?_eq_some_iff.mp hyt).1
   have sl:=PyProof.Rows.split_le z ","
   refine⟨_,rfl,a9n (scB H6 (b3.trans (.of ((s1.trans s2).trans s6)))) (le_trans (PyProof.Rows.part_short ym) hz) fun H7 s7=>⟨_,s7 _ _ hD6,?_,_,rfl,?_,?_,?_⟩⟩
   ·rw [length_map,length_map,length_take,sizeLine_eq];omega
   ·exact fun c o h=>by rw [a0d (fun zz=>by rw [zz] at h;have:=(a0o hp (.lst ((Txt.split z ",").map V.str))) _ _ h;rw [hD0] at this;cases this)];exact s7 _ _ (s6 _ _ h)
   ·rw [a0d (fun zz=>by rw [zz] at hp6;have:=s7 _ _ hp6;have h2:=s7 _ _ hD6;have n0:D0 ≠ p:=Ne.symm (a0v a0c hD0);exact n0 zz.symm)];exact s7 _ _ hp6
   ·rw [a0c,List.take_add_one,hyt,toList_some,map_append,map_append];rfl
  ·rintro σ2 H6 ⟨u,rfl,s6,hp6,hD6⟩
   rw [length_map,List.take_length] at hD6
   refine⟨_,(fun a=>a=D0),(Txt.split z ",").map (figs 9),rfl,a3w rfl hD6 ?_,hq _ s6⟩
   exact all_bools
 have o3:okAt ws 3=true:=(a8q hz3).trans g3
 have b4:=b3.trans b4
 have l3:3 < ws.length:=(List.getElem?_eq_some_iff.mp hz3).1
 refine a5y oneF rfl k4 (by omega) hw' (TBm H4 b4) (fun f c ct H5 s1 L=>b0h L ⟨rfl,rfl,rfl,by decide +kernel,rfl,by decide +kernel,by decide +kernel⟩ (fun u=>rfl) (fun A outer s H6 E z hr hz s2=>⟨_,b9t (a7y b0o (pv 0) a3m (a0p _)) (b6c (a4o d_figs g_figs hr rfl (a0e (pv 0) (a0e (a2v rfl hMF (v:=.int 9) ⟨_,rfl⟩) a0l)))),fun Q hq=>⟨_,rfl,rfl,_,rfl,?lam5⟩⟩)) (fun z4 H5 hz4 g4 b5 k5=>?_) (fun hno d H5 s2 nt=>qX 4 (by unfold a1y;rw [o0,o1,o2,o3,a8r (k:=4) (fun z=>rfl) hno];rfl) d H5 (b4.trans (.of s2)) nt)
 case lam5 =>
  rw [sdec]
  unfold oneF at hq
  by_cases e:z = "-"
  ·rw [decide_eq_true e] at hq ⊢
   exact iteT (hq _ (Same.refl _))
  ·rw [decide_eq_false e,Bool.false_or] at hq
   rw [decide_eq_false e]
   exact iteF ⟨_,rfl,a9n (scB H6 (b4.trans (.of (s1.trans s2)))) hz hq⟩
 have o4:okAt ws 4=true:=(a8q hz4).trans g4
 have b5:=b4.trans b5
 have l4:4 < ws.length:=(List.getElem?_eq_some_iff.mp hz4).1
 refine⟨_,rfl,x,dx,_,rfl,k5.1,rfl,x,dx,r,wl,5,ws,rfl,k5,fun e5=>?_,fun ne d H' s nt=>qX 5 (by unfold a1y;rw [o0,o1,o2,o3,o4];exact if_neg (fun e:ws.length=5=>ne e.symm)) d H' (b5.trans (.of s)) nt⟩
 have qq:=q (by unfold a1y;rw [o0,o1,o2,o3,o4];exact if_pos e5.symm)
 have eR:rowD ws=.tuple [.int (num z0),.int (num z1),.bool (decide (z2 = "yes")),a4i z3,a4t z4]:=by
  unfold rowD trv
  rw [b0k hz0,b0k (k:=1) hz1,b0k (k:=2) hz2,b0k (k:=3) hz3,b0k (k:=4) hz4]
 rw [eR] at qq
 refine⟨_,rfl,rfl,_,rfl,?_⟩
 rw [sdec]
 by_cases e:z3 = "-"
 ·refine c1s e ⟨by rw [sizeLine_eq];exact zero_le _,fun p hp=>?_⟩
  refine b9o (d6:=a4i z3) ?_ g4 (fun v H7 s7 a7=>qq v H7 (b5.trans (.of ((a0o hp _).trans s7))) a7)
  rw [show a4i z3=.tuple [] from if_pos e]
  exact a2h (SqT.of a0c) (by unfold a0b;rfl)
 refine c1t e ?_
 have g3':∀ y ∈ Txt.split z3 ",",figs 9 y=true:=fun y hy=>by
  unfold allF at g3
  rw [decide_eq_false e,Bool.false_or,all_map] at g3
  exact all_eq_true.mp g3 y hy
 have lz3:z3.length <= 1000000:=hw' z3 (mem_of_getElem? hz3)
 have sl:=PyProof.Rows.split_le z3 ","
 refine⟨_,rfl,rfl,z3,_,rfl,rfl,by decide,lz3,fun p hp=>⟨p,rfl,⟨_,SqL.of a0c⟩,fun D0 hD0=>a9z (b4k (xs:=(Txt.split z3 ",").map V.str) (fun i σ2 H6=>∃ u,σ2=[u]/\Same H5 H6/\H6 p=some (.lst ((Txt.split z3 ",").map V.str))/\H6 D0=some (.lst ((((Txt.split z3 ",").take i).map num).map V.int))) ⟨none,rfl,(a0o hp _).trans (a0o hD0 _),by rw [a0d (a0v a0c hD0),a0c],a0c⟩ (fun i σ2 H6 _ h=>by obtain⟨_,_,_,h,_⟩:=h;exact SqL.of h) ?_ ?_)⟩⟩
 ·rintro i y σ2 H6 hy ⟨u,rfl,s6,hp6,hD6⟩
  rw [getElem?_map] at hy
  obtain⟨yt,hyt,rfl⟩:=map_eq_some_iff.mp hy
  dsimp only [a4v,tYes]
  rw [if_pos rfl]
  have ym:=g3' yt (mem_of_getElem? hyt)
  have il:i < (Txt.split z3 ",").length:=(List.getElem?_eq_some_iff.mp hyt).1
  refine⟨_,rfl,yt,num yt,rfl,(a4b ym (by decide)).1,by have:=(a4b ym (by decide)).2;omega,_,hD6,?_,_,rfl,?_,?_,?_⟩
  ·rw [length_map,length_map,length_take,sizeLine_eq];omega
  ·exact fun c o h=>by rw [a0d (fun zz=>by rw [zz] at h;have:=(a0o hp (.lst ((Txt.split z3 ",").map V.str))) _ _ h;rw [hD0] at this;cases this)];exact s6 _ _ h
  ·rw [a0d (fun zz=>(Ne.symm (a0v a0c hD0)) zz.symm)];exact hp6
  ·rw [a0c,List.take_add_one,hyt,toList_some,map_append,map_append];rfl
 ·rintro σ2 H6 ⟨u,rfl,s6,hp6,hD6⟩
  rw [length_map,List.take_length] at hD6
  refine⟨D0,_,rfl,.inl ⟨SqL.of hD6,fun l hl=>?_⟩⟩
  refine b9o (d6:=a4i z3) ?_ g4 (fun v H7 s7 a7=>qq v H7 (b5.trans (.of (s6.trans ((a0o hl _).trans s7)))) a7)
  rw [show a4i z3=.tuple ((Txt.split z3 ",").map fun z=>.int (num z)) from if_neg e]
  refine a2h (SqT.of a0c) ?_
  rw [show((Txt.split z3 ",").map fun z=>PyData.int (num z))=((Txt.split z3 ",").map num).map .int by rw [List.map_map];rfl]
  exact a0b.ints _
end
theorem c8o{X:Cx}{K':W.Frag}{e:Expr}(t:W.Frag->TG)(h:PG X e (t X.K))(hk:X.K=K'):PG X e (t K'):=hk ▸ h
theorem c5k{K:W.Frag}{a:Addr}{xs:List V}{σ:St}{H:Hp}{go:V->St->Hp->(St->Hp->Prop)->Prop}{done:St->Hp->Prop}(Pv:Nat->St->Hp->Prop)(h0:Pv 0 σ H)(hl:∀ i σ H,Pv i σ H->SqL K H a xs)
  (hs:∀ i x σ H T,xs[i]? = some x->Pv i σ H->H T=none->go (.ref T) σ (upd H T (.tup [.int i,x])) (Pv (i + 1))) (hd:∀ σ H,Pv xs.length σ H->done σ H):c0i (Ite K a) σ H go done:=by
 refine⟨fun i m σ H=>m=xs.length - i/\i <= xs.length/\Pv i σ H,⟨xs.length,by simp,zero_le _,h0⟩,?_⟩
 rintro i m σ H ⟨rfl,hi,p⟩
 have q:=hl i σ H p
 by_cases hlt:i < xs.length
 ·refine .inr ⟨⟨xs,xs[i],q,by simp [hlt]⟩,Pv (i + 1),fun σ' H' p'=>⟨xs.length - (i + 1),by omega,rfl,hlt,p'⟩,fun x H' y=>?_⟩
  obtain⟨T,x',rfl,hT,rfl,y⟩:=y
  exact hs i x' σ H T (y xs q) p hT
 ·have e:i=xs.length:=by omega
  subst e
  exact .inl ⟨⟨xs,q,le_refl _⟩,hd σ H p⟩
noncomputable def wordsOf(t:Str):List Str:=Txt.split t " "
noncomputable def fbA:Nat->List Str->Option (Nat × Nat)
 | _,[]=>none
 | i,t :: r=>match a1y (wordsOf t) with
  | some k=>some (i,k)
  | none=>fbA (i + 1) r
theorem b7u{i:Nat}{t:Str}{r:List Str}(h:a1y (wordsOf t)=none):fbA i (t :: r)=fbA (i + 1) r:=by rw [fbA,h]
theorem b3s{i k:Nat}{t:Str}{r:List Str}(h:a1y (wordsOf t)=some k):fbA i (t :: r)=some (i,k):=by rw [fbA,h]
noncomputable def papD(ts:List Str):PyData:=.tuple (ts.map fun t=>rowD (wordsOf t))
def b1z(K:W.Frag)(NT:Addr):Sp:=fun vs H Q E=>∃ (tx:Addr) (ts:List Str) (sa:Addr) (ns:List Int),vs=[.ref tx]/\H tx=some (.lst (ts.map V.str))/\L2.Scr K H sa (ns.map V.int)/\ts.length <= 1000/\(∀ t ∈ ts,t.length <= 100000) /\
 (fbA 0 ts=none->∀ v H',Same H H'->AtD K H' (fun _=>False) (papD ts) v->Q v H')/\(∀ r k,fbA 0 ts=some (r,k)->∀ d H',Same H H'->NTd H' d r k->E (.ref NT) (some d) H')
section
variable{P:Program}{w:World}{K:W.Frag}{mg:Str->Option Value}{base:Heap}{n:Nat}{C NT:Addr}
abbrev a5b:Stmt:=top 13
theorem b5f:FnScope ["texts"] ["texts"] (a0g a5b):=⟨rfl,rfl,rfl,by decide +kernel,rfl,by decide +kernel,by decide +kernel⟩
theorem b5g{f f1 f2:Addr}{fd fd1 fd2:FuncData} (F:Fun K "read_paper" "read_paper" a5b f fd) (B:Bl mg) (T:TxtF K mg C) (M:Mk K C f1) (b_winit:Binds K fd1 ["self","row","text"] []) (g_winit:FnOk P w K mg base CX0 n f1 fd1 ["self","row","text"] (b3r C))
  (d_row:Def K mg "read_row" a6i ["words"] f2 fd2) (g_row:FnOk P w K mg base (CX2 P w) (n + 1) f2 fd2 ["words"] (c1u K C NT)):FnOk P w K mg base (CX2 P w) (n + 2) f fd ["texts"] (b1z K NT):=by
 refine F.okX2 b5f (fun vs H Q E h=>?_) (fun cdv A outer s H vs Q E hr h=>?_)
 ·obtain⟨tx,ts,sa,ns,rfl,_⟩:=h
  rfl
 obtain⟨tx,ts,sa,ns,rfl,htx,sc,tl,ht,qd,qX⟩:=h
 refine⟨_,a1i (a3n (a3a a4k rfl B.tuple_ a4n (a0e (c8g (own:=["number","text"]) (cap:=[]) rfl (by rfl) (by decide +kernel) (d2m rfl B.enumerate_ (pv 0))
   (fun _ _ _=>c8o (K':=K) (fun K=>gTup K 2 (b9u (a4v 0) (b9u (a4v 1) gNil))) (d4p rfl (b6d (a7v (i:=0) (show(["number","text"]:List Str).Nodup by decide +kernel) rfl (Or.inl rfl)) (b6d (a7v (i:=1) (show(["number","text"]:List Str).Nodup by decide +kernel) rfl (Or.inl rfl)) d0g))) rfl)
   (fun _ _ _=>b0q) (fun _ _ _ hI=>b8o g_row hr rfl d_row.gl d_row.fn.kp d_row.bd .nil (c5f a4a hI) (a0e (d0l M g_winit hr rfl T.mgC b_winit .nil b2k (a0e (pv 0) (a0e (pv 1) a0l))) a0l))) a0l))),?_⟩
 refine⟨_,rfl,tx,_,rfl,SqL.of htx,fun D0 hD0=>a9z (c5k (xs:=ts.map V.str) (fun i σ2 H2=>∃ u0 u1 vs,σ2=[u0,u1]/\Same H H2/\H2 D0=some (.lst vs)/\a0b K H2 (fun _=>False) ((ts.take i).map fun t=>rowD (wordsOf t)) vs/\fbA 0 ts=fbA i (ts.drop i)) ⟨none,none,[],rfl,a0o hD0 _,a0c,.nil,rfl⟩ (fun i σ2 H2 h=>by obtain⟨_,_,_,_,s,_⟩:=h;exact SqL.of (s _ _ htx)) ?_ ?_)⟩
 ·rintro i y σ2 H2 T0 hy ⟨u0,u1,vs,rfl,s2,hD2,av,hfb⟩ hT0
  rw [getElem?_map] at hy
  obtain⟨t,hti,rfl⟩:=map_eq_some_iff.mp hy
  have tl1:=ht t (mem_of_getElem? hti)
  have il:i < ts.length:=(List.getElem?_eq_some_iff.mp hti).1
  have ed:ts.drop i=t :: ts.drop (i + 1):=by rw [drop_eq_getElem_cons il,(List.getElem?_eq_some_iff.mp hti).2]
  rw [ed] at hfb
  refine⟨T0,_,rfl,SqT.of a0c,rfl,_,_,rfl,_,_,rfl,rfl,?_⟩
  dsimp only [tYes]
  rw [if_pos rfl]
  refine⟨_,rfl,_,rfl,fun x dx hx hdx ne=>⟨x,dx,(i:Int),t,rfl,a0c,by omega,fun wl H3 hwl b3 k3=>⟨rfl,?_⟩⟩⟩
  have sT:=a0o hT0 (.tup [.int (i:Int),.str t])
  have s23:Same H2 H3:=fun b o e=>b3 b o (fun z=>by rw [z] at e;rw [sT _ _ e] at hx;cases hx) (by
   have e1:=sT _ _ e
   rw [a0d (fun z=>by rw [z] at e1;rw [e1] at hx;cases hx),a0d (fun z=>by rw [z] at e1;rw [e1] at hdx;cases hdx)];exact e1)
  have hx2:H2 x=none:=by
   cases e:H2 x with
   | none=>rfl
   | some o=>rw [sT _ _ e] at hx;cases hx
  refine⟨x,dx,(i:Int),wl,Txt.split t " ",sa,ns,rfl,k3,fun z hz=>le_trans (PyProof.Rows.part_short hz) tl1,sc.keep (S:=Any) (Same.keep (s2.trans s23)),fun tb v H4 b4 a4=>?_,fun k tb d H4 b4 nt=>?_⟩
  ·have s24:Same H2 H4:=fun b o e=>b4 b o (fun z=>by rw [z,hx2] at e;cases e) (s23 _ _ e)
   have hD4:=s24 _ _ hD2
   have lv:=av.length
   rw [length_map,length_take] at lv
   refine⟨vs,hD4,by rw [lv,sizeLine_eq];omega,_,_,_,rfl,fun b o e=>?_,a0c,?_,by rw [hfb,b7u tb]⟩
   ·rw [a0d (fun z=>by rw [z,hD0] at e;cases e)];exact s24 _ _ (s2 _ _ e)
   ·have kp1:Keep (fun _=>False) H4 (upd H4 D0 (.lst (vs ++ [v]))):=⟨fun b ys e=>by rw [a0d (fun z=>by rw [z,hD4] at e;cases e)];exact e,fun b o u e=>by rw [a0d (fun z=>by rw [z,hD4] at e;cases e)];exact e,fun _ _ z=>z.elim⟩
    rw [List.take_add_one,hti,toList_some,map_append]
    exact(a0b.mono ((Same.keep (S:=fun _=>False) s24).trans kp1) _ _ av).snoc (AtD.mono kp1 _ _ a4)
  ·have s24:Same H2 H4:=fun b o e=>b4 b o (fun z=>by rw [z,hx2] at e;cases e) (s23 _ _ e)
   exact qX i k (by rw [hfb,b3s tb]) d H4 (s2.trans s24) nt
 ·rintro σ2 H2 ⟨u0,u1,vs,rfl,s2,hD2,av,hfb⟩
  rw [length_map,List.take_length] at av
  rw [length_map,List.drop_length] at hfb
  refine⟨D0,_,rfl,.inl ⟨SqL.of hD2,fun l hl=>?_⟩⟩
  have sl:=a0o hl (.tup vs)
  exact qd hfb _ _ (s2.trans sl) (a2h (SqT.of a0c) (a0b.mono sl.keep _ _ av))
end
structure Ex85(K:W.Frag)(mg:Str->Option Value)(NT:Addr):Prop where
 ex:∃ (WE d1 d2 d3:Addr) (bN bW:List Value),mg "WorldError" = some (.ref WE)/\mg "NoChange" = some (.ref d1)/\mg "NoLine" = some (.ref d2)/\mg "TooMany" = some (.ref d3)/\mg "ValueError" = none /\
  XCls K NT bN/\XCls K WE bW/\(Value.ref NT :: bN).contains (.ref WE)=true/\XOk2 K NT/\W.kitOne K (.ref NT) (.type "ValueError")=some true/\W.kitAny K (.ref NT) [.ref d1,.ref d2,.ref d3]=some false/\W.hasDictIn K NT=true
theorem bt_VE:bootBuiltins "ValueError" = some (.type "ValueError"):=by decide +kernel
theorem c5l{X:Cx}{K':W.Frag}{a:Expr}{ta:TE}(hk:X.K=K')(ha:PE X a ta)(he:∀ whole,isTrue a X.env whole=(do let v ← whole;standAt a.pos;holding [v] (truthy v))):PT X a (fun σ H Q=>ta σ H fun x H'=>∃ k,TruV K' x H' k/\Q k H'):=hk ▸ b6f ha he
theorem c5m{X:Cx}{K':W.Frag}{e:Expr}{f:Str}{pos:Pos}{ta:TE}(hk:X.K=K')(he:PE X e ta)(hb:attributeBase e f X.env (eval e X.env)=eval e X.env):PE X (.Attribute e f pos) (tXF K' ta f):=hk ▸ pe_xf he hb
noncomputable def b1f(r k:Nat):PyData:=.tuple [.str "none",.tuple [.int (r:Int),.int (k:Int)]]
noncomputable def a6j(ts:List Str):PyData:=match fbA 0 ts with
 | some (r,k)=>b1f r k
 | none=>.tuple [.str "paper",papD ts]
def b7v:DSp:=fun ls Q=>∃ (ts:List Str),ls=[.d (.list (ts.map .str))]/\ts.length <= 1000/\(∀ t ∈ ts,t.length <= 100000)/\Q (.d (a6j ts)) [none]
section
variable{P:Program}{w:World}{K:W.Frag}{mg:Str->Option Value}{base:Heap}{n:Nat}{NT:Addr}
abbrev a6k:Stmt:=top 26
theorem a3k:FnScope ["_law_texts","_law_told_here","e","_law_more"] ["_law_texts"] (a0g a6k):=⟨rfl,rfl,rfl,by decide +kernel,rfl,by decide +kernel,by decide +kernel⟩
theorem d4c{f f1:Addr}{fd fd1:FuncData} (F:Fun K "_law_told" "_law_told" a6k f fd) (B:Bl mg) (xn:ExN K mg NT) (xx:Ex85 K mg NT) (d_paper:Def K mg "read_paper" a5b ["texts"] f1 fd1) (g_paper:FnOk P w K mg base (CX2 P w) n f1 fd1 ["texts"] (b1z K NT)):FnOk P w K mg base CX0 (n + 1) f fd ["_law_texts"] (spD K b7v):=by
 obtain⟨WE,d1,d2,d3,bN,bW,mW,m1,m2,m3,mV,cN,cW,sub,xo,i2,i3,hh⟩:=xx.ex
 refine F.ok a3k (fun vs H Q E h=>?_) (fun cdv A outer s H vs Q E hr h=>?_)
 ·obtain⟨c,O,ls,Qd,h0,hP,hM,hA,hL,R,⟨ts,rfl,_⟩,fin⟩:=h
  have:=R.len
  simpa using this
 obtain⟨c,O,ls,Qd,h0,hP,hM,hA,hL,R,⟨ts,rfl,tl,ht,qd⟩,fin⟩:=h
 have hl2:vs.length=1:=by simpa using R.len
 obtain⟨v0,rfl⟩:∃ v0,vs=[v0]:=by
  rcases vs with _ | ⟨a,_ | ⟨_,_⟩⟩<;>simp at hl2
  exact⟨a,rfl⟩
 obtain⟨w0,e0,a0⟩:=R.dat 0 _ rfl
 obtain rfl:v0=w0:=Option.some.inj (Option.some.inj e0)
 obtain⟨tx,xs,rfl,_,htx,axs⟩:=a3r a0
 have ex:=b1w axs
 subst ex
 refine⟨_,a0t (a2g (i:=1) a3k.nd rfl (Or.inl rfl) b2b)
  (a0t (c8h (i:=1) (j:=2) (fun E=>c8i (fun _ _ z=>z) a3m (c5c (fun _ _ z=>z) g_paper hr rfl d_paper.gl d_paper.fn.kp d_paper.bd (a0e (pv 0) a0l))) rfl (Or.inl rfl)
   rfl rfl rfl a3k.nd rfl rfl (Or.inl rfl) rfl mW cW (fun a =>
    a0t (a2g (i:=1) a3k.nd rfl (Or.inl rfl) (a5u (a0e a3m (a0e b2b a0l))))
    (a0t (a2g (i:=3) a3k.nd rfl (Or.inl rfl) (a2k (r:=rIsZ K) b1y rfl B.isinstance_ a3g (a0e (pv 2) (a0e (a5u (a0e (a2v (v:=.ref d1) rfl m1 rfl) (a0e (a2v (v:=.ref d2) rfl m2 rfl) (a0e (a2v (v:=.ref d3) rfl m3 rfl) a0l)))) a0l))))
    (a1i (a8w (PW.pt (b6b (L2.a7u (a2k (r:=rIsZ K) b1y rfl B.isinstance_ a3g (a0e (pv 2) (a0e (a2v (v:=.ref NT) rfl xn.mN rfl) a0l))))
      (b6b (L2.a7u (a2k (r:=rIsZ K) b1y rfl B.isinstance_ a3g (a0e (pv 2) (a0e (b5p rfl mV bt_VE) a0l))))
      (b8h (b2c (c5l (K':=K) rfl (pv 3) (fun _=>rfl)))))))
     (a1i (a2g (i:=1) a3k.nd rfl (Or.inl rfl) (a5u (a0e a3m (a0e (a5u (a0e (c5m (K':=K) rfl (pv 2) rfl) (a0e (c5m (K':=K) rfl (pv 2) rfl) a0l))) a0l))))) a5f)))))
  (a1i (a3n (pv 1)))),?_⟩
 refine⟨_,rfl,tx,ts,c.sa,c.ns,rfl,htx,R.sc,tl,ht,fun hb v H1 s1 a1=>?_,fun r k hb d H1 s1 nt=>?_⟩
 ·refine⟨by show(2:Nat) <= sizeLine;rw [sizeLine_eq];omega,fun p hp=>⟨_,rfl,?_⟩⟩
  have sp:=a0o hp (.tup [V.str "paper",v])
  have et:a6j ts=.tuple [.str "paper",papD ts]:=by unfold a6j;rw [hb]
  rw [et] at qd
  refine fin (.d _) O _ _ _ _ qd ⟨R.grow (s1.trans sp),?_⟩
  exact AtD.more (fun _ z=>z.elim) _ _ (a2h (SqT.of a0c) (.cons (a2n _) (.cons (AtD.mono sp.keep _ _ a1) .nil)))
 ·refine⟨_,bN,rfl,cN,sub,fun a ha=>?_⟩
  have ea:=a0o ha (.ext (exd a NT (some d)))
  refine⟨by show(2:Nat) <= sizeLine;rw [sizeLine_eq];omega,fun p1 hp1=>?_⟩
  have e1:=a0o hp1 (.tup [V.str "other",.non])
  refine⟨.ref a,rfl,by show(3:Nat) <= sizeLine;rw [sizeLine_eq];omega,fun p' hp'=>?_⟩
  have ep:=a0o hp' (.tup [V.ref d1,V.ref d2,V.ref d3])
  have hxa:=ep _ _ (e1 _ _ a0c)
  have hxd:=ep _ _ (e1 _ _ (ea _ _ nt))
  refine⟨a,_,_,false,hxa,xo,?_,.inr (.inr ⟨p',[d1,d2,d3],rfl,a0c,i3⟩)⟩
  refine⟨.ref a,rfl,a,_,_,true,hxa,xo,⟨true,rfl,iteT ?_⟩,.inl ⟨_,rfl,if_pos (by simp)⟩⟩
  refine⟨.ref a,rfl,a,_,_,true,hxa,xo,⟨true,rfl,iteT ?_⟩,.inr (.inl ⟨"ValueError",rfl,i2⟩)⟩
  refine⟨.bl false,rfl,false,rfl,iteT ?_⟩
  refine⟨.ref a,rfl,a,_,d,_,_,rfl,hxa,hxd,xo.fa,hh,xn.n1,rfl,.ref a,rfl,a,_,d,_,_,rfl,hxa,hxd,xo.fa,hh,xn.n2,rfl,by show(2:Nat) <= sizeLine;rw [sizeLine_eq];omega,fun p2 hp2=>?_⟩
  have e2:=a0o hp2 (.tup [V.int (r:Int),V.int (k:Int)])
  refine⟨by show(2:Nat) <= sizeLine;rw [sizeLine_eq];omega,fun p3 hp3=>⟨_,rfl,?_⟩⟩
  have e3:=a0o hp3 (.tup [V.str "none",.ref p2])
  have et:a6j ts=b1f r k:=by unfold a6j;rw [hb]
  rw [et] at qd
  refine fin (.d _) O _ _ _ _ qd ⟨R.grow (((((s1.trans ea).trans e1).trans ep).trans e2).trans e3),?_⟩
  exact a2h (SqT.of a0c) (.cons (a2n _) (.cons (a2h (SqT.of (e3 _ _ a0c)) (.cons (a2d _) (.cons (a2d _) .nil))) .nil))
end
theorem a5z{m a:Nat}{u:PyData}(h:(rngD 0 m)[a]? = some u):a < m/\u=.int (a:Int):=by
 have ha:a < m:=by
  have:=(List.getElem?_eq_some_iff.mp h).1
  simpa [rngD] using this
 refine⟨ha,?_⟩
 simp only [rngD,getElem?_map,List.getElem?_range ha,map_some] at h
 have:=(Option.some.inj h).symm
 rw [this];congr 1;omega
theorem a5o{m:Nat}:(rngD 0 m).length=m:=by simp [rngD]
def c1v:DSp:=fun ls Q=>∃ x:Str,ls=[.d (.str x)]/\x.length <= 1000000/\Q (.d (.bool (figs 9 x))) [none]
noncomputable def sgF:PyData->Option PyData
 | .str z=>if Txt.contains FIG z=true then none else some (.str z)
 | _=>none
theorem c9x{z:Str}(h:Txt.contains FIG z=true):sgF (.str z)=none:=if_pos h
theorem c9y{z:Str}(h:Txt.contains FIG z=false):sgF (.str z)=some (.str z):=if_neg (by rw [h];decide)
theorem b9p:∀ l:List Nat,((l.map fun c=>PyData.str ⟨#[c]⟩).filterMap sgF).isEmpty=l.all a4m
 | []=>rfl
 | c :: r=>by
  rw [map_cons,filterMap_cons,all_cons,← b9p r]
  unfold a4m
  cases e:Txt.contains FIG ⟨#[c]⟩ with
  | true=>rw [c9x e];rfl
  | false=>rw [c9y e];rfl
section
variable{P:Program}{w:World}{K:W.Frag}{mg:Str->Option Value}{base:Heap}{n:Nat}
abbrev a4c:Stmt:=top 22
theorem b2z:FnScope ["_law_word"] ["_law_word"] (a0g a4c):=⟨rfl,rfl,rfl,by decide +kernel,rfl,by decide +kernel,by decide +kernel⟩
theorem d8t{f:Addr}{fd:FuncData} (F:Fun K "_law_is_count" "_law_is_count" a4c f fd) (B:Bl mg):FnOk P w K mg base CX0 (n + 1) f fd ["_law_word"] (spD K c1v):=by
 refine F.dok b2z (fun cdv A outer s H E hr ls Qd h=>?_) (fun ls Qd hq8=>by obtain⟨_,e,_⟩:=hq8;rw [e];rfl)
 obtain⟨x,rfl,hl,q⟩:=h
 refine⟨rfl,?_⟩
 refine⟨_,(a0j (a2f (DW.toT (b5s (a7c (b6q b5m (a7a _) b5m (a7a _) a0m (a1u a1h a3h rfl B.len_ a2i (a0a (dv 0) a0f)) a0m)) (b2o (a1g ((d8d hr.units).or (c3f hr.units)) d8f (a1m (a5n ["_law_sign"] [] rfl (by rfl) (by decide +kernel) (c4n (dv 0)) (fun _ _ _=>(a2o (i:=0) (show(["_law_sign"]:List Str).Nodup by decide +kernel) rfl (Or.inl rfl))) (fun _ _ _=>(b9c (a1g d3f c4r (dv 0) a0i (by rfl)))) (fun _ _ _=>(dv 0)))) (a1m (a2x a0f)) (a0p _)))))
  (a0q (a1s b0u))
  a1b)
  (a0q (a1s (c9m (a2w (a2c hr.units) a2b (dv 0) a0i (a0p _)) (a7d (a2w (a8k hr.units) a8j (a1d a0w a1e (dv 0) a0m (fun _ _=>rfl)) a0i (a0p _))))))),?_⟩
 walk_at "dd"
 refine a0k (b7s hl) ?_
 walk_at "dd"
 refine b0x (fun c1=>?_) (fun c1=>?_)
 ·walk_at "dd"
  refine b7a (fun c2=>?_) (fun c2=>?_)
  ·have ef:figs 9 x=false:=by unfold figs;rw [decide_eq_false c2];simp
   rw [← ef]
   exact q
  refine⟨by rw [length_map,a8n];omega,?_⟩
  refine L2.a7g (fun ρ=>∃ v0:Option L,ρ=[v0]) sgF ⟨_,rfl⟩ ?_ ?_
  ·rintro y ρ N hy ⟨v0,rfl⟩ hN
   obtain⟨c,hc,rfl⟩:=mem_map.mp hy
   walk_at "dd"
   refine a0k (show fTin true (.str ⟨#[c]⟩) (.str FIG)=some (.bool (!Txt.contains FIG ⟨#[c]⟩)) from rfl) ?_
   walk_at "dd"
   cases hc:Txt.contains FIG ⟨#[c]⟩ with
   | true =>
    rw [c9x hc] at hN
    exact iteF (hN _ ⟨_,rfl⟩)
   | false =>
    rw [c9y hc] at hN
    exact iteT (hN _ ⟨_,rfl⟩)
  rintro ρ _
  refine a0k d8e ?_
  walk_at "dd"
  rw [show signs x=x.cps.toList.map fun c=>PyData.str ⟨#[c]⟩ from rfl,b9p]
  cases hx:x.cps.toList.all a4m with
  | false =>
   walk_at "dd"
   have ef:figs 9 x=false:=by unfold figs;rw [hx];simp
   rw [← ef]
   exact q
  | true =>
   walk_at "dd"
   obtain⟨c,r,hc⟩:∃ c r,x.cps.toList=c :: r:=by
    cases e:x.cps.toList with
    | nil=>have:=a8n x;rw [e] at this;simp at this;omega
    | cons c r=>exact⟨c,r,rfl⟩
   have ei:fIx (.str x) (.int 0)=some (.str ⟨#[c]⟩):=by
    show(if x.length <= sizeLine then(atI x.cps.toList 0).map _ else none)=_
    rw [if_pos (by rw [sizeLine_eq];omega),hc,c0x];rfl
   have ef:figs 9 x=(!decide ((⟨#[c]⟩:Str) = "0") || decide (x = "0")):=by unfold figs b7r;rw [hx,hc,decide_eq_true c1,decide_eq_true c2];rfl
   rw [ef] at q
   by_cases e:x = "0"
   ·rw [decide_eq_true e,Bool.or_true] at q
    rw [decide_eq_true e]
    exact iteT q
   ·rw [decide_eq_false e,Bool.or_false] at q
    rw [decide_eq_false e]
    refine iteF (a0k ei ?_)
    walk_at "dd"
    exact q
 ·walk_at "dd"
  have ef:figs 9 x=false:=by unfold figs;rw [decide_eq_false c1];simp
  rw [← ef]
  exact q
end
noncomputable def optN:Option Nat->PyData
 | none=>.none
 | some k=>.int (k:Int)
def c1w:DSp:=fun ls Q=>∃ t:Str,ls=[.d (.str t)]/\t.length <= 100000/\Q (.d (optN (a1y (wordsOf t)))) [none]
theorem b2a{ws:List Str}{k:Nat}(hk:k < 5)(h:∀ j,j < k->okAt ws j=true)(hn:okAt ws k=false):a1y ws=some k:=by
 unfold a1y
 obtain rfl | rfl | rfl | rfl | rfl:k=0 ∨ k=1 ∨ k=2 ∨ k=3 ∨ k=4:=by omega
 ·rw [hn];rfl
 ·rw [hn,h 0 (by omega)];rfl
 ·rw [hn,h 0 (by omega),h 1 (by omega)];rfl
 ·rw [hn,h 0 (by omega),h 1 (by omega),h 2 (by omega)];rfl
 ·rw [hn,h 0 (by omega),h 1 (by omega),h 2 (by omega),h 3 (by omega)];rfl
theorem b9q{ws:List Str}(h:∀ j,j < 5->okAt ws j=true):a1y ws=(if ws.length=5 then none else some 5):=by
 unfold a1y
 rw [h 0 (by omega),h 1 (by omega),h 2 (by omega),h 3 (by omega),h 4 (by omega)];rfl
theorem ok_lt{ws:List Str}{k:Nat}(h:okAt ws k=true):k < ws.length:=by
 unfold okAt at h
 cases e:ws[k]? with
 | none=>rw [e] at h;cases h
 | some z=>exact(List.getElem?_eq_some_iff.mp e).1
theorem tr_eq(z:Str):isTr z=(decide ("yes" = z) || decide ("no" = z)):=by
 rw [show decide ("yes" = z)=decide (z = "yes") from decide_eq_decide.mpr eq_comm,show decide ("no" = z)=decide (z = "no") from decide_eq_decide.mpr eq_comm]
 unfold isTr KvT
 rw [lookup_cons,lookup_cons]
 by_cases e:z = "yes"
 ·rw [e];rfl
 ·rw [beq_eq_false_iff_ne.mpr e,decide_eq_false e]
  by_cases e2:z = "no"
  ·rw [e2];rfl
  ·rw [beq_eq_false_iff_ne.mpr e2,decide_eq_false e2];rfl
noncomputable def icF:PyData->Option PyData
 | .str z=>if figs 9 z=true then none else some (.str z)
 | _=>none
theorem c9z{z:Str}(h:figs 9 z=true):icF (.str z)=none:=if_pos h
theorem d0a{z:Str}(h:figs 9 z=false):icF (.str z)=some (.str z):=if_neg (by rw [h];decide)
theorem b9r:∀ l:List Str,((l.map PyData.str).filterMap icF).isEmpty=(l.map (figs 9)).all id
 | []=>rfl
 | c :: r=>by
  rw [map_cons,filterMap_cons,map_cons,all_cons,← b9r r]
  cases e:figs 9 c with
  | true=>rw [c9z e];rfl
  | false=>rw [d0a e];rfl
section
variable{P:Program}{w:World}{K:W.Frag}{mg:Str->Option Value}{base:Heap}{n:Nat}
abbrev a7n:Stmt:=top 23
theorem a3e:FnScope ["_law_text_here","_law_words","_law_k","_law_fine"] ["_law_text_here"] (a0g a7n):=⟨rfl,rfl,rfl,by decide +kernel,rfl,by decide +kernel,by decide +kernel⟩
theorem d8u{f f1:Addr}{fd fd1:FuncData} (F:Fun K "_law_bad" "_law_bad" a7n f fd) (B:Bl mg) (a4d:Def K mg "_law_is_count" a4c ["_law_word"] f1 fd1) (a8s:FnOk P w K mg base CX0 n f1 fd1 ["_law_word"] (spD K c1v)):FnOk P w K mg base CX0 (n + 1) f fd ["_law_text_here"] (spD K c1w):=by
 refine F.dok a3e (fun cdv A outer s H E hr ls Qd h=>?_) (fun ls Qd hq8=>by obtain⟨_,e,_⟩:=hq8;rw [e];rfl)
 obtain⟨t,rfl,hl,q⟩:=h
 refine⟨rfl,?_⟩
 refine⟨_,(a0j (a2a (i:=1) a3e.nd rfl (Or.inl rfl) (a1m (a7i (dv 0) (a0a a0i a0f))))
  (a0j (b2r PassesOwn.never rfl (a3s rfl B.range_ a0m) (a2o (i:=2) a3e.nd rfl (Or.inl rfl))
  (a0j (a2f (a1g c9e (a7a _) (dv 2) (a1u a1h a3h rfl B.len_ a2i (a0a (dv 1) a0f)) (a0p _))
  (a0q (a1s (dv 2)))
  a1b)
  (a0j (a2a (i:=3) a3e.nd rfl (Or.inl rfl) (a0n [false] a4d a8s hr rfl (a0a (a1d a0w a1e (dv 1) (dv 2) (fun _ _=>rfl)) a0f)))
  (a0j (a2f (a1g (a2c hr.units) a2b (dv 2) a0m (a0p _))
  (a0q (a2a (i:=3) a3e.nd rfl (Or.inl rfl) (a2w c6k ad_in (a1d a0w a1e (dv 1) (dv 2) (fun _ _=>rfl)) (a8i (a0a a0i (a0a a0i a0f))) (by rfl))))
  a1b)
  (a0j (a2f (DW.toT (b6r (a1g b5n (a7a _) (dv 2) a0m (a0p _)) (b3k (a1g (a2c hr.units) a2b (a1d a0w a1e (dv 1) (dv 2) (fun _ _=>rfl)) a0i (a0p _)))))
  (a0q (a2a (i:=3) a3e.nd rfl (Or.inl rfl) b0u))
  a1b)
  (a0j (a2f (DW.toT (b6r (a1g (a2c hr.units) a2b (dv 2) a0m (a0p _)) (b3k (a1g (a8k hr.units) a8j (a1d a0w a1e (dv 1) (dv 2) (fun _ _=>rfl)) a0i (a0p _)))))
  (a0q (a2a (i:=3) a3e.nd rfl (Or.inl rfl) (a2w ((d8l hr.units).or (c3e hr.units)) d8n (a1m (a5n ["_law_one"] [] rfl (by rfl) (by decide +kernel) (b6y (a1m (a7i (a1d a0w a1e (dv 1) (dv 2) (fun _ _=>rfl)) (a0a a0i a0f)))) (fun _ _ _=>(a2o (i:=0) (show(["_law_one"]:List Str).Nodup by decide +kernel) rfl (Or.inl rfl))) (fun _ _ _=>(b9c (a7c (a7b (a0n [false] a4d a8s hr rfl (a0a (dv 0) a0f)))))) (fun _ _ _=>(dv 0)))) (a1m (a2x a0f)) (a0p _))))
  a1b)
  (a0q (a2f (a7c (c6m (dv 3)))
  (a0q (a1s (dv 2)))
  a1b))))))))
  (a0q (a1s (c0n (a1g b5n (a7a _) (a1u a1h a3h rfl B.len_ a2i (a0a (dv 1) a0f)) a0m (a0p _)) a0m a6z))))),?_⟩
 walk_at "dd"
 refine⟨t,rfl,by omega," ",rfl,by decide,?_⟩
 have hw:∀ z ∈ Txt.split t " ",z.length <= 100000:=fun z hz=>le_trans (PyProof.Rows.part_short hz) hl
 have hwl:(Txt.split t " ").length <= 100002:=by have:=PyProof.Rows.split_le t " ";omega
 unfold wordsOf at q
 generalize Txt.split t " " = ws at hw hwl q ⊢
 walk_at "dd"
 refine⟨⟨by omega,by omega⟩,?_⟩
 refine a9f (fun i ρ=>∃ v2 v3:Option L,ρ=[some (.d (.str t)),some (.d (.list (ws.map .str))),v2,v3]/\∀ j,j < i->okAt ws j=true) ⟨none,none,rfl,fun j hj=>by omega⟩ ?_ ?_
 ·rintro i x ρ N hx ⟨v2,v3,rfl,hok⟩ hN
  obtain⟨hi,rfl⟩:=a5z hx
  have hi5:i < 5:=hi
  walk_at "dd"
  refine b0x (fun c=>?_) (fun c=>?_)
  ·rw [length_map] at c
   rw [b2a hi5 hok (by unfold okAt;rw [List.getElem?_eq_none (by omega)])] at q
   exact q
  rw [length_map] at c
  obtain⟨z,hz⟩:∃ z,ws[i]? = some z:=⟨_,getElem?_eq_getElem (by omega)⟩
  have hzl:=hw z (mem_of_getElem? hz)
  have hix:fIx (.list (ws.map .str)) (.int (i:Int))=some (.str z):=by rw [c9o,a2l (j:=i) (by rw [getElem?_map,hz];rfl)]
  have eo:=a8q hz
  walk_at "dd"
  refine a0k hix ?_
  walk_at "dd"
  refine⟨z,rfl,by omega,?_⟩
  walk_at "dd"
  have rest:∀ b:Bool,fine i z=b->if (!b)=true then Qd (RV.d (.int (i:Int))) [none] else N [some (.d (.str t)),some (.d (.list (ws.map .str))),some (.d (.int (i:Int))),some (.d (.bool b))]:=fun b hb=>by
   rw [hb] at eo
   cases b with
   | false =>
    rw [b2a hi5 hok eo] at q
    exact iteT q
   | true=>exact iteF (hN _ ⟨_,_,rfl,fun j hj=>(Nat.lt_succ_iff_lt_or_eq.mp hj).elim (hok j) fun e=>by rw [e];exact eo⟩)
  obtain rfl | rfl | rfl | rfl | rfl:i=0 ∨ i=1 ∨ i=2 ∨ i=3 ∨ i=4:=by omega
  ·walk_at "dk"
   exact rest _ rfl
  ·walk_at "dk"
   exact rest _ rfl
  ·walk_at "dk"
   refine a0k hix ?_
   walk_at "dk"
   exact rest _ (tr_eq z)
  ·walk_at "dk"
   refine a0k hix ?_
   walk_at "dk"
   by_cases e:z = "-"
   ·rw [decide_eq_true e]
    refine iteT ?_
    walk_at "dk"
    refine a0k hix ?_
    walk_at "dk"
    rw [decide_eq_true e]
    refine iteF ?_
    walk_at "dk"
    exact rest true (by show allF z=true;unfold allF;rw [decide_eq_true e];rfl)
   ·rw [decide_eq_false e]
    refine iteF ?_
    walk_at "dk"
    refine a0k hix ?_
    walk_at "dk"
    rw [decide_eq_false e]
    refine iteT ?_
    walk_at "dk"
    refine a0k hix ?_
    walk_at "dk"
    refine⟨z,rfl,by omega,",",rfl,by decide,?_⟩
    have sl:=PyProof.Rows.split_le z ","
    walk_at "dk"
    refine⟨by rw [length_map];omega,?_⟩
    refine L2.a7g (fun ρ=>∃ v0:Option L,ρ=[v0]) icF ⟨_,rfl⟩ ?_ ?_
    ·rintro y ρ N2 hy ⟨v0,rfl⟩ hN2
     obtain⟨c,hc,rfl⟩:=mem_map.mp hy
     walk_at "dk"
     refine⟨c,rfl,by have:=PyProof.Rows.part_short hc;omega,?_⟩
     walk_at "dk"
     cases hf:figs 9 c with
     | true =>
      rw [c9z hf] at hN2
      exact iteF (hN2 _ ⟨_,rfl⟩)
     | false =>
      rw [d0a hf] at hN2
      exact iteT (hN2 _ ⟨_,rfl⟩)
    rintro ρ _
    refine a0k d8m ?_
    rw [b9r]
    walk_at "dk"
    exact rest _ (by show allF z=_;unfold allF;rw [decide_eq_false e,Bool.false_or])
  ·walk_at "dk"
   refine a0k hix ?_
   walk_at "dk"
   by_cases e:z = "-"
   ·rw [decide_eq_true e]
    refine iteT ?_
    walk_at "dk"
    exact rest true (by show oneF z=true;unfold oneF;rw [decide_eq_true e];rfl)
   ·rw [decide_eq_false e]
    refine iteF ?_
    walk_at "dk"
    exact rest _ (by show oneF z=_;unfold oneF;rw [decide_eq_false e,Bool.false_or])
 ·rintro ρ ⟨v2,v3,rfl,hok⟩
  walk_at "dd"
  rw [b9q hok] at q
  have h5:=ok_lt (hok 4 (by decide))
  refine b0x (fun c=>?_) (fun c=>?_)
  ·rw [length_map] at c
   rw [if_neg (by omega)] at q
   exact q
  ·rw [length_map] at c
   rw [if_pos (by omega)] at q
   exact q
end
theorem c8p{ws:List Str}(h:a1y ws=none):(∀ j,j < 5->okAt ws j=true)/\ws.length=5:=by
 have st:∀ k,k < 5->(∀ j,j < k->okAt ws j=true)->okAt ws k=true:=fun k hk hj=>by
  cases e:okAt ws k with
  | true=>rfl
  | false=>rw [b2a hk hj e] at h;cases h
 have all:∀ k,k <= 5->∀ j,j < k->okAt ws j=true:=fun k=>by
  induction k with
  | zero=>exact fun _ j hj=>absurd hj (Nat.not_lt_zero _)
  | succ k ih =>
   intro hk j hj
   rcases Nat.lt_succ_iff_lt_or_eq.mp hj with h | rfl
   ·exact ih (by omega) j h
   ·exact st _ (by omega) (ih (by omega))
 have all:=all 5 (le_refl _)
 refine⟨all,?_⟩
 rw [b9q all] at h
 by_cases e:ws.length=5
 ·exact e
 ·rw [if_neg e] at h;cases h
noncomputable def inF9:PyData->Option PyData
 | .str z=>some (.int (num z))
 | _=>none
theorem c5n:∀ l:List Str,(l.map PyData.str).filterMap inF9=l.map fun z=>.int (num z)
 | []=>rfl
 | c :: r=>by rw [map_cons,filterMap_cons,c5n r];rfl
theorem b1g{x:Str}(h:figs 9 x=true):c1g [.str x]=some (.int (num x)):=by
 obtain⟨h1,h2⟩:=a4b h (by decide)
 show(if x.length <= 640 then(PySem.intText? x).map PyData.int else none)=_
 rw [if_pos (by omega),h1];rfl
def b7w:DSp:=fun ls Q=>∃ t:Str,ls=[.d (.str t)]/\t.length <= 100000/\a1y (wordsOf t)=none/\Q (.d (rowD (wordsOf t))) [none]
set_option hygiene false in
local macro_rules | `(tactic| walk_at "r5") => `(tactic| (
   refine a0k (b1g o0) ?_
   walk_at "dk"
   refine a0k (b1g o1) ?_
   walk_at "dk"
   by_cases e4:z4 = "-"
   ·rw [if_pos e4] at q
    rw [decide_eq_true e4]
    exact iteT q
   ·rw [if_neg e4] at q
    rw [decide_eq_false e4]
    refine iteF (a0k (b1g (by
     have:=o4
     unfold oneF at this
     rw [decide_eq_false e4,Bool.false_or] at this
     exact this)) q)))
section
variable{P:Program}{w:World}{K:W.Frag}{mg:Str->Option Value}{base:Heap}{n:Nat}
abbrev a7o:Stmt:=top 24
theorem a6l:FnScope ["_law_text_here","_law_words","_law_ranks"] ["_law_text_here"] (a0g a7o):=⟨rfl,rfl,rfl,by decide +kernel,rfl,by decide +kernel,by decide +kernel⟩
theorem d4d{f:Addr}{fd:FuncData} (F:Fun K "_law_row" "_law_row" a7o f fd) (B:Bl mg):FnOk P w K mg base CX0 (n + 1) f fd ["_law_text_here"] (spD K b7w):=by
 refine F.dok a6l (fun cdv A outer s H E hr ls Qd h=>?_) (fun ls Qd hq8=>by obtain⟨_,e,_⟩:=hq8;rw [e];rfl)
 obtain⟨t,rfl,hl,hb,q⟩:=h
 refine⟨rfl,?_⟩
 refine⟨_,(a0j (a2a (i:=1) a6l.nd rfl (Or.inl rfl) (a1m (a7i (dv 0) (a0a a0i a0f))))
  (a0j (a2a (i:=2) a6l.nd rfl (Or.inl rfl) (a8i a0f))
  (a0j (a2f (a1g (a8k hr.units) a8j (a1d a0w a1e (dv 1) a0m (fun _ _=>rfl)) a0i (a0p _))
  (a0q (a2a (i:=2) a6l.nd rfl (Or.inl rfl) (a2j a4k b6n rfl B.tuple_ a4n (a0a (a1m (a5n ["_law_one"] [] rfl (by rfl) (by decide +kernel) (b6y (a1m (a7i (a1d a0w a1e (dv 1) a0m (fun _ _=>rfl)) (a0a a0i a0f)))) (fun _ _ _=>(a2o (i:=0) (show(["_law_one"]:List Str).Nodup by decide +kernel) rfl (Or.inl rfl))) (fun _ _ _=>a6t) (fun _ _ _=>(a2j a3b b0z rfl B.int_ a4g (a0a (dv 0) a0f))))) a0f))))
  a1b)
  (a0q (a1s (a8i (a0a (a2j a3b b0z rfl B.int_ a4g (a0a (a1d a0w a1e (dv 1) a0m (fun _ _=>rfl)) a0f)) (a0a (a2j a3b b0z rfl B.int_ a4g (a0a (a1d a0w a1e (dv 1) a0m (fun _ _=>rfl)) a0f)) (a0a (a2w (a2c hr.units) a2b (a1d a0w a1e (dv 1) a0m (fun _ _=>rfl)) a0i (a0p _)) (a0a (dv 2) (a0a (c0n (a1g (a2c hr.units) a2b (a1d a0w a1e (dv 1) a0m (fun _ _=>rfl)) a0i (a0p _)) a6z (a2j a3b b0z rfl B.int_ a4g (a0a (a1d a0w a1e (dv 1) a0m (fun _ _=>rfl)) a0f))) a0f))))))))))),?_⟩
 walk_at "dd"
 refine⟨t,rfl,by omega," ",rfl,by decide,?_⟩
 have hw:∀ z ∈ Txt.split t " ",z.length <= 100000:=fun z hz=>le_trans (PyProof.Rows.part_short hz) hl
 unfold wordsOf at q hb
 generalize Txt.split t " " = ws at hw hb q ⊢
 obtain⟨ok,h5⟩:=c8p hb
 obtain⟨z0,z1,z2,z3,z4,rfl⟩:∃ z0 z1 z2 z3 z4,ws=[z0,z1,z2,z3,z4]:=by
  rcases ws with _ | ⟨z0,_ | ⟨z1,_ | ⟨z2,_ | ⟨z3,_ | ⟨z4,_ | ⟨_,_⟩⟩⟩⟩⟩⟩<;>simp at h5
  exact⟨z0,z1,z2,z3,z4,rfl⟩
 have o0:figs 9 z0=true:=ok 0 (by omega)
 have o1:figs 9 z1=true:=ok 1 (by omega)
 have o3:allF z3=true:=ok 3 (by omega)
 have o4:oneF z4=true:=ok 4 (by omega)
 have q:Qd (RV.d (.tuple [.int (num z0),.int (num z1),.bool (decide (z2 = "yes")),a4i z3,a4t z4])) [none]:=q
 unfold a4i a4t at q
 walk_at "dk"
 by_cases e:z3 = "-"
 ·rw [if_pos e] at q
  rw [decide_eq_true e]
  refine iteF ?_
  walk_at "dk"
  walk_at "r5"
 ·rw [if_neg e] at q
  rw [decide_eq_false e]
  refine iteT ?_
  have g3:∀ y ∈ Txt.split z3 ",",figs 9 y=true:=fun y hy=>by
   unfold allF at o3
   rw [decide_eq_false e,Bool.false_or,all_map] at o3
   exact all_eq_true.mp o3 y hy
  have h3:=hw z3 (by simp)
  have sl:=PyProof.Rows.split_le z3 ","
  walk_at "dk"
  refine⟨z3,rfl,by omega,",",rfl,by decide,?_⟩
  walk_at "dk"
  refine⟨by rw [length_map];omega,?_⟩
  refine L2.a7g (fun ρ=>∃ v0:Option L,ρ=[v0]) inF9 ⟨_,rfl⟩ ?_ ?_
  ·rintro y ρ N2 hy ⟨v0,rfl⟩ hN2
   obtain⟨c,hc,rfl⟩:=mem_map.mp hy
   walk_at "dk"
   refine a0k (b1g (g3 c hc)) ?_
   exact hN2 _ ⟨_,rfl⟩
  rintro ρ ⟨v0,rfl⟩
  rw [c5n]
  walk_at "dk"
  walk_at "r5"
end
noncomputable def a5s:Nat->PyData->Prop
 | 0,_=>False
 | m + 1,d=>d=.none ∨ (∃ b,d=.bool b) ∨ (∃ x:Int,d=.int x) ∨ (∃ s:Str,d=.str s) ∨ ∃ ds:List PyData,(d=.tuple ds ∨ d=.list ds)/\ds.length <= 100000/\∀ e ∈ ds,a5s m e
def b1h(m:Nat):DSp:=fun ls Q=>(∃ d:PyData,ls=[.d d,.d d]/\a5s m d/\Q (.d (.bool true)) [none,none]) ∨ ∃ ds:List PyData,ls=[.bor ds,.d (.list ds)]/\a5s m (.list ds)/\Q (.d (.bool true)) [some (.bor ds),none]
theorem c8q{m:Nat}{ds:List PyData}(h:a5s (m + 1) (.list ds)):ds.length <= 100000/\∀ e ∈ ds,a5s m e:=by
 rcases h with h | ⟨b,h⟩ | ⟨x,h⟩ | ⟨x,h⟩ | ⟨es,h,hl,hs⟩
 ·cases h
 ·cases h
 ·cases h
 ·cases h
 ·rcases h with h | h
  ·cases h
  ·cases h;exact⟨hl,hs⟩
set_option hygiene false in
local macro_rules | `(tactic| walk_at "sg") => `(tactic| (
  refine⟨⟨by omega,by omega⟩,by simp [rngD];omega,?_⟩
  rw [show((ds.length:Int)).toNat=ds.length by omega]
  refine a9g (fun i ρ acc=>∃ (v0:Option L) (a b:L),ρ=[v0,some a,some b]/\(a=.d dd/\b=.d dd)/\acc=List.replicate i (.bool true)) ⟨none,_,_,rfl,⟨rfl,rfl⟩,rfl⟩ ?_ ?_
  ·rintro i x ρ acc N hx ⟨v0,a,b,rfl,⟨rfl,rfl⟩,rfl⟩ hN
   obtain⟨hi2,rfl⟩:=a5z hx
   rw [hdd]
   walk_at "dk"
   refine a3j (by omega) (by omega) fun d _ hd=>?_
   refine a3j (by omega) (by omega) fun d' _ hd'=>?_
   rw [hd] at hd'
   cases hd'
   rw [toNat_natCast] at hd
   walk_at "dk"
   refine .inl ⟨d,rfl,hs d (mem_of_getElem? hd),?_⟩
   walk_at "dk"
   refine hN _ _ ⟨_,_,_,by rw [← hdd],⟨rfl,rfl⟩,?_⟩
   rw [List.replicate_succ']
  ·rintro ρ acc ⟨v0,a,b,rfl,⟨rfl,rfl⟩,rfl⟩
   rw [b9h,a5w]
   exact q))
section
variable{P:Program}{w:World}{K:W.Frag}{mg:Str->Option Value}{base:Heap}{n:Nat}
abbrev a5c:Stmt:=top 19
theorem b8e:FnScope ["_law_found","_law_due"] ["_law_found","_law_due"] (a0g a5c):=⟨rfl,rfl,rfl,by decide +kernel,rfl,by decide +kernel,by decide +kernel⟩
theorem c8r{f:Addr}{fd:FuncData} (F:Fun K "_law_same" "_law_same" a5c f fd) (B:Bl mg) (a4e:Def K mg "_law_same" a5c ["_law_found","_law_due"] f fd) {m:Nat}
  (a9o:FnOk P w K mg base CX0 n f fd ["_law_found","_law_due"] (spD K (b1h m))):FnOk P w K mg base CX0 (n + 1) f fd ["_law_found","_law_due"] (spD K (b1h (m + 1))):=by
 refine F.dok b8e (fun cdv A outer s H E hr ls Qd h=>?_) (fun ls Qd h=>by rcases h with⟨_,e,_⟩ | ⟨_,e,_⟩<;>rw [e]<;>rfl)
 refine⟨by rcases h with⟨_,e,_⟩ | ⟨_,e,_⟩<;>rw [e]<;>rfl,?_⟩
 refine⟨_,(a0j (a2f (a7b (d7u rfl B.isinstance_ rfl B.tuple_ a4n rfl rfl B.list_ a8b rfl (dv 1)))
  (a0j (a2f (DW.toT (b5s (a1g (a8k hr.units) a8j (a4z rfl B.isinstance_ rfl B.tuple_ a4n rfl (dv 0)) (a4z rfl B.isinstance_ rfl B.tuple_ a4n rfl (dv 1)) (a0p _)) (b2o (a1g (a8k hr.units) a8j (a4z rfl B.isinstance_ rfl B.list_ a8b rfl (dv 0)) (a4z rfl B.isinstance_ rfl B.list_ a8b rfl (dv 1)) (a0p _)))))
  (a0q (a1s b0u))
  a1b)
  (a0q (a1s (a7e (a2w (a2c hr.units) a2b (a1u a1h a3h rfl B.len_ a2i (a0a (dv 0) a0f)) (a1u a1h a3h rfl B.len_ a2i (a0a (dv 1) a0f)) (a0p _)) (a7d (a1u (c4d rfl) d2n rfl B.all_ b7g (a0a (a1m (a5n ["_law_k"] [("_law_found",0),("_law_due",1)] rfl (by rfl) (by decide +kernel) (a3s rfl B.range_ (a1u a1h a3h rfl B.len_ a2i (a0a (dv 1) a0f))) (fun _ _ _=>(a2o (i:=0) (show(["_law_k","_law_found","_law_due"]:List Str).Nodup by decide +kernel) rfl (Or.inl rfl))) (fun _ _ _=>a6t) (fun _ _ _=>(a0n [false,false] a4e a9o hr rfl (a0a (a1d a0w a1e (dv 1) (dv 0) (fun _ _=>rfl)) (a0a (a1d a0w a1e (dv 2) (dv 0) (fun _ _=>rfl)) a0f)))))) a0f)))))))
  a1b)
  (a0j (a2f (DW.toT (b5s (a1g b6e b7k (dv 1) a6z (a0p _)) (b2o (a7b (a4z rfl B.isinstance_ rfl B.bool_ b0r rfl (dv 1))))))
  (a0q (a1s (a7e (a2w (a2c hr.units) a2b (a4z rfl B.isinstance_ rfl B.bool_ b0r rfl (dv 0)) (a4z rfl B.isinstance_ rfl B.bool_ b0r rfl (dv 1)) (a0p _)) (a7d (a2w (a2c hr.units) a2b (dv 0) (dv 1) (a0p _))))))
  a1b)
  (a0j (a2f (a7b (a4z rfl B.isinstance_ rfl B.int_ a4g rfl (dv 1)))
  (a0q (a1s (a7e (a4z rfl B.isinstance_ rfl B.int_ a4g rfl (dv 0)) (a7e (d5l (a4z rfl B.isinstance_ rfl B.bool_ b0r rfl (dv 0))) (a7d (a2w (a2c hr.units) a2b (dv 0) (dv 1) (a0p _)))))))
  a1b)
  (a0q (a1s (a7e (a4z rfl B.isinstance_ rfl B.str_ a9y rfl (dv 0)) (a7d (a2w (a2c hr.units) a2b (dv 0) (dv 1) (a0p _))))))))),?_⟩
 rcases h with⟨d,rfl,hd,q⟩ | ⟨ds,rfl,hd,q⟩
 rotate_left
 ·obtain⟨hl,hs⟩:=c8q hd
  walk_at "dk"
  rw [show(isD "tuple" (.list ds) || isD "list" (.list ds))=true from rfl]
  walk_at "dk"
  refine⟨⟨by omega,by omega⟩,by simp [rngD];omega,?_⟩
  rw [show((ds.length:Int)).toNat=ds.length by omega]
  refine a9g (fun i ρ acc=>∃ (v0:Option L),ρ=[v0,some (L.bor ds),some (L.d (.list ds))]/\acc=List.replicate i (.bool true)) ⟨none,rfl,rfl⟩ ?_ ?_
  ·rintro i x ρ acc N hx ⟨v0,rfl,rfl⟩ hN
   obtain⟨hi2,rfl⟩:=a5z hx
   walk_at "dk"
   refine a3j (by omega) (by omega) fun d _ hd=>?_
   refine a3j (by omega) (by omega) fun d' _ hd'=>?_
   rw [hd] at hd'
   cases hd'
   rw [toNat_natCast] at hd
   walk_at "dk"
   refine .inl ⟨d,rfl,hs d (mem_of_getElem? hd),?_⟩
   walk_at "dk"
   refine hN _ _ ⟨_,rfl,?_⟩
   rw [List.replicate_succ']
  ·rintro ρ acc ⟨v0,rfl,rfl⟩
   rw [b9h,a5w]
   exact q
 rcases hd with rfl | ⟨b,rfl⟩ | ⟨x,rfl⟩ | ⟨x,rfl⟩ | ⟨ds,hdd,hl,hs⟩
 ·walk_at "dk"
  rw [show fEqA false .none .none=some (.bool true) from rfl,a5w]
  exact q
 ·walk_at "dk"
  rw [show(isD "tuple" (.bool b) || isD "list" (.bool b))=false from rfl]
  walk_at "dk"
  try rw [show isD "bool" (.bool b)=true from rfl]
  walk_at "dk"
  rw [show a2y (.bool b)=false from rfl]
  exact iteF q
 ·walk_at "dk"
  rw [show(isD "tuple" (.int x) || isD "list" (.int x))=false from rfl]
  walk_at "dk"
  rw [show isD "bool" (.int x)=false from rfl]
  walk_at "dk"
  try rw [show isD "int" (.int x)=true from rfl]
  walk_at "dk"
  rw [show(!isD "bool" (.int x))=true from rfl,if_pos rfl]
  exact q
 ·walk_at "dk"
  rw [show(isD "tuple" (.str x) || isD "list" (.str x))=false from rfl]
  walk_at "dk"
  rw [show isD "bool" (.str x)=false from rfl]
  walk_at "dk"
  rw [show a2y (.str x)=false from rfl]
  refine iteF ?_
  walk_at "dk"
  rw [show isD "int" (.str x)=false from rfl]
  walk_at "dk"
  try rw [show isD "str" (.str x)=true from rfl]
  try walk_at "dk"
  exact q
 ·rcases hdd with rfl | rfl
  ·obtain⟨dd,hdd⟩:∃ dd,dd=PyData.tuple ds:=⟨_,rfl⟩
   walk_at "dk"
   rw [show(isD "tuple" (.tuple ds) || isD "list" (.tuple ds))=true from rfl]
   walk_at "dk"
   try rw [show isD "tuple" (.tuple ds)=true from rfl]
   try walk_at "dk"
   try rw [show isD "list" (.tuple ds)=false from rfl]
   try walk_at "dk"
   rw [← hdd]
   walk_at "sg"
  ·obtain⟨dd,hdd⟩:∃ dd,dd=PyData.list ds:=⟨_,rfl⟩
   walk_at "dk"
   rw [show(isD "tuple" (.list ds) || isD "list" (.list ds))=true from rfl]
   walk_at "dk"
   try rw [show isD "tuple" (.list ds)=false from rfl]
   try walk_at "dk"
   try rw [show isD "list" (.list ds)=true from rfl]
   try walk_at "dk"
   rw [← hdd]
   walk_at "sg"
end
noncomputable def wt(ss:List Str):Nat:=(ss.map (·.length)).sum + ss.length
theorem b3t{sep:Str}{ss:List Str}{n:Nat}(h:wt ss <= n)(hs:sep.length <= 4)(hn:1 <= n):(Txt.join sep ss).length <= 4 * n:=by
 have:=PyProof.Rows.len_join_le (sep:=sep) (ys:=ss) (n:=n - 1) (by unfold PyProof.Rows.Weighs;unfold wt at h;omega) hs
 omega
theorem a8t(a b:List Str):wt (a ++ b)=wt a + wt b:=by
 unfold wt
 rw [map_append,List.sum_append_nat,length_append];omega
theorem a6w(x:Str)(b:List Str):wt (x :: b)=x.length + 1 + wt b:=by
 unfold wt
 rw [map_cons,List.sum_cons,length_cons];omega
theorem c1x(ss:List Str)(k:Nat):wt (ss.take k) + wt (ss.drop k)=wt ss:=by rw [← a8t,List.take_append_drop]
theorem d8v{ss:List Str}{k:Nat}{z:Str}(h:ss[k]? = some z):wt (ss.take k) + (z.length + 1) + wt (ss.drop (k + 1))=wt ss:=by
 have hl:=(List.getElem?_eq_some_iff.mp h).1
 have e:ss.drop k=z :: ss.drop (k + 1):=by rw [drop_eq_getElem_cons hl,(List.getElem?_eq_some_iff.mp h).2]
 have:=c1x ss k
 rw [e,a6w] at this
 omega
noncomputable def NUMS:List Int:=[0,1,2,7,10,99,999999999,100000000,3]
noncomputable def tx(n:Int):Str:=toString n
theorem b1i:∀ n ∈ NUMS,(tx n).length <= 9:=by decide +kernel
theorem d4e:∀ n ∈ NUMS,n.natAbs.log2 < 1920:=by decide +kernel
theorem b6a{n:Int}(h:n ∈ NUMS):b5x [.int n]=some (.str (tx n)):=d3h (d4e n h)
def c1y:DSp:=fun ls Q=>∃ k:Nat,ls=[.tape k]/\k < 900000/\∀ n ∈ NUMS,Q (.d (.int n)) [some (.tape (k + 1))]
def b3u:DSp:=fun ls Q=>∃ k:Nat,ls=[.tape k]/\k < 800000/\∀ (t:Str) (k':Nat),k' <= k + 20->t.length <= 800->Q (.d (.str t)) [some (.tape k')]
theorem fin5{a b c z d:Str}{k:PyData->Prop}(h:wt [a,b,c,z,d] <= 200)(q:∀ t:Str,t.length <= 800->k (.str t)):need (b0y " " [.list ([.str a,.str b,.str c,.str z] ++ [.str d])]) k:=
 a0k (b3o (ss:=[a,b,c,z,d]) (by decide) (by unfold wt at h;omega)) (q _ (b3t h (by decide) (by decide)))
set_option hygiene false in
local macro_rules | `(tactic| walk_at "rst") => `(tactic| (
  walk_at "dd"
  refine⟨_,rfl,?_⟩
  walk_at "dd"
  refine⟨_,rfl,by omega,fun c hc=>?_⟩
  walk_at "dd"
  refine a0k (b6a hc) ?_
  walk_at "dd"
  refine⟨_,2,rfl,by decide,by omega,fun r4 h4 h5=>?_⟩
  walk_at "dd"
  refine a3j h4 h5 fun d hd _=>?_
  obtain⟨lz,rfl,hlz⟩:∃ lz:Str,d=.str lz/\lz.length <= 9:=by
   rcases mem_cons.mp hd with rfl | hd
   ·exact⟨_,rfl,by decide⟩
   ·rw [mem_singleton.mp hd]
    exact⟨_,rfl,b1i c hc⟩
  walk_at "dd"
  refine a0k (c3u (show(4:Nat) + 1 <= sizeLine by rw [sizeLine_eq];omega)) ?_
  have la:=b1i a ha
  have lb:=b1i b hb
  have ld:Str.length "-" <= 160:=by decide
  have few2:∀ z:Str,z.length <= 160->wt [tx a,tx b,yn,z,lz] <= 200:=fun z hz=>by
   simp only [a6w]
   show _ + (_ + (_ + (_ + (_ + 0)))) <= _
   omega
  exact fin5 (few2 _ (by first | exact jl | exact ld)) (fun t ht=>q _ _ (by omega) ht)))
section
variable{P:Program}{w:World}{K:W.Frag}{mg:Str->Option Value}{base:Heap}{n:Nat}
abbrev a5d:Stmt:=top 20
theorem b5h:FnScope ["_law_tape"] ["_law_tape"] (a0g a5d):=⟨rfl,rfl,rfl,by decide +kernel,rfl,by decide +kernel,by decide +kernel⟩
theorem d8w{f f1:Addr}{fd fd1:FuncData} (F:Fun K "_law_number" "_law_number" a5d f fd) (B:Bl mg) (a0s:b5z K mg f1 fd1) (a0y:b5y P w K mg base n f1 fd1):FnOk P w K mg base CX0 (n + 1) f fd ["_law_tape"] (spD K c1y):=by
 refine F.dok b5h (fun cdv A outer s H E hr ls Qd h=>?_) (fun ls Qd hq8=>by obtain⟨_,e,_⟩:=hq8;rw [e];rfl)
 obtain⟨k,rfl,hk,q⟩:=h
 refine⟨rfl,?_⟩
 refine⟨_,(a0q (a1s (a1d a0w a1e (a1m (a2x (a0a a0m (a0a a0m (a0a a0m (a0a a0m (a0a a0m (a0a a0m (a0a a0m (a0a a0m (a0a a0m a0f))))))))))) (a0n [true,false] a0s a0y hr rfl (a0a (dv 0) (a0a a0m a0f))) (fun _ _=>rfl)))),?_⟩
 walk_at "dd"
 refine⟨k,9,rfl,by decide,by omega,fun r h0 h1=>?_⟩
 walk_at "dd"
 refine a3j h0 h1 fun d hd _=>?_
 rw [show [PyData.int 0,PyData.int 1,PyData.int 2,PyData.int 7,PyData.int 10,PyData.int 99,PyData.int 999999999,PyData.int 100000000,PyData.int 3]=NUMS.map .int from rfl] at hd
 obtain⟨m,hm,rfl⟩:=mem_map.mp hd
 exact q m hm
abbrev a6m:Stmt:=top 21
theorem a7s:FnScope ["_law_tape","_law_ranks","_law_words"] ["_law_tape"] (a0g a6m):=⟨rfl,rfl,rfl,by decide +kernel,rfl,by decide +kernel,by decide +kernel⟩
theorem c8s{f f1 f2:Addr}{fd fd1 fd2:FuncData} (F:Fun K "_law_text" "_law_text" a6m f fd) (B:Bl mg) (a0s:b5z K mg f1 fd1) (a0y:b5y P w K mg base n f1 fd1)
  (a2z:Def K mg "_law_number" a5d ["_law_tape"] f2 fd2) (a5e:FnOk P w K mg base CX0 n f2 fd2 ["_law_tape"] (spD K c1y)):FnOk P w K mg base CX0 (n + 1) f fd ["_law_tape"] (spD K b3u):=by
 refine F.dok a7s (fun cdv A outer s H E hr ls Qd h=>?_) (fun ls Qd hq8=>by obtain⟨_,e,_⟩:=hq8;rw [e];rfl)
 obtain⟨k,rfl,hk,q⟩:=h
 refine⟨rfl,?_⟩
 refine⟨_,(a0j (a2a (i:=1) a7s.nd rfl (Or.inl rfl) (b3p a0i (a0a (a1m (a5n ["_law_k"] [("_law_tape",0)] rfl (by rfl) (by decide +kernel) (a3s rfl B.range_ (a0n [true,false] a0s a0y hr rfl (a0a (dv 0) (a0a a0m a0f)))) (fun _ _ _=>(a2o (i:=0) (show(["_law_k","_law_tape"]:List Str).Nodup by decide +kernel) rfl (Or.inl rfl))) (fun _ _ _=>a6t) (fun _ _ _=>(a2j a4w b1a rfl B.str_ a9y (a0a (a0n [true] a2z a5e hr rfl (a0a (dv 1) a0f)) a0f))))) a0f)))
  (a0j (b3m (i:=2) a7s.nd rfl (Or.inl rfl) (a2x (a0a (a2j a4w b1a rfl B.str_ a9y (a0a (a0n [true] a2z a5e hr rfl (a0a (dv 0) a0f)) a0f)) (a0a (a2j a4w b1a rfl B.str_ a9y (a0a (a0n [true] a2z a5e hr rfl (a0a (dv 0) a0f)) a0f)) (a0a (a1d a0w a1e (a1m (a2x (a0a a0i (a0a a0i a0f)))) (a0n [true,false] a0s a0y hr rfl (a0a (dv 0) (a0a a0m a0f))) (fun _ _=>rfl)) a0f)))))
  (a0j (b0w (c3p 2 rfl (c0n (a1g (a2c hr.units) a2b (dv 1) a0i (a0p _)) a0i (dv 1))))
  (a0q (a1s (b3p a0i (a0a (a1m (c9l b6i c3j (dv 2) (a1m (a2x (a0a (a1d a0w a1e (a1m (a2x (a0a a0i (a0a (a2j a4w b1a rfl B.str_ a9y (a0a (a0n [true] a2z a5e hr rfl (a0a (dv 0) a0f)) a0f)) a0f)))) (a0n [true,false] a0s a0y hr rfl (a0a (dv 0) (a0a a0m a0f))) (fun _ _=>rfl)) a0f))))) a0f))))))),?_⟩
 walk_at "dd"
 refine⟨_,rfl,?_⟩
 walk_at "dd"
 refine⟨k,4,rfl,by decide,by omega,fun r h0 h1=>?_⟩
 obtain⟨m,rfl⟩:∃ m:Nat,r=(m:Int):=⟨r.toNat,by omega⟩
 walk_at "dd"
 refine⟨⟨by omega,by omega⟩,by rw [a5o];omega,?_⟩
 rw [toNat_natCast]
 refine a9g (fun i ρ acc=>∃ (v0:Option L) (rk:List Str),ρ=[v0,some (.tape (k + 1 + i))]/\acc=rk.map .str/\wt rk <= 10 * i/\i <= 4) ⟨none,[],rfl,rfl,le_refl _,by omega⟩ ?_ ?_
 ·rintro i x ρ acc N hx ⟨v0,rk,rfl,rfl,hl,hi⟩ hN
  obtain⟨him,rfl⟩:=a5z hx
  walk_at "dd"
  refine⟨_,rfl,by omega,fun c hc=>?_⟩
  walk_at "dd"
  refine a0k (b6a hc) ?_
  refine hN _ _ ⟨_,rk ++ [tx c],rfl,by rw [map_append];rfl,?_,by omega⟩
  have:=b1i c hc
  rw [a8t,a6w]
  show wt rk + ((tx c).length + 1 + 0) <= _
  omega
 rintro ρ acc ⟨v0,rk,rfl,rfl,hl,hi⟩
 rw [a5o] at hl hi
 have few:wt rk <= 40:=by omega
 have jl:=b3t (sep:=",") few (by decide) (by decide)
 walk_at "dd"
 refine a0k (b3o (by decide) (by unfold wt at few;omega)) ?_
 generalize Txt.join "," rk=rt at jl ⊢
 rw [a5o]
 walk_at "dd"
 refine⟨_,rfl,by omega,fun a ha=>?_⟩
 walk_at "dd"
 refine a0k (b6a ha) ?_
 walk_at "dd"
 refine⟨_,rfl,by omega,fun b hb=>?_⟩
 walk_at "dd"
 refine a0k (b6a hb) ?_
 walk_at "dd"
 refine⟨_,2,rfl,by decide,by omega,fun r2 h2 h3=>?_⟩
 walk_at "dd"
 refine a3j h2 h3 fun d hd _=>?_
 obtain⟨yn,rfl,hyn⟩:∃ yn:Str,d=.str yn/\yn.length <= 3:=by
  rcases mem_cons.mp hd with rfl | hd
  ·exact⟨_,rfl,by decide⟩
  ·rw [mem_singleton.mp hd]
   exact⟨_,rfl,by decide⟩
 walk_at "dd"
 by_cases e:rt = ""
 ·rw [decide_eq_true e]
  refine iteT ?_
  walk_at "rst"
 ·rw [decide_eq_false e]
  refine iteF ?_
  walk_at "rst"
end
noncomputable def SOME:List Str:=["","-","--","0","00","01","+1","1.","yes","no","Yes","true","1,2","1,",",1","1,,2","-1","1000000000","999999999","1,01"]
theorem c8t:∀ z ∈ SOME,z.length <= 10:=by decide +kernel
theorem d0b{n j:Nat}(h:j < n):ixN n (j:Int)=some j:=by unfold ixN;rw [if_pos (by omega),if_pos (by omega),toNat_natCast]
theorem len_app(a b:Str):(a ++ b).length=a.length + b.length:=by show(a.cps ++ b.cps).size=_;rw [Array.size_append];rfl
theorem c5o{ss:List Str}{k:Nat}{z v:Str}(h:ss[k]? = some z):wt (ss.set k v)=wt (ss.take k) + (v.length + 1) + wt (ss.drop (k + 1)):=by
 have hl:=(List.getElem?_eq_some_iff.mp h).1
 rw [List.set_eq_take_append_cons_drop,if_pos hl,a8t,a6w];omega
def b7x:DSp:=fun ls Q=>∃ (k:Nat) (t:Str),ls=[.tape k,.d (.str t)]/\k < 800000/\t.length <= 60000/\∀ (t':Str) (k':Nat),k' <= k + 10->t'.length <= 8 * t.length + 100->Q (.d (.str t')) [some (.tape k'),none]
theorem finW{ss:List Str}{xs:List PyData}{b:Nat}{k:PyData->Prop}(e:xs=ss.map .str)(h:wt ss <= 2 * b + 25)(hb:b <= 60000)(q:∀ t:Str,t.length <= 8 * b + 100->k (.str t)):need (b0y " " [.list xs]) k:=by
 subst e
 exact a0k (b3o (by decide) (by unfold wt at h;omega)) (q _ (by have:=b3t (sep:=" ") h (by decide) (by omega);omega))
section
variable{P:Program}{w:World}{K:W.Frag}{mg:Str->Option Value}{base:Heap}{n:Nat}
abbrev a6n:Stmt:=top 25
theorem a2s:FnScope ["_law_tape","_law_text_here","_law_words","_law_k","_law_some","_law_way","_law_at"] ["_law_tape","_law_text_here"] (a0g a6n):=⟨rfl,rfl,rfl,by decide +kernel,rfl,by decide +kernel,by decide +kernel⟩
theorem d4f{f f1:Addr}{fd fd1:FuncData} (F:Fun K "_law_bent" "_law_bent" a6n f fd) (B:Bl mg) (a0s:b5z K mg f1 fd1) (a0y:b5y P w K mg base n f1 fd1):FnOk P w K mg base CX0 (n + 1) f fd ["_law_tape","_law_text_here"] (spD K b7x):=by
 refine F.dok a2s (fun cdv A outer s H E hr ls Qd h=>?_) (fun ls Qd hq8=>by obtain⟨_,_,e,_⟩:=hq8;rw [e];rfl)
 obtain⟨k,t,rfl,hk,hl,q⟩:=h
 refine⟨rfl,?_⟩
 refine⟨_,(a0j (b3m (i:=2) a2s.nd rfl (Or.inl rfl) (a7i (dv 1) (a0a a0i a0f)))
  (a0j (a2a (i:=3) a2s.nd rfl (Or.inl rfl) (a0n [true,false] a0s a0y hr rfl (a0a (dv 0) (a0a (a1u a1h a3h rfl B.len_ a2i (a0a (dv 2) a0f)) a0f))))
  (a0j (a2a (i:=4) a2s.nd rfl (Or.inl rfl) (a1m (a2x (a0a a0i (a0a a0i (a0a a0i (a0a a0i (a0a a0i (a0a a0i (a0a a0i (a0a a0i (a0a a0i (a0a a0i (a0a a0i (a0a a0i (a0a a0i (a0a a0i (a0a a0i (a0a a0i (a0a a0i a0f))))))))))))))))))))
  (a0j (a2a (i:=4) a2s.nd rfl (Or.inl rfl) (a1m (c9l b6i c3j (dv 4) (a1m (a2x (a0a a0i (a0a a0i (a0a a0i a0f))))))))
  (a0j (a2a (i:=5) a2s.nd rfl (Or.inl rfl) (a0n [true,false] a0s a0y hr rfl (a0a (dv 0) (a0a a0m a0f))))
  (a0j (a2f (a1g (a2c hr.units) a2b (dv 5) a0m (a0p _))
  (a0q (b0w (d3u 2 rfl (dv 3))))
  a1b)
  (a0j (a2f (a1g (a2c hr.units) a2b (dv 5) a0m (a0p _))
  (a0q (b0w (b4o 2 rfl (dv 3) (a1d a0w a1e (dv 2) (dv 3) (fun _ _=>rfl)))))
  a1b)
  (a0j (a2f (a1g (a2c hr.units) a2b (dv 5) a0m (a0p _))
  (a0q (b1v 2 rfl (dv 3) (a1d a0w a1e (dv 4) (a0n [true,false] a0s a0y hr rfl (a0a (dv 0) (a0a a0m a0f))) (fun _ _=>rfl))))
  a1b)
  (a0j (a2f (a1g (a2c hr.units) a2b (dv 5) a0m (a0p _))
  (a0q (b0w (b4o 2 rfl (a0n [true,false] a0s a0y hr rfl (a0a (dv 0) (a0a (b0v a4p a8h (a1u a1h a3h rfl B.len_ a2i (a0a (dv 2) a0f)) a0m) a0f))) (a1d a0w a1e (dv 4) (a0n [true,false] a0s a0y hr rfl (a0a (dv 0) (a0a a0m a0f))) (fun _ _=>rfl)))))
  a1b)
  (a0j (a2f (a1g (a2c hr.units) a2b (dv 5) a0m (a0p _))
  (a0j (a2a (i:=6) a2s.nd rfl (Or.inl rfl) (a0n [true,false] a0s a0y hr rfl (a0a (dv 0) (a0a (b0v a4p a8h (a1u a1h a3h rfl B.len_ a2i (a0a (a1d a0w a1e (dv 2) (dv 3) (fun _ _=>rfl)) a0f)) a0m) a0f))))
  (a0q (b1v 2 rfl (dv 3) (b0v a4p a8h (b0v a4p a8h (b7e c4o c4q (a1d a0w a1e (dv 2) (dv 3) (fun _ _=>rfl)) b9e (b9f (dv 6))) (a1d a0w a1e (a1m (a2x (a0a a0i (a0a a0i (a0a a0i (a0a a0i (a0a a0i (a0a a0i a0f)))))))) (a0n [true,false] a0s a0y hr rfl (a0a (dv 0) (a0a a0m a0f))) (fun _ _=>rfl))) (b7e c4o c4q (a1d a0w a1e (dv 2) (dv 3) (fun _ _=>rfl)) (b9f (dv 6)) b9e)))))
  a1b)
  (a0q (a1s (b3p a0i (a0a (dv 2) a0f)))))))))))))),?_⟩
 walk_at "dd"
 refine⟨t,rfl,by omega," ",rfl,by decide,?_⟩
 have hw:wt (Txt.split t " ") <= t.length + 1:=PyProof.Rows.split_weight t " " (by decide)
 have hp:1 <= (Txt.split t " ").length:=PyProof.Rows.split_pos t " "
 generalize Txt.split t " " = ws at hw hp ⊢
 have hwl:ws.length <= t.length + 1:=by unfold wt at hw;omega
 walk_at "dd"
 refine⟨k,_,rfl,by rw [length_map];omega,by omega,fun r h0 h1=>?_⟩
 rw [length_map] at h1
 obtain⟨j,rfl⟩:∃ j:Nat,r=(j:Int):=⟨r.toNat,by omega⟩
 obtain⟨z,hz⟩:∃ z,ws[j]? = some z:=⟨_,getElem?_eq_getElem (by omega)⟩
 have wg:=d8v hz
 have hat:atI (ws.map PyData.str) (j:Int)=some (.str z):=a2l (j:=j) (by rw [getElem?_map,hz];rfl)
 have hixn:ixN (ws.map PyData.str).length (j:Int)=some j:=d0b (by rw [length_map];omega)
 have hzd:(ws.map PyData.str)[j]? = some (.str z):=by rw [getElem?_map,hz];rfl
 walk_at "dd"
 refine a0k (c3u (show(17:Nat) + 3 <= sizeLine by rw [sizeLine_eq];omega)) ?_
 walk_at "dd"
 refine⟨_,5,rfl,by decide,by omega,fun y y0 y1=>?_⟩
 rw [show([PyData.str "",.str "-",.str "--",.str "0",.str "00",.str "01",.str "+1",.str "1.",.str "yes",.str "no",.str "Yes",.str "true",.str "1,2",.str "1,",.str ",1",.str "1,,2",.str "-1",.str "1000000000",.str "999999999",.str "1,01"]:List PyData)=SOME.map .str from rfl]
 have hS:∀ d,d ∈ SOME.map PyData.str->∃ v:Str,d=.str v/\v.length <= 10:=fun d hd=>by
  obtain⟨v,hv,rfl⟩:=mem_map.mp hd
  exact⟨v,rfl,c8t v hv⟩
 have hSl:(SOME.map PyData.str).length=20:=rfl
 generalize SOME.map PyData.str=S at hS hSl ⊢
 obtain rfl | rfl | rfl | rfl | rfl:y=0 ∨ y=1 ∨ y=2 ∨ y=3 ∨ y=4:=by omega
 ·walk_at "dk"
  refine⟨⟨by omega,by rw [length_map];omega⟩,?_⟩
  rw [toNat_natCast]
  refine a0k hzd ?_
  walk_at "dk"
  refine⟨_,rfl,finW (ss:=ws.eraseIdx j) (by rw [List.eraseIdx_eq_take_drop_succ,List.eraseIdx_eq_take_drop_succ,map_append,List.map_take,List.map_drop]) ?_ hl fun t' ht'=>q _ _ (by omega) ht'⟩
  rw [List.eraseIdx_eq_take_drop_succ,a8t]
  omega
 ·walk_at "dk"
  refine a0k hat ⟨⟨by omega,by rw [length_map];omega,by rw [length_map];omega⟩,?_⟩
  walk_at "dk"
  rw [toNat_natCast]
  have wd:=c1x ws j
  refine⟨_,rfl,finW (ss:=ws.take j ++ z :: ws.drop j) (by rw [map_append,map_cons,List.map_take,List.map_drop]) ?_ hl fun t' ht'=>q _ _ (by omega) ht'⟩
  rw [a8t,a6w]
  omega
 ·walk_at "dk"
  refine⟨_,20,rfl,by decide,by omega,fun r2 h2 h3=>?_⟩
  walk_at "dk"
  refine a3j h2 (by rw [hSl];exact h3) fun d hd _=>?_
  obtain⟨v,rfl,hv⟩:=hS d hd
  refine a0k hixn ?_
  walk_at "dk"
  refine⟨_,rfl,finW (ss:=ws.set j v) (by rw [map_set]) ?_ hl fun t' ht'=>q _ _ (by omega) ht'⟩
  rw [c5o hz]
  omega
 ·walk_at "dk"
  refine⟨_,_,rfl,by omega,by omega,fun r2 h2 h3=>?_⟩
  rw [length_map] at h3
  walk_at "dk"
  refine⟨_,20,rfl,by decide,by omega,fun r4 h4 h5=>?_⟩
  walk_at "dk"
  refine a3j h4 (by rw [hSl];exact h5) fun d hd _=>?_
  obtain⟨v,rfl,hv⟩:=hS d hd
  refine⟨⟨by omega,by rw [length_map];omega,by rw [length_map];omega⟩,?_⟩
  walk_at "dk"
  have wd:=c1x ws r2.toNat
  refine⟨_,rfl,finW (ss:=ws.take r2.toNat ++ v :: ws.drop r2.toNat) (by rw [map_append,map_cons,List.map_take,List.map_drop]) ?_ hl fun t' ht'=>q _ _ (by omega) ht'⟩
  rw [a8t,a6w]
  omega
 ·have hzl:z.length <= 60000:=by omega
  walk_at "dk"
  refine a0k hat (a0k (b7s (by omega)) ?_)
  walk_at "dk"
  refine⟨_,_,rfl,by omega,by omega,fun r2 h2 h3=>?_⟩
  walk_at "dk"
  refine a0k hat ?_
  walk_at "dk"
  have l1:=Txt.slice_le z none (some r2)
  have l2:=Txt.slice_le z (some r2) none
  refine a0k (c4p (by rw [sizeLine_eq];omega)) ?_
  generalize Txt.slice z none (some r2)=u1 at l1 ⊢
  walk_at "dk"
  refine⟨_,6,rfl,by decide,by omega,fun r4 h4 h5=>?_⟩
  walk_at "dk"
  refine a3j h4 h5 fun d hd _=>?_
  obtain⟨v,rfl,hv⟩:∃ v:Str,d=.str v/\v.length <= 1:=by
   rw [show([PyData.str " ",.str "-",.str "0",.str "a",.str ",",.str "1"]:List PyData)=([" ","-","0","a",",","1"]:List Str).map .str from rfl] at hd
   obtain⟨v,hv,rfl⟩:=mem_map.mp hd
   exact⟨v,rfl,(by decide +kernel:∀ v ∈ ([" ","-","0","a",",","1"]:List Str),v.length <= 1) v hv⟩
  refine a0k (show fAdd (.str u1) (.str v)=some (.str (u1 ++ v)) from if_pos (by rw [sizeLine_eq];omega)) ?_
  have l3:(u1 ++ v).length=u1.length + v.length:=len_app u1 v
  generalize u1 ++ v=u3 at l3 ⊢
  walk_at "dk"
  refine a0k hat ?_
  walk_at "dk"
  refine a0k (c4p (by rw [sizeLine_eq];omega)) ?_
  generalize Txt.slice z (some r2) none=u2 at l2 ⊢
  walk_at "dk"
  refine a0k (show fAdd (.str u3) (.str u2)=some (.str (u3 ++ u2)) from if_pos (by rw [sizeLine_eq];omega)) ?_
  have l4:(u3 ++ u2).length=u3.length + u2.length:=len_app u3 u2
  generalize u3 ++ u2=u4 at l4 ⊢
  walk_at "dk"
  refine a0k hixn ?_
  walk_at "dk"
  refine⟨_,rfl,finW (ss:=ws.set j u4) (by rw [map_set]) ?_ hl fun t' ht'=>q _ _ (by omega) ht'⟩
  rw [c5o hz]
  omega
end
theorem d8x{t:Str}(ht:t.length <= 60000):a5s 3 (rowD (wordsOf t)):=by
 refine .inr (.inr (.inr (.inr ⟨_,.inl rfl,by show 5 <= 100000;decide,fun e he=>?_⟩)))
 have he:e=.int (num ((wordsOf t).getD 0 "")) ∨ e=.int (num ((wordsOf t).getD 1 "")) ∨ e=trv ((wordsOf t).getD 2 "") ∨ e=a4i ((wordsOf t).getD 3 "") ∨ e=a4t ((wordsOf t).getD 4 ""):=by simpa using he
 rcases he with rfl | rfl | rfl | rfl | rfl
 ·exact .inr (.inr (.inl ⟨_,rfl⟩))
 ·exact .inr (.inr (.inl ⟨_,rfl⟩))
 ·exact .inr (.inl ⟨_,rfl⟩)
 ·unfold a4i
  split
  ·exact .inr (.inr (.inr (.inr ⟨_,.inl rfl,zero_le _,fun e he=>nomatch he⟩)))
  ·refine .inr (.inr (.inr (.inr ⟨_,.inl rfl,?_,fun e he=>?_⟩)))
   ·have h1:((wordsOf t).getD 3 "").length <= t.length:=by
     rw [List.getD_eq_getElem?_getD]
     cases e:(wordsOf t)[3]? with
     | none=>exact zero_le _
     | some z=>exact PyProof.Rows.part_short (mem_of_getElem? e)
    have:=PyProof.Rows.split_le ((wordsOf t).getD 3 "") ","
    rw [length_map];omega
   ·obtain⟨z,_,rfl⟩:=mem_map.mp he
    exact .inr (.inr (.inl ⟨_,rfl⟩))
 ·unfold a4t
  split
  ·exact .inl rfl
  ·exact .inr (.inr (.inl ⟨_,rfl⟩))
theorem c5p{m:Nat}{x:Str}{d:PyData}(h:a5s (m + 1) d):a5s (m + 2) (.tuple [.str x,d]):=
 .inr (.inr (.inr (.inr ⟨_,.inl rfl,by show 2 <= 100000;decide,fun e he=>by
  have he:e=.str x ∨ e=d:=by simpa using he
  rcases he with rfl | rfl
  ·exact .inr (.inr (.inr (.inl ⟨_,rfl⟩)))
  ·exact h⟩)))
theorem d8y{ts:List Str}(hl:ts.length <= 100)(ht:∀ t ∈ ts,t.length <= 60000):a5s 4 (papD ts):=
 .inr (.inr (.inr (.inr ⟨_,.inl rfl,by rw [length_map];omega,fun e he=>by
  obtain⟨t,h,rfl⟩:=mem_map.mp he
  exact d8x (ht t h)⟩)))
theorem d4g(r k:Nat):a5s 4 (.tuple [.int (r:Int),.int (k:Int)]):=
 .inr (.inr (.inr (.inr ⟨_,.inl rfl,by show 2 <= 100000;decide,fun e he=>by
  have he:e=.int (r:Int) ∨ e=.int (k:Int):=by simpa using he
  rcases he with rfl | rfl
  ·exact .inr (.inr (.inl ⟨_,rfl⟩))
  ·exact .inr (.inr (.inl ⟨_,rfl⟩))⟩)))
theorem b9s:∀ {ts:List Str} {i:Nat},fbA i ts=none->∀ t ∈ ts,a1y (wordsOf t)=none
 | [],_,_=>fun t h=>nomatch h
 | t :: r,i,h=>by
  cases e:a1y (wordsOf t) with
  | some k=>rw [b3s e] at h;cases h
  | none =>
   rw [b7u e] at h
   intro u hu
   rcases mem_cons.mp hu with rfl | hu
   ·exact e
   ·exact b9s h u hu
noncomputable def dueD:Option (Nat × Nat)->PyData
 | none=>.none
 | some (r,k)=>b1f r k
def b3v:DSp:=fun ls Q=>∃ ts:List Str,ls=[.d (.list (ts.map .str))]/\ts.length <= 100/\(∀ t ∈ ts,t.length <= 60000)/\Q (.d (.bool true)) [none]
noncomputable def rwF:PyData->Option PyData
 | .str t=>some (rowD (wordsOf t))
 | _=>none
theorem c5q:∀ l:List Str,(l.map PyData.str).filterMap rwF=l.map fun t=>rowD (wordsOf t)
 | []=>rfl
 | c :: r=>by rw [map_cons,filterMap_cons,c5q r];rfl
section
variable{P:Program}{w:World}{K:W.Frag}{mg:Str->Option Value}{base:Heap}{n:Nat}
abbrev a5t:Stmt:=top 27
theorem a3t:FnScope ["_law_texts","_law_due","_law_at"] ["_law_texts"] (a0g a5t):=⟨rfl,rfl,rfl,by decide +kernel,rfl,by decide +kernel,by decide +kernel⟩
theorem c8u{f f1 f2 f3 f4:Addr}{fd fd1 fd2 fd3 fd4:FuncData} (F:Fun K "_law_right" "_law_right" a5t f fd) (B:Bl mg) (a7p:Def K mg "_law_bad" a7n ["_law_text_here"] f1 fd1) (b4y:FnOk P w K mg base CX0 n f1 fd1 ["_law_text_here"] (spD K c1w))
  (b0l:Def K mg "_law_row" a7o ["_law_text_here"] f2 fd2) (c5r:FnOk P w K mg base CX0 n f2 fd2 ["_law_text_here"] (spD K b7w))
  (a9p:Def K mg "_law_told" a6k ["_law_texts"] f3 fd3) (c1z:FnOk P w K mg base CX0 n f3 fd3 ["_law_texts"] (spD K b7v))
  (a4e:Def K mg "_law_same" a5c ["_law_found","_law_due"] f4 fd4) (a9o:FnOk P w K mg base CX0 n f4 fd4 ["_law_found","_law_due"] (spD K (b1h 5))):FnOk P w K mg base CX0 (n + 1) f fd ["_law_texts"] (spD K b3v):=by
 refine F.dok a3t (fun cdv A outer s H E hr ls Qd h=>?_) (fun ls Qd hq8=>by obtain⟨_,e,_⟩:=hq8;rw [e];rfl)
 obtain⟨ts,rfl,hl,ht,q⟩:=h
 refine⟨rfl,?_⟩
 refine⟨_,(a0j (a2a (i:=1) a3t.nd rfl (Or.inl rfl) a6z)
  (a0j (b2r PassesOwn.never rfl (a3s rfl B.range_ (a1u a1h a3h rfl B.len_ a2i (a0a (dv 0) a0f))) (a2o (i:=2) a3t.nd rfl (Or.inl rfl))
  (a0q (a2f (DW.toT (b6r (a1g b6e b7k (dv 1) a6z (a0p _)) (b3k (a1g d0i d2t (a0n [false] a7p b4y hr rfl (a0a (a1d a0w a1e (dv 0) (dv 2) (fun _ _=>rfl)) a0f)) a6z (a0p _)))))
  (a0q (a2a (i:=1) a3t.nd rfl (Or.inl rfl) (a8i (a0a a0i (a0a (a8i (a0a (dv 2) (a0a (a0n [false] a7p b4y hr rfl (a0a (a1d a0w a1e (dv 0) (dv 2) (fun _ _=>rfl)) a0f)) a0f))) a0f)))))
  a1b)))
  (a0j (a2f (a1g b6e b7k (dv 1) a6z (a0p _))
  (a0q (a2a (i:=1) a3t.nd rfl (Or.inl rfl) (a8i (a0a a0i (a0a (a2j a4k b6n rfl B.tuple_ a4n (a0a (a1m (a5n ["_law_text_here"] [] rfl (by rfl) (by decide +kernel) (b6y (dv 0)) (fun _ _ _=>(a2o (i:=0) (show(["_law_text_here"]:List Str).Nodup by decide +kernel) rfl (Or.inl rfl))) (fun _ _ _=>a6t) (fun _ _ _=>(a0n [false] b0l c5r hr rfl (a0a (dv 0) a0f))))) a0f)) a0f)))))
  a1b)
  (a0q (a1s (a0n [false,false] a4e a9o hr rfl (a0a (a0n [false] a9p c1z hr rfl (a0a (a1m (b4l a9w b8x rfl B.list_ a8b (a0a (dv 0) a0f))) a0f)) (a0a (dv 1) a0f)))))))),?_⟩
 walk_at "dd"
 refine⟨⟨by omega,by rw [length_map];omega⟩,?_⟩
 rw [toNat_natCast,length_map]
 refine a9f (fun i ρ=>∃ (o:Option (Nat × Nat)) (v2:Option L),ρ=[some (.d (.list (ts.map .str))),some (.d (dueD o)),v2]/\(o=none->fbA 0 ts=fbA i (ts.drop i))/\∀ x,o=some x->fbA 0 ts=some x) ⟨none,none,rfl,fun _=>rfl,fun x h=>nomatch h⟩ ?_ ?_
 ·rintro i x ρ N hx ⟨o,v2,rfl,h1,h2⟩ hN
  obtain⟨hi,rfl⟩:=a5z hx
  obtain⟨t,hti⟩:∃ t,ts[i]? = some t:=⟨_,getElem?_eq_getElem hi⟩
  have hat:atI (ts.map PyData.str) (i:Int)=some (.str t):=a2l (j:=i) (by rw [getElem?_map,hti];rfl)
  have htl:=ht t (mem_of_getElem? hti)
  have ed:ts.drop i=t :: ts.drop (i + 1):=by rw [drop_eq_getElem_cons hi,(List.getElem?_eq_some_iff.mp hti).2]
  cases o with
  | some rk =>
   obtain⟨r,k⟩:=rk
   unfold dueD b1f
   walk_at "dd"
   exact hN _ ⟨some (r,k),_,rfl,(fun h=>nomatch h),h2⟩
  | none =>
   have h1:=h1 rfl
   rw [ed] at h1
   unfold dueD
   walk_at "dd"
   refine a0k hat ?_
   walk_at "dd"
   refine⟨t,rfl,by omega,?_⟩
   cases e:a1y (wordsOf t) with
   | none =>
    unfold optN
    walk_at "dd"
    exact hN _ ⟨none,_,rfl,(fun _=>by rw [h1,b7u e]),fun x h=>nomatch h⟩
   | some k =>
    unfold optN
    walk_at "dd"
    refine a0k hat ?_
    walk_at "dd"
    refine⟨t,rfl,by omega,?_⟩
    rw [e]
    unfold optN
    walk_at "dd"
    exact hN _ ⟨some (i,k),_,rfl,(fun h=>nomatch h),fun x h=>by cases h;rw [h1,b3s e]⟩
 rintro ρ ⟨o,v2,rfl,h1,h2⟩
 rw [a5o] at h1
 have et1:∀ {r k},fbA 0 ts=some (r,k)->a6j ts=b1f r k:=fun h=>by unfold a6j;rw [h]
 have et2:fbA 0 ts=none->a6j ts=.tuple [.str "paper",papD ts]:=fun h=>by unfold a6j;rw [h]
 cases o with
 | some rk =>
  obtain⟨r,k⟩:=rk
  have et:=et1 (h2 _ rfl)
  unfold dueD
  walk_at "dd"
  rw [show a2y (b1f r k)=false from rfl]
  walk_at "dd"
  refine⟨ts,rfl,by omega,fun t h=>by have:=ht t h;omega,?_⟩
  rw [et]
  walk_at "dd"
  refine .inl ⟨_,rfl,c5p (d4g r k),?_⟩
  walk_at "dd"
  exact q
 | none =>
  have h1:=h1 rfl
  rw [List.drop_length] at h1
  have et:=et2 h1
  have gd:=b9s h1
  unfold dueD
  walk_at "dd"
  refine⟨by rw [length_map];omega,?_⟩
  refine L2.a7g (fun ρ=>∃ v0:Option L,ρ=[v0]) rwF ⟨_,rfl⟩ ?_ ?_
  ·rintro y ρ N2 hy ⟨v0,rfl⟩ hN2
   obtain⟨t,h,rfl⟩:=mem_map.mp hy
   walk_at "dd"
   refine⟨t,rfl,by have:=ht t h;omega,gd t h,?_⟩
   walk_at "dd"
   exact hN2 _ ⟨_,rfl⟩
  rintro ρ ⟨v0,rfl⟩
  rw [c5q]
  walk_at "dd"
  refine⟨ts,rfl,by omega,fun t h=>by have:=ht t h;omega,?_⟩
  rw [et]
  walk_at "dd"
  refine .inl ⟨_,rfl,c5p (d8y hl ht),?_⟩
  walk_at "dd"
  exact q
end
section
variable{P:Program}{w:World}{K:W.Frag}{mg:Str->Option Value}{base:Heap}{n:Nat}
abbrev a6o:Stmt:=top 28
theorem a7j:FnScope ["_law_script","_law_tape","_law_texts","_law_turn","_law_bent_here","_law_k","_law_at"] ["_law_script"] (a0g a6o):=⟨rfl,rfl,rfl,by decide +kernel,rfl,by decide +kernel,by decide +kernel⟩
theorem d8z{f f1 f2 f3 f4:Addr}{fd fd1 fd2 fd3 fd4:FuncData} (F:Fun K "law" "law" a6o f fd) (B:Bl mg) (a0s:b5z K mg f1 fd1) (a0y:b5y P w K mg base n f1 fd1)
  (a9q:Def K mg "_law_text" a6m ["_law_tape"] f2 fd2) (c2a:FnOk P w K mg base CX0 n f2 fd2 ["_law_tape"] (spD K b3u))
  (a9r:Def K mg "_law_bent" a6n ["_law_tape","_law_text_here"] f3 fd3) (c2b:FnOk P w K mg base CX0 n f3 fd3 ["_law_tape","_law_text_here"] (spD K b7x))
  (a2t:Def K mg "_law_right" a5t ["_law_texts"] f4 fd4) (a4j:FnOk P w K mg base CX0 n f4 fd4 ["_law_texts"] (spD K b3v)):FnOk P w K mg base CX0 (n + 1) f fd ["_law_script"] (b5w K):=by
 refine F.law a7j (fun cdv A outer s H E hr=>?_)
 refine⟨_,_,rfl,a2g (i:=1) a7j.nd rfl (Or.inr rfl) (c2v (a0e (pv 0) (a0e a1c a0l))),_,(a0j (d1e (i:=2) a7j.nd rfl rfl ["_law_k"] [("_law_tape",1)] rfl (by rfl) (by decide +kernel) (a3s rfl B.range_ (b0v a4p a8h a0m (a0n [true,false] a0s a0y hr rfl (a0a (dv 1) (a0a a0m a0f))))) (fun _ _ _=>(a2o (i:=0) (show(["_law_k","_law_tape"]:List Str).Nodup by decide +kernel) rfl (Or.inl rfl))) (fun _ _ _=>a6t) (fun _ _ _=>(a0n [true] a9q c2a hr rfl (a0a (dv 1) a0f))))
  (a0j (a2f (a7c (a7b (a0n [false] a2t a4j hr rfl (a0a (dv 2) a0f))))
  (a0q (a1s b0u))
  a1b)
  (a0j (b2r PassesOwn.never rfl (a3s rfl B.range_ a0m) (a2o (i:=3) a7j.nd rfl (Or.inl rfl))
  (a0j (b3m (i:=4) a7j.nd rfl (Or.inl rfl) (b4l a9w b8x rfl B.list_ a8b (a0a (dv 2) a0f)))
  (a0j (b2r PassesOwn.never rfl (a3s rfl B.range_ (b0v a4p a8h a0m (a0n [true,false] a0s a0y hr rfl (a0a (dv 1) (a0a a0m a0f))))) (a2o (i:=5) a7j.nd rfl (Or.inl rfl))
  (a0j (a2a (i:=6) a7j.nd rfl (Or.inl rfl) (a0n [true,false] a0s a0y hr rfl (a0a (dv 1) (a0a (a1u a1h a3h rfl B.len_ a2i (a0a (dv 4) a0f)) a0f))))
  (a0q (b1v 4 rfl (dv 6) (a0n [true,false] a9r c2b hr rfl (a0a (dv 1) (a0a (a1d a0w a1e (dv 4) (dv 6) (fun _ _=>rfl)) a0f)))))))
  (a0q (a2f (a7c (a7b (a0n [false] a2t a4j hr rfl (a0a (dv 4) a0f))))
  (a0q (a1s b0u))
  a1b)))))
  (a0q (a1s (a7e (a0n [false] a2t a4j hr rfl (a0a (a1m (a2x (a0a a0i a0f))) a0f)) (a7e (a0n [false] a2t a4j hr rfl (a0a (a1m (a2x (a0a a0i a0f))) a0f)) (a7d (a0n [false] a2t a4j hr rfl (a0a (a1m (a2x (a0a a0i a0f))) a0f)))))))))),?_⟩
 walk_at "dd"
 refine⟨0,9,rfl,by decide,by omega,fun r h0 h1=>?_⟩
 obtain⟨m,rfl⟩:∃ m:Nat,r=(m:Int):=⟨r.toNat,by omega⟩
 walk_at "dd"
 refine⟨⟨by omega,by omega⟩,by rw [a5o];omega,?_⟩
 refine a9g (fun i ρ acc=>∃ (v0:Option L) (k':Nat) (ts:List Str),ρ=[v0,some (.tape k')]/\acc=ts.map .str/\k' <= 1 + 20 * i/\ts.length=i/\i <= 10/\∀ t ∈ ts,t.length <= 800) ⟨none,1,[],rfl,rfl,by omega,rfl,by omega,fun t h=>nomatch h⟩ ?_ ?_
 ·rintro i x ρ acc N hx ⟨v0,k',ts,rfl,rfl,hk,hl,hi,ht⟩ hN
  obtain⟨him,rfl⟩:=a5z hx
  walk_at "dd"
  refine⟨k',rfl,by omega,fun t k2 hk2 htl=>?_⟩
  walk_at "dd"
  exact hN _ _ ⟨_,k2,ts ++ [t],rfl,by rw [map_append];rfl,by omega,by rw [length_append,hl];rfl,by omega,fun u hu=>(mem_append.mp hu).elim (ht u) fun h=>by rw [mem_singleton.mp h];exact htl⟩
 rintro ρ acc ⟨v0,k',ts,rfl,rfl,hk,hl,hi,ht⟩
 rw [a5o] at hl hk
 have hl1:1 <= ts.length:=by omega
 have hl2:ts.length <= 10:=by omega
 walk_at "dd"
 refine⟨ts,rfl,by omega,fun t h=>by have:=ht t h;omega,?_⟩
 walk_at "dd"
 refine⟨⟨by decide,by decide⟩,?_⟩
 refine a9f (fun i ρ=>∃ (k2:Nat) (v3 v4 v5 v6:Option L),ρ=[some .scr,some (.tape k2),some (.d (.list (ts.map .str))),v3,v4,v5,v6]/\k2 <= 400 + 40 * i/\i <= 14) ⟨k',none,none,none,none,rfl,by omega,by omega⟩ ?_ ?_
 ·rintro i x ρ N hx ⟨k2,v3,v4,v5,v6,rfl,hk2,hi⟩ hN
  obtain⟨him,rfl⟩:=a5z hx
  have him:i < 14:=him
  walk_at "dd"
  refine⟨k2,2,rfl,by decide,by omega,fun r2 h2 h3=>?_⟩
  obtain⟨m2,rfl⟩:∃ m:Nat,r2=(m:Int):=⟨r2.toNat,by omega⟩
  walk_at "dd"
  refine⟨⟨by omega,by omega⟩,?_⟩
  refine a9f (fun j ρ=>∃ (k3:Nat) (bs:List Str) (v5 v6:Option L),ρ=[some .scr,some (.tape k3),some (.d (.list (ts.map .str))),some (.d (.int (i:Int))),some (.own (bs.map .str)),v5,v6]/\k3 <= k2 + 1 + 11 * j/\bs.length=ts.length/\j <= 2/\(∀ t ∈ bs,t.length <= 60000)/\(j <= 1->∀ t ∈ bs,t.length <= 6500)/\(j=0->∀ t ∈ bs,t.length <= 800)) ⟨k2 + 1,ts,_,_,rfl,by omega,rfl,by omega,(fun t h=>by have:=ht t h;omega),(fun _ t h=>by have:=ht t h;omega),fun _=>ht⟩ ?_ ?_
  ·rintro j x ρ N2 hx ⟨k3,bs,v5,v6,rfl,hk3,hbl,hj,b2,b1,b0⟩ hN2
   obtain⟨hjm,rfl⟩:=a5z hx
   have hj1:j <= 1:=by omega
   walk_at "dd"
   refine⟨k3,_,rfl,by rw [length_map];omega,by omega,fun r3 h4 h5=>?_⟩
   rw [length_map] at h5
   obtain⟨a,rfl⟩:∃ a:Nat,r3=(a:Int):=⟨r3.toNat,by omega⟩
   obtain⟨z,hz⟩:∃ z,bs[a]? = some z:=⟨_,getElem?_eq_getElem (by omega)⟩
   have hzm:=mem_of_getElem? hz
   walk_at "dd"
   refine a0k (a2l (j:=a) (by rw [getElem?_map,hz];rfl)) ?_
   walk_at "dd"
   refine⟨_,z,rfl,by omega,b2 z hzm,fun t' k4 hk4 ht'=>?_⟩
   walk_at "dd"
   refine a0k (d0b (by rw [length_map];omega)) ?_
   have z1:=b1 hj1 z hzm
   refine hN2 _ ⟨k4,bs.set a t',_,_,by rw [map_set],by omega,by rw [length_set];exact hbl,by omega,fun t h=>?_,fun hj2 t h=>?_,fun h=>by omega⟩
   ·rcases List.mem_or_eq_of_mem_set h with h | rfl
    ·exact b2 t h
    ·omega
   ·have z0:=b0 (by omega) z hzm
    rcases List.mem_or_eq_of_mem_set h with h | rfl
    ·exact b1 hj1 t h
    ·omega
  rintro ρ ⟨k3,bs,v5,v6,rfl,hk3,hbl,hj,b2,b1,b0⟩
  walk_at "dd"
  refine⟨bs,rfl,by omega,b2,?_⟩
  walk_at "dd"
  exact hN _ ⟨k3,_,_,_,_,rfl,by rw [a5o] at hk3;omega,by omega⟩
 rintro ρ ⟨k2,v3,v4,v5,v6,rfl,hk2,hi⟩
 walk_at "dd"
 refine⟨[_],rfl,by decide,(fun t h=>by rw [mem_singleton.mp h];decide),?_⟩
 walk_at "dd"
 refine⟨[_],rfl,by decide,(fun t h=>by rw [mem_singleton.mp h];decide),?_⟩
 walk_at "dd"
 refine⟨[_],rfl,by decide,(fun t h=>by rw [mem_singleton.mp h];decide),?_⟩
 walk_at "dd"
end
section
variable{K:W.Frag}{C D N ND:Addr}{nm qn nmD qnD:Str}{bs sub bsD subD:List Value}{hd ab hdD abD:Bool}{sn snD:List Str}{col colD:Option Bool}{dd ddD:Option Addr}{k0 k1 k2 k3 k5 j0 j1 j2 j3 j5:Option Value}{nid mid:String}
theorem d4h(l:K.lookup C=some (excClassObj nm qn C N bs (.ref D :: veM) hd sn sub ab col dd k0 k1 k2 k3 k5 nid))(lD:K.lookup D=some (excClassObj nmD qnD D ND bsD veM hdD snD subD abD colD ddD j0 j1 j2 j3 j5 mid))(x:W.excIn K D veM nid=true):exc2 K C veM nid=true:=by
 unfold W.excIn at x
 rw [lD] at x
 have y:W.nsOkIn K ND=true/\W.nsIn K ND "__init__" = some none:=by
  simp only [excClassObj,and_eq_true,beq_iff_eq] at x
  exact⟨x.1.2,x.2⟩
 have z0:W.tailIn K veM veM=true:=rfl
 have z:W.tailIn K veM (.ref D :: veM)=true:=by
  unfold W.tailIn
  refine Bool.or_eq_true_iff.mpr (.inr ?_)
  dsimp only
  rw [lD]
  simp only [excClassObj,y.1,y.2,z0]
  rfl
 unfold exc2
 rw [l]
 simp only [excClassObj,z]
 simp
theorem d9a(l:K.lookup C=some (excClassObj nm qn C N bs (.ref D :: veM) hd sn sub ab col dd k0 k1 k2 k3 k5 nid))(h:W.hasDictIn K C=true) (s:W.findIn K (.ref C) "__setattr__" = some (some (.builtin "object.__setattr__"))):XSt K C:=by
 unfold W.hasDictIn at h
 cases c:W.clsIn K C with
 | none=>rw [c] at h;cases h
 | some cd =>
  rw [c] at h
  have e:=c
  unfold W.clsIn at e
  rw [l] at e
  have e':=Option.some.inj e
  refine⟨s,cd,D,c,?_,h⟩
  rw [← e']
end
def Lies(K:W.Frag)(x:Str)(st:Stmt)(ps:List Str):Prop:=∃ f fd,Fun K x x st f fd/\W.nsIn K mainGlobals x=some (some (.ref f))/\Binds K fd ps []
abbrev fnX(x:Str)(st:Stmt)(kV dc pm:Value)(an:Option Addr)(cd ct:Value):FuncData:=W.fnOf x x (a2m st) (a1q st) (a0g st) .none kV dc pm an cd ct
def d0c(K:W.Frag)(x:Str)(st:Stmt)(ps:List Str)(c T:Addr):Prop:=∃ f fd,Fun K x x st f fd/\W.nsIn K mainGlobals x=some (some (.ref f))/\Binds K fd ps []/\fd.code=.ref c/\W.codeHdIn K c T=true
theorem c5s{K:W.Frag}{x:Str}{st:Stmt}{ps:List Str}{c T f:Addr}{od an:Option Addr}{sl:Array (Option Value)}{oc kV dc pm ct:Value}(h:W.codeHdIn K c T=true)
  (a:W.nsIn K mainGlobals x=some (some (.ref f))) (l:K.lookup f=some ⟨oc,od,.func (fnX x st kV dc pm an (.ref c) ct),sl⟩) (cc:W.codeIn K (.ref c) x=true) (k:W.keepIn K (.ref f)=true) (hp:ps.length=1)
  (b:∀ (kV dc pm:Value) (an:Option Addr) (cd ct a0:Value),bindArgs (fnX x st kV dc pm an cd ct) ⟨[a0],[]⟩=pure (ps.zip [a0])):d0c K x st ps c T:=⟨f,_,a2q l cc k,a,(a2q l cc k).binds fun kV dc pm an cd ct us hl=>by
  rw [hp] at hl
  obtain⟨a0,u0,rfl,h0⟩:=usS hl
  obtain rfl:=List.eq_nil_of_length_eq_zero h0
  exact b kV dc pm an cd ct a0,rfl,h⟩
theorem a3u{K:W.Frag}{x:Str}{st:Stmt}{ps:List Str}{f:Addr}{od an:Option Addr}{sl:Array (Option Value)}{oc kV dc pm cd ct:Value}
  (a:W.nsIn K mainGlobals x=some (some (.ref f))) (l:K.lookup f=some ⟨oc,od,.func (fnX x st kV dc pm an cd ct),sl⟩) (c:W.codeIn K cd x=true) (k:W.keepIn K (.ref f)=true) (hp:ps.length=1)
  (b:∀ (kV dc pm:Value) (an:Option Addr) (cd ct a0:Value),bindArgs (fnX x st kV dc pm an cd ct) ⟨[a0],[]⟩=pure (ps.zip [a0])):Lies K x st ps:=⟨f,_,a2q l c k,a,(a2q l c k).binds fun kV dc pm an cd ct us hl=>by
  rw [hp] at hl
  obtain⟨a0,u0,rfl,h0⟩:=usS hl
  obtain rfl:=List.eq_nil_of_length_eq_zero h0
  exact b kV dc pm an cd ct a0⟩
theorem a7k{K:W.Frag}{x:Str}{st:Stmt}{ps:List Str}{f:Addr}{od an:Option Addr}{sl:Array (Option Value)}{oc kV dc pm cd ct:Value}
  (a:W.nsIn K mainGlobals x=some (some (.ref f))) (l:K.lookup f=some ⟨oc,od,.func (fnX x st kV dc pm an cd ct),sl⟩) (c:W.codeIn K cd x=true) (k:W.keepIn K (.ref f)=true) (hp:ps.length=2)
  (b:∀ (kV dc pm:Value) (an:Option Addr) (cd ct a0 a1:Value),bindArgs (fnX x st kV dc pm an cd ct) ⟨[a0,a1],[]⟩=pure (ps.zip [a0,a1])):Lies K x st ps:=⟨f,_,a2q l c k,a,(a2q l c k).binds fun kV dc pm an cd ct us hl=>by
  rw [hp] at hl
  obtain⟨a0,u0,rfl,h0⟩:=usS hl
  obtain⟨a1,u1,rfl,h1⟩:=usS h0
  obtain rfl:=List.eq_nil_of_length_eq_zero h1
  exact b kV dc pm an cd ct a0 a1⟩
theorem c8v{K:W.Frag}{x:Str}{st:Stmt}{ps:List Str}{f:Addr}{od an:Option Addr}{sl:Array (Option Value)}{oc kV dc pm cd ct:Value}
  (a:W.nsIn K mainGlobals x=some (some (.ref f))) (l:K.lookup f=some ⟨oc,od,.func (fnX x st kV dc pm an cd ct),sl⟩) (c:W.codeIn K cd x=true) (k:W.keepIn K (.ref f)=true) (hp:ps.length=3)
  (b:∀ (kV dc pm:Value) (an:Option Addr) (cd ct a0 a1 a2:Value),bindArgs (fnX x st kV dc pm an cd ct) ⟨[a0,a1,a2],[]⟩=pure (ps.zip [a0,a1,a2])):Lies K x st ps:=⟨f,_,a2q l c k,a,(a2q l c k).binds fun kV dc pm an cd ct us hl=>by
  rw [hp] at hl
  obtain⟨a0,u0,rfl,h0⟩:=usS hl
  obtain⟨a1,u1,rfl,h1⟩:=usS h0
  obtain⟨a2,u2,rfl,h2⟩:=usS h1
  obtain rfl:=List.eq_nil_of_length_eq_zero h2
  exact b kV dc pm an cd ct a0 a1 a2⟩
theorem d9b{P:Program}{w:World}{K:W.Frag}{h:Heap}{mg:Str->Option Value}{fa:Addr}(X:K.In h)(G:h.Ns mainGlobals mg) (hfa:mg "law" = some (.ref fa))
  (h_is_figures:Lies K "is_figures" a5a ["text","most"])
  (h_read_paper:Lies K "read_paper" a5b ["texts"])
  (h_read_row:d0c K "read_row" a6i ["words"] 139 137)
  (h_law_cell_at:Lies K "_law_cell_at" a3i ["_law_script","_law_k"])
  (h_law_by:Lies K "_law_by" a9l ["_law_script","_law_k","_law_many"])
  (h_law_next:Lies K "_law_next" a6h ["_law_tape","_law_many"])
  (h_law_same:Lies K "_law_same" a5c ["_law_found","_law_due"])
  (h_law_number:Lies K "_law_number" a5d ["_law_tape"])
  (h_law_text:Lies K "_law_text" a6m ["_law_tape"])
  (h_law_is_count:Lies K "_law_is_count" a4c ["_law_word"])
  (h_law_bad:Lies K "_law_bad" a7n ["_law_text_here"])
  (h_law_row:Lies K "_law_row" a7o ["_law_text_here"])
  (h_law_bent:Lies K "_law_bent" a6n ["_law_tape","_law_text_here"])
  (h_law_told:Lies K "_law_told" a6k ["_law_texts"])
  (h_law_right:Lies K "_law_right" a5t ["_law_texts"])
  {f_law:Addr} {od_law an_law:Option Addr} {sl_law:Array (Option Value)} {oc_law kV_law dc_law pm_law cd_law ct_law:Value}
  (a_law:W.nsIn K mainGlobals "law" = some (some (.ref f_law))) (l_law:K.lookup f_law=some ⟨oc_law,od_law,.func (W.fnOf "law" "law" (a2m a6o) (a1q a6o) (a0g a6o) .none kV_law dc_law pm_law an_law cd_law ct_law),sl_law⟩) (c_law:W.codeIn K cd_law "law" = true) (k_law:W.keepIn K (.ref f_law)=true)
  {C_Words:Addr} (aC_Words:W.nsIn K mainGlobals "Words" = some (some (.ref C_Words)))
  {f_winit:Addr} {od_winit an_winit:Option Addr} {sl_winit:Array (Option Value)} {oc_winit kV_winit dc_winit pm_winit cd_winit ct_winit:Value}
  (a_winit:W.findIn K (.ref C_Words) "__init__" = some (some (.ref f_winit))) (i_winit:W.isFn K (.ref f_winit)=true) (l_winit:K.lookup f_winit=some ⟨oc_winit,od_winit,.func (W.fnOf "__init__" "Words.__init__" (a2m a6u) (a1q a6u) (a0g a6u) .none kV_winit dc_winit pm_winit an_winit cd_winit ct_winit),sl_winit⟩) (c_winit:W.codeIn K cd_winit "Words.__init__" = true) (k_winit:W.keepIn K (.ref f_winit)=true)
  {f_taken:Addr} {od_taken an_taken:Option Addr} {sl_taken:Array (Option Value)} {oc_taken kV_taken dc_taken pm_taken cd_taken ct_taken:Value}
  (a_taken:W.findIn K (.ref C_Words) "taken" = some (some (.ref f_taken))) (i_taken:W.isFn K (.ref f_taken)=true) (l_taken:K.lookup f_taken=some ⟨oc_taken,od_taken,.func (W.fnOf "taken" "Words.taken" (a2m a6v) (a1q a6v) (a0g a6v) .none kV_taken dc_taken pm_taken an_taken cd_taken ct_taken),sl_taken⟩) (c_taken:W.codeIn K cd_taken "Words.taken" = true) (k_taken:W.keepIn K (.ref f_taken)=true)
  {f_over:Addr} {od_over an_over:Option Addr} {sl_over:Array (Option Value)} {oc_over kV_over dc_over pm_over cd_over ct_over:Value}
  (a_over:W.findIn K (.ref C_Words) "are_over" = some (some (.ref f_over))) (i_over:W.isFn K (.ref f_over)=true) (l_over:K.lookup f_over=some ⟨oc_over,od_over,.func (W.fnOf "are_over" "Words.are_over" (a2m a8o) (a1q a8o) (a0g a8o) .none kV_over dc_over pm_over an_over cd_over ct_over),sl_over⟩) (c_over:W.codeIn K cd_over "Words.are_over" = true) (k_over:W.keepIn K (.ref f_over)=true)
  {f_wfin:Addr} {od_wfin an_wfin:Option Addr} {sl_wfin:Array (Option Value)} {oc_wfin kV_wfin dc_wfin pm_wfin cd_wfin ct_wfin:Value}
  (a_wfin:W.findIn K (.ref C_Words) "finish" = some (some (.ref f_wfin))) (i_wfin:W.isFn K (.ref f_wfin)=true) (l_wfin:K.lookup f_wfin=some ⟨oc_wfin,od_wfin,.func (W.fnOf "finish" "Words.finish" (a2m a8p) (a1q a8p) (a0g a8p) .none kV_wfin dc_wfin pm_wfin an_wfin cd_wfin ct_wfin),sl_wfin⟩) (c_wfin:W.codeIn K cd_wfin "Words.finish" = true) (k_wfin:W.keepIn K (.ref f_wfin)=true)
  (pg_Words:W.plainGet K C_Words Str.empty=true) (hd_Words:W.hasDictIn K C_Words=true) (po_Words:W.plainOver K C_Words=true) (sa_Words:W.findIn K (.ref C_Words) "__setattr__" = some (some (.builtin "object.__setattr__"))) (mk_Words:W.makesIn K C_Words=true) (kc_Words:W.keepIn K (.ref C_Words)=true)
  (n_Words_row:W.findIn K (.ref C_Words) "row" = some none)
  (n_Words_words:W.findIn K (.ref C_Words) "words" = some none)
  (n_Words_place:W.findIn K (.ref C_Words) "place" = some none)
  (z_len:W.nsIn K mainGlobals "len" = some none)
  (z_range:W.nsIn K mainGlobals "range" = some none)
  (z_tuple:W.nsIn K mainGlobals "tuple" = some none)
  (z_bool:W.nsIn K mainGlobals "bool" = some none)
  (z_isinstance:W.nsIn K mainGlobals "isinstance" = some none)
  (z_reversed:W.nsIn K mainGlobals "reversed" = some none)
  (z_max:W.nsIn K mainGlobals "max" = some none)
  (z_zip:W.nsIn K mainGlobals "zip" = some none)
  (z_list:W.nsIn K mainGlobals "list" = some none)
  (z_str:W.nsIn K mainGlobals "str" = some none)
  (z_enumerate:W.nsIn K mainGlobals "enumerate" = some none)
  (z_dict:W.nsIn K mainGlobals "dict" = some none)
  (z_sum:W.nsIn K mainGlobals "sum" = some none)
  (z_int:W.nsIn K mainGlobals "int" = some none)
  (z_min:W.nsIn K mainGlobals "min" = some none)
  (z_sorted:W.nsIn K mainGlobals "sorted" = some none)
  (z_all:W.nsIn K mainGlobals "all" = some none)
  (z_set:W.nsIn K mainGlobals "set" = some none)
  (z_repr:W.nsIn K mainGlobals "repr" = some none)
  (z_any:W.nsIn K mainGlobals "any" = some none)
  {C_WorldError:Addr} (aC_WorldError:W.nsIn K mainGlobals "WorldError" = some (some (.ref C_WorldError)))
  {C_NoText:Addr} (aC_NoText:W.nsIn K mainGlobals "NoText" = some (some (.ref C_NoText)))
  {nm_WorldError qn_WorldError:Str} {N_WorldError:Addr} {bs_WorldError sub_WorldError:List Value} {hd_WorldError ab_WorldError:Bool} {sn_WorldError:List Str} {col_WorldError:Option Bool} {dd_WorldError:Option Addr} {k0_WorldError k1_WorldError k2_WorldError k3_WorldError k5_WorldError:Option Value} (lC_WorldError:K.lookup C_WorldError=some (excClassObj nm_WorldError qn_WorldError C_WorldError N_WorldError bs_WorldError [.type "ValueError",.type "Exception",.type "BaseException",.type "object"] hd_WorldError sn_WorldError sub_WorldError ab_WorldError col_WorldError dd_WorldError k0_WorldError k1_WorldError k2_WorldError k3_WorldError k5_WorldError "ValueError.__new__"))
  {nm_NoText qn_NoText:Str} {N_NoText:Addr} {bs_NoText sub_NoText:List Value} {hd_NoText ab_NoText:Bool} {sn_NoText:List Str} {col_NoText:Option Bool} {dd_NoText:Option Addr} {k0_NoText k1_NoText k2_NoText k3_NoText k5_NoText:Option Value} (lC_NoText:K.lookup C_NoText=some (excClassObj nm_NoText qn_NoText C_NoText N_NoText bs_NoText [.ref C_WorldError,.type "ValueError",.type "Exception",.type "BaseException",.type "object"] hd_NoText sn_NoText sub_NoText ab_NoText col_NoText dd_NoText k0_NoText k1_NoText k2_NoText k3_NoText k5_NoText "ValueError.__new__"))
  (z_ValueError:W.nsIn K mainGlobals "ValueError" = some none)
  (fd_X:W.specialIn K (.builtin "object.__class__") "__get__" = some (some (.builtin "getset_descriptor.__get__"))) (fe_X:W.takesIn K (.builtin "object.__class__")=some true)
  (xe_WorldError:W.excIn K C_WorldError veM "ValueError.__new__" = true)
  (fa_NoText:W.findIn K (.ref C_NoText) "__getattribute__" = some (some (.builtin "BaseException.__getattribute__"))) (fb_NoText:W.findIn K (.ref C_NoText) "__getattr__" = some none) (fc_NoText:W.findIn K (.ref C_NoText) "__class__" = some (some (.builtin "object.__class__"))) (ff_NoText:W.mroIn K C_NoText (.type "object")=some true) (fg_NoText:W.mroIn K C_NoText (.type "BaseException")=some true) (kv_NoText:W.kitOne K (.ref C_NoText) (.type "ValueError")=some true)
  (kt_NoText_NoText:W.kitOne K (.ref C_NoText) (.ref C_NoText)=some true)
  {f_i0:Addr} {od_i0 an_i0:Option Addr} {sl_i0:Array (Option Value)} {oc_i0 kV_i0 dc_i0 pm_i0 cd_i0 ct_i0:Value}
  (a_i0:W.findIn K (.ref C_NoText) "__init__" = some (some (.ref f_i0))) (i_i0:W.isFn K (.ref f_i0)=true) (l_i0:K.lookup f_i0=some ⟨oc_i0,od_i0,.func (W.fnOf "__init__" "NoText.__init__" (a2m s_i0) (a1q s_i0) (a0g s_i0) .none kV_i0 dc_i0 pm_i0 an_i0 cd_i0 ct_i0),sl_i0⟩) (c_i0:W.codeIn K cd_i0 "NoText.__init__" = true) (k_i0:W.keepIn K (.ref f_i0)=true)
  (hh_NoText:W.hasDictIn K C_NoText=true) (sa_NoText:W.findIn K (.ref C_NoText) "__setattr__" = some (some (.builtin "object.__setattr__"))) (kc_NoText:W.keepIn K (.ref C_NoText)=true)
  (nx_row:W.findIn K (.ref C_NoText) "row" = some none)
  (nx_word:W.findIn K (.ref C_NoText) "word" = some none)
  {C_NoChange:Addr} (aC_NoChange:W.nsIn K mainGlobals "NoChange" = some (some (.ref C_NoChange)))
  {C_NoLine:Addr} (aC_NoLine:W.nsIn K mainGlobals "NoLine" = some (some (.ref C_NoLine)))
  {C_TooMany:Addr} (aC_TooMany:W.nsIn K mainGlobals "TooMany" = some (some (.ref C_TooMany)))
  (ko_NoText:W.kitAny K (.ref C_NoText) [.ref C_NoChange,.ref C_NoLine,.ref C_TooMany]=some false)
  {tk_FIGURES:Tok} (a_FIGURES:W.nsIn K mainGlobals "FIGURES" = some (some (.str "0123456789" tk_FIGURES)))
  {aT_WORDS_OF_TRUTH:Addr} {ep_WORDS_OF_TRUTH:Nat} {kt_WORDS_OF_TRUTH_0 kt_WORDS_OF_TRUTH_1:Tok} (a_WORDS_OF_TRUTH:W.nsIn K mainGlobals "WORDS_OF_TRUTH" = some (some (.ref aT_WORDS_OF_TRUTH)))
  (l_WORDS_OF_TRUTH:K.lookup aT_WORDS_OF_TRUTH=some ⟨.type "dict",none,.dict #[⟨PyData.keyHash w.params "yes",.str "yes" kt_WORDS_OF_TRUTH_0,.bool true⟩,⟨PyData.keyHash w.params "no",.str "no" kt_WORDS_OF_TRUTH_1,.bool false⟩] ep_WORDS_OF_TRUTH,#[]⟩) (sy_WORDS_OF_TRUTH:(aT_WORDS_OF_TRUTH == sysModules)=false)
  {tk_MOST_FIGURES:Tok} (a_MOST_FIGURES:W.nsIn K mainGlobals "MOST_FIGURES" = some (some (.int 9 tk_MOST_FIGURES)))
  : ∃ fd:FuncData,(∀ (s:Shared) (v:Value),BindsTo s fd ⟨[v],[]⟩ [("_law_script",v)])/\∀ base:Heap,K.In base->base.Ns mainGlobals mg->BMain mg base->FnOk P w K mg base CX0 40 fa fd ["_law_script"] (b5w K):=by
 have e:=hfa.symm.trans (W.mg_of X G a_law)
 cases e
 obtain⟨f_is_figures,_,F_is_figures,b7y,b_is_figures⟩:=h_is_figures
 have d_is_figures:Def K mg _ _ _ _ _:=⟨F_is_figures,b_is_figures,W.mg_of X G b7y⟩
 obtain⟨f_read_paper,_,F_read_paper,a_read_paper,b_read_paper⟩:=h_read_paper
 have d_read_paper:Def K mg _ _ _ _ _:=⟨F_read_paper,b_read_paper,W.mg_of X G a_read_paper⟩
 obtain⟨f_read_row,fd_read_row,F_read_row,a_read_row,b_read_row,hc_read_row,hC_read_row⟩:=h_read_row
 have d_read_row:Def K mg _ _ _ _ _:=⟨F_read_row,b_read_row,W.mg_of X G a_read_row⟩
 obtain⟨d4i,_,b5i,b5j,b_law_cell_at⟩:=h_law_cell_at
 have a2p:Def K mg _ _ _ _ _:=⟨b5i,b_law_cell_at,W.mg_of X G b5j⟩
 obtain⟨d9c,_,c8w,c8x,b_law_by⟩:=h_law_by
 have a9m:Def K mg _ _ _ _ _:=⟨c8w,b_law_by,W.mg_of X G c8x⟩
 obtain⟨c2c,_,b3a,c2d,b_law_next⟩:=h_law_next
 have a0s:Def K mg _ _ _ _ _:=⟨b3a,b_law_next,W.mg_of X G c2d⟩
 obtain⟨c2e,_,b3b,c2f,b_law_same⟩:=h_law_same
 have a4e:Def K mg _ _ _ _ _:=⟨b3b,b_law_same,W.mg_of X G c2f⟩
 obtain⟨b7z,_,b0m,b8a,b_law_number⟩:=h_law_number
 have a2z:Def K mg _ _ _ _ _:=⟨b0m,b_law_number,W.mg_of X G b8a⟩
 obtain⟨c2g,_,b3c,c2h,b_law_text⟩:=h_law_text
 have a9q:Def K mg _ _ _ _ _:=⟨b3c,b_law_text,W.mg_of X G c2h⟩
 obtain⟨b3w,_,a8u,b3x,b_law_is_count⟩:=h_law_is_count
 have a4d:Def K mg _ _ _ _ _:=⟨a8u,b_law_is_count,W.mg_of X G b3x⟩
 obtain⟨c5t,_,b4z,c5u,b_law_bad⟩:=h_law_bad
 have a7p:Def K mg _ _ _ _ _:=⟨b4z,b_law_bad,W.mg_of X G c5u⟩
 obtain⟨c5v,_,b5a,c5w,b_law_row⟩:=h_law_row
 have b0l:Def K mg _ _ _ _ _:=⟨b5a,b_law_row,W.mg_of X G c5w⟩
 obtain⟨c2i,_,b3d,c2j,b_law_bent⟩:=h_law_bent
 have a9r:Def K mg _ _ _ _ _:=⟨b3d,b_law_bent,W.mg_of X G c2j⟩
 obtain⟨c2k,_,b3e,c2l,b_law_told⟩:=h_law_told
 have a9p:Def K mg _ _ _ _ _:=⟨b3e,b_law_told,W.mg_of X G c2l⟩
 obtain⟨b8f,_,b1n,b8g,b_law_right⟩:=h_law_right
 have a2t:Def K mg _ _ _ _ _:=⟨b1n,b_law_right,W.mg_of X G b8g⟩
 have F_law:=a2q (st:=a6o) l_law c_law k_law
 have F_winit:=a2q (st:=a6u) l_winit c_winit k_winit
 have b_winit:=F_winit.binds (ps:=["self","row","text"]) fun _ _ _ _ _ _ us hl=>match us,hl with | [_,_,_],_=>rfl
 have F_taken:=a2q (st:=a6v) l_taken c_taken k_taken
 have b_taken:=F_taken.binds (ps:=["self","fits"]) fun _ _ _ _ _ _ us hl=>match us,hl with | [_,_],_=>rfl
 have m_taken:Meth K C_Words "taken" f_taken:=⟨a_taken,i_taken,k_taken⟩
 have F_over:=a2q (st:=a8o) l_over c_over k_over
 have b_over:=F_over.binds (ps:=["self"]) fun _ _ _ _ _ _ us hl=>match us,hl with | [_],_=>rfl
 have m_over:Meth K C_Words "are_over" f_over:=⟨a_over,i_over,k_over⟩
 have F_wfin:=a2q (st:=a8p) l_wfin c_wfin k_wfin
 have b_wfin:=F_wfin.binds (ps:=["self"]) fun _ _ _ _ _ _ us hl=>match us,hl with | [_],_=>rfl
 have m_wfin:Meth K C_Words "finish" f_wfin:=⟨a_wfin,i_wfin,k_wfin⟩
 have T_Words:TxtF K mg C_Words:=⟨⟨pg_Words,hd_Words,po_Words,sa_Words⟩,n_Words_row,n_Words_words,n_Words_place,W.mg_of X G aC_Words⟩
 have M_Words:Mk K C_Words f_winit:=⟨mk_Words,a_winit,i_winit,kc_Words⟩
 have B:Bl mg:=⟨W.mg_none_of X G z_len,W.mg_none_of X G z_range,W.mg_none_of X G z_tuple,W.mg_none_of X G z_bool,W.mg_none_of X G z_isinstance,W.mg_none_of X G z_reversed,W.mg_none_of X G z_max,W.mg_none_of X G z_zip,W.mg_none_of X G z_list,W.mg_none_of X G z_str,W.mg_none_of X G z_enumerate,W.mg_none_of X G z_dict,W.mg_none_of X G z_sum,W.mg_none_of X G z_int,W.mg_none_of X G z_min,W.mg_none_of X G z_sorted,W.mg_none_of X G z_all,W.mg_none_of X G z_set,W.mg_none_of X G z_repr,W.mg_none_of X G z_any⟩
 have m_WorldError:mg "WorldError" = some (.ref C_WorldError):=W.mg_of X G aC_WorldError
 have m_NoText:mg "NoText" = some (.ref C_NoText):=W.mg_of X G aC_NoText
 have c_WorldError:XCls K C_WorldError [.type "ValueError",.type "Exception",.type "BaseException",.type "object"]:=⟨⟨_,_,_,_,_,_,_,_,_,_,_,_,_,_,_,_,lC_WorldError⟩,rfl⟩
 have c_NoText:XCls K C_NoText [.ref C_WorldError,.type "ValueError",.type "Exception",.type "BaseException",.type "object"]:=⟨⟨_,_,_,_,_,_,_,_,_,_,_,_,_,_,_,_,lC_NoText⟩,rfl⟩
 have z_VE:=W.mg_none_of X G z_ValueError
 have o_NoText:XOk2 K C_NoText:=⟨⟨_,_,lC_NoText,rfl⟩,⟨fa_NoText,fb_NoText,fc_NoText,fd_X,fe_X,ff_NoText,fg_NoText⟩⟩
 have F_i0:=a2q (st:=s_i0) l_i0 c_i0 k_i0
 have b_i0:=F_i0.binds (ps:=["self","row","word"]) fun _ _ _ _ _ _ us hl=>match us,hl with | [_,_,_],_=>rfl
 have M_NoText:XMk K C_NoText f_i0:=⟨d4h lC_NoText lC_WorldError xe_WorldError,a_i0,beq_iff_eq.mp i_i0,kc_NoText⟩
 have t_NoText:XSt K C_NoText:=d9a lC_NoText hh_NoText sa_NoText
 have m_NoChange:mg "NoChange" = some (.ref C_NoChange):=W.mg_of X G aC_NoChange
 have m_NoLine:mg "NoLine" = some (.ref C_NoLine):=W.mg_of X G aC_NoLine
 have m_TooMany:mg "TooMany" = some (.ref C_TooMany):=W.mg_of X G aC_TooMany
 have m_FIGURES:∃ t,mg "FIGURES" = some (.str "0123456789" t):=⟨_,W.mg_of X G a_FIGURES⟩
 have kd_WORDS_OF_TRUTH:KDict K w aT_WORDS_OF_TRUTH [("yes",.bl true),("no",.bl false)]:=⟨show(["yes","no"]:List Str).Nodup by decide +kernel,_,_,l_WORDS_OF_TRUTH,(.cons rfl (.cons rfl .nil))⟩
 have tb_WORDS_OF_TRUTH:TabT K w mg:=⟨aT_WORDS_OF_TRUTH,W.mg_of X G a_WORDS_OF_TRUTH,kd_WORDS_OF_TRUTH,sy_WORDS_OF_TRUTH⟩
 have m_MOST_FIGURES:∃ t,mg "MOST_FIGURES" = some (.int 9 t):=⟨_,W.mg_of X G a_MOST_FIGURES⟩
 refine⟨W.fnOf "law" "law" (a2m a6o) (a1q a6o) (a0g a6o) .none kV_law dc_law pm_law an_law cd_law ct_law,fun s v=>.of_eq rfl,fun base _ _ bm=>?_⟩
 have gn:FnOk P w K mg base CX0 3 c2c _ _ _:=d3v b3a B a2p a9m
 have xx:ExN K mg C_NoText:=⟨m_NoText,t_NoText,nx_row,nx_word⟩
 have x2:Ex85 K mg C_NoText:=⟨_,_,_,_,_,_,m_WorldError,m_NoChange,m_NoLine,m_TooMany,z_VE,c_NoText,c_WorldError,by simp,o_NoText,kv_NoText,ko_NoText,hh_NoText⟩
 have gF:FnOk P w K mg base CX0 1 f_is_figures _ _ (spD K b2x):=d3w F_is_figures B m_FIGURES
 have gI:FnOk P w K mg base CX0 1 f_i0 _ _ (spI0 C_NoText):=ok_i0 F_i0 xx
 have gW:FnOk P w K mg base CX0 1 f_winit _ _ (b3r C_Words):=c8m F_winit T_Words
 have gO:FnOk P w K mg base CX0 1 f_over _ _ (b2y C_Words):=d3z F_over B T_Words
 have gT:FnOk P w K mg base (CX2 P w) 3 f_taken _ _ (b1e P w K mg base 2 C_Words C_NoText):=c8n F_taken T_Words xx m_over b_over gO M_NoText gI b_i0
 have gE:FnOk P w K mg base (CX2 P w) 3 f_wfin _ _ (b7t C_Words C_NoText):=d4a F_wfin T_Words xx m_over b_over gO M_NoText gI b_i0
 have gR:FnOk P w K mg base (CX2 P w) 4 f_read_row _ _ (c1u K C_Words C_NoText):=b8d F_read_row B T_Words bm hc_read_row hC_read_row m_MOST_FIGURES tb_WORDS_OF_TRUTH m_taken b_taken gT m_wfin b_wfin gE d_is_figures gF
 have gP:FnOk P w K mg base (CX2 P w) 5 f_read_paper _ _ (b1z K C_NoText):=b5g F_read_paper B T_Words M_Words b_winit (gW.mono (by decide:1 <= 3)) d_read_row gR
 have gU:FnOk P w K mg base CX0 6 c2k _ _ (spD K b7v):=d4c b3e B xx x2 d_read_paper gP
 have gC:FnOk P w K mg base CX0 1 b3w _ _ (spD K c1v):=d8t a8u B
 have gB:FnOk P w K mg base CX0 2 c5t _ _ (spD K c1w):=d8u b4z B a4d gC
 have gL:FnOk P w K mg base CX0 1 c5v _ _ (spD K b7w):=d4d b5a B
 have gN:FnOk P w K mg base CX0 4 b7z _ _ (spD K c1y):=d8w b0m B a0s gn
 have gX:FnOk P w K mg base CX0 5 c2g _ _ (spD K b3u):=c8s b3c B a0s (gn.mono (by decide:3 <= 4)) a2z gN
 have gV:FnOk P w K mg base CX0 4 c2i _ _ (spD K b7x):=d4f b3d B a0s gn
 have gM:∀ m,FnOk P w K mg base CX0 (m + 1) c2e _ _ (spD K (b1h m)):=fun m=>by
  induction m with
  | zero=>exact d2k fun ls Q h=>by rcases h with⟨d,_,h,_⟩ | ⟨d,_,h,_⟩<;>exact h
  | succ m ih=>exact c8r b3b B a4e ih
 have gQ:FnOk P w K mg base CX0 7 b8f _ _ (spD K b3v):=c8u b1n B a7p (gB.mono (by decide:2 <= 6)) b0l (gL.mono (by decide:1 <= 6)) a9p gU a4e (gM 5)
 exact d8z F_law B a0s (gn.mono (by decide:3 <= 39)) a9q (gX.mono (by decide:5 <= 39)) a9r (gV.mono (by decide:4 <= 39)) a2t (gQ.mono (by decide:7 <= 39))
end K85
namespace PySem.W.Fast
def tw14769612180898888074:=()
def tw5669863492729286038:=()
def tw11715691100857161970:=()
def tw7985148518854448335:=()
def tw10780869600306659266:=PySem.Challenge.pw_worldsay_k85_texts_of_no_paper
theorem te10780869600306659266:PySem.Challenge.pw_worldsay_k85_texts_of_no_paper=tw10780869600306659266:=rfl
def tw1334699628486101090:=()
def tw6498749111993934531:=()
def tw10442508009417528615:=()
def tw16073607956317172798:=()
def tw2975373353035336858:=()
def tw1830316824661633708:=()
def tw7945570639944867084:=()
def tw9478217341362837931:=()
def tw13211307338210409087:=()
def tw14044643043631614708:=()
def tw4342975977101825498:=()
def tw1799011243508303861:=()
def tw10439357776457666672:=()
def tw6452557398243170296:=()
def tw17109405485616636333:=()
def tw9784715682093819699:=()
def tw11417301519781751334:=()
def tw17715880504665232143:=()
def tw11538236158727025824:=()
def tw1025728254477386858:=()
def tw1161526345860828602:=()
def tw476794349092243128:=()
def tw6254329556438754880:=()
def tw9210554464786594975:=()
def tw15616474004770647551:=()
def tw5781187940708769584:=()
def tw7505282365760024860:=()
def tw13616714809879017366:=()
def tw3877184375700519869:=()
def tw16545684025037375261:=()
def tw1029244391369564078:=()
def tw4376273327279392397:=()
def tw13669683318884960146:=()
def tw14565652275762263196:=()
def tw5665550881539542995:=()
def tw8474762408793180979:=()
def tw15246261254628152477:=()
def tw5328359022818247431:=()
def tw11545726871361258806:=()
def tw16833617764578528796:=()
def tw1848101039824545722:=()
def tw10208774984314345679:=()
def tw15465256699864149534:=()
def tw14608755964548058329:=()
def tw4793878994927085029:=()
def tw11456949072049214085:=()
def tw1890566517857935413:=()
def tw15218525375639363597:=()
def tw15399672172126166193:=()
def tw11312480077040476525:=()
def tw11584166402518694672:=()
def tw5129737325924950762:=()
def tw1190755562225976634:=()
def tw4287925996042964754:=()
def tw16928710102474676863:=()
def tw2158713055184167250:=()
def tw321139218557270982:=()
def tw11261101789173201274:=()
def tw6368557592924641924:=()
def tw9719069592633461002:=()
def tw2296976759220710653:=()
def tw15564329693506920044:=()
def tw16308202957607500290:=()
def tw14351789989926927369:=()
def tw10437939247535397919:=()
def tw8635169061475590910:=()
def tw17242455309782408670:=()
def tw15442765936456989736:=()
def tw14687596188814635684:=()
def tw2318993211073272514:=()
def tw3681366947051796574:=()
def tw2419850981462057021:=()
def tw1540954724826168640:=()
def tw16203741789062736218:=()
def tw10803635887479650985:=()
def tw8650674911124573459:=()
def tw2167625109080624838:=()
def tw8656672560479220487:=()
def tw13780629695636567617:=()
def tw6246975362092592351:=()
def tw10611645158873853039:=()
def tw7557131300170395634:=()
def tw5519775771537310599:=()
def tw6280562086188229032:=()
def tw18329608998159588823:=()
def tw17088654654052031025:=()
def tw3275881123762644400:=()
def tw17627993600371820193:=()
def tw10594566000560332236:=()
def tw13358362357813002185:=()
def tw8191892339292069815:=()
def tw16500735017729408894:=()
def tw13419124453673089259:=()
def tw8405428364977289930:=()
def tw11954868814053341250:=()
end PySem.W.Fast
open PySem PySem.W PyProof.Rows
set_option maxRecDepth 100000 in
set_option maxHeartbeats 0 in
theorem PySem.Challenge.cw_worldsay_k85_texts_of_no_paper_holds : PySem.Challenge.rw_worldsay_k85_texts_of_no_paper.Holds := by
 w_on;o_law;k_head;(case hw=>w_witness2)
 k_fill
 refine L2.c8b (tl:=[(139,137,"read_row.<locals>.<lambda>")]) (l:=PySem.Challenge.rw_worldsay_k85_texts_of_no_paper) (n:=63) (k:=40) (x:="_law_script") (CX:=fun _=>L2.CX0) (sp:=fun w=>L2.b5w (_:PySem.W.Frag)) rfl (by decide) rfl ⟨rfl,by decide,by decide,rfl⟩ (fun w h Y=>⟨PySem.W.km_in_of Y,fun p hp=>PySem.W.km_tabs_of Y _ (by revert p;decide)⟩) (fun w=>by rfl) (by decide) (fun w=>by rfl) ?F (fun w H a ns hl hO hS=>⟨a,ns,rfl,hS,hO,hl,fun _=>rfl⟩) (fun _ _ _ _ _ z=>z)
 case F =>
  intro w mg fa h KX G hmg
  refine' K85.d9b KX G hmg ?h_is_figures ?h_read_paper ?h_read_row ?h_law_cell_at ?h_law_by ?h_law_next ?h_law_same ?h_law_number ?h_law_text ?h_law_is_count ?h_law_bad ?h_law_row ?h_law_bent ?h_law_told ?h_law_right ?a_law ?l_law ?c_law ?k_law ?aC_Words ?a_winit ?i_winit ?l_winit ?c_winit ?k_winit ?a_taken ?i_taken ?l_taken ?c_taken ?k_taken ?a_over ?i_over ?l_over ?c_over ?k_over ?a_wfin ?i_wfin ?l_wfin ?c_wfin ?k_wfin ?pg_Words ?hd_Words ?po_Words ?sa_Words ?mk_Words ?kc_Words ?n_Words_row ?n_Words_words ?n_Words_place ?z_len ?z_range ?z_tuple ?z_bool ?z_isinstance ?z_reversed ?z_max ?z_zip ?z_list ?z_str ?z_enumerate ?z_dict ?z_sum ?z_int ?z_min ?z_sorted ?z_all ?z_set ?z_repr ?z_any ?aC_WorldError ?aC_NoText ?lC_WorldError ?lC_NoText ?z_ValueError ?fd_X ?fe_X ?xe_WorldError ?fa_NoText ?fb_NoText ?fc_NoText ?ff_NoText ?fg_NoText ?kv_NoText ?kt_NoText_NoText ?a_i0 ?i_i0 ?l_i0 ?c_i0 ?k_i0 ?hh_NoText ?sa_NoText ?kc_NoText ?nx_row ?nx_word ?aC_NoChange ?aC_NoLine ?aC_TooMany ?ko_NoText ?a_FIGURES ?a_WORDS_OF_TRUTH ?l_WORDS_OF_TRUTH ?sy_WORDS_OF_TRUTH ?a_MOST_FIGURES
  (case h_is_figures=>refine' K85.a7k ?h_is_figuresa ?h_is_figuresl ?h_is_figuresc ?h_is_figuresk rfl (fun _ _ _ _ _ _ _ _  => rfl);(case h_is_figuresa=>k_is);(case h_is_figuresl=>k_is);(case h_is_figuresc=>k_is);(case h_is_figuresk=>k_is))
  (case h_read_paper=>refine' K85.a3u ?h_read_papera ?h_read_paperl ?h_read_paperc ?h_read_paperk rfl (fun _ _ _ _ _ _ _  => rfl);(case h_read_papera=>k_is);(case h_read_paperl=>k_is);(case h_read_paperc=>k_is);(case h_read_paperk=>k_is))
  (case h_read_row=>refine' K85.c5s ?h_read_rowh ?h_read_rowa ?h_read_rowl ?h_read_rowc ?h_read_rowk rfl (fun _ _ _ _ _ _ _  => rfl);(case h_read_rowa=>k_is);(case h_read_rowl=>k_is);(case h_read_rowc=>k_is);(case h_read_rowk=>k_is);(case h_read_rowh=>first | rfl | decide))
  (case h_law_cell_at=>refine' K85.a7k ?h_law_cell_ata ?h_law_cell_atl ?h_law_cell_atc ?h_law_cell_atk rfl (fun _ _ _ _ _ _ _ _  => rfl);(case h_law_cell_ata=>k_is);(case h_law_cell_atl=>k_is);(case h_law_cell_atc=>k_is);(case h_law_cell_atk=>k_is))
  (case h_law_by=>refine' K85.c8v ?h_law_bya ?h_law_byl ?h_law_byc ?h_law_byk rfl (fun _ _ _ _ _ _ _ _ _  => rfl);(case h_law_bya=>k_is);(case h_law_byl=>k_is);(case h_law_byc=>k_is);(case h_law_byk=>k_is))
  (case h_law_next=>refine' K85.a7k ?h_law_nexta ?h_law_nextl ?h_law_nextc ?h_law_nextk rfl (fun _ _ _ _ _ _ _ _  => rfl);(case h_law_nexta=>k_is);(case h_law_nextl=>k_is);(case h_law_nextc=>k_is);(case h_law_nextk=>k_is))
  (case h_law_same=>refine' K85.a7k ?h_law_samea ?h_law_samel ?h_law_samec ?h_law_samek rfl (fun _ _ _ _ _ _ _ _  => rfl);(case h_law_samea=>k_is);(case h_law_samel=>k_is);(case h_law_samec=>k_is);(case h_law_samek=>k_is))
  (case h_law_number=>refine' K85.a3u ?h_law_numbera ?h_law_numberl ?h_law_numberc ?h_law_numberk rfl (fun _ _ _ _ _ _ _  => rfl);(case h_law_numbera=>k_is);(case h_law_numberl=>k_is);(case h_law_numberc=>k_is);(case h_law_numberk=>k_is))
  (case h_law_text=>refine' K85.a3u ?h_law_texta ?h_law_textl ?h_law_textc ?h_law_textk rfl (fun _ _ _ _ _ _ _  => rfl);(case h_law_texta=>k_is);(case h_law_textl=>k_is);(case h_law_textc=>k_is);(case h_law_textk=>k_is))
  (case h_law_is_count=>refine' K85.a3u ?h_law_is_counta ?h_law_is_countl ?h_law_is_countc ?h_law_is_countk rfl (fun _ _ _ _ _ _ _  => rfl);(case h_law_is_counta=>k_is);(case h_law_is_countl=>k_is);(case h_law_is_countc=>k_is);(case h_law_is_countk=>k_is))
  (case h_law_bad=>refine' K85.a3u ?h_law_bada ?h_law_badl ?h_law_badc ?h_law_badk rfl (fun _ _ _ _ _ _ _  => rfl);(case h_law_bada=>k_is);(case h_law_badl=>k_is);(case h_law_badc=>k_is);(case h_law_badk=>k_is))
  (case h_law_row=>refine' K85.a3u ?h_law_rowa ?h_law_rowl ?h_law_rowc ?h_law_rowk rfl (fun _ _ _ _ _ _ _  => rfl);(case h_law_rowa=>k_is);(case h_law_rowl=>k_is);(case h_law_rowc=>k_is);(case h_law_rowk=>k_is))
  (case h_law_bent=>refine' K85.a7k ?h_law_benta ?h_law_bentl ?h_law_bentc ?h_law_bentk rfl (fun _ _ _ _ _ _ _ _  => rfl);(case h_law_benta=>k_is);(case h_law_bentl=>k_is);(case h_law_bentc=>k_is);(case h_law_bentk=>k_is))
  (case h_law_told=>refine' K85.a3u ?h_law_tolda ?h_law_toldl ?h_law_toldc ?h_law_toldk rfl (fun _ _ _ _ _ _ _  => rfl);(case h_law_tolda=>k_is);(case h_law_toldl=>k_is);(case h_law_toldc=>k_is);(case h_law_toldk=>k_is))
  (case h_law_right=>refine' K85.a3u ?h_law_righta ?h_law_rightl ?h_law_rightc ?h_law_rightk rfl (fun _ _ _ _ _ _ _  => rfl);(case h_law_righta=>k_is);(case h_law_rightl=>k_is);(case h_law_rightc=>k_is);(case h_law_rightk=>k_is))
  (case a_law=>k_is)
  (case l_law=>k_is)
  (case c_law=>k_is)
  (case k_law=>k_is)
  (case aC_Words=>k_is)
  (case a_winit=>k_is)
  (case i_winit=>k_is)
  (case l_winit=>k_is)
  (case c_winit=>k_is)
  (case k_winit=>k_is)
  (case a_taken=>k_is)
  (case i_taken=>k_is)
  (case l_taken=>k_is)
  (case c_taken=>k_is)
  (case k_taken=>k_is)
  (case a_over=>k_is)
  (case i_over=>k_is)
  (case l_over=>k_is)
  (case c_over=>k_is)
  (case k_over=>k_is)
  (case a_wfin=>k_is)
  (case i_wfin=>k_is)
  (case l_wfin=>k_is)
  (case c_wfin=>k_is)
  (case k_wfin=>k_is)
  (case pg_Words=>k_is)
  (case hd_Words=>k_is)
  (case po_Words=>k_is)
  (case sa_Words=>k_is)
  (case mk_Words=>k_is)
  (case kc_Words=>k_is)
  (case n_Words_row=>k_is)
  (case n_Words_words=>k_is)
  (case n_Words_place=>k_is)
  (case z_len=>k_is)
  (case z_range=>k_is)
  (case z_tuple=>k_is)
  (case z_bool=>k_is)
  (case z_isinstance=>k_is)
  (case z_reversed=>k_is)
  (case z_max=>k_is)
  (case z_zip=>k_is)
  (case z_list=>k_is)
  (case z_str=>k_is)
  (case z_enumerate=>k_is)
  (case z_dict=>k_is)
  (case z_sum=>k_is)
  (case z_int=>k_is)
  (case z_min=>k_is)
  (case z_sorted=>k_is)
  (case z_all=>k_is)
  (case z_set=>k_is)
  (case z_repr=>k_is)
  (case z_any=>k_is)
  (case aC_WorldError=>k_is)
  (case aC_NoText=>k_is)
  (case lC_WorldError=>k_is)
  (case lC_NoText=>k_is)
  (case z_ValueError=>k_is)
  (case fd_X=>k_is)
  (case fe_X=>k_is)
  (case xe_WorldError=>k_exc)
  (case fa_NoText=>k_is)
  (case fb_NoText=>k_is)
  (case fc_NoText=>k_is)
  (case ff_NoText=>k_is)
  (case fg_NoText=>k_is)
  (case kv_NoText=>kit_is)
  (case kt_NoText_NoText=>kit_is)
  (case a_i0=>k_is)
  (case i_i0=>k_is)
  (case l_i0=>k_is)
  (case c_i0=>k_is)
  (case k_i0=>k_is)
  (case hh_NoText=>k_is)
  (case sa_NoText=>k_is)
  (case kc_NoText=>k_is)
  (case nx_row=>k_is)
  (case nx_word=>k_is)
  (case aC_NoChange=>k_is)
  (case aC_NoLine=>k_is)
  (case aC_TooMany=>k_is)
  (case ko_NoText=>kit_is)
  (case a_FIGURES=>k_is)
  (case a_WORDS_OF_TRUTH=>k_is)
  (case l_WORDS_OF_TRUTH=>k_is)
  (case sy_WORDS_OF_TRUTH=>first | decide | rfl | k_is)
  (case a_MOST_FIGURES=>k_is)
end
end
