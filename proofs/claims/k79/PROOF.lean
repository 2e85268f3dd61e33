import PyProof.Rows.All
import Wide.All
import OpenK.AllK
import Wide.FinOn
import Lean
import PyProof.EqAt
import PyProof.EqKinds
import PyProof.TupleCall
import PyProof.SetKind
import PyProof.SetNew
import PyProof.SetRoads
import PyProof.CollectIter
import PyProof.WalksMore
import PyProof.MakeMany
import PyProof.ZipIter
import PyProof.EnumMake
import PyProof.EnumFor
import KE.KDictOf
import KE.KEqDict
import PyProof.Rows.SortWalk
import PyProof.Rows.SortStr
import PyProof.ConsumeWalk
import KE.KItemsList
import PyProof.StrCalls
import PyProof.StrCaseBound
import PyProof.SetScanFacts
import KE.KSortTup
import PyProof.Rows.SortShellK
import PyProof.ReprRoads
import PyProof.ReprLen
import PyProof.CallFns
import KE.KIntText
import PyProof.Rows.StrWeight2
import PyProof.Rows.StrSplitAre
import PyProof.Rows.StrKeys3
import PyProof.ListRange
import PyProof.StrWalks
import PyProof.StrBlockI
import PyProof.SliceStr2
import PyProof.StrLawsIn
import OpenK.KOwn
import PyProof.NsDelKeeps
import KE.KIsAll
import PyProof.ExcArgsOwn
import PyProof.Ascii
import KE.KDictList
import PyProof.FactsAll.set
import PyProof.Draws
import PyProof.P3Eq
import PyProof.TupleKey
import KE.KDictSum
import PySem.PyData
import PySem.Str
import PySem.Challenge.RW_worldsay_k79_machines_written
open List (all_eq_true append_assoc append_nil cons_ne_nil drop_eq_nil_of_le filterMap_cons flatten_cons getElem?_append_left getElem?_append_right getElem?_eq_getElem getElem?_map getElem?_set_ne getElem?_set_self length_append length_cons length_drop length_map length_replicate length_set length_take lookup_cons map_append map_cons map_map map_nil mem_append mem_append_left mem_append_right mem_cons mem_cons_of_mem mem_cons_self mem_map mem_of_getElem? mem_singleton nil_append nil_sublist nodup_append nodup_cons not_mem_nil pairwise_cons replicate_succ reverse_cons size_toArray take_add_one take_length)
open PySem.Heap (get?_push_of_some get?_push_size lt_size size_push)
open Option (map_eq_some_iff map_some toList_some)
open Bool (and_eq_true or_eq_true)
open Array (toList_append toList_inj)
open Nat (add_comm le_of_lt le_refl le_succ le_trans lt_irrefl lt_of_lt_of_le ne_of_gt ne_of_lt zero_le)
open Int (emod_nonneg)
set_option Elab.async false
set_option linter.all false
set_option maxRecDepth 100000
set_option maxHeartbeats 4000000
noncomputable section
section
namespace L2
open PySem PySem.Spec PyProof.Rows
abbrev Key:=Sum Int Str
noncomputable def b9e:Key->Value->Bool
 | .inl k,v=>Value.isInt k v
 | .inr x,v=>Value.isStrOf x v
noncomputable def keyH(w:World):Key->Int
 | .inl k=>hashInt k
 | .inr x=>hashStr w x
theorem a2i:∀ {k:Key} {v:Value},b9e k v=true->(∃ i t,k=Sum.inl i/\v=Value.int i t) ∨ (∃ x t,k=Sum.inr x/\v=Value.str x t)
 | .inl i,v,h=>by
  obtain⟨t,e⟩:=Value.isInt_shape (k:=i) (v:=v) h
  exact .inl ⟨i,t,rfl,e⟩
 | .inr x,v,h=>by
  obtain⟨t,e⟩:=Value.isStrOf_shape (x:=x) (v:=v) h
  exact .inr ⟨x,t,rfl,e⟩
theorem e0a(a b:Int):decide ((Sum.inl a:Key)=Sum.inl b)=(a == b):=by
 by_cases e:a=b
 ·subst e;simp
 ·have h:¬ (Sum.inl a:Key)=Sum.inl b:=fun q=>e (Sum.inl.inj q)
  rw [decide_eq_false h]
  exact(beq_eq_false_iff_ne.mpr e).symm
theorem e0b(a b:Str):decide ((Sum.inr a:Key)=Sum.inr b)=decide (a=b):=by
 by_cases e:a=b
 ·subst e;simp
 ·have h:¬ (Sum.inr a:Key)=Sum.inr b:=fun q=>e (Sum.inr.inj q)
  rw [decide_eq_false h,decide_eq_false e]
theorem e0c(a:Int)(b:Str):decide ((Sum.inl a:Key)=Sum.inr b)=false:=decide_eq_false (fun q=>nomatch q)
theorem e0d(a:Str)(b:Int):decide ((Sum.inr a:Key)=Sum.inl b)=false:=decide_eq_false (fun q=>nomatch q)
noncomputable def b3z(prog:Program)(w:World):PySem.KeyKind prog w Key where
 is:=b9e
 hash:=keyH w
 inj:=fun v a b ha hb=>by
  rcases a2i ha with⟨i,t,rfl,rfl⟩ | ⟨x,t,rfl,rfl⟩
  ·rcases a2i hb with⟨j,u,rfl,e⟩ | ⟨y,u,rfl,e⟩
   ·injection e with e1 _;rw [e1]
   ·exact nomatch e
  ·rcases a2i hb with⟨j,u,rfl,e⟩ | ⟨y,u,rfl,e⟩
   ·exact nomatch e
   ·injection e with e1 _;rw [e1]
 byValue:=fun k v h=>by
  rcases a2i h with⟨i,t,rfl,rfl⟩ | ⟨x,t,rfl,rfl⟩<;>rfl
 pyHash:=fun hv h=>by
  rcases a2i hv with⟨i,t,rfl,rfl⟩ | ⟨x,t,rfl,rfl⟩
  ·exact wpAny_pyHash_int h
  ·exact wpAny_pyHash_str h
 eqBool:=fun hu hv h=>by
  rcases a2i hu with⟨i,t,rfl,rfl⟩ | ⟨x,t,rfl,rfl⟩
  ·rcases a2i hv with⟨j,u,rfl,rfl⟩ | ⟨y,u,rfl,rfl⟩
   ·rw [e0a] at h;exact wpAny_eqBool_int h
   ·rw [e0c] at h;exact SeqAt.EqAt.int_str i t y u _ _ _ _ h
  ·rcases a2i hv with⟨j,u,rfl,rfl⟩ | ⟨y,u,rfl,rfl⟩
   ·rw [e0d] at h;exact SeqAt.EqAt.str_int x t j u _ _ _ _ h
   ·rw [e0b] at h;exact wpAny_eqBool_str h
 «strs»:=fun k x t v h=>by
  rcases a2i h with⟨i,u,rfl,e⟩ | ⟨y,u,rfl,e⟩
  ·exact nomatch e
  ·injection e with e1 _
   subst e1
   cases v<;>rfl
end L2
namespace L2
open PySem PySem.Spec PyProof.Rows
inductive V where
 | non | bl (b:Bool) | int (i:Int) | str (x:Str) | byt (b:Array UInt8) | flt (b:UInt64) | ref (a:Addr) | ty (n:String)
 deriving DecidableEq
noncomputable def RelV:V->Value->Prop
 | .non,u=>u=Value.none
 | .bl b,u=>u=Value.bool b
 | .int i,u=>∃ t,u=Value.int i t
 | .str x,u=>∃ t,u=Value.str x t
 | .byt b,u=>∃ t,u=Value.bytes b t
 | .flt b,u=>∃ t,u=Value.float b t
 | .ref a,u=>u=Value.ref a
 | .ty n,u=>u=Value.type n
abbrev Vals:List V->List Value->Prop:=Paired RelV
theorem Vals.length{xs:List V}{us:List Value}(r:Vals xs us):xs.length=us.length:=Paired.length r
theorem Vals.get:∀ {xs:List V} {us:List Value} {i:Nat} {x:V},Vals xs us->xs[i]? = some x->∃ u,us[i]? = some u/\RelV x u
 | _,_,_,_,.nil,e=>by simp at e
 | _,_,0,_,.cons r _,e=>by simp at e;subst e;exact⟨_,rfl,r⟩
 | _,_,i + 1,x,.cons _ t,e=>by
  obtain⟨u,h1,h2⟩:=Vals.get (i:=i) (x:=x) t (by simpa using e)
  exact⟨u,by simpa using h1,h2⟩
theorem Vals.set{x:V}{u:Value}(r:RelV x u):∀ {xs:List V} {us:List Value} (i:Nat),Vals xs us->Vals (xs.set i x) (us.set i u)
 | _,_,_,.nil=>.nil
 | _,_,0,.cons _ t=>.cons r t
 | _,_,i + 1,.cons q t=>.cons q (Vals.set r i t)
theorem Vals.append:∀ {xs ys:List V} {us ws:List Value},Vals xs us->Vals ys ws->Vals (xs ++ ys) (us ++ ws)
 | _,_,_,_,.nil,s=>s
 | _,_,_,_,.cons r t,s=>.cons r (Vals.append t s)
theorem Vals.take:∀ {xs:List V} {us:List Value} (n:Nat),Vals xs us->Vals (xs.take n) (us.take n)
 | _,_,0,_=>.nil
 | _,_,_ + 1,.nil=>.nil
 | _,_,n + 1,.cons r t=>.cons r (Vals.take n t)
theorem Vals.drop:∀ {xs:List V} {us:List Value} (n:Nat),Vals xs us->Vals (xs.drop n) (us.drop n)
 | _,_,0,r=>r
 | _,_,_ + 1,.nil=>.nil
 | _,_,n + 1,.cons _ t=>Vals.drop n t
noncomputable def RelO:Option V->Option Value->Prop
 | some v,some u=>RelV v u
 | none,none=>True
 | _,_=>False
noncomputable def KV{κ:Type}:List (κ × V)->List (κ × Value)->Prop:=Paired fun(p:κ × V) (q:κ × Value)=>p.1=q.1/\RelV p.2 q.2
noncomputable def kV:Key->V
 | .inl i=>.int i
 | .inr x=>.str x
inductive HO where
 /-- a list -/
 | lst (xs:List V)
 /-- a tuple (never changes) -/
 | tup (xs:List V)
 /-- a dict whose keys are ints and texts; one whose keys are tuples of ints and texts (the empty one is both) -/
 | dK (kvs:List (Key × V)) | dT (kvs:List (List Key × V))
 /-- a set of ints: its members, its size -/
 | set (S:Int->Bool) (n:Nat)
 /-- an instance of the class at C, its dict at dx, its attributes -/
 | ins (C dx:Addr) (fs:List (Str × V))
 /-- the dict of the instance at x -/
 | own (x:Addr)
 /-- the dict of an exception -/
 | xd (fs:List (Str × V))
 /-- a bound method, f of x -/
 | met (f x:Addr)
 /-- a range object lo, lo + 1, .. below hi -/
 | rng (lo hi:Int)
 /-- a thing that is known to the object (the script; a dict while a loop walks it): read, never written while it is so -/
 | frz (o:Obj) (u:HO)
 /-- a code object's table -/
 | tbl (ps:Array Value)
 /-- any other thing, by what is true of its one object (a def of one's own: SetO a S n := HO.ext fun h => ..) -/
 | ext (φ:Heap->Prop)
abbrev Hp:=Addr->Option HO
noncomputable def upd(H:Hp)(a:Addr)(o:HO):Hp:=fun b=>if b=a then some o else H b
theorem a0e{H:Hp}{a:Addr}{o:HO}:upd H a o a=some o:=by unfold upd;rw [if_pos rfl]
theorem a0f{H:Hp}{a b:Addr}{o:HO}(h:b ≠ a):upd H a o b=H b:=by unfold upd;rw [if_neg h]
theorem b9f{H:Hp}{a b:Addr}{o u:HO}(h:H a=some o)(h':H b=some u)(d:o ≠ u):a ≠ b:=by
 intro e;subst e;rw [h] at h';exact d (Option.some.inj h')
theorem a1x{H:Hp}{a b:Addr}{o:HO}(h:H a=some o)(h':H b=none):a ≠ b:=by
 intro e;subst e;rw [h] at h';cases h'
def a6e(h:Heap)(a:Addr)(items:Array Value):Prop:=∃ o,h.get? a=some o/\(o.cls=.type "tuple" /\ o.dict=none)/\∃ n,o.data=.seq items n
theorem a6e.tup{h:Heap}{a:Addr}{items:Array Value}(x:a6e h a items):IsTup h a items:=by obtain⟨o,e,c,n,d⟩:=x;exact⟨o,e,c.1,n,d⟩
theorem a6e.new(h:Heap)(xs:Array Value):a6e (h.push { cls:=.type "tuple",data:=.seq xs }) h.objs.size xs:=⟨_,get?_push_size _ rfl,⟨rfl,rfl⟩,_,rfl⟩
def TabOk(H:Hp)(h:Heap)(a:Addr)(ps qs:Array Value):Prop:=h.get? a=some { cls:=.none,data:=.fields qs }/\TriplesOk qs.toList /\
 ∀ pos v,codeAmong pos qs.toList=some v->∃ c oc vs q t t',v=.ref c/\ps = #[.str q t]/\H c=some (.frz oc (.own c))/\oc.data=.fields vs/\vs[1]? = some (.str q t')
section
variable(P:Program)(w:World)
noncomputable def a2v(H:Hp)(h:Heap)(a:Addr):HO->Prop
 | .lst xs=>xs.length <= sizeLine/\∃ (its:List Value) (n:Nat),Vals xs its/\h.get? a=some { cls:=.type "list",data:=.seq its.toArray n }
 | .tup xs=>xs.length <= sizeLine/\∃ its:List Value,Vals xs its/\a6e h a its.toArray
 | .dK kvs=>kvs.length <= sizeLine/\(a == sysModules)=false/\∃ vs,KV kvs vs/\h.DictOf (b3z P w) a vs
 | .dT kvs=>kvs.length <= sizeLine/\(a == sysModules)=false/\∃ xs:List (List Key × Addr × Value),
   Paired (fun(p:List Key × V) (q:List Key × Addr × Value)=>p.1=q.1/\H q.2.1=some (.tup (p.1.map kV))/\RelV p.2 q.2.2) kvs xs /\
   ∃ o es ep,h.get? a=some o/\o.ExactDict/\o.data=.dict es ep/\es.toList=xs.map (entryOfKey (tupleKind (b3z P w)))/\(xs.map (·.1)).Nodup
 | .set S n=>h.SetOf (intKind P w) a S n
 | .ins C dx fs=>H dx=some (.own a)/\fs.length <= 1000/\dx ≠ a/\h.get? a=some (PySem.W.instObj C dx) /\
   ∃ mA,h.Ns1 dx mA/\(∀ f,RelO (fs.lookup f) (mA f))/\PySem.Within mA (fs.map (·.1))
 | .own _=>∃ o,h.get? a=some o
 | .xd fs=>∃ mA,h.Ns1 a mA/\∀ f,RelO (fs.lookup f) (mA f)
 | .rng lo hi=>∃ t u v,h.get? a=some { cls:=.type "range",data:=.fields #[.int lo t,.int hi u,.int 1 v] }
 | .frz o u=>(match u with
   | .tbl ps=>∃ qs:Array Value,TabOk H h a ps qs
   | _=>h.get? a=some o)/\a2v H h a u
 | .tbl ps=>∃ o,h.get? a=some o
 | .met f x=>h.get? a=some (PySem.W.methodObj (.ref f) (.ref x))
 | .ext φ=>φ h/\(∃ o,h.get? a=some o)/\∀ h1 h2:Heap,φ h1->(∀ o,h1.get? a=some o->h2.get? a=some o)->φ h2
def HOk(H:Hp)(h:Heap):Prop:=∀ a o,H a=some o->a2v P w H h a o
end
section
variable{P:Program}{w:World}{H H':Hp}{h h':Heap}{a:Addr}{o:HO}
theorem a2v.lt(x:a2v P w H h a o):a < h.objs.size:=by
 cases o with
 | lst xs=>obtain⟨_,_,_,_,e⟩:=x;exact lt_size e
 | tup xs=>obtain⟨_,_,_,p⟩:=x;exact p.tup.lt
 | dK kvs=>obtain⟨_,_,_,_,o,_,_,e,_⟩:=x;exact lt_size e
 | dT kvs=>obtain⟨_,_,_,_,o,_,_,e,_⟩:=x;exact lt_size e
 | set S n=>obtain⟨o,_,_,_,e,_⟩:=x;exact lt_size e
 | ins C dx fs=>obtain⟨_,_,_,e,_⟩:=x;exact lt_size e
 | own y=>obtain⟨_,e⟩:=x;exact lt_size e
 | xd fs=>obtain⟨_,⟨_,_,_,e,_⟩,_⟩:=x;exact lt_size e
 | rng lo hi=>obtain⟨_,_,_,e⟩:=x;exact lt_size e
 | frz ob u =>
  obtain⟨e,_⟩:=x
  cases u with
  | tbl ps=>obtain⟨_,e,_⟩:=e;exact lt_size e
  | _=>exact lt_size (show h.get? a=some _ from e)
 | tbl ps=>obtain⟨_,e⟩:=x;exact lt_size e
 | met f y=>exact lt_size (show h.get? a=some _ from x)
 | ext φ=>obtain⟨_,⟨_,e⟩,_⟩:=x;exact lt_size e
theorem Paired.mapP{α β:Type}{F G:α->β->Prop}:∀ {l₁:List α} {l₂:List β},Paired F l₁ l₂->(∀ a b,F a b->G a b)->Paired G l₁ l₂
 | _,_,.nil,_=>.nil
 | _,_,.cons r t,f=>.cons (f _ _ r) (Paired.mapP t f)
theorem Paired.imp'{α β:Type}{F G:α->β->Prop}(f:∀ a b,F a b->G a b){l₁:List α}{l₂:List β}(r:Paired F l₁ l₂):Paired G l₁ l₂:=Paired.mapP r f
theorem a2v.stay(x:a2v P w H h a o)(k:∀ b u,(b=a ∨ H b=some (.own a))->h.get? b=some u->h'.get? b=some u)
  (ho:∀ b,H b=some (.own a)->H' b=some (.own a)) (ht:∀ b xs,H b=some (.tup xs)->H' b=some (.tup xs)) (hf:∀ b ob u,H b=some (.frz ob u)->H' b=some (.frz ob u)):a2v P w H' h' a o:=by
 induction o with
 | lst xs=>obtain⟨z,its,n,r,e⟩:=x;exact⟨z,its,n,r,k _ _ (.inl rfl) e⟩
 | tup xs=>obtain⟨z,its,r,ob,e,c⟩:=x;exact⟨z,its,r,ob,k _ _ (.inl rfl) e,c⟩
 | dK kvs=>obtain⟨z,y,vs,r,ob,es,ep,e,c⟩:=x;exact⟨z,y,vs,r,ob,es,ep,k _ _ (.inl rfl) e,c⟩
 | dT kvs =>
  obtain⟨z,y,xs,r,ob,es,ep,e,c⟩:=x
  exact⟨z,y,xs,Paired.mapP r fun p q z=>⟨z.1,ht _ _ z.2.1,z.2.2⟩,ob,es,ep,k _ _ (.inl rfl) e,c⟩
 | set S n=>obtain⟨ob,es,ep,t,e,c⟩:=x;exact⟨ob,es,ep,t,k _ _ (.inl rfl) e,c⟩
 | ins C dx fs =>
  obtain⟨d,z,ne,e,mA,⟨od,es,ep,e2,c⟩,r⟩:=x
  exact⟨ho _ d,z,ne,k _ _ (.inl rfl) e,mA,⟨od,es,ep,k _ _ (.inr d) e2,c⟩,r⟩
 | own y=>obtain⟨ob,e⟩:=x;exact⟨ob,k _ _ (.inl rfl) e⟩
 | xd fs=>obtain⟨mA,⟨od,es,ep,e,c⟩,r⟩:=x;exact⟨mA,⟨od,es,ep,k _ _ (.inl rfl) e,c⟩,r⟩
 | rng lo hi=>obtain⟨t,u,v,e⟩:=x;exact⟨t,u,v,k _ _ (.inl rfl) e⟩
 | frz ob u ih =>
  obtain⟨e,q⟩:=x
  refine⟨?_,ih q⟩
  cases u with
  | tbl ps =>
   obtain⟨qs,e1,e2,e3⟩:=e
   exact⟨qs,k _ _ (.inl rfl) e1,e2,fun pos v hv=>by obtain⟨c,oc,vs,q,t,t',h1,h2,h3,h4⟩:=e3 pos v hv;exact⟨c,oc,vs,q,t,t',h1,h2,hf _ _ _ h3,h4⟩⟩
  | _=>exact k _ _ (.inl rfl) e
 | tbl ps=>obtain⟨o,e⟩:=x;exact⟨o,k a _ (.inl rfl) e⟩
 | met f y =>
  have e:h.get? a=some (PySem.W.methodObj (.ref f) (.ref y)):=x
  show h'.get? a=some (PySem.W.methodObj (.ref f) (.ref y))
  exact k a _ (.inl rfl) e
 | ext φ=>obtain⟨p,⟨o,e⟩,st⟩:=x;exact⟨st _ _ p fun o q=>k _ _ (.inl rfl) q,⟨o,k _ _ (.inl rfl) e⟩,st⟩
theorem HOk.lt(x:HOk P w H h)(e:H a=some o):a < h.objs.size:=(x a o e).lt
theorem HOk.fresh(x:HOk P w H h)(e:h.objs.size <= a):H a=none:=by
 cases q:H a with
 | none=>rfl
 | some u=>exact absurd (lt_of_lt_of_le (x.lt q) e) (lt_irrefl _)
theorem HOk.kept(x:HOk P w H h)(k:∀ b u,h.get? b=some u->h'.get? b=some u):HOk P w H h':=fun a o e =>
 (x a o e).stay (fun b u _ q=>k b u q) (fun _ q=>q) (fun _ _ q=>q) fun _ _ _ q=>q
theorem HOk.laid(x:HOk P w H h)(k:∀ b u,h.get? b=some u->h'.get? b=some u)(hp:h.objs.size <= a)(new:a2v P w (upd H a o) h' a o):HOk P w (upd H a o) h':=fun b u e=>by
 have hn:=x.fresh hp
 by_cases hb:b=a
 ·subst hb;rw [a0e] at e;cases e;exact new
 ·rw [a0f hb] at e
  exact(x b u e).stay (fun c v _ q=>k c v q) (fun c q=>by rw [a0f (a1x q hn)];exact q) (fun c xs q=>by rw [a0f (a1x q hn)];exact q) fun c ob u q=>by rw [a0f (a1x q hn)];exact q
end
def Rd(H:Hp)(a:Addr)(u:HO):Prop:=H a=some u ∨ ∃ o,H a=some (.frz o u)
theorem Rd.ok{P:Program}{w:World}{H:Hp}{h:Heap}{a:Addr}{u:HO}(r:Rd H a u)(x:HOk P w H h):a2v P w H h a u:=by
 rcases r with r | ⟨o,r⟩
 ·exact x a u r
 ·obtain⟨_,q⟩:=x a _ r
  exact q
noncomputable def Mut:Option HO->Prop
 | some (.lst _)=>True
 | some (.dK _)=>True
 | some (.dT _)=>True
 | some (.set _ _)=>True
 | some (.ins _ _ _)=>True
 | some (.ext _)=>True
 | _=>False
section
variable{P:Program}{w:World}{H:Hp}{h h':Heap}{x e:Addr}{o':HO}
theorem HOk.write(ok:HOk P w H h)(mu:Mut (H x))(he:e=x ∨ H e=some (.own x))(k:∀ b u,b ≠ e->h.get? b=some u->h'.get? b=some u)(heo:∃ u,h'.get? e=some u)
  (new:a2v P w (upd H x o') h' x o'):HOk P w (upd H x o') h':=fun b u q=>by
 have nown:∀ c y,H c=some (.own y)->c ≠ x:=fun c y r z=>by subst z;rw [r] at mu;exact mu
 have ntup:∀ c xs,H c=some (.tup xs)->c ≠ x:=fun c xs r z=>by subst z;rw [r] at mu;exact mu
 by_cases hb:b=x
 ·subst hb;rw [a0e] at q;cases q;exact new
 ·rw [a0f hb] at q
  by_cases hbe:b=e
  ·have q':H b=some (.own x):=by
    rcases he with z | z
    ·exact absurd (hbe.trans z) hb
    ·rw [hbe];exact z
   rw [q] at q';cases q'
   obtain⟨v,hv⟩:=heo
   exact⟨v,by rw [hbe];exact hv⟩
  ·refine(ok b u q).stay (fun c v hc r=>k c v ?_ r) (fun c r=>by rw [a0f (nown c b r)];exact r) (fun c xs r=>by rw [a0f (ntup c xs r)];exact r) fun c ob u r=>by rw [a0f (fun z=>by subst z;rw [r] at mu;exact mu)];exact r
   rcases hc with rfl | hc
   ·exact hbe
   ·rintro rfl
    rcases he with z | z
    ·exact nown c b hc z
    ·rw [hc] at z;cases z;exact hb rfl
end
structure Un(fs ex:List Addr)(H H':Hp)(h h':Heap):Prop where
 keep:∀ b o,h.get? b=some o->H b=none->b ∉ fs->b ∉ ex->h'.get? b=some o
 slot:∀ b o,h.get? b=some o->H b=none->b ∈ fs->b ∉ ex->∃ sl,h'.get? b=some { o with slots:=sl }
 free:∀ b o,h.get? b=some o->H b=none->b ∉ ex->H' b=none
 there:∀ b o,h.get? b=some o->b ∉ ex->∃ o',h'.get? b=some o'
 tups:∀ b xs,H b=some (.tup xs)->H' b=some (.tup xs)
 frzs:∀ b o u,H b=some (.frz o u)->H' b=some (.frz o u)
 tbls:∀ b ps,H b=some (.tbl ps)->∃ more,H' b=some (.tbl (ps ++ more))
section
variable{fs fs' ex ex':List Addr}{H H1 H2:Hp}{h h1 h2 h':Heap}{a x e:Addr}{o:HO}
theorem Un.any(u:Un fs ex H H1 h h1){b:Addr}{ob:Obj}(q:h.get? b=some ob)(n:H b=none)(hx:b ∉ ex):∃ sl,h1.get? b=some { ob with slots:=sl }:=by
 by_cases hb:b ∈ fs
 ·exact u.slot b ob q n hb hx
 ·exact⟨ob.slots,u.keep b ob q n hb hx⟩
theorem Un.kept(k:∀ b u,h.get? b=some u->h'.get? b=some u):Un fs ex H H h h':=
 ⟨fun b ob q _ _ _=>k b ob q,fun b ob q _ _ _=>⟨ob.slots,k b ob q⟩,fun _ _ _ n _=>n,fun b ob q _=>⟨ob,k b ob q⟩,fun _ _ q=>q,fun _ _ _ q=>q,fun _ ps q=>⟨#[],by rw [q];simp⟩⟩
theorem Un.refl:Un fs ex H H h h:=Un.kept fun _ _ q=>q
theorem Un.laid(k:∀ b u,h.get? b=some u->h'.get? b=some u)(hp:h.objs.size <= a)(hn:H a=none):Un fs ex H (upd H a o) h h' where
 keep:=fun b u q _ _ _=>k b u q
 slot:=fun b u q _ _ _=>⟨u.slots,k b u q⟩
 free:=fun b u q n _=>by rw [a0f (ne_of_lt (lt_of_lt_of_le (lt_size q) hp))];exact n
 there:=fun b u q _=>⟨u,k b u q⟩
 tups:=fun b xs q=>by rw [a0f (a1x q hn)];exact q
 frzs:=fun b u xs q=>by rw [a0f (a1x q hn)];exact q
 tbls:=fun b ps q=>⟨#[],by rw [a0f (a1x q hn),q];simp⟩
theorem Un.write(mu:Mut (H x))(he:e=x ∨ H e=some (.own x))(k:∀ b u,b ≠ e->h.get? b=some u->h'.get? b=some u)(heo:∃ u,h'.get? e=some u):Un fs ex H (upd H x o) h h':=by
 have hx:∀ b,H b=none->b ≠ x:=fun b n z=>by subst z;rw [n] at mu;exact mu
 have hb:∀ b,H b=none->b ≠ e:=fun b n z=>by
  subst z
  rcases he with r | r
  ·exact hx b n r
  ·rw [n] at r;cases r
 have hm:∀ b u,H b=some u->¬ Mut (some u)->b ≠ x:=fun b u q nm z=>by subst z;rw [q] at mu;exact nm mu
 refine⟨fun b u q n _ _=>k b u (hb b n) q,fun b u q n _ _=>⟨u.slots,k b u (hb b n) q⟩,fun b u q n _=>by rw [a0f (hx b n)];exact n,fun b u q _=>?_,
  fun b xs q=>by rw [a0f (hm b _ q fun z=>z)];exact q,fun b u xs q=>by rw [a0f (hm b _ q fun z=>z)];exact q,fun b ps q=>⟨#[],by rw [a0f (hm b _ q fun z=>z),q];simp⟩⟩
 by_cases hbe:b=e
 ·subst hbe;exact heo
 ·exact⟨u,k b u hbe q⟩
end
noncomputable def trk(h:Heap)(H:Hp):List Addr:=(List.range h.objs.size).filter fun a=>(H a).isSome
noncomputable def hidT(h:Heap)(H:Hp):Heap:=PySem.W.hideAll h (trk h H)
theorem c7b(h:Heap)(H:Hp):(hidT h H).objs.size=h.objs.size:=PySem.W.hideAll_size _ _
theorem d0k{h:Heap}{H:Hp}{b:Addr}{o:Obj}(e:h.get? b=some o)(n:H b=none):(hidT h H).get? b=some o:=
 PySem.W.hideAll_get _ e fun hm=>by
  have q:(H b).isSome=true:=(List.mem_filter.mp hm).2
  rw [n] at q;simp at q
theorem d5e{h:Heap}{H:Hp}{b:Addr}{o:Obj}(e:(hidT h H).get? b=some o):h.get? b=some o/\H b=none:=by
 have e':h.get? b=some o:=PySem.W.of_hideAll (trk h H) e
 refine⟨e',?_⟩
 cases q:H b with
 | none=>rfl
 | some x =>
  have hm:b ∈ trk h H:=List.mem_filter.mpr ⟨List.mem_range.mpr (lt_size e'),by simp [q]⟩
  have z:(hidT h H).get? b=none:=PySem.W.hideAll_none (trk h H) hm
  rw [z] at e;cases e
noncomputable def d5f(g h:Heap)(L:Addr):List (Addr × Obj):=(List.range h.objs.size).filterMap fun a=>if a=L ∨ (g.get? a).isSome=true then none else(h.get? a).map fun o=>(a,o)
noncomputable def rest(g h:Heap)(L d:Addr):List (Addr × Obj):=(d5f g h L).filter fun p=>decide (p.1 ≠ d)
end L2
namespace L2
open PySem PySem.Spec PyProof.Rows
structure Mod(K:W.Frag)(mg:Str->Option Value)(base:Heap):Prop where
 kin:K.In base
 glob:base.Ns mainGlobals mg
 blt:∃ mb,base.Ns builtinsNs mb/\∀ x:Str,x ≠ "__name__" -> mb x=bootBuiltins x
 nolimit:base.NoLimit
structure Cx where
 prog:Program
 w:World
 K:W.Frag
 mg:Str->Option Value
 base:Heap
 A:Around
 N:List Str
 s₀:Shared
 H₀:Hp
 env:Env
 outer:List Env
 stack:List Env
 ex:List Addr
 fn:Str->Bool
 calm:Bool
 pn:List (Addr × Obj)
 xe:Value->Shared->Prop
noncomputable def frs(l:List Env):List Addr:=l.filterMap (·.frame)
abbrev Cx.fs(X:Cx):List Addr:=frs X.outer
def Vis(sc:Scope)(x:Str):Prop:=sc.names.lookup x=some .local ∨ sc.names.lookup x=some .cell ∨ sc.names.lookup x=some .free
def Loc(sc:Scope)(x:Str):Prop:=sc.names.lookup x=some .local ∨ sc.names.lookup x=some .cell
def Look(env:Env)(h:Heap)(m:Str->Option Value)(x:Str)(u:Value):Prop:=
 (env.kindOf x=some .local/\m x=some u) ∨ ((env.kindOf x=some .cell ∨ env.kindOf x=some .free)/\∃ c,env.cells.lookup x=some c/\h.IsCell c (some u))
structure Cx.Ok(X:Cx):Prop where
 mod:Mod X.K X.mg X.base
 kind:X.env.scope.kind=.function
 glob:X.env.globals=mainGlobals
 blt:X.env.builtins=builtinsNs
 above:X.s₀.heap.objs.size <= X.env.locals
 inj:∀ x y c,X.env.cells.lookup x=some c->X.env.cells.lookup y=some c->x=y
 has:∀ x,(X.env.kindOf x=some .cell ∨ X.env.kindOf x=some .free)->∃ c,X.env.cells.lookup x=some c
 cab:∀ x c,X.fn x=true->X.env.cells.lookup x=some c->X.s₀.heap.objs.size <= c
 hd:X.calm=true->X.A.handled=none
 frames:X.A.frames=some X.stack
 stk:X.stack=X.outer ∨ (X.stack=X.env :: X.outer/\X.env.frame=some X.env.locals)
 exf:∀ b ∈ X.ex,b ≠ X.env.locals/\∀ x c,X.env.cells.lookup x=some c->c ≠ b
 bs:∀ b o,X.base.get? b=some o->X.s₀.heap.get? b=some o/\X.H₀ b=none
 bsz:X.base.objs.size <= X.s₀.heap.objs.size
 noex:∀ b o,X.base.get? b=some o->b ∉ X.ex
 exfs:∀ b ∈ X.ex,b ∉ X.fs
 funs:X.s₀.heap.FunFrames X.base X.outer
 frf:∀ b ∈ X.fs,X.H₀ b=none
structure Inv(X:Cx)(pins:List (Addr × Obj))(σ:List (Option V))(H:Hp)(s:Shared):Prop where
 ok:X.Ok
 os:s.os=X.s₀.os
 bare:AllBare s.gens
 base:Un X.fs X.ex X.H₀ H X.s₀.heap s.heap
 loc:∃ m,s.heap.Ns X.env.locals m/\∀ (i:Nat) (x:Str) (v:V),X.N[i]? = some x->σ[i]? = some (some v)->Vis X.env.scope x->∃ u,RelV v u/\Look X.env s.heap m x u
 cell:∀ x c,X.env.cells.lookup x=some c->∃ v,s.heap.IsCell c v
 free:H X.env.locals=none
 freeC:∀ x c,X.env.cells.lookup x=some c->H c=none
 pin:∀ p ∈ X.pn ++ pins,s.heap.get? p.1=some p.2/\H p.1=none/\p.1 ≠ X.env.locals/\p.1 ∉ X.fs/\∀ v,p.2.data ≠ .cell v
 hok:HOk X.prog X.w H s.heap
 len:σ.length=X.N.length
section
variable{X:Cx}{pins:List (Addr × Obj)}{σ:List (Option V)}{H H':Hp}{s:Shared}{h':Heap}
theorem Cx.Ok.nofr(ok:X.Ok){b:Addr}{o:Obj}(e:X.base.get? b=some o):b ∉ X.fs:=fun hb=>by
 have:=(ok.funs.mem hb).1
 rw [e] at this;cases this
theorem Inv.bs(I:Inv X pins σ H s):∀ b o,X.base.get? b=some o->s.heap.get? b=some o/\H b=none:=fun b o e =>
 ⟨I.base.keep b o (I.ok.bs b o e).1 (I.ok.bs b o e).2 (I.ok.nofr e) (I.ok.noex b o e),I.base.free b o (I.ok.bs b o e).1 (I.ok.bs b o e).2 (I.ok.noex b o e)⟩
theorem Inv.bk(I:Inv X pins σ H s):∀ b o,X.base.get? b=some o->s.heap.get? b=some o:=fun b o e=>(I.bs b o e).1
theorem Inv.mod(I:Inv X pins σ H s):Mod X.K X.mg X.base:=I.ok.mod
theorem Inv.kIn(I:Inv X pins σ H s):X.K.In s.heap:=I.ok.mod.kin.keeps I.bk
theorem Inv.lt(I:Inv X pins σ H s):X.env.locals < s.heap.objs.size:=by obtain⟨_,hn,_⟩:=I.loc;exact hn.lt
theorem Inv.sz(I:Inv X pins σ H s):X.s₀.heap.objs.size <= s.heap.objs.size:=le_trans I.ok.above (le_of_lt I.lt)
theorem Inv.nofs(I:Inv X pins σ H s){a:Addr}(h:s.heap.objs.size <= a):a ∉ X.fs:=fun hb=>by
 obtain⟨_,o,ho,_⟩:=I.ok.funs.mem hb
 exact absurd (lt_of_lt_of_le (lt_size ho) (le_trans I.sz h)) (lt_irrefl _)
theorem Inv.cne(I:Inv X pins σ H s):∀ x c,X.env.cells.lookup x=some c->c ≠ X.env.locals:=fun x c e z=>by
 obtain⟨v,o,ho,hd⟩:=I.cell x c e
 obtain⟨m,⟨o',es,ep,ho',hd',_⟩,_⟩:=I.loc
 rw [z,ho'] at ho;cases ho;rw [hd'] at hd;cases hd
theorem Inv.funs(I:Inv X pins σ H s):s.heap.FunFrames X.base X.outer:=by
 have all:∀ (l:List Env),(∀ b ∈ frs l,b ∈ X.fs)->X.s₀.heap.FunFrames X.base l->s.heap.FunFrames X.base l:=by
  intro l
  induction l with
  | nil=>intro _ _;trivial
  | cons env r ih =>
   intro hs hl
   obtain⟨hk,⟨L,o,hf,hn,ho,hd⟩,hr⟩:=hl
   have hL:L ∈ X.fs:=hs L (by unfold frs;rw [filterMap_cons,hf];exact mem_cons_self)
   obtain⟨sl,e⟩:=I.base.slot L o ho (I.ok.frf L hL) hL fun z=>I.ok.exfs L z hL
   exact⟨hk,⟨L,_,hf,hn,e,hd⟩,ih (fun b hb=>hs b (by unfold frs;rw [filterMap_cons,hf];exact mem_cons_of_mem _ hb)) hr⟩
 exact all X.outer (fun _ hb=>hb) I.ok.funs
theorem Inv.stack(I:Inv X pins σ H s):s.heap.FunFrames X.base X.stack:=by
 rcases I.ok.stk with e | ⟨e,hf⟩
 ·rw [e];exact I.funs
 ·rw [e]
  obtain⟨m,hn,_⟩:=I.loc
  refine .cons (by rw [I.ok.kind];decide) hf hn ?_ I.funs
  exact Heap.get?_none_of_le (le_trans I.ok.bsz I.ok.above)
theorem Inv.stkSub(I:Inv X pins σ H s):∀ b ∈ frs X.stack,b ∈ X.env.locals :: X.fs:=fun b hb=>by
 rcases I.ok.stk with e | ⟨e,hf⟩
 ·rw [e] at hb;exact mem_cons_of_mem _ hb
 ·rw [e] at hb
  unfold frs at hb
  rw [filterMap_cons,hf] at hb
  exact hb
theorem Inv.stkFree(I:Inv X pins σ H s):∀ b ∈ frs X.stack,H b=none:=fun b hb=>by
 rcases mem_cons.mp (I.stkSub b hb) with e | hb
 ·rw [e];exact I.free
 ·obtain⟨_,o,ho,_⟩:=I.ok.funs.mem hb
  exact I.base.free b o ho (I.ok.frf b hb) fun z=>I.ok.exfs b z hb
theorem Inv.step{g':Array GenState}{t':Nat}{d':Drawn}{ch:List Addr}(I:Inv X pins σ H s)
  (hch:∀ b ∈ ch,(b ∈ X.ex ∨ X.s₀.heap.objs.size <= b)/\b ≠ X.env.locals/\(∀ x c,X.env.cells.lookup x=some c->c ≠ b)/\∀ p ∈ X.pn ++ pins,p.1 ≠ b)
  (keep:∀ b o,b ≠ X.env.locals->b ∉ X.fs->b ∉ ch->s.heap.get? b=some o->H b=none->h'.get? b=some o)
  (slot:∀ b o,b ≠ X.env.locals->b ∈ X.fs->b ∉ ch->s.heap.get? b=some o->H b=none->∃ sl,h'.get? b=some { o with slots:=sl }) (free:∀ b o,b ∉ ch->s.heap.get? b=some o->H b=none->H' b=none)
  (there:∀ b o,b ∉ ch->s.heap.get? b=some o->∃ o',h'.get? b=some o')
  (tups:∀ b xs,H b=some (.tup xs)->H' b=some (.tup xs)) (frzs:∀ b o u,H b=some (.frz o u)->H' b=some (.frz o u)) (tbls:∀ b ps,H b=some (.tbl ps)->∃ more,H' b=some (.tbl (ps ++ more)))
  (ns:∀ m,s.heap.Ns X.env.locals m->h'.Ns X.env.locals m) (hok:HOk X.prog X.w H' h') (hg:AllBare g') :
  Inv X pins σ H' { s with heap:=h',gens:=g',drawn:=d',toks:=t' }:=by
 have neL:∀ b o,X.s₀.heap.get? b=some o->b ≠ X.env.locals:=fun b o e=>ne_of_lt (lt_of_lt_of_le (lt_size e) I.ok.above)
 have neC:∀ b o,X.s₀.heap.get? b=some o->b ∉ X.ex->b ∉ ch:=fun b o e hx hb=>by
  rcases (hch b hb).1 with z | z
  ·exact hx z
  ·exact absurd (lt_of_lt_of_le (lt_size e) z) (lt_irrefl _)
 have cellK:∀ x c,X.env.cells.lookup x=some c->∀ v,s.heap.IsCell c v->h'.IsCell c v:=fun x c e v hq8=>by
  obtain⟨o,ho,hd⟩:=hq8
  have nch:c ∉ ch:=fun z=>(hch c z).2.2.1 x c e rfl
  by_cases hc:c ∈ X.fs
  ·obtain⟨sl,q⟩:=slot c o (I.cne x c e) hc nch ho (I.freeC x c e)
   exact⟨_,q,hd⟩
  ·exact⟨o,keep c o (I.cne x c e) hc nch ho (I.freeC x c e),hd⟩
 refine⟨I.ok,I.os,hg,⟨fun b o e n hb hx=>?_,fun b o e n hb hx=>?_,fun b o e n hx=>?_,fun b o e hx=>?_,fun b xs e=>tups b xs (I.base.tups b xs e),fun b o xs e=>frzs b o xs (I.base.frzs b o xs e),fun b ps e=>?_⟩,?_,fun x c e=>?_,?_,fun x c e=>?_,fun p hp=>?_,hok,I.len⟩
 ·exact keep b o (neL b o e) hb (neC b o e hx) (I.base.keep b o e n hb hx) (I.base.free b o e n hx)
 ·obtain⟨sl,e1⟩:=I.base.slot b o e n hb hx
  obtain⟨sl',e2⟩:=slot b _ (neL b o e) hb (neC b o e hx) e1 (I.base.free b o e n hx)
  exact⟨sl',e2⟩
 ·obtain⟨o',e1⟩:=I.base.there b o e hx
  exact free b o' (neC b o e hx) e1 (I.base.free b o e n hx)
 ·obtain⟨o',e1⟩:=I.base.there b o e hx
  exact there b o' (neC b o e hx) e1
 ·obtain⟨m1,e1⟩:=I.base.tbls b ps e
  obtain⟨m2,e2⟩:=tbls b _ e1
  exact⟨m1 ++ m2,by rw [e2,Array.append_assoc]⟩
 ·obtain⟨m,hn,hl⟩:=I.loc
  refine⟨m,ns m hn,fun i x v e1 e2 e3=>?_⟩
  obtain⟨u,r,l⟩:=hl i x v e1 e2 e3
  refine⟨u,r,?_⟩
  rcases l with l | ⟨k,c,e,z⟩
  ·exact .inl l
  ·exact .inr ⟨k,c,e,cellK x c e _ z⟩
 ·obtain⟨v,z⟩:=I.cell x c e
  exact⟨v,cellK x c e v z⟩
 ·obtain⟨m,⟨o,_,_,ho,_⟩,_⟩:=I.loc
  exact free _ o (fun z=>(hch _ z).2.1 rfl) ho I.free
 ·obtain⟨v,o,ho,hd⟩:=I.cell x c e
  exact free c o (fun z=>(hch c z).2.2.1 x c e rfl) ho (I.freeC x c e)
 ·obtain⟨e,n,ne,nf,d⟩:=I.pin p hp
  have nch:p.1 ∉ ch:=fun z=>(hch p.1 z).2.2.2 p hp rfl
  exact⟨keep p.1 p.2 ne nf nch e n,free p.1 p.2 nch e n,ne,nf,d⟩
theorem Inv.un{t':Nat}(I:Inv X pins σ H s)(u:Un X.fs [] H H' s.heap h')(hok:HOk X.prog X.w H' h'):Inv X pins σ H' { s with heap:=h',toks:=t' }:=by
 obtain⟨m,⟨o,es,ep,ho,r⟩,_⟩:=id I.loc
 obtain⟨sl,hL⟩:=u.any ho I.free (by simp)
 exact I.step (g':=s.gens) (d':=s.drawn) (ch:=[]) (fun _ z=>nomatch z) (fun b o _ hb _ e n=>u.keep b o e n hb (by simp)) (fun b o _ hb _ e n=>u.slot b o e n hb (by simp)) (fun b o _ e n=>u.free b o e n (by simp)) (fun b o _ e=>u.there b o e (by simp)) u.tups u.frzs u.tbls (fun m' hm=>by
  obtain⟨o',es',ep',ho',r'⟩:=hm
  rw [ho] at ho';cases ho'
  exact⟨_,es',ep',hL,r'⟩) hok I.bare
theorem Inv.call{g':Array GenState}{t':Nat}{d':Drawn}{ch:List Addr}(I:Inv X pins σ H s)(u:Un (frs X.stack) ch H H' s.heap h')(hok:HOk X.prog X.w H' h')(hg:AllBare g')
  (hch:∀ b ∈ ch,(b ∈ X.ex ∨ X.s₀.heap.objs.size <= b)/\b ≠ X.env.locals/\(∀ x c,X.env.cells.lookup x=some c->c ≠ b)/\∀ p ∈ X.pn ++ pins,p.1 ≠ b) :
  Inv X pins σ H' { s with heap:=h',gens:=g',drawn:=d',toks:=t' }:=by
 obtain⟨m,⟨o,es,ep,ho,r⟩,_⟩:=id I.loc
 obtain⟨sl,hL⟩:=u.any ho I.free fun z=>(hch _ z).2.1 rfl
 exact I.step (ch:=ch) hch (fun b o hL hb hc e n=>u.keep b o e n (fun z=>(mem_cons.mp (I.stkSub b z)).elim hL hb) hc) (fun b o _ _ hc e n=>u.any e n hc) (fun b o hc e n=>u.free b o e n hc) (fun b o hc e=>u.there b o e hc) u.tups u.frzs u.tbls (fun m' hm=>by
  obtain⟨o',es',ep',ho',r'⟩:=hm
  rw [ho] at ho';cases ho'
  exact⟨_,es',ep',hL,r'⟩) hok hg
theorem Inv.turned{t':Nat}{it:Addr}(I:Inv X pins σ H s)(k:∀ b o,b ≠ it->s.heap.get? b=some o->h'.get? b=some o)(hn:H it=none)(hL:it ≠ X.env.locals)
  (h1:it ∈ X.ex ∨ X.s₀.heap.objs.size <= it) (h2:∀ x c,X.env.cells.lookup x=some c->c ≠ it) (h3:∀ p ∈ X.pn ++ pins,p.1 ≠ it):Inv X pins σ H { s with heap:=h',toks:=t' }:=by
 have nit:∀ b u,H b=some u->b ≠ it:=fun b u e z=>by rw [z,hn] at e;cases e
 refine I.step (g':=s.gens) (d':=s.drawn) (ch:=[it]) (fun b hb=>?_) (fun b o _ _ hc e _=>k b o (fun z=>hc (by simp [z])) e) (fun b o _ _ hc e _=>⟨o.slots,k b o (fun z=>hc (by simp [z])) e⟩) (fun _ _ _ _ n=>n)
  (fun b o hc e=>⟨o,k b o (fun z=>hc (by simp [z])) e⟩) (fun _ _ e=>e) (fun _ _ _ e=>e) (fun b ps e=>⟨#[],by rw [e];simp⟩) (fun m hm=>?_) (fun b u e=>?_) I.bare
 ·have e:b=it:=by simpa using hb
  subst e
  exact⟨h1,hL,h2,h3⟩
 ·obtain⟨o,es,ep,ho,r⟩:=hm
  exact⟨o,es,ep,k _ o (Ne.symm hL) ho,r⟩
 ·refine(I.hok b u e).stay (fun c v hc q=>k c v ?_ q) (fun _ q=>q) (fun _ _ q=>q) fun _ _ _ q=>q
  rcases hc with z | z
  ·rw [z];exact nit b u e
  ·exact nit c _ z
theorem Inv.tok(I:Inv X pins σ H s)(t:Nat):Inv X pins σ H { s with toks:=t }:=I.un (h':=s.heap) (t':=t) Un.refl I.hok
theorem Inv.kept{t':Nat}(I:Inv X pins σ H s)(k:∀ b u,s.heap.get? b=some u->h'.get? b=some u):Inv X pins σ H { s with heap:=h',toks:=t' }:=I.un (Un.kept k) (I.hok.kept k)
theorem Inv.laid{a:Addr}{o:HO}{t':Nat}(I:Inv X pins σ H s)(k:∀ b u,s.heap.get? b=some u->h'.get? b=some u)(hp:s.heap.objs.size <= a)(new:a2v X.prog X.w (upd H a o) h' a o) :
  Inv X pins σ (upd H a o) { s with heap:=h',toks:=t' }:=I.un (Un.laid k hp (I.hok.fresh hp)) (I.hok.laid k hp new)
theorem Inv.write{x e:Addr}{o:HO}{t':Nat}(I:Inv X pins σ H s)(mu:Mut (H x))(he:e=x ∨ H e=some (.own x))(k:∀ b u,b ≠ e->s.heap.get? b=some u->h'.get? b=some u)(heo:∃ u,h'.get? e=some u)
  (new:a2v X.prog X.w (upd H x o) h' x o):Inv X pins σ (upd H x o) { s with heap:=h',toks:=t' }:=I.un (Un.write mu he k heo) (I.hok.write mu he k heo new)
theorem Inv.pins_of{pins':List (Addr × Obj)}(I:Inv X pins σ H s)(h:∀ p ∈ pins',s.heap.get? p.1=some p.2/\H p.1=none/\p.1 ≠ X.env.locals/\p.1 ∉ X.fs/\∀ v,p.2.data ≠ .cell v):Inv X pins' σ H s:=
 ⟨I.ok,I.os,I.bare,I.base,I.loc,I.cell,I.free,I.freeC,fun p hp=>(mem_append.mp hp).elim (fun z=>I.pin p (mem_append_left _ z)) (h p),I.hok,I.len⟩
theorem b9r{N:List Str}(hN:N.Nodup){i j:Nat}{x:Str}(a:N[i]? = some x)(b:N[j]? = some x):i=j:=by
 obtain⟨h1,e1⟩:=List.getElem?_eq_some_iff.mp a
 obtain⟨h2,e2⟩:=List.getElem?_eq_some_iff.mp b
 exact(List.getElem_inj hN).mp (e1.trans e2.symm)
theorem b8f{M:Model}{A:Around}{E:Value->Shared->Prop}{i:Nat}{x:Str}{v:V}{u:Value}{Q:Unit->Shared->Prop}(I:Inv X pins σ H s)(hN:X.N.Nodup)(hi:X.N[i]? = some x)(hx:Loc X.env.scope x)(r:RelV v u)
  (h:∀ s',Inv X pins (σ.set i (some v)) H s'->(∃ a,Heap.SameBut a s.heap s'.heap/\(a=X.env.locals ∨ X.env.cells.lookup x=some a))->Q () s') (hf:X.fn x=true ∨ X.env.scope.names.lookup x=some .local:=by first | exact .inl rfl | exact .inr rfl | assumption):wpAny M A (storeName X.env x u) Q E s:=by
 obtain⟨m,hn,hl⟩:=id I.loc
 have hcls:(X.env.scope.kind == .class || (X.env.scope.kind == .module && X.env.locals != X.env.globals))=false:=by rw [I.ok.kind];rfl
 have hiσ:i < σ.length:=by rw [I.len];exact(List.getElem?_eq_some_iff.mp hi).1
 have cne:=I.cne
 have tracked:∀ {a:Addr} {h':Heap},(∃ o,s.heap.get? a=some o/\H a=none)->Heap.SameBut a s.heap h'->HOk X.prog X.w H h':=fun{a h'} ha hs b ob e=>by
  obtain⟨_,_,hfree⟩:=ha
  refine(I.hok b ob e).stay (fun c w' hc q=>(hs.2 c ?_).trans q) (fun _ q=>q) (fun _ _ q=>q) fun _ _ _ q=>q
  rintro rfl
  rcases hc with rfl | hc
  ·rw [hfree] at e;cases e
  ·rw [hfree] at hc;cases hc
 rcases hx with hk | hk
 ·refine wpAny_storeName_local hk hn (fun h' hn' hs=>?_) hcls
  obtain⟨oL,_,_,hoL,_⟩:=id hn
  refine h _ ⟨I.ok,I.os,I.bare,⟨fun b o e n hb hx=>?_,fun b o e n hb hx=>?_,I.base.free,fun b o e hx=>?_,I.base.tups,I.base.frzs,I.base.tbls⟩,⟨_,hn',fun j y v' e1 e2 e3=>?_⟩,fun y c e=>?_,I.free,I.freeC,fun p hp=>?_,tracked ⟨oL,hoL,I.free⟩ hs,by simpa using I.len⟩ ⟨_,hs,.inl rfl⟩
  ·exact(hs.2 b (ne_of_lt (lt_of_lt_of_le (lt_size e) I.ok.above))).trans (I.base.keep b o e n hb hx)
  ·obtain⟨sl,e1⟩:=I.base.slot b o e n hb hx
   exact⟨sl,(hs.2 b (ne_of_lt (lt_of_lt_of_le (lt_size e) I.ok.above))).trans e1⟩
  ·obtain⟨o',e1⟩:=I.base.there b o e hx
   exact⟨o',(hs.2 b (ne_of_lt (lt_of_lt_of_le (lt_size e) I.ok.above))).trans e1⟩
  ·by_cases hj:j=i
   ·subst hj
    rw [hi] at e1;cases e1
    rw [getElem?_set_self hiσ] at e2
    cases e2
    exact⟨u,r,.inl ⟨hk,by simp⟩⟩
   ·rw [getElem?_set_ne (Ne.symm hj)] at e2
    obtain⟨u',r',q⟩:=hl j y v' e1 e2 e3
    refine⟨u',r',?_⟩
    rcases q with⟨k,e⟩ | ⟨k,c,e,z⟩
    ·refine .inl ⟨k,?_⟩
     have:y ≠ x:=fun e=>hj (b9r hN e1 (e ▸ hi))
     simp [this,e]
    ·exact .inr ⟨k,c,e,z.sameBut hs (cne y c e)⟩
  ·obtain⟨w',z⟩:=I.cell y c e
   exact⟨w',z.sameBut hs (cne y c e)⟩
  ·obtain⟨e,n,ne,nf,d⟩:=I.pin p hp
   exact⟨(hs.2 p.1 ne).trans e,n,ne,nf,d⟩
 ·have hfn:X.fn x=true:=by
   rcases hf with z | z
   ·exact z
   ·rw [z] at hk;cases hk
  obtain⟨c,hc⟩:=I.ok.has x (.inl hk)
  obtain⟨w',z⟩:=I.cell x c hc
  refine wpAny_storeName_cell I.ok.kind hk hc z (fun h' hc' hs=>?_)
  obtain⟨oc,hoc,hocd⟩:=id z
  refine h { s with heap:=h' } ⟨I.ok,I.os,I.bare,⟨fun b o e n hb hx=>?_,fun b o e n hb hx=>?_,I.base.free,fun b o e hx=>?_,I.base.tups,I.base.frzs,I.base.tbls⟩,⟨m,hn.sameBut hs (Ne.symm (cne x c hc)),fun j y v' e1 e2 e3=>?_⟩,fun y c' e=>?_,I.free,I.freeC,fun p hp=>?_,tracked ⟨oc,hoc,I.freeC x c hc⟩ hs,by simpa using I.len⟩ ⟨c,hs,.inr hc⟩
  ·exact(hs.2 b (ne_of_lt (lt_of_lt_of_le (lt_size e) (I.ok.cab x c hfn hc)))).trans (I.base.keep b o e n hb hx)
  ·obtain⟨sl,e1⟩:=I.base.slot b o e n hb hx
   exact⟨sl,(hs.2 b (ne_of_lt (lt_of_lt_of_le (lt_size e) (I.ok.cab x c hfn hc)))).trans e1⟩
  ·obtain⟨o',e1⟩:=I.base.there b o e hx
   exact⟨o',(hs.2 b (ne_of_lt (lt_of_lt_of_le (lt_size e) (I.ok.cab x c hfn hc)))).trans e1⟩
  ·by_cases hj:j=i
   ·subst hj
    rw [hi] at e1;cases e1
    rw [getElem?_set_self hiσ] at e2
    cases e2
    exact⟨u,r,.inr ⟨.inl hk,c,hc,hc'⟩⟩
   ·rw [getElem?_set_ne (Ne.symm hj)] at e2
    obtain⟨u',r',q⟩:=hl j y v' e1 e2 e3
    refine⟨u',r',?_⟩
    rcases q with q | ⟨k,c',e,z'⟩
    ·exact .inl q
    ·refine .inr ⟨k,c',e,z'.sameBut hs ?_⟩
     rintro rfl
     exact hj (b9r hN e1 (I.ok.inj _ _ _ e hc ▸ hi))
  ·by_cases hcc:c'=c
   ·subst hcc;exact⟨_,hc'⟩
   ·obtain⟨w2,z2⟩:=I.cell y c' e
    exact⟨w2,z2.sameBut hs hcc⟩
  ·obtain⟨e,n,ne,nf,d⟩:=I.pin p hp
   refine⟨(hs.2 p.1 ?_).trans e,n,ne,nf,d⟩
   intro q
   rw [q,hoc] at e
   have q':oc=p.2:=Option.some.inj e
   exact d w' (by rw [← q'];exact hocd)
theorem b9s{M:Model}{A:Around}{E:Value->Shared->Prop}{i:Nat}{x:Str}{v:V}{u:Value}{Q:Unit->Shared->Prop}(I:Inv X pins σ H s)(hN:X.N.Nodup)(hi:X.N[i]? = some x)(hx:Loc X.env.scope x)(r:RelV v u)
  (h:∀ s',Inv X pins (σ.set i (some v)) H s'->Q () s') (hf:X.fn x=true ∨ X.env.scope.names.lookup x=some .local:=by first | exact .inl rfl | exact .inr rfl | assumption):wpAny M A (storeName X.env x u) Q E s:=
 b8f I hN hi hx r (fun s' I' _=>h s' I') hf
theorem Inv.call'{s':Shared}{ch:List Addr}(I:Inv X pins σ H s)(ho:s'.os=s.os)(u:Un (frs X.stack) ch H H' s.heap s'.heap)(hok:HOk X.prog X.w H' s'.heap)(hg:AllBare s'.gens)
  (hch:∀ b ∈ ch,(b ∈ X.ex ∨ X.s₀.heap.objs.size <= b)/\b ≠ X.env.locals/\(∀ x c,X.env.cells.lookup x=some c->c ≠ b)/\∀ p ∈ X.pn ++ pins,p.1 ≠ b):Inv X pins σ H' s':=by
 obtain⟨h',g',d',t',o'⟩:=s'
 have e:o'=s.os:=ho
 subst e
 exact I.call (g':=g') (t':=t') (d':=d') u hok hg hch
end
abbrev XK:=Value->Option Addr->Hp->Prop
abbrev St:=List (Option V)
abbrev VK:=V->Hp->Prop
abbrev TE:=St->Hp->VK->Prop
abbrev TT:=St->Hp->(Bool->Hp->Prop)->Prop
abbrev TA:=St->Hp->(List V->Hp->Prop)->Prop
structure Ends where
 nx:St->Hp->Prop
 rt:VK
 bk:St->Hp->Prop:=fun _ _=>False
 ct:St->Hp->Prop:=fun _ _=>False
abbrev TS:=Ends->St->Hp->Prop
def EP(X:Cx)(pins:List (Addr × Obj))(σ:St)(Q:VK)(u:Value)(s':Shared):Prop:=∃ v H',Inv X pins σ H' s'/\RelV v u/\Q v H'
def TP(X:Cx)(pins:List (Addr × Obj))(σ:St)(Q:Bool->Hp->Prop)(b:Bool)(s':Shared):Prop:=∃ H',Inv X pins σ H' s'/\Q b H'
def AP(X:Cx)(pins:List (Addr × Obj))(σ:St)(Q:List V->Hp->Prop)(us:List Value)(s':Shared):Prop:=∃ vs H',Inv X pins σ H' s'/\Vals vs us/\Q vs H'
def SP(X:Cx)(pins:List (Addr × Obj))(D:Ends)(f:Flow)(s':Shared):Prop:=
 match f with
 | .next=>∃ σ' H',Inv X pins σ' H' s'/\D.nx σ' H'
 | .brk=>∃ σ' H',Inv X pins σ' H' s'/\D.bk σ' H'
 | .cont=>∃ σ' H',Inv X pins σ' H' s'/\D.ct σ' H'
 | .ret u=>∃ v σ' H',Inv X pins σ' H' s'/\RelV v u/\D.rt v H'
def PE(X:Cx)(e:Expr)(t:TE):Prop:=
 ∀ (pins:List (Addr × Obj)) (s:Shared) (σ:St) (H:Hp) (Q:VK),Inv X pins σ H s->t σ H Q->wpAny (model X.prog X.w) X.A (eval e X.env) (EP X pins σ Q) X.xe s
def PT(X:Cx)(e:Expr)(t:TT):Prop:=
 ∀ (pins:List (Addr × Obj)) (s:Shared) (σ:St) (H:Hp) (Q:Bool->Hp->Prop),Inv X pins σ H s->t σ H Q->wpAny (model X.prog X.w) X.A (isTrue e X.env (eval e X.env)) (TP X pins σ Q) X.xe s
def PW(X:Cx)(e:Expr)(t:TT):Prop:=
 ∀ (whole:Sem Value) (pins:List (Addr × Obj)) (s:Shared) (σ:St) (H:Hp) (Q:Bool->Hp->Prop),Inv X pins σ H s->t σ H Q->wpAny (model X.prog X.w) X.A (isTrue e X.env whole) (TP X pins σ Q) X.xe s
theorem PW.pt{X:Cx}{e:Expr}{t:TT}(h:PW X e t):PT X e t:=h _
def PA(X:Cx)(es:List Expr)(t:TA):Prop:=
 ∀ (pos:Pos) (pins:List (Addr × Obj)) (s:Shared) (σ:St) (H:Hp) (Q:List V->Hp->Prop),Inv X pins σ H s->t σ H Q->wpAny (model X.prog X.w) X.A (spliced (backTo pos (starEach es X.env))) (AP X pins σ Q) X.xe s
def PS(X:Cx)(st:Stmt)(t:TS):Prop:=
 ∀ (pins:List (Addr × Obj)) (s:Shared) (σ:St) (H:Hp) (D:Ends),Inv X pins σ H s->t D σ H->wpAny (model X.prog X.w) X.A (exec st X.env) (SP X pins D) X.xe s
def PSs(X:Cx)(st:List Stmt)(t:TS):Prop:=
 ∀ (pins:List (Addr × Obj)) (s:Shared) (σ:St) (H:Hp) (D:Ends),Inv X pins σ H s->t D σ H->wpAny (model X.prog X.w) X.A (execs st X.env) (SP X pins D) X.xe s
theorem thn{α:Type}{t:Sem α}{Q Q':α->Shared->Prop}{M:Model}{A:Around}{E:Value->Shared->Prop}{s:Shared}(h:wpAny M A t Q E s)(hQ:∀ a s,Q a s->Q' a s):wpAny M A t Q' E s:=wpAny_mono h hQ fun _ _ x=>x
end L2
namespace L2
open PySem PySem.Spec PyProof.Rows
section
variable{X:Cx}
def tVar(i:Nat):TE:=fun σ H Q=>∃ v,σ[i]? = some (some v)/\Q v H
def tC(v:V):TE:=fun _ H Q=>Q v H
theorem b0u{i:Nat}{x:Str}{pos:Pos}(hN:X.N[i]? = some x)(hv:Vis X.env.scope x) (hd:(x == ("__debug__" : Str))=false:=by decide) (hcd:(x == ("__classdict__" : Str))=false:=by decide):PE X (.Name x pos) (tVar i):=by
 intro pins s σ H Q I h
 obtain⟨v,e,h⟩:=h
 obtain⟨m,hn,hl⟩:=I.loc
 obtain⟨u,r,l⟩:=hl i x v hN e hv
 have fin:EP X pins σ Q u s:=⟨v,H,I,r,h⟩
 rcases l with⟨hk,hm⟩ | ⟨hk,c,hc,hcell⟩
 ·exact wpAny_Name (wpAny_loadName_local I.ok.kind hk hn hm fin) hd
 ·rcases hk with hk | hk
  ·exact wpAny_Name (wpAny_loadName_cell I.ok.kind hk hc hcell fin) hd
  ·exact wpAny_Name (wpAny_loadName_free I.ok.kind hk hc hcell fin hcd) hd
theorem a0v{i j pos}:PE X (.Constant (.int i) j pos) (tC (.int i)):=fun _ _ _ H _ I h=>wpAny_Constant_int ⟨.int i,H,I.tok _,⟨_,rfl⟩,h⟩
theorem pe_bl{b j pos}:PE X (.Constant (.bool b) j pos) (tC (.bl b)):=fun _ _ _ H _ I h=>Constant_bool ⟨.bl b,H,I,rfl,h⟩
theorem e0e{j pos}:PE X (.Constant .none j pos) (tC .non):=fun _ _ _ H _ I h=>Constant_none ⟨.non,H,I,rfl,h⟩
theorem a2y{x j pos}:PE X (.Constant (.str x) j pos) (tC (.str x)):=fun _ _ _ H _ I h=>Calls.Constant_str ⟨.str x,H,I.tok _,⟨_,rfl⟩,h⟩
def Gl(X:Cx)(x:Str):Prop:=X.env.kindOf x=some .globalImplicit
theorem b4a{E:Value->Shared->Prop}{pins:List (Addr × Obj)}{s:Shared}{σ:St}{H:Hp}{x:Str}{u:Value}{pos:Pos}{Q:Value->Shared->Prop}(I:Inv X pins σ H s)(hg:Gl X x)(hm:X.mg x=some u)(h:Q u s)
  (hd:(x == ("__debug__" : Str))=false:=by decide):wpAny (model X.prog X.w) X.A (eval (.Name x pos) X.env) Q E s:=
 Calls.Name_function_global I.ok.kind hg (Calls.loadGlobal_global (by rw [I.ok.glob];exact I.mod.glob.keeps I.bk) hm h) hd
theorem b2z{E:Value->Shared->Prop}{pins:List (Addr × Obj)}{s:Shared}{σ:St}{H:Hp}{x:Str}{u:Value}{pos:Pos}{Q:Value->Shared->Prop}(I:Inv X pins σ H s)(hg:Gl X x)(hm:X.mg x=none)(hv:bootBuiltins x=some u)(h:Q u s)
  (hn:x ≠ "__name__":=by decide) (hd:(x == ("__debug__" : Str))=false:=by decide):wpAny (model X.prog X.w) X.A (eval (.Name x pos) X.env) Q E s:=by
 obtain⟨mb,h1,h2⟩:=I.mod.blt
 exact Calls.Name_function_global I.ok.kind hg (Calls.loadGlobal_builtin (by rw [I.ok.glob];exact I.mod.glob.keeps I.bk) hm (by rw [I.ok.blt];exact h1.keeps I.bk) ((h2 x hn).trans hv) h) hd
theorem a3d{x:Str}{v:V}{u:Value}{pos:Pos}(hg:Gl X x)(hm:X.mg x=some u)(r:RelV v u) (hd:(x == ("__debug__" : Str))=false:=by decide):PE X (.Name x pos) (tC v):=
 fun _ _ _ H _ I h=>b4a I hg hm ⟨v,H,I,r,h⟩ hd
theorem d5g{x:Str}{v:V}{u:Value}{pos:Pos}(hg:Gl X x)(hm:X.mg x=none)(hv:bootBuiltins x=some u)(r:RelV v u) (hn:x ≠ "__name__":=by decide) (hd:(x == ("__debug__" : Str))=false:=by decide):PE X (.Name x pos) (tC v):=
 fun _ _ _ H _ I h=>b2z I hg hm hv ⟨v,H,I,r,h⟩ hn hd
variable{a b:Expr}{ta tb:TE}{pos:Pos}
def tB(t:TE):TT:=fun σ H Q=>t σ H fun x H1=>∃ c,x=.bl c/\Q c H1
theorem b0v{e:Expr}{t:TE}(h:PE X e t)(he:∀ whole,isTrue e X.env whole=(do let v ← whole;standAt e.pos;holding [v] (truthy v)):=by intro _;rfl):PT X e (tB t):=by
 intro pins s σ H Q I hw
 refine isTrue_plain (thn (h pins s σ H _ I hw) fun v s1 hq8=>?_) (he _)
 obtain⟨x,H1,I1,r1,q1⟩:=hq8
 obtain⟨d,rfl,q⟩:=q1
 cases r1
 exact wpAny_truthy_bool ⟨H1,I1,q⟩
variable{tA tB':TT}{rest:List Expr}
def tAnd(t u:TT):TT:=fun σ H Q=>t σ H fun c H1=>if c=true then u σ H1 Q else Q false H1
def tOr(t u:TT):TT:=fun σ H Q=>t σ H fun c H1=>if c=true then Q true H1 else u σ H1 Q
def tNot(t:TT):TT:=fun σ H Q=>t σ H fun c H1=>Q (!c) H1
theorem d5h(ha:PT X a tA):PW X (.BoolOp .And [a] pos) tA:=by
 intro wh pins s σ H Q I h
 refine isTrue_and (thn (ha pins s σ H Q I h) fun c s1 e=>?_)
 cases c with
 | true=>exact isTrue_and_nil e
 | false=>exact e
theorem c7c(ha:PT X a tA):PW X (.BoolOp .Or [a] pos) tA:=by
 intro wh pins s σ H Q I h
 refine isTrue_or (thn (ha pins s σ H Q I h) fun c s1 e=>?_)
 cases c with
 | false=>exact isTrue_or_nil e
 | true=>exact e
theorem e0f(ha:PT X a tA)(hb:PW X (.BoolOp .And (b :: rest) pos) tB'):PW X (.BoolOp .And (a :: b :: rest) pos) (tAnd tA tB'):=by
 intro wh pins s σ H Q I h
 refine isTrue_and (thn (ha pins s σ H _ I h) fun c s1 hq9=>?_)
 obtain⟨H1,I1,q1⟩:=hq9
 cases c with
 | true=>exact hb wh pins s1 σ H1 Q I1 q1
 | false=>exact⟨H1,I1,q1⟩
theorem d3s(ha:PT X a tA)(hb:PW X (.BoolOp .Or (b :: rest) pos) tB'):PW X (.BoolOp .Or (a :: b :: rest) pos) (tOr tA tB'):=by
 intro wh pins s σ H Q I h
 refine isTrue_or (thn (ha pins s σ H _ I h) fun c s1 hq9=>?_)
 obtain⟨H1,I1,q1⟩:=hq9
 cases c with
 | true=>exact⟨H1,I1,q1⟩
 | false=>exact hb wh pins s1 σ H1 Q I1 q1
theorem b5z(ha:PT X a tA):PT X (.UnaryOp .Not a pos) (tNot tA):=by
 intro pins s σ H Q I h
 exact isTrue_not (ha pins s σ H (fun c H1=>Q (!c) H1) I h)
def d3t(ta tb:TE):TE:=fun σ H Q=>ta σ H fun x H1=>∃ c,x=.bl c/\if c=true then tb σ H1 Q else Q (.bl false) H1
def tOrV(ta tb:TE):TE:=fun σ H Q=>ta σ H fun x H1=>∃ c,x=.bl c/\if c=true then Q (.bl true) H1 else tb σ H1 Q
def d3u(ta:TE):TE:=fun σ H Q=>ta σ H fun x H1=>∃ c,x=.bl c/\Q (.bl (!c)) H1
theorem a5o{op}{t:TE}(h:PE X a t):PE X (.BoolOp op [a] pos) t:=fun pins s σ H Q I hw=>BoolOp_one (h pins s σ H Q I hw)
theorem a8i(ha:PE X a ta)(hb:PE X (.BoolOp .And (b :: rest) pos) tb):PE X (.BoolOp .And (a :: b :: rest) pos) (d3t ta tb):=by
 intro pins s σ H Q I h
 refine BoolOp_and (thn (ha pins s σ H _ I h) fun v s1 hq9=>?_)
 obtain⟨x,H1,I1,r1,q1⟩:=hq9
 obtain⟨c,rfl,q1⟩:=q1
 cases r1
 refine wpAny_truthy_bool ?_
 cases c with
 | true=>exact hb pins s1 σ H1 Q I1 q1
 | false=>exact⟨.bl false,H1,I1,rfl,q1⟩
theorem b6a(ha:PE X a ta)(hb:PE X (.BoolOp .Or (b :: rest) pos) tb):PE X (.BoolOp .Or (a :: b :: rest) pos) (tOrV ta tb):=by
 intro pins s σ H Q I h
 refine BoolOp_or (thn (ha pins s σ H _ I h) fun v s1 hq9=>?_)
 obtain⟨x,H1,I1,r1,q1⟩:=hq9
 obtain⟨c,rfl,q1⟩:=q1
 cases r1
 refine wpAny_truthy_bool ?_
 cases c with
 | false=>exact hb pins s1 σ H1 Q I1 q1
 | true=>exact⟨.bl true,H1,I1,rfl,q1⟩
theorem c7d(ha:PE X a ta):PE X (.UnaryOp .Not a pos) (d3u ta):=by
 intro pins s σ H Q I h
 refine UnaryOp_ (thn (ha pins s σ H _ I h) fun v s1 hq9=>?_)
 obtain⟨x,H1,I1,r1,q1⟩:=hq9
 obtain⟨c,rfl,q1⟩:=q1
 cases r1
 exact not_of (wpAny_truthy_bool ⟨.bl (!c),H1,I1,rfl,q1⟩)
def tIf(t:TT)(ta tb:TE):TE:=fun σ H Q=>t σ H fun c H1=>if c=true then ta σ H1 Q else tb σ H1 Q
theorem d0l{c:Expr}(hc:PT X c tA)(ha:PE X a ta)(hb:PE X b tb):PE X (.IfExp c a b pos) (tIf tA ta tb):=by
 intro pins s σ H Q I h
 refine wpAny_IfExp (thn (hc pins s σ H _ I h) fun d s1 hq9=>?_)
 obtain⟨H1,I1,q1⟩:=hq9
 cases d with
 | true=>exact ha pins s1 σ H1 Q I1 q1
 | false=>exact hb pins s1 σ H1 Q I1 q1
end
end L2
namespace L2
open PySem PySem.Spec PyProof.Rows
def SqL(K:W.Frag)(H:Hp)(a:Addr)(xs:List V):Prop:=
 Rd H a (.lst xs) ∨
  ∃ (o:Obj) (its:Array Value) (n:Nat),K.lookup a=some o/\o.cls=.type "list" /\ o.dict=none/\o.data=.seq its n/\its.size <= sizeLine/\Vals xs its.toList
def SqT(K:W.Frag)(H:Hp)(a:Addr)(xs:List V):Prop:=
 Rd H a (.tup xs) ∨
  ∃ (o:Obj) (its:Array Value) (n:Nat),K.lookup a=some o/\(o.cls=.type "tuple" /\ o.dict=none)/\o.data=.seq its n/\its.size <= sizeLine/\Vals xs its.toList
noncomputable def absV:Value->Option V
 | .none=>some .non
 | .bool b=>some (.bl b)
 | .int i _=>some (.int i)
 | .str x _=>some (.str x)
 | .bytes b _=>some (.byt b)
 | .float b _=>some (.flt b)
 | .ref a=>some (.ref a)
 | .type n=>some (.ty n)
 | _=>none
theorem RelV.abs{x:V}{u:Value}(r:RelV x u):absV u=some x:=by
 cases x with
 | non=>cases r;rfl
 | bl _=>cases r;rfl
 | int _=>obtain⟨t,rfl⟩:=r;rfl
 | str _=>obtain⟨t,rfl⟩:=r;rfl
 | byt _=>obtain⟨t,rfl⟩:=r;rfl
 | flt _=>obtain⟨t,rfl⟩:=r;rfl
 | ref _=>cases r;rfl
 | ty _=>cases r;rfl
theorem RelV.inj{x y:V}{u:Value}(r:RelV x u)(q:RelV y u):x=y:=Option.some.inj (r.abs.symm.trans q.abs)
theorem Vals.inj:∀ {xs ys:List V} {us:List Value},Vals xs us->Vals ys us->xs=ys
 | _,_,_,.nil,.nil=>rfl
 | _,_,_,.cons r t,.cons r' t'=>by rw [r.inj r',Vals.inj t t']
section
variable{X:Cx}{pins:List (Addr × Obj)}{σ:St}{H:Hp}{s:Shared}{a:Addr}{xs ys:List V}
theorem SqL.of{K:W.Frag}(h:H a=some (.lst xs)):SqL K H a xs:=.inl (.inl h)
theorem SqT.of{K:W.Frag}(h:H a=some (.tup xs)):SqT K H a xs:=.inl (.inl h)
theorem Inv.list(I:Inv X pins σ H s)(h:SqL X.K H a xs):∃ its:List Value,Vals xs its/\PlainL s.heap a its.toArray/\xs.length <= sizeLine:=by
 rcases h with h | ⟨o,its,n,hk,hc,hd,hs,hz,r⟩
 ·obtain⟨z,its,n,r,e⟩:=h.ok I.hok
  exact⟨its,r,⟨_,n,e,rfl,rfl,rfl⟩,z⟩
 ·refine⟨its.toList,r,⟨o,n,I.kIn a o hk,hc,hd,by simpa using hs⟩,?_⟩
  have e:=r.length
  simp only [Array.length_toList] at e
  omega
theorem Inv.tupleP(I:Inv X pins σ H s)(h:SqT X.K H a xs):∃ its:List Value,Vals xs its/\a6e s.heap a its.toArray/\xs.length <= sizeLine:=by
 rcases h with h | ⟨o,its,n,hk,hc,hs,hz,r⟩
 ·obtain⟨z,its,r,p⟩:=h.ok I.hok
  exact⟨its,r,p,z⟩
 ·refine⟨its.toList,r,⟨o,I.kIn a o hk,hc,n,by simpa using hs⟩,?_⟩
  have e:=r.length
  simp only [Array.length_toList] at e
  omega
theorem Inv.tuple(I:Inv X pins σ H s)(h:SqT X.K H a xs):∃ its:List Value,Vals xs its/\IsTup s.heap a its.toArray/\xs.length <= sizeLine:=by obtain⟨its,r,p,z⟩:=I.tupleP h;exact⟨its,r,p.tup,z⟩
theorem Inv.list_inj(I:Inv X pins σ H s)(h:SqL X.K H a xs)(h':SqL X.K H a ys):xs=ys:=by
 obtain⟨its,r,⟨o,n,e,_,_,d⟩,_⟩:=I.list h
 obtain⟨its',r',⟨o',n',e',_,_,d'⟩,_⟩:=I.list h'
 rw [e] at e';cases e'
 rw [d] at d'
 injection d' with d1 _
 have:its=its':=by simpa using congrArg Array.toList d1
 subst this
 exact r.inj r'
theorem Inv.tuple_inj(I:Inv X pins σ H s)(h:SqT X.K H a xs)(h':SqT X.K H a ys):xs=ys:=by
 obtain⟨its,r,⟨o,e,_,n,d⟩,_⟩:=I.tuple h
 obtain⟨its',r',⟨o',e',_,n',d'⟩,_⟩:=I.tuple h'
 rw [e] at e';cases e'
 rw [d] at d'
 injection d' with d1 _
 have:its=its':=by simpa using congrArg Array.toList d1
 subst this
 exact r.inj r'
end
abbrev Cx.wish(X:Cx)(E:Value->Shared->Prop):Cx:={ X with xe:=E }
abbrev Cx.nox(X:Cx):Cx:=X.wish fun _ _=>False
theorem Cx.Ok.wish{X:Cx}(ok:X.Ok)(E:Value->Shared->Prop):(X.wish E).Ok:=
 ⟨ok.mod,ok.kind,ok.glob,ok.blt,ok.above,ok.inj,ok.has,ok.cab,ok.hd,ok.frames,ok.stk,ok.exf,ok.bs,ok.bsz,ok.noex,ok.exfs,ok.funs,ok.frf⟩
theorem Cx.Ok.unwish{X:Cx}{E:Value->Shared->Prop}(ok:(X.wish E).Ok):X.Ok:=
 ⟨ok.mod,ok.kind,ok.glob,ok.blt,ok.above,ok.inj,ok.has,ok.cab,ok.hd,ok.frames,ok.stk,ok.exf,ok.bs,ok.bsz,ok.noex,ok.exfs,ok.funs,ok.frf⟩
section
variable{X:Cx}{pins:List (Addr × Obj)}{σ:St}{H:Hp}{s:Shared}{E:Value->Shared->Prop}
theorem Inv.wish(I:Inv X pins σ H s)(E:Value->Shared->Prop):Inv (X.wish E) pins σ H s:=⟨I.ok.wish E,I.os,I.bare,I.base,I.loc,I.cell,I.free,I.freeC,I.pin,I.hok,I.len⟩
theorem Inv.unwish(I:Inv (X.wish E) pins σ H s):Inv X pins σ H s:=⟨I.ok.unwish,I.os,I.bare,I.base,I.loc,I.cell,I.free,I.freeC,I.pin,I.hok,I.len⟩
theorem SP.unwish{D:Ends}{f:Flow}{s':Shared}(h:SP (X.wish E) pins D f s'):SP X pins D f s':=by
 cases f with
 | next=>obtain⟨σ',H',I,q⟩:=h;exact⟨σ',H',I.unwish,q⟩
 | brk=>obtain⟨σ',H',I,q⟩:=h;exact⟨σ',H',I.unwish,q⟩
 | cont=>obtain⟨σ',H',I,q⟩:=h;exact⟨σ',H',I.unwish,q⟩
 | ret u=>obtain⟨v,σ',H',I,r,q⟩:=h;exact⟨v,σ',H',I.unwish,r,q⟩
theorem PSs.nox{st:List Stmt}{t:TS}(h:PSs X.nox st t):PSs X st t:=fun pins s σ H D I hw =>
 wpAny_mono (h pins s σ H D (I.wish _) hw) (fun _ _ q=>q.unwish) fun _ _ z=>False.elim z
end
section
variable{X:Cx}{st:Stmt}{rest:List Stmt}{t u:TS}{e:Expr}{te:TE}{pos:Pos}
def d3v:TS:=fun D σ H=>D.nx σ H
def tSeq(t u:TS):TS:=fun D σ H=>t { D with nx:=u D } σ H
theorem a3e:PSs X [] d3v:=fun _ _ σ H _ I h=>wpAny_execs_nil ⟨σ,H,I,h⟩
theorem a0o(h1:PS X st t)(h2:PSs X rest u):PSs X (st :: rest) (tSeq t u):=by
 intro pins s σ H D I h
 refine wpAny_execs_cons (thn (h1 pins s σ H { D with nx:=u D } I h) fun f s1 q=>?_)
 cases f with
 | next =>
  obtain⟨σ',H',I',q⟩:=q
  exact h2 pins s1 σ' H' D I' q
 | ret v=>exact q
 | brk=>exact q
 | cont=>exact q
theorem a0s(h1:PS X st t):PSs X [st] t:=by
 intro pins s σ H D I h
 refine wpAny_execs_cons (thn (h1 pins s σ H D I h) fun f s1 q=>?_)
 cases f with
 | next=>exact wpAny_execs_nil q
 | ret v=>exact q
 | brk=>exact q
 | cont=>exact q
theorem Inv.quiet{pins:List (Addr × Obj)}{σ:St}{H:Hp}{s:Shared}(I:Inv X pins σ H s):interactive X.env=false:=by simp [interactive,I.ok.kind]
def d3w(te:TE):TS:=fun D σ H=>te σ H fun _ H1=>D.nx σ H1
theorem a4d(he:PE X e te)(hs:swapsWith e none pos.line X.env=pure false:=by rfl):PS X (.Expr e pos) (d3w te):=by
 intro pins s σ H D I h
 exact wpAny_Expr_any (thn (he pins s σ H _ I h) fun v s1 hq8=>by obtain⟨x,H1,I1,r1,q1⟩:=hq8;exact⟨σ,H1,I1,q1⟩) I.quiet hs
def tRet(te:TE):TS:=fun D σ H=>te σ H D.rt
theorem a1p(he:PE X e te):PS X (.Return (some e) pos) (tRet te):=by
 intro pins s σ H D I h
 exact wpAny_Return_some (thn (he pins s σ H _ I h) fun v s1 hq8=>by obtain⟨x,H1,I1,r1,q1⟩:=hq8;exact⟨x,σ,H1,I1,r1,q1⟩)
def tIfS(c:TT)(t u:TS):TS:=fun D σ H=>c σ H fun b H1=>if b=true then t D σ H1 else u D σ H1
theorem a4a{c:Expr}{a b:List Stmt}{tc:TT}(hc:PT X c tc)(ha:PSs X a t)(hb:PSs X b u):PS X (.If c a b pos) (tIfS tc t u):=by
 intro pins s σ H D I h
 refine wpAny_If (thn (hc pins s σ H _ I h) fun d s1 hq9=>?_)
 obtain⟨H1,I1,q1⟩:=hq9
 cases d with
 | true=>exact ha pins s1 σ H1 D I1 q1
 | false=>exact hb pins s1 σ H1 D I1 q1
end
abbrev TG:=V->St->Hp->(St->Hp->Prop)->Prop
abbrev TGs:=List V->St->Hp->(St->Hp->Prop)->Prop
def PG(X:Cx)(target:Expr)(t:TG):Prop:=
 ∀ (pins:List (Addr × Obj)) (s:Shared) (σ:St) (H:Hp) (v:V) (u:Value) (Q:St->Hp->Prop),Inv X pins σ H s->RelV v u->t v σ H Q ->
  wpAny (model X.prog X.w) X.A (assign target X.env u) (fun _ s'=>∃ σ' H',Inv X pins σ' H' s'/\Q σ' H') X.xe s
def PGs(X:Cx)(ts:List Expr)(t:TGs):Prop:=
 ∀ (pins:List (Addr × Obj)) (s:Shared) (σ:St) (H:Hp) (vs:List V) (us:List Value) (Q:St->Hp->Prop),Inv X pins σ H s->Vals vs us->t vs σ H Q ->
  wpAny (model X.prog X.w) X.A (assignInOrder ((assignEach ts X.env).map (·.2)) us) (fun _ s'=>∃ σ' H',Inv X pins σ' H' s'/\Q σ' H') X.xe s
abbrev TSet:=V->V->V->Hp->(Hp->Prop)->Prop
def PSet(X:Cx)(t:TSet):Prop:=
 ∀ (pins:List (Addr × Obj)) (s:Shared) (σ:St) (H:Hp) (o i v:V) (ov iv u:Value) (Q:Hp->Prop),Inv X pins σ H s->RelV o ov->RelV i iv->RelV v u->t o i v H Q ->
  wpAny (model X.prog X.w) X.A (setItem ov iv u) (fun _ s'=>∃ H',Inv X pins σ H' s'/\Q H') X.xe s
section
variable{X:Cx}{pos:Pos}
noncomputable def a4p(i:Nat):TG:=fun v σ H Q=>Q (σ.set i (some v)) H
theorem a9c{i:Nat}{x:Str}(hN:X.N.Nodup)(hi:X.N[i]? = some x)(hx:Loc X.env.scope x)(hf:X.fn x=true ∨ X.env.scope.names.lookup x=some .local:=by first | exact .inl rfl | exact .inr rfl | assumption):PG X (.Name x pos) (a4p i):=by
 intro pins s σ H v u Q I r h
 exact wpAny_assign_Name (b9s I hN hi hx r (fun s' I'=>⟨_,H,I',h⟩) hf)
noncomputable def gNil:TGs:=fun vs σ H Q=>vs=[]/\Q σ H
noncomputable def d3x(t:TG)(u:TGs):TGs:=fun vs σ H Q=>∃ v r,vs=v :: r/\t v σ H fun σ' H'=>u r σ' H' Q
theorem c2x:PGs X [] gNil:=by
 intro pins s σ H vs us Q I r h
 obtain⟨e,h⟩:=h
 subst e
 cases r
 exact assignInOrder_nil ⟨σ,H,I,h⟩
theorem b5g{e:Expr}{es:List Expr}{t:TG}{u:TGs}(h1:PG X e t)(h2:PGs X es u)
  (hs:(assignEach (e :: es) X.env).map (·.2)=assign e X.env :: (assignEach es X.env).map (·.2):=by rfl):PGs X (e :: es) (d3x t u):=by
 intro pins s σ H vs us Q I r h
 obtain⟨v,vr,e1,h⟩:=h
 subst e1
 cases r with
 | cons r rr =>
  rw [hs]
  refine assignInOrder_cons (thn (h1 pins s σ H _ _ _ I r h) fun _ s1 hq9=>?_)
  obtain⟨σ1,H1,I1,q1⟩:=hq9
  exact h2 pins s1 σ1 H1 _ _ Q I1 rr q1
noncomputable def gTup(K:W.Frag)(n:Nat)(t:TGs):TG:=fun v σ H Q=>∃ a xs,v=.ref a/\SqT K H a xs/\xs.length=n/\t xs σ H Q
theorem c7e{es:List Expr}{k:Nat}{t:TGs}{n:Nat}(hc:X.calm=true)(h:PGs X es t)
  (hn:(assignEach es X.env).length=n:=by rfl) (hst:(assignEach es X.env).findIdx? (·.1)=none:=by rfl):PG X (.Tuple es k pos) (gTup X.K n t):=by
 intro pins s σ H v u Q I r hw
 obtain⟨a,xs,e1,hq,hl,hw⟩:=hw
 subst e1
 cases r
 obtain⟨its,rv,ht,hz⟩:=I.tuple hq
 refine assign_Tuple_tuple (I.ok.hd hc) ht (by simp [hn,← hl,rv.length]) hst fun h' hx=>?_
 have I1:Inv X pins σ H { s with heap:=h' }:=I.kept (t':=s.toks) fun b o e=>hx b o (ne_of_lt (lt_size e)) e
 exact h pins _ σ H xs _ Q I1 (by simpa using rv) hw
def gSub(to ti:TE)(t:TSet):TG:=fun v σ H Q=>to σ H fun o H1=>ti σ H1 fun i H2=>t o i v H2 fun H3=>Q σ H3
theorem e0g{o i:Expr}{to ti:TE}{t:TSet}(ho:PE X o to)(hi:PE X i ti)(hs:PSet X t)
  (ha:∀ v,assign (.Subscript o i pos) X.env v=(do
   let ov ← holding [v] (eval o X.env)
   let iv ← holding [v,ov] (eval i X.env)
   standAt pos
   holding [v,ov,iv] (setItem ov iv v)
   release [v,ov,iv] []):=by intro _;rfl):PG X (.Subscript o i pos) (gSub to ti t):=by
 intro pins s σ H v u Q I r h
 rw [ha]
 refine wpAny_bind (wpAny_holding (thn (ho pins s σ H _ I h) fun ov s1 hq9=>?_))
 obtain⟨x,H1,I1,r1,q1⟩:=hq9
 refine wpAny_bind (wpAny_holding (thn (hi pins s1 σ H1 _ I1 q1) fun iv s2 hq9=>?_))
 obtain⟨y,H2,I2,r2,q2⟩:=hq9
 refine wpAny_bind (wpAny_standAt (wpAny_bind (wpAny_holding (thn (hs pins s2 σ H2 x y v ov iv u _ I2 r1 r2 r q2) fun _ s3 hq9=>?_))))
 obtain⟨H3,I3,q3⟩:=hq9
 exact wpAny_release ⟨σ,H3,I3,q3⟩
def tAsg(te:TE)(g:TG):TS:=fun D σ H=>te σ H fun x H1=>g x σ H1 D.nx
theorem e0h{tg e:Expr}{te:TE}{g:TG}(he:PE X e te)(hg:PG X tg g)(hs:swapsWithSole [tg] e pos.line X.env=pure false:=by rfl)(hw:swappedStores [tg] e X.env=pure none:=by rfl)
  (h1:(assignEach [tg] X.env).map (·.2)=[assign tg X.env]:=by rfl):PS X (.Assign [tg] e pos) (tAsg te g):=by
 intro pins s σ H D I h
 refine wpAny_Assign_stores (thn (he pins s σ H _ I h) fun v s1 hq8=>?_) hs hw
 obtain⟨x,H1,I1,r1,q1⟩:=hq8
 rw [h1]
 exact thn (hg pins s1 σ H1 x v _ I1 r1 q1) fun _ s2 q=>q
theorem a2j{i:Nat}{x:Str}{e:Expr}{te:TE}{pos':Pos}(hN:X.N.Nodup)(hi:X.N[i]? = some x)(hx:Loc X.env.scope x)(he:PE X e te)(hs:swapsWith e (some (.Name x pos')) pos.line X.env=pure false:=by rfl)(hf:X.fn x=true ∨ X.env.scope.names.lookup x=some .local:=by first | exact .inl rfl | exact .inr rfl | assumption) :
  PS X (.Assign [.Name x pos'] e pos) (tAsg te (a4p i)):=by
 intro pins s σ H D I h
 refine wpAny_Assign_Name (thn (he pins s σ H _ I h) fun v s1 hq8=>?_) hs
 obtain⟨y,H1,I1,r1,q1⟩:=hq8
 exact b9s I1 hN hi hx r1 (fun s2 I2=>⟨_,H1,I2,q1⟩) hf
end
section
variable{X:Cx}{pos:Pos}
def e0i(c:TT)(tb:TS):TS:=fun D σ H=>∃ W:Nat->St->Hp->Prop,(∃ m,W m σ H)/\∀ m σ H,W m σ H ->
 c σ H fun b H1=>if b=true then ∃ N:St->Hp->Prop,(∀ σ' H',N σ' H'->∃ m',m' < m/\W m' σ' H')/\tb { D with nx:=N,ct:=N,bk:=D.nx } σ H1 else D.nx σ H1
theorem b9t{c:Expr}{body:List Stmt}{tc:TT}{tb:TS}(hp:PassesOwn (model X.prog X.w) X.A X.env X.xe)(hc:PT X c tc)(hb:PSs X body tb):PS X (.While c body [] pos) (e0i tc tb):=by
 intro pins s σ H D I h
 obtain⟨W,⟨m0,w0⟩,turn⟩:=h
 refine wpAny_While (codeAny_whileLoop (fun n s'=>∃ σ' H',Inv X pins σ' H' s'/\W n σ' H') ?_ m0 ⟨σ,H,I,w0⟩)
 rintro n s1 ⟨σ1,H1,I1,w1⟩
 refine wpAny_passesOwn hp (thn (hc pins s1 σ1 H1 _ I1 (turn n σ1 H1 w1)) fun b s2 hq9=>?_)
 obtain⟨H2,I2,q2⟩:=hq9
 cases b with
 | true =>
  obtain⟨N,hN,q2⟩:=q2
  rw [if_pos rfl]
  refine wpAny_passesOwn hp (thn (hb pins s2 σ1 H2 _ I2 q2) fun f s3 q3=>?_)
  cases f with
  | next =>
   obtain⟨σ3,H3,I3,n3⟩:=q3
   obtain⟨m',hm,w3⟩:=hN σ3 H3 n3
   exact⟨m',hm,σ3,H3,I3,w3⟩
  | cont =>
   obtain⟨σ3,H3,I3,n3⟩:=q3
   obtain⟨m',hm,w3⟩:=hN σ3 H3 n3
   exact⟨m',hm,σ3,H3,I3,w3⟩
  | brk=>exact q3
  | ret v=>exact q3
 | false =>
  rw [if_neg Bool.false_ne_true]
  exact wpAny_execs_nil ⟨σ1,H2,I2,q2⟩
end
structure It where
 go:Nat->Hp->Prop
 yld:Nat->Hp->V->Hp->Prop
 stop:Nat->Hp->Prop
def FpOk(X:Cx)(pins:List (Addr × Obj))(H:Hp)(b:Addr):Prop:=
 H b=none/\b ≠ X.env.locals/\b ∉ X.fs/\(b ∈ X.ex ∨ X.s₀.heap.objs.size <= b)/\(∀ x c,X.env.cells.lookup x=some c->c ≠ b)/\∀ p ∈ X.pn ++ pins,p.1 ≠ b
theorem Inv.fpOk{X:Cx}{pins:List (Addr × Obj)}{σ:St}{H H':Hp}{s:Shared}{b:Addr}(I:Inv X pins σ H s)(hb:s.heap.objs.size <= b)(hn:H' b=none):FpOk X pins H' b:=by
 refine⟨hn,ne_of_gt (lt_of_lt_of_le I.lt hb),I.nofs hb,.inr (le_trans I.sz hb),fun x c e z=>?_,fun p hp z=>?_⟩
 ·obtain⟨v,q⟩:=I.cell x c e
  exact absurd (lt_of_lt_of_le q.lt (by rw [z];exact hb)) (lt_irrefl _)
 ·exact absurd (lt_of_lt_of_le (lt_size (I.pin p hp).1) (by rw [z];exact hb)) (lt_irrefl _)
structure Turn(P:Program)(w:World)(K:W.Frag)(tg:Expr)(J:It)(fp:List Addr)(it:Addr)(tn:Nat->Heap->Prop):Prop where
 mem:it ∈ fp
 obj:∀ i h,tn i h->∀ b ∈ fp,∃ o,h.get? b=some o/\∀ v,o.data ≠ .cell v
 keep:∀ i h h',tn i h->(∀ b ∈ fp,∀ o,h.get? b=some o->h'.get? b=some o)->tn i h'
 item:∀ (X:Cx),X.prog=P->X.w=w->X.K=K->X.calm=true->∀ (i:Nat) (pins:List (Addr × Obj)) (s:Shared) (σ:St) (H:Hp) (E:Value->Shared->Prop),Inv X pins σ H s->(∀ b ∈ fp,FpOk X pins H b)->tn i s.heap->J.go i H ->
  wpAny (model P w) X.A (pyNext (.ref it)) (fun r s1=>∃ u,r=some u /\
   wpAny (model P w) X.A (letOwnedTupleGo tg (.ref it) u) (fun _ s2=>∃ x H',Inv X pins σ H' s2/\RelV x u/\J.yld i H x H'/\tn (i + 1) s2.heap/\∀ b ∈ fp,H' b=none) E s1) E s
 done:∀ (X:Cx),X.prog=P->X.w=w->X.K=K->X.calm=true->∀ (i:Nat) (pins:List (Addr × Obj)) (s:Shared) (σ:St) (H:Hp) (E:Value->Shared->Prop),Inv X pins σ H s->(∀ b ∈ fp,FpOk X pins H b)->tn i s.heap->J.stop i H ->
  wpAny (model P w) X.A (pyNext (.ref it)) (fun r s1=>r=none/\Inv X pins σ H s1) E s
 self:∀ (A:Around) (i:Nat) (s:Shared) (Q:Value->Shared->Prop) (E:Value->Shared->Prop),tn i s.heap->Q (.ref it) s->wpAny (model P w) A (pyIter (.ref it)) Q E s
abbrev TI:=St->Hp->(It->Hp->Prop)->Prop
def PIE(X:Cx)(pins:List (Addr × Obj))(σ:St)(tg:Expr)(R:It->Hp->Prop)(itv:Value)(s2:Shared):Prop:=
 ∃ (it:Addr) (fp:List Addr) (tn:Nat->Heap->Prop) (J:It) (H':Hp),itv=.ref it/\Inv X pins σ H' s2/\Turn X.prog X.w X.K tg J fp it tn/\tn 0 s2.heap/\(∀ b ∈ fp,FpOk X pins H' b)/\R J H'
def PI(X:Cx)(tg iter:Expr)(wi:TI):Prop:=
 ∀ (pins:List (Addr × Obj)) (s:Shared) (σ:St) (H:Hp) (R:It->Hp->Prop),Inv X pins σ H s->wi σ H R ->
  wpAny (model X.prog X.w) X.A (eval iter X.env) (fun v s1=>wpAny (model X.prog X.w) X.A (pyIter v) (PIE X pins σ tg R) X.xe s1) X.xe s
theorem b6b{M:Model}{A:Around}{E:Value->Shared->Prop}{s:Shared}{tg:Expr}{it:Addr}{u:Value}{o:Obj}{n:String}{vs:Array Value}{Q:Unit->Shared->Prop}(ho:s.heap.get? it=some o)(hc:o.cls=.type n)(hd:o.data=.fields vs)
  (hn:["enumerate","zip","dict_itemiterator","dict_reverseitemiterator","odict_iterator","itertools.zip_longest","itertools.pairwise"].contains n=false) (hQ:Q () s):wpAny M A (letOwnedTupleGo tg (.ref it) u) Q E s:=by
 unfold letOwnedTupleGo
 cases tg<;>first
  | exact wpAny_pure hQ
  | (cases u<;>first
    | exact wpAny_pure hQ
    | (
      refine wpAny_bind (wpAny_load ho ?_)
      rw [hc,hd]
      show wpAny M A (if (["enumerate","zip","dict_itemiterator","dict_reverseitemiterator","odict_iterator","itertools.zip_longest","itertools.pairwise"].contains n && vs[0]? == some (rawInt _))=true then _ else _) Q E s
      rw [if_neg (by intro h;rw [hn,Bool.false_and] at h;cases h)]
      exact wpAny_pure hQ))
noncomputable def Itl(K:W.Frag)(a:Addr):It:=
 ⟨fun i H=>∃ xs x,SqL K H a xs/\xs[i]? = some x,fun i H x H'=>H'=H/\∀ xs,SqL K H a xs->xs[i]? = some x,fun i H=>∃ xs,SqL K H a xs/\xs.length <= i⟩
noncomputable def Itt(K:W.Frag)(a:Addr):It:=
 ⟨fun i H=>∃ xs x,SqT K H a xs/\xs[i]? = some x,fun i H x H'=>H'=H/\∀ xs,SqT K H a xs->xs[i]? = some x,fun i H=>∃ xs,SqT K H a xs/\xs.length <= i⟩
noncomputable def Itr(lo:Int)(n:Nat):It:=⟨fun i _=>i < n,fun i H x H'=>H'=H/\x=.int (lo + i),fun i _=>n <= i⟩
theorem b8g{P:Program}{w:World}{K:W.Frag}{tg:Expr}(a it:Addr):Turn P w K tg (Itl K a) [it] it (fun i h=>h.IsListIter it a i) where
 mem:=by simp
 obj:=fun i h st b hb=>by
  have e:b=it:=by simpa using hb
  subst e
  obtain⟨o,e,c,d⟩:=st
  exact⟨o,e,fun v z=>by rw [d] at z;cases z⟩
 keep:=fun i h h' st k=>st.at fun o e=>k it (by simp) o e
 item:=by
  intro X hP hw hK hc i pins s σ H E I hf st hg
  subst hP hw hK
  obtain⟨xs,x,hq,hx⟩:=hg
  obtain⟨its,rv,p,hz⟩:=I.list hq
  obtain⟨u,hu,ru⟩:=rv.get hx
  obtain⟨f0,f1,f2,f3,f4,f5⟩:=hf it (by simp)
  refine wpAny_pyNext_list_item st p.isList (x:=u) (by simpa using hu) fun h' st' sb=>?_
  have I1:Inv X pins σ H { s with heap:=h' }:=I.turned (t':=s.toks) (fun b o hb e=>(sb.2 b hb).trans e) f0 f1 f3 f4 f5
  obtain⟨o,e,c,d⟩:=id st'
  exact⟨u,rfl,b6b (s:={ s with heap:=h' }) e c d (by decide) ⟨x,H,I1,ru,⟨rfl,fun ys hy=>by rw [I.list_inj hy hq];exact hx⟩,st',fun b hb=>(hf b hb).1⟩⟩
 done:=by
  intro X hP hw hK hc i pins s σ H E I hf st hg
  subst hP hw hK
  obtain⟨xs,hq,hx⟩:=hg
  obtain⟨its,rv,p,hz⟩:=I.list hq
  obtain⟨f0,f1,f2,f3,f4,f5⟩:=hf it (by simp)
  have hl:=rv.length
  exact wpAny_pyNext_list_end (I.ok.hd hc) st p.isList (by simp;omega) fun h' eb=>⟨rfl,I.turned (t':=s.toks) (fun b o hb e=>eb b o hb e) f0 f1 f3 f4 f5⟩
 self:=fun _ _ _ _ _ st h=>wpAny_pyIter_listiter st h
theorem c4m{P:Program}{w:World}{K:W.Frag}{tg:Expr}(a it:Addr):Turn P w K tg (Itt K a) [it] it (fun i h=>h.IsTupleIter it a i) where
 mem:=by simp
 obj:=fun i h st b hb=>by
  have e:b=it:=by simpa using hb
  subst e
  obtain⟨o,e,c,d⟩:=st
  exact⟨o,e,fun v z=>by rw [d] at z;cases z⟩
 keep:=fun i h h' st k=>st.at fun o e=>k it (by simp) o e
 item:=by
  intro X hP hw hK hc i pins s σ H E I hf st hg
  subst hP hw hK
  obtain⟨xs,x,hq,hx⟩:=hg
  obtain⟨its,rv,p,hz⟩:=I.tuple hq
  obtain⟨u,hu,ru⟩:=rv.get hx
  obtain⟨f0,f1,f2,f3,f4,f5⟩:=hf it (by simp)
  refine wpAny_pyNext_tuple_item st (show s.heap.IsTuple a its.toArray from p) (x:=u) (by simpa using hu) fun h' st' sb=>?_
  have I1:Inv X pins σ H { s with heap:=h' }:=I.turned (t':=s.toks) (fun b o hb e=>(sb.2 b hb).trans e) f0 f1 f3 f4 f5
  obtain⟨o,e,c,d⟩:=id st'
  exact⟨u,rfl,b6b (s:={ s with heap:=h' }) e c d (by decide) ⟨x,H,I1,ru,⟨rfl,fun ys hy=>by rw [I.tuple_inj hy hq];exact hx⟩,st',fun b hb=>(hf b hb).1⟩⟩
 done:=by
  intro X hP hw hK hc i pins s σ H E I hf st hg
  subst hP hw hK
  obtain⟨xs,hq,hx⟩:=hg
  obtain⟨its,rv,p,hz⟩:=I.tuple hq
  obtain⟨f0,f1,f2,f3,f4,f5⟩:=hf it (by simp)
  have hl:=rv.length
  exact wpAny_pyNext_tuple_end (I.ok.hd hc) st (show s.heap.IsTuple a its.toArray from p) (by simp;omega) fun h' eb=>⟨rfl,I.turned (t':=s.toks) (fun b o hb e=>eb b o hb e) f0 f1 f3 f4 f5⟩
 self:=fun _ _ _ _ _ st h=>wpAny_pyIter_tupleiter st h
theorem c4n{P:Program}{w:World}{K:W.Frag}{tg:Expr}(it:Addr)(lo:Int)(n:Nat):Turn P w K tg (Itr lo n) [it] it (fun i h=>IsRangeIter h it (lo + (i:Nat) * 1) ((n:Int) - (i:Nat)) 1) where
 mem:=by simp
 obj:=fun i h st b hb=>by
  have e:b=it:=by simpa using hb
  subst e
  exact⟨_,st,fun v z=>by
   have z':Data.fields _=Data.cell v:=z
   cases z'⟩
 keep:=fun i h h' st k=>k it (by simp) _ st
 item:=by
  intro X hP hw hK hc i pins s σ H E I hf st hg
  subst hP hw hK
  obtain⟨f0,f1,f2,f3,f4,f5⟩:=hf it (by simp)
  have W:=Walks.range (prog:=X.prog) (w:=X.w) (I.ok.hd hc) it lo 1 n
  refine W.item i s _ _ hg st fun v h' tk hv st' kk=>?_
  obtain⟨t,rfl⟩:=hv
  have I1:Inv X pins σ H { s with heap:=h',toks:=tk }:=I.turned (fun b o hb e=>kk b o (by simpa using hb) e) f0 f1 f3 f4 f5
  refine⟨_,rfl,b6b (s:={ s with heap:=h',toks:=tk }) (n:="range_iterator") st' rfl rfl (by decide) ⟨.int (lo + i),H,I1,⟨t,?_⟩,⟨rfl,rfl⟩,st',fun b hb=>(hf b hb).1⟩⟩
  rw [Int.mul_one]
 done:=by
  intro X hP hw hK hc i pins s σ H E I hf st hg
  subst hP hw hK
  obtain⟨f0,f1,f2,f3,f4,f5⟩:=hf it (by simp)
  exact wpAny_pyNext_range_end (I.ok.hd hc) st (by have:n <= i:=hg;omega) fun h' eb=>⟨rfl,I.turned (t':=s.toks) (fun b o hb e=>eb b o hb e) f0 f1 f3 f4 f5⟩
 self:=fun _ _ _ _ _ st h=>wpAny_pyIter_rangeiter st h
end L2
namespace L2
open PySem PySem.Spec PyProof.Rows
section
variable{X:Cx}{tg:Expr}
def iList(K:W.Frag)(tl:TE):TI:=fun σ H R=>tl σ H fun x H1=>∃ a,x=.ref a/\(∃ xs,SqL K H1 a xs)/\R (Itl K a) H1
theorem b7h{l:Expr}{tl:TE}(hl:PE X l tl):PI X tg l (iList X.K tl):=by
 intro pins s σ H R I h
 refine thn (hl pins s σ H _ I h) fun v s1 hq9=>?_
 obtain⟨x,H1,I1,r1,q1⟩:=hq9
 obtain⟨a,e,⟨xs,hq⟩,q⟩:=q1
 subst e
 cases r1
 obtain⟨its,rv,p,hz⟩:=I1.list hq
 refine wpAny_pyIter_list p.isList ?_
 refine⟨s1.heap.objs.size,[s1.heap.objs.size],_,_,H1,rfl,I1.kept (t':=s1.toks) fun b o e=>get?_push_of_some _ e,b8g a _,⟨_,get?_push_size _ rfl,rfl,rfl⟩,fun b hb=>?_,q⟩
 have e:b=s1.heap.objs.size:=by simpa using hb
 subst e
 exact I1.fpOk (le_refl _) (I1.hok.fresh (le_refl _))
theorem d0m{pins:List (Addr × Obj)}{σ:St}{H:Hp}{s:Shared}{R:It->Hp->Prop}{E:Value->Shared->Prop}{lo hi:Int}{t u v:Tok}{tk:Nat}(I:Inv X pins σ H s)(h1:-(2 ^ 62) <= lo)(h2:lo < 2 ^ 62)(h3:-(2 ^ 62) <= hi)(h4:hi < 2 ^ 62)
  (q:R (Itr lo (hi - lo).toNat) H):wpAny (model X.prog X.w) X.A (pyIter (.ref s.heap.objs.size)) (PIE X pins σ tg R) E { s with heap:=s.heap.push { cls:=.type "range",data:=.fields #[.int lo t,.int hi u,.int 1 v] },toks:=tk }:=by
 refine wpAny_pyIter_range (IsRange.new ..) (small_one h1 h2 h3 h4) ?_
 have I1:Inv X pins σ H { s with heap:=s.heap.push { cls:=.type "range",data:=.fields #[.int lo t,.int hi u,.int 1 v] },toks:=tk }:=I.kept fun b o e=>get?_push_of_some _ e
 refine⟨(s.heap.push { cls:=.type "range",data:=.fields #[.int lo t,.int hi u,.int 1 v] }).objs.size,[(s.heap.push { cls:=.type "range",data:=.fields #[.int lo t,.int hi u,.int 1 v] }).objs.size],_,_,H,rfl,
  I1.kept (t':=tk) fun b o e=>get?_push_of_some _ e,c4n _ lo (hi - lo).toNat,?_,fun b hb=>?_,q⟩
 ·have e1:lo + ((0:Nat):Int) * 1=lo:=by simp
  have e2:(((hi - lo).toNat:Nat):Int) - ((0:Nat):Int)=Builtin.Range.rangeSize lo hi 1:=by rw [rangeSize_one];split<;>omega
  show IsRangeIter _ _ (lo + ((0:Nat):Int) * 1) ((((hi - lo).toNat:Nat):Int) - ((0:Nat):Int)) 1
  rw [e1,e2]
  exact get?_push_size _ rfl
 ·have e:b=(s.heap.push { cls:=.type "range",data:=.fields #[.int lo t,.int hi u,.int 1 v] }).objs.size:=by simpa using hb
  subst e
  exact I1.fpOk (le_refl _) (I1.hok.fresh (le_refl _))
def d3y(ta:TA):TI:=fun σ H R=>ta σ H fun vs H1=>∃ j:Int,vs=[.int j] /\ -(2 ^ 62) <= j/\j < 2 ^ 62/\R (Itr 0 j.toNat) H1
theorem c7f{a:Expr}{ta:TA}{p pos:Pos} (hg:Gl X "range") (hm:X.mg "range" = none) (ha:PA X [a] ta) (hs:starEach [a] X.env=[(false,eval a X.env)]:=by rfl):PI X tg (.Call (.Name "range" p) [a] [] pos) (d3y ta):=by
 intro pins s σ H R I h
 refine Call_ (b2z I hg hm boot_range (PyProof.Rows.callWith_type1 (thn (ha pos pins s σ H _ I h) fun us s1 hq8=>?_) hs rfl))
 obtain⟨vs,H1,I1,r1,q1⟩:=hq8
 obtain⟨j,e,q1,q2,q⟩:=q1
 subst e
 cases r1 with
 | cons r rr =>
  cases rr
  obtain⟨t,rfl⟩:=r
  exact call_range_1 (d0m I1 (by omega) (by omega) q1 q2 (by simpa using q))
def tFor(wi:TI)(g:TG)(tb:TS):TS:=fun D σ H=>wi σ H fun J H1=>∃ W:Nat->Nat->St->Hp->Prop,(∃ m,W 0 m σ H1)/\∀ i m σ H,W i m σ H ->
 (J.stop i H/\D.nx σ H) ∨ (J.go i H/\∃ N:St->Hp->Prop,(∀ σ' H',N σ' H'->∃ m',m' < m/\W (i + 1) m' σ' H')/\∀ x H',J.yld i H x H'->g x σ H' fun σ2 H2=>tb { D with nx:=N,ct:=N,bk:=D.nx } σ2 H2)
noncomputable def b3a(fp:List Addr)(h:Heap):List (Addr × Obj):=fp.filterMap fun b=>(h.get? b).map fun o=>(b,o)
theorem a8u{fp:List Addr}{h:Heap}{b:Addr}{o:Obj}(hb:b ∈ fp)(e:h.get? b=some o):(b,o) ∈ b3a fp h:=List.mem_filterMap.mpr ⟨b,hb,by rw [e];rfl⟩
theorem c7g{fp:List Addr}{h:Heap}{p:Addr × Obj}(hp:p ∈ b3a fp h):p.1 ∈ fp/\h.get? p.1=some p.2:=by
 obtain⟨b,hb,e⟩:=List.mem_filterMap.mp hp
 cases q:h.get? b with
 | none=>rw [q] at e;cases e
 | some o =>
  rw [q] at e
  have e':(b,o)=p:=Option.some.inj e
  subst e'
  exact⟨hb,q⟩
theorem Inv.pinned{pins:List (Addr × Obj)}{σ:St}{H:Hp}{s:Shared}{fp:List Addr}(I:Inv X pins σ H s)(hf:∀ b ∈ fp,FpOk X pins H b)(ho:∀ b ∈ fp,∃ o,s.heap.get? b=some o/\∀ v,o.data ≠ .cell v):Inv X (pins ++ b3a fp s.heap) σ H s:=
 I.pins_of fun p hp=>(mem_append.mp hp).elim (fun z=>I.pin p (mem_append_right _ z)) fun z=>by
  obtain⟨hb,e⟩:=c7g z
  obtain⟨f0,f1,f2,_⟩:=hf p.1 hb
  obtain⟨o,e',d⟩:=ho p.1 hb
  rw [e] at e';cases e'
  exact⟨e,f0,f1,f2,d⟩
theorem Inv.unpinned{pins pl:List (Addr × Obj)}{σ:St}{H:Hp}{s:Shared}(I:Inv X (pins ++ pl) σ H s):Inv X pins σ H s:=I.pins_of fun p hp=>I.pin p (mem_append_right _ (mem_append_left _ hp))
theorem c7h{iter:Expr}{body:List Stmt}{wi:TI}{g:TG}{tb:TS}{pos:Pos}(hp:PassesOwn (model X.prog X.w) X.A X.env X.xe)(hc:X.calm=true)(hi:PI X tg iter wi)(hg:PG X tg g)(hb:PSs X body tb)
  (hs:∀ x,foldedSetIterable iter X.env x=pure x:=by intro _;rfl):PS X (.For tg iter body [] pos) (tFor wi g tb):=by
 intro pins s σ H D I h
 refine wpAny_For (thn (hi pins s σ H _ I h) fun v s1 h1=>thn h1 fun itv s2 h2=>?_) hs
 obtain⟨it,fp,tn,J,H2,e,I2,T,st2,f2,W,⟨m0,w0⟩,turn⟩:=h2
 subst e
 -- what stays true of the iterator's objects through the loop
 have stat:∀ {H':Hp},(∀ b ∈ fp,H' b=none)->∀ b ∈ fp,FpOk X pins H' b:=fun hn b hb=>⟨hn b hb,(f2 b hb).2⟩
 refine codeAny_forLoop_any (fun n s'=>∃ i σ' H',Inv X pins σ' H' s'/\tn i s'.heap/\(∀ b ∈ fp,H' b=none)/\W i n σ' H') ?_ m0 ⟨0,σ,H2,I2,st2,fun b hb=>(f2 b hb).1,w0⟩
 rintro n s3 ⟨i,σ3,H3,I3,st3,fr3,w3⟩
 rcases turn i n σ3 H3 w3 with⟨stop,qn⟩ | ⟨go,N,hN,step⟩
 ·refine wpAny_passesOwn hp (thn (T.done X rfl rfl rfl hc i pins s3 σ3 H3 X.xe I3 (stat fr3) st3 stop) fun r s4 hq9=>?_)
  obtain⟨hr,I4⟩:=hq9
  subst hr
  exact wpAny_execs_nil ⟨σ3,H3,I4,qn⟩
 ·refine wpAny_passesOwn hp (thn (T.item X rfl rfl rfl hc i pins s3 σ3 H3 X.xe I3 (stat fr3) st3 go) fun r s4 hq9=>?_)
  obtain⟨u,hr,h4⟩:=hq9
  subst hr
  refine wpAny_passesOwn hp (thn h4 fun _ s5 hq9=>?_)
  obtain⟨x,H5,I5,r5,y5,st5,fr5⟩:=hq9
  have I5':=I5.pinned (stat fr5) (T.obj _ _ st5)
  refine wpAny_passesOwn hp (thn (hg _ s5 σ3 H5 x u _ I5' r5 (step x H5 y5)) fun _ s6 hq9=>?_)
  obtain⟨σ6,H6,I6,q6⟩:=hq9
  refine wpAny_passesOwn hp (thn (hb _ s6 σ6 H6 _ I6 q6) fun f s7 q7=>?_)
  have again:∀ {σ7:St} {H7:Hp},Inv X (pins ++ b3a fp s5.heap) σ7 H7 s7->N σ7 H7->∃ m,m < n/\∃ i σ' H',Inv X pins σ' H' s7/\tn i s7.heap/\(∀ b ∈ fp,H' b=none)/\W i m σ' H':=fun{σ7 H7} I7 n7=>by
   obtain⟨m',hm,w7⟩:=hN σ7 H7 n7
   refine⟨m',hm,i + 1,σ7,H7,I7.unpinned,T.keep _ _ _ st5 fun b hb o e=>(I7.pin (b,o) (mem_append_right _ (mem_append_right _ (a8u hb e)))).1,fun b hb=>?_,w7⟩
   obtain⟨o,e,d⟩:=T.obj _ _ st5 b hb
   exact(I7.pin (b,o) (mem_append_right _ (mem_append_right _ (a8u hb e)))).2.1
  cases f with
  | next=>obtain⟨σ7,H7,I7,n7⟩:=q7;exact again I7 n7
  | cont=>obtain⟨σ7,H7,I7,n7⟩:=q7;exact again I7 n7
  | brk=>obtain⟨σ7,H7,I7,q7⟩:=q7;exact⟨σ7,H7,I7.unpinned,q7⟩
  | ret v=>obtain⟨x7,σ7,H7,I7,r7,q7⟩:=q7;exact⟨x7,σ7,H7,I7.unpinned,r7,q7⟩
end
end L2
namespace L2
open PySem PySem.Spec PyProof.Rows
abbrev R2:=V->V->Hp->VK->Prop
def OpR(X:Cx)(f:Value->Value->Sem Value)(r:R2):Prop:=
 ∀ (pins:List (Addr × Obj)) (s:Shared) (σ:St) (H:Hp) (x y:V) (v u:Value) (Q:VK),Inv X pins σ H s->RelV x v->RelV y u->r x y H Q ->
  wpAny (model X.prog X.w) X.A (f v u) (EP X pins σ Q) X.xe s
def UnR(X:Cx)(f:Value->Sem Value)(r:V->Hp->VK->Prop):Prop:=
 ∀ (pins:List (Addr × Obj)) (s:Shared) (σ:St) (H:Hp) (x:V) (v:Value) (Q:VK),Inv X pins σ H s->RelV x v->r x H Q ->
  wpAny (model X.prog X.w) X.A (f v) (EP X pins σ Q) X.xe s
def a2w(X:Cx)(f:Value)(r:List V->Hp->VK->Prop):Prop:=
 ∀ (pins:List (Addr × Obj)) (s:Shared) (σ:St) (H:Hp) (xs:List V) (us:List Value) (Q:VK),Inv X pins σ H s->Vals xs us->r xs H Q ->
  wpAny (model X.prog X.w) X.A (call f us) (EP X pins σ Q) X.xe s
def TruR(X:Cx)(r:V->Hp->(Bool->Hp->Prop)->Prop):Prop:=
 ∀ (pins:List (Addr × Obj)) (s:Shared) (σ:St) (H:Hp) (x:V) (v:Value) (Q:Bool->Hp->Prop),Inv X pins σ H s->RelV x v->r x H Q ->
  wpAny (model X.prog X.w) X.A (truthy v) (TP X pins σ Q) X.xe s
def tOp(r:R2)(ta tb:TE):TE:=fun σ H Q=>ta σ H fun x H1=>tb σ H1 fun y H2=>r x y H2 Q
def tUn(r:V->Hp->VK->Prop)(ta:TE):TE:=fun σ H Q=>ta σ H fun x H1=>r x H1 Q
def rI(C:Int->Int->Prop)(g:Int->Int->V):R2:=fun x y H Q=>∃ i j,x=.int i/\y=.int j/\C i j/\Q (g i j) H
def rI0(g:Int->Int->V):R2:=fun x y H Q=>∃ i j,x=.int i/\y=.int j/\Q (g i j) H
noncomputable def rU(g:Int->V):V->Hp->VK->Prop:=fun x H Q=>∃ i,x=.int i/\Q (g i) H
section
variable{X:Cx}{a b c:Expr}{ta tb tc:TE}{pos:Pos}
theorem binT(ha:PE X a ta)(hb:PE X b tb){pins:List (Addr × Obj)}{s:Shared}{σ:St}{H:Hp}{R:V->V->Hp->Prop}(I:Inv X pins σ H s)
  (h:ta σ H fun x H1=>tb σ H1 fun y H2=>R x y H2) {Q:Value->Shared->Prop} {f:Value->Value->Sem Value}
  (hf:∀ v u s2 x y H2,Inv X pins σ H2 s2->RelV x v->RelV y u->R x y H2->wpAny (model X.prog X.w) X.A (f v u) Q X.xe s2) :
  wpAny (model X.prog X.w) X.A (eval a X.env) (fun v s₁=>wpAny (model X.prog X.w) X.A (eval b X.env) (fun u s₂=>wpAny (model X.prog X.w) X.A (f v u) Q X.xe s₂) X.xe s₁) X.xe s:=by
 refine thn (ha pins s σ H _ I h) fun v s1 hq9=>?_
 obtain⟨x,H1,I1,r1,q1⟩:=hq9
 refine thn (hb pins s1 σ H1 _ I1 q1) fun u s2 hq9=>?_
 obtain⟨y,H2,I2,r2,q2⟩:=hq9
 exact hf v u s2 x y H2 I2 r1 r2 q2
theorem a2k{op:Operator}{r:R2}(ho:OpR X (binaryOp op) r)(ha:PE X a ta)(hb:PE X b tb):PE X (.BinOp a op b pos) (tOp r ta tb):=by
 intro pins s σ H Q I h
 exact wpAny_BinOp (binT ha hb I h fun v u s2 x y H2 I2 rx ry q=>ho pins s2 σ H2 x y v u Q I2 rx ry q)
theorem b4b{op:UnaryOp}{r:V->Hp->VK->Prop}(ho:UnR X (unaryOp op) r)(ha:PE X a ta):PE X (.UnaryOp op a pos) (tUn r ta):=by
 intro pins s σ H Q I h
 exact UnaryOp_ (thn (ha pins s σ H _ I h) fun v s1 hq8=>by obtain⟨x,H1,I1,r1,q1⟩:=hq8;exact ho pins s1 σ H1 x v Q I1 r1 q1)
theorem opI{f:Value->Value->Sem Value}{C:Int->Int->Prop}{g:Int->Int->Int}
  (rule:∀ (i j:Int) (t u:Tok) (s:Shared) (Q:Value->Shared->Prop) (E:Value->Shared->Prop),C i j->Q (.int (g i j) s.toks) { s with toks:=s.toks + 1 }->wpAny (model X.prog X.w) X.A (f (.int i t) (.int j u)) Q E s) :
  OpR X f (rI C fun i j=>.int (g i j)):=by
 intro pins s σ H x y v u Q I rx ry h
 obtain⟨i,j,rfl,rfl,hc,q⟩:=h
 obtain⟨t,rfl⟩:=rx
 obtain⟨t',rfl⟩:=ry
 exact rule i j t t' s _ _ hc ⟨.int (g i j),H,I.tok _,⟨_,rfl⟩,q⟩
theorem opI0{f:Value->Value->Sem Value}{g:Int->Int->Int}
  (rule:∀ (i j:Int) (t u:Tok) (s:Shared) (Q:Value->Shared->Prop) (E:Value->Shared->Prop),Q (.int (g i j) s.toks) { s with toks:=s.toks + 1 }->wpAny (model X.prog X.w) X.A (f (.int i t) (.int j u)) Q E s) :
  OpR X f (rI0 fun i j=>.int (g i j)):=by
 intro pins s σ H x y v u Q I rx ry h
 obtain⟨i,j,rfl,rfl,q⟩:=h
 obtain⟨t,rfl⟩:=rx
 obtain⟨t',rfl⟩:=ry
 exact rule i j t t' s _ _ ⟨.int (g i j),H,I.tok _,⟨_,rfl⟩,q⟩
theorem opB0{f:Value->Value->Sem Value}{g:Int->Int->Bool}
  (rule:∀ (i j:Int) (t u:Tok) (s:Shared) (Q:Value->Shared->Prop) (E:Value->Shared->Prop),Q (.bool (g i j)) s->wpAny (model X.prog X.w) X.A (f (.int i t) (.int j u)) Q E s) :
  OpR X f (rI0 fun i j=>.bl (g i j)):=by
 intro pins s σ H x y v u Q I rx ry h
 obtain⟨i,j,rfl,rfl,q⟩:=h
 obtain⟨t,rfl⟩:=rx
 obtain⟨t',rfl⟩:=ry
 exact rule i j t t' s _ _ ⟨.bl (g i j),H,I,rfl,q⟩
def CDiv(i j:Int):Prop:=0 < j/\j < 1073741824
def CPow(i j:Int):Prop:=0 <= j/\j <= 1000000/\i.natAbs < 2 ^ 64
def CMul(i j:Int):Prop:=(-(2 ^ 64) < i/\i < 2 ^ 64) ∨ (-(2 ^ 64) < j/\j < 2 ^ 64)
theorem CMul.ok{i j:Int}(h:CMul i j):IntMulOk i j:=by
 rcases h with⟨h1,h2⟩ | ⟨h1,h2⟩
 ·exact .of_left (intBits_le_64 h1 h2)
 ·exact .of_right (intBits_le_64 h1 h2)
theorem c4o(k:Nat):(0:Int) <= 2 ^ k:=by
 rw [two_pow_cast]
 exact Int.natCast_nonneg _
theorem b3b:OpR X (binaryOp .Add) (rI0 fun i j=>.int (i + j)):=opI0 fun _ _ _ _ _ _ _ q=>add_int q
theorem b3c:OpR X (binaryOp .Sub) (rI0 fun i j=>.int (i - j)):=opI0 fun _ _ _ _ _ _ _ q=>sub_int q
theorem b0w:OpR X (binaryOp .Mult) (rI CMul fun i j=>.int (i * j)):=opI fun _ _ _ _ _ _ _ hc q=>mul_int q hc.ok
theorem d5i:OpR X (binaryOp .FloorDiv) (rI CDiv fun i j=>.int (i / j)):=opI fun i j _ _ _ _ _ hc q=>by
 have h1:(0:Int) < j:=hc.1
 have h2:j < 1073741824:=hc.2
 exact floordiv_int (by omega) (by rw [Int.fdiv_eq_ediv_of_nonneg i (by omega)];exact q) (.inl (PyProof.noPylong_small (by omega)))
theorem a8j:OpR X (binaryOp .Mod) (rI (fun _ j=>0 < j) fun i j=>.int (i % j)):=opI fun i j _ _ _ _ _ hc q=>by
 have h1:(0:Int) < j:=hc
 exact mod_int' (by omega) (by rw [Int.fmod_eq_emod_of_nonneg i (by omega)];exact q)
theorem e0j:OpR X (binaryOp .Pow) (rI CPow fun i j=>.int (i ^ j.toNat)):=opI fun _ _ _ _ _ _ _ hc q=>pow_int_small hc.1 hc.2.1 hc.2.2 q
theorem e0k:OpR X (binaryOp .RShift) (rI (fun _ j=>0 <= j) fun i j=>.int (i / 2 ^ j.toNat)):=opI fun i j _ _ _ _ _ hc q =>
 rshift_int hc (by rw [Int.fdiv_eq_ediv_of_nonneg i (c4o _)];exact q)
theorem unI{f:Value->Sem Value}{g:Int->Int}
  (rule:∀ (i:Int) (t:Tok) (s:Shared) (Q:Value->Shared->Prop) (E:Value->Shared->Prop),Q (.int (g i) s.toks) { s with toks:=s.toks + 1 }->wpAny (model X.prog X.w) X.A (f (.int i t)) Q E s) :
  UnR X f (rU fun i=>.int (g i)):=by
 intro pins s σ H x v Q I rx h
 obtain⟨i,rfl,q⟩:=h
 obtain⟨t,rfl⟩:=rx
 exact rule i t s _ _ ⟨.int (g i),H,I.tok _,⟨_,rfl⟩,q⟩
theorem b0x:UnR X (unaryOp .USub) (rU fun i=>.int (-i)):=unI fun _ _ _ _ _ q=>neg_int q
end
noncomputable def scal:V->V->Bool
 | .non,.non=>true | .non,.int _=>true | .int _,.non=>true | .non,.bl _=>true | .bl _,.non=>true | .non,.str _=>true | .str _,.non=>true
 | .int _,.int _=>true | .bl _,.bl _=>true | .str _,.str _=>true | .byt _,.byt _=>true
 | .int _,.str _=>true | .str _,.int _=>true | .bl _,.str _=>true | .str _,.bl _=>true
 | _,_=>false
def rEq:R2:=fun x y H Q=>scal x y=true/\Q (.bl (decide (x=y))) H
def rNe:R2:=fun x y H Q=>scal x y=true/\Q (.bl (!decide (x=y))) H
theorem c2y{i j:Int}:decide (V.int i=V.int j)=(i == j):=by
 rw [Bool.eq_iff_iff]
 simp
theorem c7i{i j:Bool}:decide (V.bl i=V.bl j)=(i == j):=by
 rw [Bool.eq_iff_iff]
 simp
theorem c2z{i j:Str}:decide (V.str i=V.str j)=(i == j):=by
 rw [Bool.eq_iff_iff]
 simp
theorem c3a{i j:Array UInt8}:decide (V.byt i=V.byt j)=(i.toList == j.toList):=by
 rw [Bool.eq_iff_iff]
 cases i
 cases j
 simp
section
variable{X:Cx}{a b c:Expr}{ta tb tc:TE}{pos:Pos}
theorem a1g{pins:List (Addr × Obj)}{σ:St}{H:Hp}{s:Shared}{Q:VK}{k k':Bool}(I:Inv X pins σ H s)(q:Q (.bl k) H)(e:k=k'):EP X pins σ Q (.bool k') s:=by
 subst e
 exact⟨.bl k,H,I,rfl,q⟩
theorem a5k:OpR X (compareOp .Eq) rEq:=by
 intro pins s σ H x y v u Q I rx ry h
 obtain⟨hs,q⟩:=h
 cases x with
 | non =>
  cases rx
  cases y with
  | non=>cases ry;exact PySem.EqNone.eq_none_none (a1g I q (by simp))
  | bl j=>cases ry;exact PySem.EqNone.eq_none_bool (a1g I q (by simp))
  | int j=>obtain⟨t',rfl⟩:=ry;exact PySem.EqNone.eq_none_int (a1g I q (by simp))
  | str j=>obtain⟨t',rfl⟩:=ry;exact PySem.EqNone.eq_none_str (a1g I q (by simp))
  | _=>exact absurd (show false=true from hs) Bool.false_ne_true
 | bl i =>
  cases rx
  cases y with
  | non=>cases ry;exact PySem.EqNone.eq_bool_none (a1g I q (by simp))
  | bl j=>cases ry;exact eq_bool (a1g I q c7i)
  | str j=>obtain⟨t',rfl⟩:=ry;exact PySem.EqMixed.eq_bool_str (a1g I q (by simp))
  | _=>exact absurd (show false=true from hs) Bool.false_ne_true
 | int i =>
  obtain⟨t,rfl⟩:=rx
  cases y with
  | non=>cases ry;exact PySem.EqNone.eq_int_none (a1g I q (by simp))
  | int j=>obtain⟨t',rfl⟩:=ry;exact eq_int (a1g I q c2y)
  | str j=>obtain⟨t',rfl⟩:=ry;exact PySem.EqMixed.eq_int_str (a1g I q (by simp))
  | _=>exact absurd (show false=true from hs) Bool.false_ne_true
 | str i =>
  obtain⟨t,rfl⟩:=rx
  cases y with
  | non=>cases ry;exact PySem.EqNone.eq_str_none (a1g I q (by simp))
  | bl j=>cases ry;exact PySem.EqMixed.eq_str_bool (a1g I q (by simp))
  | int j=>obtain⟨t',rfl⟩:=ry;exact PySem.EqMixed.eq_str_int (a1g I q (by simp))
  | str j=>obtain⟨t',rfl⟩:=ry;exact eq_str (a1g I q c2z)
  | _=>exact absurd (show false=true from hs) Bool.false_ne_true
 | byt i =>
  obtain⟨t,rfl⟩:=rx
  cases y with
  | byt j=>obtain⟨t',rfl⟩:=ry;exact PySem.W.eq_bytes (a1g I q c3a)
  | _=>exact absurd (show false=true from hs) Bool.false_ne_true
 | _=>cases y<;>exact absurd (show false=true from hs) Bool.false_ne_true
theorem d3z:OpR X (compareOp .NotEq) rNe:=by
 intro pins s σ H x y v u Q I rx ry h
 obtain⟨hs,q⟩:=h
 cases x with
 | non =>
  cases rx
  cases y with
  | non=>cases ry;exact PySem.EqNone.ne_none_none (a1g I q (by simp))
  | bl j=>cases ry;exact PySem.EqNone.ne_none_bool (a1g I q (by simp))
  | int j=>obtain⟨t',rfl⟩:=ry;exact PySem.EqNone.ne_none_int (a1g I q (by simp))
  | str j=>obtain⟨t',rfl⟩:=ry;exact PySem.EqNone.ne_none_str (a1g I q (by simp))
  | _=>exact absurd (show false=true from hs) Bool.false_ne_true
 | bl i =>
  cases rx
  cases y with
  | non=>cases ry;exact PySem.EqNone.ne_bool_none (a1g I q (by simp))
  | bl j=>cases ry;exact ne_bool (a1g I q (congrArg not c7i))
  | str j=>obtain⟨t',rfl⟩:=ry;exact PySem.EqMixed.ne_bool_str (a1g I q (by simp))
  | _=>exact absurd (show false=true from hs) Bool.false_ne_true
 | int i =>
  obtain⟨t,rfl⟩:=rx
  cases y with
  | non=>cases ry;exact PySem.EqNone.ne_int_none (a1g I q (by simp))
  | int j=>obtain⟨t',rfl⟩:=ry;exact ne_int (a1g I q (congrArg not c2y))
  | str j=>obtain⟨t',rfl⟩:=ry;exact PySem.EqMixed.ne_int_str (a1g I q (by simp))
  | _=>exact absurd (show false=true from hs) Bool.false_ne_true
 | str i =>
  obtain⟨t,rfl⟩:=rx
  cases y with
  | non=>cases ry;exact PySem.EqNone.ne_str_none (a1g I q (by simp))
  | bl j=>cases ry;exact PySem.EqMixed.ne_str_bool (a1g I q (by simp))
  | int j=>obtain⟨t',rfl⟩:=ry;exact PySem.EqMixed.ne_str_int (a1g I q (by simp))
  | str j=>obtain⟨t',rfl⟩:=ry;exact ne_str (a1g I q (congrArg not c2z))
  | _=>exact absurd (show false=true from hs) Bool.false_ne_true
 | byt i =>
  obtain⟨t,rfl⟩:=rx
  cases y with
  | byt j=>obtain⟨t',rfl⟩:=ry;exact PySem.W.ne_bytes (a1g I q (congrArg not c3a))
  | _=>exact absurd (show false=true from hs) Bool.false_ne_true
 | _=>cases y<;>exact absurd (show false=true from hs) Bool.false_ne_true
theorem b1v:OpR X (compareOp .Lt) (rI0 fun i j=>.bl (decide (i < j))):=opB0 fun _ _ _ _ _ _ _ q=>lt_int q
theorem b4c:OpR X (compareOp .LtE) (rI0 fun i j=>.bl (decide (i <= j))):=opB0 fun _ _ _ _ _ _ _ q=>le_int q
theorem b4d:OpR X (compareOp .Gt) (rI0 fun i j=>.bl (decide (j < i))):=opB0 fun _ _ _ _ _ _ _ q=>gt_int q
theorem op_ge:OpR X (compareOp .GtE) (rI0 fun i j=>.bl (decide (j <= i))):=opB0 fun _ _ _ _ _ _ _ q=>ge_int q
theorem e0l:OpR X (compareOp .Is) (fun x y H Q=>y=.non/\Q (.bl (decide (x=.non))) H):=by
 intro pins s σ H x y v u Q I rx ry h
 obtain⟨rfl,q⟩:=h
 cases ry
 refine is_none_gen (a1g I q ?_)
 cases x<;>first
  | (cases rx;rfl)
  | (obtain⟨t,rfl⟩:=rx;rfl)
theorem OpR.or{f:Value->Value->Sem Value}{r r':R2}(h:OpR X f r)(h':OpR X f r'):OpR X f (fun x y H Q=>r x y H Q ∨ r' x y H Q):=by
 intro pins s σ H x y v u Q I rx ry q
 rcases q with q | q
 ·exact h pins s σ H x y v u Q I rx ry q
 ·exact h' pins s σ H x y v u Q I rx ry q
theorem a0r(b:Expr){op:CmpOp}(h:op ≠ .In:=by decide)(h2:op ≠ .NotIn:=by decide):behindInMarks op b=false:=by
 have e1:(op == CmpOp.In)=false:=by cases op<;>first | rfl | exact absurd rfl h
 have e2:(op == CmpOp.NotIn)=false:=by cases op<;>first | rfl | exact absurd rfl h2
 cases b<;>simp [behindInMarks,e1,e2]
theorem a2r{op:CmpOp}{r:R2}(ho:OpR X (compareOp op) r)(ha:PE X a ta)(hb:PE X b tb)(hm:behindInMarks op b=false):PE X (.Compare a [op] [b] pos) (tOp r ta tb):=by
 intro pins s σ H Q I h
 exact wpAny_Compare1 (binT ha hb I h fun v u s2 x y H2 I2 rx ry q=>ho pins s2 σ H2 x y v u Q I2 rx ry q) hm
def d4a(t:TE):TT:=fun σ H Q=>t σ H fun x H'=>∃ k,x=.bl k/\Q k H'
theorem a2s{op:CmpOp}{r:R2}(ho:OpR X (compareOp op) r)(ha:PE X a ta)(hb:PE X b tb)(hm:behindInMarks op b=false):PT X (.Compare a [op] [b] pos) (d4a (tOp r ta tb)):=by
 intro pins s σ H Q I h
 refine wpAny_isTrue_Compare1 (thn (ha pins s σ H _ I h) fun v s1 ⟨x,H1,I1,r1,q1⟩=>thn (hb pins s1 σ H1 _ I1 q1) fun u s2 ⟨y,H2,I2,r2,q2⟩ =>
  thn (ho pins s2 σ H2 x y v u _ I2 r1 r2 q2) fun c s3 ⟨z,H3,I3,r3,k,e,q3⟩=>?_) hm
 subst e
 cases r3
 exact wpAny_truthy_bool ⟨H3,I3,q3⟩
def b9u(r r':R2)(ta tb tc:TE):TE:=fun σ H Q=>ta σ H fun x H1=>tb σ H1 fun y H2=>r x y H2 fun z H3=>∃ k,z=.bl k /\
 (if k=true then tc σ H3 fun w' H4=>r' y w' H4 Q else Q (.bl false) H3)
theorem b9v{op op':CmpOp}{r r':R2}(ho:OpR X (compareOp op) r)(ho':OpR X (compareOp op') r')(ha:PE X a ta)(hb:PE X b tb)(hc:PE X c tc)
  (hm:lastMarks [op,op'] [b,c]=false:=by with_unfolding_all rfl):PE X (.Compare a [op,op'] [b,c] pos) (b9u r r' ta tb tc):=by
 intro pins s σ H Q I h
 refine Compare_chain (thn (ha pins s σ H _ I h) fun v s1 ⟨x,H1,I1,r1,q1⟩=>chain_link (thn (hb pins s1 σ H1 _ I1 q1) fun u s2 ⟨y,H2,I2,r2,q2⟩ =>
  thn (ho pins s2 σ H2 x y v u _ I2 r1 r2 q2) fun d s3 ⟨z,H3,I3,r3,k,e,q3⟩=>?_)) hm
 subst e
 cases r3
 refine wpAny_truthy_bool ?_
 cases k with
 | false=>exact ite_ff ⟨.bl false,H3,I3,rfl,q3⟩
 | true=>exact ite_tt (chain_last (thn (hc pins s3 σ H3 _ I3 q3) fun w' s4 hq8=>by obtain⟨z',H4,I4,r4,q4⟩:=hq8;exact ho' pins s4 σ H4 y z' u w' Q I4 r2 r4 q4))
theorem d0n{op op':CmpOp}{r r':R2}(ho:OpR X (compareOp op) r)(ho':OpR X (compareOp op') r')(ha:PE X a ta)(hb:PE X b tb)(hc:PE X c tc)
  (hm:lastMarks [op,op'] [b,c]=false:=by with_unfolding_all rfl):PT X (.Compare a [op,op'] [b,c] pos) (d4a (b9u r r' ta tb tc)):=by
 intro pins s σ H Q I h
 refine isTrue_chain (thn (ha pins s σ H _ I h) fun v s1 ⟨x,H1,I1,r1,q1⟩=>test_link (thn (hb pins s1 σ H1 _ I1 q1) fun u s2 ⟨y,H2,I2,r2,q2⟩ =>
  thn (ho pins s2 σ H2 x y v u _ I2 r1 r2 q2) fun d s3 ⟨z,H3,I3,r3,k,e,q3⟩=>?_)) hm
 subst e
 cases r3
 refine wpAny_truthy_bool ?_
 cases k with
 | false =>
  obtain⟨k',e',q'⟩:=q3
  cases e'
  exact ite_ff ⟨H3,I3,q'⟩
 | true =>
  refine ite_tt (test_last (thn (hc pins s3 σ H3 _ I3 q3) fun w' s4 ⟨z',H4,I4,r4,q4⟩=>thn (ho' pins s4 σ H4 y z' u w' _ I4 r2 r4 q4) fun d' s5 hq9=>?_))
  obtain⟨z2,H5,I5,r5,k2,e2,q5⟩:=hq9
  subst e2
  cases r5
  exact wpAny_truthy_bool ⟨H5,I5,q5⟩
def TruV(K:W.Frag)(x:V)(H:Hp)(k:Bool):Prop:=
 match x with
 | .non=>k=false
 | .bl b=>k=b
 | .int i=>k=(i != 0)
 | .str y=>y.length <= sizeLine/\k=((y.length:Int) != 0)
 | .byt y=>y.size <= sizeLine/\k=((y.size:Int) != 0)
 | .ref p=>(∃ xs,SqL K H p xs/\k = !xs.isEmpty) ∨ (∃ xs,SqT K H p xs/\k = !xs.isEmpty) ∨ ∃ kvs,H p=some (.dK kvs)/\k = !kvs.isEmpty
 | _=>False
theorem c4p{κ:Type}{kvs:List (κ × V)}{vs:List (κ × Value)}(r:KV kvs vs):(!vs.isEmpty) = !kvs.isEmpty:=by
 cases r<;>rfl
theorem b6c{xs:List V}{its:List Value}(r:Vals xs its):(!its.toArray.isEmpty) = !xs.isEmpty:=by
 cases r<;>simp
theorem a9n:(sizeLine:Nat) < 2 ^ 63:=by rw [sizeLine_eq];decide
theorem e0m:TruR X (fun x H Q=>∃ k,TruV X.K x H k/\Q k H):=by
 intro pins s σ H x v Q I rx h
 obtain⟨k,e,q⟩:=h
 have hl:=a9n
 have hs:sizeLine=16777216:=sizeLine_eq
 cases x with
 | non =>
  cases rx
  have e':k=false:=e
  subst e'
  exact truthy_none ⟨H,I,q⟩
 | bl b =>
  cases rx
  have e':k=b:=e
  subst e'
  exact wpAny_truthy_bool ⟨H,I,q⟩
 | int i =>
  obtain⟨t,rfl⟩:=rx
  have e':k=(i != 0):=e
  subst e'
  exact PySem.P.truthy_int ⟨H,I,q⟩
 | str y =>
  obtain⟨t,rfl⟩:=rx
  obtain⟨hy,e'⟩:y.length <= sizeLine/\k=((y.length:Int) != 0):=e
  subst e'
  exact PySem.P.truthy_str (by omega) ⟨H,I.tok _,q⟩
 | byt y =>
  obtain⟨t,rfl⟩:=rx
  obtain⟨hy,e'⟩:y.size <= sizeLine/\k=((y.size:Int) != 0):=e
  subst e'
  exact PySem.W.truthy_bytes (by omega) ⟨H,I.tok _,q⟩
 | ref p =>
  cases rx
  have e':(∃ xs,SqL X.K H p xs/\k = !xs.isEmpty) ∨ (∃ xs,SqT X.K H p xs/\k = !xs.isEmpty) ∨ ∃ kvs,H p=some (.dK kvs)/\k = !kvs.isEmpty:=e
  rcases e' with⟨xs,hx,e'⟩ | ⟨xs,hx,e'⟩ | ⟨kvs,hx,e'⟩
  ·subst e'
   obtain⟨its,r,pl,hz⟩:=I.list hx
   have hlen:=r.length
   exact wpAny_truthy_list pl.isList (by simp only [size_toArray];omega) ⟨H,I.tok _,by rw [b6c r];exact q⟩
  ·subst e'
   obtain⟨its,r,pl,hz⟩:=I.tuple hx
   have hlen:=r.length
   exact truthy_tuple pl (by simp only [size_toArray];omega) ⟨H,I.tok _,by rw [b6c r];exact q⟩
  ·subst e'
   obtain⟨hz,hS,vs,r,m⟩:kvs.length <= sizeLine/\(p == sysModules)=false/\∃ vs,KV kvs vs/\s.heap.DictOf (b3z X.prog X.w) p vs:=I.hok p _ hx
   have hlen:kvs.length=vs.length:=Paired.length r
   exact wpAny_truthy_dict hS m (by omega) ⟨H,I.tok _,by rw [c4p r];exact q⟩
 | _=>exact(show False from e).elim
theorem d0o(ha:PE X a ta)(he:∀ whole,isTrue a X.env whole=(do let v ← whole;standAt a.pos;holding [v] (truthy v))) :
  PT X a (fun σ H Q=>ta σ H fun x H'=>∃ k,TruV X.K x H' k/\Q k H'):=by
 intro pins s σ H Q I h
 exact isTrue_plain (thn (ha pins s σ H _ I h) fun v s1 hq8=>by obtain⟨x,H1,I1,r1,q1⟩:=hq8;exact e0m pins s1 σ H1 x v Q I1 r1 q1) (he _)
theorem c4q:OpR X (binaryOp .Add) (fun x y H Q=>∃ i j,x=.str i/\y=.str j/\i.length + j.length <= sizeLine/\Q (.str (i ++ j)) H):=by
 intro pins s σ H x y v u Q I rx ry h
 obtain⟨i,j,rfl,rfl,hz,q⟩:=h
 obtain⟨t,rfl⟩:=rx
 obtain⟨t',rfl⟩:=ry
 exact add_str (fun t' tk=>⟨.str (i ++ j),H,I.tok _,⟨_,rfl⟩,q⟩) hz
theorem vals1{x:V}{us:List Value}(r:Vals [x] us):∃ u,us=[u]/\RelV x u:=by
 cases r with
 | cons r1 r2=>cases r2;exact⟨_,rfl,r1⟩
theorem a4i:a2w X (.type "str") (fun xs H Q=>∃ i,xs=[.int i]/\i.natAbs.log2 < 1920/\Q (.str (toString i)) H):=by
 intro pins s σ H xs us Q I r h
 obtain⟨i,rfl,hz,q⟩:=h
 obtain⟨u,rfl,t,rfl⟩:=vals1 r
 exact PySem.P.str_of_int hz ⟨.str _,H,I.tok _,⟨_,rfl⟩,q⟩
end
end L2
namespace L2
open PySem PySem.Spec PyProof.Rows
structure ObjM(h:Heap)(x dx C:Addr)(mA:Str->Option Value):Prop where
 obj:h.get? x=some (PySem.W.instObj C dx)
 ns:h.Ns1 dx mA
 ne:dx ≠ x
theorem c7j{h:Heap}{dx:Addr}{mA:Str->Option Value}(n:h.Ns1 dx mA):∃ od,h.get? dx=some od/\∀ name,PySem.W.lookIn name od=some (mA name):=by
 obtain⟨o,es,ep,ho,hd,hk,_,hm⟩:=n
 refine⟨o,ho,fun name=>?_⟩
 have e:=hm name
 unfold nsFind findBy at e
 rw [← Array.find?_toList] at e
 unfold PySem.W.lookIn
 rw [hd]
 dsimp only
 split
 ·rename_i y q
  rw [q] at e
  exact congrArg some e
 ·rename_i q
  rw [q] at e
  have a:es.toList.any (·.refKey)=false:=by
   rw [List.any_eq_false]
   intro y hy
   obtain⟨z,t,hkey⟩:=hk y (Array.mem_toList_iff.mp hy)
   simp [DictEntry.refKey,hkey]
  have a':¬ es.toList.any (·.refKey)=true:=by rw [a];exact Bool.false_ne_true
  rw [if_neg a']
  exact congrArg some e
theorem ObjM.look{h:Heap}{x dx C:Addr}{mA:Str->Option Value}(I:ObjM h x dx C mA):∃ od,PySem.W.InstAt h x (PySem.W.instObj C dx) C (some od)/\∀ name,PySem.W.lookIn name od=some (mA name):=
 let ⟨od,ho,hl⟩:=c7j I.ns
 ⟨od,⟨I.obj,rfl,rfl,ho⟩,hl⟩
section
variable{prog:Program}{w:World}{A:Around}{E:Value->Shared->Prop}{s:Shared}{K:W.Frag}{x dx C f:Addr}{mA:Str->Option Value}{name:Str}{v:Value}
theorem d5j{expr:Bool}{Q:Value->Shared->Prop}(X:K.In s.heap)(I:ObjM s.heap x dx C mA)(hg:PySem.W.plainGet K C name=true)(hh:PySem.W.hasDictIn K C=true)
  (ha:PySem.W.findIn K (.ref C) name=some none) (hv:mA name=some v) (hv':PySem.W.handedIn v=true) (h:Q v { s with toks:=s.toks + 1 }) :
  wpAny (model prog w) A (getAttr (.ref x) name expr) Q E s:=by
 obtain⟨od,J,hl⟩:=I.look
 exact PySem.W.get_value X J (PySem.W.plainGet_of hg).1 (PySem.W.findObj_own hh ha rfl (by rw [hl,hv])) hv' h
theorem d0p{pl:Sem Bool}{Q:Value × List Value->Shared->Prop}(X:K.In s.heap)(I:ObjM s.heap x dx C mA)(hg:PySem.W.plainGet K C name=true)
  (hf:PySem.W.findIn K (.ref C) name=some (some (.ref f))) (ht:PySem.W.isFn K (.ref f)=true) (hv:mA name=none) (h:Q (.ref f,[.ref x]) s) :
  wpAny (model prog w) A (getMethod (.ref x) name pl) Q E s:=by
 obtain⟨od,J,hl⟩:=I.look
 exact PySem.W.method_fn X J (PySem.W.plainGet_of hg).1 (PySem.W.plainGet_of hg).2 hf (beq_iff_eq.mp ht) (by show(PySem.W.lookIn name od).map (·.isSome)=some false;rw [hl,hv];rfl) h
theorem d5k{ns:List Str}{Q:Unit->Shared->Prop}(X:K.In s.heap)(I:ObjM s.heap x dx C mA)
  (hs:PySem.W.findIn K (.ref C) "__setattr__" = some (some (.builtin "object.__setattr__"))) (hp:PySem.W.plainOver K C=true) (ht:PySem.W.takerIn K C name=some none) (hh:PySem.W.hasDictIn K C=true)
  (hw:PySem.Within mA ns) (hsz:ns.length <= sizeLine)
  (h:∀ h',ObjM h' x dx C (fun y=>if y=name then some v else mA y)->Heap.SameBut dx s.heap h'->Q () { s with heap:=h',toks:=s.toks + 2 }) :
  wpAny (model prog w) A (setAttr (.ref x) name v) Q E s:=by
 obtain⟨od,J,hl⟩:=I.look
 refine PySem.W.set_plain X J hs (PySem.W.osa_open (s:={ s with toks:=s.toks + 1 }) (r:=none) X J hp ht fun b=>?_)
 obtain⟨cd,hc,hd'⟩:=PySem.W.any_some hh
 have hx:s.heap.get? x=some ⟨.ref C,some dx,.plain,#[]⟩:=I.obj
 refine wpAny_bind (wpAny_pure (wpAny_bind (wpAny_bind (wpAny_loadPart hx (wpAny_bind (PySem.W.Looks.here (s:={ s with toks:=s.toks + 1 }) (PySem.W.looks_clsIn X hc) ?_))))))
 rw [hd']
 refine wpAny_pure (a:=some dx) (wpAny_bind (wpAny_pure (wpAny_bind ?_)))
 refine wpAny_nsSet1 (s:={ s with toks:=s.toks + 1 }) I.ns fun h' hn2 hs2=>?_
 obtain⟨oD,esD,epD,hoD,hdD,hcD⟩:=hn2.count (PySem.Within.cons name v hw)
 refine wpAny_bind (wpAny_lookBehind hoD (by rw [hdD];exact pastItsLine_dict (le_trans hcD (by rw [length_cons];omega))) ?_)
 exact wpAny_pure (h _ ⟨(hs2.2 _ (Ne.symm I.ne)).trans I.obj,hn2,I.ne⟩ hs2)
theorem d0q{R:Result->Shared->Prop}{vs:List Value}{kw:List (Str × Value)}(X:K.In s.heap)(hm:PySem.W.makesIn K C=true)
  (hi:PySem.W.findIn K (.ref C) "__init__" = some (some (.ref f))) (hf:PySem.W.typeIn K (.ref f)=some (.type "function"))
  (h:codeAny (model prog w) (A.under (.builtin "type.__call__" ⟨.ref C :: vs,kw⟩)) (.call (.ref f) ⟨.ref (s.heap.objs.size + 1) :: vs,kw⟩) (PySem.W.InitBack (s.heap.objs.size + 1) R)
   { s with heap:=(s.heap.push PySem.W.emptyDict).push (PySem.W.instObj C s.heap.objs.size) }) :
  codeAny (model prog w) A (.call (.ref C) ⟨vs,kw⟩) R s:=by
 obtain⟨hh,g,d,t,os⟩:=s
 exact PySem.W.make_core (PySem.W.makes_of X hm) (PySem.W.looks_findIn X hi) (fun self=>PySem.W.bind_fn X self hf) (.inl rfl) h
end
noncomputable def putF(f:Str)(v:V):List (Str × V)->List (Str × V)
 | []=>[(f,v)]
 | (g,x) :: r=>if g=f then(g,v) :: r else(g,x) :: putF f v r
theorem b4z(f g:Str)(v:V):∀ fs:List (Str × V),(putF f v fs).lookup g=if g=f then some v else fs.lookup g
 | []=>by
  show List.lookup g [(f,v)]=_
  by_cases h:g=f
  ·have hb:(g == f)=true:=beq_iff_eq.mpr h
   simp only [List.lookup,hb,if_pos h]
  ·have hb:(g == f)=false:=beq_eq_false_iff_ne.mpr h
   simp only [List.lookup,hb,if_neg h]
 | (k,x) :: r=>by
  have ih:=b4z f g v r
  rw [show putF f v ((k,x) :: r)=(if k=f then(k,v) :: r else(k,x) :: putF f v r) from rfl]
  by_cases hk:k=f
  ·rw [if_pos hk]
   by_cases h:g=k
   ·have hb:(g == k)=true:=beq_iff_eq.mpr h
    simp only [List.lookup,hb,if_pos (h.trans hk)]
   ·have hb:(g == k)=false:=beq_eq_false_iff_ne.mpr h
    simp only [List.lookup,hb,if_neg (fun e:g=f=>h (e.trans hk.symm))]
  ·rw [if_neg hk]
   by_cases h:g=k
   ·have hb:(g == k)=true:=beq_iff_eq.mpr h
    simp only [List.lookup,hb,if_neg (fun e:g=f=>hk (h.symm.trans e))]
   ·have hb:(g == k)=false:=beq_eq_false_iff_ne.mpr h
    simp only [List.lookup,hb]
    exact ih
theorem b3d(f:Str)(v:V):∀ fs:List (Str × V),f ∈ (putF f v fs).map (·.1)/\∀ g,g ∈ fs.map (·.1)->g ∈ (putF f v fs).map (·.1)
 | []=>⟨by simp [putF],fun g h=>by simp at h⟩
 | (k,x) :: r=>by
  obtain⟨i1,i2⟩:=b3d f v r
  rw [show putF f v ((k,x) :: r)=(if k=f then(k,v) :: r else(k,x) :: putF f v r) from rfl]
  by_cases hk:k=f
  ·rw [if_pos hk]
   subst hk
   exact⟨by simp,fun g h=>by simpa using h⟩
  ·rw [if_neg hk]
   refine⟨?_,fun g h=>?_⟩
   ·rw [map_cons]
    exact mem_cons_of_mem _ i1
   ·rw [map_cons] at h ⊢
    rcases mem_cons.mp h with e | e
    ·exact mem_cons.mpr (.inl e)
    ·exact mem_cons_of_mem _ (i2 g e)
theorem b5a(f:Str)(v:V):∀ fs:List (Str × V),(putF f v fs).length <= fs.length + 1
 | []=>by simp [putF]
 | (k,x) :: r=>by
  have ih:=b5a f v r
  rw [show putF f v ((k,x) :: r)=(if k=f then(k,v) :: r else(k,x) :: putF f v r) from rfl]
  by_cases hk:k=f
  ·rw [if_pos hk,length_cons,length_cons];omega
  ·rw [if_neg hk,length_cons,length_cons];omega
theorem RelO.some_of{v:V}{o:Option Value}(r:RelO (some v) o):∃ u,o=some u/\RelV v u:=by
 cases o with
 | none=>exact(show False from r).elim
 | some u=>exact⟨u,rfl,r⟩
theorem RelO.none_of{o:Option Value}(r:RelO none o):o=none:=by
 cases o with
 | none=>rfl
 | some u=>exact(show False from r).elim
theorem c7k{v:V}{u:Value}(r:RelV v u):PySem.W.handedIn u=true:=by
 cases v with
 | non=>cases (show u=Value.none from r);rfl
 | bl b=>cases (show u=Value.bool b from r);rfl
 | int i=>obtain⟨t,e⟩:=(show ∃ t,u=Value.int i t from r);cases e;rfl
 | str x=>obtain⟨t,e⟩:=(show ∃ t,u=Value.str x t from r);cases e;rfl
 | byt b=>obtain⟨t,e⟩:=(show ∃ t,u=Value.bytes b t from r);cases e;rfl
 | flt b=>obtain⟨t,e⟩:=(show ∃ t,u=Value.float b t from r);cases e;rfl
 | ref a=>cases (show u=Value.ref a from r);rfl
 | ty n=>cases (show u=Value.type n from r);rfl
section
variable{P:Program}{w:World}{H H':Hp}{h h':Heap}{a C dx:Addr}{fs fs':List (Str × V)}
theorem b7i(hok:HOk P w H h)(e:H a=some (.ins C dx fs)):∃ mA,ObjM h a dx C mA/\(∀ f,RelO (fs.lookup f) (mA f))/\PySem.Within mA (fs.map (·.1))/\fs.length <= 1000/\H dx=some (.own a):=by
 obtain⟨d,z,ne,ob,mA,n,r,q⟩:=(show a2v P w H h a (.ins C dx fs) from hok a _ e)
 exact⟨mA,⟨ob,n,ne⟩,r,q,z,d⟩
end
structure Cls(K:W.Frag)(C:Addr):Prop where
 pg:PySem.W.plainGet K C Str.empty=true
 hd:PySem.W.hasDictIn K C=true
 po:PySem.W.plainOver K C=true
 sa:PySem.W.findIn K (.ref C) "__setattr__" = some (some (.builtin "object.__setattr__"))
theorem Cls.get{K:W.Frag}{C:Addr}(c:Cls K C)(f:Str):PySem.W.plainGet K C f=true:=c.pg
def a3y(K:W.Frag)(C:Addr)(f:Str):Prop:=PySem.W.findIn K (.ref C) f=some none
theorem a3y.taker{K:W.Frag}{C:Addr}{f:Str}(n:a3y K C f):PySem.W.takerIn K C f=some none:=by
 unfold PySem.W.takerIn
 rw [show PySem.W.findIn K (.ref C) f=some none from n]
 rfl
structure Meth(K:W.Frag)(C:Addr)(m:Str)(f:Addr):Prop where
 at_:PySem.W.findIn K (.ref C) m=some (some (.ref f))
 fn:PySem.W.isFn K (.ref f)=true
 kp:PySem.W.keepIn K (.ref f)=true
section
variable{X:Cx}{pins:List (Addr × Obj)}{σ:St}{H:Hp}{s:Shared}{a C dx:Addr}{fs:List (Str × V)}{f:Str}{v:V}{A:Around}{E:Value->Shared->Prop}
theorem c4r{b:Bool}{Q:Value->Shared->Prop}(I:Inv X pins σ H s)(e:H a=some (.ins C dx fs))(c:Cls X.K C)(n:a3y X.K C f)(l:fs.lookup f=some v)
  (h:∀ u s',Inv X pins σ H s'->RelV v u->Q u s'):wpAny (model X.prog X.w) A (getAttr (.ref a) f b) Q E s:=by
 obtain⟨mA,O,r,_,_,_⟩:=b7i I.hok e
 obtain⟨u,hu,ru⟩:=RelO.some_of (v:=v) (o:=mA f) (by rw [← l];exact r f)
 exact d5j I.kIn O (c.get f) c.hd n hu (c7k ru) (h u _ (I.tok _) ru)
theorem b1w{m:Str}{g:Addr}{pl:Sem Bool}{Q:Value × List Value->Shared->Prop}(I:Inv X pins σ H s)(e:H a=some (.ins C dx fs))(c:Cls X.K C)(k:Meth X.K C m g)(l:fs.lookup m=none)
  (h:Q (.ref g,[.ref a]) s):wpAny (model X.prog X.w) A (getMethod (.ref a) m pl) Q E s:=by
 obtain⟨mA,O,r,_,_,_⟩:=b7i I.hok e
 have hn:mA m=none:=RelO.none_of (by rw [← l];exact r m)
 exact d0p I.kIn O (c.get m) k.at_ k.fn hn h
theorem c4s{y:V}{u:Value}{Q:Unit->Shared->Prop}(I:Inv X pins σ H s)(e:H a=some (.ins C dx fs))(c:Cls X.K C)(n:a3y X.K C f)(hl:fs.length < 1000)(ry:RelV y u)
  (h:∀ s',Inv X pins σ (upd H a (.ins C dx (putF f y fs))) s'->Q () s'):wpAny (model X.prog X.w) A (setAttr (.ref a) f u) Q E s:=by
 obtain⟨mA,O,r,wi,_,ho⟩:=b7i I.hok e
 have hz:(fs.map (·.1)).length <= sizeLine:=by rw [length_map,sizeLine_eq];omega
 refine d5k I.kIn O c.sa c.po n.taker c.hd wi hz fun h' O' sb=>h _ ?_
 have hd:∃ o,h'.get? dx=some o:=by obtain⟨o,_,_,e',_⟩:=O'.ns;exact⟨o,e'⟩
 refine I.write (x:=a) (e:=dx) (by rw [e];exact True.intro) (.inr ho) (fun b q hb z=>(sb.2 b hb).trans z) hd ?_
 refine⟨by rw [a0f O.ne];exact ho,?_,O.ne,O'.obj,_,O'.ns,fun g=>?_,fun g hg=>?_⟩
 ·have:=b5a f y fs;omega
 ·show RelO ((putF f y fs).lookup g) (if g=f then some u else mA g)
  rw [b4z]
  by_cases q:g=f
  ·rw [if_pos q,if_pos q];exact ry
  ·rw [if_neg q,if_neg q];exact r g
 ·by_cases q:g=f
  ·rw [q];exact(b3d f y fs).1
  ·refine(b3d f y fs).2 g (wi g fun z=>hg ?_)
   show(if g=f then some u else mA g)=none
   rw [if_neg q];exact z
theorem Inv.made(I:Inv X pins σ H s):Inv X pins σ (upd (upd H s.heap.objs.size (.own (s.heap.objs.size + 1))) (s.heap.objs.size + 1) (.ins C s.heap.objs.size []))
  { s with heap:=(s.heap.push PySem.W.emptyDict).push (PySem.W.instObj C s.heap.objs.size) }:=by
 have e1:(s.heap.push PySem.W.emptyDict).get? s.heap.objs.size=some PySem.W.emptyDict:=get?_push_size s.heap rfl
 have e2:((s.heap.push PySem.W.emptyDict).push (PySem.W.instObj C s.heap.objs.size)).get? (s.heap.objs.size + 1)=some (PySem.W.instObj C s.heap.objs.size):=by
  have:=get?_push_size (s.heap.push PySem.W.emptyDict) (o:=PySem.W.instObj C s.heap.objs.size) rfl
  rwa [size_push] at this
 have e3:(s.heap.push PySem.W.emptyDict).Ns s.heap.objs.size (fun _=>none):=⟨PySem.W.emptyDict,#[],_,e1,rfl,(fun e he=>absurd he (by simp)),fun _=>rfl⟩
 have I1:=I.laid (a:=s.heap.objs.size) (o:=.own (s.heap.objs.size + 1)) (h':=s.heap.push PySem.W.emptyDict) (t':=s.toks) (fun b u q=>get?_push_of_some _ q) (le_refl _) ⟨_,e1⟩
 refine I1.laid (a:=s.heap.objs.size + 1) (o:=.ins C s.heap.objs.size []) (t':=s.toks) (fun b u q=>get?_push_of_some _ q) (Nat.le_of_eq (size_push _ _)) ?_
 have ne:s.heap.objs.size ≠ s.heap.objs.size + 1:=ne_of_lt (Nat.lt_succ_self _)
 refine⟨by rw [a0f ne,a0e],zero_le _,ne,e2,fun _=>none,(Heap.Ns1.of_empty e3).at fun o q=>get?_push_of_some _ q,fun _=>True.intro,fun y hy=>absurd rfl hy⟩
theorem d5l{prog:Program}{w:World}{env:Env}{e:Expr}{f:Str}{pos:Pos}{s:Shared}{Q:Value->Shared->Prop}(hb:attributeBase e f env (eval e env)=eval e env)
  (h:wpAny (model prog w) A (eval e env) (fun o s₁=>wpAny (model prog w) A (getAttr o f true) Q E s₁) E s):wpAny (model prog w) A (eval (.Attribute e f pos) env) Q E s:=
 Attribute_any_ h (by rw [arm_eval_Attribute,hb])
end
def tFld(K:W.Frag)(ta:TE)(f:Str):TE:=fun σ H Q=>ta σ H fun x H1=>∃ a C dx fs v,x=.ref a/\H1 a=some (.ins C dx fs)/\Cls K C/\a3y K C f/\fs.lookup f=some v/\Q v H1
def sFld(K:W.Frag)(ta tv:TE)(f:Str):TS:=fun D σ H=>tv σ H fun y H1=>ta σ H1 fun x H2=>∃ a C dx fs,x=.ref a/\H2 a=some (.ins C dx fs)/\Cls K C/\a3y K C f/\fs.length < 1000 /\
 D.nx σ (upd H2 a (.ins C dx (putF f y fs)))
section
variable{X:Cx}{o e value:Expr}{f:Str}{pos pos' tpos:Pos}{ta tv:TE}
theorem a1h(he:PE X e ta)(hb:attributeBase e f X.env (eval e X.env)=eval e X.env):PE X (.Attribute e f pos) (tFld X.K ta f):=by
 intro pins s σ H Q I h
 refine d5l hb (thn (he pins s σ H _ I h) fun u s1 hq9=>?_)
 obtain⟨x,H1,I1,rx,a,C,dx,fs,v,ex,ea,c,n,l,q⟩:=hq9
 subst ex
 obtain rfl:u=Value.ref a:=rx
 exact c4r I1 ea c n l fun u' s2 I2 ru=>⟨v,H1,I2,ru,q⟩
theorem a4j(ha:PE X o ta)(hv:PE X value tv)(hs:swapsWith value (some (.Attribute o f pos')) pos.line X.env=pure false):PS X (.Assign [.Attribute o f pos'] value pos) (sFld X.K ta tv f):=by
 intro pins s σ H D I h
 refine plainObj_wpAny_Assign_Attribute (thn (hv pins s σ H _ I h) fun u s1 ⟨y,H1,I1,ry,q⟩=>thn (ha pins s1 σ H1 _ I1 q) fun ov s2 hq8=>?_) hs
 obtain⟨x,H2,I2,rx,a,C,dx,fs,ex,ea,c,n,l,q2⟩:=hq8
 subst ex
 obtain rfl:ov=Value.ref a:=rx
 exact c4s I2 ea c n l ry fun s3 I3=>⟨σ,_,I3,q2⟩
end
section
variable{X:Cx}{pins:List (Addr × Obj)}{σ:St}{H:Hp}{s:Shared}{A:Around}{E:Value->Shared->Prop}{Q:Value->Shared->Prop}{c:Value}{b:Bool}
end
end L2
namespace L2
open PySem PySem.Spec PyProof.Rows
structure Room(k:Nat)(A:Around):Prop where
 hd:A.handled=none
 dp:A.depth + 3 * k + 5 < recursionLimit
 un:A.units + 16 * k + 200 < cLine
 gd:A.guards=some []
theorem Room.mono{j k:Nat}{A:Around}(r:Room k A)(h:j <= k):Room j A:=⟨r.hd,by have:=r.dp;omega,by have:=r.un;omega,r.gd⟩
theorem Room.deeper{k:Nat}{A:Around}(r:Room (k + 1) A)(env:Env):Room k (A.deeper env):=
 ⟨r.hd,by have:=r.dp;show A.depth + 1 + 3 * k + 5 < _;omega,by have:=r.un;show A.units + 3 + 16 * k + 200 < _;omega,r.gd⟩
theorem c4t{A:Around}{C:Addr}{us:List Value}{kw:List (Str × Value)}:(A.under (.builtin "type.__call__" ⟨.ref C :: us,kw⟩)).depth=A.depth + 1:=by
 first | rfl | simp [Around.under,Code.weight,Code.isCreation,Code.isGuard,Code.isCaller,Code.frames,Code.isFrame,guardIds]
theorem c4u{A:Around}{C:Addr}{us:List Value}{kw:List (Str × Value)}:(A.under (.builtin "type.__call__" ⟨.ref C :: us,kw⟩)).units=A.units + 1:=by
 first | rfl | simp [Around.under,Code.cUnits,Code.frames,Code.isFrame]
theorem Room.make{k:Nat}{A:Around}(r:Room (k + 1) A)(C:Addr)(us:List Value)(kw:List (Str × Value)):Room k (A.under (.builtin "type.__call__" ⟨.ref C :: us,kw⟩)):=
 ⟨r.hd,by have:=r.dp;rw [c4t];omega,by have:=r.un;rw [c4u];omega,by rw [show(A.under (.builtin "type.__call__" ⟨.ref C :: us,kw⟩)).guards=A.guards from by first | rfl | simp [Around.under,Code.guards,Code.isGuard,guardIds,pushGuards]];exact r.gd⟩
theorem Room.depth{k:Nat}{A:Around}(r:Room k A):A.depth < recursionLimit:=by have:=r.dp;omega
theorem Room.units{k:Nat}{A:Around}(r:Room k A):A.units + 64 < cLine:=by have:=r.un;omega
def tNil:TA:=fun _ H Q=>Q [] H
def a3q(ta:TE)(tr:TA):TA:=fun σ H Q=>ta σ H fun x H1=>tr σ H1 fun xs H2=>Q (x :: xs) H2
section
variable{X:Cx}{e:Expr}{es:List Expr}{te:TE}{t:TA}{pos:Pos}
theorem a0i:PA X [] tNil:=fun _ _ _ _ H Q I h=>Calls.spliced_nil ⟨[],H,I,.nil,h⟩
theorem a0c(ha:PE X e te)(hr:PA X es t)(hs:starEach (e :: es) X.env=(false,eval e X.env) :: starEach es X.env:=by rfl):PA X (e :: es) (a3q te t):=by
 intro pos pins s σ H Q I h
 rw [hs]
 show wpAny _ _ (spliced ((false,eval e X.env) :: backTo pos (starEach es X.env))) _ _ s
 refine Calls.spliced_cons (thn (ha pins s σ H _ I h) fun u s1 hq9=>?_)
 obtain⟨x,H1,I1,r1,q1⟩:=hq9
 exact thn (hr pos pins s1 σ H1 _ I1 q1) fun us s2 hq8=>by obtain⟨xs,H2,I2,r2,q2⟩:=hq8;exact⟨x :: xs,H2,I2,.cons r1 r2,q2⟩
def tTup(t:TA):TE:=fun σ H Q=>t σ H fun xs H1=>xs.length <= sizeLine/\∀ p,H1 p=none->Q (.ref p) (upd H1 p (.tup xs))
def tLst(t:TA):TE:=fun σ H Q=>t σ H fun xs H1=>xs.length <= sizeLine/\∀ p,H1 p=none->Q (.ref p) (upd H1 p (.lst xs))
theorem a4y{x1}(h:PA X es t):PE X (.Tuple es x1 pos) (tTup t):=by
 intro pins s σ H Q I hq
 refine wpAny_Tuple_spliced (thn (h pos pins s σ H _ I hq) fun us s1 ⟨xs,H1,I1,r,z,q⟩=>⟨by rw [← r.length];exact z,?_⟩)
 have hf:H1 s1.heap.objs.size=none:=I1.hok.fresh (le_refl _)
 refine⟨.ref s1.heap.objs.size,upd H1 s1.heap.objs.size (.tup xs),I1.laid (t':=s1.toks) (fun b u e=>get?_push_of_some _ e) (le_refl _) ?_,rfl,q _ hf⟩
 exact⟨z,us,r,⟨_,get?_push_size _ rfl,⟨rfl,rfl⟩,_,rfl⟩⟩
theorem a7b(h:PA X es t):PE X (.List es pos) (tLst t):=by
 intro pins s σ H Q I hq
 refine wpAny_List_spliced (thn (h pos pins s σ H _ I hq) fun us s1 ⟨xs,H1,I1,r,z,q⟩=>⟨by rw [← r.length];exact z,?_⟩)
 have hf:H1 s1.heap.objs.size=none:=I1.hok.fresh (le_refl _)
 refine⟨.ref s1.heap.objs.size,upd H1 s1.heap.objs.size (.lst xs),I1.laid (t':=s1.toks) (fun b u e=>get?_push_of_some _ e) (le_refl _) ?_,rfl,q _ hf⟩
 exact⟨z,us,0,r,get?_push_size _ rfl⟩
end
abbrev Sp:=List V->Hp->VK->XK->Prop
abbrev CXT:=List Env->Hp->Shared->XK->Value->Shared->Prop
structure Env0(P:Program)(w:World)(K:W.Frag)(mg:Str->Option Value)(base:Heap)(A:Around)(outer:List Env)(s:Shared)(H:Hp):Prop where
 frames:A.frames=some outer
 mod:Mod K mg base
 bs:∀ b o,base.get? b=some o->s.heap.get? b=some o/\H b=none
 bsz:base.objs.size <= s.heap.objs.size
 funs:s.heap.FunFrames base outer
 frf:∀ b ∈ frs outer,H b=none
 hok:HOk P w H s.heap
 bare:AllBare s.gens
def CE(outer:List Env)(P:Program)(w:World)(H:Hp)(s:Shared)(Q:VK)(u:Value)(s':Shared):Prop:=
 ∃ v H',s'.os=s.os/\AllBare s'.gens/\Un (frs outer) [] H H' s.heap s'.heap/\HOk P w H' s'.heap/\RelV v u/\Q v H'
def CR(CX:CXT)(outer:List Env)(P:Program)(w:World)(H:Hp)(s:Shared)(Q:VK)(E:XK)(r:Result)(s':Shared):Prop:=
 match r with
 | .ok (.ret u)=>CE outer P w H s Q u s'
 | .ok _=>False
 | .error e=>CX outer H s E e s'
structure FnOk(P:Program)(w:World)(K:W.Frag)(mg:Str->Option Value)(base:Heap)(CX:CXT)(k:Nat)(f:Addr)(fd:FuncData)(ps:List Str)(sp:Sp):Prop where
 len:∀ vs H Q E,sp vs H Q E->vs.length=ps.length
 run:∀ (A:Around) (outer:List Env) (s:Shared) (H:Hp) (args:Args) (us:List Value) (vs:List V) (Q:VK) (E:XK),Room k A->Env0 P w K mg base A outer s H->BindsTo s fd args (ps.zip us)->Vals vs us->sp vs H Q E ->
  codeAny (model P w) A (.call (.ref f) args) (CR CX outer P w H s Q E) s
theorem FnOk.mono{P:Program}{w:World}{K:W.Frag}{mg:Str->Option Value}{base:Heap}{CX:CXT}{j k:Nat}{f:Addr}{fd:FuncData}{ps:List Str}{sp:Sp}(F:FnOk P w K mg base CX j f fd ps sp)(h:j <= k) :
  FnOk P w K mg base CX k f fd ps sp:=⟨F.len,fun A outer s H args us vs Q E hr=>F.run A outer s H args us vs Q E (hr.mono h)⟩
theorem Env0.make{P:Program}{w:World}{K:W.Frag}{mg:Str->Option Value}{base:Heap}{A:Around}{outer:List Env}{s:Shared}{H:Hp}(e:Env0 P w K mg base A outer s H)(C:Addr)(us:List Value)(kw:List (Str × Value)) :
  Env0 P w K mg base (A.under (.builtin "type.__call__" ⟨.ref C :: us,kw⟩)) outer s H:=⟨by first | exact e.frames | (simpa [Around.under,Code.envs,Code.isFrame,pushEnvs] using e.frames),e.mod,e.bs,e.bsz,e.funs,e.frf,e.hok,e.bare⟩
section
variable{X:Cx}{pins:List (Addr × Obj)}{σ:St}{H:Hp}{s s':Shared}
theorem Inv.env0(I:Inv X pins σ H s):Env0 X.prog X.w X.K X.mg X.base X.A X.stack s H:=
 ⟨I.ok.frames,I.ok.mod,I.bs,le_trans I.ok.bsz I.sz,I.stack,I.stkFree,I.hok,I.bare⟩
theorem Inv.after{Q:VK}{u:Value}(I:Inv X pins σ H s)(h:CE X.stack X.prog X.w H s Q u s'):EP X pins σ Q u s':=by
 obtain⟨v,H',os,bare,un,hok,r,q⟩:=h
 obtain⟨hh,g,d,t,os'⟩:=s'
 obtain rfl:os'=s.os:=os
 exact⟨v,H',I.call (h':=hh) (g':=g) (d':=d) (t':=t) (ch:=[]) un hok bare (fun b z=>absurd z (by simp)),r,q⟩
end
def b1x(sp:Sp)(dvs:List V)(E:XK)(t:TA):TE:=fun σ H Q=>t σ H fun vs H1=>sp (vs ++ dvs) H1 Q E
def d4b(C:Addr)(m:Str)(sp:Sp)(dvs:List V)(E:XK)(ta:TE)(t:TA):TE:=fun σ H Q=>ta σ H fun x H1=>∃ a dx fs,x=.ref a/\H1 a=some (.ins C dx fs)/\fs.lookup m=none /\
 t σ H1 fun vs H2=>sp (x :: (vs ++ dvs)) H2 Q E
def d4c(C:Addr)(sp:Sp)(dvs:List V)(E:XK)(t:TA):TE:=fun σ H Q=>t σ H fun vs H1=>∀ x dx,H1 x=none->H1 dx=none->dx ≠ x ->
 sp (.ref x :: (vs ++ dvs)) (upd (upd H1 dx (.own x)) x (.ins C dx [])) (fun v H2=>v=.non/\Q (.ref x) H2) E
def Binds(K:W.Frag)(fd:FuncData)(ps:List Str)(ds:List Value):Prop:=
 ∀ (s:Shared) (us:List Value),K.In s.heap->(us ++ ds).length=ps.length->BindsTo s fd ⟨us,[]⟩ (ps.zip (us ++ ds))
theorem Binds.all{K:W.Frag}{fd:FuncData}{ps:List Str}(h:∀ us:List Value,us.length=ps.length->bindArgs fd ⟨us,[]⟩=pure (ps.zip us)):Binds K fd ps []:=fun s us _ hl=>by
 rw [append_nil] at hl ⊢
 exact .of_eq (h us hl)
def a4z(CX:CXT)(X:Cx)(E:XK):Prop:=∀ (pins:List (Addr × Obj)) (σ:St) (H:Hp) (s:Shared) (e:Value) (s':Shared),Inv X pins σ H s->CX X.stack H s E e s'->X.xe e s'
section
variable{X:Cx}{CX:CXT}{k:Nat}{f C:Addr}{fd:FuncData}{ps:List Str}{sp:Sp}{dvs:List V}{ds:List Value}{E:XK}{x m:Str}{p pos apos:Pos}{e o:Expr}{es:List Expr}{ta:TE}{t:TA}
theorem b6d{pins:List (Addr × Obj)}{σ:St}{H:Hp}{s:Shared}{Q:VK}{us:List Value}{vs:List V}(F:FnOk X.prog X.w X.K X.mg X.base CX k f fd ps sp)(hr:Room k X.A)(hb:Binds X.K fd ps ds)(hd:Vals dvs ds)(hx:a4z CX X E)
  (I:Inv X pins σ H s) (r:Vals vs us) (h:sp (vs ++ dvs) H Q E):wpAny (model X.prog X.w) X.A (call (.ref f) us) (EP X pins σ Q) X.xe s:=by
 have r2:Vals (vs ++ dvs) (us ++ ds):=r.append hd
 have hl:(us ++ ds).length=ps.length:=by rw [← r2.length];exact F.len _ _ _ _ h
 refine wpAny_call (codeAny_mono (F.run X.A X.stack s H ⟨us,[]⟩ (us ++ ds) (vs ++ dvs) Q E hr I.env0 (hb s us I.kIn hl) r2 h) fun r s' hq=>?_)
 cases r with
 | error e=>exact hx pins σ H s e s' I hq
 | ok fl =>
  cases fl with
  | ret u=>exact I.after hq
  | next=>exact False.elim hq
  | brk=>exact False.elim hq
  | cont=>exact False.elim hq
theorem d5m(F:FnOk X.prog X.w X.K X.mg X.base CX k f fd ps sp)(hr:Room k X.A)(hg:Gl X x)(hm:X.mg x=some (.ref f))(hk:PySem.W.keepIn X.K (.ref f)=true)(hb:Binds X.K fd ps ds)(hd:Vals dvs ds)(hx:a4z CX X E)
  (ha:PA X (e :: es) t) (hdb:(x == ("__debug__" : Str))=false:=by decide) (he:starEach (e :: es) X.env=(false,eval e X.env) :: starEach es X.env:=by rfl) (hpl:(backTo pos (starEach es X.env)).any (·.1)=false:=by rfl) :
  PE X (.Call (.Name x p) (e :: es) [] pos) (b1x sp dvs E t):=by
 intro pins s σ H Q I h
 refine wpAny_Call_Name_kw (b4a I hg hm ?_ hdb)
 refine PySem.W.callWith_K (h₀:=X.base) I.ok.mod.kin hk (thn (ha pos pins s σ H _ I h) fun us s1 ⟨vs,H1,I1,r,q⟩=>⟨I1.kIn,?_⟩) he hpl
 exact b6d F hr hb hd hx I1 r q
theorem a3v{pl:Sem Bool}(he:PE X o ta)(c:Cls X.K C)(hm:Meth X.K C m f)(F:FnOk X.prog X.w X.K X.mg X.base CX k f fd ps sp)(hr:Room k X.A)(hb:Binds X.K fd ps ds)(hd:Vals dvs ds)(hx:a4z CX X E)(ha:PA X (e :: es) t)
  (hst:starEach (e :: es) X.env=(false,eval e X.env) :: starEach es X.env:=by rfl) (hpl:(backTo pos (starEach es X.env)).any (·.1)=false:=by rfl)
  (ht:eval (.Call (.Attribute o m apos) (e :: es) [] pos) X.env=(do
   let ov ← eval o X.env
   standAt apos.atName
   let (f,first) ← holding [ov] (getMethod ov m pl)
   callWith pos f first (backTo pos (starEach (e :: es) X.env)) (backToKw pos (keywordEach [] X.env))):=by rfl) :
  PE X (.Call (.Attribute o m apos) (e :: es) [] pos) (d4b C m sp dvs E ta t):=by
 intro pins s σ H Q I h
 refine PySem.W.methodCall_KW (pl:=pl) (thn (he pins s σ H _ I h) fun u s1 hq8=>?_) ht
 obtain⟨x,H1,I1,rx,a,dx,fs,ex,ea,l,q⟩:=hq8
 subst ex
 obtain rfl:u=Value.ref a:=rx
 refine b1w I1 ea c hm l ?_
 refine PySem.W.callWith_K (first:=[.ref a]) (h₀:=X.base) I.ok.mod.kin hm.kp (thn (ha pos pins s1 σ H1 _ I1 q) fun us s2 ⟨vs,H2,I2,r,q2⟩=>⟨I2.kIn,?_⟩) hst hpl
 exact b6d (us:=.ref a :: us) (vs:=.ref a :: vs) F hr hb hd hx I2 (.cons rfl r) q2
theorem a9o{pl:Sem Bool}(he:PE X o ta)(c:Cls X.K C)(hm:Meth X.K C m f)(F:FnOk X.prog X.w X.K X.mg X.base CX k f fd ps sp)(hr:Room k X.A)(hb:Binds X.K fd ps ds)(hd:Vals dvs ds)(hx:a4z CX X E)
  (ht:eval (.Call (.Attribute o m apos) [] [] pos) X.env=(do
   let ov ← eval o X.env
   standAt apos.atName
   let (f,first) ← holding [ov] (getMethod ov m pl)
   callWith pos f first (backTo pos (starEach [] X.env)) (backToKw pos (keywordEach [] X.env))):=by rfl) :
  PE X (.Call (.Attribute o m apos) [] [] pos) (d4b C m sp dvs E ta tNil):=by
 intro pins s σ H Q I h
 refine PySem.W.methodCall_KW (pl:=pl) (thn (he pins s σ H _ I h) fun u s1 hq8=>?_) ht
 obtain⟨x,H1,I1,rx,a,dx,fs,ex,ea,l,q⟩:=hq8
 subst ex
 obtain rfl:u=Value.ref a:=rx
 refine b1w I1 ea c hm l ?_
 exact PySem.W.callWith_K0 (first:=[.ref a]) I1.kIn hm.kp (b6d (us:=[.ref a]) (vs:=[.ref a]) F hr hb hd hx I1 (.cons rfl .nil) q)
structure Mk(K:W.Frag)(C f:Addr):Prop where
 makes:PySem.W.makesIn K C=true
 init:PySem.W.findIn K (.ref C) "__init__" = some (some (.ref f))
 fn:PySem.W.isFn K (.ref f)=true
 kp:PySem.W.keepIn K (.ref C)=true
theorem b9w{pins:List (Addr × Obj)}{σ:St}{H:Hp}{s:Shared}{Q:VK}{us:List Value}{vs:List V}(M:Mk X.K C f)(F:FnOk X.prog X.w X.K X.mg X.base CX k f fd ps sp)(hr:Room (k + 1) X.A)(hb:Binds X.K fd ps ds)(hd:Vals dvs ds)
  (hx:a4z CX X E) (I:Inv X pins σ H s) (r:Vals vs us)
  (h:∀ x dx,H x=none->H dx=none->dx ≠ x->sp (.ref x :: (vs ++ dvs)) (upd (upd H dx (.own x)) x (.ins C dx [])) (fun v H2=>v=.non/\Q (.ref x) H2) E) :
  wpAny (model X.prog X.w) X.A (call (.ref C) us) (EP X pins σ Q) X.xe s:=by
 have hq:=h (s.heap.objs.size + 1) s.heap.objs.size (I.hok.fresh (le_succ _)) (I.hok.fresh (le_refl _)) (ne_of_lt (Nat.lt_succ_self _))
 have I2:=Inv.made (C:=C) I
 have r2:Vals (V.ref (s.heap.objs.size + 1) :: (vs ++ dvs)) (Value.ref (s.heap.objs.size + 1) :: (us ++ ds)):=.cons rfl (r.append hd)
 have hl:(Value.ref (s.heap.objs.size + 1) :: us ++ ds).length=ps.length:=by
  have e:=r2.length
  rw [F.len _ _ _ _ hq] at e
  exact e.symm
 refine wpAny_call (d0q (f:=f) I.kIn M.makes M.init (beq_iff_eq.mp M.fn) (codeAny_mono (F.run _ X.stack _ _ ⟨Value.ref (s.heap.objs.size + 1) :: us,[]⟩ (Value.ref (s.heap.objs.size + 1) :: (us ++ ds)) _ _ E (hr.make C us [])
  (I2.env0.make C us []) (hb _ (Value.ref (s.heap.objs.size + 1) :: us) I2.kIn hl) r2 hq) fun r s' hq'=>?_))
 cases r with
 | error e=>exact hx pins σ _ _ e s' I2 hq'
 | ok fl =>
  cases fl with
  | ret u =>
   obtain⟨v,H',I3,rv,ev,q3⟩:=I2.after hq'
   subst ev
   exact⟨rv,⟨V.ref (s.heap.objs.size + 1),H',I3,rfl,q3⟩⟩
  | next=>exact False.elim hq'
  | brk=>exact False.elim hq'
  | cont=>exact False.elim hq'
theorem d5n(M:Mk X.K C f)(F:FnOk X.prog X.w X.K X.mg X.base CX k f fd ps sp)(hr:Room (k + 1) X.A)(hg:Gl X x)(hm:X.mg x=some (.ref C))(hb:Binds X.K fd ps ds)(hd:Vals dvs ds)(hx:a4z CX X E)
  (ha:PA X (e :: es) t) (hdb:(x == ("__debug__" : Str))=false:=by decide) (he:starEach (e :: es) X.env=(false,eval e X.env) :: starEach es X.env:=by rfl) (hpl:(backTo pos (starEach es X.env)).any (·.1)=false:=by rfl) :
  PE X (.Call (.Name x p) (e :: es) [] pos) (d4c C sp dvs E t):=by
 intro pins s σ H Q I h
 refine wpAny_Call_Name_kw (b4a I hg hm ?_ hdb)
 refine PySem.W.callWith_K (h₀:=X.base) I.ok.mod.kin M.kp (thn (ha pos pins s σ H _ I h) fun us s1 ⟨vs,H1,I1,r,q⟩=>⟨I1.kIn,?_⟩) he hpl
 exact b9w M F hr hb hd hx I1 r q
theorem d0r(M:Mk X.K C f)(F:FnOk X.prog X.w X.K X.mg X.base CX k f fd ps sp)(hr:Room (k + 1) X.A)(hg:Gl X x)(hm:X.mg x=some (.ref C))(hb:Binds X.K fd ps ds)(hd:Vals dvs ds)(hx:a4z CX X E)
  (hdb:(x == ("__debug__" : Str))=false:=by decide):PE X (.Call (.Name x p) [] [] pos) (d4c C sp dvs E tNil):=by
 intro pins s σ H Q I h
 refine wpAny_Call_Name_kw (b4a I hg hm ?_ hdb)
 exact PySem.W.callWith_K0 I.kIn M.kp (b9w (us:=[]) M F hr hb hd hx I .nil h)
end
section
variable{X:Cx}{CX:CXT}{k:Nat}{f C:Addr}{fd:FuncData}{ps ks:List Str}{sp:Sp}{E:XK}{x m:Str}{p pos apos kpos:Pos}{e o:Expr}{es:List Expr}{kws:List Keyword}{te ta:TE}{t tk:TA}{nm:Option Str}
variable{g:List Value->List Value->List Value}{gV:List V->List V->List V}
end
structure FnScope(N P:List Str)(sc:Scope):Prop where
 kind:sc.kind=.function
 co:sc.isCoroutine=false
 gen:sc.isGenerator=false
 nd:N.Nodup
 pre:N.take P.length=P
 par:∀ x ∈ P,sc.names.lookup x=some .local ∨ sc.names.lookup x=some .cell
 nofree:∀ y ∈ sc.names,y.2 ≠ .free
theorem b8h{kindOf:Str->Option NameKind}{x:Str}:∀ {binds:List (Str × Value)} {m:Str->Option Value},(∀ v,(x,v) ∉ binds)->bindL kindOf binds m x=m x
 | [],_,_=>rfl
 | (n,v) :: r,m,h=>by
  unfold bindL
  rw [b8h fun w hw=>h w (mem_cons_of_mem _ hw)]
  split
  ·have:x ≠ n:=by rintro rfl;exact h v mem_cons_self
   simp [this]
  ·rfl
theorem b8i{kindOf:Str->Option NameKind}{x:Str}:∀ {binds:List (Str × Value)} {m:Str->Option Value},(∀ v,(x,v) ∉ binds)->bindC kindOf binds m x=m x
 | [],_,_=>rfl
 | (n,v) :: r,m,h=>by
  unfold bindC
  rw [b8i fun w hw=>h w (mem_cons_of_mem _ hw)]
  split
  ·rfl
  ·have:x ≠ n:=by rintro rfl;exact h v mem_cons_self
   simp [this]
theorem b8j{kindOf:Str->Option NameKind}{x:Str}{v:Value}:∀ {P:List Str} {vs:List Value} {i:Nat} {m:Str->Option Value},P.Nodup->P[i]? = some x->vs[i]? = some v->kindOf x=some .local ->
  bindL kindOf (P.zip vs) m x=some v
 | [],_,_,_,_,h,_,_=>by simp at h
 | _ :: _,[],_,_,_,_,h,_=>by simp at h
 | p :: P,w :: vs,0,m,nd,h1,h2,hk=>by
  simp at h1 h2;subst h1;subst h2
  show bindL kindOf ((p,w) :: P.zip vs) m p=_
  unfold bindL
  rw [b8h fun v hv=>(nodup_cons.mp nd).1 (List.of_mem_zip hv).1,if_pos hk]
  simp
 | p :: P,w :: vs,i + 1,m,nd,h1,h2,hk=>by
  show bindL kindOf ((p,w) :: P.zip vs) m x=_
  unfold bindL
  exact b8j (i:=i) (nodup_cons.mp nd).2 (by simpa using h1) (by simpa using h2) hk
theorem b8k{kindOf:Str->Option NameKind}{x:Str}{v:Value}:∀ {P:List Str} {vs:List Value} {i:Nat} {m:Str->Option Value},P.Nodup->P[i]? = some x->vs[i]? = some v->kindOf x ≠ some .local ->
  bindC kindOf (P.zip vs) m x=some v
 | [],_,_,_,_,h,_,_=>by simp at h
 | _ :: _,[],_,_,_,_,h,_=>by simp at h
 | p :: P,w :: vs,0,m,nd,h1,h2,hk=>by
  simp at h1 h2;subst h1;subst h2
  show bindC kindOf ((p,w) :: P.zip vs) m p=_
  unfold bindC
  rw [b8i fun v hv=>(nodup_cons.mp nd).1 (List.of_mem_zip hv).1,if_neg hk]
  simp
 | p :: P,w :: vs,i + 1,m,nd,h1,h2,hk=>by
  show bindC kindOf ((p,w) :: P.zip vs) m x=_
  unfold bindC
  exact b8k (i:=i) (nodup_cons.mp nd).2 (by simpa using h1) (by simpa using h2) hk
noncomputable def start(N:List Str)(vs:List V):St:=vs.map some ++ List.replicate (N.length - vs.length) none
noncomputable def cxOf(CX:CXT)(P:Program)(w:World)(K:W.Frag)(mg:Str->Option Value)(base:Heap)(N:List Str)(qual:Str)(scope:Scope)(f:Addr)(cd:Value)(A:Around)(outer:List Env)(s:Shared)(H:Hp)(E:XK):Cx where
 prog:=P
 w:=w
 K:=K
 mg:=mg
 base:=base
 A:=A.deeper (envOfC qual scope s.heap.objs.size f cd)
 N:=N
 s₀:=s
 H₀:=H
 env:=envOfC qual scope s.heap.objs.size f cd
 outer:=outer
 stack:=envOfC qual scope s.heap.objs.size f cd :: outer
 ex:=[]
 calm:=true
 fn:=fun _=>true
 pn:=[]
 xe:=fun e s'=>wpAny (model P w) (A.deeper (envOfC qual scope s.heap.objs.size f cd)) (leaving (envOfC qual scope s.heap.objs.size f cd) e) (fun _ s''=>CX outer H s E e s'') (fun e' s''=>CX outer H s E e' s'') s'
theorem b9x{sc:Scope}{n:Nat}{x:Str}(h:sc.names.lookup x=some .cell):∃ c,(cellsFrom n sc.names []).lookup x=some c:=by
 have q:=PySem.W.cellsFrom_some sc.names n [] (.inl h)
 exact Option.isSome_iff_exists.mp q
theorem c7l{CX:CXT}{P:Program}{w:World}{K:W.Frag}{mg:Str->Option Value}{base:Heap}{N ps:List Str}{qual:Str}{scope:Scope}{f:Addr}{cd:Value}{A:Around}{outer:List Env}{s s1:Shared}{H:Hp}{E:XK}{us:List Value}{vs:List V}
  (S:FnScope N ps scope) (hd:A.handled=none) (e0:Env0 P w K mg base A outer s H) (hl:vs.length=ps.length) (r:Vals vs us)
  (x:InCallC s s.heap.objs.size (bindL (envOfC qual scope s.heap.objs.size f cd).kindOf (ps.zip us) fun _=>none) (cellsFrom (s.heap.objs.size + 1) scope.names []) (bindC (envOfC qual scope s.heap.objs.size f cd).kindOf (ps.zip us) fun _=>none) s1) :
  Inv (cxOf CX P w K mg base N qual scope f cd A outer s H E) [] (start N vs) H s1:=by
 have hpl:ps.length <= N.length:=by have:=congrArg List.length S.pre;rw [length_take] at this;omega
 obtain⟨h1,tk,rfl,hk⟩:=x.done
 have noA:∀ b:Addr,b ∉ (cxOf CX P w K mg base N qual scope f cd A outer s H E).ex:=fun b z=>absurd (show b ∈ ([]:List Addr) from z) (by simp)
 refine⟨⟨e0.mod,S.kind,rfl,rfl,le_refl _,fun y z c h1 h2=>?_,fun y hy=>?_,fun y c _ h=>?_,fun _=>hd,Around.frames_deeper e0.frames,.inr ⟨rfl,rfl⟩,fun b z=>absurd z (noA b),e0.bs,e0.bsz,fun b _ _=>noA b,fun b z=>absurd z (noA b),e0.funs,e0.frf⟩,
  rfl,e0.bare,Un.kept hk,⟨_,x.toInCall.ns,fun i y v h1 h2 h3=>?_⟩,fun y c h=>⟨_,x.cell y c h⟩,e0.hok.fresh (le_refl _),fun y c h=>?_,fun p hp=>absurd (show p ∈ ([]:List (Addr × Obj)) from hp) (by simp),e0.hok.kept hk,?_⟩
 ·exact name_of_addr x.apart (PySem.mem_of_lookup h1) (PySem.mem_of_lookup h2)
 ·have hy:scope.names.lookup y=some .cell ∨ scope.names.lookup y=some .free:=hy
  rcases hy with hy | hy
  ·exact b9x hy
  ·exact absurd rfl (S.nofree _ (PySem.mem_of_lookup hy))
 ·exact le_of_lt (x.above y c (PySem.mem_of_lookup h))
 ·have hi:i < vs.length:=by
   unfold start at h2
   by_cases hi:i < vs.length
   ·exact hi
   ·rw [getElem?_append_right (by simpa using hi)] at h2
    rw [List.getElem?_replicate] at h2
    split at h2<;>cases h2
  have ha:vs[i]? = some v:=by
   unfold start at h2
   rw [getElem?_append_left (by simpa using hi),getElem?_map] at h2
   cases e:vs[i]? with
   | none=>rw [e] at h2;cases h2
   | some a=>rw [e] at h2;cases h2;rfl
  obtain⟨u,hu,rv⟩:=r.get ha
  have hp:ps[i]? = some y:=by
   rw [← S.pre,List.getElem?_take_of_lt (by omega)];exact h1
  have ndP:ps.Nodup:=by rw [← S.pre];exact S.nd.sublist (List.take_sublist _ _)
  refine⟨u,rv,?_⟩
  rcases S.par y (mem_of_getElem? hp) with k | k
  ·exact .inl ⟨k,b8j ndP hp hu k⟩
  ·obtain⟨c,e⟩:=b9x (n:=s.heap.objs.size + 1) k
   refine .inr ⟨.inl k,c,e,?_⟩
   have q:=x.cell y c e
   rw [b8k ndP hp hu (by show scope.names.lookup y ≠ _;rw [k];decide)] at q
   exact q
 ·exact e0.hok.fresh (le_of_lt (x.above y c (PySem.mem_of_lookup h)))
 ·unfold start
  show _=N.length
  rw [length_append,length_map,length_replicate]
  omega
theorem d4d{CX:CXT}{P:Program}{w:World}{K:W.Frag}{mg:Str->Option Value}{base:Heap}{k:Nat}{f:Addr}{name qual:Str}{params:Arguments}{body:List Stmt}{scope:Scope}{dV kV doc pm cdv ct oc:Value}{an od:Option Addr}
  {osl:Array (Option Value)} {N ps:List Str} {sp:Sp} (lk:K.lookup f=some ⟨oc,od,.func (PySem.W.fnOf name qual params body scope dV kV doc pm an cdv ct),osl⟩) (hcd:PySem.W.codeIn K cdv qual=true) (S:FnScope N ps scope)
  (len:∀ vs H Q E,sp vs H Q E->vs.length=ps.length)
  (hbody:∀ (A:Around) (outer:List Env) (s:Shared) (H:Hp) (vs:List V) (Q:VK) (E:XK),Room k (A.deeper (envOfC qual scope s.heap.objs.size f cdv))->sp vs H Q E ->
   ∃ t,PSs (cxOf CX P w K mg base N qual scope f cdv A outer s H E) body t/\t { nx:=fun _ H'=>Q .non H',rt:=Q } (start N vs) H) :
  FnOk P w K mg base CX (k + 1) f (PySem.W.fnOf name qual params body scope dV kV doc pm an cdv ct) ps sp:=by
 refine⟨len,fun A outer s H args us vs Q E hr e0 hb r hsp=>?_⟩
 have hl:=len _ _ _ _ hsp
 have KX:K.In s.heap:=e0.mod.kin.keeps fun b o e=>(e0.bs b o e).1
 have lim:s.heap.NoLimit:=e0.mod.nolimit.keeps fun b o e=>(e0.bs b o e).1
 have hkind:∀ y ∈ ps.zip us,scope.names.lookup y.1=some .local ∨ (scope.names.lookup y.1=some .cell/\((cellsFrom (s.heap.objs.size + 1) scope.names []).lookup y.1).isSome=true):=fun⟨n,v⟩ hy=>by
  rcases S.par n (List.of_mem_zip hy).1 with q | q
  ·exact .inl q
  ·exact .inr ⟨q,PySem.W.cellsFrom_some _ _ _ (.inl q)⟩
 refine codeAny_call_function hr.depth (KX _ _ lk) rfl S.co S.gen rfl (PySem.W.codeRec_of KX hcd) (hb _ _ _ _ ?_)
 refine wpAny_newFunctionEnv_cells S.kind hkind fun env he s1 x=>?_
 subst he
 refine⟨lim.keeps x.toInCall.keep,codeAny_func ?_⟩
 obtain⟨t,ht,hq⟩:=hbody A outer s H vs Q E (hr.deeper _) hsp
 have I:Inv (cxOf CX P w K mg base N qual scope f cdv A outer s H E) [] (start N vs) H s1:=c7l S hr.hd e0 hl r x
 refine wpAny_mono (ht [] s1 (start N vs) H _ I hq) (fun fl s' hs=>?_) fun e s' hs=>hs
 have fin:∀ {σ':St} {H':Hp} {v:V} {u:Value},Inv (cxOf CX P w K mg base N qual scope f cdv A outer s H E) [] σ' H' s'->RelV v u->Q v H'->CE outer P w H s Q u s':=
  fun{σ' H' v u} J rv q=>⟨v,H',J.os,J.bare,J.base,J.hok,rv,q⟩
 cases fl with
 | ret u =>
  obtain⟨v,σ',H',J,rv,q⟩:=hs
  exact fin J rv q
 | next =>
  obtain⟨σ',H',J,q⟩:=hs
  exact fin (v:=V.non) (u:=Value.none) J rfl q
 | brk =>
  obtain⟨_,_,_,q⟩:=hs
  exact False.elim q
 | cont =>
  obtain⟨_,_,_,q⟩:=hs
  exact False.elim q
end L2
namespace L2
open PySem PySem.Spec PyProof.Rows
section
variable{X:Cx}{x:Str}{p pos:Pos}{e:Expr}{es:List Expr}{t:TA}{id T:String}{r:List V->Hp->VK->Prop}
def tCB(r:List V->Hp->VK->Prop)(t:TA):TE:=fun σ H Q=>t σ H fun vs H1=>r vs H1 Q
theorem a2l(hc:a2w X (.builtin id) r)(hg:Gl X x)(hm:X.mg x=none)(hv:bootBuiltins x=some (.builtin id))(ha:PA X (e :: es) t) (hn:x ≠ "__name__":=by decide) (hdb:(x == ("__debug__" : Str))=false:=by decide)
  (he:starEach (e :: es) X.env=(false,eval e X.env) :: starEach es X.env:=by rfl) (hpl:(backTo pos (starEach es X.env)).any (·.1)=false:=by rfl):PE X (.Call (.Name x p) (e :: es) [] pos) (tCB r t):=by
 intro pins s σ H Q I h
 refine wpAny_Call_Name_kw (b2z I hg hm hv ?_ hn hdb)
 exact PyProof.Rows.callWith_builtin1 (thn (ha pos pins s σ H _ I h) fun us s1 hq8=>by obtain⟨vs,H1,I1,r1,q1⟩:=hq8;exact hc pins s1 σ H1 vs us Q I1 r1 q1) he hpl
theorem a2t(hc:a2w X (.type T) r)(hg:Gl X x)(hm:X.mg x=none)(hv:bootBuiltins x=some (.type T))(ha:PA X (e :: es) t) (hn:x ≠ "__name__":=by decide) (hdb:(x == ("__debug__" : Str))=false:=by decide)
  (he:starEach (e :: es) X.env=(false,eval e X.env) :: starEach es X.env:=by rfl) (hpl:(backTo pos (starEach es X.env)).any (·.1)=false:=by rfl):PE X (.Call (.Name x p) (e :: es) [] pos) (tCB r t):=by
 intro pins s σ H Q I h
 refine wpAny_Call_Name_kw (b2z I hg hm hv ?_ hn hdb)
 exact PyProof.Rows.callWith_type1 (thn (ha pos pins s σ H _ I h) fun us s1 hq8=>by obtain⟨vs,H1,I1,r1,q1⟩:=hq8;exact hc pins s1 σ H1 vs us Q I1 r1 q1) he hpl
end
end L2
namespace HT
open PySem PyProof.Rows
section
open PySem.SeqAt
open PySem.AutoSeq1 (wpAny_loadPart')
open PySem.MeetsSeq PySem.MeetsSeq2 PySem.MeetsSeq3
end
section
variable{prog:Program}{w:World}{A:Around}{E:Value->Shared->Prop}{s:Shared}
theorem d5o{t b:Addr}{vs ws:List Value}{Q:Value->Shared->Prop}(ht:IsTup s.heap t vs.toArray)(hb:IsTup s.heap b ws.toArray)(hv:vs ≠ [])
  (h1:ws=[]->Q (.ref t) s) (h2:ws ≠ []->Q (.ref s.heap.objs.size) { s with heap:=s.heap.push { cls:=.type "tuple",data:=.seq (vs ++ ws).toArray } })
  (hsz:vs.length + ws.length <= sizeLine):wpAny (model prog w) A (binaryOp .Add (.ref t) (.ref b)) Q E s:=by
 obtain⟨⟨cls,dd,data,sl⟩,ho,hc,n,hd⟩:=id ht
 obtain⟨⟨cls2,dd2,data2,sl2⟩,ho2,hc2,n2,hd2⟩:=id hb
 simp only at hc hd hc2 hd2
 subst hc hd hc2 hd2
 have e:vs.toArray ++ ws.toArray=(vs ++ ws).toArray:=by simp
 by_cases hw:ws=[]
 ·exact concat_meets ⟨_,ho,rfl⟩ ⟨_,ho2,rfl⟩ noFill_tuple_add seq_tuple_add PySem.F.slot_tuple_add PySem.F.entry_tuple_add (PySem.F.args_tuple_add_2 _ _)
   (tuple_addW1 t b vs.toArray ws.toArray n n2 dd dd2 sl sl2 (by simpa using hv) (by simp [hw])) ⟨ho,ho2,h1 hw⟩
 ·refine concat_meets ⟨_,ho,rfl⟩ ⟨_,ho2,rfl⟩ noFill_tuple_add seq_tuple_add PySem.F.slot_tuple_add PySem.F.entry_tuple_add (PySem.F.args_tuple_add_2 _ _)
   (tuple_addW2 t b vs.toArray ws.toArray n n2 dd dd2 sl sl2 (by simpa using hv) (by simpa using hw) (by rw [size_toArray,size_toArray];exact hsz)) ⟨ho,ho2,?_⟩
  rw [e]
  exact h2 hw
noncomputable def sIx(n d:Nat):Option Int->Nat
 | none=>d
 | some v=>if v < 0 then(v + (n:Int)).toNat else min v.toNat n
theorem d0s(n d:Nat):sIx n d none=d:=rfl
theorem d5p(n d k:Nat):sIx n d (some (k:Int))=min k n:=by
 show(if (k:Int) < 0 then((k:Int) + (n:Int)).toNat else min (k:Int).toNat n)=min k n
 rw [if_neg (by omega),Int.toNat_natCast]
theorem e0n(n d:Nat)(hd:d <= n)(o:Option Int):sIx n d o <= n:=by
 cases o with
 | none=>exact hd
 | some v =>
  show(if v < 0 then(v + (n:Int)).toNat else min v.toNat n) <= n
  by_cases hv:v < 0
  ·rw [if_pos hv];omega
  ·rw [if_neg hv];exact Nat.min_le_right _ _
theorem c3b(v:Int)(n d:Nat):(if v < 0 then max (v + (n:Int)) 0 else min v (n:Int))=((sIx n d (some v):Nat):Int):=by
 show(if v < 0 then max (v + (n:Int)) 0 else min v (n:Int))=(((if v < 0 then(v + (n:Int)).toNat else min v.toNat n):Nat):Int)
 by_cases hv:v < 0
 ·simp only [if_pos hv];omega
 ·simp only [if_neg hv];omega
theorem c4v(lo hi:Option Int)(n:Nat):Builtin.Slice.sliceAdjust lo hi 1 (n:Int)=(((sIx n 0 lo:Nat):Int),((sIx n n hi:Nat):Int)):=by
 have h1:¬ ((1:Int) < 0):=by omega
 unfold Builtin.Slice.sliceAdjust
 simp only [h1,if_false]
 refine Prod.ext ?_ ?_
 ·cases lo with
  | none=>rfl
  | some v=>exact c3b v n 0
 ·cases hi with
  | none=>rfl
  | some v=>exact c3b v n n
theorem c4w(i j:Nat):Builtin.Slice.slicePlaces (i:Int) (j:Int) 1=j - i:=by
 unfold Builtin.Slice.slicePlaces
 have h1:(1:Int) > 0:=by omega
 simp only [h1,if_true,Int.ediv_one]
 split<;>omega
theorem b6e{v:Value}{o:Option Int}{Q:Option Int->Shared->Prop}(p:IsPart v o)(h:Q o s):wpAny (model prog w) A (Builtin.Slice.slicePartIndex v) Q E s:=by
 cases p with
 | none=>exact slicePart_none h
 | int i t=>exact slicePart_int h
theorem a9p{sl:Addr}{vl vu:Value}{lo hi:Option Int}{n:Nat}{Q:Int × Int × Nat->Shared->Prop}(hs:s.heap.IsSliceOf sl vl vu .none)(pl:IsPart vl lo)(pu:IsPart vu hi)
  (h:Q (((sIx n 0 lo:Nat):Int),1,sIx n n hi - sIx n 0 lo) s):wpAny (model prog w) A (Builtin.Slice.sliceApplied (.ref sl) (pure (n:Int))) Q E s:=by
 obtain⟨os,hos,hcs,hds⟩:=id hs
 unfold Builtin.Slice.sliceApplied Builtin.Slice.sliceFields
 refine wpAny_bind (wpAny_bind (wpAny_field hos hds (x:=vl) rfl (wpAny_bind (wpAny_field hos hds (x:=vu) rfl (wpAny_bind (wpAny_field hos hds (x:=.none) rfl (wpAny_pure ?_)))))))
 refine wpAny_bind (slicePart_none ?_)
 show wpAny _ _ (if ((1:Int) == 0)=true then _ else _) _ _ s
 rw [if_neg (by decide)]
 refine wpAny_bind (b6e pl (wpAny_bind (b6e pu (wpAny_bind (wpAny_pure ?_)))))
 show wpAny _ _ (match Builtin.Slice.sliceAdjust lo hi 1 (n:Int) with | (lo,hi)=>pure (lo,(1:Int),Builtin.Slice.slicePlaces lo hi 1)) _ _ s
 rw [c4v lo hi n]
 show wpAny _ _ (pure (((sIx n 0 lo:Nat):Int),(1:Int),Builtin.Slice.slicePlaces ((sIx n 0 lo:Nat):Int) ((sIx n n hi:Nat):Int) 1)) _ _ s
 rw [c4w]
 exact wpAny_pure h
theorem d0t(xs:Array Value)(i k:Nat):((List.range k).filterMap fun(m:Nat)=>xs[((i:Int) + (m:Int) * 1).toNat]?).toArray=((xs.toList.drop i).take k).toArray:=by
 have e:(fun(m:Nat)=>xs[((i:Int) + (m:Int) * 1).toNat]?)=fun m=>xs[i + m]?:=by
  funext m
  have:((i:Int) + (m:Int) * 1).toNat=i + m:=by omega
  rw [this]
 rw [e]
 have:=pick_run xs i k
 rw [List.filterMap_map] at this
 have e2:((fun x=>xs[x]?) ∘ fun x=>i + x)=fun m=>xs[i + m]?:=rfl
 rw [e2] at this
 rw [this]
theorem b4x{t sl:Addr}{items:Array Value}{vl vu:Value}{lo hi:Option Int}{Q:Value->Shared->Prop}(ht:IsTup s.heap t items)(hs:s.heap.IsSliceOf sl vl vu .none)(pl:IsPart vl lo)(pu:IsPart vu hi)
  (hw:¬ (sIx items.size 0 lo=0/\sIx items.size items.size hi=items.size))
  (h:Q (.ref s.heap.objs.size) { s with heap:=s.heap.push { cls:=.type "tuple",data:=.seq ((items.toList.drop (sIx items.size 0 lo)).take (sIx items.size items.size hi - sIx items.size 0 lo)).toArray } })
  (hsz:items.size <= sizeLine):wpAny (model prog w) A (getItem (.ref t) (.ref sl)) Q E s:=by
 have htake:sizeOk (.seq ((items.toList.drop (sIx items.size 0 lo)).take (sIx items.size items.size hi - sIx items.size 0 lo)).toArray):=by
  show((items.toList.drop (sIx items.size 0 lo)).take (sIx items.size items.size hi - sIx items.size 0 lo)).toArray.size <= sizeLine
  rw [size_toArray,length_take,length_drop,Array.length_toList]
  omega
 have hj:sIx items.size items.size hi <= items.size:=e0n _ _ (le_refl _) hi
 obtain⟨os,hos,hcs,hds⟩:=id hs
 have hTs:s.TypeIs (.ref sl) "slice":=⟨os,hos,hcs⟩
 unfold getItem
 try with_reducible refine wpAny_holding ?_
 first | refine wpAny_bind (wpAny_pure ?_) | skip
 refine wpAny_bind (wpAny_sequenceKey ht.typeIs (by decide) ?_)
 refine wpAny_bind (wpAny_callSpecial?_slot (name:=Str.ofString "__getitem__") ht.typeIs PyProof.Rows.slot_tuple_getitem
  (wpAny_call_entry PyProof.Rows.slot_tuple_getitem ht.typeIs entry_tuple_getitem ?_ (args_tuple_getitem _ _)))
 show wpAny _ _ (Builtin.Tuple.tupleItemsOf (.ref t) >>= _) _ _ s
 refine wpAny_bind (tupleItemsOf_ ht ?_)
 refine wpAny_bind (wpAny_typeOf hTs ?_)
 rw [if_pos (by decide)]
 refine wpAny_bind (a9p hs pl pu ?_)
 have hno:¬ ((((sIx items.size 0 lo:Nat):Int) == 0 && (1:Int) == 1 && (sIx items.size items.size hi - sIx items.size 0 lo) == items.size)=true):=by
  intro q
  rw [and_eq_true,and_eq_true] at q
  have q1:((sIx items.size 0 lo:Nat):Int)=0:=eq_of_beq q.1.1
  have q2:sIx items.size items.size hi - sIx items.size 0 lo=items.size:=eq_of_beq q.2
  exact hw ⟨by omega,by omega⟩
 show wpAny _ _ (if (((sIx items.size 0 lo:Nat):Int) == 0 && (1:Int) == 1 && (sIx items.size items.size hi - sIx items.size 0 lo) == items.size)=true then _ else _) _ _ s
 rw [if_neg hno,d0t]
 first
  | exact wpAny_bind (m:=Builtin.Tuple.tupleExact _) (wpAny_newObj_type (wpAny_pure ⟨_,rfl,wpAny_pure h⟩) htake)
  | exact wpAny_bind (m:=Builtin.Tuple.tupleExact _) (wpAny_newObj_type (wpAny_bind (wpAny_pure (wpAny_pure ⟨_,rfl,wpAny_pure h⟩))) htake)
  | exact wpAny_bind (wpAny_bind (m:=Builtin.Tuple.tupleExact _) (wpAny_newObj_type (wpAny_pure (wpAny_pure ⟨_,rfl,wpAny_pure h⟩)) htake))
  | exact wpAny_bind (wpAny_bind (m:=Builtin.Tuple.tupleExact _) (wpAny_newObj_type (wpAny_pure ⟨_,rfl,wpAny_pure h⟩) htake))
end
end HT
namespace L2
open PySem PySem.Spec PyProof.Rows
abbrev TO:=St->Hp->(Option Int->Hp->Prop)->Prop
def PO(X:Cx)(e:Option Expr)(t:TO):Prop:=
 ∀ (pins:List (Addr × Obj)) (s:Shared) (σ:St) (H:Hp) (Q:Option Int->Hp->Prop),Inv X pins σ H s->t σ H Q ->
  wpAny (model X.prog X.w) X.A (evalPart e X.env) (fun u s'=>∃ o H',Inv X pins σ H' s'/\IsPart u o/\Q o H') X.xe s
noncomputable def c3c:TO:=fun _ H Q=>Q none H
def d4e(t:TE):TO:=fun σ H Q=>t σ H fun x H1=>∃ i,x=.int i/\Q (some i) H1
section
variable{X:Cx}{e:Expr}{te:TE}{lo hi:Option Expr}{tl th:TO}{pos p2:Pos}
theorem c3d:PO X none c3c:=by
 intro pins s σ H Q I h
 rw [evalPart_none]
 exact wpAny_pure ⟨none,H,I,.none,h⟩
theorem c3e(h:PE X e te):PO X (some e) (d4e te):=by
 intro pins s σ H Q I hw
 rw [evalPart_some]
 refine thn (h pins s σ H _ I hw) fun u s1 hq9=>?_
 obtain⟨x,H1,I1,r1,q1⟩:=hq9
 obtain⟨i,rfl,q⟩:=q1
 obtain⟨t,rfl⟩:=r1
 exact⟨some i,H1,I1,.int i t,q⟩
def SlR(X:Cx)(r:V->Option Int->Option Int->Hp->VK->Prop):Prop:=
 ∀ (pins:List (Addr × Obj)) (s:Shared) (σ:St) (H:Hp) (x:V) (v vl vu:Value) (lo hi:Option Int) (sl:Addr) (Q:VK),Inv X pins σ H s->RelV x v->s.heap.IsSliceOf sl vl vu .none->IsPart vl lo->IsPart vu hi->r x lo hi H Q ->
  ∃ T id,typeLookup (.type T) "__getitem__" = pure (some (.builtin id))/\s.TypeIs v T/\wpAny (model X.prog X.w) X.A (getItem v (.ref sl)) (EP X pins σ Q) X.xe s
theorem SlR.or{r r':V->Option Int->Option Int->Hp->VK->Prop}(h:SlR X r)(h':SlR X r'):SlR X (fun x lo hi H Q=>r x lo hi H Q ∨ r' x lo hi H Q):=by
 intro pins s σ H x v vl vu lo hi sl Q I rx hs pl pu q
 rcases q with q | q
 ·exact h pins s σ H x v vl vu lo hi sl Q I rx hs pl pu q
 ·exact h' pins s σ H x v vl vu lo hi sl Q I rx hs pl pu q
def tSl(r:V->Option Int->Option Int->Hp->VK->Prop)(te:TE)(tl th:TO):TE:=fun σ H Q=>te σ H fun x H1=>tl σ H1 fun l H2=>th σ H2 fun u H3=>r x l u H3 Q
theorem b9y{r:V->Option Int->Option Int->Hp->VK->Prop}(hr:SlR X r)(he:PE X e te)(hl:PO X lo tl)(hu:PO X hi th):PE X (.Subscript e (.Slice lo hi none p2) pos) (tSl r te tl th):=by
 intro pins s σ H Q I h
 refine Subscript_ (thn (he pins s σ H _ I h) fun v s1 hq9=>?_)
 obtain⟨x,H1,I1,r1,q1⟩:=hq9
 refine wpAny_Slice (thn (hl pins s1 σ H1 _ I1 q1) fun vl s2 ⟨l,H2,I2,pl,q2⟩=>thn (hu pins s2 σ H2 _ I2 q2) fun vu s3 hq9=>?_)
 obtain⟨u,H3,I3,pu,q3⟩:=hq9
 rw [evalPart_none]
 refine wpAny_pure ?_
 have I4:Inv X pins σ H3 { s3 with heap:=s3.heap.push { cls:=.type "slice",data:=.fields #[vl,vu,.none] } }:=I3.kept (t':=s3.toks) fun b ob q=>get?_push_of_some _ q
 obtain⟨T,id,hT,ht,hg⟩:=hr pins { s3 with heap:=s3.heap.push { cls:=.type "slice",data:=.fields #[vl,vu,.none] } } σ H3 x v vl vu l u s3.heap.objs.size Q I4 r1 (Heap.IsSliceOf.new ..) pl pu q3
 show wpAny (model X.prog X.w) X.A (subscriptTail e (.Slice lo hi none p2) v (.ref s3.heap.objs.size)) (EP X pins σ Q) X.xe { s3 with heap:=s3.heap.push { cls:=.type "slice",data:=.fields #[vl,vu,.none] } }
 exact tail_any (ops:=[.ref s3.heap.objs.size,v]) ht hT hg (by with_unfolding_all rfl)
noncomputable def cutV(xs:List V)(lo hi:Option Int):List V:=(xs.drop (HT.sIx xs.length 0 lo)).take (HT.sIx xs.length xs.length hi - HT.sIx xs.length 0 lo)
theorem c2j(xs:List V)(lo hi:Option Int):(cutV xs lo hi).length <= xs.length:=by
 unfold cutV
 rw [length_take,length_drop]
 omega
noncomputable def rSlT(K:W.Frag):V->Option Int->Option Int->Hp->VK->Prop:=fun x lo hi H Q=>∃ a xs,x=.ref a/\SqT K H a xs /\
 ¬ (HT.sIx xs.length 0 lo=0/\HT.sIx xs.length xs.length hi=xs.length)/\∀ p,H p=none->Q (.ref p) (upd H p (.tup (cutV xs lo hi)))
theorem b9z:SlR X (rSlT X.K):=by
 intro pins s σ H x v vl vu lo hi sl Q I rx hs pl pu h
 obtain⟨a,xs,rfl,hx,hw,q⟩:=h
 cases rx
 obtain⟨its,r,ht,hz⟩:=I.tuple hx
 have hlen:its.toArray.size=xs.length:=by rw [size_toArray];exact r.length.symm
 refine⟨"tuple",_,PyProof.Rows.slot_tuple_getitem.lookup,ht.typeIs,?_⟩
 refine HT.b4x ht hs pl pu (by rw [hlen];exact hw) ?_ (by rw [hlen];exact hz)
 rw [hlen]
 refine⟨.ref s.heap.objs.size,_,I.laid (t':=s.toks) (o:=.tup (cutV xs lo hi)) (fun b ob q=>get?_push_of_some _ q) (le_refl _) ?_,rfl,q _ (I.hok.fresh (le_refl _))⟩
 exact⟨le_trans (c2j xs lo hi) hz,_,(r.drop (HT.sIx xs.length 0 lo)).take (HT.sIx xs.length xs.length hi - HT.sIx xs.length 0 lo),a6e.new _ _⟩
def d4f(K:W.Frag):R2:=fun x y H Q=>∃ a b xs ys,x=.ref a/\y=.ref b/\SqT K H a xs/\SqT K H b ys/\xs ≠ []/\xs.length + ys.length <= sizeLine /\
 (ys=[]->Q (.ref a) H)/\(ys ≠ []->∀ p,H p=none->Q (.ref p) (upd H p (.tup (xs ++ ys))))
theorem Vals.nil_iff{xs:List V}{us:List Value}(r:Vals xs us):us=[] ↔ xs=[]:=by
 cases r with
 | nil=>simp
 | cons _ _=>simp
theorem d5q:OpR X (binaryOp .Add) (d4f X.K):=by
 intro pins s σ H x y v u Q I rx ry h
 obtain⟨a,b,xs,ys,rfl,rfl,ha,hb,hx,hz,q1,q2⟩:=h
 cases rx
 cases ry
 obtain⟨its,r1,p1,_⟩:=I.tuple ha
 obtain⟨its2,r2,p2,_⟩:=I.tuple hb
 refine HT.d5o p1 p2 (fun z=>hx (r1.nil_iff.mp z)) (fun z=>⟨.ref a,H,I,rfl,q1 (r2.nil_iff.mp z)⟩) (fun z=>?_) (by rw [← r1.length,← r2.length];exact hz)
 refine⟨.ref s.heap.objs.size,_,I.laid (t':=s.toks) (o:=.tup (xs ++ ys)) (fun b ob q=>get?_push_of_some _ q) (le_refl _) ?_,rfl,q2 (fun w=>z (r2.nil_iff.mpr w)) _ (I.hok.fresh (le_refl _))⟩
 exact⟨by rw [length_append];exact hz,_,r1.append r2,a6e.new _ _⟩
end
end L2
namespace L2
open PySem PySem.Spec PyProof.Rows
noncomputable def ixN(n:Nat)(i:Int):Option Nat:=if 0 <= i then(if i < n then some i.toNat else none) else if -(n:Int) <= i then some (i + n).toNat else none
noncomputable def atI{α:Type}(xs:List α)(i:Int):Option α:=(ixN xs.length i).bind fun j=>xs[j]?
theorem c3f{n:Nat}{i:Int}{j:Nat}(h:ixN n i=some j):seqIndex? i n=some j/\j < n /\ -(n:Int) <= i/\i < n:=by
 unfold ixN at h
 by_cases h0:0 <= i
 ·rw [if_pos h0] at h
  by_cases h1:i < n
  ·rw [if_pos h1] at h
   have e:i.toNat=j:=Option.some.inj h
   exact⟨by rw [seqIndex_of h0 h1,e],by omega,by omega,h1⟩
  ·rw [if_neg h1] at h;cases h
 ·rw [if_neg h0] at h
  by_cases h1:-(n:Int) <= i
  ·rw [if_pos h1] at h
   have e:(i + n).toNat=j:=Option.some.inj h
   exact⟨by rw [seqIndex_neg (by omega) h1,e],by omega,h1,by omega⟩
  ·rw [if_neg h1] at h;cases h
theorem b7j{α:Type}{xs:List α}{i:Int}{v:α}(h:atI xs i=some v):∃ j,seqIndex? i xs.length=some j/\xs[j]? = some v/\j < xs.length /\ -(xs.length:Int) <= i/\i < xs.length:=by
 unfold atI at h
 cases e:ixN xs.length i with
 | none=>rw [e] at h;cases h
 | some j =>
  rw [e] at h
  obtain⟨h1,h2,h3,h4⟩:=c3f e
  exact⟨j,h1,h,h2,h3,h4⟩
theorem a4k{α:Type}{xs:List α}{j:Nat}{v:α}(h:xs[j]? = some v):atI xs (j:Int)=some v:=by
 have hj:j < xs.length:=(List.getElem?_eq_some_iff.mp h).1
 have e:ixN xs.length (j:Int)=some j:=by
  unfold ixN
  rw [if_pos (by omega),if_pos (by omega)];simp
 unfold atI;rw [e];exact h
theorem b1y{α:Type}(xs:List α)(v:α):atI (xs ++ [v]) (-1)=some v:=by
 have hl:(xs ++ [v]).length=xs.length + 1:=by simp
 have e:ixN (xs ++ [v]).length (-1)=some xs.length:=by
  unfold ixN
  rw [hl,if_neg (by decide),if_pos (by omega)]
  congr 1
  omega
 unfold atI
 rw [e]
 show(xs ++ [v])[xs.length]? = some v
 simp
def c3g(b:Expr):Prop:=∀ o i,subscripted b false o i=operate [o,i] (getItem o i)
def IxR(X:Cx)(r:R2):Prop:=
 ∀ (value slice:Expr) (pins:List (Addr × Obj)) (s:Shared) (σ:St) (H:Hp) (x y:V) (v u:Value) (Q:VK),Inv X pins σ H s->RelV x v->RelV y u->r x y H Q ->
  subscripted slice false v u=operate [v,u] (getItem v u)->wpAny (model X.prog X.w) X.A (subscriptTail value slice v u) (EP X pins σ Q) X.xe s
def MtR(X:Cx)(id:String)(r:V->List V->Hp->VK->Prop):Prop:=
 ∀ (pins:List (Addr × Obj)) (s:Shared) (σ:St) (H:Hp) (x:V) (xs:List V) (v:Value) (us:List Value) (Q:VK),Inv X pins σ H s->RelV x v->Vals xs us->r x xs H Q ->
  wpAny (model X.prog X.w) X.A (call (.builtin id) (v :: us)) (EP X pins σ Q) X.xe s
section
variable{X:Cx}{a b:Expr}{ta tb:TE}{pos:Pos}
theorem IxR.or{r r':R2}(h:IxR X r)(h':IxR X r'):IxR X (fun x y H Q=>r x y H Q ∨ r' x y H Q):=by
 intro value slice pins s σ H x y v u Q I rx ry q hs
 rcases q with q | q
 ·exact h value slice pins s σ H x y v u Q I rx ry q hs
 ·exact h' value slice pins s σ H x y v u Q I rx ry q hs
theorem a3f{r:R2}(hr:IxR X r)(ha:PE X a ta)(hb:PE X b tb)(hs:c3g b):PE X (.Subscript a b pos) (tOp r ta tb):=by
 intro pins s σ H Q I h
 exact Subscript_ (binT ha hb I h fun v u s2 x y H2 I2 rx ry q=>hr a b pins s2 σ H2 x y v u Q I2 rx ry q (hs _ _))
def rIxL(K:W.Frag):R2:=fun x y H Q=>∃ p xs i v,x=.ref p/\y=.int i/\SqL K H p xs/\atI xs i=some v/\Q v H
def rIxT(K:W.Frag):R2:=fun x y H Q=>∃ p xs i v,x=.ref p/\y=.int i/\SqT K H p xs/\atI xs i=some v/\Q v H
def rIxS:R2:=fun x y H Q=>∃ z i c,x=.str z/\y=.int i/\z.length <= sizeLine/\atI z.cps.toList i=some c/\Q (.str ⟨#[c]⟩) H
theorem a4l:IxR X (rIxL X.K):=by
 intro value slice pins s σ H x y v u Q I rx ry h hs
 obtain⟨p,xs,i,z,rfl,rfl,hq,he,q⟩:=h
 cases rx
 obtain⟨t,rfl⟩:=ry
 obtain⟨its,r,pl,hz⟩:=I.list hq
 obtain⟨j,h1,h2,h3,h4,h5⟩:=b7j he
 obtain⟨w,ew,rw'⟩:=r.get h2
 have hl:=r.length
 have hn:=a9n
 have fin:EP X pins σ Q w s:=⟨z,H,I,rw',q⟩
 by_cases h0:0 <= i
 ·have hj:i.toNat=j:=by
   rw [seqIndex_of h0 h5] at h1
   exact Option.some.inj h1
  exact item_listR pl.isList h0 (by omega) (by rw [hj];simpa using ew) fin hs
 ·have hj:(i + (its.toArray.size:Int)).toNat=j:=by
   rw [seqIndex_neg (by omega) h4] at h1
   rw [size_toArray,← hl]
   exact Option.some.inj h1
  exact subscriptTail_builtinR (x:=w) pl.isList.typeIs slot_list_getitem.lookup
   (wpAny_getItem_list_neg (Q:=fun r s'=>r=w/\EP X pins σ Q r s') pl.isList (by omega) (by rw [size_toArray]<;>omega) (by omega) (by rw [hj];simpa using ew) ⟨rfl,fin⟩) hs
theorem a8k:IxR X (rIxT X.K):=by
 intro value slice pins s σ H x y v u Q I rx ry h hs
 obtain⟨p,xs,i,z,rfl,rfl,hq,he,q⟩:=h
 cases rx
 obtain⟨t,rfl⟩:=ry
 obtain⟨its,r,pl,hz⟩:=I.tuple hq
 obtain⟨j,h1,h2,h3,h4,h5⟩:=b7j he
 obtain⟨w,ew,rw'⟩:=r.get h2
 have hl:=r.length
 have hn:=a9n
 have fin:EP X pins σ Q w s:=⟨z,H,I,rw',q⟩
 exact subscriptTail_builtinR (x:=w) pl.typeIs slot_tuple_getitem.lookup
  (getItem_tuple (j:=j) (Q:=fun r s'=>r=w/\EP X pins σ Q r s') pl (by omega) (by omega) (by rw [size_toArray,← hl];exact h1) (by simpa using ew) ⟨rfl,fin⟩) hs
theorem e0o:IxR X rIxS:=by
 intro value slice pins s σ H x y v u Q I rx ry h hs
 obtain⟨z,i,c,rfl,rfl,hz,he,q⟩:=h
 obtain⟨t,rfl⟩:=rx
 obtain⟨t',rfl⟩:=ry
 obtain⟨j,h1,h2,h3,h4,h5⟩:=b7j he
 have hl:z.cps.toList.length=z.length:=by simp [Str.length]
 rw [hl] at h1 h4 h5
 have hn:=a9n
 exact tail_any (typeIs_str s z t) slot_str_getitem.lookup (getItem_str (c:=c) (by
  have e1:decide (i < -(2 ^ 63:Int))=false:=decide_eq_false (by omega)
  have e2:decide (i ≥ 2 ^ 63)=false:=decide_eq_false (by omega)
  rw [e1,e2,Bool.or_false]) (by rw [h1];simpa using h2) ⟨.str ⟨#[c]⟩,H,I.tok _,⟨_,rfl⟩,q⟩) hs
def rIx(K:W.Frag):R2:=fun x y H Q=>rIxL K x y H Q ∨ rIxT K x y H Q ∨ rIxS x y H Q
theorem a0w:IxR X (rIx X.K):=a4l.or (a8k.or e0o)
theorem c4x(its:List Value)(n j:Nat)(u:Value):Obj.mapSeq (·.setIfInBounds j u) { cls:=.type "list",data:=.seq its.toArray n }={ cls:=.type "list",data:=.seq (its.set j u).toArray n }:=by
 simp [Obj.mapSeq]
theorem Inv.lst{pins:List (Addr × Obj)}{σ:St}{H:Hp}{s:Shared}{p:Addr}{xs:List V}(I:Inv X pins σ H s)(h:H p=some (.lst xs)) :
  ∃ (its:List Value) (n:Nat),Vals xs its/\s.heap.get? p=some { cls:=.type "list",data:=.seq its.toArray n }/\xs.length <= sizeLine:=by
 obtain⟨z,its,n,r,e⟩:=I.hok p _ h
 exact⟨its,n,r,e,z⟩
theorem Inv.lstUpd{pins:List (Addr × Obj)}{σ:St}{H:Hp}{s:Shared}{p:Addr}{xs ys:List V}{its its':List Value}{n n':Nat}{f:Obj->Obj}(I:Inv X pins σ H s)(h:H p=some (.lst xs))
  (ho:s.heap.get? p=some { cls:=.type "list",data:=.seq its.toArray n }) (hf:f { cls:=.type "list",data:=.seq its.toArray n }={ cls:=.type "list",data:=.seq its'.toArray n' }) (r:Vals ys its') (hz:ys.length <= sizeLine) (t:Nat) :
  Inv X pins σ (upd H p (.lst ys)) { s with heap:=s.heap.update p f,toks:=t }:=by
 have e:(s.heap.update p f).get? p=some { cls:=.type "list",data:=.seq its'.toArray n' }:=by
  rw [Heap.get?_update_self f ho (by rw [hf]<;>rfl),hf]
 refine I.write (x:=p) (e:=p) (by rw [h];trivial) (.inl rfl) (fun b u hb q=>(Heap.get?_update_other _ _ (Ne.symm hb)).trans q) ⟨_,e⟩ ?_
 exact⟨hz,its',n',r,e⟩
noncomputable def rSetL:V->V->V->Hp->(Hp->Prop)->Prop:=fun o i v H Q=>∃ p xs k j,o=.ref p/\i=.int k/\H p=some (.lst xs)/\ixN xs.length k=some j/\Q (upd H p (.lst (xs.set j v)))
theorem set_list:PSet X rSetL:=by
 intro pins s σ H o i v ov iv u Q I ro ri rv h
 obtain⟨p,xs,k,j,rfl,rfl,hp,hj,q⟩:=h
 cases ro
 obtain⟨t,rfl⟩:=ri
 obtain⟨its,n,r,ho,hz⟩:=I.lst hp
 obtain⟨h1,h2,h3,h4⟩:=c3f hj
 have hl:=r.length
 have hn:=a9n
 have I':Inv X pins σ (upd H p (.lst (xs.set j v))) { s with heap:=s.heap.update p (Obj.mapSeq (·.setIfInBounds j u)) }:=
  I.lstUpd hp ho (c4x its n j u) (r.set rv j) (by rw [length_set];exact hz) s.toks
 by_cases h0:0 <= k
 ·have hk:k.toNat=j:=by
   rw [seqIndex_of h0 h4] at h1
   exact Option.some.inj h1
  exact PySem.W.ki_setAt ho h0 (by omega) (by rw [size_toArray,← hl];exact h4) (by rw [hk];exact⟨_,I',q⟩)
 ·have hk:(k + (its.toArray.size:Int)).toNat=j:=by
   rw [seqIndex_neg (by omega) h3] at h1
   rw [size_toArray,← hl]
   exact Option.some.inj h1
  exact PySem.W.ki_setBack ho (by omega) (by rw [size_toArray,← hl];exact h3) (by omega) (by rw [hk];exact⟨_,I',q⟩)
noncomputable def a8d:V->Bool
 | .non=>true
 | .bl _=>true
 | .int _=>true
 | .str _=>true
 | _=>false
noncomputable def eqV:V->V->Bool
 | .non,.non=>true
 | .bl a,.bl b=>a == b
 | .bl a,.int b=>(if a then 1 else 0) == b
 | .int a,.bl b=>a == (if b then 1 else 0)
 | .int a,.int b=>a == b
 | .str a,.str b=>a == b
 | _,_=>false
theorem e0p{A:Around}{s:Shared}{y x:V}{u v:Value}(ry:RelV y u)(rx:RelV x v)(fy:a8d y=true)(fx:a8d x=true):SeqAt.EqAt A s u v (eqV y x):=by
 cases y with
 | non =>
  cases ry
  cases x with
  | non=>cases rx;exact SeqAt.EqAt.same _
  | bl b=>cases rx;exact SeqAt.EqAt.none_bool b
  | int b=>obtain⟨t,rfl⟩:=rx;exact SeqAt.EqAt.none_int b t
  | str b=>obtain⟨t,rfl⟩:=rx;exact SeqAt.EqAt.none_str b t
  | _=>exact absurd (show false=true from fx) Bool.false_ne_true
 | bl a =>
  cases ry
  cases x with
  | non=>cases rx;exact SeqAt.EqAt.bool_none a
  | bl b=>cases rx;exact SeqAt.EqAt.bool_bool a b
  | int b=>obtain⟨t,rfl⟩:=rx;exact SeqAt.EqAt.bool_int a b t
  | str b=>obtain⟨t,rfl⟩:=rx;exact SeqAt.EqAt.bool_str a b t
  | _=>exact absurd (show false=true from fx) Bool.false_ne_true
 | int a =>
  obtain⟨t',rfl⟩:=ry
  cases x with
  | non=>cases rx;exact SeqAt.EqAt.int_none a t'
  | bl b=>cases rx;exact SeqAt.EqAt.int_bool a t' b
  | int b=>obtain⟨t,rfl⟩:=rx;exact SeqAt.EqAt.int_int a t' b t
  | str b=>obtain⟨t,rfl⟩:=rx;exact SeqAt.EqAt.int_str a t' b t
  | _=>exact absurd (show false=true from fx) Bool.false_ne_true
 | str a =>
  obtain⟨t',rfl⟩:=ry
  cases x with
  | non=>cases rx;exact SeqAt.EqAt.str_none a t'
  | bl b=>cases rx;exact SeqAt.EqAt.str_bool a t' b
  | int b=>obtain⟨t,rfl⟩:=rx;exact SeqAt.EqAt.str_int a t' b t
  | str b=>obtain⟨t,rfl⟩:=rx;exact SeqAt.EqAt.str_str a t' b t
  | _=>exact absurd (show false=true from fx) Bool.false_ne_true
 | _=>exact absurd (show false=true from fy) Bool.false_ne_true
noncomputable def eqU(x:V)(u:Value):Bool:=match u with
 | .none=>eqV .non x
 | .bool b=>eqV (.bl b) x
 | .int i _=>eqV (.int i) x
 | .str z _=>eqV (.str z) x
 | _=>false
theorem c7m{x y:V}{u:Value}(r:RelV y u)(f:a8d y=true):eqU x u=eqV y x:=by
 cases y with
 | non=>cases r;rfl
 | bl b=>cases r;rfl
 | int i=>obtain⟨t,rfl⟩:=r;rfl
 | str z=>obtain⟨t,rfl⟩:=r;rfl
 | _=>exact absurd (show false=true from f) Bool.false_ne_true
theorem b0y{x:V}:∀ {xs:List V} {us:List Value},Vals xs us->xs.all a8d=true->us.any (eqU x)=xs.any fun y=>eqV y x
 | _,_,.nil,_=>rfl
 | y :: xs,u :: us,.cons r t,f=>by
  rw [List.all_cons,and_eq_true] at f
  rw [List.any_cons,List.any_cons,c7m r f.1,b0y t f.2]
theorem a9q{A:Around}{s:Shared}{x:V}{v:Value}(rx:RelV x v)(fx:a8d x=true):∀ {xs:List V} {us:List Value},Vals xs us->xs.all a8d=true->∀ u ∈ us,SeqAt.EqAt A s u v (eqU x u)
 | _,_,.nil,_=>fun u hu=>by cases hu
 | y :: xs,u :: us,.cons r t,f=>fun u' hu=>by
  rw [List.all_cons,and_eq_true] at f
  rcases mem_cons.mp hu with rfl | hu
  ·rw [c7m r f.1];exact e0p r rx f.1 fx
  ·exact a9q rx fx t f.2 u' hu
noncomputable def inV(x:V)(xs:List V):Bool:=xs.any fun y=>eqV y x
def rIn(K:W.Frag)(neg:Bool):R2:=fun x y H Q=>∃ p xs,y=.ref p/\(SqL K H p xs ∨ SqT K H p xs)/\a8d x=true/\xs.all a8d=true/\Q (.bl (if neg then !inV x xs else inV x xs)) H
theorem c7n:OpR X (compareOp .In) (rIn X.K false):=by
 intro pins s σ H x y v u Q I rx ry h
 obtain⟨p,xs,rfl,hq,fx,fs,q⟩:=h
 cases ry
 rcases hq with hq | hq
 ·obtain⟨its,r,pl,hz⟩:=I.list hq
  refine SeqAt.in_listAt (eqU x) pl.isList (fun w hw=>a9q rx fx r fs w (by simpa using hw)) ⟨.bl _,H,I,rfl,?_⟩
  rw [show its.toArray.any (eqU x)=its.any (eqU x) by simp,b0y r fs]
  exact q
 ·obtain⟨its,r,pl,hz⟩:=I.tuple hq
  refine SeqAt.in_tupleAt (eqU x) pl (fun w hw=>a9q rx fx r fs w (by simpa using hw)) ⟨.bl _,H,I,rfl,?_⟩
  rw [show its.toArray.any (eqU x)=its.any (eqU x) by simp,b0y r fs]
  exact q
theorem b3e:OpR X (compareOp .NotIn) (rIn X.K true):=by
 intro pins s σ H x y v u Q I rx ry h
 obtain⟨p,xs,rfl,hq,fx,fs,q⟩:=h
 cases ry
 rcases hq with hq | hq
 ·obtain⟨its,r,pl,hz⟩:=I.list hq
  refine SeqAt.notIn_listAt (eqU x) pl.isList (fun w hw=>a9q rx fx r fs w (by simpa using hw)) ⟨.bl _,H,I,rfl,?_⟩
  rw [show its.toArray.any (eqU x)=its.any (eqU x) by simp,b0y r fs]
  exact q
 ·obtain⟨its,r,pl,hz⟩:=I.tuple hq
  refine SeqAt.notIn_tupleAt (eqU x) pl (fun w hw=>a9q rx fx r fs w (by simpa using hw)) ⟨.bl _,H,I,rfl,?_⟩
  rw [show its.toArray.any (eqU x)=its.any (eqU x) by simp,b0y r fs]
  exact q
theorem a1q:a2w X (.builtin "len") (fun xs H Q=>∃ p ys,xs=[.ref p]/\(SqL X.K H p ys ∨ SqT X.K H p ys)/\Q (.int ys.length) H):=by
 intro pins s σ H xs us Q I r h
 obtain⟨p,ys,rfl,hq,q⟩:=h
 obtain⟨u,rfl,rx⟩:=vals1 r
 cases rx
 have hn:=a9n
 rcases hq with hq | hq
 ·obtain⟨its,r',pl,hz⟩:=I.list hq
  have hlen:=r'.length
  exact Calls.call_len_list pl.isList (by simp only [size_toArray]<;>omega) ⟨.int ys.length,H,I.tok _,⟨s.toks + 1,by rw [size_toArray,hlen]⟩,q⟩
 ·obtain⟨its,r',pl,hz⟩:=I.tuple hq
  have hlen:=r'.length
  exact len_tuple pl (by simp only [size_toArray]<;>omega) ⟨.int ys.length,H,I.tok _,⟨s.toks + 1,by rw [size_toArray,hlen]⟩,q⟩
theorem c0a:a2w X (.builtin "len") (fun xs H Q=>∃ z,xs=[.str z]/\z.length <= sizeLine/\Q (.int z.length) H):=by
 intro pins s σ H xs us Q I r h
 obtain⟨z,rfl,hz,q⟩:=h
 obtain⟨u,rfl,t,rfl⟩:=vals1 r
 have hn:=a9n
 exact len_str (by omega) ⟨.int z.length,H,I.tok _,⟨_,rfl⟩,q⟩
theorem a2w.or{f:Value}{r r':List V->Hp->VK->Prop}(h:a2w X f r)(h':a2w X f r'):a2w X f (fun xs H Q=>r xs H Q ∨ r' xs H Q):=by
 intro pins s σ H xs us Q I rs q
 rcases q with q | q
 ·exact h pins s σ H xs us Q I rs q
 ·exact h' pins s σ H xs us Q I rs q
theorem a9r:a2w X (.type "list") (fun xs H Q=>∃ p ys,xs=[.ref p]/\(SqL X.K H p ys ∨ SqT X.K H p ys)/\∀ l,H l=none->Q (.ref l) (upd H l (.lst ys))):=by
 intro pins s σ H xs us Q I r h
 obtain⟨p,ys,rfl,hq,q⟩:=h
 obtain⟨u,rfl,rx⟩:=vals1 r
 cases rx
 have fin:∀ (its:List Value),Vals ys its->ys.length <= sizeLine->∀ (h':Heap) (c':Nat),(∀ b o',s.heap.get? b=some o'->h'.get? b=some o') ->
   h'.get? s.heap.objs.size=some { cls:=.type "list",dict:=none,data:=.seq its.toArray c',slots:=#[] }->EP X pins σ Q (.ref s.heap.objs.size) { s with heap:=h' }:=fun its r' hz h' c' kp e =>
  ⟨.ref s.heap.objs.size,_,I.laid (t':=s.toks) kp (le_refl _) (show a2v X.prog X.w _ h' _ (.lst ys) from⟨hz,its,c',r',e⟩),rfl,q _ (I.hok.fresh (le_refl _))⟩
 rcases hq with hq | hq
 ·obtain⟨its,r',pl,hz⟩:=I.list hq
  have hlen:=r'.length
  obtain⟨o,ho,hc,n,hd⟩:=pl.isList
  exact call_list_seq p (.inl rfl) ho hc hd (fun h' c' kp e=>fin its r' hz h' c' kp e) (by simp only [size_toArray]<;>omega)
 ·obtain⟨its,r',pl,hz⟩:=I.tuple hq
  have hlen:=r'.length
  obtain⟨o,ho,hc,n,hd⟩:=pl
  exact call_list_seq p (.inr rfl) ho hc hd (fun h' c' kp e=>fin its r' hz h' c' kp e) (by simp only [size_toArray]<;>omega)
theorem a1f:a2w X (.type "tuple") (fun xs H Q=>∃ p ys,xs=[.ref p]/\((SqL X.K H p ys/\∀ l,H l=none->Q (.ref l) (upd H l (.tup ys))) ∨ (SqT X.K H p ys/\Q (.ref p) H))):=by
 intro pins s σ H xs us Q I r h
 obtain⟨p,ys,rfl,h⟩:=h
 obtain⟨u,rfl,rx⟩:=vals1 r
 cases rx
 rcases h with⟨hq,q⟩ | ⟨hq,q⟩
 ·obtain⟨its,r',pl,hz⟩:=I.list hq
  have hlen:=r'.length
  refine call_tuple_list pl.isList (fun h' kp=>?_) (by simp only [size_toArray]<;>omega)
  have I1:Inv X pins σ H { s with heap:=h' }:=I.kept (t':=s.toks) kp
  have I2:Inv X pins σ (upd H h'.objs.size (.tup ys)) { s with heap:=h'.push { cls:=.type "tuple",data:=.seq its.toArray } }:=
   I1.laid (t':=s.toks) (fun b o e=>get?_push_of_some _ e) (le_refl _) (show a2v X.prog X.w _ _ _ (.tup ys) from⟨hz,its,r',a6e.new _ _⟩)
  exact⟨.ref h'.objs.size,_,I2,rfl,q _ (I1.hok.fresh (le_refl _))⟩
 ·obtain⟨its,r',pl,hz⟩:=I.tuple hq
  exact call_tuple_same pl ⟨.ref p,H,I,rfl,q⟩
def tyV(K:W.Frag)(T:String)(x:V)(H:Hp):Prop:=match x with
 | .str _=>T = "str"
 | .int _=>T = "int"
 | .ref p=>(T = "list" /\ ∃ xs,SqL K H p xs) ∨ (T = "tuple" /\ ∃ o,K.lookup p=some o/\o.cls=.type "tuple" /\ o.dict=none) ∨
   (T = "dict" /\ ((∃ kvs,H p=some (.dK kvs)) ∨ ∃ kvs,H p=some (.dT kvs))) ∨ (T = "set" /\ ∃ S n,H p=some (.set S n))
 | _=>False
theorem c7o{pins:List (Addr × Obj)}{σ:St}{H:Hp}{s:Shared}{T:String}{x:V}{v:Value}(I:Inv X pins σ H s)(r:RelV x v)(ty:tyV X.K T x H) :
  s.TypeIs v T/\∀ a,v=.ref a->∃ ob,s.heap.get? a=some ob/\ob.dict=none:=by
 cases x with
 | str z =>
  obtain⟨t,rfl⟩:=r
  cases (show T = "str" from ty)
  exact⟨typeIs_str s z t,fun _ e=>nomatch e⟩
 | int i =>
  obtain⟨t,rfl⟩:=r
  cases (show T = "int" from ty)
  exact⟨typeIs_int s i t,fun _ e=>nomatch e⟩
 | ref p =>
  cases r
  rcases ty with⟨rfl,xs,hq⟩ | ⟨rfl,o,hk,hc,hd⟩ | ⟨rfl,hk⟩ | ⟨rfl,S,n,hk⟩
  ·obtain⟨its,_,pl,_⟩:=I.list hq
   refine⟨pl.isList.typeIs,fun a e=>?_⟩
   cases e
   obtain⟨o,n,e,c,hd,_⟩:=pl
   exact⟨o,e,hd⟩
  ·refine⟨⟨o,I.kIn p o hk,hc⟩,fun a e=>?_⟩
   cases e
   exact⟨o,I.kIn _ o hk,hd⟩
  ·have z:∃ o,s.heap.get? p=some o/\o.ExactDict:=by
    rcases hk with⟨kvs,hk⟩ | ⟨kvs,hk⟩
    ·obtain⟨_,_,_,_,o,_,_,e,ex,_⟩:=I.hok p _ hk
     exact⟨o,e,ex⟩
    ·obtain⟨_,_,_,_,o,_,_,e,ex,_⟩:=I.hok p _ hk
     exact⟨o,e,ex⟩
   obtain⟨o,e,ex⟩:=z
   refine⟨⟨o,e,ex.1⟩,fun a e2=>?_⟩
   cases e2
   exact⟨o,e,ex.2.1⟩
  ·obtain⟨o,_,_,_,e,ex,_⟩:=I.hok p _ hk
   refine⟨⟨o,e,ex.1⟩,fun a e2=>?_⟩
   cases e2
   exact⟨o,e,ex.2.1⟩
 | _=>exact False.elim ty
def tBM0(K:W.Frag)(T:String)(r:V->List V->Hp->VK->Prop)(to:TE):TE:=fun σ H Q=>to σ H fun x H1=>tyV K T x H1/\r x [] H1 Q
def tBM(K:W.Frag)(T:String)(r:V->List V->Hp->VK->Prop)(to:TE)(t:TA):TE:=fun σ H Q=>to σ H fun x H1=>tyV K T x H1/\t σ H1 fun xs H2=>r x xs H2 Q
variable{o e:Expr}{es:List Expr}{to:TE}{t:TA}{name:Str}{apos cpos:Pos}{T id:String}{r:V->List V->Hp->VK->Prop}
theorem e0q(pa:PlainAttrs T)(slot:Slot T name id) (hty:typeOf (.builtin id)=pure (.type "method_descriptor")) (hm:MtR X id r) (ho:PE X o to)
  (hbase:attributeBase o name X.env (eval o X.env)=eval o X.env:=by rfl) (hline:(apos.endLine == cpos.line)=true:=by rfl):PE X (.Call (.Attribute o name apos) [] [] cpos) (tBM0 X.K T r to):=by
 intro pins s σ H Q I h
 refine wpAny_Call_method0_late hbase hline (thn (ho pins s σ H _ I h) fun v s1 hq9=>?_)
 obtain⟨x,H1,I1,r1,ty,q1⟩:=hq9
 obtain⟨h1,h2⟩:=c7o I1 r1 ty
 exact⟨T,id,pa,slot,hty,h1,h2,Calls.callWith_builtin rfl (PySem.evalArgs_none (hm pins s1 σ H1 x [] v [] Q I1 r1 .nil q1))⟩
theorem a6k(pa:PlainAttrs T)(slot:Slot T name id) (hty:typeOf (.builtin id)=pure (.type "method_descriptor")) (hm:MtR X id r) (ho:PE X o to) (ha:PA X (e :: es) t)
  (hbase:attributeBase o name X.env (eval o X.env)=eval o X.env:=by rfl)
  (hfew:((backTo cpos (starEach (e :: es) X.env)).all (fun x=>!x.1) && (backToKw cpos (keywordEach [] X.env)).all (fun x=>x.1.isSome)
   && decide ((e :: es).length + ([]:List Keyword).length + (if ([]:List Keyword).isEmpty then 0 else 1) < 30))=true:=by rfl)
  (hline:(apos.endLine == cpos.line)=true:=by rfl) (hs:starEach (e :: es) X.env=(false,eval e X.env) :: starEach es X.env:=by rfl) (hplain:(backTo cpos (starEach es X.env)).any (·.1)=false:=by rfl) :
  PE X (.Call (.Attribute o name apos) (e :: es) [] cpos) (tBM X.K T r to t):=by
 intro pins s σ H Q I h
 refine wpAny_Call_method_late hbase hfew hline rfl (thn (ho pins s σ H _ I h) fun v s1 hq9=>?_)
 obtain⟨x,H1,I1,r1,ty,q1⟩:=hq9
 obtain⟨h1,h2⟩:=c7o I1 r1 ty
 refine⟨T,id,pa,slot,hty,h1,h2,?_⟩
 have hA:=ha cpos pins s1 σ H1 _ I1 q1
 rw [hs] at hA ⊢
 refine Calls.callWith_builtin (by show(false || (backTo cpos (starEach es X.env)).any (·.1))=false;rw [hplain]<;>rfl) (Calls.evalArgs_plain ?_)
 exact thn hA fun us s2 hq8=>by obtain⟨vs,H2,I2,r2,q2⟩:=hq8;exact hm pins s2 σ H2 x vs v us Q I2 r1 r2 q2
end
end L2
namespace L2
open PySem PySem.Spec PyProof.Rows
def MtM(X:Cx)(id:String)(r:V->List V->Hp->VK->Prop):Prop:=
 ∀ (pins:List (Addr × Obj)) (s:Shared) (σ:St) (H:Hp) (x:V) (xs:List V) (v:Value) (us:List Value) (Q:VK),Inv X pins σ H s->RelV x v->Vals xs us->r x xs H Q ->
  wpAny (model X.prog X.w) X.A (call (.builtin id) (v :: us)) (EP X pins σ Q) X.xe s
theorem Vals.one:∀ {x:V} {us:List Value},Vals [x] us->∃ u,us=[u]/\RelV x u
 | _,_,.cons r .nil=>⟨_,rfl,r⟩
theorem Vals.two:∀ {x y:V} {us:List Value},Vals [x,y] us->∃ u v,us=[u,v]/\RelV x u/\RelV y v
 | _,_,_,.cons r (.cons q .nil)=>⟨_,_,rfl,r,q⟩
theorem Vals.zero:∀ {us:List Value},Vals [] us->us=[]
 | _,.nil=>rfl
theorem Vals.reverse{xs:List V}{us:List Value}(h:Vals xs us):Vals xs.reverse us.reverse:=by
 induction h with
 | nil=>exact .nil
 | cons r t ih=>rw [reverse_cons,reverse_cons];exact Vals.append ih (.cons r .nil)
theorem Vals.rep{xs:List V}{us:List Value}(h:Vals xs us):∀ k:Nat,Vals (List.replicate k xs).flatten (List.replicate k us).flatten
 | 0=>.nil
 | k + 1=>by
  rw [replicate_succ,replicate_succ,flatten_cons,flatten_cons]
  exact Vals.append h (Vals.rep h k)
theorem foldl_rep(its:List Value):∀ (k:Nat) (acc:List Value),
  List.foldl (fun x1 x2=>x1 ++ x2) acc.toArray (List.replicate k its.toArray)=(acc ++ (List.replicate k its).flatten).toArray
 | 0,acc=>by simp
 | k + 1,acc=>by
  have e:acc.toArray ++ its.toArray=(acc ++ its).toArray:=by simp
  have e2:(acc ++ its) ++ (List.replicate k its).flatten=acc ++ (List.replicate (k + 1) its).flatten:=by
   rw [replicate_succ,flatten_cons,append_assoc]
  rw [← e2,← foldl_rep its k (acc ++ its),← e,replicate_succ,List.foldl_cons]
section
variable{X:Cx}{pins:List (Addr × Obj)}{σ:St}{H:Hp}{s:Shared}{l b:Addr}{xs ys zs:List V}
theorem Inv.lset{its its':List Value}{n:Nat}{f:Array Value->Array Value}{t':Nat}(I:Inv X pins σ H s)(hH:H l=some (.lst xs))
  (e:s.heap.get? l=some { cls:=.type "list",data:=.seq its.toArray n }) (hf:f its.toArray=its'.toArray) (hv:Vals ys its') (hz:ys.length <= sizeLine) :
  Inv X pins σ (upd H l (.lst ys)) { s with heap:=s.heap.update l (Obj.mapSeq f),toks:=t' }:=by
 have q:=PySem.IsL.update e f
 rw [hf] at q
 refine I.write (x:=l) (e:=l) (by rw [hH];exact trivial) (.inl rfl) (fun b' u hb hu=>(Heap.get?_update_other s.heap (Obj.mapSeq f) (Ne.symm hb)).trans hu) ⟨_,q⟩ ?_
 exact⟨hz,its',_,hv,q⟩
theorem Inv.lnew{its:List Value}{t':Nat}(I:Inv X pins σ H s)(hv:Vals ys its)(hz:ys.length <= sizeLine) :
  Inv X pins σ (upd H s.heap.objs.size (.lst ys)) { s with heap:=s.heap.push { cls:=.type "list",data:=.seq its.toArray },toks:=t' }:=
 I.laid (fun _ _ q=>get?_push_of_some _ q) (le_refl _) ⟨hz,its,0,hv,get?_push_size _ rfl⟩
theorem Inv.fresh(I:Inv X pins σ H s):H s.heap.objs.size=none:=I.hok.fresh (le_refl _)
theorem Inv.lstM(I:Inv X pins σ H s)(hH:H l=some (.lst xs)):xs.length <= sizeLine/\∃ (its:List Value) (n:Nat),Vals xs its/\xs.length=its.length/\s.heap.get? l=some { cls:=.type "list",data:=.seq its.toArray n }:=by
 obtain⟨z,its,n,r,e⟩:=I.hok l _ hH
 exact⟨z,its,n,r,r.length,e⟩
theorem d0u{n:Nat}(h:n <= sizeLine):Builtin.List.listTooLong n=false:=by
 unfold Builtin.List.listTooLong
 exact decide_eq_false (by omega)
end
section
variable{X:Cx}
noncomputable def c3h:V->List V->Hp->VK->Prop:=fun x vs H Q=>∃ l xs y,x=.ref l/\vs=[y]/\H l=some (.lst xs)/\xs.length < sizeLine/\Q .non (upd H l (.lst (xs ++ [y])))
theorem a4f:MtM X "list.append" c3h:=by
 intro pins s σ H x vs v us Q I rx rv h
 obtain⟨l,xs,y,rfl,rfl,hH,hz,q⟩:=h
 cases rx
 obtain⟨u,rfl,ru⟩:=rv.one
 obtain⟨z,its,n,r,hl,e⟩:=I.lstM hH
 refine call_meets F.slot_list_append ⟨_,e,rfl⟩ F.entry_list_append (F.args_list_append_2 _ _) (PySem.list_append l its.toArray n u (by rw [size_toArray];omega)) ⟨e,?_⟩
 refine⟨.non,_,I.lset (its':=its ++ [u]) hH e (by simp) (r.append (.cons ru .nil)) ?_,rfl,q⟩
 rw [length_append,List.length_singleton]
 omega
noncomputable def c0b:V->List V->Hp->VK->Prop:=fun x vs H Q=>∃ l xs,x=.ref l/\vs=[]/\H l=some (.lst xs)/\Q .non (upd H l (.lst xs.reverse))
theorem c4y:MtM X "list.reverse" c0b:=by
 intro pins s σ H x vs v us Q I rx rv h
 obtain⟨l,xs,rfl,rfl,hH,q⟩:=h
 cases rx
 have hus:=rv.zero
 subst hus
 obtain⟨z,its,n,r,hl,e⟩:=I.lstM hH
 refine call_meets F.slot_list_reverse ⟨_,e,rfl⟩ F.entry_list_reverse (F.args_list_reverse_1 _) (AutoSeq1.list_reverse_list_0 l its.toArray n (by rw [size_toArray];omega)) ⟨e,?_⟩
 refine⟨.non,_,I.lset (its':=its.reverse) hH e (by simp) r.reverse ?_,rfl,q⟩
 rw [List.length_reverse]
 omega
def rCat:R2:=fun x y H Q=>∃ l b xs zs,x=.ref l/\y=.ref b/\H l=some (.lst xs)/\H b=some (.lst zs)/\xs.length + zs.length <= sizeLine/\∀ p,H p=none->Q (.ref p) (upd H p (.lst (xs ++ zs)))
theorem a7c:OpR X (binaryOp .Add) rCat:=by
 intro pins s σ H x y v u Q I rx ry h
 obtain⟨l,b,xs,zs,rfl,rfl,hH,hB,hz,q⟩:=h
 cases rx
 cases ry
 obtain⟨z,its,n,r,hl,e⟩:=I.lstM hH
 obtain⟨z2,its2,n2,r2,hl2,e2⟩:=I.lstM hB
 refine PySem.P.add_list e e2 ?_ (by rw [size_toArray,size_toArray];omega)
 have ea:its.toArray ++ its2.toArray=(its ++ its2).toArray:=by simp
 rw [ea]
 exact⟨.ref _,_,I.lnew (t':=s.toks) (r.append r2) (by rw [length_append];omega),rfl,q _ I.fresh⟩
def rRep:R2:=fun x y H Q=>∃ l k xs,x=.ref l/\y=.int k/\H l=some (.lst xs) /\ -(2 ^ 63) <= k/\k < 2 ^ 63/\xs.length * k.toNat <= sizeLine /\
 ∀ p,H p=none->Q (.ref p) (upd H p (.lst (List.replicate k.toNat xs).flatten))
theorem len_rep{α:Type}(xs:List α)(k:Nat):(List.replicate k xs).flatten.length=k * xs.length:=by
 induction k with
 | zero=>simp
 | succ k ih=>rw [replicate_succ,flatten_cons,length_append,ih,Nat.succ_mul,add_comm]
theorem e0r:OpR X (binaryOp .Mult) rRep:=by
 intro pins s σ H x y v u Q I rx ry h
 obtain⟨l,k,xs,rfl,rfl,hH,h1,h2,hz,q⟩:=h
 cases rx
 obtain⟨t,rfl⟩:=ry
 obtain⟨z,its,n,r,hl,e⟩:=I.lstM hH
 have hlen:its.toArray.size * k.toNat <= sizeLine:=by rw [size_toArray,← hl];exact hz
 have hcap:¬ its.toArray.size * k.toNat > (2 ^ 63 - 1) / 8:=by
  have:(sizeLine:Nat) <= (2 ^ 63 - 1) / 8:=by decide
  omega
 have hfit:¬ (!Builtin.List.listFitsIndex k)=true:=by
  rw [fitsIndex_both h1 h2]
  exact Bool.false_ne_true
 have hlong:¬ Builtin.List.listTooLong (its.toArray.size * k.toNat)=true:=by
  rw [d0u hlen]
  exact Bool.false_ne_true
 have hnew:List.foldl (fun x1 x2=>x1 ++ x2) #[] (List.replicate (if its.toArray.isEmpty=true then 0 else k.toNat) its.toArray)=(List.replicate k.toNat its).flatten.toArray:=by
  have f0:∀ m:Nat,List.foldl (fun x1 x2=>x1 ++ x2) #[] (List.replicate m its.toArray)=(List.replicate m its).flatten.toArray:=fun m=>by
   have:=foldl_rep its m []
   rw [nil_append] at this
   exact this
  rw [f0]
  cases its with
  | nil=>simp
  | cons a r'=>rw [if_neg (by simp)]
 refine wpAny_binaryOp_repeat_ref (T:="list") (U:="int") (by decide) ⟨_,e,rfl⟩ (fun s'=>typeIs_int s' k t) noFill_list_mul F.fills_int_mul F.slot_int_rmul repeat_list F.slot_int_index.lookup
  (call_meets F.slot_int_rmul (typeIs_int s k t) F.entry_int_rmul (F.args_int_rmul_2 _ _) (int___rmul___int_list k t l its.toArray n)
   ⟨e,rfl,⟨_,e,rfl⟩,call_meets F.slot_list_mul ⟨_,e,rfl⟩ F.entry_list_mul (F.args_list_mul_2 _ _) (AutoListH.list___mul___list_int_3 l its.toArray n k t hfit hcap hlong) ⟨e,?_⟩⟩)
 rw [hnew]
 exact⟨.ref _,_,I.lnew (t':=s.toks) (r.rep k.toNat) (by rw [len_rep,Nat.mul_comm];exact hz),rfl,q _ I.fresh⟩
end
section
variable{prog:Program}{w:World}{A:Around}{E:Value->Shared->Prop}{s:Shared}
set_option maxRecDepth 100000 in
end
section
variable{X:Cx}
end
end L2
namespace Att
open PySem PySem.W PySem.Calls PyProof.Rows
theorem b6f{P:Params}{h:Heap}:∀ (ns:List Int) (vs:List Value),WellAll P h vs (ns.map WData.int)->IntsAre vs ns:=by
 intro ns
 induction ns with
 | nil =>
  intro vs w
  rw [map_nil] at w
  cases w
  exact .nil
 | cons n ns ih =>
  intro vs w
  rw [map_cons] at w
  cases w with
  | cons a b =>
   cases a
   exact .cons _ _ (ih _ b)
theorem c7p{l:OpenLaw}{n:Nat}(hn:l.most=some n){P:Params}{h:Heap}{args:List WData}{vals:List Value}
  (hpre:l.row.toRowW.claim.pre args=true) (hwl:WellAll P h vals args) :
  ∃ a vs ns,vals=[Value.ref a]/\args=[WData.list (ns.map WData.int)]/\h.get? a=some { cls:=.type "list",data:=.seq vs.toArray }/\IntsAre vs ns/\ns.length <= n:=by
 have hsh:WShape.hasAll [] args [.list .int]=true:=(pre_splitW hpre).1
 have hc:l.pre.holds [] { args:=args }=true:=(pre_splitW hpre).2
 obtain⟨d,r,rfl,h1,h2⟩:=hasAllW_cons hsh
 obtain rfl:=hasAllW_nil h2
 obtain⟨xs,rfl,h3⟩:=hasW_list h1
 obtain⟨ns,rfl⟩:=items_int h3
 have hlen:ns.length <= n:=by
  unfold OpenLaw.pre at hc
  have h4:(WTm.not (.lt (.lit (.int (n:Int))) (.len (.arg 0)))).holds [] { args:=[.list (ns.map .int)] }=true:=by
   have h4:=(holds_andW hc).1
   rw [hn] at h4
   exact h4
  have h5:=condW_of h4 (w_not (w_lt w_lit (w_len_list (w_arg rfl))))
  rw [length_map] at h5
  refine Nat.le_of_not_lt fun q=>?_
  have q':(n:Int) < ((ns.length:Nat):Int):=by omega
  first
   | (rw [decide_eq_true q'] at h5;exact absurd h5 (by decide))
   | (simp at h5;omega)
 cases hwl with
 | cons w1 w2 =>
  cases w2
  cases w1 with
  | list ho hall=>exact⟨_,_,ns,rfl,rfl,ho,b6f ns _ hall,hlen⟩
theorem c7q(l:OpenLaw)(args:List WData):l.row.toRowW.claim.post args (.bool true) args=true:=
 postW_of (r:=l.row.toRowW) (X:=(true == true))
  (show WShape.has [] (.bool true) .bool=true by first | rfl | decide | simp [WShape.has,WShape.arms,WShape.armsAll])
  (show(WTm.eq .res (.lit (.bool true))).value [] { args:=args,res:=some (.bool true),after:=args }=some (.bool (true == true)) from w_eq_bool (w_res rfl) w_lit) rfl
theorem attach_call{l:OpenLaw}{n:Nat}{q:Program}{loose:List Str}{XP:(Str->Option Value)->Heap->Prop}{YP:World->Heap->Prop}{d:DefRec}
  (hn:l.most=some n) (hdf:d.params.defaults=[])
  (call:∀ (w:World) (s₀ s₁:Shared) (mg mb:Str->Option Value) (fa:Addr) (o:Obj) (pm cd doc:Value) (a:Addr) (vs:List Value) (ns:List Int),
   Ground q loose [] XP w s₀ mg mb s₁.heap->YP w s₁.heap ->
   s₁.heap.get? fa=some o->o.data=.func (docDef d.name d.params d.body d.scope pm cd doc)->s₁.heap.CodeRec cd d.name->mg d.name=some (.ref fa) ->
   s₁.heap.get? a=some { cls:=.type "list",data:=.seq vs.toArray }->IntsAre vs ns->ns.length <= n->s₁.gens = #[] ->
   codeAny (model l.prog w) callerA (.call (.ref fa) ⟨[.ref a],[]⟩) (fun r s'=>r=.ok (.ret (.bool true))/\OldK s₁.heap s'.heap/\s'.os=s₁.os/\AllBare s'.gens) s₁) :
  WalkO q loose XP YP l.row.toRowW d [] (fun f vs=>PySem.call f vs):=by
 intro w s₀ s₁ mg mb G Y fa o pm cd doc dV kV ho hd hcd hD hmg hg args vals as hpre hlay hrd hwl hlo
 obtain rfl:dV=.none:=Dflts.none hD hdf
 obtain rfl:kV=.none:=Dflts.noKw hD
 obtain⟨a,vs,ns,rfl,rfl,hobj,hints,hlen⟩:=c7p hn hpre hwl
 refine enter_call (codeAny_mono (call w s₀ s₁ mg mb fa o pm cd doc a vs ns G Y ho (fd_plain hd) hcd hmg hobj hints hlen hg) fun r s' hq=>?_)
 obtain⟨rfl,h2,h3,h4⟩:=hq
 exact⟨.inl ⟨.bool true,.bool true,[],rfl,fun _=>rfl,.bool true,c7q l _,fun _=>⟨List.Pairwise.nil,fun _ hm=>(nomatch hm)⟩⟩,h2,h3,h4⟩
section
variable{prog:Program}{w:World}{A:Around}{E:Value->Shared->Prop}{s:Shared}{K:Frag}
end
end Att
namespace L2
open PySem PySem.Spec PyProof.Rows
theorem b8l:∀ {vs:List Value} {ns:List Int},IntsAre vs ns->Vals (ns.map V.int) vs
 | _,_,.nil=>.nil
 | _,_,.cons n t h=>.cons ⟨t,rfl⟩ (b8l h)
end L2
namespace L2
open PySem PySem.Spec PyProof.Rows
end L2
namespace L2
open PySem PySem.Spec PyProof.Rows
noncomputable def inClass(s:Stmt)(j:Nat):Stmt:=match s with
 | .ClassDef _ _ _ body _ _ _ _ _ _ _=>body.getD j (.Pass ⟨0,0,0,0⟩)
 | _=>.Pass ⟨0,0,0,0⟩
noncomputable def a1t(s:Stmt):Arguments:=match s with
 | .FunctionDef _ a _ _ _ _ _ _ _ _=>a
 | _=>{ posonlyargs:=[],args:=[],vararg:=none,kwonlyargs:=[],kw_defaults:=[],kwarg:=none,defaults:=[] }
noncomputable def a1o(s:Stmt):List Stmt:=match s with
 | .FunctionDef _ _ b _ _ _ _ _ _ _=>b
 | _=>[]
noncomputable def a0h(s:Stmt):Scope:=match s with
 | .FunctionDef _ _ _ _ _ _ sc _ _ _=>sc
 | _=>{ kind:=.function,names:=[],isGenerator:=false,isCoroutine:=false }
abbrev CX0:CXT:=fun _ _ _ _ _ _=>False
abbrev E0:XK:=fun _ _ _=>False
theorem a2x{X:Cx}:a4z CX0 X E0:=fun _ _ _ _ _ _ _ h=>h.elim
structure Fun(K:W.Frag)(x qual:Str)(st:Stmt)(f:Addr)(fd:FuncData):Prop where
 ex:∃ (oc:Value) (od:Option Addr) (kV doc pm:Value) (an:Option Addr) (cdv ct:Value) (osl:Array (Option Value)),
  fd=PySem.W.fnOf x qual (a1t st) (a1o st) (a0h st) .none kV doc pm an cdv ct/\K.lookup f=some ⟨oc,od,.func fd,osl⟩/\PySem.W.codeIn K cdv qual=true
 kp:PySem.W.keepIn K (.ref f)=true
section
variable{P:Program}{w:World}{K:W.Frag}{mg:Str->Option Value}{base:Heap}
theorem Fun.ok{x qual:Str}{st:Stmt}{f:Addr}{fd:FuncData}{N ps:List Str}{k:Nat}{sp:Sp}(F:Fun K x qual st f fd)(S:FnScope N ps (a0h st))(len:∀ vs H Q E,sp vs H Q E->vs.length=ps.length)
  (hbody:∀ (cdv:Value) (A:Around) (outer:List Env) (s:Shared) (H:Hp) (vs:List V) (Q:VK) (E:XK),Room k (A.deeper (envOfC qual (a0h st) s.heap.objs.size f cdv))->sp vs H Q E ->
   ∃ t,PSs (cxOf CX0 P w K mg base N qual (a0h st) f cdv A outer s H E).nox (a1o st) t/\t { nx:=fun _ H'=>Q .non H',rt:=Q } (start N vs) H):FnOk P w K mg base CX0 (k + 1) f fd ps sp:=by
 obtain⟨oc,od,kV,doc,pm,an,cdv,ct,osl,rfl,lk,hcd⟩:=F.ex
 refine d4d lk hcd S len fun A outer s H vs Q E hr hsp=>?_
 obtain⟨t,h,q⟩:=hbody cdv A outer s H vs Q E hr hsp
 exact⟨t,h.nox,q⟩
theorem Fun.binds{x qual:Str}{st:Stmt}{f:Addr}{fd:FuncData}{ps:List Str}(F:Fun K x qual st f fd)
  (h:∀ (kV doc pm:Value) (an:Option Addr) (cdv ct:Value) (us:List Value),us.length=ps.length->bindArgs (PySem.W.fnOf x qual (a1t st) (a1o st) (a0h st) .none kV doc pm an cdv ct) ⟨us,[]⟩=pure (ps.zip us)):Binds K fd ps []:=by
 obtain⟨oc,od,kV,doc,pm,an,cdv,ct,osl,rfl,lk,hcd⟩:=F.ex
 exact .all (h kV doc pm an cdv ct)
theorem a2a{x qual:Str}{st:Stmt}{f:Addr}{oc:Value}{od an:Option Addr}{osl:Array (Option Value)}{kV doc pm cdv ct:Value}(l:K.lookup f=some ⟨oc,od,.func (PySem.W.fnOf x qual (a1t st) (a1o st) (a0h st) .none kV doc pm an cdv ct),osl⟩)
  (c:PySem.W.codeIn K cdv qual=true) (k:PySem.W.keepIn K (.ref f)=true):Fun K x qual st f (PySem.W.fnOf x qual (a1t st) (a1o st) (a0h st) .none kV doc pm an cdv ct):=⟨⟨oc,od,kV,doc,pm,an,cdv,ct,osl,rfl,l,c⟩,k⟩
end
section
variable{X:Cx}
theorem pv(i:Nat){x:Str}{pos:Pos}(hN:X.N[i]? = some x:=by rfl)(hv:Vis X.env.scope x:=by first | exact Or.inl rfl | exact Or.inr (Or.inl rfl) | exact Or.inr (Or.inr rfl)) (hd:(x == ("__debug__" : Str))=false:=by decide)
  (hcd:(x == ("__classdict__" : Str))=false:=by decide):PE X (.Name x pos) (tVar i):=b0u hN hv hd hcd
end
theorem iteF{A B:Prop}(h:B):if false=true then A else B:=by
 rw [if_neg Bool.false_ne_true]
 exact h
theorem iteT{A B:Prop}(h:A):if true=true then A else B:=by
 rw [if_pos rfl]
 exact h
theorem ite2{c A B:Prop}[Decidable c](h1:c->A)(h2:¬ c->B):if c then A else B:=by
 by_cases h:c
 ·rw [if_pos h]
  exact h1 h
 ·rw [if_neg h]
  exact h2 h
def Same(H H':Hp):Prop:=∀ b o,H b=some o->H' b=some o
theorem Same.refl(H:Hp):Same H H:=fun _ _ h=>h
theorem Same.trans{H H1 H2:Hp}(a:Same H H1)(b:Same H1 H2):Same H H2:=fun c o h=>b c o (a c o h)
theorem Same.free{H H':Hp}(e:Same H H'){l:Addr}(h:H' l=Option.none):H l=Option.none:=by
 cases q:H l with
 | none=>rfl
 | some o =>
  rw [e l o q] at h
  cases h
end L2
end
section
namespace Sx
open PySem
abbrev Up(xs:Array Nat):Prop:=∀ i k:Nat,i < k->∀ hk:k < xs.size,∀ hi:i < xs.size,xs[i] < xs[k]
structure Bel(xs:Array Nat)(j r:Nat):Prop where
 le:r <= xs.size
 lo:∀ i,i < r->∀ h:i < xs.size,xs[i] < j
 hi:∀ i,r <= i->∀ h:i < xs.size,j <= xs[i]
abbrev UpL(xs:List Nat):Prop:=xs.Pairwise (· < ·)
structure TOk(t:SetTable):Prop where
 none:t.dummies = #[]
 up:UpL t.place.toList
end Sx
end
section
namespace Sx
open PySem
section
variable{prog:Program}{w:World}{K:Type}[DecidableEq K](knd:KeyKind prog w K)(dec:Value->K)
structure Fc(ks:List K)(es:Array (Int × Value))(t:SetTable):Prop where
 el:ElemsOf knd es.toList
 pm:(es.toList.map fun e=>dec e.2).Perm ks
 nd:ks.Nodup
 sz:es.size < scanBound
 ft:t.fits es.size=true
 ok:TOk t
 ld:t.led = !w.params.followText "set-order"
abbrev setO(es:Array (Int × Value))(ep:Nat)(t:SetTable):Obj:={ cls:=.type "set",dict:=none,data:=.set es ep t,slots:=#[] }
def SetV(h:Heap)(a:Addr)(ks:List K):Prop:=∃ es ep t,h.get? a=some (setO es ep t)/\Fc knd dec ks es t
noncomputable def ins(ks:List K)(k:K):List K:=if k ∈ ks then ks else ks ++ [k]
variable{knd dec}
variable{A:Around}{E:Value->Shared->Prop}{s:Shared}
end
end Sx
end
section
namespace Sx
open PySem
section
variable{K:Type}[DecidableEq K]
noncomputable def uniq(ks:List K):List K:=ks.foldl ins []
end
section
variable{prog:Program}{w:World}{K:Type}[DecidableEq K]{knd:KeyKind prog w K}{dec:Value->K}{A:Around}{R:Result->Shared->Prop}{I:Addr}{fp wr:List Addr}{G:Array GenState->Array GenState->Prop}{St:Nat->Shared->Prop}{items:Array Value}{ks:List K}
end
section
variable{prog:Program}{w:World}{A:Around}{E:Value->Shared->Prop}{s:Shared}
end
end Sx
end
section
namespace Sx
open PySem
section
variable{M:Model}{A:Around}{E:Value->Shared->Prop}{s:Shared}
end
section
variable{prog:Program}{w:World}{A:Around}{E:Value->Shared->Prop}{s:Shared}{I S:Addr}{es:Array (Int × Value)}{ep i n:Nat}{t:SetTable}{first:Value}
end
end Sx
end
section
namespace Sx
open PySem
section
variable{prog:Program}{w:World}{A:Around}{I S:Addr}{es:Array (Int × Value)}{ep:Nat}{t:SetTable}
end
section
variable{prog:Program}{w:World}{A:Around}{E:Value->Shared->Prop}{s:Shared}{S:Addr}{es:Array (Int × Value)}{ep:Nat}{t:SetTable}
end
end Sx
end
section
namespace Sx
open PySem
section
variable{prog:Program}{w:World}{A:Around}{E:Value->Shared->Prop}{s:Shared}{S:Addr}{es:Array (Int × Value)}{ep:Nat}{t:SetTable}
end
end Sx
end
section
namespace L2
open PySem PySem.Spec PyProof.Rows
noncomputable def clOf(env:Env):List (Str × NameKind)->List (Str × Addr)->List (Str × Addr)
 | [],acc=>acc
 | (n,k) :: r,acc=>if k == .free then clOf env r ((n,(env.cells.lookup n).getD 0) :: acc) else clOf env r acc
theorem b1z(env:Env)(f:Str × NameKind->List (Str × Addr)->Sem (ForInStep (List (Str × Addr)))) :
  ∀ (names:List (Str × NameKind)) (acc:List (Str × Addr)),
   (∀ y ∈ names,∀ c,f y c=if (y.2 == .free)=true then pure (.yield ((y.1,(env.cells.lookup y.1).getD 0) :: c)) else pure (.yield c)) ->
   (forIn names acc f:Sem _)=pure (clOf env names acc)
 | [],acc,_=>by rw [List.forIn_nil];rfl
 | (n,k) :: r,acc,h=>by
  rw [List.forIn_cons,h (n,k) mem_cons_self]
  have hr:∀ y ∈ r,∀ c,f y c=if (y.2 == .free)=true then pure (.yield ((y.1,(env.cells.lookup y.1).getD 0) :: c)) else pure (.yield c):=fun y hy=>h y (mem_cons_of_mem _ hy)
  unfold clOf
  by_cases hk:(k == NameKind.free)=true
  ·rw [if_pos hk,if_pos hk,← b1z env f r _ hr]
   all_goals rfl
  ·rw [if_neg hk,if_neg hk,← b1z env f r _ hr]
   all_goals rfl
theorem a8s{env:Env}{scope:Scope}(h:∀ y ∈ scope.names,y.2=.free->∃ c,env.cells.lookup y.1=some c) :
  closureFor scope env=pure (clOf env scope.names []):=by
 simp only [closureFor]
 rw [b1z env _ scope.names [] (fun y hy c=>by
  obtain⟨n,k⟩:=y
  by_cases hk:k=.free
  ·subst hk
   obtain⟨a,ha⟩:=h (n,.free) hy rfl
   have e:cellOf env n=pure a:=by unfold cellOf;rw [ha]
   simp only [beq_self_eq_true,if_true,e,ha,Option.getD_some]
   rfl
  ·have hb:(k == NameKind.free)=false:=by simpa using hk
   simp only [hb,Bool.false_eq_true,if_false])]
 rfl
theorem a7q(env:Env):∀ (names:List (Str × NameKind)) (acc:List (Str × Addr)),clOf env names acc=clOf env names [] ++ acc
 | [],acc=>rfl
 | (n,k) :: r,acc=>by
  unfold clOf
  split
  ·rw [a7q env r,a7q env r [_],append_assoc];rfl
  ·exact a7q env r acc
theorem a5p{env:Env}:∀ {names:List (Str × NameKind)} {x:Str} {c:Addr},(x,c) ∈ clOf env names []->(x,NameKind.free) ∈ names/\c=(env.cells.lookup x).getD 0
 | [],x,c,h=>by cases h
 | (n,k) :: r,x,c,h=>by
  unfold clOf at h
  split at h
  ·rename_i hk
   rw [a7q] at h
   rcases mem_append.mp h with h | h
   ·exact⟨mem_cons_of_mem _ (a5p h).1,(a5p h).2⟩
   ·have e:(x,c)=(n,(env.cells.lookup n).getD 0):=by simpa using h
    have hk':k=.free:=by simpa using hk
    cases e
    exact⟨by rw [hk'];exact mem_cons_self,rfl⟩
  ·exact⟨mem_cons_of_mem _ (a5p h).1,(a5p h).2⟩
theorem b4e{env:Env}:∀ {names:List (Str × NameKind)} {x:Str},(x,NameKind.free) ∈ names->(x,(env.cells.lookup x).getD 0) ∈ clOf env names []
 | [],x,h=>by cases h
 | (n,k) :: r,x,h=>by
  unfold clOf
  rcases mem_cons.mp h with e | h
  ·cases e
   rw [if_pos (by rfl),a7q]
   exact mem_append_right _ (by simp)
  ·split
   ·rw [a7q];exact mem_append_left _ (b4e h)
   ·exact b4e h
theorem a5a:∀ (names:List (Str × NameKind)) (n:Nat) (acc:List (Str × Addr)),cellsFrom n names acc=cellsFrom n names [] ++ acc
 | [],_,acc=>rfl
 | (x,k) :: r,n,acc=>by
  unfold cellsFrom
  split
  ·rw [a5a r,a5a r _ [_],append_assoc];rfl
  ·exact a5a r n acc
theorem a2u:∀ {names:List (Str × NameKind)} {n:Nat} {x:Str} {c:Addr},(x,c) ∈ cellsFrom n names []->(x,NameKind.cell) ∈ names/\n <= c
 | [],n,x,c,h=>by cases h
 | (y,k) :: r,n,x,c,h=>by
  unfold cellsFrom at h
  split at h
  ·rename_i hk
   rw [a5a] at h
   rcases mem_append.mp h with h | h
   ·have q:=a2u h
    exact⟨mem_cons_of_mem _ q.1,by omega⟩
   ·have e:(x,c)=(y,n):=by simpa using h
    have hk':k=.cell:=by simpa using hk
    cases e
    exact⟨by rw [hk'];exact mem_cons_self,le_refl _⟩
  ·have q:=a2u h
   exact⟨mem_cons_of_mem _ q.1,q.2⟩
theorem a7r{α:Type}(x:Str):∀ (a b:List (Str × α)),(a ++ b).lookup x=(a.lookup x).or (b.lookup x)
 | [],b=>by simp
 | (k,v) :: r,b=>by
  rw [List.cons_append,lookup_cons,lookup_cons]
  cases x == k with
  | true=>rfl
  | false=>exact a7r x r b
theorem lookup_mem{α:Type}:∀ {l:List (Str × α)} {x:Str} {v:α},(x,v) ∈ l->∃ u,l.lookup x=some u
 | (k,w) :: r,x,v,h=>by
  rw [lookup_cons]
  cases e:x == k with
  | true=>exact⟨w,rfl⟩
  | false =>
   rcases mem_cons.mp h with q | q
   ·cases q;simp at e
   ·exact lookup_mem q
theorem a5q{α:Type}:∀ {l:List (Str × α)} {x:Str} {v:α},(l.map (·.1)).Nodup->(x,v) ∈ l->l.lookup x=some v
 | (k,w) :: r,x,v,hn,h=>by
  rw [lookup_cons]
  rw [map_cons,nodup_cons] at hn
  rcases mem_cons.mp h with q | q
  ·cases q;simp
  ·have:(x == k)=false:=by
    refine beq_eq_false_iff_ne.mpr ?_
    rintro rfl
    exact hn.1 (mem_map.mpr ⟨(x,v),q,rfl⟩)
   rw [this]
   exact a5q hn.2 q
theorem b0z(env:Env)(x:Str):∀ (names:List (Str × NameKind)),
  (names.map fun(n,k)=>if (k == NameKind.free && env.scope.kind == .function && env.kindOf n == some .cell) then(n,NameKind.cell) else(n,k)).lookup x =
   (names.lookup x).map fun k=>if (k == NameKind.free && env.scope.kind == .function && env.kindOf x == some .cell) then NameKind.cell else k
 | []=>rfl
 | (n,k) :: r=>by
  rw [map_cons,lookup_cons]
  cases hx:x == n with
  | true =>
   have e:x=n:=by simpa using hx
   subst e
   by_cases hc:(k == NameKind.free && env.scope.kind == .function && env.kindOf x == some .cell)=true
   ·simp only [if_pos hc,lookup_cons,hx,map_some]
   ·simp only [if_neg hc,lookup_cons,hx,map_some]
  | false =>
   have ih:=b0z env x r
   by_cases hc:(k == NameKind.free && env.scope.kind == .function && env.kindOf n == some .cell)=true
   ·simp only [if_pos hc,lookup_cons,hx];exact ih
   ·simp only [if_neg hc,lookup_cons,hx];exact ih
theorem c2k{M:Model}{A:Around}{E:Value->Shared->Prop}{s:Shared}{scope:Scope}{globals:Addr}{cl:List (Str × Addr)}{qual:Str}{outer:Env}{Q:Env->Shared->Prop}
  (hQ:Q (newEnv scope s.heap.objs.size globals (cellsFrom (s.heap.objs.size + 1) scope.names cl) qual none .none (some outer) builtinsNs)
    { s with heap:=pushCells (s.heap.push { cls:=.type "dict",data:=.dict #[] }) scope.names }) :
  wpAny M A (newFunctionEnv scope globals cl [] qual none .none (some outer)) Q E s:=by
 simp only [newFunctionEnv,Option.isSome_some,if_true]
 refine wpAny_bind (wpAny_alloc ?_)
 refine wpAny_bind (wpAny_layCells _ (fun name kind cells=>by cases hkc:kind == NameKind.cell<;>simp [hkc]) _ _ _ _ ?_)
 rw [show({ s with heap:=s.heap.push { cls:=.type "dict",data:=.dict #[] } }:Shared).heap.objs.size=s.heap.objs.size + 1 from size_push ..]
 rw [List.forIn_nil]
 exact wpAny_bind (wpAny_pure (wpAny_pure hQ))
section
variable{prog:Program}{w:World}{A:Around}{R:Result->Shared->Prop}{s:Shared}
theorem c2l{elt target iter:Expr}{ifs:List Expr}{scope:Scope}{pos:Pos}{it acc:Value}{env:Env}(I:Nat->Shared->Prop)
  (turn:∀ n s,I n s->wpAny (model prog w) A (pyNext it) (fun r s₁=>match r with
   | none=>R (.ok .next) s₁
   | some v=>wpAny (model prog w) A (letOwnedTupleGo target it v) (fun _ s₂'=>wpAny (model prog w) A (assign target env v) (fun _ s₂ =>
     wpAny (model prog w) A (forIn ifs true fun c r=>if r=true then do let ok ← isTrue c env (eval c env);pure (ForInStep.yield ok) else pure (ForInStep.yield r)) (fun ok s₃ =>
      if ok=true then wpAny (model prog w) A (eval elt env) (fun x s₄ =>
       wpAny (model prog w) A (call (.builtin "list.append") [acc,x]) (fun _ s₅=>∃ m,m < n/\I m s₅) (notedBy (model prog w) A env fun e s'=>R (.error e) s') s₄) (notedBy (model prog w) A env fun e s'=>R (.error e) s') s₃
      else ∃ m,m < n/\I m s₃) (notedBy (model prog w) A env fun e s'=>R (.error e) s') s₂) (notedBy (model prog w) A env fun e s'=>R (.error e) s') s₂') (notedBy (model prog w) A env fun e s'=>R (.error e) s') s₁) (notedBy (model prog w) A env fun e s'=>R (.error e) s') s)
  (n:Nat) (h:I n s) :
  codeAny (model prog w) A (.compLoop (.ListComp elt [⟨target,iter,ifs,0⟩] scope pos) 0 it acc env) R s:=by
 refine codeAny_loop rfl I (fun n s hI=>?_) n h
 show wpAny _ A ((compTurn (.ListComp elt [⟨target,iter,ifs,0⟩] scope pos) 0 it acc env).onRaise (fun x=>do noteFrame x env;theTreesLotGoes x)) _ _ s
 refine wpAny_noted ?_
 rw [compTurn_list]
 refine wpAny_bind (wpAny_standAt (wpAny_bind (wpAny_mono (turn n s hI) (fun r s₁ h₁=>?_) fun _ _ h'=>h')))
 cases r with
 | none=>exact wpAny_pure h₁
 | some v =>
  refine wpAny_bind (wpAny_mono h₁ (fun _ s₂' h₂'=>?_) fun _ _ h'=>h')
  refine wpAny_bind (wpAny_mono h₂' (fun _ s₂ h₂=>wpAny_bind (wpAny_mono h₂ (fun ok s₃ h₃=>?_) fun _ _ h'=>h')) fun _ _ h'=>h')
  cases ok with
  | false=>exact wpAny_pure ⟨rfl,h₃⟩
  | true =>
   exact wpAny_bind (wpAny_bind (wpAny_mono h₃ (fun x s₄ h₄=>wpAny_bind (wpAny_mono h₄ (fun _ s₅ h₅=>wpAny_pure (wpAny_pure ⟨rfl,h₅⟩)) fun _ _ h'=>h')) fun _ _ h'=>h'))
end
theorem nlt{a b:Nat}(h:b <= a):¬ a < b:=Nat.not_lt.mpr h
noncomputable def cxC(X:Cx)(scope:Scope)(own:List Str)(cap:List (Str × Nat))(fp:List Addr)(s2:Shared)(H2:Hp):Cx where
 prog:=X.prog
 w:=X.w
 K:=X.K
 mg:=X.mg
 base:=X.base
 A:=X.A
 N:=own ++ cap.map (·.1)
 s₀:=s2
 H₀:=H2
 env:={ scope:=relabel scope X.env,locals:=s2.heap.objs.size + 1,globals:=X.env.globals,cells:=cellsFrom (s2.heap.objs.size + 1 + 1) scope.names (clOf X.env scope.names []),qual:=X.env.qual,func:=none,code:=X.env.code,frame:=X.env.frame,builtins:=X.env.builtins }
 outer:=X.stack
 stack:=X.stack
 ex:=fp
 fn:=fun x=>scope.names.lookup x == some .cell
 calm:=X.calm
 pn:=[]
 xe:=fun _ _=>False
noncomputable def a8e(own:List Str)(cap:List (Str × Nat))(σ:St):St:=List.replicate own.length none ++ cap.map fun p=>(σ[p.2]?).join
noncomputable def a6l(X:Cx)(scope:Scope)(own:List Str)(cap:List (Str × Nat)):Bool:=
 scope.kind == .function && (scope.names.all fun y=>y.2 != .free || X.env.kindOf y.1 == some .cell || X.env.kindOf y.1 == some .free) &&
 (cap.all fun p=>X.N[p.2]? == some p.1 && scope.names.lookup p.1 == some .free) && (own.all fun x=>!((cap.map (·.1)).contains x))
section
variable{X:Cx}{pins:List (Addr × Obj)}{σ:St}{H2:Hp}{s2:Shared}{scope:Scope}{own:List Str}{cap:List (Str × Nat)}{fp:List Addr}
theorem b2a(h:a6l X scope own cap=true):scope.kind=.function:=by
 simp only [a6l,and_eq_true,beq_iff_eq] at h
 exact h.1.1.1
theorem b2b(h:a6l X scope own cap=true):∀ y ∈ scope.names,y.2=.free->X.env.kindOf y.1=some .cell ∨ X.env.kindOf y.1=some .free:=by
 simp only [a6l,and_eq_true,beq_iff_eq] at h
 intro y hy hf
 have q:=all_eq_true.mp h.1.1.2 y hy
 simp only [hf,bne_self_eq_false,Bool.false_or,or_eq_true,beq_iff_eq] at q
 exact q
theorem c7r(h:a6l X scope own cap=true):∀ p ∈ cap,X.N[p.2]? = some p.1/\scope.names.lookup p.1=some .free:=by
 simp only [a6l,and_eq_true,beq_iff_eq] at h
 intro p hp
 have q:=all_eq_true.mp h.1.2 p hp
 simp only [and_eq_true,beq_iff_eq] at q
 exact q
theorem d0v(I:Inv X pins σ H2 s2)(hok:a6l X scope own cap=true)(hnd:(scope.names.map (·.1)).Nodup)(hfp:∀ b ∈ fp,FpOk X pins H2 b)(hob:∀ b ∈ fp,∃ o,s2.heap.get? b=some o) :
  Inv (cxC X scope own cap fp s2 H2) [] (a8e own cap σ) (upd H2 s2.heap.objs.size (.lst []))
   { s2 with heap:=pushCells ((s2.heap.push { cls:=.type "list",dict:=none,data:=.seq ([]:List Value).toArray }).push { cls:=.type "dict",data:=.dict #[] }) scope.names }:=by
 have hkind:=b2a hok
 have hfree:=b2b hok
 have hcap:=c7r hok
 have hdf:H2 s2.heap.objs.size=none:=I.fresh
 generalize hh1:s2.heap.push { cls:=.type "list",dict:=none,data:=.seq ([]:List Value).toArray }=h1
 have z1:h1.objs.size=s2.heap.objs.size + 1:=by rw [← hh1,size_push]
 generalize hh2:h1.push { cls:=.type "dict",data:=.dict #[] }=h2
 have z2:h2.objs.size=s2.heap.objs.size + 1 + 1:=by rw [← hh2,size_push,z1]
 have k1:∀ b o,s2.heap.get? b=some o->h1.get? b=some o:=fun b o e=>by rw [← hh1];exact get?_push_of_some _ e
 have k2:∀ b o,h1.get? b=some o->h2.get? b=some o:=fun b o e=>by rw [← hh2];exact get?_push_of_some _ e
 have k3:∀ b o,h2.get? b=some o->(pushCells h2 scope.names).get? b=some o:=fun b o e=>pushCells_keeps _ _ b o e
 have k:∀ b o,s2.heap.get? b=some o->(pushCells h2 scope.names).get? b=some o:=fun b o e=>k3 b o (k2 b o (k1 b o e))
 have hD:(pushCells h2 scope.names).get? s2.heap.objs.size=some { cls:=.type "list",dict:=none,data:=.seq ([]:List Value).toArray }:=by
  refine k3 _ _ (k2 _ _ ?_)
  rw [← hh1];exact get?_push_size _ rfl
 have hC:(pushCells h2 scope.names).Ns (s2.heap.objs.size + 1) fun _=>none:=by
  have q:h2.Ns h1.objs.size fun _=>none:=by rw [← hh2];exact Heap.Ns.new h1 (.type "dict")
  rw [z1] at q
  exact q.keeps k3
 have own_ok:=cellsFrom_ok scope.names h2 (s2.heap.objs.size + 1 + 1) [] ⟨fun _ _ hm=>(nomatch hm),List.Pairwise.nil⟩ (by rw [z2];exact le_refl _)
 rw [z2] at own_ok
 have ec:(cxC X scope own cap fp s2 H2).env.cells=cellsFrom (s2.heap.objs.size + 1 + 1) scope.names [] ++ clOf X.env scope.names []:=a5a _ _ _
 -- an entry is a new cell, or one of the names around
 have split:∀ x c,(cxC X scope own cap fp s2 H2).env.cells.lookup x=some c->((x,c) ∈ cellsFrom (s2.heap.objs.size + 1 + 1) scope.names []) ∨ ((x,NameKind.free) ∈ scope.names/\X.env.cells.lookup x=some c):=fun x c e=>by
  rw [ec,a7r] at e
  cases e1:(cellsFrom (s2.heap.objs.size + 1 + 1) scope.names []).lookup x with
  | some c'=>rw [e1] at e;cases e;exact .inl (mem_of_lookup e1)
  | none =>
   rw [e1] at e
   have e':(clOf X.env scope.names []).lookup x=some c:=e
   obtain⟨m1,m2⟩:=a5p (mem_of_lookup e')
   obtain⟨c',hc'⟩:=I.ok.has x (hfree _ m1 rfl)
   rw [hc'] at m2
   exact .inr ⟨m1,by rw [hc',m2];rfl⟩
 have capCell:∀ x,(x,NameKind.free) ∈ scope.names->∀ c,X.env.cells.lookup x=some c->(cxC X scope own cap fp s2 H2).env.cells.lookup x=some c:=fun x hx c hc=>by
  rw [ec,a7r]
  cases e1:(cellsFrom (s2.heap.objs.size + 1 + 1) scope.names []).lookup x with
  | some c' =>
   have q:=(a2u (mem_of_lookup e1)).1
   have q1:=a5q hnd q
   have q2:=a5q hnd hx
   rw [q1] at q2;cases q2
  | none =>
   obtain⟨u,hu⟩:=lookup_mem (b4e (env:=X.env) hx)
   have m2:=(a5p (mem_of_lookup hu)).2
   rw [hc] at m2
   show(clOf X.env scope.names []).lookup x=some c
   rw [hu,m2];rfl
 have lt_of_around:∀ x c,X.env.cells.lookup x=some c->c < s2.heap.objs.size:=fun x c e=>by
  obtain⟨v,q⟩:=I.cell x c e
  exact q.lt
 have kof:∀ x,(cxC X scope own cap fp s2 H2).env.kindOf x=(scope.names.lookup x).map fun k=>if (k == NameKind.free && X.env.scope.kind == .function && X.env.kindOf x == some .cell) then NameKind.cell else k:=fun x=>b0z X.env x scope.names
 have fpLt:∀ b ∈ fp,b < s2.heap.objs.size:=fun b hb=>by obtain⟨o,e⟩:=hob b hb;exact lt_size e
 have hokH:HOk X.prog X.w (upd H2 s2.heap.objs.size (.lst [])) (pushCells h2 scope.names):=I.hok.laid k (le_refl _) ⟨zero_le _,[],_,.nil,hD⟩
 refine⟨⟨I.ok.mod,?_,I.ok.glob,I.ok.blt,le_succ _,fun x y c e1 e2=>?_,fun x hx=>?_,fun x c hf e=>?_,I.ok.hd,I.ok.frames,.inl rfl,fun b hb=>⟨?_,fun x c e=>?_⟩,I.bs,le_trans I.ok.bsz I.sz,fun b o e hb=>?_,fun b hb hb2=>?_,I.stack,I.stkFree⟩,
  rfl,I.bare,Un.laid k (le_refl _) hdf,⟨_,hC,fun i x v e1 e2 e3=>?_⟩,fun x c e=>?_,?_,fun x c e=>?_,fun p hp=>?_,hokH,?_⟩
 ·exact hkind
 ·rcases split x c e1 with m1 | ⟨m1,q1⟩<;>rcases split y c e2 with m2 | ⟨m2,q2⟩
  ·exact name_of_addr own_ok.apart m1 m2
  ·exact absurd (lt_of_around y c q2) (nlt (by have:=(a2u m1).2;omega))
  ·exact absurd (lt_of_around x c q1) (nlt (by have:=(a2u m2).2;omega))
  ·exact I.ok.inj x y c q1 q2
 ·rw [kof x] at hx
  cases e1:scope.names.lookup x with
  | none=>rw [e1] at hx;rcases hx with z | z<;>cases z
  | some kx =>
   have mx:=mem_of_lookup e1
   cases kx with
   | free =>
    obtain⟨c,hc⟩:=I.ok.has x (hfree _ mx rfl)
    exact⟨c,capCell x mx c hc⟩
   | cell =>
    have q:=PySem.W.cellsFrom_some scope.names (s2.heap.objs.size + 1 + 1) (clOf X.env scope.names []) (x:=x) (.inl e1)
    exact Option.isSome_iff_exists.mp q
   | _=>rw [e1] at hx;rcases hx with z | z<;>simp at z
 ·rcases split x c e with m1 | ⟨m1,q1⟩
  ·have:=(a2u m1).2;show s2.heap.objs.size <= c;omega
  ·have q2:=a5q hnd m1
   have hf':(scope.names.lookup x == some NameKind.cell)=true:=hf
   rw [q2] at hf';simp at hf'
 ·exact ne_of_lt (Nat.lt_succ_of_lt (fpLt b hb))
 ·have h1:=fpLt b hb
  rcases split x c e with m1 | ⟨m1,q1⟩
  ·exact ne_of_gt (lt_of_lt_of_le h1 (by have:=(a2u m1).2;omega))
  ·exact(hfp b hb).2.2.2.2.1 x c q1
 ·rcases (hfp b hb).2.2.2.1 with z | z
  ·exact I.ok.noex b o e z
  ·exact absurd (lt_of_lt_of_le (lt_size e) (le_trans I.ok.bsz z)) (lt_irrefl _)
 ·rcases mem_cons.mp (I.stkSub b hb2) with z | z
  ·exact(hfp b hb).2.1 z
  ·exact(hfp b hb).2.2.1 z
 ·-- names that are closed over
  have ei:own.length <= i:=by
   by_cases hi:i < own.length
   ·unfold a8e at e2
    rw [getElem?_append_left (by simpa using hi),List.getElem?_replicate,if_pos hi] at e2
    cases e2
   ·omega
  have e1':(cap.map (·.1))[i - own.length]? = some x:=by
   have:(own ++ cap.map (·.1))[i]? = some x:=e1
   rwa [getElem?_append_right ei] at this
  have e2':(cap.map fun p=>(σ[p.2]?).join)[i - own.length]? = some (some v):=by
   unfold a8e at e2
   rw [getElem?_append_right (by simpa using ei)] at e2
   simpa using e2
  rw [getElem?_map] at e1' e2'
  cases ep:cap[i - own.length]? with
  | none=>rw [ep] at e1';cases e1'
  | some p =>
   rw [ep] at e1' e2'
   have hx:p.1=x:=by simpa using e1'
   have hv:(σ[p.2]?).join=some v:=by simpa using e2'
   have hσ:σ[p.2]? = some (some v):=by
    cases eσ:σ[p.2]? with
    | none=>rw [eσ] at hv;cases hv
    | some w'=>rw [eσ] at hv;simp at hv;rw [hv]
   obtain⟨hN,hl⟩:=hcap p (mem_of_getElem? ep)
   rw [hx] at hN hl
   have mx:=mem_of_lookup hl
   have hvis:Vis X.env.scope x:=by
    rcases hfree _ mx rfl with z | z
    ·exact .inr (.inl z)
    ·exact .inr (.inr z)
   obtain⟨m,_,hl'⟩:=I.loc
   obtain⟨u,r,lk⟩:=hl' p.2 x v hN hσ hvis
   refine⟨u,r,.inr ?_⟩
   rcases lk with⟨z,_⟩ | ⟨z,c,hc,hcell⟩
   ·rcases hfree _ mx rfl with z' | z'<;>rw [z'] at z<;>cases z
   ·refine⟨?_,c,capCell x mx c hc,hcell.keeps k⟩
    rw [kof x,hl]
    by_cases hcc:(NameKind.free == NameKind.free && X.env.scope.kind == .function && X.env.kindOf x == some .cell)=true
    ·left;simp only [map_some,if_pos hcc]
    ·right;simp only [map_some,if_neg hcc]
 ·rcases split x c e with m1 | ⟨m1,q1⟩
  ·exact⟨_,(own_ok.empty x c m1).1⟩
  ·obtain⟨v,q⟩:=I.cell x c q1
   exact⟨v,q.keeps k⟩
 ·show upd H2 s2.heap.objs.size (.lst []) (s2.heap.objs.size + 1)=none
  rw [a0f (Nat.succ_ne_self _)]
  exact I.hok.fresh (le_succ _)
 ·rcases split x c e with m1 | ⟨m1,q1⟩
  ·have hle:=(a2u m1).2
   rw [a0f (ne_of_gt (lt_of_lt_of_le (Nat.lt_succ_self _) (by omega)))]
   exact I.hok.fresh (by omega)
  ·rw [a0f (ne_of_lt (lt_of_around x c q1))]
   exact I.freeC x c q1
 ·exact absurd (show p ∈ ([]:List (Addr × Obj)) from hp) (by simp)
 ·unfold a8e
  show _=(own ++ cap.map (·.1)).length
  simp
end
def PIf(X:Cx)(ifs:List Expr)(t:TT):Prop:=
 ∀ (pins:List (Addr × Obj)) (s:Shared) (σ:St) (H:Hp) (Q:Bool->Hp->Prop),Inv X pins σ H s->t σ H Q ->
  wpAny (model X.prog X.w) X.A (forIn ifs true fun c r=>if r=true then do let ok ← isTrue c X.env (eval c X.env);pure (ForInStep.yield ok) else pure (ForInStep.yield r)) (TP X pins σ Q) X.xe s
def tYes:TT:=fun _ H Q=>Q true H
theorem b4f{X:Cx}:PIf X [] tYes:=fun _ _ _ H _ I h=>wpAny_tests_nil ⟨H,I,h⟩
theorem d5r{X:Cx}{c:Expr}{t:TT}(h:PT X c t):PIf X [c] t:=fun pins s σ H Q I hq=>wpAny_tests_one (h pins s σ H Q I hq)
def b5h(own:List Str)(cap:List (Str × Nat))(g:TG)(tt:TT)(te:TE)(J:It)(D:Addr)(σ:St)(H1:Hp)(Z:Hp->Prop):Prop:=
 ∃ W:Nat->Nat->St->Hp->Prop,(∃ m,W 0 m (a8e own cap σ) (upd H1 D (.lst [])))/\∀ i m σ' H',W i m σ' H' ->
  (J.stop i H'/\Z H') ∨ (J.go i H'/\∃ N:St->Hp->Prop,(∀ σ'' H'',N σ'' H''->∃ m',m' < m/\W (i + 1) m' σ'' H'')/\∀ x H'',J.yld i H' x H'' ->
   g x σ' H'' fun σ2 H2=>tt σ2 H2 fun b H3=>if b=true then te σ2 H3 fun y H4=>∃ ys,H4 D=some (.lst ys)/\ys.length < sizeLine/\N σ2 (upd H4 D (.lst (ys ++ [y]))) else N σ2 H3)
def c4z(own:List Str)(cap:List (Str × Nat))(wi:TI)(g:TG)(tt:TT)(te:TE):TE:=fun σ H Q=>wi σ H fun J H1=>∀ D,H1 D=none->b5h own cap g tt te J D σ H1 (Q (.ref D))
theorem c0c{X:Cx}{elt tg iter:Expr}{ifs:List Expr}{scope:Scope}{pos:Pos}{own:List Str}{cap:List (Str × Nat)}{g:TG}{tt:TT}{te:TE}
  (hc:X.calm=true) (hok:a6l X scope own cap=true) (hnd:(scope.names.map (·.1)).Nodup)
  (hg:∀ fp s2 H2,PG (cxC X scope own cap fp s2 H2) tg g) (ht:∀ fp s2 H2,PIf (cxC X scope own cap fp s2 H2) ifs tt) (he:∀ fp s2 H2,PE (cxC X scope own cap fp s2 H2) elt te)
  {pins:List (Addr × Obj)} {σ:St} {H1:Hp} {s2:Shared} {it:Addr} {fp:List Addr} {tn:Nat->Heap->Prop} {J:It} {Z:Hp->Prop} {RR:Result->Shared->Prop}
  (I:Inv X pins σ H1 s2) (T:Turn X.prog X.w X.K tg J fp it tn) (h0:tn 0 s2.heap) (hfp:∀ b ∈ fp,FpOk X pins H1 b)
  (hb:b5h own cap g tt te J s2.heap.objs.size σ H1 Z)
  (hR:∀ s' H' m,(∀ h',Heap.SameBut (s2.heap.objs.size + 1) s'.heap h'->Inv X pins σ H' { s' with heap:=h' })->s'.heap.Ns (s2.heap.objs.size + 1) m->H' (s2.heap.objs.size + 1)=none->Z H'->RR (.ok .next) s') :
  wpAny (model X.prog X.w) X.A (newFunctionEnv scope X.env.globals (clOf X.env scope.names []) [] X.env.qual none .none (some X.env)) (fun cenv s₄ =>
   cenv.locals=s2.heap.objs.size + 1/\codeAny (model X.prog X.w) X.A (.compStart (.ListComp elt [⟨tg,iter,ifs,0⟩] scope pos) 0 (.ref it) (.ref s2.heap.objs.size) { cenv with scope:=relabel scope X.env }) RR s₄)
   X.xe { s2 with heap:=s2.heap.push { cls:=.type "list",dict:=none,data:=.seq ([]:List Value).toArray } }:=by
 have hob:∀ b ∈ fp,∃ o,s2.heap.get? b=some o:=fun b hb=>let ⟨o,e,_⟩:=T.obj _ _ h0 b hb;⟨o,e⟩
 have I0:=d0v (own:=own) (cap:=cap) I hok hnd hfp hob
 refine c2k ?_
 have z1:(s2.heap.push { cls:=.type "list",dict:=none,data:=.seq ([]:List Value).toArray }).objs.size=s2.heap.objs.size + 1:=size_push ..
 dsimp only
 rw [z1]
 refine⟨rfl,?_⟩
 show codeAny (model X.prog X.w) X.A (.compStart (.ListComp elt [⟨tg,iter,ifs,0⟩] scope pos) 0 (.ref it) (.ref s2.heap.objs.size) (cxC X scope own cap fp s2 H1).env) RR _
 generalize hs4:({ s2 with heap:=pushCells ((s2.heap.push { cls:=.type "list",dict:=none,data:=.seq ([]:List Value).toArray }).push { cls:=.type "dict",data:=.dict #[] }) scope.names }:Shared)=s4 at I0 ⊢
 have kp:∀ b o,s2.heap.get? b=some o->s4.heap.get? b=some o:=fun b o e=>by
  rw [← hs4];exact pushCells_keeps _ _ b o (get?_push_of_some _ (get?_push_of_some _ e))
 have st4:tn 0 s4.heap:=T.keep _ _ _ h0 fun b _ o e=>kp b o e
 obtain⟨W,⟨m0,w0⟩,turn⟩:=hb
 -- the iterator's records are the block's own
 have stat:∀ {H':Hp},(∀ b ∈ fp,H' b=none)->∀ b ∈ fp,FpOk (cxC X scope own cap fp s2 H1) [] H' b:=fun hn b hb =>
  ⟨hn b hb,(I0.ok.exf b hb).1,I0.ok.exfs b hb,.inl hb,fun x c e=>(I0.ok.exf b hb).2 x c e,fun p hp=>absurd (show p ∈ ([]:List (Addr × Obj)) from hp) (by simp)⟩
 have fr0:∀ b ∈ fp,upd H1 s2.heap.objs.size (.lst []) b=none:=fun b hb=>by
  obtain⟨o,e⟩:=hob b hb
  rw [a0f (ne_of_lt (lt_size e))]
  exact(hfp b hb).1
 have loop:codeAny (model X.prog X.w) X.A (.compLoop (.ListComp elt [⟨tg,iter,ifs,0⟩] scope pos) 0 (.ref it) (.ref s2.heap.objs.size) (cxC X scope own cap fp s2 H1).env) RR s4:=by
  refine c2l (fun n s'=>∃ i σ' H',Inv (cxC X scope own cap fp s2 H1) [] σ' H' s'/\tn i s'.heap/\(∀ b ∈ fp,H' b=none)/\W i n σ' H') ?_ m0 ⟨0,_,_,I0,st4,fr0,w0⟩
  rintro n s3 ⟨i,σ3,H3,I3,st3,fr3,w3⟩
  rcases turn i n σ3 H3 w3 with⟨stop,qn⟩ | ⟨go,N,hN,step⟩
  ·refine wpAny_noRaise (thn (T.done (cxC X scope own cap fp s2 H1) rfl rfl rfl hc i [] s3 σ3 H3 _ I3 (stat fr3) st3 stop) fun r s5 hq9=>?_)
   obtain⟨hr,I5⟩:=hq9
   subst hr
   obtain⟨m5,hm5,_⟩:=id I5.loc
   refine hR s5 H3 m5 (fun h' hs'=>?_) hm5 I5.free qn
   ·have un:Un (frs X.stack) fp H1 H3 s2.heap s5.heap:=I5.base
    have low:∀ b o,s2.heap.get? b=some o->b ≠ s2.heap.objs.size + 1:=fun b o e=>ne_of_lt (Nat.lt_succ_of_lt (lt_size e))
    refine I.call' (s':={ s5 with heap:=h' }) (ch:=fp) I5.os ⟨fun b o e n hb hx=>(hs'.2 b (low b o e)).trans (un.keep b o e n hb hx),fun b o e n hb hx=>?_,un.free,fun b o e hx=>?_,un.tups,un.frzs,un.tbls⟩ ?_ I5.bare fun b hb=>⟨(hfp b hb).2.2.2.1,(hfp b hb).2.1,(hfp b hb).2.2.2.2.1,(hfp b hb).2.2.2.2.2⟩
    ·obtain⟨sl,q⟩:=un.slot b o e n hb hx
     exact⟨sl,(hs'.2 b (low b o e)).trans q⟩
    ·obtain⟨o',q⟩:=un.there b o e hx
     exact⟨o',(hs'.2 b (low b o e)).trans q⟩
    ·intro b ob e
     refine(I5.hok b ob e).stay (fun c w' hc' q=>(hs'.2 c ?_).trans q) (fun _ q=>q) (fun _ _ q=>q) fun _ _ _ q=>q
     have nC:H3 (s2.heap.objs.size + 1)=none:=I5.free
     rintro rfl
     rcases hc' with rfl | hc'
     ·rw [nC] at e;cases e
     ·rw [nC] at hc';cases hc'
  ·refine wpAny_noRaise (thn (T.item (cxC X scope own cap fp s2 H1) rfl rfl rfl hc i [] s3 σ3 H3 (fun _ _=>False) I3 (stat fr3) st3 go) fun r s5 hq9=>?_)
   obtain⟨u,hr,h5⟩:=hq9
   subst hr
   refine wpAny_noRaise (thn h5 fun _ s6 hq9=>?_)
   obtain⟨x,H6,I6,r6,y6,st6,fr6⟩:=hq9
   have I6':=I6.pinned (stat fr6) (T.obj _ _ st6)
   refine wpAny_noRaise (thn (hg fp s2 H1 _ s6 σ3 H6 x u _ I6' r6 (step x H6 y6)) fun _ s7 hq9=>?_)
   obtain⟨σ7,H7,I7,q7⟩:=hq9
   refine wpAny_noRaise (thn (ht fp s2 H1 _ s7 σ7 H7 _ I7 q7) fun ok s8 hq9=>?_)
   obtain⟨H8,I8,q8⟩:=hq9
   have again:∀ {σ9:St} {H9:Hp} {s9:Shared},Inv (cxC X scope own cap fp s2 H1) ([] ++ b3a fp s6.heap) σ9 H9 s9->N σ9 H9->∃ m,m < n/\∃ i σ' H',Inv (cxC X scope own cap fp s2 H1) [] σ' H' s9/\tn i s9.heap/\(∀ b ∈ fp,H' b=none)/\W i m σ' H':=fun{σ9 H9 s9} I9 n9=>by
    obtain⟨m',hm,w9⟩:=hN σ9 H9 n9
    refine⟨m',hm,i + 1,σ9,H9,I9.unpinned,T.keep _ _ _ st6 fun b hb o e=>(I9.pin (b,o) (mem_append_right _ (mem_append_right _ (a8u hb e)))).1,fun b hb=>?_,w9⟩
    obtain⟨o,e,d⟩:=T.obj _ _ st6 b hb
    exact(I9.pin (b,o) (mem_append_right _ (mem_append_right _ (a8u hb e)))).2.1
   cases ok with
   | false=>exact again I8 q8
   | true =>
    rw [if_pos rfl] at q8
    rw [if_pos rfl]
    refine wpAny_noRaise (thn (he fp s2 H1 _ s8 σ7 H8 _ I8 q8) fun y s9 hq9=>?_)
    obtain⟨yv,H9,I9,r9,ys,hD,hz,q9⟩:=hq9
    refine wpAny_noRaise (thn (a4f _ s9 σ7 H9 (.ref s2.heap.objs.size) [yv] (.ref s2.heap.objs.size) [y] (fun _ H'=>N σ7 H') I9 rfl (.cons r9 .nil) ⟨_,ys,yv,rfl,rfl,hD,hz,q9⟩) fun _ s10 hq9=>?_)
    obtain⟨_,H10,I10,_,q10⟩:=hq9
    exact again I10 q10
 exact codeAny_compStart_list loop (T.self X.A 0 _ _ _ st4 loop)
theorem b5b{scope:Scope}(hnd:(scope.names.map (·.1)).Nodup):∀ x ∈ scope.names,x.2=.local->scope.names.lookup x.1=some .local:=fun x hx e=>by
 obtain⟨n,k⟩:=x
 have e':k=.local:=e
 subst e'
 exact a5q hnd hx
theorem b7k{X:Cx}{elt tg iter:Expr}{ifs:List Expr}{scope:Scope}{pos:Pos}{own:List Str}{cap:List (Str × Nat)}{wi:TI}{g:TG}{tt:TT}{te:TE}
  (hc:X.calm=true) (hok:a6l X scope own cap=true) (hnd:(scope.names.map (·.1)).Nodup) (hi:PI X tg iter wi)
  (hg:∀ fp s2 H2,PG (cxC X scope own cap fp s2 H2) tg g) (ht:∀ fp s2 H2,PIf (cxC X scope own cap fp s2 H2) ifs tt) (he:∀ fp s2 H2,PE (cxC X scope own cap fp s2 H2) elt te)
  (hs:∀ x,foldedSetIterable iter X.env x=pure x:=by intro _;rfl) :
  PE X (.ListComp elt [⟨tg,iter,ifs,0⟩] scope pos) (c4z own cap wi g tt te):=by
 intro pins s σ H Q I h
 have hkind:=b2a hok
 have hclos:closureFor scope X.env=pure (clOf X.env scope.names []):=a8s fun y hy hf=>I.ok.has y.1 (b2b hok y hy hf)
 rw [eval_ListComp]
 refine wpAny_comprehension_free (use:=none) rfl hs hclos hkind (b5b hnd) (thn (hi pins s σ H _ I h) fun xv s1 h1=>thn h1 fun itv s2 h2=>?_)
 obtain⟨it,fp,tn,J,H1,e,I2,T,st2,f2,hb⟩:=h2
 subst e
 refine wpAny_newObj_type (thn (c0c (iter:=iter) (pos:=pos) (RR:=compPost (model X.prog X.w) X.A X.xe none (EP X pins σ Q) (.ref s2.heap.objs.size) (s2.heap.objs.size + 1)) hc hok hnd hg ht he I2 T st2 f2 (hb _ I2.fresh) fun s' H' m hI hm hnC z=>?_) fun cenv s4 ⟨e,q⟩=>?_)
 ·exact⟨m,hm,fun h' hs'=>⟨.ref s2.heap.objs.size,H',hI h' hs',rfl,z⟩⟩
 ·rw [← e] at q;exact q
theorem c3i{X:Cx}{i:Nat}{y:Str}{py spos:Pos}{elt tg iter:Expr}{ifs:List Expr}{scope:Scope}{pos:Pos}{own:List Str}{cap:List (Str × Nat)}{wi:TI}{g:TG}{tt:TT}{te:TE}
  (hN:X.N.Nodup) (hi':X.N[i]? = some y) (hy:X.env.scope.names.lookup y=some .local)
  (hc:X.calm=true) (hok:a6l X scope own cap=true) (hnd:(scope.names.map (·.1)).Nodup) (hi:PI X tg iter wi)
  (hg:∀ fp s2 H2,PG (cxC X scope own cap fp s2 H2) tg g) (ht:∀ fp s2 H2,PIf (cxC X scope own cap fp s2 H2) ifs tt) (he:∀ fp s2 H2,PE (cxC X scope own cap fp s2 H2) elt te)
  (hsw:swapsWith (.ListComp elt [⟨tg,iter,ifs,0⟩] scope pos) (some (.Name y py)) spos.line X.env=pure true:=by rfl)
  (hs:∀ x,foldedSetIterable iter X.env x=pure x:=by intro _;rfl) :
  PS X (.Assign [.Name y py] (.ListComp elt [⟨tg,iter,ifs,0⟩] scope pos) spos) (tAsg (c4z own cap wi g tt te) (a4p i)):=by
 intro pins s σ H D I h
 have hkind:=b2a hok
 have hclos:closureFor scope X.env=pure (clOf X.env scope.names []):=a8s fun y hy hf=>I.ok.has y.1 (b2b hok y hy hf)
 rw [exec_Assign_Name_used _ _ _ _ hsw]
 refine wpAny_bind (wpAny_standAt (wpAny_bind ?_))
 show wpAny _ X.A (do let _ ← comprehension (.ListComp elt [⟨tg,iter,ifs,0⟩] scope pos) scope X.env _ (newList []) false (eval iter X.env) (some (assign (.Name y py) X.env))) _ _ s
 refine wpAny_bind (wpAny_mono (wpAny_comprehension_free (use:=some (assign (.Name y py) X.env)) (Q:=fun _ s'=>SP X pins D .next s') rfl hs hclos hkind (b5b hnd)
  (thn (hi pins s σ H _ I h) fun xv s1 h1=>thn h1 fun itv s2 h2=>?_)) (fun _ s' hq=>wpAny_pure (wpAny_pure hq)) fun _ _ e=>e)
 obtain⟨it,fp,tn,J,H1,e,I2,T,st2,f2,hb⟩:=h2
 subst e
 refine wpAny_newObj_type (thn (c0c (iter:=iter) (pos:=pos) (RR:=compPost (model X.prog X.w) X.A X.xe (some (assign (.Name y py) X.env)) (fun _ s'=>SP X pins D .next s') (.ref s2.heap.objs.size) (s2.heap.objs.size + 1)) hc hok hnd hg ht he I2 T st2 f2 (hb _ I2.fresh) fun s' H' m hI hm hnC z=>?_) fun cenv s4 ⟨e,q⟩=>?_)
 ·show wpAny _ _ (assign (.Name y py) X.env (.ref s2.heap.objs.size)) _ _ s'
  have I':Inv X pins σ H' s':=hI s'.heap (Heap.SameBut.refl ..)
  refine wpAny_assign_Name (b8f I' hN hi' (.inl hy) (v:=.ref s2.heap.objs.size) rfl (fun s'' I'' hsb=>?_) (.inr hy))
  obtain⟨a,hs1,ha⟩:=hsb
  have nC:s2.heap.objs.size + 1 ≠ a:=by
   rintro rfl
   rcases ha with ha | ha
   ·have q:=I2.lt
    rw [← ha] at q
    exact absurd q (nlt (le_succ _))
   ·obtain⟨v,q⟩:=I2.cell _ _ ha
    exact absurd q.lt (nlt (le_succ _))
  refine⟨m,hm.sameBut hs1 nC,fun h' hs'=>⟨_,H',?_,z⟩⟩
  obtain⟨_,f1,f2,f3,f4,f5⟩:=I2.fpOk (b:=s2.heap.objs.size + 1) (le_succ _) hnC
  exact I''.turned (t':=s''.toks) (it:=s2.heap.objs.size + 1) (fun b o hb e=>(hs'.2 b hb).trans e) hnC f1 f3 f4 f5
 ·rw [← e] at q;exact q
end L2
end
section
namespace L2
open PySem PySem.Spec PyProof.Rows
theorem a2z:bootBuiltins "len" = some (.builtin "len"):=by decide +kernel
theorem b2w:bootBuiltins "isinstance" = some (.builtin "isinstance"):=by decide +kernel
theorem b1a:bootBuiltins "int" = some (.type "int"):=by decide +kernel
theorem b4g:bootBuiltins "bool" = some (.type "bool"):=by decide +kernel
theorem a8l:bootBuiltins "str" = some (.type "str"):=by decide +kernel
theorem a9d:bootBuiltins "list" = some (.type "list"):=by decide +kernel
theorem a1v:bootBuiltins "tuple" = some (.type "tuple"):=by decide +kernel
noncomputable def kvE(p:Str × Int):Key × V:=(Sum.inr p.1,V.int p.2)
noncomputable def kvD(p:Str × Int):PyData × PyData:=(.str p.1,.int p.2)
inductive FD where
 | none
 | bool (b:Bool)
 | int (n:Int)
 | str (x:Str)
noncomputable def FD.v:FD->V
 | .none=>.non
 | .bool b=>.bl b
 | .int n=>.int n
 | .str x=>.str x
noncomputable def FD.d:FD->PyData
 | .none=>.none
 | .bool b=>.bool b
 | .int n=>.int n
 | .str x=>.str x
noncomputable def keyD:Key->PyData
 | .inl i=>.int i
 | .inr x=>.str x
noncomputable def gE(p:Key × FD):Key × V:=(p.1,p.2.v)
noncomputable def gD(p:Key × FD):PyData × PyData:=(keyD p.1,p.2.d)
noncomputable def emb(p:Str × Int):Key × FD:=(Sum.inr p.1,FD.int p.2)
mutual
noncomputable def AtD(K:W.Frag)(H:Hp)(S:Addr->Prop):PyData->V->Prop
 | .none,v=>v=.non
 | .bool b,v=>v=.bl b
 | .int i,v=>v=.int i
 | .str x,v=>v=.str x
 | .list ds,v=>∃ a xs,v=.ref a/\S a/\H a=some (.lst xs)/\a0b K H S ds xs
 | .tuple ds,v=>∃ a xs,v=.ref a/\SqT K H a xs/\a0b K H S ds xs
 | .dict kvs,v=>∃ (a:Addr) (κ:List (Key × V)),v=.ref a/\S a/\H a=some (.dK κ)/\a0z K H S kvs κ
noncomputable def a0b(K:W.Frag)(H:Hp)(S:Addr->Prop):List PyData->List V->Prop
 | [],vs=>vs=[]
 | d :: ds,vs=>∃ v r,vs=v :: r/\AtD K H S d v/\a0b K H S ds r
noncomputable def a0z(K:W.Frag)(H:Hp)(S:Addr->Prop):List (PyData × PyData)->List (Key × V)->Prop
 | [],κ=>κ=[]
 | (x,d) :: r,κ=>∃ k v t,κ=(k,v) :: t/\x=keyD k/\AtD K H S d v/\a0z K H S r t
end
abbrev Any:Addr->Prop:=fun _=>True
abbrev But(t:Addr):Addr->Prop:=fun b=>b ≠ t
def Keep(S:Addr->Prop)(H H':Hp):Prop:=(∀ b xs,H b=some (.tup xs)->H' b=some (.tup xs))/\(∀ b o u,H b=some (.frz o u)->H' b=some (.frz o u))/\∀ b o,S b->H b=some o->H' b=some o
section
variable{K:W.Frag}{H H':Hp}{S S':Addr->Prop}
theorem Keep.refl(S:Addr->Prop)(H:Hp):Keep S H H:=⟨fun _ _ h=>h,fun _ _ _ h=>h,fun _ _ _ h=>h⟩
theorem Keep.trans{H1:Hp}(a:Keep S H H1)(b:Keep S H1 H'):Keep S H H':=⟨fun c xs h=>b.1 c xs (a.1 c xs h),fun c o xs h=>b.2.1 c o xs (a.2.1 c o xs h),fun c xs s h=>b.2.2 c xs s (a.2.2 c xs s h)⟩
theorem Keep.less(e:Keep S H H')(h:∀ b,S' b->S b):Keep S' H H':=⟨e.1,e.2.1,fun b xs s q=>e.2.2 b xs (h b s) q⟩
theorem Same.keep(e:Same H H'):Keep S H H':=⟨fun b xs h=>e b _ h,fun b o xs h=>e b _ h,fun b xs _ h=>e b _ h⟩
theorem c7s{p:Addr}{xs ys:List V}(h:H p=some (.lst xs)):Keep (But p) H (upd H p (.lst ys)):=
 ⟨fun b zs q=>by rw [a0f (b9f q h (by intro z;cases z))];exact q,fun b o zs q=>by rw [a0f (b9f q h (by intro z;cases z))];exact q,fun b zs hb q=>by rw [a0f hb];exact q⟩
theorem Keep.seqT{a:Addr}{xs:List V}(e:Keep S H H')(h:SqT K H a xs):SqT K H' a xs:=by
 rcases h with(h | ⟨o,h⟩) | h
 ·exact .inl (.inl (e.1 _ _ h))
 ·exact .inl (.inr ⟨o,e.2.1 _ _ _ h⟩)
 ·exact .inr h
theorem a0m{H:Hp}{p:Addr}(h:H p=none)(o:HO):Same H (upd H p o):=fun b u q=>by rw [a0f (a1x q h)];exact q
mutual
theorem AtD.mono(e:Keep S H H'):∀ (d:PyData) (v:V),AtD K H S d v->AtD K H' S d v
 | .none,_,h=>by unfold AtD at h ⊢;exact h
 | .bool _,_,h=>by unfold AtD at h ⊢;exact h
 | .int _,_,h=>by unfold AtD at h ⊢;exact h
 | .str _,_,h=>by unfold AtD at h ⊢;exact h
 | .list ds,v,h=>by
  unfold AtD at h ⊢
  obtain⟨a,xs,e1,s,q,r⟩:=h
  exact⟨a,xs,e1,s,e.2.2 _ _ s q,a0b.mono e ds xs r⟩
 | .tuple ds,v,h=>by
  unfold AtD at h ⊢
  obtain⟨a,xs,e1,q,r⟩:=h
  exact⟨a,xs,e1,e.seqT q,a0b.mono e ds xs r⟩
 | .dict kvs,v,h=>by
  unfold AtD at h ⊢
  obtain⟨a,ν,e1,s,q,e2⟩:=h
  exact⟨a,ν,e1,s,e.2.2 a _ s q,a0z.mono e kvs ν e2⟩
theorem a0b.mono(e:Keep S H H'):∀ (ds:List PyData) (vs:List V),a0b K H S ds vs->a0b K H' S ds vs
 | [],_,h=>by unfold a0b at h ⊢;exact h
 | d :: ds,vs,h=>by
  unfold a0b at h ⊢
  obtain⟨v,r,e1,h1,h2⟩:=h
  exact⟨v,r,e1,AtD.mono e d v h1,a0b.mono e ds r h2⟩
theorem a0z.mono(e:Keep S H H'):∀ (kvs:List (PyData × PyData)) (κ:List (Key × V)),a0z K H S kvs κ->a0z K H' S kvs κ
 | [],_,h=>by unfold a0z at h ⊢;exact h
 | (x,d) :: r,κ,h=>by
  unfold a0z at h ⊢
  obtain⟨k,v,t,e1,e2,h1,h2⟩:=h
  exact⟨k,v,t,e1,e2,AtD.mono e d v h1,a0z.mono e r t h2⟩
end
mutual
theorem AtD.more(e:∀ b,S b->S' b):∀ (d:PyData) (v:V),AtD K H S d v->AtD K H S' d v
 | .none,_,h=>by unfold AtD at h ⊢;exact h
 | .bool _,_,h=>by unfold AtD at h ⊢;exact h
 | .int _,_,h=>by unfold AtD at h ⊢;exact h
 | .str _,_,h=>by unfold AtD at h ⊢;exact h
 | .list ds,v,h=>by
  unfold AtD at h ⊢
  obtain⟨a,xs,e1,s,q,r⟩:=h
  exact⟨a,xs,e1,e a s,q,a0b.more e ds xs r⟩
 | .tuple ds,v,h=>by
  unfold AtD at h ⊢
  obtain⟨a,xs,e1,q,r⟩:=h
  exact⟨a,xs,e1,q,a0b.more e ds xs r⟩
 | .dict kvs,v,h=>by
  unfold AtD at h ⊢
  obtain⟨a,ν,e1,s,q,e2⟩:=h
  exact⟨a,ν,e1,e a s,q,a0z.more e kvs ν e2⟩
theorem a0b.more(e:∀ b,S b->S' b):∀ (ds:List PyData) (vs:List V),a0b K H S ds vs->a0b K H S' ds vs
 | [],_,h=>by unfold a0b at h ⊢;exact h
 | d :: ds,vs,h=>by
  unfold a0b at h ⊢
  obtain⟨v,r,e1,h1,h2⟩:=h
  exact⟨v,r,e1,AtD.more e d v h1,a0b.more e ds r h2⟩
theorem a0z.more(e:∀ b,S b->S' b):∀ (kvs:List (PyData × PyData)) (κ:List (Key × V)),a0z K H S kvs κ->a0z K H S' kvs κ
 | [],_,h=>by unfold a0z at h ⊢;exact h
 | (x,d) :: r,κ,h=>by
  unfold a0z at h ⊢
  obtain⟨k,v,t,e1,e2,h1,h2⟩:=h
  exact⟨k,v,t,e1,e2,AtD.more e d v h1,a0z.more e r t h2⟩
end
mutual
noncomputable def a9s:PyData->Bool
 | .none=>true | .bool _=>true | .int _=>true | .str _=>true
 | .list _=>false
 | .tuple ds=>b4h ds
 | .dict _=>false
noncomputable def b4h:List PyData->Bool
 | []=>true
 | d :: ds=>a9s d && b4h ds
end
mutual
theorem AtD.tups:∀ (d:PyData) (v:V),a9s d=true->AtD K H S d v->AtD K H S' d v
 | .none,_,_,h=>by unfold AtD at h ⊢;exact h
 | .bool _,_,_,h=>by unfold AtD at h ⊢;exact h
 | .int _,_,_,h=>by unfold AtD at h ⊢;exact h
 | .str _,_,_,h=>by unfold AtD at h ⊢;exact h
 | .list ds,v,t,h=>by unfold a9s at t;cases t
 | .tuple ds,v,t,h=>by
  unfold a9s at t
  unfold AtD at h ⊢
  obtain⟨a,xs,e1,q,r⟩:=h
  exact⟨a,xs,e1,q,a0b.tups ds xs t r⟩
 | .dict _,_,t,_=>by unfold a9s at t;cases t
theorem a0b.tups:∀ (ds:List PyData) (vs:List V),b4h ds=true->a0b K H S ds vs->a0b K H S' ds vs
 | [],_,_,h=>by unfold a0b at h ⊢;exact h
 | d :: ds,vs,t,h=>by
  unfold b4h at t
  rw [and_eq_true] at t
  unfold a0b at h ⊢
  obtain⟨v,r,e1,h1,h2⟩:=h
  exact⟨v,r,e1,AtD.tups d v t.1 h1,a0b.tups ds r t.2 h2⟩
end
theorem a0b.nil:a0b K H S [] []:=by unfold a0b;rfl
theorem a0b.cons{d:PyData}{ds:List PyData}{v:V}{vs:List V}(h:AtD K H S d v)(t:a0b K H S ds vs):a0b K H S (d :: ds) (v :: vs):=by
 unfold a0b;exact⟨v,vs,rfl,h,t⟩
theorem a0b.uncons{d:PyData}{ds:List PyData}{vs:List V}(h:a0b K H S (d :: ds) vs):∃ v r,vs=v :: r/\AtD K H S d v/\a0b K H S ds r:=by
 unfold a0b at h;exact h
theorem a0b.unnil{vs:List V}(h:a0b K H S [] vs):vs=[]:=by unfold a0b at h;exact h
theorem a0b.length:∀ {ds:List PyData} {vs:List V},a0b K H S ds vs->vs.length=ds.length
 | [],_,h=>by rw [h.unnil];rfl
 | d :: ds,vs,h=>by
  obtain⟨v,r,e,_,t⟩:=h.uncons
  rw [e,length_cons,length_cons,a0b.length t]
theorem a0b.get:∀ {ds:List PyData} {vs:List V} {i:Nat} {d:PyData},a0b K H S ds vs->ds[i]? = some d->∃ v,vs[i]? = some v/\AtD K H S d v
 | [],_,i,d,_,e=>by simp at e
 | d' :: ds,vs,0,d,h,e=>by
  obtain⟨v,r,rfl,hd,t⟩:=h.uncons
  simp at e;subst e
  exact⟨v,by simp,hd⟩
 | d' :: ds,vs,i + 1,d,h,e=>by
  obtain⟨v,r,rfl,hd,t⟩:=h.uncons
  obtain⟨w,e1,e2⟩:=a0b.get (i:=i) t (by simpa using e)
  exact⟨w,by simpa using e1,e2⟩
theorem a0b.append:∀ {ds es:List PyData} {vs ws:List V},a0b K H S ds vs->a0b K H S es ws->a0b K H S (ds ++ es) (vs ++ ws)
 | [],_,_,_,h,t=>by rw [h.unnil];exact t
 | d :: ds,es,vs,ws,h,t=>by
  obtain⟨v,r,rfl,hd,q⟩:=h.uncons
  exact .cons hd (a0b.append q t)
theorem a0b.snoc{ds:List PyData}{vs:List V}{d:PyData}{v:V}(h:a0b K H S ds vs)(hd:AtD K H S d v):a0b K H S (ds ++ [d]) (vs ++ [v]):=h.append (.cons hd .nil)
theorem a0b.drop:∀ {ds:List PyData} {vs:List V} (n:Nat),a0b K H S ds vs->a0b K H S (ds.drop n) (vs.drop n)
 | _,_,0,h=>by simpa using h
 | [],vs,n + 1,h=>by rw [h.unnil];exact .nil
 | d :: ds,vs,n + 1,h=>by
  obtain⟨v,r,rfl,hd,q⟩:=h.uncons
  exact a0b.drop n q
theorem a0b.take:∀ {ds:List PyData} {vs:List V} (n:Nat),a0b K H S ds vs->a0b K H S (ds.take n) (vs.take n)
 | _,_,0,h=>by simpa using a0b.nil
 | [],vs,n + 1,h=>by rw [h.unnil];exact .nil
 | d :: ds,vs,n + 1,h=>by
  obtain⟨v,r,rfl,hd,q⟩:=h.uncons
  exact .cons hd (a0b.take n q)
theorem a0b.reverse:∀ {ds:List PyData} {vs:List V},a0b K H S ds vs->a0b K H S ds.reverse vs.reverse
 | [],_,h=>by rw [h.unnil];exact .nil
 | d :: ds,vs,h=>by
  obtain⟨v,r,rfl,hd,q⟩:=h.uncons
  rw [reverse_cons,reverse_cons]
  exact(a0b.reverse q).snoc hd
theorem b5i:AtD K H S .none .non:=by unfold AtD;rfl
theorem a3i(b:Bool):AtD K H S (.bool b) (.bl b):=by unfold AtD;rfl
theorem a1y(i:Int):AtD K H S (.int i) (.int i):=by unfold AtD;rfl
theorem a1u(x:Str):AtD K H S (.str x) (.str x):=by unfold AtD;rfl
theorem b1b{v:V}(h:AtD K H S .none v):v=.non:=by unfold AtD at h;exact h
theorem a7s{b:Bool}{v:V}(h:AtD K H S (.bool b) v):v=.bl b:=by unfold AtD at h;exact h
theorem b1c{i:Int}{v:V}(h:AtD K H S (.int i) v):v=.int i:=by unfold AtD at h;exact h
theorem a9t{x:Str}{v:V}(h:AtD K H S (.str x) v):v=.str x:=by unfold AtD at h;exact h
theorem a3l{ds:List PyData}{v:V}(h:AtD K H S (.tuple ds) v):∃ a xs,v=.ref a/\SqT K H a xs/\a0b K H S ds xs:=by unfold AtD at h;exact h
theorem a5b{ds:List PyData}{v:V}(h:AtD K H S (.list ds) v):∃ a xs,v=.ref a/\S a/\H a=some (.lst xs)/\a0b K H S ds xs:=by unfold AtD at h;exact h
theorem a1k{ds:List PyData}{a:Addr}{xs:List V}(q:SqT K H a xs)(h:a0b K H S ds xs):AtD K H S (.tuple ds) (.ref a):=by unfold AtD;exact⟨a,xs,rfl,q,h⟩
theorem a4m{ds:List PyData}{a:Addr}{xs:List V}(s:S a)(q:H a=some (.lst xs))(h:a0b K H S ds xs):AtD K H S (.list ds) (.ref a):=by unfold AtD;exact⟨a,xs,rfl,s,q,h⟩
theorem a9e{kvs:List (PyData × PyData)}{v:V}(h:AtD K H S (.dict kvs) v):∃ (a:Addr) (κ:List (Key × V)),v=.ref a/\S a/\H a=some (.dK κ)/\a0z K H S kvs κ:=by unfold AtD at h;exact h
theorem b8m{kvs:List (PyData × PyData)}{κ:List (Key × V)}{a:Addr}(s:S a)(q:H a=some (.dK κ))(h:a0z K H S kvs κ):AtD K H S (.dict kvs) (.ref a):=by unfold AtD;exact⟨a,κ,rfl,s,q,h⟩
theorem a0z.nil:a0z K H S [] []:=by unfold a0z;rfl
theorem a0z.cons{k:Key}{v:V}{d:PyData}{r:List (PyData × PyData)}{t:List (Key × V)}(h:AtD K H S d v)(hr:a0z K H S r t):a0z K H S ((keyD k,d) :: r) ((k,v) :: t):=by
 unfold a0z;exact⟨k,v,t,rfl,rfl,h,hr⟩
theorem a0z.uncons{x d:PyData}{r:List (PyData × PyData)}{κ:List (Key × V)}(h:a0z K H S ((x,d) :: r) κ):∃ k v t,κ=(k,v) :: t/\x=keyD k/\AtD K H S d v/\a0z K H S r t:=by unfold a0z at h;exact h
theorem a0z.unnil{κ:List (Key × V)}(h:a0z K H S [] κ):κ=[]:=by unfold a0z at h;exact h
theorem b2c{ds:List PyData}{p:Addr}{xs:List V}(hp:H p=none)(h:a0b K H S ds xs):AtD K (upd H p (.tup xs)) S (.tuple ds) (.ref p):=
 a1k (SqT.of a0e) (a0b.mono (a0m hp _).keep _ _ h)
theorem c0d{ds:List PyData}{p:Addr}{xs:List V}(s:S p)(hp:H p=none)(h:a0b K H S ds xs):AtD K (upd H p (.lst xs)) S (.list ds) (.ref p):=
 a4m s a0e (a0b.mono (a0m hp _).keep _ _ h)
end
theorem c7t(h:Heap){k:Key}{u:Value}(q:b9e k u=true):Reads h u (keyD k) []:=by
 rcases a2i q with⟨i,t,e',h'⟩ | ⟨x,t,e',h'⟩
 ·rw [e',h'];exact .int i t
 ·rw [e',h'];exact .str x t
section
variable{X:Cx}{pins:List (Addr × Obj)}{σ:St}{H:Hp}{s:Shared}{S:Addr->Prop}
mutual
theorem AtD.reads(I:Inv X pins σ H s):∀ (d:PyData) (v:V) (u:Value),AtD X.K H S d v->RelV v u->∃ as,Reads s.heap u d as
 | .none,v,u,h,r=>by cases b1b h;cases r;exact⟨_,.none⟩
 | .bool b,v,u,h,r=>by cases a7s h;cases r;exact⟨_,.bool b⟩
 | .int i,v,u,h,r=>by cases b1c h;obtain⟨t,rfl⟩:=r;exact⟨_,.int i t⟩
 | .str x,v,u,h,r=>by cases a9t h;obtain⟨t,rfl⟩:=r;exact⟨_,.str x t⟩
 | .list ds,v,u,h,r=>by
  obtain⟨a,xs,rfl,_,q,t⟩:=a5b h
  cases r
  obtain⟨its,rv,⟨o,n,e,hc,_,hd⟩,_⟩:=I.list (SqL.of q)
  obtain⟨as,ra⟩:=a0b.reads I ds xs its t rv
  exact⟨_,.list e hc hd (by simpa using ra)⟩
 | .tuple ds,v,u,h,r=>by
  obtain⟨a,xs,rfl,q,t⟩:=a3l h
  cases r
  obtain⟨its,rv,⟨o,e,hc,n,hd⟩,_⟩:=I.tuple q
  obtain⟨as,ra⟩:=a0b.reads I ds xs its t rv
  exact⟨_,.tuple e hc hd (by simpa using ra)⟩
 | .dict kvs,v,u,h,r=>by
  obtain⟨a,ν,rfl,_,q,t⟩:=a9e h
  cases r
  obtain⟨_,_,vs,kv,o,es,ep,e,hc,hd,_,hp,_⟩:=(show a2v X.prog X.w H s.heap a (.dK ν) from I.hok a _ q)
  obtain⟨as,bs,r1,r2⟩:=a0z.reads I kvs ν vs es.toList t kv hp
  exact⟨_,.dict e hc.1 hd r1 r2⟩
theorem a0b.reads(I:Inv X pins σ H s):∀ (ds:List PyData) (vs:List V) (us:List Value),a0b X.K H S ds vs->Vals vs us->∃ as,ReadsAll s.heap us ds as
 | [],vs,us,h,r=>by
  cases h.unnil
  cases r
  exact⟨_,.nil⟩
 | d :: ds,vs,us,h,r=>by
  obtain⟨v,vr,rfl,hd,t⟩:=h.uncons
  cases r with
  | cons r1 r2 =>
   obtain⟨as,q1⟩:=AtD.reads I d v _ hd r1
   obtain⟨bs,q2⟩:=a0b.reads I ds vr _ t r2
   exact⟨_,.cons q1 q2⟩
theorem a0z.reads(I:Inv X pins σ H s):∀ (kvs:List (PyData × PyData)) (κ:List (Key × V)) (vs:List (Key × Value)) (es:List DictEntry),a0z X.K H S kvs κ->KV κ vs->Pairs (b3z X.prog X.w) es vs->∃ as bs,ReadsAll s.heap (es.map (·.key)) (kvs.map (·.1)) as/\ReadsAll s.heap (es.map (·.val)) (kvs.map (·.2)) bs
 | [],κ,vs,es,h,r,q=>by
  cases h.unnil
  cases r
  cases q
  exact⟨_,_,.nil,.nil⟩
 | (x,d) :: kr,κ,vs,es,h,r,q=>by
  obtain⟨k,v,t,rfl,rfl,h1,h2⟩:=h.uncons
  cases r with
  | cons r1 r2 =>
   cases q with
   | cons q1 q2 q3 =>
    rename_i kv _ e _
    obtain⟨kk,kv2⟩:=kv
    obtain⟨e1,e2⟩:=r1
    cases e1
    obtain⟨a1,w1⟩:=AtD.reads I d v kv2 h1 e2
    obtain⟨as,bs,c1,c2⟩:=a0z.reads I kr t _ _ h2 r2 q3
    have hk:Reads s.heap e.key (keyD k) []:=c7t _ (show b9e k e.key=true from q1)
    have g1:=ReadsAll.cons hk c1
    have g2:=ReadsAll.cons w1 c2
    rw [show kv2=e.val from q2.symm] at g2
    exact⟨_,_,g1,g2⟩
end
end
section
variable{X:Cx}
theorem c3j{K:W.Frag}{H:Hp}{S:Addr->Prop}{ds:List PyData}{xs:List V}{i:Int}{d:PyData}(h:a0b K H S ds xs)(e:atI ds i=some d):∃ v,atI xs i=some v/\AtD K H S d v:=by
 unfold atI at e ⊢
 rw [h.length]
 cases q:ixN ds.length i with
 | none=>rw [q] at e;cases e
 | some j =>
  rw [q] at e
  obtain⟨v,e1,e2⟩:=h.get (show ds[j]? = some d from e)
  exact⟨v,e1,e2⟩
def rEqD(K:W.Frag)(neg:Bool):R2:=fun x y H Q=>∃ S S' d e,AtD K H S d x/\AtD K H S' e y/\SeqAt.shaped d=true/\SeqAt.shaped e=true/\Q (.bl (if neg then !PyData.eqv d e else PyData.eqv d e)) H
theorem e0s(hu:X.A.units + 64 < cLine):OpR X (compareOp .Eq) (rEqD X.K false):=by
 intro pins s σ H x y v u Q I rx ry h
 obtain⟨S,S',d,e,hd,he,sd,se,q⟩:=h
 obtain⟨as,ra⟩:=AtD.reads I d x v hd rx
 obtain⟨bs,rb⟩:=AtD.reads I e y u he ry
 exact SeqAt.compareEq_shaped ra rb sd se hu ⟨.bl _,H,I,rfl,q⟩
theorem e0t(hu:X.A.units + 64 < cLine):OpR X (compareOp .NotEq) (rEqD X.K true):=by
 intro pins s σ H x y v u Q I rx ry h
 obtain⟨S,S',d,e,hd,he,sd,se,q⟩:=h
 obtain⟨as,ra⟩:=AtD.reads I d x v hd rx
 obtain⟨bs,rb⟩:=AtD.reads I e y u he ry
 exact SeqAt.compareNe_shaped ra rb sd se hu ⟨.bl _,H,I,rfl,q⟩
noncomputable def tyD:PyData->String
 | .none => "NoneType" | .bool _ => "bool" | .int _ => "int" | .str _ => "str" | .list _ => "list" | .tuple _ => "tuple" | .dict _ => "dict"
noncomputable def isD(T:String)(d:PyData):Bool:=tyD d == T || (T == "int" && tyD d == "bool")
theorem c5a{x:Str}{T:String}{pos:Pos}(hg:Gl X x)(hm:X.mg x=none)(hv:bootBuiltins x=some (.type T)) (hn:x ≠ "__name__":=by decide) (hd:(x == ("__debug__" : Str))=false:=by decide):PE X (.Name x pos) (tC (.ty T)):=
 d5g hg hm hv rfl hn hd
theorem d0w{pins:List (Addr × Obj)}{s:Shared}{σ:St}{H:Hp}{S:Addr->Prop}{d:PyData}{v:V}{u:Value}{T:String}{Q:VK}(I:Inv X pins σ H s)(h:AtD X.K H S d v)(r:RelV v u)
  (ht:PySem.W.kitOne X.K (.type (tyD d)) (.type T)=some (isD T d)) (q:Q (.bl (isD T d)) H) :
  wpAny (model X.prog X.w) X.A (call (.builtin "isinstance") [u,.type T]) (EP X pins σ Q) X.xe s:=by
 have fin:∀ tk,EP X pins σ Q (.bool (isD T d)) { s with toks:=tk }:=fun tk=>⟨.bl _,H,I.tok tk,rfl,q⟩
 cases d with
 | none=>cases b1b h;cases r;exact PySem.W.kia_one PySem.W.kitx_none I.kIn True.intro ht (fun z=>nomatch z) fin
 | bool b=>cases a7s h;cases r;exact PySem.W.kia_one PySem.W.kitx_bool I.kIn True.intro ht (fun z=>nomatch z) fin
 | int i=>cases b1c h;obtain⟨t,rfl⟩:=r;exact PySem.W.kia_one PySem.W.kitx_int I.kIn True.intro ht (fun z=>nomatch z) fin
 | str x=>cases a9t h;obtain⟨t,rfl⟩:=r;exact PySem.W.kia_one PySem.W.kitx_str I.kIn True.intro ht (fun z=>nomatch z) fin
 | list ds =>
  obtain⟨a,xs,rfl,_,hq,_⟩:=a5b h
  cases r
  obtain⟨its,_,⟨o,n,e,hc,_,hd⟩,_⟩:=I.list (SqL.of hq)
  exact PySem.W.kia_one PySem.W.kitx_list I.kIn ⟨o,e,hc⟩ ht (fun z=>nomatch z) fin
 | tuple ds =>
  obtain⟨a,xs,rfl,hq,_⟩:=a3l h
  cases r
  obtain⟨its,_,⟨o,e,hc,n,hd⟩,_⟩:=I.tuple hq
  exact PySem.W.kia_one PySem.W.kitx_tuple I.kIn ⟨o,e,hc⟩ ht (fun z=>nomatch z) fin
 | dict kvs =>
  obtain⟨a,ν,rfl,_,hq,_⟩:=a9e h
  cases r
  obtain⟨_,_,vs,kv,o,es,ep,e,hc,hd,_,hp,_⟩:=(show a2v X.prog X.w H s.heap a (.dK ν) from I.hok a _ hq)
  exact PySem.W.kia_one PySem.W.kitx_dict I.kIn ⟨o,e,hc.1⟩ ht (fun z=>nomatch z) fin
noncomputable def a2b(T:String):Bool:=T == "int" || T == "str" || T == "bool" || T == "list" || T == "tuple" || T == "dict"
theorem c0e(K:W.Frag)(d:PyData)(T:String)(hT:a2b T=true):PySem.W.kitOne K (.type (tyD d)) (.type T)=some (isD T d):=by
 simp only [a2b,or_eq_true,beq_iff_eq] at hT
 rcases hT with((((rfl | rfl) | rfl) | rfl) | rfl) | rfl<;>cases d<;>rfl
theorem d0x:a2w X (.builtin "isinstance") (fun xs H Q=>∃ v S d T,xs=[v,.ty T]/\AtD X.K H S d v/\a2b T=true/\Q (.bl (isD T d)) H):=by
 intro pins s σ H xs us Q I rs h
 obtain⟨v,S,d,T,rfl,hd,hT,q⟩:=h
 obtain⟨u,u2,rfl,r1,r2⟩:=rs.two
 cases r2
 exact d0w I hd r1 (c0e X.K d T hT) q
end
section
variable{X:Cx}{tg:Expr}
def iDat(K:W.Frag)(tl:TE):TI:=fun σ H R=>tl σ H fun x H1=>(∃ a,x=.ref a/\(∃ xs,SqT K H1 a xs)/\R (Itt K a) H1) ∨ (∃ a,x=.ref a/\(∃ xs,SqL K H1 a xs)/\R (Itl K a) H1)
theorem e0u{l:Expr}{tl:TE}(hl:PE X l tl):PI X tg l (iDat X.K tl):=by
 intro pins s σ H R I h
 refine thn (hl pins s σ H (fun x H1=>(∃ a,x=.ref a/\(∃ xs,SqT X.K H1 a xs)/\R (Itt X.K a) H1) ∨ (∃ a,x=.ref a/\(∃ xs,SqL X.K H1 a xs)/\R (Itl X.K a) H1)) I h) fun v s1 hq9=>?_
 obtain⟨x,H1,I1,r1,q1⟩:=hq9
 rcases q1 with⟨a,rfl,⟨xs,hq⟩,q⟩ | ⟨a,rfl,⟨xs,hq⟩,q⟩
 ·cases r1
  obtain⟨its,rv,p,hz⟩:=I1.tuple hq
  refine wpAny_pyIter_tuple (show s1.heap.IsTuple a its.toArray from p) ?_
  refine⟨s1.heap.objs.size,[s1.heap.objs.size],_,_,H1,rfl,I1.kept (t':=s1.toks) fun b o e=>get?_push_of_some _ e,c4m a _,⟨_,get?_push_size _ rfl,rfl,rfl⟩,fun b hb=>?_,q⟩
  have e:b=s1.heap.objs.size:=by simpa using hb
  subst e
  exact I1.fpOk (le_refl _) (I1.hok.fresh (le_refl _))
 ·cases r1
  obtain⟨its,rv,p,hz⟩:=I1.list hq
  refine wpAny_pyIter_list p.isList ?_
  refine⟨s1.heap.objs.size,[s1.heap.objs.size],_,_,H1,rfl,I1.kept (t':=s1.toks) fun b o e=>get?_push_of_some _ e,b8g a _,⟨_,get?_push_size _ rfl,rfl,rfl⟩,fun b hb=>?_,q⟩
  have e:b=s1.heap.objs.size:=by simpa using hb
  subst e
  exact I1.fpOk (le_refl _) (I1.hok.fresh (le_refl _))
end
def d4g(J:It)(σ:St)(H:Hp)(go:V->St->Hp->(St->Hp->Prop)->Prop)(done:St->Hp->Prop):Prop:=
 ∃ W:Nat->Nat->St->Hp->Prop,(∃ m,W 0 m σ H)/\∀ i m σ H,W i m σ H ->
  (J.stop i H/\done σ H) ∨ (J.go i H/\∃ N:St->Hp->Prop,(∀ σ' H',N σ' H'->∃ m',m' < m/\W (i + 1) m' σ' H')/\∀ x H',J.yld i H x H'->go x σ H' N)
theorem b3f{K:W.Frag}{a:Addr}{xs:List V}{σ:St}{H:Hp}{go:V->St->Hp->(St->Hp->Prop)->Prop}{done:St->Hp->Prop}(Pv:Nat->St->Hp->Prop)(h0:Pv 0 σ H)(hl:∀ i σ H,i <= xs.length->Pv i σ H->SqL K H a xs)
  (hs:∀ i x σ H,xs[i]? = some x->Pv i σ H->go x σ H (Pv (i + 1))) (hd:∀ σ H,Pv xs.length σ H->done σ H):d4g (Itl K a) σ H go done:=by
 refine⟨fun i m σ H=>m=xs.length - i/\i <= xs.length/\Pv i σ H,⟨xs.length,by simp,zero_le _,h0⟩,?_⟩
 rintro i m σ H ⟨rfl,hi,p⟩
 have q:=hl i σ H hi p
 by_cases hlt:i < xs.length
 ·refine .inr ⟨⟨xs,xs[i],q,by simp [hlt]⟩,Pv (i + 1),fun σ' H' p'=>⟨xs.length - (i + 1),by omega,rfl,hlt,p'⟩,fun x H' y=>?_⟩
  obtain⟨e,y⟩:=y
  subst e
  exact hs i x σ _ (y xs q) p
 ·have e:i=xs.length:=by omega
  subst e
  exact .inl ⟨⟨xs,q,le_refl _⟩,hd σ H p⟩
theorem b3g{own:List Str}{cap:List (Str × Nat)}{g:TG}{tt:TT}{te:TE}{J:It}{D:Addr}{σ:St}{H1:Hp}{Z:Hp->Prop}
  (h:d4g J (a8e own cap σ) (upd H1 D (.lst [])) (fun x σ' H'' N=>g x σ' H'' fun σ2 H2=>tt σ2 H2 fun b H3=>if b=true then te σ2 H3 fun y H4=>∃ ys,H4 D=some (.lst ys)/\ys.length < sizeLine/\N σ2 (upd H4 D (.lst (ys ++ [y]))) else N σ2 H3) (fun _ H'=>Z H')) :
  b5h own cap g tt te J D σ H1 Z:=h
end L2
end
section
namespace L2
open PySem PySem.Spec PyProof.Rows
structure Def(K:W.Frag)(mg:Str->Option Value)(x:Str)(st:Stmt)(ps:List Str)(f:Addr)(fd:FuncData):Prop where
 fn:Fun K x x st f fd
 bd:Binds K fd ps []
 gl:mg x=some (.ref f)
section
variable{X:Cx}{k:Nat}{f:Addr}{fd:FuncData}{ps:List Str}{sp:Sp}{x:Str}{st:Stmt}{p pos:Pos}{e:Expr}{es:List Expr}{t:TA}
theorem a2c(d:Def X.K X.mg x st ps f fd)(g:FnOk X.prog X.w X.K X.mg X.base CX0 k f fd ps sp)(hr:Room k X.A)(hg:Gl X x)(ha:PA X (e :: es) t) (hdb:(x == ("__debug__" : Str))=false:=by decide)
  (he:starEach (e :: es) X.env=(false,eval e X.env) :: starEach es X.env:=by rfl) (hpl:(backTo pos (starEach es X.env)).any (·.1)=false:=by rfl):PE X (.Call (.Name x p) (e :: es) [] pos) (b1x sp [] E0 t):=
 d5m g hr hg d.gl d.fn.kp d.bd .nil a2x ha hdb he hpl
end
section
variable{X:Cx}{tg:Expr}
end
section
variable{X:Cx}
end
end L2
namespace L2
open PySem PySem.Spec PyProof.Rows
def Frs(S:Addr->Prop)(H:Hp):Prop:=∀ p,H p=none->S p
section
variable{K:W.Frag}{S:Addr->Prop}{σ:St}{H:Hp}{d:PyData}{ds:List PyData}{t te:TE}{ta:TA}
theorem c7u{α:Type}{xs:List α}{i:Int}(h0:0 <= i)(h1:i < xs.length):∃ x,atI xs i=some x/\x ∈ xs/\xs[i.toNat]? = some x:=by
 have hk:i.toNat < xs.length:=by omega
 have ei:i=((i.toNat:Nat):Int):=by omega
 have q:atI xs ((i.toNat:Nat):Int)=some xs[i.toNat]:=a4k (getElem?_eq_getElem hk)
 rw [← ei] at q
 exact⟨_,q,List.getElem_mem hk,getElem?_eq_getElem hk⟩
end
end L2
end
section
namespace L2
open PySem PySem.Spec PyProof.Rows
section
variable{prog:Program}{w:World}{A:Around}{E:Value->Shared->Prop}{s:Shared}
end
section
variable{X:Cx}{tg:Expr}
end
end L2
end
section
namespace L2
open PySem PySem.Spec PyProof.Rows
inductive Ents (w:World):List DictEntry->List (Str × V)->Prop where
 | nil:Ents w [] []
 | cons {x:Str} {t:Tok} {u:Value} {v:V} {es:List DictEntry} {kvs:List (Str × V)}:RelV v u->Ents w es kvs->Ents w (⟨PyData.keyHash w.params x,.str x t,u⟩ :: es) ((x,v) :: kvs)
def KDict(K:W.Frag)(w:World)(a:Addr)(kvs:List (Str × V)):Prop:=(kvs.map (·.1)).Nodup/\∃ (es:Array DictEntry) (ep:Nat),K.lookup a=some ⟨.type "dict",none,.dict es ep,#[]⟩/\Ents w es.toList kvs
theorem Ents.pairs{prog:Program}{w:World}{es:List DictEntry}{kvs:List (Str × V)}(h:Ents w es kvs):∃ vs:List (Str × Value),Pairs (strKind prog w) es vs/\KV kvs vs/\(∀ e ∈ es,∃ x t,e.key=.str x t/\e.hash=hashStr w x):=by
 induction h with
 | nil=>exact⟨[],.nil,.nil,fun e he=>by cases he⟩
 | @cons x t u v es kvs r _ ih =>
  obtain⟨vs,p,q,k⟩:=ih
  refine⟨(x,u) :: vs,.cons (strKind_is prog w x t) rfl p,.cons ⟨rfl,r⟩ q,fun e he=>?_⟩
  rcases mem_cons.mp he with rfl | he
  ·exact⟨x,t,rfl,rfl⟩
  ·exact k e he
theorem KV.look{kvs:List (Str × V)}{vs:List (Str × Value)}(h:KV kvs vs):(kvs.map (·.1))=(vs.map (·.1))/\∀ x v,kvs.lookup x=some v->∃ u,valueAt vs x=some u/\RelV v u:=by
 induction h with
 | nil=>exact⟨rfl,fun x v e=>by cases e⟩
 | @cons p q kvs vs r _ ih =>
  obtain⟨x,v⟩:=p
  obtain⟨y,u⟩:=q
  obtain⟨e,rv⟩:=r
  have e':x=y:=e
  subst e'
  refine⟨by rw [map_cons,map_cons,ih.1],fun z w' hz=>?_⟩
  rw [lookup_cons] at hz
  by_cases hzx:z=x
  ·subst hzx
   simp at hz
   subst hz
   exact⟨u,by simp [valueAt],rv⟩
  ·have:(z == x)=false:=beq_eq_false_iff_ne.mpr hzx
   rw [this] at hz
   obtain⟨u',h1,h2⟩:=ih.2 z w' hz
   refine⟨u',?_,h2⟩
   unfold valueAt at h1 ⊢
   rw [List.find?_cons_of_neg (by simpa using fun q=>hzx q.symm)]
   exact h1
section
variable{X:Cx}
def rIxK(K:W.Frag)(w:World):R2:=fun x y H Q=>∃ a kvs z v,x=.ref a/\KDict K w a kvs/\y=.str z/\kvs.lookup z=some v/\Q v H
theorem c0f:IxR X (rIxK X.K X.w):=by
 intro value slice pins s σ H x y v u Q I rx ry h hs
 obtain⟨a,kvs,z,v',rfl,⟨hnd,es,ep,hk,he⟩,rfl,hl,q⟩:=h
 cases rx
 obtain⟨t,rfl⟩:=ry
 have ho:=I.kIn a _ hk
 obtain⟨vs,hp,hkv,hkeys⟩:=he.pairs (prog:=X.prog)
 obtain⟨e1,hlook⟩:=KV.look hkv
 obtain⟨u',hu,ru⟩:=hlook z v' hl
 have hd:s.heap.DictOf (strKind X.prog X.w) a vs:=by
  refine⟨_,es,ep,ho,⟨rfl,rfl,rfl⟩,rfl,?_,hp,by rw [← e1];exact hnd⟩
  intro e hm
  obtain⟨x',t',e2,e3⟩:=hkeys e (by simpa using hm)
  exact⟨x',by rw [e2];exact strKind_is X.prog X.w x' t',e3⟩
 have fin:∀ s',Inv X pins σ H s'->EP X pins σ Q u' s':=fun s' I'=>⟨v',H,I',ru,q⟩
 exact subscriptTail_builtinR (x:=u') (T:="dict") ⟨_,ho,rfl⟩ PySem.F.slot_dict_getitem.lookup
  (wpAny_getItem_of (Q:=fun r s'=>r=u'/\EP X pins σ Q r s') (strKind_is X.prog X.w z t) hd.mapOf hu ⟨rfl,fin _ (I.tok _)⟩) hs
end
end L2
end
section
namespace L2
open PySem PySem.Spec PyProof.Rows
inductive L where
 /-- data that nobody changes any more -/
 | d (x:PyData)
 /-- a list that this name alone has -/
 | own (xs:List PyData)
 /-- a list of a caller's, lent to be changed -/
 | bor (xs:List PyData)
 /-- the tape: the script and how many draws were made -/
 | tape (k:Nat)
 /-- the script -/
 | scr
abbrev Rho:=List (Option L)
abbrev Own:=Nat->Option Addr
structure Rc where
 H0:Hp
 S:Addr->Prop
 P:Addr->Prop
 M:Addr->Prop
 A:Addr->Prop
 B:Addr->Prop
 lent:Own
 sa:Addr
 ns:List Int
noncomputable def isIO:L->Bool
 | .bor _=>true
 | .tape _=>true
 | _=>false
noncomputable def live(c:Rc)(O:Own):Addr->Prop:=fun a=>c.S a/\¬ c.P a/\∀ i,O i ≠ some a
def b0j(c:Rc)(p:Addr):Prop:=¬ c.B p/\c.S p/\¬ c.P p
noncomputable def LAMS:List Str:=["read_row","Reading.read_thing","Reading.read_taken","Reading.read_hands","WorldReading.__init__","WorldReading.read_row","WorldReading.read_point","WorldReading.read_parts","read_rising_name","MachineReading.read_row","MachineReading.read_box","MachineReading.read_seer","MachineReading.read_reckoning","read_number","Ranking.best_option"]
abbrev a7d(q:Str):HO:=.frz { cls:=.none,data:=.fields #[] } (.tbl #[.str q 0])
noncomputable def lamOf(K:W.Frag)(p:Addr × Obj):Option (Addr × Addr × Str):=match p.2.data with
 | .func fd=>if LAMS.any (· == fd.qualname) then(match fd.code with
   | .ref c=>(match K.lookup c with
    | some ⟨.type "code",_,.fields vs,_⟩=>(match (vs[11]?:Option Value) with
     | some (.ref P)=>some (c,P,fd.qualname ++ ".<locals>.<lambda>")
     | _=>none)
    | _=>none)
   | _=>none) else none
 | _=>none
noncomputable def b1d(K:W.Frag):List (Addr × Addr × Str):=K.filterMap (lamOf K)
def TB(K:W.Frag)(H:Hp):Prop:=∀ p ∈ b1d K,H p.2.1=some (a7d p.2.2)
def Scr(K:W.Frag)(H:Hp)(a:Addr)(xs:List V):Prop:=TB K H/\xs.length <= 63 /\
 ((∃ o,H a=some (.frz o (.lst xs))) ∨ ∃ (o:Obj) (its:Array Value) (n:Nat),K.lookup a=some o/\o.cls=.type "list" /\ o.dict=none/\o.data=.seq its n/\its.size <= sizeLine/\Vals xs its.toList)
theorem Scr.seq{K:W.Frag}{H:Hp}{a:Addr}{xs:List V}(h:Scr K H a xs):SqL K H a xs:=by
 rcases h.2.2 with⟨o,h⟩ | h
 ·exact .inl (.inr ⟨o,h⟩)
 ·exact .inr h
structure Rel(K:W.Frag)(c:Rc)(O:Own)(ρ:Rho)(σ:St)(H:Hp):Prop where
 dat:∀ (i:Nat) (x:PyData),ρ[i]? = some (some (L.d x))->∃ v,σ[i]? = some (some v)/\AtD K H (live c O) x v
 own:∀ (i:Nat) (xs:List PyData),ρ[i]? = some (some (.own xs))->∃ p vs,O i=some p/\b0j c p/\σ[i]? = some (some (.ref p))/\H p=some (.lst vs)/\a0b K H (live c O) xs vs
 bor:∀ (i:Nat) (xs:List PyData),ρ[i]? = some (some (.bor xs))->∃ p vs,O i=some p/\σ[i]? = some (some (.ref p))/\H p=some (.lst vs)/\a0b K H (live c O) xs vs
 tap:∀ (i k:Nat),ρ[i]? = some (some (.tape k))->∃ p,O i=some p/\σ[i]? = some (some (.ref p))/\H p=some (.lst [.ref c.sa,.int k])
 scr:∀ i:Nat,ρ[i]? = some (some .scr)->σ[i]? = some (some (.ref c.sa))
 inj:∀ i j p,O i=some p->O j=some p->i=j
 has':∀ i p,O i=some p->c.A p/\∃ vs,H p=some (.lst vs)
 am:∀ p,c.A p->c.M p ∨ c.H0 p=none
 frs:∀ p,c.H0 p=none->c.S p
 same:∀ b o,¬ c.M b->c.H0 b=some o->H b=some o
 kept:∀ b,c.H0 b ≠ none->H b ≠ none
 ml:∀ p,c.M p->∃ vs,H p=some (.lst vs)
 pin:∀ p,c.P p ∨ c.B p->H p ≠ none
 lnt:∀ (i:Nat) (p:Addr),c.lent i=some p->∀ l:L,ρ[i]? = some (some l)->isIO l=true->O i=some p
 sc:Scr K H c.sa (c.ns.map V.int)
 len:σ.length=ρ.length
theorem Rel.has{K:W.Frag}{c:Rc}{O:Own}{ρ:Rho}{σ:St}{H:Hp}(R:Rel K c O ρ σ H)(i:Nat)(p:Addr)(h:O i=some p):(c.M p ∨ c.H0 p=none)/\∃ vs,H p=some (.lst vs):=⟨R.am p (R.has' i p h).1,(R.has' i p h).2⟩
def Pers(K:W.Frag)(S:Addr->Prop)(H:Hp)(S':Addr->Prop)(H':Hp):Prop:=∀ d v,AtD K H S d v->AtD K H' S' d v
section
variable{K:W.Frag}{S S' S2:Addr->Prop}{H H' H2:Hp}
theorem Pers.refl:Pers K S H S H:=fun _ _ h=>h
theorem Pers.trans(a:Pers K S H S' H')(b:Pers K S' H' S2 H2):Pers K S H S2 H2:=fun d v h=>b d v (a d v h)
theorem Pers.all(a:Pers K S H S' H'):∀ {ds:List PyData} {vs:List V},a0b K H S ds vs->a0b K H' S' ds vs
 | [],_,h=>by rw [h.unnil];exact .nil
 | d :: ds,vs,h=>by
  obtain⟨v,r,rfl,h1,h2⟩:=h.uncons
  exact .cons (a d v h1) (Pers.all a h2)
theorem Pers.of(e:Keep S H H')(m:∀ a,S a->S' a):Pers K S H S' H':=fun d v h=>AtD.more m d v (AtD.mono e d v h)
theorem Pers.same(e:Same H H'):Pers K S H S H':=.of e.keep fun _ h=>h
mutual
theorem AtD.less{p:Addr}(hp:H p=none)(hs:∀ a,S a->a ≠ p->S' a):∀ (d:PyData) (v:V),AtD K H S d v->AtD K H S' d v
 | .none,_,h=>by unfold AtD at h ⊢;exact h
 | .bool _,_,h=>by unfold AtD at h ⊢;exact h
 | .int _,_,h=>by unfold AtD at h ⊢;exact h
 | .str _,_,h=>by unfold AtD at h ⊢;exact h
 | .list ds,v,h=>by
  obtain⟨a,xs,e1,s,q,r⟩:=a5b h
  subst e1
  exact a4m (hs a s (a1x q hp)) q (a0b.less hp hs ds xs r)
 | .tuple ds,v,h=>by
  obtain⟨a,xs,e1,q,r⟩:=a3l h
  subst e1
  exact a1k q (a0b.less hp hs ds xs r)
 | .dict kvs,v,h=>by
  obtain⟨a,ν,e1,s,q,e2⟩:=a9e h
  subst e1
  exact b8m (hs a s (a1x q hp)) q (a0z.less hp hs kvs ν e2)
theorem a0b.less{p:Addr}(hp:H p=none)(hs:∀ a,S a->a ≠ p->S' a):∀ (ds:List PyData) (vs:List V),a0b K H S ds vs->a0b K H S' ds vs
 | [],_,h=>by rw [h.unnil];exact .nil
 | d :: ds,vs,h=>by
  obtain⟨v,r,rfl,h1,h2⟩:=h.uncons
  exact .cons (AtD.less hp hs d v h1) (a0b.less hp hs ds r h2)
theorem a0z.less{p:Addr}(hp:H p=none)(hs:∀ a,S a->a ≠ p->S' a):∀ (kvs:List (PyData × PyData)) (κ:List (Key × V)),a0z K H S kvs κ->a0z K H S' kvs κ
 | [],_,h=>by rw [h.unnil];exact .nil
 | (x,d) :: r,κ,h=>by
  obtain⟨k,v,t,rfl,rfl,h1,h2⟩:=h.uncons
  exact .cons (AtD.less hp hs d v h1) (a0z.less hp hs r t h2)
end
theorem Pers.new{p:Addr}(hp:H p=none)(hs:∀ a,S a->a ≠ p->S' a)(o:HO):Pers K S H S' (upd H p o):=fun d v h =>
 AtD.mono (a0m hp o).keep d v (AtD.less hp hs d v h)
end
section
variable{K:W.Frag}{c:Rc}{O:Own}{ρ:Rho}{σ:St}{H H':Hp}
theorem Scr.keep{a:Addr}{xs:List V}{S:Addr->Prop}(h:Scr K H a xs)(e:Keep S H H'):Scr K H' a xs:=by
 refine⟨fun p hp=>e.2.1 _ _ _ (h.1 p hp),h.2.1,?_⟩
 rcases h.2.2 with⟨o,h⟩ | h
 ·exact .inl ⟨o,e.2.1 _ _ _ h⟩
 ·exact .inr h
theorem Rel.to{c':Rc}{O':Own}(R:Rel K c O ρ σ H)(hO:∀ i,O' i=O i)(hB:∀ i p,O i=some p->b0j c p->b0j c' p)(hsa:c'.sa=c.sa)(hns:c'.ns=c.ns)
  (hp:Pers K (live c O) H (live c' O') H') (ho:∀ i p vs,O i=some p->H p=some (.lst vs)->H' p=some (.lst vs))
  (hA:∀ i p,O i=some p->c.A p->c'.A p) (am:∀ p,c'.A p->c'.M p ∨ c'.H0 p=none) (frs:∀ p,c'.H0 p=none->c'.S p) (same:∀ b o,¬ c'.M b->c'.H0 b=some o->H' b=some o) (kept:∀ b,c'.H0 b ≠ none->H' b ≠ none) (ml:∀ p,c'.M p->∃ vs,H' p=some (.lst vs))
  (pin:∀ p,c'.P p ∨ c'.B p->H' p ≠ none) (hl:∀ i,c'.lent i=c.lent i) (sc:Scr K H' c.sa (c.ns.map V.int)):Rel K c' O' ρ σ H' where
 dat i x e:=by obtain⟨v,h1,h2⟩:=R.dat i x e;exact⟨v,h1,hp _ _ h2⟩
 own i xs e:=by obtain⟨p,vs,h1,h2,h3,h4,h5⟩:=R.own i xs e;exact⟨p,vs,(hO i).trans h1,hB i p h1 h2,h3,ho i p vs h1 h4,hp.all h5⟩
 bor i xs e:=by obtain⟨p,vs,h1,h3,h4,h5⟩:=R.bor i xs e;exact⟨p,vs,(hO i).trans h1,h3,ho i p vs h1 h4,hp.all h5⟩
 tap i k e:=by obtain⟨p,h1,h2,h3⟩:=R.tap i k e;exact⟨p,(hO i).trans h1,h2,by rw [hsa];exact ho i p _ h1 h3⟩
 scr i e:=by rw [hsa];exact R.scr i e
 inj i j p e1 e2:=R.inj i j p ((hO i).symm.trans e1) ((hO j).symm.trans e2)
 has' i p e:=by
  have e':=(hO i).symm.trans e
  obtain⟨h0,vs,h⟩:=R.has' i p e'
  exact⟨hA i p e' h0,vs,ho i p vs e' h⟩
 am:=am
 frs:=frs
 same:=same
 kept:=kept
 ml:=ml
 pin:=pin
 lnt i p e l h1 h2:=(hO i).trans (R.lnt i p ((hl i).symm.trans e) l h1 h2)
 sc:=by rw [hsa,hns];exact sc
 len:=R.len
theorem c0g{i:Nat}{p:Addr}(h:O i=some p):¬ live c O p:=fun z=>z.2.2 i h
theorem Rel.grow(R:Rel K c O ρ σ H)(e:Same H H'):Rel K c O ρ σ H':=
 R.to (fun _=>rfl) (fun _ _ _ z=>z) rfl rfl (.same e) (fun i p vs _ q=>e _ _ q) (fun _ _ _ z=>z) R.am R.frs (fun b o n q=>e _ _ (R.same b o n q))
  (fun b n z=>R.kept b n (e.free z)) (fun p h=>let ⟨vs,q⟩:=R.ml p h;⟨vs,e _ _ q⟩) (fun p h z=>R.pin p h (e.free z)) (fun _=>rfl) (R.sc.keep (S:=Any) e.keep)
theorem Rel.free0(R:Rel K c O ρ σ H){p:Addr}(h:H p=none):c.H0 p=none:=by
 cases q:c.H0 p with
 | none=>rfl
 | some o=>exact absurd h (R.kept p (by rw [q];exact fun z=>nomatch z))
theorem Rel.liveNew(R:Rel K c O ρ σ H){p:Addr}(h:H p=none):live c O p:=
 ⟨R.frs p (R.free0 h),fun z=>R.pin p (.inl z) h,fun i e=>by obtain⟨_,vs,q⟩:=R.has i p e;rw [h] at q;cases q⟩
theorem Rel.frsLive(R:Rel K c O ρ σ H):Frs (live c O) H:=fun _ h=>R.liveNew h
theorem Rel.write{i:Nat}{p:Addr}{xs:List PyData}{vs vs':List V}{l:L}(R:Rel K c O ρ σ H)(hO:O i=some p)(hH:H p=some (.lst vs))
  (hl:ρ[i]? = some (some (.own xs)) ∨ ρ[i]? = some (some (.bor xs)) ∨ ∃ k:Nat,ρ[i]? = some (some (.tape k)))
  (hl':(∃ ys,ρ[i]? = some (some (.own xs))/\l=.own ys/\a0b K H (live c O) ys vs') ∨ (∃ ys,ρ[i]? = some (some (.bor xs))/\l=.bor ys/\a0b K H (live c O) ys vs') ∨ (∃ k k':Nat,ρ[i]? = some (some (.tape k))/\l=.tape k'/\vs'=[.ref c.sa,.int k'])) :
  Rel K c O (ρ.set i (some l)) σ (upd H p (.lst vs'))/\Pers K (live c O) H (live c O) (upd H p (.lst vs')):=by
 have hi:i < ρ.length:=by
  rcases hl with h | h | ⟨k,h⟩<;>exact(List.getElem?_eq_some_iff.mp h).1
 have kp:Keep (live c O) H (upd H p (.lst vs')):=(c7s hH).less fun b hb e=>by
  subst e;exact c0g hO hb
 have P:Pers K (live c O) H (live c O) (upd H p (.lst vs')):=.of kp fun _ h=>h
 have at_i:(ρ.set i (some l))[i]? = some (some l):=by rw [getElem?_set_self hi]
 have at_j:∀ j,j ≠ i->(ρ.set i (some l))[j]? = ρ[j]?:=fun j hj=>getElem?_set_ne (Ne.symm hj)
 have other:∀ j q,j ≠ i->O j=some q->q ≠ p:=fun j q hj e z=>hj (R.inj j i p (by rw [← z];exact e) hO)
 have hσ:σ[i]? = some (some (.ref p)):=by
  rcases hl with h | h | ⟨k,h⟩
  ·obtain⟨p',_,h1,_,h3,_⟩:=R.own i xs h;rw [hO] at h1;cases h1;exact h3
  ·obtain⟨p',_,h1,h3,_⟩:=R.bor i xs h;rw [hO] at h1;cases h1;exact h3
  ·obtain⟨p',h1,h3,_⟩:=R.tap i k h;rw [hO] at h1;cases h1;exact h3
 refine⟨⟨fun j x e=>?_,fun j ys e=>?_,fun j ys e=>?_,fun j k e=>?_,fun j e=>?_,R.inj,fun j q e=>?_,R.am,R.frs,fun b o n q=>?_,fun b n z=>?_,fun q h=>?_,fun q h z=>?_,fun j q e l2 h1 h2=>?_,?_,?_⟩,P⟩
 ·by_cases hj:j=i
  ·subst hj;rw [at_i] at e
   rcases hl' with⟨ys,_,rfl,_⟩ | ⟨ys,_,rfl,_⟩ | ⟨k,k',_,rfl,_⟩<;>cases e
  ·rw [at_j j hj] at e
   obtain⟨v,h1,h2⟩:=R.dat j x e
   exact⟨v,h1,P _ _ h2⟩
 ·by_cases hj:j=i
  ·subst hj;rw [at_i] at e
   rcases hl' with⟨zs,h0,rfl,h⟩ | ⟨zs,_,rfl,_⟩ | ⟨k,k',_,rfl,_⟩<;>cases e
   obtain⟨p',_,h1,h2,h3,_⟩:=R.own j xs h0
   rw [hO] at h1;cases h1
   exact⟨p,vs',hO,h2,h3,a0e,P.all h⟩
  ·rw [at_j j hj] at e
   obtain⟨q,ws,h1,h2,h3,h4,h5⟩:=R.own j ys e
   exact⟨q,ws,h1,h2,h3,by rw [a0f (other j q hj h1)];exact h4,P.all h5⟩
 ·by_cases hj:j=i
  ·subst hj;rw [at_i] at e
   rcases hl' with⟨zs,_,rfl,_⟩ | ⟨zs,h0,rfl,h⟩ | ⟨k,k',_,rfl,_⟩<;>cases e
   exact⟨p,vs',hO,hσ,a0e,P.all h⟩
  ·rw [at_j j hj] at e
   obtain⟨q,ws,h1,h3,h4,h5⟩:=R.bor j ys e
   exact⟨q,ws,h1,h3,by rw [a0f (other j q hj h1)];exact h4,P.all h5⟩
 ·by_cases hj:j=i
  ·subst hj;rw [at_i] at e
   rcases hl' with⟨zs,_,rfl,_⟩ | ⟨zs,_,rfl,_⟩ | ⟨k1,k',_,rfl,h⟩<;>cases e
   exact⟨p,hO,hσ,by rw [a0e,h]⟩
  ·rw [at_j j hj] at e
   obtain⟨q,h1,h3,h4⟩:=R.tap j k e
   exact⟨q,h1,h3,by rw [a0f (other j q hj h1)];exact h4⟩
 ·by_cases hj:j=i
  ·subst hj;rw [at_i] at e
   rcases hl' with⟨ys,_,rfl,_⟩ | ⟨ys,_,rfl,_⟩ | ⟨k,k',_,rfl,_⟩<;>cases e
  ·rw [at_j j hj] at e
   exact R.scr j e
 ·obtain⟨h1,ws,h2⟩:=R.has' j q e
  refine⟨h1,?_⟩
  by_cases hq:q=p
  ·subst hq;exact⟨vs',a0e⟩
  ·exact⟨ws,by rw [a0f hq];exact h2⟩
 ·have hb:b ≠ p:=by
   rintro rfl
   rcases (R.has i b hO).1 with z | z
   ·exact n z
   ·rw [z] at q;cases q
  rw [a0f hb];exact R.same b o n q
 ·by_cases hb:b=p
  ·subst hb;rw [a0e] at z;cases z
  ·rw [a0f hb] at z;exact R.kept b n z
 ·obtain⟨ws,h2⟩:=R.ml q h
  by_cases hq:q=p
  ·subst hq;exact⟨vs',a0e⟩
  ·exact⟨ws,by rw [a0f hq];exact h2⟩
 ·by_cases hb:q=p
  ·subst hb;rw [a0e] at z;cases z
  ·rw [a0f hb] at z;exact R.pin q h z
 ·by_cases hj:j=i
  ·subst hj;rw [at_i] at h1;cases h1
   rcases hl' with⟨zs,_,rfl,_⟩ | ⟨zs,h0,rfl,_⟩ | ⟨k1,k',h0,rfl,_⟩
   ·cases h2
   ·exact R.lnt j q e _ h0 rfl
   ·exact R.lnt j q e _ h0 rfl
  ·rw [at_j j hj] at h1;exact R.lnt j q e _ h1 h2
 ·exact R.sc.keep kp
 ·rw [length_set];exact R.len
noncomputable def a4q(O:Own)(i:Nat):Own:=fun j=>if j=i then none else O j
theorem b2d{i:Nat}{a:Addr}(h:live c O a):live c (a4q O i) a:=⟨h.1,h.2.1,fun j e=>by
 unfold a4q at e
 by_cases hj:j=i
 ·rw [if_pos hj] at e;cases e
 ·rw [if_neg hj] at e;exact h.2.2 j e⟩
theorem a3b{i j:Nat}(h:j ≠ i):a4q O i j=O j:=if_neg h
theorem c5b{i:Nat}:a4q O i i=none:=if_pos rfl
theorem a2m{i j:Nat}{p:Addr}(e:a4q O i j=some p):j ≠ i/\O j=some p:=by
 by_cases hj:j=i
 ·subst hj;rw [c5b] at e;cases e
 ·rw [a3b hj] at e;exact⟨hj,e⟩
theorem Rel.freeze{i:Nat}{xs:List PyData}(R:Rel K c O ρ σ H)(hl:ρ[i]? = some (some (.own xs))) :
  Rel K c (a4q O i) (ρ.set i (some (.d (.list xs)))) σ H/\Pers K (live c O) H (live c (a4q O i)) H:=by
 obtain⟨p,vs,hO,hB,hσ,hH,hA⟩:=R.own i xs hl
 have hi:i < ρ.length:=(List.getElem?_eq_some_iff.mp hl).1
 have P:Pers K (live c O) H (live c (a4q O i)) H:=.of (Keep.refl _ _) fun _ h=>b2d h
 have at_i:(ρ.set i (some (.d (.list xs))))[i]? = some (some (.d (.list xs))):=by rw [getElem?_set_self hi]
 have at_j:∀ j,j ≠ i->(ρ.set i (some (.d (.list xs))))[j]? = ρ[j]?:=fun j hj=>getElem?_set_ne (Ne.symm hj)
 have ne:∀ {j:Nat} {l:L},(ρ.set i (some (.d (.list xs))))[j]? = some (some l)->(∀ x,l ≠ .d x)->j ≠ i/\ρ[j]? = some (some l):=fun{j l} e n=>by
  by_cases hj:j=i
  ·subst hj;rw [at_i] at e;cases e;exact absurd rfl (n _)
  ·rw [at_j j hj] at e;exact⟨hj,e⟩
 refine⟨⟨fun j x e=>?_,fun j ys e=>?_,fun j ys e=>?_,fun j k e=>?_,fun j e=>?_,fun a b q e1 e2=>R.inj a b q (a2m e1).2 (a2m e2).2,fun j q e=>R.has' j q (a2m e).2,R.am,R.frs,R.same,R.kept,R.ml,R.pin,fun j q e l h1 h2=>?_,R.sc,?_⟩,P⟩
 ·by_cases hj:j=i
  ·subst hj;rw [at_i] at e;cases e
   refine⟨.ref p,hσ,a4m ⟨hB.2.1,hB.2.2,fun k e=>?_⟩ hH (P.all hA)⟩
   obtain⟨h1,h2⟩:=a2m e
   exact h1 (R.inj k j p h2 hO)
  ·rw [at_j j hj] at e
   obtain⟨v,h1,h2⟩:=R.dat j x e
   exact⟨v,h1,P _ _ h2⟩
 ·obtain⟨hj,e⟩:=ne e fun _ z=>nomatch z
  obtain⟨q,ws,h1,h2,h3,h4,h5⟩:=R.own j ys e
  exact⟨q,ws,(a3b hj).trans h1,h2,h3,h4,P.all h5⟩
 ·obtain⟨hj,e⟩:=ne e fun _ z=>nomatch z
  obtain⟨q,ws,h1,h3,h4,h5⟩:=R.bor j ys e
  exact⟨q,ws,(a3b hj).trans h1,h3,h4,P.all h5⟩
 ·obtain⟨hj,e⟩:=ne e fun _ z=>nomatch z
  obtain⟨q,h1,h3,h4⟩:=R.tap j k e
  exact⟨q,(a3b hj).trans h1,h3,h4⟩
 ·obtain⟨hj,e⟩:=ne e fun _ z=>nomatch z
  exact R.scr j e
 ·obtain⟨hj,e'⟩:=ne h1 fun x z=>by subst z;cases h2
  rw [a3b hj];exact R.lnt j q e _ e' h2
 ·rw [length_set];exact R.len
theorem Rel.setD{i:Nat}{x:PyData}{v:V}(R:Rel K c O ρ σ H)(hi:i < ρ.length)(h:AtD K H (live c O) x v) :
  Rel K c (a4q O i) (ρ.set i (some (.d x))) (σ.set i (some v)) H/\Pers K (live c O) H (live c (a4q O i)) H:=by
 have P:Pers K (live c O) H (live c (a4q O i)) H:=.of (Keep.refl _ _) fun _ h=>b2d h
 have at_i:∀ l:Option L,(ρ.set i l)[i]? = some l:=fun l=>by rw [getElem?_set_self hi]
 have at_j:∀ (l:Option L) j,j ≠ i->(ρ.set i l)[j]? = ρ[j]?:=fun l j hj=>getElem?_set_ne (Ne.symm hj)
 have st_j:∀ j,j ≠ i->(σ.set i (some v))[j]? = σ[j]?:=fun j hj=>getElem?_set_ne (Ne.symm hj)
 have ne:∀ {j:Nat} {l:L},(ρ.set i (some (.d x)))[j]? = some (some l)->(∀ x,l ≠ .d x)->j ≠ i/\ρ[j]? = some (some l):=fun{j l} e n=>by
  by_cases hj:j=i
  ·subst hj;rw [at_i] at e;cases e;exact absurd rfl (n _)
  ·rw [at_j _ j hj] at e;exact⟨hj,e⟩
 refine⟨⟨fun j y e=>?_,fun j ys e=>?_,fun j ys e=>?_,fun j k e=>?_,fun j e=>?_,fun a b q e1 e2=>R.inj a b q (a2m e1).2 (a2m e2).2,fun j q e=>R.has' j q (a2m e).2,R.am,R.frs,R.same,R.kept,R.ml,R.pin,fun j q e l h1 h2=>?_,R.sc,?_⟩,P⟩
 ·by_cases hj:j=i
  ·subst hj;rw [at_i] at e;cases e
   exact⟨v,by rw [getElem?_set_self (by rw [R.len];exact hi)],P _ _ h⟩
  ·rw [at_j _ j hj] at e
   obtain⟨v,h1,h2⟩:=R.dat j y e
   exact⟨v,by rw [st_j j hj];exact h1,P _ _ h2⟩
 ·obtain⟨hj,e⟩:=ne e fun _ z=>nomatch z
  obtain⟨q,ws,h1,h2,h3,h4,h5⟩:=R.own j ys e
  exact⟨q,ws,(a3b hj).trans h1,h2,by rw [st_j j hj];exact h3,h4,P.all h5⟩
 ·obtain⟨hj,e⟩:=ne e fun _ z=>nomatch z
  obtain⟨q,ws,h1,h3,h4,h5⟩:=R.bor j ys e
  exact⟨q,ws,(a3b hj).trans h1,by rw [st_j j hj];exact h3,h4,P.all h5⟩
 ·obtain⟨hj,e⟩:=ne e fun _ z=>nomatch z
  obtain⟨q,h1,h3,h4⟩:=R.tap j k e
  exact⟨q,(a3b hj).trans h1,by rw [st_j j hj];exact h3,h4⟩
 ·obtain⟨hj,e⟩:=ne e fun _ z=>nomatch z
  rw [st_j j hj];exact R.scr j e
 ·obtain⟨hj,e'⟩:=ne h1 fun x z=>by subst z;cases h2
  rw [a3b hj];exact R.lnt j q e _ e' h2
 ·rw [length_set,length_set];exact R.len
noncomputable def Rc.add(c:Rc)(p:Addr):Rc:={ c with P:=fun a=>c.P a ∨ a=p }
theorem a9u{p a:Addr}(h:live c O a)(n:a ≠ p):live (c.add p) O a:=⟨h.1,fun z=>z.elim h.2.1 n,h.2.2⟩
theorem a5w{p a:Addr}(h:live (c.add p) O a):live c O a/\a ≠ p:=⟨⟨h.1,fun z=>h.2.1 (.inl z),h.2.2⟩,fun z=>h.2.1 (.inr z)⟩
theorem Rel.lay{p:Addr}{o:HO}(R:Rel K c O ρ σ H)(hp:H p=none):Rel K (c.add p) O ρ σ (upd H p o)/\Pers K (live c O) H (live (c.add p) O) (upd H p o):=by
 have P:Pers K (live c O) H (live (c.add p) O) (upd H p o):=.new hp (fun a h n=>a9u h n) o
 have S:=a0m hp o
 refine⟨R.to (fun _=>rfl) (fun i q hq z=>⟨z.1,z.2.1,fun w=>w.elim z.2.2 fun e=>?_⟩) rfl rfl P (fun i q vs _ h=>S _ _ h) (fun _ _ _ z=>z) R.am R.frs (fun b ob n q=>S _ _ (R.same b ob n q))
  (fun b n z=>R.kept b n (S.free z)) (fun p h=>let ⟨vs,q⟩:=R.ml p h;⟨vs,S _ _ q⟩) (fun q h z=>?_) (fun _=>rfl) (R.sc.keep (S:=Any) S.keep),P⟩
 ·obtain⟨_,vs,h⟩:=R.has i q hq
  rw [e,hp] at h;cases h
 ·rcases h with(h | rfl) | h
  ·exact R.pin q (.inl h) (S.free z)
  ·rw [a0e] at z;cases z
  ·exact R.pin q (.inr h) (S.free z)
theorem Rel.unadd{p:Addr}(R:Rel K (c.add p) O ρ σ H):Rel K c O ρ σ H/\Pers K (live (c.add p) O) H (live c O) H:=by
 have P:Pers K (live (c.add p) O) H (live c O) H:=.of (Keep.refl _ _) fun a h=>(a5w h).1
 exact⟨R.to (fun _=>rfl) (fun i q _ z=>⟨z.1,z.2.1,fun w=>z.2.2 (.inl w)⟩) rfl rfl P (fun _ _ _ _ h=>h) (fun _ _ _ z=>z) R.am R.frs R.same R.kept R.ml (fun q h=>R.pin q (h.elim (fun z=>.inl (.inl z)) .inr)) (fun _=>rfl) R.sc,P⟩
noncomputable def owned(O:Own)(i:Nat)(p:Addr):Own:=fun j=>if j=i then some p else O j
theorem a7t{i j:Nat}{p:Addr}(h:j ≠ i):owned O i p j=O j:=if_neg h
theorem b2e{i:Nat}{p:Addr}:owned O i p i=some p:=if_pos rfl
theorem Rel.setOwn{i:Nat}{p:Addr}{xs:List PyData}{vs:List V}(R:Rel K (c.add p) O ρ σ H)(hi:i < ρ.length)(h0:c.H0 p=none)(hB:¬ c.B p)(hP:¬ c.P p)(hn:∀ j,O j ≠ some p)(hAp:c.A p)(hH:H p=some (.lst vs))(hA:a0b K H (live (c.add p) O) xs vs) :
  Rel K c (owned O i p) (ρ.set i (some (.own xs))) (σ.set i (some (.ref p))) H/\Pers K (live (c.add p) O) H (live c (owned O i p)) H:=by
 have P:Pers K (live (c.add p) O) H (live c (owned O i p)) H:=.of (Keep.refl _ _) fun a h=>by
  obtain⟨h1,h2⟩:=a5w h
  refine⟨h1.1,h1.2.1,fun j e=>?_⟩
  by_cases hj:j=i
  ·subst hj;rw [b2e] at e;cases e;exact h2 rfl
  ·rw [a7t hj] at e;exact h1.2.2 j e
 have at_i:(ρ.set i (some (.own xs)))[i]? = some (some (.own xs)):=by rw [getElem?_set_self hi]
 have at_j:∀ j,j ≠ i->(ρ.set i (some (.own xs)))[j]? = ρ[j]?:=fun j hj=>getElem?_set_ne (Ne.symm hj)
 have st_j:∀ j,j ≠ i->(σ.set i (some (.ref p)))[j]? = σ[j]?:=fun j hj=>getElem?_set_ne (Ne.symm hj)
 have ne:∀ {j:Nat} {l:L},(ρ.set i (some (.own xs)))[j]? = some (some l)->(∀ x,l ≠ .own x)->j ≠ i/\ρ[j]? = some (some l):=fun{j l} e n=>by
  by_cases hj:j=i
  ·subst hj;rw [at_i] at e;cases e;exact absurd rfl (n _)
  ·rw [at_j j hj] at e;exact⟨hj,e⟩
 have ow:∀ {j:Nat} {q:Addr},owned O i p j=some q->(j=i/\q=p) ∨ (j ≠ i/\O j=some q):=fun{j q} e=>by
  by_cases hj:j=i
  ·subst hj;rw [b2e] at e;cases e;exact .inl ⟨rfl,rfl⟩
  ·rw [a7t hj] at e;exact .inr ⟨hj,e⟩
 refine⟨⟨fun j y e=>?_,fun j ys e=>?_,fun j ys e=>?_,fun j k e=>?_,fun j e=>?_,fun a b q e1 e2=>?_,fun j q e=>?_,R.am,R.frs,R.same,R.kept,R.ml,fun q h=>R.pin q (h.elim (fun z=>.inl (.inl z)) .inr),fun j q e l h1 h2=>?_,R.sc,?_⟩,P⟩
 ·obtain⟨hj,e⟩:=ne e fun _ z=>nomatch z
  obtain⟨v,h1,h2⟩:=R.dat j y e
  exact⟨v,by rw [st_j j hj];exact h1,P _ _ h2⟩
 ·by_cases hj:j=i
  ·subst hj;rw [at_i] at e;cases e
   exact⟨p,vs,b2e,⟨hB,R.frs p h0,hP⟩,by rw [getElem?_set_self (by rw [R.len];exact hi)],hH,P.all hA⟩
  ·rw [at_j j hj] at e
   obtain⟨q,ws,h1,h2,h3,h4,h5⟩:=R.own j ys e
   exact⟨q,ws,(a7t hj).trans h1,⟨h2.1,h2.2.1,fun z=>h2.2.2 (.inl z)⟩,by rw [st_j j hj];exact h3,h4,P.all h5⟩
 ·obtain⟨hj,e⟩:=ne e fun _ z=>nomatch z
  obtain⟨q,ws,h1,h3,h4,h5⟩:=R.bor j ys e
  exact⟨q,ws,(a7t hj).trans h1,by rw [st_j j hj];exact h3,h4,P.all h5⟩
 ·obtain⟨hj,e⟩:=ne e fun _ z=>nomatch z
  obtain⟨q,h1,h3,h4⟩:=R.tap j k e
  exact⟨q,(a7t hj).trans h1,by rw [st_j j hj];exact h3,h4⟩
 ·obtain⟨hj,e⟩:=ne e fun _ z=>nomatch z
  rw [st_j j hj];exact R.scr j e
 ·rcases ow e1 with⟨h1,h2⟩ | ⟨h1,h2⟩<;>rcases ow e2 with⟨h3,h4⟩ | ⟨h3,h4⟩
  ·rw [h1,h3]
  ·rw [h2] at h4;exact absurd h4 (hn b)
  ·rw [h4] at h2;exact absurd h2 (hn a)
  ·exact R.inj a b q h2 h4
 ·rcases ow e with⟨h1,h2⟩ | ⟨h1,h2⟩
  ·subst h2;exact⟨hAp,vs,hH⟩
  ·exact R.has' j q h2
 ·obtain⟨hj,e'⟩:=ne h1 fun x z=>by subst z;cases h2
  rw [a7t hj];exact R.lnt j q e _ e' h2
 ·rw [length_set,length_set];exact R.len
theorem Rel.disown{i:Nat}{xs:List PyData}(R:Rel K c O ρ σ H)(hl:ρ[i]? = some (some (.own xs))):∃ p vs,σ[i]? = some (some (.ref p))/\O i=some p/\b0j c p/\H p=some (.lst vs)/\Rel K (c.add p) (a4q O i) (ρ.set i none) σ H/\a0b K H (live (c.add p) (a4q O i)) xs vs:=by
 obtain⟨p,vs,hO,hB,hσ,hH,hA⟩:=R.own i xs hl
 have hlive:∀ a,live c O a->live (c.add p) (a4q O i) a:=fun a h=>⟨h.1,fun z=>z.elim h.2.1 fun e=>by subst e;exact c0g hO h,(b2d (i:=i) h).2.2⟩
 have P:Pers K (live c O) H (live (c.add p) (a4q O i)) H:=.of (Keep.refl _ _) hlive
 have ne:∀ {j:Nat} {l:L},(ρ.set i none)[j]? = some (some l)->j ≠ i/\ρ[j]? = some (some l):=fun{j l} e=>by
  by_cases hj:j=i
  ·subst hj
   rw [getElem?_set_self (List.getElem?_eq_some_iff.mp hl).1] at e
   cases e
  ·rw [getElem?_set_ne (Ne.symm hj)] at e;exact⟨hj,e⟩
 refine⟨p,vs,hσ,hO,hB,hH,⟨fun j x e=>?_,fun j ys e=>?_,fun j ys e=>?_,fun j k e=>?_,fun j e=>R.scr j (ne e).2,fun a b q e1 e2=>R.inj a b q (a2m e1).2 (a2m e2).2,fun j q e=>R.has' j q (a2m e).2,R.am,R.frs,R.same,R.kept,R.ml,fun q h z=>?_,fun j q e l h1 h2=>?_,R.sc,?_⟩,P.all hA⟩
 ·obtain⟨hj,e⟩:=ne e
  obtain⟨v,h1,h2⟩:=R.dat j x e
  exact⟨v,h1,P _ _ h2⟩
 ·obtain⟨hj,e⟩:=ne e
  obtain⟨q,ws,h1,h2,h3,h4,h5⟩:=R.own j ys e
  exact⟨q,ws,(a3b hj).trans h1,⟨h2.1,h2.2.1,fun z=>z.elim h2.2.2 fun e=>hj (R.inj j i p (by rw [← e];exact h1) hO)⟩,h3,h4,P.all h5⟩
 ·obtain⟨hj,e⟩:=ne e
  obtain⟨q,ws,h1,h3,h4,h5⟩:=R.bor j ys e
  exact⟨q,ws,(a3b hj).trans h1,h3,h4,P.all h5⟩
 ·obtain⟨hj,e⟩:=ne e
  obtain⟨q,h1,h3,h4⟩:=R.tap j k e
  exact⟨q,(a3b hj).trans h1,h3,h4⟩
 ·rcases h with(h | rfl) | h
  ·exact R.pin q (.inl h) z
  ·rw [hH] at z;cases z
  ·exact R.pin q (.inr h) z
 ·obtain⟨hj,e'⟩:=ne h1
  rw [a3b hj];exact R.lnt j q e _ e' h2
 ·rw [length_set];exact R.len
end
end L2
end
section
namespace L2
open PySem PySem.Spec PyProof.Rows
inductive DV where
 | d (x:PyData)
 | sl (i:Nat)
noncomputable def AtV(K:W.Frag)(S:Addr->Prop)(σ:St)(H:Hp):DV->V->Prop
 | .d x,v=>AtD K H S x v
 | .sl i,v=>σ[i]? = some (some v)
noncomputable def b1e:L->Option PyData
 | .d x=>some x
 | .own xs=>some (.list xs)
 | .bor xs=>some (.list xs)
 | _=>none
noncomputable def a0k(ρ:Rho):DV->Option PyData
 | .d x=>some x
 | .sl i=>(ρ[i]?.join).bind b1e
def AtT(K:W.Frag)(H:Hp)(S:Addr->Prop)(x:PyData)(v:V):Prop:=AtD K H S x v ∨ ∃ ds a vs,x=.list ds/\v=.ref a/\H a=some (.lst vs)/\a0b K H S ds vs
def need{α:Type}(o:Option α)(k:α->Prop):Prop:=match o with
 | some a=>k a
 | none=>False
theorem a0n{α:Type}{a:α}{k:α->Prop}:need (some a) k=k a:=rfl
theorem c7v{α:Type}{k:α->Prop}:need (none:Option α) k=False:=rfl
theorem ne{α:Type}{o:Option α}{k:α->Prop}(h:need o k):∃ a,o=some a/\k a:=by
 cases o with
 | none=>exact h.elim
 | some a=>exact⟨a,rfl,h⟩
theorem d5s{α:Type}{o:Option α}{k:α->Prop}{a:α}(e:o=some a)(h:k a):need o k:=by rw [e];exact h
theorem itT{a b:Prop}:(if true=true then a else b)=a:=rfl
theorem itF{a b:Prop}:(if false=true then a else b)=b:=rfl
theorem mapC{α β:Type}{f:α->β}{a:α}{l:List α}:(a :: l).map f=f a :: l.map f:=rfl
theorem mapN{α β:Type}{f:α->β}:([]:List α).map f=[]:=rfl
abbrev TDE:=Rho->(DV->Rho->Prop)->Prop
abbrev TDF:=Rho->(List PyData->Rho->Prop)->Prop
abbrev TDT:=Rho->(Bool->Rho->Prop)->Prop
abbrev TDA:=Rho->(List DV->Rho->Prop)->Prop
def b4i(c:Rc)(O:Own)(p:Addr):Prop:=c.H0 p=none/\¬ c.B p/\¬ c.P p/\∀ j,O j ≠ some p
def AdE(K:W.Frag)(t:TE)(dt:TDE):Prop:=∀ (c:Rc) (O:Own) (ρ:Rho) (σ:St) (H:Hp) (Qd:DV->Rho->Prop) (Q:VK),Rel K c O ρ σ H->dt ρ Qd ->
 (∀ x ρ' O' v H',Qd x ρ'->Rel K c O' ρ' σ H'->Pers K (live c O) H (live c O') H'->AtV K (live c O') σ H' x v->Q v H')->t σ H Q
def AdF(K:W.Frag)(t:TE)(dt:TDF):Prop:=∀ (c:Rc) (O:Own) (ρ:Rho) (σ:St) (H:Hp) (Qd:List PyData->Rho->Prop) (Q:VK),Rel K c O ρ σ H->dt ρ Qd ->
 (∀ xs ρ' O' p vs H',Qd xs ρ'->Rel K (c.add p) O' ρ' σ H'->Pers K (live c O) H (live (c.add p) O') H'->b4i c O' p->H' p=some (.lst vs)->a0b K H' (live (c.add p) O') xs vs->Q (.ref p) H')->t σ H Q
def AdT(K:W.Frag)(t:TT)(dt:TDT):Prop:=∀ (c:Rc) (O:Own) (ρ:Rho) (σ:St) (H:Hp) (Qd:Bool->Rho->Prop) (Q:Bool->Hp->Prop),Rel K c O ρ σ H->dt ρ Qd ->
 (∀ b ρ' O' H',Qd b ρ'->Rel K c O' ρ' σ H'->Pers K (live c O) H (live c O') H'->Q b H')->t σ H Q
noncomputable def AtVs(K:W.Frag)(S:Addr->Prop)(σ:St)(H:Hp):List DV->List V->Prop:=Paired (AtV K S σ H)
def AdA(K:W.Frag)(t:TA)(dt:TDA):Prop:=∀ (c:Rc) (O:Own) (ρ:Rho) (σ:St) (H:Hp) (Qd:List DV->Rho->Prop) (Q:List V->Hp->Prop),Rel K c O ρ σ H->dt ρ Qd ->
 (∀ xs ρ' O' vs H',Qd xs ρ'->Rel K c O' ρ' σ H'->Pers K (live c O) H (live c O') H'->AtVs K (live c O') σ H' xs vs->Q vs H')->t σ H Q
def DE(X:Cx)(e:Expr)(dt:TDE):Prop:=∃ t,PE X e t/\AdE X.K t dt
def DF(X:Cx)(e:Expr)(dt:TDF):Prop:=∃ t,PE X e t/\AdF X.K t dt
def DT(X:Cx)(e:Expr)(dt:TDT):Prop:=∃ t,PT X e t/\AdT X.K t dt
def DW(X:Cx)(e:Expr)(dt:TDT):Prop:=∃ t,PW X e t/\AdT X.K t dt
def DA(X:Cx)(es:List Expr)(dt:TDA):Prop:=∃ t,PA X es t/\AdA X.K t dt
section
variable{K:W.Frag}{c:Rc}{O:Own}{ρ:Rho}{σ:St}{H H':Hp}{S S':Addr->Prop}
theorem AtV.pers{x:DV}{v:V}(h:AtV K S σ H x v)(P:Pers K S H S' H'):AtV K S' σ H' x v:=by
 cases x with
 | d x=>exact P _ _ h
 | sl i=>exact h
theorem AtVs.pers{xs:List DV}{vs:List V}(h:AtVs K S σ H xs vs)(P:Pers K S H S' H'):AtVs K S' σ H' xs vs:=Paired.imp' (fun _ _ q=>q.pers P) h
theorem AtD.top{x:PyData}{v:V}(h:AtD K H S x v):AtT K H S x v:=.inl h
theorem Rel.top(R:Rel K c O ρ σ H){x:DV}{v:V}{d:PyData}(h:AtV K (live c O) σ H x v)(e:a0k ρ x=some d):AtT K H (live c O) d v:=by
 cases x with
 | d x=>cases e;exact .inl h
 | sl i =>
  have h':σ[i]? = some (some v):=h
  have e':(ρ[i]?.join).bind b1e=some d:=e
  cases q:ρ[i]? with
  | none=>rw [q] at e';cases e'
  | some ol =>
   cases ol with
   | none=>rw [q] at e';cases e'
   | some l =>
    rw [q] at e'
    cases l with
    | d x =>
     cases e'
     obtain⟨w,h1,h2⟩:=R.dat i _ q
     rw [h'] at h1;cases h1
     exact .inl h2
    | own xs =>
     cases e'
     obtain⟨p,vs,_,_,h1,h2,h3⟩:=R.own i _ q
     rw [h'] at h1;cases h1
     exact .inr ⟨xs,p,vs,rfl,rfl,h2,h3⟩
    | bor xs =>
     cases e'
     obtain⟨p,vs,_,h1,h2,h3⟩:=R.bor i _ q
     rw [h'] at h1;cases h1
     exact .inr ⟨xs,p,vs,rfl,rfl,h2,h3⟩
    | tape k=>cases e'
    | scr=>cases e'
theorem AtT.list{ds:List PyData}{v:V}(h:AtT K H S (.list ds) v):∃ a vs,v=.ref a/\H a=some (.lst vs)/\a0b K H S ds vs:=by
 rcases h with h | ⟨ds',a,vs,e,e2,h1,h2⟩
 ·obtain⟨a,vs,e,_,h1,h2⟩:=a5b h
  exact⟨a,vs,e,h1,h2⟩
 ·cases e;exact⟨a,vs,e2,h1,h2⟩
theorem AtT.at{x:PyData}{v:V}(h:AtT K H S x v)(n:∀ ds,x ≠ .list ds):AtD K H S x v:=by
 rcases h with h | ⟨ds',a,vs,e,_⟩
 ·exact h
 ·exact absurd e (n ds')
theorem AtT.any{x:PyData}{v:V}(h:AtT K H S x v):AtD K H Any x v:=by
 rcases h with h | ⟨ds',a,vs,e,e2,h1,h2⟩
 ·exact AtD.more (fun _ _=>trivial) _ _ h
 ·subst e e2;exact a4m trivial h1 (a0b.more (fun _ _=>trivial) _ _ h2)
def dVar(i:Nat):TDE:=fun ρ Q=>(ρ[i]?.join).isSome=true/\Q (.sl i) ρ
theorem e0v{i:Nat}:AdE K (tVar i) (dVar i):=by
 intro c O ρ σ H Qd Q R h k
 obtain⟨h0,h⟩:=h
 have ex:∃ v,σ[i]? = some (some v):=by
  cases q:ρ[i]? with
  | none=>rw [q] at h0;cases h0
  | some ol =>
   cases ol with
   | none=>rw [q] at h0;cases h0
   | some l =>
    cases l with
    | d x=>obtain⟨w,h1,_⟩:=R.dat i _ q;exact⟨w,h1⟩
    | own xs=>obtain⟨p,vs,_,_,h1,_⟩:=R.own i _ q;exact⟨_,h1⟩
    | bor xs=>obtain⟨p,vs,_,h1,_⟩:=R.bor i _ q;exact⟨_,h1⟩
    | tape k=>obtain⟨p,_,h1,_⟩:=R.tap i _ q;exact⟨_,h1⟩
    | scr=>exact⟨_,R.scr i q⟩
 obtain⟨v,hv⟩:=ex
 exact⟨v,hv,k _ _ _ _ _ h R .refl hv⟩
def dC(x:PyData):TDE:=fun ρ Q=>Q (.d x) ρ
theorem ad_c{x:PyData}{v:V}(hx:∀ (S:Addr->Prop) H,AtD K H S x v):AdE K (tC v) (dC x):=fun c O ρ σ H Qd Q R h k=>k _ _ _ _ _ h R .refl (hx _ _)
end
section
variable{X:Cx}{a b e:Expr}{es:List Expr}{da db:TDE}{pos:Pos}
theorem dv(i:Nat){x:Str}(hN:X.N[i]? = some x:=by rfl)(hv:Vis X.env.scope x:=by first | exact Or.inl rfl | exact Or.inr (Or.inl rfl) | exact Or.inr (Or.inr rfl)) (hd:(x == ("__debug__" : Str))=false:=by decide)
  (hcd:(x == ("__classdict__" : Str))=false:=by decide):DE X (.Name x pos) (dVar i):=⟨_,b0u hN hv hd hcd,e0v⟩
theorem a0g{i j}:DE X (.Constant (.int i) j pos) (dC (.int i)):=⟨_,a0v,ad_c fun _ _=>a1y i⟩
theorem a0l{i j}:DE X (.Constant (.str i) j pos) (dC (.str i)):=⟨_,a2y,ad_c fun _ _=>a1u i⟩
theorem b6g{i j}:DE X (.Constant (.bool i) j pos) (dC (.bool i)):=⟨_,pe_bl,ad_c fun _ _=>a3i i⟩
theorem e0w{j}:DE X (.Constant .none j pos) (dC .none):=⟨_,e0e,ad_c fun _ _=>b5i⟩
theorem d5t{x:Str}{i:Int}(hg:Gl X x)(hm:∃ t,X.mg x=some (.int i t)) (hd:(x == ("__debug__" : Str))=false:=by decide):DE X (.Name x pos) (dC (.int i)):=by
 obtain⟨t,hm⟩:=hm
 exact⟨_,a3d hg hm (v:=.int i) ⟨t,rfl⟩ hd,ad_c fun _ _=>a1y i⟩
abbrev F2:=PyData->PyData->Option PyData
def AdR(K:W.Frag)(r:R2)(f:F2):Prop:=∀ (S:Addr->Prop) (H:Hp) (x y:V) (dx dy z:PyData) (Q:VK),Frs S H->AtT K H S dx x->AtT K H S dy y->f dx dy=some z ->
 (∀ v H',Same H H'->AtD K H' S z v->Q v H')->r x y H Q
def dOp(f:F2)(da db:TDE):TDE:=fun ρ Q=>da ρ fun x ρ1=>db ρ1 fun y ρ2=>need (a0k ρ2 x) fun dx=>need (a0k ρ2 y) fun dy=>need (f dx dy) fun z=>Q (.d z) ρ2
theorem b9g{K:W.Frag}{r:R2}{f:F2}{ta tb:TE}(hr:AdR K r f)(ha:AdE K ta da)(hb:AdE K tb db):AdE K (tOp r ta tb) (dOp f da db):=by
 intro c O ρ σ H Qd Q R h k
 refine ha c O ρ σ H _ _ R h fun x ρ1 O1 v H1 h1 R1 P1 a1=>?_
 refine hb c O1 ρ1 σ H1 _ _ R1 h1 fun y ρ2 O2 u H2 h2 R2 P2 a2=>?_
 obtain⟨dx,e1,hn1⟩:=ne (h2)
 obtain⟨dy,e2,hn2⟩:=ne (hn1)
 obtain⟨z,e3,h3⟩:=ne (hn2)
 refine hr (live c O2) H2 v u dx dy z Q R2.frsLive (R2.top (a1.pers P2) e1) (R2.top a2 e2) e3 fun w H3 s3 a3=>?_
 exact k _ _ _ _ _ h3 (R2.grow s3) ((P1.trans P2).trans (.same s3)) a3
theorem a1r{op:Operator}{r:R2}{f:F2}(ho:OpR X (binaryOp op) r)(hr:AdR X.K r f)(ha:DE X a da)(hb:DE X b db):DE X (.BinOp a op b pos) (dOp f da db):=by
 obtain⟨ta,pa,aa⟩:=ha
 obtain⟨tb,pb,ab⟩:=hb
 exact⟨_,a2k ho pa pb,b9g hr aa ab⟩
theorem a7e{op:CmpOp}{r:R2}{f:F2}(ho:OpR X (compareOp op) r)(hr:AdR X.K r f)(ha:DE X a da)(hb:DE X b db)(hm:behindInMarks op b=false):DE X (.Compare a [op] [b] pos) (dOp f da db):=by
 obtain⟨ta,pa,aa⟩:=ha
 obtain⟨tb,pb,ab⟩:=hb
 exact⟨_,a2r ho pa pb hm,b9g hr aa ab⟩
theorem a1b{r:R2}{f:F2}(ho:IxR X r)(hr:AdR X.K r f)(ha:DE X a da)(hb:DE X b db)(hs:c3g b):DE X (.Subscript a b pos) (dOp f da db):=by
 obtain⟨ta,pa,aa⟩:=ha
 obtain⟨tb,pb,ab⟩:=hb
 exact⟨_,a3f ho pa pb hs,b9g hr aa ab⟩
end
section
variable{K:W.Frag}
theorem AtT.int{H:Hp}{S:Addr->Prop}{i:Int}{v:V}(h:AtT K H S (.int i) v):v=.int i:=b1c (h.at fun _ z=>nomatch z)
theorem AtT.str{H:Hp}{S:Addr->Prop}{i:Str}{v:V}(h:AtT K H S (.str i) v):v=.str i:=a9t (h.at fun _ z=>nomatch z)
theorem AtT.bool{H:Hp}{S:Addr->Prop}{i:Bool}{v:V}(h:AtT K H S (.bool i) v):v=.bl i:=a7s (h.at fun _ z=>nomatch z)
theorem AtT.none{H:Hp}{S:Addr->Prop}{v:V}(h:AtT K H S .none v):v=.non:=b1b (h.at fun _ z=>nomatch z)
theorem AtT.tup{H:Hp}{S:Addr->Prop}{ds:List PyData}{v:V}(h:AtT K H S (.tuple ds) v):∃ a xs,v=.ref a/\SqT K H a xs/\a0b K H S ds xs:=a3l (h.at fun _ z=>nomatch z)
theorem a0b.eq_nil{H:Hp}{S:Addr->Prop}{ds:List PyData}(h:a0b K H S ds []):ds=[]:=List.eq_nil_of_length_eq_zero h.length.symm
noncomputable def fAdd:F2
 | .int i,.int j=>some (.int (i + j))
 | .str x,.str y=>if x.length + y.length <= sizeLine then some (.str (x ++ y)) else none
 | .list xs,.list ys=>if xs.length + ys.length <= sizeLine then some (.list (xs ++ ys)) else none
 | .tuple xs,.tuple ys=>if xs.length + ys.length <= sizeLine then some (.tuple (xs ++ ys)) else none
 | _,_=>none
noncomputable def fSub:F2
 | .int i,.int j=>some (.int (i - j))
 | _,_=>none
noncomputable def b2f(i:Int):Bool:=@decide (-(2 ^ 64) < i) (Classical.propDecidable _) && @decide (i < 2 ^ 64) (Classical.propDecidable _)
noncomputable def fMul:F2
 | .int i,.int j=>if b2f i || b2f j then some (.int (i * j)) else none
 | .list xs,.int j=>@ite _ (-(2 ^ 63) <= j/\j < 2 ^ 63/\xs.length * j.toNat <= sizeLine) (Classical.propDecidable _) (some (.list (List.replicate j.toNat xs).flatten)) none
 | _,_=>none
noncomputable def fMod:F2
 | .int i,.int j=>if 0 < j then some (.int (i % j)) else none
 | _,_=>none
noncomputable def fCmp(p:Int->Int->Bool):F2
 | .int i,.int j=>some (.bool (p i j))
 | _,_=>none
theorem c0h:AdR K (rI0 fun i j=>.int (i - j)) fSub:=by
 intro S H x y dx dy z Q f hx hy e k
 unfold fSub at e
 split at e<;>cases e
 rw [hx.int,hy.int]
 exact⟨_,_,rfl,rfl,k _ _ (Same.refl _) (a1y _)⟩
theorem a7f(p:Int->Int->Bool):AdR K (rI0 fun i j=>.bl (p i j)) (fCmp p):=by
 intro S H x y dx dy z Q f hx hy e k
 unfold fCmp at e
 split at e<;>cases e
 rw [hx.int,hy.int]
 exact⟨_,_,rfl,rfl,k _ _ (Same.refl _) (a3i _)⟩
theorem c7w:AdR K (rI (fun _ j=>0 < j) fun i j=>.int (i % j)) fMod:=by
 intro S H x y dx dy z Q f hx hy e k
 unfold fMod at e
 split at e
 ·split at e
  ·rename_i hc
   cases e
   rw [hx.int,hy.int]
   exact⟨_,_,rfl,rfl,hc,k _ _ (Same.refl _) (a1y _)⟩
  ·cases e
 ·cases e
def d4h(K:W.Frag):R2:=fun x y H Q=>∃ a b ys,x=.ref a/\y=.ref b/\SqT K H a []/\SqT K H b ys/\Q (.ref b) H
theorem d5u{X:Cx}:OpR X (binaryOp .Add) (d4h X.K):=by
 intro pins s σ H x y v u Q I rx ry h
 obtain⟨a,b,ys,rfl,rfl,ha,hb,q⟩:=h
 cases rx
 cases ry
 obtain⟨its,r1,p1,_⟩:=I.tuple ha
 obtain⟨its2,r2,p2,_⟩:=I.tuple hb
 cases r1
 obtain⟨⟨cls,dd,data,sl⟩,ho,hc,n,hd⟩:=id p1
 obtain⟨⟨cls2,dd2,data2,sl2⟩,ho2,hc2,n2,hd2⟩:=id p2
 simp only at hc hd hc2 hd2
 subst hc hd hc2 hd2
 exact concat_meets ⟨_,ho,rfl⟩ ⟨_,ho2,rfl⟩ noFill_tuple_add seq_tuple_add PySem.F.slot_tuple_add PySem.F.entry_tuple_add (PySem.F.args_tuple_add_2 _ _)
   (tuple_addW0 a b _ its2.toArray n n2 dd dd2 sl sl2 (by simp)) ⟨ho,ho2,⟨.ref b,H,I,rfl,q⟩⟩
def b7l(K:W.Frag):R2:=fun x y H Q=>rI0 (fun i j=>.int (i + j)) x y H Q ∨ (∃ i j,x=.str i/\y=.str j/\i.length + j.length <= sizeLine/\Q (.str (i ++ j)) H) ∨ rCat x y H Q ∨ d4f K x y H Q ∨ d4h K x y H Q
theorem a1a{X:Cx}:OpR X (binaryOp .Add) (b7l X.K):=b3b.or (c4q.or (a7c.or (d5q.or d5u)))
theorem a1s:AdR K (b7l K) fAdd:=by
 intro S H x y dx dy z Q f hx hy e k
 unfold fAdd at e
 split at e
 ·cases e
  rw [hx.int,hy.int]
  exact .inl ⟨_,_,rfl,rfl,k _ _ (Same.refl _) (a1y _)⟩
 ·split at e
  ·rename_i hc
   cases e
   rw [hx.str,hy.str]
   exact .inr (.inl ⟨_,_,rfl,rfl,hc,k _ _ (Same.refl _) (a1u _)⟩)
  ·cases e
 ·split at e
  ·rename_i hc
   cases e
   obtain⟨a,vs,rfl,h1,h2⟩:=hx.list
   obtain⟨b,ws,rfl,h3,h4⟩:=hy.list
   refine .inr (.inr (.inl ⟨a,b,vs,ws,rfl,rfl,h1,h3,by rw [h2.length,h4.length];exact hc,fun p hp=>k _ _ (a0m hp _) (c0d (f p hp) hp (h2.append h4))⟩))
  ·cases e
 ·split at e
  ·rename_i hc
   cases e
   obtain⟨a,vs,rfl,h1,h2⟩:=hx.tup
   obtain⟨b,ws,rfl,h3,h4⟩:=hy.tup
   by_cases hv:vs=[]
   ·subst hv
    obtain rfl:=h2.eq_nil
    refine .inr (.inr (.inr (.inr ⟨a,b,ws,rfl,rfl,h1,h3,k _ _ (Same.refl _) ?_⟩)))
    exact a1k h3 h4
   ·refine .inr (.inr (.inr (.inl ⟨a,b,vs,ws,rfl,rfl,h1,h3,hv,by rw [h2.length,h4.length];exact hc,fun ew=>k _ _ (Same.refl _) ?_,fun ew p hp=>k _ _ (a0m hp _) (b2c hp (h2.append h4))⟩)))
    subst ew
    obtain rfl:=h4.eq_nil
    rw [append_nil]
    exact a1k h1 h2
  ·cases e
 ·cases e
def c3k:R2:=fun x y H Q=>rI CMul (fun i j=>.int (i * j)) x y H Q ∨ rRep x y H Q
theorem c7x{X:Cx}:OpR X (binaryOp .Mult) c3k:=b0w.or e0r
theorem a0b.rep{H:Hp}{S:Addr->Prop}{ds:List PyData}{xs:List V}(h:a0b K H S ds xs):∀ n:Nat,a0b K H S (List.replicate n ds).flatten (List.replicate n xs).flatten
 | 0=>.nil
 | n + 1=>by
  rw [replicate_succ,replicate_succ,flatten_cons,flatten_cons]
  exact h.append (a0b.rep h n)
theorem e0x:AdR K c3k fMul:=by
 intro S H x y dx dy z Q f hx hy e k
 unfold fMul at e
 split at e
 ·split at e
  ·rename_i hc
   cases e
   rw [hx.int,hy.int]
   refine .inl ⟨_,_,rfl,rfl,?_,k _ _ (Same.refl _) (a1y _)⟩
   simp only [b2f,or_eq_true,and_eq_true,decide_eq_true_eq] at hc
   exact hc
  ·cases e
 ·split at e
  ·rename_i hc
   cases e
   obtain⟨a,vs,rfl,h1,h2⟩:=hx.list
   rw [hy.int]
   exact .inr ⟨a,_,vs,rfl,rfl,h1,hc.1,hc.2.1,by rw [h2.length];exact hc.2.2,fun p hp=>k _ _ (a0m hp _) (c0d (f p hp) hp (h2.rep _))⟩
  ·cases e
 ·cases e
noncomputable def fEq(neg:Bool):F2:=fun d e=>if SeqAt.shaped d=true/\SeqAt.shaped e=true then some (.bool (if neg then !PyData.eqv d e else PyData.eqv d e)) else none
theorem d4i{neg:Bool}:AdR K (rEqD K neg) (fEq neg):=by
 intro S H x y dx dy z Q f hx hy e k
 unfold fEq at e
 split at e
 ·rename_i hc
  cases e
  exact⟨Any,Any,dx,dy,hx.any,hy.any,hc.1,hc.2,k _ _ (Same.refl _) (a3i _)⟩
 ·cases e
noncomputable def fIx:F2
 | .list xs,.int i=>atI xs i
 | .tuple xs,.int i=>atI xs i
 | .str x,.int i=>if x.length <= sizeLine then(atI x.cps.toList i).map fun c=>.str ⟨#[c]⟩ else none
 | _,_=>none
theorem a1c:AdR K (rIx K) fIx:=by
 intro S H x y dx dy z Q f hx hy e k
 unfold fIx at e
 split at e
 ·obtain⟨a,vs,rfl,h1,h2⟩:=hx.list
  rw [hy.int]
  obtain⟨v,e1,e2⟩:=c3j h2 e
  exact .inl ⟨a,vs,_,v,rfl,rfl,SqL.of h1,e1,k _ _ (Same.refl _) e2⟩
 ·obtain⟨a,vs,rfl,h1,h2⟩:=hx.tup
  rw [hy.int]
  obtain⟨v,e1,e2⟩:=c3j h2 e
  exact .inr (.inl ⟨a,vs,_,v,rfl,rfl,h1,e1,k _ _ (Same.refl _) e2⟩)
 ·split at e
  ·rename_i hc
   rw [hx.str,hy.int]
   cases q:atI (PySem.Str.cps _).toList _ with
   | none=>rw [q] at e;cases e
   | some cc =>
    rw [q] at e
    cases e
    exact .inr (.inr ⟨_,_,cc,rfl,rfl,hc,q,k _ _ (Same.refl _) (a1u _)⟩)
  ·cases e
 ·cases e
noncomputable def a1z:PyData->Bool
 | .none=>true | .bool _=>true | .int _=>true | .str _=>true
 | _=>false
noncomputable def seqD:PyData->Option (List PyData)
 | .list xs=>some xs
 | .tuple xs=>some xs
 | _=>none
noncomputable def eqF:PyData->PyData->Bool
 | .none,.none=>true
 | .bool a,.bool b=>a == b
 | .int a,.int b=>a == b
 | .bool a,.int b=>(if a then(1:Int) else 0) == b
 | .int a,.bool b=>a == (if b then(1:Int) else 0)
 | .str a,.str b=>a == b
 | _,_=>false
noncomputable def inF(x:PyData)(xs:List PyData):Bool:=xs.any fun y=>eqF y x
noncomputable def fIn(neg:Bool):F2:=fun x y=>match y with
 | .str z=>match x with
  | .str w=>some (.bool (if neg then !(!(Builtin.Str.occurrences z w 0 z.length 1).isEmpty) else !(Builtin.Str.occurrences z w 0 z.length 1).isEmpty))
  | _=>none
 | y=>match seqD y with
  | some xs=>if a1z x && xs.all a1z then some (.bool (if neg then !inF x xs else inF x xs)) else none
  | none=>none
end
end L2
end
section
namespace L2
open PySem PySem.Spec PyProof.Rows
section
variable{K:W.Frag}{c:Rc}{O:Own}{ρ:Rho}{σ:St}{H H':Hp}{S S':Addr->Prop}
noncomputable def toV:PyData->V
 | .bool b=>.bl b
 | .int i=>.int i
 | .str x=>.str x
 | _=>.non
theorem b4j{d:PyData}{v:V}(h:AtD K H S d v)(f:a1z d=true):v=toV d/\a8d v=true:=by
 cases d with
 | none=>rw [b1b h];exact⟨rfl,rfl⟩
 | bool b=>rw [a7s h];exact⟨rfl,rfl⟩
 | int i=>rw [b1c h];exact⟨rfl,rfl⟩
 | str x=>rw [a9t h];exact⟨rfl,rfl⟩
 | _=>cases f
def fz(ρ:Rho)(x:DV)(Q:PyData->Rho->Prop):Prop:=match x with
 | .d y=>Q y ρ
 | .sl i=>match ρ[i]?.join with
  | some (.d y)=>Q y ρ
  | some (.own xs)=>Q (.list xs) (ρ.set i (some (.d (.list xs))))
  | _=>False
theorem a2d{i:Nat}{l:L}(h:ρ[i]?.join=some l):ρ[i]? = some (some l):=by
 cases q:ρ[i]? with
 | none=>rw [q] at h;cases h
 | some o=>rw [q] at h;cases o with
  | none=>cases h
  | some l'=>cases h;rfl
theorem Rel.fz{x:DV}{v:V}{Q:PyData->Rho->Prop}(R:Rel K c O ρ σ H)(a:AtV K (live c O) σ H x v)(h:fz ρ x Q):∃ y ρ' O',Q y ρ'/\Rel K c O' ρ' σ H/\Pers K (live c O) H (live c O') H/\AtD K H (live c O') y v:=by
 cases x with
 | d y=>exact⟨y,ρ,O,h,R,.refl,a⟩
 | sl i =>
  have a':σ[i]? = some (some v):=a
  simp only [L2.fz] at h
  split at h
  ·rename_i y e
   have e':=a2d e
   obtain⟨w,h1,h2⟩:=R.dat i y e'
   rw [a'] at h1;cases h1
   exact⟨y,ρ,O,h,R,.refl,h2⟩
  ·rename_i xs e
   have e':=a2d e
   obtain⟨R',P⟩:=R.freeze e'
   have hi:i < ρ.length:=(List.getElem?_eq_some_iff.mp e').1
   obtain⟨w,h1,h2⟩:=R'.dat i (.list xs) (by rw [getElem?_set_self hi])
   rw [a'] at h1;cases h1
   exact⟨_,_,_,h,R',P,h2⟩
  ·exact h.elim
noncomputable def fzs:Rho->List DV->(List PyData->Rho->Prop)->Prop
 | ρ,[],Q=>Q [] ρ
 | ρ,x :: xs,Q=>fz ρ x fun y ρ1=>fzs ρ1 xs fun ys ρ2=>Q (y :: ys) ρ2
theorem c3l{xs:List DV}:∀ {vs:List V} {ρ:Rho} {O:Own} {Q:List PyData->Rho->Prop},Rel K c O ρ σ H->AtVs K (live c O) σ H xs vs->fzs ρ xs Q->∃ ys ρ' O',Q ys ρ'/\Rel K c O' ρ' σ H/\Pers K (live c O) H (live c O') H/\a0b K H (live c O') ys vs:=by
 induction xs with
 | nil =>
  intro vs ρ O Q R a h
  cases a
  exact⟨[],ρ,O,h,R,.refl,.nil⟩
 | cons x xs ih =>
  intro vs ρ O Q R a h
  cases a with
  | cons a as =>
   obtain⟨y,ρ1,O1,h1,R1,P1,a1⟩:=R.fz a h
   obtain⟨ys,ρ2,O2,h2,R2,P2,a2⟩:=ih R1 (AtVs.pers as P1) h1
   exact⟨y :: ys,ρ2,O2,h2,R2,P1.trans P2,.cons (P2 _ _ a1) a2⟩
def dNil:TDA:=fun ρ Q=>Q [] ρ
def c5c(de:TDE)(dr:TDA):TDA:=fun ρ Q=>de ρ fun x ρ1=>dr ρ1 fun xs ρ2=>Q (x :: xs) ρ2
theorem e0y:AdA K tNil dNil:=fun c O ρ σ H Qd Q R h k=>k _ _ _ _ _ h R .refl .nil
theorem d5v{te:TE}{ta:TA}{de:TDE}{da:TDA}(he:AdE K te de)(ha:AdA K ta da):AdA K (a3q te ta) (c5c de da):=by
 intro c O ρ σ H Qd Q R h k
 refine he c O ρ σ H _ _ R h fun x ρ1 O1 v H1 h1 R1 P1 a1=>?_
 refine ha c O1 ρ1 σ H1 _ _ R1 h1 fun xs ρ2 O2 vs H2 h2 R2 P2 a2=>?_
 exact k _ _ _ _ _ h2 R2 (P1.trans P2) (.cons (a1.pers P2) a2)
def dTup(da:TDA):TDE:=fun ρ Q=>da ρ fun xs ρ1=>fzs ρ1 xs fun ys ρ2=>ys.length <= 1000000/\Q (.d (.tuple ys)) ρ2
def dLst(da:TDA):TDF:=fun ρ Q=>da ρ fun xs ρ1=>fzs ρ1 xs fun ys ρ2=>ys.length <= 1000000/\Q ys ρ2
theorem mil{n:Nat}(h:n <= 1000000):n < sizeLine:=Nat.lt_of_le_of_lt h (by decide +kernel)
theorem e0z{ta:TA}{da:TDA}(ha:AdA K ta da):AdE K (tTup ta) (dTup da):=by
 intro c O ρ σ H Qd Q R h k
 refine ha c O ρ σ H _ _ R h fun xs ρ1 O1 vs H1 h1 R1 P1 a1=>?_
 obtain⟨ys,ρ2,O2,⟨hz,h2⟩,R2,P2,a2⟩:=c3l R1 a1 h1
 refine⟨by rw [a2.length];exact le_of_lt (mil hz),fun p hp=>?_⟩
 have s:=a0m hp (.tup vs)
 exact k _ _ _ _ _ h2 (R2.grow s) ((P1.trans P2).trans (.same s)) (b2c hp a2)
theorem b5j{p:Addr}(R:Rel K c O ρ σ H)(hp:H p=none):b4i c O p:=⟨R.free0 hp,fun z=>R.pin p (.inr z) hp,fun z=>R.pin p (.inl z) hp,fun j e=>by obtain⟨_,vs,q⟩:=R.has j p e;rw [hp] at q;cases q⟩
theorem Rel.newL{p:Addr}{ys:List PyData}{vs:List V}(R:Rel K c O ρ σ H)(hp:H p=none)(h:a0b K H (live c O) ys vs) :
  Rel K (c.add p) O ρ σ (upd H p (.lst vs))/\Pers K (live c O) H (live (c.add p) O) (upd H p (.lst vs))/\b4i c O p/\a0b K (upd H p (.lst vs)) (live (c.add p) O) ys vs:=by
 obtain⟨R1,P1⟩:=R.lay (o:=.lst vs) hp
 exact⟨R1,P1,b5j R hp,P1.all h⟩
theorem e1a{ta:TA}{da:TDA}(ha:AdA K ta da):AdF K (tLst ta) (dLst da):=by
 intro c O ρ σ H Qd Q R h k
 refine ha c O ρ σ H _ _ R h fun xs ρ1 O1 vs H1 h1 R1 P1 a1=>?_
 obtain⟨ys,ρ2,O2,⟨hz,h2⟩,R2,P2,a2⟩:=c3l R1 a1 h1
 refine⟨by rw [a2.length];exact le_of_lt (mil hz),fun p hp=>?_⟩
 obtain⟨R3,P3,f3,a3⟩:=R2.newL hp a2
 exact k _ _ _ _ _ _ h2 R3 ((P1.trans P2).trans P3) f3 a0e a3
def dFz(df:TDF):TDE:=fun ρ Q=>df ρ fun xs ρ1=>Q (.d (.list xs)) ρ1
theorem ad_fz{t:TE}{df:TDF}(h:AdF K t df):AdE K t (dFz df):=by
 intro c O ρ σ H Qd Q R h0 k
 refine h c O ρ σ H _ _ R h0 fun xs ρ1 O1 p vs H1 h1 R1 P1 f1 hp a1=>?_
 obtain⟨R2,P2⟩:=R1.unadd
 exact k _ _ _ _ _ h1 R2 (P1.trans P2) (a4m ⟨R1.frs p f1.1,f1.2.2.1,f1.2.2.2⟩ hp (P2.all a1))
abbrev F2L:=PyData->PyData->Option (List PyData)
def AdRF(K:W.Frag)(r:R2)(f:F2L):Prop:=∀ (S:Addr->Prop) (H:Hp) (x y:V) (dx dy:PyData) (z:List PyData) (Q:VK),AtT K H S dx x->AtT K H S dy y->f dx dy=some z ->
 (∀ p vs,H p=none->a0b K H S z vs->Q (.ref p) (upd H p (.lst vs)))->r x y H Q
def dOpF(f:F2L)(da db:TDE):TDF:=fun ρ Q=>da ρ fun x ρ1=>db ρ1 fun y ρ2=>need (a0k ρ2 x) fun dx=>need (a0k ρ2 y) fun dy=>need (f dx dy) fun z=>Q z ρ2
theorem e1b{r:R2}{f:F2L}{ta tb:TE}{da db:TDE}(hr:AdRF K r f)(ha:AdE K ta da)(hb:AdE K tb db):AdF K (tOp r ta tb) (dOpF f da db):=by
 intro c O ρ σ H Qd Q R h k
 refine ha c O ρ σ H _ _ R h fun x ρ1 O1 v H1 h1 R1 P1 a1=>?_
 refine hb c O1 ρ1 σ H1 _ _ R1 h1 fun y ρ2 O2 u H2 h2 R2 P2 a2=>?_
 obtain⟨dx,e1,hn3⟩:=ne (h2)
 obtain⟨dy,e2,hn4⟩:=ne (hn3)
 obtain⟨z,e3,h3⟩:=ne (hn4)
 refine hr (live c O2) H2 v u dx dy z Q (R2.top (a1.pers P2) e1) (R2.top a2 e2) e3 fun p vs hp a3=>?_
 obtain⟨R3,P3,f3,a4⟩:=R2.newL hp a3
 exact k _ _ _ _ _ _ h3 R3 ((P1.trans P2).trans P3) f3 a0e a4
noncomputable def fCat:F2L
 | .list xs,.list ys=>if xs.length + ys.length <= sizeLine then some (xs ++ ys) else none
 | _,_=>none
theorem a8m:AdRF K rCat fCat:=by
 intro S H x y dx dy z Q hx hy e k
 unfold fCat at e
 split at e
 ·split at e
  ·rename_i hc
   cases e
   obtain⟨a,vs,rfl,h1,h2⟩:=hx.list
   obtain⟨b,ws,rfl,h3,h4⟩:=hy.list
   exact⟨a,b,vs,ws,rfl,rfl,h1,h3,by rw [h2.length,h4.length];exact hc,fun p hp=>k p _ hp (h2.append h4)⟩
  ·cases e
 ·cases e
noncomputable def a1d(ρ:Rho):List DV->Option (List PyData)
 | []=>some []
 | x :: xs=>(a0k ρ x).bind fun y=>(a1d ρ xs).map (y :: ·)
noncomputable def AtTs(K:W.Frag)(H:Hp)(S:Addr->Prop):List PyData->List V->Prop:=Paired (AtT K H S)
theorem Rel.tops(R:Rel K c O ρ σ H){xs:List DV}:∀ {vs:List V} {ds:List PyData},AtVs K (live c O) σ H xs vs->a1d ρ xs=some ds->AtTs K H (live c O) ds vs:=by
 induction xs with
 | nil =>
  intro vs ds a e
  cases a;cases e;exact .nil
 | cons x xs ih =>
  intro vs ds a e
  cases a with
  | cons a as =>
   unfold a1d at e
   cases q:a0k ρ x with
   | none=>rw [q] at e;cases e
   | some y =>
    rw [q] at e
    have e':(a1d ρ xs).map (y :: ·)=some ds:=e
    cases q2:a1d ρ xs with
    | none=>rw [q2] at e';cases e'
    | some ys =>
     rw [q2] at e'
     cases e'
     exact .cons (R.top a q) (ih as q2)
abbrev FC:=List PyData->Option PyData
abbrev FCL:=List PyData->Option (List PyData)
def AdC(K:W.Frag)(r:List V->Hp->VK->Prop)(f:FC):Prop:=∀ (S:Addr->Prop) (H:Hp) (vs:List V) (ds:List PyData) (z:PyData) (Q:VK),Frs S H->AtTs K H S ds vs->f ds=some z ->
 (∀ v H',Same H H'->AtD K H' S z v->Q v H')->r vs H Q
def AdCF(K:W.Frag)(r:List V->Hp->VK->Prop)(f:FCL):Prop:=∀ (S:Addr->Prop) (H:Hp) (vs:List V) (ds:List PyData) (z:List PyData) (Q:VK),AtTs K H S ds vs->f ds=some z ->
 (∀ p ws,H p=none->a0b K H S z ws->Q (.ref p) (upd H p (.lst ws)))->r vs H Q
def dCB(f:FC)(da:TDA):TDE:=fun ρ Q=>da ρ fun xs ρ1=>need (a1d ρ1 xs) fun ds=>need (f ds) fun z=>Q (.d z) ρ1
def dCBF(f:FCL)(da:TDA):TDF:=fun ρ Q=>da ρ fun xs ρ1=>need (a1d ρ1 xs) fun ds=>need (f ds) fun z=>Q z ρ1
theorem d4j{r:List V->Hp->VK->Prop}{f:FC}{ta:TA}{da:TDA}(hr:AdC K r f)(ha:AdA K ta da):AdE K (tCB r ta) (dCB f da):=by
 intro c O ρ σ H Qd Q R h k
 refine ha c O ρ σ H _ _ R h fun xs ρ1 O1 vs H1 h1 R1 P1 a1=>?_
 obtain⟨ds,e1,hn2⟩:=ne (h1)
 obtain⟨z,e2,h2⟩:=ne (hn2)
 refine hr (live c O1) H1 vs ds z Q R1.frsLive (R1.tops a1 e1) e2 fun v H2 s2 a2=>?_
 exact k _ _ _ _ _ h2 (R1.grow s2) (P1.trans (.same s2)) a2
theorem e1c{r:List V->Hp->VK->Prop}{f:FCL}{ta:TA}{da:TDA}(hr:AdCF K r f)(ha:AdA K ta da):AdF K (tCB r ta) (dCBF f da):=by
 intro c O ρ σ H Qd Q R h k
 refine ha c O ρ σ H _ _ R h fun xs ρ1 O1 vs H1 h1 R1 P1 a1=>?_
 obtain⟨ds,e1,hn1⟩:=ne (h1)
 obtain⟨z,e2,h2⟩:=ne (hn1)
 refine hr (live c O1) H1 vs ds z Q (R1.tops a1 e1) e2 fun p ws hp a2=>?_
 obtain⟨R3,P3,f3,a4⟩:=R1.newL hp a2
 exact k _ _ _ _ _ _ h2 R3 (P1.trans P3) f3 a0e a4
theorem AtTs.one{d:PyData}{vs:List V}(h:AtTs K H S [d] vs):∃ v,vs=[v]/\AtT K H S d v:=by
 cases h with
 | cons h t=>cases t;exact⟨_,rfl,h⟩
noncomputable def fLen:FC
 | [.list xs]=>some (.int xs.length)
 | [.tuple xs]=>some (.int xs.length)
 | [.str x]=>if x.length <= sizeLine then some (.int x.length) else none
 | _=>none
noncomputable def c3m(K:W.Frag):List V->Hp->VK->Prop:=fun xs H Q=>(∃ p ys,xs=[.ref p]/\(SqL K H p ys ∨ SqT K H p ys)/\Q (.int ys.length) H) ∨ (∃ z,xs=[.str z]/\z.length <= sizeLine/\Q (.int z.length) H)
theorem a4h{X:Cx}:a2w X (.builtin "len") (c3m X.K):=a1q.or c0a
theorem a9v:AdC K (c3m K) fLen:=by
 intro S H vs ds z Q f h e k
 unfold fLen at e
 split at e
 ·cases e
  obtain⟨v,rfl,h1⟩:=h.one
  obtain⟨a,ws,rfl,h2,h3⟩:=h1.list
  exact .inl ⟨a,ws,rfl,.inl (SqL.of h2),by rw [h3.length];exact k _ _ (Same.refl _) (a1y _)⟩
 ·cases e
  obtain⟨v,rfl,h1⟩:=h.one
  obtain⟨a,ws,rfl,h2,h3⟩:=h1.tup
  exact .inl ⟨a,ws,rfl,.inr h2,by rw [h3.length];exact k _ _ (Same.refl _) (a1y _)⟩
 ·split at e
  ·rename_i hc
   cases e
   obtain⟨v,rfl,h1⟩:=h.one
   rw [h1.str]
   exact .inr ⟨_,rfl,hc,k _ _ (Same.refl _) (a1y _)⟩
  ·cases e
 ·cases e
noncomputable def b6h:FC
 | [.list xs]=>some (.tuple xs)
 | [.tuple xs]=>some (.tuple xs)
 | _=>none
theorem a6q:AdC K (fun xs H Q=>∃ p ys,xs=[.ref p]/\((SqL K H p ys/\∀ l,H l=none->Q (.ref l) (upd H l (.tup ys))) ∨ (SqT K H p ys/\Q (.ref p) H))) b6h:=by
 intro S H vs ds z Q f h e k
 unfold b6h at e
 split at e
 ·cases e
  obtain⟨v,rfl,h1⟩:=h.one
  obtain⟨a,ws,rfl,h2,h3⟩:=h1.list
  exact⟨a,ws,rfl,.inl ⟨SqL.of h2,fun l hl=>k _ _ (a0m hl _) (b2c hl h3)⟩⟩
 ·cases e
  obtain⟨v,rfl,h1⟩:=h.one
  obtain⟨a,ws,rfl,h2,h3⟩:=h1.tup
  exact⟨a,ws,rfl,.inr ⟨h2,k _ _ (Same.refl _) (a1k h2 h3)⟩⟩
 ·cases e
noncomputable def b9h:FCL
 | [.list xs]=>some xs
 | [.tuple xs]=>some xs
 | _=>none
theorem b7m:AdCF K (fun xs H Q=>∃ p ys,xs=[.ref p]/\(SqL K H p ys ∨ SqT K H p ys)/\∀ l,H l=none->Q (.ref l) (upd H l (.lst ys))) b9h:=by
 intro S H vs ds z Q h e k
 unfold b9h at e
 split at e
 ·cases e
  obtain⟨v,rfl,h1⟩:=h.one
  obtain⟨a,ws,rfl,h2,h3⟩:=h1.list
  exact⟨a,ws,rfl,.inl (SqL.of h2),fun l hl=>k _ _ hl h3⟩
 ·cases e
  obtain⟨v,rfl,h1⟩:=h.one
  obtain⟨a,ws,rfl,h2,h3⟩:=h1.tup
  exact⟨a,ws,rfl,.inr h2,fun l hl=>k _ _ hl h3⟩
 ·cases e
end
section
variable{X:Cx}{a b e:Expr}{es:List Expr}{da db de:TDE}{daa:TDA}{pos:Pos}
theorem a0d:DA X [] dNil:=⟨_,a0i,e0y⟩
theorem a0a(he:DE X e de)(ha:DA X es daa)(hs:starEach (e :: es) X.env=(false,eval e X.env) :: starEach es X.env:=by rfl):DA X (e :: es) (c5c de daa):=by
 obtain⟨te,p1,a1⟩:=he
 obtain⟨ta,p2,a2⟩:=ha
 exact⟨_,a0c p1 p2 hs,d5v a1 a2⟩
theorem a1w{x1}(ha:DA X es daa):DE X (.Tuple es x1 pos) (dTup daa):=by obtain⟨t,p,a⟩:=ha;exact⟨_,a4y p,e0z a⟩
theorem a2n(ha:DA X es daa):DF X (.List es pos) (dLst daa):=by obtain⟨t,p,a⟩:=ha;exact⟨_,a7b p,e1a a⟩
theorem a1i{df:TDF}(h:DF X e df):DE X e (dFz df):=by obtain⟨t,p,a⟩:=h;exact⟨t,p,ad_fz a⟩
theorem b0k{op:Operator}{r:R2}{f:F2L}(ho:OpR X (binaryOp op) r)(hr:AdRF X.K r f)(ha:DE X a da)(hb:DE X b db):DF X (.BinOp a op b pos) (dOpF f da db):=by
 obtain⟨ta,pa,aa⟩:=ha
 obtain⟨tb,pb,ab⟩:=hb
 exact⟨_,a2k ho pa pb,e1b hr aa ab⟩
theorem a3z{x:Str}{p:Pos}{id:String}{r:List V->Hp->VK->Prop}{f:FC}(hc:a2w X (.builtin id) r)(hr:AdC X.K r f)(hg:Gl X x)(hm:X.mg x=none)(hv:bootBuiltins x=some (.builtin id))(ha:DA X (e :: es) daa) (hn:x ≠ "__name__":=by decide) (hdb:(x == ("__debug__" : Str))=false:=by decide)
  (he:starEach (e :: es) X.env=(false,eval e X.env) :: starEach es X.env:=by rfl) (hpl:(backTo pos (starEach es X.env)).any (·.1)=false:=by rfl):DE X (.Call (.Name x p) (e :: es) [] pos) (dCB f daa):=by
 obtain⟨ta,pa,aa⟩:=ha
 exact⟨_,a2l hc hg hm hv pa hn hdb he hpl,d4j hr aa⟩
theorem a2e{x:Str}{p:Pos}{T:String}{r:List V->Hp->VK->Prop}{f:FC}(hc:a2w X (.type T) r)(hr:AdC X.K r f)(hg:Gl X x)(hm:X.mg x=none)(hv:bootBuiltins x=some (.type T))(ha:DA X (e :: es) daa) (hn:x ≠ "__name__":=by decide) (hdb:(x == ("__debug__" : Str))=false:=by decide)
  (he:starEach (e :: es) X.env=(false,eval e X.env) :: starEach es X.env:=by rfl) (hpl:(backTo pos (starEach es X.env)).any (·.1)=false:=by rfl):DE X (.Call (.Name x p) (e :: es) [] pos) (dCB f daa):=by
 obtain⟨ta,pa,aa⟩:=ha
 exact⟨_,a2t hc hg hm hv pa hn hdb he hpl,d4j hr aa⟩
theorem b3h{x:Str}{p:Pos}{T:String}{r:List V->Hp->VK->Prop}{f:FCL}(hc:a2w X (.type T) r)(hr:AdCF X.K r f)(hg:Gl X x)(hm:X.mg x=none)(hv:bootBuiltins x=some (.type T))(ha:DA X (e :: es) daa) (hn:x ≠ "__name__":=by decide) (hdb:(x == ("__debug__" : Str))=false:=by decide)
  (he:starEach (e :: es) X.env=(false,eval e X.env) :: starEach es X.env:=by rfl) (hpl:(backTo pos (starEach es X.env)).any (·.1)=false:=by rfl):DF X (.Call (.Name x p) (e :: es) [] pos) (dCBF f daa):=by
 obtain⟨ta,pa,aa⟩:=ha
 exact⟨_,a2t hc hg hm hv pa hn hdb he hpl,e1c hr aa⟩
end
end L2
end
section
namespace L2
open PySem PySem.Spec PyProof.Rows
section
variable{K:W.Frag}{c:Rc}{O:Own}{ρ:Rho}{σ:St}{H H':Hp}{S S':Addr->Prop}
noncomputable def asB:PyData->Option Bool
 | .bool b=>some b
 | _=>none
def dB(de:TDE):TDT:=fun ρ Q=>de ρ fun x ρ1=>need (a0k ρ1 x) fun d=>need (asB d) fun b=>Q b ρ1
theorem ad_b{t:TE}{de:TDE}(h:AdE K t de):AdT K (fun σ H Q=>t σ H fun x H'=>∃ k,x=.bl k/\Q k H') (dB de):=by
 intro c O ρ σ H Qd Q R h0 k
 refine h c O ρ σ H _ _ R h0 fun x ρ1 O1 v H1 h1 R1 P1 a1=>?_
 obtain⟨d,e1,hn12⟩:=ne (h1)
 obtain⟨b,e2,h2⟩:=ne (hn12)
 have a2:=R1.top a1 e1
 cases d with
 | bool b'=>cases e2;exact⟨b,a2.bool,k _ _ _ _ h2 R1 P1⟩
 | _=>cases e2
noncomputable def tru:PyData->Option Bool
 | .none=>some false
 | .bool b=>some b
 | .int i=>some (i != 0)
 | .str x=>if x.length <= sizeLine then some ((x.length:Int) != 0) else none
 | .list xs=>some (!xs.isEmpty)
 | .tuple xs=>some (!xs.isEmpty)
 | .dict _=>none
def dTru(de:TDE):TDT:=fun ρ Q=>de ρ fun x ρ1=>need (a0k ρ1 x) fun d=>need (tru d) fun b=>Q b ρ1
def dAnd(t u:TDT):TDT:=fun ρ Q=>t ρ fun b ρ1=>if b=true then u ρ1 Q else Q false ρ1
def dOr(t u:TDT):TDT:=fun ρ Q=>t ρ fun b ρ1=>if b=true then Q true ρ1 else u ρ1 Q
def dNot(t:TDT):TDT:=fun ρ Q=>t ρ fun b ρ1=>Q (!b) ρ1
theorem e1d{t u:TT}{dt du:TDT}(h:AdT K t dt)(h':AdT K u du):AdT K (tAnd t u) (dAnd dt du):=by
 intro c O ρ σ H Qd Q R h0 k
 refine h c O ρ σ H _ _ R h0 fun b ρ1 O1 H1 h1 R1 P1=>?_
 cases b with
 | true=>rw [if_pos rfl] at h1 ⊢;exact h' c O1 ρ1 σ H1 _ _ R1 h1 fun b ρ2 O2 H2 h2 R2 P2=>k _ _ _ _ h2 R2 (P1.trans P2)
 | false=>rw [if_neg Bool.false_ne_true] at h1 ⊢;exact k _ _ _ _ h1 R1 P1
theorem ad_or{t u:TT}{dt du:TDT}(h:AdT K t dt)(h':AdT K u du):AdT K (tOr t u) (dOr dt du):=by
 intro c O ρ σ H Qd Q R h0 k
 refine h c O ρ σ H _ _ R h0 fun b ρ1 O1 H1 h1 R1 P1=>?_
 cases b with
 | true=>rw [if_pos rfl] at h1 ⊢;exact k _ _ _ _ h1 R1 P1
 | false=>rw [if_neg Bool.false_ne_true] at h1 ⊢;exact h' c O1 ρ1 σ H1 _ _ R1 h1 fun b ρ2 O2 H2 h2 R2 P2=>k _ _ _ _ h2 R2 (P1.trans P2)
theorem e1e{t:TT}{dt:TDT}(h:AdT K t dt):AdT K (tNot t) (dNot dt):=by
 intro c O ρ σ H Qd Q R h0 k
 exact h c O ρ σ H _ _ R h0 fun b ρ1 O1 H1 h1 R1 P1=>k _ _ _ _ h1 R1 P1
def dIfE(c:TDT)(a b:TDE):TDE:=fun ρ Q=>c ρ fun k ρ1=>if k=true then a ρ1 Q else b ρ1 Q
theorem b5k:AtV K S σ H (.d .none) .non:=(b5i:AtD K H S .none .non)
theorem a7u{b:Bool}:AtV K S σ H (.d (.bool b)) (.bl b):=(a3i b:AtD K H S (.bool b) (.bl b))
def c5d(a b:TDE):TDE:=fun ρ Q=>a ρ fun x ρ1=>need (a0k ρ1 x) fun d=>need (asB d) fun k=>if k=true then b ρ1 Q else Q (.d (.bool false)) ρ1
def dOrV(a b:TDE):TDE:=fun ρ Q=>a ρ fun x ρ1=>need (a0k ρ1 x) fun d=>need (asB d) fun k=>if k=true then Q (.d (.bool true)) ρ1 else b ρ1 Q
theorem b6i{d:PyData}{v:V}{b:Bool}(h:AtT K H S d v)(e:asB d=some b):v=.bl b:=by
 cases d with
 | bool b'=>cases e;exact h.bool
 | _=>cases e
theorem d5w{ta tb:TE}{da db:TDE}(ha:AdE K ta da)(hb:AdE K tb db):AdE K (d3t ta tb) (c5d da db):=by
 intro c O ρ σ H Qd Q R h0 k
 refine ha c O ρ σ H _ _ R h0 fun x ρ1 O1 v H1 h1 R1 P1 a1=>?_
 obtain⟨d,e1,hn10⟩:=ne (h1)
 obtain⟨b,e2,h2⟩:=ne (hn10)
 refine⟨b,b6i (R1.top a1 e1) e2,?_⟩
 cases b with
 | true=>rw [if_pos rfl] at h2 ⊢;exact hb c O1 ρ1 σ H1 _ _ R1 h2 fun x ρ2 O2 v H2 h2 R2 P2 a2=>k _ _ _ _ _ h2 R2 (P1.trans P2) a2
 | false=>rw [if_neg Bool.false_ne_true] at h2 ⊢;exact k _ _ _ _ _ h2 R1 P1 a7u
theorem e1f{ta tb:TE}{da db:TDE}(ha:AdE K ta da)(hb:AdE K tb db):AdE K (tOrV ta tb) (dOrV da db):=by
 intro c O ρ σ H Qd Q R h0 k
 refine ha c O ρ σ H _ _ R h0 fun x ρ1 O1 v H1 h1 R1 P1 a1=>?_
 obtain⟨d,e1,hn9⟩:=ne (h1)
 obtain⟨b,e2,h2⟩:=ne (hn9)
 refine⟨b,b6i (R1.top a1 e1) e2,?_⟩
 cases b with
 | true=>rw [if_pos rfl] at h2 ⊢;exact k _ _ _ _ _ h2 R1 P1 a7u
 | false=>rw [if_neg Bool.false_ne_true] at h2 ⊢;exact hb c O1 ρ1 σ H1 _ _ R1 h2 fun x ρ2 O2 v H2 h2 R2 P2 a2=>k _ _ _ _ _ h2 R2 (P1.trans P2) a2
def c5e(a:TDE):TDE:=fun ρ Q=>a ρ fun x ρ1=>need (a0k ρ1 x) fun d=>need (asB d) fun k=>Q (.d (.bool (!k))) ρ1
theorem d5x{ta:TE}{da:TDE}(ha:AdE K ta da):AdE K (d3u ta) (c5e da):=by
 intro c O ρ σ H Qd Q R h0 k
 refine ha c O ρ σ H _ _ R h0 fun x ρ1 O1 v H1 h1 R1 P1 a1=>?_
 obtain⟨d,e1,hn8⟩:=ne (h1)
 obtain⟨b,e2,h2⟩:=ne (hn8)
 exact⟨b,b6i (R1.top a1 e1) e2,k _ _ _ _ _ h2 R1 P1 a7u⟩
def b6j(f f':F2)(da db dc:TDE):TDE:=fun ρ Q=>da ρ fun x ρ1=>db ρ1 fun y ρ2=>need (a0k ρ2 x) fun dx=>need (a0k ρ2 y) fun dy=>need (f dx dy) fun z=>need (asB z) fun k =>
 if k=true then dc ρ2 fun w ρ3=>need (a0k ρ3 y) fun dy=>need (a0k ρ3 w) fun dw=>need (f' dy dw) fun z'=>Q (.d z') ρ3 else Q (.d (.bool false)) ρ2
theorem c0i{r r':R2}{f f':F2}{ta tb tc:TE}{da db dc:TDE}(hr:AdR K r f)(hr':AdR K r' f')(ha:AdE K ta da)(hb:AdE K tb db)(hc:AdE K tc dc):AdE K (b9u r r' ta tb tc) (b6j f f' da db dc):=by
 intro c O ρ σ H Qd Q R h k
 refine ha c O ρ σ H _ _ R h fun x ρ1 O1 v H1 h1 R1 P1 a1=>?_
 refine hb c O1 ρ1 σ H1 _ _ R1 h1 fun y ρ2 O2 u H2 h2 R2 P2 a2=>?_
 obtain⟨dx,e1,hn7⟩:=ne (h2)
 obtain⟨dy,e2,hn17⟩:=ne (hn7)
 obtain⟨z,e3,hn20⟩:=ne (hn17)
 obtain⟨b,e4,h3⟩:=ne (hn20)
 refine hr (live c O2) H2 v u dx dy z _ R2.frsLive (R2.top (a1.pers P2) e1) (R2.top a2 e2) e3 fun w H3 s3 a3=>?_
 have R3:=R2.grow s3
 have P3:Pers K (live c O2) H2 (live c O2) H3:=.same s3
 refine⟨b,b6i (.inl a3) e4,?_⟩
 cases b with
 | false=>rw [if_neg Bool.false_ne_true] at h3 ⊢;exact k _ _ _ _ _ h3 R3 ((P1.trans P2).trans P3) a7u
 | true =>
  rw [if_pos rfl] at h3 ⊢
  refine hc c O2 ρ2 σ H3 _ _ R3 h3 fun w ρ4 O4 u4 H4 h4 R4 P4 a4=>?_
  obtain⟨dy',e5,hn26⟩:=ne (h4)
  obtain⟨dw,e6,hn28⟩:=ne (hn26)
  obtain⟨z',e7,h5⟩:=ne (hn28)
  refine hr' (live c O4) H4 u u4 dy' dw z' Q R4.frsLive (R4.top ((a2.pers P3).pers P4) e5) (R4.top a4 e6) e7 fun w5 H5 s5 a5=>?_
  exact k _ _ _ _ _ h5 (R4.grow s5) ((((P1.trans P2).trans P3).trans P4).trans (.same s5)) a5
end
section
variable{X:Cx}{a b c e:Expr}{rest:List Expr}{da db dc de:TDE}{dt du:TDT}{pos:Pos}
theorem a9w(h:DE X e de)(he:∀ whole,isTrue e X.env whole=(do let v ← whole;standAt e.pos;holding [v] (truthy v)):=by intro _;rfl):DT X e (dB de):=by
 obtain⟨t,p,a⟩:=h
 exact⟨_,b0v p he,ad_b a⟩
theorem a2o{op:CmpOp}{r:R2}{f:F2}(ho:OpR X (compareOp op) r)(hr:AdR X.K r f)(ha:DE X a da)(hb:DE X b db)(hm:behindInMarks op b=false):DT X (.Compare a [op] [b] pos) (dB (dOp f da db)):=by
 obtain⟨ta,pa,aa⟩:=ha
 obtain⟨tb,pb,ab⟩:=hb
 exact⟨_,a2s ho pa pb hm,ad_b (b9g hr aa ab)⟩
theorem d0y{op op':CmpOp}{r r':R2}{f f':F2}(ho:OpR X (compareOp op) r)(hr:AdR X.K r f)(ho':OpR X (compareOp op') r')(hr':AdR X.K r' f')(ha:DE X a da)(hb:DE X b db)(hc:DE X c dc)
  (hm:lastMarks [op,op'] [b,c]=false:=by with_unfolding_all rfl):DT X (.Compare a [op,op'] [b,c] pos) (dB (b6j f f' da db dc)):=by
 obtain⟨ta,pa,aa⟩:=ha
 obtain⟨tb,pb,ab⟩:=hb
 obtain⟨tc,pc,ac⟩:=hc
 exact⟨_,d0n ho ho' pa pb pc hm,ad_b (c0i hr hr' aa ab ac)⟩
theorem c0j{op op':CmpOp}{r r':R2}{f f':F2}(ho:OpR X (compareOp op) r)(hr:AdR X.K r f)(ho':OpR X (compareOp op') r')(hr':AdR X.K r' f')(ha:DE X a da)(hb:DE X b db)(hc:DE X c dc)
  (hm:lastMarks [op,op'] [b,c]=false:=by with_unfolding_all rfl):DE X (.Compare a [op,op'] [b,c] pos) (b6j f f' da db dc):=by
 obtain⟨ta,pa,aa⟩:=ha
 obtain⟨tb,pb,ab⟩:=hb
 obtain⟨tc,pc,ac⟩:=hc
 exact⟨_,b9v ho ho' pa pb pc hm,c0i hr hr' aa ab ac⟩
theorem DW.toT(h:DW X e dt):DT X e dt:=by obtain⟨t,p,a⟩:=h;exact⟨t,p.pt,a⟩
theorem d5y(ha:DT X a dt):DW X (.BoolOp .And [a] pos) dt:=by obtain⟨t,p,a⟩:=ha;exact⟨t,d5h p,a⟩
theorem b3i(ha:DT X a dt):DW X (.BoolOp .Or [a] pos) dt:=by obtain⟨t,p,a⟩:=ha;exact⟨t,c7c p,a⟩
theorem e1g(ha:DT X a dt)(hb:DW X (.BoolOp .And (b :: rest) pos) du):DW X (.BoolOp .And (a :: b :: rest) pos) (dAnd dt du):=by obtain⟨_,p,a⟩:=ha;obtain⟨_,p',a'⟩:=hb;exact⟨_,e0f p p',e1d a a'⟩
theorem b6k(ha:DT X a dt)(hb:DW X (.BoolOp .Or (b :: rest) pos) du):DW X (.BoolOp .Or (a :: b :: rest) pos) (dOr dt du):=by obtain⟨_,p,a⟩:=ha;obtain⟨_,p',a'⟩:=hb;exact⟨_,d3s p p',ad_or a a'⟩
theorem b3j(ha:DT X a dt):DT X (.UnaryOp .Not a pos) (dNot dt):=by obtain⟨_,p,a⟩:=ha;exact⟨_,b5z p,e1e a⟩
theorem a9x{op}(h:DE X a da):DE X (.BoolOp op [a] pos) da:=by obtain⟨t,p,a⟩:=h;exact⟨t,a5o p,a⟩
theorem a9y(ha:DE X a da)(hb:DE X (.BoolOp .And (b :: rest) pos) db):DE X (.BoolOp .And (a :: b :: rest) pos) (c5d da db):=by obtain⟨_,p,a⟩:=ha;obtain⟨_,p',a'⟩:=hb;exact⟨_,a8i p p',d5w a a'⟩
theorem de_or(ha:DE X a da)(hb:DE X (.BoolOp .Or (b :: rest) pos) db):DE X (.BoolOp .Or (a :: b :: rest) pos) (dOrV da db):=by obtain⟨_,p,a⟩:=ha;obtain⟨_,p',a'⟩:=hb;exact⟨_,b6a p p',e1f a a'⟩
theorem e1h(ha:DE X a da):DE X (.UnaryOp .Not a pos) (c5e da):=by obtain⟨_,p,a⟩:=ha;exact⟨_,c7d p,d5x a⟩
end
inductive RV where
 | d (x:PyData)
 | new (xs:List PyData)
structure DEnds where
 nx:Rho->Prop
 rt:RV->Rho->Prop
 bk:Rho->Prop:=fun _=>False
 ct:Rho->Prop:=fun _=>False
abbrev TDS:=DEnds->Rho->Prop
noncomputable def b9i(K:W.Frag)(c:Rc)(O:Own)(ρ:Rho)(σ:St)(H:Hp):RV->V->Prop
 | .d x,v=>Rel K c O ρ σ H/\AtD K H (live c O) x v
 | .new xs,v=>∃ p vs,v=.ref p/\Rel K (c.add p) O ρ σ H/\b4i c O p/\H p=some (.lst vs)/\a0b K H (live (c.add p) O) xs vs
structure EndsOk(K:W.Frag)(c:Rc)(S0:Addr->Prop)(H0:Hp)(D:Ends)(Dd:DEnds):Prop where
 nx:∀ O ρ σ H,Rel K c O ρ σ H->Pers K S0 H0 (live c O) H->Dd.nx ρ->D.nx σ H
 rt:∀ r O ρ σ H v,b9i K c O ρ σ H r v->Dd.rt r ρ->D.rt v H
 bk:∀ O ρ σ H,Rel K c O ρ σ H->Pers K S0 H0 (live c O) H->Dd.bk ρ->D.bk σ H
 ct:∀ O ρ σ H,Rel K c O ρ σ H->Pers K S0 H0 (live c O) H->Dd.ct ρ->D.ct σ H
 mb:∀ p,c.M p->c.B p
 oa:∀ p,c.H0 p=none->c.A p
theorem EndsOk.later{K:W.Frag}{c:Rc}{S0 S1:Addr->Prop}{H0 H1:Hp}{D:Ends}{Dd:DEnds}(E:EndsOk K c S0 H0 D Dd)(P:Pers K S0 H0 S1 H1):EndsOk K c S1 H1 D Dd:=
 ⟨fun O ρ σ H R q=>E.nx O ρ σ H R (P.trans q),E.rt,fun O ρ σ H R q=>E.bk O ρ σ H R (P.trans q),fun O ρ σ H R q=>E.ct O ρ σ H R (P.trans q),E.mb,E.oa⟩
def AdS(K:W.Frag)(t:TS)(dt:TDS):Prop:=∀ (c:Rc) (O:Own) (ρ:Rho) (σ:St) (H:Hp) (D:Ends) (Dd:DEnds),Rel K c O ρ σ H->EndsOk K c (live c O) H D Dd->dt Dd ρ->t D σ H
def DS(X:Cx)(st:Stmt)(dt:TDS):Prop:=∃ t,PS X st t/\AdS X.K t dt
def DSs(X:Cx)(st:List Stmt)(dt:TDS):Prop:=∃ t,PSs X st t/\AdS X.K t dt
section
variable{K:W.Frag}{c:Rc}{O:Own}{ρ:Rho}{σ:St}{H H':Hp}{S S':Addr->Prop}
def c5f:TDS:=fun D ρ=>D.nx ρ
def dSeq(t u:TDS):TDS:=fun D ρ=>t { D with nx:=u D } ρ
theorem d5z:AdS K d3v c5f:=fun c O ρ σ H D Dd R E h=>E.nx O ρ σ H R .refl h
theorem e1i{t u:TS}{dt du:TDS}(h:AdS K t dt)(h':AdS K u du):AdS K (tSeq t u) (dSeq dt du):=fun c O ρ σ H D Dd R E q =>
 h c O ρ σ H { D with nx:=u D } { Dd with nx:=du Dd } R ⟨fun O1 ρ1 σ1 H1 R1 P1 q1=>h' c O1 ρ1 σ1 H1 D Dd R1 (E.later P1) q1,E.rt,E.bk,E.ct,E.mb,E.oa⟩ q
def e1j:TDS:=fun D ρ=>D.bk ρ
def dCont:TDS:=fun D ρ=>D.ct ρ
def c5g(de:TDE):TDS:=fun D ρ=>de ρ fun _ ρ1=>D.nx ρ1
theorem d6a{t:TE}{de:TDE}(h:AdE K t de):AdS K (d3w t) (c5g de):=fun c O ρ σ H D Dd R E q =>
 h c O ρ σ H _ _ R q fun x ρ1 O1 v H1 h1 R1 P1 a1=>E.nx O1 ρ1 σ H1 R1 P1 h1
def dRet(de:TDE):TDS:=fun D ρ=>de ρ fun x ρ1=>fz ρ1 x fun y ρ2=>D.rt (.d y) ρ2
theorem e1k{t:TE}{de:TDE}(h:AdE K t de):AdS K (tRet t) (dRet de):=fun c O ρ σ H D Dd R E q =>
 h c O ρ σ H _ _ R q fun x ρ1 O1 v H1 h1 R1 P1 a1=>by
  obtain⟨y,ρ2,O2,h2,R2,P2,a2⟩:=R1.fz a1 h1
  exact E.rt (.d y) O2 ρ2 σ H1 v ⟨R2,a2⟩ h2
def c5h(df:TDF):TDS:=fun D ρ=>df ρ fun xs ρ1=>D.rt (.new xs) ρ1
theorem d6b{t:TE}{df:TDF}(h:AdF K t df):AdS K (tRet t) (c5h df):=fun c O ρ σ H D Dd R E q =>
 h c O ρ σ H _ _ R q fun xs ρ1 O1 p vs H1 h1 R1 P1 f1 hp a1=>E.rt (.new xs) O1 ρ1 σ H1 _ ⟨p,vs,rfl,R1,f1,hp,a1⟩ h1
noncomputable def ownAt(ρ:Rho)(i:Nat):Option (List PyData):=match ρ[i]?.join with
 | some (.own xs)=>some xs
 | _=>none
def b7n(i:Nat):TDS:=fun D ρ=>need (ownAt ρ i) fun xs=>D.rt (.new xs) (ρ.set i none)
theorem c5i{i:Nat}{xs:List PyData}(h:ownAt ρ i=some xs):ρ[i]? = some (some (.own xs)):=by
 unfold ownAt at h
 split at h
 ·rename_i ys e
  cases h
  exact a2d e
 ·cases h
theorem c7y{i:Nat}:AdS K (tRet (tVar i)) (b7n i):=by
 intro c O ρ σ H D Dd R E q
 obtain⟨xs,e,q⟩:=ne (q)
 have e':=c5i e
 obtain⟨p,vs,h1,h2,h3,h4,R1,a1⟩:=R.disown e'
 refine⟨.ref p,h1,E.rt (.new xs) _ _ σ H _ ⟨p,vs,rfl,R1,⟨?_,h3.1,h3.2.2,fun j ej=>?_⟩,h4,a1⟩ q⟩
 ·rcases (R.has i p h2).1 with z | z
  ·exact absurd (E.mb p z) h3.1
  ·exact z
 ·obtain⟨n,ej⟩:=a2m ej
  exact n (R.inj j i p ej h2)
def dIf(c:TDT)(t u:TDS):TDS:=fun D ρ=>c ρ fun b ρ1=>if b=true then t D ρ1 else u D ρ1
theorem ad_if{tc:TT}{t u:TS}{dc:TDT}{dt du:TDS}(hc:AdT K tc dc)(h:AdS K t dt)(h':AdS K u du):AdS K (tIfS tc t u) (dIf dc dt du):=fun c O ρ σ H D Dd R E q =>
 hc c O ρ σ H _ _ R q fun b ρ1 O1 H1 h1 R1 P1=>by
  cases b with
  | true=>rw [if_pos rfl] at h1 ⊢;exact h c O1 ρ1 σ H1 D Dd R1 (E.later P1) h1
  | false=>rw [if_neg Bool.false_ne_true] at h1 ⊢;exact h' c O1 ρ1 σ H1 D Dd R1 (E.later P1) h1
def dRetN:TDS:=fun D ρ=>D.rt (.d .none) ρ
def dSet(i:Nat)(de:TDE):TDS:=fun D ρ=>de ρ fun x ρ1=>fz ρ1 x fun y ρ2=>i < ρ2.length/\D.nx (ρ2.set i (some (.d y)))
theorem e1l{i:Nat}{t:TE}{de:TDE}(h:AdE K t de):AdS K (tAsg t (a4p i)) (dSet i de):=fun c O ρ σ H D Dd R E q =>
 h c O ρ σ H _ _ R q fun x ρ1 O1 v H1 h1 R1 P1 a1=>by
  obtain⟨y,ρ2,O2,⟨hi,h2⟩,R2,P2,a2⟩:=R1.fz a1 h1
  obtain⟨R3,P3⟩:=R2.setD hi a2
  exact E.nx _ _ _ H1 R3 ((P1.trans P2).trans P3) h2
def b9j(i:Nat)(df:TDF):TDS:=fun D ρ=>df ρ fun xs ρ1=>i < ρ1.length/\D.nx (ρ1.set i (some (.own xs)))
theorem c3n{i:Nat}{t:TE}{df:TDF}(h:AdF K t df):AdS K (tAsg t (a4p i)) (b9j i df):=fun c O ρ σ H D Dd R E q =>
 h c O ρ σ H _ _ R q fun xs ρ1 O1 p vs H1 h1 R1 P1 f1 hp a1=>by
  obtain⟨hi,h2⟩:=h1
  obtain⟨R3,P3⟩:=R1.setOwn hi f1.1 f1.2.1 f1.2.2.1 f1.2.2.2 (E.oa _ f1.1) hp a1
  exact E.nx _ _ _ H1 R3 (P1.trans P3) h2
abbrev TDG:=PyData->Rho->(Rho->Prop)->Prop
abbrev TDGs:=List PyData->Rho->(Rho->Prop)->Prop
def AdG(K:W.Frag)(g:TG)(dg:TDG):Prop:=∀ (c:Rc) (O:Own) (ρ:Rho) (σ:St) (H:Hp) (x:PyData) (v:V) (Qd:Rho->Prop) (Q:St->Hp->Prop),Rel K c O ρ σ H->AtD K H (live c O) x v->dg x ρ Qd ->
 (∀ O' ρ' σ' ,Rel K c O' ρ' σ' H->Pers K (live c O) H (live c O') H->Qd ρ'->Q σ' H)->g v σ H Q
def AdGs(K:W.Frag)(g:TGs)(dg:TDGs):Prop:=∀ (c:Rc) (O:Own) (ρ:Rho) (σ:St) (H:Hp) (x:List PyData) (v:List V) (Qd:Rho->Prop) (Q:St->Hp->Prop),Rel K c O ρ σ H->a0b K H (live c O) x v->dg x ρ Qd ->
 (∀ O' ρ' σ' ,Rel K c O' ρ' σ' H->Pers K (live c O) H (live c O') H->Qd ρ'->Q σ' H)->g v σ H Q
def c0k(i:Nat):TDG:=fun x ρ Q=>i < ρ.length/\Q (ρ.set i (some (.d x)))
theorem d6c{i:Nat}:AdG K (a4p i) (c0k i):=fun c O ρ σ H x v Qd Q R a h k=>by
 obtain⟨R1,P1⟩:=R.setD h.1 a
 exact k _ _ _ R1 P1 h.2
noncomputable def b9k:TDGs:=fun xs ρ Q=>xs=[]/\Q ρ
def c0l(t:TDG)(u:TDGs):TDGs:=fun xs ρ Q=>match xs with
 | x :: r=>t x ρ fun ρ1=>u r ρ1 Q
 | []=>False
theorem e1m:AdGs K gNil b9k:=fun c O ρ σ H x v Qd Q R a h k=>by
 obtain⟨rfl,h⟩:=h
 exact⟨a.unnil,k _ _ _ R .refl h⟩
theorem d6d{t:TG}{u:TGs}{dt:TDG}{du:TDGs}(h:AdG K t dt)(h':AdGs K u du):AdGs K (d3x t u) (c0l dt du):=fun c O ρ σ H x v Qd Q R a q k=>by
 cases x with
 | nil=>exact(show False from q).elim
 | cons x r =>
  obtain⟨w,ws,rfl,a1,a2⟩:=a.uncons
  exact⟨w,ws,rfl,h c O ρ σ H x w _ _ R a1 q fun O1 ρ1 σ1 R1 P1 q1=>h' c O1 ρ1 σ1 H r ws _ _ R1 (P1.all a2) q1 fun O2 ρ2 σ2 R2 P2 q2=>k _ _ _ R2 (P1.trans P2) q2⟩
def c5j(n:Nat)(t:TDGs):TDG:=fun x ρ Q=>match x with
 | .tuple xs=>xs.length=n/\t xs ρ Q
 | _=>False
theorem e1n{n:Nat}{t:TGs}{dt:TDGs}(h:AdGs K t dt):AdG K (gTup K n t) (c5j n dt):=fun c O ρ σ H x v Qd Q R a q k=>by
 cases x with
 | tuple xs =>
  obtain⟨hn,q⟩:=q
  obtain⟨b,ws,rfl,h1,h2⟩:=a3l a
  exact⟨b,ws,rfl,h1,by rw [h2.length];exact hn,h c O ρ σ H xs ws _ _ R h2 q k⟩
 | _=>exact(show False from q).elim
def dAsg(de:TDE)(g:TDG):TDS:=fun D ρ=>de ρ fun x ρ1=>fz ρ1 x fun y ρ2=>g y ρ2 D.nx
inductive OK where | o | b
noncomputable def ownB(ρ:Rho)(i:Nat):Option (OK × List PyData):=match ρ[i]?.join with
 | some (.own xs)=>some (.o,xs)
 | some (.bor xs)=>some (.b,xs)
 | _=>none
noncomputable def okL:OK->List PyData->L
 | .o,xs=>.own xs
 | .b,xs=>.bor xs
theorem b1f{i:Nat}{o:OK}{xs:List PyData}(R:Rel K c O ρ σ H)(h:ownB ρ i=some (o,xs)):ρ[i]? = some (some (okL o xs))/\∃ p vs,O i=some p/\σ[i]? = some (some (.ref p))/\H p=some (.lst vs)/\a0b K H (live c O) xs vs:=by
 unfold ownB at h
 split at h
 ·rename_i ys e
  cases h
  have e':=a2d e
  obtain⟨p,vs,h1,_,h3,h4,h5⟩:=R.own i _ e'
  exact⟨e',p,vs,h1,h3,h4,h5⟩
 ·rename_i ys e
  cases h
  have e':=a2d e
  obtain⟨p,vs,h1,h3,h4,h5⟩:=R.bor i _ e'
  exact⟨e',p,vs,h1,h3,h4,h5⟩
 ·cases h
theorem Rel.writeB{i:Nat}{o:OK}{p:Addr}{xs ys:List PyData}{vs vs':List V}(R:Rel K c O ρ σ H)(hO:O i=some p)(hH:H p=some (.lst vs))(e:ρ[i]? = some (some (okL o xs)))(h:a0b K H (live c O) ys vs') :
  Rel K c O (ρ.set i (some (okL o ys))) σ (upd H p (.lst vs'))/\Pers K (live c O) H (live c O) (upd H p (.lst vs')):=by
 cases o with
 | o=>exact R.write hO hH (.inl e) (.inl ⟨ys,e,rfl,h⟩)
 | b=>exact R.write hO hH (.inr (.inl e)) (.inr (.inl ⟨ys,e,rfl,h⟩))
def b7o(i:Nat)(de:TDE):TDE:=fun ρ Q=>need (ownB ρ i) fun _=>de ρ fun x ρ1=>fz ρ1 x fun y ρ2=>need (ownB ρ2 i) fun o=>o.2.length <= 1000000/\Q (.d .none) (ρ2.set i (some (okL o.1 (o.2 ++ [y]))))
theorem c7z{i:Nat}{t:TE}{de:TDE}(h:AdE K t de):AdE K (tBM K "list" c3h (tVar i) (a3q t tNil)) (b7o i de):=by
 intro c O ρ σ H Qd Q R q k
 obtain⟨hz6,e,q⟩:=ne (q)
 obtain⟨o,xs⟩:=hz6
 obtain⟨e0,p,vs,hO,hσ,hH,hA⟩:=b1f R e
 refine⟨.ref p,hσ,.inl ⟨rfl,vs,SqL.of hH⟩,?_⟩
 refine h c O ρ σ H _ _ R q fun x ρ1 O1 v H1 h1 R1 P1 a1=>?_
 obtain⟨y,ρ2,O2,hz19,R2,P2,a2⟩:=R1.fz a1 h1
 obtain⟨hz23,e2,hn25⟩:=ne (hz19)
 obtain⟨hz,h2⟩:=hn25
 obtain⟨o2,xs2⟩:=hz23
 obtain⟨e3,p2,vs2,hO2,hσ2,hH2,hA2⟩:=b1f R2 e2
 rw [hσ] at hσ2;cases hσ2
 refine⟨p,vs2,v,rfl,rfl,hH2,by rw [hA2.length];exact mil hz,?_⟩
 obtain⟨R3,P3⟩:=R2.writeB hO2 hH2 e3 (hA2.snoc a2)
 exact k _ _ _ _ _ h2 R3 ((P1.trans P2).trans P3) b5k
def dPop(i:Nat):TDE:=fun ρ Q=>need (ownB ρ i) fun o=>need o.2.getLast? fun y=>Q (.d y) (ρ.set i (some (okL o.1 o.2.dropLast)))
def c0m(i:Nat)(di de:TDE):TDS:=fun D ρ=>de ρ fun x ρ1=>fz ρ1 x fun y ρ2=>need (ownB ρ2 i) fun _=>di ρ2 fun z ρ3=>need (a0k ρ3 z) fun dz=>need (asI dz) fun n=>need (ownB ρ3 i) fun o=>need (ixN o.2.length n) fun j=>D.nx (ρ3.set i (some (okL o.1 (o.2.set j y))))
 where asI:PyData->Option Int
  | .int i=>some i
  | _=>none
abbrev TDI:=Rho->(List PyData->Rho->Prop)->Prop
def b3k(K:W.Frag)(S:Addr->Prop)(H:Hp)(J:It)(xs:List PyData):Prop:=∀ (S':Addr->Prop) (H':Hp),Pers K S H S' H' ->
 (∀ (i:Nat) (x:PyData),xs[i]? = some x->J.go i H'/\∀ v H'',J.yld i H' v H''->Same H' H''/\AtD K H'' S' x v)/\J.stop xs.length H'
def AdI(K:W.Frag)(t:TI)(di:TDI):Prop:=∀ (c:Rc) (O:Own) (ρ:Rho) (σ:St) (H:Hp) (Qd:List PyData->Rho->Prop) (Q:It->Hp->Prop),Rel K c O ρ σ H->di ρ Qd ->
 (∀ xs ρ' O' J H',Qd xs ρ'->Rel K c O' ρ' σ H'->Pers K (live c O) H (live c O') H'->b3k K (live c O') H' J xs->Q J H')->t σ H Q
def DI(X:Cx)(tg iter:Expr)(di:TDI):Prop:=∃ t,PI X tg iter t/\AdI X.K t di
theorem c5k{a:Addr}{vs:List V}{xs:List PyData}(h1:SqT K H a vs)(h2:a0b K H S xs vs):b3k K S H (Itt K a) xs:=fun S' H' P=>by
 obtain⟨b,ws,e,h3,h4⟩:=a3l (P _ _ (a1k h1 h2))
 cases e
 refine⟨fun i x e=>?_,⟨ws,h3,by rw [h4.length];exact le_refl _⟩⟩
 obtain⟨w,e1,e2⟩:=h4.get e
 refine⟨⟨ws,w,h3,e1⟩,fun v H'' y=>?_⟩
 obtain⟨rfl,y⟩:=y
 have e3:=y ws h3
 rw [e1] at e3;cases e3
 exact⟨Same.refl _,e2⟩
theorem c5l{a:Addr}{vs:List V}{xs:List PyData}(hS:S a)(h1:H a=some (.lst vs))(h2:a0b K H S xs vs):b3k K S H (Itl K a) xs:=fun S' H' P=>by
 obtain⟨b,ws,e,_,h3,h4⟩:=a5b (P _ _ (a4m hS h1 h2))
 cases e
 refine⟨fun i x e=>?_,⟨ws,SqL.of h3,by rw [h4.length];exact le_refl _⟩⟩
 obtain⟨w,e1,e2⟩:=h4.get e
 refine⟨⟨ws,w,SqL.of h3,e1⟩,fun v H'' y=>?_⟩
 obtain⟨rfl,y⟩:=y
 have e3:=y ws (SqL.of h3)
 rw [e1] at e3;cases e3
 exact⟨Same.refl _,e2⟩
def c5m(de:TDE):TDI:=fun ρ Q=>de ρ fun x ρ1=>fz ρ1 x fun y ρ2=>need (seqD y) fun xs=>Q xs ρ2
theorem e1o{t:TE}{de:TDE}(h:AdE K t de):AdI K (iDat K t) (c5m de):=fun c O ρ σ H Qd Q R q k =>
 h c O ρ σ H _ _ R q fun x ρ1 O1 v H1 h1 R1 P1 a1=>by
  obtain⟨y,ρ2,O2,hz3,R2,P2,a2⟩:=R1.fz a1 h1
  obtain⟨xs,e,h2⟩:=ne (hz3)
  cases y with
  | list ys =>
   cases e
   obtain⟨a,vs,rfl,hS,h3,h4⟩:=a5b a2
   exact .inr ⟨a,rfl,⟨vs,SqL.of h3⟩,k _ _ _ _ _ h2 R2 (P1.trans P2) (c5l hS h3 h4)⟩
  | tuple ys =>
   cases e
   obtain⟨a,vs,rfl,h3,h4⟩:=a3l a2
   exact .inl ⟨a,rfl,⟨vs,h3⟩,k _ _ _ _ _ h2 R2 (P1.trans P2) (c5k h3 h4)⟩
  | _=>cases e
noncomputable def rngD(lo:Int)(n:Nat):List PyData:=(List.range n).map fun i=>.int (lo + (i:Nat))
theorem c5n{lo:Int}{n:Nat}:b3k K S H (Itr lo n) (rngD lo n):=fun S' H' P=>by
 have hl:(rngD lo n).length=n:=by simp [rngD]
 refine⟨fun i x e=>?_,by rw [hl];exact le_refl _⟩
 have hi:i < n:=by rw [← hl];exact(List.getElem?_eq_some_iff.mp e).1
 have ex:x=.int (lo + (i:Nat)):=by
  simp only [rngD,getElem?_map,List.getElem?_range hi,map_some] at e
  exact(Option.some.inj e).symm
 subst ex
 refine⟨hi,fun v H'' y=>?_⟩
 obtain⟨rfl,rfl⟩:=y
 exact⟨Same.refl _,a1y _⟩
noncomputable def asI:PyData->Option Int
 | .int i=>some i
 | _=>none
theorem b6l{d:PyData}{v:V}{i:Int}(h:AtT K H S d v)(e:asI d=some i):v=.int i:=by
 cases d with
 | int i'=>cases e;exact h.int
 | _=>cases e
def sm62(i:Int):Prop:=-(2 ^ 62) <= i/\i < 2 ^ 62
def c0n(de:TDE):TDI:=fun ρ Q=>de ρ fun x ρ1=>need (a0k ρ1 x) fun d=>need (asI d) fun j=>sm62 j/\Q (rngD 0 j.toNat) ρ1
theorem d6e{t:TE}{de:TDE}(h:AdE K t de):AdI K (d3y (a3q t tNil)) (c0n de):=fun c O ρ σ H Qd Q R q k =>
 h c O ρ σ H _ _ R q fun x ρ1 O1 v H1 h1 R1 P1 a1=>by
  obtain⟨d,e1,hn2⟩:=ne (h1)
  obtain⟨j,e2,hn14⟩:=ne (hn2)
  obtain⟨hj,h2⟩:=hn14
  have ev:=b6l (R1.top a1 e1) e2
  exact⟨j,by rw [ev],hj.1,hj.2,k _ _ _ _ _ h2 R1 P1 c5n⟩
def a6m(g:TDG)(b:TDS)(D:DEnds):List PyData->Rho->Prop
 | [],ρ=>D.nx ρ
 | x :: r,ρ=>g x ρ fun ρ1=>b { D with nx:=a6m g b D r,ct:=a6m g b D r,bk:=D.nx } ρ1
def dFor(di:TDI)(g:TDG)(b:TDS):TDS:=fun D ρ=>di ρ fun xs ρ1=>a6m g b D xs ρ1
theorem e1p{ti:TI}{tg:TG}{tb:TS}{di:TDI}{dg:TDG}{db:TDS}(hi:AdI K ti di)(hg:AdG K tg dg)(hb:AdS K tb db):AdS K (tFor ti tg tb) (dFor di dg db):=fun c O ρ σ H D Dd R E q =>
 hi c O ρ σ H _ _ R q fun xs ρ1 O1 J H1 h1 R1 P1 I1=>by
  refine⟨fun i m σ' H'=>m=xs.length - i/\i <= xs.length/\∃ O' ρ',Rel K c O' ρ' σ' H'/\Pers K (live c O1) H1 (live c O') H'/\a6m dg db Dd (xs.drop i) ρ',⟨xs.length,by simp,zero_le _,O1,ρ1,R1,.refl,by rw [List.drop_zero];exact h1⟩,?_⟩
  rintro i m σ2 H2 ⟨rfl,hle,O2,ρ2,R2,P2,h2⟩
  obtain⟨it,stop⟩:=I1 _ _ P2
  by_cases hlt:i < xs.length
  ·rw [List.drop_eq_getElem_cons hlt] at h2
   obtain⟨go,yld⟩:=it i xs[i] (getElem?_eq_getElem hlt)
   have h2':dg xs[i] ρ2 fun ρ1=>db { Dd with nx:=a6m dg db Dd (xs.drop (i + 1)),ct:=a6m dg db Dd (xs.drop (i + 1)),bk:=Dd.nx } ρ1:=h2
   refine .inr ⟨go,fun σ' H'=>∃ O' ρ',Rel K c O' ρ' σ' H'/\Pers K (live c O1) H1 (live c O') H'/\a6m dg db Dd (xs.drop (i + 1)) ρ',fun σ' H' hq8=>by obtain⟨O',ρ',R',P',q'⟩:=hq8;exact⟨xs.length - (i + 1),by omega,rfl,hlt,O',ρ',R',P',q'⟩,fun v H3 y=>?_⟩
   obtain⟨s3,a3⟩:=yld v H3 y
   refine hg c O2 ρ2 σ2 H3 xs[i] v _ _ (R2.grow s3) a3 h2' fun O4 ρ4 σ4 R4 P4 h4=>?_
   have P5:Pers K (live c O1) H1 (live c O4) H3:=(P2.trans (.same s3)).trans P4
   exact hb c O4 ρ4 σ4 H3 _ { Dd with nx:=a6m dg db Dd (xs.drop (i + 1)),ct:=a6m dg db Dd (xs.drop (i + 1)),bk:=Dd.nx } R4 ⟨fun O6 ρ6 σ6 H6 R6 P6 q6=>⟨O6,ρ6,R6,P5.trans P6,q6⟩,E.rt,fun O6 ρ6 σ6 H6 R6 P6=>E.nx _ _ _ _ R6 ((P1.trans P5).trans P6),fun O6 ρ6 σ6 H6 R6 P6 q6=>⟨O6,ρ6,R6,P5.trans P6,q6⟩,E.mb,E.oa⟩ h4
  ·have e:i=xs.length:=by omega
   subst e
   rw [drop_eq_nil_of_le (le_refl _)] at h2
   exact .inl ⟨stop,E.nx _ _ _ _ R2 (P1.trans P2) h2⟩
end
end L2
end
section
namespace L2
open PySem PySem.Spec PyProof.Rows
noncomputable def a8v:L->L->Option L
 | .own _,.bor xs=>some (.own xs)
 | .bor _,.bor xs=>some (.bor xs)
 | .tape _,.tape k=>some (.tape k)
 | _,_=>none
noncomputable def lend:L->L
 | .own xs=>.bor xs
 | l=>l
noncomputable def isOw:L->Bool
 | .own _=>true
 | .bor _=>true
 | .tape _=>true
 | _=>false
abbrev Lent:=Nat->Option Nat
section
variable{K:W.Frag}{c:Rc}{O:Own}{ρ:Rho}{σ:St}{H H':Hp}{S S':Addr->Prop}
theorem Rel.ow{i:Nat}{l:L}(R:Rel K c O ρ σ H)(h:ρ[i]? = some (some l))(ho:isOw l=true):∃ p,O i=some p/\σ[i]? = some (some (.ref p)):=by
 cases l with
 | own xs=>obtain⟨p,vs,h1,_,h3,_⟩:=R.own i xs h;exact⟨p,h1,h3⟩
 | bor xs=>obtain⟨p,vs,h1,h3,_⟩:=R.bor i xs h;exact⟨p,h1,h3⟩
 | tape k=>obtain⟨p,h1,h3,_⟩:=R.tap i k h;exact⟨p,h1,h3⟩
 | _=>cases ho
noncomputable def Holds(K:W.Frag)(c:Rc)(S:Addr->Prop)(H:Hp)(p:Addr):L->Prop
 | .own xs=>∃ vs,H p=some (.lst vs)/\a0b K H S xs vs
 | .bor xs=>∃ vs,H p=some (.lst vs)/\a0b K H S xs vs
 | .tape k=>H p=some (.lst [.ref c.sa,.int k])
 | _=>False
theorem Rel.holds{i:Nat}{l:L}(R:Rel K c O ρ σ H)(h:ρ[i]? = some (some l))(ho:isOw l=true):∃ p,O i=some p/\σ[i]? = some (some (.ref p))/\Holds K c (live c O) H p l/\(∀ xs,l=.own xs->b0j c p):=by
 cases l with
 | own xs=>obtain⟨p,vs,h1,h2,h3,h4,h5⟩:=R.own i xs h;exact⟨p,h1,h3,⟨vs,h4,h5⟩,fun _ _=>h2⟩
 | bor xs=>obtain⟨p,vs,h1,h3,h4,h5⟩:=R.bor i xs h;exact⟨p,h1,h3,⟨vs,h4,h5⟩,fun _ z=>nomatch z⟩
 | tape k=>obtain⟨p,h1,h3,h4⟩:=R.tap i k h;exact⟨p,h1,h3,h4,fun _ z=>nomatch z⟩
 | _=>cases ho
mutual
theorem AtD.inH(hs:∀ a,S a->H a ≠ none->S' a):∀ (d:PyData) (v:V),AtD K H S d v->AtD K H S' d v
 | .none,_,h=>by unfold AtD at h ⊢;exact h
 | .bool _,_,h=>by unfold AtD at h ⊢;exact h
 | .int _,_,h=>by unfold AtD at h ⊢;exact h
 | .str _,_,h=>by unfold AtD at h ⊢;exact h
 | .list ds,v,h=>by
  obtain⟨a,xs,e1,s,q,r⟩:=a5b h
  subst e1
  exact a4m (hs a s (by rw [q];exact fun z=>nomatch z)) q (a0b.inH hs ds xs r)
 | .tuple ds,v,h=>by
  obtain⟨a,xs,e1,q,r⟩:=a3l h
  subst e1
  exact a1k q (a0b.inH hs ds xs r)
 | .dict kvs,v,h=>by
  obtain⟨a,ν,e1,s,q,e2⟩:=a9e h
  subst e1
  exact b8m (hs a s (by rw [q];exact fun z=>nomatch z)) q (a0z.inH hs kvs ν e2)
theorem a0b.inH(hs:∀ a,S a->H a ≠ none->S' a):∀ (ds:List PyData) (vs:List V),a0b K H S ds vs->a0b K H S' ds vs
 | [],_,h=>by rw [h.unnil];exact .nil
 | d :: ds,vs,h=>by
  obtain⟨v,r,rfl,h1,h2⟩:=h.uncons
  exact .cons (AtD.inH hs d v h1) (a0b.inH hs ds r h2)
theorem a0z.inH(hs:∀ a,S a->H a ≠ none->S' a):∀ (kvs:List (PyData × PyData)) (κ:List (Key × V)),a0z K H S kvs κ->a0z K H S' kvs κ
 | [],_,h=>by rw [h.unnil];exact .nil
 | (x,d) :: r,κ,h=>by
  obtain⟨k,v,t,rfl,rfl,h1,h2⟩:=h.uncons
  exact .cons (AtD.inH hs d v h1) (a0z.inH hs r t h2)
end
noncomputable def a1l(O:Own)(ρ:Rho)(f:Lent):Own:=fun j=>(f j).bind fun i=>match ρ[i]?.join with
 | some l=>if isOw l then O i else none
 | none=>none
noncomputable def Rc.in(c:Rc)(O Oc:Own)(P:Addr->Prop)(b:Bool)(H:Hp):Rc:={ A:=fun p=>(∃ j,Oc j=some p) ∨ (b=true/\H p=none),H0:=H,S:=live c O,P:=P,M:=fun p=>∃ j,Oc j=some p,B:=fun p=>∃ j,Oc j=some p,lent:=Oc,sa:=c.sa,ns:=c.ns }
theorem a2p{f:Lent}{j:Nat}{p:Addr}(h:a1l O ρ f j=some p):∃ i l,f j=some i/\ρ[i]? = some (some l)/\isOw l=true/\O i=some p:=by
 unfold a1l at h
 cases e:f j with
 | none=>rw [e] at h;cases h
 | some i =>
  rw [e] at h
  have h':(match ρ[i]?.join with | some l=>if isOw l then O i else none | none=>none)=some p:=h
  split at h'
  ·rename_i l el
   split at h'
   ·rename_i ho
    exact⟨i,l,rfl,a2d el,ho,h'⟩
   ·cases h'
  ·cases h'
theorem b5l{f:Lent}{j i:Nat}{l:L}(e:f j=some i)(h:ρ[i]? = some (some l))(ho:isOw l=true):a1l O ρ f j=O i:=by
 unfold a1l
 rw [e]
 show(match ρ[i]?.join with | some l=>if isOw l then O i else none | none=>none)=O i
 rw [h]
 show(if isOw l then O i else none)=O i
 rw [if_pos ho]
structure Begins(K:W.Frag)(c:Rc)(O:Own)(ρ:Rho)(σ:St)(H:Hp)(f:Lent)(ρi:Rho)(σi:St):Prop where
 io:∀ (j:Nat) (l:L),ρi[j]? = some (some l)->isOw l=true->∃ i l0,f j=some i/\ρ[i]? = some (some l0)/\isOw l0=true/\l=lend l0/\σi[j]? = σ[i]?
 dat:∀ (j:Nat) (x:PyData),ρi[j]? = some (some (.d x))->∃ v,σi[j]? = some (some v)/\AtD K H (live c O) x v
 scr:∀ j:Nat,ρi[j]? = some (some .scr)->σi[j]? = some (some (.ref c.sa))
 inj:∀ j k i,f j=some i->f k=some i->j=k
 len:σi.length=ρi.length
theorem Rel.begin{b:Bool}{f:Lent}{ρi:Rho}{σi:St}{P:Addr->Prop}{H':Hp}(R:Rel K c O ρ σ H)(B:Begins K c O ρ σ H f ρi σi)(hs:Same H H')(hP:∀ p,P p->H p=none/\H' p ≠ none) :
  Rel K (c.in O (a1l O ρ f) P b H') (a1l O ρ f) ρi σi H'/\Pers K (live c O) H (live (c.in O (a1l O ρ f) P b H') (a1l O ρ f)) H':=by
 have hl:∀ a,live c O a->H a ≠ none->live (c.in O (a1l O ρ f) P b H') (a1l O ρ f) a:=fun a h n=>⟨h,fun z=>n (hP a z).1,fun j e=>by
  obtain⟨i,l,_,_,_,e2⟩:=a2p e
  exact h.2.2 i e2⟩
 have P1:Pers K (live c O) H (live (c.in O (a1l O ρ f) P b H') (a1l O ρ f)) H':=fun d v h =>
  AtD.mono hs.keep _ _ (AtD.inH hl d v h)
 refine⟨⟨fun j x e=>?_,fun j xs e=>?_,fun j xs e=>?_,fun j k e=>?_,fun j e=>B.scr j e,fun j k p e1 e2=>?_,fun j p e=>?_,fun p hp=>hp.elim .inl fun z=>.inr z.2,fun p hp=>?_,fun b o _ q=>q,fun b n=>n,fun p h=>?_,fun p h=>?_,fun j p e l h1 h2=>e,?_,B.len⟩,P1⟩
 ·obtain⟨v,h1,h2⟩:=B.dat j x e
  exact⟨v,h1,P1 _ _ h2⟩
 ·obtain⟨i,l0,_,h2,h3,h4,_⟩:=B.io j _ e rfl
  cases l0<;>cases h4
 ·obtain⟨i,l0,h1,h2,h3,h4,h5⟩:=B.io j _ e rfl
  obtain⟨p,e1,e2,e3,_⟩:=R.holds h2 h3
  have eO:a1l O ρ f j=some p:=(b5l h1 h2 h3).trans e1
  cases l0 with
  | own ys=>cases h4;obtain⟨vs,e4,e5⟩:=e3;exact⟨p,vs,eO,by rw [h5];exact e2,hs _ _ e4,P1.all e5⟩
  | bor ys=>cases h4;obtain⟨vs,e4,e5⟩:=e3;exact⟨p,vs,eO,by rw [h5];exact e2,hs _ _ e4,P1.all e5⟩
  | _=>cases h4
 ·obtain⟨i,l0,h1,h2,h3,h4,h5⟩:=B.io j _ e rfl
  obtain⟨p,e1,e2,e3,_⟩:=R.holds h2 h3
  have eO:a1l O ρ f j=some p:=(b5l h1 h2 h3).trans e1
  cases l0 with
  | tape k0=>cases h4;exact⟨p,eO,by rw [h5];exact e2,hs _ _ e3⟩
  | _=>cases h4
 ·obtain⟨i1,_,f1,_,_,o1⟩:=a2p e1
  obtain⟨i2,_,f2,_,_,o2⟩:=a2p e2
  have:=R.inj i1 i2 p o1 o2
  subst this
  exact B.inj j k i1 f1 f2
 ·obtain⟨i1,_,f1,_,_,o1⟩:=a2p e
  obtain⟨_,vs,h⟩:=R.has i1 p o1
  exact⟨.inl ⟨j,e⟩,vs,hs _ _ h⟩
 ·have hp':H p=none:=hs.free hp
  exact R.liveNew hp'
 ·obtain⟨j,e⟩:=h
  obtain⟨i1,_,f1,_,_,o1⟩:=a2p e
  obtain⟨_,vs,h⟩:=R.has i1 p o1
  exact⟨vs,hs _ _ h⟩
 ·rcases h with h | ⟨j,e⟩
  ·exact(hP p h).2
  ·obtain⟨i1,_,f1,_,_,o1⟩:=a2p e
   obtain⟨_,vs,h⟩:=R.has i1 p o1
   rw [hs _ _ h];exact fun z=>nomatch z
 ·exact R.sc.keep (S:=Any) hs.keep
end
end L2
end
section
namespace L2
open PySem PySem.Spec PyProof.Rows
noncomputable def a7g(ρi:Rho)(l0:L)(j:Nat):Option L:=(ρi[j]?.join).bind (a8v l0)
noncomputable def a5x(ρi:Rho)(j i:Nat)(ρ:Rho):Rho:=match ρ[i]?.join with
 | some l0=>if isOw l0 then ρ.set i (a7g ρi l0 j) else ρ
 | none=>ρ
noncomputable def fills(ρi:Rho):List (Nat × Nat)->Rho->Rho
 | [],ρ=>ρ
 | (j,i) :: r,ρ=>fills ρi r (a5x ρi j i ρ)
theorem c0o{ρi ρ:Rho}{j i k:Nat}(h:k ≠ i):(a5x ρi j i ρ)[k]? = ρ[k]?:=by
 unfold a5x
 split
 ·split
  ·exact getElem?_set_ne (Ne.symm h)
  ·rfl
 ·rfl
theorem d0z{ρi ρ:Rho}{j i:Nat}{l0:L}(h:ρ[i]? = some (some l0))(ho:isOw l0=true):(a5x ρi j i ρ)[i]? = some (a7g ρi l0 j):=by
 have hi:i < ρ.length:=(List.getElem?_eq_some_iff.mp h).1
 unfold a5x
 rw [h]
 show(if isOw l0 then ρ.set i (a7g ρi l0 j) else ρ)[i]? = _
 rw [if_pos ho,getElem?_set_self hi]
theorem d1a{ρi ρ:Rho}{j i:Nat}(h:∀ l0,ρ[i]? = some (some l0)->isOw l0=false):a5x ρi j i ρ=ρ:=by
 unfold a5x
 split
 ·rename_i l0 e
  rw [h l0 (a2d e)]
  rfl
 ·rfl
theorem c8a{ρi ρ:Rho}{j i:Nat}:(a5x ρi j i ρ).length=ρ.length:=by
 unfold a5x
 split
 ·split
  ·rw [length_set]
  ·rfl
 ·rfl
theorem b8n{ρi:Rho}:∀ {fl:List (Nat × Nat)} {ρ:Rho},(fills ρi fl ρ).length=ρ.length
 | [],_=>rfl
 | (j,i) :: r,ρ=>by unfold fills;rw [b8n,c8a]
theorem a8f{ρi:Rho}:∀ {fl:List (Nat × Nat)} {ρ:Rho} {k:Nat},(∀ j,(j,k) ∈ fl->∀ l0,ρ[k]? = some (some l0)->isOw l0=false)->(fills ρi fl ρ)[k]? = ρ[k]?
 | [],_,_,_=>rfl
 | (j,i) :: r,ρ,k,h=>by
  unfold fills
  by_cases hk:k=i
  ·subst hk
   have e:=d1a (ρi:=ρi) (j:=j) (h j mem_cons_self)
   rw [e]
   exact a8f fun j' m=>h j' (mem_cons_of_mem _ m)
  ·have e:=c0o (ρi:=ρi) (ρ:=ρ) (j:=j) hk
   rw [a8f (ρ:=a5x ρi j i ρ) (fun j' m l0 q=>h j' (mem_cons_of_mem _ m) l0 (by rw [← e];exact q)),e]
theorem c0p{ρi:Rho}:∀ {fl:List (Nat × Nat)} {ρ:Rho} {j i:Nat} {l0:L},(fl.map (·.2)).Nodup->(j,i) ∈ fl->ρ[i]? = some (some l0)->isOw l0=true->(fills ρi fl ρ)[i]? = some (a7g ρi l0 j)
 | (j',i') :: r,ρ,j,i,l0,nd,m,h,ho=>by
  rw [map_cons,nodup_cons] at nd
  unfold fills
  rcases mem_cons.mp m with e | m2
  ·cases e
   rw [a8f fun j2 m2=>absurd (mem_map.mpr ⟨(j2,_),m2,rfl⟩) nd.1]
   exact d0z h ho
  ·have ne:i ≠ i':=by
    rintro rfl
    exact nd.1 (mem_map.mpr ⟨(j,_),m2,rfl⟩)
   exact c0p nd.2 m2 (by rw [c0o ne];exact h) ho
section
variable{K:W.Frag}{c:Rc}{O:Own}{ρ:Rho}{σ:St}{H H':Hp}{S S':Addr->Prop}
theorem c0q{l:L}(h:isIO l=true):isOw l=true:=by cases l<;>first | rfl | cases h
theorem Rel.finish{P':Addr->Prop}{fl:List (Nat × Nat)}{f:Lent}{ρi:Rho}{Oi:Own}{ci:Rc}{σi:St}(R:Rel K c O ρ σ H)(nd:(fl.map (·.2)).Nodup)(hf:∀ j i,(j,i) ∈ fl->f j=some i)(hf':∀ j i,f j=some i->(j,i) ∈ fl)
  (Ri:Rel K ci Oi ρi σi H') (hln:∀ j,ci.lent j=a1l O ρ f j) (hsa:ci.sa=c.sa) (hns:ci.ns=c.ns)
  (fr:∀ b o,(∀ j,a1l O ρ f j ≠ some b)->H b=some o->H' b=some o) (hk:∀ j p,a1l O ρ f j=some p->∃ vs,H' p=some (.lst vs))
  (hP:Pers K (live ci Oi) H' (live { c with P:=P' } O) H') (hp:Pers K (live c O) H (live { c with P:=P' } O) H')
  (hP':∀ p,P' p->c.P p ∨ (H' p ≠ none/\∀ i,O i ≠ some p)):Rel K { c with P:=P' } O (fills ρi fl ρ) σ H':=by
 -- a slot is lent, or it is as it was
 have cases_:∀ i:Nat,(∃ j l0,(j,i) ∈ fl/\ρ[i]? = some (some l0)/\isOw l0=true/\(fills ρi fl ρ)[i]? = some (a7g ρi l0 j)) ∨ ((fills ρi fl ρ)[i]? = ρ[i]? /\ ∀ p,O i=some p->(∃ l,ρ[i]? = some (some l)/\isOw l=true)->∀ j,a1l O ρ f j ≠ some p):=fun i=>by
  by_cases h:∃ j l0,(j,i) ∈ fl/\ρ[i]? = some (some l0)/\isOw l0=true
  ·obtain⟨j,l0,h1,h2,h3⟩:=h
   exact .inl ⟨j,l0,h1,h2,h3,c0p nd h1 h2 h3⟩
  ·refine .inr ⟨a8f fun j m l0 q=>?_,fun p hO ⟨l,e1,e2⟩ j z=>?_⟩
   ·cases q2:isOw l0 with
    | false=>rfl
    | true=>exact absurd ⟨j,l0,m,q,q2⟩ h
   ·obtain⟨i2,l2,g1,g2,g3,g4⟩:=a2p z
    have:=R.inj i2 i p g4 hO
    subst this
    exact h ⟨j,l2,hf' j _ g1,g2,g3⟩
 -- what a lent slot has now
 have lent_:∀ {i j:Nat} {l0 l:L},(j,i) ∈ fl->ρ[i]? = some (some l0)->isOw l0=true->a7g ρi l0 j=some l->∃ p l',O i=some p/\σ[i]? = some (some (.ref p))/\isIO l'=true/\a8v l0 l'=some l/\Holds K c (live { c with P:=P' } O) H' p l'/\(∀ xs,l0=.own xs->b0j c p):=fun{i j l0 l} m h2 h3 e=>by
  obtain⟨p,e1,e2,e3,e4⟩:=R.holds h2 h3
  unfold a7g at e
  cases el:ρi[j]?.join with
  | none=>rw [el] at e;cases e
  | some l' =>
   rw [el] at e
   have e':a8v l0 l'=some l:=e
   have hio:isIO l'=true:=by cases l0<;>cases l'<;>first | rfl | cases e'
   have el':=a2d el
   have elent:ci.lent j=some p:=(hln j).trans ((b5l (hf j i m) h2 h3).trans e1)
   have eO:=Ri.lnt j p elent l' el' hio
   obtain⟨p',g1,_,g3,_⟩:=Ri.holds el' (c0q hio)
   rw [eO] at g1;cases g1
   refine⟨p,l',e1,e2,hio,e',?_,e4⟩
   cases l' with
   | bor xs=>obtain⟨vs,q1,q2⟩:=g3;exact⟨vs,q1,hP.all q2⟩
   | tape k=>show H' p=_;rw [← hsa];exact g3
   | _=>cases hio
 have ok':∀ i p,O i=some p->b0j c p->b0j { c with P:=P' } p:=fun i p e h=>⟨h.1,h.2.1,fun z=>(hP' p z).elim h.2.2 fun w=>w.2 i e⟩
 have stay:∀ i p o,O i=some p->(∃ l,ρ[i]? = some (some l)/\isOw l=true)->(∀ p,O i=some p->(∃ l,ρ[i]? = some (some l)/\isOw l=true)->∀ j,a1l O ρ f j ≠ some p)->H p=some o->H' p=some o:=fun i p o e l n q=>fr p o (n p e l) q
 refine⟨fun i x e=>?_,fun i xs e=>?_,fun i xs e=>?_,fun i k e=>?_,fun i e=>?_,R.inj,fun i p e=>⟨(R.has' i p e).1,?_⟩,R.am,R.frs,fun b o n q=>?_,fun b n=>?_,fun p h=>?_,fun p h=>?_,fun i p e l h1 h2=>?_,?_,?_⟩
 ·rcases cases_ i with⟨j,l0,m,h2,h3,h4⟩ | ⟨h1,_⟩
  ·rw [h4] at e
   obtain⟨p,l',_,_,hio,hl,_⟩:=lent_ m h2 h3 (Option.some.inj e)
   cases l'<;>first | (cases hio;done) | (cases l0<;>cases hl)
  ·rw [h1] at e
   obtain⟨v,e1,e2⟩:=R.dat i x e
   exact⟨v,e1,hp _ _ e2⟩
 ·rcases cases_ i with⟨j,l0,m,h2,h3,h4⟩ | ⟨h1,h2⟩
  ·rw [h4] at e
   obtain⟨p,l',g1,g2,hio,hl,g3,g4⟩:=lent_ m h2 h3 (Option.some.inj e)
   cases l' with
   | bor ys =>
    cases l0 with
    | own zs=>cases hl;obtain⟨vs,q1,q2⟩:=g3;exact⟨p,vs,g1,ok' i p g1 (g4 _ rfl),g2,q1,q2⟩
    | _=>cases hl
   | tape k=>cases l0<;>cases hl
   | _=>cases hio
  ·rw [h1] at e
   obtain⟨p,vs,g1,g2,g3,g4,g5⟩:=R.own i xs e
   exact⟨p,vs,g1,ok' i p g1 g2,g3,stay i p _ g1 ⟨_,e,rfl⟩ h2 g4,hp.all g5⟩
 ·rcases cases_ i with⟨j,l0,m,h2,h3,h4⟩ | ⟨h1,h2⟩
  ·rw [h4] at e
   obtain⟨p,l',g1,g2,hio,hl,g3,g4⟩:=lent_ m h2 h3 (Option.some.inj e)
   cases l' with
   | bor ys =>
    cases l0<;>cases hl<;>(obtain⟨vs,q1,q2⟩:=g3;exact⟨p,vs,g1,g2,q1,q2⟩)
   | tape k=>cases l0<;>cases hl
   | _=>cases hio
  ·rw [h1] at e
   obtain⟨p,vs,g1,g3,g4,g5⟩:=R.bor i xs e
   exact⟨p,vs,g1,g3,stay i p _ g1 ⟨_,e,rfl⟩ h2 g4,hp.all g5⟩
 ·rcases cases_ i with⟨j,l0,m,h2,h3,h4⟩ | ⟨h1,h2⟩
  ·rw [h4] at e
   obtain⟨p,l',g1,g2,hio,hl,g3,g4⟩:=lent_ m h2 h3 (Option.some.inj e)
   cases l' with
   | bor ys=>cases l0<;>cases hl
   | tape k2=>cases l0<;>cases hl<;>exact⟨p,g1,g2,g3⟩
   | _=>cases hio
  ·rw [h1] at e
   obtain⟨p,g1,g3,g4⟩:=R.tap i k e
   exact⟨p,g1,g3,stay i p _ g1 ⟨_,e,rfl⟩ h2 g4⟩
 ·rcases cases_ i with⟨j,l0,m,h2,h3,h4⟩ | ⟨h1,h2⟩
  ·rw [h4] at e
   obtain⟨p,l',g1,g2,hio,hl,g3,g4⟩:=lent_ m h2 h3 (Option.some.inj e)
   cases l'<;>first | (cases hio;done) | (cases l0<;>cases hl)
  ·rw [h1] at e;exact R.scr i e
 ·obtain⟨_,vs,q⟩:=R.has i p e
  by_cases hlt:∃ j,a1l O ρ f j=some p
  ·obtain⟨j,hj⟩:=hlt;exact hk j p hj
  ·exact⟨vs,fr p _ (fun j z=>hlt ⟨j,z⟩) q⟩
 ·refine fr b o (fun j z=>?_) (R.same b o n q)
  obtain⟨i,l,_,_,_,hO⟩:=a2p z
  rcases (R.has i b hO).1 with w | w
  ·exact n w
  ·rw [w] at q;cases q
 ·have n':=R.kept b n
  by_cases hlt:∃ j,a1l O ρ f j=some b
  ·obtain⟨j,hj⟩:=hlt
   obtain⟨vs,q⟩:=hk j b hj
   rw [q];exact fun z=>nomatch z
  ·cases q:H b with
   | none=>exact absurd q n'
   | some o=>rw [fr b o (fun j z=>hlt ⟨j,z⟩) q];exact fun z=>nomatch z
 ·obtain⟨vs,q⟩:=R.ml p h
  by_cases hlt:∃ j,a1l O ρ f j=some p
  ·obtain⟨j,hj⟩:=hlt;exact hk j p hj
  ·exact⟨vs,fr p _ (fun j z=>hlt ⟨j,z⟩) q⟩
 ·have fin:∀ q,(c.P q ∨ c.B q)->H' q ≠ none:=fun q hq=>by
   have n':=R.pin q hq
   by_cases hlt:∃ j,a1l O ρ f j=some q
   ·obtain⟨j,hj⟩:=hlt
    obtain⟨vs,q⟩:=hk j q hj
    rw [q];exact fun z=>nomatch z
   ·cases q2:H q with
    | none=>exact absurd q2 n'
    | some o=>rw [fr q o (fun j z=>hlt ⟨j,z⟩) q2];exact fun z=>nomatch z
  rcases h with h | h
  ·rcases hP' p h with w | w
   ·exact fin p (.inl w)
   ·exact w.1
  ·exact fin p (.inr h)
 ·rcases cases_ i with⟨j,l0,m,h3,h4,h5⟩ | ⟨h3,h4⟩
  ·rw [h5] at h1
   obtain⟨p',l',g1,g2,hio,hl,g3,g4⟩:=lent_ m h3 h4 (Option.some.inj h1)
   cases l0 with
   | own zs=>cases l'<;>cases hl;cases h2
   | bor zs=>exact R.lnt i p e _ h3 rfl
   | tape k=>exact R.lnt i p e _ h3 rfl
   | _=>cases h4
  ·rw [h3] at h1;exact R.lnt i p e l h1 h2
 ·have:=Ri.sc
  rw [hsa,hns] at this
  exact this
 ·rw [b8n];exact R.len
end
end L2
end
section
namespace L2
open PySem PySem.Spec PyProof.Rows
abbrev DSp:=List L->(RV->Rho->Prop)->Prop
noncomputable def mask:List L->Rho->Rho
 | [],_=>[]
 | l :: ls,ρ=>(if isIO l then ρ.head?.join else none) :: mask ls ρ.tail
noncomputable def b6m(N:List Str)(ls:List L):Rho:=ls.map some ++ List.replicate (N.length - ls.length) none
def spD(K:W.Frag)(ds:DSp):Sp:=fun vs H Q _=>∃ (c:Rc) (O:Own) (ls:List L) (Qd:RV->Rho->Prop),c.H0=H/\(∀ p,¬ c.P p)/\(∀ p,c.M p->c.B p)/\(∀ p,c.H0 p=none->c.A p)/\(∀ i,c.lent i=O i)/\Rel K c O (ls.map some) (vs.map some) H/\ds ls Qd /\
 ∀ r O' ρ' σ' v H',Qd r (mask ls ρ')->b9i K c O' ρ' σ' H' r v->Q v H'
section
variable{K:W.Frag}{c:Rc}{O:Own}{ρ:Rho}{σ:St}{H H':Hp}{S S':Addr->Prop}
theorem Rel.more{n:Nat}(R:Rel K c O ρ σ H):Rel K c O (ρ ++ List.replicate n none) (σ ++ List.replicate n none) H:=by
 have at_:∀ {i:Nat} {l:L},(ρ ++ List.replicate n none)[i]? = some (some l)->ρ[i]? = some (some l):=fun{i l} e=>by
  by_cases hi:i < ρ.length
  ·rwa [getElem?_append_left hi] at e
  ·rw [getElem?_append_right (by omega),List.getElem?_replicate] at e
   split at e<;>cases e
 have st:∀ {i:Nat} {v:V},σ[i]? = some (some v)->(σ ++ List.replicate n none)[i]? = some (some v):=fun{i v} e=>by
  rw [getElem?_append_left (List.getElem?_eq_some_iff.mp e).1];exact e
 refine⟨fun i x e=>?_,fun i xs e=>?_,fun i xs e=>?_,fun i k e=>?_,fun i e=>st (R.scr i (at_ e)),R.inj,R.has',R.am,R.frs,R.same,R.kept,R.ml,R.pin,fun i p e l h1 h2=>R.lnt i p e l (at_ h1) h2,R.sc,?_⟩
 ·obtain⟨v,h1,h2⟩:=R.dat i x (at_ e);exact⟨v,st h1,h2⟩
 ·obtain⟨p,vs,h1,h2,h3,h4⟩:=R.own i xs (at_ e);exact⟨p,vs,h1,h2,st h3,h4⟩
 ·obtain⟨p,vs,h1,h3,h4⟩:=R.bor i xs (at_ e);exact⟨p,vs,h1,st h3,h4⟩
 ·obtain⟨p,h1,h3,h4⟩:=R.tap i k (at_ e);exact⟨p,h1,st h3,h4⟩
 ·rw [length_append,length_append,R.len,length_replicate,length_replicate]
end
section
variable{P:Program}{w:World}{K:W.Frag}{mg:Str->Option Value}{base:Heap}
theorem Fun.dok{x qual:Str}{st:Stmt}{f:Addr}{fd:FuncData}{N ps:List Str}{k:Nat}{ds:DSp}(F:Fun K x qual st f fd)(S:FnScope N ps (a0h st))
  (hbody:∀ (cdv:Value) (A:Around) (outer:List Env) (s:Shared) (H:Hp) (E:XK),Room k (A.deeper (envOfC qual (a0h st) s.heap.objs.size f cdv)) ->
   ∀ (ls:List L) (Qd:RV->Rho->Prop),ds ls Qd->ls.length=ps.length/\∃ dt,DSs (cxOf CX0 P w K mg base N qual (a0h st) f cdv A outer s H E).nox (a1o st) dt/\dt { nx:=fun ρ=>Qd (.d .none) (mask ls ρ),rt:=fun r ρ=>Qd r (mask ls ρ) } (b6m N ls)) (len:∀ ls Qd,ds ls Qd->ls.length=ps.length):FnOk P w K mg base CX0 (k + 1) f fd ps (spD K ds):=by
 refine F.ok S (fun vs H Q E h=>?_) (fun cdv A outer s H vs Q E hr h=>?_)
 ·obtain⟨c,O,ls,Qd,_,_,_,_,_,R,h1,_⟩:=h
  have:=R.len
  rw [length_map,length_map] at this
  rw [this];exact len ls Qd h1
 ·obtain⟨c,O,ls,Qd,h0,hP,hM,hA,hL,R,h1,fin⟩:=h
  obtain⟨hl,dt,⟨t,p,a⟩,q⟩:=hbody cdv A outer s H E hr ls Qd h1
  have hlv:vs.length=ls.length:=by have:=R.len;rwa [length_map,length_map] at this
  refine⟨t,p,a c O (b6m N ls) (start N vs) H _ { nx:=fun ρ=>Qd (.d .none) (mask ls ρ),rt:=fun r ρ=>Qd r (mask ls ρ) } ?_ ⟨fun O1 ρ1 σ1 H1 R1 _ q1=>?_,fun r O1 ρ1 σ1 H1 v h q1=>?_,fun _ _ _ _ _ _ z=>(show False from z).elim,fun _ _ _ _ _ _ z=>(show False from z).elim,hM,hA⟩ q⟩
  ·unfold b6m start
   rw [hlv]
   exact R.more
  ·exact fin (.d .none) O1 ρ1 σ1 .non H1 q1 ⟨R1,b5i⟩
  ·exact fin r O1 ρ1 σ1 v H1 q1 h
end
def fzL(ρ:Rho)(x:DV)(Q:L->Rho->Prop):Prop:=match x with
 | .d y=>Q (.d y) ρ
 | .sl i=>match ρ[i]?.join with
  | some (.d y)=>Q (.d y) ρ
  | some (.own xs)=>Q (.d (.list xs)) (ρ.set i (some (.d (.list xs))))
  | some .scr=>Q .scr ρ
  | _=>False
noncomputable def ioAt(ρ:Rho)(i:Nat):Option L:=match ρ[i]?.join with
 | some l=>if isOw l then some (lend l) else none
 | none=>none
noncomputable def pass:List Bool->List DV->Rho->(List L->Rho->Prop)->Prop
 | [],[],ρ,Q=>Q [] ρ
 | false :: fs,x :: xs,ρ,Q=>fzL ρ x fun l ρ1=>pass fs xs ρ1 fun ls ρ2=>Q (l :: ls) ρ2
 | true :: fs,.sl i :: xs,ρ,Q=>pass fs xs ρ fun ls ρ2=>need (ioAt ρ2 i) fun l=>Q (l :: ls) ρ2
 | _,_,_,_=>False
noncomputable def a2f:List Bool->List DV->Lent
 | true :: _,.sl i :: _,0=>some i
 | _ :: fs,_ :: xs,j + 1=>a2f fs xs j
 | _,_,_=>none
noncomputable def flOf:Nat->List Bool->List DV->List (Nat × Nat)
 | j,true :: fs,.sl i :: xs=>(j,i) :: flOf (j + 1) fs xs
 | j,true :: fs,.d _ :: xs=>flOf (j + 1) fs xs
 | j,false :: fs,_ :: xs=>flOf (j + 1) fs xs
 | _,_,_=>[]
theorem b2g{fs:List Bool}:∀ {xs:List DV} {j0 j i:Nat},(j,i) ∈ flOf j0 fs xs ↔ ∃ k,j=j0 + k/\a2f fs xs k=some i:=by
 induction fs with
 | nil =>
  intro xs j0 j i
  have e1:flOf j0 [] xs=[]:=by cases xs<;>rfl
  have e2:∀ k,a2f [] xs k=none:=fun k=>by cases xs<;>cases k<;>rfl
  rw [e1]
  exact⟨fun h=>absurd h (not_mem_nil),fun hq8=>by obtain⟨k,_,h⟩:=hq8;rw [e2] at h;cases h⟩
 | cons f fs ih =>
  intro xs j0 j i
  cases xs with
  | nil =>
   have e1:flOf j0 (f :: fs) []=[]:=by cases f<;>rfl
   have e2:∀ k,a2f (f :: fs) [] k=none:=fun k=>by cases f<;>cases k<;>rfl
   rw [e1]
   exact⟨fun h=>absurd h (not_mem_nil),fun hq8=>by obtain⟨k,_,h⟩:=hq8;rw [e2] at h;cases h⟩
  | cons x xs =>
   have step:(∃ k,j=j0 + 1 + k/\a2f fs xs k=some i)->∃ k,j=j0 + k/\a2f (f :: fs) (x :: xs) k=some i:=fun hq8=>by obtain⟨k,e1,e2⟩:=hq8;exact⟨k + 1,by omega,by cases f<;>cases x<;>exact e2⟩
   have back:∀ k,j=j0 + (k + 1)->a2f (f :: fs) (x :: xs) (k + 1)=some i->∃ k,j=j0 + 1 + k/\a2f fs xs k=some i:=fun k e1 e2=>⟨k,by omega,by cases f<;>cases x<;>exact e2⟩
   cases f with
   | false =>
    have e:flOf j0 (false :: fs) (x :: xs)=flOf (j0 + 1) fs xs:=by cases x<;>rfl
    rw [e,ih]
    refine⟨step,fun hq8=>?_⟩
    obtain⟨k,e1,e2⟩:=hq8
    cases k with
    | zero=>cases x<;>cases e2
    | succ k=>exact back k e1 e2
   | true =>
    cases x with
    | d y =>
     show(j,i) ∈ flOf (j0 + 1) fs xs ↔ _
     rw [ih]
     refine⟨step,fun hq8=>?_⟩
     obtain⟨k,e1,e2⟩:=hq8
     cases k with
     | zero=>cases e2
     | succ k=>exact back k e1 e2
    | sl i0 =>
     show(j,i) ∈ (j0,i0) :: flOf (j0 + 1) fs xs ↔ _
     rw [mem_cons,ih]
     constructor
     ·rintro(e | h)
      ·cases e;exact⟨0,rfl,rfl⟩
      ·exact step h
     ·rintro⟨k,e1,e2⟩
      cases k with
      | zero =>
       have e3:some i0=some i:=e2
       cases e3
       exact .inl (by rw [e1];rfl)
      | succ k=>exact .inr (back k e1 e2)
inductive Args (K:W.Frag) (S:Addr->Prop) (sa:Addr) (ρ:Rho) (σ:St) (H:Hp):List Bool->List DV->List L->List V->Prop where
 | nil:Args K S sa ρ σ H [] [] [] []
 | dat {fs xs ls vs x y v}:AtD K H S y v->Args K S sa ρ σ H fs xs ls vs->Args K S sa ρ σ H (false :: fs) (x :: xs) (.d y :: ls) (v :: vs)
 | scr {fs xs ls vs x}:Args K S sa ρ σ H fs xs ls vs->Args K S sa ρ σ H (false :: fs) (x :: xs) (.scr :: ls) (.ref sa :: vs)
 | io {fs xs ls vs v} {i:Nat} {l0:L}:ρ[i]? = some (some l0)->isOw l0=true->σ[i]? = some (some v)->Args K S sa ρ σ H fs xs ls vs->Args K S sa ρ σ H (true :: fs) (.sl i :: xs) (lend l0 :: ls) (v :: vs)
section
variable{K:W.Frag}{c:Rc}{O:Own}{ρ:Rho}{σ:St}{H H':Hp}{S S':Addr->Prop}
theorem Rel.fzL{x:DV}{v:V}{Q:L->Rho->Prop}(R:Rel K c O ρ σ H)(a:AtV K (live c O) σ H x v)(h:fzL ρ x Q):∃ l ρ' O',Q l ρ'/\Rel K c O' ρ' σ H/\Pers K (live c O) H (live c O') H/\((∃ y,l=.d y/\AtD K H (live c O') y v) ∨ (l=.scr/\v=.ref c.sa)):=by
 cases x with
 | d y=>exact⟨.d y,ρ,O,h,R,.refl,.inl ⟨y,rfl,a⟩⟩
 | sl i =>
  have a':σ[i]? = some (some v):=a
  simp only [L2.fzL] at h
  split at h
  ·rename_i y e
   obtain⟨w,h1,h2⟩:=R.dat i y (a2d e)
   rw [a'] at h1;cases h1
   exact⟨.d y,ρ,O,h,R,.refl,.inl ⟨y,rfl,h2⟩⟩
  ·rename_i xs e
   have e':=a2d e
   obtain⟨R',P⟩:=R.freeze e'
   have hi:i < ρ.length:=(List.getElem?_eq_some_iff.mp e').1
   obtain⟨w,h1,h2⟩:=R'.dat i (.list xs) (by rw [getElem?_set_self hi])
   rw [a'] at h1;cases h1
   exact⟨_,_,_,h,R',P,.inl ⟨_,rfl,h2⟩⟩
  ·rename_i e
   have:=R.scr i (a2d e)
   rw [a'] at this;cases this
   exact⟨_,ρ,O,h,R,.refl,.inr ⟨rfl,rfl⟩⟩
  ·exact h.elim
theorem d6f{fs:List Bool}:∀ {xs:List DV} {vs:List V} {ρ:Rho} {O:Own} {Q:List L->Rho->Prop},Rel K c O ρ σ H->AtVs K (live c O) σ H xs vs->pass fs xs ρ Q ->
  ∃ ls ρ' O',Q ls ρ'/\Rel K c O' ρ' σ H/\Pers K (live c O) H (live c O') H/\Args K (live c O') c.sa ρ' σ H fs xs ls vs:=by
 induction fs with
 | nil =>
  intro xs vs ρ O Q R a h
  cases xs with
  | nil=>cases a;exact⟨[],ρ,O,h,R,.refl,.nil⟩
  | cons _ _=>exact(show False from h).elim
 | cons f fs ih =>
  intro xs vs ρ O Q R a h
  cases xs with
  | nil=>cases f<;>exact(show False from h).elim
  | cons x xs =>
   cases a with
   | @cons _ _ v vs a as =>
   cases f with
   | false =>
    have h':L2.fzL ρ x fun l ρ1=>pass fs xs ρ1 fun ls ρ2=>Q (l :: ls) ρ2:=h
    obtain⟨l,ρ1,O1,h1,R1,P1,a1⟩:=R.fzL a h'
    obtain⟨ls,ρ2,O2,h2,R2,P2,a2⟩:=ih R1 (AtVs.pers as P1) h1
    refine⟨l :: ls,ρ2,O2,h2,R2,P1.trans P2,?_⟩
    rcases a1 with⟨y,rfl,a1⟩ | ⟨rfl,rfl⟩
    ·exact .dat (P2 _ _ a1) a2
    ·exact .scr a2
   | true =>
    cases x with
    | d y=>exact(show False from h).elim
    | sl i =>
     have h':pass fs xs ρ fun ls ρ2=>need (ioAt ρ2 i) fun l=>Q (l :: ls) ρ2:=h
     obtain⟨ls,ρ2,O2,hz1,R2,P2,a2⟩:=ih R as h'
     obtain⟨l,e,h2⟩:=ne (hz1)
     refine⟨l :: ls,ρ2,O2,h2,R2,P2,?_⟩
     unfold ioAt at e
     split at e
     ·rename_i l0 el
      split at e
      ·rename_i ho
       cases e
       exact .io (a2d el) ho a a2
      ·cases e
     ·cases e
theorem Args.begins{fs:List Bool}{xs:List DV}{ls:List L}{vs:List V}(a:Args K (live c O) c.sa ρ σ H fs xs ls vs)(inj:∀ j k i,a2f fs xs j=some i->a2f fs xs k=some i->j=k) :
  Begins K c O ρ σ H (a2f fs xs) (ls.map some) (vs.map some):=by
 refine⟨?_,?_,?_,inj,?_⟩
 ·clear inj
  induction a with
  | nil=>intro j l e;simp at e
  | dat h _ ih =>
   intro j l e ho
   cases j with
   | zero=>cases e;cases ho
   | succ j=>obtain⟨i,l0,h1,h2⟩:=ih j l (by simpa using e) ho;exact⟨i,l0,h1,by simpa using h2⟩
  | scr _ ih =>
   intro j l e ho
   cases j with
   | zero=>cases e;cases ho
   | succ j=>obtain⟨i,l0,h1,h2⟩:=ih j l (by simpa using e) ho;exact⟨i,l0,h1,by simpa using h2⟩
  | @io fs xs ls vs v i l0 h1 h2 h3 _ ih =>
   intro j l e ho
   cases j with
   | zero=>cases e;exact⟨i,l0,rfl,h1,h2,rfl,by simpa using h3.symm⟩
   | succ j=>obtain⟨i,l0,h1,h2⟩:=ih j l (by simpa using e) ho;exact⟨i,l0,h1,by simpa using h2⟩
 ·clear inj
  induction a with
  | nil=>intro j x e;simp at e
  | dat h _ ih =>
   intro j x e
   cases j with
   | zero=>cases e;exact⟨_,rfl,h⟩
   | succ j=>obtain⟨v,h1,h2⟩:=ih j x (by simpa using e);exact⟨v,by simpa using h1,h2⟩
  | scr _ ih =>
   intro j x e
   cases j with
   | zero=>cases e
   | succ j=>obtain⟨v,h1,h2⟩:=ih j x (by simpa using e);exact⟨v,by simpa using h1,h2⟩
  | @io fs xs ls vs v i l0 h1 h2 h3 _ ih =>
   intro j x e
   cases j with
   | zero=>cases l0<;>first | (cases h2;done) | cases e
   | succ j=>obtain⟨v,h1,h2⟩:=ih j x (by simpa using e);exact⟨v,by simpa using h1,h2⟩
 ·clear inj
  induction a with
  | nil=>intro j e;simp at e
  | dat h _ ih =>
   intro j e
   cases j with
   | zero=>cases e
   | succ j=>have:=ih j (by simpa using e);simpa using this
  | scr _ ih =>
   intro j e
   cases j with
   | zero=>rfl
   | succ j=>have:=ih j (by simpa using e);simpa using this
  | @io fs xs ls vs v i l0 h1 h2 h3 _ ih =>
   intro j e
   cases j with
   | zero=>cases l0<;>first | (cases h2;done) | cases e
   | succ j=>have:=ih j (by simpa using e);simpa using this
 ·clear inj
  rw [length_map,length_map]
  induction a with
  | nil=>rfl
  | dat _ _ ih=>simp [ih]
  | scr _ ih=>simp [ih]
  | io _ _ _ _ ih=>simp [ih]
theorem Args.mask{fs:List Bool}{xs:List DV}{ls:List L}{vs:List V}(a:Args K (live c O) c.sa ρ σ H fs xs ls vs):∀ (ρ':Rho) {j i:Nat},a2f fs xs j=some i->(L2.mask ls ρ')[j]?.join=ρ'[j]?.join:=by
 have hd:∀ ρ':Rho,ρ'.head?.join=ρ'[0]?.join:=fun ρ'=>by cases ρ'<;>rfl
 have tl:∀ (ρ':Rho) (j:Nat),ρ'.tail[j]? = ρ'[j + 1]?:=fun ρ' j=>by cases ρ'<;>simp
 induction a with
 | nil=>intro ρ' j i e;cases e
 | dat h _ ih =>
  intro ρ' j i e
  cases j with
  | zero=>cases e
  | succ j =>
   have:=ih ρ'.tail (j:=j) (i:=i) e
   rw [tl] at this
   rw [← this];simp [L2.mask]
 | scr _ ih =>
  intro ρ' j i e
  cases j with
  | zero=>cases e
  | succ j =>
   have:=ih ρ'.tail (j:=j) (i:=i) e
   rw [tl] at this
   rw [← this];simp [L2.mask]
 | @io fs xs ls vs v i0 l0 h1 h2 h3 _ ih =>
  intro ρ' j i e
  cases j with
  | zero =>
   have hio:isIO (lend l0)=true:=by cases l0<;>first | rfl | cases h2
   simp only [L2.mask,hio,if_true,List.getElem?_cons_zero]
   show ρ'.head?.join=_
   exact hd ρ'
  | succ j =>
   have:=ih ρ'.tail (j:=j) (i:=i) e
   rw [tl] at this
   rw [← this];simp [L2.mask]
end
theorem b5c{ρi ρj:Rho}:∀ {fl:List (Nat × Nat)} {ρ:Rho},(∀ j i,(j,i) ∈ fl->ρi[j]?.join=ρj[j]?.join)->fills ρi fl ρ=fills ρj fl ρ
 | [],_,_=>rfl
 | (j,i) :: r,ρ,h=>by
  have e:a5x ρi j i ρ=a5x ρj j i ρ:=by
   unfold a5x a7g
   rw [h j i mem_cons_self]
  unfold fills
  rw [e]
  exact b5c fun j' i' m=>h j' i' (mem_cons_of_mem _ m)
def dCall(fs:List Bool)(sp:DSp)(da:TDA)(ρ:Rho)(Q:RV->Rho->Prop):Prop:=da ρ fun xs ρ1=>pass fs xs ρ1 fun ls ρ2=>((flOf 0 fs xs).map (·.2)).Nodup/\sp ls fun r outs=>Q r (fills outs (flOf 0 fs xs) ρ2)
def c0r(fs:List Bool)(sp:DSp)(da:TDA):TDE:=fun ρ Q=>dCall fs sp da ρ fun r ρ1=>match r with
 | .d x=>Q (.d x) ρ1
 | .new xs=>Q (.d (.list xs)) ρ1
def c0s(fs:List Bool)(sp:DSp)(da:TDA):TDF:=fun ρ Q=>dCall fs sp da ρ fun r ρ1=>match r with
 | .d _=>False
 | .new xs=>Q xs ρ1
section
variable{K:W.Frag}{c:Rc}{O:Own}{ρ:Rho}{σ:St}{H H':Hp}{S S':Addr->Prop}
theorem c8b{fs:List Bool}{xs:List DV}(nd:((flOf 0 fs xs).map (·.2)).Nodup):∀ j k i,a2f fs xs j=some i->a2f fs xs k=some i->j=k:=fun j k i e1 e2=>by
 have m1:(j,i) ∈ flOf 0 fs xs:=b2g.mpr ⟨j,by omega,e1⟩
 have m2:(k,i) ∈ flOf 0 fs xs:=b2g.mpr ⟨k,by omega,e2⟩
 exact congrArg Prod.fst (key _ nd m1 m2 rfl)
where
 key:∀ (l:List (Nat × Nat)) {a b:Nat × Nat},(l.map (·.2)).Nodup->a ∈ l->b ∈ l->a.2=b.2->a=b:=fun l=>by
  induction l with
  | nil=>intro a b _ h;cases h
  | cons x l ih =>
   intro a b nd ha hb e
   rw [map_cons,nodup_cons] at nd
   rcases mem_cons.mp ha with ea | ha2<;>rcases mem_cons.mp hb with eb | hb2
   ·rw [ea,eb]
   ·exact absurd (mem_map.mpr ⟨b,hb2,by rw [← e,ea]⟩) nd.1
   ·exact absurd (mem_map.mpr ⟨a,ha2,by rw [e,eb]⟩) nd.1
   ·exact ih nd.2 ha2 hb2 e
theorem c5o{fs:List Bool}{sp:DSp}{ta:TA}{da:TDA}(ha:∀ (Qa:List DV->Rho->Prop) (Qv:List V->Hp->Prop),da ρ Qa->(∀ xs ρ1 O1 vs H1,Qa xs ρ1->Rel K c O1 ρ1 σ H1->Pers K (live c O) H (live c O1) H1->AtVs K (live c O1) σ H1 xs vs->Qv vs H1)->ta σ H Qv)
  {Qd:RV->Rho->Prop} {Q:VK} (h:dCall fs sp da ρ Qd)
  (k:∀ r ρ' O' v H',Qd r ρ'->b9i K c O' ρ' σ H' r v->Pers K (live c O) H (match r with | .d _=>live c O' | .new _=>fun a=>live c O' a/\v ≠ .ref a) H'->Q v H'):b1x (spD K sp) [] E0 ta σ H Q:=by
 refine ha _ _ h fun xs ρ1 O1 vs H1 h1 R1 P1 a1=>?_
 obtain⟨ls,ρ2,O2,⟨nd,h2⟩,R2,P2,as⟩:=d6f R1 a1 h1
 have inj:=c8b nd
 obtain⟨Ri,Pi⟩:=R2.begin (b:=true) (P:=fun _=>False) (H':=H1) (as.begins inj) (Same.refl _) (fun p z=>z.elim)
 rw [append_nil]
 have hf:∀ j i,(j,i) ∈ flOf 0 fs xs->a2f fs xs j=some i:=fun j i m=>by
  obtain⟨k,e1,e2⟩:=b2g.mp m
  have:j=k:=by omega
  subst this;exact e2
 have hf':∀ j i,a2f fs xs j=some i->(j,i) ∈ flOf 0 fs xs:=fun j i e=>b2g.mpr ⟨j,by omega,e⟩
 refine⟨c.in O2 (a1l O2 ρ2 (a2f fs xs)) (fun _=>False) true H1,a1l O2 ρ2 (a2f fs xs),ls,_,rfl,fun p z=>z,fun p z=>z,fun p z=>.inr ⟨rfl,z⟩,fun i=>rfl,Ri,h2,fun r O' ρ' σ' v H' q ok=>?_⟩
 have ef:fills (mask ls ρ') (flOf 0 fs xs) ρ2=fills ρ' (flOf 0 fs xs) ρ2:=b5c fun j i m=>as.mask ρ' (hf j i m)
 rw [ef] at q
 have P12:=P1.trans P2
 have lentM:∀ {b:Addr},(∃ j,a1l O2 ρ2 (a2f fs xs) j=some b)->∃ vs,H1 b=some (.lst vs):=fun hq8=>by
  obtain⟨j,e⟩:=hq8
  obtain⟨i,_,_,_,_,hO⟩:=a2p e
  exact(R2.has i _ hO).2
 have hsame:∀ {ci:Rc},Rel K ci O' ρ' σ' H'->ci.H0=H1->(∀ p,ci.M p->∃ j,a1l O2 ρ2 (a2f fs xs) j=some p)->(∀ b o,(∀ j,a1l O2 ρ2 (a2f fs xs) j ≠ some b)->H1 b=some o->H' b=some o):=fun{ci} Rf h0 hM b o n q=>by
  refine Rf.same b o (fun z=>?_) (by rw [h0];exact q)
  obtain⟨j,e⟩:=hM b z
  exact n j e
 have keep:(∀ b o,(∀ j,a1l O2 ρ2 (a2f fs xs) j ≠ some b)->H1 b=some o->H' b=some o)->Keep (live c O2) H1 H':=fun fr =>
  ⟨fun b ws e=>fr b _ (fun j z=>by obtain⟨vs,w⟩:=lentM ⟨j,z⟩;rw [e] at w;cases w) e,fun b o u e=>fr b _ (fun j z=>by obtain⟨vs,w⟩:=lentM ⟨j,z⟩;rw [e] at w;cases w) e,
   fun b ws hl e=>fr b _ (fun j z=>by obtain⟨i,_,_,_,_,hO⟩:=a2p z;exact hl.2.2 i hO) e⟩
 cases r with
 | d x =>
  obtain⟨Rf,ax⟩:=ok
  have fr:=hsame Rf rfl (fun p z=>z)
  have hl:∀ a,live (c.in O2 (a1l O2 ρ2 (a2f fs xs)) (fun _=>False) true H1) O' a->live c O2 a:=fun a z=>z.1
  have hp:Pers K (live c O2) H1 (live c O2) H':=.of (keep fr) fun _ z=>z
  have hP:Pers K (live (c.in O2 (a1l O2 ρ2 (a2f fs xs)) (fun _=>False) true H1) O') H' (live c O2) H':=.of (Keep.refl _ _) hl
  have Rn:=R2.finish (P':=c.P) nd hf hf' Rf (fun _=>rfl) rfl rfl fr (fun j p e=>Rf.ml p ⟨j,e⟩) hP hp (fun p z=>.inl z)
  exact k (.d x) _ O2 v H' q ⟨Rn,hP _ _ ax⟩ (P12.trans hp)
 | new ys =>
  obtain⟨p,ws,rfl,Rf,ff,hH,ax⟩:=ok
  have fr:=hsame Rf rfl (fun p z=>z)
  have h1p:H1 p=none:=ff.1
  have hl:∀ a,live ((c.in O2 (a1l O2 ρ2 (a2f fs xs)) (fun _=>False) true H1).add p) O' a->live (c.add p) O2 a:=fun a z=>by
   have z1:live c O2 a:=z.1
   exact a9u z1 fun e=>z.2.1 (.inr e)
  have hp:Pers K (live c O2) H1 (live (c.add p) O2) H':=fun d u h=>by
   refine AtD.mono (S:=live (c.add p) O2) ((keep fr).less fun b z=>(a5w z).1) _ _ (AtD.less h1p (fun a z n=>a9u z n) _ _ h)
  have hP:Pers K (live ((c.in O2 (a1l O2 ρ2 (a2f fs xs)) (fun _=>False) true H1).add p) O') H' (live (c.add p) O2) H':=.of (Keep.refl _ _) hl
  have fp:=b5j R2 h1p
  have Rn:Rel K (c.add p) O2 (fills ρ' (flOf 0 fs xs) ρ2) σ H':=R2.finish (P':=fun a=>c.P a ∨ a=p) nd hf hf' Rf (fun _=>rfl) rfl rfl fr (fun j q e=>Rf.ml q ⟨j,e⟩) hP hp (fun q z=>z.elim .inl fun e=>.inr (by subst e;exact⟨by rw [hH];exact(fun z=>nomatch z),fp.2.2.2⟩))
  refine k (.new ys) _ O2 _ H' q ⟨p,ws,rfl,Rn,fp,hH,hP.all ax⟩ ((P12.trans hp).trans (.of (Keep.refl _ _) fun a z=>⟨(a5w z).1,fun e=>(a5w z).2 (by cases e;rfl)⟩))
theorem b8o{fs:List Bool}{sp:DSp}{ta:TA}{da:TDA}(ha:AdA K ta da)(R:Rel K c O ρ σ H){Qd:RV->Rho->Prop}{Q:VK}(h:dCall fs sp da ρ Qd)
  (k:∀ r ρ' O' v H',Qd r ρ'->b9i K c O' ρ' σ H' r v->Pers K (live c O) H (match r with | .d _=>live c O' | .new _=>fun a=>live c O' a/\v ≠ .ref a) H'->Q v H'):b1x (spD K sp) [] E0 ta σ H Q:=
 c5o (fun Qa Qv q k'=>ha c O ρ σ H Qa Qv R q k') h k
theorem d1b{fs:List Bool}{sp:DSp}{ta:TA}{da:TDA}(ha:AdA K ta da):AdE K (b1x (spD K sp) [] E0 ta) (c0r fs sp da):=fun c O ρ σ H Qd Q R h k =>
 b8o ha R h fun r ρ' O' v H' q ok P=>by
  cases r with
  | d x=>exact k _ _ _ _ _ q ok.1 P ok.2
  | new xs =>
   obtain⟨p,ws,rfl,Rn,fp,hH,ax⟩:=ok
   obtain⟨R2,P2⟩:=Rn.unadd
   exact k _ _ _ _ _ q R2 (P.trans (.of (Keep.refl _ _) fun a z=>z.1)) (a4m ⟨Rn.frs p fp.1,fp.2.2.1,fp.2.2.2⟩ hH (P2.all ax))
theorem d1c{fs:List Bool}{sp:DSp}{ta:TA}{da:TDA}(ha:AdA K ta da):AdF K (b1x (spD K sp) [] E0 ta) (c0s fs sp da):=fun c O ρ σ H Qd Q R h k =>
 b8o ha R h fun r ρ' O' v H' q ok P=>by
  cases r with
  | d x=>exact(show False from q).elim
  | new xs =>
   obtain⟨p,ws,rfl,Rn,fp,hH,ax⟩:=ok
   exact k _ _ _ _ _ _ q Rn (P.trans (.of (Keep.refl _ _) fun a z=>a9u z.1 fun e=>z.2 (by rw [e]))) fp hH ax
end
section
variable{X:Cx}{k:Nat}{f:Addr}{fd:FuncData}{ps:List Str}{sp:DSp}{x:Str}{st:Stmt}{p pos:Pos}{e:Expr}{es:List Expr}{da:TDA}
theorem a0p(fs:List Bool)(d:Def X.K X.mg x st ps f fd)(g:FnOk X.prog X.w X.K X.mg X.base CX0 k f fd ps (spD X.K sp))(hr:Room k X.A)(hg:Gl X x)(ha:DA X (e :: es) da) (hdb:(x == ("__debug__" : Str))=false:=by decide)
  (he:starEach (e :: es) X.env=(false,eval e X.env) :: starEach es X.env:=by rfl) (hpl:(backTo pos (starEach es X.env)).any (·.1)=false:=by rfl):DE X (.Call (.Name x p) (e :: es) [] pos) (c0r fs sp da):=by
 obtain⟨t,pt,at_⟩:=ha
 exact⟨_,a2c d g hr hg pt hdb he hpl,d1b at_⟩
theorem d1d(fs:List Bool)(d:Def X.K X.mg x st ps f fd)(g:FnOk X.prog X.w X.K X.mg X.base CX0 k f fd ps (spD X.K sp))(hr:Room k X.A)(hg:Gl X x)(ha:DA X (e :: es) da) (hdb:(x == ("__debug__" : Str))=false:=by decide)
  (he:starEach (e :: es) X.env=(false,eval e X.env) :: starEach es X.env:=by rfl) (hpl:(backTo pos (starEach es X.env)).any (·.1)=false:=by rfl):DF X (.Call (.Name x p) (e :: es) [] pos) (c0s fs sp da):=by
 obtain⟨t,pt,at_⟩:=ha
 exact⟨_,a2c d g hr hg pt hdb he hpl,d1c at_⟩
end
end L2
end
section
namespace L2
open PySem PySem.Spec PyProof.Rows
noncomputable def capR(n:Nat)(cap:List (Str × Nat))(ρ:Rho):Rho:=List.replicate n none ++ cap.map fun p=>(ρ[p.2]?.join).map lend
noncomputable def flC:Nat->List (Str × Nat)->List (Nat × Nat)
 | _,[]=>[]
 | j,p :: r=>(j,p.2) :: flC (j + 1) r
noncomputable def a8w(n:Nat)(cap:List (Str × Nat)):Lent:=fun j=>if j < n then none else(cap[j - n]?).map (·.2)
theorem c3o:∀ {cap:List (Str × Nat)} {n j i:Nat},(j,i) ∈ flC n cap ↔ n <= j/\(cap[j - n]?).map (·.2)=some i:=by
 intro cap
 induction cap with
 | nil=>intro n j i;simp [flC]
 | cons p r ih =>
  intro n j i
  unfold flC
  rw [mem_cons,ih]
  constructor
  ·rintro(e | ⟨h1,h2⟩)
   ·cases e;simp
   ·refine⟨by omega,?_⟩
    have:j - n=(j - (n + 1)) + 1:=by omega
    rw [this,List.getElem?_cons_succ];exact h2
  ·rintro⟨h1,h2⟩
   by_cases e:j=n
   ·subst e
    simp at h2
    exact .inl (by rw [h2])
   ·refine .inr ⟨by omega,?_⟩
    have:j - n=(j - (n + 1)) + 1:=by omega
    rw [this,List.getElem?_cons_succ] at h2;exact h2
theorem c3p:∀ {cap:List (Str × Nat)} {n:Nat},(flC n cap).map (·.2)=cap.map (·.2)
 | [],_=>rfl
 | p :: r,n=>by unfold flC;rw [map_cons,map_cons,c3p]
def a1m(g:TDG)(tt:TDT)(te:TDE)(Q:List PyData->Rho->Prop):List PyData->Rho->List PyData->Prop
 | [],ρ,acc=>Q acc ρ
 | x :: r,ρ,acc=>g x ρ fun ρ1=>tt ρ1 fun b ρ2=>if b=true then te ρ2 fun y ρ3=>fz ρ3 y fun z ρ4=>a1m g tt te Q r ρ4 (acc ++ [z]) else a1m g tt te Q r ρ2 acc
def b9l(n:Nat)(cap:List (Str × Nat))(di:TDI)(g:TDG)(tt:TDT)(te:TDE):TDF:=fun ρ Q=>di ρ fun xs ρ1=>xs.length <= 1000000/\(cap.map (·.2)).Nodup/\a1m g tt te (fun acc ρ'=>Q acc (fills ρ' (flC n cap) ρ1)) xs (capR n cap ρ1) []
section
variable{K:W.Frag}{c:Rc}{O:Own}{ρ:Rho}{σ:St}{H H':Hp}{S S':Addr->Prop}
theorem c8c{l:L}:isOw (lend l)=isOw l:=by cases l<;>rfl
theorem c5p{n:Nat}{cap:List (Str × Nat)}{own:List Str}(hn:own.length=n)(R:Rel K c O ρ σ H)(nd:(cap.map (·.2)).Nodup):Begins K c O ρ σ H (a8w n cap) (capR n cap ρ) (a8e own cap σ):=by
 have at_:∀ {j:Nat} {l:L},(capR n cap ρ)[j]? = some (some l)->n <= j/\∃ p l0,cap[j - n]? = some p/\ρ[p.2]? = some (some l0)/\l=lend l0:=fun{j l} e=>by
  unfold capR at e
  by_cases hj:j < n
  ·rw [getElem?_append_left (by simpa using hj),List.getElem?_replicate,if_pos hj] at e;cases e
  ·rw [getElem?_append_right (by simpa using Nat.le_of_not_lt hj),length_replicate,getElem?_map] at e
   cases q:cap[j - n]? with
   | none=>rw [q] at e;cases e
   | some p =>
    rw [q] at e
    have e':(ρ[p.2]?.join).map lend=some l:=Option.some.inj e
    cases q2:ρ[p.2]?.join with
    | none=>rw [q2] at e';cases e'
    | some l0=>rw [q2] at e';cases e';exact⟨by omega,p,l0,rfl,a2d q2,rfl⟩
 have st:∀ {j:Nat} {p:Str × Nat},n <= j->cap[j - n]? = some p->(a8e own cap σ)[j]? = some (σ[p.2]?).join:=fun{j p} h1 h2=>by
  unfold a8e
  rw [getElem?_append_right (by simp;omega),length_replicate,hn,getElem?_map,h2];rfl
 refine⟨fun j l e ho=>?_,fun j x e=>?_,fun j e=>?_,fun j k i e1 e2=>?_,?_⟩
 ·obtain⟨h1,p,l0,h2,h3,h4⟩:=at_ e
  have ho':isOw l0=true:=by rw [h4,c8c] at ho;exact ho
  obtain⟨q,_,hq⟩:=R.ow h3 ho'
  refine⟨p.2,l0,?_,h3,ho',h4,?_⟩
  ·unfold a8w;rw [if_neg (by omega),h2];rfl
  ·rw [st h1 h2,hq];rfl
 ·obtain⟨h1,p,l0,h2,h3,h4⟩:=at_ e
  cases l0 with
  | d y =>
   cases h4
   obtain⟨v,e1,e2⟩:=R.dat _ _ h3
   exact⟨v,by rw [st h1 h2,e1];rfl,e2⟩
  | _=>cases h4
 ·obtain⟨h1,p,l0,h2,h3,h4⟩:=at_ e
  cases l0 with
  | scr=>rw [st h1 h2,R.scr _ h3];rfl
  | _=>cases h4
 ·unfold a8w at e1 e2
  split at e1
  ·cases e1
  ·split at e2
   ·cases e2
   ·rename_i h1 h2
    rw [← getElem?_map] at e1 e2
    obtain⟨a1,b1⟩:=List.getElem?_eq_some_iff.mp e1
    obtain⟨a2,b2⟩:=List.getElem?_eq_some_iff.mp e2
    have:=(List.getElem_inj nd).mp (b1.trans b2.symm)
    omega
 ·unfold a8e capR;simp [hn]
theorem c3q{n:Nat}{own:List Str}{cap:List (Str × Nat)}{wi:TI}{g:TG}{tt:TT}{te:TE}{di:TDI}{dg:TDG}{dt:TDT}{de:TDE}(hn:own.length=n)(hi:AdI K wi di)(hg:AdG K g dg)(ht:AdT K tt dt)(he:AdE K te de) :
  AdF K (c4z own cap wi g tt te) (b9l n cap di dg dt de):=by
 intro c O ρ σ H Qd Q R h k
 refine hi c O ρ σ H _ _ R h fun xs ρ1 O1 J H1 h1 R1 P1 I1 D hD=>?_
 obtain⟨hz,nd,hloop⟩:=h1
 have B:=c5p (own:=own) hn R1 nd
 generalize hOc:a1l O1 ρ1 (a8w n cap)=Oc
 have s0:=a0m hD (.lst [])
 obtain⟨R2,P2⟩:=R1.begin (b:=false) (P:=fun a=>a=D) B s0 (fun p e=>by subst e;exact⟨hD,by rw [a0e];exact fun z=>nomatch z⟩)
 rw [hOc] at R2 P2
 have lentM:∀ {b:Addr},(∃ j,Oc j=some b)->∃ vs,H1 b=some (.lst vs):=fun hq8=>by
  obtain⟨j,e⟩:=hq8
  rw [← hOc] at e
  obtain⟨i,_,_,_,_,hO⟩:=a2p e
  exact(R1.has i _ hO).2
 have nD:∀ j,Oc j ≠ some D:=fun j e=>by
  obtain⟨vs,q⟩:=lentM ⟨j,e⟩
  rw [hD] at q;cases q
 -- what holds between two turns
 let Jn:St->Hp->Own->Rho->List PyData->List V->Prop:=fun σ' H' O' ρ' acc ys=>Rel K (c.in O1 Oc (fun a=>a=D) false H') O' ρ' σ' H'/\H' D=some (.lst ys)/\a0b K H' (live (c.in O1 Oc (fun a=>a=D) false H') O') acc ys /\
  (∀ b o,(∀ j,Oc j ≠ some b)->b ≠ D->H1 b=some o->H' b=some o)/\Pers K (live c O1) H1 (live (c.in O1 Oc (fun a=>a=D) false H') O') H'
 refine⟨fun i m σ' H'=>m=xs.length - i/\i <= xs.length/\∃ O' ρ' acc ys,Jn σ' H' O' ρ' acc ys/\acc.length <= i/\a1m dg dt de (fun acc ρ'=>Qd acc (fills ρ' (flC n cap) ρ1)) (xs.drop i) ρ' acc,⟨xs.length,by simp,zero_le _,Oc,_,[],[],⟨R2,a0e,.nil,fun b o _ nb q=>by rw [a0f nb];exact q,P2⟩,le_refl _,by rw [List.drop_zero];exact hloop⟩,?_⟩
 rintro i m σ' H' ⟨rfl,hle,O',ρ',acc,ys,⟨R3,hDy,hacc,fr3,P3⟩,hal,q3⟩
 obtain⟨it,stop⟩:=I1 _ _ P3
 by_cases hlt:i < xs.length
 ·rw [List.drop_eq_getElem_cons hlt] at q3
  obtain⟨go,yld⟩:=it i xs[i] (getElem?_eq_getElem hlt)
  have q3':dg xs[i] ρ' fun ρ1'=>dt ρ1' fun b ρ2=>if b=true then de ρ2 fun y ρ3=>fz ρ3 y fun z ρ4=>a1m dg dt de (fun acc ρ'=>Qd acc (fills ρ' (flC n cap) ρ1)) (xs.drop (i + 1)) ρ4 (acc ++ [z]) else a1m dg dt de (fun acc ρ'=>Qd acc (fills ρ' (flC n cap) ρ1)) (xs.drop (i + 1)) ρ2 acc:=q3
  -- to the next turn, at a heap that differs from H4 at D alone
  have next:∀ (σ4:St) (H4 H5:Hp) (O4:Own) (ρ4:Rho) (acc':List PyData) (ys':List V),Rel K (c.in O1 Oc (fun a=>a=D) false H') O4 ρ4 σ4 H4->Pers K (live (c.in O1 Oc (fun a=>a=D) false H') O') H' (live (c.in O1 Oc (fun a=>a=D) false H') O4) H4 ->
    H5 D=some (.lst ys')->(∀ b,b ≠ D->H5 b=H4 b)->a0b K H4 (live (c.in O1 Oc (fun a=>a=D) false H') O4) acc' ys'->Jn σ4 H5 O4 ρ4 acc' ys':=fun σ4 H4 H5 O4 ρ4 acc' ys' R4 P4 h5 ne a4=>by
   have h4D:H4 D ≠ none:=R4.kept D (by show H' D ≠ none;rw [hDy];exact fun z=>nomatch z)
   have kp:Keep (live (c.in O1 Oc (fun a=>a=D) false H') O4) H4 H5:=by
    have hDl:∃ zs,H4 D=some (.lst zs):=⟨ys,R4.same D _ (fun hq8=>by obtain⟨j,e⟩:=hq8;exact nD j e) hDy⟩
    obtain⟨zs,hDl⟩:=hDl
    exact⟨fun b ws e=>by rw [ne b (b9f e hDl (by intro z;cases z))];exact e,fun b o u e=>by rw [ne b (b9f e hDl (by intro z;cases z))];exact e,fun b ws hl e=>by rw [ne b (fun z=>hl.2.1 z)];exact e⟩
   have hl:∀ a,live (c.in O1 Oc (fun a=>a=D) false H') O4 a->live (c.in O1 Oc (fun a=>a=D) false H5) O4 a:=fun a z=>z
   have P5:Pers K (live (c.in O1 Oc (fun a=>a=D) false H') O4) H4 (live (c.in O1 Oc (fun a=>a=D) false H5) O4) H5:=.of kp hl
   have inM:∀ i p,O4 i=some p->∃ j,Oc j=some p:=fun i p e=>by
    rcases (R4.has' i p e).1 with z | z
    ·exact z
    ·exact absurd z.1 Bool.false_ne_true
   refine⟨R4.to (fun _=>rfl) (fun _ _ _ z=>z) rfl rfl P5 (fun i p vs e q=>?_) (fun i p e _=>.inl (inM i p e)) (fun p z=>z.elim .inl fun w=>absurd w.1 Bool.false_ne_true) (fun p z=>?_) (fun b o _ z=>z) (fun b z=>z) (fun p z=>?_) (fun p z=>?_) (fun _=>rfl) (R4.sc.keep kp),h5,P5.all a4,fun b o n1 n2 q=>?_,(P3.trans P4).trans P5⟩
   ·obtain⟨j,ej⟩:=inM i p e
    rw [ne p (fun z=>nD j (by rw [← z];exact ej))];exact q
   ·have z':H5 p=none:=z
    have np:p ≠ D:=by rintro rfl;rw [h5] at z';cases z'
    rw [ne p np] at z'
    exact R4.frs p (R4.free0 z')
   ·obtain⟨j,ej⟩:=z
    obtain⟨vs,q⟩:=R4.ml p ⟨j,ej⟩
    exact⟨vs,by rw [ne p (fun w=>nD j (by rw [← w];exact ej))];exact q⟩
   ·rcases z with z | ⟨j,ej⟩
    ·rw [show p=D from z,h5];exact fun w=>nomatch w
    ·obtain⟨vs,q⟩:=R4.ml p ⟨j,ej⟩
     rw [ne p (fun w=>nD j (by rw [← w];exact ej)),q];exact fun w=>nomatch w
   ·rw [ne b n2]
    exact R4.same b o (fun hq8=>by obtain⟨j,e⟩:=hq8;exact n1 j e) (fr3 b o n1 n2 q)
  refine .inr ⟨go,fun σ'' H''=>∃ O'' ρ'' acc' ys',Jn σ'' H'' O'' ρ'' acc' ys'/\acc'.length <= i + 1/\a1m dg dt de (fun acc ρ'=>Qd acc (fills ρ' (flC n cap) ρ1)) (xs.drop (i + 1)) ρ'' acc',fun σ'' H'' hq8=>by obtain⟨O'',ρ'',acc',ys',a1,a2,a3⟩:=hq8;exact⟨xs.length - (i + 1),by omega,rfl,hlt,O'',ρ'',acc',ys',a1,a2,a3⟩,fun v H4 y=>?_⟩
  obtain⟨s4,a4⟩:=yld v H4 y
  refine hg _ O' ρ' σ' H4 xs[i] v _ _ (R3.grow s4) a4 q3' fun O5 ρ5 σ5 R5 P5 q5=>?_
  refine ht _ O5 ρ5 σ5 H4 _ _ R5 q5 fun b ρ6 O6 H6 q6 R6 P6=>?_
  have P06:=((Pers.same s4).trans P5).trans P6
  have dAt:∀ {O9:Own} {ρ9:Rho} {σ9:St} {H9:Hp},Rel K (c.in O1 Oc (fun a=>a=D) false H') O9 ρ9 σ9 H9->H9 D=some (.lst ys):=fun Rx=>Rx.same D _ (fun hq8=>by obtain⟨j,e⟩:=hq8;exact nD j e) hDy
  cases b with
  | false =>
   rw [if_neg Bool.false_ne_true] at q6 ⊢
   exact⟨O6,ρ6,acc,ys,next σ5 H6 H6 O6 ρ6 acc ys R6 P06 (dAt R6) (fun _ _=>rfl) (P06.all hacc),by omega,q6⟩
  | true =>
   rw [if_pos rfl] at q6 ⊢
   refine he _ O6 ρ6 σ5 H6 _ _ R6 q6 fun y ρ7 O7 u H7 q7 R7 P7 a7=>?_
   obtain⟨z,ρ8,O8,q8,R8,P8,a8⟩:=R7.fz a7 q7
   have P08:=(P06.trans P7).trans P8
   have accl:ys.length=acc.length:=hacc.length
   refine⟨ys,dAt R8,by rw [accl];exact mil (by omega),O8,ρ8,acc ++ [z],ys ++ [u],next σ5 H7 _ O8 ρ8 _ _ R8 P08 a0e (fun b nb=>a0f nb) ((P08.all hacc).snoc a8),by rw [length_append,List.length_singleton];omega,q8⟩
 ·have e:i=xs.length:=by omega
  subst e
  rw [drop_eq_nil_of_le (le_refl _)] at q3
  refine .inl ⟨stop,?_⟩
  have fr:∀ b o,(∀ j,a1l O1 ρ1 (a8w n cap) j ≠ some b)->H1 b=some o->H' b=some o:=fun b o n1 q=>fr3 b o (by rw [← hOc];exact n1) (a1x q hD) q
  have fp:=b5j R1 hD
  have hl:∀ a,live (c.in O1 Oc (fun a=>a=D) false H') O' a->live (c.add D) O1 a:=fun a z=>a9u z.1 z.2.1
  have hP:Pers K (live (c.in O1 Oc (fun a=>a=D) false H') O') H' (live (c.add D) O1) H':=.of (Keep.refl _ _) hl
  have hp:Pers K (live c O1) H1 (live (c.add D) O1) H':=P3.trans hP
  have hf:∀ j i,(j,i) ∈ flC n cap->a8w n cap j=some i:=fun j i m=>by
   obtain⟨h1,h2⟩:=c3o.mp m
   unfold a8w;rw [if_neg (by omega)];exact h2
  have hf':∀ j i,a8w n cap j=some i->(j,i) ∈ flC n cap:=fun j i e=>by
   unfold a8w at e
   split at e
   ·cases e
   ·exact c3o.mpr ⟨by omega,e⟩
  have Rn:Rel K (c.add D) O1 (fills ρ' (flC n cap) ρ1) σ H':=R1.finish (P':=fun a=>c.P a ∨ a=D) (by rw [c3p];exact nd) hf hf' R3 (fun j=>by rw [hOc];rfl) rfl rfl fr (fun j p e=>R3.ml p ⟨j,by rw [← hOc];exact e⟩) hP hp (fun q z=>z.elim .inl fun e=>.inr (by subst e;exact⟨by rw [hDy];exact(fun z=>nomatch z),fp.2.2.2⟩))
  exact k _ _ O1 D ys H' q3 Rn (P1.trans hp) fp hDy (hP.all hacc)
end
end L2
end
section
namespace L2
open PySem PySem.Spec PyProof.Rows
def DG(X:Cx)(target:Expr)(dg:TDG):Prop:=∃ g,PG X target g/\AdG X.K g dg
def DGs(X:Cx)(ts:List Expr)(dg:TDGs):Prop:=∃ g,PGs X ts g/\AdGs X.K g dg
def DIf(X:Cx)(ifs:List Expr)(dt:TDT):Prop:=∃ t,PIf X ifs t/\AdT X.K t dt
section
variable{X:Cx}{st:Stmt}{rest:List Stmt}{e tg iter a b c:Expr}{es ifs:List Expr}{de da db dc:TDE}{df:TDF}{dt du:TDS}{dg:TDG}{dgs:TDGs}{di:TDI}{dtt:TDT}{daa:TDA}{pos:Pos}
theorem a2g:DSs X [] c5f:=⟨_,a3e,d5z⟩
theorem a0j(h1:DS X st dt)(h2:DSs X rest du):DSs X (st :: rest) (dSeq dt du):=by obtain⟨_,p,a⟩:=h1;obtain⟨_,p',a'⟩:=h2;exact⟨_,a0o p p',e1i a a'⟩
theorem a0t(h1:DS X st dt):DSs X [st] dt:=by obtain⟨_,p,a⟩:=h1;exact⟨_,a0s p,a⟩
theorem a5f(he:DE X e de)(hs:swapsWith e none pos.line X.env=pure false:=by rfl):DS X (.Expr e pos) (c5g de):=by obtain⟨_,p,a⟩:=he;exact⟨_,a4d p hs,d6a a⟩
theorem a1n(he:DE X e de):DS X (.Return (some e) pos) (dRet de):=by obtain⟨_,p,a⟩:=he;exact⟨_,a1p p,e1k a⟩
theorem d6g(he:DF X e df):DS X (.Return (some e) pos) (c5h df):=by obtain⟨_,p,a⟩:=he;exact⟨_,a1p p,d6b a⟩
theorem c8d(i:Nat){x:Str}{p:Pos}(hN:X.N[i]? = some x:=by rfl)(hv:Vis X.env.scope x:=by first | exact Or.inl rfl | exact Or.inr (Or.inl rfl) | exact Or.inr (Or.inr rfl)) (hd:(x == ("__debug__" : Str))=false:=by decide)
  (hcd:(x == ("__classdict__" : Str))=false:=by decide):DS X (.Return (some (.Name x p)) pos) (b7n i):=⟨_,a1p (b0u hN hv hd hcd),c7y⟩
theorem a4b{c:Expr}{a b:List Stmt}(hc:DT X c dtt)(ha:DSs X a dt)(hb:DSs X b du):DS X (.If c a b pos) (dIf dtt dt du):=by obtain⟨_,p,a⟩:=hc;obtain⟨_,p',a'⟩:=ha;obtain⟨_,p2,a2⟩:=hb;exact⟨_,a4a p p' p2,ad_if a a' a2⟩
theorem a4g{i:Nat}{x:Str}{pos':Pos}(hN:X.N.Nodup)(hi:X.N[i]? = some x)(hx:Loc X.env.scope x)(he:DE X e de)(hs:swapsWith e (some (.Name x pos')) pos.line X.env=pure false:=by rfl)(hf:X.fn x=true ∨ X.env.scope.names.lookup x=some .local:=by first | exact .inl rfl | exact .inr rfl) :
  DS X (.Assign [.Name x pos'] e pos) (dSet i de):=by obtain⟨_,p,a⟩:=he;exact⟨_,a2j hN hi hx p hs hf,e1l a⟩
theorem a9f{i:Nat}{x:Str}{pos':Pos}(hN:X.N.Nodup)(hi:X.N[i]? = some x)(hx:Loc X.env.scope x)(he:DF X e df)(hs:swapsWith e (some (.Name x pos')) pos.line X.env=pure false:=by rfl)(hf:X.fn x=true ∨ X.env.scope.names.lookup x=some .local:=by first | exact .inl rfl | exact .inr rfl) :
  DS X (.Assign [.Name x pos'] e pos) (b9j i df):=by obtain⟨_,p,a⟩:=he;exact⟨_,a2j hN hi hx p hs hf,c3n a⟩
theorem a1e{i:Nat}{x:Str}(hN:X.N.Nodup)(hi:X.N[i]? = some x)(hx:Loc X.env.scope x)(hf:X.fn x=true ∨ X.env.scope.names.lookup x=some .local:=by first | exact .inl rfl | exact .inr rfl | assumption):DG X (.Name x pos) (c0k i):=⟨_,a9c hN hi hx hf,d6c⟩
theorem b4k:DGs X [] b9k:=⟨_,c2x,e1m⟩
theorem a5r(h1:DG X e dg)(h2:DGs X es dgs)(hs:(assignEach (e :: es) X.env).map (·.2)=assign e X.env :: (assignEach es X.env).map (·.2):=by rfl):DGs X (e :: es) (c0l dg dgs):=by obtain⟨_,p,a⟩:=h1;obtain⟨_,p',a'⟩:=h2;exact⟨_,b5g p p' hs,d6d a a'⟩
theorem b6n{k n:Nat}(hc:X.calm=true)(h:DGs X es dgs)(hn:(assignEach es X.env).length=n:=by rfl)(hst:(assignEach es X.env).findIdx? (·.1)=none:=by rfl):DG X (.Tuple es k pos) (c5j n dgs):=by obtain⟨_,p,a⟩:=h;exact⟨_,c7e hc p hn hst,e1n a⟩
theorem a4o(i:Nat){x:Str}{p p2:Pos}(hN:X.N[i]? = some x)(he:DE X e de)(hv:Vis X.env.scope x:=by first | exact Or.inl rfl | exact Or.inr (Or.inl rfl) | exact Or.inr (Or.inr rfl)) (hd:(x == ("__debug__" : Str))=false:=by decide)
  (hcd:(x == ("__classdict__" : Str))=false:=by decide) (hs:starEach [e] X.env=[(false,eval e X.env)]:=by rfl)
  (hbase:attributeBase (.Name x p) "append" X.env (eval (.Name x p) X.env)=eval (.Name x p) X.env:=by rfl)
  (hfew:((backTo pos (starEach [e] X.env)).all (fun x=>!x.1) && (backToKw pos (keywordEach [] X.env)).all (fun x=>x.1.isSome)
   && decide (([e]:List Expr).length + ([]:List Keyword).length + (if ([]:List Keyword).isEmpty then 0 else 1) < 30))=true:=by rfl)
  (hline:(p2.endLine == pos.line)=true:=by rfl):DE X (.Call (.Attribute (.Name x p) "append" p2) [e] [] pos) (b7o i de):=by
 obtain⟨te,pe,ae⟩:=he
 exact⟨_,a6k PySem.F.plainAttrs_list PySem.F.slot_list_append PySem.F.type_list_append a4f (b0u hN hv hd hcd) (a0c pe a0i hs) hbase hfew hline hs rfl,c7z ae⟩
theorem a8n{body:List Stmt}(hp:PassesOwn (model X.prog X.w) X.A X.env X.xe)(hc:X.calm=true)(hi:DI X tg iter di)(hg:DG X tg dg)(hb:DSs X body dt)(hs:∀ x,foldedSetIterable iter X.env x=pure x:=by intro _;rfl):DS X (.For tg iter body [] pos) (dFor di dg dt):=
 by obtain⟨_,p,a⟩:=hi;obtain⟨_,p',a'⟩:=hg;obtain⟨_,p2,a2⟩:=hb;exact⟨_,c7h hp hc p p' p2 hs,e1p a a' a2⟩
theorem a3a(h:DE X e de):DI X tg e (c5m de):=by obtain⟨_,p,a⟩:=h;exact⟨_,e0u p,e1o a⟩
theorem a8o{p:Pos} (hg:Gl X "range") (hm:X.mg "range" = none) (ha:DE X a da) (hs:starEach [a] X.env=[(false,eval a X.env)]:=by rfl):DI X tg (.Call (.Name "range" p) [a] [] pos) (c0n da):=
 by obtain⟨_,p,a⟩:=ha;exact⟨_,c7f hg hm (a0c p a0i hs) hs,d6e a⟩
theorem a3g:DIf X [] (fun ρ Q=>Q true ρ):=⟨_,b4f,fun c O ρ σ H Qd Q R h k=>k _ _ _ _ h R .refl⟩
theorem b7p(h:DT X e dtt):DIf X [e] dtt:=by obtain⟨_,p,a⟩:=h;exact⟨_,d5r p,a⟩
end
def upE(K:W.Frag)(dt:TDE):TE:=fun σ H Q=>∃ c O ρ Qd,Rel K c O ρ σ H/\dt ρ Qd/\(∀ x ρ' O' v H',Qd x ρ'->Rel K c O' ρ' σ H'->Pers K (live c O) H (live c O') H'->AtV K (live c O') σ H' x v->Q v H')
def upT(K:W.Frag)(dt:TDT):TT:=fun σ H Q=>∃ c O ρ Qd,Rel K c O ρ σ H/\dt ρ Qd/\(∀ b ρ' O' H',Qd b ρ'->Rel K c O' ρ' σ H'->Pers K (live c O) H (live c O') H'->Q b H')
def upG(K:W.Frag)(dg:TDG):TG:=fun v σ H Q=>∃ c O ρ x Qd,Rel K c O ρ σ H/\AtD K H (live c O) x v/\dg x ρ Qd/\(∀ O' ρ' σ' ,Rel K c O' ρ' σ' H->Pers K (live c O) H (live c O') H->Qd ρ'->Q σ' H)
theorem c8e{K:W.Frag}{dt:TDE}:AdE K (upE K dt) dt:=fun c O ρ σ H Qd Q R h k=>⟨c,O,ρ,Qd,R,h,k⟩
theorem c8f{K:W.Frag}{dt:TDT}:AdT K (upT K dt) dt:=fun c O ρ σ H Qd Q R h k=>⟨c,O,ρ,Qd,R,h,k⟩
theorem c8g{K:W.Frag}{dg:TDG}:AdG K (upG K dg) dg:=fun c O ρ σ H x v Qd Q R a h k=>⟨c,O,ρ,x,Qd,R,a,h,k⟩
theorem DE.up{X:Cx}{e:Expr}{de:TDE}(h:DE X e de):PE X e (upE X.K de):=fun pins s σ H Q I q=>by
 obtain⟨t,p,a⟩:=h
 obtain⟨c,O,ρ,Qd,R,q,k⟩:=q
 exact p pins s σ H Q I (a c O ρ σ H Qd Q R q k)
theorem DIf.up{X:Cx}{e:List Expr}{de:TDT}(h:DIf X e de):PIf X e (upT X.K de):=fun pins s σ H Q I q=>by
 obtain⟨t,p,a⟩:=h
 obtain⟨c,O,ρ,Qd,R,q,k⟩:=q
 exact p pins s σ H Q I (a c O ρ σ H Qd Q R q k)
theorem DG.up{X:Cx}{e:Expr}{dg:TDG}(h:DG X e dg):PG X e (upG X.K dg):=fun pins s σ H v u Q I r q=>by
 obtain⟨t,p,a⟩:=h
 obtain⟨c,O,ρ,x,Qd,R,ax,q,k⟩:=q
 exact p pins s σ H v u Q I r (a c O ρ σ H x v Qd Q R ax q k)
section
variable{X:Cx}{elt tg iter:Expr}{ifs:List Expr}{scope:Scope}{pos:Pos}{own:List Str}{cap:List (Str × Nat)}{di:TDI}{dg:TDG}{dt:TDT}{de:TDE}
theorem a3w(own:List Str)(cap:List (Str × Nat))(hc:X.calm=true)(hok:a6l X scope own cap=true)(hnd:(scope.names.map (·.1)).Nodup)(hi:DI X tg iter di)
  (hg:∀ fp s2 H2,DG (cxC X scope own cap fp s2 H2) tg dg) (ht:∀ fp s2 H2,DIf (cxC X scope own cap fp s2 H2) ifs dt) (he:∀ fp s2 H2,DE (cxC X scope own cap fp s2 H2) elt de)
  (hs:∀ x,foldedSetIterable iter X.env x=pure x:=by intro _;rfl):DF X (.ListComp elt [⟨tg,iter,ifs,0⟩] scope pos) (b9l own.length cap di dg dt de):=by
 obtain⟨ti,pi,ai⟩:=hi
 exact⟨_,b7k hc hok hnd pi (fun a b c=>(hg a b c).up) (fun a b c=>(ht a b c).up) (fun a b c=>(he a b c).up) hs,c3q rfl ai c8g c8f c8e⟩
theorem b4l{i:Nat}{y:Str}{py spos:Pos}(hN:X.N.Nodup)(hi':X.N[i]? = some y)(hy:X.env.scope.names.lookup y=some .local)
  (own:List Str) (cap:List (Str × Nat)) (hc:X.calm=true) (hok:a6l X scope own cap=true) (hnd:(scope.names.map (·.1)).Nodup) (hi:DI X tg iter di)
  (hg:∀ fp s2 H2,DG (cxC X scope own cap fp s2 H2) tg dg) (ht:∀ fp s2 H2,DIf (cxC X scope own cap fp s2 H2) ifs dt) (he:∀ fp s2 H2,DE (cxC X scope own cap fp s2 H2) elt de)
  (hsw:swapsWith (.ListComp elt [⟨tg,iter,ifs,0⟩] scope pos) (some (.Name y py)) spos.line X.env=pure true:=by rfl)
  (hs:∀ x,foldedSetIterable iter X.env x=pure x:=by intro _;rfl):DS X (.Assign [.Name y py] (.ListComp elt [⟨tg,iter,ifs,0⟩] scope pos) spos) (b9j i (b9l own.length cap di dg dt de)):=by
 obtain⟨ti,pi,ai⟩:=hi
 exact⟨_,c3i hN hi' hy hc hok hnd pi (fun a b c=>(hg a b c).up) (fun a b c=>(ht a b c).up) (fun a b c=>(he a b c).up) hsw hs,c3n (c3q rfl ai c8g c8f c8e)⟩
end
section
variable{K:W.Frag}
def dIs(T:String)(de:TDE):TDE:=fun ρ Q=>de ρ fun x ρ1=>need (a0k ρ1 x) fun d=>Q (.d (.bool (isD T d))) ρ1
theorem ad_is{t:TE}{de:TDE}{T:String}(hT:a2b T=true)(h:AdE K t de):AdE K (tCB (fun xs H Q=>∃ v S d T,xs=[v,.ty T]/\AtD K H S d v/\a2b T=true/\Q (.bl (isD T d)) H) (a3q t (a3q (tC (.ty T)) tNil))) (dIs T de):=fun c O ρ σ H Qd Q R q k =>
 h c O ρ σ H _ _ R q fun x ρ1 O1 v H1 h1 R1 P1 a1=>by
  obtain⟨d,e1,h2⟩:=ne (h1)
  exact⟨v,Any,d,T,rfl,(R1.top a1 e1).any,hT,k _ _ _ _ _ h2 R1 P1 a7u⟩
end
theorem a6n{X:Cx}{e:Expr}{de:TDE}{x:Str}{T:String}{p p2 pos:Pos} (hg:Gl X "isinstance") (hm:X.mg "isinstance" = none) (hg2:Gl X x) (hm2:X.mg x=none) (hv:bootBuiltins x=some (.type T)) (hT:a2b T=true) (he:DE X e de) (hn:x ≠ "__name__":=by decide) (hd:(x == ("__debug__" : Str))=false:=by decide)
  (hs:starEach [e,.Name x p2] X.env=(false,eval e X.env) :: starEach [.Name x p2] X.env:=by rfl):DE X (.Call (.Name "isinstance" p) [e,.Name x p2] [] pos) (dIs T de):=by
 obtain⟨t,pe,ae⟩:=he
 exact⟨_,a2l d0x hg hm b2w (a0c pe (a0c (c5a hg2 hm2 hv hn hd) a0i) hs) (by decide) (by decide) hs rfl,ad_is hT ae⟩
end L2
end
section
namespace L2
open PySem PySem.Spec PyProof.Rows
noncomputable def fEqA(neg:Bool):F2:=fun x y=>if (a1z x && a1z y && scal (toV x) (toV y))=true then some (.bool (if neg then !decide (toV x=toV y) else decide (toV x=toV y))) else fEq neg x y
section
variable{K:W.Frag}
theorem a3m:AdR K (fun x y H Q=>rEq x y H Q ∨ rEqD K false x y H Q) (fEqA false):=by
 intro S H x y dx dy z Q f hx hy e k
 unfold fEqA at e
 split at e
 ·rename_i hc
  rw [and_eq_true,and_eq_true] at hc
  cases e
  obtain⟨e1,_⟩:=b4j (hx.at fun ds z=>by subst z;exact absurd hc.1.1 (by simp [a1z])) hc.1.1
  obtain⟨e2,_⟩:=b4j (hy.at fun ds z=>by subst z;exact absurd hc.1.2 (by simp [a1z])) hc.1.2
  rw [e1,e2]
  exact .inl ⟨hc.2,k _ _ (Same.refl _) (a3i _)⟩
 ·exact .inr (d4i S H x y dx dy z Q f hx hy e k)
theorem b3l:AdR K (fun x y H Q=>rNe x y H Q ∨ rEqD K true x y H Q) (fEqA true):=by
 intro S H x y dx dy z Q f hx hy e k
 unfold fEqA at e
 split at e
 ·rename_i hc
  rw [and_eq_true,and_eq_true] at hc
  cases e
  obtain⟨e1,_⟩:=b4j (hx.at fun ds z=>by subst z;exact absurd hc.1.1 (by simp [a1z])) hc.1.1
  obtain⟨e2,_⟩:=b4j (hy.at fun ds z=>by subst z;exact absurd hc.1.2 (by simp [a1z])) hc.1.2
  rw [e1,e2]
  exact .inl ⟨hc.2,k _ _ (Same.refl _) (a3i _)⟩
 ·exact .inr (d4i S H x y dx dy z Q f hx hy e k)
theorem a3n{X:Cx}(hu:X.A.units + 64 < cLine):OpR X (compareOp .Eq) (fun x y H Q=>rEq x y H Q ∨ rEqD X.K false x y H Q):=a5k.or (e0s hu)
theorem b3m{X:Cx}(hu:X.A.units + 64 < cLine):OpR X (compareOp .NotEq) (fun x y H Q=>rNe x y H Q ∨ rEqD X.K true x y H Q):=d3z.or (e0t hu)
end
theorem d1e{neg:Bool}{x y:Str}:fEqA neg (.str x) (.str y)=some (.bool (if neg then !decide (x=y) else decide (x=y))):=by
 have e:decide (V.str x=V.str y)=decide (x=y):=by simp
 unfold fEqA
 rw [if_pos (show(a1z (.str x) && a1z (.str y) && scal (toV (.str x)) (toV (.str y)))=true from rfl)]
 show some (PyData.bool (if neg=true then !decide (V.str x=V.str y) else decide (V.str x=V.str y)))=_
 rw [e]
theorem d1f{neg:Bool}{x y:Int}:fEqA neg (.int x) (.int y)=some (.bool (if neg then !decide (x=y) else decide (x=y))):=by
 have e:decide (V.int x=V.int y)=decide (x=y):=by simp
 unfold fEqA
 rw [if_pos (show(a1z (.int x) && a1z (.int y) && scal (toV (.int x)) (toV (.int y)))=true from rfl)]
 show some (PyData.bool (if neg=true then !decide (V.int x=V.int y) else decide (V.int x=V.int y)))=_
 rw [e]
theorem c8h{neg:Bool}{x y:Bool}:fEqA neg (.bool x) (.bool y)=some (.bool (if neg then !decide (x=y) else decide (x=y))):=by
 have e:decide (V.bl x=V.bl y)=decide (x=y):=by simp
 unfold fEqA
 rw [if_pos (show(a1z (.bool x) && a1z (.bool y) && scal (toV (.bool x)) (toV (.bool y)))=true from rfl)]
 show some (PyData.bool (if neg=true then !decide (V.bl x=V.bl y) else decide (V.bl x=V.bl y)))=_
 rw [e]
theorem c0t{neg:Bool}{x y:PyData}(h:(a1z x && a1z y)=false)(hx:SeqAt.shaped x=true)(hy:SeqAt.shaped y=true):fEqA neg x y=some (.bool (if neg then !PyData.eqv x y else PyData.eqv x y)):=by
 unfold fEqA fEq
 rw [h,Bool.false_and,if_neg Bool.false_ne_true,if_pos ⟨hx,hy⟩]
theorem fIx_l{xs:List PyData}{i:Int}:fIx (.list xs) (.int i)=atI xs i:=rfl
theorem fIx_t{xs:List PyData}{i:Int}:fIx (.tuple xs) (.int i)=atI xs i:=rfl
theorem e1q{i j:Int}:fAdd (.int i) (.int j)=some (.int (i + j)):=rfl
theorem e1r{i j:Int}:fSub (.int i) (.int j)=some (.int (i - j)):=rfl
theorem e1s{p:Int->Int->Bool}{i j:Int}:fCmp p (.int i) (.int j)=some (.bool (p i j)):=rfl
theorem e1t{xs:List PyData}:fLen [.list xs]=some (.int xs.length):=rfl
theorem e1u{xs:List PyData}:fLen [.tuple xs]=some (.int xs.length):=rfl
theorem d1g{xs:List PyData}:b6h [.list xs]=some (.tuple xs):=rfl
theorem d1h{xs:List PyData}:b6h [.tuple xs]=some (.tuple xs):=rfl
theorem d6h{xs:List PyData}:b9h [.list xs]=some xs:=rfl
theorem d6i{xs:List PyData}:b9h [.tuple xs]=some xs:=rfl
theorem fIn_f{neg:Bool}{x:PyData}{xs:List PyData}(h:(a1z x && xs.all a1z)=true):fIn neg x (.tuple xs)=some (.bool (if neg then !inF x xs else inF x xs)):=by
 show(if a1z x && xs.all a1z then some (PyData.bool (if neg then !inF x xs else inF x xs)) else none)=_
 rw [if_pos h]
theorem e1v{neg:Bool}{x:PyData}{xs:List PyData}(h:(a1z x && xs.all a1z)=true):fIn neg x (.list xs)=some (.bool (if neg then !inF x xs else inF x xs)):=by
 show(if a1z x && xs.all a1z then some (PyData.bool (if neg then !inF x xs else inF x xs)) else none)=_
 rw [if_pos h]
theorem a6f{xs ys:List PyData}(h:xs.length + ys.length <= sizeLine):fCat (.list xs) (.list ys)=some (xs ++ ys):=by
 show(if xs.length + ys.length <= sizeLine then some (xs ++ ys) else none)=_
 rw [if_pos h]
theorem e1w{xs ys:List PyData}(h:xs.length + ys.length <= sizeLine):fAdd (.tuple xs) (.tuple ys)=some (.tuple (xs ++ ys)):=by
 show(if xs.length + ys.length <= sizeLine then some (PyData.tuple (xs ++ ys)) else none)=_
 rw [if_pos h]
theorem a4n{xs:List PyData}{i:Int}{k:PyData->Prop}(h0:0 <= i)(h1:i < xs.length)(h:∀ d,d ∈ xs->xs[i.toNat]? = some d->k d):need (atI xs i) k:=by
 obtain⟨x,e1,e2,e3⟩:=c7u h0 h1
 exact d5s e1 (h x e2 e3)
theorem b8p{α:Type}{xs r:List α}{i:Nat}{x:α}(h:xs.drop i=x :: r):xs[i]? = some x/\xs.drop (i + 1)=r:=by
 have hi:i < xs.length:=by
  by_cases h':i < xs.length
  ·exact h'
  ·rw [drop_eq_nil_of_le (by omega)] at h;cases h
 rw [List.drop_eq_getElem_cons hi] at h
 injection h with h1 h2
 exact⟨by rw [getElem?_eq_getElem hi,h1],h2⟩
theorem c0u{α:Type}{xs:List α}{i:Nat}(hi:i <= xs.length)(h:xs.drop i=[]):i=xs.length:=by
 have:=congrArg List.length h
 simp at this
 omega
theorem a5s{g:TDG}{b:TDS}{D:DEnds}{xs:List PyData}{ρ:Rho}(Pv:Nat->Rho->Prop)(h0:Pv 0 ρ)
  (hs:∀ (i:Nat) (x:PyData) (ρ:Rho) (N:Rho->Prop),xs[i]? = some x->Pv i ρ->(∀ ρ',Pv (i + 1) ρ'->N ρ')->g x ρ fun ρ1=>b { D with nx:=N,ct:=N,bk:=D.nx } ρ1)
  (hd:∀ ρ,Pv xs.length ρ->D.nx ρ):a6m g b D xs ρ:=by
 have key:∀ (r:List PyData) (i:Nat),i <= xs.length->xs.drop i=r->∀ ρ,Pv i ρ->a6m g b D r ρ:=fun r=>by
  induction r with
  | nil =>
   intro i hi e ρ p
   rw [c0u hi e] at p
   exact hd ρ p
  | cons x r ih =>
   intro i hi e ρ p
   obtain⟨e1,e2⟩:=b8p e
   have hlt:i < xs.length:=(List.getElem?_eq_some_iff.mp e1).1
   exact hs i x ρ _ e1 p fun ρ' p'=>ih (i + 1) hlt e2 ρ' p'
 exact key xs 0 (zero_le _) (by simp) ρ h0
theorem a3j{g:TDG}{tt:TDT}{te:TDE}{Q:List PyData->Rho->Prop}{xs:List PyData}{ρ:Rho}(Pv:Nat->Rho->List PyData->Prop)(h0:Pv 0 ρ [])
  (hs:∀ (i:Nat) (x:PyData) (ρ:Rho) (acc:List PyData) (N:Rho->List PyData->Prop),xs[i]? = some x->Pv i ρ acc->(∀ ρ' acc',Pv (i + 1) ρ' acc'->N ρ' acc') ->
   g x ρ fun ρ1=>tt ρ1 fun b ρ2=>if b=true then te ρ2 fun y ρ3=>fz ρ3 y fun z ρ4=>N ρ4 (acc ++ [z]) else N ρ2 acc)
  (hd:∀ ρ acc,Pv xs.length ρ acc->Q acc ρ):a1m g tt te Q xs ρ []:=by
 have key:∀ (r:List PyData) (i:Nat),i <= xs.length->xs.drop i=r->∀ ρ acc,Pv i ρ acc->a1m g tt te Q r ρ acc:=fun r=>by
  induction r with
  | nil =>
   intro i hi e ρ acc p
   rw [c0u hi e] at p
   exact hd ρ acc p
  | cons x r ih =>
   intro i hi e ρ acc p
   obtain⟨e1,e2⟩:=b8p e
   have hlt:i < xs.length:=(List.getElem?_eq_some_iff.mp e1).1
   exact hs i x ρ acc _ e1 p fun ρ' acc' p'=>ih (i + 1) hlt e2 ρ' acc' p'
 exact key xs 0 (zero_le _) (by simp) ρ [] h0
end L2
end
section
namespace L2
open PySem PySem.Spec PyProof.Rows
def later(u:TDS)(D:DEnds)(ρ:Rho):Prop:=u D ρ
theorem c3r{u:TDS}{D:DEnds}{ρ:Rho}(h:u D ρ):later u D ρ:=h
section
variable{t u b:TDS}{c tt:TDT}{D:DEnds}{ρ ρi:Rho}{i j n:Nat}{da db dc de te:TDE}{df:TDF}{daa:TDA}{f f':F2}{fl:F2L}{fc:FC}{fcl:FCL}{T:String}{dg g:TDG}{dgs:TDGs}{di:TDI}{x:PyData}{y:DV}{xs:List PyData}{ys:List DV}{fs:List Bool}{sp:DSp}
 {Q:DV->Rho->Prop} {QF:List PyData->Rho->Prop} {QB:Bool->Rho->Prop} {QA:List DV->Rho->Prop} {QR:RV->Rho->Prop} {QD:PyData->Rho->Prop} {N:Rho->Prop} {QL:L->Rho->Prop} {QLs:List L->Rho->Prop}
theorem e1x:dSeq t u D ρ=t { D with nx:=later u D } ρ:=rfl
theorem d6j:c5f D ρ=D.nx ρ:=rfl
theorem d1i:e1j D ρ=D.bk ρ:=rfl
theorem d6k:dCont D ρ=D.ct ρ:=rfl
theorem dIf_a:dIf c t u D ρ=c ρ fun b ρ1=>if b=true then t D ρ1 else u D ρ1:=rfl
theorem d6l:c5g de D ρ=de ρ fun _ ρ1=>D.nx ρ1:=rfl
theorem e1y:dRet de D ρ=de ρ fun x ρ1=>fz ρ1 x fun y ρ2=>D.rt (.d y) ρ2:=rfl
theorem d6m:c5h df D ρ=df ρ fun xs ρ1=>D.rt (.new xs) ρ1:=rfl
theorem d6n:dRetN D ρ=D.rt (.d .none) ρ:=rfl
noncomputable def c8i:Option L->Option (List PyData)
 | some (.own xs)=>some xs
 | _=>none
theorem d1j:c8i (some (.own xs))=some xs:=rfl
theorem c8j:b7n i D ρ=need (c8i (ρ[i]?.join)) fun xs=>D.rt (.new xs) (ρ.set i none):=rfl
theorem e1z:dSet i de D ρ=de ρ fun x ρ1=>fz ρ1 x fun y ρ2=>i < ρ2.length/\D.nx (ρ2.set i (some (.d y))):=rfl
theorem d6o:b9j i df D ρ=df ρ fun xs ρ1=>i < ρ1.length/\D.nx (ρ1.set i (some (.own xs))):=rfl
theorem e2a:dAsg de dg D ρ=de ρ fun x ρ1=>fz ρ1 x fun y ρ2=>dg y ρ2 D.nx:=rfl
theorem e2b:dFor di dg b D ρ=di ρ fun xs ρ1=>a6m dg b D xs ρ1:=rfl
theorem e2c:dVar i ρ Q=((ρ[i]?.join).isSome=true/\Q (.sl i) ρ):=rfl
theorem dC_a:dC x ρ Q=Q (.d x) ρ:=rfl
theorem dOp_a:dOp f da db ρ Q=da ρ fun x ρ1=>db ρ1 fun y ρ2=>need (a0k ρ2 x) fun dx=>need (a0k ρ2 y) fun dy=>need (f dx dy) fun z=>Q (.d z) ρ2:=rfl
theorem e2d:dOpF fl da db ρ QF=da ρ fun x ρ1=>db ρ1 fun y ρ2=>need (a0k ρ2 x) fun dx=>need (a0k ρ2 y) fun dy=>need (fl dx dy) fun z=>QF z ρ2:=rfl
theorem dCB_a:dCB fc daa ρ Q=daa ρ fun xs ρ1=>need (a1d ρ1 xs) fun ds=>need (fc ds) fun z=>Q (.d z) ρ1:=rfl
theorem e2e:dCBF fcl daa ρ QF=daa ρ fun xs ρ1=>need (a1d ρ1 xs) fun ds=>need (fcl ds) fun z=>QF z ρ1:=rfl
theorem e2f:dTup daa ρ Q=daa ρ fun xs ρ1=>fzs ρ1 xs fun ys ρ2=>ys.length <= 1000000/\Q (.d (.tuple ys)) ρ2:=rfl
theorem e2g:dLst daa ρ QF=daa ρ fun xs ρ1=>fzs ρ1 xs fun ys ρ2=>ys.length <= 1000000/\QF ys ρ2:=rfl
theorem dFz_a:dFz df ρ Q=df ρ fun xs ρ1=>Q (.d (.list xs)) ρ1:=rfl
theorem e2h:dNil ρ QA=QA [] ρ:=rfl
theorem d6p:c5c de daa ρ QA=de ρ fun x ρ1=>daa ρ1 fun xs ρ2=>QA (x :: xs) ρ2:=rfl
theorem dB_a:dB de ρ QB=de ρ fun x ρ1=>need (a0k ρ1 x) fun d=>need (asB d) fun b=>QB b ρ1:=rfl
theorem e2i:dTru de ρ QB=de ρ fun x ρ1=>need (a0k ρ1 x) fun d=>need (tru d) fun b=>QB b ρ1:=rfl
theorem e2j{v w:TDT}:dAnd v w ρ QB=v ρ fun b ρ1=>if b=true then w ρ1 QB else QB false ρ1:=rfl
theorem dOr_a{v w:TDT}:dOr v w ρ QB=v ρ fun b ρ1=>if b=true then QB true ρ1 else w ρ1 QB:=rfl
theorem e2k{v:TDT}:dNot v ρ QB=v ρ fun b ρ1=>QB (!b) ρ1:=rfl
theorem e2l:dIfE c da db ρ Q=c ρ fun k ρ1=>if k=true then da ρ1 Q else db ρ1 Q:=rfl
theorem d6q:c5d da db ρ Q=da ρ fun x ρ1=>need (a0k ρ1 x) fun d=>need (asB d) fun k=>if k=true then db ρ1 Q else Q (.d (.bool false)) ρ1:=rfl
theorem e2m:dOrV da db ρ Q=da ρ fun x ρ1=>need (a0k ρ1 x) fun d=>need (asB d) fun k=>if k=true then Q (.d (.bool true)) ρ1 else db ρ1 Q:=rfl
theorem d6r:c5e da ρ Q=da ρ fun x ρ1=>need (a0k ρ1 x) fun d=>need (asB d) fun k=>Q (.d (.bool (!k))) ρ1:=rfl
theorem d1k:b6j f f' da db dc ρ Q=da ρ fun x ρ1=>db ρ1 fun y ρ2=>need (a0k ρ2 x) fun dx=>need (a0k ρ2 y) fun dy=>need (f dx dy) fun z=>need (asB z) fun k =>
 if k=true then dc ρ2 fun w ρ3=>need (a0k ρ3 y) fun dy=>need (a0k ρ3 w) fun dw=>need (f' dy dw) fun z'=>Q (.d z') ρ3 else Q (.d (.bool false)) ρ2:=rfl
theorem dIs_a:dIs T de ρ Q=de ρ fun x ρ1=>need (a0k ρ1 x) fun d=>Q (.d (.bool (isD T d))) ρ1:=rfl
noncomputable def a4r:Option L->Option (OK × List PyData)
 | some (.own xs)=>some (.o,xs)
 | some (.bor xs)=>some (.b,xs)
 | _=>none
theorem e2n:ownB ρ i=a4r (ρ[i]?.join):=rfl
theorem d6s:a4r (some (.own xs))=some (.o,xs):=rfl
theorem d6t:a4r (some (.bor xs))=some (.b,xs):=rfl
theorem okL_o:okL .o xs=.own xs:=rfl
theorem okL_b:okL .b xs=.bor xs:=rfl
theorem c8k:b7o i de ρ Q=need (a4r (ρ[i]?.join)) fun _=>de ρ fun x ρ1=>fz ρ1 x fun y ρ2=>need (a4r (ρ2[i]?.join)) fun o=>o.2.length <= 1000000/\Q (.d .none) (ρ2.set i (some (okL o.1 (o.2 ++ [y])))):=rfl
theorem e2o:dPop i ρ Q=need (a4r (ρ[i]?.join)) fun o=>need o.2.getLast? fun y=>Q (.d y) (ρ.set i (some (okL o.1 o.2.dropLast))):=rfl
theorem d1l:c0m i di' de D ρ=de ρ fun x ρ1=>fz ρ1 x fun y ρ2=>need (a4r (ρ2[i]?.join)) fun _=>di' ρ2 fun z ρ3=>need (a0k ρ3 z) fun dz=>need (c0m.asI dz) fun n=>need (a4r (ρ3[i]?.join)) fun o=>need (ixN o.2.length n) fun j=>D.nx (ρ3.set i (some (okL o.1 (o.2.set j y)))):=rfl
theorem e2p{n:Int}:c0m.asI (.int n)=some n:=rfl
theorem asI_i{n:Int}:asI (.int n)=some n:=rfl
theorem d1m:c0k i x ρ N=(i < ρ.length/\N (ρ.set i (some (.d x)))):=rfl
theorem d6u:c5j n dgs (.tuple xs) ρ N=(xs.length=n/\dgs xs ρ N):=rfl
theorem d1n:c0l dg dgs (x :: xs) ρ N=dg x ρ fun ρ1=>dgs xs ρ1 N:=rfl
theorem d6v:b9k [] ρ N=N ρ:=by unfold b9k;simp
theorem d6w:c5m de ρ QF=de ρ fun x ρ1=>fz ρ1 x fun y ρ2=>need (seqD y) fun xs=>QF xs ρ2:=rfl
theorem d1o:c0n de ρ QF=de ρ fun x ρ1=>need (a0k ρ1 x) fun d=>need (asI d) fun j=>sm62 j/\QF (rngD 0 j.toNat) ρ1:=rfl
theorem d1p:c0r fs sp daa ρ Q=daa ρ fun xs ρ1=>pass fs xs ρ1 fun ls ρ2=>((flOf 0 fs xs).map (·.2)).Nodup/\sp ls fun r outs=>match r with
 | .d x=>Q (.d x) (fills outs (flOf 0 fs xs) ρ2)
 | .new ys=>Q (.d (.list ys)) (fills outs (flOf 0 fs xs) ρ2):=rfl
theorem d1q:c0s fs sp daa ρ QF=daa ρ fun xs ρ1=>pass fs xs ρ1 fun ls ρ2=>((flOf 0 fs xs).map (·.2)).Nodup/\sp ls fun r outs=>match r with
 | .d _=>False
 | .new ys=>QF ys (fills outs (flOf 0 fs xs) ρ2):=rfl
theorem e2q:pass [] [] ρ QLs=QLs [] ρ:=rfl
theorem e2r:pass (false :: fs) (y :: ys) ρ QLs=fzL ρ y fun l ρ1=>pass fs ys ρ1 fun ls ρ2=>QLs (l :: ls) ρ2:=by cases y<;>rfl
noncomputable def ioJ:Option L->Option L
 | some l=>if isOw l then some (lend l) else none
 | none=>none
theorem e2s:pass (true :: fs) (.sl i :: ys) ρ QLs=pass fs ys ρ fun ls ρ2=>need (ioJ (ρ2[i]?.join)) fun l=>QLs (l :: ls) ρ2:=rfl
theorem ioJ_o:ioJ (some (.own xs))=some (.bor xs):=rfl
theorem ioJ_b:ioJ (some (.bor xs))=some (.bor xs):=rfl
theorem ioJ_t:ioJ (some (.tape n))=some (.tape n):=rfl
def fzJ(l:Option L)(ρ:Rho)(i:Nat)(Q:PyData->Rho->Prop):Prop:=match l with
 | some (.d y)=>Q y ρ
 | some (.own xs)=>Q (.list xs) (ρ.set i (some (.d (.list xs))))
 | _=>False
theorem fz_d:fz ρ (.d x) QD=QD x ρ:=rfl
theorem fz_sl:fz ρ (.sl i) QD=fzJ (ρ[i]?.join) ρ i QD:=rfl
theorem fzJ_d:fzJ (some (.d x)) ρ i QD=QD x ρ:=rfl
theorem fzJ_o:fzJ (some (.own xs)) ρ i QD=QD (.list xs) (ρ.set i (some (.d (.list xs)))):=rfl
def fzLJ(l:Option L)(ρ:Rho)(i:Nat)(Q:L->Rho->Prop):Prop:=match l with
 | some (.d y)=>Q (.d y) ρ
 | some (.own xs)=>Q (.d (.list xs)) (ρ.set i (some (.d (.list xs))))
 | some .scr=>Q .scr ρ
 | _=>False
theorem fzL_d:fzL ρ (.d x) QL=QL (.d x) ρ:=rfl
theorem e2t:fzL ρ (.sl i) QL=fzLJ (ρ[i]?.join) ρ i QL:=rfl
theorem e2u:fzLJ (some (.d x)) ρ i QL=QL (.d x) ρ:=rfl
theorem e2v:fzLJ (some (.own xs)) ρ i QL=QL (.d (.list xs)) (ρ.set i (some (.d (.list xs)))):=rfl
theorem e2w:fzLJ (some .scr) ρ i QL=QL .scr ρ:=rfl
theorem fzs_n:fzs ρ [] QF=QF [] ρ:=rfl
theorem fzs_c:fzs ρ (y :: ys) QF=fz ρ y fun z ρ1=>fzs ρ1 ys fun zs ρ2=>QF (z :: zs) ρ2:=rfl
theorem e2x:flOf n [] ys=[]:=by cases ys<;>rfl
theorem e2y:flOf n (false :: fs) (y :: ys)=flOf (n + 1) fs ys:=by cases y<;>rfl
theorem e2z:flOf n (true :: fs) (.sl i :: ys)=(n,i) :: flOf (n + 1) fs ys:=rfl
noncomputable def a9z(l:Option L)(ρi:Rho)(j i:Nat)(ρ:Rho):Rho:=match l with
 | some l0=>if isOw l0 then ρ.set i (a7g ρi l0 j) else ρ
 | none=>ρ
theorem d6x:fills ρi [] ρ=ρ:=rfl
theorem d6y{r:List (Nat × Nat)}:fills ρi ((j,i) :: r) ρ=fills ρi r (a9z (ρ[i]?.join) ρi j i ρ):=rfl
theorem d1r:a9z (some (.own xs)) ρi j i ρ=ρ.set i ((ρi[j]?.join).bind (a8v (.own xs))):=rfl
theorem d1s:a9z (some (.bor xs)) ρi j i ρ=ρ.set i ((ρi[j]?.join).bind (a8v (.bor xs))):=rfl
theorem d1t:a9z (some (.tape n)) ρi j i ρ=ρ.set i ((ρi[j]?.join).bind (a8v (.tape n))):=rfl
theorem d1u:a9z (some (.d x)) ρi j i ρ=ρ:=rfl
theorem d1v:a9z (some .scr) ρi j i ρ=ρ:=rfl
theorem d1w:a9z none ρi j i ρ=ρ:=rfl
theorem d6z:a8v (.own xs) (.bor x')=some (.own x'):=rfl
theorem d7a:a8v (.bor xs) (.bor x')=some (.bor x'):=rfl
theorem d7b{m:Nat}:a8v (.tape n) (.tape m)=some (.tape m):=rfl
theorem e3a:lend (.own xs)=.bor xs:=rfl
theorem e3b:lend (.bor xs)=.bor xs:=rfl
theorem e3c:lend (.tape n)=.tape n:=rfl
theorem e3d:lend (.d x)=.d x:=rfl
theorem e3e:lend .scr=.scr:=rfl
theorem d7c{cap:List (Str × Nat)}:b9l n cap di g tt te ρ QF=di ρ fun xs ρ1=>xs.length <= 1000000/\(cap.map (·.2)).Nodup/\a1m g tt te (fun acc ρ'=>QF acc (fills ρ' (flC n cap) ρ1)) xs (capR n cap ρ1) []:=rfl
theorem flC_n:flC n []=[]:=rfl
theorem flC_c{p:Str × Nat}{r:List (Str × Nat)}:flC n (p :: r)=(n,p.2) :: flC (n + 1) r:=rfl
theorem e3f{cap:List (Str × Nat)}:capR n cap ρ=List.replicate n none ++ cap.map fun p=>(ρ[p.2]?.join).map lend:=rfl
theorem d7d:a0k ρ (.d x)=some x:=rfl
theorem d1x:a0k ρ (.sl i)=(ρ[i]?.join).bind b1e:=rfl
theorem d1y:b1e (.d x)=some x:=rfl
theorem d1z:b1e (.own xs)=some (.list xs):=rfl
theorem d2a:b1e (.bor xs)=some (.list xs):=rfl
theorem d2b:a1d ρ []=some []:=rfl
theorem d2c:a1d ρ (y :: ys)=(a0k ρ y).bind fun z=>(a1d ρ ys).map (z :: ·):=rfl
theorem asB_b{b:Bool}:asB (.bool b)=some b:=rfl
theorem tru_b{b:Bool}:tru (.bool b)=some b:=rfl
theorem tru_n:tru .none=some false:=rfl
theorem tru_i{i:Int}:tru (.int i)=some (i != 0):=rfl
theorem tru_l:tru (.list xs)=some (!xs.isEmpty):=rfl
theorem tru_t:tru (.tuple xs)=some (!xs.isEmpty):=rfl
theorem e3g:seqD (.list xs)=some xs:=rfl
theorem e3h:seqD (.tuple xs)=some xs:=rfl
theorem e3i:mask [] ρ=[]:=rfl
theorem e3j{ls:List L}{l:Option L}:mask (.d x :: ls) (l :: ρ)=none :: mask ls ρ:=rfl
theorem e3k{ls:List L}{l:Option L}:mask (.scr :: ls) (l :: ρ)=none :: mask ls ρ:=rfl
theorem e3l{ls:List L}{l:Option L}:mask (.tape n :: ls) (l :: ρ)=l :: mask ls ρ:=rfl
theorem e3m{ls:List L}{l:Option L}:mask (.bor xs :: ls) (l :: ρ)=l :: mask ls ρ:=rfl
end
end L2
namespace L2
open PySem
theorem c0v{g:TDG}{tt:TDT}{te:TDE}{Q:List PyData->Rho->Prop}{xs:List PyData}{ρ:Rho}(Sh:Rho->Prop)(fm:PyData->Option PyData)(h0:Sh ρ)
  (hs:∀ (x:PyData) (ρ:Rho) (N:Rho->Option PyData->Prop),x ∈ xs->Sh ρ->(∀ ρ',Sh ρ'->N ρ' (fm x))->g x ρ fun ρ1=>tt ρ1 fun b ρ2=>if b=true then te ρ2 fun y ρ3=>fz ρ3 y fun z ρ4=>N ρ4 (some z) else N ρ2 none)
  (hd:∀ ρ,Sh ρ->Q (xs.filterMap fm) ρ):a1m g tt te Q xs ρ []:=by
 have key:∀ (r:List PyData) (acc:List PyData) (ρ:Rho),(∀ x ∈ r,x ∈ xs)->Sh ρ->(∀ ρ,Sh ρ->Q (acc ++ r.filterMap fm) ρ)->a1m g tt te Q r ρ acc:=fun r=>by
  induction r with
  | nil=>intro acc ρ _ h hq;have:=hq ρ h;show Q acc ρ;simpa using this
  | cons x r ih =>
   intro acc ρ hm h hq
   have step:=hs x ρ (fun ρ' o=>match o with | some z=>a1m g tt te Q r ρ' (acc ++ [z]) | none=>a1m g tt te Q r ρ' acc) (hm x mem_cons_self) h fun ρ' h'=>?_
   ·exact step
   ·cases e:fm x with
    | none =>
     refine ih acc ρ' (fun y hy=>hm y (mem_cons_of_mem _ hy)) h' fun ρ2 h2=>?_
     have:=hq ρ2 h2
     rwa [List.filterMap_cons_none e] at this
    | some z =>
     refine ih (acc ++ [z]) ρ' (fun y hy=>hm y (mem_cons_of_mem _ hy)) h' fun ρ2 h2=>?_
     have:=hq ρ2 h2
     rw [List.filterMap_cons_some e] at this
     simpa using this
 exact key xs [] ρ (fun _ h=>h) h0 fun ρ h=>by simpa using hd ρ h
theorem a6s{c A B:Prop}[Decidable c](h1:c->A)(h2:¬ c->B):if decide c=true then A else B:=by
 by_cases h:c
 ·rw [if_pos (decide_eq_true h)];exact h1 h
 ·rw [if_neg (by simpa using h)];exact h2 h
theorem d2d{c A B:Prop}[Decidable c](h1:¬ c->A)(h2:c->B):if (!decide c)=true then A else B:=by
 by_cases h:c
 ·rw [if_neg (by simpa using h)];exact h2 h
 ·rw [if_pos (by simpa using h)];exact h1 h
theorem d4k{b:Bool}{A B:Prop}(h1:b=true->A)(h2:b=false->B):if b=true then A else B:=by
 cases b
 ·rw [if_neg Bool.false_ne_true];exact h2 rfl
 ·rw [if_pos rfl];exact h1 rfl
end L2
namespace L2
end L2
end
section
namespace L2
open PySem PySem.Spec PyProof.Rows
abbrev TDO:=Rho->(Option Int->Rho->Prop)->Prop
section
variable{K:W.Frag}{c:Rc}{O:Own}{ρ:Rho}{σ:St}{H H':Hp}{S S':Addr->Prop}
def AdO(K:W.Frag)(t:TO)(dt:TDO):Prop:=∀ (c:Rc) (O:Own) (ρ:Rho) (σ:St) (H:Hp) (Qd:Option Int->Rho->Prop) (Q:Option Int->Hp->Prop),Rel K c O ρ σ H->dt ρ Qd ->
 (∀ o ρ' O' H',Qd o ρ'->Rel K c O' ρ' σ H'->Pers K (live c O) H (live c O') H'->Q o H')->t σ H Q
noncomputable def c0w:TDO:=fun ρ Q=>Q none ρ
def c0x(de:TDE):TDO:=fun ρ Q=>de ρ fun x ρ1=>need (a0k ρ1 x) fun d=>need (asI d) fun i=>Q (some i) ρ1
theorem d7e:AdO K c3c c0w:=fun c O ρ σ H Qd Q R h k=>k _ _ _ _ h R .refl
theorem d7f{t:TE}{de:TDE}(h:AdE K t de):AdO K (d4e t) (c0x de):=fun c O ρ σ H Qd Q R q k =>
 h c O ρ σ H _ _ R q fun x ρ1 O1 v H1 h1 R1 P1 a1=>by
  obtain⟨d,e1,hn6⟩:=ne (h1)
  obtain⟨i,e2,h2⟩:=ne (hn6)
  exact⟨i,b6l (R1.top a1 e1) e2,k _ _ _ _ h2 R1 P1⟩
noncomputable def cutD(xs:List PyData)(lo hi:Option Int):List PyData:=(xs.drop (HT.sIx xs.length 0 lo)).take (HT.sIx xs.length xs.length hi - HT.sIx xs.length 0 lo)
theorem a0b.cut{ds:List PyData}{vs:List V}(h:a0b K H S ds vs)(lo hi:Option Int):a0b K H S (cutD ds lo hi) (cutV vs lo hi):=by
 unfold cutD cutV
 rw [h.length]
 exact(h.drop _).take _
abbrev FSl:=PyData->Option Int->Option Int->Option PyData
def dSl(f:FSl)(de:TDE)(dl dh:TDO):TDE:=fun ρ Q=>de ρ fun x ρ1=>dl ρ1 fun lo ρ2=>dh ρ2 fun hi ρ3=>need (a0k ρ3 x) fun d=>need (f d lo hi) fun z=>Q (.d z) ρ3
def AdSl(K:W.Frag)(r:V->Option Int->Option Int->Hp->VK->Prop)(f:FSl):Prop:=∀ (S:Addr->Prop) (H:Hp) (x:V) (d z:PyData) (lo hi:Option Int) (Q:VK),Frs S H->AtT K H S d x->f d lo hi=some z->(∀ v H',Same H H'->AtD K H' S z v->Q v H')->r x lo hi H Q
theorem ad_sl{r:V->Option Int->Option Int->Hp->VK->Prop}{f:FSl}{te:TE}{tl th:TO}{de:TDE}{dl dh:TDO}(hr:AdSl K r f)(he:AdE K te de)(hl:AdO K tl dl)(hh:AdO K th dh):AdE K (tSl r te tl th) (dSl f de dl dh):=by
 intro c O ρ σ H Qd Q R h k
 refine he c O ρ σ H _ _ R h fun x ρ1 O1 v H1 h1 R1 P1 a1=>?_
 refine hl c O1 ρ1 σ H1 _ _ R1 h1 fun lo ρ2 O2 H2 h2 R2 P2=>?_
 refine hh c O2 ρ2 σ H2 _ _ R2 h2 fun hi ρ3 O3 H3 h3 R3 P3=>?_
 obtain⟨d,e1,hn5⟩:=ne (h3)
 obtain⟨z,e2,h4⟩:=ne (hn5)
 refine hr (live c O3) H3 v d z lo hi Q R3.frsLive (R3.top ((a1.pers P2).pers P3) e1) e2 fun w H4 s4 a4=>?_
 exact k _ _ _ _ _ h4 (R3.grow s4) (((P1.trans P2).trans P3).trans (.same s4)) a4
def Tab(K:W.Frag)(w:World)(mg:Str->Option Value)(x:Str)(tab:List (Str × PyData)):Prop:=∃ (a:Addr) (kvs:List (Str × V)),mg x=some (.ref a)/\KDict K w a kvs/\∀ z d,tab.lookup z=some d->∃ v,kvs.lookup z=some v/\∀ (S:Addr->Prop) (H:Hp),AtD K H S d v
noncomputable def fTab(tab:List (Str × PyData)):PyData->Option PyData
 | .str x=>tab.lookup x
 | _=>none
def dTab(tab:List (Str × PyData))(de:TDE):TDE:=fun ρ Q=>de ρ fun x ρ1=>need (a0k ρ1 x) fun d=>need (fTab tab d) fun z=>Q (.d z) ρ1
def c5q(de:TDE):TDI:=fun ρ Q=>de ρ fun x ρ1=>need (a0k ρ1 x) fun d=>need (asT d) fun xs=>Q xs.reverse ρ1
 where asT:PyData->Option (List PyData)
  | .tuple xs=>some xs
  | _=>none
noncomputable def d4l(hi:Int)(n:Nat):List PyData:=(List.range n).map fun i=>.int (hi - (i:Nat))
def sm60(i:Int):Prop:=-(2 ^ 60) <= i/\i < 2 ^ 60
def c0y(da:TDA):TDI:=fun ρ Q=>da ρ fun xs ρ1=>need (a1d ρ1 xs) fun ds=>need (three ds) fun p=>(sm60 p.1/\sm60 p.2)/\Q (d4l p.1 (p.1 - p.2).toNat) ρ1
 where three:List PyData->Option (Int × Int)
  | [.int i,.int j,.int (-1)]=>some (i,j)
  | _=>none
theorem d7g{i:Int}:AtV K S σ H (.d (.int i)) (.int i):=(a1y i:AtD K H S (.int i) (.int i))
def dNeg(de:TDE):TDE:=fun ρ Q=>de ρ fun x ρ1=>need (a0k ρ1 x) fun d=>need (asI d) fun i=>Q (.d (.int (-i))) ρ1
theorem e3n{t:TE}{de:TDE}(h:AdE K t de):AdE K (tUn (rU fun i=>.int (-i)) t) (dNeg de):=fun c O ρ σ H Qd Q R q k =>
 h c O ρ σ H _ _ R q fun x ρ1 O1 v H1 h1 R1 P1 a1=>by
  obtain⟨d,e1,hn1⟩:=ne (h1)
  obtain⟨i,e2,h2⟩:=ne (hn1)
  exact⟨i,b6l (R1.top a1 e1) e2,k _ _ _ _ _ h2 R1 P1 d7g⟩
end
section
variable{X:Cx}{e a b:Expr}{de da db:TDE}{lo hi:Option Expr}{dl dh:TDO}{tg:Expr}{pos p2:Pos}
def DO(X:Cx)(e:Option Expr)(dt:TDO):Prop:=∃ t,PO X e t/\AdO X.K t dt
theorem b7q:DO X none c0w:=⟨_,c3d,d7e⟩
theorem b7r(h:DE X e de):DO X (some e) (c0x de):=by obtain⟨_,p,a⟩:=h;exact⟨_,c3e p,d7f a⟩
theorem b5m{r:V->Option Int->Option Int->Hp->VK->Prop}{f:FSl}(hr:SlR X r)(ha:AdSl X.K r f)(he:DE X e de)(hl:DO X lo dl)(hu:DO X hi dh):DE X (.Subscript e (.Slice lo hi none p2) pos) (dSl f de dl dh):=
 by obtain⟨_,p,a⟩:=he;obtain⟨_,p',a'⟩:=hl;obtain⟨_,p3,a3⟩:=hu;exact⟨_,b9y hr p p' p3,ad_sl ha a a' a3⟩
theorem b0a(h:DE X a da):DE X (.UnaryOp .USub a pos) (dNeg da):=by obtain⟨_,p,a⟩:=h;exact⟨_,b4b b0x p,e3n a⟩
end
section
variable{ρ:Rho}{de:TDE}{daa:TDA}{dl dh:TDO}{f:FSl}{tab:List (Str × PyData)}{Q:DV->Rho->Prop}{QF:List PyData->Rho->Prop}{QO:Option Int->Rho->Prop}{xs:List PyData}{x:Str}{i j:Int}
theorem dSl_a:dSl f de dl dh ρ Q=de ρ fun x ρ1=>dl ρ1 fun lo ρ2=>dh ρ2 fun hi ρ3=>need (a0k ρ3 x) fun d=>need (f d lo hi) fun z=>Q (.d z) ρ3:=rfl
theorem d2e:c0w ρ QO=QO none ρ:=rfl
theorem d2f:c0x de ρ QO=de ρ fun x ρ1=>need (a0k ρ1 x) fun d=>need (asI d) fun i=>QO (some i) ρ1:=rfl
theorem e3o:dTab tab de ρ Q=de ρ fun x ρ1=>need (a0k ρ1 x) fun d=>need (fTab tab d) fun z=>Q (.d z) ρ1:=rfl
theorem e3p:fTab tab (.str x)=tab.lookup x:=rfl
theorem d7h:c5q de ρ QF=de ρ fun x ρ1=>need (a0k ρ1 x) fun d=>need (c5q.asT d) fun xs=>QF xs.reverse ρ1:=rfl
theorem asT_t:c5q.asT (.tuple xs)=some xs:=rfl
theorem d2g:c0y daa ρ QF=daa ρ fun xs ρ1=>need (a1d ρ1 xs) fun ds=>need (c0y.three ds) fun p=>(sm60 p.1/\sm60 p.2)/\QF (d4l p.1 (p.1 - p.2).toNat) ρ1:=rfl
theorem d7i:c0y.three [.int i,.int j,.int (-1)]=some (i,j):=rfl
theorem e3q:dNeg de ρ Q=de ρ fun x ρ1=>need (a0k ρ1 x) fun d=>need (asI d) fun i=>Q (.d (.int (-i))) ρ1:=rfl
end
end L2
namespace L2
open PySem
end L2
end
section
namespace L2
open PySem PySem.Spec PyProof.Rows
section
variable{α:Type}{a b c d e:α}{l:List α}{x y:Str}{i j:Int}{r:List PyData}
theorem b4m:atI (a :: l) 0=some a:=a4k (j:=0) rfl
theorem atI_1:atI (a :: b :: l) 1=some b:=a4k (j:=1) rfl
theorem atI_2:atI (a :: b :: c :: l) 2=some c:=a4k (j:=2) rfl
theorem atI_3:atI (a :: b :: c :: d :: l) 3=some d:=a4k (j:=3) rfl
theorem atI_4:atI (a :: b :: c :: d :: e :: l) 4=some e:=a4k (j:=4) rfl
theorem d7j:a1z (.str x)=true:=rfl
theorem d7k:a1z (.int i)=true:=rfl
theorem d7l{z:PyData}:inF z []=false:=rfl
theorem inF_s:inF (.str x) (.str y :: r)=(decide (y=x) || inF (.str x) r):=by
 show((y == x) || inF (.str x) r)=_
 congr 1
theorem inF_i:inF (.int i) (.int j :: r)=(decide (j=i) || inF (.int i) r):=by
 show((j == i) || inF (.int i) r)=_
 congr 1
end
end L2
namespace L2
open PySem PySem.Spec PyProof.Rows
def b9m(K:W.Frag):Sp:=fun vs H Q _=>∃ (a:Addr) (ns:List Int),vs=[.ref a]/\SqL K H a (ns.map V.int)/\((∀ xs,H a ≠ some (.lst xs))/\TB K H)/\ns.length <= 63/\∀ H',Q (.bl true) H'
section
variable{P:Program}{w:World}{K:W.Frag}{mg:Str->Option Value}{base:Heap}
theorem d7m{H:Hp}{a p:Addr}{ns:List Int}{n:Nat}(hO:(∀ xs,H a ≠ some (.lst xs))/\TB K H)(hS:SqL K H a (ns.map V.int))(hl:ns.length <= 63)(hp:H p=none) :
  Rel K { H0:=upd H p (.lst [.ref a,.int 0]),S:=fun b=>b ≠ p,P:=fun _=>False,M:=fun b=>b=p,A:=fun b=>b=p ∨ upd H p (.lst [.ref a,.int 0]) b=none,B:=fun b=>b=p,lent:=fun i=>if i=1 then some p else none,sa:=a,ns:=ns }
   (fun i=>if i=1 then some p else none) (some .scr :: some (.tape 0) :: List.replicate n none) (some (.ref a) :: some (.ref p) :: List.replicate n none) (upd H p (.lst [.ref a,.int 0])):=by
 have at_:∀ {i:Nat} {l:L},(some L.scr :: some (L.tape 0) :: List.replicate n none:Rho)[i]? = some (some l)->(i=0/\l=.scr) ∨ (i=1/\l=.tape 0):=fun{i l} e=>by
  match i,e with
  | 0,e=>cases e;exact .inl ⟨rfl,rfl⟩
  | 1,e=>cases e;exact .inr ⟨rfl,rfl⟩
  | i + 2,e =>
   rw [List.getElem?_cons_succ,List.getElem?_cons_succ,List.getElem?_replicate] at e
   split at e<;>cases e
 have own:∀ {i:Nat} {q:Addr},(if i=1 then some p else none)=some q->i=1/\q=p:=fun{i q} e=>by
  split at e
  ·cases e;exact⟨by assumption,rfl⟩
  ·cases e
 have sc:Scr K H a (ns.map V.int):=by
  refine⟨hO.2,by simpa using hl,?_⟩
  rcases hS with(h | h) | h
  ·exact absurd h (hO.1 _)
  ·exact .inl h
  ·exact .inr h
 refine⟨fun i x e=>?_,fun i x e=>?_,fun i x e=>?_,fun i k e=>?_,fun i e=>?_,fun i j q e1 e2=>?_,fun i q e=>?_,fun q h=>?_,fun q h=>?_,fun b o _ h=>h,fun b h=>h,fun q h=>?_,fun q h=>?_,fun i q e l h1 h2=>e,sc.keep (S:=Any) (a0m hp _).keep,by simp⟩
 ·rcases at_ e with⟨_,z⟩ | ⟨_,z⟩<;>cases z
 ·rcases at_ e with⟨_,z⟩ | ⟨_,z⟩<;>cases z
 ·rcases at_ e with⟨_,z⟩ | ⟨_,z⟩<;>cases z
 ·rcases at_ e with⟨_,z⟩ | ⟨rfl,z⟩
  ·cases z
  ·cases z;exact⟨p,if_pos rfl,rfl,a0e⟩
 ·rcases at_ e with⟨rfl,_⟩ | ⟨_,z⟩
  ·rfl
  ·cases z
 ·rw [(own e1).1,(own e2).1]
 ·rw [(own e).2];exact⟨.inl rfl,_,a0e⟩
 ·rcases h with h | h
  ·exact .inl h
  ·exact .inr h
 ·rintro rfl
  have h':upd H q (.lst [.ref a,.int 0]) q=none:=h
  rw [a0e] at h';cases h'
 ·have h':q=p:=h
  subst h';exact⟨_,a0e⟩
 ·rcases h with h | h
  ·exact h.elim
  ·have h':q=p:=h
   subst h';rw [a0e];exact fun z=>nomatch z
theorem Fun.law{st:Stmt}{f:Addr}{fd:FuncData}{N':List Str}{k:Nat} (F:Fun K "law" "law" st f fd) (S:FnScope ("_law_script" :: "_law_tape" :: N') ["_law_script"] (a0h st))
  (hbody:∀ (cdv:Value) (A:Around) (outer:List Env) (s:Shared) (H:Hp) (E:XK),Room k (A.deeper (envOfC "law" (a0h st) s.heap.objs.size f cdv)) ->
   ∃ (st0:Stmt) (rest:List Stmt),a1o st=st0 :: rest/\PS (cxOf CX0 P w K mg base ("_law_script" :: "_law_tape" :: N') "law" (a0h st) f cdv A outer s H E).nox st0 (tAsg (tLst (a3q (tVar 0) (a3q (tC (.int 0)) tNil))) (a4p 1)) /\
    ∃ dt,DSs (cxOf CX0 P w K mg base ("_law_script" :: "_law_tape" :: N') "law" (a0h st) f cdv A outer s H E).nox rest dt/\dt { nx:=fun _=>False,rt:=fun r _=>r=.d (.bool true) } (some .scr :: some (.tape 0) :: List.replicate N'.length none)) :
  FnOk P w K mg base CX0 (k + 1) f fd ["_law_script"] (b9m K):=by
 refine F.ok S (fun vs H Q E h=>?_) (fun cdv A outer s H vs Q E hr h=>?_)
 ·obtain⟨a,ns,rfl,_⟩:=h;rfl
 obtain⟨a,ns,rfl,hS,hO,hl,q⟩:=h
 obtain⟨st0,rest,eb,p0,dt,⟨t,pt,at_⟩,hd⟩:=hbody cdv A outer s H E hr
 rw [eb]
 refine⟨_,a0o p0 pt,⟨.ref a,rfl,by show 2 <= sizeLine;decide,fun p hp=>?_⟩⟩
 have e:(start ("_law_script" :: "_law_tape" :: N') [.ref a]).set 1 (some (.ref p))=some (.ref a) :: some (.ref p) :: List.replicate N'.length none:=by
  unfold start
  simp [replicate_succ]
 show t _ ((start ("_law_script" :: "_law_tape" :: N') [.ref a]).set 1 (some (.ref p))) (upd H p (.lst [.ref a,.int 0]))
 rw [e]
 refine at_ _ _ _ _ _ _ _ (d7m hO hS hl hp) ⟨fun _ _ _ _ _ _ z=>(show False from z).elim,fun r O1 ρ1 σ1 H1 v h z=>?_,fun _ _ _ _ _ _ z=>(show False from z).elim,fun _ _ _ _ _ _ z=>(show False from z).elim,fun _ z=>z,fun _ z=>.inr z⟩ hd
 have z':r=.d (.bool true):=z
 subst z'
 have ev:=a7s h.2
 subst ev
 exact q H1
end
end L2
end
section
namespace L2
open PySem PySem.Spec PyProof.Rows
section
variable{P:Program}{w:World}{K:W.Frag}{mg:Str->Option Value}{base:Heap}
theorem b4n{n:Nat}{f:Addr}{fd:FuncData}{ps:List Str}{ds:DSp}(h:∀ ls Q,¬ ds ls Q):FnOk P w K mg base CX0 n f fd ps (spD K ds):=by
 have no:∀ vs H Q E,¬ spD K ds vs H Q E:=fun vs H Q E z=>by
  obtain⟨c,O,ls,Qd,_,_,_,_,_,_,z,_⟩:=z
  exact h _ _ z
 exact⟨fun vs H Q E h=>absurd h (no vs H Q E),fun A outer s H args us vs Q E _ _ _ _ h=>absurd h (no vs H Q E)⟩
theorem c3s{l:List (Str × PyData × V)}(h:∀ q ∈ l,∀ (S:Addr->Prop) (H:Hp),AtD K H S q.2.1 q.2.2):∀ z d,(l.map fun q=>(q.1,q.2.1)).lookup z=some d->∃ v,(l.map fun q=>(q.1,q.2.2)).lookup z=some v/\∀ (S:Addr->Prop) (H:Hp),AtD K H S d v:=by
 induction l with
 | nil=>intro z d e;simp at e
 | cons q r ih =>
  intro z d e
  simp only [map_cons,lookup_cons] at e ⊢
  by_cases c:(z == q.1)=true
  ·rw [c] at e ⊢
   cases e
   exact⟨_,rfl,h q (mem_cons_self ..)⟩
  ·rw [Bool.not_eq_true] at c
   rw [c] at e ⊢
   exact ih (fun q' m=>h q' (mem_cons_of_mem _ m)) z d e
theorem b1g{p:Addr}{its:Array Value}{n:Nat}{o:Obj}{ds:List PyData}{vs:List V}(l:K.lookup p=some o) (hc:o.cls=.type "tuple") (hd:o.data=.seq its n) (hz:its.size <= sizeLine) (hv:Vals vs its.toList) (ha:∀ (S:Addr->Prop) (H:Hp),a0b K H S ds vs) (hn:o.dict=none:=by rfl):∀ (S:Addr->Prop) (H:Hp),AtD K H S (.tuple ds) (.ref p):=fun S H =>
 a1k (.inr ⟨o,its,n,l,⟨hc,hn⟩,hd,hz,hv⟩) (ha S H)
end
end L2
end
section
namespace L2
open PySem PySem.Spec PyProof.Rows
def ItX(b:Bool)(h:Heap)(it a:Addr)(k:Nat):Prop:=match b with | true=>h.IsListIter it a k | false=>h.IsTupleIter it a k
def SqX(b:Bool)(h:Heap)(a:Addr)(xs:Array Value):Prop:=match b with | true=>h.IsList a xs | false=>h.IsTuple a xs
section
variable{prog:Program}{w:World}{A:Around}{E:Value->Shared->Prop}{s:Shared}
end
section
variable{X:Cx}{pins:List (Addr × Obj)}{σ:List (Option V)}{H H':Hp}{s:Shared}{h':Heap}
theorem Inv.turnedL{t':Nat}{ch:List Addr}(I:Inv X pins σ H s)(k:∀ b o,b ∉ ch->s.heap.get? b=some o->h'.get? b=some o)(hf:∀ b ∈ ch,FpOk X pins H b):Inv X pins σ H { s with heap:=h',toks:=t' }:=by
 have nit:∀ b u,H b=some u->b ∉ ch:=fun b u e z=>by have:=(hf b z).1;rw [e] at this;cases this
 have nl:X.env.locals ∉ ch:=fun z=>(hf _ z).2.1 rfl
 refine I.step (g':=s.gens) (d':=s.drawn) (ch:=ch) (fun b hb=>⟨(hf b hb).2.2.2.1,(hf b hb).2.1,(hf b hb).2.2.2.2.1,(hf b hb).2.2.2.2.2⟩) (fun b o _ _ hc e _=>k b o hc e) (fun b o _ _ hc e _=>⟨o.slots,k b o hc e⟩) (fun _ _ _ _ n=>n)
  (fun b o hc e=>⟨o,k b o hc e⟩) (fun _ _ e=>e) (fun _ _ _ e=>e) (fun b ps e=>⟨#[],by rw [e];simp⟩) (fun m hm=>?_) (fun b u e=>?_) I.bare
 ·obtain⟨o,es,ep,ho,r⟩:=hm
  exact⟨o,es,ep,k _ o nl ho,r⟩
 ·refine(I.hok b u e).stay (fun c v hc q=>k c v ?_ q) (fun _ q=>q) (fun _ _ q=>q) fun _ _ _ q=>q
  rcases hc with z | z
  ·rw [z];exact nit b u e
  ·exact nit c _ z
def SqB(b:Bool)(K:W.Frag)(H:Hp)(a:Addr)(xs:List V):Prop:=match b with | true=>SqL K H a xs | false=>SqT K H a xs
end
def ZSt(b:Bool)(z TI TO i1 i2 a1 a2:Addr)(i:Nat)(h:Heap):Prop:=IsZip h z TI TO .none/\IsPair h TI (.ref i1) (.ref i2)/\(∃ p q,IsPair h TO p q)/\ItX b h i1 a1 i/\ItX b h i2 a2 i
end L2
end
section
namespace L2
open PySem PySem.Spec PyProof.Rows
section
variable{X:Cx}
end
section
variable{K:W.Frag}{S:Addr->Prop}{H:Hp}
noncomputable def zipP(xs ys:List PyData):List PyData:=List.zipWith (fun x y=>.tuple [x,y]) xs ys
noncomputable def zipD:List PyData->Option (List PyData)
 | [.list xs,.list ys]=>if xs.length=ys.length then some (zipP xs ys) else none
 | [.tuple xs,.tuple ys]=>if xs.length=ys.length then some (zipP xs ys) else none
 | _=>none
def SqS(b:Bool)(K:W.Frag)(S:Addr->Prop)(H:Hp)(a:Addr)(vs:List V):Prop:=match b with | true=>S a/\H a=some (.lst vs) | false=>SqT K H a vs
def diZip(da:TDA):TDI:=fun ρ Q=>da ρ fun xs ρ1=>fzs ρ1 xs fun ds ρ2=>need (zipD ds) fun zs=>Q zs ρ2
end
section
variable{ρ:Rho}{daa:TDA}{Q:List PyData->Rho->Prop}
theorem d7n:diZip daa ρ Q=daa ρ fun xs ρ1=>fzs ρ1 xs fun ds ρ2=>need (zipD ds) fun zs=>Q zs ρ2:=rfl
end
end L2
end
section
namespace L2
open PySem PySem.Spec PyProof.Rows
section
variable{X:Cx}
theorem kit2(K:W.Frag)(d:PyData)(T U:String)(hT:a2b T=true)(hU:a2b U=true):PySem.W.kitAny K (.type (tyD d)) [.type T,.type U]=some (isD T d || isD U d):=by
 have e1:=c0e K d T hT
 have e2:=c0e K d U hU
 simp only [PySem.W.kitAny,e1,e2]
 cases isD T d<;>cases isD U d<;>rfl
theorem c8l{pins:List (Addr × Obj)}{s:Shared}{σ:St}{H:Hp}{S:Addr->Prop}{d:PyData}{v:V}{u:Value}{tp:Addr}{T U:String}{Q:VK}(I:Inv X pins σ H s)(h:AtD X.K H S d v)(r:RelV v u)(ht:SqT X.K H tp [.ty T,.ty U])
  (hT:a2b T=true) (hU:a2b U=true) (q:Q (.bl (isD T d || isD U d)) H):wpAny (model X.prog X.w) X.A (call (.builtin "isinstance") [u,.ref tp]) (EP X pins σ Q) X.xe s:=by
 obtain⟨its,rv,⟨⟨oc,od,odt,osl⟩,e,hc,n,hd⟩,_⟩:=I.tuple ht
 obtain⟨t1,t2,rfl,q1,q2⟩:=rv.two
 cases q1;cases q2
 simp only at hc hd
 subst hc;subst hd
 have fin:∀ tk,EP X pins σ Q (.bool (isD T d || isD U d)) { s with toks:=tk }:=fun tk=>⟨.bl _,H,I.tok tk,rfl,q⟩
 have k2:=kit2 X.K d T U hT hU
 cases d with
 | none=>cases b1b h;cases r;exact PySem.W.kia_tup PySem.W.kitx_none I.kIn True.intro e k2 (fun z=>nomatch z) fin
 | bool b=>cases a7s h;cases r;exact PySem.W.kia_tup PySem.W.kitx_bool I.kIn True.intro e k2 (fun z=>nomatch z) fin
 | int i=>cases b1c h;obtain⟨t,rfl⟩:=r;exact PySem.W.kia_tup PySem.W.kitx_int I.kIn True.intro e k2 (fun z=>nomatch z) fin
 | str x=>cases a9t h;obtain⟨t,rfl⟩:=r;exact PySem.W.kia_tup PySem.W.kitx_str I.kIn True.intro e k2 (fun z=>nomatch z) fin
 | list ds =>
  obtain⟨a,xs,rfl,_,hq,_⟩:=a5b h
  cases r
  obtain⟨its,_,⟨o,n,e',hc,_,hd⟩,_⟩:=I.list (SqL.of hq)
  exact PySem.W.kia_tup PySem.W.kitx_list I.kIn ⟨o,e',hc⟩ e k2 (fun z=>nomatch z) fin
 | tuple ds =>
  obtain⟨a,xs,rfl,hq,_⟩:=a3l h
  cases r
  obtain⟨its,_,⟨o,e',hc,n,hd⟩,_⟩:=I.tuple hq
  exact PySem.W.kia_tup PySem.W.kitx_tuple I.kIn ⟨o,e',hc⟩ e k2 (fun z=>nomatch z) fin
 | dict kvs =>
  obtain⟨a,ν,rfl,_,hq,_⟩:=a9e h
  cases r
  obtain⟨_,_,vs,kv,o,es,ep,e',hc,hd,_,hp,_⟩:=(show a2v X.prog X.w H s.heap a (.dK ν) from I.hok a _ hq)
  exact PySem.W.kia_tup PySem.W.kitx_dict I.kIn ⟨o,e',hc.1⟩ e k2 (fun z=>nomatch z) fin
noncomputable def rIs2(K:W.Frag):List V->Hp->VK->Prop:=fun xs H Q=>∃ v S d tp T U,xs=[v,.ref tp]/\AtD K H S d v/\SqT K H tp [.ty T,.ty U]/\a2b T=true/\a2b U=true/\Q (.bl (isD T d || isD U d)) H
theorem c8m:a2w X (.builtin "isinstance") (rIs2 X.K):=by
 intro pins s σ H xs us Q I rs h
 obtain⟨v,S,d,tp,T,U,rfl,hd,ht,hT,hU,q⟩:=h
 obtain⟨u,u2,rfl,r1,r2⟩:=rs.two
 cases r2
 exact c8l I hd r1 ht hT hU q
end
section
variable{K:W.Frag}
def dIs2(T U:String)(de:TDE):TDE:=fun ρ Q=>de ρ fun x ρ1=>need (a0k ρ1 x) fun d=>Q (.d (.bool (isD T d || isD U d))) ρ1
theorem e3r{t:TE}{de:TDE}{T U:String}(hT:a2b T=true)(hU:a2b U=true)(h:AdE K t de):AdE K (tCB (rIs2 K) (a3q t (a3q (tTup (a3q (tC (.ty T)) (a3q (tC (.ty U)) tNil))) tNil))) (dIs2 T U de):=fun c O ρ σ H Qd Q R q k =>
 h c O ρ σ H _ _ R q fun x ρ1 O1 v H1 h1 R1 P1 a1=>by
  obtain⟨d,e1,h2⟩:=ne (h1)
  refine⟨by show 2 <= sizeLine;decide,fun p hp=>?_⟩
  have e:=a0m hp (.tup [V.ty T,V.ty U])
  exact⟨v,Any,d,p,T,U,rfl,AtD.mono e.keep _ _ (R1.top a1 e1).any,SqT.of a0e,hT,hU,k _ _ _ _ _ h2 (R1.grow e) (P1.trans (Pers.of e.keep fun _ z=>z)) a7u⟩
end
theorem e3s{X:Cx}{e:Expr}{de:TDE}{x y:Str}{T U:String}{p p2 p3 pt pos:Pos}{kk:Nat} (hg:Gl X "isinstance") (hm:X.mg "isinstance" = none) (hg2:Gl X x) (hm2:X.mg x=none) (hv:bootBuiltins x=some (.type T)) (hT:a2b T=true)
  (hg3:Gl X y) (hm3:X.mg y=none) (hv3:bootBuiltins y=some (.type U)) (hU:a2b U=true) (he:DE X e de) (hn:x ≠ "__name__":=by decide) (hd:(x == ("__debug__" : Str))=false:=by decide) (hn3:y ≠ "__name__":=by decide) (hd3:(y == ("__debug__" : Str))=false:=by decide)
  (hs:starEach [e,.Tuple [.Name x p2,.Name y p3] kk pt] X.env=(false,eval e X.env) :: starEach [.Tuple [.Name x p2,.Name y p3] kk pt] X.env:=by rfl):DE X (.Call (.Name "isinstance" p) [e,.Tuple [.Name x p2,.Name y p3] kk pt] [] pos) (dIs2 T U de):=by
 obtain⟨t,pe,ae⟩:=he
 exact⟨_,a2l c8m hg hm b2w (a0c pe (a0c (a4y (a0c (c5a hg2 hm2 hv hn hd) (a0c (c5a hg3 hm3 hv3 hn3 hd3) a0i))) a0i) hs) (by decide) (by decide) hs rfl,e3r hT hU ae⟩
theorem e3t{T U:String}{de:TDE}{ρ:Rho}{Q:DV->Rho->Prop}:dIs2 T U de ρ Q=de ρ fun x ρ1=>need (a0k ρ1 x) fun d=>Q (.d (.bool (isD T d || isD U d))) ρ1:=rfl
section
variable{K:W.Frag}{H:Hp}
end
end L2
end
section
namespace L2
open PySem PySem.Spec PyProof.Rows
section
variable{K:W.Frag}{c:Rc}{O:Own}{ρ:Rho}{σ:St}{H H':Hp}
end
end L2
end
section
namespace L2
open PySem PySem.Spec PyProof.Rows
theorem c0z:bootBuiltins "enumerate" = some (.type "enumerate"):=by decide +kernel
noncomputable def Ite(K:W.Frag)(a:Addr):It:=
 ⟨fun i H=>∃ xs x,SqL K H a xs/\xs[i]? = some x,fun i H v H'=>∃ T x,v=.ref T/\H T=none/\H'=upd H T (.tup [.int i,x])/\∀ xs,SqL K H a xs->xs[i]? = some x,fun i H=>∃ xs,SqL K H a xs/\xs.length <= i⟩
def ESt(e it a:Addr)(i:Nat)(h:Heap):Prop:=(∃ old,IsEnum h e it i old)/\h.IsListIter it a i
theorem c8n{P:Program}{w:World}{K:W.Frag}{elts:List Expr}{kk:Nat}{tp:Pos}{e it a:Addr}(ne:e ≠ it):Turn P w K (.Tuple elts kk tp) (Ite K a) [e,it] e (ESt e it a) where
 mem:=by simp
 obj:=fun i h st c hc=>by
  obtain⟨⟨old,x1⟩,x2⟩:=st
  have hc:c=e ∨ c=it:=by simpa using hc
  rcases hc with rfl | rfl
  ·exact⟨_,x1,fun v y=>by cases (show Data.fields _=Data.cell v from y)⟩
  ·obtain⟨o,g,_,d⟩:=x2
   exact⟨o,g,fun v y=>by rw [d] at y;cases y⟩
 keep:=fun i h h' st k=>by
  obtain⟨⟨old,x1⟩,x2⟩:=st
  exact⟨⟨old,k e (by simp) _ x1⟩,x2.at fun o g=>k it (by simp) o g⟩
 item:=by
  intro X hP hw hK hc i pins s σ H E I hf st hg
  subst hP hw hK
  obtain⟨xs,x,hq,hx⟩:=hg
  obtain⟨⟨old,x1⟩,x2⟩:=id st
  obtain⟨its,rv,p,_⟩:=I.list hq
  obtain⟨u,hu,ru⟩:=rv.get hx
  have lt:∀ c ∈ [e,it],c < s.heap.objs.size:=fun c hc=>by
   have hc:c=e ∨ c=it:=by simpa using hc
   rcases hc with rfl | rfl
   ·exact lt_size x1
   ·obtain⟨o,g,_⟩:=x2;exact lt_size g
  refine wpAny_pyNext_enum_item x1 x2 p.isList (x:=u) (by simpa using hu) ne fun h1 j1 j2 j3 j4 j5=>⟨_,rfl,wpAny_letOwnedTupleGo_enum j1 fun h2 e2 s2=>?_⟩
  have up:∀ c o,c ≠ e->h1.get? c=some o->h2.get? c=some o:=fun c o d g=>s2.extBut _ _ d g
  have I1:Inv X pins σ (upd H s.heap.objs.size (.tup [.int i,x])) { s with heap:=s.heap.push { cls:=.type "tuple",data:=.seq [Value.int i s.toks,u].toArray } }:=
   I.laid (t':=s.toks) (fun b o e=>get?_push_of_some _ e) (le_refl _) (show a2v X.prog X.w _ _ _ (.tup [.int i,x]) from⟨by show 2 <= sizeLine;decide,[Value.int i s.toks,u],.cons ⟨_,rfl⟩ (.cons ru .nil),a6e.new _ _⟩)
  have fpn:∀ c ∈ [e,it],(upd H s.heap.objs.size (.tup [.int i,x])) c=none:=fun c hc=>by rw [a0f (ne_of_lt (lt c hc))];exact(hf c hc).1
  have I2:Inv X pins σ (upd H s.heap.objs.size (.tup [.int i,x])) { s with heap:=h2,toks:=s.toks + 1 }:=by
   refine Inv.turnedL (s:={ s with heap:=s.heap.push { cls:=.type "tuple",data:=.seq [Value.int i s.toks,u].toArray } }) (t':=s.toks + 1) (ch:=[e,it]) I1 (fun c o hc g=>?_) fun c hc=>⟨fpn c hc,(hf c hc).2⟩
   have g:(s.heap.push { cls:=.type "tuple",data:=.seq [Value.int i s.toks,u].toArray }).get? c=some o:=g
   have hc:c ≠ e/\c ≠ it:=by simpa using hc
   refine up c o hc.1 ?_
   rcases Heap.get?_push_cases g with⟨rfl,rfl⟩ | g'
   ·exact j3
   ·exact j5 c o hc.1 hc.2 g'
  exact⟨.ref s.heap.objs.size,_,I2,rfl,⟨_,x,rfl,I.hok.fresh (le_refl _),rfl,fun zs hz=>by rw [I.list_inj hz hq];exact hx⟩,⟨⟨_,by simpa using e2⟩,j2.at fun o g=>up _ _ (Ne.symm ne) g⟩,fpn⟩
 done:=by
  intro X hP hw hK hc i pins s σ H E I hf st hg
  subst hP hw hK
  obtain⟨xs,hq,hx⟩:=hg
  obtain⟨⟨old,x1⟩,x2⟩:=id st
  obtain⟨its,rv,p,_⟩:=I.list hq
  have hl:=rv.length
  refine wpAny_pyNext_enum_end (I.ok.hd hc) x1 x2 p.isList (by simp;omega) fun h1 j=>⟨rfl,?_⟩
  exact I.turnedL (t':=s.toks) (ch:=[e,it]) (fun c o hc g=>j c o (fun z=>hc (by simp [z])) g) hf
 self:=fun _ _ _ _ _ st h=>by obtain⟨⟨old,x1⟩,_⟩:=st;exact wpAny_pyIter_enum x1 h
section
variable{X:Cx}
def d4m(K:W.Frag)(ta:TE):TI:=fun σ H R=>ta σ H fun x H1=>∃ a xs,x=.ref a/\SqL K H1 a xs/\R (Ite K a) H1
theorem d7o{l:Expr}{tl:TE}{p pos tp:Pos}{elts:List Expr}{kk:Nat} (hg:Gl X "enumerate") (hm:X.mg "enumerate" = none) (hl:PE X l tl) (hs:starEach [l] X.env=[(false,eval l X.env)]:=by rfl) :
  PI X (.Tuple elts kk tp) (.Call (.Name "enumerate" p) [l] [] pos) (d4m X.K tl):=by
 intro pins s σ H R I h
 refine Call_ (b2z I hg hm c0z (PyProof.Rows.callWith_type1 (thn ((a0c (t:=tNil) hl a0i hs) pos pins s σ H (fun vs H1=>∃ a xs,vs=[.ref a]/\SqL X.K H1 a xs/\R (Ite X.K a) H1) I ?_) fun us s1 ⟨vs,H1,I1,r1,q1⟩=>?_) hs rfl))
 ·show tl σ H fun x H1=>∃ a xs,[x]=[V.ref a]/\SqL X.K H1 a xs/\R (Ite X.K a) H1
  simpa [d4m] using h
 ·obtain⟨a,xs,rfl,hq,q⟩:=q1
  obtain⟨u,rfl,ru⟩:=r1.one
  cases ru
  obtain⟨its,rv,pl,hz⟩:=I1.list hq
  refine call_enumerate_list pl.isList fun h' j1 j2 j3 j4=>wpAny_pyIter_enum j1 ⟨s1.heap.objs.size + 1,[s1.heap.objs.size + 1,s1.heap.objs.size],_,_,H1,rfl,I1.kept (t':=s1.toks) j4,c8n (Nat.succ_ne_self _),⟨⟨_,j1⟩,j2⟩,fun c hc=>?_,q⟩
  have hc:c=s1.heap.objs.size + 1 ∨ c=s1.heap.objs.size:=by simpa using hc
  have ge:s1.heap.objs.size <= c:=by rcases hc with rfl | rfl;exact le_succ _;exact le_refl _
  exact I1.fpOk ge (I1.hok.fresh ge)
end
section
variable{K:W.Frag}{S:Addr->Prop}{H:Hp}
noncomputable def b9n(xs:List PyData):List PyData:=xs.zipIdx.map fun p=>.tuple [.int (p.2:Int),p.1]
def e3u(de:TDE):TDI:=fun ρ Q=>de ρ fun x ρ1=>fz ρ1 x fun y ρ2=>need (match y with | .list xs=>some xs | _=>none) fun xs=>Q (b9n xs) ρ2
end
theorem d2h{de:TDE}{ρ:Rho}{Q:List PyData->Rho->Prop}:e3u de ρ Q=de ρ fun x ρ1=>fz ρ1 x fun y ρ2=>need (match y with | .list xs=>some xs | _=>none) fun xs=>Q (b9n xs) ρ2:=rfl
end L2
end
section
namespace L2
open PySem PySem.Spec PyProof.Rows
section
variable{K:W.Frag}{c:Rc}{O:Own}{ρ:Rho}{σ:St}{H H':Hp}
end
end L2
end
section
namespace L2
open PySem PySem.Spec PyProof.Rows
section
variable{κ:Type}[DecidableEq κ]
noncomputable def valV(kvs:List (κ × V))(k:κ):Option V:=(kvs.find? fun kv=>decide (kv.1=k)).map (·.2)
noncomputable def putK(kvs:List (κ × V))(k:κ)(v:V):List (κ × V):=
 if (kvs.any fun kv=>decide (kv.1=k))=true then kvs.map (fun kv=>if kv.1=k then(kv.1,v) else kv) else kvs ++ [(k,v)]
noncomputable def dropK(kvs:List (κ × V))(k:κ):List (κ × V):=kvs.filter fun kv=>decide (kv.1 ≠ k)
end
abbrev KT(H:Hp):List (List Key × V)->List (List Key × Addr × Value)->Prop:=Paired fun p q=>p.1=q.1/\H q.2.1=some (.tup (p.1.map kV))/\RelV p.2 q.2.2
section
variable{P:Program}{w:World}{H:Hp}{h:Heap}{a:Addr}
end
def DGet(H:Hp)(a:Addr)(y:V)(r:Option V):Prop:=
 (∃ kvs k,Rd H a (.dK kvs)/\y=kV k/\r=valV kvs k) ∨ ∃ kvs k b,Rd H a (.dT kvs)/\y=.ref b/\H b=some (.tup (k.map kV))/\r=valV kvs k
def DPut(H:Hp)(a:Addr)(y v:V)(H':Hp):Prop:=
 (∃ kvs k,H a=some (.dK kvs)/\y=kV k/\kvs.length < sizeLine/\H'=upd H a (.dK (putK kvs k v))) ∨
 ∃ kvs k b,H a=some (.dT kvs)/\y=.ref b/\H b=some (.tup (k.map kV))/\kvs.length < sizeLine/\H'=upd H a (.dT (putK kvs k v))
section
variable{X:Cx}{pins:List (Addr × Obj)}{σ:St}{H:Hp}{s:Shared}{a:Addr}{y v:V}{u r:Value}{o:Option V}{A:Around}{E:Value->Shared->Prop}
end
section
variable{X:Cx}{pins:List (Addr × Obj)}{σ:St}{H:Hp}{s:Shared}{a:Addr}{kvs:List (Key × V)}{k:Key}{u:Value}{A:Around}{E:Value->Shared->Prop}
end
section
variable{X:Cx}{o i e value:Expr}{pos pos' tpos:Pos}{td ty tv:TE}
end
section
variable{X:Cx}{pos:Pos}
end
end L2
end
section
namespace L2
open PySem PySem.Spec PyProof.Rows
section
variable{X:Cx}
theorem c8o:a2w X (.type "int") (fun xs H Q=>∃ b:Bool,xs=[.bl b]/\Q (.int (if b then 1 else 0)) H):=by
 intro pins s σ H xs us Q I rs h
 obtain⟨b,rfl,q⟩:=h
 obtain⟨u,rfl,r⟩:=vals1 rs
 cases r
 exact call_int_bool ⟨.int _,H,I.tok _,⟨_,rfl⟩,q⟩
end
noncomputable def c5r:FC:=fun ds=>match ds with
 | [.bool b]=>some (.int (if b then 1 else 0))
 | _=>none
noncomputable def unD:List (PyData × PyData)->Option (List (Str × Int))
 | []=>some []
 | (.str k,.int n) :: r=>(unD r).map ((k,n) :: ·)
 | _ :: _=>none
section
variable{K:W.Frag}{H:Hp}{S:Addr->Prop}
theorem d7p:AdC K (fun xs H Q=>∃ b:Bool,xs=[.bl b]/\Q (.int (if b then 1 else 0)) H) c5r:=by
 intro S H vs ds z Q f h e k
 unfold c5r at e
 split at e
 ·rename_i b
  cases e
  obtain⟨v,rfl,h1⟩:=h.one
  rw [h1.bool]
  exact⟨b,rfl,k _ _ (Same.refl _) (a1y _)⟩
 ·cases e
theorem AtT.dict{H:Hp}{S:Addr->Prop}{kvs:List (PyData × PyData)}{v:V}(h:AtT K H S (.dict kvs) v):∃ (a:Addr) (κ:List (Key × V)),v=.ref a/\S a/\H a=some (.dK κ)/\a0z K H S kvs κ:=a9e (h.at fun _ z=>nomatch z)
end
section
variable{K:W.Frag}{da db:TDE}
end
end L2
end
section
namespace L2
open PySem PySem.Spec PyProof.Rows
noncomputable def Rc.reb(c:Rc)(O:Own)(p:Addr)(H:Hp):Rc:={ c with H0:=H,P:=fun a=>c.P a ∨ a=p,M:=fun a=>∃ j,O j=some a,A:=fun a=>∃ j,O j=some a }
noncomputable def putS(ν:List (Str × Int))(k:Str)(n:Int):List (Str × Int):=
 if (ν.any fun q=>decide (q.1=k))=true then ν.map (fun q=>if q.1=k then(q.1,n) else q) else ν ++ [(k,n)]
structure Pin(K:W.Frag)(c:Rc)(p:Addr)(ν:List (Str × Int))(i:Nat)(O:Own)(ρ:Rho)(σ:St)(H:Hp):Prop where
 rel:Rel K (c.reb O p H) O ρ σ H
 at_:H p=some (.dK (ν.map kvE))
 slot:σ[i]? = some (some (.ref p))
 nul:ρ[i]? = some none
 bA:∀ j q,O j=some q->c.A q
 bS:∀ b o,¬ c.M b->c.H0 b=some o->H b=some o
 bK:∀ b,c.H0 b ≠ none->H b ≠ none
 bM:∀ q,c.M q->∃ vs,H q=some (.lst vs)
 am:∀ q,c.A q->c.M q ∨ c.H0 q=none
 frs:∀ q,c.H0 q=none->c.S q
 fr0:c.H0 p=none
 np:¬ c.P p
section
variable{K:W.Frag}{c:Rc}{O O1:Own}{ρ ρ1:Rho}{σ σ1:St}{H H1 H2:Hp}{p:Addr}{ν μ:List (Str × Int)}{i:Nat}
end
section
variable{K:W.Frag}
end
section
variable{X:Cx}{iter kE vE:Expr}{rest:List Stmt}{di:TDI}{dk dv:TDE}{du:TDS}{x y:Str}{p1 p2 p3 p4 p5 p6 p7 p8 p9 p10 p11 p12 p13:Pos}
end
end L2
end
section
namespace L2
open PySem PySem.Spec PyProof.Rows
noncomputable def d4n(ps:List (Str × Int)):List (Str × Int):=ps.foldl (fun ν p=>putS ν p.1 p.2) []
section
variable{prog:Program}{w:World}{A:Around}{R:Result->Shared->Prop}{I:Addr}{fp wr:List Addr}{G:Array GenState->Array GenState->Prop}{St:Nat->Shared->Prop}{items:Array Value}{ps:List (Str × Int)}
end
section
variable{prog:Program}{w:World}{A:Around}{E:Value->Shared->Prop}{s:Shared}
end
end L2
end
section
namespace L2
open PySem PySem.Spec PyProof.Rows
def NotSq(o:HO):Prop:=(∀ xs,o ≠ .lst xs)/\(∀ xs,o ≠ .tup xs)/\∀ a u,o ≠ .frz a u
structure PinG(K:W.Frag)(c:Rc)(p:Addr)(o:HO)(O:Own)(ρ:Rho)(σ:St)(H:Hp):Prop where
 rel:Rel K (c.reb O p H) O ρ σ H
 at_:H p=some o
 nsq:NotSq o
 bA:∀ j q,O j=some q->c.A q
 bS:∀ b o,¬ c.M b->c.H0 b=some o->H b=some o
 bK:∀ b,c.H0 b ≠ none->H b ≠ none
 bM:∀ q,c.M q->∃ vs,H q=some (.lst vs)
 am:∀ q,c.A q->c.M q ∨ c.H0 q=none
 frs:∀ q,c.H0 q=none->c.S q
 fr0:c.H0 p=none
 np:¬ c.P p
section
variable{K:W.Frag}{c:Rc}{O O1:Own}{ρ ρ1:Rho}{σ σ1:St}{H H1 H2:Hp}{p:Addr}{o o2:HO}
end
end L2
end
section
namespace L2
open PySem PySem.Spec PyProof.Rows
section
variable{X:Cx}
theorem c8p:bootBuiltins "sorted" = some (.builtin "sorted"):=by decide +kernel
noncomputable def c3t:V->List V->Hp->VK->Prop:=fun x vs H Q=>∃ l xs,∃ j:Int,∃ y,x=.ref l/\vs=[.int j,y]/\H l=some (.lst xs)/\0 <= j/\j <= xs.length/\xs.length < sizeLine/\Q .non (upd H l (.lst (xs.take j.toNat ++ y :: xs.drop j.toNat)))
theorem c8q:MtM X "list.insert" c3t:=by
 intro pins s σ H x vs v us Q I rx rv h
 obtain⟨l,xs,j,y,rfl,rfl,hH,h0,h1,hz,q⟩:=h
 cases rx
 obtain⟨u0,u,rfl,⟨t,e0⟩,ru⟩:=Vals.two rv
 subst e0
 obtain⟨z,its,n,r,hl,e⟩:=I.lstM hH
 have hfit:¬ (!Builtin.List.listFitsIndex j)=true:=by
  have:=sizeLine_eq
  have e1:Builtin.List.listFitsIndex j=true:=by
   unfold Builtin.List.listFitsIndex
   rw [and_eq_true]
   exact⟨decide_eq_true (by omega),decide_eq_true (by omega)⟩
  rw [e1]
  exact Bool.false_ne_true
 refine call_meets PySem.F.slot_list_insert ⟨_,e,rfl⟩ PySem.F.entry_list_insert (PySem.F.args_list_insert_3 _ _ _) (AutoSeq1.list_insert_list_int_val_1 l its.toArray n j t u hfit (by rw [size_toArray];omega)) ⟨e,?_⟩
 have hk:j.toNat <= its.length:=by omega
 refine⟨.non,_,I.lset (its':=its.take j.toNat ++ u :: its.drop j.toNat) hH e ?_ ?_ ?_,rfl,q⟩
 ·have hj:¬ j < 0:=by omega
  simp only [if_neg hj]
  apply Array.ext'
  simp
  have:min j.toNat its.length=j.toNat:=by omega
  rw [this]
  simp [List.take_of_length_le]
 ·exact(r.take _).append (.cons ru (r.drop _))
 ·rw [length_append,length_cons,length_take,length_drop]
  omega
theorem strs_of_all{K:W.Frag}{H:Hp}{S:Addr->Prop}:∀ {ss:List Str} {xs:List V},a0b K H S (ss.map .str) xs->xs=ss.map V.str
 | [],xs,h=>by rw [h.unnil];rfl
 | n :: r,xs,h=>by
  obtain⟨v,vr,rfl,hd,t⟩:=h.uncons
  rw [a9t hd,strs_of_all t];rfl
theorem b6o:∀ {ss:List Str} {us:List Value},Vals (ss.map V.str) us->StrsAre us ss
 | [],us,h=>by rw [Vals.zero h];exact .nil
 | x :: r,us,h=>by
  cases h with
  | cons h1 h2 =>
   obtain⟨t,rfl⟩:=h1
   exact .cons _ _ (b6o h2)
theorem b6p:∀ {us:List Value} {ss:List Str},StrsAre us ss->Vals (ss.map V.str) us
 | _,_,.nil=>.nil
 | _,_,.cons _ _ h=>.cons ⟨_,rfl⟩ (b6p h)
end
end L2
end
section
namespace L2
open PySem PySem.Spec PyProof.Rows
section
variable{X:Cx}
noncomputable def d4o(K:W.Frag):List V->Hp->VK->Prop:=fun xs H Q=>∃ v S,∃ n:Nat,xs=[v]/\AtD K H S (.list (List.replicate n (.bool true))) v/\Q (.bl true) H
theorem b3n{K:W.Frag}{H:Hp}{S:Addr->Prop}:∀ {n:Nat} {xs:List V},a0b K H S (List.replicate n (.bool true)) xs->xs=List.replicate n (V.bl true)
 | 0,xs,h=>h.unnil
 | n + 1,xs,h=>by
  obtain⟨v,vr,rfl,hd,t⟩:=a0b.uncons (d:=.bool true) (ds:=List.replicate n (.bool true)) h
  rw [AtT.bool (AtD.top hd),b3n t];rfl
theorem b6q:∀ {n:Nat} {us:List Value},Vals (List.replicate n (V.bl true)) us->∀ (i:Nat) (v:Value),us[i]? = some v->v=Value.bool true
 | 0,us,h,i,v,e=>by rw [Vals.zero h] at e;cases e
 | n + 1,us,h,i,v,e=>by
  cases h with
  | cons h1 h2 =>
   cases i with
   | zero=>cases e;exact h1
   | succ i=>exact b6q h2 i v e
theorem c8r(hc:X.calm=true):a2w X (.builtin "all") (d4o X.K):=by
 intro pins s σ H xs us Q I rs h
 obtain⟨v,S,n,rfl,hd,q⟩:=h
 obtain⟨u,rfl,r⟩:=vals1 rs
 obtain⟨a,ys,rfl,_,hq,t⟩:=a5b hd
 cases r
 have ey:=b3n t
 subst ey
 obtain⟨its,rv,pl,hz⟩:=I.list (SqL.of hq)
 have la:a < s.heap.objs.size:=lt_size pl.isList.choose_spec.1
 refine call_all_walk (wpAny_pyIter_list pl.isList ⟨s.heap.objs.size,_,_,_,_,_,fun _=>true,rfl,Walks.list (by simpa using I.ok.hd hc) s.heap.objs.size a (ne_of_lt la) its.toArray,⟨⟨_,get?_push_size _ rfl,rfl,rfl⟩,pl.isList.push _⟩,fun i v s' Q' E' hP hQ=>?_,fun h' tk hk=>?_⟩)
 ·rw [b6q rv i v (by simpa using hP)]
  exact wpAny_truthy_bool hQ
 ·rw [show((List.range its.toArray.size).all fun _=>true)=true by simp]
  refine⟨.bl true,H,I.kept fun b o e=>hk b o ?_ (get?_push_of_some _ e),rfl,q⟩
  rw [mem_singleton]
  exact ne_of_lt (lt_size e)
theorem c1a:bootBuiltins "all" = some (.builtin "all"):=by decide +kernel
end
noncomputable def fMax2:FC:=fun ds=>match ds with
 | [.int a,.int b]=>some (.int (max a b))
 | _=>none
noncomputable def fMin2:FC:=fun ds=>match ds with
 | [.int a,.int b]=>some (.int (min a b))
 | _=>none
noncomputable def allT:List PyData->Bool
 | []=>true
 | .bool true :: r=>allT r
 | _ :: _=>false
theorem c1b:∀ n:Nat,allT (List.replicate n (.bool true))=true
 | 0=>rfl
 | n + 1=>c1b n
theorem c1c:∀ {xs:List PyData},allT xs=true->xs=List.replicate xs.length (.bool true)
 | [],_=>rfl
 | .bool true :: r,h=>by
  have:=c1c (xs:=r) h
  rw [length_cons,replicate_succ,← this]
noncomputable def c5s:FC:=fun ds=>match ds with
 | [.list xs]=>if allT xs=true then some (.bool true) else none
 | _=>none
noncomputable def d4p:PyData->List PyData->Option PyData:=fun x ds=>match x,ds with
 | .dict kvs,[.str k,.int n]=>(unD kvs).map fun ν=>.int ((ν.lookup k).getD n)
 | _,_=>none
section
variable{K:W.Frag}{H:Hp}{S:Addr->Prop}
theorem d7q:AdC K (d4o K) c5s:=by
 intro S H vs ds z Q f h e k
 unfold c5s at e
 split at e
 ·rename_i xs
  split at e
  ·rename_i hx
   cases e
   obtain⟨v,rfl,h1⟩:=h.one
   rw [c1c hx] at h1
   exact⟨v,Any,_,rfl,h1.any,k _ _ (Same.refl _) (a3i _)⟩
  ·cases e
 ·cases e
def e3v(da:TDA):TDE:=fun ρ Q=>da ρ fun xs ρ1=>need (a1d ρ1 xs) fun ds=>∃ ss:List Str,ds=[.list (ss.map .str)]/\ss.length < 64/\∀ ss':List Str,ss'.Perm ss->Q (.d (.list (ss'.map .str))) ρ1
theorem b6r:∀ {ss:List Str},a0b K H S (ss.map .str) (ss.map V.str)
 | []=>by unfold a0b;rfl
 | x :: r=>by
  show a0b K H S (.str x :: r.map .str) (.str x :: r.map V.str)
  unfold a0b
  exact⟨_,_,rfl,a1u _,b6r⟩
def dGet2(dd:TDE)(da:TDA):TDE:=fun ρ Q=>dd ρ fun x ρ1=>need (a0k ρ1 x) fun dx=>(∃ kvs,dx=.dict kvs)/\da ρ1 fun ys ρ2=>need (a0k ρ2 x) fun dx2=>need (a1d ρ2 ys) fun ds=>need (d4p dx2 ds) fun z=>Q (.d z) ρ2
def b7s(i:Nat)(di de:TDE):TDE:=fun ρ Q=>need (ownB ρ i) fun _=>di ρ fun x ρ1=>need (a0k ρ1 x) fun dx=>need (asI dx) fun j=>de ρ1 fun y ρ2=>fz ρ2 y fun z ρ3=>need (ownB ρ3 i) fun o=>(0 <= j/\j <= o.2.length/\o.2.length <= 1000000)/\Q (.d .none) (ρ3.set i (some (okL o.1 (o.2.take j.toNat ++ z :: o.2.drop j.toNat))))
theorem c8s{i:Nat}{t1 t2:TE}{di de:TDE}(h1:AdE K t1 di)(h2:AdE K t2 de):AdE K (tBM K "list" c3t (tVar i) (a3q t1 (a3q t2 tNil))) (b7s i di de):=by
 intro c O ρ σ H Qd Q R q k
 obtain⟨hz2,e,q⟩:=ne (q)
 obtain⟨o,xs⟩:=hz2
 obtain⟨e0,p,vs,hO,hσ,hH,hA⟩:=b1f R e
 refine⟨.ref p,hσ,.inl ⟨rfl,vs,SqL.of hH⟩,?_⟩
 refine h1 c O ρ σ H _ _ R q fun x ρ1 O1 v1 H1 q1 R1 P1 a1=>?_
 obtain⟨dx,e1,hn8⟩:=ne (q1)
 obtain⟨j,e2,q1⟩:=ne (hn8)
 have ev:v1=.int j:=b6l (R1.top a1 e1) e2
 subst ev
 refine h2 c O1 ρ1 σ H1 _ _ R1 q1 fun y ρ2 O2 v H2 q2 R2 P2 a2=>?_
 obtain⟨z,ρ3,O3,hz12,R3,P3,a3⟩:=R2.fz a2 q2
 obtain⟨hz13,e3,hn15⟩:=ne (hz12)
 obtain⟨hz14,q3⟩:=hn15
 obtain⟨o3,xs3⟩:=hz13
 obtain⟨hj0,hj1,hz⟩:=hz14
 obtain⟨e4,p3,vs3,hO3,hσ3,hH3,hA3⟩:=b1f R3 e3
 rw [hσ] at hσ3;cases hσ3
 refine⟨p,vs3,j,v,rfl,rfl,hH3,hj0,by rw [hA3.length];exact hj1,by rw [hA3.length];exact mil hz,?_⟩
 obtain⟨R4,P4⟩:=R3.writeB hO3 hH3 e4 (ys:=xs3.take j.toNat ++ z :: xs3.drop j.toNat) (vs':=vs3.take j.toNat ++ v :: vs3.drop j.toNat) (by
  have h:=((hA3.take j.toNat).snoc a3).append (hA3.drop j.toNat)
  simpa using h)
 exact k _ _ _ _ _ q3 R4 (((P1.trans P2).trans P3).trans P4) b5k
end
section
variable{X:Cx}{e e1 e2:Expr}{es:List Expr}{daa:TDA}{de d1 d2:TDE}{pos:Pos}
theorem c8t(i:Nat){x:Str}{p p2:Pos}(hN:X.N[i]? = some x)(h1:DE X e1 d1)(h2:DE X e2 d2)(hv:Vis X.env.scope x:=by first | exact Or.inl rfl | exact Or.inr (Or.inl rfl) | exact Or.inr (Or.inr rfl)) (hd:(x == ("__debug__" : Str))=false:=by decide)
  (hcd:(x == ("__classdict__" : Str))=false:=by decide)
  (hbase:attributeBase (.Name x p) "insert" X.env (eval (.Name x p) X.env)=eval (.Name x p) X.env:=by rfl)
  (hfew:((backTo pos (starEach [e1,e2] X.env)).all (fun x=>!x.1) && (backToKw pos (keywordEach [] X.env)).all (fun x=>x.1.isSome)
   && decide (([e1,e2]:List Expr).length + ([]:List Keyword).length + (if ([]:List Keyword).isEmpty then 0 else 1) < 30))=true:=by rfl)
  (hline:(p2.endLine == pos.line)=true:=by rfl) (hs:starEach [e1,e2] X.env=(false,eval e1 X.env) :: starEach [e2] X.env:=by rfl) (hs2:starEach [e2] X.env=[(false,eval e2 X.env)]:=by rfl) (hpl:(backTo pos (starEach [e2] X.env)).any (·.1)=false:=by rfl):DE X (.Call (.Attribute (.Name x p) "insert" p2) [e1,e2] [] pos) (b7s i d1 d2):=by
 obtain⟨ta,pa,aa⟩:=h1
 obtain⟨tb,pb,ab⟩:=h2
 exact⟨_,a6k PySem.F.plainAttrs_list PySem.F.slot_list_insert PySem.F.type_list_insert c8q (b0u hN hv hd hcd) (a0c pa (a0c pb a0i hs2) hs) hbase hfew hline hs hpl,c8s aa ab⟩
end
section
variable{i:Nat}{de di da dd:TDA}{ρ:Rho}{Q:DV->Rho->Prop}{d1 d2:TDE}
theorem d2i:e3v da ρ Q=da ρ fun xs ρ1=>need (a1d ρ1 xs) fun ds=>∃ ss:List Str,ds=[.list (ss.map .str)]/\ss.length < 64/\∀ ss':List Str,ss'.Perm ss->Q (.d (.list (ss'.map .str))) ρ1:=rfl
theorem d7r:dGet2 d1 da ρ Q=d1 ρ fun x ρ1=>need (a0k ρ1 x) fun dx=>(∃ kvs,dx=.dict kvs)/\da ρ1 fun ys ρ2=>need (a0k ρ2 x) fun dx2=>need (a1d ρ2 ys) fun ds=>need (d4p dx2 ds) fun z=>Q (.d z) ρ2:=rfl
theorem c8u:b7s i d1 d2 ρ Q=need (a4r (ρ[i]?.join)) fun _=>d1 ρ fun x ρ1=>need (a0k ρ1 x) fun dx=>need (asI dx) fun j=>d2 ρ1 fun y ρ2=>fz ρ2 y fun z ρ3=>need (a4r (ρ3[i]?.join)) fun o=>(0 <= j/\j <= o.2.length/\o.2.length <= 1000000)/\Q (.d .none) (ρ3.set i (some (okL o.1 (o.2.take j.toNat ++ z :: o.2.drop j.toNat)))):=rfl
end
section
variable{K:W.Frag}
end
section
variable{X:Cx}{iter kE vE tg:Expr}{rest:List Stmt}{di:TDI}{dg:TDG}{dk dv:TDE}{du:TDS}{x y z:Str}{pos p1 p2 p3 p4 p5 p6 p7 p8 p9 p10 p11 p12 p13:Pos}
end
end L2
end
section
namespace L2
open PySem PySem.Spec PyProof.Rows
section
variable{prog:Program}{w:World}{A:Around}{E:Value->Shared->Prop}{s:Shared}
def IsZ2(h:Heap)(z TI TO T:Addr)(b:Bool):Prop:=h.get? z=some { cls:=.type "zip",dict:=none,data:=.fields #[rawInt T,.bool b,.bool false,.ref TI,.ref TO],slots:=#[] }
def ZF(h:Heap)(z TI TO:Addr):Prop:=(IsZip h z TI TO .none/\∃ p q,IsPair h TO p q) ∨ ∃ T b o,IsZ2 h z TI TO T b/\h.get? T=some o
def ZW(h:Heap)(z TI TO i1 i2 l1 l2:Addr)(k:Nat):Prop:=ZF h z TI TO/\IsPair h TI (.ref i1) (.ref i2)/\ItX true h i1 l1 k/\ItX false h i2 l2 k
end
end L2
end
section
namespace L2
open PySem PySem.Spec PyProof.Rows
section
variable{prog:Program}{w:World}{A:Around}{R:Result->Shared->Prop}{ps:List (Str × Int)}{z TI TO i1 i2 l1 l2:Addr}{xs ys:Array Value}
end
section
variable{prog:Program}{w:World}{A:Around}{E:Value->Shared->Prop}{s:Shared}
end
section
variable{X:Cx}
end
noncomputable def a5y:List PyData->Option (List Str)
 | []=>some []
 | .str x :: r=>(a5y r).map (x :: ·)
 | _ :: _=>none
theorem b5n:∀ ss:List Str,a5y (ss.map .str)=some ss
 | []=>rfl
 | x :: r=>by show(a5y (r.map .str)).map (x :: ·)=_;rw [b5n r];rfl
theorem b3o:∀ {xs:List PyData} {ss:List Str},a5y xs=some ss->xs=ss.map .str
 | [],ss,h=>by cases h;rfl
 | .str x :: r,ss,h=>by
  have h':(a5y r).map (x :: ·)=some ss:=h
  obtain⟨qs,h1,rfl⟩:=map_eq_some_iff.mp h'
  rw [b3o h1];rfl
end L2
end
section
namespace L2
open PySem
theorem d7s{a b:Int}:fMax2 [.int a,.int b]=some (.int (max a b)):=rfl
theorem d7t{a b:Int}:fMin2 [.int a,.int b]=some (.int (min a b)):=rfl
theorem d7u{n:Nat}:c5s [.list (List.replicate n (.bool true))]=some (.bool true):=by
 show(if allT _=true then _ else _)=_
 rw [if_pos (c1b n)]
noncomputable def a5z:PyData->Bool
 | .none=>true
 | _=>false
noncomputable def fIsN:F2:=fun x y=>match y with
 | .none=>some (.bool (a5z x))
 | _=>none
noncomputable def fNotN:F2:=fun x y=>match y with
 | .none=>some (.bool (!a5z x))
 | _=>none
theorem e3w{x:PyData}:fIsN x .none=some (.bool (a5z x)):=rfl
theorem d7v{x:PyData}:fNotN x .none=some (.bool (!a5z x)):=rfl
theorem c8v:a5z .none=true:=rfl
theorem c8w{i:Int}:a5z (.int i)=false:=rfl
theorem c8x{xs:List PyData}:a5z (.tuple xs)=false:=rfl
section
variable{K:W.Frag}{H:Hp}{S:Addr->Prop}
theorem c8y{d:PyData}{v:V}(h:AtT K H S d v):decide (v=.non)=a5z d:=by
 cases d with
 | none=>rw [h.none];rfl
 | bool b=>rw [h.bool];rfl
 | int i=>rw [h.int];rfl
 | str x=>rw [h.str];rfl
 | list xs=>obtain⟨a,ws,rfl,_,_⟩:=h.list;rfl
 | tuple xs=>obtain⟨a,ws,rfl,_,_⟩:=h.tup;rfl
 | dict kvs=>obtain⟨a,ν,rfl,_⟩:=h.dict;rfl
theorem e3x:AdR K (fun x y H Q=>y=.non/\Q (.bl (decide (x=.non))) H) fIsN:=by
 intro S H x y dx dy z Q f hx hy e k
 unfold fIsN at e
 split at e<;>cases e
 rw [hy.none,c8y hx]
 exact⟨rfl,k _ _ (Same.refl _) (a3i _)⟩
end
end L2
end
section
namespace L2
open PySem PySem.Spec PyProof.Rows
section
variable{prog:Program}{w:World}{A:Around}{E:Value->Shared->Prop}{s:Shared}
theorem b8w{t sl:Addr}{items:Array Value}{vl vu:Value}{lo hi:Option Int}{Q:Value->Shared->Prop}(ht:IsTup s.heap t items)(hs:s.heap.IsSliceOf sl vl vu .none)(pl:IsPart vl lo)(pu:IsPart vu hi)
  (hw:HT.sIx items.size 0 lo=0/\HT.sIx items.size items.size hi=items.size) (h:Q (.ref t) s):wpAny (model prog w) A (getItem (.ref t) (.ref sl)) Q E s:=by
 have hTs:s.TypeIs (.ref sl) "slice":=by obtain⟨os,hos,hcs,_⟩:=id hs;exact⟨os,hos,hcs⟩
 unfold getItem
 try with_reducible refine wpAny_holding ?_
 first | refine wpAny_bind (wpAny_pure ?_) | skip
 refine wpAny_bind (wpAny_sequenceKey ht.typeIs (by decide) ?_)
 refine wpAny_bind (wpAny_callSpecial?_slot (name:=Str.ofString "__getitem__") ht.typeIs slot_tuple_getitem (wpAny_call_entry slot_tuple_getitem ht.typeIs entry_tuple_getitem ?_ (args_tuple_getitem _ _)))
 show wpAny _ _ (Builtin.Tuple.tupleItemsOf (.ref t) >>= _) _ _ s
 refine wpAny_bind (tupleItemsOf_ ht (wpAny_bind (wpAny_typeOf hTs ?_)))
 rw [if_pos (by decide)]
 refine wpAny_bind (HT.a9p hs pl pu ?_)
 rw [hw.1,hw.2]
 show wpAny _ _ (if (((0:Nat):Int) == 0 && (1:Int) == 1 && (items.size - 0) == items.size)=true then _ else _) _ _ s
 rw [if_pos (by simp)]
 refine wpAny_bind (m:=Builtin.Tuple.tupleIsExact (.ref t)) (wpAny_bind (wpAny_typeOf ht.typeIs (wpAny_pure ?_)))
 rw [if_pos (by decide)]
 exact wpAny_bind (wpAny_rule (wpAny_pure ⟨_,rfl,wpAny_pure h⟩))
end
section
variable{X:Cx}{e:Expr}{te:TE}{pos p2:Pos}
noncomputable def rSlW(K:W.Frag):V->Option Int->Option Int->Hp->VK->Prop:=fun x lo hi H Q=>∃ a xs,x=.ref a/\SqT K H a xs/\(HT.sIx xs.length 0 lo=0/\HT.sIx xs.length xs.length hi=xs.length)/\Q x H
theorem b5o:SlR X (rSlW X.K):=by
 intro pins s σ H x v vl vu lo hi sl Q I rx hs pl pu h
 obtain⟨a,xs,rfl,hx,hw,q⟩:=h
 cases rx
 obtain⟨its,r,ht,hz⟩:=I.tuple hx
 have hlen:its.toArray.size=xs.length:=by rw [size_toArray];exact r.length.symm
 exact⟨"tuple",_,slot_tuple_getitem.lookup,ht.typeIs,b8w ht hs pl pu (by rw [hlen];exact hw) ⟨.ref a,H,I,rfl,q⟩⟩
def rInK(K:W.Frag)(w:World):R2:=fun x y H Q=>∃ a kvs z,y=.ref a/\KDict K w a kvs/\(a == sysModules)=false/\x=.str z/\Q (.bl (kvs.lookup z).isSome) H
theorem KV.some_eq{kvs:List (Str × V)}{vs:List (Str × Value)}(h:KV kvs vs)(z:Str):(valueAt vs z).isSome=(kvs.lookup z).isSome:=by
 induction h with
 | nil=>rfl
 | @cons p q kvs vs r _ ih =>
  obtain⟨x,v⟩:=p
  obtain⟨y,u⟩:=q
  obtain⟨e,rv⟩:=r
  have e':x=y:=e
  subst e'
  rw [lookup_cons]
  by_cases hzx:z=x
  ·subst hzx
   simp [valueAt]
  ·have:(z == x)=false:=beq_eq_false_iff_ne.mpr hzx
   rw [this]
   unfold valueAt at ih ⊢
   rw [List.find?_cons_of_neg (by simpa using fun q=>hzx q.symm)]
   exact ih
theorem e3y:OpR X (compareOp .In) (rInK X.K X.w):=by
 intro pins s σ H x y v u Q I rx ry h
 obtain⟨a,kvs,z,rfl,⟨hnd,es,ep,hk,he⟩,hsm,rfl,q⟩:=h
 cases ry
 obtain⟨t,rfl⟩:=rx
 have ho:=I.kIn a _ hk
 obtain⟨vs,hp,hkv,hkeys⟩:=he.pairs (prog:=X.prog)
 obtain⟨e1,hlook⟩:=KV.look hkv
 have hd:s.heap.DictOf (strKind X.prog X.w) a vs:=by
  refine⟨_,es,ep,ho,⟨rfl,rfl,rfl⟩,rfl,?_,hp,by rw [← e1];exact hnd⟩
  intro e hm
  obtain⟨x',t',e2,e3⟩:=hkeys e (by simpa using hm)
  exact⟨x',by rw [e2];exact strKind_is X.prog X.w x' t',e3⟩
 refine wpAny_in_of (strKind_is X.prog X.w z t) hsm hd.mapOf ?_
 have e:(valueAt vs z).isSome=(kvs.lookup z).isSome:=KV.some_eq hkv z
 rw [e]
 exact⟨.bl _,H,I.tok _,rfl,q⟩
end
end L2
end
section
namespace L2
open PySem PySem.Spec PyProof.Rows
theorem c5t{xs:List PyData}{lo hi:Option Int}(h:HT.sIx xs.length 0 lo=0/\HT.sIx xs.length xs.length hi=xs.length):cutD xs lo hi=xs:=by
 unfold cutD
 rw [h.1,h.2,List.drop_zero,Nat.sub_zero,take_length]
noncomputable def fSlA:FSl:=fun x lo hi=>match x with
 | .tuple xs=>some (.tuple (cutD xs lo hi))
 | _=>none
theorem e3z{xs:List PyData}{lo hi:Option Int}:fSlA (.tuple xs) lo hi=some (.tuple (cutD xs lo hi)):=rfl
section
variable{K:W.Frag}{H:Hp}{S:Addr->Prop}
theorem c1d:AdSl K (fun x lo hi H Q=>rSlT K x lo hi H Q ∨ rSlW K x lo hi H Q) fSlA:=by
 intro S H x d z lo hi Q f hx e k
 unfold fSlA at e
 split at e
 ·rename_i xs
  cases e
  obtain⟨a,vs,rfl,h1,h2⟩:=hx.tup
  by_cases hw:HT.sIx xs.length 0 lo=0/\HT.sIx xs.length xs.length hi=xs.length
  ·refine .inr ⟨a,vs,rfl,h1,by rw [h2.length];exact hw,k _ _ (Same.refl _) ?_⟩
   rw [c5t hw]
   exact a1k h1 h2
  ·exact .inl ⟨a,vs,rfl,h1,by rw [h2.length];exact hw,fun p hp=>k _ _ (a0m hp _) (b2c hp (h2.cut lo hi))⟩
 ·cases e
def dRev(de ds:TDE):TDE:=fun ρ Q=>de ρ fun x ρ1=>ds ρ1 fun y ρ2=>need (a0k ρ2 x) fun dx=>need (a0k ρ2 y) fun dy=>∃ xs,dx=.tuple xs/\dy=.int (-1)/\Q (.d (.tuple xs.reverse)) ρ2
def dNilD:TDE:=fun ρ Q=>Q (.d (.dict [])) ρ
def e4a(de:TDE):TDE:=fun ρ Q=>de ρ fun x ρ1=>need (a0k ρ1 x) fun dx=>∃ z:Str,dx=.str z/\z.length <= 1000/\Q (.d (.str (Txt.upper z))) ρ1
def c1e(i:Nat):TDE:=fun ρ Q=>need (ownB ρ i) fun o=>Q (.d .none) (ρ.set i (some (okL o.1 o.2.reverse)))
theorem c5u{i:Nat}:AdE K (tBM0 K "list" c0b (tVar i)) (c1e i):=by
 intro c O ρ σ H Qd Q R q k
 obtain⟨hz3,e,q⟩:=ne (q)
 obtain⟨o,xs⟩:=hz3
 obtain⟨e0,p,vs,hO,hσ,hH,hA⟩:=b1f R e
 refine⟨.ref p,hσ,.inl ⟨rfl,vs,SqL.of hH⟩,p,vs,rfl,rfl,hH,?_⟩
 obtain⟨R3,P3⟩:=R.writeB hO hH e0 hA.reverse
 exact k _ _ _ _ _ q R3 P3 b5k
def dExtT(i:Nat)(de:TDE):TDE:=fun ρ Q=>need (ownB ρ i) fun _=>de ρ fun x ρ1=>need (a0k ρ1 x) fun dx=>∃ ys,dx=.tuple ys/\need (ownB ρ1 i) fun o=>o.2.length + ys.length <= 1000000/\Q (.d .none) (ρ1.set i (some (okL o.1 (o.2 ++ ys))))
def TabI(K:W.Frag)(w:World)(mg:Str->Option Value)(x:Str)(keys:List Str):Prop:=∃ (a:Addr) (kvs:List (Str × V)),mg x=some (.ref a)/\KDict K w a kvs/\(a == sysModules)=false/\kvs.map (·.1)=keys
theorem b5d{β:Type}:∀ (kvs:List (Str × β)) (z:Str),(kvs.lookup z).isSome=(kvs.map (·.1)).contains z
 | [],z=>rfl
 | (a,b) :: r,z=>by
  rw [lookup_cons,map_cons,List.contains_cons,← b5d r z]
  cases h:z == a<;>simp
def dInK(keys:List Str)(de:TDE):TDE:=fun ρ Q=>de ρ fun x ρ1=>need (a0k ρ1 x) fun dx=>∃ z:Str,dx=.str z/\Q (.d (.bool (keys.contains z))) ρ1
end
section
variable{X:Cx}{e st:Expr}{de ds:TDE}{pos p2:Pos}
theorem c5v(i:Nat){x:Str}{p apos:Pos}(hN:X.N[i]? = some x)(hv:Vis X.env.scope x:=by first | exact Or.inl rfl | exact Or.inr (Or.inl rfl) | exact Or.inr (Or.inr rfl)) (hd:(x == ("__debug__" : Str))=false:=by decide)
  (hcd:(x == ("__classdict__" : Str))=false:=by decide) (hbase:attributeBase (.Name x p) "reverse" X.env (eval (.Name x p) X.env)=eval (.Name x p) X.env:=by rfl) (hline:(apos.endLine == pos.line)=true:=by rfl):DE X (.Call (.Attribute (.Name x p) "reverse" apos) [] [] pos) (c1e i):=
 ⟨_,e0q PySem.F.plainAttrs_list PySem.F.slot_list_reverse PySem.F.type_list_reverse c4y (b0u hN hv hd hcd) hbase hline,c5u⟩
end
section
variable{i:Nat}{ρ:Rho}{Q:DV->Rho->Prop}{d1 d2:TDE}{keys:List Str}
theorem e4b:dRev d1 d2 ρ Q=d1 ρ fun x ρ1=>d2 ρ1 fun y ρ2=>need (a0k ρ2 x) fun dx=>need (a0k ρ2 y) fun dy=>∃ xs,dx=.tuple xs/\dy=.int (-1)/\Q (.d (.tuple xs.reverse)) ρ2:=rfl
theorem d7w:dNilD ρ Q=Q (.d (.dict [])) ρ:=rfl
theorem d2j:e4a d1 ρ Q=d1 ρ fun x ρ1=>need (a0k ρ1 x) fun dx=>∃ z:Str,dx=.str z/\z.length <= 1000/\Q (.d (.str (Txt.upper z))) ρ1:=rfl
theorem d7x:dExtT i d1 ρ Q=need (a4r (ρ[i]?.join)) fun _=>d1 ρ fun x ρ1=>need (a0k ρ1 x) fun dx=>∃ ys,dx=.tuple ys/\need (a4r (ρ1[i]?.join)) fun o=>o.2.length + ys.length <= 1000000/\Q (.d .none) (ρ1.set i (some (okL o.1 (o.2 ++ ys)))):=rfl
theorem e4c:dInK keys d1 ρ Q=d1 ρ fun x ρ1=>need (a0k ρ1 x) fun dx=>∃ z:Str,dx=.str z/\Q (.d (.bool (keys.contains z))) ρ1:=rfl
end
end L2
end
section
namespace L2
open PySem PySem.Spec PyProof.Rows
end L2
end
section
namespace L2
open PySem PySem.Spec PyProof.Rows
def e4d(ν:List (Str × Int)):TDE:=fun ρ Q=>ν.length <= 15/\Q (.d (.dict ((d4n ν).map kvD))) ρ
theorem d2k{ν:List (Str × Int)}{ρ:Rho}{Q:DV->Rho->Prop}:e4d ν ρ Q=(ν.length <= 15/\Q (.d (.dict ((d4n ν).map kvD))) ρ):=rfl
end L2
end
section
namespace L2
open PySem PySem.Spec PyProof.Rows
section
variable{X:Cx}
end
end L2
end
section
namespace Sx
open PySem PySem.Spec PyProof.Rows
theorem d4q{α:Type}{le:α->α->Prop}(anti:∀ a b,le a b->le b a->a=b):∀ {a b:List α},a.Perm b->a.Pairwise le->b.Pairwise le->a=b
 | [],b,h,_,_=>h.nil_eq
 | x :: r,[],h,_,_=>absurd h.length_eq (by simp)
 | x :: r,y :: t,h,ha,hb=>by
  have e:x=y:=by
   have hx:x ∈ y :: t:=h.mem_iff.mp mem_cons_self
   have hy:y ∈ x :: r:=h.mem_iff.mpr mem_cons_self
   rcases mem_cons.mp hx with q | q
   ·exact q
   ·rcases mem_cons.mp hy with q2 | q2
    ·exact q2.symm
    ·exact anti x y (List.rel_of_pairwise_cons ha q2) (List.rel_of_pairwise_cons hb q)
  subst e
  rw [d4q anti (List.Perm.cons_inv h) (pairwise_cons.mp ha).2 (pairwise_cons.mp hb).2]
def leS(a b:Str):Prop:=a.cps.toList <= b.cps.toList
theorem d7y(a b:Str):ltCps b.cps.toList a.cps.toList=false ↔ leS a b:=by
 rw [ltCps_eq];simp [leS,List.not_lt]
theorem b3p{a b c:Str}(h1:leS a b)(h2:leS b c):leS a c:=List.le_trans h1 h2
theorem b8q(a b:Str):leS a b ∨ leS b a:=List.le_total ..
theorem c1f(a b:Str)(h1:leS a b)(h2:leS b a):a=b:=by
 have e:=List.le_antisymm h1 h2
 cases a;cases b
 congr 1
 exact Array.ext' e
theorem c3u:∀ (p:Str) (l:List Str),risingS p l=true->(p :: l).Pairwise leS
 | p,[],_=>List.pairwise_singleton _ _
 | p,x :: r,h=>by
  have h':(!ltCps x.cps.toList p.cps.toList && risingS x r)=true:=h
  rw [and_eq_true] at h'
  have t:=c3u x r h'.2
  have h1:leS p x:=(d7y p x).mp (by simpa using h'.1)
  refine pairwise_cons.mpr ⟨fun y hy=>?_,t⟩
  rcases mem_cons.mp hy with rfl | hy
  ·exact h1
  ·exact b3p h1 (List.rel_of_pairwise_cons t hy)
theorem c5w:∀ (l:List Str),sortedS l=true->l.Pairwise leS
 | [],_=>List.Pairwise.nil
 | x :: r,h=>c3u x r h
instance (a b:Str):Decidable (leS a b):=by unfold leS;infer_instance
noncomputable def srtS(ss:List Str):List Str:=ss.mergeSort (fun a b=>decide (leS a b))
theorem b3q(ss:List Str):(srtS ss).Perm ss:=List.mergeSort_perm ss _
theorem c3v(ss:List Str):(srtS ss).Pairwise leS:=by
 have h:=List.pairwise_mergeSort (le:=fun a b:Str=>decide (leS a b)) (fun a b c h1 h2=>by
  simp only [decide_eq_true_eq] at *;exact b3p h1 h2) (fun a b=>by
  rcases b8q a b with h | h<;>simp [h]) ss
 exact h.imp fun h=>by simpa using h
theorem d7z{a ss:List Str}(h:a.Perm ss)(hp:a.Pairwise leS):a=srtS ss:=
 d4q c1f (h.trans (b3q ss).symm) hp (c3v ss)
section
variable{prog:Program}{w:World}{A:Around}{E:Value->Shared->Prop}{s:Shared}{S:Addr}
end
end Sx
end
section
namespace L2
open PySem PySem.Spec PyProof.Rows
section
variable{X:Cx}{pins:List (Addr × Obj)}{σ:List (Option V)}{H:Hp}{s:Shared}
end
section
variable{K:W.Frag}{H:Hp}{S:Addr->Prop}
end
section
variable{X:Cx}{a:Expr}{daa:TDA}{p p2 pos pos2:Pos}
end
end L2
end
section
namespace Sx
open PySem PySem.W PyProof.Rows
section
variable{n:Nat}(hn:0 < n)
include hn
end
section
variable{prog:Program}{w:World}{A:Around}{E:Value->Shared->Prop}{s:Shared}
end
end Sx
end
section
namespace L2
open PySem PySem.Spec PyProof.Rows
abbrev encT(t:List Int):PyData:=.tuple (t.map .int)
section
variable{prog:Program}{w:World}{A:Around}{E:Value->Shared->Prop}{s:Shared}
end
section
variable{K:W.Frag}{H:Hp}{S:Addr->Prop}
end
section
variable{X:Cx}
end
def e4e(da:TDA):TDE:=fun ρ Q=>da ρ fun xs ρ1=>need (a1d ρ1 xs) fun ds=>∃ tss:List (List Int),ds=[.list (tss.map encT)]/\(∀ t ∈ tss,t ≠ [])/\tss.length < 64/\∀ tss':List (List Int),tss'.Perm tss->Q (.d (.list (tss'.map encT))) ρ1
section
variable{K:W.Frag}
end
theorem d2l{da:TDA}{ρ:Rho}{Q:DV->Rho->Prop}:e4e da ρ Q=(da ρ fun xs ρ1=>need (a1d ρ1 xs) fun ds=>∃ tss:List (List Int),ds=[.list (tss.map encT)]/\(∀ t ∈ tss,t ≠ [])/\tss.length < 64/\∀ tss':List (List Int),tss'.Perm tss->Q (.d (.list (tss'.map encT))) ρ1):=rfl
section
variable{X:Cx}{e:Expr}{es:List Expr}{daa:TDA}{pos:Pos}
end
end L2
namespace Sn
instance stands:Nonempty Unit:=⟨()⟩
end Sn
end
section
namespace L2
open PySem PySem.Spec PyProof.Rows
end L2
end
section
namespace L2
open PySem PySem.Spec PyProof.Rows PySem.Builtin PySem.Builtin.Str
section
variable{X:Cx}
theorem c3w:∀ {ys:List Str} {us:List Value},Vals (ys.map V.str) us->StrsAre us ys
 | [],_,h=>by cases h;exact .nil
 | y :: ys,_,h=>by
  cases h with
  | cons r t =>
   obtain⟨k,rfl⟩:=r
   exact .cons y k (c3w t)
theorem c3x:∀ {ys:List Str} {us:List Value},StrsAre us ys->Vals (ys.map V.str) us
 | _,_,.nil=>.nil
 | _,_,.cons y k h=>.cons ⟨k,rfl⟩ (c3x h)
noncomputable def rJoin(K:W.Frag):V->List V->Hp->VK->Prop:=fun x vs H Q=>∃ (z:Str) (p:Addr) (ys:List Str),x=.str z/\vs=[.ref p]/\SqL K H p (ys.map V.str)/\z.length <= 16/\(ys.map (·.length)).sum + ys.length <= 1048576/\Q (.str (Txt.join z ys)) H
theorem d8a:MtM X "str.join" (rJoin X.K):=by
 intro pins s σ H x vs v us Q I rx rv h
 obtain⟨z,p,ys,rfl,rfl,hp,hz,hw,q⟩:=h
 obtain⟨t,rfl⟩:=rx
 obtain⟨u,rfl,r⟩:=vals1 rv
 cases r
 obtain⟨its,rs,⟨o,n,e,hc,hd,hda⟩,_⟩:=I.list hp
 exact join_listW (ys:=ys) (items:=its.toArray) ⟨o,e,hc,n,hda⟩ (c3w rs) hz hw fun t' k=>⟨.str _,H,I.tok _,⟨_,rfl⟩,q⟩
noncomputable def e4f:V->List V->Hp->VK->Prop:=fun x vs H Q=>∃ (z y:Str),x=.str z/\vs=[.str y]/\(y.length == 0)=false/\z.length <= 1000000/\∀ p,H p=none->Q (.ref p) (upd H p (.lst ((Txt.split z y).map V.str)))
theorem c8z{prog:Program}{w:World}{A:Around}{E:Value->Shared->Prop}{s:Shared}{x y:Str}{t u:Tok}{Q:Value->Shared->Prop}(hy:(y.length == 0)=false)(hz:x.length + 2 <= sizeLine)
  (h:∀ l k,l.map (·.1)=Txt.split x y->l.length <= sizeLine->Q (.ref s.heap.objs.size) { s with heap:=s.heap.push { cls:=.type "list",data:=.seq (strValues l).toArray },toks:=k }):wpAny (model prog w) A (call (.builtin "str.split") [.str x t,.str y u]) Q E s:=by
 have T:=typeIs_str s x t
 cases c:(decide (x.length < y.length) || decide (PySem.Builtin.Str.strKind x < PySem.Builtin.Str.strKind y)) with
 | true=>exact call_meets F.slot_str_split T F.entry_str_split (F.args_str_split_2 _ _) (meets_str_split_cannot_occur x y t u c) (h [(x,t)] s.toks (if_pos c).symm (by rw [sizeLine_eq];show 1 <= _;omega))
 | false =>
  have c0:¬ (decide (x.length < y.length) || decide (PySem.Builtin.Str.strKind x < PySem.Builtin.Str.strKind y))=true:=by rw [c];decide
  cases o:(occurrences x y 0 x.length (x.length + 1)).isEmpty with
  | true=>exact call_meets F.slot_str_split T F.entry_str_split (F.args_str_split_2 _ _) (meets_str_split_not_found x y t u c hy o) (h [(x,t)] s.toks ((if_neg c0).trans (if_pos o)).symm (by rw [sizeLine_eq];show 1 <= _;omega))
  | false =>
   have o0:¬ (occurrences x y 0 x.length (x.length + 1)).isEmpty=true:=by rw [o];decide
   have le:=StrLaws.occ_length_le x y 0 x.length (x.length + 1)
   have n0:(partsBetween x (occurrences x y 0 x.length (x.length + 1)) y.length).length <= sizeLine:=by
    rw [length_partsBetween];omega
   refine call_meets F.slot_str_split T F.entry_str_split (F.args_str_split_2 _ _) (meets_str_split_sep x y t u c hy o (by omega) n0) ?_
   have k:=h (numbered s.toks (partsBetween x (occurrences x y 0 x.length (x.length + 1)) y.length)) (s.toks + (partsBetween x (occurrences x y 0 x.length (x.length + 1)) y.length).length) ((numbered_texts _ _).trans ((if_neg c0).trans (if_neg o0)).symm) (by
    have e:=congrArg List.length (numbered_texts s.toks (partsBetween x (occurrences x y 0 x.length (x.length + 1)) y.length))
    rw [length_map] at e
    rw [e];exact n0)
   rw [← strsFrom_eq] at k
   exact k
theorem d2m:MtM X "str.split" e4f:=by
 intro pins s σ H x vs v us Q I rx rv h
 obtain⟨z,y,rfl,rfl,hy,hz,q⟩:=h
 obtain⟨t,rfl⟩:=rx
 obtain⟨u,rfl,r⟩:=vals1 rv
 obtain⟨k,rfl⟩:=r
 refine c8z hy (by rw [sizeLine_eq];omega) fun l tk e hl=>?_
 refine⟨.ref s.heap.objs.size,_,I.laid (a:=s.heap.objs.size) (o:=.lst ((Txt.split z y).map V.str)) (fun b o q=>get?_push_of_some _ q) (le_refl _) ?_,rfl,q _ (I.hok.fresh (le_refl _))⟩
 refine⟨?_,strValues l,0,?_,get?_push_size _ rfl⟩
 ·rw [length_map,← e,length_map];exact hl
 ·rw [← e]
  exact c3x (strsAre_of_values l)
noncomputable def rIntT:List V->Hp->VK->Prop:=fun xs H Q=>∃ (x:Str) (n:Int),xs=[.str x]/\PySem.intText? x=some n/\x.length <= 640/\Q (.int n) H
theorem b3r:a2w X (.type "int") rIntT:=by
 intro pins s σ H xs us Q I rs h
 obtain⟨x,n,rfl,hn,hl,q⟩:=h
 obtain⟨u,rfl,r⟩:=vals1 rs
 obtain⟨t,rfl⟩:=r
 exact PySem.W.KIN.call_text hn hl ⟨.int n,H,I.tok _,⟨_,rfl⟩,q⟩
end
end L2
end
section
namespace L2
open PySem PySem.Spec PyProof.Rows
section
variable{X:Cx}
end
end L2
end
section
namespace L2
open PySem PySem.Spec PyProof.Rows
noncomputable def Its(x:Str):It:=⟨fun i _=>i < x.cps.size,fun i H y H'=>H'=H/\∃ c,x.cps[i]? = some c/\y=.str ⟨#[c]⟩,fun i _=>x.cps.size <= i⟩
theorem c9a{P:Program}{w:World}{K:W.Frag}{tg:Expr}(it:Addr)(x:Str)(t:Tok):Turn P w K tg (Its x) [it] it (fun i h=>h.IsStrIter it "str_ascii_iterator" x t i) where
 mem:=by simp
 obj:=fun i h st b hb=>by
  have e:b=it:=by simpa using hb
  subst e
  obtain⟨o,e,c,d⟩:=st
  exact⟨o,e,fun v z=>by rw [d] at z;cases z⟩
 keep:=fun i h h' st k=>let ⟨o,ho,r⟩:=st;⟨o,k it (by simp) o ho,r⟩
 item:=by
  intro X hP hw hK hc i pins s σ H E I hf st hg
  subst hP hw hK
  obtain⟨f0,f1,f2,f3,f4,f5⟩:=hf it (by simp)
  refine(Walks.strAscii (prog:=X.prog) (w:=X.w) (I.ok.hd hc) it x t).item i s _ _ hg st fun v h' tk hv st' kk=>?_
  obtain⟨c,u,hcu,rfl⟩:=hv
  have I1:Inv X pins σ H { s with heap:=h',toks:=tk }:=I.turned (fun b o hb e=>kk b o (by simpa using hb) e) f0 f1 f3 f4 f5
  obtain⟨o,e,c1,d⟩:=id st'
  exact⟨_,rfl,b6b (s:={ s with heap:=h',toks:=tk }) e c1 d (by decide) ⟨.str ⟨#[c]⟩,H,I1,⟨u,rfl⟩,⟨rfl,c,hcu,rfl⟩,st',fun b hb=>(hf b hb).1⟩⟩
 done:=by
  intro X hP hw hK hc i pins s σ H E I hf st hg
  subst hP hw hK
  obtain⟨f0,f1,f2,f3,f4,f5⟩:=hf it (by simp)
  have hn:x.cps[i]? = none:=Array.getElem?_eq_none hg
  exact wpAny_pyNext_ascii_end (I.ok.hd hc) st hn fun h' eb=>⟨rfl,I.turned (t':=s.toks) (fun b o hb e=>eb b o hb e) f0 f1 f3 f4 f5⟩
 self:=fun _ _ _ _ _ st h=>wpAny_pyIter_striter_ascii st h
theorem c9b{P:Program}{w:World}{K:W.Frag}{tg:Expr}(it:Addr)(x:Str)(t:Tok):Turn P w K tg (Its x) [it] it (fun i h=>h.IsStrIter it "str_iterator" x t i) where
 mem:=by simp
 obj:=fun i h st b hb=>by
  have e:b=it:=by simpa using hb
  subst e
  obtain⟨o,e,c,d⟩:=st
  exact⟨o,e,fun v z=>by rw [d] at z;cases z⟩
 keep:=fun i h h' st k=>let ⟨o,ho,r⟩:=st;⟨o,k it (by simp) o ho,r⟩
 item:=by
  intro X hP hw hK hc i pins s σ H E I hf st hg
  subst hP hw hK
  obtain⟨f0,f1,f2,f3,f4,f5⟩:=hf it (by simp)
  refine(Walks.strWide (prog:=X.prog) (w:=X.w) (I.ok.hd hc) it x t).item i s _ _ hg st fun v h' tk hv st' kk=>?_
  obtain⟨c,u,hcu,rfl⟩:=hv
  have I1:Inv X pins σ H { s with heap:=h',toks:=tk }:=I.turned (fun b o hb e=>kk b o (by simpa using hb) e) f0 f1 f3 f4 f5
  obtain⟨o,e,c1,d⟩:=id st'
  exact⟨_,rfl,b6b (s:={ s with heap:=h',toks:=tk }) e c1 d (by decide) ⟨.str ⟨#[c]⟩,H,I1,⟨u,rfl⟩,⟨rfl,c,hcu,rfl⟩,st',fun b hb=>(hf b hb).1⟩⟩
 done:=by
  intro X hP hw hK hc i pins s σ H E I hf st hg
  subst hP hw hK
  obtain⟨f0,f1,f2,f3,f4,f5⟩:=hf it (by simp)
  have hn:x.cps[i]? = none:=Array.getElem?_eq_none hg
  exact wpAny_pyNext_wide_end (I.ok.hd hc) st hn fun h' eb=>⟨rfl,I.turned (t':=s.toks) (fun b o hb e=>eb b o hb e) f0 f1 f3 f4 f5⟩
 self:=fun _ _ _ _ _ st h=>wpAny_pyIter_striter_wide st h
section
variable{X:Cx}{tg:Expr}
def iStr(tl:TE):TI:=fun σ H R=>tl σ H fun x H1=>∃ z,x=.str z/\R (Its z) H1
theorem e4g{l:Expr}{tl:TE}(hl:PE X l tl):PI X tg l (iStr tl):=by
 intro pins s σ H R I h
 refine thn (hl pins s σ H _ I h) fun v s1 hq9=>?_
 obtain⟨x,H1,I1,r1,q1⟩:=hq9
 obtain⟨z,rfl,q⟩:=q1
 obtain⟨t,rfl⟩:=r1
 have fp:∀ b ∈ [s1.heap.objs.size],FpOk X pins H1 b:=fun b hb=>by
  have e:b=s1.heap.objs.size:=by simpa using hb
  subst e
  exact I1.fpOk (le_refl _) (I1.hok.fresh (le_refl _))
 cases ha:z.cps.all (· < 128) with
 | true=>exact wpAny_pyIter_ascii ha ⟨s1.heap.objs.size,[s1.heap.objs.size],_,_,H1,rfl,I1.kept (t':=s1.toks) fun b o e=>get?_push_of_some _ e,c9a _ z t,⟨_,get?_push_size _ rfl,rfl,rfl⟩,fp,q⟩
 | false=>exact wpAny_pyIter_wide ha ⟨s1.heap.objs.size,[s1.heap.objs.size],_,_,H1,rfl,I1.kept (t':=s1.toks) fun b o e=>get?_push_of_some _ e,c9b _ z t,⟨_,get?_push_size _ rfl,rfl,rfl⟩,fp,q⟩
end
abbrev signs(x:Str):List PyData:=x.cps.toList.map fun c=>.str ⟨#[c]⟩
noncomputable def asSt:PyData->Option Str
 | .str x=>some x
 | _=>none
theorem e4h{x:Str}:asSt (.str x)=some x:=rfl
def c5x(de:TDE):TDI:=fun ρ Q=>de ρ fun x ρ1=>need (a0k ρ1 x) fun d=>need (asSt d) fun z=>Q (signs z) ρ1
section
variable{K:W.Frag}{H:Hp}{S:Addr->Prop}
theorem c5y{z:Str}:b3k K S H (Its z) (signs z):=fun S' H' P=>by
 refine⟨fun i x e=>?_,by simp [Its]⟩
 rw [getElem?_map,Array.getElem?_toList] at e
 obtain⟨c,hc,rfl⟩:=map_eq_some_iff.mp e
 refine⟨(Array.getElem?_eq_some_iff.mp hc).1,fun v H'' y=>?_⟩
 obtain⟨rfl,c',hc',rfl⟩:=y
 rw [hc] at hc'
 cases hc'
 exact⟨Same.refl _,a1u _⟩
theorem e4i{t:TE}{de:TDE}(h:AdE K t de):AdI K (iStr t) (c5x de):=fun c O ρ σ H Qd Q R q k =>
 h c O ρ σ H _ _ R q fun x ρ1 O1 v H1 h1 R1 P1 a1=>by
  obtain⟨d,e1,hn1⟩:=ne (h1)
  obtain⟨z,e2,h2⟩:=ne (hn1)
  cases d with
  | str z' =>
   cases e2
   exact⟨z,(R1.top a1 e1).str,k _ _ _ _ _ h2 R1 P1 c5y⟩
  | _=>cases e2
end
theorem c9c{X:Cx}{tg e:Expr}{de:TDE}(h:DE X e de):DI X tg e (c5x de):=by obtain⟨_,p,a⟩:=h;exact⟨_,e4g p,e4i a⟩
theorem d8b{de:TDE}{ρ:Rho}{Q:List PyData->Rho->Prop}:c5x de ρ Q=(de ρ fun x ρ1=>need (a0k ρ1 x) fun d=>need (asSt d) fun z=>Q (signs z) ρ1):=rfl
noncomputable def leC(x y:Str):Bool:=decide (x.cps.toList <= y.cps.toList)
def rLeS:R2:=fun x y H Q=>∃ i j,x=.str i/\y=.str j/\Q (.bl (leC i j)) H
theorem c9d{X:Cx}:OpR X (compareOp .LtE) rLeS:=by
 intro pins s σ H x y v u Q I rx ry h
 obtain⟨i,j,rfl,rfl,q⟩:=h
 obtain⟨t,rfl⟩:=rx
 obtain⟨t',rfl⟩:=ry
 refine P.le_str ⟨.bl _,H,I,?_,q⟩
 show Value.bool _=Value.bool (leC i j)
 congr 1
 unfold leC
 rw [Bool.eq_iff_iff]
 simp [List.not_lt]
noncomputable def fLeS:F2
 | .str i,.str j=>some (.bool (leC i j))
 | _,_=>none
theorem e4j{x y:Str}:fLeS (.str x) (.str y)=some (.bool (leC x y)):=rfl
theorem c9e{K:W.Frag}:AdR K rLeS fLeS:=by
 intro S H x y dx dy z Q f hx hy e k
 unfold fLeS at e
 split at e
 ·cases e
  exact⟨_,_,hx.str,hy.str,k _ _ (Same.refl _) (a3i _)⟩
 ·cases e
section
variable{X:Cx}
noncomputable def d4r(K:W.Frag):List V->Hp->VK->Prop:=fun xs H Q=>∃ v S,∃ bs:List Bool,xs=[v]/\AtD K H S (.list (bs.map .bool)) v/\Q (.bl (bs.all id)) H
theorem bools_of_all{K:W.Frag}{H:Hp}{S:Addr->Prop}:∀ {bs:List Bool} {xs:List V},a0b K H S (bs.map .bool) xs->xs=bs.map V.bl
 | [],xs,h=>by rw [h.unnil];rfl
 | n :: r,xs,h=>by
  obtain⟨v,vr,rfl,hd,t⟩:=h.uncons
  rw [a7s hd,bools_of_all t];rfl
theorem b6s:∀ {bs:List Bool} {us:List Value},Vals (bs.map V.bl) us->us=bs.map Value.bool
 | [],us,h=>by rw [Vals.zero h];rfl
 | x :: r,us,h=>by
  cases h with
  | cons h1 h2 =>
   rw [b6s h2,map_cons]
   congr 1
theorem b8r(hc:X.calm=true):a2w X (.builtin "all") (d4r X.K):=by
 intro pins s σ H xs us Q I rs h
 obtain⟨v,S,bs,rfl,hd,q⟩:=h
 obtain⟨u,rfl,r⟩:=vals1 rs
 obtain⟨a,ys,rfl,_,hq,t⟩:=a5b hd
 cases r
 have ey:=bools_of_all t
 subst ey
 obtain⟨its,rv,pl,hz⟩:=I.list (SqL.of hq)
 have ei:=b6s rv
 subst ei
 have la:a < s.heap.objs.size:=lt_size pl.isList.choose_spec.1
 refine call_all_walk (wpAny_pyIter_list pl.isList ⟨s.heap.objs.size,_,_,_,_,_,fun i=>bs.getD i true,rfl,Walks.list (by simpa using I.ok.hd hc) s.heap.objs.size a (ne_of_lt la) (bs.map Value.bool).toArray,⟨⟨_,get?_push_size _ rfl,rfl,rfl⟩,pl.isList.push _⟩,fun i v s' Q' E' hP hQ=>?_,fun h' tk hk=>?_⟩)
 ·have hP:(bs.map Value.bool).toArray[i]? = some v:=hP
  rw [List.getElem?_toArray,getElem?_map] at hP
  obtain⟨b,hb,rfl⟩:=map_eq_some_iff.mp hP
  have e:bs.getD i true=b:=by rw [List.getD_eq_getElem?_getD,hb];rfl
  have hQ:Q' (bs.getD i true) s':=hQ
  rw [e] at hQ
  exact wpAny_truthy_bool hQ
 ·have e:((List.range (bs.map Value.bool).toArray.size).all fun i=>bs.getD i true)=bs.all id:=by
   rw [size_toArray,length_map,Bool.eq_iff_iff,all_eq_true,all_eq_true]
   constructor
   ·intro h b hb
    obtain⟨i,hi,rfl⟩:=List.getElem_of_mem hb
    have:=h i (List.mem_range.mpr hi)
    rw [List.getD_eq_getElem?_getD,getElem?_eq_getElem hi] at this
    exact this
   ·intro h i hi
    have hi':=List.mem_range.mp hi
    rw [List.getD_eq_getElem?_getD,getElem?_eq_getElem hi']
    exact h _ (List.getElem_mem hi')
  rw [e]
  refine⟨.bl _,H,I.kept fun b o e=>hk b o ?_ (get?_push_of_some _ e),rfl,q⟩
  rw [mem_singleton]
  exact ne_of_lt (lt_size e)
end
noncomputable def b0b:List PyData->Option (List Bool)
 | []=>some []
 | .bool b :: r=>(b0b r).map (b :: ·)
 | _ :: _=>none
theorem b8s:∀ bs:List Bool,b0b (bs.map .bool)=some bs
 | []=>rfl
 | x :: r=>by show(b0b (r.map .bool)).map (x :: ·)=_;rw [b8s r];rfl
theorem b6t:∀ {xs:List PyData} {bs:List Bool},b0b xs=some bs->xs=bs.map .bool
 | [],bs,h=>by cases h;rfl
 | .bool x :: r,bs,h=>by
  have h':(b0b r).map (x :: ·)=some bs:=h
  obtain⟨qs,h1,rfl⟩:=map_eq_some_iff.mp h'
  rw [b6t h1];rfl
noncomputable def c5z:FC:=fun ds=>match ds with
 | [.list xs]=>(b0b xs).map fun bs=>.bool (bs.all id)
 | _=>none
theorem c1g(bs:List Bool):c5z [.list (bs.map .bool)]=some (.bool (bs.all id)):=by
 show(b0b (bs.map .bool)).map _=_
 rw [b8s];rfl
theorem c3y{K:W.Frag}:AdC K (d4r K) c5z:=by
 intro S H vs ds z Q f h e k
 unfold c5z at e
 split at e
 ·rename_i xs
  obtain⟨bs,q1,rfl⟩:=map_eq_some_iff.mp e
  obtain⟨v,rfl,h1⟩:=h.one
  have e1:=b6t q1
  subst e1
  exact⟨v,Any,bs,rfl,h1.any,k _ _ (Same.refl _) (a3i _)⟩
 ·cases e
end L2
end
section
namespace L2
open PySem PySem.Spec PyProof.Rows
section
variable{X:Cx}
end
end L2
end
section
namespace L2
open PySem PySem.Spec PyProof.Rows
noncomputable def rSlS:V->Option Int->Option Int->Hp->VK->Prop:=fun x lo hi H Q=>∃ z,x=.str z/\z.length <= sizeLine/\Q (.str (Txt.slice z lo hi)) H
theorem b8t{v:Value}{o:Option Int}(h:IsPart v o):∃ p:Option (Int × Tok),v=partValue p/\p.map (·.1)=o:=by
 cases h with
 | none=>exact⟨none,rfl,rfl⟩
 | int i t=>exact⟨some (i,t),rfl,rfl⟩
theorem e4k{X:Cx}:SlR X rSlS:=by
 intro pins s σ H x v vl vu lo hi sl Q I rx hs pl pu h
 obtain⟨z,rfl,hz,q⟩:=h
 obtain⟨t,rfl⟩:=rx
 obtain⟨l,rfl,rfl⟩:=b8t pl
 obtain⟨u,rfl,rfl⟩:=b8t pu
 obtain⟨o,ho,hc,hd⟩:=hs
 refine⟨"str",_,PySem.F.slot_str_getitem.lookup,typeIs_str _ _ _,wpAny_getItem_str_slice (l:=l) (u:=u) (st:=none) ⟨o,ho,hc,hd⟩ rfl ?_⟩
 exact post_val_or_str ⟨le_trans (Txt.slice_le z _ _) hz,fun t' k=>⟨.str _,H,I.tok k,⟨t',rfl⟩,q⟩⟩
section
variable{X:Cx}
end
end L2
end
section
namespace L2
open PySem PySem.Spec PyProof.Rows
noncomputable def asKey:PyData->Option Key
 | .int i=>some (.inl i)
 | .str x=>some (.inr x)
 | _=>none
structure PinK(K:W.Frag)(c:Rc)(p:Addr)(ν:List (Key × V))(i:Nat)(O:Own)(ρ:Rho)(σ:St)(H:Hp):Prop where
 rel:Rel K (c.reb O p H) O ρ σ H
 at_:H p=some (.dK ν)
 slot:σ[i]? = some (some (.ref p))
 nul:ρ[i]? = some none
 bA:∀ j q,O j=some q->c.A q
 bS:∀ b o,¬ c.M b->c.H0 b=some o->H b=some o
 bK:∀ b,c.H0 b ≠ none->H b ≠ none
 bM:∀ q,c.M q->∃ vs,H q=some (.lst vs)
 am:∀ q,c.A q->c.M q ∨ c.H0 q=none
 frs:∀ q,c.H0 q=none->c.S q
 fr0:c.H0 p=none
 np:¬ c.P p
section
variable{K:W.Frag}{c:Rc}{O O1:Own}{ρ ρ1:Rho}{σ σ1:St}{H H1 H2:Hp}{p:Addr}{ν μ:List (Key × V)}{i:Nat}
end
section
variable{K:W.Frag}
end
section
variable{X:Cx}{iter kE vE tg:Expr}{rest:List Stmt}{di:TDI}{dg:TDG}{dk dv:TDE}{du:TDS}{x y z:Str}{pos p1 p2 p3 p4 p5 p6 p7 p8 p9 p10 p11 p12 p13:Pos}
end
section
variable{X:Cx}
end
end L2
end
section
namespace L2
open PySem PySem.Spec PyProof.Rows
open AutoSeq1 (wpAny_loadPart')
section
variable{X:Cx}
end
section
variable{K:W.Frag}
def dExtL(i:Nat)(de:TDE):TDE:=fun ρ Q=>need (ownB ρ i) fun _=>de ρ fun x ρ1=>need (a0k ρ1 x) fun dx=>∃ ys,dx=.list ys/\need (ownB ρ1 i) fun o=>o.2.length + ys.length <= 1000000/\Q (.d .none) (ρ1.set i (some (okL o.1 (o.2 ++ ys))))
end
section
variable{X:Cx}{e:Expr}{de:TDE}{pos:Pos}
theorem d8c{i:Nat}{ρ:Rho}{Q:DV->Rho->Prop}{d1:TDE}:dExtL i d1 ρ Q=need (a4r (ρ[i]?.join)) fun _=>d1 ρ fun x ρ1=>need (a0k ρ1 x) fun dx=>∃ ys,dx=.list ys/\need (a4r (ρ1[i]?.join)) fun o=>o.2.length + ys.length <= 1000000/\Q (.d .none) (ρ1.set i (some (okL o.1 (o.2 ++ ys)))):=rfl
end
end L2
end
section
namespace L2
open PySem PySem.Spec PyProof.Rows
section
variable{X:Cx}
open Classical in
end
end L2
end
section
namespace L2
open PySem PySem.Spec PyProof.Rows
section
variable{X:Cx}{pins:List (Addr × Obj)}{σ:List (Option V)}{H:Hp}{s:Shared}
end
end L2
end
section
namespace L2
open PySem PySem.Spec PyProof.Rows
section
variable{fs:List Bool}{y:PyData}{i n:Nat}{ys:List DV}{ρ:Rho}{QLs:List L->Rho->Prop}
theorem d8d:pass (false :: fs) (.d y :: ys) ρ QLs=fzL ρ (.d y) fun l ρ1=>pass fs ys ρ1 fun ls ρ2=>QLs (l :: ls) ρ2:=rfl
theorem d8e:pass (false :: fs) (.sl i :: ys) ρ QLs=fzL ρ (.sl i) fun l ρ1=>pass fs ys ρ1 fun ls ρ2=>QLs (l :: ls) ρ2:=rfl
theorem d8f:flOf n [] []=[]:=rfl
theorem d8g:flOf n (false :: fs) (.d y :: ys)=flOf (n + 1) fs ys:=rfl
theorem d8h:flOf n (false :: fs) (.sl i :: ys)=flOf (n + 1) fs ys:=rfl
end
noncomputable def c9f(K:W.Frag):List V->Hp->VK->Prop:=fun xs H Q=>∃ v S,∃ ss:List Str,xs=[v]/\AtD K H S (.list (ss.map .str)) v/\ss.length < 64/\∀ p,H p=none->Q (.ref p) (upd H p (.lst ((Sx.srtS ss).map V.str)))
theorem c6a{X:Cx}:a2w X (.builtin "sorted") (c9f X.K):=by
 intro pins s σ H xs us Q I rs h
 obtain⟨v,S,ss,rfl,hd,hn,q⟩:=h
 obtain⟨u,rfl,r⟩:=vals1 rs
 obtain⟨a,ys,rfl,_,hq,t⟩:=a5b hd
 cases r
 have ey:=strs_of_all t
 subst ey
 obtain⟨its,rv,pl,hz⟩:=I.list (SqL.of hq)
 have hl:its.length=ss.length:=by rw [← rv.length,length_map]
 refine sorted_strs pl.isList (b6o rv) (by omega) fun out ss' h1 h2 h3=>?_
 obtain⟨e,he⟩:=sortedAll_at s.heap its out
 have eq:=Sx.d7z h2 (Sx.c5w _ h3)
 subst eq
 have hle:((Sx.srtS ss).map V.str).length <= sizeLine:=by
  rw [length_map,h2.length_eq,sizeLine_eq];omega
 exact⟨.ref _,_,I.laid (a:=s.heap.objs.size + 1) (o:=.lst ((Sx.srtS ss).map V.str)) (t':=s.toks) (fun b o e=>sortedAll_old e) (le_succ _) ⟨hle,out.toList,e,b6p h1,he⟩,rfl,q _ (I.hok.fresh (le_succ _))⟩
noncomputable def c1h:FC:=fun ds=>match ds with
 | [.list xs]=>(a5y xs).bind fun ss=>if ss.length < 64 then some (.list ((Sx.srtS ss).map .str)) else none
 | _=>none
theorem d2n{K:W.Frag}:AdC K (c9f K) c1h:=by
 intro S H vs ds z Q f h e k
 unfold c1h at e
 split at e
 ·rename_i xs
  cases q1:a5y xs with
  | none=>rw [q1] at e;cases e
  | some ss =>
   rw [q1,Option.bind_some] at e
   split at e
   ·rename_i hl
    cases e
    obtain⟨v,rfl,h1⟩:=h.one
    have e1:=b3o q1
    subst e1
    exact⟨v,Any,ss,rfl,h1.any,hl,fun p hp=>k _ _ (a0m hp _) (a4m (f p hp) a0e b6r)⟩
   ·cases e
 ·cases e
theorem d2o{ss:List Str}(h:ss.length < 64):c1h [.list (ss.map .str)]=some (.list ((Sx.srtS ss).map .str)):=by
 show(a5y (ss.map .str)).bind _=_
 rw [b5n,Option.bind_some,if_pos h]
end L2
end
section
namespace L2
open PySem PySem.Spec PyProof.Rows
section
open PySem.SeqAt PySem.MeetsSeq
variable{A:Around}{s:Shared}
end
section
variable{X:Cx}
open Classical in
end
section
variable{X:Cx}
open Classical in
end
section
variable{X:Cx}
end
section
variable{X:Cx}
end
section
variable{K:W.Frag}
theorem c1i{H:Hp}{S:Addr->Prop}:∀ {ss:List Str} {xs:List V},a0b K H S (ss.map .str) xs->xs=ss.map V.str
 | [],xs,h=>by rw [h.unnil];rfl
 | n :: r,xs,h=>by
  obtain⟨v,vr,rfl,hd,t⟩:=h.uncons
  rw [a9t hd,c1i t];rfl
variable{X:Cx}{e1:Expr}{daa:TDA}{pos:Pos}
variable{d1:TDE}{da:TDA}{ρ:Rho}{Q:DV->Rho->Prop}
end
end L2
end
section
namespace L2
open PySem PySem.Spec PyProof.Rows
def rTin(neg:Bool):R2:=fun x y H Q=>∃ a b:Str,x=.str a/\y=.str b/\Q (.bl (if neg then !Txt.contains b a else Txt.contains b a)) H
noncomputable def fTin(neg:Bool):F2:=fun dx dy=>match dx,dy with
 | .str a,.str b=>some (.bool (if neg then !Txt.contains b a else Txt.contains b a))
 | _,_=>none
section
variable{X:Cx}{K:W.Frag}
theorem e4l:OpR X (compareOp .In) (rTin false):=by
 intro pins s σ H x y v u Q I rx ry h
 obtain⟨a,b,rfl,rfl,q⟩:=h
 obtain⟨t,rfl⟩:=rx
 obtain⟨t',rfl⟩:=ry
 exact SB.contains ⟨.bl _,H,I,rfl,q⟩
theorem e4m{neg:Bool}:AdR K (rTin neg) (fTin neg):=by
 intro S H x y dx dy z Q f hx hy e k
 unfold fTin at e
 split at e
 ·cases e
  exact⟨_,_,hx.str,hy.str,k _ _ (Same.refl _) (a3i _)⟩
 ·cases e
noncomputable def b4o(z:Str):FC:=fun ds=>match ds with
 | [.list xs]=>(a5y xs).bind fun ss=>if z.length <= 16/\(ss.map (·.length)).sum + ss.length <= 1048576 then some (.str (Txt.join z ss)) else none
 | _=>none
theorem a9g{z:Str}{ss:List Str}(h1:z.length <= 16)(h2:(ss.map (·.length)).sum + ss.length <= 1048576):b4o z [.list (ss.map .str)]=some (.str (Txt.join z ss)):=by
 show((a5y (ss.map .str)).bind _)=_
 rw [b5n]
 exact if_pos ⟨h1,h2⟩
def c6b(dd:TDE)(da:TDA):TDE:=fun ρ Q=>dd ρ fun x ρ1=>need (a0k ρ1 x) fun dx=>∃ z:Str,dx=.str z/\da ρ1 fun ys ρ2=>need (a1d ρ2 ys) fun ds=>need (b4o z ds) fun r=>Q (.d r) ρ2
theorem d8i{td:TE}{ta:TA}{dd:TDE}{da:TDA}(hd:AdE K td dd)(ha:AdA K ta da):AdE K (tBM K "str" (rJoin K) td ta) (c6b dd da):=by
 intro c O ρ σ H Qd Q R h k
 refine hd c O ρ σ H _ _ R h fun x ρ1 O1 v H1 h1 R1 P1 a1=>?_
 obtain⟨dx,e1,hn6⟩:=ne (h1)
 obtain⟨z,rfl,h1⟩:=hn6
 have ev:=(R1.top a1 e1).str
 subst ev
 refine⟨rfl,ha c O1 ρ1 σ H1 _ _ R1 h1 fun ys ρ2 O2 vs H2 h2 R2 P2 a2=>?_⟩
 obtain⟨ds,e3,hn9⟩:=ne (h2)
 obtain⟨r,e4,h2⟩:=ne (hn9)
 have t2:=R2.tops a2 e3
 unfold b4o at e4
 split at e4
 ·rename_i xs
  obtain⟨ss,q1,q2⟩:=Option.bind_eq_some_iff.mp e4
  split at q2
  ·rename_i hl
   cases q2
   have e5:=b3o q1
   subst e5
   obtain⟨v1,rfl,h7⟩:=t2.one
   obtain⟨b,vs1,rfl,hb,hall⟩:=h7.list
   have e6:=c1i hall
   subst e6
   exact⟨z,b,ss,rfl,rfl,SqL.of hb,hl.1,hl.2,k _ _ _ _ _ h2 R2 (P1.trans P2) (show AtD K H2 (live c O2) (.str _) (.str _) from a1u _)⟩
  ·cases q2
 ·cases e4
def e4n(dd:TDE)(da:TDA):TDF:=fun ρ Q=>dd ρ fun x ρ1=>need (a0k ρ1 x) fun dx=>∃ z:Str,dx=.str z/\z.length <= 1000000/\da ρ1 fun ys ρ2=>need (a1d ρ2 ys) fun ds=>∃ y:Str,ds=[.str y]/\(y.length == 0)=false/\Q ((Txt.split z y).map .str) ρ2
theorem all_strs{H:Hp}{S:Addr->Prop}:∀ {ss:List Str},a0b K H S (ss.map .str) (ss.map V.str)
 | []=>.nil
 | s :: r=>.cons (a1u _) all_strs
noncomputable def b9o:FC:=fun ds=>match ds with
 | [.int i]=>@ite _ (i.natAbs.log2 < 1920) (Classical.propDecidable _) (some (.str (toString i))) none
 | _=>none
theorem d8j{i:Int}(h:i.natAbs.log2 < 1920):b9o [.int i]=some (.str (toString i)):=@if_pos _ (Classical.propDecidable _) h _ _ _
theorem a9h:AdC K (fun xs H Q=>∃ i,xs=[.int i]/\i.natAbs.log2 < 1920/\Q (.str (toString i)) H) b9o:=by
 intro S H vs ds z Q f h e k
 unfold b9o at e
 split at e
 ·rename_i i
  by_cases hz:i.natAbs.log2 < 1920
  ·rw [@if_pos _ (Classical.propDecidable _) hz] at e
   cases e
   obtain⟨v,rfl,h1⟩:=h.one
   rw [h1.int]
   exact⟨i,rfl,hz,k _ _ (Same.refl _) (a1u _)⟩
  ·rw [@if_neg _ (Classical.propDecidable _) hz] at e
   cases e
 ·cases e
theorem a9i{o e1:Expr}{dd:TDE}{daa:TDA}{p2 pos:Pos}(ho:DE X o dd)(ha:DA X [e1] daa)
  (hbase:attributeBase o "join" X.env (eval o X.env)=eval o X.env:=by rfl)
  (hfew:((backTo pos (starEach [e1] X.env)).all (fun x=>!x.1) && (backToKw pos (keywordEach [] X.env)).all (fun x=>x.1.isSome) && decide ([e1].length + ([]:List Keyword).length + (if ([]:List Keyword).isEmpty then 0 else 1) < 30))=true:=by rfl)
  (hline:(p2.endLine == pos.line)=true:=by rfl) (hs:starEach [e1] X.env=(false,eval e1 X.env) :: starEach [] X.env:=by rfl) (hpl:(backTo pos (starEach [] X.env)).any (·.1)=false:=by rfl):DE X (.Call (.Attribute o "join" p2) [e1] [] pos) (c6b dd daa):=by
 obtain⟨_,pd,ad⟩:=ho
 obtain⟨_,pa,aa⟩:=ha
 exact⟨_,a6k PySem.F.plainAttrs_str PySem.F.slot_str_join PySem.F.type_str_join d8a pd pa hbase hfew hline hs hpl,d8i ad aa⟩
theorem d8k{x:Str}{i:Str}{pos:Pos}(hg:Gl X x)(hm:∃ t,X.mg x=some (.str i t)) (hd:(x == ("__debug__" : Str))=false:=by decide):DE X (.Name x pos) (dC (.str i)):=by
 obtain⟨t,hm⟩:=hm
 exact⟨_,a3d hg hm (v:=.str i) ⟨t,rfl⟩ hd,ad_c fun _ _=>a1u i⟩
variable{ρ:Rho}{d1:TDE}{da:TDA}
theorem d8l{Q:DV->Rho->Prop}:c6b d1 da ρ Q=d1 ρ fun x ρ1=>need (a0k ρ1 x) fun dx=>∃ z:Str,dx=.str z/\da ρ1 fun ys ρ2=>need (a1d ρ2 ys) fun ds=>need (b4o z ds) fun r=>Q (.d r) ρ2:=rfl
theorem d2p{Q:List PyData->Rho->Prop}:e4n d1 da ρ Q=d1 ρ fun x ρ1=>need (a0k ρ1 x) fun dx=>∃ z:Str,dx=.str z/\z.length <= 1000000/\da ρ1 fun ys ρ2=>need (a1d ρ2 ys) fun ds=>∃ y:Str,ds=[.str y]/\(y.length == 0)=false/\Q ((Txt.split z y).map .str) ρ2:=rfl
end
end L2
end
section
namespace L2
open PySem PySem.Spec PyProof.Rows
theorem c6c{pos:Pos}{a b:Int}{c v:Value}(l:List Value)(h:TriplesOk l)(hv:codeAmong pos (l ++ [rawInt a,rawInt b,c])=some v):codeAmong pos l=some v ∨ v=c:=by
 fun_induction TriplesOk l with
 | case1 =>
  simp only [nil_append,codeAmong,rawInt] at hv
  split at hv
  ·exact .inr (Option.some.inj hv).symm
  ·cases hv
 | case2 a t b u x rest ih =>
  simp only [List.cons_append,codeAmong] at hv ⊢
  split at hv
  ·rename_i hc;rw [if_pos hc];exact .inl hv
  ·rename_i hc;rw [if_neg hc];exact ih h hv
 | case3 l h1 h2=>exact h.elim
abbrev b1h(q:Str)(params:Arguments)(body:Expr)(scope:Scope)(cl:List (Str × Addr))(pm:Value)(c:Addr)(ct:Value):Obj:=PySem.W.kla_obj "<lambda>" q params body scope cl pm c ct
abbrev d4s(q:Str)(params:Arguments)(body:Expr)(scope:Scope)(cl:List (Str × Addr))(pm:Value)(c:Addr)(ct:Value):FuncData:=PySem.W.kla_fn "<lambda>" q params body scope cl pm (.ref c) ct
def Lam(H:Hp)(f:Addr)(q:Str)(params:Arguments)(body:Expr)(scope:Scope)(cl:List (Str × Addr))(pm:Value)(c:Addr)(ct:Value):Prop:=
 H f=some (.frz (b1h q params body scope cl pm c ct) (.own f))/\∃ oc vs t,H c=some (.frz oc (.own c))/\oc.data=.fields vs/\vs[1]? = some (.str q t)
section
variable{H H':Hp}{f c:Addr}{q:Str}{params:Arguments}{body:Expr}{scope:Scope}{cl:List (Str × Addr)}{pm ct:Value}
theorem Lam.keep{S:Addr->Prop}(L:Lam H f q params body scope cl pm c ct)(k:Keep S H H'):Lam H' f q params body scope cl pm c ct:=
 by obtain⟨h,oc,vs,t,e,r⟩:=L;exact⟨k.2.1 _ _ _ h,oc,vs,t,k.2.1 _ _ _ e,r⟩
end
section
variable{X:Cx}{x:Str}{i k:Nat}{f:Addr}{o:Obj}{fd:FuncData}{ps:List Str}{sp:Sp}{CX:CXT}{E:XK}{e:Expr}{es:List Expr}{t:TA}{p pos:Pos}
def e4o(i:Nat)(f:Addr)(o:Obj)(sp:Sp)(E:XK)(t:TA):TE:=fun σ H Q=>σ[i]? = some (some (.ref f))/\t σ H fun vs H1=>H1 f=some (.frz o (.own f))/\sp vs H1 Q E
theorem d2q(F:FnOk X.prog X.w X.K X.mg X.base CX k f fd ps sp)(hr:Room k X.A)(hN:X.N[i]? = some x)(hb:Binds X.K fd ps [])(hx:a4z CX X E)(hfo:∃ g,o.data=.func g)(ha:PA X (e :: es) t)
  (hv:Vis X.env.scope x:=by first | exact Or.inl rfl | exact Or.inr (Or.inl rfl) | exact Or.inr (Or.inr rfl)) (hd:(x == ("__debug__" : Str))=false:=by decide) (hcd:(x == ("__classdict__" : Str))=false:=by decide)
  (he:starEach (e :: es) X.env=(false,eval e X.env) :: starEach es X.env:=by rfl) (hpl:(backTo pos (starEach es X.env)).any (·.1)=false:=by rfl) :
  PE X (.Call (.Name x p) (e :: es) [] pos) (e4o i f o sp E t):=by
 intro pins s σ H Q I h
 obtain⟨e1,h⟩:=h
 obtain⟨m,hn,hl⟩:=I.loc
 obtain⟨u,r,l⟩:=hl i x (.ref f) hN e1 hv
 obtain rfl:u=Value.ref f:=r
 obtain⟨g,hg⟩:=hfo
 have fin:wpAny (model X.prog X.w) X.A (callWith pos (.ref f) [] (backTo pos (starEach (e :: es) X.env)) (backToKw pos (keywordEach [] X.env))) (EP X pins σ Q) X.xe s:=by
  have h2:wpAny (model X.prog X.w) X.A (spliced (backTo pos (starEach (e :: es) X.env))) (fun vs s₁=>s₁.heap.get? f=some o/\wpAny (model X.prog X.w) X.A (call (.ref f) ([] ++ vs)) (EP X pins σ Q) X.xe s₁) X.xe s:=
   thn (ha pos pins s σ H _ I h) fun us s1 ⟨vs,H1,I1,r,q⟩=>⟨(I1.hok f _ q.1).1,b6d F hr hb .nil hx I1 r (by rw [append_nil];exact q.2)⟩
  rw [he] at h2 ⊢
  refine PySem.W.callWith_of (P:=fun h=>h.get? f=some o) (by show((false || (backTo pos (starEach es X.env)).any (·.1)) || false)=false;rw [hpl];rfl) (fun h q=>⟨.frame,.inl rfl,?_⟩) (Calls.evalArgs_plain h2)
  obtain⟨oc,od,odt,osl⟩:=o
  obtain rfl:odt=.func g:=hg
  exact(PySem.W.Looks.ld (part:=none) q).andThen .now
 refine wpAny_Call_Name_kw ?_
 rcases l with⟨hk,hm⟩ | ⟨hk,c,hc,hcell⟩
 ·exact wpAny_Name (wpAny_loadName_local I.ok.kind hk hn hm fin) hd
 ·rcases hk with hk | hk
  ·exact wpAny_Name (wpAny_loadName_cell I.ok.kind hk hc hcell fin) hd
  ·exact wpAny_Name (wpAny_loadName_free I.ok.kind hk hc hcell fin hcd) hd
end
def BMain(mg:Str->Option Value)(base:Heap):Prop:=∃ bm ob,mg "__builtins__" = some (.ref bm)/\bm ≠ builtinsNs/\base.get? bm=some ob/\ob.cls=.type "module" /\ ob.dict=some builtinsNs/\ob.data=.plain
def tLamC(P:Addr)(q:Str)(params:Arguments)(body:Expr)(scope:Scope)(cl:List (Str × Addr))(pm:Value):TE:=fun _ H Q=>H P=some (a7d q)/\∀ f c ct H',Same H H'->H f=none->Lam H' f q params body scope cl pm c ct->Q (.ref f) H'
section
variable{X:Cx}{c P:Addr}{q:Str}{params:Arguments}{body:Expr}{scope:Scope}{cl:List (Str × Addr)}{pos:Pos}
theorem d8m(bm:BMain X.mg X.base)(hcd:X.env.code=.ref c)(hC:PySem.W.codeHdIn X.K c P=true) (hq:X.env.qual ++ "<lambda>" = q) (hcl:closureFor scope X.env=pure cl) (hdef:defaultsOf params X.env=([],[]):=by rfl) :
  PE X (.Lambda params body scope pos) (tLamC P q params body scope cl ((X.mg "__name__").getD .none)):=by
 intro pins s σ H Q I h
 obtain⟨hP,h⟩:=h
 subst hq
 refine PySem.W.kla_eval hdef ?_
 obtain⟨qs,e1,e2,e3⟩:∃ qs,TabOk H s.heap P #[.str (X.env.qual ++ "<lambda>") 0] qs:=(I.hok P _ hP).1
 have C:=PySem.W.codeHd_of_K I.kIn hC
 have hg:s.heap.Ns mainGlobals X.mg:=I.mod.glob.keeps I.bk
 obtain⟨b,ob,b1,b2,b3,b4,b5,b6⟩:=bm
 have bh:=I.bk _ _ b3
 have hgP:mainGlobals ≠ P:=fun z=>by
  obtain⟨o,es,ep,e,hd,_⟩:=hg
  rw [z,e1] at e;cases e;cases hd
 have hbP:b ≠ P:=fun z=>by rw [z,e1] at bh;cases bh;cases b4
 have hbG:b ≠ mainGlobals:=fun z=>by
  obtain⟨o,es,ep,e,hd,_⟩:=hg
  rw [z,e] at bh;cases bh;rw [hd] at b6;cases b6
 have hB:s.heap.BuiltinsAt X.mg P:=⟨b,ob,b1,b2,hbG,hbP,bh,b4,b5,b6⟩
 cases hA:codeAmong pos qs.toList with
 | some v =>
  obtain⟨c',oc,vs,q,t,t',rfl,hps,hc',hd,hv⟩:=e3 pos v hA
  have eq1:q=X.env.qual ++ "<lambda>":=by
   have:=congrArg Array.toList hps
   simp only [List.cons.injEq,and_true] at this
   injection this with z1 _
   exact z1.symm
  subst eq1
  refine PySem.W.kla_makeFunctionHit (mg:=X.mg) hcl I.ok.glob hg hcd C e1 e2 hA hB fun ctv h' tk hk hsz=>?_
  have hn:H h'.objs.size=none:=I.hok.fresh hsz
  have I2:=I.laid (a:=h'.objs.size) (o:=.frz (b1h (X.env.qual ++ "<lambda>") params body scope cl ((X.mg "__name__").getD .none) c' ctv) (.own h'.objs.size)) (t':=tk) (h':=h'.push (b1h (X.env.qual ++ "<lambda>") params body scope cl ((X.mg "__name__").getD .none) c' ctv))
   (fun b o e=>get?_push_of_some _ (hk _ _ e)) hsz ⟨get?_push_size _ rfl,_,get?_push_size _ rfl⟩
  refine⟨.ref h'.objs.size,_,I2,rfl,h _ c' ctv _ (a0m hn _) hn ⟨a0e,oc,vs,t',?_,hd,hv⟩⟩
  rw [a0f (a1x hc' hn)];exact hc'
 | none =>
  refine PySem.W.kla_makeFunction (mg:=X.mg) hcl I.ok.glob hg hcd C e1 e2 hA hgP hB fun c' ctv h' tk hx hge hlt hrec htb=>?_
  obtain⟨c2,oc,vs,t,ec2,hoc,hd,hv⟩:=hrec
  cases ec2
  obtain⟨fo,hfo⟩:∃ fo,fo=b1h (X.env.qual ++ "<lambda>") params body scope cl ((X.mg "__name__").getD .none) c' ctv:=⟨_,rfl⟩
  show EP X pins σ Q (.ref h'.objs.size) { s with heap:=h'.push (b1h (X.env.qual ++ "<lambda>") params body scope cl ((X.mg "__name__").getD .none) c' ctv),toks:=tk }
  rw [← hfo]
  have hn1:H c'=none:=I.hok.fresh hge
  have hn2:H h'.objs.size=none:=I.hok.fresh (le_trans hge (le_of_lt hlt))
  have nfc:h'.objs.size ≠ c':=ne_of_gt hlt
  obtain⟨H',hH'⟩:∃ H',H'=upd (upd H c' (.frz oc (.own c'))) h'.objs.size (.frz fo (.own h'.objs.size)):=⟨_,rfl⟩
  have kp:∀ b o,b ≠ P->s.heap.get? b=some o->(h'.push fo).get? b=some o:=fun b o n e=>get?_push_of_some _ (hx b o n e)
  have nP:∀ b,H b=none->b ≠ P:=fun b n z=>by rw [z,hP] at n;cases n
  have sm:Same H H':=fun b o e=>by
   rw [hH',a0f (a1x e hn2),a0f (a1x e hn1)];exact e
  have pushP:(h'.push fo).get? P=some (PySem.W.tabObj (qs ++ #[rawInt pos.line,rawInt pos.col,.ref c'])):=get?_push_of_some _ htb
  have pushF:(h'.push fo).get? h'.objs.size=some fo:=get?_push_size _ (by rw [hfo];rfl)
  have H'c:H' c'=some (.frz oc (.own c')):=by rw [hH',a0f (Ne.symm nfc),a0e]
  have H'f:H' h'.objs.size=some (.frz fo (.own h'.objs.size)):=by rw [hH',a0e]
  have un:Un X.fs [] H H' s.heap (h'.push fo):={
   keep:=fun b o e n _ _=>kp b o (nP b n) e
   slot:=fun b o e n _ _=>⟨o.slots,kp b o (nP b n) e⟩
   free:=fun b o e n _=>by
    have lt:=lt_size e
    rw [hH',a0f (ne_of_lt (Nat.lt_trans (lt_of_lt_of_le lt hge) hlt)),a0f (ne_of_lt (lt_of_lt_of_le lt hge))];exact n
   there:=fun b o e _=>by
    by_cases z:b=P
    ·exact⟨_,by rw [z];exact pushP⟩
    ·exact⟨o,kp b o z e⟩
   tups:=fun b xs e=>sm _ _ e
   frzs:=fun b o u e=>sm _ _ e
   tbls:=fun b ps e=>⟨#[],by rw [sm _ _ e];simp⟩ }
  have hok:HOk X.prog X.w H' (h'.push fo):=fun b o e=>by
   by_cases z1:b=h'.objs.size
   ·subst z1
    rw [H'f] at e
    cases e
    exact⟨pushF,_,pushF⟩
   ·by_cases z2:b=c'
    ·subst z2
     rw [H'c] at e
     cases e
     exact⟨get?_push_of_some _ hoc,_,get?_push_of_some _ hoc⟩
    ·rw [hH',a0f z1,a0f z2] at e
     by_cases z3:b=P
     ·subst z3
      rw [hP] at e
      cases e
      refine⟨⟨_,pushP,?_,fun pos' v hv'=>?_⟩,_,pushP⟩
      ·rw [toList_append];exact TriplesOk_snoc _ _ _ _ e2
      ·rw [toList_append] at hv'
       rcases c6c _ e2 hv' with z | rfl
       ·obtain⟨c0,oc0,vs0,q0,t0,t0',y1,y2,y3,y4⟩:=e3 pos' v z
        exact⟨c0,oc0,vs0,q0,t0,t0',y1,y2,sm _ _ y3,y4⟩
       ·exact⟨c',oc,vs,_,_,t,rfl,rfl,H'c,hd,hv⟩
     ·refine(I.hok b o e).stay (fun b' u hb' e'=>kp b' u ?_ e') (fun b' e'=>sm _ _ e') (fun b' xs e'=>sm _ _ e') fun b' ob u e'=>sm _ _ e'
      rcases hb' with rfl | hb'
      ·exact z3
      ·rintro rfl
       rw [hP] at hb';cases hb'
  exact⟨.ref h'.objs.size,_,I.un un hok,rfl,h _ c' ctv _ sm hn2 ⟨by rw [H'f,hfo],oc,vs,t,H'c,hd,hv⟩⟩
end
end L2
end
section
namespace L2
open PySem PySem.Spec PyProof.Rows
theorem c9g{K:W.Frag}{c P:Addr}{q:Str}(h:(c,P,q) ∈ b1d K):∃ od vs sl,K.lookup c=some ⟨.type "code",od,.fields vs,sl⟩/\vs[11]? = some (.ref P):=by
 obtain⟨p,_,e⟩:=List.mem_filterMap.mp h
 unfold lamOf at e
 split at e
 ·split at e
  ·split at e
   ·split at e
    ·rename_i hk
     split at e
     ·rename_i hv
      cases e
      exact⟨_,_,_,hk,hv⟩
     ·cases e
    ·cases e
   ·cases e
  ·cases e
 ·cases e
theorem c9h{P:Program}{w:World}{K:W.Frag}{mg mb:Str->Option Value}{CX:CXT}{k:Nat}{fa a:Addr}{fd:FuncData}{x:Str}{sp:Sp}{s₁:Shared}{vs:List Value}{ns:List Int}{tl:List (Addr × Addr × Str)}
  (KX:K.In s₁.heap) (hns:s₁.heap.Ns mainGlobals mg) (hb:s₁.heap.Ns builtinsNs mb) (hbb:∀ x:Str,x ≠ "__name__" -> mb x=bootBuiltins x) (hlim:s₁.heap.NoLimit) (hg:s₁.gens = #[]) (hB:BMain mg s₁.heap)
  (ha:s₁.heap.get? a=some { cls:=.type "list",data:=.seq vs.toArray }) (hi:IntsAre vs ns) (hl:ns.length <= sizeLine) (hr:Room k callerA)
  (htl:b1d K=tl) (hT:∀ p ∈ tl,s₁.heap.get? p.2.1=some (PySem.W.tabObj #[])) (hU:tl.Pairwise fun p p'=>p.2.1 ≠ p'.2.1) (hN:tl.all (fun p=>(K.lookup p.2.1).isNone)=true)
  (F:∀ base:Heap,K.In base->base.Ns mainGlobals mg->BMain mg base->FnOk P w K mg base CX k fa fd [x] sp) (hbind:∀ (s:Shared) (u:Value),BindsTo s fd ⟨[u],[]⟩ [(x,u)])
  (hsp:∀ H:Hp,((∀ xs,H a ≠ some (.lst xs))/\TB K H)->SqL K H a (ns.map V.int)->sp [.ref a] H (fun v _=>v=.bl true) fun _ _ _=>False)
  (hCX:∀ H e s',CX [] H s₁ (fun _ _ _=>False) e s'->False) :
  codeAny (model P w) callerA (.call (.ref fa) ⟨[.ref a],[]⟩) (fun r s'=>r=.ok (.ret (.bool true))/\OldK s₁.heap s'.heap/\s'.os=s₁.os/\AllBare s'.gens) s₁:=by
 have rv:=b8l hi
 have lenV:=hi.length
 have Tn:∀ {q q':Addr × Addr × Str},q ∈ tl->q' ∈ tl->q.2.1=q'.2.1->q=q':=by
  clear hT hN htl
  induction tl with
  | nil=>intro q q' h;cases h
  | cons y r ih =>
   rw [pairwise_cons] at hU
   intro q q' h h' e
   rcases mem_cons.mp h with h1 | h1<;>rcases mem_cons.mp h' with h2 | h2
   ·rw [h1,h2]
   ·exact absurd (h1 ▸ e) (hU.1 _ h2)
   ·exact absurd (h2 ▸ e.symm) (hU.1 _ h1)
   ·exact ih hU.2 h1 h2 e
 obtain⟨Ht,hHt⟩:∃ Ht:Hp,Ht=fun b=>(tl.find? (fun p=>decide (p.2.1=b))).map fun p=>a7d p.2.2:=⟨_,rfl⟩
 have Ht1:∀ p ∈ tl,Ht p.2.1=some (a7d p.2.2):=fun p hp=>by
  rw [hHt]
  show(tl.find? _).map _=_
  cases e:tl.find? (fun q=>decide (q.2.1=p.2.1)) with
  | none=>rw [List.find?_eq_none] at e;exact absurd (decide_eq_true rfl) (e p hp)
  | some q =>
   have h1:=of_decide_eq_true (List.find?_some (p:=fun q:Addr × Addr × Str=>decide (q.2.1=p.2.1)) e)
   rw [Tn (List.mem_of_find?_eq_some e) hp h1];rfl
 have Ht2:∀ b u,Ht b=some u->∃ p ∈ tl,p.2.1=b/\u=a7d p.2.2:=fun b u e=>by
  rw [hHt] at e
  obtain⟨p,e1,e2⟩:=map_eq_some_iff.mp e
  exact⟨p,List.mem_of_find?_eq_some e1,of_decide_eq_true (List.find?_some (p:=fun q:Addr × Addr × Str=>decide (q.2.1=b)) e1),e2.symm⟩
 have aT:Ht a=none:=by
  cases q:Ht a with
  | none=>rfl
  | some u =>
   obtain⟨p,hp,e,_⟩:=Ht2 a u q
   have:=hT p hp
   rw [e,ha] at this
   cases this
 have core:∀ H:Hp,((∀ xs,H a ≠ some (.lst xs))/\TB K H)->SqL K H a (ns.map V.int)->HOk P w H s₁.heap->(∀ b u,H b=some u->(b=a/\∃ o xs,u=.frz o (.lst xs)) ∨ Ht b=some u)->(H a ≠ none->K.lookup a=none) ->
   codeAny (model P w) callerA (.call (.ref fa) ⟨[.ref a],[]⟩) (fun r s'=>r=.ok (.ret (.bool true))/\OldK s₁.heap s'.heap/\s'.os=s₁.os/\AllBare s'.gens) s₁:=by
  intro H hO hS hok hA hK
  have base_of:∀ {b:Addr} {o:Obj},s₁.heap.get? b=some o->H b=none->(hidT s₁.heap H).get? b=some o:=fun e n=>d0k e n
  have noC:∀ {b:Addr} {o:Obj},s₁.heap.get? b=some o->(o.cls ≠ .none)->(o.cls ≠ .type "list")->H b=none:=fun{b o} e c1 c2=>by
   cases q:H b with
   | none=>rfl
   | some u =>
    rcases hA b u q with⟨e',_⟩ | e'
    ·subst e'
     rw [ha] at e;cases e
     exact absurd rfl c2
    ·obtain⟨p,hp,e2,_⟩:=Ht2 b u e'
     have:=hT p hp
     rw [e2,e] at this
     cases this
     exact absurd rfl c1
  have noA:∀ {b:Addr} {o:Obj} {es:Array DictEntry} {ep:Nat},s₁.heap.get? b=some o->o.data=.dict es ep->H b=none:=fun{b o es ep} e d=>by
   cases q:H b with
   | none=>rfl
   | some u =>
    rcases hA b u q with⟨e',_⟩ | e'
    ·subst e'
     rw [ha] at e;cases e
     have d':Data.seq vs.toArray _=Data.dict es ep:=d
     cases d'
    ·obtain⟨p,hp,e2,_⟩:=Ht2 b u e'
     have:=hT p hp
     rw [e2,e] at this
     cases this
     cases d
  have nsK:∀ {b:Addr} {m:Str->Option Value},s₁.heap.Ns b m->(hidT s₁.heap H).Ns b m:=fun{b m} ⟨o,es,ep,e,d,r⟩=>⟨o,es,ep,base_of e (noA e d),d,r⟩
  have hKb:K.In (hidT s₁.heap H):=fun b o e=>base_of (KX b o e) (by
   cases q:H b with
   | none=>rfl
   | some u =>
    rcases hA b u q with⟨e',_⟩ | e'
    ·subst e'
     rw [hK (by rw [q];simp)] at e;cases e
    ·obtain⟨p,hp,e2,_⟩:=Ht2 b u e'
     have:=all_eq_true.mp hN p hp
     rw [e2,e] at this
     cases this)
  have hM:Mod K mg (hidT s₁.heap H):=⟨hKb,nsK hns,⟨mb,nsK hb,hbb⟩,let ⟨mc,h1,h2⟩:=hlim;⟨mc,nsK h1,h2⟩⟩
  have hB':BMain mg (hidT s₁.heap H):=by obtain⟨bm,ob,h1,h2,h3,h4,h5⟩:=hB;exact⟨bm,ob,h1,h2,base_of h3 (noC h3 (by rw [h4];exact fun z=>nomatch z) (by rw [h4];decide)),h4,h5⟩
  have e0:Env0 P w K mg (hidT s₁.heap H) callerA [] s₁ H:=⟨rfl,hM,fun b o e=>d5e e,Nat.le_of_eq (c7b _ _),trivial,fun b hb=>absurd (show b ∈ ([]:List Addr) from hb) (by simp),hok,.of_eq hg⟩
  refine codeAny_mono ((F _ hKb (nsK hns) hB').run callerA [] s₁ H ⟨[.ref a],[]⟩ [.ref a] [.ref a] _ _ hr e0 (hbind s₁ (.ref a)) (.cons rfl .nil) (hsp H hO hS)) fun r s' h=>?_
  cases r with
  | error e=>exact(hCX H e s' h).elim
  | ok fl =>
   cases fl with
   | next=>exact False.elim h
   | brk=>exact False.elim h
   | cont=>exact False.elim h
   | ret u =>
    obtain⟨v,H',os,bare,un,hok',r',q⟩:=h
    have q':v=.bl true:=q
    subst q'
    obtain rfl:u=Value.bool true:=r'
    refine⟨rfl,⟨fun b o e=>?_,fun b o e=>un.there b o e (by simp)⟩,os,bare⟩
    cases q:H b with
    | none=>exact .inl (un.keep b o e q (by intro z;exact absurd (show b ∈ ([]:List Addr) from z) (by simp)) (by simp))
    | some u =>
     rcases hA b u q with⟨_,ob,xs,rfl⟩ | e'
     ·have z2:=un.frzs b ob _ q
      obtain⟨e1,_⟩:=hok b _ q
      obtain⟨e2,_⟩:=hok' b _ z2
      have e1:s₁.heap.get? b=some ob:=e1
      rw [e] at e1;cases e1
      exact .inl e2
     ·obtain⟨p,hp,e2,rfl⟩:=Ht2 b u e'
      have z2:=un.frzs b _ _ q
      obtain⟨⟨qs,y1,_⟩,_⟩:=hok' b _ z2
      have e3:=hT p hp
      rw [e2,e] at e3
      cases e3
      obtain⟨od,cs,sl,k1,k2⟩:=c9g (show(p.1,p.2.1,p.2.2) ∈ b1d K by rw [htl];exact hp)
      exact .inr (.inl ⟨⟨p.1,_,cs,KX _ _ k1,rfl,rfl,by rw [← e2];exact k2⟩,rfl,#[],qs,rfl,by rw [y1];simp⟩)
 have tbO:∀ H:Hp,(∀ b u,Ht b=some u->H b=some u)->TB K H:=fun H h p hp=>by
  rw [htl] at hp
  exact h _ _ (Ht1 p hp)
 have tabok:∀ (H:Hp) b u,Ht b=some u->a2v P w H s₁.heap b u:=fun H b u e=>by
  obtain⟨p,hp,e2,rfl⟩:=Ht2 b u e
  have:=hT p hp
  rw [e2] at this
  exact⟨⟨#[],this,trivial,fun pos v hv=>by cases hv⟩,_,this⟩
 cases hk:K.lookup a with
 | some o =>
  have e:=KX a o hk
  rw [ha] at e
  cases e
  exact core Ht ⟨(fun xs=>by rw [aT];exact(fun z=>nomatch z)),tbO _ fun b u z=>z⟩ (.inr ⟨_,vs.toArray,_,hk,rfl,rfl,rfl,by rw [size_toArray,lenV];exact hl,by simpa using rv⟩) (fun b u z=>tabok _ b u z) (fun b u z=>.inr z) fun z=>absurd aT z
 | none =>
  refine core (fun b=>if b=a then some (.frz { cls:=.type "list",data:=.seq vs.toArray } (.lst (ns.map V.int))) else Ht b) ⟨fun xs z=>?_,tbO _ fun b u z=>?_⟩ (.inl (.inr ⟨{ cls:=.type "list",data:=.seq vs.toArray },if_pos rfl⟩)) (fun b u z=>?_) (fun b u z=>?_) fun _=>hk
  ·have z':=(if_pos rfl).symm.trans z
   cases z'
  ·by_cases hb:b=a
   ·rw [hb,aT] at z;cases z
   ·exact(if_neg hb).trans z
  ·by_cases hb:b=a
   ·have z':=(if_pos hb).symm.trans z
    cases z'
    subst hb
    exact⟨ha,by rw [length_map];exact hl,vs,_,rv,ha⟩
   ·exact tabok _ b u ((if_neg hb).symm.trans z)
  ·by_cases hb:b=a
   ·have z':=(if_pos hb).symm.trans z
    cases z'
    exact .inl ⟨hb,_,_,rfl⟩
   ·exact .inr ((if_neg hb).symm.trans z)
theorem d2r{l:PySem.W.OpenLaw}{n k:Nat}{q:Program}{loose:List Str}{XP:(Str->Option Value)->Heap->Prop}{YP:World->Heap->Prop}{d:DefRec}{K:Params->W.Frag}{CX:World->CXT}{sp:World->Sp}{x:Str}{tl:List (Addr × Addr × Str)}
  (hn:l.most=some n) (hn2:n <= sizeLine) (hdf:d.params.defaults=[]) (hr:Room k callerA)
  (hY:∀ (w:World) (h:Heap),YP w h->(K w.params).In h/\∀ p ∈ tl,h.get? p.2.1=some (PySem.W.tabObj #[]))
  (htl:∀ w:World,b1d (K w.params)=tl) (hU:tl.Pairwise fun p p'=>p.2.1 ≠ p'.2.1) (hN:∀ w:World,tl.all (fun p=>((K w.params).lookup p.2.1).isNone)=true)
  (F:∀ (w:World) (mg:Str->Option Value) (fa:Addr) (h:Heap),(K w.params).In h->h.Ns mainGlobals mg->mg d.name=some (.ref fa) ->
   ∃ fd:FuncData,(∀ (s:Shared) (u:Value),BindsTo s fd ⟨[u],[]⟩ [(x,u)]) /\
    ∀ base:Heap,(K w.params).In base->base.Ns mainGlobals mg->BMain mg base->FnOk l.prog w (K w.params) mg base (CX w) k fa fd [x] (sp w))
  (hsp:∀ (w:World) (H:Hp) (a:Addr) (ns:List Int),ns.length <= n->((∀ xs,H a ≠ some (.lst xs))/\TB (K w.params) H)->SqL (K w.params) H a (ns.map V.int)->sp w [.ref a] H (fun v _=>v=.bl true) fun _ _ _=>False)
  (hCX:∀ (w:World) (H:Hp) (s:Shared) (e:Value) (s':Shared),CX w [] H s (fun _ _ _=>False) e s'->False) :
  PySem.W.WalkO q loose XP YP l.row.toRowW d [] (fun f vs=>PySem.call f vs):=by
 refine Att.attach_call hn hdf fun w s₀ s₁ mg mb fa o pm cd doc a vs ns G Y ho hd hcd hmg hobj hints hlen hg=>?_
 obtain⟨KX,hT⟩:=hY w _ Y
 obtain⟨fd,hb,hF⟩:=F w mg fa _ KX G.T.g hmg
 obtain⟨bm,ob,b1,b2,b3,b4,b5,b6⟩:=G.T.bmain
 exact c9h KX G.T.g G.T.b G.T.builtins G.T.nolimit hg ⟨bm,ob,b1,b2,b3,b4,b5,b6⟩ hobj hints (le_trans hlen hn2) hr (htl w) hT hU (hN w) hF hb (fun H hO hS=>hsp w H a ns hlen hO hS) fun H e s'=>hCX w H s₁ e s'
end L2
end
section
namespace L2
open PySem PySem.Spec PyProof.Rows
def Cov(l:List Env)(H:Hp)(h0 B h:Heap):Prop:=∀ b o,h.get? b=some o->(H b ≠ none ∨ ∃ o',h0.get? b=some o')->b ∉ frs l->B.get? b=some o
section
variable{X:Cx}{pins:List (Addr × Obj)}{σ:St}{H H':Hp}{s s':Shared}{h1 B:Heap}
end
end L2
end
section
namespace L2
open PySem PySem.Spec PyProof.Rows
section
variable{X:Cx}{x:Str}{C:Addr}{E:XK}{np cpos pos:Pos}
end
section
variable{P:Program}{w:World}{K:W.Frag}{mg:Str->Option Value}{base:Heap}
end
end L2
end
section
namespace L2
open PySem PySem.Spec PyProof.Rows
section
variable{X:Cx}{pins:List (Addr × Obj)}{σ:St}{H H':Hp}{s s':Shared}{h1 B:Heap}
end
section
variable{X:Cx}{k:Nat}{f:Addr}{fd:FuncData}{ps:List Str}{sp:Sp}{E:XK}{x:Str}{p pos:Pos}{e:Expr}{es:List Expr}{t:TA}
end
section
variable{X:Cx}{e:Expr}{te:XK->TE}{wx n:Str}{Wk:Addr}{bw:List Value}{j:Nat}{b₀:Stmt}{suite:List Stmt}{th:TS}{p2 np hp tp:Pos}
end
end L2
end
section
namespace L2
open PySem PySem.Spec
noncomputable def Tame{α:Type}:Sem α->Prop
 | .pure _ | .raise _ | .unsupported _ | .finish _ | .yield .. | .fork .. | .await .. | .register .. => True
 | .call .. | .resume .. => False
 | .rule _ k | .at _ k | .point _ k=>Tame (k ())
 | .load _ _ k=>∀ o,Tame (k o)
 | .update _ _ f k=>(∀ o,(f o).dict=o.dict)/\Tame (k ())
 | .alloc _ k=>∀ a,Tame (k a)
 | .loadIfAlive _ k=>∀ o,Tame (k o)
 | .fresh k=>∀ t,Tame (k t)
 | .ask k=>∀ x,Tame (k x)
 | .choose _ _ k=>∀ x,Tame (k x)
 | .os _ _ k=>∀ x,Tame (k x)
 | .handled _ k=>∀ x,Tame (k x)
 | .newGen _ k=>∀ x,Tame (k x)
 | .genState _ k=>∀ x,Tame (k x)
 | .stack k=>∀ x,Tame (k x)
 | .thread k=>∀ x,Tame (k x)
def DK(h h':Heap):Prop:=h.objs.size <= h'.objs.size/\∀ a o',h'.get? a=some o'->(∃ o,h.get? a=some o/\o'.dict=o.dict) ∨ h.objs.size <= a
end L2
end
section
namespace L2
open PySem PySem.Spec PyProof.Rows
def nsq(d:Addr)(fs:List (Str × V))(h:Heap):Prop:=∃ mA,h.Ns1 d mA/\∀ f,RelO (fs.lookup f) (mA f)
noncomputable def drop(H:Hp)(a:Addr):Hp:=fun b=>if b=a then none else H b
noncomputable def CX2(P:Program)(w:World):CXT:=fun outer H s E e s'=>∃ (a C:Addr) (t:Value) (B:Heap) (H':Hp) (oe:Obj),e=.ref a/\s'.os=s.os/\AllBare s'.gens/\Un (frs outer) [] H H' s.heap s'.heap/\HOk P w H' s'.heap/\H' a=none /\
 Heap.FlyingW B outer a (.ref C) t s'.heap/\Cov outer H' s.heap B s'.heap/\s'.heap.get? a=some oe/\E (.ref C) oe.dict H'
section
variable{X:Cx}{pins:List (Addr × Obj)}{σ:St}{H H':Hp}{s s':Shared}{h1 B:Heap}
end
end L2
end
section
namespace L2
open PySem PySem.Spec PySem.Calls PyProof.Rows PySem.W
section
variable{prog:Program}{w:World}{A:Around}{E:Value->Shared->Prop}{K:Frag}{h:Heap}{g:Array GenState}{d:Drawn}{t:Nat}{os:OsState}{C f:Addr}{rest:List Value}{Q:Value->Shared->Prop}
end
end L2
end
section
namespace L2
open PySem PySem.Spec PySem.Calls PyProof.Rows PySem.W PySem.Builtin PySem.Builtin.ObjectAttr PySem.Builtin.Getset_descriptor
section
variable{prog:Program}{w:World}{A:Around}{E:Value->Shared->Prop}{K:Frag}{a C:Addr}{s:Shared}
end
end L2
end
section
namespace L2
open PySem PySem.Spec PySem.Calls PyProof.Rows PySem.W PySem.Builtin PySem.Builtin.ObjectAttr
section
variable{prog:Program}{w:World}{A:Around}{E:Value->Shared->Prop}{K:Frag}{s:Shared}{x C:Addr}{ox:Obj}{od:Option Obj}{name:Str}{v:Value}
end
section
variable{X:Cx}{pins:List (Addr × Obj)}{σ:St}{H:Hp}{s:Shared}{a C t d:Addr}{f:Str}{y:V}{u:Value}{A:Around}{E:Value->Shared->Prop}{fs:List (Str × V)}
end
end L2
end
section
namespace L2
open PySem PySem.Spec PyProof.Rows
section
variable{X:Cx}{o value:Expr}{f:Str}{pos pos':Pos}{ta tv:TE}
end
section
variable{X:Cx}{k:Nat}{x:Str}{C f:Addr}{fd:FuncData}{ps:List Str}{sp:Sp}{E:XK}{np cpos pos:Pos}{e:Expr}{es:List Expr}{t:TA}
end
end L2
end
section
namespace L2
open PySem PySem.Spec PyProof.Rows
section
variable{X:Cx}{pins:List (Addr × Obj)}{σ:St}{H H':Hp}{s s':Shared}{h1 B:Heap}
end
section
variable{X:Cx}{x:Str}{C:Addr}{E:XK}{np cpos pos:Pos}
end
section
variable{P:Program}{w:World}{K:W.Frag}{mg:Str->Option Value}{base:Heap}
end
section
variable{X:Cx}{k:Nat}{f:Addr}{fd:FuncData}{ps:List Str}{sp:Sp}{E:XK}{x:Str}{p pos:Pos}{e:Expr}{es:List Expr}{t:TA}
end
section
variable{X:Cx}{e:Expr}{te:XK->TE}{wx n:Str}{Wk:Addr}{bw:List Value}{j:Nat}{b₀:Stmt}{suite:List Stmt}{th:TS}{p2 np hp tp:Pos}
end
end L2
end
section
namespace L2
open PySem PySem.Spec PyProof.Rows
section
variable{P:Program}{w:World}{K:W.Frag}{mg:Str->Option Value}{base:Heap}
theorem b1i{x qual:Str}{st:Stmt}{f c T:Addr}{fd:FuncData}(F:Fun K x qual st f fd)(hL:LAMS.any (· == qual)=true)(hc:fd.code=.ref c)(hC:PySem.W.codeHdIn K c T=true):(c,T,qual ++ ".<locals>.<lambda>") ∈ b1d K:=by
 obtain⟨oc,od,kV,doc,pm,an,cdv,ct,osl,rfl,lk,hcd⟩:=F.ex
 refine List.mem_filterMap.mpr ⟨_,PySem.W.mem_of_lookupK lk,?_⟩
 obtain rfl:cdv=.ref c:=hc
 unfold lamOf
 show(if LAMS.any (· == qual)=true then _ else _)=_
 rw [if_pos hL]
 unfold PySem.W.codeHdIn at hC
 split at hC
 ·rename_i vs hk
  simp only [and_eq_true] at hC
  obtain⟨⟨⟨⟨⟨e1,_⟩,_⟩,_⟩,_⟩,_⟩:=hC
  split at e1
  ·rename_i P' h11
   obtain rfl:P'=T:=beq_iff_eq.mp e1
   dsimp only
   rw [hk]
   simp only [h11]
  ·cases e1
 ·cases hC
end
end L2
end
section
namespace L2
open PySem PySem.Spec PyProof.Rows
noncomputable def hid(H:Hp)(cs:List Addr):Hp:=fun a=>if a ∈ cs then none else H a
noncomputable def a7h(h:Heap)(H:Hp)(cs:List Addr):Hp:=fun a=>if a ∈ cs then(h.get? a).map fun o=>.frz o (.own a) else H a
noncomputable def b2h(H1 H':Hp)(cs:List Addr):Hp:=fun a=>if a ∈ cs then H1 a else H' a
def a5g(H:Hp)(cs:List Addr):Prop:=∀ c ∈ cs,∃ o u,H c=some (.frz o (.own c))/\o.data=.cell u
section
variable{H H1 H2 H':Hp}{h h':Heap}{cs fs:List Addr}{a b:Addr}{o:Obj}
theorem b1j(m:a ∈ cs):hid H cs a=none:=if_pos m
theorem a0y(m:a ∉ cs):hid H cs a=H a:=if_neg m
theorem b0c(m:a ∈ cs)(e:h.get? a=some o):a7h h H cs a=some (.frz o (.own a)):=by unfold a7h;rw [if_pos m,e];rfl
theorem a5t(m:a ∉ cs):a7h h H cs a=H a:=if_neg m
theorem a7v(m:a ∈ cs):b2h H1 H' cs a=H1 a:=if_pos m
theorem a5u(m:a ∉ cs):b2h H1 H' cs a=H' a:=if_neg m
theorem a5g.out(hc:a5g H cs){u:HO}(e:H b=some u)(n:∀ ob v,u=.frz ob (.own b)->ob.data ≠ .cell v):b ∉ cs:=fun m=>by
 obtain⟨o,v,e1,d⟩:=hc b m
 rw [e1] at e
 exact n _ _ (Option.some.inj e).symm d
theorem d2s(s:Same H1 H2):Same (hid H1 cs) (hid H2 cs):=fun b o e=>by
 by_cases m:b ∈ cs
 ·rw [b1j m] at e;cases e
 ·rw [a0y m] at e ⊢;exact s _ _ e
theorem a4s(s:Same H1 H2)(n:∀ c ∈ cs,H1 c=none):Same H1 (hid H2 cs):=fun b o e=>by
 rw [a0y fun m=>by rw [n b m] at e;cases e];exact s _ _ e
theorem c6d(s:Same (hid H1 cs) H2):Same H1 (b2h H1 H2 cs):=fun b o e=>by
 by_cases m:b ∈ cs
 ·rw [a7v m];exact e
 ·rw [a5u m];exact s b o (by rw [a0y m];exact e)
end
section
variable{P:Program}{w:World}{H H1 H2 H':Hp}{h h':Heap}{cs fs:List Addr}{a b:Addr}{o:Obj}
theorem d8n{a:Addr}{o:HO}(hc:a5g H cs)(x:a2v P w H h a o):a2v P w (hid H cs) h a o:=by
 induction o with
 | dT kvs =>
  obtain⟨z,y,xs,r,ob,es,ep,e,c⟩:=x
  exact⟨z,y,xs,Paired.mapP r fun p q z=>⟨z.1,by rw [a0y (hc.out z.2.1 fun _ _ n=>by cases n)];exact z.2.1,z.2.2⟩,ob,es,ep,e,c⟩
 | ins C dx fs =>
  obtain⟨d,r⟩:=x
  exact⟨by rw [a0y (hc.out d fun _ _ n=>by cases n)];exact d,r⟩
 | frz ob u ih =>
  obtain⟨e,q⟩:=x
  refine⟨?_,ih q⟩
  cases u with
  | tbl ps =>
   obtain⟨qs,e1,e2,e3⟩:=e
   exact⟨qs,e1,e2,fun pos v hv=>by
    obtain⟨c,oc,vs,q,t,t',h1,h2,h3,h4,h5⟩:=e3 pos v hv
    exact⟨c,oc,vs,q,t,t',h1,h2,by rw [a0y (hc.out h3 fun _ _ n=>by injection n with n1 _;rw [← n1,h4];intro z;cases z)];exact h3,h4,h5⟩⟩
  | _=>exact e
 | _=>exact x
theorem b7t(x:HOk P w H h)(hc:a5g H cs):HOk P w (hid H cs) h:=fun a o e=>by
 by_cases m:a ∈ cs
 ·rw [b1j m] at e;cases e
 ·rw [a0y m] at e;exact d8n hc (x a o e)
def a8g(h:Heap)(H:Hp)(cs:List Addr):Prop:=∀ c ∈ cs,H c=none/\∃ o u,h.get? c=some o/\o.data=.cell u
theorem a8g.out(l:a8g h H cs){u:HO}(e:H b=some u):b ∉ cs:=fun m=>by rw [(l b m).1] at e;cases e
theorem a8g.same(l:a8g h H cs):Same H (a7h h H cs):=fun b o e=>by rw [a5t (l.out e)];exact e
theorem a8g.cells(l:a8g h H cs):a5g (a7h h H cs) cs:=fun c m=>let ⟨_,o,u,e,d⟩:=l c m;⟨o,u,b0c m e,d⟩
theorem c9i(x:HOk P w H h)(l:a8g h H cs):HOk P w (a7h h H cs) h:=fun a o e=>by
 by_cases m:a ∈ cs
 ·obtain⟨_,ob,u,e1,d⟩:=l a m
  rw [b0c m e1] at e
  cases e
  exact⟨e1,_,e1⟩
 ·rw [a5t m] at e
  exact(x a o e).stay (fun _ _ _ q=>q) (fun b q=>l.same _ _ q) (fun b xs q=>l.same _ _ q) fun b ob u q=>l.same _ _ q
theorem c3z(l:a8g h H cs)(nf:∀ c ∈ cs,c ∉ fs)(u:Un fs [] (a7h h H cs) H' h h')(x:HOk P w H' h'):Un fs [] H (hid H' cs) h h' where
 keep b o e n f ex:=by
  by_cases m:b ∈ cs
  ·exact(x b _ (u.frzs _ _ _ (b0c m e))).1
  ·exact u.keep b o e (by rw [a5t m];exact n) f ex
 slot b o e n f ex:=u.slot b o e (by rw [a5t fun m=>nf b m f];exact n) f ex
 free b o e n ex:=by
  by_cases m:b ∈ cs
  ·exact b1j m
  ·rw [a0y m];exact u.free b o e (by rw [a5t m];exact n) ex
 there b o e ex:=u.there b o e ex
 tups b xs e:=by rw [a0y (l.out e)];exact u.tups _ _ (l.same _ _ e)
 frzs b o v e:=by rw [a0y (l.out e)];exact u.frzs _ _ _ (l.same _ _ e)
 tbls b ps e:=by rw [a0y (l.out e)];exact u.tbls _ _ (l.same _ _ e)
theorem c1j(l:a8g h H cs)(u:Un fs [] (a7h h H cs) H' h h'):a5g H' cs:=fun c m=>let ⟨_,o,v,e,d⟩:=l c m;⟨o,v,u.frzs _ _ _ (b0c m e),d⟩
theorem d2t(hc:a5g H1 cs)(u:Un fs [] (hid H1 cs) H' h h'):Un fs [] H1 (b2h H1 H' cs) h h' where
 keep b o e n f ex:=u.keep b o e (by unfold hid;split<;>first | rfl | exact n) f ex
 slot b o e n f ex:=u.slot b o e (by unfold hid;split<;>first | rfl | exact n) f ex
 free b o e n ex:=by
  by_cases m:b ∈ cs
  ·rw [a7v m];exact n
  ·rw [a5u m];exact u.free b o e (by rw [a0y m];exact n) ex
 there b o e ex:=u.there b o e ex
 tups b xs e:=by
  by_cases m:b ∈ cs
  ·rw [a7v m];exact e
  ·rw [a5u m];exact u.tups _ _ (by rw [a0y m];exact e)
 frzs b o v e:=by
  by_cases m:b ∈ cs
  ·rw [a7v m];exact e
  ·rw [a5u m];exact u.frzs _ _ _ (by rw [a0y m];exact e)
 tbls b ps e:=by
  by_cases m:b ∈ cs
  ·exact⟨#[],by rw [a7v m,e];simp⟩
  ·rw [a5u m];exact u.tbls _ _ (by rw [a0y m];exact e)
theorem c9j(hc:a5g H1 cs)(x1:HOk P w H1 h)(nf:∀ c ∈ cs,c ∉ fs)(u:Un fs [] (hid H1 cs) H' h h')(x:HOk P w H' h'):HOk P w (b2h H1 H' cs) h':=by
 have no:∀ c ∈ cs,H' c=none:=fun c m=>by
  obtain⟨o,v,e,d⟩:=hc c m
  exact u.free c o (x1 c _ e).1 (b1j m) (by simp)
 have sm:Same H' (b2h H1 H' cs):=fun b o e=>by rw [a5u fun m=>by rw [no b m] at e;cases e];exact e
 intro a o e
 by_cases m:a ∈ cs
 ·rw [a7v m] at e
  obtain⟨ob,v,e1,d⟩:=hc a m
  rw [e1] at e
  cases e
  have q:=u.keep a ob (x1 a _ e1).1 (b1j m) (nf a m) (by simp)
  exact⟨q,_,q⟩
 ·rw [a5u m] at e
  exact(x a o e).stay (fun _ _ _ q=>q) (fun b q=>sm _ _ q) (fun b xs q=>sm _ _ q) fun b ob u q=>sm _ _ q
end
section
variable{X:Cx}{k:Nat}{f:Addr}{fd:FuncData}{ps:List Str}{sp:Sp}{ds:List Value}{dvs:List V}{E:XK}
theorem Inv.lent{pins:List (Addr × Obj)}{σ:St}{H:Hp}{s:Shared}{cs:List Addr}(I:Inv X pins σ H s)(hcs:∀ c ∈ cs,∃ x,X.fn x=true/\X.env.cells.lookup x=some c) :
  a8g s.heap H cs/\(∀ c ∈ cs,c ∉ frs X.stack)/\∀ c ∈ cs,X.base.get? c=none:=by
 refine⟨fun c m=>?_,fun c m z=>?_,fun c m=>?_⟩
 ·obtain⟨x,hf,e⟩:=hcs c m
  obtain⟨v,o,ho,hd⟩:=I.cell x c e
  exact⟨I.freeC x c e,o,v,ho,hd⟩
 ·obtain⟨x,hf,e⟩:=hcs c m
  rcases mem_cons.mp (I.stkSub c z) with q | q
  ·exact I.cne x c e q
  ·obtain⟨_,o,ho,_⟩:=I.ok.funs.mem q
   exact absurd (lt_size ho) (Nat.not_lt.mpr (I.ok.cab x c hf e))
 ·obtain⟨x,hf,e⟩:=hcs c m
  exact Heap.get?_none_of_le (le_trans I.ok.bsz (I.ok.cab x c hf e))
theorem d8o{pins:List (Addr × Obj)}{σ:St}{H:Hp}{s:Shared}{Q:VK}{us:List Value}{vs:List V}{cs:List Addr}(F:FnOk X.prog X.w X.K X.mg X.base (CX2 X.prog X.w) k f fd ps sp)(hr:Room k X.A)(hb:Binds X.K fd ps [])(hx:a4z (CX2 X.prog X.w) X E)
  (I:Inv X pins σ H s) (hcs:∀ c ∈ cs,∃ x,X.fn x=true/\X.env.cells.lookup x=some c) (r:Vals vs us) (h:sp vs (a7h s.heap H cs) (fun v H3=>Q v (hid H3 cs)) (fun C d H3=>E C d (hid H3 cs))) :
  wpAny (model X.prog X.w) X.A (call (.ref f) us) (EP X pins σ Q) X.xe s:=by
 obtain⟨l,nf,nb⟩:=I.lent hcs
 have hl:us.length=ps.length:=by rw [← r.length];exact F.len _ _ _ _ h
 have e0:=I.env0
 have e1:Env0 X.prog X.w X.K X.mg X.base X.A X.stack s (a7h s.heap H cs):=⟨e0.frames,e0.mod,fun b o e=>⟨(e0.bs b o e).1,by rw [a5t fun m=>by rw [nb b m] at e;cases e];exact(e0.bs b o e).2⟩,e0.bsz,e0.funs,fun b m=>by rw [a5t fun z=>nf b z m];exact e0.frf b m,c9i e0.hok l,e0.bare⟩
 refine wpAny_call (codeAny_mono (F.run X.A X.stack s (a7h s.heap H cs) ⟨us,[]⟩ us vs _ _ hr e1 (by have:=hb s us I.kIn (by rw [append_nil];exact hl);rwa [append_nil] at this) r h) fun r s' hq=>?_)
 cases r with
 | error e =>
  obtain⟨a,C,t,B,H',oe,ee,os,bare,un,hok,ha,fl,cov,ho,hE⟩:=hq
  refine hx pins σ H s e s' I ⟨a,C,t,B,hid H' cs,oe,ee,os,bare,c3z l nf un hok,b7t hok (c1j l un),?_,fl,fun b o e1 e2 e3=>cov b o e1 ?_ e3,ho,hE⟩
  ·unfold hid;split
   ·rfl
   ·exact ha
  ·rcases e2 with z | z
   ·exact .inl fun y=>z (by unfold hid;split;rfl;exact y)
   ·exact .inr z
 | ok fl =>
  cases fl with
  | ret u =>
   obtain⟨v,H',os,bare,un,hok,rv,q⟩:=hq
   exact I.after ⟨v,hid H' cs,os,bare,c3z l nf un hok,b7t hok (c1j l un),rv,q⟩
  | next=>exact False.elim hq
  | brk=>exact False.elim hq
  | cont=>exact False.elim hq
end
end L2
end
section
namespace L2
open PySem PySem.Spec PyProof.Rows
noncomputable def envL(q:Str)(scope:Scope)(L f:Addr)(cd:Value)(cl:List (Str × Addr)):Env:=
 { scope:=scope,locals:=L,globals:=mainGlobals,cells:=cl,qual:=q ++ ".<locals>.",func:=some f,code:=cd,frame:=some L,builtins:=builtinsNs }
noncomputable def cxL(P:Program)(w:World)(K:W.Frag)(mg:Str->Option Value)(base:Heap)(N:List Str)(q:Str)(scope:Scope)(f:Addr)(cd:Value)(cl:List (Str × Addr))(A:Around)(outer:List Env)(s:Shared)(H:Hp):Cx where
 prog:=P
 w:=w
 K:=K
 mg:=mg
 base:=base
 A:=A.deeper (envL q scope s.heap.objs.size f cd cl)
 N:=N
 s₀:=s
 H₀:=H
 env:=envL q scope s.heap.objs.size f cd cl
 outer:=outer
 stack:=envL q scope s.heap.objs.size f cd cl :: outer
 ex:=[]
 calm:=true
 fn:=fun _=>false
 pn:=[]
 xe:=fun e s'=>wpAny (model P w) (A.deeper (envL q scope s.heap.objs.size f cd cl)) (leaving (envL q scope s.heap.objs.size f cd cl) e) (fun _ _=>False) (fun _ _=>False) s'
structure LScope(pn:Str)(cn:List Str)(sc:Scope):Prop where
 kind:sc.kind=.function
 co:sc.isCoroutine=false
 gen:sc.isGenerator=false
 noc:∀ y ∈ sc.names,y.2 ≠ .cell
 par:sc.names.lookup pn=some .local
 fr:∀ n ∈ cn,sc.names.lookup n=some .free
structure ClOk(H:Hp)(scope:Scope)(cl:List (Str × Addr)):Prop where
 cell:a5g H (cl.map (·.2))
 inj:∀ x y c,cl.lookup x=some c->cl.lookup y=some c->x=y
 has:∀ x,scope.names.lookup x=some .free->∃ c,cl.lookup x=some c
def CapH(H:Hp)(cl:List (Str × Addr))(n:Str)(v:V):Prop:=∃ c o u,cl.lookup n=some c/\H c=some (.frz o (.own c))/\o.data=.cell (some u)/\RelV v u
theorem b6u{cl:List (Str × Addr)}{x:Str}{c:Addr}(e:cl.lookup x=some c):c ∈ cl.map (·.2):=mem_map.mpr ⟨_,mem_of_lookup e,rfl⟩
section
variable{P:Program}{w:World}{K:W.Frag}{mg:Str->Option Value}{base:Heap}
theorem c6e{pn q:Str}{cn:List Str}{cv:List V}{scope:Scope}{f:Addr}{cd:Value}{cl:List (Str × Addr)}{A:Around}{outer:List Env}{s:Shared}{H:Hp}{v0:V}{u0:Value}{h':Heap}{tk:Nat}{Hc:Hp}
  (S:LScope pn cn scope) (hd:A.handled=none) (e0:Env0 P w K mg base A outer s H) (co:ClOk Hc scope cl) (hc:∀ c ∈ cl.map (·.2),∃ o u,Hc c=some (.frz o (.own c))/\o.data=.cell u/\s.heap.get? c=some o) (hn:∀ c ∈ cl.map (·.2),H c=none)
  (hl:cn.length=cv.length) (hcap:∀ (j:Nat) n v,cn[j]? = some n->cv[j]? = some v->CapH Hc cl n v) (rv:RelV v0 u0) (ns:h'.Ns s.heap.objs.size fun x=>[(pn,u0)].reverse.lookup x)
  (kp:∀ b o,s.heap.get? b=some o->h'.get? b=some o) :
  Inv (cxL P w K mg base (pn :: cn) q scope f cd cl A outer s H) [] (some v0 :: cv.map some) H { s with heap:=h',toks:=tk }:=by
 have noA:∀ b:Addr,b ∉ (cxL P w K mg base (pn :: cn) q scope f cd cl A outer s H).ex:=fun b z=>absurd (show b ∈ ([]:List Addr) from z) (by simp)
 refine⟨⟨e0.mod,S.kind,rfl,rfl,le_refl _,fun y z c h1 h2=>co.inj y z c h1 h2,fun y hy=>?_,fun y c z h=>absurd z (by simp [cxL]),fun _=>hd,Around.frames_deeper e0.frames,.inr ⟨rfl,rfl⟩,fun b z=>absurd z (noA b),e0.bs,e0.bsz,fun b _ _=>noA b,fun b z=>absurd z (noA b),e0.funs,e0.frf⟩,
  rfl,e0.bare,Un.kept kp,⟨_,ns,fun i y v h1 h2 h3=>?_⟩,fun y c h=>?_,e0.hok.fresh (le_refl _),fun y c h=>hn c (b6u h),fun p hp=>absurd (show p ∈ ([]:List (Addr × Obj)) from hp) (by simp),e0.hok.kept kp,?_⟩
 ·have hy:scope.names.lookup y=some .cell ∨ scope.names.lookup y=some .free:=hy
  rcases hy with hy | hy
  ·exact absurd rfl (S.noc _ (PySem.mem_of_lookup hy))
  ·exact co.has y hy
 ·have h1:(pn :: cn)[i]? = some y:=h1
  cases i with
  | zero =>
   cases h1
   cases h2
   exact⟨u0,rv,.inl ⟨S.par,by show List.lookup pn [(pn,u0)]=_;simp⟩⟩
  | succ j =>
   have h1:cn[j]? = some y:=h1
   have h2:(cv.map some)[j]? = some (some v):=h2
   have h2:cv[j]? = some v:=by
    rw [getElem?_map] at h2
    cases e:cv[j]? with
    | none=>rw [e] at h2;cases h2
    | some a=>rw [e] at h2;cases h2;rfl
   obtain⟨c,o,u,e1,e2,e3,e4⟩:=hcap j y v h1 h2
   obtain⟨o',u',z1,z2,z3⟩:=hc c (b6u e1)
   rw [z1] at e2
   cases e2
   exact⟨u,e4,.inr ⟨.inr (S.fr y (mem_of_getElem? h1)),c,e1,_,kp _ _ z3,e3⟩⟩
 ·obtain⟨o',u',z1,z2,z3⟩:=hc c (b6u h)
  exact⟨u',_,kp _ _ z3,z2⟩
 ·show(some v0 :: cv.map some).length=(pn :: cn).length
  simp [hl]
def d4t(P:Program)(w:World)(K:W.Frag)(mg:Str->Option Value)(base:Heap)(n:Nat)(H:Hp)(f:Addr)(p:Str->Prop)(g:Str->Bool):Prop:=∃ (o:Obj) (fd:FuncData) (pn:Str) (sp:Sp),(∃ gd,o.data=.func gd)/\H f=some (.frz o (.own f))/\FnOk P w K mg base CX0 n f fd [pn] sp/\Binds K fd [pn] [] /\
 ∀ (x:Str) (H1:Hp) (Q:VK),p x->Same H H1->(∀ H2,Same H1 H2->Q (.bl (g x)) H2)->sp [.str x] H1 Q E0
theorem a6a{p:Str->Prop}{g:Str->Bool}{pn q:Str}{cn:List Str}{cv:List V}{H:Hp}{f c:Addr}{params:Arguments}{body:Expr}{scope:Scope}{cl:List (Str × Addr)}{pm ct:Value}{k:Nat}(L:Lam H f q params body scope cl pm c ct)(co:ClOk H scope cl)(hl:cn.length=cv.length)
  (hcap:∀ (j:Nat) n v,cn[j]? = some n->cv[j]? = some v->CapH H cl n v) (S:LScope pn cn scope) (hbind:∀ u:Value,bindArgs (d4s q params body scope cl pm c ct) ⟨[u],[]⟩=pure [(pn,u)])
  (hb:∀ (A:Around) (outer:List Env) (s:Shared) (H1:Hp) (x:Str),Room k (A.deeper (envL q scope s.heap.objs.size f (.ref c) cl))->p x->Same (hid H (cl.map (·.2))) H1 ->
   ∃ t,PE (cxL P w K mg base (pn :: cn) q scope f (.ref c) cl A outer s H1) body t/\∀ Q:VK,(∀ H2,Same H1 H2->Q (.bl (g x)) H2)->t (some (.str x) :: cv.map some) H1 Q):d4t P w K mg base (k + 1) H f p g:=by
 refine⟨_,d4s q params body scope cl pm c ct,pn,fun vs H1 Q E=>∃ x:Str,vs=[.str x]/\p x/\Same H H1/\∀ H2,Same H1 H2->Q (.bl (g x)) H2,⟨_,rfl⟩,L.1,⟨fun vs H Q E hq8=>by obtain⟨x,e,_⟩:=hq8;rw [e];rfl,fun A outer s H1 args us vs Q E hr e0 hb' r hsp=>?_⟩,Binds.all fun us hl=>?_,fun x H1 Q hx s1 hq=>⟨x,rfl,hx,s1,hq⟩⟩
 ·obtain⟨x,rfl,hx,s1,hq⟩:=hsp
  obtain⟨hf,oc,vc,tc,hc,hd,hv⟩:=L
  have cells:a5g H1 (cl.map (·.2)):=fun c m=>let ⟨o,u,e,d⟩:=co.cell c m;⟨o,u,s1 _ _ e,d⟩
  have lim:s.heap.NoLimit:=e0.mod.nolimit.keeps fun b o e=>(e0.bs b o e).1
  have ef:s.heap.get? f=some (b1h q params body scope cl pm c ct):=(e0.hok f _ (s1 _ _ hf)).1
  have ec:s.heap.get? c=some oc:=(e0.hok c _ (s1 _ _ hc)).1
  obtain⟨u0,rfl,rv⟩:∃ u0,us=[u0]/\RelV (.str x) u0:=by
   cases r with
   | cons a b=>cases b;exact⟨_,rfl,a⟩
  refine PySem.W.kla_callFunE hr.depth ef rfl S.co S.gen rfl ⟨c,oc,vc,tc,rfl,ec,hd,hv⟩ (hb' _ _ _ _ ?_)
  refine wpAny_newFunctionEnv S.noc (fun y hy=>by
   obtain rfl:y=(pn,u0):=by simpa using hy
   exact S.par) (fun h' ns sb=>?_) S.kind
  have kp:∀ b o,s.heap.get? b=some o->h'.get? b=some o:=fun b o e=>by
   rw [sb.2 b (ne_of_lt (lt_size e))];exact get?_push_of_some _ e
  refine⟨lim.keeps kp,PySem.W.kla_codeExpr ?_⟩
  have nf:∀ c ∈ cl.map (·.2),c ∉ frs outer:=fun c m z=>by
   obtain⟨o,u,e,d⟩:=cells c m
   rw [e0.frf c z] at e;cases e
  have e1:Env0 P w K mg base A outer s (hid H1 (cl.map (·.2))):=⟨e0.frames,e0.mod,fun b o e=>⟨(e0.bs b o e).1,by unfold hid;split;rfl;exact(e0.bs b o e).2⟩,e0.bsz,e0.funs,fun b m=>by unfold hid;split;rfl;exact e0.frf b m,b7t e0.hok cells,e0.bare⟩
  obtain⟨t,ht,hq2⟩:=hb A outer s (hid H1 (cl.map (·.2))) x (hr.deeper _) hx (d2s s1)
  have I:=c6e (q:=q) (f:=f) (cd:=.ref c) (tk:=s.toks + ([pn].zip [u0]).length) S hr.hd e1 co (fun c m=>by
   obtain⟨o,u,e,d⟩:=co.cell c m
   exact⟨o,u,e,d,(e0.hok c _ (s1 _ _ e)).1⟩) (fun c m=>b1j m) hl hcap rv ns kp
  refine wpAny_mono (ht [] _ _ _ (fun v H'=>Q v (b2h H1 H' (cl.map (·.2)))) I (hq2 _ fun H2 s2=>hq _ (c6d s2))) (fun u s' hs=>?_) fun e s' hs=>hs
  obtain⟨v,H',J,rv,q⟩:=hs
  exact⟨v,_,J.os,J.bare,d2t cells J.base,c9j cells e0.hok nf J.base J.hok,rv,q⟩
 ·obtain⟨u,rfl⟩:∃ u,us=[u]:=by
   rcases us with _ | ⟨u,_ | ⟨_,_⟩⟩
   ·cases hl
   ·exact⟨u,rfl⟩
   ·cases hl
  exact hbind u
end
section
variable{P:Program}{w:World}{K:W.Frag}{mg:Str->Option Value}{base:Heap}
end
theorem FnOk.bold{P:Program}{w:World}{K:W.Frag}{mg:Str->Option Value}{base:Heap}{CX:CXT}{n:Nat}{f:Addr}{fd:FuncData}{ps:List Str}{sp:Sp}(F:FnOk P w K mg base CX0 n f fd ps sp):FnOk P w K mg base CX n f fd ps sp:=
 ⟨F.len,fun A outer s H args us vs Q E hr e0 hb r hsp=>codeAny_mono (F.run A outer s H args us vs Q E hr e0 hb r hsp) fun r s' hq=>by
  cases r with
  | error e=>exact False.elim hq
  | ok fl=>cases fl<;>exact hq⟩
theorem a7i{X:Cx}{P:Program}{w:World}:a4z (CX2 P w) X E0:=fun _ _ _ _ _ _ _ h=>by
 obtain⟨a,C,t,B,H',oe,_,_,_,_,_,_,_,_,_,z⟩:=h
 exact z.elim
def e4p(C:Addr)(m:Str)(sp:Sp)(E:XK)(ta:TE)(T:Addr)(q:Str)(params:Arguments)(body:Expr)(scope:Scope)(pm:Value)(cp:List (Str × Nat)):TE:=fun σ H Q=>ta σ H fun x H1=>∃ a dx fs,x=.ref a/\H1 a=some (.ins C dx fs)/\fs.lookup m=none/\H1 T=some (a7d q) /\
 ∀ f c ct cl H2,Same H1 H2->H1 f=none->Lam H2 f q params body scope cl pm c ct->ClOk H2 scope cl->(∀ p ∈ cp,∀ v,σ[p.2]? = some (some v)->CapH H2 cl p.1 v)->(∀ c ∈ cl.map (·.2),H1 c=none) ->
  sp [x,.ref f] H2 (fun v H3=>Q v (hid H3 (cl.map (·.2)))) (fun C d H3=>E C d (hid H3 (cl.map (·.2))))
section
variable{X:Cx}{k:Nat}{f C c T:Addr}{fd:FuncData}{ps:List Str}{sp:Sp}{E:XK}{m q:Str}{pos apos lpos:Pos}{o:Expr}{ta:TE}{params:Arguments}{body:Expr}{scope:Scope}{cp:List (Str × Nat)}
theorem a4t{pl:Sem Bool}(bm:BMain X.mg X.base)(hcd:X.env.code=.ref c)(hC:PySem.W.codeHdIn X.K c T=true) (hq:X.env.qual ++ "<lambda>" = q) (hfr:∀ y ∈ scope.names,y.2=.free->X.env.scope.names.lookup y.1=some .cell/\X.fn y.1=true)
  (hcp:∀ p ∈ cp,X.N[p.2]? = some p.1/\(p.1,NameKind.free) ∈ scope.names) (he:PE X o ta) (cc:Cls X.K C) (hm:Meth X.K C m f) (F:FnOk X.prog X.w X.K X.mg X.base (CX2 X.prog X.w) k f fd ps sp) (hr:Room k X.A) (hb:Binds X.K fd ps []) (hx:a4z (CX2 X.prog X.w) X E)
  (hdef:defaultsOf params X.env=([],[]):=by rfl)
  (hst:starEach [.Lambda params body scope lpos] X.env=(false,eval (.Lambda params body scope lpos) X.env) :: starEach [] X.env:=by rfl) (hpl:(backTo pos (starEach [] X.env)).any (·.1)=false:=by rfl)
  (ht:eval (.Call (.Attribute o m apos) [.Lambda params body scope lpos] [] pos) X.env=(do
   let ov ← eval o X.env
   standAt apos.atName
   let (f,first) ← holding [ov] (getMethod ov m pl)
   callWith pos f first (backTo pos (starEach [.Lambda params body scope lpos] X.env)) (backToKw pos (keywordEach [] X.env))):=by rfl) :
  PE X (.Call (.Attribute o m apos) [.Lambda params body scope lpos] [] pos) (e4p C m sp E ta T q params body scope ((X.mg "__name__").getD .none) cp):=by
 intro pins s σ H Q I h
 refine PySem.W.methodCall_KW (pl:=pl) (thn (he pins s σ H _ I h) fun u s1 hq8=>?_) ht
 obtain⟨x,H1,I1,rx,a,dx,fs,ex,ea,l,hT,q0⟩:=hq8
 subst ex
 obtain rfl:u=Value.ref a:=rx
 refine b1w I1 ea cc hm l ?_
 have hclos:closureFor scope X.env=pure (clOf X.env scope.names []):=a8s fun y hy hf=>I1.ok.has y.1 (.inl (hfr y hy hf).1)
 have cells:∀ y ∈ scope.names,y.2=.free->X.env.cells.lookup y.1=some ((X.env.cells.lookup y.1).getD 0):=fun y hy hf=>by
  obtain⟨c,e⟩:=I1.ok.has y.1 (.inl (hfr y hy hf).1)
  rw [e];rfl
 have cs:∀ c ∈ (clOf X.env scope.names []).map (·.2),∃ x,X.fn x=true/\X.env.cells.lookup x=some c:=fun c m=>by
  obtain⟨⟨n,c'⟩,m1,rfl⟩:=mem_map.mp m
  obtain⟨m2,e⟩:=a5p m1
  exact⟨n,(hfr _ m2 rfl).2,by rw [show(n,c').2=_ from e];exact cells _ m2 rfl⟩
 have lk:∀ n c,(clOf X.env scope.names []).lookup n=some c->X.env.cells.lookup n=some c/\(n,NameKind.free) ∈ scope.names:=fun n c e=>by
  obtain⟨m2,e⟩:=a5p (mem_of_lookup e)
  exact⟨by rw [e];exact cells _ m2 rfl,m2⟩
 have lk2:∀ n,(n,NameKind.free) ∈ scope.names->∃ c,(clOf X.env scope.names []).lookup n=some c:=fun n m2=>lookup_mem (b4e (env:=X.env) m2)
 have ha:PA X [.Lambda params body scope lpos] _:=a0c (d8m bm hcd hC hq hclos hdef) a0i hst
 refine PySem.W.callWith_K (first:=[.ref a]) (h₀:=X.base) I.ok.mod.kin hm.kp (thn (ha pos pins s1 σ H1 (fun vs H2=>∃ f c ct,vs=[V.ref f]/\Same H1 H2/\H1 f=none/\Lam H2 f q params body scope (clOf X.env scope.names []) ((X.mg "__name__").getD .none) c ct) I1 ⟨hT,fun f c ct H' s hf L=>⟨f,c,ct,rfl,s,hf,L⟩⟩) fun us s2 ⟨vs,H2,I2,r,f,c,ct,ev,s12,hf,L⟩=>⟨I2.kIn,?_⟩) hst hpl
 subst ev
 obtain⟨le,nf,nb⟩:=I2.lent cs
 refine d8o (us:=.ref a :: us) (vs:=[.ref a,.ref f]) (cs:=(clOf X.env scope.names []).map (·.2)) F hr hb hx I2 cs (.cons rfl r) (q0 f c ct _ _ (s12.trans le.same) hf (L.keep (S:=Any) le.same.keep) ⟨le.cells,fun x y c h1 h2=>I2.ok.inj x y c (lk x c h1).1 (lk y c h2).1,fun x hx=>lk2 x (PySem.mem_of_lookup hx)⟩ (fun p hp v hv=>?_) fun c m=>?_)
 ·obtain⟨hN,hfree⟩:=hcp p hp
  obtain⟨ms,ns,hl⟩:=I2.loc
  have kc:=(hfr _ hfree rfl).1
  obtain⟨u,rv,lo⟩:=hl p.2 p.1 v hN hv (.inr (.inl kc))
  rcases lo with⟨z,_⟩ | ⟨_,c,e,ob,ho,hd⟩
  ·rw [show X.env.kindOf p.1=some .cell from kc] at z;cases z
  ·obtain⟨c',e'⟩:=lk2 _ hfree
   have:=(lk _ _ e').1
   rw [e] at this
   cases this
   exact⟨c,ob,u,e',b0c (b6u e') ho,hd,rv⟩
 ·obtain⟨x,_,e⟩:=cs c m
  exact I1.freeC x c e
end
end L2
end
section
namespace L2
open PySem PySem.Spec PyProof.Rows
end L2
end
section
namespace L2
open PySem PySem.Spec PyProof.Rows
noncomputable def kD(q:Key × PyData):PyData × PyData:=(keyD q.1,q.2)
noncomputable def putA(ν:List (Key × PyData))(k:Key)(d:PyData):List (Key × PyData):=if (ν.any fun q=>decide (q.1=k))=true then ν.map (fun q=>if q.1=k then(q.1,d) else q) else ν ++ [(k,d)]
section
variable{K:W.Frag}{H:Hp}{S:Addr->Prop}
end
abbrev TDP:=DEnds->Rho->List (Key × PyData)->Prop
noncomputable def notL:PyData->Bool
 | .list _=>false
 | _=>true
section
variable{K:W.Frag}
end
section
variable{X:Cx}{iter kE vE tg:Expr}{rest:List Stmt}{di:TDI}{dg:TDG}{dk dv:TDE}{du:TDS}{dp:TDP}{x y z:Str}{pos p1 p2 p3 p4 p5 p6 p7 p8 p9 p13:Pos}{i:Nat}
end
section
variable{X:Cx}
end
noncomputable def getA:List (PyData × PyData)->Key->Option PyData
 | [],_=>none
 | q :: r,k=>if asKey q.1=some k then some q.2 else getA r k
section
variable{K:W.Frag}{H:Hp}{S:Addr->Prop}
end
def rNotK(K:W.Frag)(w:World):R2:=fun x y H Q=>∃ a kvs z,y=.ref a/\KDict K w a kvs/\(a == sysModules)=false/\x=.str z/\Q (.bl (!(kvs.lookup z).isSome)) H
theorem d8p{X:Cx}:OpR X (compareOp .NotIn) (rNotK X.K X.w):=by
 intro pins s σ H x y v u Q I rx ry h
 obtain⟨a,kvs,z,rfl,⟨hnd,es,ep,hk,he⟩,hsm,rfl,q⟩:=h
 cases ry
 obtain⟨t,rfl⟩:=rx
 obtain⟨vs,hp,hkv,hkeys⟩:=he.pairs (prog:=X.prog)
 obtain⟨e1,hlook⟩:=KV.look hkv
 have hd:s.heap.DictOf (strKind X.prog X.w) a vs:=by
  refine⟨_,es,ep,I.kIn a _ hk,⟨rfl,rfl,rfl⟩,rfl,fun e hm=>?_,hp,by rw [← e1];exact hnd⟩
  obtain⟨x',t',e2,e3⟩:=hkeys e (by simpa using hm)
  exact⟨x',by rw [e2];exact strKind_is X.prog X.w x' t',e3⟩
 refine wpAny_notIn_of (strKind_is X.prog X.w z t) hsm hd.mapOf ?_
 have e:(valueAt vs z).isSome=(kvs.lookup z).isSome:=KV.some_eq hkv z
 rw [e]
 exact⟨.bl _,H,I.tok _,rfl,q⟩
end L2
end
section
namespace Sx
open PySem
noncomputable def lp(mask:Nat)(q:Nat × Nat):Nat × Nat:=SetTable.leap mask q.1 q.2
end Sx
end
section
namespace Sx
open PySem
section
variable{prog:Program}{w:World}{K:Type}[DecidableEq K]{knd:KeyKind prog w K}{dec:Value->K}
variable{A:Around}{E:Value->Shared->Prop}{s:Shared}
end
end Sx
end
section
namespace Sx
open PySem
section
variable{prog:Program}{w:World}{K:Type}[DecidableEq K]{knd:KeyKind prog w K}{dec:Value->K}
variable{A:Around}{E:Value->Shared->Prop}{s:Shared}
end
end Sx
end
section
namespace Sx
open PySem
section
variable{prog:Program}{w:World}{K:Type}[DecidableEq K]{knd:KeyKind prog w K}{dec:Value->K}
variable{A:Around}{E:Value->Shared->Prop}{s:Shared}
end
end Sx
end
section
namespace Sx
open PySem
section
variable{prog:Program}{w:World}{K:Type}[DecidableEq K]{knd:KeyKind prog w K}{dec:Value->K}
variable{A:Around}{E:Value->Shared->Prop}{s:Shared}
end
end Sx
end
section
namespace L2
open PySem PySem.Spec PyProof.Rows
noncomputable def unS(a b:List Str):List Str:=Sx.srtS (Sx.uniq (a ++ b))
section
variable{X:Cx}{a b:Expr}{ta tb:TA}{p p' p2 pos pos' pos2 posB:Pos}
end
noncomputable def txD:List PyData->Option (List Str)
 | [.list xs]=>a5y xs
 | [.tuple xs]=>a5y xs
 | _=>none
def dSU(da db:TDA):TDE:=fun ρ Q=>da ρ fun xs ρ1=>need (a1d ρ1 xs) fun ds=>need (txD ds) fun a=>a.length <= 3/\db ρ1 fun ys ρ2=>need (a1d ρ2 ys) fun es=>need (txD es) fun b=>b.length <= 3/\Q (.d (.list ((unS a b).map .str))) ρ2
section
variable{X:Cx}{a b:Expr}{daa dab:TDA}{p p' p2 pos pos' pos2 posB:Pos}
end
end L2
end
section
namespace L2
open PySem PySem.Spec PyProof.Rows
section
variable{prog:Program}{w:World}{A:Around}{R:Result->Shared->Prop}{I:Addr}{fp wr:List Addr}{G:Array GenState->Array GenState->Prop}{St:Nat->Shared->Prop}{items:Array Value}{ps:List (Str × V)}
end
section
variable{prog:Program}{w:World}{A:Around}{E:Value->Shared->Prop}{s:Shared}
end
section
variable{K:W.Frag}{H:Hp}{S:Addr->Prop}
noncomputable def d4u:PyData->List PyData->Option PyData:=fun x ds=>match x,ds with
 | .dict kvs,[.str k,d]=>if notL d=true then some ((getA kvs (Sum.inr k)).getD d) else none
 | _,_=>none
def dGetD(dd:TDE)(da:TDA):TDE:=fun ρ Q=>dd ρ fun x ρ1=>need (a0k ρ1 x) fun dx=>(∃ kvs,dx=.dict kvs)/\da ρ1 fun ys ρ2=>need (a0k ρ2 x) fun dx2=>need (a1d ρ2 ys) fun ds=>need (d4u dx2 ds) fun z=>Q (.d z) ρ2
end
theorem d8q{d1:TDE}{da:TDA}{ρ:Rho}{Q:DV->Rho->Prop}:dGetD d1 da ρ Q=d1 ρ fun x ρ1=>need (a0k ρ1 x) fun dx=>(∃ kvs,dx=.dict kvs)/\da ρ1 fun ys ρ2=>need (a0k ρ2 x) fun dx2=>need (a1d ρ2 ys) fun ds=>need (d4u dx2 ds) fun z=>Q (.d z) ρ2:=rfl
theorem dSU_a{da db:TDA}{ρ:Rho}{Q:DV->Rho->Prop}:dSU da db ρ Q=da ρ fun xs ρ1=>need (a1d ρ1 xs) fun ds=>need (txD ds) fun a=>a.length <= 3/\db ρ1 fun ys ρ2=>need (a1d ρ2 ys) fun es=>need (txD es) fun b=>b.length <= 3/\Q (.d (.list ((unS a b).map .str))) ρ2:=rfl
section
variable{X:Cx}{e1 e2:Expr}{daa:TDA}{pos:Pos}
end
end L2
end
section
namespace L2
open PySem PySem.Spec PyProof.Rows
section
variable{K:W.Frag}
def e4q(i:Nat)(da:TDA)(dp:TDP):TDS:=fun D ρ=>da ρ fun xs ρ1=>need (a1d ρ1 xs) fun ds=>i < ρ1.length/\∃ ν:List (Key × PyData),ds=[.dict (ν.map kD)]/\dp D (ρ1.set i none) ν
end
section
variable{X:Cx}{kE vE e:Expr}{rest:List Stmt}{daa:TDA}{dk dv:TDE}{dp:TDP}{x:Str}{pos p1 p2 p4 p5 p6 p9:Pos}{i:Nat}
end
theorem d2u{i:Nat}{da:TDA}{dp:TDP}{D:DEnds}{ρ:Rho}:e4q i da dp D ρ=da ρ fun xs ρ1=>need (a1d ρ1 xs) fun ds=>i < ρ1.length/\∃ ν:List (Key × PyData),ds=[.dict (ν.map kD)]/\dp D (ρ1.set i none) ν:=rfl
end L2
end
section
namespace PySem
open Sem (wp)
open AutoSeq1 (wpAny_loadPart')
end PySem
namespace L2
open PySem PySem.Spec PyProof.Rows
section
variable{X:Cx}
end
section
variable{K:W.Frag}{S:Addr->Prop}{H:Hp}
def d8r(de:TDE):TDI:=fun ρ Q=>de ρ fun x ρ1=>fz ρ1 x fun y ρ2=>need (match y with | .tuple xs=>some xs | _=>none) fun xs=>Q (b9n xs) ρ2
end
theorem c9k{de:TDE}{ρ:Rho}{Q:List PyData->Rho->Prop}:d8r de ρ Q=de ρ fun x ρ1=>fz ρ1 x fun y ρ2=>need (match y with | .tuple xs=>some xs | _=>none) fun xs=>Q (b9n xs) ρ2:=rfl
end L2
end
section
namespace L2
open PySem PySem.Spec PyProof.Rows
theorem c4a{c:Nat}:∀ {a b x y:List Nat},c ∉ a->c ∉ b->a ++ c :: x=b ++ c :: y->a=b/\x=y
 | [],[],x,y,_,_,e=>⟨rfl,(List.cons.inj e).2⟩
 | [],b :: bs,x,y,_,hb,e=>absurd (mem_cons.mpr (.inl (List.cons.inj e).1)) hb
 | a :: as,[],x,y,ha,_,e=>absurd (mem_cons.mpr (.inl (List.cons.inj e).1.symm)) ha
 | a :: as,b :: bs,x,y,ha,hb,e=>by
  obtain⟨e1,e2⟩:=List.cons.inj e
  obtain⟨r1,r2⟩:=c4a (a:=as) (b:=bs) (fun h=>ha (mem_cons_of_mem _ h)) (fun h=>hb (mem_cons_of_mem _ h)) e2
  exact⟨by rw [e1,r1],r2⟩
theorem a7w{sep x y:Str}{r:List Str}:(Str.join sep (x :: y :: r)).cps.toList=x.cps.toList ++ (sep.cps.toList ++ (Str.join sep (y :: r)).cps.toList):=by
 show(x ++ sep ++ Str.join sep (y :: r)).cps.toList=_
 show((x.cps ++ sep.cps) ++ (Str.join sep (y :: r)).cps).toList=_
 rw [toList_append,toList_append,append_assoc]
theorem c1k{c:Nat}:∀ {A B:List Str},A ≠ []->B ≠ []->(∀ p ∈ A,c ∉ p.cps.toList)->(∀ p ∈ B,c ∉ p.cps.toList)->Str.join ⟨#[c]⟩ A=Str.join ⟨#[c]⟩ B->A=B
 | [],_,h,_,_,_,_=>absurd rfl h
 | _,[],_,h,_,_,_=>absurd rfl h
 | [a],[b],_,_,_,_,e=>by rw [show a=b from e]
 | [a],b :: b' :: s,_,_,ha,_,e=>by
  have e2:=congrArg (fun z:Str=>z.cps.toList) e
  rw [a7w] at e2
  refine absurd ?_ (ha a (mem_cons_self ..))
  show c ∈ a.cps.toList
  have e3:a.cps.toList=_:=e2
  rw [e3]
  exact mem_append_right _ (mem_append_left _ (mem_cons_self ..))
 | a :: a' :: r,[b],_,_,_,hb,e=>by
  have e2:=congrArg (fun z:Str=>z.cps.toList) e
  rw [a7w] at e2
  refine absurd ?_ (hb b (mem_cons_self ..))
  show c ∈ b.cps.toList
  have e3:_=b.cps.toList:=e2
  rw [← e3]
  exact mem_append_right _ (mem_append_left _ (mem_cons_self ..))
 | a :: a' :: r,b :: b' :: s,_,_,ha,hb,e=>by
  have e2:=congrArg (fun z:Str=>z.cps.toList) e
  rw [a7w,a7w] at e2
  obtain⟨r1,r2⟩:=c4a (ha a (mem_cons_self ..)) (hb b (mem_cons_self ..)) e2
  have e4:Str.join ⟨#[c]⟩ (a' :: r)=Str.join ⟨#[c]⟩ (b' :: s):=Str.ext' (toList_inj.mp r2)
  have e5:a=b:=Str.ext' (toList_inj.mp r1)
  rw [e5,c1k (A:=a' :: r) (B:=b' :: s) (fun z=>nomatch z) (fun z=>nomatch z) (fun p hp=>ha p (mem_cons_of_mem _ hp)) (fun p hp=>hb p (mem_cons_of_mem _ hp)) e4]
theorem a7x(sep:Str)(l:List Str):Txt.join sep l=Str.join sep l:=eq_of_beq (PyProof.Rows.join_plain_closes sep l)
theorem c6f{c:Nat}{ws:List Str}(hn:ws ≠ [])(h:∀ p ∈ ws,c ∉ p.cps.toList):Txt.split (Txt.join ⟨#[c]⟩ ws) ⟨#[c]⟩=ws:=by
 rw [a7x]
 refine(c1k (c:=c) ?_ hn (StrLaws.split_free _ c) h (StrLaws.join_split _ _))
 intro e
 have:=PyProof.Rows.split_pos (Str.join ⟨#[c]⟩ ws) ⟨#[c]⟩
 rw [e] at this
 simp at this
end L2
end
section
namespace L2
open PySem PySem.Spec PyProof.Rows
section
variable{X:Cx}
end
noncomputable def c9l(z:Str):FC:=fun ds=>match ds with
 | [.tuple xs]=>(a5y xs).bind fun ss=>if z.length <= 16/\(ss.map (·.length)).sum + ss.length <= 1048576 then some (.str (Txt.join z ss)) else none
 | _=>none
section
variable{K:W.Frag}
def e4r(dd:TDE)(da:TDA):TDE:=fun ρ Q=>dd ρ fun x ρ1=>need (a0k ρ1 x) fun dx=>∃ z:Str,dx=.str z/\da ρ1 fun ys ρ2=>need (a1d ρ2 ys) fun ds=>need (c9l z ds) fun r=>Q (.d r) ρ2
end
section
variable{X:Cx}
variable{ρ:Rho}{d1:TDE}{da:TDA}
theorem d2v{Q:DV->Rho->Prop}:e4r d1 da ρ Q=d1 ρ fun x ρ1=>need (a0k ρ1 x) fun dx=>∃ z:Str,dx=.str z/\da ρ1 fun ys ρ2=>need (a1d ρ2 ys) fun ds=>need (c9l z ds) fun r=>Q (.d r) ρ2:=rfl
end
end L2
end
section
namespace L2
open PySem PySem.Spec PyProof.Rows
section
variable{K:W.Frag}
def e4s(i:Nat):TDE:=fun ρ Q=>need (ownB ρ i) fun o=>Q (.d .none) (ρ.set i (some (okL o.1 [])))
theorem d2w{i:Nat}{ρ:Rho}{Q:DV->Rho->Prop}:e4s i ρ Q=need (a4r (ρ[i]?.join)) fun o=>Q (.d .none) (ρ.set i (some (okL o.1 []))):=rfl
end
end L2
end
section
namespace Kd
open PySem PyProof.Rows
noncomputable def TK(h:Heap):Nat->PyData->Value->Prop
 | _,.int i,v=>∃ t,v=.int i t
 | _,.str x,v=>∃ t,v=.str x t
 | n + 1,.tuple ds,v=>∃ a o items m,v=.ref a/\h.get? a=some o/\o.cls=.type "tuple" /\ o.data=.seq items m/\Paired (TK h n) ds items.toList
 | _,_,_=>False
noncomputable def kr:Nat->PyData->Nat
 | _,.int _=>1
 | _,.str _=>1
 | n + 1,.tuple ds=>(ds.map (kr n)).sum + 1
 | _,_=>0
section
variable{prog:Program}{w:World}{E:Value->Shared->Prop}
end
end Kd
end
section
namespace Kd
open PySem PyProof.Rows
section
variable{prog:Program}{w:World}{E:Value->Shared->Prop}
end
noncomputable instance:DecidableEq PyData:=fun a b=>Classical.propDecidable (a=b)
def isK(h:Heap)(d:PyData)(a:Addr):Prop:=d.canLay0=true/\TK h 8 d (.ref a)
end Kd
end
section
namespace L2
open PySem PySem.Spec PyProof.Rows Kd
noncomputable def kd:Nat->PyData->Bool
 | _,.int _=>true
 | _,.str _=>true
 | n + 1,.tuple ds=>ds.all (kd n)
 | _,_=>false
section
variable{X:Cx}{pins:List (Addr × Obj)}{σ:St}{H:Hp}{s:Shared}{S:Addr->Prop}
end
abbrev KX:=PyData × Addr × V
def KOk(K:W.Frag)(H:Hp)(d:PyData)(a:Addr):Prop:=kd 8 d=true/\d.canLay0=true/\∃ S,AtD K H S d (.ref a)
section
variable{X:Cx}{pins:List (Addr × Obj)}{σ:St}{H:Hp}{s:Shared}{d b:Addr}{xs:List KX}{k:PyData}{v:V}{r:Value}{A:Around}{E:Value->Shared->Prop}
end
end L2
end
section
namespace L2
open PySem PySem.Spec PyProof.Rows Kd
section
variable{X:Cx}
end
section
variable{K:W.Frag}{H:Hp}{S:Addr->Prop}{sa:Addr}{ns:List Int}
noncomputable def RcA(H:Hp)(S:Addr->Prop)(sa:Addr)(ns:List Int):Rc:={ H0:=H,S:=fun a=>S a ∨ H a=none,P:=fun _=>False,M:=fun _=>False,A:=fun p=>H p=none,B:=fun _=>False,lent:=fun _=>none,sa:=sa,ns:=ns }
theorem d2x(sc:Scr K H sa (ns.map V.int)){ds:List PyData}{vs:List V}(h:a0b K H S ds vs):Rel K (RcA H S sa ns) (fun _=>none) ((ds.map L.d).map some) (vs.map some) H:=by
 have hat:∀ (i:Nat) (x:PyData),ds[i]? = some x->∃ v,vs[i]? = some v/\AtD K H (live (RcA H S sa ns) fun _=>none) x v:=fun i x e=>by
  obtain⟨v,e1,e2⟩:=h.get e
  exact⟨v,e1,AtD.more (fun a z=>⟨.inl z,fun z=>z,fun i z=>nomatch z⟩) _ _ e2⟩
 have no:∀ (i:Nat) (l:L),((ds.map L.d).map some)[i]? = some (some l)->∃ x,l=.d x/\ds[i]? = some x:=fun i l e=>by
  rw [getElem?_map,getElem?_map] at e
  cases q:ds[i]? with
  | none=>rw [q] at e;cases e
  | some x=>rw [q] at e;cases e;exact⟨x,rfl,rfl⟩
 refine⟨fun i x e=>?_,fun i xs e=>?_,fun i xs e=>?_,fun i k e=>?_,fun i e=>?_,(fun i j p e=>nomatch e),(fun i p e=>nomatch e),fun p z=>.inr z,fun p z=>.inr z,fun b o _ e=>e,fun b z=>z,fun p z=>z.elim,fun p z=>z.elim (fun z=>z.elim) fun z=>z.elim,(fun i p e=>nomatch e),sc,?_⟩
 ·obtain⟨y,e1,e2⟩:=no i _ e
  cases e1
  obtain⟨v,h1,h2⟩:=hat i x e2
  exact⟨v,by rw [getElem?_map,h1];rfl,h2⟩
 ·obtain⟨_,e1,_⟩:=no i _ e;cases e1
 ·obtain⟨_,e1,_⟩:=no i _ e;cases e1
 ·obtain⟨_,e1,_⟩:=no i _ e;cases e1
 ·obtain⟨_,e1,_⟩:=no i _ e;cases e1
 ·rw [length_map,length_map,length_map,h.length]
noncomputable def Ret(K:W.Frag)(H:Hp)(S:Addr->Prop)(H':Hp):RV->V->Prop
 | .d x,v=>AtD K H' (fun a=>S a ∨ H a=none) x v
 | .new xs,v=>∃ p vs,v=.ref p/\H p=none/\H' p=some (.lst vs)/\a0b K H' (fun a=>(S a ∨ H a=none)/\a ≠ p) xs vs
theorem b7u{sp:DSp}{ds:List PyData}{vs:List V}{Q:VK}{E:XK}{Qd:RV->Rho->Prop}(sc:Scr K H sa (ns.map V.int))(h:a0b K H S ds vs)(hs:sp (ds.map L.d) Qd)
  (hq:∀ r v H' ρ',Qd r ρ'->Same H H'->Ret K H S H' r v->Q v H'):spD K sp vs H Q E:=by
 refine⟨RcA H S sa ns,fun _=>none,ds.map L.d,Qd,rfl,fun p z=>z,fun p z=>z.elim,fun p z=>z,fun _=>rfl,d2x sc h,hs,fun r O' ρ' σ' v H' q ro=>?_⟩
 cases r with
 | d x=>exact hq _ v H' _ q (fun b o e=>ro.1.same b o (fun z=>z) e) (AtD.more (fun a z=>z.1) _ _ ro.2)
 | new xs =>
  obtain⟨p,vs,rfl,R',fr,hp,ha⟩:=ro
  refine hq _ _ H' _ q (fun b o e=>R'.same b o (fun z=>z) e) ⟨p,vs,rfl,?_,hp,?_⟩
  ·exact fr.1
  ·exact a0b.more (fun a z=>⟨z.1,(a5w z).2⟩) _ _ ha
end
end L2
end
section
namespace L2
open PySem PySem.Spec PyProof.Rows
noncomputable def b0l:Option L->Option PyData
 | some (.d x)=>some x
 | some (.own xs)=>some (.list xs)
 | some (.bor xs)=>some (.list xs)
 | _=>none
theorem d8s{x:PyData}:b0l (some (.d x))=some x:=rfl
theorem d8t{xs:List PyData}:b0l (some (.own xs))=some (.list xs):=rfl
theorem d8u{xs:List PyData}:b0l (some (.bor xs))=some (.list xs):=rfl
def b7v(sp:DSp)(i j:Nat):TDE:=fun ρ Q=>need (b0l (ρ[i]?.join)) fun d1=>need (b0l (ρ[j]?.join)) fun d2=>sp [.d d1,.d d2] fun r _=>∃ b:Bool,r=.d (.bool b)/\Q (.d (.bool b)) ρ
theorem c9m{sp:DSp}{i j:Nat}{ρ:Rho}{Q:DV->Rho->Prop}:b7v sp i j ρ Q=need (b0l (ρ[i]?.join)) fun d1=>need (b0l (ρ[j]?.join)) fun d2=>sp [.d d1,.d d2] fun r _=>∃ b:Bool,r=.d (.bool b)/\Q (.d (.bool b)) ρ:=rfl
section
variable{K:W.Frag}
theorem Rel.peek{c:Rc}{O:Own}{ρ:Rho}{σ:St}{H:Hp}(R:Rel K c O ρ σ H){i:Nat}{d:PyData}(h:b0l (ρ[i]?.join)=some d):∃ v,σ[i]? = some (some v)/\AtD K H Any d v:=by
 cases e:ρ[i]? with
 | none=>rw [e] at h;cases h
 | some o =>
  rw [e] at h
  cases o with
  | none=>cases h
  | some l =>
   cases l with
   | d x =>
    cases h
    obtain⟨v,h1,h2⟩:=R.dat i _ e
    exact⟨v,h1,AtD.more (fun _ _=>trivial) _ _ h2⟩
   | own xs =>
    cases h
    obtain⟨p,vs,_,_,h1,h2,h3⟩:=R.own i _ e
    exact⟨_,h1,a4m trivial h2 (a0b.more (fun _ _=>trivial) _ _ h3)⟩
   | bor xs =>
    cases h
    obtain⟨p,vs,_,h1,h2,h3⟩:=R.bor i _ e
    exact⟨_,h1,a4m trivial h2 (a0b.more (fun _ _=>trivial) _ _ h3)⟩
   | _=>cases h
theorem c9n{sp:DSp}{i j:Nat}:AdE K (b1x (spD K sp) [] E0 (a3q (tVar i) (a3q (tVar j) tNil))) (b7v sp i j):=by
 intro c O ρ σ H Qd Q R q k
 obtain⟨d1,e1,q⟩:=ne (q)
 obtain⟨d2,e2,q⟩:=ne (q)
 obtain⟨v1,h1,a1⟩:=R.peek e1
 obtain⟨v2,h2,a2⟩:=R.peek e2
 refine⟨v1,h1,v2,h2,?_⟩
 refine b7u (E:=E0) (S:=Any) (ds:=[d1,d2]) R.sc (.cons a1 (.cons a2 .nil)) q fun r v H' ρ' hq s ret=>?_
 obtain⟨b,rfl,hq⟩:=hq
 have ev:v=.bl b:=by unfold Ret at ret;unfold AtD at ret;exact ret
 rw [ev]
 exact k _ _ _ _ _ hq (R.grow s) (.same s) (show AtD K H' (live c O) (.bool b) (.bl b) from a3i _)
end
theorem c9o{X:Cx}{k:Nat}{f:Addr}{fd:FuncData}{ps:List Str}{sp:DSp}{x x1 x2:Str}{st:Stmt}{p pos p1 p2:Pos}(i j:Nat)(d:Def X.K X.mg x st ps f fd)(g:FnOk X.prog X.w X.K X.mg X.base CX0 k f fd ps (spD X.K sp))(hr:Room k X.A)(hg:Gl X x)(h1:PE X (.Name x1 p1) (tVar i))(h2:PE X (.Name x2 p2) (tVar j)) (hdb:(x == ("__debug__" : Str))=false:=by decide)
  (hs2:starEach [.Name x2 p2] X.env=(false,eval (.Name x2 p2) X.env) :: starEach [] X.env:=by rfl)
  (he:starEach (.Name x1 p1 :: [.Name x2 p2]) X.env=(false,eval (.Name x1 p1) X.env) :: starEach [.Name x2 p2] X.env:=by rfl) (hpl:(backTo pos (starEach [.Name x2 p2] X.env)).any (·.1)=false:=by rfl):DE X (.Call (.Name x p) [.Name x1 p1,.Name x2 p2] [] pos) (b7v sp i j):=
 ⟨_,a2c d g hr hg (a0c h1 (a0c h2 a0i hs2) he) hdb he hpl,c9n⟩
end L2
end
section
namespace HT
open PySem PyProof.Rows
section
open PySem.SeqAt
open PySem.AutoSeq1 (wpAny_loadPart')
open PySem.MeetsSeq PySem.MeetsSeq2 PySem.MeetsSeq3
end
section
variable{prog:Program}{w:World}{A:Around}{E:Value->Shared->Prop}{s:Shared}
end
end HT
namespace L2
open PySem PySem.Spec PyProof.Rows
def rGtS:R2:=fun x y H Q=>∃ i j,x=.str i/\y=.str j/\Q (.bl (!leC i j)) H
theorem c9p{X:Cx}:OpR X (compareOp .Gt) rGtS:=by
 intro pins s σ H x y v u Q I rx ry h
 obtain⟨i,j,rfl,rfl,q⟩:=h
 obtain⟨t,rfl⟩:=rx
 obtain⟨t',rfl⟩:=ry
 refine P.gt_str ⟨.bl _,H,I,?_,q⟩
 show Value.bool _=Value.bool (!leC i j)
 congr 1
 unfold leC
 rw [Bool.eq_iff_iff]
 simp [List.not_le]
end L2
end
section
namespace L2
open PySem PySem.Spec PyProof.Rows
noncomputable def strK:List (PyData × PyData)->Option (List Str)
 | []=>some []
 | (.str x,_) :: r=>(strK r).map (x :: ·)
 | _ :: _=>none
section
variable{K:W.Frag}{H:Hp}{S:Addr->Prop}
end
end L2
end
section
namespace Sx
open PySem PySem.W PyProof.Rows
section
variable(lt:Nat->Nat->Bool)
structure Ord:Prop where
 asym:∀ x y,lt x y=true->lt y x=false
 trans:∀ x y z,lt y x=false->lt z y=false->lt z x=false
abbrev g(p:Array Nat)(i:Nat):Nat:=p.getD i 0
def As(p:Array Nat)(b:Nat):Prop:=∀ i,1 <= i->i < b->lt (g p i) (g p (i - 1))=false
def Ds(p:Array Nat)(b:Nat):Prop:=∀ i,1 <= i->i < b->lt (g p (i - 1)) (g p i)=false
def So(p:Array Nat)(b:Nat):Prop:=∀ i j,i <= j->j < b->lt (g p j) (g p i)=false
variable{lt}
end
end Sx
end
section
namespace Sx
open PySem PySem.W PyProof.Rows
section
variable{prog:Program}{w:World}{A:Around}{E:Value->Shared->Prop}{s:Shared}
end
end Sx
end
section
namespace L2
open PySem PySem.Spec PyProof.Rows
section
variable{prog:Program}{w:World}{A:Around}{E:Value->Shared->Prop}{s:Shared}
end
section
variable{K:W.Frag}{H:Hp}{S:Addr->Prop}
end
section
variable{X:Cx}
end
end L2
end
section
namespace L2
open PySem PySem.Spec PyProof.Rows
end L2
end
section
namespace Sn
open PySem
inductive Rk where
 | num (n:Int)
 | box (s:Str)
 | two (w:Str) (a b:Rk)
 | pick (a b c:Rk)
namespace Rk
noncomputable def enc:Rk->PyData
 | .num n=>.tuple [.str "num",.int n]
 | .box s=>.tuple [.str "box",.str s]
 | .two w a b=>.tuple [.str w,a.enc,b.enc]
 | .pick a b c=>.tuple [.str "pick",a.enc,b.enc,c.enc]
noncomputable def opV(w:Str)(x y:Int):Int:=
 if w = "add" then x + y else if w = "sub" then x - y else if w = "times" then x * y else if w = "less" then(if x < y then 1 else 0) else if x=y then 1 else 0
abbrev Env:=List (Str × Int)
noncomputable def look(ν:Env)(s:Str):Int:=(ν.lookup s).getD 0
noncomputable def val(ν:Env):Rk->Int
 | .num n=>n
 | .box s=>look ν s
 | .two w a b=>opV w (a.val ν) (b.val ν)
 | .pick a b c=>if a.val ν=0 then c.val ν else b.val ν
def small(i:Int):Prop:=-(2 ^ 64) < i/\i < 2 ^ 64
def IsW(w:Str):Prop:=w = "add" ∨ w = "sub" ∨ w = "times" ∨ w = "less" ∨ w = "same"
noncomputable def Ok(ν:Env):Rk->Prop
 | .num _=>True
 | .box s=>(ν.lookup s).isSome=true
 | .two w a b=>IsW w/\a.Ok ν/\b.Ok ν/\(small (a.val ν) ∨ small (b.val ν))
 | .pick a b c=>a.Ok ν/\b.Ok ν/\c.Ok ν
noncomputable def deep:Rk->Nat
 | .num _=>0
 | .box _=>0
 | .two _ a b=>1 + max a.deep b.deep
 | .pick a b c=>1 + max a.deep (max b.deep c.deep)
noncomputable def many:Rk->Nat
 | .num _=>1
 | .box _=>1
 | .two _ a b=>1 + (a.many + b.many)
 | .pick a b c=>1 + (a.many + (b.many + c.many))
noncomputable def Made(ns:List Str):Nat->Rk->Prop
 | _,.num n=>-999 <= n/\n <= 999
 | _,.box s=>s ∈ ns
 | 0,_=>False
 | d + 1,.two w a b=>IsW w/\a.Made ns d/\b.Made ns d
 | d + 1,.pick a b c=>a.Made ns d/\b.Made ns d/\c.Made ns d
theorem made_deep{ns:List Str}:∀ (d:Nat) (r:Rk),r.Made ns d->r.deep <= d
 | d,.num n,_=>zero_le _
 | d,.box s,_=>zero_le _
 | d + 1,.two w a b,⟨_,ha,hb⟩=>by
  have:=made_deep d a ha
  have:=made_deep d b hb
  simp only [deep];omega
 | d + 1,.pick a b c,⟨ha,hb,hc⟩=>by
  have:=made_deep d a ha
  have:=made_deep d b hb
  have:=made_deep d c hc
  simp only [deep];omega
end Rk
end Sn
end
section
namespace K79
open PySem L2 Sn
open Lean in
def c6g (p : Bool) : MacroM (TSyntaxArray `Lean.Parser.Tactic.simpLemma) := (("↓e4b ↓d2k ↓c9m d8s d8t d8u ↓d2w ↓d2v ↓d8l ↓d2p ↓d2j ↓d2i ↓c8u ↓d7s ↓d7t ↓d1i ↓d6k ↓d7n ↓d2g ↓d1q ↓c8j ↓d6n ↓d7r e3w d7v c8v c8w c8x ↓itT ↓itF ↓d7x ↓d2h ↓c9k ↓d1l ↓e2d ↓e3t ↓dSU_a ↓e3q mapC mapN d1j d6s d6t ↓d2u ↓d8q ↓d2l ↓d7h ↓d8c ↓d8d ↓d8e d8f d8g d8h ↓d8b e4h e4j ↓e1x ↓d7w ↓e4c e3z ↓d6j ↓dIf_a ↓d6l ↓e1y ↓d6m ↓e1z ↓d6o ↓e2a ↓e2b ↓e2c ↓dC_a ↓dOp_a ↓dCB_a ↓e2e ↓e2f ↓e2g ↓dFz_a ↓e2h ↓d6p ↓dB_a ↓e2i ↓e2j ↓dOr_a ↓e2k ↓e2l ↓d6q ↓e2m ↓d6r ↓d1k ↓dIs_a ↓c8k ↓e2o ↓d1m ↓d6u ↓d1n ↓d6w ↓d1o ↓d1p ↓e2q ↓e2s ↓fz_d ↓fz_sl ↓fzL_d ↓e2t ↓fzs_n ↓fzs_c ↓d7c ↓dSl_a ↓d2e ↓d2f ↓e3o e3p asT_t d7j d7k d7l List.all_cons List.all_nil d7i e2n okL_o okL_b e2p asI_i ioJ_o ioJ_b ioJ_t fzJ_d fzJ_o e2u e2v e2w e2z d6x d6y d1r d1s d1t d1u d1v d1w d6z d7a d7b e3a e3b e3c e3d e3e flC_n flC_c e3f d7d d1x d1y d1z d2a d2b d2c asB_b tru_b tru_n tru_i tru_l tru_t e3g e3h e3i e3j e3k e3l e3m a0n c7v e1q e1r e1s e1t e1u d1g d1h d6h d6i fIx_l fIx_t List.getElem?_cons_zero List.getElem?_cons_succ List.getElem?_nil List.set_cons_zero List.set_cons_succ Option.join_some Option.join_none Option.bind_some Option.bind_none Option.map_some Option.map_none Option.isSome_some List.length_cons List.length_nil List.cons_append List.nil_append b6m Nat.reduceAdd Nat.reduceSub Bool.not_true Bool.not_false" ++ (if p then " ↓d6v ↓e2r b4m atI_1 atI_2 atI_3 atI_4 fIn_f e1v inF_s inF_i Bool.and_self Bool.and_true Bool.or_false Bool.or_true Bool.true_or Bool.false_or e2x e2y d1e d1f c8h List.map_cons List.map_nil List.replicate if_true if_false Bool.false_eq_true true_and and_true List.nodup_cons List.nodup_nil List.not_mem_nil not_false_eq_true List.mem_cons Nat.reduceLeDiff Nat.reduceLT reduceCtorEq Nat.zero_add Nat.reduceEqDiff false_or or_false" else "")).splitOn " ").toArray.mapM fun s => if s.startsWith "↓" then `(Parser.Tactic.simpLemma| ↓$(mkIdent (s.drop 1).toName):ident) else `(Parser.Tactic.simpLemma| $(mkIdent s.toName):ident)
local macro_rules | `(tactic| walk_at "p1") => do let a ← c6g true; `(tactic| simp only [$[$a:simpLemma],*])
local macro_rules | `(tactic| walk_at "d1") => do let a ← c6g false; `(tactic| first | dsimp only [$[$a:simpLemma],*] | walk_at "p1")
local macro_rules | `(tactic| walk_at "dd") => `(tactic| (repeat first | (with_reducible refine c3r ?_) | walk_at "d1"))
local macro_rules | `(tactic| walk_at "k1") => do let a ← c6g true; `(tactic| simp +decide only [$[$a:simpLemma],*])
local macro_rules | `(tactic| walk_at "dk") => `(tactic| (repeat first | (with_reducible refine c3r ?_) | walk_at "k1"))
noncomputable def top(i:Nat):Stmt:=PySem.Challenge.pw_worldsay_k79_machines_written.main.body.getD i (.Pass ⟨0,0,0,0⟩)
--TOP
theorem usS{α:Type}{us:List α}{n:Nat}(h:us.length=n + 1):∃ a r,us=a :: r/\r.length=n:=by
 cases us with
 | nil=>cases h
 | cons a r=>exact⟨a,r,rfl,Nat.succ.inj h⟩
structure Bl(mg:Str->Option Value):Prop where
 len_:mg "len" = none
 range_:mg "range" = none
 tuple_:mg "tuple" = none
 bool_:mg "bool" = none
 isinstance_:mg "isinstance" = none
 reversed_:mg "reversed" = none
 max_:mg "max" = none
 zip_:mg "zip" = none
 list_:mg "list" = none
 str_:mg "str" = none
 enumerate_:mg "enumerate" = none
 dict_:mg "dict" = none
 sum_:mg "sum" = none
 int_:mg "int" = none
 min_:mg "min" = none
 sorted_:mg "sorted" = none
 all_:mg "all" = none
 set_:mg "set" = none
 repr_:mg "repr" = none
 any_:mg "any" = none
def c9q(K:W.Frag):Sp:=fun vs H Q _=>∃ (v:Addr) (ns:List Int) (k:Int),vs=[.ref v,.int k]/\SqL K H v (ns.map V.int)/\0 <= k/\∀ c:Int,(ns=[]->c=0)->Q (.int c) H
def spBy(K:W.Frag):Sp:=fun vs H Q _=>∃ (v:Addr) (ns:List Int) (k many:Int),vs=[.ref v,.int k,.int many]/\SqL K H v (ns.map V.int)/\ns.length <= 63/\0 <= k/\k <= 1000000/\0 < many/\∀ r:Int,0 <= r->r < many->Q (.int r) H
def c9r:DSp:=fun ls Q=>∃ (k:Nat) (many:Int),ls=[.tape k,.d (.int many)]/\0 < many/\k < 1000000/\∀ r:Int,0 <= r->r < many->Q (.d (.int r)) [some (.tape (k + 1)),none]
section
variable{P:Program}{w:World}{K:W.Frag}{mg:Str->Option Value}{base:Heap}
abbrev a5c:Stmt:=top 27
theorem b7w:FnScope ["_law_script","_law_k"] ["_law_script","_law_k"] (a0h a5c):=⟨rfl,rfl,rfl,by decide +kernel,rfl,by decide +kernel,by decide +kernel⟩
theorem c6h{f:Addr}{fd:FuncData} (F:Fun K "_law_cell_at" "_law_cell_at" a5c f fd) (B:Bl mg):FnOk P w K mg base CX0 1 f fd ["_law_script","_law_k"] (c9q K):=by
 refine F.ok b7w (fun vs H Q E h=>?_) (fun cdv A outer s H vs Q E hr h=>?_)
 ·obtain⟨v,ns,k,rfl,_⟩:=h
  rfl
 obtain⟨v,ns,k,rfl,hv,hk,q⟩:=h
 refine⟨_,(a0o (a4a (a2s b4d (a2l a1q rfl B.len_ a2z (a0c (pv 0) a0i)) a0v (a0r _))
  (a0s (a1p (a3f a4l (pv 0) (a2k a8j (pv 1) (a2l a1q rfl B.len_ a2z (a0c (pv 0) a0i))) (fun _ _=>rfl))))
  a3e)
  (a0s (a1p a0v))),?_⟩
 have hl:(ns.map V.int).length=ns.length:=length_map _
 refine⟨_,rfl,v,_,rfl,.inl hv,_,_,rfl,rfl,_,rfl,?_⟩
 rw [hl]
 refine ite2 (fun c=>?_) (fun c=>?_)
 ·have c':(0:Int) < (ns.length:Int):=of_decide_eq_true c
  refine⟨_,rfl,_,rfl,_,rfl,v,_,rfl,.inl hv,_,_,rfl,rfl,?_,?_⟩
  ·rw [hl];exact c'
  ·rw [hl]
   have m0:0 <= k % (ns.length:Int):=emod_nonneg _ (by omega)
   have m1:k % (ns.length:Int) < (ns.length:Int):=Int.emod_lt_of_pos _ c'
   obtain⟨d,e1,e2,_⟩:=c7u (xs:=ns.map V.int) m0 (by rw [hl];exact m1)
   obtain⟨n,_,rfl⟩:=mem_map.mp e2
   exact⟨v,_,_,_,rfl,rfl,hv,e1,q n fun e=>by rw [e] at c';exact absurd c' (by decide)⟩
 ·exact q 0 fun _=>rfl
abbrev b2j:Stmt:=top 28
theorem a8p:FnScope ["_law_script","_law_k","_law_many","_law_cell","_law_part","_law_seed"] ["_law_script","_law_k","_law_many"] (a0h b2j):=⟨rfl,rfl,rfl,by decide +kernel,rfl,by decide +kernel,by decide +kernel⟩
theorem ok_by{f f1:Addr}{fd fd1:FuncData} (F:Fun K "_law_by" "_law_by" b2j f fd) (B:Bl mg) (a4e:Def K mg "_law_cell_at" a5c ["_law_script","_law_k"] f1 fd1):FnOk P w K mg base CX0 2 f fd ["_law_script","_law_k","_law_many"] (spBy K):=by
 have b8x:FnOk P w K mg base CX0 1 f1 fd1 ["_law_script","_law_k"] (c9q K):=c6h a4e.fn B
 refine F.ok a8p (fun vs H Q E h=>?_) (fun cdv A outer s H vs Q E hr h=>?_)
 ·obtain⟨v,ns,k,many,rfl,_⟩:=h
  rfl
 obtain⟨v,ns,k,many,rfl,hv,hl,hk,hk2,hm,q⟩:=h
 refine⟨_,(a0o (a2j (i:=3) a8p.nd rfl (Or.inl rfl) (a2c a4e b8x hr rfl (a0c (pv 0) (a0c (pv 1) a0i))))
  (a0o (a2j (i:=4) a8p.nd rfl (Or.inl rfl) a0v)
  (a0o (a4a (a2s op_ge (pv 3) (a2k e0j a0v a0v) (a0r _))
  (a0s (a2j (i:=4) a8p.nd rfl (Or.inl rfl) (a2k e0k (pv 3) (a2k b0w a0v (a2k d5i (pv 1) (a2l a1q rfl B.len_ a2z (a0c (pv 0) a0i)))))))
  a3e)
  (a0o (a4a (a2s b4d (pv 4) a0v (a0r _))
  (a0s (a1p (a2k a8j (pv 4) (pv 2))))
  a3e)
  (a0o (a2j (i:=5) a8p.nd rfl (Or.inl rfl) (a2k b3b (a2k b3b (a2k a8j (pv 3) a0v) (a2k b0w (a2k b0w a0v (pv 1)) (pv 1))) a0v))
  (a0s (a1p (a2k a8j (a2k a8j (a2k b0w (a2k a8j (a2k b0w (pv 5) a0v) a0v) a0v) a0v) (pv 2))))))))),?_⟩
 have hln:(ns.map V.int).length=ns.length:=length_map _
 refine⟨_,rfl,_,rfl,v,ns,k,rfl,hv,hk,fun c hc=>?_⟩
 have e64:(2:Int) ^ 64=18446744073709551616:=by decide
 refine⟨_,rfl,_,_,rfl,rfl,⟨by decide,by decide,by decide⟩,_,_,rfl,rfl,_,rfl,?_⟩
 refine ite2 (fun c1=>?_) (fun c1=>?_)
 ·have c1':(10:Int) ^ (18:Int).toNat <= c:=of_decide_eq_true c1
  have hne:0 < ns.length:=by
   cases ns with
   | nil=>rw [hc rfl] at c1';exact absurd c1' (by decide)
   | cons _ _=>exact Nat.succ_pos _
  have hd0:0 <= k / (ns.length:Int):=Int.ediv_nonneg hk (by omega)
  refine⟨_,rfl,_,rfl,_,rfl,v,_,rfl,.inl hv,_,_,rfl,rfl,?_,_,_,rfl,rfl,.inl ⟨by decide,by decide⟩,_,_,rfl,rfl,?_,?_⟩
  ·rw [hln];exact⟨by omega,by omega⟩
  ·rw [hln];show(0:Int) <= 20 * (k / (ns.length:Int));omega
  refine⟨_,rfl,_,_,rfl,rfl,_,rfl,?_⟩
  refine ite2 (fun c2=>?_) (fun c2=>?_)
  ·exact⟨_,rfl,_,rfl,_,_,rfl,rfl,hm,q _ (emod_nonneg _ (by omega)) (Int.emod_lt_of_pos _ hm)⟩
  ·refine⟨_,rfl,_,_,rfl,rfl,(by show(0:Int) < 1000003;decide),_,rfl,_,_,rfl,rfl,.inl ⟨by decide,by decide⟩,_,rfl,_,_,rfl,rfl,.inr ⟨by omega,by omega⟩,_,_,rfl,rfl,_,_,rfl,rfl,?_⟩
   refine⟨_,rfl,_,_,rfl,rfl,.inr ⟨by decide,by decide⟩,_,_,rfl,rfl,(by show(0:Int) < 999983;decide),_,_,rfl,rfl,.inr ⟨by decide,by decide⟩,_,_,rfl,rfl,(by show(0:Int) < 524287;decide),_,rfl,_,_,rfl,rfl,hm,?_⟩
   exact q _ (emod_nonneg _ (by omega)) (Int.emod_lt_of_pos _ hm)
 ·refine⟨_,rfl,_,_,rfl,rfl,_,rfl,?_⟩
  refine ite2 (fun c2=>?_) (fun c2=>?_)
  ·exact⟨_,rfl,_,rfl,_,_,rfl,rfl,hm,q _ (emod_nonneg _ (by omega)) (Int.emod_lt_of_pos _ hm)⟩
  ·refine⟨_,rfl,_,_,rfl,rfl,(by show(0:Int) < 1000003;decide),_,rfl,_,_,rfl,rfl,.inl ⟨by decide,by decide⟩,_,rfl,_,_,rfl,rfl,.inr ⟨by omega,by omega⟩,_,_,rfl,rfl,_,_,rfl,rfl,?_⟩
   refine⟨_,rfl,_,_,rfl,rfl,.inr ⟨by decide,by decide⟩,_,_,rfl,rfl,(by show(0:Int) < 999983;decide),_,_,rfl,rfl,.inr ⟨by decide,by decide⟩,_,_,rfl,rfl,(by show(0:Int) < 524287;decide),_,rfl,_,_,rfl,rfl,hm,?_⟩
   exact q _ (emod_nonneg _ (by omega)) (Int.emod_lt_of_pos _ hm)
abbrev a8x:Stmt:=top 29
theorem c2m:FnScope ["_law_tape","_law_many"] ["_law_tape","_law_many"] (a0h a8x):=⟨rfl,rfl,rfl,by decide +kernel,rfl,by decide +kernel,by decide +kernel⟩
theorem d8v{f f1 f2:Addr}{fd fd1 fd2:FuncData} (F:Fun K "_law_next" "_law_next" a8x f fd) (B:Bl mg) (a4e:Def K mg "_law_cell_at" a5c ["_law_script","_law_k"] f1 fd1)
  (b2k:Def K mg "_law_by" b2j ["_law_script","_law_k","_law_many"] f2 fd2):FnOk P w K mg base CX0 3 f fd ["_law_tape","_law_many"] (spD K c9r):=by
 have d2y:FnOk P w K mg base CX0 2 f2 fd2 ["_law_script","_law_k","_law_many"] (spBy K):=ok_by b2k.fn B a4e
 refine F.ok c2m (fun vs H Q E h=>?_) (fun cdv A outer s H vs Q E hr h=>?_)
 ·obtain⟨c,O,ls,Qd,_,_,_,_,_,R,⟨k,many,rfl,_⟩,_⟩:=h
  have:=R.len
  rw [length_map] at this
  exact this
 obtain⟨c,O,ls,Qd,_,_,_,_,_,R,⟨k,many,rfl,hm,hk2,q⟩,fin⟩:=h
 obtain⟨t,hO,hσ0,ht⟩:=R.tap 0 k rfl
 obtain⟨v1,hσ1,a1⟩:=R.dat 1 _ rfl
 have e1:=b1c a1
 subst e1
 have hvs:vs=[.ref t,.int many]:=by
  have hl:=R.len
  rw [length_map] at hl
  obtain⟨x,us,rfl,h1⟩:=usS (n:=1) (by first | exact hl | exact hl.symm)
  obtain⟨y,us,rfl,h2⟩:=usS (n:=0) h1
  obtain rfl:=List.eq_nil_of_length_eq_zero h2
  have e0:x=.ref t:=by simpa using hσ0
  have e1:y=.int many:=by simpa using hσ1
  rw [e0,e1]
 subst hvs
 have hs:=R.sc
 have hl:c.ns.length <= 63:=by simpa using hs.2.1
 refine⟨_,(a0o (e0h (a2k b3b (a3f a4l (pv 0) a0v (fun _ _=>rfl)) a0v) (e0g (pv 0) a0v set_list))
  (a0s (a1p (a2c b2k d2y hr rfl (a0c (a3f a4l (pv 0) a0v (fun _ _=>rfl)) (a0c (a3f a4l (pv 0) a0v (fun _ _=>rfl)) (a0c (pv 1) a0i))))))),?_⟩
 have ht':(upd H t (.lst ([V.ref c.sa,V.int k].set 1 (.int ((k:Int) + 1))))) t=some (.lst [.ref c.sa,.int ((k:Int) + 1)]):=a0e
 obtain⟨R2,P2⟩:=R.write (l:=.tape (k + 1)) (xs:=[]) (vs':=[.ref c.sa,.int ((k + 1:Nat):Int)]) hO ht (.inr (.inr ⟨k,rfl⟩)) (.inr (.inr ⟨k,k + 1,rfl,rfl,rfl⟩))
 have ek:((k + 1:Nat):Int)=(k:Int) + 1:=by omega
 rw [ek] at R2
 refine⟨_,rfl,t,_,1,_,rfl,rfl,SqL.of ht,rfl,_,_,rfl,rfl,_,rfl,t,_,1,1,rfl,rfl,ht,rfl,?_⟩
 refine⟨_,rfl,t,_,0,_,rfl,rfl,SqL.of ht',rfl,_,rfl,t,_,1,_,rfl,rfl,SqL.of ht',rfl,_,rfl,?_⟩
 refine⟨_,c.ns,_,_,rfl,R2.sc.seq,hl,by omega,by omega,hm,fun r h0 h1=>?_⟩
 exact fin (.d (.int r)) O [some (.tape (k + 1)),some (.d (.int many))] _ _ _ (q r h0 h1) ⟨R2,a1y r⟩
end
noncomputable def low(c:Nat):Bool:=decide (97 <= c) && decide (c <= 122)
noncomputable def a0u(x:Str):Bool:=decide (1 <= x.length) && decide (x.length <= 8) && x.cps.toList.all low
noncomputable def a3c(p:Str):List Str->Bool
 | []=>true
 | x :: r=>a0u x && !leC x p && a3c x r
theorem d8w{a b:Str}:leC a b=true ↔ Sx.leS a b:=by unfold leC Sx.leS;exact decide_eq_true_iff
theorem a6t(x:Str):x.cps.toList.length=x.length:=by simp [Str.length]
theorem e4t{x:Str}(h:a0u x=true):¬ Sx.leS x "":=by
 intro h2
 have e:(Str.ofString "").cps.toList=[]:=by decide +kernel
 unfold Sx.leS at h2
 rw [e] at h2
 have hl:x.cps.toList=[]:=by
  cases q:x.cps.toList with
  | nil=>rfl
  | cons a r=>rw [q] at h2;simp at h2
 unfold a0u at h
 simp only [and_eq_true,decide_eq_true_eq] at h
 have:=a6t x
 rw [hl] at this
 simp at this
 omega
theorem b2l:∀ (ss:List Str) (p:Str),(∀ z ∈ ss,a0u z=true)->(a3c p ss=true ↔ (p :: ss).Pairwise fun a b=>¬ Sx.leS b a)
 | [],p,_=>by simp [a3c]
 | x :: r,p,h=>by
  show(a0u x && !leC x p && a3c x r)=true ↔ _
  rw [h x mem_cons_self,Bool.true_and,and_eq_true,b2l r x fun z hz=>h z (mem_cons_of_mem _ hz),Bool.not_eq_true',← Bool.not_eq_true,d8w]
  constructor
  ·rintro⟨h1,h2⟩
   refine pairwise_cons.mpr ⟨fun y hy=>?_,h2⟩
   rcases mem_cons.mp hy with rfl | hy
   ·exact h1
   ·have h3:=List.rel_of_pairwise_cons h2 hy
    intro h4
    have h5:=(Sx.b8q x y).resolve_right h3
    exact h1 (Sx.b3p h5 h4)
  ·intro h2
   exact⟨List.rel_of_pairwise_cons h2 mem_cons_self,(pairwise_cons.mp h2).2⟩
theorem b2m:∀ {l:List Str} {p:Str},a3c p l=true->∀ x ∈ l,a0u x=true
 | [],_,_,x,hx=>by cases hx
 | y :: r,p,h,x,hx=>by
  unfold a3c at h
  rw [and_eq_true,and_eq_true] at h
  rcases mem_cons.mp hx with rfl | hx
  ·exact h.1.1
  ·exact b2m h.2 x hx
theorem a3k{z:Str}(h:a0u z=true):z.length <= 8:=by
 unfold a0u at h
 rw [and_eq_true,and_eq_true] at h
 exact of_decide_eq_true h.1.2
theorem b3s:∀ {l:List Str} {p x:Str} {k:Nat},a3c p l=true->l[k]? = some x->leC x (((l.take k).getLast?).getD p)=false
 | [],_,_,_,_,h=>by simp at h
 | y :: r,p,x,0,h,e=>by
  cases e
  unfold a3c at h
  rw [and_eq_true,and_eq_true] at h
  simpa using h.1.2
 | y :: r,p,x,k + 1,h,e=>by
  unfold a3c at h
  rw [and_eq_true] at h
  have:=b3s (l:=r) (p:=y) (k:=k) h.2 e
  rw [List.take_succ_cons]
  cases hl:r.take k with
  | nil=>rw [hl] at this;exact this
  | cons a b=>rw [hl] at this;rw [List.getLast?_cons_cons,List.getLast?_cons];rw [List.getLast?_cons] at this;exact this
theorem c1l{x:Str}(h:a0u x=true):PyData.strOk x=true:=by
 unfold a0u at h
 simp only [and_eq_true,decide_eq_true_eq] at h
 have h2:=h.2
 unfold PyData.strOk
 rw [← Array.all_toList]
 rw [all_eq_true] at h2 ⊢
 intro c hc
 have:=h2 c hc
 unfold low at this
 simp only [and_eq_true,decide_eq_true_eq] at this
 simp
 omega
theorem c2n{ns:List Str}(h:∀ s ∈ ns,PyData.strOk s=true):SeqAt.shaped (.list (ns.map .str))=true:=by
 have h1:PyData.canLayAll0 (ns.map .str)=true:=by
  induction ns with
  | nil=>rfl
  | cons s r ih=>simp [PyData.canLayAll0,PyData.canLay0,h s (mem_cons_self ..),ih fun z hz=>h z (mem_cons_of_mem _ hz)]
 have h2:PyData.depthAll (ns.map .str)=0:=by
  clear h h1
  induction ns with
  | nil=>rfl
  | cons s r ih=>simp [PyData.depthAll,PyData.depth,ih]
 simp [SeqAt.shaped,PyData.canLay0,h1,PyData.depth,h2]
section
variable{P:Program}{w:World}{K:W.Frag}{mg:Str->Option Value}{base:Heap}{n:Nat}
abbrev b2n(P:Program)(w:World)(K:W.Frag)(mg:Str->Option Value)(base:Heap)(n:Nat)(f:Addr)(fd:FuncData):Prop:=FnOk P w K mg base CX0 n f fd ["_law_tape","_law_many"] (spD K c9r)
abbrev b2o(K:W.Frag)(mg:Str->Option Value)(f:Addr)(fd:FuncData):Prop:=Def K mg "_law_next" a8x ["_law_tape","_law_many"] f fd
end
theorem d8x{a b:Bool}{A R:Prop}(h1:(a=true ∨ b=true)->A)(h2:a=false->b=false->R):if a=true then A else if b=true then A else R:=by
 cases a with
 | true=>exact h1 (.inl rfl)
 | false =>
  cases b with
  | true=>exact h1 (.inr rfl)
  | false=>exact h2 rfl rfl
theorem c9s{x:Int}(h:Rk.small x):b2f x=true:=by
 unfold b2f
 rw [@decide_eq_true _ (Classical.propDecidable _) h.1,@decide_eq_true _ (Classical.propDecidable _) h.2]
 rfl
theorem e4u{x y:Int}(h:Rk.small x ∨ Rk.small y):fMul (.int x) (.int y)=some (.int (x * y)):=by
 show(if b2f x || b2f y then some (PyData.int (x * y)) else none)=_
 rw [if_pos]
 rw [or_eq_true]
 exact h.imp c9s c9s
noncomputable def cost:Nat->Nat
 | 0=>4
 | d + 1=>1 + 3 * cost d
theorem b7x:∀ d,4 <= cost d
 | 0=>le_refl _
 | d + 1=>by have:=b7x d;simp only [cost];omega
def b5p:DSp:=fun ls Q=>∃ k:Nat,ls=[.tape k]/\k < 999990/\∀ (n:Int) (k':Nat),k' <= k + 2 -> -999 <= n->n <= 999->Q (.d (.int n)) [some (.tape k')]
def b6v(m:Nat):DSp:=fun ls Q=>∃ (k d:Nat) (ns:List Str),ls=[.tape k,.d (.list (ns.map .str)),.d (.int d)]/\d < m/\d <= 3/\ns.length <= 10/\k + cost d <= 990000/\(∀ s ∈ ns,PyData.strOk s=true) /\
 ∀ (r:Rk) (k':Nat),k' <= k + cost d->r.Made ns d->Q (.d r.enc) [some (.tape k'),none,none]
section
variable{P:Program}{w:World}{K:W.Frag}{mg:Str->Option Value}{base:Heap}{n:Nat}
abbrev a7j:Stmt:=top 30
theorem b2x:FnScope ["_law_tape","_law_way"] ["_law_tape"] (a0h a7j):=⟨rfl,rfl,rfl,by decide +kernel,rfl,by decide +kernel,by decide +kernel⟩
theorem c9t{f f1:Addr}{fd fd1:FuncData} (F:Fun K "_law_number" "_law_number" a7j f fd) (B:Bl mg) (a0q:b2o K mg f1 fd1) (a0x:b2n P w K mg base n f1 fd1) :
  FnOk P w K mg base CX0 (n + 1) f fd ["_law_tape"] (spD K b5p):=by
 refine F.dok b2x (fun cdv A outer s H E hr ls Qd h=>?_) (fun ls Qd h=>by obtain⟨k,e,_⟩:=h;rw [e];rfl)
 obtain⟨k,rfl,hk,q⟩:=h
 refine⟨rfl,?_⟩
 refine⟨_,(a0j (a4g (i:=1) b2x.nd rfl (Or.inl rfl) (a0p [true,false] a0q a0x hr rfl (a0a (dv 0) (a0a a0g a0d))))
  (a0j (a4b (a2o b1v (a7f _) (dv 1) a0g (a0r _))
  (a0t (a1n (a1b a0w a1c (a1i (a2n (a0a a0g (a0a a0g (a0a a0g (a0a a0g (a0a (b0a a0g) (a0a (b0a a0g) (a0a a0g (a0a a0g a0d)))))))))) (dv 1) (fun _ _=>rfl))))
  a2g)
  (a0t (a1n (a1b a0w a1c (a1i (a2n (a0a a0g (a0a (b0a a0g) (a0a a0g (a0a (b0a a0g) (a0a a0g a0d))))))) (a0p [true,false] a0q a0x hr rfl (a0a (dv 0) (a0a a0g a0d))) (fun _ _=>rfl)))))),?_⟩
 walk_at "dd"
 refine⟨k,9,rfl,by decide,by omega,fun r h0 h1=>?_⟩
 walk_at "dd"
 refine a6s (fun c=>?_) (fun c=>?_)
 ·walk_at "dd"
  refine a4n h0 (by simpa using c) fun d hd _=>?_
  walk_at "dd"
  simp at hd
  rcases hd with rfl | rfl | rfl | rfl | rfl | rfl | rfl | rfl<;>exact q _ _ (by omega) (by omega) (by omega)
 ·walk_at "dd"
  refine⟨k + 1,5,rfl,by decide,by omega,fun r h0 h1=>?_⟩
  walk_at "dd"
  refine a4n h0 h1 fun d hd _=>?_
  walk_at "dd"
  simp at hd
  rcases hd with rfl | rfl | rfl | rfl | rfl<;>exact q _ _ (by omega) (by omega) (by omega)
abbrev a6u:Stmt:=top 31
theorem a8y:FnScope ["_law_tape","_law_names_here","_law_deep","_law_way","_law_word","_law_many"] ["_law_tape","_law_names_here","_law_deep"] (a0h a6u):=⟨rfl,rfl,rfl,by decide +kernel,rfl,by decide +kernel,by decide +kernel⟩
theorem e4v{f f1 f2:Addr}{fd fd1 fd2:FuncData} (F:Fun K "_law_sum" "_law_sum" a6u f fd) (B:Bl mg) (a0q:b2o K mg f1 fd1) (a0x:b2n P w K mg base n f1 fd1)
  (b0d:Def K mg "_law_number" a7j ["_law_tape"] f2 fd2) (c1m:FnOk P w K mg base CX0 n f2 fd2 ["_law_tape"] (spD K b5p))
  (a3t:Def K mg "_law_sum" a6u ["_law_tape","_law_names_here","_law_deep"] f fd) {m:Nat}
  (a6v:FnOk P w K mg base CX0 n f fd ["_law_tape","_law_names_here","_law_deep"] (spD K (b6v m))):FnOk P w K mg base CX0 (n + 1) f fd ["_law_tape","_law_names_here","_law_deep"] (spD K (b6v (m + 1))):=by
 refine F.dok a8y (fun cdv A outer s H E hr ls Qd h=>?_) (fun ls Qd h=>by obtain⟨_,_,_,e,_⟩:=h;rw [e];rfl)
 obtain⟨k,d,ns,rfl,hm,hd,hl,hk,hS,q⟩:=h
 refine⟨rfl,?_⟩
 have cg:=b7x d
 have hsh:=c2n hS
 refine⟨_,(a0j (a4g (i:=3) a8y.nd rfl (Or.inl rfl) (a0p [true,false] a0q a0x hr rfl (a0a (dv 0) (a0a a0g a0d))))
  (a0j (a4b (DW.toT (b6k (a2o (a3n hr.units) a3m (dv 2) a0g (a0r _)) (b3i (a2o b1v (a7f _) (dv 3) a0g (a0r _)))))
  (a0j (a4b (DW.toT (e1g (a2o (b3m hr.units) b3l (dv 1) (a1i (a2n a0d)) (a0r _)) (d5y (a2o b4d (a7f _) (a1r a8j c7w (dv 3) a0g) a0g (a0r _)))))
  (a0t (a1n (a1w (a0a a0l (a0a (a1b a0w a1c (dv 1) (a0p [true,false] a0q a0x hr rfl (a0a (dv 0) (a0a (a3z a4h a9v rfl B.len_ a2z (a0a (dv 1) a0d)) a0d))) (fun _ _=>rfl)) a0d)))))
  a2g)
  (a0t (a1n (a1w (a0a a0l (a0a (a0p [true] b0d c1m hr rfl (a0a (dv 0) a0d)) a0d))))))
  a2g)
  (a0j (a4g (i:=4) a8y.nd rfl (Or.inl rfl) (a1b a0w a1c (a1i (a2n (a0a a0l (a0a a0l (a0a a0l (a0a a0l (a0a a0l (a0a a0l a0d)))))))) (a1r b3c c0h (dv 3) a0g) (fun _ _=>rfl)))
  (a0j (a4g (i:=5) a8y.nd rfl (Or.inl rfl) (a1r a1a a1s a0g (a2e c8o d7p rfl B.int_ b1a (a0a (a7e (a3n hr.units) a3m (dv 4) a0l (a0r _)) a0d))))
  (a0t (a1n (a1r a1a a1s (a1w (a0a (dv 4) a0d)) (a2e a1f a6q rfl B.tuple_ a1v (a0a (a1i (a3w ["_law_k"] [("_law_tape",0),("_law_names_here",1),("_law_deep",2)] rfl (by rfl) (by decide +kernel) (a8o rfl B.range_ (dv 5)) (fun _ _ _=>(a1e (i:=0) (show(["_law_k","_law_tape","_law_names_here","_law_deep"]:List Str).Nodup by decide +kernel) rfl (Or.inl rfl))) (fun _ _ _=>a3g) (fun _ _ _=>(a0p [true,false,false] a3t a6v hr rfl (a0a (dv 1) (a0a (dv 2) (a0a (a1r b3c c0h (dv 3) a0g) a0d))))))) a0d))))))))),?_⟩
 walk_at "dd"
 refine⟨k,10,rfl,by decide,by omega,fun r h0 h1=>?_⟩
 walk_at "dd"
 refine d8x (fun _=>?_) (fun c c0=>?_)
 ·rw [c0t rfl hsh rfl]
  walk_at "dd"
  refine d4k (fun c1=>?_) (fun c1=>?_)
  ·have hne:0 < ns.length:=by
    cases ns with
    | nil=>simp [PyData.eqv,PyData.eqvAll] at c1
    | cons _ _=>simp
   rw [show fMod (.int r) (.int 4)=some (.int (r % 4)) by unfold fMod;exact if_pos (by decide)]
   walk_at "dd"
   refine a6s (fun c2=>?_) (fun c2=>?_)
   ·walk_at "dd"
    refine⟨k + 1,(ns.length:Int),by simp,by omega,by omega,fun r2 h2 h3=>?_⟩
    walk_at "dd"
    refine a4n h2 (by simpa using h3) fun dn hdn _=>?_
    obtain⟨sn,hsn,rfl⟩:=mem_map.mp hdn
    walk_at "dd"
    exact q (.box sn) _ (by omega) (by first | exact hsn | (cases d<;>exact hsn))
   ·walk_at "dd"
    refine⟨k + 1,rfl,by omega,fun x k' hk' hx1 hx2=>?_⟩
    walk_at "dd"
    exact q (.num x) k' (by omega) (by first | exact⟨hx1,hx2⟩ | (cases d<;>exact⟨hx1,hx2⟩))
  ·walk_at "dd"
   refine⟨k + 1,rfl,by omega,fun x k' hk' hx1 hx2=>?_⟩
   walk_at "dd"
   exact q (.num x) k' (by omega) (by first | exact⟨hx1,hx2⟩ | (cases d<;>exact⟨hx1,hx2⟩))
 ·have hd0:0 < d:=by have:=of_decide_eq_false c;omega
  have c0:=of_decide_eq_false c0
  obtain⟨e,rfl⟩:∃ e,d=e + 1:=⟨d - 1,by omega⟩
  have ed:(((e + 1:Nat):Int) - 1)=(e:Int):=by omega
  simp only [cost] at hk q
  walk_at "dd"
  refine a4n (by omega) (by simp;omega) fun dw hdw _=>?_
  have hw:∃ (w:Str) (m:Nat),dw=.str w/\((Rk.IsW w/\m=0) ∨ (w = "pick" /\ m=1))/\c5r [.bool (decide (w = "pick"))]=some (.int (m:Int)):=by
   simp at hdw
   rcases hdw with rfl | rfl | rfl | rfl | rfl | rfl
   ·exact⟨_,0,rfl,.inl ⟨.inl rfl,rfl⟩,rfl⟩
   ·exact⟨_,0,rfl,.inl ⟨.inr (.inl rfl),rfl⟩,rfl⟩
   ·exact⟨_,0,rfl,.inl ⟨.inr (.inr (.inl rfl)),rfl⟩,rfl⟩
   ·exact⟨_,0,rfl,.inl ⟨.inr (.inr (.inr (.inl rfl))),rfl⟩,rfl⟩
   ·exact⟨_,0,rfl,.inl ⟨.inr (.inr (.inr (.inr rfl))),rfl⟩,rfl⟩
   ·exact⟨_,1,rfl,.inr ⟨rfl,rfl⟩,rfl⟩
  obtain⟨w,m,rfl,hw,hint⟩:=hw
  have hm1:m <= 1:=by rcases hw with h | h<;>omega
  walk_at "dd"
  rw [hint]
  walk_at "dd"
  refine⟨⟨by omega,by omega⟩,?_⟩
  rw [show((2:Int) + (m:Int)).toNat=2 + m by omega]
  have hrl:(rngD 0 (2 + m)).length=2 + m:=by simp [rngD]
  refine⟨by rw [hrl];omega,?_⟩
  have cg:=b7x e
  refine a3j (fun i ρ acc=>∃ (v0:Option L) (k':Nat) (rs:List Rk),ρ=[v0,some (.tape k'),some (.d (.list (ns.map .str))),some (.d (.int ((e + 1:Nat):Int)))]/\acc=rs.map Rk.enc/\rs.length=i/\(∀ r ∈ rs,r.Made ns e)/\k' <= k + 1 + i * cost e) ⟨none,k + 1,[],rfl,rfl,rfl,fun r hr=>by simp at hr,by omega⟩ ?_ ?_
  ·rintro i x ρ acc N hx ⟨v0,k',rs,rfl,rfl,hrs,hmd,hk'⟩ hN
   have hi:i < 2 + m:=by rw [← hrl];exact(List.getElem?_eq_some_iff.mp hx).1
   have hik:i * cost e <= 2 * cost e:=Nat.mul_le_mul_right _ (by omega)
   walk_at "dd"
   rw [ed]
   refine⟨k',e,ns,rfl,by omega,by omega,hl,by omega,hS,fun a ka hka ma=>?_⟩
   walk_at "dd"
   refine hN _ _ ⟨_,ka,rs ++ [a],rfl,by rw [map_append];rfl,by rw [length_append,hrs];rfl,fun r hr=>?_,by rw [Nat.succ_mul];omega⟩
   rcases mem_append.mp hr with h | h
   ·exact hmd r h
   ·rw [mem_singleton.mp h];exact ma
  ·rintro ρ acc ⟨v0,k',rs,rfl,rfl,hrs,hmd,hk'⟩
   rw [hrl] at hrs hk'
   have hik:(2 + m) * cost e <= 3 * cost e:=Nat.mul_le_mul_right _ (by omega)
   walk_at "dd"
   rw [e1w (by rw [length_map,hrs];simp [sizeLine_eq];omega)]
   walk_at "dd"
   rcases hw with⟨hw,rfl⟩ | ⟨rfl,rfl⟩
   ·obtain⟨a,b,rfl⟩:∃ a b,rs=[a,b]:=by
     match rs,hrs with
     | [a,b],_=>exact⟨a,b,rfl⟩
    exact q (.two w a b) k' (by omega) ⟨hw,hmd a (by simp),hmd b (by simp)⟩
   ·obtain⟨a,b,c,rfl⟩:∃ a b c,rs=[a,b,c]:=by
     match rs,hrs with
     | [a,b,c],_=>exact⟨a,b,c,rfl⟩
    exact q (.pick a b c) k' (by omega) ⟨hmd a (by simp),hmd b (by simp),hmd c (by simp)⟩
end
structure Box where
 nm:Str
 lo:Int
 hi:Int
 fst:Int
structure Deed where
 g:Rk
 lays:List (Str × Rk)
noncomputable def encB(b:Box):PyData:=.tuple [.str b.nm,.int b.lo,.int b.hi,.int b.fst]
noncomputable def encL(p:Str × Rk):PyData:=.tuple [.str p.1,p.2.enc]
noncomputable def encD(d:Deed):PyData:=.tuple [d.g.enc,.tuple (d.lays.map encL)]
noncomputable def encH(p:Str × List Str):PyData:=.tuple [.str p.1,.tuple (p.2.map .str)]
structure GoodB(x:Box):Prop where
 a:-999 <= x.lo
 b:x.lo <= x.fst
 c:x.fst <= x.hi
 d:x.hi <= 999
structure GoodD(ns:List Str)(x:Deed):Prop where
 g:x.g.Made ns 2
 l:∀ p ∈ x.lays,p.2.Made ns 2/\p.1 ∈ ns
 n:x.lays.length <= 4
 u:(x.lays.map Prod.fst).Nodup
structure GoodH(ns:List Str)(x:Str × List Str):Prop where
 r:a3c "" x.2=true
 m:∀ z ∈ x.2,z ∈ ns
 n:x.2.length <= 4
noncomputable def HN:List Str:=["a","ab","abc","b"]
noncomputable def FN:List Str:=["p","pp","pq","q","qa"]
noncomputable def encM(bs:List Box)(hs:List (Str × List Str))(ds:List Deed)(fs:List (Str × Rk)):PyData:=.tuple [.tuple (bs.map encB),.tuple (hs.map encH),.tuple (ds.map encD),.tuple (fs.map encL)]
structure GoodM(ns:List Str)(bs:List Box)(hs:List (Str × List Str))(ds:List Deed)(fs:List (Str × Rk)):Prop where
 bn:bs.map (·.nm)=ns
 len:ns.length <= 4
 pos:0 < ns.length
 nd:ns.Nodup
 ok:∀ s ∈ ns,a0u s=true
 b:∀ x ∈ bs,GoodB x
 h:∀ x ∈ hs,GoodH ns x
 hn:(hs.map Prod.fst).Sublist HN
 d:∀ x ∈ ds,GoodD ns x
 dl:ds.length <= 7
 f:∀ x ∈ fs,x.2.Made ns 2
 fn:(fs.map Prod.fst).Sublist FN
noncomputable def POOL:List Str:=["a","ab","abc","box","add","lay","b","num","abcdefgh"]
noncomputable def nmAt(r c k:Nat):Str:=POOL.getD ((r + c * k) % 9) "a"
theorem d8y:∀ s ∈ POOL,a0u s=true:=by decide +kernel
theorem d2z:∀ r < 9,∀ c ∈ [1,2,4,5],((List.range 4).map (nmAt r c)).Nodup:=by decide +kernel
theorem d8z(r c k:Nat):nmAt r c k ∈ POOL:=by
 unfold nmAt
 have h:(r + c * k) % 9 < POOL.length:=Nat.mod_lt _ (by decide)
 rw [List.getD_eq_getElem?_getD,getElem?_eq_getElem h]
 exact List.getElem_mem h
def b7y:DSp:=fun ls Q=>∃ (k m:Nat),ls=[.tape k,.d (.int (m:Int))]/\m <= 4/\k < 900000/\∀ ns:List Str,ns.length=m->ns.Nodup->(∀ s ∈ ns,a0u s=true)->Q (.d (.list (ns.map .str))) [some (.tape (k + 2)),none]
def c6i:DSp:=fun ls Q=>∃ (k:Nat) (s:Str),ls=[.tape k,.d (.str s)]/\k < 900000/\∀ (b:Box) (k':Nat),k' <= k + 4->b.nm=s->GoodB b->Q (.d (encB b)) [some (.tape k'),none]
def c1n:DSp:=fun ls Q=>∃ (k:Nat) (ns:List Str),ls=[.tape k,.d (.list (ns.map .str))]/\ns.length <= 4/\ns.Nodup/\(∀ s ∈ ns,a0u s=true)/\k < 900000/\∀ (ss:List Str) (k':Nat),k' <= k + 4->a3c "" ss=true->(∀ z ∈ ss,z ∈ ns)->ss.length <= 4->Q (.d (.tuple (ss.map .str))) [some (.tape k'),none]
def c1o:DSp:=fun ls Q=>∃ (k:Nat) (ns:List Str),ls=[.tape k,.d (.list (ns.map .str))]/\ns.length <= 4/\ns.Nodup/\(∀ s ∈ ns,a0u s=true)/\k < 900000/\∀ (d:Deed) (k':Nat),k' <= k + 300->GoodD ns d->Q (.d (encD d)) [some (.tape k'),none]
def b3t:DSp:=fun ls Q=>∃ (k:Nat),ls=[.tape k]/\k <= 1000/\∀ (ns:List Str) (bs:List Box) (hs:List (Str × List Str)) (ds:List Deed) (fs:List (Str × Rk)) (k':Nat),k' <= k + 5000->GoodM ns bs hs ds fs->Q (.d (encM bs hs ds fs)) [some (.tape k')]
theorem c6j{ss:List Str}(nd:ss.Nodup)(ok:∀ z ∈ ss,a0u z=true):a3c "" (Sx.srtS ss)=true:=by
 have hp:=Sx.b3q ss
 have ok':∀ z ∈ Sx.srtS ss,a0u z=true:=fun z hz=>ok z (hp.mem_iff.mp hz)
 have nd':(Sx.srtS ss).Nodup:=hp.nodup_iff.mpr nd
 rw [b2l _ "" ok']
 refine pairwise_cons.mpr ⟨fun y hy=>e4t (ok' y hy),?_⟩
 exact List.Pairwise.imp₂ (fun a b hab hne hba=>hne (Sx.c1f a b hab hba)) (Sx.c3v ss) nd'
theorem c1p{m a:Nat}{u:PyData}(h:(rngD 0 m)[a]? = some u):a < m/\u=.int (a:Int):=by
 have ha:a < m:=by
  have:=(List.getElem?_eq_some_iff.mp h).1
  simpa [rngD] using this
 refine⟨ha,?_⟩
 simp only [rngD,getElem?_map,List.getElem?_range ha,map_some] at h
 have:=(Option.some.inj h).symm
 rw [this];congr 1;omega
theorem mod9(x:Int):fMod (.int x) (.int 9)=some (.int (x % 9)):=by unfold fMod;exact if_pos (by decide)
section
variable{P:Program}{w:World}{K:W.Frag}{mg:Str->Option Value}{base:Heap}{n:Nat}
abbrev a8h:Stmt:=top 32
theorem a7k:FnScope ["_law_tape","_law_many","_law_pool","_law_start","_law_step"] ["_law_tape","_law_many"] (a0h a8h):=⟨rfl,rfl,rfl,by decide +kernel,rfl,by decide +kernel,by decide +kernel⟩
theorem d3a{f f1:Addr}{fd fd1:FuncData} (F:Fun K "_law_names" "_law_names" a8h f fd) (B:Bl mg) (a0q:b2o K mg f1 fd1) (a0x:b2n P w K mg base n f1 fd1):FnOk P w K mg base CX0 (n + 1) f fd ["_law_tape","_law_many"] (spD K b7y):=by
 refine F.dok a7k (fun cdv A outer s H E hr ls Qd h=>?_) (fun ls Qd h=>by obtain⟨_,_,e,_⟩:=h;rw [e];rfl)
 obtain⟨k,m,rfl,hm,hk,q⟩:=h
 refine⟨rfl,?_⟩
 refine⟨_,(a0j (a4g (i:=2) a7k.nd rfl (Or.inr rfl) (a1i (a2n (a0a a0l (a0a a0l (a0a a0l (a0a a0l (a0a a0l (a0a a0l (a0a a0l (a0a a0l (a0a a0l a0d))))))))))))
  (a0j (a4g (i:=3) a7k.nd rfl (Or.inr rfl) (a0p [true,false] a0q a0x hr rfl (a0a (dv 0) (a0a a0g a0d))))
  (a0j (a4g (i:=4) a7k.nd rfl (Or.inr rfl) (a1b a0w a1c (a1i (a2n (a0a a0g (a0a a0g (a0a a0g (a0a a0g a0d)))))) (a0p [true,false] a0q a0x hr rfl (a0a (dv 0) (a0a a0g a0d))) (fun _ _=>rfl)))
  (a0t (a1n (a1i (a3w ["_law_k"] [("_law_pool",2),("_law_start",3),("_law_step",4)] rfl (by rfl) (by decide +kernel) (a8o rfl B.range_ (dv 1)) (fun _ _ _=>(a1e (i:=0) (show(["_law_k","_law_pool","_law_start","_law_step"]:List Str).Nodup by decide +kernel) rfl (Or.inl rfl))) (fun _ _ _=>a3g) (fun _ _ _=>(a1b a0w a1c (dv 1) (a1r a8j c7w (a1r a1a a1s (dv 2) (a1r c7x e0x (dv 3) (dv 0))) a0g) (fun _ _=>rfl)))))))))),?_⟩
 walk_at "dd"
 refine⟨k,9,rfl,by decide,by omega,fun r h0 h1=>?_⟩
 walk_at "dd"
 refine⟨k + 1,4,rfl,by decide,by omega,fun r2 h2 h3=>?_⟩
 walk_at "dd"
 refine a4n h2 h3 fun dd hdd _=>?_
 have hc:∃ c:Nat,dd=.int (c:Int)/\c ∈ [1,2,4,5]:=by
  simp at hdd
  rcases hdd with rfl | rfl | rfl | rfl
  ·exact⟨1,rfl,by decide⟩
  ·exact⟨2,rfl,by decide⟩
  ·exact⟨4,rfl,by decide⟩
  ·exact⟨5,rfl,by decide⟩
 obtain⟨c,rfl,hc⟩:=hc
 obtain⟨R,rfl⟩:∃ R:Nat,r=(R:Int):=⟨r.toNat,by omega⟩
 walk_at "dd"
 refine⟨⟨by omega,by omega⟩,?_⟩
 walk_at "dd"
 have hc5:c <= 5:=by
  simp at hc
  omega
 refine⟨by simp [rngD];omega,?_⟩
 rw [show((m:Int)).toNat=m by omega]
 refine a3j (fun i ρ acc=>∃ (v0:Option L),ρ=[v0,some (.d (.list (POOL.map .str))),some (.d (.int (R:Int))),some (.d (.int (c:Int)))]/\acc=((List.range i).map (nmAt R c)).map .str/\i <= 4) ⟨none,rfl,rfl,by omega⟩ ?_ ?_
 ·rintro i x ρ acc N hx ⟨v0,rfl,rfl,hi⟩ hN
  obtain⟨hi2,rfl⟩:=c1p hx
  walk_at "dd"
  rw [e4u (Or.inl ⟨by omega,by omega⟩)]
  walk_at "dd"
  rw [mod9]
  walk_at "dd"
  have hp:((R:Int) + (c:Int) * (i:Int)) % 9=(((R + c * i) % 9:Nat):Int):=by push_cast;rfl
  rw [hp]
  refine a4n (by omega) (by rw [length_map,show POOL.length=9 from rfl];omega) fun d _ hd=>?_
  walk_at "dd"
  rw [show((((R + c * i) % 9:Nat):Int)).toNat=(R + c * i) % 9 by omega,getElem?_map] at hd
  obtain⟨sd,hsd,rfl⟩:=map_eq_some_iff.mp hd
  have e:nmAt R c i=sd:=by
   unfold nmAt
   rw [List.getD_eq_getElem?_getD,hsd];rfl
  refine hN _ _ ⟨_,rfl,?_,by omega⟩
  rw [List.range_succ,map_append,map_append,← e]
  rfl
 ·rintro ρ acc ⟨v0,rfl,rfl,hi⟩
  have hr:(rngD 0 m).length=m:=by simp [rngD]
  rw [hr]
  refine q ((List.range m).map (nmAt R c)) (by simp) ?_ fun s hs=>?_
  ·refine List.Nodup.sublist ((List.range_sublist.mpr hm).map _) (d2z R (by omega) c hc)
  ·obtain⟨i,_,rfl⟩:=mem_map.mp hs
   exact d8y _ (d8z R c i)
abbrev b0m:Stmt:=top 33
theorem b2p:FnScope ["_law_tape","_law_name","_law_least","_law_greatest"] ["_law_tape","_law_name"] (a0h b0m):=⟨rfl,rfl,rfl,by decide +kernel,rfl,by decide +kernel,by decide +kernel⟩
theorem e4w{f f1:Addr}{fd fd1:FuncData} (F:Fun K "_law_box" "_law_box" b0m f fd) (B:Bl mg) (a0q:b2o K mg f1 fd1) (a0x:b2n P w K mg base n f1 fd1):FnOk P w K mg base CX0 (n + 1) f fd ["_law_tape","_law_name"] (spD K c6i):=by
 refine F.dok b2p (fun cdv A outer s H E hr ls Qd h=>?_) (fun ls Qd h=>by obtain⟨_,_,e,_⟩:=h;rw [e];rfl)
 obtain⟨k,z,rfl,hk,q⟩:=h
 refine⟨rfl,?_⟩
 refine⟨_,(a0j (a4b (a2o (a3n hr.units) a3m (a0p [true,false] a0q a0x hr rfl (a0a (dv 0) (a0a a0g a0d))) a0g (a0r _))
  (a0t (a1n (a1w (a0a (dv 1) (a0a (b0a a0g) (a0a a0g (a0a (a1b a0w a1c (a1i (a2n (a0a a0g (a0a (b0a a0g) (a0a a0g (a0a a0g a0d)))))) (a0p [true,false] a0q a0x hr rfl (a0a (dv 0) (a0a a0g a0d))) (fun _ _=>rfl)) a0d)))))))
  a2g)
  (a0j (a4g (i:=2) b2p.nd rfl (Or.inl rfl) (b0a (a0p [true,false] a0q a0x hr rfl (a0a (dv 0) (a0a a0g a0d)))))
  (a0j (a4g (i:=3) b2p.nd rfl (Or.inl rfl) (a1r a1a a1s (dv 2) (a0p [true,false] a0q a0x hr rfl (a0a (dv 0) (a0a a0g a0d)))))
  (a0t (a1n (a1w (a0a (dv 1) (a0a (dv 2) (a0a (dv 3) (a0a (a1r a1a a1s (dv 2) (a0p [true,false] a0q a0x hr rfl (a0a (dv 0) (a0a (a1r a1a a1s (a1r b3c c0h (dv 3) (dv 2)) a0g) a0d)))) a0d)))))))))),?_⟩
 walk_at "dd"
 refine⟨k,9,rfl,by decide,by omega,fun r h0 h1=>?_⟩
 walk_at "dd"
 refine a6s (fun c=>?_) (fun c=>?_)
 ·walk_at "dd"
  refine⟨k + 1,4,rfl,by decide,by omega,fun r2 h2 h3=>?_⟩
  walk_at "dd"
  refine a4n h2 h3 fun dd hdd _=>?_
  have hc:∃ c:Int,dd=.int c /\ -999 <= c/\c <= 999:=by
   simp at hdd
   rcases hdd with rfl | rfl | rfl | rfl<;>exact⟨_,rfl,by decide,by decide⟩
  obtain⟨c,rfl,hc1,hc2⟩:=hc
  walk_at "dd"
  exact q ⟨z,-999,999,c⟩ _ (by omega) rfl ⟨Int.le_refl _,hc1,hc2,Int.le_refl _⟩
 ·walk_at "dd"
  refine⟨k + 1,3,rfl,by decide,by omega,fun r2 h2 h3=>?_⟩
  walk_at "dd"
  refine⟨k + 2,4,rfl,by decide,by omega,fun r3 h4 h5=>?_⟩
  walk_at "dd"
  refine⟨k + 3,_,rfl,by omega,by omega,fun r4 h6 h7=>?_⟩
  walk_at "dd"
  exact q ⟨z,-r2,-r2 + r3,-r2 + r4⟩ _ (by omega) rfl ⟨by show -999 <= -r2;omega,by show -r2 <= -r2 + r4;omega,by show -r2 + r4 <= -r2 + r3;omega,by show -r2 + r3 <= 999;omega⟩
abbrev a4u:Stmt:=top 34
theorem b4y:FnScope ["_law_tape","_law_names_here"] ["_law_tape","_law_names_here"] (a0h a4u):=⟨rfl,rfl,rfl,by decide +kernel,rfl,by decide +kernel,by decide +kernel⟩
theorem d9a{f f1:Addr}{fd fd1:FuncData} (F:Fun K "_law_some_names" "_law_some_names" a4u f fd) (B:Bl mg) (a0q:b2o K mg f1 fd1) (a0x:b2n P w K mg base n f1 fd1):FnOk P w K mg base CX0 (n + 1) f fd ["_law_tape","_law_names_here"] (spD K c1n):=by
 refine F.dok b4y (fun cdv A outer s H E hr ls Qd h=>?_) (fun ls Qd h=>by obtain⟨_,_,e,_⟩:=h;rw [e];rfl)
 obtain⟨k,ns,rfl,hl,hnd,hS,hk,q⟩:=h
 refine⟨rfl,?_⟩
 refine⟨_,(a0t (a1n (a2e a1f a6q rfl B.tuple_ a1v (a0a (a3z c6a d2n rfl B.sorted_ c8p (a0a (a1i (a3w ["_law_name"] [("_law_tape",0)] rfl (by rfl) (by decide +kernel) (a3a (dv 1)) (fun _ _ _=>(a1e (i:=0) (show(["_law_name","_law_tape"]:List Str).Nodup by decide +kernel) rfl (Or.inl rfl))) (fun _ _ _=>(b7p (a2o (a3n hr.units) a3m (a0p [true,false] a0q a0x hr rfl (a0a (dv 1) (a0a a0g a0d))) a0g (a0r _)))) (fun _ _ _=>(dv 0)))) a0d)) a0d)))),?_⟩
 walk_at "dd"
 refine⟨by rw [length_map];omega,?_⟩
 refine a3j (fun i ρ acc=>∃ (v0:Option L) (k':Nat) (ss:List Str),ρ=[v0,some (.tape k')]/\acc=ss.map .str/\ss.Sublist (ns.take i)/\i <= 4/\k' <= k + i) ⟨none,k,[],rfl,rfl,nil_sublist _,by omega,by omega⟩ ?_ ?_
 ·rintro i x ρ acc N hx ⟨v0,k',ss,rfl,rfl,hs,hi,hk'⟩ hN
  have hi2:i < ns.length:=by simpa using (List.getElem?_eq_some_iff.mp hx).1
  rw [getElem?_map] at hx
  obtain⟨sx,hsx,rfl⟩:=map_eq_some_iff.mp hx
  have et:ns.take (i + 1)=ns.take i ++ [sx]:=by rw [take_add_one,hsx];rfl
  walk_at "dd"
  refine⟨k',2,rfl,by decide,by omega,fun r h0 h1=>?_⟩
  walk_at "dd"
  refine a6s (fun c=>?_) (fun c=>?_)
  ·walk_at "dd"
   exact hN _ _ ⟨_,k' + 1,ss ++ [sx],rfl,by simp,by rw [et];exact hs.append (List.Sublist.refl _),by omega,by omega⟩
  ·exact hN _ _ ⟨_,k' + 1,ss,rfl,rfl,by rw [et];exact hs.trans (List.sublist_append_left _ _),by omega,by omega⟩
 ·rintro ρ acc ⟨v0,k',ss,rfl,rfl,hs,hi,hk'⟩
  rw [length_map] at hs hi hk'
  rw [take_length] at hs
  have hsl:=hs.length_le
  walk_at "dd"
  rw [d2o (by omega),a0n]
  walk_at "dd"
  have hp:=Sx.b3q ss
  exact q _ _ (by omega) (c6j (hnd.sublist hs) fun z hz=>hS z (hs.subset hz)) (fun z hz=>hs.subset (hp.mem_iff.mp hz)) (by rw [hp.length_eq];omega)
abbrev a8z:Stmt:=top 35
theorem b0r:FnScope ["_law_tape","_law_names_here","_law_lays","_law_name"] ["_law_tape","_law_names_here"] (a0h a8z):=⟨rfl,rfl,rfl,by decide +kernel,rfl,by decide +kernel,by decide +kernel⟩
theorem d9b{f f1 f3:Addr}{fd fd1 fd3:FuncData} (F:Fun K "_law_deed" "_law_deed" a8z f fd) (B:Bl mg) (a0q:b2o K mg f1 fd1) (a0x:b2n P w K mg base n f1 fd1)
  (a3t:Def K mg "_law_sum" a6u ["_law_tape","_law_names_here","_law_deep"] f3 fd3) (a6v:FnOk P w K mg base CX0 n f3 fd3 ["_law_tape","_law_names_here","_law_deep"] (spD K (b6v 20))):FnOk P w K mg base CX0 (n + 1) f fd ["_law_tape","_law_names_here"] (spD K c1o):=by
 refine F.dok b0r (fun cdv A outer s H E hr ls Qd h=>?_) (fun ls Qd h=>by obtain⟨_,_,e,_⟩:=h;rw [e];rfl)
 obtain⟨k,ns,rfl,hl,hnd,hN0,hk,q⟩:=h
 have hS:∀ s ∈ ns,PyData.strOk s=true:=fun s hs=>c1l (hN0 s hs)
 refine⟨rfl,?_⟩
 have c2:cost 2=40:=by decide
 refine⟨_,(a0j (a9f (i:=2) b0r.nd rfl (Or.inl rfl) (a2n a0d))
  (a0j (a8n PassesOwn.never rfl (a3a (dv 1)) (a1e (i:=3) b0r.nd rfl (Or.inl rfl))
  (a0t (a4b (a2o (a3n hr.units) a3m (a0p [true,false] a0q a0x hr rfl (a0a (dv 0) (a0a a0g a0d))) a0g (a0r _))
  (a0t (a5f (c8t 2 rfl (a0p [true,false] a0q a0x hr rfl (a0a (dv 0) (a0a (a1r a1a a1s (a3z a4h a9v rfl B.len_ a2z (a0a (dv 2) a0d)) a0g) a0d))) (a1w (a0a (dv 3) (a0a (a0p [true,false,false] a3t a6v hr rfl (a0a (dv 0) (a0a (dv 1) (a0a a0g a0d)))) a0d))))))
  a2g)))
  (a0t (a1n (a1w (a0a (a0p [true,false,false] a3t a6v hr rfl (a0a (dv 0) (a0a (dv 1) (a0a a0g a0d)))) (a0a (a2e a1f a6q rfl B.tuple_ a1v (a0a (dv 2) a0d)) a0d))))))),?_⟩
 walk_at "dd"
 refine a5s (fun i ρ=>∃ (k':Nat) (lays:List (Str × Rk)) (v3:Option L),ρ=[some (.tape k'),some (.d (.list (ns.map .str))),some (.own (lays.map encL)),v3]/\k' <= k + 50 * i/\lays.length <= i/\i <= 4/\(∀ p ∈ lays,p.2.Made ns 2/\p.1 ∈ ns.take i)/\(lays.map Prod.fst).Nodup) ⟨k,[],none,rfl,by omega,by simp,by omega,fun p hp=>by simp at hp,by simp⟩ ?_ ?_
 ·rintro i x ρ N hx ⟨k',lays,v3,rfl,hk',hll,hi,hlm,hlu⟩ hN
  have hi2:i < ns.length:=by simpa using (List.getElem?_eq_some_iff.mp hx).1
  rw [getElem?_map] at hx
  obtain⟨sx,hsx,rfl⟩:=map_eq_some_iff.mp hx
  have et:ns.take (i + 1)=ns.take i ++ [sx]:=by rw [take_add_one,hsx];rfl
  have hnew:sx ∉ ns.take i:=by
   have h1:(ns.take (i + 1)).Nodup:=hnd.sublist (List.take_sublist _ _)
   rw [et] at h1
   intro h2
   exact(nodup_append.mp h1).2.2 sx h2 sx (mem_singleton.mpr rfl) rfl
  walk_at "dd"
  refine⟨k',2,rfl,by decide,by omega,fun r h0 h1=>?_⟩
  walk_at "dd"
  refine a6s (fun c=>?_) (fun c=>?_)
  ·walk_at "dd"
   refine⟨k' + 1,_,rfl,by omega,by omega,fun r2 h2 h3=>?_⟩
   walk_at "dd"
   refine⟨k' + 2,2,ns,rfl,by omega,by omega,by omega,by omega,hS,fun r0 k1 hk1 m0=>?_⟩
   walk_at "dd"
   have hlen:(lays.map encL).length=lays.length:=length_map _
   refine⟨⟨h2,by omega,by omega⟩,?_⟩
   have e:(lays.map encL).take r2.toNat ++ PyData.tuple [.str sx,r0.enc] :: (lays.map encL).drop r2.toNat=(lays.take r2.toNat ++ (sx,r0) :: lays.drop r2.toNat).map encL:=by
    rw [map_append,map_cons,List.map_take,List.map_drop]
    rfl
   rw [e]
   have pm:(lays.take r2.toNat ++ (sx,r0) :: lays.drop r2.toNat).Perm ((sx,r0) :: lays):=List.perm_middle.trans (by rw [List.take_append_drop])
   refine hN _ ⟨k1,_,_,rfl,by omega,?_,by omega,fun p hp=>?_,?_⟩
   ·rw [length_append,length_cons,length_take,length_drop];omega
   ·rw [et]
    rcases mem_cons.mp (pm.mem_iff.mp hp) with rfl | hp
    ·exact⟨m0,mem_append_right _ (mem_singleton.mpr rfl)⟩
    ·exact⟨(hlm p hp).1,mem_append_left _ (hlm p hp).2⟩
   ·rw [(pm.map Prod.fst).nodup_iff,map_cons,nodup_cons]
    refine⟨fun hm=>?_,hlu⟩
    obtain⟨p,hp,e⟩:=mem_map.mp hm
    have e:p.1=sx:=e
    exact hnew (by rw [← e];exact(hlm p hp).2)
  ·exact hN _ ⟨k' + 1,lays,_,rfl,by omega,by omega,by omega,fun p hp=>⟨(hlm p hp).1,by rw [et];exact mem_append_left _ (hlm p hp).2⟩,hlu⟩
 ·rintro ρ ⟨k',lays,v3,rfl,hk',hll,hi,hlm,hlu⟩
  rw [length_map] at hk' hll hi
  walk_at "dd"
  refine⟨k',2,ns,rfl,by omega,by omega,by omega,by omega,hS,fun r0 k1 hk1 m0=>?_⟩
  walk_at "dd"
  exact q ⟨r0,lays⟩ k1 (by omega) ⟨m0,fun p hp=>⟨(hlm p hp).1,List.mem_of_mem_take (hlm p hp).2⟩,by show lays.length <= 4;omega,hlu⟩
end
theorem c2o{c:Prop}[Decidable c]{A:Prop}{t:TDS}{D:DEnds}{q:Rho}(J:Rho->Prop)(h1:c->(∀ ρ,J ρ->later t D ρ)->A)(h2:¬ c->J q)(hF:∀ ρ,J ρ->later t D ρ):if decide c=true then A else later t D q:=by
 by_cases h:c
 ·rw [if_pos (decide_eq_true h)];exact h1 h hF
 ·rw [if_neg (by rw [decide_eq_false h];exact Bool.false_ne_true)];exact hF _ (h2 h)
section
variable{P:Program}{w:World}{K:W.Frag}{mg:Str->Option Value}{base:Heap}{n:Nat}
theorem c9u{ns:List Str}{s:Str}(h:s ∈ ns):GoodD ns ⟨.num 1,[(s,.two "add" (.box s) (.num 1))]⟩:=by
 refine⟨⟨by decide,by decide⟩,fun p hp=>?_,by show 1 <= 4;decide,by simp⟩
 rcases mem_singleton.mp hp with rfl
 exact⟨⟨Or.inl rfl,h,by decide,by decide⟩,h⟩
theorem d3b(s:Str):PyData.tuple [.tuple [.str "num",.int 1],.tuple [.tuple [.str s,.tuple [.str "add",.tuple [.str "box",.str s],.tuple [.str "num",.int 1]]]]]=encD ⟨.num 1,[(s,.two "add" (.box s) (.num 1))]⟩:=rfl
abbrev a6o:Stmt:=top 36
theorem a3x:FnScope ["_law_tape","_law_names_here","_law_boxes","_law_hands","_law_deeds","_law_facts"] ["_law_tape"] (a0h a6o):=⟨rfl,rfl,rfl,by decide +kernel,rfl,by decide +kernel,by decide +kernel⟩
theorem c6k{f f1 f2 f3 f4 f5 f6:Addr}{fd fd1 fd2 fd3 fd4 fd5 fd6:FuncData} (F:Fun K "_law_machine" "_law_machine" a6o f fd) (B:Bl mg) (a0q:b2o K mg f1 fd1) (a0x:b2n P w K mg base n f1 fd1)
  (b0s:Def K mg "_law_names" a8h ["_law_tape","_law_many"] f2 fd2) (c2p:FnOk P w K mg base CX0 n f2 fd2 ["_law_tape","_law_many"] (spD K b7y))
  (a3t:Def K mg "_law_sum" a6u ["_law_tape","_law_names_here","_law_deep"] f3 fd3) (a6v:FnOk P w K mg base CX0 n f3 fd3 ["_law_tape","_law_names_here","_law_deep"] (spD K (b6v 20)))
  (b3u:Def K mg "_law_box" b0m ["_law_tape","_law_name"] f4 fd4) (c9v:FnOk P w K mg base CX0 n f4 fd4 ["_law_tape","_law_name"] (spD K c6i))
  (a6r:Def K mg "_law_some_names" a4u ["_law_tape","_law_names_here"] f5 fd5) (b5q:FnOk P w K mg base CX0 n f5 fd5 ["_law_tape","_law_names_here"] (spD K c1n))
  (b2q:Def K mg "_law_deed" a8z ["_law_tape","_law_names_here"] f6 fd6) (c6l:FnOk P w K mg base CX0 n f6 fd6 ["_law_tape","_law_names_here"] (spD K c1o)):FnOk P w K mg base CX0 (n + 1) f fd ["_law_tape"] (spD K b3t):=by
 refine F.dok a3x (fun cdv A outer s H E hr ls Qd h=>?_) (fun ls Qd h=>by obtain⟨_,e,_⟩:=h;rw [e];rfl)
 obtain⟨k,rfl,hk,q⟩:=h
 refine⟨rfl,?_⟩
 have c2:cost 2=40:=by decide
 refine⟨_,(a0j (a4g (i:=1) a3x.nd rfl (Or.inr rfl) (a0p [true,false] b0s c2p hr rfl (a0a (dv 0) (a0a (a1r a1a a1s a0g (a0p [true,false] a0q a0x hr rfl (a0a (dv 0) (a0a a0g a0d)))) a0d))))
  (a0j (a4g (i:=2) a3x.nd rfl (Or.inl rfl) (a2e a1f a6q rfl B.tuple_ a1v (a0a (a1i (a3w ["_law_name"] [("_law_tape",0)] rfl (by rfl) (by decide +kernel) (a3a (dv 1)) (fun _ _ _=>(a1e (i:=0) (show(["_law_name","_law_tape"]:List Str).Nodup by decide +kernel) rfl (Or.inl rfl))) (fun _ _ _=>a3g) (fun _ _ _=>(a0p [true,false] b3u c9v hr rfl (a0a (dv 1) (a0a (dv 0) a0d)))))) a0d)))
  (a0j (b4l (i:=3) a3x.nd rfl rfl ["_law_hand"] [("_law_tape",0),("_law_names_here",1)] rfl (by rfl) (by decide +kernel) (a3a (a1i (a2n (a0a a0l (a0a a0l (a0a a0l (a0a a0l a0d))))))) (fun _ _ _=>(a1e (i:=0) (show(["_law_hand","_law_tape","_law_names_here"]:List Str).Nodup by decide +kernel) rfl (Or.inl rfl))) (fun _ _ _=>(b7p (a2o b4d (a7f _) (a0p [true,false] a0q a0x hr rfl (a0a (dv 1) (a0a a0g a0d))) a0g (a0r _)))) (fun _ _ _=>(a1w (a0a (dv 0) (a0a (a0p [true,false] a6r b5q hr rfl (a0a (dv 1) (a0a (dv 2) a0d))) a0d)))))
  (a0j (b4l (i:=4) a3x.nd rfl rfl ["_law_k"] [("_law_tape",0),("_law_names_here",1)] rfl (by rfl) (by decide +kernel) (a8o rfl B.range_ (a0p [true,false] a0q a0x hr rfl (a0a (dv 0) (a0a a0g a0d)))) (fun _ _ _=>(a1e (i:=0) (show(["_law_k","_law_tape","_law_names_here"]:List Str).Nodup by decide +kernel) rfl (Or.inl rfl))) (fun _ _ _=>a3g) (fun _ _ _=>(a0p [true,false] b2q c6l hr rfl (a0a (dv 1) (a0a (dv 2) a0d)))))
  (a0j (a4b (a2o (a3n hr.units) a3m (a0p [true,false] a0q a0x hr rfl (a0a (dv 0) (a0a a0g a0d))) a0g (a0r _))
  (a0t (a5f (a4o 4 rfl (a1w (a0a (a1w (a0a a0l (a0a a0g a0d))) (a0a (a1w (a0a (a1w (a0a (a1b a0w a1c (dv 1) a0g (fun _ _=>rfl)) (a0a (a1w (a0a a0l (a0a (a1w (a0a a0l (a0a (a1b a0w a1c (dv 1) a0g (fun _ _=>rfl)) a0d))) (a0a (a1w (a0a a0l (a0a a0g a0d))) a0d)))) a0d))) a0d)) a0d))))))
  a2g)
  (a0j (b4l (i:=5) a3x.nd rfl rfl ["_law_name"] [("_law_tape",0),("_law_names_here",1)] rfl (by rfl) (by decide +kernel) (a3a (a1i (a2n (a0a a0l (a0a a0l (a0a a0l (a0a a0l (a0a a0l a0d)))))))) (fun _ _ _=>(a1e (i:=0) (show(["_law_name","_law_tape","_law_names_here"]:List Str).Nodup by decide +kernel) rfl (Or.inl rfl))) (fun _ _ _=>(b7p (a2o b4d (a7f _) (a0p [true,false] a0q a0x hr rfl (a0a (dv 1) (a0a a0g a0d))) a0g (a0r _)))) (fun _ _ _=>(a1w (a0a (dv 0) (a0a (a0p [true,false,false] a3t a6v hr rfl (a0a (dv 1) (a0a (dv 2) (a0a a0g a0d)))) a0d)))))
  (a0t (a1n (a1w (a0a (dv 2) (a0a (a2e a1f a6q rfl B.tuple_ a1v (a0a (dv 3) a0d)) (a0a (a2e a1f a6q rfl B.tuple_ a1v (a0a (dv 4) a0d)) (a0a (a2e a1f a6q rfl B.tuple_ a1v (a0a (dv 5) a0d)) a0d))))))))))))),?_⟩
 walk_at "dd"
 refine⟨k,4,rfl,by decide,by omega,fun r h0 h1=>?_⟩
 obtain⟨R,rfl⟩:∃ R:Nat,r=(R:Int):=⟨r.toNat,by omega⟩
 walk_at "dd"
 refine⟨k + 1,1 + R,by push_cast;rfl,by omega,by omega,fun ns hn hnd hN0=>?_⟩
 have hS:∀ s ∈ ns,PyData.strOk s=true:=fun s hs=>c1l (hN0 s hs)
 walk_at "dd"
 refine⟨by rw [length_map];omega,?_⟩
 refine a3j (fun i ρ acc=>∃ (v0:Option L) (k':Nat) (bs:List Box),ρ=[v0,some (.tape k')]/\acc=bs.map encB/\bs.map (·.nm)=ns.take i/\(∀ b ∈ bs,GoodB b)/\i <= 4/\k' <= k + 3 + 4 * i) ⟨none,k + 3,[],rfl,rfl,rfl,fun b hb=>by simp at hb,by omega,by omega⟩ ?_ ?_
 ·rintro i x ρ acc N hx ⟨v0,k',bs,rfl,rfl,hb,hg,hi,hk'⟩ hN
  have hi2:i < ns.length:=by simpa using (List.getElem?_eq_some_iff.mp hx).1
  rw [getElem?_map] at hx
  obtain⟨sx,hsx,rfl⟩:=map_eq_some_iff.mp hx
  walk_at "dd"
  refine⟨k',sx,rfl,by omega,fun b k1 hk1 hbn hbg=>?_⟩
  walk_at "dd"
  refine hN _ _ ⟨_,k1,bs ++ [b],rfl,by simp,?_,fun b' hb'=>?_,by omega,by omega⟩
  ·rw [map_append,hb,take_add_one,hsx,List.map_singleton,hbn]
   rfl
  ·rcases mem_append.mp hb' with h | h
   ·exact hg b' h
   ·rw [mem_singleton.mp h];exact hbg
 rintro ρ acc ⟨v0,k1,bs,rfl,rfl,hb,hg,hi,hk1⟩
 rw [length_map] at hb hi hk1
 rw [take_length] at hb
 walk_at "dd"
 refine a3j (fun i ρ acc=>∃ (v0:Option L) (k':Nat) (hs:List (Str × List Str)),ρ=[v0,some (.tape k'),some (.d (.list (ns.map .str)))]/\acc=hs.map encH/\(hs.map Prod.fst).Sublist (HN.take i)/\(∀ x ∈ hs,GoodH ns x)/\i <= 4/\k' <= k + 23 + 5 * i) ⟨none,k1,[],rfl,rfl,nil_sublist _,fun x hx=>by simp at hx,by omega,by omega⟩ ?_ ?_
 ·rintro i x ρ acc N hx ⟨v0,k',hs,rfl,rfl,hsu,hsg,hi,hk'⟩ hN
  have hi2:i < 4:=by simpa using (List.getElem?_eq_some_iff.mp hx).1
  have hx':(HN.map PyData.str)[i]? = some x:=hx
  rw [getElem?_map] at hx'
  obtain⟨sx,hsx,rfl⟩:=map_eq_some_iff.mp hx'
  have et:HN.take (i + 1)=HN.take i ++ [sx]:=by rw [take_add_one,hsx];rfl
  walk_at "dd"
  refine⟨k',4,rfl,by decide,by omega,fun r h0 h1=>?_⟩
  walk_at "dd"
  refine a6s (fun c=>?_) (fun c=>?_)
  ·walk_at "dd"
   refine⟨k' + 1,ns,rfl,by omega,hnd,hN0,by omega,fun ss k2 hk2 r1 r2 r3=>?_⟩
   walk_at "dd"
   refine hN _ _ ⟨_,k2,hs ++ [(sx,ss)],rfl,by rw [map_append];rfl,by rw [et,map_append];exact hsu.append (List.Sublist.refl _),fun x hx=>?_,by omega,by omega⟩
   rcases mem_append.mp hx with h | h
   ·exact hsg x h
   ·rw [mem_singleton.mp h];exact⟨r1,r2,r3⟩
  ·exact hN _ _ ⟨_,k' + 1,hs,rfl,rfl,by rw [et];exact hsu.trans (List.sublist_append_left _ _),hsg,by omega,by omega⟩
 rintro ρ acc ⟨v0,k2,hs,rfl,rfl,hsu,hsg,hi2,hk2⟩
 have hsu:(hs.map Prod.fst).Sublist HN:=hsu
 have hk2:k2 <= k + 43:=hk2
 walk_at "dd"
 refine⟨k2,6,rfl,by decide,by omega,fun r h0 h1=>?_⟩
 obtain⟨M,rfl⟩:∃ M:Nat,r=(M:Int):=⟨r.toNat,by omega⟩
 walk_at "dd"
 refine⟨⟨by omega,by omega⟩,?_⟩
 walk_at "dd"
 refine⟨by simp [rngD];omega,?_⟩
 rw [show((M:Int)).toNat=M by omega]
 refine a3j (fun i ρ acc=>∃ (v0:Option L) (k':Nat) (ds:List Deed),ρ=[v0,some (.tape k'),some (.d (.list (ns.map .str)))]/\acc=ds.map encD/\ds.length=i/\(∀ d ∈ ds,GoodD ns d)/\i <= 6/\k' <= k + 50 + 300 * i) ⟨none,k2 + 1,[],rfl,rfl,rfl,fun b hb=>by simp at hb,by omega,by omega⟩ ?_ ?_
 ·rintro i x ρ acc N hx ⟨v0,k',ds,rfl,rfl,hdl,hdg,hi,hk'⟩ hN
  obtain⟨hi2,rfl⟩:=c1p hx
  walk_at "dd"
  refine⟨k',ns,rfl,by omega,hnd,hN0,by omega,fun d k3 hk3 hd=>?_⟩
  walk_at "dd"
  refine hN _ _ ⟨_,k3,ds ++ [d],rfl,by simp,by simp;omega,fun d' hd'=>?_,by omega,by omega⟩
  rcases mem_append.mp hd' with h | h
  ·exact hdg d' h
  ·rw [mem_singleton.mp h];exact hd
 rintro ρ acc ⟨v0,k3,ds,rfl,rfl,hdl,hdg,hi3,hk3⟩
 have hr:(rngD 0 M).length=M:=by simp [rngD]
 rw [hr] at hdl hi3 hk3
 walk_at "dd"
 refine⟨k3,2,rfl,by decide,by omega,fun r h0 h1=>?_⟩
 walk_at "dd"
 refine c2o (fun ρ=>∃ ds':List Deed,ρ=[some (.tape (k3 + 1)),some (.d (.list (ns.map .str))),some (.d (.tuple (bs.map encB))),some (.own (hs.map encH)),some (.own (ds'.map encD)),none]/\(∀ d ∈ ds',GoodD ns d)/\ds'.length <= 7) (fun c fin=>?_) (fun c=>⟨ds,rfl,hdg,by omega⟩) ?_
 ·refine a4n (by decide) (by rw [length_map];omega) fun d0 _ hd0=>?_
  refine a4n (by decide) (by rw [length_map];omega) fun d1 _ hd1=>?_
  rw [hd0] at hd1
  cases hd1
  rw [getElem?_map] at hd0
  obtain⟨s0,hs0,rfl⟩:=map_eq_some_iff.mp hd0
  refine⟨by rw [length_map];omega,?_⟩
  refine fin _ ⟨ds ++ [⟨.num 1,[(s0,.two "add" (.box s0) (.num 1))]⟩],?_,fun d' hd'=>?_,by simp;omega⟩
  ·rw [d3b,map_append];rfl
  ·rcases mem_append.mp hd' with h | h
   ·exact hdg d' h
   ·rw [mem_singleton.mp h];exact c9u (mem_of_getElem? hs0)
 rintro ρ ⟨ds',rfl,hdg',hdl'⟩
 walk_at "dd"
 refine a3j (fun i ρ acc=>∃ (v0:Option L) (k':Nat) (fs:List (Str × Rk)),ρ=[v0,some (.tape k'),some (.d (.list (ns.map .str)))]/\acc=fs.map encL/\(fs.map Prod.fst).Sublist (FN.take i)/\(∀ x ∈ fs,x.2.Made ns 2)/\i <= 5/\k' <= k + 2000 + 50 * i) ⟨none,k3 + 1,[],rfl,rfl,nil_sublist _,fun x hx=>by simp at hx,by omega,by omega⟩ ?_ ?_
 ·rintro i x ρ acc N hx ⟨v0,k',fs,rfl,rfl,hfu,hfg,hi,hk'⟩ hN
  have hi2:i < 5:=by simpa using (List.getElem?_eq_some_iff.mp hx).1
  have hx':(FN.map PyData.str)[i]? = some x:=hx
  rw [getElem?_map] at hx'
  obtain⟨sx,hsx,rfl⟩:=map_eq_some_iff.mp hx'
  have et:FN.take (i + 1)=FN.take i ++ [sx]:=by rw [take_add_one,hsx];rfl
  walk_at "dd"
  refine⟨k',4,rfl,by decide,by omega,fun r h0 h1=>?_⟩
  walk_at "dd"
  refine a6s (fun c=>?_) (fun c=>?_)
  ·walk_at "dd"
   refine⟨k' + 1,2,ns,rfl,by omega,by omega,by omega,by omega,hS,fun r0 k4 hk4 m0=>?_⟩
   walk_at "dd"
   refine hN _ _ ⟨_,k4,fs ++ [(sx,r0)],rfl,by rw [map_append];rfl,by rw [et,map_append];exact hfu.append (List.Sublist.refl _),fun x hx=>?_,by omega,by omega⟩
   rcases mem_append.mp hx with h | h
   ·exact hfg x h
   ·rw [mem_singleton.mp h];exact m0
  ·exact hN _ _ ⟨_,k' + 1,fs,rfl,rfl,by rw [et];exact hfu.trans (List.sublist_append_left _ _),hfg,by omega,by omega⟩
 rintro ρ acc ⟨v0,k4,fs,rfl,rfl,hfu,hfg,hi4,hk4⟩
 have hk4:k4 <= k + 2250:=hk4
 have hfu:(fs.map Prod.fst).Sublist FN:=hfu
 walk_at "dd"
 exact q ns bs hs ds' fs k4 (by omega) ⟨hb,by omega,by omega,hnd,hN0,hg,hsg,hsu,hdg',hdl',hfg,hfu⟩
end
abbrev FIG:Str:="0123456789"
noncomputable def a7l(c:Nat):Bool:=Txt.contains FIG ⟨#[c]⟩
noncomputable def b6w(x:Str):Bool:=match x.cps.toList with
 | c :: _=>!decide ((⟨#[c]⟩:Str) = "0") || decide (x = "0")
 | []=>false
noncomputable def figs(m:Int)(x:Str):Bool:=decide (1 <= (x.length:Int)) && decide ((x.length:Int) <= m) && x.cps.toList.all a7l && b6w x
theorem c9w{x:Str}(h:x.length <= 1000000):fLen [.str x]=some (.int (x.length:Int)):=if_pos (by rw [sizeLine_eq];omega)
theorem a5h{α:Type}{o:Option α}{x:α}{Q:α->Prop}(e:o=some x)(h:Q x):need o Q:=by rw [e];exact h
noncomputable def num(x:Str):Int:=(PySem.intText? x).getD 0
def b6x:DSp:=fun ls Q=>∃ (x:Str) (m:Int),ls=[.d (.str x),.d (.int m)]/\x.length <= 1000000/\m <= 100/\Q (.d (.bool (figs m x))) [none,none]
section
variable{P:Program}{w:World}{K:W.Frag}{mg:Str->Option Value}{base:Heap}{n:Nat}
abbrev a7m:Stmt:=top 16
theorem b8y:FnScope ["text","most"] ["text","most"] (a0h a7m):=⟨rfl,rfl,rfl,by decide +kernel,rfl,by decide +kernel,by decide +kernel⟩
theorem d9c{f:Addr}{fd:FuncData} (F:Fun K "is_figures" "is_figures" a7m f fd) (B:Bl mg) (m_FIGURES:∃ t,mg "FIGURES" = some (.str FIG t)):FnOk P w K mg base CX0 (n + 1) f fd ["text","most"] (spD K b6x):=by
 refine F.dok b8y (fun cdv A outer s H E hr ls Qd h=>?_) (fun ls Qd hq8=>by obtain⟨_,_,e,_⟩:=hq8;rw [e];rfl)
 obtain⟨x,m,rfl,hl,hm,q⟩:=h
 refine⟨rfl,?_⟩
 refine⟨_,(a0j (a4b (DW.toT (b6k (b3j (d0y b4c (a7f _) b4c (a7f _) a0g (a3z a4h a9v rfl B.len_ a2z (a0a (dv 0) a0d)) (dv 1))) (b3i (b3j (a9w (a3z (b8r rfl) c3y rfl B.all_ c1a (a0a (a1i (a3w ["sign"] [] rfl (by rfl) (by decide +kernel) (c9c (dv 0)) (fun _ _ _=>(a1e (i:=0) (show(["sign"]:List Str).Nodup by decide +kernel) rfl (Or.inl rfl))) (fun _ _ _=>a3g) (fun _ _ _=>(a7e e4l e4m (dv 0) (d8k rfl m_FIGURES) (by rfl))))) a0d)))))))
  (a0t (a1n b6g))
  a2g)
  (a0t (a1n (de_or (a7e (b3m hr.units) b3l (a1b a0w a1c (dv 0) a0g (fun _ _=>rfl)) a0l (a0r _)) (a9x (a7e (a3n hr.units) a3m (dv 0) a0l (a0r _))))))),?_⟩
 walk_at "dd"
 refine a5h (c9w hl) ?_
 walk_at "dd"
 refine a6s (fun c1=>?_) (fun c1=>?_)
 ·walk_at "dd"
  refine d2d (fun c2=>?_) (fun c2=>?_)
  ·have ef:figs m x=false:=by unfold figs;rw [decide_eq_false c2];simp
   rw [← ef]
   exact q
  refine⟨by rw [length_map,a6t];omega,?_⟩
  refine L2.c0v (fun ρ=>∃ v0:Option L,ρ=[v0]) (fun d=>match d with | .str z=>some (.bool (z.cps.toList.all a7l)) | _=>none) ⟨_,rfl⟩ ?_ ?_
  ·rintro y ρ N hy ⟨v0,rfl⟩ hN
   obtain⟨c,hc,rfl⟩:=mem_map.mp hy
   have el:(Str.cps ⟨#[c]⟩).toList.all a7l=Txt.contains FIG ⟨#[c]⟩:=by simp [a7l]
   simp only [el] at hN
   walk_at "dd"
   exact hN _ ⟨_,rfl⟩
  rintro ρ _
  have ef:(signs x).filterMap (fun d=>match d with | .str z=>some (PyData.bool (z.cps.toList.all a7l)) | _=>none)=(x.cps.toList.map a7l).map .bool:=by
   unfold signs
   generalize x.cps.toList=l
   induction l with
   | nil=>rfl
   | cons c r ih=>rw [map_cons,filterMap_cons,ih];simp
  rw [ef,c1g,a0n]
  walk_at "dd"
  have ea:(x.cps.toList.map a7l).all id=x.cps.toList.all a7l:=by rw [List.all_map];rfl
  rw [ea]
  cases hx:x.cps.toList.all a7l with
  | false =>
   walk_at "dd"
   have ef:figs m x=false:=by unfold figs;rw [hx];simp
   rw [← ef]
   exact q
  | true =>
   walk_at "dd"
   obtain⟨c,r,hc⟩:∃ c r,x.cps.toList=c :: r:=by
    cases e:x.cps.toList with
    | nil=>have:=a6t x;rw [e] at this;simp at this;omega
    | cons c r=>exact⟨c,r,rfl⟩
   have ei:fIx (.str x) (.int 0)=some (.str ⟨#[c]⟩):=by
    show(if x.length <= sizeLine then(atI x.cps.toList 0).map _ else none)=_
    rw [if_pos (by rw [sizeLine_eq];omega),hc,b4m];rfl
   refine a5h ei ?_
   have ef:figs m x=(!decide ((⟨#[c]⟩:Str) = "0") || decide (x = "0")):=by unfold figs b6w;rw [hx,hc,decide_eq_true c1,decide_eq_true c2];rfl
   rw [ef] at q
   walk_at "dd"
   refine d4k (fun e=>?_) (fun e=>?_)
   ·rw [show(!decide ((⟨#[c]⟩:Str) = "0"))=true from e] at q;exact q
   ·rw [show(!decide ((⟨#[c]⟩:Str) = "0"))=false from e] at q;exact q
 ·walk_at "dd"
  have ef:figs m x=false:=by unfold figs;rw [decide_eq_false c1];simp
  rw [← ef]
  exact q
end
theorem leC_a(c:Nat):leC "a" ⟨#[c]⟩=decide (97 <= c):=by
 have e:(Str.ofString "a").cps.toList=[97]:=by decide +kernel
 unfold leC
 rw [e]
 show decide ([97] <= [c])=_
 rw [Bool.eq_iff_iff]
 simp [List.cons_le_cons_iff]
 omega
theorem leC_z(c:Nat):leC ⟨#[c]⟩ "z" = decide (c <= 122):=by
 have e:(Str.ofString "z").cps.toList=[122]:=by decide +kernel
 unfold leC
 rw [e]
 show decide ([c] <= [122])=_
 rw [Bool.eq_iff_iff]
 simp [List.cons_le_cons_iff]
 omega
def b0e:DSp:=fun ls Q=>∃ z:Str,ls=[.d (.str z)]/\a0u z=true/\Q (.d (.bool true)) [none]
section
variable{P:Program}{w:World}{K:W.Frag}{mg:Str->Option Value}{base:Heap}{n:Nat}
abbrev a8q:Stmt:=top 5
theorem c6m:FnScope ["thing"] ["thing"] (a0h a8q):=⟨rfl,rfl,rfl,by decide +kernel,rfl,by decide +kernel,by decide +kernel⟩
theorem c6n{f:Addr}{fd:FuncData} (F:Fun K "is_name" "is_name" a8q f fd) (B:Bl mg) (m_LONGEST_NAME:∃ t,mg "LONGEST_NAME" = some (.int 8 t)):FnOk P w K mg base CX0 (n + 1) f fd ["thing"] (spD K b0e):=by
 refine F.dok c6m (fun cdv A outer s H E hr ls Qd h=>?_) (fun ls Qd h=>by obtain⟨_,e,_⟩:=h;rw [e];rfl)
 obtain⟨x,rfl,hx,q⟩:=h
 refine⟨rfl,?_⟩
 refine⟨_,(a0j (a4b (b3j (a9w (a6n rfl B.isinstance_ rfl B.str_ a8l rfl (dv 0))))
  (a0t (a1n b6g))
  a2g)
  (a0t (a1n (a9y (c0j b4c (a7f _) b4c (a7f _) a0g (a3z a4h a9v rfl B.len_ a2z (a0a (dv 0) a0d)) (d5t rfl m_LONGEST_NAME)) (a9x (a3z (b8r rfl) c3y rfl B.all_ c1a (a0a (a1i (a3w ["sign"] [] rfl (by rfl) (by decide +kernel) (c9c (dv 0)) (fun _ _ _=>(a1e (i:=0) (show(["sign"]:List Str).Nodup by decide +kernel) rfl (Or.inl rfl))) (fun _ _ _=>a3g) (fun _ _ _=>(c0j c9d c9e c9d c9e a0l (dv 0) a0l)))) a0d))))))),?_⟩
 unfold a0u at hx
 rw [and_eq_true,and_eq_true,decide_eq_true_eq,decide_eq_true_eq] at hx
 obtain⟨⟨h1,h8⟩,hall⟩:=hx
 walk_at "dd"
 rw [show isD "str" (.str x)=true from rfl]
 walk_at "dd"
 rw [c9w (by omega),a0n]
 walk_at "dd"
 rw [decide_eq_true (show(1:Int) <= (x.length:Int) by omega),decide_eq_true (show(x.length:Int) <= 8 by omega)]
 walk_at "dd"
 refine⟨by rw [length_map,a6t];omega,?_⟩
 refine L2.c0v (fun ρ=>∃ v0:Option L,ρ=[v0]) (fun _=>some (.bool true)) ⟨_,rfl⟩ ?_ ?_
 ·rintro y ρ N hy ⟨v0,rfl⟩ hN
  obtain⟨c,hc,rfl⟩:=mem_map.mp hy
  have hl:=all_eq_true.mp hall c hc
  unfold low at hl
  rw [and_eq_true] at hl
  walk_at "dd"
  rw [leC_a,leC_z,hl.1,hl.2]
  walk_at "dd"
  exact hN _ ⟨_,rfl⟩
 ·rintro ρ _
  have ef:(signs x).filterMap (fun _=>some (PyData.bool true))=(x.cps.toList.map fun _=>true).map .bool:=by
   unfold signs
   generalize x.cps.toList=l
   induction l with
   | nil=>rfl
   | cons c r ih=>rw [map_cons,filterMap_cons,ih];simp
  rw [ef,c1g,a0n,show(x.cps.toList.map fun _=>true).all id=true by simp]
  exact q
end
structure TxtF(K:W.Frag)(mg:Str->Option Value)(C:Addr):Prop where
 cl:Cls K C
 n1:a3y K C "row"
 n2:a3y K C "words"
 n3:a3y K C "place"
 mgC:mg "Words" = some (.ref C)
noncomputable def wfs(r:Int)(wl:Addr)(p:Int):List (Str × V):=[("row",.int r),("words",.ref wl),("place",.int p)]
theorem b3v{r:Int}{wl:Addr}{p:Int}:(wfs r wl p).lookup ("words" : Str)=some (.ref wl):=rfl
theorem b0n{r:Int}{wl:Addr}{p:Int}:(wfs r wl p).lookup ("place" : Str)=some (.int p):=rfl
theorem c9x{r:Int}{wl:Addr}{p q:Int}:putF "place" (.int q) (wfs r wl p)=wfs r wl q:=rfl
def WOk(C:Addr)(H:Hp)(x dx:Addr)(r:Int)(wl:Addr)(p:Nat)(ws:List Str):Prop:=H x=some (.ins C dx (wfs r wl (p:Int)))/\H wl=some (.lst (ws.map V.str))
def But(x:Addr)(H H':Hp):Prop:=∀ c o,c ≠ x->H c=some o->H' c=some o
abbrev a9j:Stmt:=inClass (top 15) 0
abbrev a9k:Stmt:=inClass (top 15) 1
abbrev b1k:Stmt:=inClass (top 15) 2
abbrev b1l:Stmt:=inClass (top 15) 3
theorem d3c:FnScope ["self","row","text"] ["self","row","text"] (a0h a9j):=⟨rfl,rfl,rfl,by decide +kernel,rfl,by decide +kernel,by decide +kernel⟩
theorem d3d:FnScope ["self","fits"] ["self","fits"] (a0h a9k):=⟨rfl,rfl,rfl,by decide +kernel,rfl,by decide +kernel,by decide +kernel⟩
theorem d9d:FnScope ["self"] ["self"] (a0h b1k):=⟨rfl,rfl,rfl,by decide +kernel,rfl,by decide +kernel,by decide +kernel⟩
theorem d9e:FnScope ["self"] ["self"] (a0h b1l):=⟨rfl,rfl,rfl,by decide +kernel,rfl,by decide +kernel,by decide +kernel⟩
def b7z(C:Addr):Sp:=fun vs H Q _=>∃ (x dx:Addr) (r:Int) (t:Str),vs=[.ref x,.int r,.str t]/\H x=some (.ins C dx [])/\t.length <= 1000000/\∀ wl H',H wl=none->But x H H'->WOk C H' x dx r wl 0 (Txt.split t " ")->Q .non H'
def b3w(C:Addr):Sp:=fun vs H Q _=>∃ (x dx:Addr) (r:Int) (wl:Addr) (p:Nat) (ws:List Str),vs=[.ref x]/\WOk C H x dx r wl p ws/\Q (.bl (decide (p=ws.length))) H
def c1q(C:Addr):Sp:=fun vs H Q _=>∃ (x dx:Addr) (r:Int) (wl:Addr) (ws:List Str),vs=[.ref x]/\WOk C H x dx r wl ws.length ws/\Q .non H
def a7y(P:Program)(w:World)(K:W.Frag)(mg:Str->Option Value)(base:Heap)(n:Nat)(C:Addr):Sp:=fun vs H Q _=>∃ (x dx f:Addr) (r:Int) (wl:Addr) (p:Nat) (ws:List Str) (z:Str),vs=[.ref x,.ref f]/\WOk C H x dx r wl p ws/\ws[p]? = some z/\d4t P w K mg base n H f (fun x=>x=z) (fun _=>true) /\
 ∀ H',But x H H'->WOk C H' x dx r wl (p + 1) ws->Q (.str z) H'
theorem b2r{X:Cx}{ss:List Stmt}:PSs X ss (fun _ _ _=>False):=fun _ _ _ _ _ _ h=>h.elim
theorem a4v{p A B:Prop}[Decidable p](h:p)(a:A):if decide p=true then A else B:=by rw [decide_eq_true h];exact iteT a
theorem a3h{p A B:Prop}[Decidable p](h:¬ p)(b:B):if decide p=true then A else B:=by rw [decide_eq_false h];exact iteF b
section
variable{P:Program}{w:World}{K:W.Frag}{mg:Str->Option Value}{base:Heap}{n:Nat}{C NT:Addr}
theorem d3e{f:Addr}{fd:FuncData} (F:Fun K "__init__" "Words.__init__" a9j f fd) (T:TxtF K mg C):FnOk P w K mg base CX0 (n + 1) f fd ["self","row","text"] (b7z C):=by
 refine F.ok d3c (fun vs H Q E h=>?_) (fun cdv A outer s H vs Q E hr h=>?_)
 ·obtain⟨x,dx,r,t,rfl,_⟩:=h
  rfl
 obtain⟨x,dx,r,t,rfl,hx,ht,q⟩:=h
 refine⟨_,a0o (a4j (pv 0) (pv 1) rfl) (a0o (a4j (pv 0) (a6k PySem.F.plainAttrs_str PySem.F.slot_str_split PySem.F.type_str_split d2m (pv 2) (a0c a2y a0i)) rfl) (a0s (a4j (pv 0) a0v rfl))),?_⟩
 refine⟨_,rfl,_,rfl,x,C,dx,[],rfl,hx,T.cl,T.n1,by decide,?_⟩
 refine⟨_,rfl,rfl,t,_,rfl,rfl,by decide,ht,fun wl hwl=>?_⟩
 have nx:wl ≠ x:=fun z=>by rw [z,a0e] at hwl;cases hwl
 refine⟨_,rfl,x,C,dx,putF "row" (.int r) [],rfl,by rw [a0f (Ne.symm nx),a0e],T.cl,T.n2,(show(1:Nat) < 1000 by decide),?_⟩
 refine⟨_,rfl,x,C,dx,_,rfl,a0e,T.cl,T.n3,(show(2:Nat) < 1000 by decide),?_⟩
 rw [a0f nx] at hwl
 refine q wl _ hwl (fun c o n e=>?_) ⟨a0e,?_⟩
 ·rw [a0f n,a0f n,a0f (fun z=>by rw [z,hwl] at e;cases e),a0f n];exact e
 ·rw [a0f nx,a0f nx,a0e]
theorem d9f{f:Addr}{fd:FuncData} (F:Fun K "are_over" "Words.are_over" b1k f fd) (B:Bl mg) (T:TxtF K mg C):FnOk P w K mg base CX0 (n + 1) f fd ["self"] (b3w C):=by
 refine F.ok d9d (fun vs H Q E h=>?_) (fun cdv A outer s H vs Q E hr h=>?_)
 ·obtain⟨x,dx,r,wl,p,ws,rfl,_⟩:=h
  rfl
 obtain⟨x,dx,r,wl,p,ws,rfl,⟨h1,h2⟩,q⟩:=h
 refine⟨_,a0s (a1p (a2r a5k (a1h (pv 0) rfl) (a2l a1q rfl B.len_ a2z (a0c (a1h (pv 0) rfl) a0i)) (a0r _))),?_⟩
 refine⟨_,rfl,x,C,dx,_,_,rfl,h1,T.cl,T.n3,b0n,?_⟩
 refine⟨_,rfl,x,C,dx,_,_,rfl,h1,T.cl,T.n2,b3v,wl,_,rfl,.inl (SqL.of h2),rfl,?_⟩
 have e:decide (V.int (p:Int)=V.int ((ws.map V.str).length:Int))=decide (p=ws.length):=by
  rw [length_map]
  by_cases c:p=ws.length
  ·rw [c];simp
  ·rw [decide_eq_false c,decide_eq_false (fun z=>c (by injection z with z;omega))]
 rw [e]
 exact q
theorem d3f{f f1:Addr}{fd fd1:FuncData} (F:Fun K "taken" "Words.taken" a9k f fd) (T:TxtF K mg C) (m_over:Meth K C "are_over" f1) (b_over:Binds K fd1 ["self"] []) (g_over:FnOk P w K mg base CX0 n f1 fd1 ["self"] (b3w C)):FnOk P w K mg base CX0 (n + 2) f fd ["self","fits"] (a7y P w K mg base (n + 1) C):=by
 refine F.ok d3d (fun vs H Q E h=>?_) (fun cdv A outer s H vs Q E hr h=>?_)
 ·obtain⟨x,dx,f,r,wl,p,ws,z,rfl,_⟩:=h
  rfl
 obtain⟨x,dx,f,r,wl,p,ws,z,rfl,⟨h1,h2⟩,hz,⟨o,fdl,pn,spl,ho,hf,gl,bl,hl⟩,q⟩:=h
 refine⟨_,a0o (a4a (PW.pt (d3s (L2.b0v (a9o (pv 0) T.cl m_over g_over (hr.mono (le_succ _)) b_over .nil a2x)) (c7c (b5z (L2.b0v (d2q (i:=1) gl hr rfl bl a2x ho (a0c (a3f a4l (a1h (pv 0) rfl) (a1h (pv 0) rfl) (fun _ _=>rfl)) a0i)))))))
   b2r a3e)
  (a0o (a4j (pv 0) (a2k b3b (a1h (pv 0) rfl) a0v) rfl)
  (a0s (a1p (a3f a4l (a1h (pv 0) rfl) (a2k b3c (a1h (pv 0) rfl) a0v) (fun _ _=>rfl))))),?_⟩
 refine⟨_,rfl,x,dx,_,rfl,h1,rfl,x,dx,r,wl,p,ws,rfl,⟨h1,h2⟩,_,rfl,?_⟩
 have pl:p < ws.length:=(List.getElem?_eq_some_iff.mp hz).1
 refine a3h (by omega) ?_
 refine⟨rfl,_,rfl,x,C,dx,_,_,rfl,h1,T.cl,T.n2,b3v,_,rfl,x,C,dx,_,_,rfl,h1,T.cl,T.n3,b0n,wl,_,(p:Int),.str z,rfl,rfl,SqL.of h2,a4k (j:=p) (by rw [getElem?_map,hz];rfl),hf,?_⟩
 refine hl z H _ rfl (Same.refl _) fun H2 s2=>⟨_,rfl,?_⟩
 have k1:=s2 _ _ h1
 have k2:=s2 _ _ h2
 have nx:wl ≠ x:=fun z=>by rw [z,k1] at k2;cases k2
 refine iteF ?_
 refine⟨_,rfl,x,C,dx,_,_,rfl,k1,T.cl,T.n3,b0n,_,_,rfl,rfl,_,rfl,x,C,dx,_,rfl,k1,T.cl,T.n3,(show(3:Nat) < 1000 by decide),?_⟩
 rw [c9x]
 have k3:(upd H2 x (.ins C dx (wfs r wl ((p:Int) + 1)))) wl=some (.lst (ws.map V.str)):=by rw [a0f nx];exact k2
 refine⟨_,rfl,x,C,dx,_,_,rfl,a0e,T.cl,T.n2,b3v,_,rfl,x,C,dx,_,_,rfl,a0e,T.cl,T.n3,b0n,_,_,rfl,rfl,wl,_,(p:Int),.str z,rfl,?_,SqL.of k3,a4k (j:=p) (by rw [getElem?_map,hz];rfl),?_⟩
 ·show V.int (((p:Int) + 1) - 1)=V.int (p:Int)
  rw [Int.add_sub_cancel]
 ·exact q _ (fun c o n e=>by rw [a0f n];exact s2 _ _ e) ⟨by rw [a0e];rfl,k3⟩
theorem d9g{f f1:Addr}{fd fd1:FuncData} (F:Fun K "finish" "Words.finish" b1l f fd) (T:TxtF K mg C) (m_over:Meth K C "are_over" f1) (b_over:Binds K fd1 ["self"] []) (g_over:FnOk P w K mg base CX0 n f1 fd1 ["self"] (b3w C)):FnOk P w K mg base CX0 (n + 2) f fd ["self"] (c1q C):=by
 refine F.ok d9e (fun vs H Q E h=>?_) (fun cdv A outer s H vs Q E hr h=>?_)
 ·obtain⟨x,dx,r,wl,ws,rfl,_⟩:=h
  rfl
 obtain⟨x,dx,r,wl,ws,rfl,⟨h1,h2⟩,q⟩:=h
 refine⟨_,a0s (a4a (b5z (L2.b0v (a9o (pv 0) T.cl m_over g_over (hr.mono (le_succ _)) b_over .nil a2x))) b2r a3e),?_⟩
 refine⟨_,rfl,x,dx,_,rfl,h1,rfl,x,dx,r,wl,ws.length,ws,rfl,⟨h1,h2⟩,_,rfl,?_⟩
 rw [decide_eq_true rfl]
 exact iteF q
end
abbrev sp1:Str:=" "
noncomputable def tx(n:Int):Str:=toString n
noncomputable def INN:List Str:=["add","sub","times","less","same","pick"]
noncomputable def numb(x:Str):Bool:=if Txt.startswith x "-" = true then figs 3 (Txt.slice x (some 1) none) && !decide (x = "-0") else figs 3 x
noncomputable def dgN(n:Nat):List Nat:=if n < 10 then [48 + n] else if n < 100 then [48 + n / 10,48 + n % 10] else [48 + n / 100,48 + n / 10 % 10,48 + n % 10]
theorem tx_p:∀ j:Nat,j < 1000->(tx (j:Int)).cps.toList=dgN j:=by decide +kernel
theorem tx_n:∀ j:Nat,j < 999->(tx (Int.negSucc j)).cps.toList=45 :: dgN (j + 1):=by decide +kernel
theorem d4v:∀ j:Nat,j < 1000->Txt.startswith (tx (j:Int)) "-" = false/\PySem.intText? (tx (j:Int))=some (j:Int):=by decide +kernel
theorem tx_nn:∀ j:Nat,j < 999->Txt.startswith (tx (Int.negSucc j)) "-" = true/\(Txt.slice (tx (Int.negSucc j)) (some 1) none).cps.toList=dgN (j + 1)/\PySem.intText? (tx (Int.negSucc j))=some (Int.negSucc j):=by decide +kernel
def Nm(n:Int):Prop:=-999 <= n/\n <= 999
structure TxF(n:Int):Prop where
 l4:(tx n).length <= 4
 l1:1 <= (tx n).length
 sg:∀ c ∈ (tx n).cps.toList,45 <= c/\c <= 57
 nb:numb (tx n)=true
 rd:PySem.intText? (tx n)=some n
theorem c6o{j:Nat}(hj:j < 1000):(∀ c ∈ dgN j,48 <= c/\c <= 57)/\1 <= (dgN j).length/\(dgN j).length <= 3:=by
 unfold dgN
 split
 ·exact⟨fun c hc=>by simp at hc;omega,by simp,by simp⟩
 ·split
  ·exact⟨fun c hc=>by simp at hc;omega,by simp,by simp⟩
  ·exact⟨fun c hc=>by simp at hc;omega,by simp,by simp⟩
theorem c4b{x:Str}{j:Nat}(h:x.cps.toList=dgN j)(hj:j < 1000):figs 3 x=true:=by
 obtain⟨h1,h2,h3⟩:=c6o hj
 have hl:=a6t x
 rw [h] at hl
 have ha:(dgN j).all a7l=true:=all_eq_true.mpr fun c hc=>by
  have k:∀ c:Nat,c < 10->a7l (48 + c)=true:=by decide +kernel
  have:=h1 c hc
  have e:=k (c - 48) (by omega)
  rwa [show 48 + (c - 48)=c by omega] at e
 have hz:b6w x=true:=by
  have e0:(Str.ofString "0").cps.toList=[48]:=by decide +kernel
  unfold b6w
  rw [h]
  unfold dgN
  split
  ·rename_i c r e
   split at e
   ·obtain⟨rfl,rfl⟩:=List.cons.inj e
    have ex:x=⟨#[48 + j]⟩:=Str.ext' (toList_inj.mp (by rw [h];unfold dgN;rw [if_pos (by assumption)]))
    rw [← ex]
    by_cases q:x = "0"
    ·rw [decide_eq_true q];rfl
    ·rw [decide_eq_false q];rfl
   ·have hc:c ≠ 48:=by
     split at e
     ·have:=(List.cons.inj e).1;omega
     ·have:=(List.cons.inj e).1;omega
    rw [decide_eq_false (fun z=>hc (by have:=congrArg (fun s:Str=>s.cps.toList) z;rw [e0] at this;simpa using this))];rfl
  ·rename_i e
   split at e
   ·cases e
   ·split at e<;>cases e
 unfold figs
 rw [h,ha,hz,decide_eq_true (show(1:Int) <= (x.length:Int) by omega),decide_eq_true (show(x.length:Int) <= 3 by omega)]
 rfl
theorem Nm.tx{n:Int}(h:Nm n):TxF n:=by
 obtain⟨h1,h2⟩:=h
 cases n with
 | ofNat j =>
  have hj:j < 1000:=by have:(j:Int) <= 999:=h2;omega
  have e:(K79.tx (Int.ofNat j)).cps.toList=dgN j:=tx_p j hj
  obtain⟨d1,d2,d3⟩:=c6o hj
  have hl:=a6t (K79.tx (Int.ofNat j))
  rw [e] at hl
  refine⟨by omega,by omega,fun c hc=>by rw [e] at hc;have:=d1 c hc;omega,?_,(d4v j hj).2⟩
  unfold numb
  rw [if_neg (by rw [show Txt.startswith (K79.tx (Int.ofNat j)) "-" = false from(d4v j hj).1];exact Bool.false_ne_true)]
  exact c4b e hj
 | negSucc j =>
  have hj:j < 999:=by omega
  have e:=tx_n j hj
  obtain⟨n1,n2,n3⟩:=tx_nn j hj
  obtain⟨d1,d2,d3⟩:=c6o (j:=j + 1) (by omega)
  have hl:=a6t (K79.tx (Int.negSucc j))
  rw [e,length_cons] at hl
  refine⟨by omega,by omega,fun c hc=>?_,?_,n3⟩
  ·rw [e] at hc
   rcases mem_cons.mp hc with rfl | hc
   ·omega
   ·have:=d1 c hc;omega
  ·unfold numb
   rw [if_pos n1,c4b n2 (by omega),decide_eq_false (fun z=>?_)]
   ·rfl
   ·have:=congrArg (fun s:Str=>s.cps.toList) z
    rw [e,show(Str.ofString "-0").cps.toList=[45,48] by decide +kernel] at this
    have:=(List.cons.inj this).2
    unfold dgN at this
    split at this
    ·have:=(List.cons.inj this).1;omega
    ·split at this<;>(have:=congrArg List.length this;simp at this)
theorem Nm.sp{n:Int}(h:Nm n):(32:Nat) ∉ (K79.tx n).cps.toList:=fun m=>by have:=h.tx.sg _ m;omega
theorem Nm.ne{n:Int}(h:Nm n){x:Str}(hx:∀ c ∈ x.cps.toList,97 <= c):¬ K79.tx n=x:=fun z=>by
 have l:=h.tx.l1
 have hl:=a6t (K79.tx n)
 cases e:(K79.tx n).cps.toList with
 | nil=>rw [e] at hl;simp at hl;omega
 | cons c r =>
  have h1:=h.tx.sg c (by rw [e];simp)
  have h2:=hx c (by rw [← z,e];simp)
  omega
theorem Nm.log{n:Int}(h:Nm n):n.natAbs.log2 < 1920:=by
 have h0:n.natAbs <= 999:=by have:=h.1;have:=h.2;omega
 by_cases e:n.natAbs=0
 ·rw [e];decide
 ·have:=(Nat.log2_lt e (k:=10)).mpr (by omega)
  omega
theorem b0o{n:Int}(h:Nm n):b9o [.int n]=some (.str (tx n)):=d8j h.log
noncomputable def rt(ws:List Str):Str:=Txt.join sp1 ws
theorem len_app(a b:Str):(a ++ b).length=a.length + b.length:=by
 show(a.cps ++ b.cps).size=_
 rw [Array.size_append];rfl
theorem a7n{z x y:Str}{r:List Str}:Txt.join z (x :: y :: r)=x ++ (z ++ Txt.join z (y :: r)):=by
 rw [a7x,a7x]
 refine Str.ext' (toList_inj.mp ?_)
 rw [a7w]
 show _=(x.cps ++ (z.cps ++ (Str.join z (y :: r)).cps)).toList
 rw [toList_append,toList_append]
theorem jone{z x:Str}:Txt.join z [x]=x:=by rw [a7x];rfl
theorem jnil{z:Str}:Txt.join z [] = "":=by rw [a7x];rfl
theorem jlen{z:Str}(hz:z.length <= 1):∀ ws:List Str,(Txt.join z ws).length <= (ws.map (·.length)).sum + ws.length
 | []=>by rw [jnil];decide
 | [x]=>by rw [jone];simp
 | x :: y :: r=>by
  have:=jlen hz (y :: r)
  rw [a7n,len_app,len_app,map_cons,List.sum_cons,length_cons]
  omega
theorem c1r{L:Nat}:∀ {ws:List Str},(∀ x ∈ ws,x.length <= L)->(ws.map (·.length)).sum <= L * ws.length
 | [],_=>by simp
 | x :: r,h=>by
  have h1:=h x (by simp)
  have h2:=c1r (L:=L) (ws:=r) fun y hy=>h y (mem_cons_of_mem _ hy)
  rw [map_cons,List.sum_cons,length_cons,Nat.mul_add]
  omega
def Few(ws:List Str):Prop:=ws.length <= 300/\∀ x ∈ ws,x.length <= 8
theorem Few.sum{ws:List Str}(h:Few ws):(ws.map (·.length)).sum + ws.length <= 1048576:=by
 have:=c1r h.2
 have:=h.1
 omega
theorem Few.len{ws:List Str}(h:Few ws):(rt ws).length <= 2700:=by
 have:=c1r h.2
 have:=h.1
 have:=jlen (z:=sp1) (by decide) ws
 unfold rt
 omega
theorem b5r{x:Str}{ws:List Str}(hx:x.length <= 8)(h:Few ws)(hl:ws.length <= 299):Few (x :: ws):=⟨by rw [length_cons];omega,fun y hy=>by
 rcases mem_cons.mp hy with rfl | hy
 ·exact hx
 ·exact h.2 y hy⟩
noncomputable def EE(rs:List (List Str)):List PyData:=rs.map fun r=>.str (rt r)
theorem a5i(rs:List (List Str))(r:List Str):EE rs ++ [.str (rt r)]=EE (rs ++ [r]):=by unfold EE;rw [map_append];rfl
theorem c1s(rs qs:List (List Str)):EE rs ++ EE qs=EE (rs ++ qs):=by unfold EE;rw [map_append]
theorem a3o{x y:Str}(h:x.length + y.length <= 1000000):fAdd (.str x) (.str y)=some (.str (x ++ y)):=if_pos (by rw [sizeLine_eq];omega)
theorem a6w{x:Str}{ws:List Str}(h:ws ≠ []):rt (x :: ws)=x ++ (sp1 ++ rt ws):=by
 cases ws with
 | nil=>exact absurd rfl h
 | cons y r=>unfold rt;rw [a7n]
theorem b6y:∀ {a b:List Str},a ≠ []->b ≠ []->rt (a ++ b)=rt a ++ (sp1 ++ rt b)
 | [],_,h,_=>absurd rfl h
 | [x],b,_,hb=>by
  show rt (x :: b)=rt [x] ++ _
  rw [a6w hb]
  unfold rt
  rw [jone]
 | x :: y :: r,b,_,hb=>by
  show rt (x :: ((y :: r) ++ b))=rt (x :: (y :: r)) ++ _
  rw [a6w (x:=x) (ws:=(y :: r) ++ b) (cons_ne_nil _ _),a6w (x:=x) (ws:=y :: r) (cons_ne_nil _ _),b6y (cons_ne_nil _ _) hb,Str.append_assoc,Str.append_assoc]
noncomputable def wR:Rk->List Str
 | .num n=>[tx n]
 | .box s=>["box",s]
 | .two w a b=>w :: (wR a ++ wR b)
 | .pick a b c => "pick" :: (wR a ++ (wR b ++ wR c))
noncomputable def okK(ns:List Str):Rk->Prop
 | .num n=>Nm n
 | .box s=>s ∈ ns
 | .two w a b=>Rk.IsW w/\okK ns a/\okK ns b
 | .pick a b c=>okK ns a/\okK ns b/\okK ns c
theorem a7z{ns:List Str}:∀ {d:Nat} {r:Rk},r.Made ns d->okK ns r
 | d,.num n,h=>by cases d<;>exact h
 | d,.box s,h=>by cases d<;>exact h
 | 0,.two _ _ _,h=>h.elim
 | 0,.pick _ _ _,h=>h.elim
 | d + 1,.two w a b,⟨h1,h2,h3⟩=>⟨h1,a7z h2,a7z h3⟩
 | d + 1,.pick a b c,⟨h1,h2,h3⟩=>⟨a7z h1,a7z h2,a7z h3⟩
theorem a6x{ns:List Str}:∀ (r:Rk),(r.Made ns 0->r.many <= 1)/\(r.Made ns 1->r.many <= 4)/\(r.Made ns 2->r.many <= 13)
 | .num n=>⟨fun _=>le_refl _,fun _=>by simp [Rk.many],fun _=>by simp [Rk.many]⟩
 | .box n=>⟨fun _=>le_refl _,fun _=>by simp [Rk.many],fun _=>by simp [Rk.many]⟩
 | .two w a b=>by
  have ha:=a6x (ns:=ns) a
  have hb:=a6x (ns:=ns) b
  refine⟨fun h=>h.elim,fun h=>?_,fun h=>?_⟩
  ·have:=ha.1 h.2.1;have:=hb.1 h.2.2;simp only [Rk.many];omega
  ·have:=ha.2.1 h.2.1;have:=hb.2.1 h.2.2;simp only [Rk.many];omega
 | .pick a b c=>by
  have ha:=a6x (ns:=ns) a
  have hb:=a6x (ns:=ns) b
  have hc:=a6x (ns:=ns) c
  refine⟨fun h=>h.elim,fun h=>?_,fun h=>?_⟩
  ·have:=ha.1 h.1;have:=hb.1 h.2.1;have:=hc.1 h.2.2;simp only [Rk.many];omega
  ·have:=ha.2.1 h.1;have:=hb.2.1 h.2.1;have:=hc.2.1 h.2.2;simp only [Rk.many];omega
theorem b1m{w:Str}(h:Rk.IsW w):w ∈ INN:=by
 unfold INN
 rcases h with rfl | rfl | rfl | rfl | rfl<;>simp
theorem c4c{w:Str}(h:w ∈ INN):w.length <= 8:=by
 have k:∀ w ∈ INN,w.length <= 8:=by decide +kernel
 exact k w h
theorem a5l(r:Rk):wR r ≠ []:=by cases r<;>exact cons_ne_nil _ _
theorem b0f:∀ r:Rk,(wR r).length <= 2 * r.many
 | .num _=>by simp [wR,Rk.many]
 | .box _=>by simp [wR,Rk.many]
 | .two _ a b=>by have:=b0f a;have:=b0f b;simp [wR,Rk.many];omega
 | .pick a b c=>by have:=b0f a;have:=b0f b;have:=b0f c;simp [wR,Rk.many];omega
theorem b0p{ns:List Str}(hn:∀ s ∈ ns,a0u s=true):∀ {r:Rk},okK ns r->∀ x ∈ wR r,x.length <= 8/\(32:Nat) ∉ x.cps.toList/\∀ c ∈ x.cps.toList,c < 1114112
 | .num n,h,x,hx=>by
  cases mem_singleton.mp hx
  have h:Nm n:=h
  exact⟨by have:=h.tx.l4;omega,h.sp,fun c hc=>by have:=h.tx.sg c hc;omega⟩
 | .box s,h,x,hx=>by
  have h:s ∈ ns:=h
  rcases mem_cons.mp hx with rfl | hx
  ·decide +kernel
  ·cases mem_singleton.mp hx
   have ho:=hn s h
   have hlow:∀ c ∈ s.cps.toList,97 <= c/\c <= 122:=fun c hc=>by
    unfold a0u at ho
    rw [and_eq_true] at ho
    have:=all_eq_true.mp ho.2 c hc
    unfold low at this
    rw [and_eq_true,decide_eq_true_eq,decide_eq_true_eq] at this
    exact this
   exact⟨a3k ho,fun m=>by have:=hlow _ m;omega,fun c hc=>by have:=hlow _ hc;omega⟩
 | .two w a b,h,x,hx=>by
  have k:∀ w ∈ INN,w.length <= 8/\(32:Nat) ∉ w.cps.toList/\∀ c ∈ w.cps.toList,c < 1114112:=by decide +kernel
  rcases mem_cons.mp hx with rfl | hx
  ·exact k _ (b1m h.1)
  ·rcases mem_append.mp hx with hx | hx
   ·exact b0p hn h.2.1 x hx
   ·exact b0p hn h.2.2 x hx
 | .pick a b c,h,x,hx=>by
  rcases mem_cons.mp hx with rfl | hx
  ·decide +kernel
  ·rcases mem_append.mp hx with hx | hx
   ·exact b0p hn h.1 x hx
   ·rcases mem_append.mp hx with hx | hx
    ·exact b0p hn h.2.1 x hx
    ·exact b0p hn h.2.2 x hx
theorem c1t{ns:List Str}(hn:∀ s ∈ ns,a0u s=true){r:Rk}(h:okK ns r)(hm:r.many <= 100):Few (wR r):=⟨by have:=b0f r;omega,fun x hx=>(b0p hn h x hx).1⟩
def b0q(m:Nat):DSp:=fun ls Q=>∃ (r:Rk) (ns:List Str),ls=[.d r.enc]/\r.deep < m/\okK ns r/\(∀ s ∈ ns,a0u s=true)/\r.many <= 100/\Q (.d (.str (rt (wR r)))) [none]
theorem b1n{x:PyData}{r:List PyData}:cutD (x :: r) (some 1) none=r:=by
 unfold cutD
 rw [show HT.sIx (x :: r).length 0 (some 1)=1 from by rw [show(1:Int)=((1:Nat):Int) from rfl,HT.d5p,length_cons];omega,HT.d0s,List.drop_one,List.tail_cons,length_cons]
 exact List.take_of_length_le (by omega)
theorem j3{x a b:Str}:Txt.join sp1 [x,a,b]=x ++ (sp1 ++ (a ++ (sp1 ++ b))):=by rw [a7n,a7n,jone]
theorem j4{x a b c:Str}:Txt.join sp1 [x,a,b,c]=x ++ (sp1 ++ (a ++ (sp1 ++ (b ++ (sp1 ++ c))))):=by rw [a7n,a7n,a7n,jone]
theorem c9y{w:Str}{a b:Rk}:Txt.join sp1 [w,rt (wR a),rt (wR b)]=rt (wR (.two w a b)):=by
 show _=rt (w :: (wR a ++ wR b))
 rw [j3,a6w (by simp [a5l]),b6y (a5l a) (a5l b)]
theorem c4d{a b c:Rk}:Txt.join sp1 ["pick",rt (wR a),rt (wR b),rt (wR c)]=rt (wR (.pick a b c)):=by
 show _=rt ("pick" :: (wR a ++ (wR b ++ wR c)))
 rw [j4,a6w (by simp [a5l]),b6y (a5l a) (by simp [a5l]),b6y (a5l b) (a5l c)]
theorem jn3{x a b:Str}(hx:x.length <= 8)(ha:a.length <= 2700)(hb:b.length <= 2700):b4o sp1 [.list ([x,a,b].map .str)]=some (.str (Txt.join sp1 [x,a,b])):=a9g (by decide) (by simp;omega)
theorem jn4{x a b c:Str}(hx:x.length <= 8)(ha:a.length <= 2700)(hb:b.length <= 2700)(hc:c.length <= 2700):b4o sp1 [.list ([x,a,b,c].map .str)]=some (.str (Txt.join sp1 [x,a,b,c])):=a9g (by decide) (by simp;omega)
section
variable{P:Program}{w:World}{K:W.Frag}{mg:Str->Option Value}{base:Heap}{n:Nat}
abbrev a3p:Stmt:=top 20
theorem b3x:FnScope ["reckoning"] ["reckoning"] (a0h a3p):=⟨rfl,rfl,rfl,by decide +kernel,rfl,by decide +kernel,by decide +kernel⟩
theorem e4x{f:Addr}{fd:FuncData} (F:Fun K "shown_reckoning" "shown_reckoning" a3p f fd) (B:Bl mg) (d_shown_reckoning:Def K mg "shown_reckoning" a3p ["reckoning"] f fd) {m:Nat} (g_shown_reckoning:FnOk P w K mg base CX0 n f fd ["reckoning"] (spD K (b0q m))):FnOk P w K mg base CX0 (n + 1) f fd ["reckoning"] (spD K (b0q (m + 1))):=by
 refine F.dok b3x (fun cdv A outer s H E hr ls Qd h=>?_) (fun ls Qd h=>by obtain⟨_,_,e,_⟩:=h;rw [e];rfl)
 obtain⟨r,ns,rfl,hm,hok,hn,hy,q⟩:=h
 refine⟨rfl,?_⟩
 refine⟨_,(a0j (a4b (a2o (a3n hr.units) a3m (a1b a0w a1c (dv 0) a0g (fun _ _=>rfl)) a0l (a0r _))
  (a0t (a1n (a2e a4i a9h rfl B.str_ a8l (a0a (a1b a0w a1c (dv 0) a0g (fun _ _=>rfl)) a0d))))
  a2g)
  (a0j (a4b (a2o (a3n hr.units) a3m (a1b a0w a1c (dv 0) a0g (fun _ _=>rfl)) a0l (a0r _))
  (a0t (a1n (a1r a1a a1s a0l (a1b a0w a1c (dv 0) a0g (fun _ _=>rfl)))))
  a2g)
  (a0t (a1n (a9i a0l (a0a (a1i (b0k a7c a8m (a1i (a2n (a0a (a1b a0w a1c (dv 0) a0g (fun _ _=>rfl)) a0d))) (a1i (a3w ["inner"] [] rfl (by rfl) (by decide +kernel) (a3a (b5m (b9z.or b5o) c1d (dv 0) (b7r a0g) b7q)) (fun _ _ _=>(a1e (i:=0) (show(["inner"]:List Str).Nodup by decide +kernel) rfl (Or.inl rfl))) (fun _ _ _=>a3g) (fun _ _ _=>(a0p [false] d_shown_reckoning g_shown_reckoning hr rfl (a0a (dv 0) a0d))))))) a0d)))))),?_⟩
 have few:∀ {a:Rk},okK ns a->a.many <= 100->(rt (wR a)).length <= 2700:=fun h1 h2=>(c1t hn h1 h2).len
 match r,hm,hok,hy,q with
 | .num x,hm,hok,hy,q =>
  simp only [Rk.enc]
  walk_at "dk"
  rw [b0o hok,a0n]
  rw [show rt (wR (.num x))=tx x by show Txt.join sp1 [tx x]=_;rw [jone]] at q
  exact q
 | .box x,hm,hok,hy,q =>
  simp only [Rk.enc]
  have hx:=a3k (hn x hok)
  walk_at "dk"
  rw [a3o (by show 4 + _ <= _;omega),a0n]
  rw [show rt (wR (.box x)) = "box " ++ x by show Txt.join sp1 ["box",x]=_;rw [a7n,jone,← Str.append_assoc];rw [show(Str.ofString "box ")=Str.ofString "box" ++ sp1 by decide +kernel]] at q
  exact q
 | .pick a b c,hm,hok,hy,q =>
  obtain⟨h1,h2,h3⟩:=hok
  simp only [Rk.deep] at hm
  simp only [Rk.many] at hy
  have f1:=few h1 (by omega)
  have f2:=few h2 (by omega)
  have f3:=few h3 (by omega)
  simp only [Rk.enc]
  walk_at "dk"
  rw [b1n]
  refine⟨_,rfl,by simp,?_⟩
  simp only [a1m]
  walk_at "dk"
  refine⟨a,ns,rfl,by omega,h1,hn,by omega,?_⟩
  walk_at "dk"
  refine⟨b,ns,rfl,by omega,h2,hn,by omega,?_⟩
  walk_at "dk"
  refine⟨c,ns,rfl,by omega,h3,hn,by omega,?_⟩
  walk_at "dk"
  rw [a6f (by simp [sizeLine_eq]),a0n]
  refine a5h (jn4 (by decide) f1 f2 f3) ?_
  rw [c4d]
  exact q
 | .two wd a b,hm,hok,hy,q =>
  obtain⟨hw,h1,h2⟩:=hok
  simp only [Rk.deep] at hm
  simp only [Rk.many] at hy
  have f1:=few h1 (by omega)
  have f2:=few h2 (by omega)
  have hwl:=c4c (b1m hw)
  have nn:¬ wd = "num":=by rcases hw with rfl | rfl | rfl | rfl | rfl<;>decide +kernel
  have nb:¬ wd = "box":=by rcases hw with rfl | rfl | rfl | rfl | rfl<;>decide +kernel
  simp only [Rk.enc]
  walk_at "dd"
  rw [decide_eq_false nn]
  walk_at "dd"
  rw [decide_eq_false nb]
  walk_at "dd"
  rw [b1n]
  refine⟨_,rfl,by simp,?_⟩
  simp only [a1m]
  walk_at "dk"
  refine⟨a,ns,rfl,by omega,h1,hn,by omega,?_⟩
  walk_at "dk"
  refine⟨b,ns,rfl,by omega,h2,hn,by omega,?_⟩
  walk_at "dk"
  rw [a6f (by simp [sizeLine_eq]),a0n]
  refine a5h (jn3 hwl f1 f2) ?_
  rw [c9y]
  exact q
abbrev a6g:Stmt:=top 38
theorem c1u:FnScope ["_law_told"] ["_law_told"] (a0h a6g):=⟨rfl,rfl,rfl,by decide +kernel,rfl,by decide +kernel,by decide +kernel⟩
theorem d3g{f:Addr}{fd:FuncData} (F:Fun K "_law_words" "_law_words" a6g f fd) (B:Bl mg) (a3u:Def K mg "_law_words" a6g ["_law_told"] f fd) {m:Nat} (a6h:FnOk P w K mg base CX0 n f fd ["_law_told"] (spD K (b0q m))):FnOk P w K mg base CX0 (n + 1) f fd ["_law_told"] (spD K (b0q (m + 1))):=by
 refine F.dok c1u (fun cdv A outer s H E hr ls Qd h=>?_) (fun ls Qd h=>by obtain⟨_,_,e,_⟩:=h;rw [e];rfl)
 obtain⟨r,ns,rfl,hm,hok,hn,hy,q⟩:=h
 refine⟨rfl,?_⟩
 refine⟨_,(a0j (a4b (a2o (a3n hr.units) a3m (a1b a0w a1c (dv 0) a0g (fun _ _=>rfl)) a0l (a0r _))
  (a0t (a1n (a2e a4i a9h rfl B.str_ a8l (a0a (a1b a0w a1c (dv 0) a0g (fun _ _=>rfl)) a0d))))
  a2g)
  (a0j (a4b (a2o (a3n hr.units) a3m (a1b a0w a1c (dv 0) a0g (fun _ _=>rfl)) a0l (a0r _))
  (a0t (a1n (a1r a1a a1s a0l (a1b a0w a1c (dv 0) a0g (fun _ _=>rfl)))))
  a2g)
  (a0t (a1n (a9i a0l (a0a (a1i (b0k a7c a8m (a1i (a2n (a0a (a1b a0w a1c (dv 0) a0g (fun _ _=>rfl)) a0d))) (a1i (a3w ["_law_one"] [] rfl (by rfl) (by decide +kernel) (a3a (b5m (b9z.or b5o) c1d (dv 0) (b7r a0g) b7q)) (fun _ _ _=>(a1e (i:=0) (show(["_law_one"]:List Str).Nodup by decide +kernel) rfl (Or.inl rfl))) (fun _ _ _=>a3g) (fun _ _ _=>(a0p [false] a3u a6h hr rfl (a0a (dv 0) a0d))))))) a0d)))))),?_⟩
 have few:∀ {a:Rk},okK ns a->a.many <= 100->(rt (wR a)).length <= 2700:=fun h1 h2=>(c1t hn h1 h2).len
 match r,hm,hok,hy,q with
 | .num x,hm,hok,hy,q =>
  simp only [Rk.enc]
  walk_at "dk"
  rw [b0o hok,a0n]
  rw [show rt (wR (.num x))=tx x by show Txt.join sp1 [tx x]=_;rw [jone]] at q
  exact q
 | .box x,hm,hok,hy,q =>
  simp only [Rk.enc]
  have hx:=a3k (hn x hok)
  walk_at "dk"
  rw [a3o (by show 4 + _ <= _;omega),a0n]
  rw [show rt (wR (.box x)) = "box " ++ x by show Txt.join sp1 ["box",x]=_;rw [a7n,jone,← Str.append_assoc];rw [show(Str.ofString "box ")=Str.ofString "box" ++ sp1 by decide +kernel]] at q
  exact q
 | .pick a b c,hm,hok,hy,q =>
  obtain⟨h1,h2,h3⟩:=hok
  simp only [Rk.deep] at hm
  simp only [Rk.many] at hy
  have f1:=few h1 (by omega)
  have f2:=few h2 (by omega)
  have f3:=few h3 (by omega)
  simp only [Rk.enc]
  walk_at "dk"
  rw [b1n]
  refine⟨_,rfl,by simp,?_⟩
  simp only [a1m]
  walk_at "dk"
  refine⟨a,ns,rfl,by omega,h1,hn,by omega,?_⟩
  walk_at "dk"
  refine⟨b,ns,rfl,by omega,h2,hn,by omega,?_⟩
  walk_at "dk"
  refine⟨c,ns,rfl,by omega,h3,hn,by omega,?_⟩
  walk_at "dk"
  rw [a6f (by simp [sizeLine_eq]),a0n]
  refine a5h (jn4 (by decide) f1 f2 f3) ?_
  rw [c4d]
  exact q
 | .two wd a b,hm,hok,hy,q =>
  obtain⟨hw,h1,h2⟩:=hok
  simp only [Rk.deep] at hm
  simp only [Rk.many] at hy
  have f1:=few h1 (by omega)
  have f2:=few h2 (by omega)
  have hwl:=c4c (b1m hw)
  have nn:¬ wd = "num":=by rcases hw with rfl | rfl | rfl | rfl | rfl<;>decide +kernel
  have nb:¬ wd = "box":=by rcases hw with rfl | rfl | rfl | rfl | rfl<;>decide +kernel
  simp only [Rk.enc]
  walk_at "dd"
  rw [decide_eq_false nn]
  walk_at "dd"
  rw [decide_eq_false nb]
  walk_at "dd"
  rw [b1n]
  refine⟨_,rfl,by simp,?_⟩
  simp only [a1m]
  walk_at "dk"
  refine⟨a,ns,rfl,by omega,h1,hn,by omega,?_⟩
  walk_at "dk"
  refine⟨b,ns,rfl,by omega,h2,hn,by omega,?_⟩
  walk_at "dk"
  rw [a6f (by simp [sizeLine_eq]),a0n]
  refine a5h (jn3 hwl f1 f2) ?_
  rw [c9y]
  exact q
end
noncomputable def rowB(b:Box):List Str:=["box",b.nm,tx b.lo,tx b.hi,tx b.fst]
noncomputable def rowH(p:Str × List Str):List Str:="hand" :: p.1 :: p.2
noncomputable def rowG(d:Deed):List Str:="deed" :: wR d.g
noncomputable def rowL(p:Str × Rk):List Str:="lay" :: p.1 :: wR p.2
noncomputable def rowF(p:Str × Rk):List Str:="fact" :: p.1 :: wR p.2
noncomputable def a6p(d:Deed):List (List Str):=rowG d :: d.lays.map rowL
noncomputable def a4c(bs:List Box)(hs:List (Str × List Str))(ds:List Deed)(fs:List (Str × Rk)):List (List Str):=bs.map rowB ++ (hs.map rowH ++ (ds.flatMap a6p ++ fs.map rowF))
theorem HN_ok:∀ s ∈ HN,a0u s=true:=by decide +kernel
theorem FN_ok:∀ s ∈ FN,a0u s=true:=by decide +kernel
structure OkR(ns:List Str)(r:Rk):Prop where
 k:okK ns r
 m:r.many <= 20
 d:r.deep < 5
theorem b0g{ns:List Str}{r:Rk}(h:r.Made ns 2):OkR ns r:=⟨a7z h,by have:=(a6x r).2.2 h;omega,by have:=Rk.made_deep 2 r h;omega⟩
section
variable{ns:List Str}{bs:List Box}{hs:List (Str × List Str)}{ds:List Deed}{fs:List (Str × Rk)}
theorem OkR.few{r:Rk}(h:OkR ns r)(hn:∀ s ∈ ns,a0u s=true):Few (wR r)/\(wR r).length <= 40:=⟨c1t hn h.k (by have:=h.m;omega),by have:=b0f r;have:=h.m;omega⟩
theorem GoodM.fB(G:GoodM ns bs hs ds fs){b:Box}(h:b ∈ bs):a0u b.nm=true/\Nm b.lo/\Nm b.hi/\Nm b.fst/\Few (rowB b):=by
 have hn:a0u b.nm=true:=G.ok _ (by rw [← G.bn];exact mem_map.mpr ⟨b,h,rfl⟩)
 have hb:=G.b b h
 have h1:=hb.a
 have h2:=hb.b
 have h3:=hb.c
 have h4:=hb.d
 have n1:Nm b.lo:=⟨by omega,by omega⟩
 have n2:Nm b.hi:=⟨by omega,by omega⟩
 have n3:Nm b.fst:=⟨by omega,by omega⟩
 refine⟨hn,n1,n2,n3,by show 5 <= 300;decide,fun x hx=>?_⟩
 simp only [rowB,mem_cons,not_mem_nil,or_false] at hx
 have:=n1.tx.l4
 have:=n2.tx.l4
 have:=n3.tx.l4
 rcases hx with rfl | rfl | rfl | rfl | rfl
 ·decide
 ·exact a3k hn
 ·omega
 ·omega
 ·omega
theorem GoodM.fH(G:GoodM ns bs hs ds fs){p:Str × List Str}(h:p ∈ hs):a0u p.1=true/\p.2.length <= 4/\(∀ z ∈ p.2,a0u z=true)/\Few (rowH p):=by
 have hn:a0u p.1=true:=HN_ok _ (G.hn.subset (mem_map.mpr ⟨p,h,rfl⟩))
 have gh:=G.h p h
 have hz:∀ z ∈ p.2,a0u z=true:=fun z hz=>G.ok z (gh.m z hz)
 have hl:=gh.n
 refine⟨hn,hl,hz,by unfold rowH;rw [length_cons,length_cons];omega,fun x hx=>?_⟩
 rcases mem_cons.mp hx with rfl | hx
 ·decide
 rcases mem_cons.mp hx with rfl | hx
 ·exact a3k hn
 ·exact a3k (hz x hx)
theorem c4e{r:Rk}{w z:Str}(hn:∀ s ∈ ns,a0u s=true)(h:OkR ns r)(hw:w.length <= 8)(hz:z.length <= 8):Few (w :: z :: wR r):=b5r hw (b5r hz (h.few hn).1 (by have:=(h.few hn).2;omega)) (by have:=(h.few hn).2;rw [length_cons];omega)
theorem GoodM.fD(G:GoodM ns bs hs ds fs){d:Deed}(h:d ∈ ds):OkR ns d.g/\d.lays.length <= 4/\Few (rowG d)/\∀ p ∈ d.lays,a0u p.1=true/\p.1 ∈ ns/\OkR ns p.2/\Few (rowL p):=by
 have gd:=G.d d h
 have og:=b0g gd.g
 refine⟨og,gd.n,b5r (by decide) (og.few G.ok).1 (by have:=(og.few G.ok).2;omega),fun p hp=>?_⟩
 have hl:=gd.l p hp
 have ol:=b0g hl.1
 have hn:=G.ok _ hl.2
 exact⟨hn,hl.2,ol,c4e G.ok ol (by decide) (a3k hn)⟩
theorem GoodM.fF(G:GoodM ns bs hs ds fs){p:Str × Rk}(h:p ∈ fs):a0u p.1=true/\OkR ns p.2/\Few (rowF p):=by
 have hn:a0u p.1=true:=FN_ok _ (G.fn.subset (mem_map.mpr ⟨p,h,rfl⟩))
 have ol:=b0g (G.f p h)
 exact⟨hn,ol,c4e G.ok ol (by decide) (a3k hn)⟩
theorem GoodM.bl(G:GoodM ns bs hs ds fs):bs.length <= 4/\0 < bs.length/\hs.length <= 4/\ds.length <= 7/\fs.length <= 5:=by
 have h1:=G.len
 have h2:=G.pos
 rw [← G.bn,length_map] at h1 h2
 have h3:=G.hn.length_le
 rw [length_map] at h3
 have h4:=G.fn.length_le
 rw [length_map] at h4
 exact⟨h1,h2,h3,G.dl,h4⟩
theorem b2s(h:∀ d ∈ ds,d.lays.length <= 4):(ds.flatMap a6p).length <= 5 * ds.length:=by
 induction ds with
 | nil=>exact le_refl _
 | cons d r ih =>
  have h1:=h d (by simp)
  have h2:=ih fun x hx=>h x (mem_cons_of_mem _ hx)
  rw [List.flatMap_cons,length_append,length_cons]
  have e1:(a6p d).length=d.lays.length + 1:=by simp [a6p]
  omega
theorem a5d(rs:List (List Str)):(EE rs).length=rs.length:=length_map _
end
theorem rt_w{w w1:Str}{ws:List Str}(h:ws ≠ [])(e:w1=w ++ sp1):w1 ++ rt ws=rt (w :: ws):=by rw [a6w h,e,Str.append_assoc]
theorem b9p{w w1 z:Str}{ws:List Str}(h:ws ≠ [])(e:w1=w ++ sp1):w1 ++ z ++ sp1 ++ rt ws=rt (w :: z :: ws):=by
 rw [a6w (cons_ne_nil _ _),a6w h,e,Str.append_assoc,Str.append_assoc,Str.append_assoc]
def b4p:DSp:=fun ls Q=>∃ (ns:List Str) (bs:List Box) (hs:List (Str × List Str)) (ds:List Deed) (fs:List (Str × Rk)),ls=[.d (encM bs hs ds fs)]/\GoodM ns bs hs ds fs/\Q (.new (EE (a4c bs hs ds fs))) [none]
section
variable{P:Program}{w:World}{K:W.Frag}{mg:Str->Option Value}{base:Heap}{n:Nat}
abbrev a5m:Stmt:=top 19
theorem a2h:FnScope ["machine","rows","box","pair","deed","lay"] ["machine"] (a0h a5m):=⟨rfl,rfl,rfl,by decide +kernel,rfl,by decide +kernel,by decide +kernel⟩
theorem e4y{f f1:Addr}{fd fd1:FuncData} (F:Fun K "shown_machine" "shown_machine" a5m f fd) (B:Bl mg) (d_shown_reckoning:Def K mg "shown_reckoning" a3p ["reckoning"] f1 fd1) (g_shown_reckoning:FnOk P w K mg base CX0 n f1 fd1 ["reckoning"] (spD K (b0q 5))):FnOk P w K mg base CX0 (n + 1) f fd ["machine"] (spD K b4p):=by
 refine F.dok a2h (fun cdv A outer s H E hr ls Qd h=>?_) (fun ls Qd hq8=>by obtain⟨_,_,_,_,_,e,_⟩:=hq8;rw [e];rfl)
 obtain⟨ns,bs,hs,ds,fs,rfl,G,q⟩:=h
 refine⟨rfl,?_⟩
 refine⟨_,(a0j (a9f (i:=1) a2h.nd rfl (Or.inl rfl) (a2n a0d))
  (a0j (a8n PassesOwn.never rfl (a3a (a1b a0w a1c (dv 0) a0g (fun _ _=>rfl))) (a1e (i:=2) a2h.nd rfl (Or.inl rfl))
  (a0t (a5f (a4o 1 rfl (a9i a0l (a0a (a1i (b0k a7c a8m (a1i (a2n (a0a a0l (a0a (a1b a0w a1c (dv 2) a0g (fun _ _=>rfl)) a0d)))) (a1i (a3w ["number"] [] rfl (by rfl) (by decide +kernel) (a3a (b5m (b9z.or b5o) c1d (dv 2) (b7r a0g) b7q)) (fun _ _ _=>(a1e (i:=0) (show(["number"]:List Str).Nodup by decide +kernel) rfl (Or.inl rfl))) (fun _ _ _=>a3g) (fun _ _ _=>(a2e a4i a9h rfl B.str_ a8l (a0a (dv 0) a0d))))))) a0d))))))
  (a0j (a8n PassesOwn.never rfl (a3a (a1b a0w a1c (dv 0) a0g (fun _ _=>rfl))) (a1e (i:=3) a2h.nd rfl (Or.inl rfl))
  (a0t (a5f (a4o 1 rfl (a9i a0l (a0a (a1i (b0k a7c a8m (a1i (a2n (a0a a0l (a0a (a1b a0w a1c (dv 3) a0g (fun _ _=>rfl)) a0d)))) (a1i (b3h a9r b7m rfl B.list_ a9d (a0a (a1b a0w a1c (dv 3) a0g (fun _ _=>rfl)) a0d))))) a0d))))))
  (a0j (a8n PassesOwn.never rfl (a3a (a1b a0w a1c (dv 0) a0g (fun _ _=>rfl))) (a1e (i:=4) a2h.nd rfl (Or.inl rfl))
  (a0j (a5f (a4o 1 rfl (a1r a1a a1s a0l (a0p [false] d_shown_reckoning g_shown_reckoning hr rfl (a0a (a1b a0w a1c (dv 4) a0g (fun _ _=>rfl)) a0d)))))
  (a0t (a8n PassesOwn.never rfl (a3a (a1b a0w a1c (dv 4) a0g (fun _ _=>rfl))) (a1e (i:=5) a2h.nd rfl (Or.inl rfl))
  (a0t (a5f (a4o 1 rfl (a1r a1a a1s (a1r a1a a1s (a1r a1a a1s a0l (a1b a0w a1c (dv 5) a0g (fun _ _=>rfl))) a0l) (a0p [false] d_shown_reckoning g_shown_reckoning hr rfl (a0a (a1b a0w a1c (dv 5) a0g (fun _ _=>rfl)) a0d))))))))))
  (a0j (a8n PassesOwn.never rfl (a3a (a1b a0w a1c (dv 0) a0g (fun _ _=>rfl))) (a1e (i:=3) a2h.nd rfl (Or.inl rfl))
  (a0t (a5f (a4o 1 rfl (a1r a1a a1s (a1r a1a a1s (a1r a1a a1s a0l (a1b a0w a1c (dv 3) a0g (fun _ _=>rfl))) a0l) (a0p [false] d_shown_reckoning g_shown_reckoning hr rfl (a0a (a1b a0w a1c (dv 3) a0g (fun _ _=>rfl)) a0d)))))))
  (a0t (c8d 1))))))),?_⟩
 obtain⟨bl,_,hl,dl,fl⟩:=G.bl
 have ml:∀ {r:Rk},OkR ns r->r.many <= 100:=fun h=>by have:=h.m;omega
 walk_at "dd"
 refine a5s (fun i ρ=>∃ v2:Option L,ρ=[some (.d (encM bs hs ds fs)),some (.own (EE ((bs.take i).map rowB))),v2,none,none,none]) ⟨none,rfl⟩ ?_ ?_
 ·rintro i x ρ N hx ⟨v2,rfl⟩ hN
  rw [getElem?_map] at hx
  obtain⟨b,hb,rfl⟩:=map_eq_some_iff.mp hx
  obtain⟨g1,g2,g3,g4,g5⟩:=G.fB (mem_of_getElem? hb)
  walk_at "dd"
  unfold encB
  walk_at "dd"
  rw [b1n]
  refine⟨_,rfl,by simp,?_⟩
  simp only [a1m]
  walk_at "dd"
  rw [b0o g2,a0n]
  walk_at "dd"
  rw [b0o g3,a0n]
  walk_at "dd"
  rw [b0o g4,a0n]
  walk_at "dd"
  rw [a6f (by simp [sizeLine_eq]),a0n]
  refine a5h (a9g (ss:=rowB b) (by decide) g5.sum) ?_
  refine⟨by rw [a5d];simp only [length_append,length_map,length_take,length_cons];omega,hN _ ⟨some (.d (encB b)),?_⟩⟩
  rw [show Txt.join (Str.ofString " ") (rowB b)=rt (rowB b) from rfl,a5i,take_add_one,hb]
  simp
  rfl
 rintro ρ ⟨v2,rfl⟩
 rw [length_map,take_length]
 walk_at "dd"
 refine a5s (fun i ρ=>∃ v3:Option L,ρ=[some (.d (encM bs hs ds fs)),some (.own (EE (bs.map rowB ++ (hs.take i).map rowH))),v2,v3,none,none]) ⟨none,by simp⟩ ?_ ?_
 ·rintro i x ρ N hx ⟨v3,rfl⟩ hN
  rw [getElem?_map] at hx
  obtain⟨p,hp,rfl⟩:=map_eq_some_iff.mp hx
  obtain⟨g1,g2,g3,g5⟩:=G.fH (mem_of_getElem? hp)
  walk_at "dd"
  unfold encH
  walk_at "dd"
  refine⟨_,rfl,?_⟩
  rw [a6f (by simp [sizeLine_eq];omega),a0n]
  refine a5h (a9g (ss:=rowH p) (by decide) g5.sum) ?_
  refine⟨by rw [a5d];simp only [length_append,length_map,length_take,length_cons];omega,hN _ ⟨some (.d (encH p)),?_⟩⟩
  rw [show Txt.join (Str.ofString " ") (rowH p)=rt (rowH p) from rfl,a5i,take_add_one,hp]
  simp
  rfl
 rintro ρ ⟨v3,rfl⟩
 rw [length_map,take_length]
 walk_at "dd"
 refine a5s (fun i ρ=>∃ v4 v5:Option L,ρ=[some (.d (encM bs hs ds fs)),some (.own (EE (bs.map rowB ++ (hs.map rowH ++ (ds.take i).flatMap a6p)))),v2,v3,v4,v5]) ⟨none,none,by simp⟩ ?_ ?_
 ·rintro i x ρ N hx ⟨v4,v5,rfl⟩ hN
  rw [getElem?_map] at hx
  obtain⟨d,hd,rfl⟩:=map_eq_some_iff.mp hx
  obtain⟨g1,g2,g3,g4⟩:=G.fD (mem_of_getElem? hd)
  have rl:=b2s (ds:=ds.take i) fun x hx=>(G.fD (List.mem_of_mem_take hx)).2.1
  rw [length_take] at rl
  have gl:=(g1.few G.ok).1.len
  walk_at "dd"
  unfold encD
  walk_at "dd"
  refine⟨d.g,ns,rfl,g1.d,g1.k,G.ok,ml g1,?_⟩
  walk_at "dd"
  rw [a3o (by show 5 + _ <= _;omega),a0n,rt_w (w:="deed") (a5l _) (by decide +kernel)]
  refine⟨by rw [a5d];simp only [length_append,length_map,length_take,length_cons];omega,?_⟩
  rw [show Str.ofString "deed" :: wR d.g=rowG d from rfl,a5i]
  walk_at "dd"
  refine a5s (fun j ρ=>∃ v5:Option L,ρ=[some (.d (encM bs hs ds fs)),some (.own (EE (bs.map rowB ++ (hs.map rowH ++ (ds.take i).flatMap a6p) ++ (rowG d :: (d.lays.take j).map rowL)))),v2,v3,some (.d (encD d)),v5]) ⟨v5,by simp;rfl⟩ ?_ ?_
  ·rintro j x ρ N2 hx ⟨v5,rfl⟩ hN2
   rw [getElem?_map] at hx
   obtain⟨p,hp,rfl⟩:=map_eq_some_iff.mp hx
   obtain⟨k1,k2,k3,k4⟩:=g4 p (mem_of_getElem? hp)
   have pl:=(k3.few G.ok).1.len
   have nl:=a3k k1
   walk_at "dd"
   unfold encL
   walk_at "dd"
   rw [a3o (by show 4 + _ <= _;omega),a0n,a3o (by rw [len_app];show 4 + _ + 1 <= _;omega),a0n]
   refine⟨p.2,ns,rfl,k3.d,k3.k,G.ok,ml k3,?_⟩
   walk_at "dd"
   rw [a3o (by rw [len_app,len_app];show 4 + _ + 1 + _ <= _;omega),a0n,b9p (w:="lay") (a5l _) (by decide +kernel)]
   refine⟨by rw [a5d];simp only [length_append,length_map,length_take,length_cons];omega,hN2 _ ⟨some (.d (encL p)),?_⟩⟩
   rw [show Str.ofString "lay" :: p.1 :: wR p.2=rowL p from rfl,a5i,take_add_one,hp]
   simp
   rfl
  ·rintro ρ ⟨v5,rfl⟩
   rw [length_map,take_length]
   refine hN _ ⟨some (.d (encD d)),v5,?_⟩
   rw [take_add_one,hd]
   simp [a6p]
 rintro ρ ⟨v4,v5,rfl⟩
 rw [length_map,take_length]
 have rl:=b2s (ds:=ds) fun x hx=>(G.fD hx).2.1
 walk_at "dd"
 refine a5s (fun i ρ=>∃ v3:Option L,ρ=[some (.d (encM bs hs ds fs)),some (.own (EE (bs.map rowB ++ (hs.map rowH ++ (ds.flatMap a6p ++ (fs.take i).map rowF))))),v2,v3,v4,v5]) ⟨v3,by simp⟩ ?_ ?_
 ·rintro i x ρ N hx ⟨v3,rfl⟩ hN
  rw [getElem?_map] at hx
  obtain⟨p,hp,rfl⟩:=map_eq_some_iff.mp hx
  obtain⟨k1,k3,k4⟩:=G.fF (mem_of_getElem? hp)
  have pl:=(k3.few G.ok).1.len
  have nl:=a3k k1
  walk_at "dd"
  unfold encL
  walk_at "dd"
  rw [a3o (by show 5 + _ <= _;omega),a0n,a3o (by rw [len_app];show 5 + _ + 1 <= _;omega),a0n]
  refine⟨p.2,ns,rfl,k3.d,k3.k,G.ok,ml k3,?_⟩
  walk_at "dd"
  rw [a3o (by rw [len_app,len_app];show 5 + _ + 1 + _ <= _;omega),a0n,b9p (w:="fact") (a5l _) (by decide +kernel)]
  refine⟨by rw [a5d];simp only [length_append,length_map,length_take,length_cons];omega,hN _ ⟨some (.d (encL p)),?_⟩⟩
  rw [show Str.ofString "fact" :: p.1 :: wR p.2=rowF p from rfl,a5i,take_add_one,hp]
  simp
  rfl
 rintro ρ ⟨v3,rfl⟩
 rw [length_map,take_length]
 walk_at "dd"
 exact q
end
section
variable{P:Program}{w:World}{K:W.Frag}{mg:Str->Option Value}{base:Heap}{n:Nat}
abbrev a9a:Stmt:=top 39
theorem a5j:FnScope ["_law_machine_here","_law_rows_here","_law_guard","_law_lays"] ["_law_machine_here"] (a0h a9a):=⟨rfl,rfl,rfl,by decide +kernel,rfl,by decide +kernel,by decide +kernel⟩
theorem d9h{f f1:Addr}{fd fd1:FuncData} (F:Fun K "_law_rows" "_law_rows" a9a f fd) (B:Bl mg) (a3u:Def K mg "_law_words" a6g ["_law_told"] f1 fd1) (a6h:FnOk P w K mg base CX0 n f1 fd1 ["_law_told"] (spD K (b0q 5))):FnOk P w K mg base CX0 (n + 1) f fd ["_law_machine_here"] (spD K b4p):=by
 refine F.dok a5j (fun cdv A outer s H E hr ls Qd h=>?_) (fun ls Qd hq8=>by obtain⟨_,_,_,_,_,e,_⟩:=hq8;rw [e];rfl)
 obtain⟨ns,bs,hs,ds,fs,rfl,G,q⟩:=h
 refine⟨rfl,?_⟩
 refine⟨_,(a0j (b4l (i:=1) a5j.nd rfl rfl ["_law_box_here"] [] rfl (by rfl) (by decide +kernel) (a3a (a1b a0w a1c (dv 0) a0g (fun _ _=>rfl))) (fun _ _ _=>(a1e (i:=0) (show(["_law_box_here"]:List Str).Nodup by decide +kernel) rfl (Or.inl rfl))) (fun _ _ _=>a3g) (fun _ _ _=>(a9i a0l (a0a (a1i (a2n (a0a a0l (a0a (a1b a0w a1c (dv 0) a0g (fun _ _=>rfl)) (a0a (a2e a4i a9h rfl B.str_ a8l (a0a (a1b a0w a1c (dv 0) a0g (fun _ _=>rfl)) a0d)) (a0a (a2e a4i a9h rfl B.str_ a8l (a0a (a1b a0w a1c (dv 0) a0g (fun _ _=>rfl)) a0d)) (a0a (a2e a4i a9h rfl B.str_ a8l (a0a (a1b a0w a1c (dv 0) a0g (fun _ _=>rfl)) a0d)) a0d))))))) a0d))))
  (a0j (a9f (i:=1) a5j.nd rfl (Or.inl rfl) (b0k a7c a8m (dv 1) (a1i (a3w ["_law_hand","_law_seen"] [] rfl (by rfl) (by decide +kernel) (a3a (a1b a0w a1c (dv 0) a0g (fun _ _=>rfl))) (fun _ _ _=>(b6n (n:=2) rfl (a5r (a1e (i:=0) (show(["_law_hand","_law_seen"]:List Str).Nodup by decide +kernel) rfl (Or.inl rfl)) (a5r (a1e (i:=1) (show(["_law_hand","_law_seen"]:List Str).Nodup by decide +kernel) rfl (Or.inl rfl)) b4k)))) (fun _ _ _=>a3g) (fun _ _ _=>(a9i a0l (a0a (a1i (b0k a7c a8m (a1i (a2n (a0a a0l (a0a (dv 0) a0d)))) (a1i (b3h a9r b7m rfl B.list_ a9d (a0a (dv 1) a0d))))) a0d)))))))
  (a0j (a8n PassesOwn.never rfl (a3a (a1b a0w a1c (dv 0) a0g (fun _ _=>rfl))) (b6n (n:=2) rfl (a5r (a1e (i:=2) a5j.nd rfl (Or.inl rfl)) (a5r (a1e (i:=3) a5j.nd rfl (Or.inl rfl)) b4k)))
  (a0j (a5f (a4o 1 rfl (a1r a1a a1s a0l (a0p [false] a3u a6h hr rfl (a0a (dv 2) a0d)))))
  (a0t (a9f (i:=1) a5j.nd rfl (Or.inl rfl) (b0k a7c a8m (dv 1) (a1i (a3w ["_law_name","_law_one"] [] rfl (by rfl) (by decide +kernel) (a3a (dv 3)) (fun _ _ _=>(b6n (n:=2) rfl (a5r (a1e (i:=0) (show(["_law_name","_law_one"]:List Str).Nodup by decide +kernel) rfl (Or.inl rfl)) (a5r (a1e (i:=1) (show(["_law_name","_law_one"]:List Str).Nodup by decide +kernel) rfl (Or.inl rfl)) b4k)))) (fun _ _ _=>a3g) (fun _ _ _=>(a1r a1a a1s (a1r a1a a1s (a1r a1a a1s a0l (dv 0)) a0l) (a0p [false] a3u a6h hr rfl (a0a (dv 1) a0d)))))))))))
  (a0t (d6g (b0k a7c a8m (dv 1) (a1i (a3w ["_law_name","_law_one"] [] rfl (by rfl) (by decide +kernel) (a3a (a1b a0w a1c (dv 0) a0g (fun _ _=>rfl))) (fun _ _ _=>(b6n (n:=2) rfl (a5r (a1e (i:=0) (show(["_law_name","_law_one"]:List Str).Nodup by decide +kernel) rfl (Or.inl rfl)) (a5r (a1e (i:=1) (show(["_law_name","_law_one"]:List Str).Nodup by decide +kernel) rfl (Or.inl rfl)) b4k)))) (fun _ _ _=>a3g) (fun _ _ _=>(a1r a1a a1s (a1r a1a a1s (a1r a1a a1s a0l (dv 0)) a0l) (a0p [false] a3u a6h hr rfl (a0a (dv 1) a0d)))))))))))),?_⟩
 obtain⟨bl,_,hl,dl,fl⟩:=G.bl
 have ml:∀ {r:Rk},OkR ns r->r.many <= 100:=fun h=>by have:=h.m;omega
 have rl:∀ i,((ds.take i).flatMap a6p).length <= 35:=fun i=>by
  have:=b2s (ds:=ds.take i) fun x hx=>(G.fD (List.mem_of_mem_take hx)).2.1
  rw [length_take] at this
  omega
 walk_at "dd"
 refine⟨by rw [length_map];omega,?_⟩
 refine a3j (fun i ρ acc=>∃ v0:Option L,ρ=[v0]/\acc=EE ((bs.take i).map rowB)) ⟨none,rfl,rfl⟩ ?_ ?_
 ·rintro i x ρ acc N hx ⟨v0,rfl,rfl⟩ hN
  rw [getElem?_map] at hx
  obtain⟨b,hb,rfl⟩:=map_eq_some_iff.mp hx
  obtain⟨g1,g2,g3,g4,g5⟩:=G.fB (mem_of_getElem? hb)
  walk_at "dd"
  unfold encB
  walk_at "dd"
  refine⟨_,rfl,?_⟩
  rw [b0o g2,a0n,b0o g3,a0n,b0o g4,a0n]
  refine a5h (a9g (ss:=rowB b) (by decide) g5.sum) ?_
  refine hN _ _ ⟨_,rfl,?_⟩
  rw [show Txt.join (Str.ofString " ") (rowB b)=rt (rowB b) from rfl,a5i,take_add_one,hb]
  simp
 rintro ρ acc ⟨v0,rfl,rfl⟩
 rw [length_map,take_length]
 walk_at "dd"
 refine⟨by rw [length_map];omega,?_⟩
 refine a3j (fun i ρ acc=>∃ v0 v1:Option L,ρ=[v0,v1]/\acc=EE ((hs.take i).map rowH)) ⟨none,none,rfl,rfl⟩ ?_ ?_
 ·rintro i x ρ acc N hx ⟨v0,v1,rfl,rfl⟩ hN
  rw [getElem?_map] at hx
  obtain⟨p,hp,rfl⟩:=map_eq_some_iff.mp hx
  obtain⟨g1,g2,g3,g5⟩:=G.fH (mem_of_getElem? hp)
  unfold encH
  walk_at "dd"
  refine⟨_,rfl,?_⟩
  rw [a6f (by simp [sizeLine_eq];omega),a0n]
  refine a5h (a9g (ss:=rowH p) (by decide) g5.sum) ?_
  refine hN _ _ ⟨_,_,rfl,?_⟩
  rw [show Txt.join (Str.ofString " ") (rowH p)=rt (rowH p) from rfl,a5i,take_add_one,hp]
  simp
 rintro ρ acc ⟨v0,v1,rfl,rfl⟩
 rw [length_map,take_length]
 walk_at "dd"
 rw [a6f (by rw [a5d,a5d,length_map,length_map,sizeLine_eq];omega),a0n,c1s]
 walk_at "dd"
 refine a5s (fun i ρ=>∃ v2 v3:Option L,ρ=[some (.d (encM bs hs ds fs)),some (.own (EE (bs.map rowB ++ (hs.map rowH ++ (ds.take i).flatMap a6p)))),v2,v3]) ⟨none,none,by simp⟩ ?_ ?_
 ·rintro i x ρ N hx ⟨v2,v3,rfl⟩ hN
  rw [getElem?_map] at hx
  obtain⟨d,hd,rfl⟩:=map_eq_some_iff.mp hx
  obtain⟨g1,g2,g3,g4⟩:=G.fD (mem_of_getElem? hd)
  have gl:=(g1.few G.ok).1.len
  have rli:=rl i
  unfold encD
  walk_at "dd"
  refine⟨d.g,ns,rfl,g1.d,g1.k,G.ok,ml g1,?_⟩
  walk_at "dd"
  rw [a3o (by show 5 + _ <= _;omega),a0n,rt_w (w:="deed") (a5l _) (by decide +kernel)]
  refine⟨by rw [a5d];simp only [length_append,length_map];omega,?_⟩
  rw [show Str.ofString "deed" :: wR d.g=rowG d from rfl,a5i]
  walk_at "dd"
  refine⟨by rw [length_map];omega,?_⟩
  refine a3j (fun j ρ acc=>∃ v0 v1:Option L,ρ=[v0,v1]/\acc=EE ((d.lays.take j).map rowL)) ⟨none,none,rfl,rfl⟩ ?_ ?_
  ·rintro j x ρ acc N2 hx ⟨v0,v1,rfl,rfl⟩ hN2
   rw [getElem?_map] at hx
   obtain⟨p,hp,rfl⟩:=map_eq_some_iff.mp hx
   obtain⟨k1,k2,k3,k4⟩:=g4 p (mem_of_getElem? hp)
   have pl:=(k3.few G.ok).1.len
   have nl:=a3k k1
   unfold encL
   walk_at "dd"
   rw [a3o (by show 4 + _ <= _;omega),a0n,a3o (by rw [len_app];show 4 + _ + 1 <= _;omega),a0n]
   refine⟨p.2,ns,rfl,k3.d,k3.k,G.ok,ml k3,?_⟩
   walk_at "dd"
   rw [a3o (by rw [len_app,len_app];show 4 + _ + 1 + _ <= _;omega),a0n,b9p (w:="lay") (a5l _) (by decide +kernel)]
   refine hN2 _ _ ⟨_,_,rfl,?_⟩
   rw [show Str.ofString "lay" :: p.1 :: wR p.2=rowL p from rfl,a5i,take_add_one,hp]
   simp
  ·rintro ρ acc ⟨v0,v1,rfl,rfl⟩
   rw [length_map,take_length]
   walk_at "dd"
   rw [a6f (by rw [a5d,a5d,sizeLine_eq];simp only [length_append,length_map,length_cons,List.length_nil];omega),a0n,c1s]
   walk_at "dd"
   refine hN _ ⟨some (.d d.g.enc),some (.d (.tuple (d.lays.map encL))),?_⟩
   rw [take_add_one,hd]
   simp [a6p]
 rintro ρ ⟨v2,v3,rfl⟩
 rw [length_map,take_length]
 have rli:=rl ds.length
 rw [take_length] at rli
 walk_at "dd"
 refine⟨by rw [length_map];omega,?_⟩
 refine a3j (fun i ρ acc=>∃ v0 v1:Option L,ρ=[v0,v1]/\acc=EE ((fs.take i).map rowF)) ⟨none,none,rfl,rfl⟩ ?_ ?_
 ·rintro i x ρ acc N hx ⟨v0,v1,rfl,rfl⟩ hN
  rw [getElem?_map] at hx
  obtain⟨p,hp,rfl⟩:=map_eq_some_iff.mp hx
  obtain⟨k1,k3,k4⟩:=G.fF (mem_of_getElem? hp)
  have pl:=(k3.few G.ok).1.len
  have nl:=a3k k1
  unfold encL
  walk_at "dd"
  rw [a3o (by show 5 + _ <= _;omega),a0n,a3o (by rw [len_app];show 5 + _ + 1 <= _;omega),a0n]
  refine⟨p.2,ns,rfl,k3.d,k3.k,G.ok,ml k3,?_⟩
  walk_at "dd"
  rw [a3o (by rw [len_app,len_app];show 5 + _ + 1 + _ <= _;omega),a0n,b9p (w:="fact") (a5l _) (by decide +kernel)]
  refine hN _ _ ⟨_,_,rfl,?_⟩
  rw [show Str.ofString "fact" :: p.1 :: wR p.2=rowF p from rfl,a5i,take_add_one,hp]
  simp
 rintro ρ acc ⟨v0,v1,rfl,rfl⟩
 rw [length_map,take_length]
 walk_at "dd"
 rw [a6f (by rw [a5d,a5d,sizeLine_eq];simp only [length_append,length_map];omega),a0n,c1s]
 walk_at "dd"
 rw [append_assoc,append_assoc]
 exact q
end
structure RdF(K:W.Frag)(mg:Str->Option Value)(CW:Addr):Prop where
 cl:Cls K CW
 n1:a3y K CW "latest"
 n2:a3y K CW "boxes"
 n3:a3y K CW "seers"
 n4:a3y K CW "deeds"
 n5:a3y K CW "facts"
 n6:a3y K CW "left"
 mgC:mg "MachineReading" = some (.ref CW)
theorem But.of{x:Addr}{H H':Hp}(s:Same H H'):But x H H':=fun c o _ e=>s c o e
theorem But.trans{x:Addr}{H H1 H':Hp}(a:But x H H1)(b:But x H1 H'):But x H H':=fun c o n e=>b c o n (a c o n e)
theorem But.keep{x C dx:Addr}{fs:List (Str × V)}{H H':Hp}(b:But x H H')(hx:H x=some (.ins C dx fs)):Keep (fun a=>a ≠ x) H H':=
 ⟨fun c xs e=>b _ _ (fun z=>by rw [z,hx] at e;cases e) e,fun c o u e=>b _ _ (fun z=>by rw [z,hx] at e;cases e) e,fun c o n e=>b _ _ n e⟩
theorem sdec{a b:Str}:decide (V.str a=V.str b)=decide (a=b):=by
 by_cases e:a=b
 ·rw [e];simp
 ·rw [decide_eq_false e,decide_eq_false fun z=>e (V.str.inj z)]
theorem sp_eq:sp1=⟨#[32]⟩:=by decide +kernel
abbrev c6p(p:Str × PyData):PyData:=.tuple [.str p.1,p.2]
noncomputable def lstN(ps:List (Str × PyData)):Str:=(ps.getLast?.map (·.1)).getD ""
theorem d9i{ws:List Str}(hn:ws ≠ [])(h:∀ z ∈ ws,(32:Nat) ∉ z.cps.toList):Txt.split (rt ws) " " = ws:=by
 unfold rt
 show Txt.split _ sp1=_
 rw [sp_eq]
 exact c6f hn h
theorem b4q:∀ ss:List Str,(ss.map V.str).all a8d=true
 | []=>rfl
 | x :: r=>by rw [map_cons,List.all_cons,b4q r];rfl
theorem b8a{K:W.Frag}{H:Hp}{S:Addr->Prop}:∀ {ns:List Str} {ys:List V},a0b K H S (ns.map .str) ys->ys=ns.map V.str
 | [],ys,h=>h.unnil
 | n :: r,ys,h=>by
  obtain⟨v,q,rfl,h1,h2⟩:=h.uncons
  unfold AtD at h1
  rw [h1,b8a h2];rfl
theorem b4r{z:Str}:∀ ss:List Str,inV (.str z) (ss.map V.str)=decide (z ∈ ss)
 | []=>by simp [inV]
 | a :: r=>by
  have ih:=b4r (z:=z) r
  unfold inV at ih ⊢
  rw [map_cons,List.any_cons,ih]
  by_cases c:a=z
  ·subst c;simp [eqV]
  ·simp [eqV,c,Ne.symm c,beq_eq_false_iff_ne]
theorem b5s{X:Cx}{K':W.Frag}{e:Expr}(t:W.Frag->TE)(h:PE X e (t X.K))(hk:X.K=K'):PE X e (t K'):=hk ▸ h
noncomputable def d9j:V->List V->Hp->VK->Prop:=fun x vs H Q=>∃ (z y:Str),x=.str z/\vs=[.str y]/\Q (.bl (Txt.startswith z y)) H
theorem c9z{X:Cx}:MtM X "str.startswith" d9j:=by
 intro pins s σ H x vs v us Q I rx rv h
 obtain⟨z,y,rfl,rfl,q⟩:=h
 obtain⟨t,rfl⟩:=rx
 obtain⟨u,rfl,r⟩:=vals1 rv
 obtain⟨k,rfl⟩:=r
 exact SC.startswith ⟨.bl _,H,I,rfl,q⟩
def b6z(K:W.Frag):Sp:=fun vs H Q _=>∃ (z:Str) (sa:Addr) (ns:List Int),vs=[.str z]/\z.length <= 1000/\(Txt.slice z (some 1) none).length <= 1000/\L2.Scr K H sa (ns.map V.int)/\∀ H',Same H H'->Q (.bl (numb z)) H'
def c1v(K:W.Frag)(C:Addr):Sp:=fun vs H Q _=>∃ (wx dw:Addr) (r:Int) (wl:Addr) (p:Nat) (ws:List Str) (v lo hi:Int) (sa:Addr) (ns:List Int),vs=[.ref wx,.int lo,.int hi]/\WOk C H wx dw r wl p ws/\ws[p]? = some (tx v)/\Nm v/\lo <= v/\v <= hi/\L2.Scr K H sa (ns.map V.int)/\∀ H',But wx H H'->WOk C H' wx dw r wl (p + 1) ws->Q (.int v) H'
def b2t(K:W.Frag):Sp:=fun vs H Q _=>∃ (z:Str) (pl:Addr) (us:List V) (ps:List (Str × PyData)) (sa:Addr) (ns:List Int),vs=[.str z,.ref pl]/\H pl=some (.lst us)/\a0b K H (fun _=>False) (ps.map c6p) us/\a0u z=true/\leC z (lstN ps)=false/\L2.Scr K H sa (ns.map V.int)/\∀ H',Same H H'->Q (.bl true) H'
def b1o(K:W.Frag)(CW:Addr):Sp:=fun vs H Q _=>∃ (x dx bo:Addr) (fs:List (Str × V)) (z:Str) (us:List V) (bs:List Box),vs=[.ref x,.str z]/\H x=some (.ins CW dx fs)/\fs.lookup ("boxes" : Str)=some (.ref bo)/\H bo=some (.lst us)/\a0b K H (fun _=>False) (bs.map encB) us/\bs.length <= 10/\∀ H',Same H H'->Q (.bl (decide (z ∈ bs.map (·.nm)))) H'
abbrev b1p:Stmt:=inClass (top 22) 4
theorem d9k:FnScope ["self","word"] ["self","word"] (a0h b1p):=⟨rfl,rfl,rfl,by decide +kernel,rfl,by decide +kernel,by decide +kernel⟩
theorem d4w{v:Int}(h:Nm v):(Txt.slice (tx v) (some 1) none).length <= 1000:=by
 have hl:=Txt.slice_le (tx v) (some 1) none
 have:=h.tx.l4
 omega
section
variable{P:Program}{w:World}{K:W.Frag}{mg:Str->Option Value}{base:Heap}{n:Nat}{C CW:Addr}
theorem _root_.L2.Fun.okC{CX:CXT}{x qual:Str}{st:Stmt}{f:Addr}{fd:FuncData}{N ps:List Str}{k:Nat}{sp:Sp}(F:Fun K x qual st f fd)(S:FnScope N ps (a0h st))(len:∀ vs H Q E,sp vs H Q E->vs.length=ps.length)
  (hbody:∀ (cdv:Value) (A:Around) (outer:List Env) (s:Shared) (H:Hp) (vs:List V) (Q:VK) (E:XK),fd.code=cdv->Room k (A.deeper (PyProof.Rows.envOfC qual (a0h st) s.heap.objs.size f cdv))->sp vs H Q E ->
   ∃ t,PSs (cxOf CX P w K mg base N qual (a0h st) f cdv A outer s H E) (a1o st) t/\t { nx:=fun _ H'=>Q .non H',rt:=Q } (start N vs) H):FnOk P w K mg base CX (k + 1) f fd ps sp:=by
 obtain⟨oc,od,kV,doc,pm,an,cdv,ct,osl,rfl,lk,hcd⟩:=F.ex
 exact d4d lk hcd S len fun A outer s H vs Q E hr hsp=>hbody cdv A outer s H vs Q E rfl hr hsp
theorem c4f{H1:Hp}{sa:Addr}{ns:List Int}{z:Str}{Q:VK}(sc:L2.Scr K H1 sa (ns.map V.int))(h:a0u z=true)(hq:∀ H2,Same H1 H2->Q (.bl true) H2):spD K b0e [.str z] H1 Q E0:=
 b7u (E:=E0) (S:=fun _=>False) (ds:=[.str z]) (Qd:=fun r _=>r=.d (.bool true)) sc (.cons (a1u _) (by unfold a0b;rfl)) ⟨z,rfl,h,rfl⟩ (fun r v H2 ρ' e s2 ret=>by
  subst e
  have ev:v=.bl true:=by unfold Ret at ret;unfold AtD at ret;exact ret
  rw [ev];exact hq H2 s2)
theorem a6b{x:Addr}{H H2 H':Hp}{cs:List Addr}(s:Same H H2)(b:But x H2 H')(hn:∀ c ∈ cs,H c=none):But x H (hid H' cs):=fun c o n e=>by
 rw [a0y fun m=>by rw [hn c m] at e;cases e];exact b _ _ n (s _ _ e)
theorem c1w{H1:Hp}{sa:Addr}{ns:List Int}{z:Str}{Q:VK}(sc:L2.Scr K H1 sa (ns.map V.int))(hz:z.length <= 1000000)(hq:∀ H2,Same H1 H2->Q (.bl (figs 3 z)) H2):spD K b6x [.str z,.int 3] H1 Q E0:=
 b7u (E:=E0) (S:=fun _=>False) (ds:=[.str z,.int 3]) (Qd:=fun r _=>r=.d (.bool (figs 3 z))) sc (.cons (a1u _) (.cons (a1y _) (by unfold a0b;rfl))) ⟨z,3,rfl,hz,by decide,rfl⟩ (fun r v H2 ρ' e s2 ret=>by
  subst e
  have ev:v=.bl (figs 3 z):=by unfold Ret at ret;unfold AtD at ret;exact ret
  rw [ev];exact hq H2 s2)
abbrev a6i:Stmt:=top 24
theorem c1x:FnScope ["word"] ["word"] (a0h a6i):=⟨rfl,rfl,rfl,by decide +kernel,rfl,by decide +kernel,by decide +kernel⟩
theorem d9l{f f1:Addr}{fd fd1:FuncData} (F:Fun K "is_number" "is_number" a6i f fd) (d_figs:Def K mg "is_figures" a7m ["text","most"] f1 fd1) (g_figs:FnOk P w K mg base CX0 n f1 fd1 ["text","most"] (spD K b6x)):FnOk P w K mg base CX0 (n + 1) f fd ["word"] (b6z K):=by
 refine F.ok c1x (fun vs H Q E h=>?_) (fun cdv A outer s H vs Q E hr h=>?_)
 ·obtain⟨z,sa,ns,rfl,_⟩:=h
  rfl
 obtain⟨z,sa,ns,rfl,hl,hl2,sc,q⟩:=h
 refine⟨_,a0o (a4a (L2.b0v (a6k PySem.F.plainAttrs_str PySem.F.slot_str_startswith PySem.F.type_str_startswith c9z (pv 0) (a0c a2y a0i)))
   (a0s (a1p (a8i (a2c d_figs g_figs hr rfl (a0c (b9y e4k (pv 0) (c3e a0v) c3d) (a0c a0v a0i))) (a5o (a2r d3z (pv 0) a2y (a0r _)))))) a3e)
  (a0s (a1p (a2c d_figs g_figs hr rfl (a0c (pv 0) (a0c a0v a0i))))),?_⟩
 unfold numb at q
 refine⟨_,rfl,rfl,z,_,rfl,rfl,_,rfl,?_⟩
 cases hs:Txt.startswith z "-" with
 | true =>
  simp only [hs,if_true] at q
  refine iteT ?_
  refine⟨_,rfl,1,rfl,z,rfl,by rw [sizeLine_eq];omega,?_⟩
  refine c1w sc (by omega) fun H2 s2=>?_
  refine⟨_,rfl,?_⟩
  cases hf:figs 3 (Txt.slice z (some 1) none) with
  | true =>
   rw [hf] at q
   refine iteT ⟨_,rfl,rfl,?_⟩
   rw [sdec]
   have:=q H2 s2
   rw [Bool.true_and] at this
   exact this
  | false =>
   rw [hf] at q
   exact iteF (q H2 s2)
 | false =>
  simp only [hs,Bool.false_eq_true,if_false] at q
  refine iteF ?_
  exact⟨_,rfl,c1w sc (by omega) fun H2 s2=>q H2 s2⟩
abbrev a6j:Stmt:=top 23
theorem c1y:FnScope ["word","pairs"] ["word","pairs"] (a0h a6j):=⟨rfl,rfl,rfl,by decide +kernel,rfl,by decide +kernel,by decide +kernel⟩
theorem d0a{f f1:Addr}{fd fd1:FuncData} (F:Fun K "is_behind" "is_behind" a6j f fd) (B:Bl mg) (d_is_name:Def K mg "is_name" a8q ["thing"] f1 fd1) (g_is_name:FnOk P w K mg base CX0 n f1 fd1 ["thing"] (spD K b0e)):FnOk P w K mg base CX0 (n + 1) f fd ["word","pairs"] (b2t K):=by
 refine F.ok c1y (fun vs H Q E h=>?_) (fun cdv A outer s H vs Q E hr h=>?_)
 ·obtain⟨z,pl,us,ps,sa,ns,rfl,_⟩:=h
  rfl
 obtain⟨z,pl,us,ps,sa,ns,rfl,hpl,ha,nz,lz,sc,q⟩:=h
 refine⟨_,a0s (a1p (a8i (a2c d_is_name g_is_name hr rfl (a0c (pv 0) a0i)) (a5o (b6a (a2r a5k (a2l a1q rfl B.len_ a2z (a0c (pv 1) a0i)) a0v (a0r _)) (a5o (a2r c9p (pv 0) (a3f a8k (a3f a4l (pv 1) (b4b b0x a0v) (fun _ _=>rfl)) a0v (fun _ _=>rfl)) (a0r _))))))),?_⟩
 refine⟨_,rfl,c4f sc nz fun H2 s2=>?_⟩
 refine⟨_,rfl,iteT ?_⟩
 have hpl2:=s2 _ _ hpl
 have ha2:=a0b.mono s2.keep _ _ ha
 refine⟨_,rfl,pl,us,rfl,.inl (SqL.of hpl2),rfl,?_⟩
 rcases List.eq_nil_or_concat ps with rfl | ⟨l,v,rfl⟩
 ·obtain rfl:=ha2.unnil
  exact⟨_,rfl,iteT (q H2 s2)⟩
 ·rw [List.concat_eq_append] at *
  rw [map_append] at ha2
  have hl:=ha2.length
  rw [length_append,length_map] at hl
  obtain⟨us0,u,rfl⟩:∃ us0 u,us=us0 ++ [u]:=by
   rcases List.eq_nil_or_concat us with rfl | ⟨a,b,e⟩
   ·simp at hl
   ·exact⟨a,b,by rw [e,List.concat_eq_append]⟩
  have hd:=ha2.drop l.length
  simp only [length_append,List.length_singleton,length_cons,List.length_nil,map_cons,map_nil] at hl
  rw [List.drop_append_of_le_length (by rw [length_map];omega),drop_eq_nil_of_le (by rw [length_map];omega),List.drop_append_of_le_length (by omega),drop_eq_nil_of_le (by omega)] at hd
  obtain⟨u',r',e,hu,_⟩:=hd.uncons
  obtain rfl:u=u':=(List.cons.inj e).1
  obtain⟨b,ys,rfl,sq,al⟩:=a3l hu
  obtain⟨y1,r1,rfl,b1,al⟩:=al.uncons
  obtain⟨y2,r2,rfl,b2,al⟩:=al.uncons
  unfold AtD at b1
  subst b1
  have ne:decide (V.int (((us0 ++ [V.ref b]).length:Nat):Int)=V.int 0)=false:=decide_eq_false fun e=>by injection e with e;simp at e;omega
  rw [ne]
  refine⟨_,rfl,iteF ?_⟩
  refine⟨_,rfl,_,rfl,_,rfl,pl,_,-1,.ref b,rfl,rfl,SqL.of hpl2,b1y _ _,b,_,0,.str v.1,rfl,rfl,sq,b4m,_,_,rfl,rfl,?_⟩
  unfold lstN at lz
  rw [List.getLast?_concat] at lz
  have lz:leC z v.1=false:=lz
  rw [lz]
  exact q H2 s2
theorem d9m{f:Addr}{fd:FuncData} (F:Fun K "is_box_name" "MachineReading.is_box_name" b1p f fd) (B:Bl mg) (RF:RdF K mg CW):FnOk P w K mg base CX0 (n + 1) f fd ["self","word"] (b1o K CW):=by
 refine F.ok d9k (fun vs H Q E h=>?_) (fun cdv A outer s H vs Q E hr h=>?_)
 ·obtain⟨x,dx,bo,fs,z,us,bs,rfl,_⟩:=h
  rfl
 obtain⟨x,dx,bo,fs,z,us,bs,rfl,h1,hf,hbo,hus,bl,q⟩:=h
 refine⟨_,a0s (a1p (a2r c7n (pv 1) (b7k (own:=["box"]) (cap:=[]) rfl (by rfl) (by decide +kernel) (b7h (a1h (pv 0) rfl)) (fun _ _ _=>a9c (i:=0) (show(["box"]:List Str).Nodup by decide +kernel) rfl (Or.inl rfl)) (fun _ _ _=>b4f) (fun _ _ _=>b5s (K':=K) (fun K=>tOp (rIxT K) (tVar 0) (tC (.int 0))) (a3f a8k (pv 0) a0v (fun _ _=>rfl)) rfl)) (by rfl))),?_⟩
 have lu:=hus.length
 rw [length_map] at lu
 refine⟨_,rfl,_,rfl,x,CW,dx,_,_,rfl,h1,RF.cl,RF.n2,hf,bo,rfl,⟨_,SqL.of hbo⟩,fun D0 hD0=>?_⟩
 refine b3g (b3f (xs:=us) (fun i σ2 H6=>∃ u,σ2=[u]/\Same H H6/\H6 D0=some (.lst (((bs.take i).map (·.nm)).map V.str))) ⟨none,rfl,a0m hD0 _,a0e⟩ (fun i σ2 H6 _ h=>by obtain⟨_,_,s,_⟩:=h;exact SqL.of (s _ _ hbo)) ?_ ?_)
 ·rintro i y σ2 H6 hy ⟨u,rfl,s6,hD6⟩
  have il:=(List.getElem?_eq_some_iff.mp hy).1
  obtain⟨b,hb⟩:∃ b,bs[i]? = some b:=⟨_,getElem?_eq_getElem (by omega)⟩
  obtain⟨v',hv',ab⟩:=a0b.get (a0b.mono s6.keep _ _ hus) (show(bs.map encB)[i]? = some (encB b) by rw [getElem?_map,hb];rfl)
  rw [hy] at hv'
  cases hv'
  obtain⟨t,ys,rfl,sq,al⟩:=a3l ab
  obtain⟨y1,r1,rfl,b1,al⟩:=al.uncons
  unfold AtD at b1
  subst b1
  dsimp only [a4p,tYes]
  rw [if_pos rfl]
  refine⟨_,rfl,t,_,0,.str b.nm,rfl,rfl,sq,b4m,_,hD6,?_,_,rfl,?_,?_⟩
  ·rw [length_map,length_map,length_take,sizeLine_eq];omega
  ·exact fun c o h=>by rw [a0f (fun zz=>by rw [zz,hD0] at h;cases h)];exact s6 _ _ h
  ·rw [a0e,take_add_one,hb,toList_some,map_append,map_append];rfl
 ·rintro σ2 H6 ⟨u,rfl,s6,hD6⟩
  rw [lu,take_length] at hD6
  refine⟨D0,_,rfl,.inl (SqL.of hD6),rfl,b4q _,?_⟩
  rw [if_neg Bool.false_ne_true,b4r]
  exact q H6 s6
abbrev a5e:Stmt:=top 25
theorem b8b:FnScope ["words","least","greatest"] ["words","least","greatest"] (a0h a5e):=⟨rfl,rfl,rfl,by decide +kernel,rfl,by decide +kernel,by decide +kernel⟩
theorem d9n{f f1 f2 cR T:Addr}{fd fd1 fd2:FuncData} (F:Fun K "read_number" "read_number" a5e f fd) (B:Bl mg) (TX:TxtF K mg C) (bm:BMain mg base) (hcR:fd.code=.ref cR) (hCR:W.codeHdIn K cR T=true)
  (m_taken:Meth K C "taken" f1) (b_taken:Binds K fd1 ["self","fits"] []) (g_taken:FnOk P w K mg base CX0 (n + 2) f1 fd1 ["self","fits"] (a7y P w K mg base (n + 1) C))
  (d_numb:Def K mg "is_number" a6i ["word"] f2 fd2) (g_numb:FnOk P w K mg base CX0 n f2 fd2 ["word"] (b6z K)):FnOk P w K mg base CX0 (n + 3) f fd ["words","least","greatest"] (c1v K C):=by
 refine F.okC b8b (fun vs H Q E h=>?_) (fun cdv A outer s H vs Q E hcd hr h=>?_)
 ·obtain⟨wx,dw,r,wl,p,ws,v,lo,hi,sa,ns,rfl,_⟩:=h
  rfl
 rw [hcR] at hcd
 subst hcd
 obtain⟨wx,dw,r,wl,p,ws,v,lo,hi,sa,ns,rfl,hw,hz,nv,l1,l2,sc,q⟩:=h
 have hT:H T=some (a7d "read_number.<locals>.<lambda>"):=by
  have h:=sc.1 _ (b1i F (by decide +kernel) hcR hCR)
  rw [show(("read_number" : Str) ++ (".<locals>.<lambda>" : Str)) = "read_number.<locals>.<lambda>" by decide +kernel] at h
  exact h
 have tl:=nv.tx.l4
 refine⟨_,a0s (a1p (a2t b3r rfl B.int_ b1a (a0c (a4t (cp:=[("least",1),("greatest",2)]) bm rfl hCR (q:="read_number.<locals>.<lambda>") (by rfl) (by intro y hy hf;refine⟨?_,rfl⟩;revert y;show ∀ y:Str × NameKind,y ∈ _->y.2=NameKind.free->(a0h a5e).names.lookup y.1=some .cell;decide +kernel) (by intro y hy;revert y;show ∀ y:Str × Nat,y ∈ _->(["words","least","greatest"]:List Str)[y.2]? = some y.1/\(y.1,NameKind.free) ∈ _;decide +kernel) (pv 0) TX.cl m_taken g_taken.bold hr b_taken a7i) a0i))),?_⟩
 refine⟨_,rfl,wx,dw,_,rfl,hw.1,rfl,hT,fun fl c ct cl H2 s2 hf L co cap hn=>?_⟩
 refine⟨wx,dw,fl,r,wl,p,ws,tx v,rfl,⟨s2 _ _ hw.1,s2 _ _ hw.2⟩,hz,a6a (cn:=["least","greatest"]) (cv:=[.int lo,.int hi]) L co rfl (fun j n v j1 j2=>?cap) ⟨rfl,rfl,rfl,by decide +kernel,by decide +kernel,by decide +kernel⟩ (fun u=>rfl) (fun A outer s H3 zz hr hzz s3=>⟨_,a8i (a2c d_numb g_numb hr rfl (a0c (pv 0) a0i)) (a5o (b9v b4c b4c (pv 1) (a2t b3r rfl B.int_ b1a (a0c (pv 0) a0i)) (pv 2))),fun Q hq=>?lam⟩),fun H' b k1=>?_⟩
 case cap =>
  match j with
  | 0=>cases j1;cases j2;exact cap ("least",1) (by simp) _ rfl
  | 1=>cases j1;cases j2;exact cap ("greatest",2) (by simp) _ rfl
  | j + 2=>cases j1
 case lam =>
  have hzz:zz=tx v:=hzz
  subst hzz
  have s4:Same H H3:=(a4s s2 hn).trans s3
  refine⟨_,rfl,tx v,sa,ns,rfl,by omega,d4w nv,sc.keep (S:=Any) s4.keep,fun H4 s5=>?_⟩
  rw [nv.tx.nb]
  refine⟨_,rfl,iteT ?_⟩
  refine⟨_,rfl,_,rfl,tx v,v,rfl,nv.tx.rd,by omega,_,_,rfl,rfl,_,rfl,?_⟩
  refine a4v l1 ⟨_,rfl,_,_,rfl,rfl,?_⟩
  show Q (.bl (decide (v <= hi))) H4
  rw [decide_eq_true l2]
  exact hq H4 s5
 have bo:=a6b s2 b hn
 have nw:∀ a o,H a=some o->a ∉ cl.map (·.2):=fun a o e m=>by rw [hn a m] at e;cases e
 exact⟨tx v,v,rfl,nv.tx.rd,by omega,q _ bo ⟨by rw [a0y (nw _ _ hw.1)];exact k1.1,by rw [a0y (nw _ _ hw.2)];exact k1.2⟩⟩
end
noncomputable def rdf(la:Str)(bo se de fa:Addr)(l:Int):List (Str × V):=[("latest",.str la),("boxes",.ref bo),("seers",.ref se),("deeds",.ref de),("facts",.ref fa),("left",.int l)]
def Bt2(x y:Addr)(H H':Hp):Prop:=∀ c o,c ≠ x->c ≠ y->H c=some o->H' c=some o
theorem Bt2.of{x y:Addr}{H H':Hp}(s:Same H H'):Bt2 x y H H':=fun c o _ _ e=>s c o e
theorem Bt2.but{x y:Addr}{H H':Hp}(s:But y H H'):Bt2 x y H H':=fun c o _ n e=>s c o n e
theorem Bt2.trans{x y:Addr}{H H1 H':Hp}(a:Bt2 x y H H1)(b:Bt2 x y H1 H'):Bt2 x y H H':=fun c o n m e=>b c o n m (a c o n m e)
theorem Bt2.keep{x y C1 d1 C2 d2:Addr}{f1 f2:List (Str × V)}{H H':Hp}(b:Bt2 x y H H')(hx:H x=some (.ins C1 d1 f1))(hy:H y=some (.ins C2 d2 f2)):Keep (fun _=>False) H H':=
 ⟨fun c xs e=>b _ _ (fun z=>by rw [z,hx] at e;cases e) (fun z=>by rw [z,hy] at e;cases e) e,fun c o u e=>b _ _ (fun z=>by rw [z,hx] at e;cases e) (fun z=>by rw [z,hy] at e;cases e) e,fun _ _ z=>z.elim⟩
theorem Bt2.lst{x y C1 d1 C2 d2:Addr}{f1 f2:List (Str × V)}{H H':Hp}(b:Bt2 x y H H')(hx:H x=some (.ins C1 d1 f1))(hy:H y=some (.ins C2 d2 f2)){c:Addr}{us:List V}(h:H c=some (.lst us)):H' c=some (.lst us):=
 b _ _ (fun z=>by rw [z,hx] at h;cases h) (fun z=>by rw [z,hy] at h;cases h) h
def Pfx(u:List Str)(p:Nat)(ws:List Str):Prop:=∀ i z,u[i]? = some z->ws[p + i]? = some z
theorem Pfx.left{u v ws:List Str}{p:Nat}(h:Pfx (u ++ v) p ws):Pfx u p ws:=fun i z e=>h i z (by rw [getElem?_append_left (List.getElem?_eq_some_iff.mp e).1];exact e)
theorem Pfx.right{u v ws:List Str}{p:Nat}(h:Pfx (u ++ v) p ws):Pfx v (p + u.length) ws:=fun i z e=>by
 rw [Nat.add_assoc]
 exact h (u.length + i) z (by rw [getElem?_append_right (Nat.le_add_right _ _),Nat.add_sub_cancel_left];exact e)
noncomputable def c1z:List (Str × PyData):=[("add",.int 2),("sub",.int 2),("times",.int 2),("less",.int 2),("same",.int 2),("pick",.int 3)]
noncomputable def hdR:Rk->Str
 | .num n=>tx n
 | .box _ => "box"
 | .two w _ _=>w
 | .pick _ _ _ => "pick"
noncomputable def a1j:Rk->List Rk
 | .two _ a b=>[a,b]
 | .pick a b c=>[a,b,c]
 | _=>[]
theorem b5t(a:Rk):1 <= a.many:=by cases a<;>simp [Rk.many]<;>omega
theorem hd_at{a:Rk}{p:Nat}{ws:List Str}(h:Pfx (wR a) p ws):ws[p]? = some (hdR a):=h 0 _ (by cases a<;>rfl)
theorem c4g:∀ w ∈ INN,¬ w = "box":=by decide +kernel
theorem c4h:∀ w ∈ INN,∀ c ∈ w.cps.toList,97 <= c:=by decide +kernel
theorem e4z{ns:List Str}{a:Rk}(h:okK ns a):hdR a = "box" ∨ (¬ hdR a = "box" /\ hdR a ∈ INN) ∨ (¬ hdR a = "box" /\ hdR a ∉ INN/\∃ v,hdR a=tx v/\Nm v):=by
 cases a with
 | num v =>
  have h:Nm v:=h
  exact .inr (.inr ⟨h.ne (by decide +kernel),fun m=>h.ne (c4h _ m) rfl,v,rfl,h⟩)
 | box s=>exact .inl rfl
 | two w a b=>exact .inr (.inl ⟨c4g _ (b1m h.1),b1m h.1⟩)
 | pick a b c=>exact .inr (.inl ⟨show ¬ (Str.ofString "pick")=Str.ofString "box" by decide +kernel,show(Str.ofString "pick") ∈ INN by decide +kernel⟩)
theorem d3h{a:Rk}(h:a1j a ≠ []):a.enc=.tuple (.str (hdR a) :: (a1j a).map Rk.enc)/\wR a=[hdR a] ++ (a1j a).flatMap wR/\a.many=((a1j a).map Rk.many).sum + 1:=by
 cases a with
 | num v=>exact absurd rfl h
 | box s=>exact absurd rfl h
 | two w a b=>exact⟨rfl,by simp [wR,hdR,a1j],by simp [Rk.many,a1j];omega⟩
 | pick a b c=>exact⟨rfl,by simp [wR,hdR,a1j],by simp [Rk.many,a1j];omega⟩
theorem d9o{ns:List Str}{a:Rk}(h:okK ns a)(hk:a1j a ≠ []):hdR a ∈ INN/\c1z.lookup (hdR a)=some (.int ((a1j a).length:Int))/\(∀ y ∈ a1j a,okK ns y)/\(a1j a).length <= 3:=by
 cases a with
 | num v=>exact absurd rfl hk
 | box s=>exact absurd rfl hk
 | two w a b =>
  refine⟨b1m h.1,?_,fun y hy=>?_,by simp [a1j]⟩
  ·show c1z.lookup w=_
   rcases h.1 with rfl | rfl | rfl | rfl | rfl<;>rfl
  ·rcases mem_cons.mp hy with rfl | hy
   ·exact h.2.1
   ·cases mem_singleton.mp hy;exact h.2.2
 | pick a b c =>
  refine⟨show(Str.ofString "pick") ∈ INN by decide +kernel,rfl,fun y hy=>?_,by simp [a1j]⟩
  rcases mem_cons.mp hy with rfl | hy
  ·exact h.1
  rcases mem_cons.mp hy with rfl | hy
  ·exact h.2.1
  ·cases mem_singleton.mp hy;exact h.2.2
theorem c6q{a y:Rk}{i:Nat}(hy:(a1j a)[i]? = some y):a1j a=(a1j a).take i ++ y :: (a1j a).drop (i + 1):=by
 obtain⟨h1,h2⟩:=List.getElem?_eq_some_iff.mp hy
 rw [← h2,List.getElem_cons_drop,List.take_append_drop]
abbrev a6y:Stmt:=inClass (top 22) 8
theorem b5u:FnScope ["self","words","head","inner"] ["self","words"] (a0h a6y):=⟨rfl,rfl,rfl,by decide +kernel,rfl,by decide +kernel,by decide +kernel⟩
def b9q(K:W.Frag)(C CW:Addr)(m:Nat):Sp:=fun vs H Q _=>∃ (x dx wx dw bo se de fa:Addr) (la:Str) (l:Nat) (r:Int) (wl:Addr) (p:Nat) (ws:List Str) (a:Rk) (us:List V) (bs:List Box) (sa:Addr) (ns:List Int),vs=[.ref x,.ref wx]/\H x=some (.ins CW dx (rdf la bo se de fa (l:Int)))/\WOk C H wx dw r wl p ws/\H bo=some (.lst us)/\a0b K H (fun _=>False) (bs.map encB) us/\bs.length <= 10 /\
 a.many <= m/\a.many <= l/\okK (bs.map (·.nm)) a/\Pfx (wR a) p ws/\L2.Scr K H sa (ns.map V.int) /\
 ∀ v H',Bt2 x wx H H'->H' x=some (.ins CW dx (rdf la bo se de fa ((l - a.many:Nat):Int)))->WOk C H' wx dw r wl (p + (wR a).length) ws->AtD K H' (fun _=>False) a.enc v->Q v H'
section
variable{P:Program}{w:World}{K:W.Frag}{mg:Str->Option Value}{base:Heap}{n:Nat}{C CW:Addr}
theorem d9p{H:Hp}{ds es:List PyData}{v u:V}{Q:VK}(hv:AtD K H (fun _=>False) (.tuple ds) v)(hu:AtD K H (fun _=>False) (.tuple es) u)(hl:ds.length + es.length <= 1000)(q:∀ t' H',Same H H'->AtD K H' (fun _=>False) (.tuple (ds ++ es)) (.ref t')->Q (.ref t') H'):b7l K v u H Q:=by
 obtain⟨a,xs,rfl,sa,al⟩:=a3l hv
 obtain⟨b,ys,rfl,sb,bl⟩:=a3l hu
 have l1:=al.length
 have l2:=bl.length
 by_cases hx:xs=[]
 ·subst hx
  have e:=al.eq_nil
  subst e
  exact .inr (.inr (.inr (.inr ⟨a,b,ys,rfl,rfl,sa,sb,q b H (Same.refl _) hu⟩)))
 ·refine .inr (.inr (.inr (.inl ⟨a,b,xs,ys,rfl,rfl,sa,sb,hx,by rw [l1,l2,sizeLine_eq];omega,fun e=>?_,fun _ p hp=>q p _ (a0m hp _) (a1k (SqT.of a0e) (a0b.mono (a0m hp _).keep _ _ (al.append bl)))⟩)))
  subst e
  have e:=bl.eq_nil
  subst e
  rw [append_nil] at q
  exact q a H (Same.refl _) hv
theorem d3i{f f1 f2 f3 cR T:Addr}{fd fd1 fd2 fd3:FuncData}{m N:Nat}(hN:n + 3 <= N) (F:Fun K "read_reckoning" "MachineReading.read_reckoning" a6y f fd) (B:Bl mg) (TX:TxtF K mg C) (RF:RdF K mg CW) (bm:BMain mg base) (hcR:fd.code=.ref cR) (hCR:W.codeHdIn K cR T=true) (ti_INNER:TabI K w mg "INNER" INN) (t_INNER:Tab K w mg "INNER" c1z)
  (m_taken:Meth K C "taken" f1) (b_taken:Binds K fd1 ["self","fits"] []) (g_taken:FnOk P w K mg base CX0 (n + 2) f1 fd1 ["self","fits"] (a7y P w K mg base (n + 1) C))
  (d_numb:Def K mg "is_number" a6i ["word"] f2 fd2) (g_numb:FnOk P w K mg base CX0 n f2 fd2 ["word"] (b6z K))
  (m_boxn:Meth K CW "is_box_name" f3) (b_boxn:Binds K fd3 ["self","word"] []) (g_boxn:FnOk P w K mg base CX0 n f3 fd3 ["self","word"] (b1o K CW))
  (m_rreck:Meth K CW "read_reckoning" f) (b_rreck:Binds K fd ["self","words"] []) (g_rreck:FnOk P w K mg base CX0 N f fd ["self","words"] (b9q K C CW m)) :
  FnOk P w K mg base CX0 (N + 1) f fd ["self","words"] (b9q K C CW (m + 1)):=by
 obtain⟨aI,kvI,hI,kdI,syI,keI⟩:=ti_INNER
 obtain⟨aJ,kvJ,hJ,kdJ,tabJ⟩:=t_INNER
 obtain rfl:aI=aJ:=by rw [hI] at hJ;injection hJ with e;injection e
 have inI:∀ z:Str,(kvI.lookup z).isSome=INN.contains z:=fun z=>by rw [b5d,keI]
 refine F.okC b5u (fun vs H Q E h=>?_) (fun cdv A outer s H vs Q E hcd hr h=>?_)
 ·obtain⟨x,dx,wx,dw,bo,se,de,fa,la,l,r,wl,p,ws,a,us,bs,sa,ns,rfl,_⟩:=h
  rfl
 rw [hcR] at hcd
 subst hcd
 obtain⟨x,dx,wx,dw,bo,se,de,fa,la,l,r,wl,p,ws,a,us,bs,sa,ns,rfl,h1,hw,hbo,hus,bl,hm,hml,hok,hz,sc,q⟩:=h
 have hTs:∀ {H':Hp},L2.Scr K H' sa (ns.map V.int)->H' T=some (a7d "MachineReading.read_reckoning.<locals>.<lambda>"):=fun sc=>by
  have h:=sc.1 _ (b1i F (by decide +kernel) hcR hCR)
  rw [show(("MachineReading.read_reckoning" : Str) ++ (".<locals>.<lambda>" : Str)) = "MachineReading.read_reckoning.<locals>.<lambda>" by decide +kernel] at h
  exact h
 have hT:=hTs sc
 refine⟨_,a0o (a2j (i:=2) b5u.nd rfl (Or.inl rfl) (a4t (cp:=[("self",0)]) bm rfl hCR (q:="MachineReading.read_reckoning.<locals>.<lambda>") (by rfl) (by intro y hy hf;refine⟨?_,rfl⟩;revert y;show ∀ y:Str × NameKind,y ∈ _->y.2=NameKind.free->(a0h a6y).names.lookup y.1=some .cell;decide +kernel) (by intro y hy;revert y;show ∀ y:Str × Nat,y ∈ _->(["self","words","head","inner"]:List Str)[y.2]? = some y.1/\(y.1,NameKind.free) ∈ _;decide +kernel) (pv 1) TX.cl m_taken g_taken.bold (hr.mono (by omega)) b_taken a7i))
  (a0o (a4j (pv 0) (a2k b3c (a1h (pv 0) rfl) a0v) rfl)
  (a0o (a4a (a2s a5k (pv 2) a2y (a0r _)) (a0s (a1p (a4y (a0c a2y (a0c (a4t (cp:=[("self",0)]) bm rfl hCR (q:="MachineReading.read_reckoning.<locals>.<lambda>") (by rfl) (by intro y hy hf;refine⟨?_,rfl⟩;revert y;show ∀ y:Str × NameKind,y ∈ _->y.2=NameKind.free->(a0h a6y).names.lookup y.1=some .cell;decide +kernel) (by intro y hy;revert y;show ∀ y:Str × Nat,y ∈ _->(["self","words","head","inner"]:List Str)[y.2]? = some y.1/\(y.1,NameKind.free) ∈ _;decide +kernel) (pv 1) TX.cl m_taken g_taken.bold (hr.mono (by omega)) b_taken a7i) a0i))))) a3e)
  (a0o (a4a (a2s d8p (pv 2) (a3d rfl hI (v:=.ref aI) rfl) (by rfl)) (a0s (a1p (a4y (a0c a2y (a0c (a2t b3r rfl B.int_ b1a (a0c (pv 2) a0i)) a0i))))) a3e)
  (a0o (a2j (i:=3) b5u.nd rfl (Or.inl rfl) (a7b a0i))
  (a0o (b9t PassesOwn.leaving (a2s b1v (a2l a1q rfl B.len_ a2z (a0c (pv 3) a0i)) (a3f c0f (a3d rfl hI (v:=.ref aI) rfl) (pv 2) (fun _ _=>rfl)) (a0r _)) (a0s (a4d (a6k PySem.F.plainAttrs_list PySem.F.slot_list_append PySem.F.type_list_append a4f (pv 3) (a0c (a3v (pv 0) RF.cl m_rreck g_rreck hr b_rreck .nil a2x (a0c (pv 1) a0i)) a0i)))))
  (a0s (a1p (a2k a1a (a4y (a0c (pv 2) a0i)) (a2t a1f rfl B.tuple_ a1v (a0c (pv 3) a0i)))))))))),?_⟩
 have hz0:=hd_at hz
 have nx:x ≠ wx:=fun z=>by
  have:=hw.1
  rw [← z,h1] at this
  injection (Option.some.inj this) with _ _ e
  exact absurd (congrArg (fun l=>l.head?.map (·.1)) e) (by show ¬ (some ("latest" : Str)=some "row");decide +kernel)
 have mp:=b5t a
 have way:=e4z hok
 refine⟨_,rfl,wx,dw,_,rfl,hw.1,rfl,hT,fun fl c ct cl H2 s2 hf L co cap hn=>?_⟩
 refine⟨wx,dw,fl,r,wl,p,ws,hdR a,rfl,⟨s2 _ _ hw.1,s2 _ _ hw.2⟩,hz0,a6a (cn:=["self"]) (cv:=[.ref x]) L co rfl (fun j n v j1 j2=>?cap) ⟨rfl,rfl,rfl,by decide +kernel,by decide +kernel,by decide +kernel⟩ (fun u=>rfl) (fun A outer s H3 zz hr hzz s3=>⟨_,a8i (a2r b4d (a1h (pv 1) rfl) a0v (a0r _)) (a5o (b6a (a2r a5k (pv 0) a2y (a0r _)) (b6a (a2r e3y (pv 0) (a3d rfl hI (v:=.ref aI) rfl) (by rfl)) (a5o (a2c d_numb g_numb hr rfl (a0c (pv 0) a0i)))))),fun Q hq=>?lam⟩),fun H' b k1=>?_⟩
 case cap =>
  match j with
  | 0=>cases j1;cases j2;exact cap ("self",0) (by simp) _ rfl
  | j + 1=>cases j1
 case lam =>
  have hzz:zz=hdR a:=hzz
  subst hzz
  have s4:Same H H3:=(a4s s2 hn).trans s3
  refine⟨_,rfl,x,CW,dx,_,_,rfl,s4 _ _ h1,RF.cl,RF.n6,rfl,_,_,rfl,rfl,?_⟩
  refine⟨_,rfl,a4v (by omega) ?_⟩
  refine⟨_,rfl,rfl,?_⟩
  rw [sdec]
  rcases way with e | ⟨e,e2⟩ | ⟨e,e2,v,ev,nv⟩
  ·refine⟨_,rfl,a4v e ?_⟩
   exact hq _ (Same.refl _)
  ·refine⟨_,rfl,a3h e ?_⟩
   refine⟨_,rfl,aI,kvI,hdR a,rfl,kdI,syI,rfl,?_⟩
   rw [inI,List.contains_iff_mem.mpr e2]
   exact⟨_,rfl,iteT (hq _ (Same.refl _))⟩
  ·refine⟨_,rfl,a3h e ?_⟩
   refine⟨_,rfl,aI,kvI,hdR a,rfl,kdI,syI,rfl,?_⟩
   rw [inI,show INN.contains (hdR a)=false from Bool.eq_false_iff.mpr fun z=>e2 (List.contains_iff_mem.mp z)]
   refine⟨_,rfl,iteF ?_⟩
   rw [ev]
   have tl:=nv.tx.l4
   refine⟨_,rfl,tx v,sa,ns,rfl,by omega,d4w nv,sc.keep (S:=Any) s4.keep,fun H4 s5=>?_⟩
   rw [nv.tx.nb]
   exact hq H4 s5
 have bo1:=a6b s2 b hn
 have nw:∀ a o,H a=some o->a ∉ cl.map (·.2):=fun a o e m=>by rw [hn a m] at e;cases e
 have w1:WOk C (hid H' (cl.map (·.2))) wx dw r wl (p + 1) ws:=⟨by rw [a0y (nw _ _ hw.1)];exact k1.1,by rw [a0y (nw _ _ hw.2)];exact k1.2⟩
 clear k1
 show a4p 2 _ _ (hid H' (cl.map (·.2))) _
 generalize hid H' (cl.map (·.2))=H1 at bo1 w1 ⊢
 have x1:H1 x=some (.ins CW dx (rdf la bo se de fa (l:Int))):=bo1 _ _ nx h1
 refine⟨_,rfl,x,CW,dx,_,_,rfl,x1,RF.cl,RF.n6,rfl,_,_,rfl,rfl,_,rfl,x,CW,dx,_,rfl,x1,RF.cl,RF.n6,(show(6:Nat) < 1000 by decide),?_⟩
 rw [show putF "left" (.int ((l:Int) - 1)) (rdf la bo se de fa (l:Int))=rdf la bo se de fa ((l - 1:Nat):Int) by rw [show((l - 1:Nat):Int)=(l:Int) - 1 by omega];rfl]
 have nwl:wl ≠ x:=fun z=>by have:=w1.2;rw [z,x1] at this;cases this
 obtain⟨H3,eH3⟩:∃ H3,H3=upd H1 x (.ins CW dx (rdf la bo se de fa ((l - 1:Nat):Int))):=⟨_,rfl⟩
 rw [← eH3]
 have x3:H3 x=some (.ins CW dx (rdf la bo se de fa ((l - 1:Nat):Int))):=by rw [eH3,a0e]
 have w3:WOk C H3 wx dw r wl (p + 1) ws:=⟨by rw [eH3,a0f (Ne.symm nx)];exact w1.1,by rw [eH3,a0f nwl];exact w1.2⟩
 have b3:Bt2 x wx H H3:=fun c o n1 n2 e=>by rw [eH3,a0f n1];exact bo1 c o n2 e
 clear eH3 x1 w1 bo1
 have kp3:=b3.keep h1 hw.1
 have sc3:=sc.keep kp3
 have hbo3:=b3.lst h1 hw.1 hbo
 have hus3:=a0b.mono kp3 _ _ hus
 refine⟨_,rfl,rfl,_,rfl,?_⟩
 rw [sdec]
 by_cases hk:a1j a=[]
 ·cases a with
  | two _ _ _=>cases hk
  | pick _ _ _=>cases hk
  | box sb =>
   have hin:sb ∈ bs.map (·.nm):=hok
   refine a4v rfl ?_
   refine⟨_,rfl,wx,dw,_,rfl,w3.1,rfl,hTs sc3,fun fl c ct cl H4 s4 hf L co cap hn=>?_⟩
   refine⟨wx,dw,fl,r,wl,p + 1,ws,sb,rfl,⟨s4 _ _ w3.1,s4 _ _ w3.2⟩,hz 1 _ rfl,a6a (cn:=["self"]) (cv:=[.ref x]) L co rfl (fun j n v j1 j2=>?cap) ⟨rfl,rfl,rfl,by decide +kernel,by decide +kernel,by decide +kernel⟩ (fun u=>rfl) (fun A outer s H5 zz hr hzz s5=>⟨_,a3v (pv 1) RF.cl m_boxn g_boxn hr b_boxn .nil a2x (a0c (pv 0) a0i),fun Q hq=>?lam2⟩),fun H6 b6 k6=>?_⟩
   case cap =>
    match j with
    | 0=>cases j1;cases j2;exact cap ("self",0) (by simp) _ rfl
    | j + 1=>cases j1
   case lam2 =>
    have hzz:zz=sb:=hzz
    subst hzz
    have s7:Same H3 H5:=(a4s s4 hn).trans s5
    refine⟨_,rfl,x,dx,_,rfl,s7 _ _ x3,rfl,_,rfl,x,dx,bo,_,zz,us,bs,rfl,s7 _ _ x3,rfl,s7 _ _ hbo3,a0b.mono s7.keep _ _ hus3,bl,fun H8 s8=>?_⟩
    rw [decide_eq_true hin]
    exact hq H8 s8
   have bo2:=a6b s4 b6 hn
   have nw2:∀ a o,H3 a=some o->a ∉ cl.map (·.2):=fun a o e m=>by rw [hn a m] at e;cases e
   refine⟨(show(2:Nat) <= sizeLine by decide),fun t ht=>?_⟩
   have st:=a0m ht (.tup [V.str "box",V.str sb])
   refine q (.ref t) _ (b3.trans ((Bt2.but bo2).trans (.of st))) (st _ _ (bo2 _ _ nx x3)) ⟨st _ _ ?_,st _ _ ?_⟩ (a1k (SqT.of a0e) (.cons (a1u _) (.cons (a1u _) .nil)))
   ·rw [a0y (nw2 _ _ w3.1)];exact k6.1
   ·rw [a0y (nw2 _ _ w3.2)];exact k6.2
  | num v =>
   have nv:Nm v:=hok
   have tl:=nv.tx.l4
   refine a3h (nv.ne (by decide +kernel)) ?_
   refine⟨_,rfl,aI,kvI,tx v,rfl,kdI,syI,rfl,?_⟩
   rw [inI,show INN.contains (tx v)=false from Bool.eq_false_iff.mpr fun z=>nv.ne (c4h _ (List.contains_iff_mem.mp z)) rfl]
   refine⟨_,rfl,iteT ?_⟩
   refine⟨_,rfl,tx v,v,rfl,nv.tx.rd,by omega,(show(2:Nat) <= sizeLine by decide),fun t ht=>?_⟩
   have st:=a0m ht (.tup [V.str "num",V.int v])
   exact q (.ref t) _ (b3.trans (.of st)) (st _ _ x3) ⟨st _ _ w3.1,st _ _ w3.2⟩ (a1k (SqT.of a0e) (.cons (a1u _) (.cons (a1y _) .nil)))
 ·obtain⟨ek1,ek2,ek3⟩:=d3h hk
  obtain⟨ko1,ko2,ko3,ko4⟩:=d9o hok hk
  obtain⟨vj,hvj,hdj⟩:=tabJ _ _ ko2
  have evj:vj=.int ((a1j a).length:Int):=by have:=hdj (fun _=>False) H;unfold AtD at this;exact this
  subst evj
  refine a3h (c4g _ ko1) ?_
  refine⟨_,rfl,aI,kvI,hdR a,rfl,kdI,syI,rfl,?_⟩
  rw [inI,List.contains_iff_mem.mpr ko1]
  refine⟨_,rfl,iteF ?_⟩
  refine⟨(show(0:Nat) <= sizeLine by decide),fun pa hpa=>?_⟩
  have s6:=a0m hpa (.lst [])
  have bH:Bt2 x wx H (upd H3 pa (.lst [])):=b3.trans (.of s6)
  have Hpa:H pa=none:=by
   cases e:H pa with
   | none=>rfl
   | some o =>
    exfalso
    by_cases e1:pa=x
    ·rw [e1,x3] at hpa;cases hpa
    ·by_cases e2:pa=wx
     ·rw [e2,w3.1] at hpa;cases hpa
     ·rw [b3 _ _ e1 e2 e] at hpa;cases hpa
  have npx:pa ≠ x:=fun z=>by rw [z,h1] at Hpa;cases Hpa
  have npw:pa ≠ wx:=fun z=>by rw [z,hw.1] at Hpa;cases Hpa
  have npl:pa ≠ wl:=fun z=>by rw [z,hw.2] at Hpa;cases Hpa
  have npb:pa ≠ bo:=fun z=>by rw [z,hbo] at Hpa;cases Hpa
  have hz2:Pfx ((a1j a).flatMap wR) (p + 1) ws:=by rw [ek2] at hz;exact hz.right
  refine⟨fun m' σ' H'=>∃ (i:Nat) (vs:List V),m'=(a1j a).length - i/\i <= (a1j a).length/\σ'=[some (.ref x),some (.ref wx),some (.str (hdR a)),some (.ref pa)]/\Bt2 x wx H H'/\H' x=some (.ins CW dx (rdf la bo se de fa ((l - 1 - (((a1j a).take i).map Rk.many).sum:Nat):Int)))/\WOk C H' wx dw r wl (p + 1 + (((a1j a).take i).flatMap wR).length) ws /\
   H' pa=some (.lst vs)/\a0b K H' (fun _=>False) (((a1j a).take i).map Rk.enc) vs,⟨_,0,[],rfl,zero_le _,rfl,bH,s6 _ _ x3,⟨s6 _ _ w3.1,s6 _ _ w3.2⟩,a0e,.nil⟩,?_⟩
  rintro m' σ' H7 ⟨i,vs,rfl,hi,rfl,b7,x7,w7,hpa7,hv7⟩
  have lv:=hv7.length
  rw [length_map,length_take,Nat.min_eq_left hi] at lv
  refine⟨_,rfl,pa,vs,rfl,.inl (SqL.of hpa7),_,rfl,aI,kvJ,_,_,rfl,kdJ,rfl,hvj,_,_,rfl,rfl,?_⟩
  rw [lv]
  by_cases hlt:i < (a1j a).length
  ·refine⟨_,rfl,?_⟩
   refine a4v (by omega) ?_
   obtain⟨y,hy⟩:∃ y,(a1j a)[i]? = some y:=⟨_,getElem?_eq_getElem hlt⟩
   have ksp:=c6q hy
   have ts:(((a1j a).take i).map Rk.many).sum + y.many <= ((a1j a).map Rk.many).sum:=by
    have e2:=congrArg (fun l=>(l.map Rk.many).sum) ksp
    simp only [map_append,map_cons,List.sum_append,List.sum_cons] at e2
    omega
   have tws:=congrArg (fun l=>l.flatMap wR) ksp
   simp only [List.flatMap_append,List.flatMap_cons] at tws
   rw [tws] at hz2
   have hz3:=hz2.right.left
   refine⟨fun σ' H'=>∃ vs,σ'=[some (.ref x),some (.ref wx),some (.str (hdR a)),some (.ref pa)]/\Bt2 x wx H H'/\H' x=some (.ins CW dx (rdf la bo se de fa ((l - 1 - (((a1j a).take (i + 1)).map Rk.many).sum:Nat):Int)))/\WOk C H' wx dw r wl (p + 1 + (((a1j a).take (i + 1)).flatMap wR).length) ws /\
    H' pa=some (.lst vs)/\a0b K H' (fun _=>False) (((a1j a).take (i + 1)).map Rk.enc) vs,?_,?_⟩
   ·rintro σ' H' ⟨vs',rfl,c1,c2,c3,c7,c8⟩
    exact⟨_,by omega,i + 1,vs',rfl,hlt,rfl,c1,c2,c3,c7,c8⟩
   refine⟨_,rfl,.inl ⟨rfl,_,SqL.of hpa7⟩,_,rfl,x,dx,_,rfl,x7,rfl,_,rfl,?_⟩
   refine⟨x,dx,wx,dw,bo,se,de,fa,la,_,r,wl,_,ws,y,us,bs,sa,ns,rfl,x7,w7,b7.lst h1 hw.1 hbo,a0b.mono (b7.keep h1 hw.1) _ _ hus,bl,by omega,by omega,ko3 y (mem_of_getElem? hy),hz3,sc.keep (b7.keep h1 hw.1),fun v H8 b8 x8 w8 hv8=>?_⟩
   have kp8:=b8.keep x7 w7.1
   have hpa8:H8 pa=some (.lst vs):=b8 _ _ npx npw hpa7
   have kpp:Keep (fun _=>False) H8 (upd H8 pa (.lst (vs ++ [v]))):=⟨fun b ys e=>by rw [a0f (fun z=>by rw [z,hpa8] at e;cases e)];exact e,fun b o u e=>by rw [a0f (fun z=>by rw [z,hpa8] at e;cases e)];exact e,fun _ _ z=>z.elim⟩
   refine⟨pa,vs,v,rfl,rfl,hpa8,by rw [lv,sizeLine_eq];omega,?_⟩
   have et:(a1j a).take (i + 1)=(a1j a).take i ++ [y]:=by rw [take_add_one,hy];rfl
   refine⟨vs ++ [v],rfl,fun c o n1 n2 e=>?_,?_,⟨?_,?_⟩,a0e,?_⟩
   ·rw [a0f (fun z=>by rw [z,Hpa] at e;cases e)];exact b8 _ _ n1 n2 (b7 _ _ n1 n2 e)
   ·rw [a0f (Ne.symm npx),x8,et,map_append,List.sum_append,List.map_singleton,List.sum_singleton,Nat.sub_sub (l - 1)]
   ·rw [a0f (Ne.symm npw),w8.1,et,List.flatMap_append,List.flatMap_singleton,length_append,Nat.add_assoc _ _ (wR y).length]
   ·rw [a0f (Ne.symm npl)];exact w8.2
   ·rw [et,map_append]
    exact(a0b.mono (kp8.trans kpp) _ _ hv7).append (.cons (AtD.mono kpp _ _ hv8) .nil)
  ·refine⟨_,rfl,?_⟩
   refine a3h (by omega) ?_
   obtain rfl:i=(a1j a).length:=by omega
   rw [take_length] at x7 w7 hv7
   refine⟨_,rfl,(show(1:Nat) <= sizeLine by decide),fun t0 ht0=>?_⟩
   have s0:=a0m ht0 (.tup [V.str (hdR a)])
   refine⟨_,rfl,pa,vs,rfl,.inl ⟨SqL.of (s0 _ _ hpa7),fun l9 hl9=>?_⟩⟩
   have s9:=a0m hl9 (.tup vs)
   refine d9p (ds:=[.str (hdR a)]) (es:=(a1j a).map Rk.enc) (a1k (SqT.of (s9 _ _ a0e)) (.cons (a1u _) .nil)) (a1k (SqT.of a0e) (a0b.mono (s0.trans s9).keep _ _ hv7)) (by simp;omega) fun t10 H10 s10 hv10=>?_
   have s11:=(s0.trans s9).trans s10
   refine q _ H10 (b7.trans (.of s11)) ?_ ⟨?_,s11 _ _ w7.2⟩ (by rw [ek1];exact hv10)
   ·rw [s11 _ _ x7,ek3,Nat.sub_sub,add_comm 1]
   ·rw [s11 _ _ w7.1,ek2,length_append,List.length_singleton,Nat.add_assoc]
end
def LA(K:W.Frag)(H:Hp)(a:Addr)(ds:List PyData):Prop:=∃ us,H a=some (.lst us)/\a0b K H (fun _=>False) ds us
structure DC where
 d:Deed
 t:Addr
 g:V
 l:Addr
 ls:List V
structure DC.ok(K:W.Frag)(H:Hp)(c:DC):Prop where
 ht:H c.t=some (.tup [c.g,.ref c.l])
 hg:AtD K H (fun _=>False) c.d.g.enc c.g
 hl:H c.l=some (.lst c.ls)
 ha:a0b K H (fun _=>False) (c.d.lays.map encL) c.ls
structure Sta where
 la:Str
 bs:List Box
 hs:List (Str × List Str)
 ds:List Deed
 fs:List (Str × Rk)
abbrev own(bo se de fa:Addr)(cs:List DC):List Addr:=bo :: se :: de :: fa :: cs.map DC.l
structure RS(K:W.Frag)(CW:Addr)(H0 H:Hp)(x dx bo se de fa:Addr)(cs:List DC)(S:Sta):Prop where
 ob:∃ l:Int,H x=some (.ins CW dx (rdf S.la bo se de fa l))
 hb:LA K H bo (S.bs.map encB)
 hh:LA K H se (S.hs.map encH)
 hf:LA K H fa (S.fs.map encL)
 hD:S.ds=cs.map DC.d
 hde:H de=some (.lst (cs.map fun c=>.ref c.t))
 hok:∀ c ∈ cs,c.ok K H
 nd:(own bo se de fa cs).Nodup
 sm:Same H0 H
 fr:∀ a ∈ x :: own bo se de fa cs,H0 a=none
section
variable{K:W.Frag}{CW C:Addr}{H0 H H':Hp}{x dx bo se de fa wx dw:Addr}{cs:List DC}{S:Sta}{gs:List (Str × V)}
theorem LA.keep{a:Addr}{ds:List PyData}(h:LA K H a ds)(k:Keep (fun _=>False) H H')(e:H' a=H a):LA K H' a ds:=by
 obtain⟨us,h1,h2⟩:=h
 exact⟨us,by rw [e];exact h1,a0b.mono k _ _ h2⟩
theorem DC.ok.keep{c:DC}(h:c.ok K H)(k:Keep (fun _=>False) H H')(e:H' c.l=H c.l):c.ok K H':=⟨k.1 _ _ h.ht,AtD.mono k _ _ h.hg,by rw [e];exact h.hl,a0b.mono k _ _ h.ha⟩
theorem b5v{a:Addr}{o o':HO}(h:H a=some o)(n1:∀ xs,o ≠ .tup xs)(n2:∀ ob u,o ≠ .frz ob u):Keep (fun _=>False) H (upd H a o'):=
 ⟨fun b ys e=>by rw [a0f (fun z=>by rw [z,h] at e;cases e;exact n1 _ rfl)];exact e,fun b ob u e=>by rw [a0f (fun z=>by rw [z,h] at e;cases e;exact n2 _ _ rfl)];exact e,fun _ _ z=>z.elim⟩
theorem RS.lst(R:RS K CW H0 H x dx bo se de fa cs S):∀ a ∈ own bo se de fa cs,∃ us,H a=some (.lst us):=fun a ha=>by
 obtain⟨ub,hb,_⟩:=R.hb
 obtain⟨uh,hh,_⟩:=R.hh
 obtain⟨uf,hf,_⟩:=R.hf
 simp only [mem_cons] at ha
 rcases ha with rfl | rfl | rfl | rfl | ha
 ·exact⟨_,hb⟩
 ·exact⟨_,hh⟩
 ·exact⟨_,R.hde⟩
 ·exact⟨_,hf⟩
 ·obtain⟨c,hc,rfl⟩:=mem_map.mp ha
  exact⟨_,(R.hok c hc).hl⟩
theorem RS.nx(R:RS K CW H0 H x dx bo se de fa cs S){a:Addr}(ha:a ∈ own bo se de fa cs):a ≠ x:=fun z=>by
 obtain⟨us,h⟩:=R.lst a ha
 obtain⟨l,e⟩:=R.ob
 rw [z,e] at h;cases h
theorem RS.move(R:RS K CW H0 H x dx bo se de fa cs S){la:Str}(k:Keep (fun _=>False) H H')(hl:∀ a ∈ own bo se de fa cs,H' a=H a)(hx:∃ l:Int,H' x=some (.ins CW dx (rdf la bo se de fa l)))(sm:Same H0 H'):RS K CW H0 H' x dx bo se de fa cs { S with la:=la }:=
 ⟨hx,R.hb.keep k (hl _ (by simp)),R.hh.keep k (hl _ (by simp)),R.hf.keep k (hl _ (by simp)),R.hD,by rw [hl de (by simp)];exact R.hde,fun c hc=>(R.hok c hc).keep k (hl _ (by simp;exact .inr (.inr (.inr (.inr ⟨c,hc,rfl⟩))))),R.nd,sm,R.fr⟩
theorem RS.bt(R:RS K CW H0 H x dx bo se de fa cs S){la:Str}(b:Bt2 x wx H H')(hw:H wx=some (.ins C dw gs))(h0:H0 wx=none)(hx:∃ l:Int,H' x=some (.ins CW dx (rdf la bo se de fa l))):RS K CW H0 H' x dx bo se de fa cs { S with la:=la }:=by
 obtain⟨l,e⟩:=R.ob
 refine R.move (b.keep e hw) (fun a ha=>?_) hx fun c o q=>b _ _ (fun z=>by rw [z,R.fr x (by simp)] at q;cases q) (fun z=>by rw [z,h0] at q;cases q) (R.sm _ _ q)
 obtain⟨us,h⟩:=R.lst a ha
 rw [h];exact b.lst e hw h
theorem RS.but(R:RS K CW H0 H x dx bo se de fa cs S)(b:But wx H H')(hw:H wx=some (.ins C dw gs))(h0:H0 wx=none)(nx:x ≠ wx):RS K CW H0 H' x dx bo se de fa cs S:=
 R.bt (.but b) hw h0 (by obtain⟨l,e⟩:=R.ob;exact⟨l,b _ _ nx e⟩)
theorem RS.same(R:RS K CW H0 H x dx bo se de fa cs S)(s:Same H H'):RS K CW H0 H' x dx bo se de fa cs S:=
 R.move s.keep (fun a ha=>by obtain⟨us,h⟩:=R.lst a ha;rw [h];exact s _ _ h) (by obtain⟨l,e⟩:=R.ob;exact⟨l,s _ _ e⟩) (R.sm.trans s)
theorem RS.touch(R:RS K CW H0 H x dx bo se de fa cs S){a:Addr}(ha:a ∈ own bo se de fa cs)(o:HO):Keep (fun _=>False) H (upd H a o)/\(∃ l:Int,(upd H a o) x=some (.ins CW dx (rdf S.la bo se de fa l)))/\Same H0 (upd H a o):=by
 obtain⟨us,h⟩:=R.lst a ha
 refine⟨b5v h (fun _ e=>nomatch e) (fun _ _ e=>nomatch e),?_,fun c q e=>?_⟩
 ·obtain⟨l,e⟩:=R.ob
  exact⟨l,by rw [a0f (Ne.symm (R.nx ha))];exact e⟩
 ·rw [a0f (fun z=>by rw [z,R.fr a (mem_cons_of_mem _ ha)] at e;cases e)];exact R.sm _ _ e
theorem LA.push{a:Addr}{ds:List PyData}{us:List V}{v:V}{d:PyData}(h:H a=some (.lst us))(hu:a0b K H (fun _=>False) ds us)(hv:AtD K H (fun _=>False) d v):LA K (upd H a (.lst (us ++ [v]))) a (ds ++ [d]):=by
 have k:=b5v (o':=.lst (us ++ [v])) h (fun _ e=>nomatch e) (fun _ _ e=>nomatch e)
 exact⟨_,a0e,(a0b.mono k _ _ hu).append (.cons (AtD.mono k _ _ hv) .nil)⟩
theorem RS.ne4(R:RS K CW H0 H x dx bo se de fa cs S):bo ≠ se/\bo ≠ de/\bo ≠ fa/\se ≠ de/\se ≠ fa/\de ≠ fa/\∀ c ∈ cs,c.l ≠ bo/\c.l ≠ se/\c.l ≠ de/\c.l ≠ fa:=by
 have h:=R.nd
 simp only [own,nodup_cons,mem_cons,not_or] at h
 obtain⟨⟨a1,a2,a3,a4⟩,⟨b2,b3,b4⟩,⟨c3,c4⟩,d4,_⟩:=h
 refine⟨a1,a2,a3,b2,b3,c3,fun c hc=>⟨fun z=>a4 ?_,fun z=>b4 ?_,fun z=>c4 ?_,fun z=>d4 ?_⟩⟩<;>exact mem_map.mpr ⟨c,hc,z⟩
theorem RS.addB(R:RS K CW H0 H x dx bo se de fa cs S){us:List V}{v:V}{b:Box}(h:H bo=some (.lst us))(hu:a0b K H (fun _=>False) (S.bs.map encB) us)(hv:AtD K H (fun _=>False) (encB b) v):RS K CW H0 (upd H bo (.lst (us ++ [v]))) x dx bo se de fa cs { S with bs:=S.bs ++ [b] }:=by
 obtain⟨k,ox,sm⟩:=R.touch (a:=bo) (by simp) (.lst (us ++ [v]))
 obtain⟨n1,n2,n3,n4,n5,n6,n7⟩:=R.ne4
 exact⟨ox,by show LA _ _ _ ((S.bs ++ [b]).map encB);rw [map_append];exact LA.push h hu hv,R.hh.keep k (a0f (Ne.symm n1)),R.hf.keep k (a0f (Ne.symm n3)),R.hD,by rw [a0f (Ne.symm n2)];exact R.hde,fun c hc=>(R.hok c hc).keep k (a0f (n7 c hc).1),R.nd,sm,R.fr⟩
theorem RS.addH(R:RS K CW H0 H x dx bo se de fa cs S){us:List V}{v:V}{b:Str × List Str}(h:H se=some (.lst us))(hu:a0b K H (fun _=>False) (S.hs.map encH) us)(hv:AtD K H (fun _=>False) (encH b) v):RS K CW H0 (upd H se (.lst (us ++ [v]))) x dx bo se de fa cs { S with hs:=S.hs ++ [b] }:=by
 obtain⟨k,ox,sm⟩:=R.touch (a:=se) (by simp) (.lst (us ++ [v]))
 obtain⟨n1,n2,n3,n4,n5,n6,n7⟩:=R.ne4
 exact⟨ox,R.hb.keep k (a0f n1),by show LA _ _ _ ((S.hs ++ [b]).map encH);rw [map_append];exact LA.push h hu hv,R.hf.keep k (a0f (Ne.symm n5)),R.hD,by rw [a0f (Ne.symm n4)];exact R.hde,fun c hc=>(R.hok c hc).keep k (a0f (n7 c hc).2.1),R.nd,sm,R.fr⟩
theorem RS.addF(R:RS K CW H0 H x dx bo se de fa cs S){us:List V}{v:V}{b:Str × Rk}(h:H fa=some (.lst us))(hu:a0b K H (fun _=>False) (S.fs.map encL) us)(hv:AtD K H (fun _=>False) (encL b) v):RS K CW H0 (upd H fa (.lst (us ++ [v]))) x dx bo se de fa cs { S with fs:=S.fs ++ [b] }:=by
 obtain⟨k,ox,sm⟩:=R.touch (a:=fa) (by simp) (.lst (us ++ [v]))
 obtain⟨n1,n2,n3,n4,n5,n6,n7⟩:=R.ne4
 exact⟨ox,R.hb.keep k (a0f n3),R.hh.keep k (a0f n5),by show LA _ _ _ ((S.fs ++ [b]).map encL);rw [map_append];exact LA.push h hu hv,R.hD,by rw [a0f n6];exact R.hde,fun c hc=>(R.hok c hc).keep k (a0f (n7 c hc).2.2.2),R.nd,sm,R.fr⟩
theorem RS.addD(R:RS K CW H0 H x dx bo se de fa cs S){t l:Addr}{g:V}{r:Rk}(hl:H l=some (.lst []))(hn:l ∉ own bo se de fa cs)(h0:H0 l=none)(ht:H t=some (.tup [g,.ref l]))(hg:AtD K H (fun _=>False) r.enc g):RS K CW H0 (upd H de (.lst (cs.map (fun c=>V.ref c.t) ++ [.ref t]))) x dx bo se de fa (cs ++ [⟨⟨r,[]⟩,t,g,l,[]⟩]) { S with ds:=S.ds ++ [⟨r,[]⟩] }:=by
 obtain⟨k,ox,sm⟩:=R.touch (a:=de) (by simp) (.lst (cs.map (fun c=>V.ref c.t) ++ [.ref t]))
 obtain⟨n1,n2,n3,n4,n5,n6,n7⟩:=R.ne4
 refine⟨ox,R.hb.keep k (a0f n2),R.hh.keep k (a0f n4),R.hf.keep k (a0f (Ne.symm n6)),by show S.ds ++ _=_;rw [R.hD,map_append];rfl,by rw [a0e,map_append];rfl,fun c hc=>?_,?_,sm,fun a ha=>?_⟩
 ·rcases mem_append.mp hc with hc | hc
  ·exact(R.hok c hc).keep k (a0f (n7 c hc).2.2.1)
  ·cases mem_singleton.mp hc
   exact⟨k.1 _ _ ht,AtD.mono k _ _ hg,by rw [a0f (fun z=>hn (by have z:l=de:=z;rw [z];simp))];exact hl,.nil⟩
 ·show(own bo se de fa (cs ++ [_])).Nodup
  unfold own
  rw [map_append]
  show(own bo se de fa cs ++ [l]).Nodup
  exact nodup_append.mpr ⟨R.nd,nodup_cons.mpr ⟨by simp,List.nodup_nil⟩,fun a ha b hb e=>hn (by rw [mem_singleton] at hb;rw [← hb,← e];exact ha)⟩
 ·have ha:a ∈ (x :: own bo se de fa cs) ++ [l]:=by
   unfold own at ha
   rw [map_append] at ha
   exact ha
  rcases mem_append.mp ha with ha | ha
  ·exact R.fr a ha
  ·cases mem_singleton.mp ha;exact h0
theorem RS.addL{c:DC}{ds:List Deed}(R:RS K CW H0 H x dx bo se de fa (cs ++ [c]) S){v:V}{p:Str × Rk}(hv:AtD K H (fun _=>False) (encL p) v)(eS:S.ds=ds ++ [c.d]):RS K CW H0 (upd H c.l (.lst (c.ls ++ [v]))) x dx bo se de fa (cs ++ [⟨⟨c.d.g,c.d.lays ++ [p]⟩,c.t,c.g,c.l,c.ls ++ [v]⟩]) { S with ds:=ds ++ [⟨c.d.g,c.d.lays ++ [p]⟩] }:=by
 have hc:c ∈ cs ++ [c]:=by simp
 obtain⟨k,ox,sm⟩:=R.touch (a:=c.l) (mem_cons_of_mem _ (mem_cons_of_mem _ (mem_cons_of_mem _ (mem_cons_of_mem _ (mem_map.mpr ⟨c,hc,rfl⟩))))) (.lst (c.ls ++ [v]))
 obtain⟨n1,n2,n3,n4,n5,n6,n7⟩:=R.ne4
 obtain⟨m1,m2,m3,m4⟩:=n7 c hc
 have hcok:=R.hok c hc
 have eo:own bo se de fa (cs ++ [(⟨⟨c.d.g,c.d.lays ++ [p]⟩,c.t,c.g,c.l,c.ls ++ [v]⟩:DC)])=own bo se de fa (cs ++ [c]):=by unfold own;rw [map_append,map_append];rfl
 have eD:ds=cs.map DC.d:=by
  have:=R.hD
  rw [eS,map_append] at this
  exact List.append_inj_left' this rfl
 have nc:∀ q ∈ cs,q.l ≠ c.l:=fun q hq e=>by
  have h:=R.nd
  unfold own at h
  rw [map_append] at h
  simp only [nodup_cons] at h
  exact(nodup_append.mp h.2.2.2.2).2.2 q.l (mem_map.mpr ⟨q,hq,rfl⟩) c.l (by simp) e
 refine⟨ox,R.hb.keep k (a0f (Ne.symm m1)),R.hh.keep k (a0f (Ne.symm m2)),R.hf.keep k (a0f (Ne.symm m4)),by show ds ++ _=_;rw [eD,map_append];rfl,?_,fun q hq=>?_,by rw [eo];exact R.nd,sm,by rw [eo];exact R.fr⟩
 ·rw [a0f (Ne.symm m3),R.hde,map_append,map_append];rfl
 ·rcases mem_append.mp hq with hq | hq
  ·exact(R.hok q (mem_append_left _ hq)).keep k (a0f (nc q hq))
  ·cases mem_singleton.mp hq
   refine⟨k.1 _ _ hcok.ht,AtD.mono k _ _ hcok.hg,a0e,?_⟩
   show a0b _ _ _ ((c.d.lays ++ [p]).map encL) _
   rw [map_append]
   exact(a0b.mono k _ _ hcok.ha).append (.cons (AtD.mono k _ _ hv) .nil)
end
noncomputable def a2q:List (Str × PyData):=[("",.tuple [.str "box"]),("box",.tuple [.str "box",.str "hand",.str "deed",.str "fact"]),("hand",.tuple [.str "hand",.str "deed",.str "fact"]),("deed",.tuple [.str "lay",.str "deed",.str "fact"]),("lay",.tuple [.str "lay",.str "deed",.str "fact"]),("fact",.tuple [.str "fact"])]
inductive Itm where
 | b (a:Box)
 | h (p:Str × List Str)
 | d (g:Rk)
 | l (p:Str × Rk)
 | f (p:Str × Rk)
noncomputable def Itm.row:Itm->List Str
 | .b a=>rowB a
 | .h p=>rowH p
 | .d g => "deed" :: wR g
 | .l p=>rowL p
 | .f p=>rowF p
noncomputable def Itm.hd:Itm->Str
 | .b _ => "box"
 | .h _ => "hand"
 | .d _ => "deed"
 | .l _ => "lay"
 | .f _ => "fact"
noncomputable def b1q:List Deed->Str × Rk->List Deed
 | [],_=>[]
 | [d],p=>[⟨d.g,d.lays ++ [p]⟩]
 | d :: e :: r,p=>d :: b1q (e :: r) p
theorem b0t(p:Str × Rk)(d:Deed):∀ ds:List Deed,b1q (ds ++ [d]) p=ds ++ [⟨d.g,d.lays ++ [p]⟩]
 | []=>rfl
 | [a]=>rfl
 | a :: b :: r=>by
  have:=b0t p d (b :: r)
  show a :: b1q (b :: (r ++ [d])) p=_
  rw [show b :: (r ++ [d])=(b :: r) ++ [d] from rfl,this];rfl
noncomputable def Sta.nx(S:Sta):Itm->Sta
 | .b a=>⟨"box",S.bs ++ [a],S.hs,S.ds,S.fs⟩
 | .h p=>⟨"hand",S.bs,S.hs ++ [p],S.ds,S.fs⟩
 | .d g=>⟨"deed",S.bs,S.hs,S.ds ++ [⟨g,[]⟩],S.fs⟩
 | .l p=>⟨"lay",S.bs,S.hs,b1q S.ds p,S.fs⟩
 | .f p=>⟨"fact",S.bs,S.hs,S.ds,S.fs ++ [p]⟩
noncomputable def prH(s:Str × List Str):Str × PyData:=(s.1,.tuple (s.2.map .str))
noncomputable def prF(s:Str × Rk):Str × PyData:=(s.1,s.2.enc)
theorem d9q(fs:List (Str × List Str)):(fs.map prH).map c6p=fs.map encH:=by rw [map_map];rfl
theorem d9r(fs:List (Str × Rk)):(fs.map prF).map c6p=fs.map encL:=by rw [map_map];rfl
noncomputable def Sta.names(S:Sta):List Str:=S.bs.map (·.nm)
noncomputable def Sta.ok(S:Sta):Itm->Prop
 | .b a=>S.la ∈ (["","box"]:List Str)/\a0u a.nm=true/\a.nm ∉ S.names/\GoodB a/\S.bs.length < 6
 | .h p=>S.la ∈ (["box","hand"]:List Str)/\a0u p.1=true/\leC p.1 (lstN (S.hs.map prH))=false/\a3c "" p.2=true/\(∀ z ∈ p.2,z ∈ S.names)/\p.2.length <= 10/\S.hs.length < 4
 | .d g=>S.la ∈ (["box","hand","deed","lay"]:List Str)/\OkR S.names g/\S.ds.length < 60
 | .l p=>S.la ∈ (["deed","lay"]:List Str)/\p.1 ∈ S.names/\OkR S.names p.2/\∃ A d,S.ds=A ++ [d]/\p.1 ∉ d.lays.map Prod.fst/\d.lays.length <= 10
 | .f p=>S.la ∈ (["box","hand","deed","lay","fact"]:List Str)/\a0u p.1=true/\leC p.1 (lstN (S.fs.map prF))=false/\OkR S.names p.2/\S.fs.length < 8
theorem Sta.allow{S:Sta}{i:Itm}(h:S.ok i):∃ ss:List Str,a2q.lookup S.la=some (.tuple (ss.map .str))/\i.hd ∈ ss:=by
 have k1:a2q.lookup ("" : Str)=some (.tuple ((["box"]:List Str).map .str)):=rfl
 have k2:a2q.lookup ("box" : Str)=some (.tuple ((["box","hand","deed","fact"]:List Str).map .str)):=rfl
 have k3:a2q.lookup ("hand" : Str)=some (.tuple ((["hand","deed","fact"]:List Str).map .str)):=rfl
 have k4:a2q.lookup ("deed" : Str)=some (.tuple ((["lay","deed","fact"]:List Str).map .str)):=rfl
 have k5:a2q.lookup ("lay" : Str)=some (.tuple ((["lay","deed","fact"]:List Str).map .str)):=rfl
 have k6:a2q.lookup ("fact" : Str)=some (.tuple ((["fact"]:List Str).map .str)):=rfl
 cases i with
 | b a =>
  have h1:=h.1
  simp only [mem_cons,not_mem_nil,or_false] at h1
  rcases h1 with e | e<;>rw [e]
  ·exact⟨_,k1,by simp [Itm.hd]⟩
  ·exact⟨_,k2,by simp [Itm.hd]⟩
 | h a =>
  have h1:=h.1
  simp only [mem_cons,not_mem_nil,or_false] at h1
  rcases h1 with e | e<;>rw [e]
  ·exact⟨_,k2,by simp [Itm.hd]⟩
  ·exact⟨_,k3,by simp [Itm.hd]⟩
 | d a =>
  have h1:=h.1
  simp only [mem_cons,not_mem_nil,or_false] at h1
  rcases h1 with e | e | e | e<;>rw [e]
  ·exact⟨_,k2,by simp [Itm.hd]⟩
  ·exact⟨_,k3,by simp [Itm.hd]⟩
  ·exact⟨_,k4,by simp [Itm.hd]⟩
  ·exact⟨_,k5,by simp [Itm.hd]⟩
 | l a =>
  have h1:=h.1
  simp only [mem_cons,not_mem_nil,or_false] at h1
  rcases h1 with e | e<;>rw [e]
  ·exact⟨_,k4,by simp [Itm.hd]⟩
  ·exact⟨_,k5,by simp [Itm.hd]⟩
 | f a =>
  have h1:=h.1
  simp only [mem_cons,not_mem_nil,or_false] at h1
  rcases h1 with e | e | e | e | e<;>rw [e]
  ·exact⟨_,k2,by simp [Itm.hd]⟩
  ·exact⟨_,k3,by simp [Itm.hd]⟩
  ·exact⟨_,k4,by simp [Itm.hd]⟩
  ·exact⟨_,k5,by simp [Itm.hd]⟩
  ·exact⟨_,k6,by simp [Itm.hd]⟩
theorem e5a(i:Itm):i.row[0]? = some i.hd:=by cases i<;>rfl
abbrev b4s:Stmt:=inClass (top 22) 3
theorem e5b:FnScope ["self","word"] ["self","word"] (a0h b4s):=⟨rfl,rfl,rfl,by decide +kernel,rfl,by decide +kernel,by decide +kernel⟩
def c6r(K:W.Frag)(CW:Addr):Sp:=fun vs H Q _=>∃ (H0:Hp) (x dx bo se de fa:Addr) (cs:List DC) (S:Sta) (i:Itm),vs=[.ref x,.str i.hd]/\RS K CW H0 H x dx bo se de fa cs S/\S.ok i/\Q (.bl true) H
theorem hd_ne{i:Itm}:(i.hd = "box" -> ∃ a,i=.b a)/\(i.hd = "hand" -> ∃ a,i=.h a)/\(i.hd = "deed" -> ∃ a,i=.d a)/\(i.hd = "lay" -> ∃ a,i=.l a):=by
 have k:¬ (Str.ofString "hand") = "box" /\ ¬ (Str.ofString "deed") = "box" /\ ¬ (Str.ofString "lay") = "box" /\ ¬ (Str.ofString "fact") = "box" /\ ¬ (Str.ofString "box") = "hand" /\ ¬ (Str.ofString "deed") = "hand" /\ ¬ (Str.ofString "lay") = "hand" /\ ¬ (Str.ofString "fact") = "hand" /\ ¬ (Str.ofString "box") = "deed" /\ ¬ (Str.ofString "hand") = "deed" /\ ¬ (Str.ofString "lay") = "deed" /\ ¬ (Str.ofString "fact") = "deed" /\ ¬ (Str.ofString "box") = "lay" /\ ¬ (Str.ofString "hand") = "lay" /\ ¬ (Str.ofString "deed") = "lay" /\ ¬ (Str.ofString "fact") = "lay":=by decide +kernel
 obtain⟨a1,a2,a3,a4,b1,b2,b3,b4,c1,c2,c3,c4,d1,d2,d3,d4⟩:=k
 cases i with
 | b a=>exact⟨fun _=>⟨_,rfl⟩,fun e=>absurd e b1,fun e=>absurd e c1,fun e=>absurd e d1⟩
 | h a=>exact⟨fun e=>absurd e a1,fun _=>⟨_,rfl⟩,fun e=>absurd e c2,fun e=>absurd e d2⟩
 | d a=>exact⟨fun e=>absurd e a2,fun e=>absurd e b2,fun _=>⟨_,rfl⟩,fun e=>absurd e d3⟩
 | l a=>exact⟨fun e=>absurd e a3,fun e=>absurd e b3,fun e=>absurd e c3,fun _=>⟨_,rfl⟩⟩
 | f a=>exact⟨fun e=>absurd e a4,fun e=>absurd e b4,fun e=>absurd e c4,fun e=>absurd e d4⟩
section
variable{P:Program}{w:World}{K:W.Frag}{mg:Str->Option Value}{base:Heap}{n:Nat}{C CW:Addr}
theorem e5c{f:Addr}{fd:FuncData} (F:Fun K "may_begin_row" "MachineReading.may_begin_row" b4s f fd) (B:Bl mg) (RF:RdF K mg CW) (tRB:Tab K w mg "ROWS_BEHIND" a2q) (m1:∃ t,mg "MOST_BOXES" = some (.int 6 t)) (m2:∃ t,mg "MOST_SEERS" = some (.int 4 t)) (m3:∃ t,mg "MOST_DEEDS" = some (.int 60 t)) (m4:∃ t,mg "MOST_FACTS" = some (.int 8 t)):FnOk P w K mg base CX0 (n + 1) f fd ["self","word"] (c6r K CW):=by
 obtain⟨aT,kvT,hRB,kdT,hTab⟩:=tRB
 obtain⟨t1,h1⟩:=m1
 obtain⟨t2,h2⟩:=m2
 obtain⟨t3,h3⟩:=m3
 obtain⟨t4,h4⟩:=m4
 refine F.ok e5b (fun vs H Q E h=>?_) (fun cdv A outer s H vs Q E hr h=>?_)
 ·obtain⟨H0,x,dx,bo,se,de,fa,cs,S,i,rfl,_⟩:=h
  rfl
 obtain⟨H0,x,dx,bo,se,de,fa,cs,S,i,rfl,R,ok,q⟩:=h
 obtain⟨al,eal,hal⟩:=Sta.allow ok
 obtain⟨va,hva,hda⟩:=hTab _ _ eal
 obtain⟨ba,rfl,hsq⟩:∃ ba,va=.ref ba/\∀ H:Hp,SqT K H ba (al.map V.str):=by
  obtain⟨b,ys,rfl,_,_⟩:=a3l (hda (fun _=>False) H)
  refine⟨b,rfl,fun H'=>?_⟩
  obtain⟨b',ys',e,sq,a'⟩:=a3l (hda (fun _=>False) H')
  cases e
  rw [b8a a'] at sq
  exact sq
 obtain⟨l,ob⟩:=R.ob
 obtain⟨ub,hb,ab⟩:=R.hb
 obtain⟨uh,hh,ah⟩:=R.hh
 obtain⟨uf,hf,af⟩:=R.hf
 have lb:=ab.length
 have lh:=ah.length
 have lf:=af.length
 rw [length_map] at lb lh lf
 have ld:=congrArg List.length R.hD
 rw [length_map] at ld
 obtain⟨w1,w2,w3,w4⟩:=hd_ne (i:=i)
 refine⟨_,a0o (a4a (a2s b3e (pv 1) (a3f c0f (a3d rfl hRB (v:=.ref aT) rfl) (a1h (pv 0) rfl) (fun _ _=>rfl)) (by rfl)) b2r a3e)
  (a0o (a4a (a2s a5k (pv 1) a2y (a0r _)) (a0s (a1p (a2r b1v (a2l a1q rfl B.len_ a2z (a0c (a1h (pv 0) rfl) a0i)) (a3d rfl h1 (v:=.int 6) ⟨_,rfl⟩) (a0r _)))) a3e)
  (a0o (a4a (a2s a5k (pv 1) a2y (a0r _)) (a0s (a1p (a2r b1v (a2l a1q rfl B.len_ a2z (a0c (a1h (pv 0) rfl) a0i)) (a3d rfl h2 (v:=.int 4) ⟨_,rfl⟩) (a0r _)))) a3e)
  (a0o (a4a (a2s a5k (pv 1) a2y (a0r _)) (a0s (a1p (a2r b1v (a2l a1q rfl B.len_ a2z (a0c (a1h (pv 0) rfl) a0i)) (a3d rfl h3 (v:=.int 60) ⟨_,rfl⟩) (a0r _)))) a3e)
  (a0s (a1p (b6a (a2r a5k (pv 1) a2y (a0r _)) (a5o (a2r b1v (a2l a1q rfl B.len_ a2z (a0c (a1h (pv 0) rfl) a0i)) (a3d rfl h4 (v:=.int 8) ⟨_,rfl⟩) (a0r _))))))))),?_⟩
 refine⟨_,rfl,_,rfl,x,CW,dx,_,_,rfl,ob,RF.cl,RF.n1,rfl,aT,kvT,_,_,rfl,kdT,rfl,hva,ba,_,rfl,.inr (hsq _),rfl,b4q _,_,rfl,?_⟩
 rw [if_pos rfl,b4r,decide_eq_true hal]
 refine iteF ?_
 refine⟨_,rfl,rfl,_,rfl,?_⟩
 rw [sdec]
 by_cases c1:i.hd = "box"
 ·obtain⟨a,rfl⟩:=w1 c1
  refine a4v c1 ?_
  refine⟨_,rfl,x,CW,dx,_,_,rfl,ob,RF.cl,RF.n2,rfl,bo,_,rfl,.inl (SqL.of hb),_,_,rfl,rfl,?_⟩
  have:=ok.2.2.2.2
  exact(show Q (.bl (decide (((ub.length:Nat):Int) < 6))) H by rw [decide_eq_true (by omega)];exact q)
 refine a3h c1 ?_
 refine⟨_,rfl,rfl,_,rfl,?_⟩
 rw [sdec]
 by_cases c2:i.hd = "hand"
 ·obtain⟨a,rfl⟩:=w2 c2
  refine a4v c2 ?_
  refine⟨_,rfl,x,CW,dx,_,_,rfl,ob,RF.cl,RF.n3,rfl,se,_,rfl,.inl (SqL.of hh),_,_,rfl,rfl,?_⟩
  have:=ok.2.2.2.2.2.2
  exact(show Q (.bl (decide (((uh.length:Nat):Int) < 4))) H by rw [decide_eq_true (by omega)];exact q)
 refine a3h c2 ?_
 refine⟨_,rfl,rfl,_,rfl,?_⟩
 rw [sdec]
 by_cases c3:i.hd = "deed"
 ·obtain⟨a,rfl⟩:=w3 c3
  refine a4v c3 ?_
  refine⟨_,rfl,x,CW,dx,_,_,rfl,ob,RF.cl,RF.n4,rfl,de,_,rfl,.inl (SqL.of R.hde),_,_,rfl,rfl,?_⟩
  have:=ok.2.2
  exact(show Q (.bl (decide ((((cs.map fun c=>V.ref c.t).length:Nat):Int) < 60))) H by rw [decide_eq_true (by rw [length_map];omega)];exact q)
 refine a3h c3 ?_
 refine⟨_,rfl,rfl,?_⟩
 rw [sdec]
 refine⟨_,rfl,?_⟩
 by_cases c4:i.hd = "lay"
 ·exact a4v c4 q
 ·refine a3h c4 ?_
  refine⟨_,rfl,x,CW,dx,_,_,rfl,ob,RF.cl,RF.n5,rfl,fa,_,rfl,.inl (SqL.of hf),_,_,rfl,rfl,?_⟩
  cases i with
  | f a =>
   have:=ok.2.2.2.2
   exact(show Q (.bl (decide (((uf.length:Nat):Int) < 8))) H by rw [decide_eq_true (by omega)];exact q)
  | b a=>exact absurd rfl c1
  | h a=>exact absurd rfl c2
  | d a=>exact absurd rfl c3
  | l a=>exact absurd rfl c4
end
theorem WOk.ne{C CW:Addr}{H:Hp}{x dx wx dw:Addr}{la:Str}{bo se de fa:Addr}{l r:Int}{wl:Addr}{p:Nat}{ws:List Str}(hw:WOk C H wx dw r wl p ws)(h1:H x=some (.ins CW dx (rdf la bo se de fa l))):x ≠ wx:=fun z=>by
 have:=hw.1
 rw [← z,h1] at this
 injection (Option.some.inj this) with _ _ e
 exact absurd (congrArg (fun l=>l.head?.map (·.1)) e) (by show ¬ (some ("latest" : Str)=some "row");decide +kernel)
theorem WOk.upd{C:Addr}{H:Hp}{wx dw:Addr}{r:Int}{wl:Addr}{p:Nat}{ws:List Str}{a:Addr}{us:List V}{o:HO}(hw:WOk C H wx dw r wl p ws)(ha:H a=some (.lst us))(hl:a ≠ wl):WOk C (upd H a o) wx dw r wl p ws:=⟨by rw [a0f (fun z=>by rw [← z,hw.1] at ha;cases ha)];exact hw.1,by rw [a0f (Ne.symm hl)];exact hw.2⟩
theorem WOk.same{C:Addr}{H H':Hp}{wx dw:Addr}{r:Int}{wl:Addr}{p:Nat}{ws:List Str}(hw:WOk C H wx dw r wl p ws)(s:Same H H'):WOk C H' wx dw r wl p ws:=⟨s _ _ hw.1,s _ _ hw.2⟩
abbrev a8a:Stmt:=inClass (top 22) 7
theorem d0b:FnScope ["self","words"] ["self","words"] (a0h a8a):=⟨rfl,rfl,rfl,by decide +kernel,rfl,by decide +kernel,by decide +kernel⟩
def b5w(K:W.Frag)(C CW:Addr):Sp:=fun vs H Q _=>∃ (H0:Hp) (x dx bo se de fa:Addr) (cs:List DC) (S:Sta) (wx dw:Addr) (r:Int) (wl:Addr) (p:Nat) (ws:List Str) (a:Rk) (sa:Addr) (ns:List Int),vs=[.ref x,.ref wx]/\RS K CW H0 H x dx bo se de fa cs S/\WOk C H wx dw r wl p ws/\H0 wx=none/\OkR S.names a/\S.bs.length <= 10/\Pfx (wR a) p ws/\L2.Scr K H0 sa (ns.map V.int) /\
 ∀ v H',RS K CW H0 H' x dx bo se de fa cs S->Bt2 x wx H H'->WOk C H' wx dw r wl (p + (wR a).length) ws->AtD K H' (fun _=>False) a.enc v->Q v H'
abbrev b0h:Stmt:=inClass (top 22) 5
theorem b4t:FnScope ["self","words","name","least","greatest"] ["self","words"] (a0h b0h):=⟨rfl,rfl,rfl,by decide +kernel,rfl,by decide +kernel,by decide +kernel⟩
def c2a(K:W.Frag)(C CW:Addr):Sp:=fun vs H Q _=>∃ (H0:Hp) (x dx bo se de fa:Addr) (cs:List DC) (S:Sta) (wx dw:Addr) (r:Int) (wl:Addr) (a:Box) (sa:Addr) (ns:List Int),vs=[.ref x,.ref wx]/\RS K CW H0 H x dx bo se de fa cs S/\WOk C H wx dw r wl 1 (rowB a)/\H0 wx=none/\wl ∉ own bo se de fa cs/\a0u a.nm=true/\a.nm ∉ S.names/\GoodB a/\S.bs.length <= 9/\L2.Scr K H0 sa (ns.map V.int) /\
 ∀ H',RS K CW H0 H' x dx bo se de fa cs { S with bs:=S.bs ++ [a] }->WOk C H' wx dw r wl 5 (rowB a)->Q .non H'
abbrev a6z:Stmt:=inClass (top 22) 6
theorem b2u:FnScope ["self","words","name","seen","low"] ["self","words"] (a0h a6z):=⟨rfl,rfl,rfl,by decide +kernel,rfl,by decide +kernel,by decide +kernel⟩
def b8c(K:W.Frag)(C CW:Addr):Sp:=fun vs H Q _=>∃ (H0:Hp) (x dx bo se de fa:Addr) (cs:List DC) (S:Sta) (wx dw:Addr) (r:Int) (wl:Addr) (a:Str × List Str) (sa:Addr) (ns:List Int),vs=[.ref x,.ref wx]/\RS K CW H0 H x dx bo se de fa cs S/\WOk C H wx dw r wl 1 (rowH a)/\H0 wx=none/\wl ∉ own bo se de fa cs/\a0u a.1=true/\leC a.1 (lstN (S.hs.map prH))=false/\a3c "" a.2=true/\(∀ z ∈ a.2,z ∈ S.names)/\a.2.length <= 10/\S.bs.length <= 10/\S.hs.length <= 9/\L2.Scr K H0 sa (ns.map V.int) /\
 ∀ H',RS K CW H0 H' x dx bo se de fa cs { S with hs:=S.hs ++ [a] }->WOk C H' wx dw r wl (rowH a).length (rowH a)->Q .non H'
theorem all_strs{K:W.Frag}{H:Hp}{S:Addr->Prop}:∀ ns:List Str,a0b K H S (ns.map .str) (ns.map V.str)
 | []=>by unfold a0b;rfl
 | b :: r=>.cons (a1u _) (all_strs r)
noncomputable def lstS(us:List Str):Str:=us.getLast?.getD ""
abbrev tLow(K:W.Frag)(i:Nat):TT:=fun σ H Q=>tVar i σ H fun x H'=>∃ k,TruV K x H' k/\Q k H'
theorem d9s{K:W.Frag}{al:Addr}{as:List Str}{σ:St}{H:Hp}{Q:VK}(hσ:σ[3]? = some (some (.ref al)))(hal:H al=some (.lst (as.map V.str)))(q:Q (.str (lstS as)) H) :
  tIf (tLow K 3) (tOp (rIxL K) (tVar 3) (tUn (rU fun i=>V.int (-i)) (tC (V.int 1)))) (tC (.str "")) σ H Q:=by
 rcases List.eq_nil_or_concat as with rfl | ⟨l,v,rfl⟩
 ·exact⟨_,hσ,false,.inl ⟨_,SqL.of hal,rfl⟩,iteF q⟩
 ·rw [List.concat_eq_append] at *
  refine⟨_,hσ,true,.inl ⟨_,SqL.of hal,by simp⟩,iteT ⟨_,hσ,_,rfl,al,_,-1,.str v,rfl,rfl,SqL.of hal,?_,?_⟩⟩
  ·rw [map_append];exact b1y _ _
  ·unfold lstS at q
   rw [List.getLast?_concat] at q
   exact q
section
variable{P:Program}{w:World}{K:W.Frag}{mg:Str->Option Value}{base:Heap}{n N:Nat}{C CW:Addr}
theorem d0c{f f1:Addr}{fd fd1:FuncData} (F:Fun K "read_whole_reckoning" "MachineReading.read_whole_reckoning" a8a f fd) (RF:RdF K mg CW) (mR:∃ t,mg "MOST_RECKONINGS" = some (.int 20 t))
  (m_rreck:Meth K CW "read_reckoning" f1) (b_rreck:Binds K fd1 ["self","words"] []) (g_rreck:FnOk P w K mg base CX0 n f1 fd1 ["self","words"] (b9q K C CW 20)):FnOk P w K mg base CX0 (n + 1) f fd ["self","words"] (b5w K C CW):=by
 obtain⟨tR,hR⟩:=mR
 refine F.ok d0b (fun vs H Q E h=>?_) (fun cdv A outer s H vs Q E hr h=>?_)
 ·obtain⟨H0,x,dx,bo,se,de,fa,cs,S,wx,dw,r,wl,p,ws,a,sa,ns,rfl,_⟩:=h
  rfl
 obtain⟨H0,x,dx,bo,se,de,fa,cs,S,wx,dw,r,wl,p,ws,a,sa,ns,rfl,R,hw,h0,ok,bl,hz,sc,q⟩:=h
 obtain⟨l,ob⟩:=R.ob
 have nx:=hw.ne ob
 refine⟨_,a0o (a4j (pv 0) (a3d rfl hR (v:=.int 20) ⟨_,rfl⟩) rfl) (a0s (a1p (a3v (pv 0) RF.cl m_rreck g_rreck hr b_rreck .nil a2x (a0c (pv 1) a0i)))),?_⟩
 refine⟨_,rfl,x,CW,dx,_,rfl,ob,RF.cl,RF.n6,(show(6:Nat) < 1000 by decide),?_⟩
 rw [show putF "left" (.int 20) (rdf S.la bo se de fa l)=rdf S.la bo se de fa ((20:Nat):Int) from rfl]
 have nwl:wl ≠ x:=fun z=>by have:=hw.2;rw [z,ob] at this;cases this
 obtain⟨H1,e1⟩:∃ H1,H1=upd H x (.ins CW dx (rdf S.la bo se de fa ((20:Nat):Int))):=⟨_,rfl⟩
 rw [← e1]
 have x1:H1 x=some (.ins CW dx (rdf S.la bo se de fa ((20:Nat):Int))):=by rw [e1,a0e]
 have b1:Bt2 x wx H H1:=fun c o n1 _ e=>by rw [e1,a0f n1];exact e
 have w1:WOk C H1 wx dw r wl p ws:=⟨by rw [e1,a0f (Ne.symm nx)];exact hw.1,by rw [e1,a0f nwl];exact hw.2⟩
 have R1:RS K CW H0 H1 x dx bo se de fa cs S:=R.bt b1 hw.1 h0 ⟨_,x1⟩
 obtain⟨us,hbo,hus⟩:=R1.hb
 refine⟨_,rfl,x,dx,_,rfl,x1,rfl,_,rfl,x,dx,wx,dw,bo,se,de,fa,S.la,20,r,wl,p,ws,a,us,S.bs,sa,ns,rfl,x1,w1,hbo,hus,bl,ok.m,ok.m,ok.k,hz,sc.keep (S:=Any) R1.sm.keep,fun v H' b2 x2 w2 hv=>?_⟩
 exact q v H' (R1.bt b2 w1.1 h0 ⟨_,x2⟩) (b1.trans b2) w2 hv
theorem d9t{f f1 f2 f3 f4 cR T:Addr}{fd fd1 fd2 fd3 fd4:FuncData}(hN:n + 3 <= N) (F:Fun K "read_box" "MachineReading.read_box" b0h f fd) (TX:TxtF K mg C) (RF:RdF K mg CW) (bm:BMain mg base) (hcR:fd.code=.ref cR) (hCR:W.codeHdIn K cR T=true) (mG:∃ t,mg "GREATEST" = some (.int 999 t))
  (m_taken:Meth K C "taken" f1) (b_taken:Binds K fd1 ["self","fits"] []) (g_taken:FnOk P w K mg base CX0 (n + 2) f1 fd1 ["self","fits"] (a7y P w K mg base (n + 1) C))
  (d_is_name:Def K mg "is_name" a8q ["thing"] f2 fd2) (g_is_name:FnOk P w K mg base CX0 n f2 fd2 ["thing"] (spD K b0e))
  (m_boxn:Meth K CW "is_box_name" f3) (b_boxn:Binds K fd3 ["self","word"] []) (g_boxn:FnOk P w K mg base CX0 n f3 fd3 ["self","word"] (b1o K CW))
  (d_rnum:Def K mg "read_number" a5e ["words","least","greatest"] f4 fd4) (g_rnum:FnOk P w K mg base CX0 N f4 fd4 ["words","least","greatest"] (c1v K C)):FnOk P w K mg base CX0 (N + 1) f fd ["self","words"] (c2a K C CW):=by
 obtain⟨tG,hG⟩:=mG
 refine F.okC b4t (fun vs H Q E h=>?_) (fun cdv A outer s H vs Q E hcd hr h=>?_)
 ·obtain⟨H0,x,dx,bo,se,de,fa,cs,S,wx,dw,r,wl,a,sa,ns,rfl,_⟩:=h
  rfl
 rw [hcR] at hcd
 subst hcd
 obtain⟨H0,x,dx,bo,se,de,fa,cs,S,wx,dw,r,wl,a,sa,ns,rfl,R,hw,h0,hwl,na,nn,gb,bl,sc,q⟩:=h
 have hTs:∀ {H':Hp},L2.Scr K H' sa (ns.map V.int)->H' T=some (a7d "MachineReading.read_box.<locals>.<lambda>"):=fun sc=>by
  have h:=sc.1 _ (b1i F (by decide +kernel) hcR hCR)
  rw [show(("MachineReading.read_box" : Str) ++ (".<locals>.<lambda>" : Str)) = "MachineReading.read_box.<locals>.<lambda>" by decide +kernel] at h
  exact h
 obtain⟨l,ob⟩:=R.ob
 have nx:=hw.ne ob
 obtain⟨us,hbo,hus⟩:=R.hb
 have g1:=gb.a
 have g2:=gb.b
 have g3:=gb.c
 have g4:=gb.d
 refine⟨_,a0o (a2j (i:=2) b4t.nd rfl (Or.inl rfl) (a4t (cp:=[("self",0)]) bm rfl hCR (q:="MachineReading.read_box.<locals>.<lambda>") (by rfl) (by intro y hy hf;refine⟨?_,rfl⟩;revert y;show ∀ y:Str × NameKind,y ∈ _->y.2=NameKind.free->(a0h b0h).names.lookup y.1=some .cell;decide +kernel) (by intro y hy;revert y;show ∀ y:Str × Nat,y ∈ _->(["self","words","name","least","greatest"]:List Str)[y.2]? = some y.1/\(y.1,NameKind.free) ∈ _;decide +kernel) (pv 1) TX.cl m_taken g_taken.bold (hr.mono (by omega)) b_taken a7i))
  (a0o (a2j (i:=3) b4t.nd rfl (Or.inl rfl) (a2c d_rnum g_rnum hr rfl (a0c (pv 1) (a0c (b4b b0x (a3d rfl hG (v:=.int 999) ⟨_,rfl⟩)) (a0c (a3d rfl hG (v:=.int 999) ⟨_,rfl⟩) a0i)))))
  (a0o (a2j (i:=4) b4t.nd rfl (Or.inl rfl) (a2c d_rnum g_rnum hr rfl (a0c (pv 1) (a0c (pv 3) (a0c (a3d rfl hG (v:=.int 999) ⟨_,rfl⟩) a0i)))))
  (a0s (a4d (a6k PySem.F.plainAttrs_list PySem.F.slot_list_append PySem.F.type_list_append a4f (a1h (pv 0) rfl) (a0c (a4y (a0c (pv 2) (a0c (pv 3) (a0c (pv 4) (a0c (a2c d_rnum g_rnum hr rfl (a0c (pv 1) (a0c (pv 3) (a0c (pv 4) a0i)))) a0i))))) a0i)))))),?_⟩
 refine⟨_,rfl,wx,dw,_,rfl,hw.1,rfl,hTs (sc.keep (S:=Any) R.sm.keep),fun fl c ct cl H2 s2 hf L co cap hn=>?_⟩
 refine⟨wx,dw,fl,r,wl,1,rowB a,a.nm,rfl,hw.same s2,rfl,a6a (cn:=["self"]) (cv:=[.ref x]) L co rfl (fun j n v j1 j2=>?cap) ⟨rfl,rfl,rfl,by decide +kernel,by decide +kernel,by decide +kernel⟩ (fun u=>rfl) (fun A outer s H3 zz hr hzz s3=>⟨_,a8i (a2c d_is_name g_is_name hr rfl (a0c (pv 0) a0i)) (a5o (c7d (a3v (pv 1) RF.cl m_boxn g_boxn hr b_boxn .nil a2x (a0c (pv 0) a0i)))),fun Q hq=>?lam⟩),fun H' b k1=>?_⟩
 case cap =>
  match j with
  | 0=>cases j1;cases j2;exact cap ("self",0) (by simp) _ rfl
  | j + 1=>cases j1
 case lam =>
  have hzz:zz=a.nm:=hzz
  subst hzz
  have s4:Same H H3:=(a4s s2 hn).trans s3
  refine⟨_,rfl,c4f (sc.keep (S:=Any) (R.sm.trans s4).keep) na fun H4 s5=>?_⟩
  have s6:=s4.trans s5
  refine⟨_,rfl,iteT ⟨_,rfl,x,dx,_,rfl,s6 _ _ ob,rfl,_,rfl,x,dx,bo,_,a.nm,us,S.bs,rfl,s6 _ _ ob,rfl,s6 _ _ hbo,a0b.mono s6.keep _ _ hus,by omega,fun H8 s8=>⟨_,rfl,?_⟩⟩⟩
  rw [decide_eq_false (show ¬ a.nm ∈ S.bs.map (·.nm) from nn)]
  exact hq H8 (s5.trans s8)
 have bo1:=a6b s2 b hn
 have nw:∀ a o,H a=some o->a ∉ cl.map (·.2):=fun a o e m=>by rw [hn a m] at e;cases e
 have w1:WOk C (hid H' (cl.map (·.2))) wx dw r wl 2 (rowB a):=⟨by rw [a0y (nw _ _ hw.1)];exact k1.1,by rw [a0y (nw _ _ hw.2)];exact k1.2⟩
 clear k1
 show a4p 2 _ _ (hid H' (cl.map (·.2))) _
 generalize hid H' (cl.map (·.2))=H1 at bo1 w1 ⊢
 have R1:=R.but bo1 hw.1 h0 nx
 refine⟨_,rfl,_,rfl,wx,dw,r,wl,2,rowB a,a.lo,-999,999,sa,ns,rfl,w1,rfl,⟨by omega,by omega⟩,by omega,by omega,sc.keep (S:=Any) R1.sm.keep,fun H2 b2 w2=>?_⟩
 have R2:=R1.but b2 w1.1 h0 nx
 refine⟨_,rfl,_,rfl,wx,dw,r,wl,3,rowB a,a.hi,a.lo,999,sa,ns,rfl,w2,rfl,⟨by omega,by omega⟩,by omega,by omega,sc.keep (S:=Any) R2.sm.keep,fun H3 b3 w3=>?_⟩
 have R3:=R2.but b3 w2.1 h0 nx
 obtain⟨l3,ob3⟩:=R3.ob
 obtain⟨us3,hb3,ab3⟩:=R3.hb
 refine⟨_,rfl,x,CW,dx,_,_,rfl,ob3,RF.cl,RF.n2,rfl,.inl ⟨rfl,_,SqL.of hb3⟩,_,rfl,_,rfl,_,rfl,_,rfl,_,rfl,_,rfl,wx,dw,r,wl,4,rowB a,a.fst,a.lo,a.hi,sa,ns,rfl,w3,rfl,⟨by omega,by omega⟩,by omega,by omega,sc.keep (S:=Any) R3.sm.keep,fun H4 b4 w4=>?_⟩
 have R4:=R3.but b4 w3.1 h0 nx
 refine⟨(show(4:Nat) <= sizeLine by decide),fun t ht=>?_⟩
 have st:=a0m ht (.tup [.str a.nm,.int a.lo,.int a.hi,.int a.fst])
 have R5:=R4.same st
 have hb5:(upd H4 t (.tup [.str a.nm,.int a.lo,.int a.hi,.int a.fst])) bo=some (.lst us3):=st _ _ (b4 _ _ (fun z=>by rw [z,w3.1] at hb3;cases hb3) hb3)
 have ab5:a0b K (upd H4 t (.tup [.str a.nm,.int a.lo,.int a.hi,.int a.fst])) (fun _=>False) (S.bs.map encB) us3:=by
  obtain⟨us5,hq5,aq5⟩:=R5.hb
  rw [hb5] at hq5
  cases hq5
  exact aq5
 have lu:=ab5.length
 rw [length_map] at lu
 refine⟨bo,us3,.ref t,rfl,rfl,hb5,by rw [lu,sizeLine_eq];omega,?_⟩
 exact q _ (R5.addB hb5 ab5 (a1k (SqT.of a0e) (.cons (a1u _) (.cons (a1y _) (.cons (a1y _) (.cons (a1y _) .nil)))))) ((w4.same st).upd hb5 (fun z=>hwl (by rw [← z];simp)))
theorem d3j{f f1 f2 f3 f4 cR T:Addr}{fd fd1 fd2 fd3 fd4:FuncData}(hN:n + 2 <= N) (F:Fun K "read_seer" "MachineReading.read_seer" a6z f fd) (B:Bl mg) (TX:TxtF K mg C) (RF:RdF K mg CW) (bm:BMain mg base) (hcR:fd.code=.ref cR) (hCR:W.codeHdIn K cR T=true)
  (m_taken:Meth K C "taken" f1) (b_taken:Binds K fd1 ["self","fits"] []) (g_taken:FnOk P w K mg base CX0 (n + 2) f1 fd1 ["self","fits"] (a7y P w K mg base (n + 1) C))
  (d_behind:Def K mg "is_behind" a6j ["word","pairs"] f2 fd2) (g_behind:FnOk P w K mg base CX0 n f2 fd2 ["word","pairs"] (b2t K))
  (m_boxn:Meth K CW "is_box_name" f3) (b_boxn:Binds K fd3 ["self","word"] []) (g_boxn:FnOk P w K mg base CX0 n f3 fd3 ["self","word"] (b1o K CW))
  (m_over:Meth K C "are_over" f4) (b_over:Binds K fd4 ["self"] []) (g_over:FnOk P w K mg base CX0 n f4 fd4 ["self"] (b3w C)):FnOk P w K mg base CX0 (N + 1) f fd ["self","words"] (b8c K C CW):=by
 refine F.okC b2u (fun vs H Q E h=>?_) (fun cdv A outer s H vs Q E hcd hr h=>?_)
 ·obtain⟨H0,x,dx,bo,se,de,fa,cs,S,wx,dw,r,wl,a,sa,ns,rfl,_⟩:=h
  rfl
 rw [hcR] at hcd
 subst hcd
 obtain⟨H0,x,dx,bo,se,de,fa,cs,S,wx,dw,r,wl,a,sa,ns,rfl,R,hw,h0,hwl,na,la1,rs,hin,al,bl,hl9,sc,q⟩:=h
 have hTs:∀ {H':Hp},L2.Scr K H' sa (ns.map V.int)->H' T=some (a7d "MachineReading.read_seer.<locals>.<lambda>"):=fun sc=>by
  have h:=sc.1 _ (b1i F (by decide +kernel) hcR hCR)
  rw [show(("MachineReading.read_seer" : Str) ++ (".<locals>.<lambda>" : Str)) = "MachineReading.read_seer.<locals>.<lambda>" by decide +kernel] at h
  exact h
 obtain⟨l,ob⟩:=R.ob
 have nx:=hw.ne ob
 obtain⟨us,hse,hus⟩:=R.hh
 refine⟨_,a0o (a2j (i:=2) b2u.nd rfl (Or.inl rfl) (a4t (cp:=[("self",0)]) bm rfl hCR (q:="MachineReading.read_seer.<locals>.<lambda>") (by rfl) (by intro y hy hf;refine⟨?_,rfl⟩;revert y;show ∀ y:Str × NameKind,y ∈ _->y.2=NameKind.free->(a0h a6z).names.lookup y.1=some .cell;decide +kernel) (by intro y hy;revert y;show ∀ y:Str × Nat,y ∈ _->(["self","words","name","seen","low"]:List Str)[y.2]? = some y.1/\(y.1,NameKind.free) ∈ _;decide +kernel) (pv 1) TX.cl m_taken g_taken.bold (hr.mono (by omega)) b_taken a7i))
  (a0o (a2j (i:=3) b2u.nd rfl (Or.inl rfl) (a7b a0i))
  (a0o (b9t PassesOwn.leaving (b5z (L2.b0v (a9o (pv 1) TX.cl m_over g_over (hr.mono (by omega)) b_over .nil a2x)))
   (a0o (a2j (i:=4) b2u.nd rfl (Or.inr rfl) (d0l (d0o (pv 3) (fun _=>rfl)) (a3f a4l (pv 3) (b4b b0x a0v) (fun _ _=>rfl)) a2y))
   (a0s (a4d (a6k PySem.F.plainAttrs_list PySem.F.slot_list_append PySem.F.type_list_append a4f (pv 3) (a0c (a4t (cp:=[("self",0),("low",4)]) bm rfl hCR (q:="MachineReading.read_seer.<locals>.<lambda>") (by rfl) (by intro y hy hf;refine⟨?_,rfl⟩;revert y;show ∀ y:Str × NameKind,y ∈ _->y.2=NameKind.free->(a0h a6z).names.lookup y.1=some .cell;decide +kernel) (by intro y hy;revert y;show ∀ y:Str × Nat,y ∈ _->(["self","words","name","seen","low"]:List Str)[y.2]? = some y.1/\(y.1,NameKind.free) ∈ _;decide +kernel) (pv 1) TX.cl m_taken g_taken.bold (hr.mono (by omega)) b_taken a7i) a0i))))))
  (a0s (a4d (a6k PySem.F.plainAttrs_list PySem.F.slot_list_append PySem.F.type_list_append a4f (a1h (pv 0) rfl) (a0c (a4y (a0c (pv 2) (a0c (a2t a1f rfl B.tuple_ a1v (a0c (pv 3) a0i)) a0i))) a0i)))))),?_⟩
 refine⟨_,rfl,wx,dw,_,rfl,hw.1,rfl,hTs (sc.keep (S:=Any) R.sm.keep),fun fl c ct cl H2 s2 hf L co cap hn=>?_⟩
 refine⟨wx,dw,fl,r,wl,1,rowH a,a.1,rfl,hw.same s2,rfl,a6a (cn:=["self"]) (cv:=[.ref x]) L co rfl (fun j n v j1 j2=>?cap) ⟨rfl,rfl,rfl,by decide +kernel,by decide +kernel,by decide +kernel⟩ (fun u=>rfl) (fun A outer s H3 zz hr hzz s3=>⟨_,a2c d_behind g_behind hr rfl (a0c (pv 0) (a0c (a1h (pv 1) rfl) a0i)),fun Q hq=>?lam⟩),fun H' b k1=>?_⟩
 case cap =>
  match j with
  | 0=>cases j1;cases j2;exact cap ("self",0) (by simp) _ rfl
  | j + 1=>cases j1
 case lam =>
  have hzz:zz=a.1:=hzz
  subst hzz
  have s4:Same H H3:=(a4s s2 hn).trans s3
  exact⟨_,rfl,_,rfl,x,CW,dx,_,_,rfl,s4 _ _ ob,RF.cl,RF.n3,rfl,a.1,se,us,S.hs.map prH,sa,ns,rfl,s4 _ _ hse,by rw [d9q];exact a0b.mono s4.keep _ _ hus,na,la1,sc.keep (S:=Any) (R.sm.trans s4).keep,fun H4 s5=>hq H4 s5⟩
 have bo1:=a6b s2 b hn
 have nw:∀ a o,H a=some o->a ∉ cl.map (·.2):=fun a o e m=>by rw [hn a m] at e;cases e
 have w1:WOk C (hid H' (cl.map (·.2))) wx dw r wl 2 (rowH a):=⟨by rw [a0y (nw _ _ hw.1)];exact k1.1,by rw [a0y (nw _ _ hw.2)];exact k1.2⟩
 clear k1
 show a4p 2 _ _ (hid H' (cl.map (·.2))) _
 generalize hid H' (cl.map (·.2))=H1 at bo1 w1 ⊢
 have R1:=R.but bo1 hw.1 h0 nx
 clear cap co L hf s2 hn nw b
 refine⟨(show(0:Nat) <= sizeLine by decide),fun sn hsn=>?_⟩
 have s6:=a0m hsn (.lst [])
 have nsw:sn ≠ wx:=fun z=>by rw [z,w1.1] at hsn;cases hsn
 have nsl:sn ≠ wl:=fun z=>by rw [z,w1.2] at hsn;cases hsn
 have hlen:(rowH a).length=a.2.length + 2:=rfl
 refine⟨fun k σ' H'=>∃ (us vs:List Str) (u4:Option V),k=vs.length/\us ++ vs=a.2/\σ'=[some (.ref x),some (.ref wx),some (.str a.1),some (.ref sn),u4]/\But wx H1 H'/\WOk C H' wx dw r wl ((rowH a).length - vs.length) (rowH a)/\H' sn=some (.lst (us.map V.str)),⟨a.2.length,[],a.2,none,rfl,rfl,rfl,.of s6,?_,a0e⟩,?_⟩
 ·rw [show(rowH a).length - a.2.length=2 by omega];exact w1.same s6
 rintro k σ' H' ⟨us',vs,u4,rfl,euv,rfl,b',w',hsn'⟩
 have lev:=congrArg List.length euv
 rw [length_append] at lev
 refine⟨_,rfl,wx,dw,_,rfl,w'.1,rfl,wx,dw,r,wl,_,rowH a,rfl,w',_,rfl,?_⟩
 have R':=R1.but b' w1.1 h0 nx
 cases vs with
 | nil =>
  rw [decide_eq_true (by simp)]
  refine iteF ?_
  rw [append_nil] at euv
  subst euv
  obtain⟨l',ob'⟩:=R'.ob
  obtain⟨us3,hs3,as3⟩:=R'.hh
  refine⟨_,rfl,x,CW,dx,_,_,rfl,ob',RF.cl,RF.n3,rfl,.inl ⟨rfl,_,SqL.of hs3⟩,_,rfl,_,rfl,sn,_,rfl,.inl ⟨SqL.of hsn',fun l1 hl1=>?_⟩⟩
  have st1:=a0m hl1 (.tup (a.2.map V.str))
  refine⟨(show(2:Nat) <= sizeLine by decide),fun t ht=>?_⟩
  have st2:=a0m ht (.tup [.str a.1,.ref l1])
  have R5:=R'.same (st1.trans st2)
  have hs5:=(st1.trans st2) _ _ hs3
  have lu:=as3.length
  rw [length_map] at lu
  refine⟨se,us3,.ref t,rfl,rfl,hs5,by rw [lu,sizeLine_eq];omega,?_⟩
  refine q _ (R5.addH hs5 (a0b.mono (st1.trans st2).keep _ _ as3) (a1k (SqT.of a0e) (.cons (a1u _) (.cons (a1k (SqT.of (st2 _ _ a0e)) (all_strs _)) .nil)))) ((w'.same (st1.trans st2)).upd hs5 (fun z=>hwl (by rw [← z];simp)))
 | cons v vs =>
  rw [length_cons] at *
  rw [decide_eq_false (by omega)]
  refine iteT ?_
  have hav:a.2[us'.length]? = some v:=by rw [← euv,getElem?_append_right (le_refl _),Nat.sub_self];rfl
  have hz:(rowH a)[(rowH a).length - (vs.length + 1)]? = some v:=by
   rw [show(rowH a).length - (vs.length + 1)=us'.length + 2 by omega]
   exact hav
  have lz:=b3s rs hav
  rw [← euv,List.take_append_of_le_length (le_refl _),take_length] at lz
  have lz:leC v (lstS us')=false:=lz
  refine⟨fun σ' H'=>∃ u4,σ'=[some (.ref x),some (.ref wx),some (.str a.1),some (.ref sn),u4]/\But wx H1 H'/\WOk C H' wx dw r wl ((rowH a).length - vs.length) (rowH a)/\H' sn=some (.lst ((us' ++ [v]).map V.str)),?_,?_⟩
  ·rintro σ' H2 ⟨u4,rfl,b2,w2,hs2⟩
   exact⟨vs.length,by omega,us' ++ [v],vs,u4,rfl,by rw [← euv];simp,rfl,b2,w2,hs2⟩
  refine d9s (al:=sn) (as:=us') rfl hsn' ?_
  refine⟨_,rfl,.inl ⟨rfl,_,SqL.of hsn'⟩,_,rfl,wx,dw,_,rfl,w'.1,rfl,hTs (sc.keep (S:=Any) R'.sm.keep),fun fl c ct cl H2 s2 hf L co cap hn=>?_⟩
  obtain⟨l',ob'⟩:=R'.ob
  obtain⟨us3,hb3,ab3⟩:=R'.hb
  refine⟨wx,dw,fl,r,wl,_,rowH a,v,rfl,w'.same s2,hz,a6a (cn:=["self","low"]) (cv:=[.ref x,.str (lstS us')]) L co rfl (fun j n v j1 j2=>?cap) ⟨rfl,rfl,rfl,by decide +kernel,by decide +kernel,by decide +kernel⟩ (fun u=>rfl) (fun A outer s H3 zz hr hzz s3=>⟨_,a8i (a3v (pv 1) RF.cl m_boxn g_boxn hr b_boxn .nil a2x (a0c (pv 0) a0i)) (a5o (a2r c9p (pv 0) (pv 2) (a0r _))),fun Q hq=>?lam2⟩),fun H3 b3 k3=>?_⟩
  case cap =>
   match j with
   | 0=>cases j1;cases j2;exact cap ("self",0) (by simp) _ rfl
   | 1=>cases j1;cases j2;exact cap ("low",4) (by simp) _ rfl
   | j + 2=>cases j1
  case lam2 =>
   have hzz:zz=v:=hzz
   subst hzz
   have s4:Same H' H3:=(a4s s2 hn).trans s3
   refine⟨_,rfl,x,dx,_,rfl,s4 _ _ ob',rfl,_,rfl,x,dx,bo,_,zz,us3,S.bs,rfl,s4 _ _ ob',rfl,s4 _ _ hb3,a0b.mono s4.keep _ _ ab3,bl,fun H8 s8=>?_⟩
   refine⟨_,rfl,a4v (hin zz (by rw [← euv];simp)) ?_⟩
   refine⟨_,rfl,_,rfl,_,_,rfl,rfl,?_⟩
   rw [lz]
   exact hq H8 s8
  have bo2:=a6b s2 b3 hn
  have nw2:∀ a o,H' a=some o->a ∉ cl.map (·.2):=fun a o e m=>by rw [hn a m] at e;cases e
  have w3:WOk C (hid H3 (cl.map (·.2))) wx dw r wl ((rowH a).length - vs.length) (rowH a):=by
   have e:(rowH a).length - (vs.length + 1) + 1=(rowH a).length - vs.length:=by omega
   rw [e] at k3
   exact⟨by rw [a0y (nw2 _ _ w'.1)];exact k3.1,by rw [a0y (nw2 _ _ w'.2)];exact k3.2⟩
  have hs3:=bo2 _ _ nsw hsn'
  refine⟨sn,_,.str v,rfl,rfl,hs3,by rw [length_map,sizeLine_eq];omega,?_⟩
  refine⟨_,rfl,fun c o n1 e=>?_,w3.upd hs3 nsl,by rw [a0e,map_append];rfl⟩
  rw [a0f (fun z=>by rw [z,hsn] at e;cases e)]
  exact bo2 _ _ n1 (b' _ _ n1 e)
end
abbrev a7o:Stmt:=inClass (top 22) 2
theorem b4u:FnScope ["self","words","laid","name"] ["self","words"] (a0h a7o):=⟨rfl,rfl,rfl,by decide +kernel,rfl,by decide +kernel,by decide +kernel⟩
def c2b(K:W.Frag)(C CW:Addr):Sp:=fun vs H Q _=>∃ (H0:Hp) (x dx bo se de fa:Addr) (cs:List DC) (S:Sta) (wx dw:Addr) (r:Int) (wl:Addr) (i:Itm) (sa:Addr) (ns:List Int),vs=[.ref x,.ref wx]/\RS K CW H0 H x dx bo se de fa cs S/\WOk C H wx dw r wl 0 i.row/\H0 wx=none/\wl ∉ own bo se de fa cs/\S.ok i/\S.bs.length <= 10/\L2.Scr K H0 sa (ns.map V.int) /\
 ∀ cs' H',RS K CW H0 H' x dx bo se de fa cs' (S.nx i)->Q .non H'
theorem c4i{a b:Str}{r:Rk}:Pfx (wR r) 2 (a :: b :: wR r):=fun i z e=>by rw [add_comm];exact e
theorem d9u{a:Str}{r:Rk}:Pfx (wR r) 1 (a :: wR r):=fun i z e=>by rw [add_comm];exact e
section
variable{P:Program}{w:World}{K:W.Frag}{mg:Str->Option Value}{base:Heap}{n N:Nat}{C CW:Addr}
theorem d9v{f f1 f2 f3 f4 f5 f6 f7 f8 cR T:Addr}{fd fd1 fd2 fd3 fd4 fd5 fd6 fd7 fd8:FuncData}(hN:n + 2 <= N) (F:Fun K "read_row" "MachineReading.read_row" a7o f fd) (B:Bl mg) (TX:TxtF K mg C) (RF:RdF K mg CW) (bm:BMain mg base) (hcR:fd.code=.ref cR) (hCR:W.codeHdIn K cR T=true)
  (m_taken:Meth K C "taken" f1) (b_taken:Binds K fd1 ["self","fits"] []) (g_taken:FnOk P w K mg base CX0 (n + 2) f1 fd1 ["self","fits"] (a7y P w K mg base (n + 1) C))
  (m_may:Meth K CW "may_begin_row" f2) (b_may:Binds K fd2 ["self","word"] []) (g_may:FnOk P w K mg base CX0 n f2 fd2 ["self","word"] (c6r K CW))
  (m_boxn:Meth K CW "is_box_name" f3) (b_boxn:Binds K fd3 ["self","word"] []) (g_boxn:FnOk P w K mg base CX0 n f3 fd3 ["self","word"] (b1o K CW))
  (d_behind:Def K mg "is_behind" a6j ["word","pairs"] f4 fd4) (g_behind:FnOk P w K mg base CX0 n f4 fd4 ["word","pairs"] (b2t K))
  (m_rbox:Meth K CW "read_box" f5) (b_rbox:Binds K fd5 ["self","words"] []) (g_rbox:FnOk P w K mg base CX0 N f5 fd5 ["self","words"] (c2a K C CW))
  (m_rseer:Meth K CW "read_seer" f6) (b_rseer:Binds K fd6 ["self","words"] []) (g_rseer:FnOk P w K mg base CX0 N f6 fd6 ["self","words"] (b8c K C CW))
  (m_rwhole:Meth K CW "read_whole_reckoning" f7) (b_rwhole:Binds K fd7 ["self","words"] []) (g_rwhole:FnOk P w K mg base CX0 N f7 fd7 ["self","words"] (b5w K C CW))
  (m_wfin:Meth K C "finish" f8) (b_wfin:Binds K fd8 ["self"] []) (g_wfin:FnOk P w K mg base CX0 N f8 fd8 ["self"] (c1q C)):FnOk P w K mg base CX0 (N + 1) f fd ["self","words"] (c2b K C CW):=by
 refine F.okC b4u (fun vs H Q E h=>?_) (fun cdv A outer s H vs Q E hcd hr h=>?_)
 ·obtain⟨H0,x,dx,bo,se,de,fa,cs,S,wx,dw,r,wl,i,sa,ns,rfl,_⟩:=h
  rfl
 rw [hcR] at hcd
 subst hcd
 obtain⟨H0,x,dx,bo,se,de,fa,cs,S,wx,dw,r,wl,i,sa,ns,rfl,R,hw,h0,hwl,ok,bl,sc,q⟩:=h
 have hTs:∀ {H':Hp},L2.Scr K H' sa (ns.map V.int)->H' T=some (a7d "MachineReading.read_row.<locals>.<lambda>"):=fun sc=>by
  have h:=sc.1 _ (b1i F (by decide +kernel) hcR hCR)
  rw [show(("MachineReading.read_row" : Str) ++ (".<locals>.<lambda>" : Str)) = "MachineReading.read_row.<locals>.<lambda>" by decide +kernel] at h
  exact h
 obtain⟨l,ob⟩:=R.ob
 have nx:=hw.ne ob
 refine⟨_,a0o (a4j (pv 0) (a4t (cp:=[("self",0)]) bm rfl hCR (q:="MachineReading.read_row.<locals>.<lambda>") (by rfl) (by intro y hy hf;refine⟨?_,rfl⟩;revert y;show ∀ y:Str × NameKind,y ∈ _->y.2=NameKind.free->(a0h a7o).names.lookup y.1=some .cell;decide +kernel) (by intro y hy;revert y;show ∀ y:Str × Nat,y ∈ _->(["self","words","laid","name"]:List Str)[y.2]? = some y.1/\(y.1,NameKind.free) ∈ _;decide +kernel) (pv 1) TX.cl m_taken g_taken.bold (hr.mono (by omega)) b_taken a7i) rfl)
  (a0o (a4a (a2s a5k (a1h (pv 0) rfl) a2y (a0r _))
   (a0s (a4d (a3v (pv 0) RF.cl m_rbox g_rbox hr b_rbox .nil a2x (a0c (pv 1) a0i))))
   (a0s (a4a (a2s a5k (a1h (pv 0) rfl) a2y (a0r _))
    (a0s (a4d (a3v (pv 0) RF.cl m_rseer g_rseer hr b_rseer .nil a2x (a0c (pv 1) a0i))))
    (a0s (a4a (a2s a5k (a1h (pv 0) rfl) a2y (a0r _))
     (a0s (a4d (a6k PySem.F.plainAttrs_list PySem.F.slot_list_append PySem.F.type_list_append a4f (a1h (pv 0) rfl) (a0c (a4y (a0c (a3v (pv 0) RF.cl m_rwhole g_rwhole hr b_rwhole .nil a2x (a0c (pv 1) a0i)) (a0c (a7b a0i) a0i))) a0i))))
     (a0s (a4a (a2s a5k (a1h (pv 0) rfl) a2y (a0r _))
      (a0o (a2j (i:=2) b4u.nd rfl (Or.inr rfl) (b7k (own:=["lay"]) (cap:=[]) rfl (by rfl) (by decide +kernel) (b7h (a3f a8k (a3f a4l (a1h (pv 0) rfl) (b4b b0x a0v) (fun _ _=>rfl)) a0v (fun _ _=>rfl))) (fun _ _ _=>a9c (i:=0) (show(["lay"]:List Str).Nodup by decide +kernel) rfl (Or.inl rfl)) (fun _ _ _=>b4f) (fun _ _ _=>b5s (K':=K) (fun K=>tOp (rIxT K) (tVar 0) (tC (.int 0))) (a3f a8k (pv 0) a0v (fun _ _=>rfl)) rfl)))
      (a0o (a2j (i:=3) b4u.nd rfl (Or.inl rfl) (a4t (cp:=[("self",0),("laid",2)]) bm rfl hCR (q:="MachineReading.read_row.<locals>.<lambda>") (by rfl) (by intro y hy hf;refine⟨?_,rfl⟩;revert y;show ∀ y:Str × NameKind,y ∈ _->y.2=NameKind.free->(a0h a7o).names.lookup y.1=some .cell;decide +kernel) (by intro y hy;revert y;show ∀ y:Str × Nat,y ∈ _->(["self","words","laid","name"]:List Str)[y.2]? = some y.1/\(y.1,NameKind.free) ∈ _;decide +kernel) (pv 1) TX.cl m_taken g_taken.bold (hr.mono (by omega)) b_taken a7i))
      (a0s (a4d (a6k PySem.F.plainAttrs_list PySem.F.slot_list_append PySem.F.type_list_append a4f (a3f a8k (a3f a4l (a1h (pv 0) rfl) (b4b b0x a0v) (fun _ _=>rfl)) a0v (fun _ _=>rfl)) (a0c (a4y (a0c (pv 3) (a0c (a3v (pv 0) RF.cl m_rwhole g_rwhole hr b_rwhole .nil a2x (a0c (pv 1) a0i)) a0i))) a0i))))))
      (a0o (a2j (i:=3) b4u.nd rfl (Or.inl rfl) (a4t (cp:=[("self",0)]) bm rfl hCR (q:="MachineReading.read_row.<locals>.<lambda>") (by rfl) (by intro y hy hf;refine⟨?_,rfl⟩;revert y;show ∀ y:Str × NameKind,y ∈ _->y.2=NameKind.free->(a0h a7o).names.lookup y.1=some .cell;decide +kernel) (by intro y hy;revert y;show ∀ y:Str × Nat,y ∈ _->(["self","words","laid","name"]:List Str)[y.2]? = some y.1/\(y.1,NameKind.free) ∈ _;decide +kernel) (pv 1) TX.cl m_taken g_taken.bold (hr.mono (by omega)) b_taken a7i))
      (a0s (a4d (a6k PySem.F.plainAttrs_list PySem.F.slot_list_append PySem.F.type_list_append a4f (a1h (pv 0) rfl) (a0c (a4y (a0c (pv 3) (a0c (a3v (pv 0) RF.cl m_rwhole g_rwhole hr b_rwhole .nil a2x (a0c (pv 1) a0i)) a0i))) a0i))))))))))))
  (a0s (a4d (a9o (pv 1) TX.cl m_wfin g_wfin hr b_wfin .nil a2x)))),?_⟩
 refine⟨_,rfl,wx,dw,_,rfl,hw.1,rfl,hTs (sc.keep (S:=Any) R.sm.keep),fun fl c ct cl H2 s2 hf L co cap hn=>?_⟩
 refine⟨wx,dw,fl,r,wl,0,i.row,i.hd,rfl,hw.same s2,e5a i,a6a (cn:=["self"]) (cv:=[.ref x]) L co rfl (fun j n v j1 j2=>?cap) ⟨rfl,rfl,rfl,by decide +kernel,by decide +kernel,by decide +kernel⟩ (fun u=>rfl) (fun A outer s H3 zz hr hzz s3=>⟨_,a3v (pv 1) RF.cl m_may g_may hr b_may .nil a2x (a0c (pv 0) a0i),fun Q hq=>?lam⟩),fun H' b k1=>?_⟩
 case cap =>
  match j with
  | 0=>cases j1;cases j2;exact cap ("self",0) (by simp) _ rfl
  | j + 1=>cases j1
 case lam =>
  have hzz:zz=i.hd:=hzz
  subst hzz
  have s4:Same H H3:=(a4s s2 hn).trans s3
  exact⟨_,rfl,x,dx,_,rfl,s4 _ _ ob,rfl,_,rfl,H0,x,dx,bo,se,de,fa,cs,S,i,rfl,R.same s4,ok,hq _ (Same.refl _)⟩
 have bo1:=a6b s2 b hn
 have nw:∀ a o,H a=some o->a ∉ cl.map (·.2):=fun a o e m=>by rw [hn a m] at e;cases e
 have w1:WOk C (hid H' (cl.map (·.2))) wx dw r wl 1 i.row:=⟨by rw [a0y (nw _ _ hw.1)];exact k1.1,by rw [a0y (nw _ _ hw.2)];exact k1.2⟩
 clear k1
 obtain⟨H1,eH1⟩:∃ H1,H1=hid H' (cl.map (·.2)):=⟨_,rfl⟩
 rw [← eH1] at bo1 w1
 have R1:=R.but bo1 hw.1 h0 nx
 obtain⟨l1,ob1⟩:=R1.ob
 refine⟨_,rfl,x,CW,dx,rdf S.la bo se de fa l1,rfl,by rw [← eH1];exact ob1,RF.cl,RF.n1,(show(6:Nat) < 1000 by decide),?_⟩
 rw [← eH1,show putF "latest" (.str i.hd) (rdf S.la bo se de fa l1)=rdf i.hd bo se de fa l1 from rfl]
 have nwl:wl ≠ x:=fun z=>by have:=w1.2;rw [z,ob1] at this;cases this
 obtain⟨H3,e3⟩:∃ H3,H3=upd H1 x (.ins CW dx (rdf i.hd bo se de fa l1)):=⟨_,rfl⟩
 rw [← e3]
 have x3:H3 x=some (.ins CW dx (rdf i.hd bo se de fa l1)):=by rw [e3,a0e]
 have w3:WOk C H3 wx dw r wl 1 i.row:=⟨by rw [e3,a0f (Ne.symm nx)];exact w1.1,by rw [e3,a0f nwl];exact w1.2⟩
 have b3:Bt2 x wx H1 H3:=fun c o n1 _ e=>by rw [e3,a0f n1];exact e
 have R3:RS K CW H0 H3 x dx bo se de fa cs { S with la:=i.hd }:=R1.bt b3 w1.1 h0 ⟨_,x3⟩
 clear e3 b3 R1 w1 bo1 ob1 eH1 cap co L hf s2 hn nw b
 have sc3:=sc.keep (S:=Any) R3.sm.keep
 refine⟨_,rfl,x,CW,dx,_,_,rfl,x3,RF.cl,RF.n1,rfl,rfl,_,rfl,?_⟩
 rw [sdec]
 cases i with
 | b a =>
  obtain⟨o1,o2,o3,o4,o5⟩:=ok
  refine a4v rfl ?_
  refine⟨_,rfl,x,dx,_,rfl,x3,rfl,_,rfl,H0,x,dx,bo,se,de,fa,cs,_,wx,dw,r,wl,a,sa,ns,rfl,R3,w3,h0,hwl,o2,o3,o4,by show S.bs.length <= 9;omega,sc,fun H4 R4 w4=>?_⟩
  have w4:WOk C H4 wx dw r wl (Itm.row (.b a)).length (Itm.row (.b a)):=w4
  exact⟨_,rfl,wx,dw,_,rfl,w4.1,rfl,wx,dw,r,wl,Itm.row _,rfl,w4,q _ _ (R4)⟩
 | h p =>
  obtain⟨o1,o2,o3,o4,o5,o6,o7⟩:=ok
  refine a3h (show ¬ (Str.ofString "hand")=Str.ofString "box" by decide +kernel) ?_
  refine⟨_,rfl,x,CW,dx,_,_,rfl,x3,RF.cl,RF.n1,rfl,rfl,_,rfl,?_⟩
  rw [sdec]
  refine a4v rfl ?_
  refine⟨_,rfl,x,dx,_,rfl,x3,rfl,_,rfl,H0,x,dx,bo,se,de,fa,cs,_,wx,dw,r,wl,p,sa,ns,rfl,R3,w3,h0,hwl,o2,o3,o4,o5,o6,bl,by show S.hs.length <= 9;omega,sc,fun H4 R4 w4=>?_⟩
  have w4:WOk C H4 wx dw r wl (Itm.row (.h p)).length (Itm.row (.h p)):=w4
  exact⟨_,rfl,wx,dw,_,rfl,w4.1,rfl,wx,dw,r,wl,Itm.row _,rfl,w4,q _ _ (R4)⟩
 | d g =>
  obtain⟨o1,o2,o3⟩:=ok
  refine a3h (show ¬ (Str.ofString "deed")=Str.ofString "box" by decide +kernel) ?_
  refine⟨_,rfl,x,CW,dx,_,_,rfl,x3,RF.cl,RF.n1,rfl,rfl,_,rfl,?_⟩
  rw [sdec]
  refine a3h (show ¬ (Str.ofString "deed")=Str.ofString "hand" by decide +kernel) ?_
  refine⟨_,rfl,x,CW,dx,_,_,rfl,x3,RF.cl,RF.n1,rfl,rfl,_,rfl,?_⟩
  rw [sdec]
  refine a4v rfl ?_
  refine⟨_,rfl,x,CW,dx,_,_,rfl,x3,RF.cl,RF.n4,rfl,.inl ⟨rfl,_,SqL.of R3.hde⟩,_,rfl,x,dx,_,rfl,x3,rfl,_,rfl,H0,x,dx,bo,se,de,fa,cs,_,wx,dw,r,wl,1,_,g,sa,ns,rfl,R3,w3,h0,o2,bl,d9u,sc,fun v H4 R4 b4 w4 hv=>?_⟩
  refine⟨(show(0:Nat) <= sizeLine by decide),fun l4 hl4=>?_⟩
  have s5:=a0m hl4 (.lst [])
  refine⟨(show(2:Nat) <= sizeLine by decide),fun t ht=>?_⟩
  have s6:=a0m ht (.tup [v,.ref l4])
  have s56:=s5.trans s6
  have R6:=R4.same s56
  have ld:=congrArg List.length R4.hD
  rw [length_map] at ld
  have ld:S.ds.length=cs.length:=ld
  refine⟨de,_,.ref t,rfl,rfl,R6.hde,by rw [length_map,sizeLine_eq];omega,?_⟩
  have hn4:l4 ∉ own bo se de fa cs:=fun m=>by obtain⟨us,e⟩:=R4.lst _ m;rw [e] at hl4;cases hl4
  have h04:H0 l4=none:=by
   cases e:H0 l4 with
   | none=>rfl
   | some o=>rw [R4.sm _ _ e] at hl4;cases hl4
  have R7:=R6.addD (s6 _ _ a0e) hn4 h04 a0e (AtD.mono s56.keep _ _ hv)
  have w7:WOk C (upd (upd (upd H4 l4 (.lst [])) t (.tup [v,.ref l4])) de (.lst (cs.map (fun c=>V.ref c.t) ++ [.ref t]))) wx dw r wl (Itm.row (.d g)).length (Itm.row (.d g)):=by
   have e:1 + (wR g).length=(Itm.row (.d g)).length:=by show _=(wR g).length + 1;omega
   rw [e] at w4
   exact(w4.same s56).upd R6.hde (fun z=>hwl (by rw [← z];simp))
  exact⟨_,rfl,wx,dw,_,rfl,w7.1,rfl,wx,dw,r,wl,Itm.row _,rfl,w7,q _ _ (R7)⟩
 | l p =>
  obtain⟨o1,o2,o3,A,d,eS,o4,o5⟩:=ok
  refine a3h (show ¬ (Str.ofString "lay")=Str.ofString "box" by decide +kernel) ?_
  refine⟨_,rfl,x,CW,dx,_,_,rfl,x3,RF.cl,RF.n1,rfl,rfl,_,rfl,?_⟩
  rw [sdec]
  refine a3h (show ¬ (Str.ofString "lay")=Str.ofString "hand" by decide +kernel) ?_
  refine⟨_,rfl,x,CW,dx,_,_,rfl,x3,RF.cl,RF.n1,rfl,rfl,_,rfl,?_⟩
  rw [sdec]
  refine a3h (show ¬ (Str.ofString "lay")=Str.ofString "deed" by decide +kernel) ?_
  refine⟨_,rfl,x,CW,dx,_,_,rfl,x3,RF.cl,RF.n1,rfl,rfl,_,rfl,?_⟩
  rw [sdec]
  refine a4v rfl ?_
  have hD3:S.ds=cs.map DC.d:=R3.hD
  obtain⟨cs0,cc,rfl⟩:∃ cs0 cc,cs=cs0 ++ [cc]:=by
   rcases List.eq_nil_or_concat cs with rfl | ⟨a,b,e⟩
   ·rw [eS] at hD3;simp at hD3
   ·exact⟨a,b,by rw [e,List.concat_eq_append]⟩
  have ed:cc.d=d/\A=cs0.map DC.d:=by
   rw [eS,map_append] at hD3
   have h1:=List.append_inj' hD3 rfl
   exact⟨by have:=h1.2;simp at this;exact this.symm,h1.1⟩
  obtain⟨rfl,eA⟩:=ed
  have hc:cc ∈ cs0 ++ [cc]:=by simp
  have ck:=R3.hok cc hc
  have hde:=R3.hde
  rw [map_append] at hde
  have nls:=ck.ha.length
  rw [length_map] at nls
  refine⟨_,rfl,x,CW,dx,_,_,rfl,x3,RF.cl,RF.n4,rfl,_,rfl,de,_,-1,.ref cc.t,rfl,rfl,SqL.of hde,b1y _ _,cc.t,_,1,.ref cc.l,rfl,rfl,SqT.of ck.ht,a4k (j:=1) rfl,cc.l,rfl,⟨_,SqL.of ck.hl⟩,fun D0 hD0=>?_⟩
  refine b3g (b3f (xs:=cc.ls) (fun i σ2 H6=>∃ u,σ2=[u]/\Same H3 H6/\H6 D0=some (.lst (((cc.d.lays.take i).map Prod.fst).map V.str))) ⟨none,rfl,a0m hD0 _,a0e⟩ (fun i σ2 H6 _ h=>by obtain⟨_,_,s,_⟩:=h;exact SqL.of (s _ _ ck.hl)) ?_ ?_)
  ·rintro i y σ2 H6 hy ⟨u,rfl,s6,hD6⟩
   have il:=(List.getElem?_eq_some_iff.mp hy).1
   obtain⟨b,hb⟩:∃ b,cc.d.lays[i]? = some b:=⟨_,getElem?_eq_getElem (by omega)⟩
   obtain⟨v',hv',ab⟩:=a0b.get (a0b.mono s6.keep _ _ ck.ha) (show(cc.d.lays.map encL)[i]? = some (encL b) by rw [getElem?_map,hb];rfl)
   rw [hy] at hv'
   cases hv'
   obtain⟨t,ys,rfl,sq,al⟩:=a3l ab
   obtain⟨y1,r1,rfl,b1,al⟩:=al.uncons
   unfold AtD at b1
   subst b1
   dsimp only [a4p,tYes]
   rw [if_pos rfl]
   refine⟨_,rfl,t,_,0,.str b.1,rfl,rfl,sq,b4m,_,hD6,?_,_,rfl,?_,?_⟩
   ·rw [length_map,length_map,length_take,sizeLine_eq];omega
   ·exact fun c o h=>by rw [a0f (fun zz=>by rw [zz,hD0] at h;cases h)];exact s6 _ _ h
   ·rw [a0e,take_add_one,hb,toList_some,map_append,map_append];rfl
  rintro σ2 H6 ⟨u,rfl,s6,hD6⟩
  rw [nls,take_length] at hD6
  have R6:=R3.same s6
  have w6:=w3.same s6
  refine⟨_,rfl,wx,dw,_,rfl,w6.1,rfl,hTs (sc.keep (S:=Any) R6.sm.keep),fun fl c ct cl H2 s2 hf L co cap hn=>?_⟩
  obtain⟨l6,ob6⟩:=R6.ob
  obtain⟨us6,hb6,ab6⟩:=R6.hb
  refine⟨wx,dw,fl,r,wl,1,_,p.1,rfl,w6.same s2,rfl,a6a (cn:=["self","laid"]) (cv:=[.ref x,.ref D0]) L co rfl (fun j n v j1 j2=>?cap) ⟨rfl,rfl,rfl,by decide +kernel,by decide +kernel,by decide +kernel⟩ (fun u=>rfl) (fun A outer s H7 zz hr hzz s7=>⟨_,a8i (a3v (pv 1) RF.cl m_boxn g_boxn hr b_boxn .nil a2x (a0c (pv 0) a0i)) (a5o (a2r b3e (pv 0) (pv 2) (by rfl))),fun Q hq=>?lam2⟩),fun H7 b7 k7=>?_⟩
  case cap =>
   match j with
   | 0=>cases j1;cases j2;exact cap ("self",0) (by simp) _ rfl
   | 1=>cases j1;cases j2;exact cap ("laid",2) (by simp) _ rfl
   | j + 2=>cases j1
  case lam2 =>
   have hzz:zz=p.1:=hzz
   subst hzz
   have s4:Same H6 H7:=(a4s s2 hn).trans s7
   refine⟨_,rfl,x,dx,_,rfl,s4 _ _ ob6,rfl,_,rfl,x,dx,bo,_,p.1,us6,S.bs,rfl,s4 _ _ ob6,rfl,s4 _ _ hb6,a0b.mono s4.keep _ _ ab6,bl,fun H8 s8=>?_⟩
   refine⟨_,rfl,a4v o2 ?_⟩
   refine⟨_,rfl,_,rfl,D0,_,rfl,.inl (SqL.of (s8 _ _ (s4 _ _ hD6))),rfl,b4q _,?_⟩
   rw [if_pos rfl,b4r,decide_eq_false o4]
   exact hq H8 s8
  have bo7:=a6b s2 b7 hn
  have nw:∀ a o,H6 a=some o->a ∉ cl.map (·.2):=fun a o e m=>by rw [hn a m] at e;cases e
  have w7:WOk C (hid H7 (cl.map (·.2))) wx dw r wl 2 (Itm.row (.l p)):=⟨by rw [a0y (nw _ _ w6.1)];exact k7.1,by rw [a0y (nw _ _ w6.2)];exact k7.2⟩
  clear k7
  show a4p 3 _ _ (hid H7 (cl.map (·.2))) _
  generalize hid H7 (cl.map (·.2))=H8 at bo7 w7 ⊢
  have R8:=R6.but bo7 w6.1 h0 nx
  clear cap co L hf s2 hn nw b7
  obtain⟨l8,ob8⟩:=R8.ob
  have ck8:=R8.hok cc hc
  have hde8:=R8.hde
  rw [map_append] at hde8
  refine⟨_,rfl,x,CW,dx,_,_,rfl,ob8,RF.cl,RF.n4,rfl,_,rfl,de,_,-1,.ref cc.t,rfl,rfl,SqL.of hde8,b1y _ _,cc.t,_,1,.ref cc.l,rfl,rfl,SqT.of ck8.ht,a4k (j:=1) rfl,.inl ⟨rfl,_,SqL.of ck8.hl⟩,_,rfl,_,rfl,x,dx,_,rfl,ob8,rfl,_,rfl,H0,x,dx,bo,se,de,fa,cs0 ++ [cc],_,wx,dw,r,wl,2,_,p.2,sa,ns,rfl,R8,w7,h0,o3,bl,c4i,sc,fun v H9 R9 b9 w9 hv=>?_⟩
  refine⟨(show(2:Nat) <= sizeLine by decide),fun t ht=>?_⟩
  have s10:=a0m ht (.tup [.str p.1,v])
  have R10:=R9.same s10
  have ck10:=R10.hok cc hc
  refine⟨cc.l,_,.ref t,rfl,rfl,ck10.hl,by rw [nls,sizeLine_eq];omega,?_⟩
  have R11:=R10.addL (ds:=A) (p:=p) (v:=.ref t) (a1k (SqT.of a0e) (.cons (a1u _) (.cons (AtD.mono s10.keep _ _ hv) .nil))) (by show S.ds=_;exact eS)
  have w11:WOk C (upd (upd H9 t (.tup [.str p.1,v])) cc.l (.lst (cc.ls ++ [.ref t]))) wx dw r wl (Itm.row (.l p)).length (Itm.row (.l p)):=by
   have e:2 + (wR p.2).length=(Itm.row (.l p)).length:=by show _=(wR p.2).length + 1 + 1;omega
   rw [e] at w9
   exact(w9.same s10).upd ck10.hl (fun z=>hwl (by rw [← z];simp))
  have R12:RS K CW H0 (upd (upd H9 t (.tup [.str p.1,v])) cc.l (.lst (cc.ls ++ [.ref t]))) x dx bo se de fa (cs0 ++ [⟨⟨cc.d.g,cc.d.lays ++ [p]⟩,cc.t,cc.g,cc.l,cc.ls ++ [.ref t]⟩]) (S.nx (.l p)):=by
   have e:S.nx (.l p)=⟨"lay",S.bs,S.hs,A ++ [⟨cc.d.g,cc.d.lays ++ [p]⟩],S.fs⟩:=by show Sta.mk _ _ _ (b1q S.ds p) _=_;rw [eS,b0t]
   rw [e]
   exact R11
  exact⟨_,rfl,wx,dw,_,rfl,w11.1,rfl,wx,dw,r,wl,Itm.row _,rfl,w11,q _ _ (R12)⟩
 | f p =>
  obtain⟨o1,o2,o3,o4,o5⟩:=ok
  refine a3h (show ¬ (Str.ofString "fact")=Str.ofString "box" by decide +kernel) ?_
  refine⟨_,rfl,x,CW,dx,_,_,rfl,x3,RF.cl,RF.n1,rfl,rfl,_,rfl,?_⟩
  rw [sdec]
  refine a3h (show ¬ (Str.ofString "fact")=Str.ofString "hand" by decide +kernel) ?_
  refine⟨_,rfl,x,CW,dx,_,_,rfl,x3,RF.cl,RF.n1,rfl,rfl,_,rfl,?_⟩
  rw [sdec]
  refine a3h (show ¬ (Str.ofString "fact")=Str.ofString "deed" by decide +kernel) ?_
  refine⟨_,rfl,x,CW,dx,_,_,rfl,x3,RF.cl,RF.n1,rfl,rfl,_,rfl,?_⟩
  rw [sdec]
  refine a3h (show ¬ (Str.ofString "fact")=Str.ofString "lay" by decide +kernel) ?_
  obtain⟨us,hfa,hus⟩:=R3.hf
  refine⟨_,rfl,wx,dw,_,rfl,w3.1,rfl,hTs sc3,fun fl c ct cl H2 s2 hf L co cap hn=>?_⟩
  refine⟨wx,dw,fl,r,wl,1,_,p.1,rfl,w3.same s2,rfl,a6a (cn:=["self"]) (cv:=[.ref x]) L co rfl (fun j n v j1 j2=>?cap) ⟨rfl,rfl,rfl,by decide +kernel,by decide +kernel,by decide +kernel⟩ (fun u=>rfl) (fun A outer s H7 zz hr hzz s7=>⟨_,a2c d_behind g_behind hr rfl (a0c (pv 0) (a0c (a1h (pv 1) rfl) a0i)),fun Q hq=>?lam3⟩),fun H7 b7 k7=>?_⟩
  case cap =>
   match j with
   | 0=>cases j1;cases j2;exact cap ("self",0) (by simp) _ rfl
   | j + 1=>cases j1
  case lam3 =>
   have hzz:zz=p.1:=hzz
   subst hzz
   have s4:Same H3 H7:=(a4s s2 hn).trans s7
   exact⟨_,rfl,_,rfl,x,CW,dx,_,_,rfl,s4 _ _ x3,RF.cl,RF.n5,rfl,p.1,fa,us,S.fs.map prF,sa,ns,rfl,s4 _ _ hfa,by rw [d9r];exact a0b.mono s4.keep _ _ hus,o2,o3,sc3.keep (S:=Any) s4.keep,fun H8 s8=>hq H8 s8⟩
  have bo7:=a6b s2 b7 hn
  have nw:∀ a o,H3 a=some o->a ∉ cl.map (·.2):=fun a o e m=>by rw [hn a m] at e;cases e
  have w7:WOk C (hid H7 (cl.map (·.2))) wx dw r wl 2 (Itm.row (.f p)):=⟨by rw [a0y (nw _ _ w3.1)];exact k7.1,by rw [a0y (nw _ _ w3.2)];exact k7.2⟩
  clear k7
  show a4p 3 _ _ (hid H7 (cl.map (·.2))) _
  generalize hid H7 (cl.map (·.2))=H8 at bo7 w7 ⊢
  have R8:=R3.but bo7 w3.1 h0 nx
  clear cap co L hf s2 hn nw b7
  obtain⟨l8,ob8⟩:=R8.ob
  obtain⟨us8,hf8,af8⟩:=R8.hf
  refine⟨_,rfl,x,CW,dx,_,_,rfl,ob8,RF.cl,RF.n5,rfl,.inl ⟨rfl,_,SqL.of hf8⟩,_,rfl,_,rfl,x,dx,_,rfl,ob8,rfl,_,rfl,H0,x,dx,bo,se,de,fa,cs,_,wx,dw,r,wl,2,_,p.2,sa,ns,rfl,R8,w7,h0,o4,bl,c4i,sc,fun v H9 R9 b9 w9 hv=>?_⟩
  refine⟨(show(2:Nat) <= sizeLine by decide),fun t ht=>?_⟩
  have s10:=a0m ht (.tup [.str p.1,v])
  have R10:=R9.same s10
  have k10:=b9.keep ob8 w7.1
  have hf10:=s10 _ _ (b9.lst ob8 w7.1 hf8)
  have lu:=af8.length
  rw [length_map] at lu
  have lu:us8.length=S.fs.length:=lu
  refine⟨fa,us8,.ref t,rfl,rfl,hf10,by rw [lu,sizeLine_eq];omega,?_⟩
  have R11:=R10.addF (b:=p) (v:=.ref t) hf10 (a0b.mono (k10.trans s10.keep) _ _ af8) (a1k (SqT.of a0e) (.cons (a1u _) (.cons (AtD.mono s10.keep _ _ hv) .nil)))
  have w11:WOk C (upd (upd H9 t (.tup [.str p.1,v])) fa (.lst (us8 ++ [.ref t]))) wx dw r wl (Itm.row (.f p)).length (Itm.row (.f p)):=by
   have e:2 + (wR p.2).length=(Itm.row (.f p)).length:=by show _=(wR p.2).length + 1 + 1;omega
   rw [e] at w9
   exact(w9.same s10).upd hf10 (fun z=>hwl (by rw [← z];simp))
  exact⟨_,rfl,wx,dw,_,rfl,w11.1,rfl,wx,dw,r,wl,Itm.row _,rfl,w11,q _ _ (R11)⟩
end
abbrev a9l:Stmt:=inClass (top 22) 0
theorem d3k:FnScope ["self"] ["self"] (a0h a9l):=⟨rfl,rfl,rfl,by decide +kernel,rfl,by decide +kernel,by decide +kernel⟩
abbrev b1r:Stmt:=inClass (top 22) 1
theorem c4j:FnScope ["self","deeds"] ["self"] (a0h b1r):=⟨rfl,rfl,rfl,by decide +kernel,rfl,by decide +kernel,by decide +kernel⟩
noncomputable def S0:Sta:=⟨"",[],[],[],[]⟩
def b8d(K:W.Frag)(CW:Addr):Sp:=fun vs H Q _=>∃ (x dx:Addr),vs=[.ref x]/\H x=some (.ins CW dx [])/\∀ bo se de fa H',(∀ H0,Same H0 (fun a=>if a=x then none else H a)->H0 x=none->RS K CW H0 H' x dx bo se de fa [] S0)->Q .non H'
def c2c(K:W.Frag)(CW:Addr):Sp:=fun vs H Q _=>∃ (H0:Hp) (x dx bo se de fa:Addr) (cs:List DC) (S:Sta),vs=[.ref x]/\RS K CW H0 H x dx bo se de fa cs S/\S.ds.length <= 60/\∀ v H',Same H H'->AtD K H' (fun _=>False) (encM S.bs S.hs S.ds S.fs) v->Q v H'
abbrev tupR(K:W.Frag):List V->Hp->VK->Prop:=fun xs H Q=>∃ p ys,xs=[.ref p]/\((SqL K H p ys/\∀ l,H l=none->Q (.ref l) (upd H l (.tup ys))) ∨ (SqT K H p ys/\Q (.ref p) H))
theorem b4v{H:Hp}{x CW dx a:Addr}{fs fs':List (Str × V)}(hx:H x=some (.ins CW dx fs))(ha:H a=none):a ≠ x/\(upd (upd H a (.lst [])) x (.ins CW dx fs')) a=some (.lst [])/\∀ c o,c ≠ x->H c=some o->(upd (upd H a (.lst [])) x (.ins CW dx fs')) c=some o:=by
 have n:a ≠ x:=fun z=>by rw [z,hx] at ha;cases ha
 exact⟨n,by rw [a0f n,a0e],fun c o nc e=>by rw [a0f nc,a0f (fun z=>by rw [z,ha] at e;cases e)];exact e⟩
section
variable{P:Program}{w:World}{K:W.Frag}{mg:Str->Option Value}{base:Heap}{n:Nat}{C CW:Addr}
theorem d3l{f:Addr}{fd:FuncData} (F:Fun K "__init__" "MachineReading.__init__" a9l f fd) (RF:RdF K mg CW):FnOk P w K mg base CX0 (n + 1) f fd ["self"] (b8d K CW):=by
 refine F.ok d3k (fun vs H Q E h=>?_) (fun cdv A outer s H vs Q E hr h=>?_)
 ·obtain⟨x,dx,rfl,_⟩:=h
  rfl
 obtain⟨x,dx,rfl,hx,q⟩:=h
 refine⟨_,a0o (a4j (pv 0) a2y rfl) (a0o (a4j (pv 0) (a7b a0i) rfl) (a0o (a4j (pv 0) (a7b a0i) rfl) (a0o (a4j (pv 0) (a7b a0i) rfl) (a0o (a4j (pv 0) (a7b a0i) rfl) (a0s (a4j (pv 0) a0v rfl)))))),?_⟩
 refine⟨_,rfl,x,CW,dx,[],rfl,hx,RF.cl,RF.n1,by decide,?_⟩
 obtain⟨H1,e1⟩:∃ H1,H1=upd H x (.ins CW dx (putF "latest" (.str "") [])):=⟨_,rfl⟩
 rw [← e1]
 have x1:H1 x=some (.ins CW dx (putF "latest" (.str "") [])):=by rw [e1,a0e]
 have b1:∀ c o,c ≠ x->H c=some o->H1 c=some o:=fun c o n e=>by rw [e1,a0f n];exact e
 refine⟨(show(0:Nat) <= sizeLine by decide),fun bo hbo=>⟨_,rfl,x,CW,dx,_,rfl,a0m hbo _ _ _ x1,RF.cl,RF.n2,(show(1:Nat) < 1000 by decide),?_⟩⟩
 obtain⟨n2,l2,k2⟩:=b4v (fs':=putF "boxes" (.ref bo) (putF "latest" (.str "") [])) x1 hbo
 obtain⟨H2,e2⟩:∃ H2,H2=upd (upd H1 bo (.lst [])) x (.ins CW dx (putF "boxes" (.ref bo) (putF "latest" (.str "") []))):=⟨_,rfl⟩
 have x2:H2 x=some (.ins CW dx (putF "boxes" (.ref bo) (putF "latest" (.str "") []))):=by rw [e2,a0e]
 rw [← e2] at l2 k2 ⊢
 refine⟨(show(0:Nat) <= sizeLine by decide),fun se hse=>⟨_,rfl,x,CW,dx,_,rfl,a0m hse _ _ _ x2,RF.cl,RF.n3,(show(2:Nat) < 1000 by decide),?_⟩⟩
 obtain⟨n3,l3,k3⟩:=b4v (fs':=putF "seers" (.ref se) (putF "boxes" (.ref bo) (putF "latest" (.str "") []))) x2 hse
 obtain⟨H3,e3⟩:∃ H3,H3=upd (upd H2 se (.lst [])) x (.ins CW dx (putF "seers" (.ref se) (putF "boxes" (.ref bo) (putF "latest" (.str "") [])))):=⟨_,rfl⟩
 have x3:H3 x=some (.ins CW dx (putF "seers" (.ref se) (putF "boxes" (.ref bo) (putF "latest" (.str "") [])))):=by rw [e3,a0e]
 rw [← e3] at l3 k3 ⊢
 refine⟨(show(0:Nat) <= sizeLine by decide),fun de hde=>⟨_,rfl,x,CW,dx,_,rfl,a0m hde _ _ _ x3,RF.cl,RF.n4,(show(3:Nat) < 1000 by decide),?_⟩⟩
 obtain⟨n4,l4,k4⟩:=b4v (fs':=putF "deeds" (.ref de) (putF "seers" (.ref se) (putF "boxes" (.ref bo) (putF "latest" (.str "") [])))) x3 hde
 obtain⟨H4,e4⟩:∃ H4,H4=upd (upd H3 de (.lst [])) x (.ins CW dx (putF "deeds" (.ref de) (putF "seers" (.ref se) (putF "boxes" (.ref bo) (putF "latest" (.str "") []))))):=⟨_,rfl⟩
 have x4:H4 x=some (.ins CW dx (putF "deeds" (.ref de) (putF "seers" (.ref se) (putF "boxes" (.ref bo) (putF "latest" (.str "") []))))):=by rw [e4,a0e]
 rw [← e4] at l4 k4 ⊢
 refine⟨(show(0:Nat) <= sizeLine by decide),fun fa hfa=>⟨_,rfl,x,CW,dx,_,rfl,a0m hfa _ _ _ x4,RF.cl,RF.n5,(show(4:Nat) < 1000 by decide),?_⟩⟩
 obtain⟨n5,l5,k5⟩:=b4v (fs':=putF "facts" (.ref fa) (putF "deeds" (.ref de) (putF "seers" (.ref se) (putF "boxes" (.ref bo) (putF "latest" (.str "") []))))) x4 hfa
 obtain⟨H5,e5⟩:∃ H5,H5=upd (upd H4 fa (.lst [])) x (.ins CW dx (putF "facts" (.ref fa) (putF "deeds" (.ref de) (putF "seers" (.ref se) (putF "boxes" (.ref bo) (putF "latest" (.str "") [])))))):=⟨_,rfl⟩
 have x5:H5 x=some (.ins CW dx (putF "facts" (.ref fa) (putF "deeds" (.ref de) (putF "seers" (.ref se) (putF "boxes" (.ref bo) (putF "latest" (.str "") [])))))):=by rw [e5,a0e]
 rw [← e5] at l5 k5 ⊢
 refine⟨_,rfl,x,CW,dx,_,rfl,x5,RF.cl,RF.n6,(show(5:Nat) < 1000 by decide),?_⟩
 have fr:∀ {a:Addr} {Hk:Hp},a ≠ x->Hk a=none->(∀ c o,c ≠ x->H c=some o->Hk c=some o)->H a=none:=fun{a Hk} n e k=>by
  cases q:H a with
  | none=>rfl
  | some o=>rw [k a o n q] at e;cases e
 have B1:=b1
 have B2:∀ c o,c ≠ x->H c=some o->H2 c=some o:=fun c o n e=>k2 c o n (B1 c o n e)
 have B3:∀ c o,c ≠ x->H c=some o->H3 c=some o:=fun c o n e=>k3 c o n (B2 c o n e)
 have B4:∀ c o,c ≠ x->H c=some o->H4 c=some o:=fun c o n e=>k4 c o n (B3 c o n e)
 have f2:=fr n2 hbo B1
 have f3:=fr n3 hse B2
 have f4:=fr n4 hde B3
 have f5:=fr n5 hfa B4
 have d1:bo ≠ se:=fun z=>by rw [← z,l2] at hse;cases hse
 have d2:bo ≠ de:=fun z=>by rw [← z,k3 _ _ n2 l2] at hde;cases hde
 have d3:bo ≠ fa:=fun z=>by rw [← z,k4 _ _ n2 (k3 _ _ n2 l2)] at hfa;cases hfa
 have d4:se ≠ de:=fun z=>by rw [← z,l3] at hde;cases hde
 have d5:se ≠ fa:=fun z=>by rw [← z,k4 _ _ n3 l3] at hfa;cases hfa
 have d6:de ≠ fa:=fun z=>by rw [← z,l4] at hfa;cases hfa
 have up:∀ {a:Addr} {o:HO},a ≠ x->H5 a=some o->(upd H5 x (.ins CW dx (putF "left" (.int 0) (putF "facts" (.ref fa) (putF "deeds" (.ref de) (putF "seers" (.ref se) (putF "boxes" (.ref bo) (putF "latest" (.str "") [])))))))) a=some o:=fun n e=>by rw [a0f n];exact e
 refine q bo se de fa _ fun H0 s0 h0=>?_
 have none0:∀ a,a ≠ x->H a=none->H0 a=none:=fun a n e=>by
  cases q:H0 a with
  | none=>rfl
  | some o=>have:=s0 _ _ q;simp only [if_neg n] at this;rw [e] at this;cases this
 refine⟨⟨0,by rw [a0e];rfl⟩,⟨[],up n2 (k5 _ _ n2 (k4 _ _ n2 (k3 _ _ n2 l2))),.nil⟩,⟨[],up n3 (k5 _ _ n3 (k4 _ _ n3 l3)),.nil⟩,⟨[],up n5 l5,.nil⟩,rfl,up n4 (k5 _ _ n4 l4),(fun c hc=>by cases hc),by simp [own,d1,d2,d3,d4,d5,d6],fun c o e=>?_,fun a ha=>?_⟩
 ·have nc:c ≠ x:=fun z=>by rw [z,h0] at e;cases e
  have:=s0 _ _ e
  simp only [if_neg nc] at this
  exact up nc (k5 _ _ nc (B4 _ _ nc this))
 ·simp only [own,map_nil,mem_cons,not_mem_nil,or_false] at ha
  rcases ha with rfl | rfl | rfl | rfl | rfl
  ·exact h0
  ·exact none0 _ n2 f2
  ·exact none0 _ n3 f3
  ·exact none0 _ n4 f4
  ·exact none0 _ n5 f5
theorem d9w{f:Addr}{fd:FuncData} (F:Fun K "told_machine" "MachineReading.told_machine" b1r f fd) (B:Bl mg) (RF:RdF K mg CW):FnOk P w K mg base CX0 (n + 1) f fd ["self"] (c2c K CW):=by
 refine F.ok c4j (fun vs H Q E h=>?_) (fun cdv A outer s H vs Q E hr h=>?_)
 ·obtain⟨H0,x,dx,bo,se,de,fa,cs,S,rfl,_⟩:=h
  rfl
 obtain⟨H0,x,dx,bo,se,de,fa,cs,S,rfl,R,dl,q⟩:=h
 obtain⟨l,ob⟩:=R.ob
 obtain⟨ub,hb,ab⟩:=R.hb
 obtain⟨uh,hh,ah⟩:=R.hh
 obtain⟨uf,hf,af⟩:=R.hf
 have lc:=congrArg List.length R.hD
 rw [length_map] at lc
 refine⟨_,a0o (c3i (i:=1) c4j.nd rfl rfl rfl (own:=["deed"]) (cap:=[]) (by rfl) (by decide +kernel) (b7h (a1h (pv 0) (by rfl))) (fun _ _ _=>a9c (i:=0) (show(["deed"]:List Str).Nodup by decide +kernel) rfl (Or.inl rfl)) (fun _ _ _=>b4f)
   (fun _ _ _=>b5s (K':=K) (fun K=>tTup (a3q (tOp (rIxT K) (tVar 0) (tC (.int 0))) (a3q (tCB (tupR K) (a3q (tOp (rIxT K) (tVar 0) (tC (.int 1))) tNil)) tNil))) (a4y (a0c (a3f a8k (pv 0) a0v (fun _ _=>rfl)) (a0c (a2t a1f rfl B.tuple_ a1v (a0c (a3f a8k (pv 0) a0v (fun _ _=>rfl)) a0i)) a0i))) rfl))
  (a0s (a1p (a4y (a0c (a2t a1f rfl B.tuple_ a1v (a0c (a1h (pv 0) rfl) a0i)) (a0c (a2t a1f rfl B.tuple_ a1v (a0c (a1h (pv 0) rfl) a0i)) (a0c (a2t a1f rfl B.tuple_ a1v (a0c (pv 1) a0i)) (a0c (a2t a1f rfl B.tuple_ a1v (a0c (a1h (pv 0) rfl) a0i)) a0i))))))),?_⟩
 refine⟨_,rfl,x,CW,dx,_,_,rfl,ob,RF.cl,RF.n4,rfl,de,rfl,⟨_,SqL.of R.hde⟩,fun D0 hD0=>?_⟩
 refine b3g (b3f (xs:=cs.map fun c=>V.ref c.t) (fun i σ2 H6=>∃ u vs,σ2=[u]/\Same H H6/\H6 D0=some (.lst vs)/\a0b K H6 (fun _=>False) ((S.ds.take i).map encD) vs) ⟨none,[],rfl,a0m hD0 _,a0e,.nil⟩ (fun i σ2 H6 _ h=>by obtain⟨_,_,_,s,_⟩:=h;exact SqL.of (s _ _ R.hde)) ?_ ?_)
 ·rintro i y σ2 H6 hy ⟨u,vs,rfl,s6,hD6,av⟩
  rw [getElem?_map] at hy
  obtain⟨c,hc,rfl⟩:=map_eq_some_iff.mp hy
  have il:=(List.getElem?_eq_some_iff.mp hc).1
  have ck:=R.hok c (mem_of_getElem? hc)
  have hd:S.ds[i]? = some c.d:=by rw [R.hD,getElem?_map,hc];rfl
  dsimp only [a4p,tYes]
  rw [if_pos rfl]
  have lv:=av.length
  rw [length_map,length_take] at lv
  refine⟨_,rfl,c.t,_,0,c.g,rfl,rfl,SqT.of (s6 _ _ ck.ht),b4m,_,rfl,c.t,_,1,.ref c.l,rfl,rfl,SqT.of (s6 _ _ ck.ht),a4k (j:=1) rfl,c.l,c.ls,rfl,.inl ⟨SqL.of (s6 _ _ ck.hl),fun l1 hl1=>?_⟩⟩
  have t1:=a0m hl1 (.tup c.ls)
  refine⟨(show(2:Nat) <= sizeLine by decide),fun t ht=>?_⟩
  have t2:=a0m ht (.tup [c.g,.ref l1])
  have s12:=t1.trans t2
  have hD7:=s12 _ _ hD6
  have hat:AtD K (upd (upd H6 l1 (.tup c.ls)) t (.tup [c.g,.ref l1])) (fun _=>False) (encD c.d) (.ref t):=a1k (SqT.of a0e) (.cons (AtD.mono (s6.trans s12).keep _ _ ck.hg) (.cons (a1k (SqT.of (t2 _ _ a0e)) (a0b.mono (s6.trans s12).keep _ _ ck.ha)) .nil))
  have kp:=b5v (o':=.lst (vs ++ [.ref t])) hD7 (fun _ e=>nomatch e) (fun _ _ e=>nomatch e)
  refine⟨vs,hD7,by rw [lv,sizeLine_eq];omega,_,_,rfl,fun c o e=>?_,a0e,?_⟩
  ·rw [a0f (fun z=>by rw [z,hD0] at e;cases e)];exact(s6.trans s12) _ _ e
  ·rw [take_add_one,hd,toList_some,map_append]
   exact(a0b.mono (s12.keep.trans kp) _ _ av).append (.cons (AtD.mono kp _ _ hat) .nil)
 ·rintro σ2 H6 ⟨u,vs,rfl,s6,hD6,av⟩
  rw [length_map,← lc,take_length] at av
  refine⟨_,rfl,x,CW,dx,_,_,rfl,s6 _ _ ob,RF.cl,RF.n2,rfl,bo,_,rfl,.inl ⟨SqL.of (s6 _ _ hb),fun l1 hl1=>?_⟩⟩
  have s1:=a0m hl1 (.tup ub)
  refine⟨_,rfl,x,CW,dx,_,_,rfl,(s6.trans s1) _ _ ob,RF.cl,RF.n3,rfl,se,_,rfl,.inl ⟨SqL.of ((s6.trans s1) _ _ hh),fun l2 hl2=>?_⟩⟩
  have s2:=a0m hl2 (.tup uh)
  refine⟨_,rfl,D0,_,rfl,.inl ⟨SqL.of ((s1.trans s2) _ _ hD6),fun l3 hl3=>?_⟩⟩
  have s3:=a0m hl3 (.tup vs)
  have s123:=s1.trans (s2.trans s3)
  refine⟨_,rfl,x,CW,dx,_,_,rfl,(s6.trans s123) _ _ ob,RF.cl,RF.n5,rfl,fa,_,rfl,.inl ⟨SqL.of ((s6.trans s123) _ _ hf),fun l4 hl4=>?_⟩⟩
  have s4:=a0m hl4 (.tup uf)
  refine⟨(show(4:Nat) <= sizeLine by decide),fun l5 hl5=>?_⟩
  have s5:=a0m hl5 (.tup [.ref l1,.ref l2,.ref l3,.ref l4])
  have sA:=s123.trans (s4.trans s5)
  refine q (.ref l5) _ (s6.trans sA) (a1k (SqT.of a0e) (.cons ?_ (.cons ?_ (.cons ?_ (.cons ?_ .nil)))))
  ·exact a1k (SqT.of ((s2.trans (s3.trans (s4.trans s5))) _ _ a0e)) (a0b.mono (s6.trans sA).keep _ _ ab)
  ·exact a1k (SqT.of ((s3.trans (s4.trans s5)) _ _ a0e)) (a0b.mono (s6.trans sA).keep _ _ ah)
  ·exact a1k (SqT.of ((s4.trans s5) _ _ a0e)) (a0b.mono sA.keep _ _ av)
  ·exact a1k (SqT.of (s5 _ _ a0e)) (a0b.mono (s6.trans sA).keep _ _ af)
end
section
variable{K:W.Frag}{a:Addr}{xs:List V}{g:TG}{tb:TS}{D:Ends}{σ:St}{H:Hp}
abbrev d4x(J:It)(g:TG)(tb:TS)(D:Ends)(σ:St)(H:Hp):Prop:=∃ W:Nat->Nat->St->Hp->Prop,(∃ m,W 0 m σ H)/\∀ i m σ H,W i m σ H ->
   (J.stop i H/\D.nx σ H) ∨ (J.go i H/\∃ N:St->Hp->Prop,(∀ σ' H',N σ' H'->∃ m',m' < m/\W (i + 1) m' σ' H')/\∀ x H',J.yld i H x H'->g x σ H' fun σ2 H2=>tb { D with nx:=N,ct:=N,bk:=D.nx } σ2 H2)
theorem for_J{J:It}{n:Nat}(Pv:Nat->St->Hp->Prop)(h0:Pv 0 σ H)(h1:∀ i σ H,i < n->Pv i σ H->J.go i H)(h2:∀ σ H,Pv n σ H->J.stop n H)
  (hs:∀ i x σ H H',i < n->Pv i σ H->J.yld i H x H'->g x σ H' fun σ2 H2=>tb { D with nx:=Pv (i + 1),ct:=Pv (i + 1),bk:=D.nx } σ2 H2) (hd:∀ σ H,Pv n σ H->D.nx σ H):d4x J g tb D σ H:=by
 refine⟨fun i m σ H=>m=n - i/\i <= n/\Pv i σ H,⟨n,by simp,zero_le _,h0⟩,?_⟩
 rintro i m σ H ⟨rfl,hi,p⟩
 by_cases hlt:i < n
 ·exact .inr ⟨h1 i σ H hlt p,Pv (i + 1),fun σ' H' p'=>⟨n - (i + 1),by omega,rfl,hlt,p'⟩,fun x H' y=>hs i x σ H H' hlt p y⟩
 ·have e:i=n:=by omega
  subst e
  exact .inl ⟨h2 σ H p,hd σ H p⟩
end
theorem c2d{α:Type}(g:α->Str × PyData)(f:α->Str)(hg:∀ a,(g a).1=f a)(l:List α):lstN (l.map g)=((l.map f).getLast?).getD "":=by
 unfold lstN
 rw [List.getLast?_map,List.getLast?_map,Option.map_map]
 congr 1
 exact congrArg (fun h=>Option.map h _) (funext hg)
noncomputable def dItm(d:Deed):List Itm:=.d d.g :: d.lays.map .l
noncomputable def itms(bs:List Box)(hs:List (Str × List Str))(ds:List Deed)(fs:List (Str × Rk)):List Itm:=bs.map .b ++ (hs.map .h ++ (ds.flatMap dItm ++ fs.map .f))
theorem d0d(bs:List Box)(hs:List (Str × List Str))(ds:List Deed)(fs:List (Str × Rk)):(itms bs hs ds fs).map Itm.row=a4c bs hs ds fs:=by
 unfold itms a4c
 rw [map_append,map_append,map_append,map_map,map_map,map_map]
 have e:(ds.flatMap dItm).map Itm.row=ds.flatMap a6p:=by
  rw [List.map_flatMap]
  congr 1
  funext d
  show(Itm.row _ :: (d.lays.map .l).map Itm.row)=_
  rw [map_map];rfl
 rw [e];rfl
noncomputable def stA(S:Sta)(its:List Itm):Sta:=its.foldl Sta.nx S
noncomputable def Runs:Sta->List Itm->Prop
 | _,[]=>True
 | S,i :: r=>S.ok i/\S.bs.length <= 10/\Runs (S.nx i) r
theorem Runs.app:∀ {a b:List Itm} {S:Sta},Runs S a->Runs (stA S a) b->Runs S (a ++ b)
 | [],_,_,_,h=>h
 | i :: r,b,S,h,h2=>⟨h.1,h.2.1,Runs.app (a:=r) (S:=S.nx i) h.2.2 h2⟩
theorem b1s(S:Sta)(a b:List Itm):stA S (a ++ b)=stA (stA S a) b:=List.foldl_append
theorem Runs.at:∀ {its:List Itm} {S:Sta} {k:Nat} {i:Itm},Runs S its->its[k]? = some i->(stA S (its.take k)).ok i/\(stA S (its.take k)).bs.length <= 10
 | [],_,_,_,_,e=>by simp at e
 | j :: r,S,0,i,h,e=>by cases e;exact⟨h.1,h.2.1⟩
 | j :: r,S,k + 1,i,h,e=>Runs.at (its:=r) (S:=S.nx j) h.2.2 e
theorem d4y:∀ (bs bs0:List Box) (la:Str),la ∈ (["","box"]:List Str)->((bs0 ++ bs).map (·.nm)).Nodup->(∀ b ∈ bs,a0u b.nm=true/\GoodB b)->(bs0 ++ bs).length <= 4->Runs ⟨la,bs0,[],[],[]⟩ (bs.map .b)/\stA ⟨la,bs0,[],[],[]⟩ (bs.map .b)=⟨if bs=[] then la else "box",bs0 ++ bs,[],[],[]⟩
 | [],bs0,la,_,_,_,_=>⟨trivial,by rw [append_nil,if_pos rfl];rfl⟩
 | b :: r,bs0,la,hla,nd,ok,hl=>by
  have e:bs0 ++ b :: r=(bs0 ++ [b]) ++ r:=by simp
  obtain⟨h1,h3⟩:=d4y r (bs0 ++ [b]) "box" (by simp) (by rw [← e];exact nd) (fun x hx=>ok x (mem_cons_of_mem _ hx)) (by rw [← e];exact hl)
  obtain⟨o1,o2⟩:=ok b (by simp)
  have hnm:b.nm ∉ bs0.map (·.nm):=fun m=>by
   rw [map_append] at nd
   exact(nodup_append.mp nd).2.2 _ m _ (by simp) rfl
  rw [length_append,length_cons] at hl
  refine⟨⟨⟨hla,o1,hnm,o2,by show bs0.length < 6;omega⟩,by show bs0.length <= 10;omega,h1⟩,?_⟩
  show stA ⟨"box",bs0 ++ [b],[],[],[]⟩ (r.map .b)=_
  rw [h3,e,if_neg (cons_ne_nil _ _),ite_self]
theorem c4k{l0 l:List Str}{z:Str} (h:a3c "" (l0 ++ z :: l)=true):leC z (l0.getLast?.getD "")=false:=by
 have:=b3s (k:=l0.length) (x:=z) h (by rw [getElem?_append_right (le_refl _),Nat.sub_self];rfl)
 rw [List.take_append_of_le_length (le_refl _),take_length] at this
 exact this
theorem d4z(bs:List Box)(hbl:bs.length <= 10):∀ (hs hs0:List (Str × List Str)) (la:Str),la ∈ (["box","hand"]:List Str)->a3c "" ((hs0 ++ hs).map Prod.fst)=true->(∀ p ∈ hs,GoodH (bs.map (·.nm)) p)->(hs0 ++ hs).length <= 4->Runs ⟨la,bs,hs0,[],[]⟩ (hs.map .h)/\∃ la' ∈ (["box","hand"]:List Str),stA ⟨la,bs,hs0,[],[]⟩ (hs.map .h)=⟨la',bs,hs0 ++ hs,[],[]⟩
 | [],hs0,la,hla,_,_,_=>⟨trivial,la,hla,by rw [append_nil];rfl⟩
 | p :: r,hs0,la,hla,rs,ok,hl=>by
  have e:hs0 ++ p :: r=(hs0 ++ [p]) ++ r:=by simp
  obtain⟨h1,la',h2,h3⟩:=d4z bs hbl r (hs0 ++ [p]) "hand" (by simp) (by rw [← e];exact rs) (fun x hx=>ok x (mem_cons_of_mem _ hx)) (by rw [← e];exact hl)
  have g:=ok p (by simp)
  rw [length_append,length_cons] at hl
  rw [map_append,map_cons] at rs
  have hn:=b2m rs p.1 (by simp)
  have hlt:=c4k rs
  refine⟨⟨⟨hla,hn,by rw [c2d prH Prod.fst (fun _=>rfl)];exact hlt,g.r,g.m,by have:=g.n;omega,by show hs0.length < 4;omega⟩,hbl,h1⟩,la',h2,?_⟩
  show stA ⟨"hand",bs,hs0 ++ [p],[],[]⟩ (r.map .h)=_
  rw [h3,e]
theorem d5a(bs:List Box)(hbl:bs.length <= 10)(hs:List (Str × List Str))(ds0:List Deed)(g:Rk):∀ (ls ls0:List (Str × Rk)) (la:Str),la ∈ (["deed","lay"]:List Str)->((ls0 ++ ls).map Prod.fst).Nodup->(∀ p ∈ ls,OkR (bs.map (·.nm)) p.2/\p.1 ∈ bs.map (·.nm))->(ls0 ++ ls).length <= 4->Runs ⟨la,bs,hs,ds0 ++ [⟨g,ls0⟩],[]⟩ (ls.map .l)/\∃ la' ∈ (["deed","lay"]:List Str),stA ⟨la,bs,hs,ds0 ++ [⟨g,ls0⟩],[]⟩ (ls.map .l)=⟨la',bs,hs,ds0 ++ [⟨g,ls0 ++ ls⟩],[]⟩
 | [],ls0,la,hla,_,_,_=>⟨trivial,la,hla,by rw [append_nil];rfl⟩
 | p :: r,ls0,la,hla,nd,ok,hl=>by
  have e:ls0 ++ p :: r=(ls0 ++ [p]) ++ r:=by simp
  obtain⟨h1,la',h2,h3⟩:=d5a bs hbl hs ds0 g r (ls0 ++ [p]) "lay" (by simp) (by rw [← e];exact nd) (fun x hx=>ok x (mem_cons_of_mem _ hx)) (by rw [← e];exact hl)
  obtain⟨g1,g2⟩:=ok p (by simp)
  have hnm:p.1 ∉ ls0.map Prod.fst:=fun m=>by
   rw [map_append] at nd
   exact(nodup_append.mp nd).2.2 _ m _ (by simp) rfl
  rw [length_append,length_cons] at hl
  have ea:Sta.nx ⟨la,bs,hs,ds0 ++ [⟨g,ls0⟩],[]⟩ (.l p)=⟨"lay",bs,hs,ds0 ++ [⟨g,ls0 ++ [p]⟩],[]⟩:=by show Sta.mk _ _ _ (b1q _ p) _=_;rw [b0t]
  refine⟨⟨⟨hla,g2,g1,ds0,⟨g,ls0⟩,rfl,hnm,by show ls0.length <= 10;omega⟩,hbl,by rw [ea];exact h1⟩,la',h2,?_⟩
  show stA (Sta.nx ⟨la,bs,hs,ds0 ++ [⟨g,ls0⟩],[]⟩ (.l p)) (r.map .l)=_
  rw [ea,h3,e]
theorem d5b(bs:List Box)(hbl:bs.length <= 10)(hs:List (Str × List Str)):∀ (ds ds0:List Deed) (la:Str),la ∈ (["box","hand","deed","lay"]:List Str)->(∀ d ∈ ds,GoodD (bs.map (·.nm)) d)->(ds0 ++ ds).length <= 7->Runs ⟨la,bs,hs,ds0,[]⟩ (ds.flatMap dItm)/\∃ la' ∈ (["box","hand","deed","lay"]:List Str),stA ⟨la,bs,hs,ds0,[]⟩ (ds.flatMap dItm)=⟨la',bs,hs,ds0 ++ ds,[]⟩
 | [],ds0,la,hla,_,_=>⟨trivial,la,hla,by rw [append_nil];rfl⟩
 | d :: r,ds0,la,hla,ok,hl=>by
  have g:=ok d (by simp)
  have e:ds0 ++ d :: r=(ds0 ++ [d]) ++ r:=by simp
  obtain⟨k1,lb,k2,k3⟩:=d5a bs hbl hs ds0 d.g d.lays [] "deed" (by simp) g.u (fun p hp=>⟨b0g (g.l p hp).1,(g.l p hp).2⟩) g.n
  rw [nil_append] at k3
  have hlb:lb ∈ (["box","hand","deed","lay"]:List Str):=by
   simp only [mem_cons,not_mem_nil,or_false] at k2 ⊢
   rcases k2 with h | h<;>simp [h]
  obtain⟨h1,la',h2,h3⟩:=d5b bs hbl hs r (ds0 ++ [d]) lb hlb (fun x hx=>ok x (mem_cons_of_mem _ hx)) (by rw [← e];exact hl)
  rw [length_append,length_cons] at hl
  have r1:Runs ⟨la,bs,hs,ds0,[]⟩ (dItm d):=⟨⟨hla,b0g g.g,by show ds0.length < 60;omega⟩,hbl,k1⟩
  have e1:stA ⟨la,bs,hs,ds0,[]⟩ (dItm d)=⟨lb,bs,hs,ds0 ++ [d],[]⟩:=k3
  rw [List.flatMap_cons]
  refine⟨r1.app (by rw [e1];exact h1),la',h2,?_⟩
  rw [b1s,e1,h3,e]
theorem d5c(bs:List Box)(hbl:bs.length <= 10)(hs:List (Str × List Str))(ds:List Deed):∀ (fs fs0:List (Str × Rk)) (la:Str),la ∈ (["box","hand","deed","lay","fact"]:List Str)->a3c "" ((fs0 ++ fs).map Prod.fst)=true->(∀ p ∈ fs,OkR (bs.map (·.nm)) p.2)->(fs0 ++ fs).length <= 5->Runs ⟨la,bs,hs,ds,fs0⟩ (fs.map .f)/\∃ la',stA ⟨la,bs,hs,ds,fs0⟩ (fs.map .f)=⟨la',bs,hs,ds,fs0 ++ fs⟩
 | [],fs0,la,hla,_,_,_=>⟨trivial,la,by rw [append_nil];rfl⟩
 | p :: r,fs0,la,hla,rs,ok,hl=>by
  have e:fs0 ++ p :: r=(fs0 ++ [p]) ++ r:=by simp
  obtain⟨h1,la',h3⟩:=d5c bs hbl hs ds r (fs0 ++ [p]) "fact" (by simp) (by rw [← e];exact rs) (fun x hx=>ok x (mem_cons_of_mem _ hx)) (by rw [← e];exact hl)
  have g:=ok p (by simp)
  rw [length_append,length_cons] at hl
  rw [map_append,map_cons] at rs
  have hn:=b2m rs p.1 (by simp)
  have hlt:=c4k rs
  refine⟨⟨⟨hla,hn,by rw [c2d prF Prod.fst (fun _=>rfl)];exact hlt,g,by show fs0.length < 8;omega⟩,hbl,h1⟩,la',?_⟩
  show stA ⟨"fact",bs,hs,ds,fs0 ++ [p]⟩ (r.map .f)=_
  rw [h3,e]
theorem c2e{ss l:List Str}(h:ss.Sublist l) (hl:a3c "" l=true):a3c "" ss=true:=by
 have ok:=b2m hl
 rw [b2l _ _ fun z hz=>ok z (h.subset hz)]
 rw [b2l _ _ ok] at hl
 exact hl.sublist (h.cons₂ _)
theorem d9x:a3c "" HN=true:=by decide +kernel
theorem d9y:a3c "" FN=true:=by decide +kernel
section
variable{ns:List Str}{bs:List Box}{hs:List (Str × List Str)}{ds:List Deed}{fs:List (Str × Rk)}
theorem GoodM.run(G:GoodM ns bs hs ds fs):Runs S0 (itms bs hs ds fs)/\∃ la,stA S0 (itms bs hs ds fs)=⟨la,bs,hs,ds,fs⟩:=by
 obtain⟨bl,bp,hl,dl,fl⟩:=G.bl
 have bn:=G.bn
 subst bn
 have hne:bs ≠ []:=fun e=>by rw [e] at bp;simp at bp
 obtain⟨a1,a3⟩:=d4y bs [] "" (by simp) G.nd (fun b hb=>⟨(G.fB hb).1,G.b b hb⟩) bl
 rw [if_neg hne] at a3
 obtain⟨b1,lb,b2,b3⟩:=d4z bs (by omega) hs [] "box" (by simp) (c2e G.hn d9x) G.h hl
 have hlb:lb ∈ (["box","hand","deed","lay"]:List Str):=by
  simp only [mem_cons,not_mem_nil,or_false] at b2 ⊢
  rcases b2 with h | h<;>simp [h]
 obtain⟨c1,lc,c2,c3⟩:=d5b bs (by omega) hs ds [] lb hlb G.d dl
 have hlc:lc ∈ (["box","hand","deed","lay","fact"]:List Str):=by
  simp only [mem_cons,not_mem_nil,or_false] at c2 ⊢
  rcases c2 with h | h | h | h<;>simp [h]
 obtain⟨d1,ld,d3⟩:=d5c bs (by omega) hs ds fs [] lc hlc (c2e G.fn d9y) (fun p hp=>(G.fF hp).2.1) fl
 rw [nil_append] at a3 b3 c3 d3
 have a3:stA S0 (bs.map .b)=⟨"box",bs,[],[],[]⟩:=a3
 unfold itms
 refine⟨a1.app ?_,ld,?_⟩
 ·show Runs (stA S0 (bs.map .b)) _
  rw [a3]
  refine b1.app ?_
  rw [b3]
  refine c1.app ?_
  rw [c3]
  exact d1
 ·rw [b1s,a3,b1s,b3,b1s,c3,d3]
def WdOk(z:Str):Prop:=(32:Nat) ∉ z.cps.toList/\∀ c ∈ z.cps.toList,c < 1114112
theorem b1t{z:Str}(h:a0u z=true):WdOk z:=by
 have:=(b0p (ns:=[z]) (r:=.box z) (fun s hs=>by cases mem_singleton.mp hs;exact h) (by show z ∈ [z];simp) z (by simp [wR])).2
 exact this
theorem GoodM.rowsOk(G:GoodM ns bs hs ds fs):∀ r ∈ a4c bs hs ds fs,r ≠ []/\Few r/\∀ z ∈ r,WdOk z:=fun r hr=>by
 have k:WdOk "box" /\ WdOk "hand" /\ WdOk "deed" /\ WdOk "lay" /\ WdOk "fact":=by unfold WdOk;decide +kernel
 obtain⟨k1,k2,k3,k4,k5⟩:=k
 have nw:∀ {v:Int},Nm v->WdOk (tx v):=fun h=>⟨h.sp,fun c hc=>by have:=h.tx.sg c hc;omega⟩
 have ow:∀ {q:Rk},OkR ns q->∀ z ∈ wR q,WdOk z:=fun h z hz=>(b0p G.ok h.k z hz).2
 unfold a4c at hr
 rcases mem_append.mp hr with hr | hr
 ·obtain⟨b,hb,rfl⟩:=mem_map.mp hr
  obtain⟨g1,g2,g3,g4,g5⟩:=G.fB hb
  refine⟨cons_ne_nil _ _,g5,fun z hz=>?_⟩
  simp only [rowB,mem_cons,not_mem_nil,or_false] at hz
  rcases hz with rfl | rfl | rfl | rfl | rfl
  ·exact k1
  ·exact b1t g1
  ·exact nw g2
  ·exact nw g3
  ·exact nw g4
 rcases mem_append.mp hr with hr | hr
 ·obtain⟨p,hp,rfl⟩:=mem_map.mp hr
  obtain⟨g1,g2,g3,g5⟩:=G.fH hp
  refine⟨cons_ne_nil _ _,g5,fun z hz=>?_⟩
  rcases mem_cons.mp hz with rfl | hz
  ·exact k2
  rcases mem_cons.mp hz with rfl | hz
  ·exact b1t g1
  ·exact b1t (g3 z hz)
 rcases mem_append.mp hr with hr | hr
 ·obtain⟨d,hd,hr⟩:=List.mem_flatMap.mp hr
  obtain⟨g1,g2,g3,g4⟩:=G.fD hd
  rcases mem_cons.mp hr with rfl | hr
  ·refine⟨cons_ne_nil _ _,g3,fun z hz=>?_⟩
   rcases mem_cons.mp hz with rfl | hz
   ·exact k3
   ·exact ow g1 z hz
  ·obtain⟨p,hp,rfl⟩:=mem_map.mp hr
   obtain⟨q1,q2,q3,q4⟩:=g4 p hp
   refine⟨cons_ne_nil _ _,q4,fun z hz=>?_⟩
   rcases mem_cons.mp hz with rfl | hz
   ·exact k4
   rcases mem_cons.mp hz with rfl | hz
   ·exact b1t q1
   ·exact ow q3 z hz
 ·obtain⟨p,hp,rfl⟩:=mem_map.mp hr
  obtain⟨q1,q3,q4⟩:=G.fF hp
  refine⟨cons_ne_nil _ _,q4,fun z hz=>?_⟩
  rcases mem_cons.mp hz with rfl | hz
  ·exact k5
  rcases mem_cons.mp hz with rfl | hz
  ·exact b1t q1
  ·exact ow q3 z hz
end
noncomputable def lbT(b:Bool)(ts:List Str):L:=if b=true then .bor (ts.map .str) else .d (.list (ts.map .str))
noncomputable def lbO(b:Bool)(ts:List Str):Option L:=if b=true then some (.bor (ts.map .str)) else none
def b8e:DSp:=fun ls Q=>∃ (b:Bool) (ns:List Str) (bs:List Box) (hs:List (Str × List Str)) (ds:List Deed) (fs:List (Str × Rk)),ls=[lbT b ((a4c bs hs ds fs).map rt)]/\GoodM ns bs hs ds fs/\Q (.d (encM bs hs ds fs)) [lbO b ((a4c bs hs ds fs).map rt)]
theorem d3m{K:W.Frag}{a:Addr}{xs:List V}{g:TG}{tb:TS}{D:Ends}{σ:St}{H:Hp}(Pv:Nat->St->Hp->Prop)(h0:Pv 0 σ H)(hl:∀ i σ H,Pv i σ H->SqL K H a xs)
  (hs:∀ i x σ H T,xs[i]? = some x->Pv i σ H->H T=none->g (.ref T) σ (upd H T (.tup [.int i,x])) fun σ2 H2=>tb { D with nx:=Pv (i + 1),ct:=Pv (i + 1),bk:=D.nx } σ2 H2) (hd:∀ σ H,Pv xs.length σ H->D.nx σ H):d4x (Ite K a) g tb D σ H:=
 for_J Pv h0 (fun i σ H h p=>⟨xs,xs[i],hl i σ H p,getElem?_eq_getElem h⟩) (fun σ H p=>⟨xs,hl _ σ H p,le_refl _⟩) (fun i x σ H H' h p y=>by obtain⟨T,x',rfl,hT,rfl,y⟩:=y;exact hs i x' σ _ T (y xs (hl i σ _ p)) p hT) hd
section
variable{P:Program}{w:World}{K:W.Frag}{mg:Str->Option Value}{base:Heap}{n:Nat}{C CW:Addr}
abbrev a6c:Stmt:=top 21
theorem a5n:FnScope ["rows","reading","number","row"] ["rows"] (a0h a6c):=⟨rfl,rfl,rfl,by decide +kernel,rfl,by decide +kernel,by decide +kernel⟩
theorem b7a{f f1 f2 f3 f4:Addr}{fd fd1 fd2 fd3 fd4:FuncData} (F:Fun K "read_machine" "read_machine" a6c f fd) (B:Bl mg) (TX:TxtF K mg C) (RF:RdF K mg CW)
  (M:Mk K C f1) (b_winit:Binds K fd1 ["self","row","text"] []) (g_winit:FnOk P w K mg base CX0 n f1 fd1 ["self","row","text"] (b7z C))
  (MW:Mk K CW f2) (b_minit:Binds K fd2 ["self"] []) (g_minit:FnOk P w K mg base CX0 n f2 fd2 ["self"] (b8d K CW))
  (m_rrow:Meth K CW "read_row" f3) (b_rrow:Binds K fd3 ["self","words"] []) (g_rrow:FnOk P w K mg base CX0 (n + 1) f3 fd3 ["self","words"] (c2b K C CW))
  (m_told:Meth K CW "told_machine" f4) (b_told:Binds K fd4 ["self"] []) (g_told:FnOk P w K mg base CX0 (n + 1) f4 fd4 ["self"] (c2c K CW)):FnOk P w K mg base CX0 (n + 2) f fd ["rows"] (spD K b8e):=by
 refine F.ok a5n (fun vs H Q E h=>?_) (fun cdv A outer s H vs Q E hr h=>?_)
 ·obtain⟨c,O,ls,Qd,h0,hP,hM,hA,hL,R,⟨b,ns,bs,hs,ds,fs,rfl,_⟩,fin⟩:=h
  have:=R.len
  simpa using this
 obtain⟨c,O,ls,Qd,h0,hP,hM,hA,hL,R,⟨b,ns,bs,hs,ds,fs,rfl,G,qd⟩,fin⟩:=h
 have hl2:vs.length=1:=by simpa using R.len
 obtain⟨v0,rfl⟩:∃ v0,vs=[v0]:=by
  rcases vs with _ | ⟨a,_ | ⟨_,_⟩⟩<;>simp at hl2
  exact⟨a,rfl⟩
 obtain⟨ta,xs,rfl,hta,axs⟩:∃ ta xs,v0=.ref ta/\H ta=some (.lst xs)/\a0b K H (live c O) (((a4c bs hs ds fs).map rt).map .str) xs:=by
  cases b with
  | false =>
   obtain⟨w0,e0,a0⟩:=R.dat 0 _ rfl
   obtain rfl:v0=w0:=Option.some.inj (Option.some.inj e0)
   obtain⟨tx,xs,rfl,_,htx,axs⟩:=a5b a0
   exact⟨tx,xs,rfl,htx,axs⟩
  | true =>
   obtain⟨p,vs,_,e0,hp,ha⟩:=R.bor 0 _ rfl
   obtain rfl:v0=.ref p:=Option.some.inj (Option.some.inj e0)
   exact⟨p,vs,rfl,hp,ha⟩
 have ex:=b8a axs
 subst ex
 refine⟨_,a0o (a4a (a2s a5k (a2l a1q rfl B.len_ a2z (a0c (pv 0) a0i)) a0v (a0r _)) b2r a3e)
  (a0o (a2j (i:=1) a5n.nd rfl (Or.inl rfl) (d0r MW g_minit hr rfl RF.mgC b_minit .nil a2x))
  (a0o (c7h PassesOwn.never rfl (d7o rfl B.enumerate_ (pv 0)) (c7e rfl (b5g (a9c (i:=2) a5n.nd rfl (Or.inl rfl)) (b5g (a9c (i:=3) a5n.nd rfl (Or.inl rfl)) c2x)))
   (a0s (a4d (a3v (pv 1) RF.cl m_rrow g_rrow hr b_rrow .nil a2x (a0c (d5n M g_winit hr rfl TX.mgC b_winit .nil a2x (a0c (pv 2) (a0c (pv 3) a0i))) a0i)))))
  (a0s (a1p (a9o (pv 1) RF.cl m_told g_told hr b_told .nil a2x))))),?_⟩
 have eR:=d0d bs hs ds fs
 obtain⟨run,la,eS⟩:=G.run
 obtain⟨bl,bp,_,dl,_⟩:=G.bl
 have eL:(((a4c bs hs ds fs).map rt).map V.str).length=(itms bs hs ds fs).length:=by rw [length_map,length_map,← eR,length_map]
 have lp:0 < (itms bs hs ds fs).length:=by unfold itms;rw [length_append,length_map];omega
 refine⟨_,rfl,ta,_,rfl,.inl (SqL.of hta),rfl,_,rfl,?_⟩
 rw [show decide (V.int ((((a4c bs hs ds fs).map rt).map V.str).length:Int)=V.int 0)=false from decide_eq_false fun e=>by injection e with e;rw [eL] at e;omega]
 refine iteF ?_
 refine fun x dx hx hdx ne=>?_
 refine⟨x,dx,rfl,a0e,fun bo se de fa H1 R1=>⟨rfl,?_⟩⟩
 have R1:=R1 H (fun a o e=>by
  have na:a ≠ x:=fun z=>by rw [z,hx] at e;cases e
  show(if a=x then none else _)=some o
  rw [if_neg na,a0f na,a0f (fun z=>by rw [z,hdx] at e;cases e)];exact e) hx
 refine⟨_,rfl,ta,_,rfl,SqL.of (R1.sm _ _ hta),?_⟩
 refine d3m (xs:=((a4c bs hs ds fs).map rt).map V.str) (fun i σ' H'=>∃ u2 u3 cs,σ'=[some (.ref ta),some (.ref x),u2,u3]/\RS K CW H H' x dx bo se de fa cs (stA S0 ((itms bs hs ds fs).take i))) ⟨none,none,[],rfl,R1⟩ (fun i σ' H' h=>by obtain⟨_,_,_,_,R'⟩:=h;exact SqL.of (R'.sm _ _ hta)) ?_ ?_
 ·rintro i y σ' H' T0 hy ⟨u2,u3,cs,rfl,R'⟩ hT0
  have sT:=a0m hT0 (.tup [.int (i:Int),y])
  refine⟨T0,_,rfl,SqT.of a0e,rfl,_,_,rfl,_,_,rfl,rfl,?_⟩
  rw [← eR,getElem?_map,getElem?_map,getElem?_map] at hy
  obtain⟨y1,hy1,rfl⟩:=map_eq_some_iff.mp hy
  obtain⟨y2,hy2,rfl⟩:=map_eq_some_iff.mp hy1
  obtain⟨it,hit,rfl⟩:=map_eq_some_iff.mp hy2
  obtain⟨ok,b10⟩:=run.at hit
  obtain⟨ne0,few,wd⟩:=G.rowsOk it.row (by rw [← eR];exact mem_map.mpr ⟨it,mem_of_getElem? hit,rfl⟩)
  have bk:=d9i ne0 fun z hz=>(wd z hz).1
  have ll:=few.len
  have RT:=R'.same sT
  obtain⟨lT,obT⟩:=RT.ob
  refine⟨_,rfl,x,dx,_,rfl,obT,rfl,_,rfl,_,rfl,fun wx dw hwx hdw ne2=>⟨wx,dw,_,rt it.row,rfl,a0e,by omega,fun wl H4 hwl b4 k4=>⟨rfl,?_⟩⟩⟩
  rw [bk] at k4
  have sb:Same (upd H' T0 (.tup [.int (i:Int),.str (rt it.row)])) (upd (upd (upd H' T0 (.tup [.int (i:Int),.str (rt it.row)])) dw (.own wx)) wx (.ins C dw [])):=(a0m hdw (.own wx)).trans (a0m (by rw [a0f (Ne.symm ne2)];exact hwx) _)
  have s4:Same (upd H' T0 (.tup [.int (i:Int),.str (rt it.row)])) H4:=fun a o e=>b4 a o (fun z=>by rw [z,hwx] at e;cases e) (sb _ _ e)
  have R4:=RT.same s4
  have hwx0:H wx=none:=by
   cases e:H wx with
   | none=>rfl
   | some o=>rw [RT.sm _ _ e] at hwx;cases hwx
  refine⟨H,x,dx,bo,se,de,fa,cs,_,wx,dw,_,wl,it,c.sa,c.ns,rfl,R4,k4,hwx0,fun m=>?_,ok,b10,R.sc,fun cs' H5 R5=>⟨_,_,cs',rfl,?_⟩⟩
  ·obtain⟨us,e⟩:=RT.lst _ m
   rw [sb _ _ e] at hwl
   cases hwl
  ·rw [take_add_one,hit,toList_some,b1s]
   exact R5
 ·rintro σ' H' ⟨u2,u3,cs,rfl,R'⟩
  rw [eL,take_length,eS] at R'
  obtain⟨l',ob'⟩:=R'.ob
  refine⟨_,rfl,x,dx,_,rfl,ob',rfl,H,x,dx,bo,se,de,fa,cs,_,rfl,R',by show ds.length <= 60;omega,fun v H9 s9 av=>?_⟩
  have en:AtD K H9 (live c O) (encM bs hs ds fs) v:=AtD.more (fun _ z=>z.elim) _ _ av
  cases b<;>exact fin (.d _) O _ _ _ _ qd ⟨R.grow (R'.sm.trans s9),en⟩
end
noncomputable def a3r:Nat->PyData->Prop
 | 0,_=>False
 | m + 1,d=>(∃ x:Int,d=.int x) ∨ (∃ s:Str,d=.str s) ∨ ∃ ds:List PyData,(d=.tuple ds ∨ d=.list ds)/\ds.length <= 1000/\∀ e ∈ ds,a3r m e
def b4w(m:Nat):DSp:=fun ls Q=>∃ d:PyData,ls=[.d d,.d d]/\a3r m d/\Q (.d (.bool true)) [none,none]
set_option hygiene false in
local macro_rules | `(tactic| walk_at "sg") => `(tactic| (
  refine⟨⟨by omega,by omega⟩,by simp [rngD];omega,?_⟩
  rw [show((ds.length:Int)).toNat=ds.length by omega]
  refine a3j (fun i ρ acc=>∃ (v0:Option L) (a b:L),ρ=[v0,some a,some b]/\(a=.d dd/\b=.d dd)/\acc=List.replicate i (.bool true)) ⟨none,_,_,rfl,⟨rfl,rfl⟩,rfl⟩ ?_ ?_
  ·rintro i x ρ acc N hx ⟨v0,a,b,rfl,⟨rfl,rfl⟩,rfl⟩ hN
   obtain⟨hi2,rfl⟩:=c1p hx
   rw [hdd]
   walk_at "dk"
   refine a4n (by omega) (by omega) fun d _ hd=>?_
   refine a4n (by omega) (by omega) fun d' _ hd'=>?_
   rw [hd] at hd'
   cases hd'
   rw [Int.toNat_natCast] at hd
   walk_at "dk"
   refine⟨d,rfl,hs d (mem_of_getElem? hd),?_⟩
   walk_at "dk"
   refine hN _ _ ⟨_,_,_,by rw [← hdd],⟨rfl,rfl⟩,?_⟩
   rw [List.replicate_succ']
  ·rintro ρ acc ⟨v0,a,b,rfl,⟨rfl,rfl⟩,rfl⟩
   rw [d7u,a0n]
   exact q))
section
variable{P:Program}{w:World}{K:W.Frag}{mg:Str->Option Value}{base:Heap}{n:Nat}
abbrev a7p:Stmt:=top 37
theorem c2q:FnScope ["_law_found","_law_due"] ["_law_found","_law_due"] (a0h a7p):=⟨rfl,rfl,rfl,by decide +kernel,rfl,by decide +kernel,by decide +kernel⟩
theorem d3n{f:Addr}{fd:FuncData} (F:Fun K "_law_same" "_law_same" a7p f fd) (B:Bl mg) (a3s:Def K mg "_law_same" a7p ["_law_found","_law_due"] f fd) {m:Nat}
  (a6d:FnOk P w K mg base CX0 n f fd ["_law_found","_law_due"] (spD K (b4w m))):FnOk P w K mg base CX0 (n + 1) f fd ["_law_found","_law_due"] (spD K (b4w (m + 1))):=by
 refine F.dok c2q (fun cdv A outer s H E hr ls Qd h=>?_) (fun ls Qd h=>by obtain⟨_,e,_⟩:=h;rw [e];rfl)
 obtain⟨d,rfl,hd,q⟩:=h
 refine⟨rfl,?_⟩
 refine⟨_,(a0j (a4b (a9w (e3s rfl B.isinstance_ rfl B.tuple_ a1v rfl rfl B.list_ a9d rfl (dv 1)))
  (a0j (a4b (DW.toT (b6k (a2o (b3m hr.units) b3l (a6n rfl B.isinstance_ rfl B.tuple_ a1v rfl (dv 0)) (a6n rfl B.isinstance_ rfl B.tuple_ a1v rfl (dv 1)) (a0r _)) (b3i (a2o (b3m hr.units) b3l (a6n rfl B.isinstance_ rfl B.list_ a9d rfl (dv 0)) (a6n rfl B.isinstance_ rfl B.list_ a9d rfl (dv 1)) (a0r _)))))
  (a0t (a1n b6g))
  a2g)
  (a0t (a1n (a9y (a7e (a3n hr.units) a3m (a3z a4h a9v rfl B.len_ a2z (a0a (dv 0) a0d)) (a3z a4h a9v rfl B.len_ a2z (a0a (dv 1) a0d)) (a0r _)) (a9x (a3z (c8r rfl) d7q rfl B.all_ c1a (a0a (a1i (a3w ["_law_k"] [("_law_found",0),("_law_due",1)] rfl (by rfl) (by decide +kernel) (a8o rfl B.range_ (a3z a4h a9v rfl B.len_ a2z (a0a (dv 1) a0d))) (fun _ _ _=>(a1e (i:=0) (show(["_law_k","_law_found","_law_due"]:List Str).Nodup by decide +kernel) rfl (Or.inl rfl))) (fun _ _ _=>a3g) (fun _ _ _=>(a0p [false,false] a3s a6d hr rfl (a0a (a1b a0w a1c (dv 1) (dv 0) (fun _ _=>rfl)) (a0a (a1b a0w a1c (dv 2) (dv 0) (fun _ _=>rfl)) a0d)))))) a0d)))))))
  a2g)
  (a0j (a4b (DW.toT (b6k (a2o e0l e3x (dv 1) e0w (a0r _)) (b3i (a9w (a6n rfl B.isinstance_ rfl B.bool_ b4g rfl (dv 1))))))
  (a0t (a1n (a9y (a7e (a3n hr.units) a3m (a6n rfl B.isinstance_ rfl B.bool_ b4g rfl (dv 0)) (a6n rfl B.isinstance_ rfl B.bool_ b4g rfl (dv 1)) (a0r _)) (a9x (a7e (a3n hr.units) a3m (dv 0) (dv 1) (a0r _))))))
  a2g)
  (a0j (a4b (a9w (a6n rfl B.isinstance_ rfl B.int_ b1a rfl (dv 1)))
  (a0t (a1n (a9y (a6n rfl B.isinstance_ rfl B.int_ b1a rfl (dv 0)) (a9y (e1h (a6n rfl B.isinstance_ rfl B.bool_ b4g rfl (dv 0))) (a9x (a7e (a3n hr.units) a3m (dv 0) (dv 1) (a0r _)))))))
  a2g)
  (a0t (a1n (a9y (a6n rfl B.isinstance_ rfl B.str_ a8l rfl (dv 0)) (a9x (a7e (a3n hr.units) a3m (dv 0) (dv 1) (a0r _))))))))),?_⟩
 rcases hd with⟨x,rfl⟩ | ⟨x,rfl⟩ | ⟨ds,hdd,hl,hs⟩
 ·walk_at "dk"
  rw [show(isD "tuple" (.int x) || isD "list" (.int x))=false from rfl]
  walk_at "dk"
  rw [show isD "bool" (.int x)=false from rfl]
  walk_at "dk"
  try rw [show isD "int" (.int x)=true from rfl]
  walk_at "dk"
  rw [show(!isD "bool" (.int x))=true from rfl,if_pos rfl]
  exact q
 ·walk_at "dk"
  rw [show(isD "tuple" (.str x) || isD "list" (.str x))=false from rfl]
  walk_at "dk"
  rw [show isD "bool" (.str x)=false from rfl]
  walk_at "dk"
  rw [show a5z (.str x)=false from rfl]
  refine iteF ?_
  walk_at "dk"
  rw [show isD "int" (.str x)=false from rfl]
  walk_at "dk"
  try rw [show isD "str" (.str x)=true from rfl]
  try walk_at "dk"
  exact q
 ·rcases hdd with rfl | rfl
  ·obtain⟨dd,hdd⟩:∃ dd,dd=PyData.tuple ds:=⟨_,rfl⟩
   walk_at "dk"
   rw [show(isD "tuple" (.tuple ds) || isD "list" (.tuple ds))=true from rfl]
   walk_at "dk"
   try rw [show isD "tuple" (.tuple ds)=true from rfl]
   try walk_at "dk"
   try rw [show isD "list" (.tuple ds)=false from rfl]
   try walk_at "dk"
   rw [← hdd]
   walk_at "sg"
  ·obtain⟨dd,hdd⟩:∃ dd,dd=PyData.list ds:=⟨_,rfl⟩
   walk_at "dk"
   rw [show(isD "tuple" (.list ds) || isD "list" (.list ds))=true from rfl]
   walk_at "dk"
   try rw [show isD "tuple" (.list ds)=false from rfl]
   try walk_at "dk"
   try rw [show isD "list" (.list ds)=true from rfl]
   try walk_at "dk"
   rw [← hdd]
   walk_at "sg"
end
theorem b7b{c:Nat}{sep:Str}(hs:c ∉ sep.cps.toList):∀ {ws:List Str},(∀ p ∈ ws,c ∉ p.cps.toList)->c ∉ (Str.join sep ws).cps.toList
 | [],_=>fun h=>by
  have h':c ∈ (Str.empty).cps.toList:=h
  simp [Str.empty] at h'
 | [x],h=>h x (mem_cons_self ..)
 | x :: y :: r,h=>by
  rw [a7w]
  intro z
  rcases mem_append.mp z with z | z
  ·exact h x (mem_cons_self ..) z
  ·rcases mem_append.mp z with z | z
   ·exact hs z
   ·exact b7b hs (ws:=y :: r) (fun p hp=>h p (mem_cons_of_mem _ hp)) z
theorem d3o{ns:List Str}(hS:∀ s ∈ ns,PyData.strOk s=true):fEqA true (.list (ns.map .str)) (.list (ns.map .str))=some (.bool false):=by
 have h1:PyData.canLayAll0 (ns.map .str)=true:=by
  induction ns with
  | nil=>rfl
  | cons s r ih=>simp [PyData.canLayAll0,PyData.canLay0,hS s (mem_cons_self ..),ih fun z hz=>hS z (mem_cons_of_mem _ hz)]
 have h2:PyData.depthAll (ns.map .str)=0:=by
  clear hS h1
  induction ns with
  | nil=>rfl
  | cons s r ih=>simp [PyData.depthAll,PyData.depth,ih]
 have h3:SeqAt.shaped (.list (ns.map .str))=true:=by simp [SeqAt.shaped,PyData.canLay0,h1,PyData.depth,h2]
 rw [c0t rfl h3 h3,PySem.SeqAt.eqv_refl _ (by rw [PyData.canLay0];exact h1)]
 rfl
def Asc(z:Str):Prop:=∀ c ∈ z.cps.toList,c < 1114112
theorem d3p{z:Str}{ws:List Str}(hz:Asc z)(h:∀ p ∈ ws,Asc p):Asc (Txt.join z ws):=fun c hc=>by
 rcases Nat.lt_or_ge c 1114112 with h1 | h1
 ·exact h1
 ·rw [a7x] at hc
  exact absurd hc (b7b (fun m=>by have:=hz c m;omega) fun p hp m=>by have:=h p hp c m;omega)
theorem e5d{z:Str}(h:Asc z):PyData.strOk z=true:=by
 unfold PyData.strOk
 rw [Array.all_eq_true_iff_forall_mem]
 intro c hc
 exact decide_eq_true (h c (by simpa using hc))
theorem b1u{m:Nat}{ds:List PyData}(hl:ds.length <= 1000)(h:∀ e ∈ ds,a3r m e):a3r (m + 1) (.tuple ds):=.inr (.inr ⟨ds,.inl rfl,hl,h⟩)
theorem a5v{m:Nat}(s:Str):a3r (m + 1) (.str s):=.inr (.inl ⟨s,rfl⟩)
theorem b7c{m:Nat}(s:Int):a3r (m + 1) (.int s):=.inl ⟨s,rfl⟩
theorem c4l:∀ {m:Nat} {d:PyData},a3r m d->a3r (m + 1) d
 | 0,_,h=>h.elim
 | m + 1,d,h=>by
  rcases h with h | h | ⟨ds,h1,h2,h3⟩
  ·exact .inl h
  ·exact .inr (.inl h)
  ·exact .inr (.inr ⟨ds,h1,h2,fun e he=>c4l (h3 e he)⟩)
theorem a7a{m k:Nat}(h:m <= k){d:PyData}(hd:a3r m d):a3r k d:=by
 induction h with
 | refl=>exact hd
 | step _ ih=>exact c4l ih
theorem a8b{m:Nat}{a b:PyData}(ha:a3r m a)(hb:a3r m b):a3r (m + 1) (.tuple [a,b]):=b1u (by show 2 <= 1000;decide) fun e he=>by
 rcases mem_cons.mp he with rfl | he
 ·exact ha
 ·cases mem_singleton.mp he;exact hb
theorem a9m:∀ r:Rk,a3r (r.deep + 2) r.enc
 | .num n=>a8b (a5v _) (b7c _)
 | .box s=>a8b (a5v _) (a5v _)
 | .two w a b=>by
  have ha:=a7a (k:=(Rk.two w a b).deep + 1) (by simp only [Rk.deep];omega) (a9m a)
  have hb:=a7a (k:=(Rk.two w a b).deep + 1) (by simp only [Rk.deep];omega) (a9m b)
  refine b1u (by show 3 <= 1000;decide) fun e he=>?_
  rcases mem_cons.mp he with rfl | he
  ·exact a5v _
  rcases mem_cons.mp he with rfl | he
  ·exact ha
  ·cases mem_singleton.mp he;exact hb
 | .pick a b c=>by
  have ha:=a7a (k:=(Rk.pick a b c).deep + 1) (by simp only [Rk.deep];omega) (a9m a)
  have hb:=a7a (k:=(Rk.pick a b c).deep + 1) (by simp only [Rk.deep];omega) (a9m b)
  have hc:=a7a (k:=(Rk.pick a b c).deep + 1) (by simp only [Rk.deep];omega) (a9m c)
  refine b1u (by show 4 <= 1000;decide) fun e he=>?_
  rcases mem_cons.mp he with rfl | he
  ·exact a5v _
  rcases mem_cons.mp he with rfl | he
  ·exact ha
  rcases mem_cons.mp he with rfl | he
  ·exact hb
  ·cases mem_singleton.mp he;exact hc
theorem a8c{α:Type}{e:α->PyData}{m:Nat}{xs:List α}(hl:xs.length <= 1000)(h:∀ x ∈ xs,a3r m (e x)):a3r (m + 1) (.tuple (xs.map e)):=b1u (by rw [length_map];exact hl) fun y hy=>by
 obtain⟨x,hx,rfl⟩:=mem_map.mp hy
 exact h x hx
theorem GoodM.same{ns:List Str}{bs:List Box}{hs:List (Str × List Str)}{ds:List Deed}{fs:List (Str × Rk)}(G:GoodM ns bs hs ds fs):a3r 11 (encM bs hs ds fs):=by
 obtain⟨bl,_,hl,dl,fl⟩:=G.bl
 have sr:∀ {q:Rk},OkR ns q->a3r 6 q.enc:=fun{q} h=>a7a (by have:=h.d;omega) (a9m q)
 refine b1u (by show 4 <= 1000;decide) fun e he=>?_
 simp only [mem_cons,not_mem_nil,or_false] at he
 rcases he with rfl | rfl | rfl | rfl
 ·refine a8c (by omega) fun b hb=>b1u (by show 4 <= 1000;decide) fun e he=>?_
  simp only [mem_cons,not_mem_nil,or_false] at he
  rcases he with rfl | rfl | rfl | rfl
  ·exact a5v _
  ·exact b7c _
  ·exact b7c _
  ·exact b7c _
 ·exact a8c (by omega) fun p hp=>a8b (a5v _) (a8c (by have:=(G.fH hp).2.1;omega) fun z hz=>a5v _)
 ·exact a8c (by omega) fun d hd=>a8b (a7a (by decide) (sr (G.fD hd).1)) (a8c (by have:=(G.fD hd).2.1;omega) fun p hp=>a8b (a5v _) (sr ((G.fD hd).2.2.2 p hp).2.2.1))
 ·exact a8c (by omega) fun p hp=>a7a (by decide) (a8b (a5v _) (sr (G.fF hp).2.1))
theorem GoodM.txt{ns:List Str}{bs:List Box}{hs:List (Str × List Str)}{ds:List Deed}{fs:List (Str × Rk)}(G:GoodM ns bs hs ds fs):(∀ t ∈ (a4c bs hs ds fs).map rt,PyData.strOk t=true)/\((a4c bs hs ds fs).map rt).length <= 1000:=by
 constructor
 ·intro t ht
  obtain⟨r,hr,rfl⟩:=mem_map.mp ht
  exact e5d (d3p (by unfold Asc;decide +kernel) fun z hz=>((G.rowsOk r hr).2.2 z hz).2)
 ·obtain⟨bl,_,hl,dl,fl⟩:=G.bl
  have:=b2s (ds:=ds) fun x hx=>(G.fD hx).2.1
  rw [length_map]
  unfold a4c
  rw [length_append,length_append,length_append,length_map,length_map,length_map]
  omega
noncomputable def b0:Box:=⟨"a",0,0,0⟩
theorem good0:GoodM ["a"] [b0] [] [] []:=⟨rfl,by decide,by decide,by simp,by decide +kernel,fun x hx=>by cases mem_singleton.mp hx;exact⟨by decide,by decide,by decide,by decide⟩,fun x hx=>(nomatch hx),nil_sublist _,fun x hx=>(nomatch hx),by decide,fun x hx=>(nomatch hx),nil_sublist _⟩
theorem row0:(a4c [b0] [] [] []).map rt=(["box a 0 0 0"]:List Str):=by decide +kernel
section
variable{P:Program}{w:World}{K:W.Frag}{mg:Str->Option Value}{base:Heap}{n:Nat}
abbrev a9b:Stmt:=top 40
theorem a8r:FnScope ["_law_script","_law_tape","_law_machine_here","_law_rows_here","_law_turn","_law_found","_law_handed","_law_least"] ["_law_script"] (a0h a9b):=⟨rfl,rfl,rfl,by decide +kernel,rfl,by decide +kernel,by decide +kernel⟩
theorem e5e{f f1 f2 f3 f4 f5:Addr}{fd fd1 fd2 fd3 fd4 fd5:FuncData} (F:Fun K "law" "law" a9b f fd) (B:Bl mg)
  (a8t:Def K mg "_law_machine" a6o ["_law_tape"] f1 fd1) (b8z:FnOk P w K mg base CX0 n f1 fd1 ["_law_tape"] (spD K b3t))
  (b2v:Def K mg "_law_rows" a9a ["_law_machine_here"] f2 fd2) (c6s:FnOk P w K mg base CX0 n f2 fd2 ["_law_machine_here"] (spD K b4p))
  (d_shown_machine:Def K mg "shown_machine" a5m ["machine"] f3 fd3) (g_shown_machine:FnOk P w K mg base CX0 n f3 fd3 ["machine"] (spD K b4p))
  (d_read_machine:Def K mg "read_machine" a6c ["rows"] f4 fd4) (g_read_machine:FnOk P w K mg base CX0 n f4 fd4 ["rows"] (spD K b8e))
  (a3s:Def K mg "_law_same" a7p ["_law_found","_law_due"] f5 fd5) (a6d:FnOk P w K mg base CX0 n f5 fd5 ["_law_found","_law_due"] (spD K (b4w 11))):FnOk P w K mg base CX0 (n + 1) f fd ["_law_script"] (b9m K):=by
 refine F.law a8r (fun cdv A outer s H E hr=>?_)
 refine⟨_,_,rfl,a2j (i:=1) a8r.nd rfl (Or.inl rfl) (a7b (a0c (pv 0) (a0c a0v a0i))),_,(a0j (a4g (i:=2) a8r.nd rfl (Or.inl rfl) (a0p [true] a8t b8z hr rfl (a0a (dv 1) a0d)))
  (a0j (a4g (i:=3) a8r.nd rfl (Or.inl rfl) (a0p [false] b2v c6s hr rfl (a0a (dv 2) a0d)))
  (a0j (a8n PassesOwn.never rfl (a8o rfl B.range_ a0g) (a1e (i:=4) a8r.nd rfl (Or.inl rfl))
  (a0j (a9f (i:=5) a8r.nd rfl (Or.inl rfl) (d1d [false] d_shown_machine g_shown_machine hr rfl (a0a (dv 2) a0d)))
  (a0j (a4b (b3j (a9w (c9o 5 3 a3s a6d hr rfl (pv 5) (pv 3))))
  (a0t (a1n b6g))
  a2g)
  (a0j (a5f (a4o 5 rfl a0l))
  (a0j (a9f (i:=6) a8r.nd rfl (Or.inl rfl) (b3h a9r b7m rfl B.list_ a9d (a0a (dv 3) a0d)))
  (a0j (a4b (DW.toT (b6k (b3j (a9w (a0p [false,false] a3s a6d hr rfl (a0a (a0p [true] d_read_machine g_read_machine hr rfl (a0a (dv 6) a0d)) (a0a (dv 2) a0d))))) (b3i (a2o (b3m hr.units) b3l (dv 6) (dv 3) (a0r _)))))
  (a0t (a1n b6g))
  a2g)
  (a0t (a5f (c5v 6 rfl)))))))))
  (a0j (a4g (i:=7) a8r.nd rfl (Or.inl rfl) (a1w (a0a (a1w (a0a (a1w (a0a a0l (a0a a0g (a0a a0g (a0a a0g a0d))))) a0d)) (a0a (a1w a0d) (a0a (a1w a0d) (a0a (a1w a0d) a0d))))))
  (a0t (a1n (a9y (a0p [false,false] a3s a6d hr rfl (a0a (a0p [false] d_read_machine g_read_machine hr rfl (a0a (a1i (a2n (a0a a0l a0d))) a0d)) (a0a (dv 7) a0d))) (a9x (a0p [false,false] a3s a6d hr rfl (a0a (a0p [false] d_shown_machine g_shown_machine hr rfl (a0a (dv 7) a0d)) (a0a (a1i (a2n (a0a a0l a0d))) a0d))))))))))),?_⟩
 walk_at "dd"
 refine⟨0,rfl,by decide,fun ns bs hs ds fs k1 hk1 G=>?_⟩
 walk_at "dd"
 refine⟨ns,bs,hs,ds,fs,rfl,G,?_⟩
 obtain⟨ts,ets⟩:∃ ts:List Str,ts=(a4c bs hs ds fs).map rt:=⟨_,rfl⟩
 obtain⟨tok,tl⟩:=G.txt
 rw [← ets] at tok tl
 have eE:EE (a4c bs hs ds fs)=ts.map .str:=by rw [ets,map_map];rfl
 have smL:∀ {us:List Str},us.length <= 1000->a3r 11 (.list (us.map .str)):=fun h=>.inr (.inr ⟨_,.inr rfl,by rw [length_map];exact h,fun e he=>by
  obtain⟨z,_,rfl⟩:=mem_map.mp he
  exact a5v _⟩)
 rw [eE]
 walk_at "dd"
 refine⟨⟨by decide,by decide⟩,?_⟩
 refine a5s (fun i ρ=>∃ v4 v5 v6:Option L,ρ=[some .scr,some (.tape k1),some (.d (encM bs hs ds fs)),some (.d (.list (ts.map .str))),v4,v5,v6,none]) ⟨none,none,none,rfl⟩ ?_ ?_
 ·rintro i x ρ N hx ⟨v4,v5,v6,rfl⟩ hN
  walk_at "dd"
  refine⟨ns,bs,hs,ds,fs,rfl,G,?_⟩
  rw [eE]
  walk_at "dd"
  refine⟨_,rfl,smL tl,_,rfl,?_⟩
  walk_at "dd"
  refine⟨by rw [length_map];omega,?_⟩
  walk_at "dd"
  refine⟨true,ns,bs,hs,ds,fs,by rw [← ets];rfl,G,?_⟩
  rw [← ets]
  walk_at "dd"
  refine⟨_,rfl,G.same,?_⟩
  rw [show lbO true ts=some (.bor (ts.map .str)) from rfl]
  walk_at "dd"
  rw [d3o tok,a0n]
  walk_at "dd"
  exact hN _ ⟨_,_,_,rfl⟩
 ·rintro ρ ⟨v4,v5,v6,rfl⟩
  walk_at "dd"
  refine⟨false,["a"],[b0],[],[],[],by rw [row0];rfl,good0,?_⟩
  rw [row0]
  walk_at "dd"
  refine⟨encM [b0] [] [] [],rfl,good0.same,?_⟩
  walk_at "dd"
  refine⟨["a"],[b0],[],[],[],rfl,good0,?_⟩
  rw [show EE (a4c [b0] [] [] [])=(["box a 0 0 0"]:List Str).map .str by rw [← row0,map_map];rfl]
  walk_at "dd"
  refine⟨.list ((["box a 0 0 0"]:List Str).map .str),rfl,smL (by decide),?_⟩
  walk_at "dd"
end
def Lies(K:W.Frag)(x:Str)(st:Stmt)(ps:List Str):Prop:=∃ f fd,Fun K x x st f fd/\W.nsIn K mainGlobals x=some (some (.ref f))/\Binds K fd ps []
abbrev fnX(x:Str)(st:Stmt)(kV dc pm:Value)(an:Option Addr)(cd ct:Value):FuncData:=W.fnOf x x (a1t st) (a1o st) (a0h st) .none kV dc pm an cd ct
def d5d(K:W.Frag)(x:Str)(st:Stmt)(ps:List Str)(c T:Addr):Prop:=∃ f fd,Fun K x x st f fd/\W.nsIn K mainGlobals x=some (some (.ref f))/\Binds K fd ps []/\fd.code=.ref c/\W.codeHdIn K c T=true
theorem d0e{K:W.Frag}{x:Str}{st:Stmt}{ps:List Str}{c T f:Addr}{od an:Option Addr}{sl:Array (Option Value)}{oc kV dc pm ct:Value}(h:W.codeHdIn K c T=true)
  (a:W.nsIn K mainGlobals x=some (some (.ref f))) (l:K.lookup f=some ⟨oc,od,.func (fnX x st kV dc pm an (.ref c) ct),sl⟩) (cc:W.codeIn K (.ref c) x=true) (k:W.keepIn K (.ref f)=true) (hp:ps.length=3)
  (b:∀ (kV dc pm:Value) (an:Option Addr) (cd ct a0 a1 a2:Value),bindArgs (fnX x st kV dc pm an cd ct) ⟨[a0,a1,a2],[]⟩=pure (ps.zip [a0,a1,a2])):d5d K x st ps c T:=⟨f,_,a2a l cc k,a,(a2a l cc k).binds fun kV dc pm an cd ct us hl=>by
  rw [hp] at hl
  obtain⟨a0,u0,rfl,h0⟩:=usS hl
  obtain⟨a1,u1,rfl,h1⟩:=usS h0
  obtain⟨a2,u2,rfl,h2⟩:=usS h1
  obtain rfl:=List.eq_nil_of_length_eq_zero h2
  exact b kV dc pm an cd ct a0 a1 a2,rfl,h⟩
theorem a4w{K:W.Frag}{x:Str}{st:Stmt}{ps:List Str}{f:Addr}{od an:Option Addr}{sl:Array (Option Value)}{oc kV dc pm cd ct:Value}
  (a:W.nsIn K mainGlobals x=some (some (.ref f))) (l:K.lookup f=some ⟨oc,od,.func (fnX x st kV dc pm an cd ct),sl⟩) (c:W.codeIn K cd x=true) (k:W.keepIn K (.ref f)=true) (hp:ps.length=1)
  (b:∀ (kV dc pm:Value) (an:Option Addr) (cd ct a0:Value),bindArgs (fnX x st kV dc pm an cd ct) ⟨[a0],[]⟩=pure (ps.zip [a0])):Lies K x st ps:=⟨f,_,a2a l c k,a,(a2a l c k).binds fun kV dc pm an cd ct us hl=>by
  rw [hp] at hl
  obtain⟨a0,u0,rfl,h0⟩:=usS hl
  obtain rfl:=List.eq_nil_of_length_eq_zero h0
  exact b kV dc pm an cd ct a0⟩
theorem a4x{K:W.Frag}{x:Str}{st:Stmt}{ps:List Str}{f:Addr}{od an:Option Addr}{sl:Array (Option Value)}{oc kV dc pm cd ct:Value}
  (a:W.nsIn K mainGlobals x=some (some (.ref f))) (l:K.lookup f=some ⟨oc,od,.func (fnX x st kV dc pm an cd ct),sl⟩) (c:W.codeIn K cd x=true) (k:W.keepIn K (.ref f)=true) (hp:ps.length=2)
  (b:∀ (kV dc pm:Value) (an:Option Addr) (cd ct a0 a1:Value),bindArgs (fnX x st kV dc pm an cd ct) ⟨[a0,a1],[]⟩=pure (ps.zip [a0,a1])):Lies K x st ps:=⟨f,_,a2a l c k,a,(a2a l c k).binds fun kV dc pm an cd ct us hl=>by
  rw [hp] at hl
  obtain⟨a0,u0,rfl,h0⟩:=usS hl
  obtain⟨a1,u1,rfl,h1⟩:=usS h0
  obtain rfl:=List.eq_nil_of_length_eq_zero h1
  exact b kV dc pm an cd ct a0 a1⟩
theorem c2f{K:W.Frag}{x:Str}{st:Stmt}{ps:List Str}{f:Addr}{od an:Option Addr}{sl:Array (Option Value)}{oc kV dc pm cd ct:Value}
  (a:W.nsIn K mainGlobals x=some (some (.ref f))) (l:K.lookup f=some ⟨oc,od,.func (fnX x st kV dc pm an cd ct),sl⟩) (c:W.codeIn K cd x=true) (k:W.keepIn K (.ref f)=true) (hp:ps.length=3)
  (b:∀ (kV dc pm:Value) (an:Option Addr) (cd ct a0 a1 a2:Value),bindArgs (fnX x st kV dc pm an cd ct) ⟨[a0,a1,a2],[]⟩=pure (ps.zip [a0,a1,a2])):Lies K x st ps:=⟨f,_,a2a l c k,a,(a2a l c k).binds fun kV dc pm an cd ct us hl=>by
  rw [hp] at hl
  obtain⟨a0,u0,rfl,h0⟩:=usS hl
  obtain⟨a1,u1,rfl,h1⟩:=usS h0
  obtain⟨a2,u2,rfl,h2⟩:=usS h1
  obtain rfl:=List.eq_nil_of_length_eq_zero h2
  exact b kV dc pm an cd ct a0 a1 a2⟩
theorem e5f{P:Program}{w:World}{K:W.Frag}{h:Heap}{mg:Str->Option Value}{fa:Addr}(X:K.In h)(G:h.Ns mainGlobals mg) (hfa:mg "law" = some (.ref fa))
  (h_is_name:Lies K "is_name" a8q ["thing"])
  (h_is_figures:Lies K "is_figures" a7m ["text","most"])
  (h_shown_machine:Lies K "shown_machine" a5m ["machine"])
  (h_shown_reckoning:Lies K "shown_reckoning" a3p ["reckoning"])
  (h_read_machine:Lies K "read_machine" a6c ["rows"])
  (h_is_behind:Lies K "is_behind" a6j ["word","pairs"])
  (h_is_number:Lies K "is_number" a6i ["word"])
  (h_read_number:d5d K "read_number" a5e ["words","least","greatest"] 214 210)
  (h_law_cell_at:Lies K "_law_cell_at" a5c ["_law_script","_law_k"])
  (h_law_by:Lies K "_law_by" b2j ["_law_script","_law_k","_law_many"])
  (h_law_next:Lies K "_law_next" a8x ["_law_tape","_law_many"])
  (h_law_number:Lies K "_law_number" a7j ["_law_tape"])
  (h_law_sum:Lies K "_law_sum" a6u ["_law_tape","_law_names_here","_law_deep"])
  (h_law_names:Lies K "_law_names" a8h ["_law_tape","_law_many"])
  (h_law_box:Lies K "_law_box" b0m ["_law_tape","_law_name"])
  (h_law_some_names:Lies K "_law_some_names" a4u ["_law_tape","_law_names_here"])
  (h_law_deed:Lies K "_law_deed" a8z ["_law_tape","_law_names_here"])
  (h_law_machine:Lies K "_law_machine" a6o ["_law_tape"])
  (h_law_same:Lies K "_law_same" a7p ["_law_found","_law_due"])
  (h_law_words:Lies K "_law_words" a6g ["_law_told"])
  (h_law_rows:Lies K "_law_rows" a9a ["_law_machine_here"])
  {f_law:Addr} {od_law an_law:Option Addr} {sl_law:Array (Option Value)} {oc_law kV_law dc_law pm_law cd_law ct_law:Value}
  (a_law:W.nsIn K mainGlobals "law" = some (some (.ref f_law))) (l_law:K.lookup f_law=some ⟨oc_law,od_law,.func (W.fnOf "law" "law" (a1t a9b) (a1o a9b) (a0h a9b) .none kV_law dc_law pm_law an_law cd_law ct_law),sl_law⟩) (c_law:W.codeIn K cd_law "law" = true) (k_law:W.keepIn K (.ref f_law)=true)
  {C_Words:Addr} (aC_Words:W.nsIn K mainGlobals "Words" = some (some (.ref C_Words)))
  {f_winit:Addr} {od_winit an_winit:Option Addr} {sl_winit:Array (Option Value)} {oc_winit kV_winit dc_winit pm_winit cd_winit ct_winit:Value}
  (a_winit:W.findIn K (.ref C_Words) "__init__" = some (some (.ref f_winit))) (i_winit:W.isFn K (.ref f_winit)=true) (l_winit:K.lookup f_winit=some ⟨oc_winit,od_winit,.func (W.fnOf "__init__" "Words.__init__" (a1t a9j) (a1o a9j) (a0h a9j) .none kV_winit dc_winit pm_winit an_winit cd_winit ct_winit),sl_winit⟩) (c_winit:W.codeIn K cd_winit "Words.__init__" = true) (k_winit:W.keepIn K (.ref f_winit)=true)
  {f_taken:Addr} {od_taken an_taken:Option Addr} {sl_taken:Array (Option Value)} {oc_taken kV_taken dc_taken pm_taken cd_taken ct_taken:Value}
  (a_taken:W.findIn K (.ref C_Words) "taken" = some (some (.ref f_taken))) (i_taken:W.isFn K (.ref f_taken)=true) (l_taken:K.lookup f_taken=some ⟨oc_taken,od_taken,.func (W.fnOf "taken" "Words.taken" (a1t a9k) (a1o a9k) (a0h a9k) .none kV_taken dc_taken pm_taken an_taken cd_taken ct_taken),sl_taken⟩) (c_taken:W.codeIn K cd_taken "Words.taken" = true) (k_taken:W.keepIn K (.ref f_taken)=true)
  {f_over:Addr} {od_over an_over:Option Addr} {sl_over:Array (Option Value)} {oc_over kV_over dc_over pm_over cd_over ct_over:Value}
  (a_over:W.findIn K (.ref C_Words) "are_over" = some (some (.ref f_over))) (i_over:W.isFn K (.ref f_over)=true) (l_over:K.lookup f_over=some ⟨oc_over,od_over,.func (W.fnOf "are_over" "Words.are_over" (a1t b1k) (a1o b1k) (a0h b1k) .none kV_over dc_over pm_over an_over cd_over ct_over),sl_over⟩) (c_over:W.codeIn K cd_over "Words.are_over" = true) (k_over:W.keepIn K (.ref f_over)=true)
  {f_wfin:Addr} {od_wfin an_wfin:Option Addr} {sl_wfin:Array (Option Value)} {oc_wfin kV_wfin dc_wfin pm_wfin cd_wfin ct_wfin:Value}
  (a_wfin:W.findIn K (.ref C_Words) "finish" = some (some (.ref f_wfin))) (i_wfin:W.isFn K (.ref f_wfin)=true) (l_wfin:K.lookup f_wfin=some ⟨oc_wfin,od_wfin,.func (W.fnOf "finish" "Words.finish" (a1t b1l) (a1o b1l) (a0h b1l) .none kV_wfin dc_wfin pm_wfin an_wfin cd_wfin ct_wfin),sl_wfin⟩) (c_wfin:W.codeIn K cd_wfin "Words.finish" = true) (k_wfin:W.keepIn K (.ref f_wfin)=true)
  (pg_Words:W.plainGet K C_Words Str.empty=true) (hd_Words:W.hasDictIn K C_Words=true) (po_Words:W.plainOver K C_Words=true) (sa_Words:W.findIn K (.ref C_Words) "__setattr__" = some (some (.builtin "object.__setattr__"))) (mk_Words:W.makesIn K C_Words=true) (kc_Words:W.keepIn K (.ref C_Words)=true)
  (n_Words_row:W.findIn K (.ref C_Words) "row" = some none)
  (n_Words_words:W.findIn K (.ref C_Words) "words" = some none)
  (n_Words_place:W.findIn K (.ref C_Words) "place" = some none)
  {C_MachineReading:Addr} (aC_MachineReading:W.nsIn K mainGlobals "MachineReading" = some (some (.ref C_MachineReading)))
  {f_minit:Addr} {od_minit an_minit:Option Addr} {sl_minit:Array (Option Value)} {oc_minit kV_minit dc_minit pm_minit cd_minit ct_minit:Value}
  (a_minit:W.findIn K (.ref C_MachineReading) "__init__" = some (some (.ref f_minit))) (i_minit:W.isFn K (.ref f_minit)=true) (l_minit:K.lookup f_minit=some ⟨oc_minit,od_minit,.func (W.fnOf "__init__" "MachineReading.__init__" (a1t a9l) (a1o a9l) (a0h a9l) .none kV_minit dc_minit pm_minit an_minit cd_minit ct_minit),sl_minit⟩) (c_minit:W.codeIn K cd_minit "MachineReading.__init__" = true) (k_minit:W.keepIn K (.ref f_minit)=true)
  {f_told:Addr} {od_told an_told:Option Addr} {sl_told:Array (Option Value)} {oc_told kV_told dc_told pm_told cd_told ct_told:Value}
  (a_told:W.findIn K (.ref C_MachineReading) "told_machine" = some (some (.ref f_told))) (i_told:W.isFn K (.ref f_told)=true) (l_told:K.lookup f_told=some ⟨oc_told,od_told,.func (W.fnOf "told_machine" "MachineReading.told_machine" (a1t b1r) (a1o b1r) (a0h b1r) .none kV_told dc_told pm_told an_told cd_told ct_told),sl_told⟩) (c_told:W.codeIn K cd_told "MachineReading.told_machine" = true) (k_told:W.keepIn K (.ref f_told)=true)
  {f_rrow:Addr} {od_rrow an_rrow:Option Addr} {sl_rrow:Array (Option Value)} {oc_rrow kV_rrow dc_rrow pm_rrow cd_rrow ct_rrow:Value}
  (a_rrow:W.findIn K (.ref C_MachineReading) "read_row" = some (some (.ref f_rrow))) (i_rrow:W.isFn K (.ref f_rrow)=true) (l_rrow:K.lookup f_rrow=some ⟨oc_rrow,od_rrow,.func (W.fnOf "read_row" "MachineReading.read_row" (a1t a7o) (a1o a7o) (a0h a7o) .none kV_rrow dc_rrow pm_rrow an_rrow cd_rrow ct_rrow),sl_rrow⟩) (c_rrow:W.codeIn K cd_rrow "MachineReading.read_row" = true) (k_rrow:W.keepIn K (.ref f_rrow)=true)
  (hc_rrow:cd_rrow=.ref 146) (hC_rrow:W.codeHdIn K 146 144=true)
  {f_may:Addr} {od_may an_may:Option Addr} {sl_may:Array (Option Value)} {oc_may kV_may dc_may pm_may cd_may ct_may:Value}
  (a_may:W.findIn K (.ref C_MachineReading) "may_begin_row" = some (some (.ref f_may))) (i_may:W.isFn K (.ref f_may)=true) (l_may:K.lookup f_may=some ⟨oc_may,od_may,.func (W.fnOf "may_begin_row" "MachineReading.may_begin_row" (a1t b4s) (a1o b4s) (a0h b4s) .none kV_may dc_may pm_may an_may cd_may ct_may),sl_may⟩) (c_may:W.codeIn K cd_may "MachineReading.may_begin_row" = true) (k_may:W.keepIn K (.ref f_may)=true)
  {f_boxn:Addr} {od_boxn an_boxn:Option Addr} {sl_boxn:Array (Option Value)} {oc_boxn kV_boxn dc_boxn pm_boxn cd_boxn ct_boxn:Value}
  (a_boxn:W.findIn K (.ref C_MachineReading) "is_box_name" = some (some (.ref f_boxn))) (i_boxn:W.isFn K (.ref f_boxn)=true) (l_boxn:K.lookup f_boxn=some ⟨oc_boxn,od_boxn,.func (W.fnOf "is_box_name" "MachineReading.is_box_name" (a1t b1p) (a1o b1p) (a0h b1p) .none kV_boxn dc_boxn pm_boxn an_boxn cd_boxn ct_boxn),sl_boxn⟩) (c_boxn:W.codeIn K cd_boxn "MachineReading.is_box_name" = true) (k_boxn:W.keepIn K (.ref f_boxn)=true)
  {f_rbox:Addr} {od_rbox an_rbox:Option Addr} {sl_rbox:Array (Option Value)} {oc_rbox kV_rbox dc_rbox pm_rbox cd_rbox ct_rbox:Value}
  (a_rbox:W.findIn K (.ref C_MachineReading) "read_box" = some (some (.ref f_rbox))) (i_rbox:W.isFn K (.ref f_rbox)=true) (l_rbox:K.lookup f_rbox=some ⟨oc_rbox,od_rbox,.func (W.fnOf "read_box" "MachineReading.read_box" (a1t b0h) (a1o b0h) (a0h b0h) .none kV_rbox dc_rbox pm_rbox an_rbox cd_rbox ct_rbox),sl_rbox⟩) (c_rbox:W.codeIn K cd_rbox "MachineReading.read_box" = true) (k_rbox:W.keepIn K (.ref f_rbox)=true)
  (hc_rbox:cd_rbox=.ref 165) (hC_rbox:W.codeHdIn K 165 161=true)
  {f_rseer:Addr} {od_rseer an_rseer:Option Addr} {sl_rseer:Array (Option Value)} {oc_rseer kV_rseer dc_rseer pm_rseer cd_rseer ct_rseer:Value}
  (a_rseer:W.findIn K (.ref C_MachineReading) "read_seer" = some (some (.ref f_rseer))) (i_rseer:W.isFn K (.ref f_rseer)=true) (l_rseer:K.lookup f_rseer=some ⟨oc_rseer,od_rseer,.func (W.fnOf "read_seer" "MachineReading.read_seer" (a1t a6z) (a1o a6z) (a0h a6z) .none kV_rseer dc_rseer pm_rseer an_rseer cd_rseer ct_rseer),sl_rseer⟩) (c_rseer:W.codeIn K cd_rseer "MachineReading.read_seer" = true) (k_rseer:W.keepIn K (.ref f_rseer)=true)
  (hc_rseer:cd_rseer=.ref 172) (hC_rseer:W.codeHdIn K 172 168=true)
  {f_rwhole:Addr} {od_rwhole an_rwhole:Option Addr} {sl_rwhole:Array (Option Value)} {oc_rwhole kV_rwhole dc_rwhole pm_rwhole cd_rwhole ct_rwhole:Value}
  (a_rwhole:W.findIn K (.ref C_MachineReading) "read_whole_reckoning" = some (some (.ref f_rwhole))) (i_rwhole:W.isFn K (.ref f_rwhole)=true) (l_rwhole:K.lookup f_rwhole=some ⟨oc_rwhole,od_rwhole,.func (W.fnOf "read_whole_reckoning" "MachineReading.read_whole_reckoning" (a1t a8a) (a1o a8a) (a0h a8a) .none kV_rwhole dc_rwhole pm_rwhole an_rwhole cd_rwhole ct_rwhole),sl_rwhole⟩) (c_rwhole:W.codeIn K cd_rwhole "MachineReading.read_whole_reckoning" = true) (k_rwhole:W.keepIn K (.ref f_rwhole)=true)
  {f_rreck:Addr} {od_rreck an_rreck:Option Addr} {sl_rreck:Array (Option Value)} {oc_rreck kV_rreck dc_rreck pm_rreck cd_rreck ct_rreck:Value}
  (a_rreck:W.findIn K (.ref C_MachineReading) "read_reckoning" = some (some (.ref f_rreck))) (i_rreck:W.isFn K (.ref f_rreck)=true) (l_rreck:K.lookup f_rreck=some ⟨oc_rreck,od_rreck,.func (W.fnOf "read_reckoning" "MachineReading.read_reckoning" (a1t a6y) (a1o a6y) (a0h a6y) .none kV_rreck dc_rreck pm_rreck an_rreck cd_rreck ct_rreck),sl_rreck⟩) (c_rreck:W.codeIn K cd_rreck "MachineReading.read_reckoning" = true) (k_rreck:W.keepIn K (.ref f_rreck)=true)
  (hc_rreck:cd_rreck=.ref 186) (hC_rreck:W.codeHdIn K 186 182=true)
  (pg_MachineReading:W.plainGet K C_MachineReading Str.empty=true) (hd_MachineReading:W.hasDictIn K C_MachineReading=true) (po_MachineReading:W.plainOver K C_MachineReading=true) (sa_MachineReading:W.findIn K (.ref C_MachineReading) "__setattr__" = some (some (.builtin "object.__setattr__"))) (mk_MachineReading:W.makesIn K C_MachineReading=true) (kc_MachineReading:W.keepIn K (.ref C_MachineReading)=true)
  (n_MachineReading_latest:W.findIn K (.ref C_MachineReading) "latest" = some none)
  (n_MachineReading_boxes:W.findIn K (.ref C_MachineReading) "boxes" = some none)
  (n_MachineReading_seers:W.findIn K (.ref C_MachineReading) "seers" = some none)
  (n_MachineReading_deeds:W.findIn K (.ref C_MachineReading) "deeds" = some none)
  (n_MachineReading_facts:W.findIn K (.ref C_MachineReading) "facts" = some none)
  (n_MachineReading_left:W.findIn K (.ref C_MachineReading) "left" = some none)
  (z_len:W.nsIn K mainGlobals "len" = some none)
  (z_range:W.nsIn K mainGlobals "range" = some none)
  (z_tuple:W.nsIn K mainGlobals "tuple" = some none)
  (z_bool:W.nsIn K mainGlobals "bool" = some none)
  (z_isinstance:W.nsIn K mainGlobals "isinstance" = some none)
  (z_reversed:W.nsIn K mainGlobals "reversed" = some none)
  (z_max:W.nsIn K mainGlobals "max" = some none)
  (z_zip:W.nsIn K mainGlobals "zip" = some none)
  (z_list:W.nsIn K mainGlobals "list" = some none)
  (z_str:W.nsIn K mainGlobals "str" = some none)
  (z_enumerate:W.nsIn K mainGlobals "enumerate" = some none)
  (z_dict:W.nsIn K mainGlobals "dict" = some none)
  (z_sum:W.nsIn K mainGlobals "sum" = some none)
  (z_int:W.nsIn K mainGlobals "int" = some none)
  (z_min:W.nsIn K mainGlobals "min" = some none)
  (z_sorted:W.nsIn K mainGlobals "sorted" = some none)
  (z_all:W.nsIn K mainGlobals "all" = some none)
  (z_set:W.nsIn K mainGlobals "set" = some none)
  (z_repr:W.nsIn K mainGlobals "repr" = some none)
  (z_any:W.nsIn K mainGlobals "any" = some none)
  {aT_ROWS_BEHIND:Addr} {ep_ROWS_BEHIND:Nat} {kt_ROWS_BEHIND_0 kt_ROWS_BEHIND_1 kt_ROWS_BEHIND_2 kt_ROWS_BEHIND_3 kt_ROWS_BEHIND_4 kt_ROWS_BEHIND_5:Tok} {p_ROWS_BEHIND_0 p_ROWS_BEHIND_1 p_ROWS_BEHIND_2 p_ROWS_BEHIND_3 p_ROWS_BEHIND_4 p_ROWS_BEHIND_5:Addr}
  (a_ROWS_BEHIND:W.nsIn K mainGlobals "ROWS_BEHIND" = some (some (.ref aT_ROWS_BEHIND)))
  (l_ROWS_BEHIND:K.lookup aT_ROWS_BEHIND=some ⟨.type "dict",none,.dict #[⟨PyData.keyHash w.params "",.str "" kt_ROWS_BEHIND_0,.ref p_ROWS_BEHIND_0⟩,⟨PyData.keyHash w.params "box",.str "box" kt_ROWS_BEHIND_1,.ref p_ROWS_BEHIND_1⟩,⟨PyData.keyHash w.params "hand",.str "hand" kt_ROWS_BEHIND_2,.ref p_ROWS_BEHIND_2⟩,⟨PyData.keyHash w.params "deed",.str "deed" kt_ROWS_BEHIND_3,.ref p_ROWS_BEHIND_3⟩,⟨PyData.keyHash w.params "lay",.str "lay" kt_ROWS_BEHIND_4,.ref p_ROWS_BEHIND_4⟩,⟨PyData.keyHash w.params "fact",.str "fact" kt_ROWS_BEHIND_5,.ref p_ROWS_BEHIND_5⟩] ep_ROWS_BEHIND,#[]⟩)
  {n_ROWS_BEHIND_0:Nat} {slp_ROWS_BEHIND_0:Array (Option Value)} {tk_ROWS_BEHIND_0_0:Tok} (l_ROWS_BEHIND_0:K.lookup p_ROWS_BEHIND_0=some ⟨.type "tuple",none,.seq #[.str "box" tk_ROWS_BEHIND_0_0] n_ROWS_BEHIND_0,slp_ROWS_BEHIND_0⟩)
  {n_ROWS_BEHIND_1:Nat} {slp_ROWS_BEHIND_1:Array (Option Value)} {tk_ROWS_BEHIND_1_0 tk_ROWS_BEHIND_1_1 tk_ROWS_BEHIND_1_2 tk_ROWS_BEHIND_1_3:Tok} (l_ROWS_BEHIND_1:K.lookup p_ROWS_BEHIND_1=some ⟨.type "tuple",none,.seq #[.str "box" tk_ROWS_BEHIND_1_0,.str "hand" tk_ROWS_BEHIND_1_1,.str "deed" tk_ROWS_BEHIND_1_2,.str "fact" tk_ROWS_BEHIND_1_3] n_ROWS_BEHIND_1,slp_ROWS_BEHIND_1⟩)
  {n_ROWS_BEHIND_2:Nat} {slp_ROWS_BEHIND_2:Array (Option Value)} {tk_ROWS_BEHIND_2_0 tk_ROWS_BEHIND_2_1 tk_ROWS_BEHIND_2_2:Tok} (l_ROWS_BEHIND_2:K.lookup p_ROWS_BEHIND_2=some ⟨.type "tuple",none,.seq #[.str "hand" tk_ROWS_BEHIND_2_0,.str "deed" tk_ROWS_BEHIND_2_1,.str "fact" tk_ROWS_BEHIND_2_2] n_ROWS_BEHIND_2,slp_ROWS_BEHIND_2⟩)
  {n_ROWS_BEHIND_3:Nat} {slp_ROWS_BEHIND_3:Array (Option Value)} {tk_ROWS_BEHIND_3_0 tk_ROWS_BEHIND_3_1 tk_ROWS_BEHIND_3_2:Tok} (l_ROWS_BEHIND_3:K.lookup p_ROWS_BEHIND_3=some ⟨.type "tuple",none,.seq #[.str "lay" tk_ROWS_BEHIND_3_0,.str "deed" tk_ROWS_BEHIND_3_1,.str "fact" tk_ROWS_BEHIND_3_2] n_ROWS_BEHIND_3,slp_ROWS_BEHIND_3⟩)
  {n_ROWS_BEHIND_4:Nat} {slp_ROWS_BEHIND_4:Array (Option Value)} {tk_ROWS_BEHIND_4_0 tk_ROWS_BEHIND_4_1 tk_ROWS_BEHIND_4_2:Tok} (l_ROWS_BEHIND_4:K.lookup p_ROWS_BEHIND_4=some ⟨.type "tuple",none,.seq #[.str "lay" tk_ROWS_BEHIND_4_0,.str "deed" tk_ROWS_BEHIND_4_1,.str "fact" tk_ROWS_BEHIND_4_2] n_ROWS_BEHIND_4,slp_ROWS_BEHIND_4⟩)
  {n_ROWS_BEHIND_5:Nat} {slp_ROWS_BEHIND_5:Array (Option Value)} {tk_ROWS_BEHIND_5_0:Tok} (l_ROWS_BEHIND_5:K.lookup p_ROWS_BEHIND_5=some ⟨.type "tuple",none,.seq #[.str "fact" tk_ROWS_BEHIND_5_0] n_ROWS_BEHIND_5,slp_ROWS_BEHIND_5⟩)
  {tk_FIGURES:Tok} (a_FIGURES:W.nsIn K mainGlobals "FIGURES" = some (some (.str "0123456789" tk_FIGURES)))
  {tk_LONGEST_NAME:Tok} (a_LONGEST_NAME:W.nsIn K mainGlobals "LONGEST_NAME" = some (some (.int 8 tk_LONGEST_NAME)))
  {tk_GREATEST:Tok} (a_GREATEST:W.nsIn K mainGlobals "GREATEST" = some (some (.int 999 tk_GREATEST)))
  {tk_MOST_RECKONINGS:Tok} (a_MOST_RECKONINGS:W.nsIn K mainGlobals "MOST_RECKONINGS" = some (some (.int 20 tk_MOST_RECKONINGS)))
  {tk_MOST_BOXES:Tok} (a_MOST_BOXES:W.nsIn K mainGlobals "MOST_BOXES" = some (some (.int 6 tk_MOST_BOXES)))
  {tk_MOST_SEERS:Tok} (a_MOST_SEERS:W.nsIn K mainGlobals "MOST_SEERS" = some (some (.int 4 tk_MOST_SEERS)))
  {tk_MOST_DEEDS:Tok} (a_MOST_DEEDS:W.nsIn K mainGlobals "MOST_DEEDS" = some (some (.int 60 tk_MOST_DEEDS)))
  {tk_MOST_FACTS:Tok} (a_MOST_FACTS:W.nsIn K mainGlobals "MOST_FACTS" = some (some (.int 8 tk_MOST_FACTS)))
  {aT_INNER:Addr} {ep_INNER:Nat} {kt_INNER_0 vt_INNER_0 kt_INNER_1 vt_INNER_1 kt_INNER_2 vt_INNER_2 kt_INNER_3 vt_INNER_3 kt_INNER_4 vt_INNER_4 kt_INNER_5 vt_INNER_5:Tok} (a_INNER:W.nsIn K mainGlobals "INNER" = some (some (.ref aT_INNER)))
  (l_INNER:K.lookup aT_INNER=some ⟨.type "dict",none,.dict #[⟨PyData.keyHash w.params "add",.str "add" kt_INNER_0,.int 2 vt_INNER_0⟩,⟨PyData.keyHash w.params "sub",.str "sub" kt_INNER_1,.int 2 vt_INNER_1⟩,⟨PyData.keyHash w.params "times",.str "times" kt_INNER_2,.int 2 vt_INNER_2⟩,⟨PyData.keyHash w.params "less",.str "less" kt_INNER_3,.int 2 vt_INNER_3⟩,⟨PyData.keyHash w.params "same",.str "same" kt_INNER_4,.int 2 vt_INNER_4⟩,⟨PyData.keyHash w.params "pick",.str "pick" kt_INNER_5,.int 3 vt_INNER_5⟩] ep_INNER,#[]⟩) (sy_INNER:(aT_INNER == sysModules)=false)
  : ∃ fd:FuncData,(∀ (s:Shared) (v:Value),BindsTo s fd ⟨[v],[]⟩ [("_law_script",v)])/\∀ base:Heap,K.In base->base.Ns mainGlobals mg->BMain mg base->FnOk P w K mg base CX0 50 fa fd ["_law_script"] (b9m K):=by
 have e:=hfa.symm.trans (W.mg_of X G a_law)
 cases e
 obtain⟨f_is_name,_,F_is_name,d0f,b_is_name⟩:=h_is_name
 have d_is_name:Def K mg _ _ _ _ _:=⟨F_is_name,b_is_name,W.mg_of X G d0f⟩
 obtain⟨f_is_figures,_,F_is_figures,c2g,b_is_figures⟩:=h_is_figures
 have d_is_figures:Def K mg _ _ _ _ _:=⟨F_is_figures,b_is_figures,W.mg_of X G c2g⟩
 obtain⟨f_shown_machine,_,F_shown_machine,a_shown_machine,b_shown_machine⟩:=h_shown_machine
 have d_shown_machine:Def K mg _ _ _ _ _:=⟨F_shown_machine,b_shown_machine,W.mg_of X G a_shown_machine⟩
 obtain⟨f_shown_reckoning,_,F_shown_reckoning,a_shown_reckoning,b_shown_reckoning⟩:=h_shown_reckoning
 have d_shown_reckoning:Def K mg _ _ _ _ _:=⟨F_shown_reckoning,b_shown_reckoning,W.mg_of X G a_shown_reckoning⟩
 obtain⟨f_read_machine,_,F_read_machine,a_read_machine,b_read_machine⟩:=h_read_machine
 have d_read_machine:Def K mg _ _ _ _ _:=⟨F_read_machine,b_read_machine,W.mg_of X G a_read_machine⟩
 obtain⟨f_is_behind,_,F_is_behind,c2r,b_is_behind⟩:=h_is_behind
 have d_is_behind:Def K mg _ _ _ _ _:=⟨F_is_behind,b_is_behind,W.mg_of X G c2r⟩
 obtain⟨f_is_number,_,F_is_number,c2s,b_is_number⟩:=h_is_number
 have d_is_number:Def K mg _ _ _ _ _:=⟨F_is_number,b_is_number,W.mg_of X G c2s⟩
 obtain⟨f_read_number,fd_read_number,F_read_number,a_read_number,b_read_number,hc_read_number,hC_read_number⟩:=h_read_number
 have d_read_number:Def K mg _ _ _ _ _:=⟨F_read_number,b_read_number,W.mg_of X G a_read_number⟩
 obtain⟨d9z,_,b9a,b9b,b_law_cell_at⟩:=h_law_cell_at
 have a4e:Def K mg _ _ _ _ _:=⟨b9a,b_law_cell_at,W.mg_of X G b9b⟩
 obtain⟨e5g,_,d3q,d3r,b_law_by⟩:=h_law_by
 have b2k:Def K mg _ _ _ _ _:=⟨d3q,b_law_by,W.mg_of X G d3r⟩
 obtain⟨c6t,_,b7d,c6u,b_law_next⟩:=h_law_next
 have a0q:Def K mg _ _ _ _ _:=⟨b7d,b_law_next,W.mg_of X G c6u⟩
 obtain⟨c2h,_,b3y,c2i,b_law_number⟩:=h_law_number
 have b0d:Def K mg _ _ _ _ _:=⟨b3y,b_law_number,W.mg_of X G c2i⟩
 obtain⟨d0g,_,b8u,d0h,b_law_sum⟩:=h_law_sum
 have a3t:Def K mg _ _ _ _ _:=⟨b8u,b_law_sum,W.mg_of X G d0h⟩
 obtain⟨c2t,_,b5e,c2u,b_law_names⟩:=h_law_names
 have b0s:Def K mg _ _ _ _ _:=⟨b5e,b_law_names,W.mg_of X G c2u⟩
 obtain⟨d0i,_,b8v,d0j,b_law_box⟩:=h_law_box
 have b3u:Def K mg _ _ _ _ _:=⟨b8v,b_law_box,W.mg_of X G d0j⟩
 obtain⟨b5x,_,b0i,b5y,b_law_some_names⟩:=h_law_some_names
 have a6r:Def K mg _ _ _ _ _:=⟨b0i,b_law_some_names,W.mg_of X G b5y⟩
 obtain⟨c6v,_,b7e,c6w,b_law_deed⟩:=h_law_deed
 have b2q:Def K mg _ _ _ _ _:=⟨b7e,b_law_deed,W.mg_of X G c6w⟩
 obtain⟨b9c,_,b2y,b9d,b_law_machine⟩:=h_law_machine
 have a8t:Def K mg _ _ _ _ _:=⟨b2y,b_law_machine,W.mg_of X G b9d⟩
 obtain⟨c6x,_,b7f,c6y,b_law_same⟩:=h_law_same
 have a3s:Def K mg _ _ _ _ _:=⟨b7f,b_law_same,W.mg_of X G c6y⟩
 obtain⟨c2v,_,b5f,c2w,b_law_words⟩:=h_law_words
 have a3u:Def K mg _ _ _ _ _:=⟨b5f,b_law_words,W.mg_of X G c2w⟩
 obtain⟨c6z,_,b7g,c7a,b_law_rows⟩:=h_law_rows
 have b2v:Def K mg _ _ _ _ _:=⟨b7g,b_law_rows,W.mg_of X G c7a⟩
 have F_law:=a2a (st:=a9b) l_law c_law k_law
 have F_winit:=a2a (st:=a9j) l_winit c_winit k_winit
 have b_winit:=F_winit.binds (ps:=["self","row","text"]) fun _ _ _ _ _ _ us hl=>match us,hl with | [_,_,_],_=>rfl
 have F_taken:=a2a (st:=a9k) l_taken c_taken k_taken
 have b_taken:=F_taken.binds (ps:=["self","fits"]) fun _ _ _ _ _ _ us hl=>match us,hl with | [_,_],_=>rfl
 have m_taken:Meth K C_Words "taken" f_taken:=⟨a_taken,i_taken,k_taken⟩
 have F_over:=a2a (st:=b1k) l_over c_over k_over
 have b_over:=F_over.binds (ps:=["self"]) fun _ _ _ _ _ _ us hl=>match us,hl with | [_],_=>rfl
 have m_over:Meth K C_Words "are_over" f_over:=⟨a_over,i_over,k_over⟩
 have F_wfin:=a2a (st:=b1l) l_wfin c_wfin k_wfin
 have b_wfin:=F_wfin.binds (ps:=["self"]) fun _ _ _ _ _ _ us hl=>match us,hl with | [_],_=>rfl
 have m_wfin:Meth K C_Words "finish" f_wfin:=⟨a_wfin,i_wfin,k_wfin⟩
 have T_Words:TxtF K mg C_Words:=⟨⟨pg_Words,hd_Words,po_Words,sa_Words⟩,n_Words_row,n_Words_words,n_Words_place,W.mg_of X G aC_Words⟩
 have M_Words:Mk K C_Words f_winit:=⟨mk_Words,a_winit,i_winit,kc_Words⟩
 have F_minit:=a2a (st:=a9l) l_minit c_minit k_minit
 have b_minit:=F_minit.binds (ps:=["self"]) fun _ _ _ _ _ _ us hl=>match us,hl with | [_],_=>rfl
 have F_told:=a2a (st:=b1r) l_told c_told k_told
 have b_told:=F_told.binds (ps:=["self"]) fun _ _ _ _ _ _ us hl=>match us,hl with | [_],_=>rfl
 have m_told:Meth K C_MachineReading "told_machine" f_told:=⟨a_told,i_told,k_told⟩
 have F_rrow:=a2a (st:=a7o) l_rrow c_rrow k_rrow
 have b_rrow:=F_rrow.binds (ps:=["self","words"]) fun _ _ _ _ _ _ us hl=>match us,hl with | [_,_],_=>rfl
 have m_rrow:Meth K C_MachineReading "read_row" f_rrow:=⟨a_rrow,i_rrow,k_rrow⟩
 have F_may:=a2a (st:=b4s) l_may c_may k_may
 have b_may:=F_may.binds (ps:=["self","word"]) fun _ _ _ _ _ _ us hl=>match us,hl with | [_,_],_=>rfl
 have m_may:Meth K C_MachineReading "may_begin_row" f_may:=⟨a_may,i_may,k_may⟩
 have F_boxn:=a2a (st:=b1p) l_boxn c_boxn k_boxn
 have b_boxn:=F_boxn.binds (ps:=["self","word"]) fun _ _ _ _ _ _ us hl=>match us,hl with | [_,_],_=>rfl
 have m_boxn:Meth K C_MachineReading "is_box_name" f_boxn:=⟨a_boxn,i_boxn,k_boxn⟩
 have F_rbox:=a2a (st:=b0h) l_rbox c_rbox k_rbox
 have b_rbox:=F_rbox.binds (ps:=["self","words"]) fun _ _ _ _ _ _ us hl=>match us,hl with | [_,_],_=>rfl
 have m_rbox:Meth K C_MachineReading "read_box" f_rbox:=⟨a_rbox,i_rbox,k_rbox⟩
 have F_rseer:=a2a (st:=a6z) l_rseer c_rseer k_rseer
 have b_rseer:=F_rseer.binds (ps:=["self","words"]) fun _ _ _ _ _ _ us hl=>match us,hl with | [_,_],_=>rfl
 have m_rseer:Meth K C_MachineReading "read_seer" f_rseer:=⟨a_rseer,i_rseer,k_rseer⟩
 have F_rwhole:=a2a (st:=a8a) l_rwhole c_rwhole k_rwhole
 have b_rwhole:=F_rwhole.binds (ps:=["self","words"]) fun _ _ _ _ _ _ us hl=>match us,hl with | [_,_],_=>rfl
 have m_rwhole:Meth K C_MachineReading "read_whole_reckoning" f_rwhole:=⟨a_rwhole,i_rwhole,k_rwhole⟩
 have F_rreck:=a2a (st:=a6y) l_rreck c_rreck k_rreck
 have b_rreck:=F_rreck.binds (ps:=["self","words"]) fun _ _ _ _ _ _ us hl=>match us,hl with | [_,_],_=>rfl
 have m_rreck:Meth K C_MachineReading "read_reckoning" f_rreck:=⟨a_rreck,i_rreck,k_rreck⟩
 have T_MachineReading:RdF K mg C_MachineReading:=⟨⟨pg_MachineReading,hd_MachineReading,po_MachineReading,sa_MachineReading⟩,n_MachineReading_latest,n_MachineReading_boxes,n_MachineReading_seers,n_MachineReading_deeds,n_MachineReading_facts,n_MachineReading_left,W.mg_of X G aC_MachineReading⟩
 have M_MachineReading:Mk K C_MachineReading f_minit:=⟨mk_MachineReading,a_minit,i_minit,kc_MachineReading⟩
 have B:Bl mg:=⟨W.mg_none_of X G z_len,W.mg_none_of X G z_range,W.mg_none_of X G z_tuple,W.mg_none_of X G z_bool,W.mg_none_of X G z_isinstance,W.mg_none_of X G z_reversed,W.mg_none_of X G z_max,W.mg_none_of X G z_zip,W.mg_none_of X G z_list,W.mg_none_of X G z_str,W.mg_none_of X G z_enumerate,W.mg_none_of X G z_dict,W.mg_none_of X G z_sum,W.mg_none_of X G z_int,W.mg_none_of X G z_min,W.mg_none_of X G z_sorted,W.mg_none_of X G z_all,W.mg_none_of X G z_set,W.mg_none_of X G z_repr,W.mg_none_of X G z_any⟩
 have e_ROWS_BEHIND_0:∀ (S:Addr->Prop) (H:Hp),AtD K H S (.tuple [.str "box"]) (.ref p_ROWS_BEHIND_0):=b1g (vs:=[.str "box"]) l_ROWS_BEHIND_0 rfl rfl (by show 1 <= sizeLine;decide) (.cons ⟨_,rfl⟩ .nil) (fun S H=>by simp [a0b,AtD])
 have e_ROWS_BEHIND_1:∀ (S:Addr->Prop) (H:Hp),AtD K H S (.tuple [.str "box",.str "hand",.str "deed",.str "fact"]) (.ref p_ROWS_BEHIND_1):=b1g (vs:=[.str "box",.str "hand",.str "deed",.str "fact"]) l_ROWS_BEHIND_1 rfl rfl (by show 4 <= sizeLine;decide) (.cons ⟨_,rfl⟩ (.cons ⟨_,rfl⟩ (.cons ⟨_,rfl⟩ (.cons ⟨_,rfl⟩ .nil)))) (fun S H=>by simp [a0b,AtD])
 have e_ROWS_BEHIND_2:∀ (S:Addr->Prop) (H:Hp),AtD K H S (.tuple [.str "hand",.str "deed",.str "fact"]) (.ref p_ROWS_BEHIND_2):=b1g (vs:=[.str "hand",.str "deed",.str "fact"]) l_ROWS_BEHIND_2 rfl rfl (by show 3 <= sizeLine;decide) (.cons ⟨_,rfl⟩ (.cons ⟨_,rfl⟩ (.cons ⟨_,rfl⟩ .nil))) (fun S H=>by simp [a0b,AtD])
 have e_ROWS_BEHIND_3:∀ (S:Addr->Prop) (H:Hp),AtD K H S (.tuple [.str "lay",.str "deed",.str "fact"]) (.ref p_ROWS_BEHIND_3):=b1g (vs:=[.str "lay",.str "deed",.str "fact"]) l_ROWS_BEHIND_3 rfl rfl (by show 3 <= sizeLine;decide) (.cons ⟨_,rfl⟩ (.cons ⟨_,rfl⟩ (.cons ⟨_,rfl⟩ .nil))) (fun S H=>by simp [a0b,AtD])
 have e_ROWS_BEHIND_4:∀ (S:Addr->Prop) (H:Hp),AtD K H S (.tuple [.str "lay",.str "deed",.str "fact"]) (.ref p_ROWS_BEHIND_4):=b1g (vs:=[.str "lay",.str "deed",.str "fact"]) l_ROWS_BEHIND_4 rfl rfl (by show 3 <= sizeLine;decide) (.cons ⟨_,rfl⟩ (.cons ⟨_,rfl⟩ (.cons ⟨_,rfl⟩ .nil))) (fun S H=>by simp [a0b,AtD])
 have e_ROWS_BEHIND_5:∀ (S:Addr->Prop) (H:Hp),AtD K H S (.tuple [.str "fact"]) (.ref p_ROWS_BEHIND_5):=b1g (vs:=[.str "fact"]) l_ROWS_BEHIND_5 rfl rfl (by show 1 <= sizeLine;decide) (.cons ⟨_,rfl⟩ .nil) (fun S H=>by simp [a0b,AtD])
 have t_ROWS_BEHIND:Tab K w mg "ROWS_BEHIND" a2q:=by
  refine⟨aT_ROWS_BEHIND,[("",.ref p_ROWS_BEHIND_0),("box",.ref p_ROWS_BEHIND_1),("hand",.ref p_ROWS_BEHIND_2),("deed",.ref p_ROWS_BEHIND_3),("lay",.ref p_ROWS_BEHIND_4),("fact",.ref p_ROWS_BEHIND_5)],W.mg_of X G a_ROWS_BEHIND,⟨show(["","box","hand","deed","lay","fact"]:List Str).Nodup by decide +kernel,_,_,l_ROWS_BEHIND,(.cons (by rfl) (.cons (by rfl) (.cons (by rfl) (.cons (by rfl) (.cons (by rfl) (.cons (by rfl) .nil))))))⟩,?_⟩
  refine c3s (K:=K) (l:=[("",.tuple [.str "box"],.ref p_ROWS_BEHIND_0),("box",.tuple [.str "box",.str "hand",.str "deed",.str "fact"],.ref p_ROWS_BEHIND_1),("hand",.tuple [.str "hand",.str "deed",.str "fact"],.ref p_ROWS_BEHIND_2),("deed",.tuple [.str "lay",.str "deed",.str "fact"],.ref p_ROWS_BEHIND_3),("lay",.tuple [.str "lay",.str "deed",.str "fact"],.ref p_ROWS_BEHIND_4),("fact",.tuple [.str "fact"],.ref p_ROWS_BEHIND_5)]) (fun q hq=>?_)
  simp only [mem_cons,not_mem_nil,or_false] at hq
  rcases hq with rfl | rfl | rfl | rfl | rfl | rfl
  ·exact e_ROWS_BEHIND_0
  ·exact e_ROWS_BEHIND_1
  ·exact e_ROWS_BEHIND_2
  ·exact e_ROWS_BEHIND_3
  ·exact e_ROWS_BEHIND_4
  ·exact e_ROWS_BEHIND_5
 have m_FIGURES:∃ t,mg "FIGURES" = some (.str "0123456789" t):=⟨_,W.mg_of X G a_FIGURES⟩
 have m_LONGEST_NAME:∃ t,mg "LONGEST_NAME" = some (.int 8 t):=⟨_,W.mg_of X G a_LONGEST_NAME⟩
 have m_GREATEST:∃ t,mg "GREATEST" = some (.int 999 t):=⟨_,W.mg_of X G a_GREATEST⟩
 have m_MOST_RECKONINGS:∃ t,mg "MOST_RECKONINGS" = some (.int 20 t):=⟨_,W.mg_of X G a_MOST_RECKONINGS⟩
 have m_MOST_BOXES:∃ t,mg "MOST_BOXES" = some (.int 6 t):=⟨_,W.mg_of X G a_MOST_BOXES⟩
 have m_MOST_SEERS:∃ t,mg "MOST_SEERS" = some (.int 4 t):=⟨_,W.mg_of X G a_MOST_SEERS⟩
 have m_MOST_DEEDS:∃ t,mg "MOST_DEEDS" = some (.int 60 t):=⟨_,W.mg_of X G a_MOST_DEEDS⟩
 have m_MOST_FACTS:∃ t,mg "MOST_FACTS" = some (.int 8 t):=⟨_,W.mg_of X G a_MOST_FACTS⟩
 have kd_INNER:KDict K w aT_INNER [("add",.int 2),("sub",.int 2),("times",.int 2),("less",.int 2),("same",.int 2),("pick",.int 3)]:=⟨show(["add","sub","times","less","same","pick"]:List Str).Nodup by decide +kernel,_,_,l_INNER,(.cons ⟨_,rfl⟩ (.cons ⟨_,rfl⟩ (.cons ⟨_,rfl⟩ (.cons ⟨_,rfl⟩ (.cons ⟨_,rfl⟩ (.cons ⟨_,rfl⟩ .nil))))))⟩
 have ti_INNER:TabI K w mg "INNER" ["add","sub","times","less","same","pick"]:=⟨aT_INNER,_,W.mg_of X G a_INNER,kd_INNER,sy_INNER,rfl⟩
 have t_INNER:Tab K w mg "INNER" [("add",.int 2),("sub",.int 2),("times",.int 2),("less",.int 2),("same",.int 2),("pick",.int 3)]:=by
  refine⟨aT_INNER,_,W.mg_of X G a_INNER,kd_INNER,?_⟩
  refine c3s (K:=K) (l:=[("add",.int 2,.int 2),("sub",.int 2,.int 2),("times",.int 2,.int 2),("less",.int 2,.int 2),("same",.int 2,.int 2),("pick",.int 3,.int 3)]) (fun q hq=>?_)
  simp only [mem_cons,not_mem_nil,or_false] at hq
  rcases hq with rfl | rfl | rfl | rfl | rfl | rfl<;>exact fun _ _=>a1y _
 refine⟨W.fnOf "law" "law" (a1t a9b) (a1o a9b) (a0h a9b) .none kV_law dc_law pm_law an_law cd_law ct_law,fun s v=>.of_eq rfl,fun base _ _ bm=>?_⟩
 have gn:FnOk P w K mg base CX0 3 c6t _ _ _:=d8v b7d B a4e b2k
 have gN:FnOk P w K mg base CX0 4 c2h _ _ (spD K b5p):=c9t b3y B a0q gn
 have gS:∀ m,FnOk P w K mg base CX0 (m + 5) d0g _ _ (spD K (b6v m)):=fun m=>by
  induction m with
  | zero=>exact b4n fun ls Q h=>by obtain⟨_,d,_,_,h0,_⟩:=h;omega
  | succ m ih=>exact e4v b8u B a0q (gn.mono (by omega)) b0d (gN.mono (by omega)) a3t ih
 have gM:FnOk P w K mg base CX0 4 c2t _ _ (spD K b7y):=d3a b5e B a0q gn
 have gB:FnOk P w K mg base CX0 4 d0i _ _ (spD K c6i):=e4w b8v B a0q gn
 have gO:FnOk P w K mg base CX0 4 b5x _ _ (spD K c1n):=d9a b0i B a0q gn
 have gD:FnOk P w K mg base CX0 26 c6v _ _ (spD K c1o):=d9b b7e B a0q (gn.mono (by decide:3 <= 25)) a3t (gS 20)
 have gX:FnOk P w K mg base CX0 27 b9c _ _ (spD K b3t):=c6k b2y B a0q (gn.mono (by decide:3 <= 26)) b0s (gM.mono (by decide:4 <= 26)) a3t ((gS 20).mono (by decide:25 <= 26)) b3u (gB.mono (by decide:4 <= 26)) a6r (gO.mono (by decide:4 <= 26)) b2q gD
 have h1:FnOk P w K mg base CX0 1 f_is_figures _ _ (spD K b6x):=d9c F_is_figures B m_FIGURES
 have h2:FnOk P w K mg base CX0 1 f_is_name _ _ (spD K b0e):=c6n F_is_name B m_LONGEST_NAME
 have h3:∀ m,FnOk P w K mg base CX0 (m + 1) f_shown_reckoning _ _ (spD K (b0q m)):=fun m=>by
  induction m with
  | zero=>exact b4n fun ls Q h=>by obtain⟨_,_,_,h0,_⟩:=h;omega
  | succ m ih=>exact e4x F_shown_reckoning B d_shown_reckoning ih
 have h4:∀ m,FnOk P w K mg base CX0 (m + 1) c2v _ _ (spD K (b0q m)):=fun m=>by
  induction m with
  | zero=>exact b4n fun ls Q h=>by obtain⟨_,_,_,h0,_⟩:=h;omega
  | succ m ih=>exact d3g b5f B a3u ih
 have h5:FnOk P w K mg base CX0 7 f_shown_machine _ _ (spD K b4p):=e4y F_shown_machine B d_shown_reckoning (h3 5)
 have h6:FnOk P w K mg base CX0 7 c6z _ _ (spD K b4p):=d9h b7g B a3u (h4 5)
 have h7:FnOk P w K mg base CX0 2 f_is_number _ _ (b6z K):=d9l F_is_number d_is_figures h1
 have h8:FnOk P w K mg base CX0 2 f_is_behind _ _ (b2t K):=d0a F_is_behind B d_is_name h2
 have i1:FnOk P w K mg base CX0 4 f_winit _ _ (b7z C_Words):=d3e F_winit T_Words
 have i2:FnOk P w K mg base CX0 3 f_over _ _ (b3w C_Words):=d9f F_over B T_Words
 have i3:FnOk P w K mg base CX0 5 f_taken _ _ (a7y P w K mg base 4 C_Words):=d3f F_taken T_Words m_over b_over i2
 have i4:FnOk P w K mg base CX0 5 f_wfin _ _ (c1q C_Words):=d9g F_wfin T_Words m_over b_over i2
 have j1:FnOk P w K mg base CX0 1 f_boxn _ _ (b1o K C_MachineReading):=d9m F_boxn B T_MachineReading
 have j2:FnOk P w K mg base CX0 6 f_read_number _ _ (c1v K C_Words):=d9n F_read_number B T_Words bm hc_read_number hC_read_number m_taken b_taken i3 d_is_number (h7.mono (by decide:2 <= 3))
 have j3:∀ m,FnOk P w K mg base CX0 (m + 6) f_rreck _ _ (b9q K C_Words C_MachineReading m):=fun m=>by
  induction m with
  | zero=>exact⟨fun vs H Q E h=>by obtain⟨_,_,_,_,_,_,_,_,_,_,_,_,_,_,a,_,_,_,_,_,_,_,_,_,_,h0,_⟩:=h;exact absurd h0 (by have:=b5t a;omega),fun A outer s H args us vs Q E _ _ _ _ h=>by obtain⟨_,_,_,_,_,_,_,_,_,_,_,_,_,_,a,_,_,_,_,_,_,_,_,_,_,h0,_⟩:=h;exact absurd h0 (by have:=b5t a;omega)⟩
  | succ m ih=>exact d3i (n:=3) (by omega:3 + 3 <= m + 6) F_rreck B T_Words T_MachineReading bm hc_rreck hC_rreck ti_INNER t_INNER m_taken b_taken i3 d_is_number (h7.mono (by decide:2 <= 3)) m_boxn b_boxn (j1.mono (by decide:1 <= 3)) m_rreck b_rreck ih
 have j4:FnOk P w K mg base CX0 27 f_rwhole _ _ (b5w K C_Words C_MachineReading):=d0c F_rwhole T_MachineReading m_MOST_RECKONINGS m_rreck b_rreck (j3 20)
 have j5:FnOk P w K mg base CX0 7 f_rbox _ _ (c2a K C_Words C_MachineReading):=d9t (n:=3) (by decide:3 + 3 <= 6) F_rbox T_Words T_MachineReading bm hc_rbox hC_rbox m_GREATEST m_taken b_taken i3 d_is_name (h2.mono (by decide:1 <= 3)) m_boxn b_boxn (j1.mono (by decide:1 <= 3)) d_read_number j2
 have j6:FnOk P w K mg base CX0 6 f_rseer _ _ (b8c K C_Words C_MachineReading):=d3j (n:=3) (by decide:3 + 2 <= 5) F_rseer B T_Words T_MachineReading bm hc_rseer hC_rseer m_taken b_taken i3 d_is_behind (h8.mono (by decide:2 <= 3)) m_boxn b_boxn (j1.mono (by decide:1 <= 3)) m_over b_over i2
 have j7:FnOk P w K mg base CX0 1 f_may _ _ (c6r K C_MachineReading):=e5c F_may B T_MachineReading t_ROWS_BEHIND m_MOST_BOXES m_MOST_SEERS m_MOST_DEEDS m_MOST_FACTS
 have j8:FnOk P w K mg base CX0 28 f_rrow _ _ (c2b K C_Words C_MachineReading):=d9v (n:=3) (by decide:3 + 2 <= 27) F_rrow B T_Words T_MachineReading bm hc_rrow hC_rrow m_taken b_taken i3 m_may b_may (j7.mono (by decide:1 <= 3)) m_boxn b_boxn (j1.mono (by decide:1 <= 3)) d_is_behind (h8.mono (by decide:2 <= 3)) m_rbox b_rbox (j5.mono (by decide:7 <= 27)) m_rseer b_rseer (j6.mono (by decide:6 <= 27)) m_rwhole b_rwhole j4 m_wfin b_wfin (i4.mono (by decide:5 <= 27))
 have j9:FnOk P w K mg base CX0 1 f_minit _ _ (b8d K C_MachineReading):=d3l F_minit T_MachineReading
 have k1:FnOk P w K mg base CX0 1 f_told _ _ (c2c K C_MachineReading):=d9w F_told B T_MachineReading
 have k2:FnOk P w K mg base CX0 29 f_read_machine _ _ (spD K b8e):=b7a F_read_machine B T_Words T_MachineReading M_Words b_winit (i1.mono (by decide:4 <= 27)) M_MachineReading b_minit (j9.mono (by decide:1 <= 27)) m_rrow b_rrow j8 m_told b_told (k1.mono (by decide:1 <= 28))
 have k3:∀ m,FnOk P w K mg base CX0 (m + 1) c6x _ _ (spD K (b4w m)):=fun m=>by
  induction m with
  | zero=>exact b4n fun ls Q h=>by obtain⟨_,_,h0,_⟩:=h;exact h0
  | succ m ih=>exact d3n b7f B a3s ih
 exact e5e F_law B a8t (gX.mono (by decide:27 <= 49)) b2v (h6.mono (by decide:7 <= 49)) d_shown_machine (h5.mono (by decide:7 <= 49)) d_read_machine (k2.mono (by decide:29 <= 49)) a3s ((k3 11).mono (by decide:12 <= 49))
end K79
namespace PySem.W.Fast
def tw14706758072459928584:=()
def tw17735031387077796224:=()
def tw1414057831514928622:=PySem.Challenge.pw_worldsay_k79_machines_written
theorem te1414057831514928622:PySem.Challenge.pw_worldsay_k79_machines_written=tw1414057831514928622:=rfl
def tw5493828214343891397:=()
def tw3094752988212825093:=()
def tw6187913255392431009:=()
def tw13599849966661673692:=()
def tw8017848644257332965:=()
def tw4649367220882975879:=()
def tw3004781494241769255:=()
def tw1815196511669590234:=()
def tw14738862652946971273:=()
def tw17733047571804908304:=()
def tw10131109613086605242:=()
def tw12767523890078407692:=()
def tw14705259545058580854:=()
def tw18240629626948802114:=()
def tw7115146622220269560:=()
def tw736803224097483439:=()
def tw10997288341647486622:=()
def tw7735323482312692324:=()
def tw10996839574489651802:=()
def tw4102358949014724835:=()
def tw16330590775108692970:=()
def tw15641528323476517137:=()
def tw11630222603258125990:=()
def tw4978318387352566295:=()
def tw11629928975771324978:=()
def tw14152243458739692414:=()
def tw12270444016394344367:=()
def tw3402269995052070471:=()
def tw15201139367529919004:=()
def tw11434746907742978723:=()
def tw612121820007220409:=()
def tw15672517020625891070:=()
def tw17256116561120159215:=()
def tw3027018586046730983:=()
def tw7571023123380456931:=()
def tw14670395574150402574:=()
def tw10038079925425436873:=()
def tw4016171100371863546:=()
def tw542257751918524073:=()
def tw13054571603815439676:=()
def tw9751584053971995418:=()
def tw3252917447130922800:=()
def tw3082896417149260138:=()
def tw8470183447621088883:=()
def tw9144621879977773411:=()
def tw17304273062954369975:=()
def tw11682505265069556003:=()
def tw13228683745737078651:=()
def tw1008537032734780323:=()
def tw17154806215565469630:=()
def tw15962881409487594547:=()
def tw12459164785781302352:=()
def tw16620272510156071253:=()
def tw3930068830291519:=()
def tw5629402511775692140:=()
def tw349460093230090997:=()
def tw6716670739436599302:=()
def tw5313857821938848764:=()
def tw1135191071552940800:=()
def tw17336490641946030152:=()
def tw15604388442427187907:=()
def tw5275061044454992121:=()
def tw16685280411035286671:=()
def tw4974619912932949056:=()
def tw4224804062258412567:=()
def tw7042170642558277360:=()
def tw7874302806373771413:=()
def tw11859381260853814113:=()
def tw1286785695879966633:=()
def tw12538160498090284491:=()
def tw6862429363995098351:=()
def tw4153279186471464213:=()
def tw13777749316931368972:=()
def tw4278349300352380524:=()
def tw15663899682397092095:=()
def tw16840410612704216484:=()
def tw4540402158490148004:=()
def tw2043717779428845877:=()
def tw5892354917046512524:=()
def tw8221394701872344007:=()
def tw4886444479639070:=()
def tw17067813152736283376:=()
def tw12576136257406118:=()
def tw17276604884939384382:=()
def tw1222504375677009342:=()
def tw6088368571278094270:=()
def tw7376179677165828215:=()
def tw9466480086367746325:=()
def tw15527939002939110832:=()
def tw10443882983542115853:=()
def tw4873059015625404476:=()
def tw18420571349130654188:=()
def tw8921347924811654509:=()
def tw7127644131493731319:=()
def tw11062850246550787173:=()
def tw8946151844833107200:=()
def tw12969770045144245220:=()
end PySem.W.Fast
open PySem PySem.W PyProof.Rows
set_option maxRecDepth 100000 in
set_option maxHeartbeats 0 in
theorem PySem.Challenge.cw_worldsay_k79_machines_written_holds : PySem.Challenge.rw_worldsay_k79_machines_written.Holds := by
 w_on;o_law;k_head;(case hw=>w_witness2)
 k_fill
 refine L2.d2r (tl:=[(146,144,"MachineReading.read_row.<locals>.<lambda>"),(165,161,"MachineReading.read_box.<locals>.<lambda>"),(172,168,"MachineReading.read_seer.<locals>.<lambda>"),(186,182,"MachineReading.read_reckoning.<locals>.<lambda>"),(214,210,"read_number.<locals>.<lambda>")]) (l:=PySem.Challenge.rw_worldsay_k79_machines_written) (n:=63) (k:=50) (x:="_law_script") (CX:=fun _=>L2.CX0) (sp:=fun w=>L2.b9m (_:PySem.W.Frag)) rfl (by decide) rfl ⟨rfl,by decide,by decide,rfl⟩ (fun w h Y=>⟨PySem.W.km_in_of Y,fun p hp=>PySem.W.km_tabs_of Y _ (by revert p;decide)⟩) (fun w=>by rfl) (by decide) (fun w=>by rfl) ?F (fun w H a ns hl hO hS=>⟨a,ns,rfl,hS,hO,hl,fun _=>rfl⟩) (fun _ _ _ _ _ z=>z)
 case F =>
  intro w mg fa h KX G hmg
  refine' K79.e5f KX G hmg ?h_is_name ?h_is_figures ?h_shown_machine ?h_shown_reckoning ?h_read_machine ?h_is_behind ?h_is_number ?h_read_number ?h_law_cell_at ?h_law_by ?h_law_next ?h_law_number ?h_law_sum ?h_law_names ?h_law_box ?h_law_some_names ?h_law_deed ?h_law_machine ?h_law_same ?h_law_words ?h_law_rows ?a_law ?l_law ?c_law ?k_law ?aC_Words ?a_winit ?i_winit ?l_winit ?c_winit ?k_winit ?a_taken ?i_taken ?l_taken ?c_taken ?k_taken ?a_over ?i_over ?l_over ?c_over ?k_over ?a_wfin ?i_wfin ?l_wfin ?c_wfin ?k_wfin ?pg_Words ?hd_Words ?po_Words ?sa_Words ?mk_Words ?kc_Words ?n_Words_row ?n_Words_words ?n_Words_place ?aC_MachineReading ?a_minit ?i_minit ?l_minit ?c_minit ?k_minit ?a_told ?i_told ?l_told ?c_told ?k_told ?a_rrow ?i_rrow ?l_rrow ?c_rrow ?k_rrow ?hc_rrow ?hC_rrow ?a_may ?i_may ?l_may ?c_may ?k_may ?a_boxn ?i_boxn ?l_boxn ?c_boxn ?k_boxn ?a_rbox ?i_rbox ?l_rbox ?c_rbox ?k_rbox ?hc_rbox ?hC_rbox ?a_rseer ?i_rseer ?l_rseer ?c_rseer ?k_rseer ?hc_rseer ?hC_rseer ?a_rwhole ?i_rwhole ?l_rwhole ?c_rwhole ?k_rwhole ?a_rreck ?i_rreck ?l_rreck ?c_rreck ?k_rreck ?hc_rreck ?hC_rreck ?pg_MachineReading ?hd_MachineReading ?po_MachineReading ?sa_MachineReading ?mk_MachineReading ?kc_MachineReading ?n_MachineReading_latest ?n_MachineReading_boxes ?n_MachineReading_seers ?n_MachineReading_deeds ?n_MachineReading_facts ?n_MachineReading_left ?z_len ?z_range ?z_tuple ?z_bool ?z_isinstance ?z_reversed ?z_max ?z_zip ?z_list ?z_str ?z_enumerate ?z_dict ?z_sum ?z_int ?z_min ?z_sorted ?z_all ?z_set ?z_repr ?z_any ?a_ROWS_BEHIND ?l_ROWS_BEHIND ?l_ROWS_BEHIND_0 ?l_ROWS_BEHIND_1 ?l_ROWS_BEHIND_2 ?l_ROWS_BEHIND_3 ?l_ROWS_BEHIND_4 ?l_ROWS_BEHIND_5 ?a_FIGURES ?a_LONGEST_NAME ?a_GREATEST ?a_MOST_RECKONINGS ?a_MOST_BOXES ?a_MOST_SEERS ?a_MOST_DEEDS ?a_MOST_FACTS ?a_INNER ?l_INNER ?sy_INNER
  (case h_is_name=>refine' K79.a4w ?h_is_namea ?h_is_namel ?h_is_namec ?h_is_namek rfl (fun _ _ _ _ _ _ _  => rfl);(case h_is_namea=>k_is);(case h_is_namel=>k_is);(case h_is_namec=>k_is);(case h_is_namek=>k_is))
  (case h_is_figures=>refine' K79.a4x ?h_is_figuresa ?h_is_figuresl ?h_is_figuresc ?h_is_figuresk rfl (fun _ _ _ _ _ _ _ _  => rfl);(case h_is_figuresa=>k_is);(case h_is_figuresl=>k_is);(case h_is_figuresc=>k_is);(case h_is_figuresk=>k_is))
  (case h_shown_machine=>refine' K79.a4w ?h_shown_machinea ?h_shown_machinel ?h_shown_machinec ?h_shown_machinek rfl (fun _ _ _ _ _ _ _  => rfl);(case h_shown_machinea=>k_is);(case h_shown_machinel=>k_is);(case h_shown_machinec=>k_is);(case h_shown_machinek=>k_is))
  (case h_shown_reckoning=>refine' K79.a4w ?h_shown_reckoninga ?h_shown_reckoningl ?h_shown_reckoningc ?h_shown_reckoningk rfl (fun _ _ _ _ _ _ _  => rfl);(case h_shown_reckoninga=>k_is);(case h_shown_reckoningl=>k_is);(case h_shown_reckoningc=>k_is);(case h_shown_reckoningk=>k_is))
  (case h_read_machine=>refine' K79.a4w ?h_read_machinea ?h_read_machinel ?h_read_machinec ?h_read_machinek rfl (fun _ _ _ _ _ _ _  => rfl);(case h_read_machinea=>k_is);(case h_read_machinel=>k_is);(case h_read_machinec=>k_is);(case h_read_machinek=>k_is))
  (case h_is_behind=>refine' K79.a4x ?h_is_behinda ?h_is_behindl ?h_is_behindc ?h_is_behindk rfl (fun _ _ _ _ _ _ _ _  => rfl);(case h_is_behinda=>k_is);(case h_is_behindl=>k_is);(case h_is_behindc=>k_is);(case h_is_behindk=>k_is))
  (case h_is_number=>refine' K79.a4w ?h_is_numbera ?h_is_numberl ?h_is_numberc ?h_is_numberk rfl (fun _ _ _ _ _ _ _  => rfl);(case h_is_numbera=>k_is);(case h_is_numberl=>k_is);(case h_is_numberc=>k_is);(case h_is_numberk=>k_is))
  (case h_read_number=>refine' K79.d0e ?h_read_numberh ?h_read_numbera ?h_read_numberl ?h_read_numberc ?h_read_numberk rfl (fun _ _ _ _ _ _ _ _ _  => rfl);(case h_read_numbera=>k_is);(case h_read_numberl=>k_is);(case h_read_numberc=>k_is);(case h_read_numberk=>k_is);(case h_read_numberh=>first | rfl | decide))
  (case h_law_cell_at=>refine' K79.a4x ?h_law_cell_ata ?h_law_cell_atl ?h_law_cell_atc ?h_law_cell_atk rfl (fun _ _ _ _ _ _ _ _  => rfl);(case h_law_cell_ata=>k_is);(case h_law_cell_atl=>k_is);(case h_law_cell_atc=>k_is);(case h_law_cell_atk=>k_is))
  (case h_law_by=>refine' K79.c2f ?h_law_bya ?h_law_byl ?h_law_byc ?h_law_byk rfl (fun _ _ _ _ _ _ _ _ _  => rfl);(case h_law_bya=>k_is);(case h_law_byl=>k_is);(case h_law_byc=>k_is);(case h_law_byk=>k_is))
  (case h_law_next=>refine' K79.a4x ?h_law_nexta ?h_law_nextl ?h_law_nextc ?h_law_nextk rfl (fun _ _ _ _ _ _ _ _  => rfl);(case h_law_nexta=>k_is);(case h_law_nextl=>k_is);(case h_law_nextc=>k_is);(case h_law_nextk=>k_is))
  (case h_law_number=>refine' K79.a4w ?h_law_numbera ?h_law_numberl ?h_law_numberc ?h_law_numberk rfl (fun _ _ _ _ _ _ _  => rfl);(case h_law_numbera=>k_is);(case h_law_numberl=>k_is);(case h_law_numberc=>k_is);(case h_law_numberk=>k_is))
  (case h_law_sum=>refine' K79.c2f ?h_law_suma ?h_law_suml ?h_law_sumc ?h_law_sumk rfl (fun _ _ _ _ _ _ _ _ _  => rfl);(case h_law_suma=>k_is);(case h_law_suml=>k_is);(case h_law_sumc=>k_is);(case h_law_sumk=>k_is))
  (case h_law_names=>refine' K79.a4x ?h_law_namesa ?h_law_namesl ?h_law_namesc ?h_law_namesk rfl (fun _ _ _ _ _ _ _ _  => rfl);(case h_law_namesa=>k_is);(case h_law_namesl=>k_is);(case h_law_namesc=>k_is);(case h_law_namesk=>k_is))
  (case h_law_box=>refine' K79.a4x ?h_law_boxa ?h_law_boxl ?h_law_boxc ?h_law_boxk rfl (fun _ _ _ _ _ _ _ _  => rfl);(case h_law_boxa=>k_is);(case h_law_boxl=>k_is);(case h_law_boxc=>k_is);(case h_law_boxk=>k_is))
  (case h_law_some_names=>refine' K79.a4x ?h_law_some_namesa ?h_law_some_namesl ?h_law_some_namesc ?h_law_some_namesk rfl (fun _ _ _ _ _ _ _ _  => rfl);(case h_law_some_namesa=>k_is);(case h_law_some_namesl=>k_is);(case h_law_some_namesc=>k_is);(case h_law_some_namesk=>k_is))
  (case h_law_deed=>refine' K79.a4x ?h_law_deeda ?h_law_deedl ?h_law_deedc ?h_law_deedk rfl (fun _ _ _ _ _ _ _ _  => rfl);(case h_law_deeda=>k_is);(case h_law_deedl=>k_is);(case h_law_deedc=>k_is);(case h_law_deedk=>k_is))
  (case h_law_machine=>refine' K79.a4w ?h_law_machinea ?h_law_machinel ?h_law_machinec ?h_law_machinek rfl (fun _ _ _ _ _ _ _  => rfl);(case h_law_machinea=>k_is);(case h_law_machinel=>k_is);(case h_law_machinec=>k_is);(case h_law_machinek=>k_is))
  (case h_law_same=>refine' K79.a4x ?h_law_samea ?h_law_samel ?h_law_samec ?h_law_samek rfl (fun _ _ _ _ _ _ _ _  => rfl);(case h_law_samea=>k_is);(case h_law_samel=>k_is);(case h_law_samec=>k_is);(case h_law_samek=>k_is))
  (case h_law_words=>refine' K79.a4w ?h_law_wordsa ?h_law_wordsl ?h_law_wordsc ?h_law_wordsk rfl (fun _ _ _ _ _ _ _  => rfl);(case h_law_wordsa=>k_is);(case h_law_wordsl=>k_is);(case h_law_wordsc=>k_is);(case h_law_wordsk=>k_is))
  (case h_law_rows=>refine' K79.a4w ?h_law_rowsa ?h_law_rowsl ?h_law_rowsc ?h_law_rowsk rfl (fun _ _ _ _ _ _ _  => rfl);(case h_law_rowsa=>k_is);(case h_law_rowsl=>k_is);(case h_law_rowsc=>k_is);(case h_law_rowsk=>k_is))
  (case a_law=>k_is)
  (case l_law=>k_is)
  (case c_law=>k_is)
  (case k_law=>k_is)
  (case aC_Words=>k_is)
  (case a_winit=>k_is)
  (case i_winit=>k_is)
  (case l_winit=>k_is)
  (case c_winit=>k_is)
  (case k_winit=>k_is)
  (case a_taken=>k_is)
  (case i_taken=>k_is)
  (case l_taken=>k_is)
  (case c_taken=>k_is)
  (case k_taken=>k_is)
  (case a_over=>k_is)
  (case i_over=>k_is)
  (case l_over=>k_is)
  (case c_over=>k_is)
  (case k_over=>k_is)
  (case a_wfin=>k_is)
  (case i_wfin=>k_is)
  (case l_wfin=>k_is)
  (case c_wfin=>k_is)
  (case k_wfin=>k_is)
  (case pg_Words=>k_is)
  (case hd_Words=>k_is)
  (case po_Words=>k_is)
  (case sa_Words=>k_is)
  (case mk_Words=>k_is)
  (case kc_Words=>k_is)
  (case n_Words_row=>k_is)
  (case n_Words_words=>k_is)
  (case n_Words_place=>k_is)
  (case aC_MachineReading=>k_is)
  (case a_minit=>k_is)
  (case i_minit=>k_is)
  (case l_minit=>k_is)
  (case c_minit=>k_is)
  (case k_minit=>k_is)
  (case a_told=>k_is)
  (case i_told=>k_is)
  (case l_told=>k_is)
  (case c_told=>k_is)
  (case k_told=>k_is)
  (case a_rrow=>k_is)
  (case i_rrow=>k_is)
  (case l_rrow=>k_is)
  (case c_rrow=>k_is)
  (case k_rrow=>k_is)
  (case hc_rrow=>rfl)
  (case hC_rrow=>first | rfl | decide)
  (case a_may=>k_is)
  (case i_may=>k_is)
  (case l_may=>k_is)
  (case c_may=>k_is)
  (case k_may=>k_is)
  (case a_boxn=>k_is)
  (case i_boxn=>k_is)
  (case l_boxn=>k_is)
  (case c_boxn=>k_is)
  (case k_boxn=>k_is)
  (case a_rbox=>k_is)
  (case i_rbox=>k_is)
  (case l_rbox=>k_is)
  (case c_rbox=>k_is)
  (case k_rbox=>k_is)
  (case hc_rbox=>rfl)
  (case hC_rbox=>first | rfl | decide)
  (case a_rseer=>k_is)
  (case i_rseer=>k_is)
  (case l_rseer=>k_is)
  (case c_rseer=>k_is)
  (case k_rseer=>k_is)
  (case hc_rseer=>rfl)
  (case hC_rseer=>first | rfl | decide)
  (case a_rwhole=>k_is)
  (case i_rwhole=>k_is)
  (case l_rwhole=>k_is)
  (case c_rwhole=>k_is)
  (case k_rwhole=>k_is)
  (case a_rreck=>k_is)
  (case i_rreck=>k_is)
  (case l_rreck=>k_is)
  (case c_rreck=>k_is)
  (case k_rreck=>k_is)
  (case hc_rreck=>rfl)
  (case hC_rreck=>first | rfl | decide)
  (case pg_MachineReading=>k_is)
  (case hd_MachineReading=>k_is)
  (case po_MachineReading=>k_is)
  (case sa_MachineReading=>k_is)
  (case mk_MachineReading=>k_is)
  (case kc_MachineReading=>k_is)
  (case n_MachineReading_latest=>k_is)
  (case n_MachineReading_boxes=>k_is)
  (case n_MachineReading_seers=>k_is)
  (case n_MachineReading_deeds=>k_is)
  (case n_MachineReading_facts=>k_is)
  (case n_MachineReading_left=>k_is)
  (case z_len=>k_is)
  (case z_range=>k_is)
  (case z_tuple=>k_is)
  (case z_bool=>k_is)
  (case z_isinstance=>k_is)
  (case z_reversed=>k_is)
  (case z_max=>k_is)
  (case z_zip=>k_is)
  (case z_list=>k_is)
  (case z_str=>k_is)
  (case z_enumerate=>k_is)
  (case z_dict=>k_is)
  (case z_sum=>k_is)
  (case z_int=>k_is)
  (case z_min=>k_is)
  (case z_sorted=>k_is)
  (case z_all=>k_is)
  (case z_set=>k_is)
  (case z_repr=>k_is)
  (case z_any=>k_is)
  (case a_ROWS_BEHIND=>k_is)
  (case l_ROWS_BEHIND=>k_is)
  (case l_ROWS_BEHIND_0=>k_is)
  (case l_ROWS_BEHIND_1=>k_is)
  (case l_ROWS_BEHIND_2=>k_is)
  (case l_ROWS_BEHIND_3=>k_is)
  (case l_ROWS_BEHIND_4=>k_is)
  (case l_ROWS_BEHIND_5=>k_is)
  (case a_FIGURES=>k_is)
  (case a_LONGEST_NAME=>k_is)
  (case a_GREATEST=>k_is)
  (case a_MOST_RECKONINGS=>k_is)
  (case a_MOST_BOXES=>k_is)
  (case a_MOST_SEERS=>k_is)
  (case a_MOST_DEEDS=>k_is)
  (case a_MOST_FACTS=>k_is)
  (case a_INNER=>k_is)
  (case l_INNER=>k_is)
  (case sy_INNER=>first | decide | rfl | k_is)
end
end
