import PyProof.Rows.All
import Wide.All
import OpenK.AllK
import Wide.FinOn
import Lean
import PyProof.EqAt
import PyProof.EqKinds
import PyProof.TupleCall
import PyProof.SetKind
import PyProof.SetNew
import PyProof.SetRoads
import PyProof.CollectIter
import PyProof.WalksMore
import PyProof.MakeMany
import PyProof.ZipIter
import PyProof.EnumMake
import PyProof.EnumFor
import KE.KDictOf
import KE.KEqDict
import PyProof.Rows.SortWalk
import PyProof.Rows.SortStr
import PyProof.ConsumeWalk
import KE.KItemsList
import PyProof.StrCalls
import PyProof.StrCaseBound
import PyProof.SetScanFacts
import KE.KSortTup
import PyProof.Rows.SortShellK
import PyProof.ReprRoads
import PyProof.ReprLen
import PyProof.ListRange
import PyProof.StrWalks
import PyProof.StrBlockI
import PyProof.SliceStr2
import PyProof.StrLawsIn
import KE.KDictList
import KE.KDictSum
import PyProof.FactsAll.set
import KE.KDictLaws
import PyProof.DictValues
import PyProof.DictWalks
import PyProof.TupleOfSeq
import PyProof.Draws
import PyProof.CallFns
import PyProof.Ascii
import PySem.Challenge.RW_worldsay_k02_what_is_a_world
open List (all_cons all_eq_true append_nil drop_eq_getElem_cons drop_zero eq_nil_of_length_eq_zero filterMap_cons getD_eq_getElem?_getD getElem?_append_right getElem?_eq_getElem getElem?_map getElem?_set_ne getElem?_set_self getElem?_toArray getElem_mem getElem_of_mem length_append length_cons length_drop length_map length_range length_replicate length_set length_take lookup_cons map_append map_cons map_map map_nil mem_append mem_append_right mem_cons mem_cons_of_mem mem_cons_self mem_filter mem_map mem_of_getElem? mem_of_mem_drop mem_of_mem_take mem_range mem_singleton nodup_cons not_mem_nil pairwise_cons pairwise_map rel_of_pairwise_cons size_toArray take_add_one take_length)
open PySem.Heap (get?_push_of_some get?_push_size lt_size size_push)
open Option (bind_eq_some_iff bind_some map_eq_some_iff map_some toList_some)
open Bool (and_eq_true false_eq_true not_eq_true)
open Array (getD_eq_getD_getElem? getElem?_eq_none getElem?_toList length_toList mem_toList_iff toList_push)
open Nat (le_add_left le_of_eq le_of_lt le_refl le_succ le_trans lt_irrefl lt_of_lt_of_le lt_succ_of_lt lt_succ_self ne_of_gt ne_of_lt not_lt not_lt_zero succ_le_succ zero_le)
open Int (emod_nonneg toNat_natCast)
open PySem.Calls (call_function_entry)
set_option Elab.async false
set_option linter.all false
set_option maxRecDepth 100000
set_option maxHeartbeats 4000000
noncomputable section
local macro_rules | `(term| 'k') => `(by decide +kernel)
local macro_rules | `(term| 'o') => `(by omega)
local macro_rules | `(term| 'd') => `(by decide)
local macro_rules | `(term| 'a') => `(⟨rfl,rfl,rfl,'k',rfl,'k','k'⟩)
local macro_rules | `(term| 'b') => `((PySem.Addr × PySem.Obj))
local macro_rules | `(term| 'c') => `((le_refl _))
local macro_rules | `(term| 'e') => `((by simp))
local macro_rules | `(term| 'f') => `((Or.inl rfl))
local macro_rules | `(term| 'g') => `(⟨(fun h=>nomatch h),(fun hq8=>by obtain⟨_,h⟩:=hq8;exact nomatch h)⟩)
local macro_rules | `(term| 'h') => `((Nat × Nat × Nat))
local macro_rules | `(term| 'i') => `((fun _ _=>rfl))
local macro_rules | `(term| 'j') => `((List Int))
local macro_rules | `(term| 'l') => `((fun ls Qd h=>by obtain⟨_,_,e,_⟩:=h;rw [e];rfl))
local macro_rules | `(term| 'm') => `((mem_cons_of_mem _ mem_cons_self))
local macro_rules | `(term| 'n') => `((fun ls Qd h=>by obtain⟨_,e,_⟩:=h;rw [e];rfl))
local macro_rules | `(term| 'p') => `((Int × PySem.Value))
local macro_rules | `(term| 'q') => `((PySem.Str × Nat))
section
namespace L2
open PySem PySem.Spec PyProof.Rows
abbrev Key:=Sum Int Str
noncomputable def keyIs:Key->Value->Bool
 | .inl k,v=>Value.isInt k v
 | .inr x,v=>Value.isStrOf x v
noncomputable def keyH(w:World):Key->Int
 | .inl k=>hashInt k
 | .inr x=>hashStr w x
def qa2a:∀ {k:Key} {v:Value},keyIs k v=true->(∃ i t,k=Sum.inl i/\v=Value.int i t) ∨ (∃ x t,k=Sum.inr x/\v=Value.str x t)
 | .inl i,v,h=>by
  obtain⟨t,e⟩:=Value.isInt_shape (k:=i) (v:=v) h;exact .inl ⟨i,t,rfl,e⟩
 | .inr x,v,h=>by
  obtain⟨t,e⟩:=Value.isStrOf_shape (x:=x) (v:=v) h;exact .inr ⟨x,t,rfl,e⟩
def key_ll(a b:Int):decide ((Sum.inl a:Key)=Sum.inl b)=(a == b):=by
 by_cases e:a=b
 ·subst e;simp
 ·have h:¬ (Sum.inl a:Key)=Sum.inl b:=fun q=>e (Sum.inl.inj q)
  rw [decide_eq_false h];exact(beq_eq_false_iff_ne.mpr e).symm
def key_rr(a b:Str):decide ((Sum.inr a:Key)=Sum.inr b)=decide (a=b):=by
 by_cases e:a=b
 ·subst e;simp
 ·have h:¬ (Sum.inr a:Key)=Sum.inr b:=fun q=>e (Sum.inr.inj q)
  rw [decide_eq_false h,decide_eq_false e]
def key_lr(a:Int)(b:Str):decide ((Sum.inl a:Key)=Sum.inr b)=false:=decide_eq_false (fun q=>nomatch q)
def key_rl(a:Str)(b:Int):decide ((Sum.inr a:Key)=Sum.inl b)=false:=decide_eq_false (fun q=>nomatch q)
noncomputable def qb3x(prog:Program)(w:World):PySem.KeyKind prog w Key where
 is:=keyIs
 hash:=keyH w
 inj:=fun v a b ha hb=>by
  rcases qa2a ha with⟨i,t,rfl,rfl⟩ | ⟨x,t,rfl,rfl⟩
  ·rcases qa2a hb with⟨j,u,rfl,e⟩ | ⟨y,u,rfl,e⟩
   ·injection e with e1 _;rw [e1]
   ·exact nomatch e
  ·rcases qa2a hb with⟨j,u,rfl,e⟩ | ⟨y,u,rfl,e⟩
   ·exact nomatch e
   ·injection e with e1 _;rw [e1]
 byValue:=fun k v h=>by
  rcases qa2a h with⟨i,t,rfl,rfl⟩ | ⟨x,t,rfl,rfl⟩<;>rfl
 pyHash:=fun hv h=>by
  rcases qa2a hv with⟨i,t,rfl,rfl⟩ | ⟨x,t,rfl,rfl⟩
  ·exact wpAny_pyHash_int h
  ·exact wpAny_pyHash_str h
 eqBool:=fun hu hv h=>by
  rcases qa2a hu with⟨i,t,rfl,rfl⟩ | ⟨x,t,rfl,rfl⟩
  ·rcases qa2a hv with⟨j,u,rfl,rfl⟩ | ⟨y,u,rfl,rfl⟩
   ·rw [key_ll] at h;exact wpAny_eqBool_int h
   ·rw [key_lr] at h;exact SeqAt.EqAt.int_str i t y u _ _ _ _ h
  ·rcases qa2a hv with⟨j,u,rfl,rfl⟩ | ⟨y,u,rfl,rfl⟩
   ·rw [key_rl] at h;exact SeqAt.EqAt.str_int x t j u _ _ _ _ h
   ·rw [key_rr] at h;exact wpAny_eqBool_str h
 «strs»:=fun k x t v h=>by
  rcases qa2a h with⟨i,u,rfl,e⟩ | ⟨y,u,rfl,e⟩
  ·exact nomatch e
  ·injection e with e1 _
   subst e1;cases v<;>rfl
end L2
namespace L2
open PySem PySem.Spec PyProof.Rows
inductive V where
 | non | bl (b:Bool) | int (i:Int) | str (x:Str) | byt (b:Array UInt8) | flt (b:UInt64) | ref (a:Addr) | ty (n:String)
 deriving DecidableEq
noncomputable def RelV:V->Value->Prop
 | .non,u=>u=Value.none
 | .bl b,u=>u=Value.bool b
 | .int i,u=>∃ t,u=Value.int i t
 | .str x,u=>∃ t,u=Value.str x t
 | .byt b,u=>∃ t,u=Value.bytes b t
 | .flt b,u=>∃ t,u=Value.float b t
 | .ref a,u=>u=Value.ref a
 | .ty n,u=>u=Value.type n
abbrev Vals:List V->List Value->Prop:=Paired RelV
def Vals.length{xs:List V}{us:List Value}(r:Vals xs us):xs.length=us.length:=Paired.length r
def Vals.get:∀ {xs:List V} {us:List Value} {i:Nat} {x:V},Vals xs us->xs[i]? = some x->∃ u,us[i]? = some u/\RelV x u
 | _,_,_,_,.nil,e=>by simp at e
 | _,_,0,_,.cons r _,e=>by simp at e;subst e;exact⟨_,rfl,r⟩
 | _,_,i + 1,x,.cons _ t,e=>by
  obtain⟨u,h1,h2⟩:=Vals.get (i:=i) (x:=x) t (by simpa using e);exact⟨u,by simpa using h1,h2⟩
def Vals.set{x:V}{u:Value}(r:RelV x u):∀ {xs:List V} {us:List Value} (i:Nat),Vals xs us->Vals (xs.set i x) (us.set i u)
 | _,_,_,.nil=>.nil
 | _,_,0,.cons _ t=>.cons r t
 | _,_,i + 1,.cons q t=>.cons q (Vals.set r i t)
def Vals.append:∀ {xs ys:List V} {us ws:List Value},Vals xs us->Vals ys ws->Vals (xs ++ ys) (us ++ ws)
 | _,_,_,_,.nil,s=>s
 | _,_,_,_,.cons r t,s=>.cons r (Vals.append t s)
def Vals.take:∀ {xs:List V} {us:List Value} (n:Nat),Vals xs us->Vals (xs.take n) (us.take n)
 | _,_,0,_=>.nil
 | _,_,_ + 1,.nil=>.nil
 | _,_,n + 1,.cons r t=>.cons r (Vals.take n t)
def Vals.drop:∀ {xs:List V} {us:List Value} (n:Nat),Vals xs us->Vals (xs.drop n) (us.drop n)
 | _,_,0,r=>r
 | _,_,_ + 1,.nil=>.nil
 | _,_,n + 1,.cons _ t=>Vals.drop n t
noncomputable def RelO:Option V->Option Value->Prop
 | some v,some u=>RelV v u
 | none,none=>True
 | _,_=>False
noncomputable def KV{κ:Type}:List (κ × V)->List (κ × Value)->Prop:=Paired fun(p:κ × V) (q:κ × Value)=>p.1=q.1/\RelV p.2 q.2
noncomputable def kV:Key->V
 | .inl i=>.int i
 | .inr x=>.str x
inductive HO where
 /-- a list -/
 | lst (xs:List V)
 /-- a tuple (never changes) -/
 | tup (xs:List V)
 /-- a dict whose keys are ints and texts; one whose keys are tuples of ints and texts (the empty one is both) -/
 | dK (kvs:List (Key × V)) | dT (kvs:List (List Key × V))
 /-- a set of ints: its members, its size -/
 | set (S:Int->Bool) (n:Nat)
 /-- an instance of the class at C, its dict at dx, its attributes -/
 | ins (C dx:Addr) (fs:List (Str × V))
 /-- the dict of the instance at x -/
 | own (x:Addr)
 /-- the dict of an exception -/
 | xd (fs:List (Str × V))
 /-- a bound method, f of x -/
 | met (f x:Addr)
 /-- a range object lo, lo + 1, .. below hi -/
 | rng (lo hi:Int)
 /-- a thing that is known to the object (the script; a dict while a loop walks it): read, never written while it is so -/
 | frz (o:Obj) (u:HO)
 /-- a code object's table -/
 | tbl (ps:Array Value)
 /-- any other thing, by what is true of its one object (a def of one's own: SetO a S n := HO.ext fun h => ..) -/
 | ext (φ:Heap->Prop)
abbrev Hp:=Addr->Option HO
noncomputable def upd(H:Hp)(a:Addr)(o:HO):Hp:=fun b=>if b=a then some o else H b
def qa0n{H:Hp}{a:Addr}{o:HO}:upd H a o a=some o:=by unfold upd;rw [if_pos rfl]
def qa0v{H:Hp}{a b:Addr}{o:HO}(h:b ≠ a):upd H a o b=H b:=by unfold upd;rw [if_neg h]
def ne_of{H:Hp}{a b:Addr}{o u:HO}(h:H a=some o)(h':H b=some u)(d:o ≠ u):a ≠ b:=by
 intro e;subst e;rw [h] at h';exact d (Option.some.inj h')
def qa2n{H:Hp}{a b:Addr}{o:HO}(h:H a=some o)(h':H b=none):a ≠ b:=by
 intro e;subst e;rw [h] at h';cases h'
def qa5g(h:Heap)(a:Addr)(items:Array Value):Prop:=∃ o,h.get? a=some o/\(o.cls=.type "tuple" /\ o.dict=none)/\∃ n,o.data=.seq items n
def qa5g.tup{h:Heap}{a:Addr}{items:Array Value}(x:qa5g h a items):IsTup h a items:=by obtain⟨o,e,c,n,d⟩:=x;exact⟨o,e,c.1,n,d⟩
def qa5g.new(h:Heap)(xs:Array Value):qa5g (h.push { cls:=.type "tuple",data:=.seq xs }) h.objs.size xs:=⟨_,get?_push_size _ rfl,⟨rfl,rfl⟩,_,rfl⟩
section
variable(P:Program)(w:World)
noncomputable def qa2x(H:Hp)(h:Heap)(a:Addr):HO->Prop
 | .lst xs=>xs.length <= sizeLine/\∃ (its:List Value) (n:Nat),Vals xs its/\h.get? a=some { cls:=.type "list",data:=.seq its.toArray n }
 | .tup xs=>xs.length <= sizeLine/\∃ its:List Value,Vals xs its/\qa5g h a its.toArray
 | .dK kvs=>kvs.length <= sizeLine/\(a == sysModules)=false/\∃ vs,KV kvs vs/\h.DictOf (qb3x P w) a vs
 | .dT kvs=>kvs.length <= sizeLine/\(a == sysModules)=false/\∃ xs:List (List Key × Addr × Value),
   Paired (fun(p:List Key × V) (q:List Key × Addr × Value)=>p.1=q.1/\H q.2.1=some (.tup (p.1.map kV))/\RelV p.2 q.2.2) kvs xs /\
   ∃ o es ep,h.get? a=some o/\o.ExactDict/\o.data=.dict es ep/\es.toList=xs.map (entryOfKey (tupleKind (qb3x P w)))/\(xs.map (·.1)).Nodup
 | .set S n=>h.SetOf (intKind P w) a S n
 | .ins C dx fs=>H dx=some (.own a)/\fs.length <= 1000/\dx ≠ a/\h.get? a=some (PySem.W.instObj C dx) /\
   ∃ mA,h.Ns1 dx mA/\(∀ f,RelO (fs.lookup f) (mA f))/\PySem.Within mA (fs.map (·.1))
 | .own _=>∃ o,h.get? a=some o
 | .xd fs=>∃ mA,h.Ns1 a mA/\∀ f,RelO (fs.lookup f) (mA f)
 | .rng lo hi=>∃ t u v,h.get? a=some { cls:=.type "range",data:=.fields #[.int lo t,.int hi u,.int 1 v] }
 | .frz o u=>h.get? a=some o/\qa2x H h a u
 | .tbl ps=>h.get? a=some { cls:=.none,data:=.fields ps }
 | .met f x=>h.get? a=some (PySem.W.methodObj (.ref f) (.ref x))
 | .ext φ=>φ h/\(∃ o,h.get? a=some o)/\∀ h1 h2:Heap,φ h1->(∀ o,h1.get? a=some o->h2.get? a=some o)->φ h2
def HOk(H:Hp)(h:Heap):Prop:=∀ a o,H a=some o->qa2x P w H h a o
end
section
variable{P:Program}{w:World}{H H':Hp}{h h':Heap}{a:Addr}{o:HO}
def qa2x.lt(x:qa2x P w H h a o):a < h.objs.size:=by
 cases o with
 | lst xs=>obtain⟨_,_,_,_,e⟩:=x;exact lt_size e
 | tup xs=>obtain⟨_,_,_,p⟩:=x;exact p.tup.lt
 | dK kvs=>obtain⟨_,_,_,_,o,_,_,e,_⟩:=x;exact lt_size e
 | dT kvs=>obtain⟨_,_,_,_,o,_,_,e,_⟩:=x;exact lt_size e
 | set S n=>obtain⟨o,_,_,_,e,_⟩:=x;exact lt_size e
 | ins C dx fs=>obtain⟨_,_,_,e,_⟩:=x;exact lt_size e
 | own y=>obtain⟨_,e⟩:=x;exact lt_size e
 | xd fs=>obtain⟨_,⟨_,_,_,e,_⟩,_⟩:=x;exact lt_size e
 | rng lo hi=>obtain⟨_,_,_,e⟩:=x;exact lt_size e
 | frz ob u=>obtain⟨e,_⟩:=x;exact lt_size e
 | tbl ps=>exact lt_size (show h.get? a=some _ from x)
 | met f y=>exact lt_size (show h.get? a=some _ from x)
 | ext φ=>obtain⟨_,⟨_,e⟩,_⟩:=x;exact lt_size e
def Paired.mapP{α β:Type}{F G:α->β->Prop}:∀ {l₁:List α} {l₂:List β},Paired F l₁ l₂->(∀ a b,F a b->G a b)->Paired G l₁ l₂
 | _,_,.nil,_=>.nil
 | _,_,.cons r t,f=>.cons (f _ _ r) (Paired.mapP t f)
def Paired.imp'{α β:Type}{F G:α->β->Prop}(f:∀ a b,F a b->G a b){l₁:List α}{l₂:List β}(r:Paired F l₁ l₂):Paired G l₁ l₂:=Paired.mapP r f
def qa2x.stay(x:qa2x P w H h a o)(k:∀ b u,(b=a ∨ H b=some (.own a))->h.get? b=some u->h'.get? b=some u)
  (ho:∀ b,H b=some (.own a)->H' b=some (.own a)) (ht:∀ b xs,H b=some (.tup xs)->H' b=some (.tup xs)):qa2x P w H' h' a o:=by
 induction o with
 | lst xs=>obtain⟨z,its,n,r,e⟩:=x;exact⟨z,its,n,r,k _ _ (.inl rfl) e⟩
 | tup xs=>obtain⟨z,its,r,ob,e,c⟩:=x;exact⟨z,its,r,ob,k _ _ (.inl rfl) e,c⟩
 | dK kvs=>obtain⟨z,y,vs,r,ob,es,ep,e,c⟩:=x;exact⟨z,y,vs,r,ob,es,ep,k _ _ (.inl rfl) e,c⟩
 | dT kvs =>
  obtain⟨z,y,xs,r,ob,es,ep,e,c⟩:=x;exact⟨z,y,xs,Paired.mapP r fun p q z=>⟨z.1,ht _ _ z.2.1,z.2.2⟩,ob,es,ep,k _ _ (.inl rfl) e,c⟩
 | set S n=>obtain⟨ob,es,ep,t,e,c⟩:=x;exact⟨ob,es,ep,t,k _ _ (.inl rfl) e,c⟩
 | ins C dx fs =>
  obtain⟨d,z,ne,e,mA,⟨od,es,ep,e2,c⟩,r⟩:=x;exact⟨ho _ d,z,ne,k _ _ (.inl rfl) e,mA,⟨od,es,ep,k _ _ (.inr d) e2,c⟩,r⟩
 | own y=>obtain⟨ob,e⟩:=x;exact⟨ob,k _ _ (.inl rfl) e⟩
 | xd fs=>obtain⟨mA,⟨od,es,ep,e,c⟩,r⟩:=x;exact⟨mA,⟨od,es,ep,k _ _ (.inl rfl) e,c⟩,r⟩
 | rng lo hi=>obtain⟨t,u,v,e⟩:=x;exact⟨t,u,v,k _ _ (.inl rfl) e⟩
 | frz ob u ih=>obtain⟨e,q⟩:=x;exact⟨k _ _ (.inl rfl) e,ih q⟩
 | tbl ps =>
  have e:h.get? a=some { cls:=.none,data:=.fields ps }:=x;show h'.get? a=some { cls:=.none,data:=.fields ps };exact k a _ (.inl rfl) e
 | met f y =>
  have e:h.get? a=some (PySem.W.methodObj (.ref f) (.ref y)):=x;show h'.get? a=some (PySem.W.methodObj (.ref f) (.ref y));exact k a _ (.inl rfl) e
 | ext φ=>obtain⟨p,⟨o,e⟩,st⟩:=x;exact⟨st _ _ p fun o q=>k _ _ (.inl rfl) q,⟨o,k _ _ (.inl rfl) e⟩,st⟩
def HOk.lt(x:HOk P w H h)(e:H a=some o):a < h.objs.size:=(x a o e).lt
def HOk.fresh(x:HOk P w H h)(e:h.objs.size <= a):H a=none:=by
 cases q:H a with
 | none=>rfl
 | some u=>exact absurd (lt_of_lt_of_le (x.lt q) e) (lt_irrefl _)
def HOk.kept(x:HOk P w H h)(k:∀ b u,h.get? b=some u->h'.get? b=some u):HOk P w H h':=fun a o e =>
 (x a o e).stay (fun b u _ q=>k b u q) (fun _ q=>q) fun _ _ q=>q
def HOk.laid(x:HOk P w H h)(k:∀ b u,h.get? b=some u->h'.get? b=some u)(hp:h.objs.size <= a)(new:qa2x P w (upd H a o) h' a o):HOk P w (upd H a o) h':=fun b u e=>by
 have hn:=x.fresh hp;by_cases hb:b=a
 ·subst hb;rw [qa0n] at e;cases e;exact new
 ·rw [qa0v hb] at e
  exact(x b u e).stay (fun c v _ q=>k c v q) (fun c q=>by rw [qa0v (qa2n q hn)];exact q) fun c xs q=>by rw [qa0v (qa2n q hn)];exact q
end
def Rd(H:Hp)(a:Addr)(u:HO):Prop:=H a=some u ∨ ∃ o,H a=some (.frz o u)
def Rd.ok{P:Program}{w:World}{H:Hp}{h:Heap}{a:Addr}{u:HO}(r:Rd H a u)(x:HOk P w H h):qa2x P w H h a u:=by
 rcases r with r | ⟨o,r⟩
 ·exact x a u r
 ·obtain⟨_,q⟩:=x a _ r
  exact q
noncomputable def Mut:Option HO->Prop
 | some (.lst _)=>True
 | some (.dK _)=>True
 | some (.dT _)=>True
 | some (.set _ _)=>True
 | some (.ins _ _ _)=>True
 | some (.ext _)=>True
 | _=>False
section
variable{P:Program}{w:World}{H:Hp}{h h':Heap}{x e:Addr}{o':HO}
def HOk.write(ok:HOk P w H h)(mu:Mut (H x))(he:e=x ∨ H e=some (.own x))(k:∀ b u,b ≠ e->h.get? b=some u->h'.get? b=some u)(heo:∃ u,h'.get? e=some u)
  (new:qa2x P w (upd H x o') h' x o'):HOk P w (upd H x o') h':=fun b u q=>by
 have nown:∀ c y,H c=some (.own y)->c ≠ x:=fun c y r z=>by subst z;rw [r] at mu;exact mu
 have ntup:∀ c xs,H c=some (.tup xs)->c ≠ x:=fun c xs r z=>by subst z;rw [r] at mu;exact mu
 by_cases hb:b=x
 ·subst hb;rw [qa0n] at q;cases q;exact new
 ·rw [qa0v hb] at q
  by_cases hbe:b=e
  ·have q':H b=some (.own x):=by
    rcases he with z | z
    ·exact absurd (hbe.trans z) hb
    ·rw [hbe];exact z
   rw [q] at q';cases q';obtain⟨v,hv⟩:=heo;exact⟨v,by rw [hbe];exact hv⟩
  ·refine(ok b u q).stay (fun c v hc r=>k c v ?_ r) (fun c r=>by rw [qa0v (nown c b r)];exact r) fun c xs r=>by rw [qa0v (ntup c xs r)];exact r
   rcases hc with rfl | hc
   ·exact hbe
   ·rintro rfl
    rcases he with z | z
    ·exact nown c b hc z
    ·rw [hc] at z;cases z;exact hb rfl
end
structure Un(fs ex:List Addr)(H H':Hp)(h h':Heap):Prop where
 keep:∀ b o,h.get? b=some o->H b=none->b ∉ fs->b ∉ ex->h'.get? b=some o
 slot:∀ b o,h.get? b=some o->H b=none->b ∈ fs->b ∉ ex->∃ sl,h'.get? b=some { o with slots:=sl }
 free:∀ b o,h.get? b=some o->H b=none->b ∉ ex->H' b=none
 there:∀ b o,h.get? b=some o->b ∉ ex->∃ o',h'.get? b=some o'
 tups:∀ b xs,H b=some (.tup xs)->H' b=some (.tup xs)
 frzs:∀ b o u,H b=some (.frz o u)->H' b=some (.frz o u)
 tbls:∀ b ps,H b=some (.tbl ps)->∃ more,H' b=some (.tbl (ps ++ more))
section
variable{fs fs' ex ex':List Addr}{H H1 H2:Hp}{h h1 h2 h':Heap}{a x e:Addr}{o:HO}
def Un.any(u:Un fs ex H H1 h h1){b:Addr}{ob:Obj}(q:h.get? b=some ob)(n:H b=none)(hx:b ∉ ex):∃ sl,h1.get? b=some { ob with slots:=sl }:=by
 by_cases hb:b ∈ fs
 ·exact u.slot b ob q n hb hx
 ·exact⟨ob.slots,u.keep b ob q n hb hx⟩
def Un.kept(k:∀ b u,h.get? b=some u->h'.get? b=some u):Un fs ex H H h h':=
 ⟨fun b ob q _ _ _=>k b ob q,fun b ob q _ _ _=>⟨ob.slots,k b ob q⟩,fun _ _ _ n _=>n,fun b ob q _=>⟨ob,k b ob q⟩,fun _ _ q=>q,fun _ _ _ q=>q,fun _ ps q=>⟨#[],by rw [q];simp⟩⟩
def Un.refl:Un fs ex H H h h:=Un.kept fun _ _ q=>q
def Un.laid(k:∀ b u,h.get? b=some u->h'.get? b=some u)(hp:h.objs.size <= a)(hn:H a=none):Un fs ex H (upd H a o) h h' where
 keep:=fun b u q _ _ _=>k b u q
 slot:=fun b u q _ _ _=>⟨u.slots,k b u q⟩
 free:=fun b u q n _=>by rw [qa0v (ne_of_lt (lt_of_lt_of_le (lt_size q) hp))];exact n
 there:=fun b u q _=>⟨u,k b u q⟩
 tups:=fun b xs q=>by rw [qa0v (qa2n q hn)];exact q
 frzs:=fun b u xs q=>by rw [qa0v (qa2n q hn)];exact q
 tbls:=fun b ps q=>⟨#[],by rw [qa0v (qa2n q hn),q];simp⟩
def Un.write(mu:Mut (H x))(he:e=x ∨ H e=some (.own x))(k:∀ b u,b ≠ e->h.get? b=some u->h'.get? b=some u)(heo:∃ u,h'.get? e=some u):Un fs ex H (upd H x o) h h':=by
 have hx:∀ b,H b=none->b ≠ x:=fun b n z=>by subst z;rw [n] at mu;exact mu
 have hb:∀ b,H b=none->b ≠ e:=fun b n z=>by
  subst z;rcases he with r | r
  ·exact hx b n r
  ·rw [n] at r;cases r
 have hm:∀ b u,H b=some u->¬ Mut (some u)->b ≠ x:=fun b u q nm z=>by subst z;rw [q] at mu;exact nm mu
 refine⟨fun b u q n _ _=>k b u (hb b n) q,fun b u q n _ _=>⟨u.slots,k b u (hb b n) q⟩,fun b u q n _=>by rw [qa0v (hx b n)];exact n,fun b u q _=>?_,
  fun b xs q=>by rw [qa0v (hm b _ q fun z=>z)];exact q,fun b u xs q=>by rw [qa0v (hm b _ q fun z=>z)];exact q,fun b ps q=>⟨#[],by rw [qa0v (hm b _ q fun z=>z),q];simp⟩⟩
 by_cases hbe:b=e
 ·subst hbe;exact heo
 ·exact⟨u,k b u hbe q⟩
end
noncomputable def trk(h:Heap)(H:Hp):List Addr:=(List.range h.objs.size).filter fun a=>(H a).isSome
noncomputable def hidT(h:Heap)(H:Hp):Heap:=PySem.W.hideAll h (trk h H)
def qc3c(h:Heap)(H:Hp):(hidT h H).objs.size=h.objs.size:=PySem.W.hideAll_size _ _
def qc5b{h:Heap}{H:Hp}{b:Addr}{o:Obj}(e:h.get? b=some o)(n:H b=none):(hidT h H).get? b=some o:=
 PySem.W.hideAll_get _ e fun hm=>by
  have q:(H b).isSome=true:=(mem_filter.mp hm).2;rw [n] at q;simp at q
def of_hidT{h:Heap}{H:Hp}{b:Addr}{o:Obj}(e:(hidT h H).get? b=some o):h.get? b=some o/\H b=none:=by
 have e':h.get? b=some o:=PySem.W.of_hideAll (trk h H) e;refine⟨e',?_⟩;cases q:H b with
 | none=>rfl
 | some x =>
  have hm:b ∈ trk h H:=mem_filter.mpr ⟨mem_range.mpr (lt_size e'),by simp [q]⟩;have z:(hidT h H).get? b=none:=PySem.W.hideAll_none (trk h H) hm;rw [z] at e;cases e
noncomputable def allNews(g h:Heap)(L:Addr):List 'b':=(List.range h.objs.size).filterMap fun a=>if a=L ∨ (g.get? a).isSome=true then none else(h.get? a).map fun o=>(a,o)
noncomputable def rest(g h:Heap)(L d:Addr):List 'b':=(allNews g h L).filter fun p=>decide (p.1 ≠ d)
end L2
namespace L2
open PySem PySem.Spec PyProof.Rows
structure Mod(K:W.Frag)(mg:Str->Option Value)(base:Heap):Prop where
 kin:K.In base
 glob:base.Ns mainGlobals mg
 blt:∃ mb,base.Ns builtinsNs mb/\∀ x:Str,x ≠ "__name__" -> mb x=bootBuiltins x
 nolimit:base.NoLimit
structure Cx where
 prog:Program
 w:World
 K:W.Frag
 mg:Str->Option Value
 base:Heap
 A:Around
 N:List Str
 s₀:Shared
 H₀:Hp
 env:Env
 outer:List Env
 stack:List Env
 ex:List Addr
 fn:Str->Bool
 calm:Bool
 pn:List 'b'
 xe:Value->Shared->Prop
noncomputable def frs(l:List Env):List Addr:=l.filterMap (·.frame)
abbrev Cx.fs(X:Cx):List Addr:=frs X.outer
def Vis(sc:Scope)(x:Str):Prop:=sc.names.lookup x=some .local ∨ sc.names.lookup x=some .cell ∨ sc.names.lookup x=some .free
def Loc(sc:Scope)(x:Str):Prop:=sc.names.lookup x=some .local ∨ sc.names.lookup x=some .cell
def Look(env:Env)(h:Heap)(m:Str->Option Value)(x:Str)(u:Value):Prop:=
 (env.kindOf x=some .local/\m x=some u) ∨ ((env.kindOf x=some .cell ∨ env.kindOf x=some .free)/\∃ c,env.cells.lookup x=some c/\h.IsCell c (some u))
structure Cx.Ok(X:Cx):Prop where
 mod:Mod X.K X.mg X.base
 kind:X.env.scope.kind=.function
 glob:X.env.globals=mainGlobals
 blt:X.env.builtins=builtinsNs
 above:X.s₀.heap.objs.size <= X.env.locals
 inj:∀ x y c,X.env.cells.lookup x=some c->X.env.cells.lookup y=some c->x=y
 has:∀ x,(X.env.kindOf x=some .cell ∨ X.env.kindOf x=some .free)->∃ c,X.env.cells.lookup x=some c
 cab:∀ x c,X.fn x=true->X.env.cells.lookup x=some c->X.s₀.heap.objs.size <= c
 hd:X.calm=true->X.A.handled=none
 frames:X.A.frames=some X.stack
 stk:X.stack=X.outer ∨ (X.stack=X.env :: X.outer/\X.env.frame=some X.env.locals)
 exf:∀ b ∈ X.ex,b ≠ X.env.locals/\∀ x c,X.env.cells.lookup x=some c->c ≠ b
 bs:∀ b o,X.base.get? b=some o->X.s₀.heap.get? b=some o/\X.H₀ b=none
 bsz:X.base.objs.size <= X.s₀.heap.objs.size
 noex:∀ b o,X.base.get? b=some o->b ∉ X.ex
 exfs:∀ b ∈ X.ex,b ∉ X.fs
 funs:X.s₀.heap.FunFrames X.base X.outer
 frf:∀ b ∈ X.fs,X.H₀ b=none
structure Inv(X:Cx)(pins:List 'b')(σ:List (Option V))(H:Hp)(s:Shared):Prop where
 ok:X.Ok
 os:s.os=X.s₀.os
 bare:AllBare s.gens
 base:Un X.fs X.ex X.H₀ H X.s₀.heap s.heap
 loc:∃ m,s.heap.Ns X.env.locals m/\∀ (i:Nat) (x:Str) (v:V),X.N[i]? = some x->σ[i]? = some (some v)->Vis X.env.scope x->∃ u,RelV v u/\Look X.env s.heap m x u
 cell:∀ x c,X.env.cells.lookup x=some c->∃ v,s.heap.IsCell c v
 free:H X.env.locals=none
 freeC:∀ x c,X.env.cells.lookup x=some c->H c=none
 pin:∀ p ∈ X.pn ++ pins,s.heap.get? p.1=some p.2/\H p.1=none/\p.1 ≠ X.env.locals/\p.1 ∉ X.fs/\∀ v,p.2.data ≠ .cell v
 hok:HOk X.prog X.w H s.heap
 len:σ.length=X.N.length
section
variable{X:Cx}{pins:List 'b'}{σ:List (Option V)}{H H':Hp}{s:Shared}{h':Heap}
def Cx.Ok.nofr(ok:X.Ok){b:Addr}{o:Obj}(e:X.base.get? b=some o):b ∉ X.fs:=fun hb=>by
 have:=(ok.funs.mem hb).1;rw [e] at this;cases this
def Inv.bs(I:Inv X pins σ H s):∀ b o,X.base.get? b=some o->s.heap.get? b=some o/\H b=none:=fun b o e =>
 ⟨I.base.keep b o (I.ok.bs b o e).1 (I.ok.bs b o e).2 (I.ok.nofr e) (I.ok.noex b o e),I.base.free b o (I.ok.bs b o e).1 (I.ok.bs b o e).2 (I.ok.noex b o e)⟩
def Inv.bk(I:Inv X pins σ H s):∀ b o,X.base.get? b=some o->s.heap.get? b=some o:=fun b o e=>(I.bs b o e).1
def Inv.mod(I:Inv X pins σ H s):Mod X.K X.mg X.base:=I.ok.mod
def Inv.kIn(I:Inv X pins σ H s):X.K.In s.heap:=I.ok.mod.kin.keeps I.bk
def Inv.lt(I:Inv X pins σ H s):X.env.locals < s.heap.objs.size:=by obtain⟨_,hn,_⟩:=I.loc;exact hn.lt
def Inv.sz(I:Inv X pins σ H s):X.s₀.heap.objs.size <= s.heap.objs.size:=le_trans I.ok.above (le_of_lt I.lt)
def Inv.nofs(I:Inv X pins σ H s){a:Addr}(h:s.heap.objs.size <= a):a ∉ X.fs:=fun hb=>by
 obtain⟨_,o,ho,_⟩:=I.ok.funs.mem hb;exact absurd (lt_of_lt_of_le (lt_size ho) (le_trans I.sz h)) (lt_irrefl _)
def Inv.cne(I:Inv X pins σ H s):∀ x c,X.env.cells.lookup x=some c->c ≠ X.env.locals:=fun x c e z=>by
 obtain⟨v,o,ho,hd⟩:=I.cell x c e;obtain⟨m,⟨o',es,ep,ho',hd',_⟩,_⟩:=I.loc;rw [z,ho'] at ho;cases ho;rw [hd'] at hd;cases hd
def Inv.funs(I:Inv X pins σ H s):s.heap.FunFrames X.base X.outer:=by
 have all:∀ (l:List Env),(∀ b ∈ frs l,b ∈ X.fs)->X.s₀.heap.FunFrames X.base l->s.heap.FunFrames X.base l:=by
  intro l;induction l with
  | nil=>intro _ _;trivial
  | cons env r ih =>
   intro hs hl;obtain⟨hk,⟨L,o,hf,hn,ho,hd⟩,hr⟩:=hl;have hL:L ∈ X.fs:=hs L (by unfold frs;rw [filterMap_cons,hf];exact mem_cons_self);obtain⟨sl,e⟩:=I.base.slot L o ho (I.ok.frf L hL) hL fun z=>I.ok.exfs L z hL;exact⟨hk,⟨L,_,hf,hn,e,hd⟩,ih (fun b hb=>hs b (by unfold frs;rw [filterMap_cons,hf];exact mem_cons_of_mem _ hb)) hr⟩
 exact all X.outer (fun _ hb=>hb) I.ok.funs
def Inv.stack(I:Inv X pins σ H s):s.heap.FunFrames X.base X.stack:=by
 rcases I.ok.stk with e | ⟨e,hf⟩
 ·rw [e];exact I.funs
 ·rw [e]
  obtain⟨m,hn,_⟩:=I.loc;refine .cons (by rw [I.ok.kind];decide) hf hn ?_ I.funs;exact Heap.get?_none_of_le (le_trans I.ok.bsz I.ok.above)
def Inv.stkSub(I:Inv X pins σ H s):∀ b ∈ frs X.stack,b ∈ X.env.locals :: X.fs:=fun b hb=>by
 rcases I.ok.stk with e | ⟨e,hf⟩
 ·rw [e] at hb;exact mem_cons_of_mem _ hb
 ·rw [e] at hb
  unfold frs at hb;rw [filterMap_cons,hf] at hb;exact hb
def Inv.stkFree(I:Inv X pins σ H s):∀ b ∈ frs X.stack,H b=none:=fun b hb=>by
 rcases mem_cons.mp (I.stkSub b hb) with e | hb
 ·rw [e];exact I.free
 ·obtain⟨_,o,ho,_⟩:=I.ok.funs.mem hb
  exact I.base.free b o ho (I.ok.frf b hb) fun z=>I.ok.exfs b z hb
def Inv.step{g':Array GenState}{t':Nat}{d':Drawn}{ch:List Addr}(I:Inv X pins σ H s)
  (hch:∀ b ∈ ch,(b ∈ X.ex ∨ X.s₀.heap.objs.size <= b)/\b ≠ X.env.locals/\(∀ x c,X.env.cells.lookup x=some c->c ≠ b)/\∀ p ∈ X.pn ++ pins,p.1 ≠ b)
  (keep:∀ b o,b ≠ X.env.locals->b ∉ X.fs->b ∉ ch->s.heap.get? b=some o->H b=none->h'.get? b=some o)
  (slot:∀ b o,b ≠ X.env.locals->b ∈ X.fs->b ∉ ch->s.heap.get? b=some o->H b=none->∃ sl,h'.get? b=some { o with slots:=sl }) (free:∀ b o,b ∉ ch->s.heap.get? b=some o->H b=none->H' b=none)
  (there:∀ b o,b ∉ ch->s.heap.get? b=some o->∃ o',h'.get? b=some o')
  (tups:∀ b xs,H b=some (.tup xs)->H' b=some (.tup xs)) (frzs:∀ b o u,H b=some (.frz o u)->H' b=some (.frz o u)) (tbls:∀ b ps,H b=some (.tbl ps)->∃ more,H' b=some (.tbl (ps ++ more)))
  (ns:∀ m,s.heap.Ns X.env.locals m->h'.Ns X.env.locals m) (hok:HOk X.prog X.w H' h') (hg:AllBare g') :
  Inv X pins σ H' { s with heap:=h',gens:=g',drawn:=d',toks:=t' }:=by
 have neL:∀ b o,X.s₀.heap.get? b=some o->b ≠ X.env.locals:=fun b o e=>ne_of_lt (lt_of_lt_of_le (lt_size e) I.ok.above);have neC:∀ b o,X.s₀.heap.get? b=some o->b ∉ X.ex->b ∉ ch:=fun b o e hx hb=>by
  rcases (hch b hb).1 with z | z
  ·exact hx z
  ·exact absurd (lt_of_lt_of_le (lt_size e) z) (lt_irrefl _)
 have cellK:∀ x c,X.env.cells.lookup x=some c->∀ v,s.heap.IsCell c v->h'.IsCell c v:=fun x c e v hq8=>by
  obtain⟨o,ho,hd⟩:=hq8;have nch:c ∉ ch:=fun z=>(hch c z).2.2.1 x c e rfl;by_cases hc:c ∈ X.fs
  ·obtain⟨sl,q⟩:=slot c o (I.cne x c e) hc nch ho (I.freeC x c e)
   exact⟨_,q,hd⟩
  ·exact⟨o,keep c o (I.cne x c e) hc nch ho (I.freeC x c e),hd⟩
 refine⟨I.ok,I.os,hg,⟨fun b o e n hb hx=>?_,fun b o e n hb hx=>?_,fun b o e n hx=>?_,fun b o e hx=>?_,fun b xs e=>tups b xs (I.base.tups b xs e),fun b o xs e=>frzs b o xs (I.base.frzs b o xs e),fun b ps e=>?_⟩,?_,fun x c e=>?_,?_,fun x c e=>?_,fun p hp=>?_,hok,I.len⟩
 ·exact keep b o (neL b o e) hb (neC b o e hx) (I.base.keep b o e n hb hx) (I.base.free b o e n hx)
 ·obtain⟨sl,e1⟩:=I.base.slot b o e n hb hx
  obtain⟨sl',e2⟩:=slot b _ (neL b o e) hb (neC b o e hx) e1 (I.base.free b o e n hx);exact⟨sl',e2⟩
 ·obtain⟨o',e1⟩:=I.base.there b o e hx
  exact free b o' (neC b o e hx) e1 (I.base.free b o e n hx)
 ·obtain⟨o',e1⟩:=I.base.there b o e hx
  exact there b o' (neC b o e hx) e1
 ·obtain⟨m1,e1⟩:=I.base.tbls b ps e
  obtain⟨m2,e2⟩:=tbls b _ e1;exact⟨m1 ++ m2,by rw [e2,Array.append_assoc]⟩
 ·obtain⟨m,hn,hl⟩:=I.loc
  refine⟨m,ns m hn,fun i x v e1 e2 e3=>?_⟩;obtain⟨u,r,l⟩:=hl i x v e1 e2 e3;refine⟨u,r,?_⟩;rcases l with l | ⟨k,c,e,z⟩
  ·exact .inl l
  ·exact .inr ⟨k,c,e,cellK x c e _ z⟩
 ·obtain⟨v,z⟩:=I.cell x c e
  exact⟨v,cellK x c e v z⟩
 ·obtain⟨m,⟨o,_,_,ho,_⟩,_⟩:=I.loc
  exact free _ o (fun z=>(hch _ z).2.1 rfl) ho I.free
 ·obtain⟨v,o,ho,hd⟩:=I.cell x c e
  exact free c o (fun z=>(hch c z).2.2.1 x c e rfl) ho (I.freeC x c e)
 ·obtain⟨e,n,ne,nf,d⟩:=I.pin p hp
  have nch:p.1 ∉ ch:=fun z=>(hch p.1 z).2.2.2 p hp rfl;exact⟨keep p.1 p.2 ne nf nch e n,free p.1 p.2 nch e n,ne,nf,d⟩
def Inv.un{t':Nat}(I:Inv X pins σ H s)(u:Un X.fs [] H H' s.heap h')(hok:HOk X.prog X.w H' h'):Inv X pins σ H' { s with heap:=h',toks:=t' }:=by
 obtain⟨m,⟨o,es,ep,ho,r⟩,_⟩:=id I.loc;obtain⟨sl,hL⟩:=u.any ho I.free 'e';exact I.step (g':=s.gens) (d':=s.drawn) (ch:=[]) (fun _ z=>nomatch z) (fun b o _ hb _ e n=>u.keep b o e n hb 'e') (fun b o _ hb _ e n=>u.slot b o e n hb 'e') (fun b o _ e n=>u.free b o e n 'e') (fun b o _ e=>u.there b o e 'e') u.tups u.frzs u.tbls (fun m' hm=>by
  obtain⟨o',es',ep',ho',r'⟩:=hm;rw [ho] at ho';cases ho';exact⟨_,es',ep',hL,r'⟩) hok I.bare
def Inv.call{g':Array GenState}{t':Nat}{d':Drawn}{ch:List Addr}(I:Inv X pins σ H s)(u:Un (frs X.stack) ch H H' s.heap h')(hok:HOk X.prog X.w H' h')(hg:AllBare g')
  (hch:∀ b ∈ ch,(b ∈ X.ex ∨ X.s₀.heap.objs.size <= b)/\b ≠ X.env.locals/\(∀ x c,X.env.cells.lookup x=some c->c ≠ b)/\∀ p ∈ X.pn ++ pins,p.1 ≠ b) :
  Inv X pins σ H' { s with heap:=h',gens:=g',drawn:=d',toks:=t' }:=by
 obtain⟨m,⟨o,es,ep,ho,r⟩,_⟩:=id I.loc;obtain⟨sl,hL⟩:=u.any ho I.free fun z=>(hch _ z).2.1 rfl;exact I.step (ch:=ch) hch (fun b o hL hb hc e n=>u.keep b o e n (fun z=>(mem_cons.mp (I.stkSub b z)).elim hL hb) hc) (fun b o _ _ hc e n=>u.any e n hc) (fun b o hc e n=>u.free b o e n hc) (fun b o hc e=>u.there b o e hc) u.tups u.frzs u.tbls (fun m' hm=>by
  obtain⟨o',es',ep',ho',r'⟩:=hm;rw [ho] at ho';cases ho';exact⟨_,es',ep',hL,r'⟩) hok hg
def Inv.turned{t':Nat}{it:Addr}(I:Inv X pins σ H s)(k:∀ b o,b ≠ it->s.heap.get? b=some o->h'.get? b=some o)(hn:H it=none)(hL:it ≠ X.env.locals)
  (h1:it ∈ X.ex ∨ X.s₀.heap.objs.size <= it) (h2:∀ x c,X.env.cells.lookup x=some c->c ≠ it) (h3:∀ p ∈ X.pn ++ pins,p.1 ≠ it):Inv X pins σ H { s with heap:=h',toks:=t' }:=by
 have nit:∀ b u,H b=some u->b ≠ it:=fun b u e z=>by rw [z,hn] at e;cases e
 refine I.step (g':=s.gens) (d':=s.drawn) (ch:=[it]) (fun b hb=>?_) (fun b o _ _ hc e _=>k b o (fun z=>hc (by simp [z])) e) (fun b o _ _ hc e _=>⟨o.slots,k b o (fun z=>hc (by simp [z])) e⟩) (fun _ _ _ _ n=>n)
  (fun b o hc e=>⟨o,k b o (fun z=>hc (by simp [z])) e⟩) (fun _ _ e=>e) (fun _ _ _ e=>e) (fun b ps e=>⟨#[],by rw [e];simp⟩) (fun m hm=>?_) (fun b u e=>?_) I.bare
 ·have e:b=it:=by simpa using hb
  subst e;exact⟨h1,hL,h2,h3⟩
 ·obtain⟨o,es,ep,ho,r⟩:=hm
  exact⟨o,es,ep,k _ o (Ne.symm hL) ho,r⟩
 ·refine(I.hok b u e).stay (fun c v hc q=>k c v ?_ q) (fun _ q=>q) fun _ _ q=>q
  rcases hc with z | z
  ·rw [z];exact nit b u e
  ·exact nit c _ z
def Inv.tok(I:Inv X pins σ H s)(t:Nat):Inv X pins σ H { s with toks:=t }:=I.un (h':=s.heap) (t':=t) Un.refl I.hok
def Inv.kept{t':Nat}(I:Inv X pins σ H s)(k:∀ b u,s.heap.get? b=some u->h'.get? b=some u):Inv X pins σ H { s with heap:=h',toks:=t' }:=I.un (Un.kept k) (I.hok.kept k)
def Inv.laid{a:Addr}{o:HO}{t':Nat}(I:Inv X pins σ H s)(k:∀ b u,s.heap.get? b=some u->h'.get? b=some u)(hp:s.heap.objs.size <= a)(new:qa2x X.prog X.w (upd H a o) h' a o) :
  Inv X pins σ (upd H a o) { s with heap:=h',toks:=t' }:=I.un (Un.laid k hp (I.hok.fresh hp)) (I.hok.laid k hp new)
def Inv.write{x e:Addr}{o:HO}{t':Nat}(I:Inv X pins σ H s)(mu:Mut (H x))(he:e=x ∨ H e=some (.own x))(k:∀ b u,b ≠ e->s.heap.get? b=some u->h'.get? b=some u)(heo:∃ u,h'.get? e=some u)
  (new:qa2x X.prog X.w (upd H x o) h' x o):Inv X pins σ (upd H x o) { s with heap:=h',toks:=t' }:=I.un (Un.write mu he k heo) (I.hok.write mu he k heo new)
def Inv.pins_of{pins':List 'b'}(I:Inv X pins σ H s)(h:∀ p ∈ pins',s.heap.get? p.1=some p.2/\H p.1=none/\p.1 ≠ X.env.locals/\p.1 ∉ X.fs/\∀ v,p.2.data ≠ .cell v):Inv X pins' σ H s:=
 ⟨I.ok,I.os,I.bare,I.base,I.loc,I.cell,I.free,I.freeC,fun p hp=>(mem_append.mp hp).elim (fun z=>I.pin p (List.mem_append_left _ z)) (h p),I.hok,I.len⟩
def qb5w{N:List Str}(hN:N.Nodup){i j:Nat}{x:Str}(a:N[i]? = some x)(b:N[j]? = some x):i=j:=by
 obtain⟨h1,e1⟩:=List.getElem?_eq_some_iff.mp a;obtain⟨h2,e2⟩:=List.getElem?_eq_some_iff.mp b;exact(List.getElem_inj hN).mp (e1.trans e2.symm)
def qb4n{M:Model}{A:Around}{E:Value->Shared->Prop}{i:Nat}{x:Str}{v:V}{u:Value}{Q:Unit->Shared->Prop}(I:Inv X pins σ H s)(hN:X.N.Nodup)(hi:X.N[i]? = some x)(hx:Loc X.env.scope x)(r:RelV v u)
  (h:∀ s',Inv X pins (σ.set i (some v)) H s'->(∃ a,Heap.SameBut a s.heap s'.heap/\(a=X.env.locals ∨ X.env.cells.lookup x=some a))->Q () s') (hf:X.fn x=true ∨ X.env.scope.names.lookup x=some .local:=by first | exact .inl rfl | exact .inr rfl | assumption):wpAny M A (storeName X.env x u) Q E s:=by
 obtain⟨m,hn,hl⟩:=id I.loc;have hcls:(X.env.scope.kind == .class || (X.env.scope.kind == .module && X.env.locals != X.env.globals))=false:=by rw [I.ok.kind];rfl
 have hiσ:i < σ.length:=by rw [I.len];exact(List.getElem?_eq_some_iff.mp hi).1
 have cne:=I.cne;have tracked:∀ {a:Addr} {h':Heap},(∃ o,s.heap.get? a=some o/\H a=none)->Heap.SameBut a s.heap h'->HOk X.prog X.w H h':=fun{a h'} ha hs b ob e=>by
  obtain⟨_,_,hfree⟩:=ha;refine(I.hok b ob e).stay (fun c w' hc q=>(hs.2 c ?_).trans q) (fun _ q=>q) fun _ _ q=>q;rintro rfl;rcases hc with rfl | hc
  ·rw [hfree] at e;cases e
  ·rw [hfree] at hc;cases hc
 rcases hx with hk | hk
 ·refine wpAny_storeName_local hk hn (fun h' hn' hs=>?_) hcls
  obtain⟨oL,_,_,hoL,_⟩:=id hn;refine h _ ⟨I.ok,I.os,I.bare,⟨fun b o e n hb hx=>?_,fun b o e n hb hx=>?_,I.base.free,fun b o e hx=>?_,I.base.tups,I.base.frzs,I.base.tbls⟩,⟨_,hn',fun j y v' e1 e2 e3=>?_⟩,fun y c e=>?_,I.free,I.freeC,fun p hp=>?_,tracked ⟨oL,hoL,I.free⟩ hs,by simpa using I.len⟩ ⟨_,hs,.inl rfl⟩
  ·exact(hs.2 b (ne_of_lt (lt_of_lt_of_le (lt_size e) I.ok.above))).trans (I.base.keep b o e n hb hx)
  ·obtain⟨sl,e1⟩:=I.base.slot b o e n hb hx
   exact⟨sl,(hs.2 b (ne_of_lt (lt_of_lt_of_le (lt_size e) I.ok.above))).trans e1⟩
  ·obtain⟨o',e1⟩:=I.base.there b o e hx
   exact⟨o',(hs.2 b (ne_of_lt (lt_of_lt_of_le (lt_size e) I.ok.above))).trans e1⟩
  ·by_cases hj:j=i
   ·subst hj
    rw [hi] at e1;cases e1;rw [getElem?_set_self hiσ] at e2;cases e2;exact⟨u,r,.inl ⟨hk,by simp⟩⟩
   ·rw [getElem?_set_ne (Ne.symm hj)] at e2
    obtain⟨u',r',q⟩:=hl j y v' e1 e2 e3;refine⟨u',r',?_⟩;rcases q with⟨k,e⟩ | ⟨k,c,e,z⟩
    ·refine .inl ⟨k,?_⟩
     have:y ≠ x:=fun e=>hj (qb5w hN e1 (e ▸ hi));simp [this,e]
    ·exact .inr ⟨k,c,e,z.sameBut hs (cne y c e)⟩
  ·obtain⟨w',z⟩:=I.cell y c e
   exact⟨w',z.sameBut hs (cne y c e)⟩
  ·obtain⟨e,n,ne,nf,d⟩:=I.pin p hp
   exact⟨(hs.2 p.1 ne).trans e,n,ne,nf,d⟩
 ·have hfn:X.fn x=true:=by
   rcases hf with z | z
   ·exact z
   ·rw [z] at hk;cases hk
  obtain⟨c,hc⟩:=I.ok.has x (.inl hk);obtain⟨w',z⟩:=I.cell x c hc;refine wpAny_storeName_cell I.ok.kind hk hc z (fun h' hc' hs=>?_);obtain⟨oc,hoc,hocd⟩:=id z;refine h { s with heap:=h' } ⟨I.ok,I.os,I.bare,⟨fun b o e n hb hx=>?_,fun b o e n hb hx=>?_,I.base.free,fun b o e hx=>?_,I.base.tups,I.base.frzs,I.base.tbls⟩,⟨m,hn.sameBut hs (Ne.symm (cne x c hc)),fun j y v' e1 e2 e3=>?_⟩,fun y c' e=>?_,I.free,I.freeC,fun p hp=>?_,tracked ⟨oc,hoc,I.freeC x c hc⟩ hs,by simpa using I.len⟩ ⟨c,hs,.inr hc⟩
  ·exact(hs.2 b (ne_of_lt (lt_of_lt_of_le (lt_size e) (I.ok.cab x c hfn hc)))).trans (I.base.keep b o e n hb hx)
  ·obtain⟨sl,e1⟩:=I.base.slot b o e n hb hx
   exact⟨sl,(hs.2 b (ne_of_lt (lt_of_lt_of_le (lt_size e) (I.ok.cab x c hfn hc)))).trans e1⟩
  ·obtain⟨o',e1⟩:=I.base.there b o e hx
   exact⟨o',(hs.2 b (ne_of_lt (lt_of_lt_of_le (lt_size e) (I.ok.cab x c hfn hc)))).trans e1⟩
  ·by_cases hj:j=i
   ·subst hj
    rw [hi] at e1;cases e1;rw [getElem?_set_self hiσ] at e2;cases e2;exact⟨u,r,.inr ⟨.inl hk,c,hc,hc'⟩⟩
   ·rw [getElem?_set_ne (Ne.symm hj)] at e2
    obtain⟨u',r',q⟩:=hl j y v' e1 e2 e3;refine⟨u',r',?_⟩;rcases q with q | ⟨k,c',e,z'⟩
    ·exact .inl q
    ·refine .inr ⟨k,c',e,z'.sameBut hs ?_⟩
     rintro rfl;exact hj (qb5w hN e1 (I.ok.inj _ _ _ e hc ▸ hi))
  ·by_cases hcc:c'=c
   ·subst hcc;exact⟨_,hc'⟩
   ·obtain⟨w2,z2⟩:=I.cell y c' e
    exact⟨w2,z2.sameBut hs hcc⟩
  ·obtain⟨e,n,ne,nf,d⟩:=I.pin p hp
   refine⟨(hs.2 p.1 ?_).trans e,n,ne,nf,d⟩;intro q;rw [q,hoc] at e;have q':oc=p.2:=Option.some.inj e;exact d w' (by rw [← q'];exact hocd)
def qb5x{M:Model}{A:Around}{E:Value->Shared->Prop}{i:Nat}{x:Str}{v:V}{u:Value}{Q:Unit->Shared->Prop}(I:Inv X pins σ H s)(hN:X.N.Nodup)(hi:X.N[i]? = some x)(hx:Loc X.env.scope x)(r:RelV v u)
  (h:∀ s',Inv X pins (σ.set i (some v)) H s'->Q () s') (hf:X.fn x=true ∨ X.env.scope.names.lookup x=some .local:=by first | exact .inl rfl | exact .inr rfl | assumption):wpAny M A (storeName X.env x u) Q E s:=
 qb4n I hN hi hx r (fun s' I' _=>h s' I') hf
def Inv.call'{s':Shared}{ch:List Addr}(I:Inv X pins σ H s)(ho:s'.os=s.os)(u:Un (frs X.stack) ch H H' s.heap s'.heap)(hok:HOk X.prog X.w H' s'.heap)(hg:AllBare s'.gens)
  (hch:∀ b ∈ ch,(b ∈ X.ex ∨ X.s₀.heap.objs.size <= b)/\b ≠ X.env.locals/\(∀ x c,X.env.cells.lookup x=some c->c ≠ b)/\∀ p ∈ X.pn ++ pins,p.1 ≠ b):Inv X pins σ H' s':=by
 obtain⟨h',g',d',t',o'⟩:=s';have e:o'=s.os:=ho;subst e;exact I.call (g':=g') (t':=t') (d':=d') u hok hg hch
end
abbrev XK:=Value->Option Addr->Hp->Prop
abbrev St:=List (Option V)
abbrev VK:=V->Hp->Prop
abbrev TE:=St->Hp->VK->Prop
abbrev TT:=St->Hp->(Bool->Hp->Prop)->Prop
abbrev TA:=St->Hp->(List V->Hp->Prop)->Prop
structure Ends where
 nx:St->Hp->Prop
 rt:VK
 bk:St->Hp->Prop:=fun _ _=>False
 ct:St->Hp->Prop:=fun _ _=>False
abbrev TS:=Ends->St->Hp->Prop
def EP(X:Cx)(pins:List 'b')(σ:St)(Q:VK)(u:Value)(s':Shared):Prop:=∃ v H',Inv X pins σ H' s'/\RelV v u/\Q v H'
def TP(X:Cx)(pins:List 'b')(σ:St)(Q:Bool->Hp->Prop)(b:Bool)(s':Shared):Prop:=∃ H',Inv X pins σ H' s'/\Q b H'
def AP(X:Cx)(pins:List 'b')(σ:St)(Q:List V->Hp->Prop)(us:List Value)(s':Shared):Prop:=∃ vs H',Inv X pins σ H' s'/\Vals vs us/\Q vs H'
def SP(X:Cx)(pins:List 'b')(D:Ends)(f:Flow)(s':Shared):Prop:=
 match f with
 | .next=>∃ σ' H',Inv X pins σ' H' s'/\D.nx σ' H'
 | .brk=>∃ σ' H',Inv X pins σ' H' s'/\D.bk σ' H'
 | .cont=>∃ σ' H',Inv X pins σ' H' s'/\D.ct σ' H'
 | .ret u=>∃ v σ' H',Inv X pins σ' H' s'/\RelV v u/\D.rt v H'
def PE(X:Cx)(e:Expr)(t:TE):Prop:=
 ∀ (pins:List 'b') (s:Shared) (σ:St) (H:Hp) (Q:VK),Inv X pins σ H s->t σ H Q->wpAny (model X.prog X.w) X.A (eval e X.env) (EP X pins σ Q) X.xe s
def PT(X:Cx)(e:Expr)(t:TT):Prop:=
 ∀ (pins:List 'b') (s:Shared) (σ:St) (H:Hp) (Q:Bool->Hp->Prop),Inv X pins σ H s->t σ H Q->wpAny (model X.prog X.w) X.A (isTrue e X.env (eval e X.env)) (TP X pins σ Q) X.xe s
def PW(X:Cx)(e:Expr)(t:TT):Prop:=
 ∀ (whole:Sem Value) (pins:List 'b') (s:Shared) (σ:St) (H:Hp) (Q:Bool->Hp->Prop),Inv X pins σ H s->t σ H Q->wpAny (model X.prog X.w) X.A (isTrue e X.env whole) (TP X pins σ Q) X.xe s
def PW.pt{X:Cx}{e:Expr}{t:TT}(h:PW X e t):PT X e t:=h _
def PA(X:Cx)(es:List Expr)(t:TA):Prop:=
 ∀ (pos:Pos) (pins:List 'b') (s:Shared) (σ:St) (H:Hp) (Q:List V->Hp->Prop),Inv X pins σ H s->t σ H Q->wpAny (model X.prog X.w) X.A (spliced (backTo pos (starEach es X.env))) (AP X pins σ Q) X.xe s
def PS(X:Cx)(st:Stmt)(t:TS):Prop:=
 ∀ (pins:List 'b') (s:Shared) (σ:St) (H:Hp) (D:Ends),Inv X pins σ H s->t D σ H->wpAny (model X.prog X.w) X.A (exec st X.env) (SP X pins D) X.xe s
def PSs(X:Cx)(st:List Stmt)(t:TS):Prop:=
 ∀ (pins:List 'b') (s:Shared) (σ:St) (H:Hp) (D:Ends),Inv X pins σ H s->t D σ H->wpAny (model X.prog X.w) X.A (execs st X.env) (SP X pins D) X.xe s
def thn{α:Type}{t:Sem α}{Q Q':α->Shared->Prop}{M:Model}{A:Around}{E:Value->Shared->Prop}{s:Shared}(h:wpAny M A t Q E s)(hQ:∀ a s,Q a s->Q' a s):wpAny M A t Q' E s:=wpAny_mono h hQ fun _ _ x=>x
end L2
namespace L2
open PySem PySem.Spec PyProof.Rows
section
variable{X:Cx}
def tVar(i:Nat):TE:=fun σ H Q=>∃ v,σ[i]? = some (some v)/\Q v H
def tC(v:V):TE:=fun _ H Q=>Q v H
def qb5y{i:Nat}{x:Str}{pos:Pos}(hN:X.N[i]? = some x)(hv:Vis X.env.scope x) (hd:(x == ("__debug__" : Str))=false:=by decide) (hcd:(x == ("__classdict__" : Str))=false:=by decide):PE X (.Name x pos) (tVar i):=by
 intro pins s σ H Q I h;obtain⟨v,e,h⟩:=h;obtain⟨m,hn,hl⟩:=I.loc;obtain⟨u,r,l⟩:=hl i x v hN e hv;have fin:EP X pins σ Q u s:=⟨v,H,I,r,h⟩;rcases l with⟨hk,hm⟩ | ⟨hk,c,hc,hcell⟩
 ·exact wpAny_Name (wpAny_loadName_local I.ok.kind hk hn hm fin) hd
 ·rcases hk with hk | hk
  ·exact wpAny_Name (wpAny_loadName_cell I.ok.kind hk hc hcell fin) hd
  ·exact wpAny_Name (wpAny_loadName_free I.ok.kind hk hc hcell fin hcd) hd
def qa1r{i j pos}:PE X (.Constant (.int i) j pos) (tC (.int i)):=fun _ _ _ H _ I h=>wpAny_Constant_int ⟨.int i,H,I.tok _,⟨_,rfl⟩,h⟩
def pe_bl{b j pos}:PE X (.Constant (.bool b) j pos) (tC (.bl b)):=fun _ _ _ H _ I h=>Constant_bool ⟨.bl b,H,I,rfl,h⟩
def pe_non{j pos}:PE X (.Constant .none j pos) (tC .non):=fun _ _ _ H _ I h=>Constant_none ⟨.non,H,I,rfl,h⟩
def pe_str{x j pos}:PE X (.Constant (.str x) j pos) (tC (.str x)):=fun _ _ _ H _ I h=>Calls.Constant_str ⟨.str x,H,I.tok _,⟨_,rfl⟩,h⟩
def Gl(X:Cx)(x:Str):Prop:=X.env.kindOf x=some .globalImplicit
def qb9r{E:Value->Shared->Prop}{pins:List 'b'}{s:Shared}{σ:St}{H:Hp}{x:Str}{u:Value}{pos:Pos}{Q:Value->Shared->Prop}(I:Inv X pins σ H s)(hg:Gl X x)(hm:X.mg x=some u)(h:Q u s)
  (hd:(x == ("__debug__" : Str))=false:=by decide):wpAny (model X.prog X.w) X.A (eval (.Name x pos) X.env) Q E s:=
 Calls.Name_function_global I.ok.kind hg (Calls.loadGlobal_global (by rw [I.ok.glob];exact I.mod.glob.keeps I.bk) hm h) hd
def qa6p{E:Value->Shared->Prop}{pins:List 'b'}{s:Shared}{σ:St}{H:Hp}{x:Str}{u:Value}{pos:Pos}{Q:Value->Shared->Prop}(I:Inv X pins σ H s)(hg:Gl X x)(hm:X.mg x=none)(hv:bootBuiltins x=some u)(h:Q u s)
  (hn:x ≠ "__name__":=by decide) (hd:(x == ("__debug__" : Str))=false:=by decide):wpAny (model X.prog X.w) X.A (eval (.Name x pos) X.env) Q E s:=by
 obtain⟨mb,h1,h2⟩:=I.mod.blt;exact Calls.Name_function_global I.ok.kind hg (Calls.loadGlobal_builtin (by rw [I.ok.glob];exact I.mod.glob.keeps I.bk) hm (by rw [I.ok.blt];exact h1.keeps I.bk) ((h2 x hn).trans hv) h) hd
def pe_glob{x:Str}{v:V}{u:Value}{pos:Pos}(hg:Gl X x)(hm:X.mg x=some u)(r:RelV v u) (hd:(x == ("__debug__" : Str))=false:=by decide):PE X (.Name x pos) (tC v):=
 fun _ _ _ H _ I h=>qb9r I hg hm ⟨v,H,I,r,h⟩ hd
def pe_bltn{x:Str}{v:V}{u:Value}{pos:Pos}(hg:Gl X x)(hm:X.mg x=none)(hv:bootBuiltins x=some u)(r:RelV v u) (hn:x ≠ "__name__":=by decide) (hd:(x == ("__debug__" : Str))=false:=by decide):PE X (.Name x pos) (tC v):=
 fun _ _ _ H _ I h=>qa6p I hg hm hv ⟨v,H,I,r,h⟩ hn hd
variable{a b:Expr}{ta tb:TE}{pos:Pos}
def tB(t:TE):TT:=fun σ H Q=>t σ H fun x H1=>∃ c,x=.bl c/\Q c H1
def qb2u{e:Expr}{t:TE}(h:PE X e t)(he:∀ whole,isTrue e X.env whole=(do let v ← whole;standAt e.pos;holding [v] (truthy v)):=by intro _;rfl):PT X e (tB t):=by
 intro pins s σ H Q I hw;refine isTrue_plain (thn (h pins s σ H _ I hw) fun v s1 hq8=>?_) (he _);obtain⟨x,H1,I1,r1,q1⟩:=hq8;obtain⟨d,rfl,q⟩:=q1;cases r1;exact wpAny_truthy_bool ⟨H1,I1,q⟩
variable{tA tB':TT}{rest:List Expr}
def tAnd(t u:TT):TT:=fun σ H Q=>t σ H fun c H1=>if c=true then u σ H1 Q else Q false H1
def tOr(t u:TT):TT:=fun σ H Q=>t σ H fun c H1=>if c=true then Q true H1 else u σ H1 Q
def tNot(t:TT):TT:=fun σ H Q=>t σ H fun c H1=>Q (!c) H1
def pw_and1(ha:PT X a tA):PW X (.BoolOp .And [a] pos) tA:=by
 intro wh pins s σ H Q I h;refine isTrue_and (thn (ha pins s σ H Q I h) fun c s1 e=>?_);cases c with
 | true=>exact isTrue_and_nil e
 | false=>exact e
def pw_or1(ha:PT X a tA):PW X (.BoolOp .Or [a] pos) tA:=by
 intro wh pins s σ H Q I h;refine isTrue_or (thn (ha pins s σ H Q I h) fun c s1 e=>?_);cases c with
 | false=>exact isTrue_or_nil e
 | true=>exact e
def pw_and(ha:PT X a tA)(hb:PW X (.BoolOp .And (b :: rest) pos) tB'):PW X (.BoolOp .And (a :: b :: rest) pos) (tAnd tA tB'):=by
 intro wh pins s σ H Q I h;refine isTrue_and (thn (ha pins s σ H _ I h) fun c s1 hq9=>?_);obtain⟨H1,I1,q1⟩:=hq9;cases c with
 | true=>exact hb wh pins s1 σ H1 Q I1 q1
 | false=>exact⟨H1,I1,q1⟩
def pw_or(ha:PT X a tA)(hb:PW X (.BoolOp .Or (b :: rest) pos) tB'):PW X (.BoolOp .Or (a :: b :: rest) pos) (tOr tA tB'):=by
 intro wh pins s σ H Q I h;refine isTrue_or (thn (ha pins s σ H _ I h) fun c s1 hq9=>?_);obtain⟨H1,I1,q1⟩:=hq9;cases c with
 | true=>exact⟨H1,I1,q1⟩
 | false=>exact hb wh pins s1 σ H1 Q I1 q1
def pt_not(ha:PT X a tA):PT X (.UnaryOp .Not a pos) (tNot tA):=by
 intro pins s σ H Q I h;exact isTrue_not (ha pins s σ H (fun c H1=>Q (!c) H1) I h)
def tAndV(ta tb:TE):TE:=fun σ H Q=>ta σ H fun x H1=>∃ c,x=.bl c/\if c=true then tb σ H1 Q else Q (.bl false) H1
def tNotV(ta:TE):TE:=fun σ H Q=>ta σ H fun x H1=>∃ c,x=.bl c/\Q (.bl (!c)) H1
def pe_one{op}{t:TE}(h:PE X a t):PE X (.BoolOp op [a] pos) t:=fun pins s σ H Q I hw=>BoolOp_one (h pins s σ H Q I hw)
def pe_and(ha:PE X a ta)(hb:PE X (.BoolOp .And (b :: rest) pos) tb):PE X (.BoolOp .And (a :: b :: rest) pos) (tAndV ta tb):=by
 intro pins s σ H Q I h;refine BoolOp_and (thn (ha pins s σ H _ I h) fun v s1 hq9=>?_);obtain⟨x,H1,I1,r1,q1⟩:=hq9;obtain⟨c,rfl,q1⟩:=q1;cases r1;refine wpAny_truthy_bool ?_;cases c with
 | true=>exact hb pins s1 σ H1 Q I1 q1
 | false=>exact⟨.bl false,H1,I1,rfl,q1⟩
def pe_not(ha:PE X a ta):PE X (.UnaryOp .Not a pos) (tNotV ta):=by
 intro pins s σ H Q I h;refine UnaryOp_ (thn (ha pins s σ H _ I h) fun v s1 hq9=>?_);obtain⟨x,H1,I1,r1,q1⟩:=hq9;obtain⟨c,rfl,q1⟩:=q1;cases r1;exact not_of (wpAny_truthy_bool ⟨.bl (!c),H1,I1,rfl,q1⟩)
end
end L2
namespace L2
open PySem PySem.Spec PyProof.Rows
def SqL(K:W.Frag)(H:Hp)(a:Addr)(xs:List V):Prop:=
 Rd H a (.lst xs) ∨
  ∃ (o:Obj) (its:Array Value) (n:Nat),K.lookup a=some o/\o.cls=.type "list" /\ o.dict=none/\o.data=.seq its n/\its.size <= sizeLine/\Vals xs its.toList
def SqT(K:W.Frag)(H:Hp)(a:Addr)(xs:List V):Prop:=
 Rd H a (.tup xs) ∨
  ∃ (o:Obj) (its:Array Value) (n:Nat),K.lookup a=some o/\(o.cls=.type "tuple" /\ o.dict=none)/\o.data=.seq its n/\its.size <= sizeLine/\Vals xs its.toList
noncomputable def absV:Value->Option V
 | .none=>some .non
 | .bool b=>some (.bl b)
 | .int i _=>some (.int i)
 | .str x _=>some (.str x)
 | .bytes b _=>some (.byt b)
 | .float b _=>some (.flt b)
 | .ref a=>some (.ref a)
 | .type n=>some (.ty n)
 | _=>none
def RelV.abs{x:V}{u:Value}(r:RelV x u):absV u=some x:=by
 cases x with
 | non=>cases r;rfl
 | bl _=>cases r;rfl
 | int _=>obtain⟨t,rfl⟩:=r;rfl
 | str _=>obtain⟨t,rfl⟩:=r;rfl
 | byt _=>obtain⟨t,rfl⟩:=r;rfl
 | flt _=>obtain⟨t,rfl⟩:=r;rfl
 | ref _=>cases r;rfl
 | ty _=>cases r;rfl
def RelV.inj{x y:V}{u:Value}(r:RelV x u)(q:RelV y u):x=y:=Option.some.inj (r.abs.symm.trans q.abs)
def Vals.inj:∀ {xs ys:List V} {us:List Value},Vals xs us->Vals ys us->xs=ys
 | _,_,_,.nil,.nil=>rfl
 | _,_,_,.cons r t,.cons r' t'=>by rw [r.inj r',Vals.inj t t']
section
variable{X:Cx}{pins:List 'b'}{σ:St}{H:Hp}{s:Shared}{a:Addr}{xs ys:List V}
def SqL.of{K:W.Frag}(h:H a=some (.lst xs)):SqL K H a xs:=.inl (.inl h)
def SqT.of{K:W.Frag}(h:H a=some (.tup xs)):SqT K H a xs:=.inl (.inl h)
def Inv.list(I:Inv X pins σ H s)(h:SqL X.K H a xs):∃ its:List Value,Vals xs its/\PlainL s.heap a its.toArray/\xs.length <= sizeLine:=by
 rcases h with h | ⟨o,its,n,hk,hc,hd,hs,hz,r⟩
 ·obtain⟨z,its,n,r,e⟩:=h.ok I.hok
  exact⟨its,r,⟨_,n,e,rfl,rfl,rfl⟩,z⟩
 ·refine⟨its.toList,r,⟨o,n,I.kIn a o hk,hc,hd,by simpa using hs⟩,?_⟩
  have e:=r.length;simp only [length_toList] at e;omega
def Inv.tupleP(I:Inv X pins σ H s)(h:SqT X.K H a xs):∃ its:List Value,Vals xs its/\qa5g s.heap a its.toArray/\xs.length <= sizeLine:=by
 rcases h with h | ⟨o,its,n,hk,hc,hs,hz,r⟩
 ·obtain⟨z,its,r,p⟩:=h.ok I.hok
  exact⟨its,r,p,z⟩
 ·refine⟨its.toList,r,⟨o,I.kIn a o hk,hc,n,by simpa using hs⟩,?_⟩
  have e:=r.length;simp only [length_toList] at e;omega
def Inv.tuple(I:Inv X pins σ H s)(h:SqT X.K H a xs):∃ its:List Value,Vals xs its/\IsTup s.heap a its.toArray/\xs.length <= sizeLine:=by obtain⟨its,r,p,z⟩:=I.tupleP h;exact⟨its,r,p.tup,z⟩
def Inv.list_inj(I:Inv X pins σ H s)(h:SqL X.K H a xs)(h':SqL X.K H a ys):xs=ys:=by
 obtain⟨its,r,⟨o,n,e,_,_,d⟩,_⟩:=I.list h;obtain⟨its',r',⟨o',n',e',_,_,d'⟩,_⟩:=I.list h';rw [e] at e';cases e';rw [d] at d';injection d' with d1 _
 have:its=its':=by simpa using congrArg Array.toList d1
 subst this;exact r.inj r'
def Inv.tuple_inj(I:Inv X pins σ H s)(h:SqT X.K H a xs)(h':SqT X.K H a ys):xs=ys:=by
 obtain⟨its,r,⟨o,e,_,n,d⟩,_⟩:=I.tuple h;obtain⟨its',r',⟨o',e',_,n',d'⟩,_⟩:=I.tuple h';rw [e] at e';cases e';rw [d] at d';injection d' with d1 _
 have:its=its':=by simpa using congrArg Array.toList d1
 subst this;exact r.inj r'
end
abbrev Cx.wish(X:Cx)(E:Value->Shared->Prop):Cx:={ X with xe:=E }
abbrev Cx.nox(X:Cx):Cx:=X.wish fun _ _=>False
def Cx.Ok.wish{X:Cx}(ok:X.Ok)(E:Value->Shared->Prop):(X.wish E).Ok:=
 ⟨ok.mod,ok.kind,ok.glob,ok.blt,ok.above,ok.inj,ok.has,ok.cab,ok.hd,ok.frames,ok.stk,ok.exf,ok.bs,ok.bsz,ok.noex,ok.exfs,ok.funs,ok.frf⟩
def Cx.Ok.unwish{X:Cx}{E:Value->Shared->Prop}(ok:(X.wish E).Ok):X.Ok:=
 ⟨ok.mod,ok.kind,ok.glob,ok.blt,ok.above,ok.inj,ok.has,ok.cab,ok.hd,ok.frames,ok.stk,ok.exf,ok.bs,ok.bsz,ok.noex,ok.exfs,ok.funs,ok.frf⟩
section
variable{X:Cx}{pins:List 'b'}{σ:St}{H:Hp}{s:Shared}{E:Value->Shared->Prop}
def Inv.wish(I:Inv X pins σ H s)(E:Value->Shared->Prop):Inv (X.wish E) pins σ H s:=⟨I.ok.wish E,I.os,I.bare,I.base,I.loc,I.cell,I.free,I.freeC,I.pin,I.hok,I.len⟩
def Inv.unwish(I:Inv (X.wish E) pins σ H s):Inv X pins σ H s:=⟨I.ok.unwish,I.os,I.bare,I.base,I.loc,I.cell,I.free,I.freeC,I.pin,I.hok,I.len⟩
def SP.unwish{D:Ends}{f:Flow}{s':Shared}(h:SP (X.wish E) pins D f s'):SP X pins D f s':=by
 cases f with
 | next=>obtain⟨σ',H',I,q⟩:=h;exact⟨σ',H',I.unwish,q⟩
 | brk=>obtain⟨σ',H',I,q⟩:=h;exact⟨σ',H',I.unwish,q⟩
 | cont=>obtain⟨σ',H',I,q⟩:=h;exact⟨σ',H',I.unwish,q⟩
 | ret u=>obtain⟨v,σ',H',I,r,q⟩:=h;exact⟨v,σ',H',I.unwish,r,q⟩
def PSs.nox{st:List Stmt}{t:TS}(h:PSs X.nox st t):PSs X st t:=fun pins s σ H D I hw =>
 wpAny_mono (h pins s σ H D (I.wish _) hw) (fun _ _ q=>q.unwish) fun _ _ z=>False.elim z
end
section
variable{X:Cx}{st:Stmt}{rest:List Stmt}{t u:TS}{e:Expr}{te:TE}{pos:Pos}
def tNext:TS:=fun D σ H=>D.nx σ H
def tSeq(t u:TS):TS:=fun D σ H=>t { D with nx:=u D } σ H
def qb1p:PSs X [] tNext:=fun _ _ σ H _ I h=>wpAny_execs_nil ⟨σ,H,I,h⟩
def qa3k(h1:PS X st t)(h2:PSs X rest u):PSs X (st :: rest) (tSeq t u):=by
 intro pins s σ H D I h;refine wpAny_execs_cons (thn (h1 pins s σ H { D with nx:=u D } I h) fun f s1 q=>?_);cases f with
 | next =>
  obtain⟨σ',H',I',q⟩:=q;exact h2 pins s1 σ' H' D I' q
 | ret v=>exact q
 | brk=>exact q
 | cont=>exact q
def qa5w(h1:PS X st t):PSs X [st] t:=by
 intro pins s σ H D I h;refine wpAny_execs_cons (thn (h1 pins s σ H D I h) fun f s1 q=>?_);cases f with
 | next=>exact wpAny_execs_nil q
 | ret v=>exact q
 | brk=>exact q
 | cont=>exact q
def Inv.quiet{pins:List 'b'}{σ:St}{H:Hp}{s:Shared}(I:Inv X pins σ H s):interactive X.env=false:=by simp [interactive,I.ok.kind]
def tDrop(te:TE):TS:=fun D σ H=>te σ H fun _ H1=>D.nx σ H1
def ps_expr(he:PE X e te)(hs:swapsWith e none pos.line X.env=pure false:=by rfl):PS X (.Expr e pos) (tDrop te):=by
 intro pins s σ H D I h;exact wpAny_Expr_any (thn (he pins s σ H _ I h) fun v s1 hq8=>by obtain⟨x,H1,I1,r1,q1⟩:=hq8;exact⟨σ,H1,I1,q1⟩) I.quiet hs
def tRet(te:TE):TS:=fun D σ H=>te σ H D.rt
def qa8u(he:PE X e te):PS X (.Return (some e) pos) (tRet te):=by
 intro pins s σ H D I h;exact wpAny_Return_some (thn (he pins s σ H _ I h) fun v s1 hq8=>by obtain⟨x,H1,I1,r1,q1⟩:=hq8;exact⟨x,σ,H1,I1,r1,q1⟩)
def tIfS(c:TT)(t u:TS):TS:=fun D σ H=>c σ H fun b H1=>if b=true then t D σ H1 else u D σ H1
def ps_if{c:Expr}{a b:List Stmt}{tc:TT}(hc:PT X c tc)(ha:PSs X a t)(hb:PSs X b u):PS X (.If c a b pos) (tIfS tc t u):=by
 intro pins s σ H D I h;refine wpAny_If (thn (hc pins s σ H _ I h) fun d s1 hq9=>?_);obtain⟨H1,I1,q1⟩:=hq9;cases d with
 | true=>exact ha pins s1 σ H1 D I1 q1
 | false=>exact hb pins s1 σ H1 D I1 q1
end
abbrev TG:=V->St->Hp->(St->Hp->Prop)->Prop
abbrev TGs:=List V->St->Hp->(St->Hp->Prop)->Prop
def PG(X:Cx)(target:Expr)(t:TG):Prop:=
 ∀ (pins:List 'b') (s:Shared) (σ:St) (H:Hp) (v:V) (u:Value) (Q:St->Hp->Prop),Inv X pins σ H s->RelV v u->t v σ H Q ->
  wpAny (model X.prog X.w) X.A (assign target X.env u) (fun _ s'=>∃ σ' H',Inv X pins σ' H' s'/\Q σ' H') X.xe s
def PGs(X:Cx)(ts:List Expr)(t:TGs):Prop:=
 ∀ (pins:List 'b') (s:Shared) (σ:St) (H:Hp) (vs:List V) (us:List Value) (Q:St->Hp->Prop),Inv X pins σ H s->Vals vs us->t vs σ H Q ->
  wpAny (model X.prog X.w) X.A (assignInOrder ((assignEach ts X.env).map (·.2)) us) (fun _ s'=>∃ σ' H',Inv X pins σ' H' s'/\Q σ' H') X.xe s
abbrev TSet:=V->V->V->Hp->(Hp->Prop)->Prop
def PSet(X:Cx)(t:TSet):Prop:=
 ∀ (pins:List 'b') (s:Shared) (σ:St) (H:Hp) (o i v:V) (ov iv u:Value) (Q:Hp->Prop),Inv X pins σ H s->RelV o ov->RelV i iv->RelV v u->t o i v H Q ->
  wpAny (model X.prog X.w) X.A (setItem ov iv u) (fun _ s'=>∃ H',Inv X pins σ H' s'/\Q H') X.xe s
section
variable{X:Cx}{pos:Pos}
noncomputable def qa9n(i:Nat):TG:=fun v σ H Q=>Q (σ.set i (some v)) H
def pg_name{i:Nat}{x:Str}(hN:X.N.Nodup)(hi:X.N[i]? = some x)(hx:Loc X.env.scope x)(hf:X.fn x=true ∨ X.env.scope.names.lookup x=some .local:=by first | exact .inl rfl | exact .inr rfl | assumption):PG X (.Name x pos) (qa9n i):=by
 intro pins s σ H v u Q I r h;exact wpAny_assign_Name (qb5x I hN hi hx r (fun s' I'=>⟨_,H,I',h⟩) hf)
noncomputable def gNil:TGs:=fun vs σ H Q=>vs=[]/\Q σ H
noncomputable def gCons(t:TG)(u:TGs):TGs:=fun vs σ H Q=>∃ v r,vs=v :: r/\t v σ H fun σ' H'=>u r σ' H' Q
def pgs_nil:PGs X [] gNil:=by
 intro pins s σ H vs us Q I r h;obtain⟨e,h⟩:=h;subst e;cases r;exact assignInOrder_nil ⟨σ,H,I,h⟩
def qc5c{e:Expr}{es:List Expr}{t:TG}{u:TGs}(h1:PG X e t)(h2:PGs X es u)
  (hs:(assignEach (e :: es) X.env).map (·.2)=assign e X.env :: (assignEach es X.env).map (·.2):=by rfl):PGs X (e :: es) (gCons t u):=by
 intro pins s σ H vs us Q I r h;obtain⟨v,vr,e1,h⟩:=h;subst e1;cases r with
 | cons r rr =>
  rw [hs];refine assignInOrder_cons (thn (h1 pins s σ H _ _ _ I r h) fun _ s1 hq9=>?_);obtain⟨σ1,H1,I1,q1⟩:=hq9;exact h2 pins s1 σ1 H1 _ _ Q I1 rr q1
noncomputable def gTup(K:W.Frag)(n:Nat)(t:TGs):TG:=fun v σ H Q=>∃ a xs,v=.ref a/\SqT K H a xs/\xs.length=n/\t xs σ H Q
def pg_tup{es:List Expr}{k:Nat}{t:TGs}{n:Nat}(hc:X.calm=true)(h:PGs X es t)
  (hn:(assignEach es X.env).length=n:=by rfl) (hst:(assignEach es X.env).findIdx? (·.1)=none:=by rfl):PG X (.Tuple es k pos) (gTup X.K n t):=by
 intro pins s σ H v u Q I r hw;obtain⟨a,xs,e1,hq,hl,hw⟩:=hw;subst e1;cases r;obtain⟨its,rv,ht,hz⟩:=I.tuple hq;refine assign_Tuple_tuple (I.ok.hd hc) ht (by simp [hn,← hl,rv.length]) hst fun h' hx=>?_;have I1:Inv X pins σ H { s with heap:=h' }:=I.kept (t':=s.toks) fun b o e=>hx b o (ne_of_lt (lt_size e)) e;exact h pins _ σ H xs _ Q I1 (by simpa using rv) hw
def gSub(to ti:TE)(t:TSet):TG:=fun v σ H Q=>to σ H fun o H1=>ti σ H1 fun i H2=>t o i v H2 fun H3=>Q σ H3
def pg_sub{o i:Expr}{to ti:TE}{t:TSet}(ho:PE X o to)(hi:PE X i ti)(hs:PSet X t)
  (ha:∀ v,assign (.Subscript o i pos) X.env v=(do
   let ov ← holding [v] (eval o X.env)
   let iv ← holding [v,ov] (eval i X.env)
   standAt pos
   holding [v,ov,iv] (setItem ov iv v)
   release [v,ov,iv] []):=by intro _;rfl):PG X (.Subscript o i pos) (gSub to ti t):=by
 intro pins s σ H v u Q I r h;rw [ha];refine wpAny_bind (wpAny_holding (thn (ho pins s σ H _ I h) fun ov s1 hq9=>?_));obtain⟨x,H1,I1,r1,q1⟩:=hq9;refine wpAny_bind (wpAny_holding (thn (hi pins s1 σ H1 _ I1 q1) fun iv s2 hq9=>?_));obtain⟨y,H2,I2,r2,q2⟩:=hq9;refine wpAny_bind (wpAny_standAt (wpAny_bind (wpAny_holding (thn (hs pins s2 σ H2 x y v ov iv u _ I2 r1 r2 r q2) fun _ s3 hq9=>?_))));obtain⟨H3,I3,q3⟩:=hq9;exact wpAny_release ⟨σ,H3,I3,q3⟩
def tAsg(te:TE)(g:TG):TS:=fun D σ H=>te σ H fun x H1=>g x σ H1 D.nx
def ps_asg{tg e:Expr}{te:TE}{g:TG}(he:PE X e te)(hg:PG X tg g)(hs:swapsWithSole [tg] e pos.line X.env=pure false:=by rfl)(hw:swappedStores [tg] e X.env=pure none:=by rfl)
  (h1:(assignEach [tg] X.env).map (·.2)=[assign tg X.env]:=by rfl):PS X (.Assign [tg] e pos) (tAsg te g):=by
 intro pins s σ H D I h;refine wpAny_Assign_stores (thn (he pins s σ H _ I h) fun v s1 hq8=>?_) hs hw;obtain⟨x,H1,I1,r1,q1⟩:=hq8;rw [h1];exact thn (hg pins s1 σ H1 x v _ I1 r1 q1) fun _ s2 q=>q
def qa7s{i:Nat}{x:Str}{e:Expr}{te:TE}{pos':Pos}(hN:X.N.Nodup)(hi:X.N[i]? = some x)(hx:Loc X.env.scope x)(he:PE X e te)(hs:swapsWith e (some (.Name x pos')) pos.line X.env=pure false:=by rfl)(hf:X.fn x=true ∨ X.env.scope.names.lookup x=some .local:=by first | exact .inl rfl | exact .inr rfl | assumption) :
  PS X (.Assign [.Name x pos'] e pos) (tAsg te (qa9n i)):=by
 intro pins s σ H D I h;refine wpAny_Assign_Name (thn (he pins s σ H _ I h) fun v s1 hq8=>?_) hs;obtain⟨y,H1,I1,r1,q1⟩:=hq8;exact qb5x I1 hN hi hx r1 (fun s2 I2=>⟨_,H1,I2,q1⟩) hf
end
structure It where
 go:Nat->Hp->Prop
 yld:Nat->Hp->V->Hp->Prop
 stop:Nat->Hp->Prop
def FpOk(X:Cx)(pins:List 'b')(H:Hp)(b:Addr):Prop:=
 H b=none/\b ≠ X.env.locals/\b ∉ X.fs/\(b ∈ X.ex ∨ X.s₀.heap.objs.size <= b)/\(∀ x c,X.env.cells.lookup x=some c->c ≠ b)/\∀ p ∈ X.pn ++ pins,p.1 ≠ b
def Inv.fpOk{X:Cx}{pins:List 'b'}{σ:St}{H H':Hp}{s:Shared}{b:Addr}(I:Inv X pins σ H s)(hb:s.heap.objs.size <= b)(hn:H' b=none):FpOk X pins H' b:=by
 refine⟨hn,ne_of_gt (lt_of_lt_of_le I.lt hb),I.nofs hb,.inr (le_trans I.sz hb),fun x c e z=>?_,fun p hp z=>?_⟩
 ·obtain⟨v,q⟩:=I.cell x c e
  exact absurd (lt_of_lt_of_le q.lt (by rw [z];exact hb)) (lt_irrefl _)
 ·exact absurd (lt_of_lt_of_le (lt_size (I.pin p hp).1) (by rw [z];exact hb)) (lt_irrefl _)
structure Turn(P:Program)(w:World)(K:W.Frag)(tg:Expr)(J:It)(fp:List Addr)(it:Addr)(tn:Nat->Heap->Prop):Prop where
 mem:it ∈ fp
 obj:∀ i h,tn i h->∀ b ∈ fp,∃ o,h.get? b=some o/\∀ v,o.data ≠ .cell v
 keep:∀ i h h',tn i h->(∀ b ∈ fp,∀ o,h.get? b=some o->h'.get? b=some o)->tn i h'
 item:∀ (X:Cx),X.prog=P->X.w=w->X.K=K->X.calm=true->∀ (i:Nat) (pins:List 'b') (s:Shared) (σ:St) (H:Hp) (E:Value->Shared->Prop),Inv X pins σ H s->(∀ b ∈ fp,FpOk X pins H b)->tn i s.heap->J.go i H ->
  wpAny (model P w) X.A (pyNext (.ref it)) (fun r s1=>∃ u,r=some u /\
   wpAny (model P w) X.A (letOwnedTupleGo tg (.ref it) u) (fun _ s2=>∃ x H',Inv X pins σ H' s2/\RelV x u/\J.yld i H x H'/\tn (i + 1) s2.heap/\∀ b ∈ fp,H' b=none) E s1) E s
 done:∀ (X:Cx),X.prog=P->X.w=w->X.K=K->X.calm=true->∀ (i:Nat) (pins:List 'b') (s:Shared) (σ:St) (H:Hp) (E:Value->Shared->Prop),Inv X pins σ H s->(∀ b ∈ fp,FpOk X pins H b)->tn i s.heap->J.stop i H ->
  wpAny (model P w) X.A (pyNext (.ref it)) (fun r s1=>r=none/\Inv X pins σ H s1) E s
 self:∀ (A:Around) (i:Nat) (s:Shared) (Q:Value->Shared->Prop) (E:Value->Shared->Prop),tn i s.heap->Q (.ref it) s->wpAny (model P w) A (pyIter (.ref it)) Q E s
abbrev TI:=St->Hp->(It->Hp->Prop)->Prop
def PIE(X:Cx)(pins:List 'b')(σ:St)(tg:Expr)(R:It->Hp->Prop)(itv:Value)(s2:Shared):Prop:=
 ∃ (it:Addr) (fp:List Addr) (tn:Nat->Heap->Prop) (J:It) (H':Hp),itv=.ref it/\Inv X pins σ H' s2/\Turn X.prog X.w X.K tg J fp it tn/\tn 0 s2.heap/\(∀ b ∈ fp,FpOk X pins H' b)/\R J H'
def PI(X:Cx)(tg iter:Expr)(wi:TI):Prop:=
 ∀ (pins:List 'b') (s:Shared) (σ:St) (H:Hp) (R:It->Hp->Prop),Inv X pins σ H s->wi σ H R ->
  wpAny (model X.prog X.w) X.A (eval iter X.env) (fun v s1=>wpAny (model X.prog X.w) X.A (pyIter v) (PIE X pins σ tg R) X.xe s1) X.xe s
def go_of{M:Model}{A:Around}{E:Value->Shared->Prop}{s:Shared}{tg:Expr}{it:Addr}{u:Value}{o:Obj}{n:String}{vs:Array Value}{Q:Unit->Shared->Prop}(ho:s.heap.get? it=some o)(hc:o.cls=.type n)(hd:o.data=.fields vs)
  (hn:["enumerate","zip","dict_itemiterator","dict_reverseitemiterator","odict_iterator","itertools.zip_longest","itertools.pairwise"].contains n=false) (hQ:Q () s):wpAny M A (letOwnedTupleGo tg (.ref it) u) Q E s:=by
 unfold letOwnedTupleGo;cases tg<;>first
  | exact wpAny_pure hQ
  | (cases u<;>first
    | exact wpAny_pure hQ
    | (
      refine wpAny_bind (wpAny_load ho ?_);rw [hc,hd];show wpAny M A (if (["enumerate","zip","dict_itemiterator","dict_reverseitemiterator","odict_iterator","itertools.zip_longest","itertools.pairwise"].contains n && vs[0]? == some (rawInt _))=true then _ else _) Q E s;rw [if_neg (by intro h;rw [hn,Bool.false_and] at h;cases h)];exact wpAny_pure hQ))
noncomputable def Itl(K:W.Frag)(a:Addr):It:=
 ⟨fun i H=>∃ xs x,SqL K H a xs/\xs[i]? = some x,fun i H x H'=>H'=H/\∀ xs,SqL K H a xs->xs[i]? = some x,fun i H=>∃ xs,SqL K H a xs/\xs.length <= i⟩
noncomputable def Itt(K:W.Frag)(a:Addr):It:=
 ⟨fun i H=>∃ xs x,SqT K H a xs/\xs[i]? = some x,fun i H x H'=>H'=H/\∀ xs,SqT K H a xs->xs[i]? = some x,fun i H=>∃ xs,SqT K H a xs/\xs.length <= i⟩
noncomputable def Itr(lo:Int)(n:Nat):It:=⟨fun i _=>i < n,fun i H x H'=>H'=H/\x=.int (lo + i),fun i _=>n <= i⟩
def qc3d{P:Program}{w:World}{K:W.Frag}{tg:Expr}(a it:Addr):Turn P w K tg (Itl K a) [it] it (fun i h=>h.IsListIter it a i) where
 mem:=by simp
 obj:=fun i h st b hb=>by
  have e:b=it:=by simpa using hb
  subst e;obtain⟨o,e,c,d⟩:=st;exact⟨o,e,fun v z=>by rw [d] at z;cases z⟩
 keep:=fun i h h' st k=>st.at fun o e=>k it 'e' o e
 item:=by
  intro X hP hw hK hc i pins s σ H E I hf st hg;subst hP hw hK;obtain⟨xs,x,hq,hx⟩:=hg;obtain⟨its,rv,p,hz⟩:=I.list hq;obtain⟨u,hu,ru⟩:=rv.get hx;obtain⟨f0,f1,f2,f3,f4,f5⟩:=hf it 'e';refine wpAny_pyNext_list_item st p.isList (x:=u) (by simpa using hu) fun h' st' sb=>?_;have I1:Inv X pins σ H { s with heap:=h' }:=I.turned (t':=s.toks) (fun b o hb e=>(sb.2 b hb).trans e) f0 f1 f3 f4 f5;obtain⟨o,e,c,d⟩:=id st';exact⟨u,rfl,go_of (s:={ s with heap:=h' }) e c d 'd' ⟨x,H,I1,ru,⟨rfl,fun ys hy=>by rw [I.list_inj hy hq];exact hx⟩,st',fun b hb=>(hf b hb).1⟩⟩
 done:=by
  intro X hP hw hK hc i pins s σ H E I hf st hg;subst hP hw hK;obtain⟨xs,hq,hx⟩:=hg;obtain⟨its,rv,p,hz⟩:=I.list hq;obtain⟨f0,f1,f2,f3,f4,f5⟩:=hf it 'e';have hl:=rv.length;exact wpAny_pyNext_list_end (I.ok.hd hc) st p.isList (by simp;omega) fun h' eb=>⟨rfl,I.turned (t':=s.toks) (fun b o hb e=>eb b o hb e) f0 f1 f3 f4 f5⟩
 self:=fun _ _ _ _ _ st h=>wpAny_pyIter_listiter st h
def qc1d{P:Program}{w:World}{K:W.Frag}{tg:Expr}(a it:Addr):Turn P w K tg (Itt K a) [it] it (fun i h=>h.IsTupleIter it a i) where
 mem:=by simp
 obj:=fun i h st b hb=>by
  have e:b=it:=by simpa using hb
  subst e;obtain⟨o,e,c,d⟩:=st;exact⟨o,e,fun v z=>by rw [d] at z;cases z⟩
 keep:=fun i h h' st k=>st.at fun o e=>k it 'e' o e
 item:=by
  intro X hP hw hK hc i pins s σ H E I hf st hg;subst hP hw hK;obtain⟨xs,x,hq,hx⟩:=hg;obtain⟨its,rv,p,hz⟩:=I.tuple hq;obtain⟨u,hu,ru⟩:=rv.get hx;obtain⟨f0,f1,f2,f3,f4,f5⟩:=hf it 'e';refine wpAny_pyNext_tuple_item st (show s.heap.IsTuple a its.toArray from p) (x:=u) (by simpa using hu) fun h' st' sb=>?_;have I1:Inv X pins σ H { s with heap:=h' }:=I.turned (t':=s.toks) (fun b o hb e=>(sb.2 b hb).trans e) f0 f1 f3 f4 f5;obtain⟨o,e,c,d⟩:=id st';exact⟨u,rfl,go_of (s:={ s with heap:=h' }) e c d 'd' ⟨x,H,I1,ru,⟨rfl,fun ys hy=>by rw [I.tuple_inj hy hq];exact hx⟩,st',fun b hb=>(hf b hb).1⟩⟩
 done:=by
  intro X hP hw hK hc i pins s σ H E I hf st hg;subst hP hw hK;obtain⟨xs,hq,hx⟩:=hg;obtain⟨its,rv,p,hz⟩:=I.tuple hq;obtain⟨f0,f1,f2,f3,f4,f5⟩:=hf it 'e';have hl:=rv.length;exact wpAny_pyNext_tuple_end (I.ok.hd hc) st (show s.heap.IsTuple a its.toArray from p) (by simp;omega) fun h' eb=>⟨rfl,I.turned (t':=s.toks) (fun b o hb e=>eb b o hb e) f0 f1 f3 f4 f5⟩
 self:=fun _ _ _ _ _ st h=>wpAny_pyIter_tupleiter st h
def qc1e{P:Program}{w:World}{K:W.Frag}{tg:Expr}(it:Addr)(lo:Int)(n:Nat):Turn P w K tg (Itr lo n) [it] it (fun i h=>IsRangeIter h it (lo + (i:Nat) * 1) ((n:Int) - (i:Nat)) 1) where
 mem:=by simp
 obj:=fun i h st b hb=>by
  have e:b=it:=by simpa using hb
  subst e;exact⟨_,st,fun v z=>by
   have z':Data.fields _=Data.cell v:=z;cases z'⟩
 keep:=fun i h h' st k=>k it 'e' _ st
 item:=by
  intro X hP hw hK hc i pins s σ H E I hf st hg;subst hP hw hK;obtain⟨f0,f1,f2,f3,f4,f5⟩:=hf it 'e';have W:=Walks.range (prog:=X.prog) (w:=X.w) (I.ok.hd hc) it lo 1 n;refine W.item i s _ _ hg st fun v h' tk hv st' kk=>?_;obtain⟨t,rfl⟩:=hv;have I1:Inv X pins σ H { s with heap:=h',toks:=tk }:=I.turned (fun b o hb e=>kk b o (by simpa using hb) e) f0 f1 f3 f4 f5;refine⟨_,rfl,go_of (s:={ s with heap:=h',toks:=tk }) (n:="range_iterator") st' rfl rfl 'd' ⟨.int (lo + i),H,I1,⟨t,?_⟩,⟨rfl,rfl⟩,st',fun b hb=>(hf b hb).1⟩⟩;rw [Int.mul_one]
 done:=by
  intro X hP hw hK hc i pins s σ H E I hf st hg;subst hP hw hK;obtain⟨f0,f1,f2,f3,f4,f5⟩:=hf it 'e';exact wpAny_pyNext_range_end (I.ok.hd hc) st (by have:n <= i:=hg;omega) fun h' eb=>⟨rfl,I.turned (t':=s.toks) (fun b o hb e=>eb b o hb e) f0 f1 f3 f4 f5⟩
 self:=fun _ _ _ _ _ st h=>wpAny_pyIter_rangeiter st h
end L2
namespace L2
open PySem PySem.Spec PyProof.Rows
section
variable{X:Cx}{tg:Expr}
def qc5d{pins:List 'b'}{σ:St}{H:Hp}{s:Shared}{R:It->Hp->Prop}{E:Value->Shared->Prop}{lo hi:Int}{t u v:Tok}{tk:Nat}(I:Inv X pins σ H s)(h1:-(2 ^ 62) <= lo)(h2:lo < 2 ^ 62)(h3:-(2 ^ 62) <= hi)(h4:hi < 2 ^ 62)
  (q:R (Itr lo (hi - lo).toNat) H):wpAny (model X.prog X.w) X.A (pyIter (.ref s.heap.objs.size)) (PIE X pins σ tg R) E { s with heap:=s.heap.push { cls:=.type "range",data:=.fields #[.int lo t,.int hi u,.int 1 v] },toks:=tk }:=by
 refine wpAny_pyIter_range (IsRange.new ..) (small_one h1 h2 h3 h4) ?_;have I1:Inv X pins σ H { s with heap:=s.heap.push { cls:=.type "range",data:=.fields #[.int lo t,.int hi u,.int 1 v] },toks:=tk }:=I.kept fun b o e=>get?_push_of_some _ e;refine⟨(s.heap.push { cls:=.type "range",data:=.fields #[.int lo t,.int hi u,.int 1 v] }).objs.size,[(s.heap.push { cls:=.type "range",data:=.fields #[.int lo t,.int hi u,.int 1 v] }).objs.size],_,_,H,rfl,
  I1.kept (t':=tk) fun b o e=>get?_push_of_some _ e,qc1e _ lo (hi - lo).toNat,?_,fun b hb=>?_,q⟩
 ·have e1:lo + ((0:Nat):Int) * 1=lo:=by simp
  have e2:(((hi - lo).toNat:Nat):Int) - ((0:Nat):Int)=Builtin.Range.rangeSize lo hi 1:=by rw [rangeSize_one];split<;>omega
  show IsRangeIter _ _ (lo + ((0:Nat):Int) * 1) ((((hi - lo).toNat:Nat):Int) - ((0:Nat):Int)) 1;rw [e1,e2];exact get?_push_size _ rfl
 ·have e:b=(s.heap.push { cls:=.type "range",data:=.fields #[.int lo t,.int hi u,.int 1 v] }).objs.size:=by simpa using hb
  subst e;exact I1.fpOk 'c' (I1.hok.fresh 'c')
def iRng1(ta:TA):TI:=fun σ H R=>ta σ H fun vs H1=>∃ j:Int,vs=[.int j] /\ -(2 ^ 62) <= j/\j < 2 ^ 62/\R (Itr 0 j.toNat) H1
def qc3e{a:Expr}{ta:TA}{p pos:Pos} (hg:Gl X "range") (hm:X.mg "range" = none) (ha:PA X [a] ta) (hs:starEach [a] X.env=[(false,eval a X.env)]:=by rfl):PI X tg (.Call (.Name "range" p) [a] [] pos) (iRng1 ta):=by
 intro pins s σ H R I h;refine Call_ (qa6p I hg hm boot_range (PyProof.Rows.callWith_type1 (thn (ha pos pins s σ H _ I h) fun us s1 hq8=>?_) hs rfl));obtain⟨vs,H1,I1,r1,q1⟩:=hq8;obtain⟨j,e,q1,q2,q⟩:=q1;subst e;cases r1 with
 | cons r rr =>
  cases rr
  obtain⟨t,rfl⟩:=r;exact call_range_1 (qc5d I1 'o' 'o' q1 q2 (by simpa using q))
def tFor(wi:TI)(g:TG)(tb:TS):TS:=fun D σ H=>wi σ H fun J H1=>∃ W:Nat->Nat->St->Hp->Prop,(∃ m,W 0 m σ H1)/\∀ i m σ H,W i m σ H ->
 (J.stop i H/\D.nx σ H) ∨ (J.go i H/\∃ N:St->Hp->Prop,(∀ σ' H',N σ' H'->∃ m',m' < m/\W (i + 1) m' σ' H')/\∀ x H',J.yld i H x H'->g x σ H' fun σ2 H2=>tb { D with nx:=N,ct:=N,bk:=D.nx } σ2 H2)
noncomputable def qb0o(fp:List Addr)(h:Heap):List 'b':=fp.filterMap fun b=>(h.get? b).map fun o=>(b,o)
def qa6x{fp:List Addr}{h:Heap}{b:Addr}{o:Obj}(hb:b ∈ fp)(e:h.get? b=some o):(b,o) ∈ qb0o fp h:=List.mem_filterMap.mpr ⟨b,hb,by rw [e];rfl⟩
def qc3f{fp:List Addr}{h:Heap}{p:Addr × Obj}(hp:p ∈ qb0o fp h):p.1 ∈ fp/\h.get? p.1=some p.2:=by
 obtain⟨b,hb,e⟩:=List.mem_filterMap.mp hp;cases q:h.get? b with
 | none=>rw [q] at e;cases e
 | some o =>
  rw [q] at e;have e':(b,o)=p:=Option.some.inj e;subst e';exact⟨hb,q⟩
def Inv.pinned{pins:List 'b'}{σ:St}{H:Hp}{s:Shared}{fp:List Addr}(I:Inv X pins σ H s)(hf:∀ b ∈ fp,FpOk X pins H b)(ho:∀ b ∈ fp,∃ o,s.heap.get? b=some o/\∀ v,o.data ≠ .cell v):Inv X (pins ++ qb0o fp s.heap) σ H s:=
 I.pins_of fun p hp=>(mem_append.mp hp).elim (fun z=>I.pin p (mem_append_right _ z)) fun z=>by
  obtain⟨hb,e⟩:=qc3f z;obtain⟨f0,f1,f2,_⟩:=hf p.1 hb;obtain⟨o,e',d⟩:=ho p.1 hb;rw [e] at e';cases e';exact⟨e,f0,f1,f2,d⟩
def Inv.unpinned{pins pl:List 'b'}{σ:St}{H:Hp}{s:Shared}(I:Inv X (pins ++ pl) σ H s):Inv X pins σ H s:=I.pins_of fun p hp=>I.pin p (mem_append_right _ (List.mem_append_left _ hp))
def ps_for{iter:Expr}{body:List Stmt}{wi:TI}{g:TG}{tb:TS}{pos:Pos}(hp:PassesOwn (model X.prog X.w) X.A X.env X.xe)(hc:X.calm=true)(hi:PI X tg iter wi)(hg:PG X tg g)(hb:PSs X body tb)
  (hs:∀ x,foldedSetIterable iter X.env x=pure x:=by intro _;rfl):PS X (.For tg iter body [] pos) (tFor wi g tb):=by
 intro pins s σ H D I h;refine wpAny_For (thn (hi pins s σ H _ I h) fun v s1 h1=>thn h1 fun itv s2 h2=>?_) hs;obtain⟨it,fp,tn,J,H2,e,I2,T,st2,f2,W,⟨m0,w0⟩,turn⟩:=h2;subst e
 -- what stays true of the iterator's objects through the loop
 have stat:∀ {H':Hp},(∀ b ∈ fp,H' b=none)->∀ b ∈ fp,FpOk X pins H' b:=fun hn b hb=>⟨hn b hb,(f2 b hb).2⟩;refine codeAny_forLoop_any (fun n s'=>∃ i σ' H',Inv X pins σ' H' s'/\tn i s'.heap/\(∀ b ∈ fp,H' b=none)/\W i n σ' H') ?_ m0 ⟨0,σ,H2,I2,st2,fun b hb=>(f2 b hb).1,w0⟩;rintro n s3 ⟨i,σ3,H3,I3,st3,fr3,w3⟩;rcases turn i n σ3 H3 w3 with⟨stop,qn⟩ | ⟨go,N,hN,step⟩
 ·refine wpAny_passesOwn hp (thn (T.done X rfl rfl rfl hc i pins s3 σ3 H3 X.xe I3 (stat fr3) st3 stop) fun r s4 hq9=>?_)
  obtain⟨hr,I4⟩:=hq9;subst hr;exact wpAny_execs_nil ⟨σ3,H3,I4,qn⟩
 ·refine wpAny_passesOwn hp (thn (T.item X rfl rfl rfl hc i pins s3 σ3 H3 X.xe I3 (stat fr3) st3 go) fun r s4 hq9=>?_)
  obtain⟨u,hr,h4⟩:=hq9;subst hr;refine wpAny_passesOwn hp (thn h4 fun _ s5 hq9=>?_);obtain⟨x,H5,I5,r5,y5,st5,fr5⟩:=hq9;have I5':=I5.pinned (stat fr5) (T.obj _ _ st5);refine wpAny_passesOwn hp (thn (hg _ s5 σ3 H5 x u _ I5' r5 (step x H5 y5)) fun _ s6 hq9=>?_);obtain⟨σ6,H6,I6,q6⟩:=hq9;refine wpAny_passesOwn hp (thn (hb _ s6 σ6 H6 _ I6 q6) fun f s7 q7=>?_);have again:∀ {σ7:St} {H7:Hp},Inv X (pins ++ qb0o fp s5.heap) σ7 H7 s7->N σ7 H7->∃ m,m < n/\∃ i σ' H',Inv X pins σ' H' s7/\tn i s7.heap/\(∀ b ∈ fp,H' b=none)/\W i m σ' H':=fun{σ7 H7} I7 n7=>by
   obtain⟨m',hm,w7⟩:=hN σ7 H7 n7;refine⟨m',hm,i + 1,σ7,H7,I7.unpinned,T.keep _ _ _ st5 fun b hb o e=>(I7.pin (b,o) (mem_append_right _ (mem_append_right _ (qa6x hb e)))).1,fun b hb=>?_,w7⟩;obtain⟨o,e,d⟩:=T.obj _ _ st5 b hb;exact(I7.pin (b,o) (mem_append_right _ (mem_append_right _ (qa6x hb e)))).2.1
  cases f with
  | next=>obtain⟨σ7,H7,I7,n7⟩:=q7;exact again I7 n7
  | cont=>obtain⟨σ7,H7,I7,n7⟩:=q7;exact again I7 n7
  | brk=>obtain⟨σ7,H7,I7,q7⟩:=q7;exact⟨σ7,H7,I7.unpinned,q7⟩
  | ret v=>obtain⟨x7,σ7,H7,I7,r7,q7⟩:=q7;exact⟨x7,σ7,H7,I7.unpinned,r7,q7⟩
end
end L2
namespace L2
open PySem PySem.Spec PyProof.Rows
abbrev R2:=V->V->Hp->VK->Prop
def OpR(X:Cx)(f:Value->Value->Sem Value)(r:R2):Prop:=
 ∀ (pins:List 'b') (s:Shared) (σ:St) (H:Hp) (x y:V) (v u:Value) (Q:VK),Inv X pins σ H s->RelV x v->RelV y u->r x y H Q ->
  wpAny (model X.prog X.w) X.A (f v u) (EP X pins σ Q) X.xe s
def UnR(X:Cx)(f:Value->Sem Value)(r:V->Hp->VK->Prop):Prop:=
 ∀ (pins:List 'b') (s:Shared) (σ:St) (H:Hp) (x:V) (v:Value) (Q:VK),Inv X pins σ H s->RelV x v->r x H Q ->
  wpAny (model X.prog X.w) X.A (f v) (EP X pins σ Q) X.xe s
def qa2l(X:Cx)(f:Value)(r:List V->Hp->VK->Prop):Prop:=
 ∀ (pins:List 'b') (s:Shared) (σ:St) (H:Hp) (xs:List V) (us:List Value) (Q:VK),Inv X pins σ H s->Vals xs us->r xs H Q ->
  wpAny (model X.prog X.w) X.A (call f us) (EP X pins σ Q) X.xe s
def tOp(r:R2)(ta tb:TE):TE:=fun σ H Q=>ta σ H fun x H1=>tb σ H1 fun y H2=>r x y H2 Q
def tUn(r:V->Hp->VK->Prop)(ta:TE):TE:=fun σ H Q=>ta σ H fun x H1=>r x H1 Q
def rI(C:Int->Int->Prop)(g:Int->Int->V):R2:=fun x y H Q=>∃ i j,x=.int i/\y=.int j/\C i j/\Q (g i j) H
def rI0(g:Int->Int->V):R2:=fun x y H Q=>∃ i j,x=.int i/\y=.int j/\Q (g i j) H
noncomputable def rU(g:Int->V):V->Hp->VK->Prop:=fun x H Q=>∃ i,x=.int i/\Q (g i) H
section
variable{X:Cx}{a b c:Expr}{ta tb tc:TE}{pos:Pos}
def binT(ha:PE X a ta)(hb:PE X b tb){pins:List 'b'}{s:Shared}{σ:St}{H:Hp}{R:V->V->Hp->Prop}(I:Inv X pins σ H s)
  (h:ta σ H fun x H1=>tb σ H1 fun y H2=>R x y H2) {Q:Value->Shared->Prop} {f:Value->Value->Sem Value}
  (hf:∀ v u s2 x y H2,Inv X pins σ H2 s2->RelV x v->RelV y u->R x y H2->wpAny (model X.prog X.w) X.A (f v u) Q X.xe s2) :
  wpAny (model X.prog X.w) X.A (eval a X.env) (fun v s₁=>wpAny (model X.prog X.w) X.A (eval b X.env) (fun u s₂=>wpAny (model X.prog X.w) X.A (f v u) Q X.xe s₂) X.xe s₁) X.xe s:=by
 refine thn (ha pins s σ H _ I h) fun v s1 hq9=>?_;obtain⟨x,H1,I1,r1,q1⟩:=hq9;refine thn (hb pins s1 σ H1 _ I1 q1) fun u s2 hq9=>?_;obtain⟨y,H2,I2,r2,q2⟩:=hq9;exact hf v u s2 x y H2 I2 r1 r2 q2
def qa2t{op:Operator}{r:R2}(ho:OpR X (binaryOp op) r)(ha:PE X a ta)(hb:PE X b tb):PE X (.BinOp a op b pos) (tOp r ta tb):=by
 intro pins s σ H Q I h;exact wpAny_BinOp (binT ha hb I h fun v u s2 x y H2 I2 rx ry q=>ho pins s2 σ H2 x y v u Q I2 rx ry q)
def pe_un{op:UnaryOp}{r:V->Hp->VK->Prop}(ho:UnR X (unaryOp op) r)(ha:PE X a ta):PE X (.UnaryOp op a pos) (tUn r ta):=by
 intro pins s σ H Q I h;exact UnaryOp_ (thn (ha pins s σ H _ I h) fun v s1 hq8=>by obtain⟨x,H1,I1,r1,q1⟩:=hq8;exact ho pins s1 σ H1 x v Q I1 r1 q1)
def opI{f:Value->Value->Sem Value}{C:Int->Int->Prop}{g:Int->Int->Int}
  (rule:∀ (i j:Int) (t u:Tok) (s:Shared) (Q:Value->Shared->Prop) (E:Value->Shared->Prop),C i j->Q (.int (g i j) s.toks) { s with toks:=s.toks + 1 }->wpAny (model X.prog X.w) X.A (f (.int i t) (.int j u)) Q E s) :
  OpR X f (rI C fun i j=>.int (g i j)):=by
 intro pins s σ H x y v u Q I rx ry h;obtain⟨i,j,rfl,rfl,hc,q⟩:=h;obtain⟨t,rfl⟩:=rx;obtain⟨t',rfl⟩:=ry;exact rule i j t t' s _ _ hc ⟨.int (g i j),H,I.tok _,⟨_,rfl⟩,q⟩
def opI0{f:Value->Value->Sem Value}{g:Int->Int->Int}
  (rule:∀ (i j:Int) (t u:Tok) (s:Shared) (Q:Value->Shared->Prop) (E:Value->Shared->Prop),Q (.int (g i j) s.toks) { s with toks:=s.toks + 1 }->wpAny (model X.prog X.w) X.A (f (.int i t) (.int j u)) Q E s) :
  OpR X f (rI0 fun i j=>.int (g i j)):=by
 intro pins s σ H x y v u Q I rx ry h;obtain⟨i,j,rfl,rfl,q⟩:=h;obtain⟨t,rfl⟩:=rx;obtain⟨t',rfl⟩:=ry;exact rule i j t t' s _ _ ⟨.int (g i j),H,I.tok _,⟨_,rfl⟩,q⟩
def opB0{f:Value->Value->Sem Value}{g:Int->Int->Bool}
  (rule:∀ (i j:Int) (t u:Tok) (s:Shared) (Q:Value->Shared->Prop) (E:Value->Shared->Prop),Q (.bool (g i j)) s->wpAny (model X.prog X.w) X.A (f (.int i t) (.int j u)) Q E s) :
  OpR X f (rI0 fun i j=>.bl (g i j)):=by
 intro pins s σ H x y v u Q I rx ry h;obtain⟨i,j,rfl,rfl,q⟩:=h;obtain⟨t,rfl⟩:=rx;obtain⟨t',rfl⟩:=ry;exact rule i j t t' s _ _ ⟨.bl (g i j),H,I,rfl,q⟩
def CDiv(i j:Int):Prop:=0 < j/\j < 1073741824
def CPow(i j:Int):Prop:=0 <= j/\j <= 1000000/\i.natAbs < 2 ^ 64
def CMul(i j:Int):Prop:=(-(2 ^ 64) < i/\i < 2 ^ 64) ∨ (-(2 ^ 64) < j/\j < 2 ^ 64)
def CMul.ok{i j:Int}(h:CMul i j):IntMulOk i j:=by
 rcases h with⟨h1,h2⟩ | ⟨h1,h2⟩
 ·exact .of_left (intBits_le_64 h1 h2)
 ·exact .of_right (intBits_le_64 h1 h2)
def qc1f(k:Nat):(0:Int) <= 2 ^ k:=by
 rw [two_pow_cast];exact Int.natCast_nonneg _
def qb2v:OpR X (binaryOp .Add) (rI0 fun i j=>.int (i + j)):=opI0 fun _ _ _ _ _ _ _ q=>add_int q
def op_sub:OpR X (binaryOp .Sub) (rI0 fun i j=>.int (i - j)):=opI0 fun _ _ _ _ _ _ _ q=>sub_int q
def qb0p:OpR X (binaryOp .Mult) (rI CMul fun i j=>.int (i * j)):=opI fun _ _ _ _ _ _ _ hc q=>mul_int q hc.ok
def op_fdiv:OpR X (binaryOp .FloorDiv) (rI CDiv fun i j=>.int (i / j)):=opI fun i j _ _ _ _ _ hc q=>by
 have h1:(0:Int) < j:=hc.1;have h2:j < 1073741824:=hc.2;exact floordiv_int 'o' (by rw [Int.fdiv_eq_ediv_of_nonneg i 'o'];exact q) (.inl (PyProof.noPylong_small 'o'))
def qa8v:OpR X (binaryOp .Mod) (rI (fun _ j=>0 < j) fun i j=>.int (i % j)):=opI fun i j _ _ _ _ _ hc q=>by
 have h1:(0:Int) < j:=hc;exact mod_int' 'o' (by rw [Int.fmod_eq_emod_of_nonneg i 'o'];exact q)
def op_pow:OpR X (binaryOp .Pow) (rI CPow fun i j=>.int (i ^ j.toNat)):=opI fun _ _ _ _ _ _ _ hc q=>pow_int_small hc.1 hc.2.1 hc.2.2 q
def op_shr:OpR X (binaryOp .RShift) (rI (fun _ j=>0 <= j) fun i j=>.int (i / 2 ^ j.toNat)):=opI fun i j _ _ _ _ _ hc q =>
 rshift_int hc (by rw [Int.fdiv_eq_ediv_of_nonneg i (qc1f _)];exact q)
def unI{f:Value->Sem Value}{g:Int->Int}
  (rule:∀ (i:Int) (t:Tok) (s:Shared) (Q:Value->Shared->Prop) (E:Value->Shared->Prop),Q (.int (g i) s.toks) { s with toks:=s.toks + 1 }->wpAny (model X.prog X.w) X.A (f (.int i t)) Q E s) :
  UnR X f (rU fun i=>.int (g i)):=by
 intro pins s σ H x v Q I rx h;obtain⟨i,rfl,q⟩:=h;obtain⟨t,rfl⟩:=rx;exact rule i t s _ _ ⟨.int (g i),H,I.tok _,⟨_,rfl⟩,q⟩
def un_neg:UnR X (unaryOp .USub) (rU fun i=>.int (-i)):=unI fun _ _ _ _ _ q=>neg_int q
end
noncomputable def scal:V->V->Bool
 | .non,.non=>true | .non,.int _=>true | .int _,.non=>true | .non,.bl _=>true | .bl _,.non=>true | .non,.str _=>true | .str _,.non=>true
 | .int _,.int _=>true | .bl _,.bl _=>true | .str _,.str _=>true | .byt _,.byt _=>true
 | .int _,.str _=>true | .str _,.int _=>true | .bl _,.str _=>true | .str _,.bl _=>true
 | _,_=>false
def rEq:R2:=fun x y H Q=>scal x y=true/\Q (.bl (decide (x=y))) H
def rNe:R2:=fun x y H Q=>scal x y=true/\Q (.bl (!decide (x=y))) H
def qb9s{i j:Int}:decide (V.int i=V.int j)=(i == j):=by
 rw [Bool.eq_iff_iff];simp
def dec_bl{i j:Bool}:decide (V.bl i=V.bl j)=(i == j):=by
 rw [Bool.eq_iff_iff];simp
def qb9t{i j:Str}:decide (V.str i=V.str j)=(i == j):=by
 rw [Bool.eq_iff_iff];simp
def qb9u{i j:Array UInt8}:decide (V.byt i=V.byt j)=(i.toList == j.toList):=by
 rw [Bool.eq_iff_iff];cases i;cases j;simp
section
variable{X:Cx}{a b c:Expr}{ta tb tc:TE}{pos:Pos}
def qa0w{pins:List 'b'}{σ:St}{H:Hp}{s:Shared}{Q:VK}{k k':Bool}(I:Inv X pins σ H s)(q:Q (.bl k) H)(e:k=k'):EP X pins σ Q (.bool k') s:=by
 subst e;exact⟨.bl k,H,I,rfl,q⟩
def op_eq:OpR X (compareOp .Eq) rEq:=by
 intro pins s σ H x y v u Q I rx ry h;obtain⟨hs,q⟩:=h;cases x with
 | non =>
  cases rx
  cases y with
  | non=>cases ry;exact PySem.EqNone.eq_none_none (qa0w I q 'e')
  | bl j=>cases ry;exact PySem.EqNone.eq_none_bool (qa0w I q 'e')
  | int j=>obtain⟨t',rfl⟩:=ry;exact PySem.EqNone.eq_none_int (qa0w I q 'e')
  | str j=>obtain⟨t',rfl⟩:=ry;exact PySem.EqNone.eq_none_str (qa0w I q 'e')
  | _=>exact absurd (show false=true from hs) Bool.false_ne_true
 | bl i =>
  cases rx
  cases y with
  | non=>cases ry;exact PySem.EqNone.eq_bool_none (qa0w I q 'e')
  | bl j=>cases ry;exact eq_bool (qa0w I q dec_bl)
  | str j=>obtain⟨t',rfl⟩:=ry;exact PySem.EqMixed.eq_bool_str (qa0w I q 'e')
  | _=>exact absurd (show false=true from hs) Bool.false_ne_true
 | int i =>
  obtain⟨t,rfl⟩:=rx;cases y with
  | non=>cases ry;exact PySem.EqNone.eq_int_none (qa0w I q 'e')
  | int j=>obtain⟨t',rfl⟩:=ry;exact eq_int (qa0w I q qb9s)
  | str j=>obtain⟨t',rfl⟩:=ry;exact PySem.EqMixed.eq_int_str (qa0w I q 'e')
  | _=>exact absurd (show false=true from hs) Bool.false_ne_true
 | str i =>
  obtain⟨t,rfl⟩:=rx;cases y with
  | non=>cases ry;exact PySem.EqNone.eq_str_none (qa0w I q 'e')
  | bl j=>cases ry;exact PySem.EqMixed.eq_str_bool (qa0w I q 'e')
  | int j=>obtain⟨t',rfl⟩:=ry;exact PySem.EqMixed.eq_str_int (qa0w I q 'e')
  | str j=>obtain⟨t',rfl⟩:=ry;exact eq_str (qa0w I q qb9t)
  | _=>exact absurd (show false=true from hs) Bool.false_ne_true
 | byt i =>
  obtain⟨t,rfl⟩:=rx;cases y with
  | byt j=>obtain⟨t',rfl⟩:=ry;exact PySem.W.eq_bytes (qa0w I q qb9u)
  | _=>exact absurd (show false=true from hs) Bool.false_ne_true
 | _=>cases y<;>exact absurd (show false=true from hs) Bool.false_ne_true
def op_ne:OpR X (compareOp .NotEq) rNe:=by
 intro pins s σ H x y v u Q I rx ry h;obtain⟨hs,q⟩:=h;cases x with
 | non =>
  cases rx
  cases y with
  | non=>cases ry;exact PySem.EqNone.ne_none_none (qa0w I q 'e')
  | bl j=>cases ry;exact PySem.EqNone.ne_none_bool (qa0w I q 'e')
  | int j=>obtain⟨t',rfl⟩:=ry;exact PySem.EqNone.ne_none_int (qa0w I q 'e')
  | str j=>obtain⟨t',rfl⟩:=ry;exact PySem.EqNone.ne_none_str (qa0w I q 'e')
  | _=>exact absurd (show false=true from hs) Bool.false_ne_true
 | bl i =>
  cases rx
  cases y with
  | non=>cases ry;exact PySem.EqNone.ne_bool_none (qa0w I q 'e')
  | bl j=>cases ry;exact ne_bool (qa0w I q (congrArg not dec_bl))
  | str j=>obtain⟨t',rfl⟩:=ry;exact PySem.EqMixed.ne_bool_str (qa0w I q 'e')
  | _=>exact absurd (show false=true from hs) Bool.false_ne_true
 | int i =>
  obtain⟨t,rfl⟩:=rx;cases y with
  | non=>cases ry;exact PySem.EqNone.ne_int_none (qa0w I q 'e')
  | int j=>obtain⟨t',rfl⟩:=ry;exact ne_int (qa0w I q (congrArg not qb9s))
  | str j=>obtain⟨t',rfl⟩:=ry;exact PySem.EqMixed.ne_int_str (qa0w I q 'e')
  | _=>exact absurd (show false=true from hs) Bool.false_ne_true
 | str i =>
  obtain⟨t,rfl⟩:=rx;cases y with
  | non=>cases ry;exact PySem.EqNone.ne_str_none (qa0w I q 'e')
  | bl j=>cases ry;exact PySem.EqMixed.ne_str_bool (qa0w I q 'e')
  | int j=>obtain⟨t',rfl⟩:=ry;exact PySem.EqMixed.ne_str_int (qa0w I q 'e')
  | str j=>obtain⟨t',rfl⟩:=ry;exact ne_str (qa0w I q (congrArg not qb9t))
  | _=>exact absurd (show false=true from hs) Bool.false_ne_true
 | byt i =>
  obtain⟨t,rfl⟩:=rx;cases y with
  | byt j=>obtain⟨t',rfl⟩:=ry;exact PySem.W.ne_bytes (qa0w I q (congrArg not qb9u))
  | _=>exact absurd (show false=true from hs) Bool.false_ne_true
 | _=>cases y<;>exact absurd (show false=true from hs) Bool.false_ne_true
def op_lt:OpR X (compareOp .Lt) (rI0 fun i j=>.bl (decide (i < j))):=opB0 fun _ _ _ _ _ _ _ q=>lt_int q
def op_le:OpR X (compareOp .LtE) (rI0 fun i j=>.bl (decide (i <= j))):=opB0 fun _ _ _ _ _ _ _ q=>le_int q
def op_gt:OpR X (compareOp .Gt) (rI0 fun i j=>.bl (decide (j < i))):=opB0 fun _ _ _ _ _ _ _ q=>gt_int q
def op_ge:OpR X (compareOp .GtE) (rI0 fun i j=>.bl (decide (j <= i))):=opB0 fun _ _ _ _ _ _ _ q=>ge_int q
def qc3g:OpR X (compareOp .In) (fun x y H Q=>∃ i j,x=.str i/\y=.str j/\Q (.bl (!(Builtin.Str.occurrences j i 0 j.length 1).isEmpty)) H):=by
 intro pins s σ H x y v u Q I rx ry h;obtain⟨i,j,rfl,rfl,q⟩:=h;obtain⟨t,rfl⟩:=rx;obtain⟨t',rfl⟩:=ry;exact in_str (qa0w I q rfl)
def OpR.or{f:Value->Value->Sem Value}{r r':R2}(h:OpR X f r)(h':OpR X f r'):OpR X f (fun x y H Q=>r x y H Q ∨ r' x y H Q):=by
 intro pins s σ H x y v u Q I rx ry q;rcases q with q | q
 ·exact h pins s σ H x y v u Q I rx ry q
 ·exact h' pins s σ H x y v u Q I rx ry q
def qa0q(b:Expr){op:CmpOp}(h:op ≠ .In:=by decide)(h2:op ≠ .NotIn:=by decide):behindInMarks op b=false:=by
 have e1:(op == CmpOp.In)=false:=by cases op<;>first | rfl | exact absurd rfl h
 have e2:(op == CmpOp.NotIn)=false:=by cases op<;>first | rfl | exact absurd rfl h2
 cases b<;>simp [behindInMarks,e1,e2]
def pe_cmpR{op:CmpOp}{r:R2}(ho:OpR X (compareOp op) r)(ha:PE X a ta)(hb:PE X b tb)(hm:behindInMarks op b=false):PE X (.Compare a [op] [b] pos) (tOp r ta tb):=by
 intro pins s σ H Q I h;exact wpAny_Compare1 (binT ha hb I h fun v u s2 x y H2 I2 rx ry q=>ho pins s2 σ H2 x y v u Q I2 rx ry q) hm
def tTest(t:TE):TT:=fun σ H Q=>t σ H fun x H'=>∃ k,x=.bl k/\Q k H'
def qb1q{op:CmpOp}{r:R2}(ho:OpR X (compareOp op) r)(ha:PE X a ta)(hb:PE X b tb)(hm:behindInMarks op b=false):PT X (.Compare a [op] [b] pos) (tTest (tOp r ta tb)):=by
 intro pins s σ H Q I h;refine wpAny_isTrue_Compare1 (thn (ha pins s σ H _ I h) fun v s1 ⟨x,H1,I1,r1,q1⟩=>thn (hb pins s1 σ H1 _ I1 q1) fun u s2 ⟨y,H2,I2,r2,q2⟩ =>
  thn (ho pins s2 σ H2 x y v u _ I2 r1 r2 q2) fun c s3 ⟨z,H3,I3,r3,k,e,q3⟩=>?_) hm
 subst e;cases r3;exact wpAny_truthy_bool ⟨H3,I3,q3⟩
def qb5z(r r':R2)(ta tb tc:TE):TE:=fun σ H Q=>ta σ H fun x H1=>tb σ H1 fun y H2=>r x y H2 fun z H3=>∃ k,z=.bl k /\
 (if k=true then tc σ H3 fun w' H4=>r' y w' H4 Q else Q (.bl false) H3)
def qc5e{op op':CmpOp}{r r':R2}(ho:OpR X (compareOp op) r)(ho':OpR X (compareOp op') r')(ha:PE X a ta)(hb:PE X b tb)(hc:PE X c tc)
  (hm:lastMarks [op,op'] [b,c]=false:=by with_unfolding_all rfl):PE X (.Compare a [op,op'] [b,c] pos) (qb5z r r' ta tb tc):=by
 intro pins s σ H Q I h;refine Compare_chain (thn (ha pins s σ H _ I h) fun v s1 ⟨x,H1,I1,r1,q1⟩=>chain_link (thn (hb pins s1 σ H1 _ I1 q1) fun u s2 ⟨y,H2,I2,r2,q2⟩ =>
  thn (ho pins s2 σ H2 x y v u _ I2 r1 r2 q2) fun d s3 ⟨z,H3,I3,r3,k,e,q3⟩=>?_)) hm
 subst e;cases r3;refine wpAny_truthy_bool ?_;cases k with
 | false=>exact ite_ff ⟨.bl false,H3,I3,rfl,q3⟩
 | true=>exact ite_tt (chain_last (thn (hc pins s3 σ H3 _ I3 q3) fun w' s4 hq8=>by obtain⟨z',H4,I4,r4,q4⟩:=hq8;exact ho' pins s4 σ H4 y z' u w' Q I4 r2 r4 q4))
def qc5f{op op':CmpOp}{r r':R2}(ho:OpR X (compareOp op) r)(ho':OpR X (compareOp op') r')(ha:PE X a ta)(hb:PE X b tb)(hc:PE X c tc)
  (hm:lastMarks [op,op'] [b,c]=false:=by with_unfolding_all rfl):PT X (.Compare a [op,op'] [b,c] pos) (tTest (qb5z r r' ta tb tc)):=by
 intro pins s σ H Q I h;refine isTrue_chain (thn (ha pins s σ H _ I h) fun v s1 ⟨x,H1,I1,r1,q1⟩=>test_link (thn (hb pins s1 σ H1 _ I1 q1) fun u s2 ⟨y,H2,I2,r2,q2⟩ =>
  thn (ho pins s2 σ H2 x y v u _ I2 r1 r2 q2) fun d s3 ⟨z,H3,I3,r3,k,e,q3⟩=>?_)) hm
 subst e;cases r3;refine wpAny_truthy_bool ?_;cases k with
 | false =>
  obtain⟨k',e',q'⟩:=q3;cases e';exact ite_ff ⟨H3,I3,q'⟩
 | true =>
  refine ite_tt (test_last (thn (hc pins s3 σ H3 _ I3 q3) fun w' s4 ⟨z',H4,I4,r4,q4⟩=>thn (ho' pins s4 σ H4 y z' u w' _ I4 r2 r4 q4) fun d' s5 hq9=>?_));obtain⟨z2,H5,I5,r5,k2,e2,q5⟩:=hq9;subst e2;cases r5;exact wpAny_truthy_bool ⟨H5,I5,q5⟩
def qa8w:(sizeLine:Nat) < 2 ^ 63:=by rw [sizeLine_eq];decide
def qc1g:OpR X (binaryOp .Add) (fun x y H Q=>∃ i j,x=.str i/\y=.str j/\i.length + j.length <= sizeLine/\Q (.str (i ++ j)) H):=by
 intro pins s σ H x y v u Q I rx ry h;obtain⟨i,j,rfl,rfl,hz,q⟩:=h;obtain⟨t,rfl⟩:=rx;obtain⟨t',rfl⟩:=ry;exact add_str (fun t' tk=>⟨.str (i ++ j),H,I.tok _,⟨_,rfl⟩,q⟩) hz
def vals1{x:V}{us:List Value}(r:Vals [x] us):∃ u,us=[u]/\RelV x u:=by
 cases r with
 | cons r1 r2=>cases r2;exact⟨_,rfl,r1⟩
def qb6a:qa2l X (.type "str") (fun xs H Q=>∃ i,xs=[.int i]/\i.natAbs.log2 < 1920/\Q (.str (toString i)) H):=by
 intro pins s σ H xs us Q I r h;obtain⟨i,rfl,hz,q⟩:=h;obtain⟨u,rfl,t,rfl⟩:=vals1 r;exact PySem.P.str_of_int hz ⟨.str _,H,I.tok _,⟨_,rfl⟩,q⟩
end
end L2
namespace L2
open PySem PySem.Spec PyProof.Rows
structure ObjM(h:Heap)(x dx C:Addr)(mA:Str->Option Value):Prop where
 obj:h.get? x=some (PySem.W.instObj C dx)
 ns:h.Ns1 dx mA
 ne:dx ≠ x
structure Cls(K:W.Frag)(C:Addr):Prop where
 pg:PySem.W.plainGet K C Str.empty=true
 hd:PySem.W.hasDictIn K C=true
 po:PySem.W.plainOver K C=true
 sa:PySem.W.findIn K (.ref C) "__setattr__" = some (some (.builtin "object.__setattr__"))
end L2
namespace L2
open PySem PySem.Spec PyProof.Rows
structure Room(k:Nat)(A:Around):Prop where
 hd:A.handled=none
 dp:A.depth + 3 * k + 5 < recursionLimit
 un:A.units + 16 * k + 200 < cLine
 gd:A.guards=some []
def Room.mono{j k:Nat}{A:Around}(r:Room k A)(h:j <= k):Room j A:=⟨r.hd,by have:=r.dp;omega,by have:=r.un;omega,r.gd⟩
def Room.deeper{k:Nat}{A:Around}(r:Room (k + 1) A)(env:Env):Room k (A.deeper env):=
 ⟨r.hd,by have:=r.dp;show A.depth + 1 + 3 * k + 5 < _;omega,by have:=r.un;show A.units + 3 + 16 * k + 200 < _;omega,r.gd⟩
def Room.depth{k:Nat}{A:Around}(r:Room k A):A.depth < recursionLimit:=by have:=r.dp;omega
def Room.units{k:Nat}{A:Around}(r:Room k A):A.units + 64 < cLine:=by have:=r.un;omega
def tNil:TA:=fun _ H Q=>Q [] H
def qa8e(ta:TE)(tr:TA):TA:=fun σ H Q=>ta σ H fun x H1=>tr σ H1 fun xs H2=>Q (x :: xs) H2
section
variable{X:Cx}{e:Expr}{es:List Expr}{te:TE}{t:TA}{pos:Pos}
def qa4q:PA X [] tNil:=fun _ _ _ _ H Q I h=>Calls.spliced_nil ⟨[],H,I,.nil,h⟩
def qa2j(ha:PE X e te)(hr:PA X es t)(hs:starEach (e :: es) X.env=(false,eval e X.env) :: starEach es X.env:=by rfl):PA X (e :: es) (qa8e te t):=by
 intro pos pins s σ H Q I h;rw [hs];show wpAny _ _ (spliced ((false,eval e X.env) :: backTo pos (starEach es X.env))) _ _ s;refine Calls.spliced_cons (thn (ha pins s σ H _ I h) fun u s1 hq9=>?_);obtain⟨x,H1,I1,r1,q1⟩:=hq9;exact thn (hr pos pins s1 σ H1 _ I1 q1) fun us s2 hq8=>by obtain⟨xs,H2,I2,r2,q2⟩:=hq8;exact⟨x :: xs,H2,I2,.cons r1 r2,q2⟩
def tTup(t:TA):TE:=fun σ H Q=>t σ H fun xs H1=>xs.length <= sizeLine/\∀ p,H1 p=none->Q (.ref p) (upd H1 p (.tup xs))
def tLst(t:TA):TE:=fun σ H Q=>t σ H fun xs H1=>xs.length <= sizeLine/\∀ p,H1 p=none->Q (.ref p) (upd H1 p (.lst xs))
def pe_tup{x1}(h:PA X es t):PE X (.Tuple es x1 pos) (tTup t):=by
 intro pins s σ H Q I hq;refine wpAny_Tuple_spliced (thn (h pos pins s σ H _ I hq) fun us s1 ⟨xs,H1,I1,r,z,q⟩=>⟨by rw [← r.length];exact z,?_⟩);have hf:H1 s1.heap.objs.size=none:=I1.hok.fresh 'c';refine⟨.ref s1.heap.objs.size,upd H1 s1.heap.objs.size (.tup xs),I1.laid (t':=s1.toks) (fun b u e=>get?_push_of_some _ e) 'c' ?_,rfl,q _ hf⟩;exact⟨z,us,r,⟨_,get?_push_size _ rfl,⟨rfl,rfl⟩,_,rfl⟩⟩
def pe_lst(h:PA X es t):PE X (.List es pos) (tLst t):=by
 intro pins s σ H Q I hq;refine wpAny_List_spliced (thn (h pos pins s σ H _ I hq) fun us s1 ⟨xs,H1,I1,r,z,q⟩=>⟨by rw [← r.length];exact z,?_⟩);have hf:H1 s1.heap.objs.size=none:=I1.hok.fresh 'c';refine⟨.ref s1.heap.objs.size,upd H1 s1.heap.objs.size (.lst xs),I1.laid (t':=s1.toks) (fun b u e=>get?_push_of_some _ e) 'c' ?_,rfl,q _ hf⟩;exact⟨z,us,0,r,get?_push_size _ rfl⟩
end
abbrev Sp:=List V->Hp->VK->XK->Prop
abbrev CXT:=List Env->Hp->Shared->XK->Value->Shared->Prop
structure Env0(P:Program)(w:World)(K:W.Frag)(mg:Str->Option Value)(base:Heap)(A:Around)(outer:List Env)(s:Shared)(H:Hp):Prop where
 frames:A.frames=some outer
 mod:Mod K mg base
 bs:∀ b o,base.get? b=some o->s.heap.get? b=some o/\H b=none
 bsz:base.objs.size <= s.heap.objs.size
 funs:s.heap.FunFrames base outer
 frf:∀ b ∈ frs outer,H b=none
 hok:HOk P w H s.heap
 bare:AllBare s.gens
def CE(outer:List Env)(P:Program)(w:World)(H:Hp)(s:Shared)(Q:VK)(u:Value)(s':Shared):Prop:=
 ∃ v H',s'.os=s.os/\AllBare s'.gens/\Un (frs outer) [] H H' s.heap s'.heap/\HOk P w H' s'.heap/\RelV v u/\Q v H'
def CR(CX:CXT)(outer:List Env)(P:Program)(w:World)(H:Hp)(s:Shared)(Q:VK)(E:XK)(r:Result)(s':Shared):Prop:=
 match r with
 | .ok (.ret u)=>CE outer P w H s Q u s'
 | .ok _=>False
 | .error e=>CX outer H s E e s'
structure FnOk(P:Program)(w:World)(K:W.Frag)(mg:Str->Option Value)(base:Heap)(CX:CXT)(k:Nat)(f:Addr)(fd:FuncData)(ps:List Str)(sp:Sp):Prop where
 len:∀ vs H Q E,sp vs H Q E->vs.length=ps.length
 run:∀ (A:Around) (outer:List Env) (s:Shared) (H:Hp) (args:Args) (us:List Value) (vs:List V) (Q:VK) (E:XK),Room k A->Env0 P w K mg base A outer s H->BindsTo s fd args (ps.zip us)->Vals vs us->sp vs H Q E ->
  codeAny (model P w) A (.call (.ref f) args) (CR CX outer P w H s Q E) s
def FnOk.mono{P:Program}{w:World}{K:W.Frag}{mg:Str->Option Value}{base:Heap}{CX:CXT}{j k:Nat}{f:Addr}{fd:FuncData}{ps:List Str}{sp:Sp}(F:FnOk P w K mg base CX j f fd ps sp)(h:j <= k) :
  FnOk P w K mg base CX k f fd ps sp:=⟨F.len,fun A outer s H args us vs Q E hr=>F.run A outer s H args us vs Q E (hr.mono h)⟩
section
variable{X:Cx}{pins:List 'b'}{σ:St}{H:Hp}{s s':Shared}
def Inv.env0(I:Inv X pins σ H s):Env0 X.prog X.w X.K X.mg X.base X.A X.stack s H:=
 ⟨I.ok.frames,I.ok.mod,I.bs,le_trans I.ok.bsz I.sz,I.stack,I.stkFree,I.hok,I.bare⟩
def Inv.after{Q:VK}{u:Value}(I:Inv X pins σ H s)(h:CE X.stack X.prog X.w H s Q u s'):EP X pins σ Q u s':=by
 obtain⟨v,H',os,bare,un,hok,r,q⟩:=h;obtain⟨hh,g,d,t,os'⟩:=s';obtain rfl:os'=s.os:=os;exact⟨v,H',I.call (h':=hh) (g':=g) (d':=d) (t':=t) (ch:=[]) un hok bare (fun b z=>absurd z 'e'),r,q⟩
end
def tCall(sp:Sp)(dvs:List V)(E:XK)(t:TA):TE:=fun σ H Q=>t σ H fun vs H1=>sp (vs ++ dvs) H1 Q E
def Binds(K:W.Frag)(fd:FuncData)(ps:List Str)(ds:List Value):Prop:=
 ∀ (s:Shared) (us:List Value),K.In s.heap->(us ++ ds).length=ps.length->BindsTo s fd ⟨us,[]⟩ (ps.zip (us ++ ds))
def Binds.all{K:W.Frag}{fd:FuncData}{ps:List Str}(h:∀ us:List Value,us.length=ps.length->bindArgs fd ⟨us,[]⟩=pure (ps.zip us)):Binds K fd ps []:=fun s us _ hl=>by
 rw [append_nil] at hl ⊢;exact .of_eq (h us hl)
def qb6b(CX:CXT)(X:Cx)(E:XK):Prop:=∀ (pins:List 'b') (σ:St) (H:Hp) (s:Shared) (e:Value) (s':Shared),Inv X pins σ H s->CX X.stack H s E e s'->X.xe e s'
section
variable{X:Cx}{CX:CXT}{k:Nat}{f C:Addr}{fd:FuncData}{ps:List Str}{sp:Sp}{dvs:List V}{ds:List Value}{E:XK}{x m:Str}{p pos apos:Pos}{e o:Expr}{es:List Expr}{ta:TE}{t:TA}
def run_fn{pins:List 'b'}{σ:St}{H:Hp}{s:Shared}{Q:VK}{us:List Value}{vs:List V}(F:FnOk X.prog X.w X.K X.mg X.base CX k f fd ps sp)(hr:Room k X.A)(hb:Binds X.K fd ps ds)(hd:Vals dvs ds)(hx:qb6b CX X E)
  (I:Inv X pins σ H s) (r:Vals vs us) (h:sp (vs ++ dvs) H Q E):wpAny (model X.prog X.w) X.A (call (.ref f) us) (EP X pins σ Q) X.xe s:=by
 have r2:Vals (vs ++ dvs) (us ++ ds):=r.append hd;have hl:(us ++ ds).length=ps.length:=by rw [← r2.length];exact F.len _ _ _ _ h
 refine wpAny_call (codeAny_mono (F.run X.A X.stack s H ⟨us,[]⟩ (us ++ ds) (vs ++ dvs) Q E hr I.env0 (hb s us I.kIn hl) r2 h) fun r s' hq=>?_);cases r with
 | error e=>exact hx pins σ H s e s' I hq
 | ok fl =>
  cases fl with
  | ret u=>exact I.after hq
  | next=>exact False.elim hq
  | brk=>exact False.elim hq
  | cont=>exact False.elim hq
def pe_call(F:FnOk X.prog X.w X.K X.mg X.base CX k f fd ps sp)(hr:Room k X.A)(hg:Gl X x)(hm:X.mg x=some (.ref f))(hk:PySem.W.keepIn X.K (.ref f)=true)(hb:Binds X.K fd ps ds)(hd:Vals dvs ds)(hx:qb6b CX X E)
  (ha:PA X (e :: es) t) (hdb:(x == ("__debug__" : Str))=false:=by decide) (he:starEach (e :: es) X.env=(false,eval e X.env) :: starEach es X.env:=by rfl) (hpl:(backTo pos (starEach es X.env)).any (·.1)=false:=by rfl) :
  PE X (.Call (.Name x p) (e :: es) [] pos) (tCall sp dvs E t):=by
 intro pins s σ H Q I h;refine wpAny_Call_Name_kw (qb9r I hg hm ?_ hdb);refine PySem.W.callWith_K (h₀:=X.base) I.ok.mod.kin hk (thn (ha pos pins s σ H _ I h) fun us s1 ⟨vs,H1,I1,r,q⟩=>⟨I1.kIn,?_⟩) he hpl;exact run_fn F hr hb hd hx I1 r q
end
section
variable{X:Cx}{CX:CXT}{k:Nat}{f C:Addr}{fd:FuncData}{ps ks:List Str}{sp:Sp}{E:XK}{x m:Str}{p pos apos kpos:Pos}{e o:Expr}{es:List Expr}{kws:List Keyword}{te ta:TE}{t tk:TA}{nm:Option Str}
variable{g:List Value->List Value->List Value}{gV:List V->List V->List V}
end
structure FnScope(N P:List Str)(sc:Scope):Prop where
 kind:sc.kind=.function
 co:sc.isCoroutine=false
 gen:sc.isGenerator=false
 nd:N.Nodup
 pre:N.take P.length=P
 par:∀ x ∈ P,sc.names.lookup x=some .local ∨ sc.names.lookup x=some .cell
 nofree:∀ y ∈ sc.names,y.2 ≠ .free
def qb4o{kindOf:Str->Option NameKind}{x:Str}:∀ {binds:List (Str × Value)} {m:Str->Option Value},(∀ v,(x,v) ∉ binds)->bindL kindOf binds m x=m x
 | [],_,_=>rfl
 | (n,v) :: r,m,h=>by
  unfold bindL;rw [qb4o fun w hw=>h w (mem_cons_of_mem _ hw)];split
  ·have:x ≠ n:=by rintro rfl;exact h v mem_cons_self
   simp [this]
  ·rfl
def qb4p{kindOf:Str->Option NameKind}{x:Str}:∀ {binds:List (Str × Value)} {m:Str->Option Value},(∀ v,(x,v) ∉ binds)->bindC kindOf binds m x=m x
 | [],_,_=>rfl
 | (n,v) :: r,m,h=>by
  unfold bindC;rw [qb4p fun w hw=>h w (mem_cons_of_mem _ hw)];split
  ·rfl
  ·have:x ≠ n:=by rintro rfl;exact h v mem_cons_self
   simp [this]
def qb4q{kindOf:Str->Option NameKind}{x:Str}{v:Value}:∀ {P:List Str} {vs:List Value} {i:Nat} {m:Str->Option Value},P.Nodup->P[i]? = some x->vs[i]? = some v->kindOf x=some .local ->
  bindL kindOf (P.zip vs) m x=some v
 | [],_,_,_,_,h,_,_=>by simp at h
 | _ :: _,[],_,_,_,_,h,_=>by simp at h
 | p :: P,w :: vs,0,m,nd,h1,h2,hk=>by
  simp at h1 h2;subst h1;subst h2
  show bindL kindOf ((p,w) :: P.zip vs) m p=_;unfold bindL;rw [qb4o fun v hv=>(nodup_cons.mp nd).1 (List.of_mem_zip hv).1,if_pos hk];simp
 | p :: P,w :: vs,i + 1,m,nd,h1,h2,hk=>by
  show bindL kindOf ((p,w) :: P.zip vs) m x=_;unfold bindL;exact qb4q (i:=i) (nodup_cons.mp nd).2 (by simpa using h1) (by simpa using h2) hk
def qb4r{kindOf:Str->Option NameKind}{x:Str}{v:Value}:∀ {P:List Str} {vs:List Value} {i:Nat} {m:Str->Option Value},P.Nodup->P[i]? = some x->vs[i]? = some v->kindOf x ≠ some .local ->
  bindC kindOf (P.zip vs) m x=some v
 | [],_,_,_,_,h,_,_=>by simp at h
 | _ :: _,[],_,_,_,_,h,_=>by simp at h
 | p :: P,w :: vs,0,m,nd,h1,h2,hk=>by
  simp at h1 h2;subst h1;subst h2
  show bindC kindOf ((p,w) :: P.zip vs) m p=_;unfold bindC;rw [qb4p fun v hv=>(nodup_cons.mp nd).1 (List.of_mem_zip hv).1,if_neg hk];simp
 | p :: P,w :: vs,i + 1,m,nd,h1,h2,hk=>by
  show bindC kindOf ((p,w) :: P.zip vs) m x=_;unfold bindC;exact qb4r (i:=i) (nodup_cons.mp nd).2 (by simpa using h1) (by simpa using h2) hk
noncomputable def start(N:List Str)(vs:List V):St:=vs.map some ++ List.replicate (N.length - vs.length) none
noncomputable def cxOf(CX:CXT)(P:Program)(w:World)(K:W.Frag)(mg:Str->Option Value)(base:Heap)(N:List Str)(qual:Str)(scope:Scope)(f:Addr)(cd:Value)(A:Around)(outer:List Env)(s:Shared)(H:Hp)(E:XK):Cx where
 prog:=P
 w:=w
 K:=K
 mg:=mg
 base:=base
 A:=A.deeper (envOfC qual scope s.heap.objs.size f cd)
 N:=N
 s₀:=s
 H₀:=H
 env:=envOfC qual scope s.heap.objs.size f cd
 outer:=outer
 stack:=envOfC qual scope s.heap.objs.size f cd :: outer
 ex:=[]
 calm:=true
 fn:=fun _=>true
 pn:=[]
 xe:=fun e s'=>wpAny (model P w) (A.deeper (envOfC qual scope s.heap.objs.size f cd)) (leaving (envOfC qual scope s.heap.objs.size f cd) e) (fun _ s''=>CX outer H s E e s'') (fun e' s''=>CX outer H s E e' s'') s'
def qb6c{sc:Scope}{n:Nat}{x:Str}(h:sc.names.lookup x=some .cell):∃ c,(cellsFrom n sc.names []).lookup x=some c:=by
 have q:=PySem.W.cellsFrom_some sc.names n [] (.inl h);exact Option.isSome_iff_exists.mp q
def qc3h{CX:CXT}{P:Program}{w:World}{K:W.Frag}{mg:Str->Option Value}{base:Heap}{N ps:List Str}{qual:Str}{scope:Scope}{f:Addr}{cd:Value}{A:Around}{outer:List Env}{s s1:Shared}{H:Hp}{E:XK}{us:List Value}{vs:List V}
  (S:FnScope N ps scope) (hd:A.handled=none) (e0:Env0 P w K mg base A outer s H) (hl:vs.length=ps.length) (r:Vals vs us)
  (x:InCallC s s.heap.objs.size (bindL (envOfC qual scope s.heap.objs.size f cd).kindOf (ps.zip us) fun _=>none) (cellsFrom (s.heap.objs.size + 1) scope.names []) (bindC (envOfC qual scope s.heap.objs.size f cd).kindOf (ps.zip us) fun _=>none) s1) :
  Inv (cxOf CX P w K mg base N qual scope f cd A outer s H E) [] (start N vs) H s1:=by
 have hpl:ps.length <= N.length:=by have:=congrArg List.length S.pre;rw [length_take] at this;omega
 obtain⟨h1,tk,rfl,hk⟩:=x.done;have noA:∀ b:Addr,b ∉ (cxOf CX P w K mg base N qual scope f cd A outer s H E).ex:=fun b z=>absurd (show b ∈ ([]:List Addr) from z) 'e';refine⟨⟨e0.mod,S.kind,rfl,rfl,le_refl _,fun y z c h1 h2=>?_,fun y hy=>?_,fun y c _ h=>?_,fun _=>hd,Around.frames_deeper e0.frames,.inr ⟨rfl,rfl⟩,fun b z=>absurd z (noA b),e0.bs,e0.bsz,fun b _ _=>noA b,fun b z=>absurd z (noA b),e0.funs,e0.frf⟩,
  rfl,e0.bare,Un.kept hk,⟨_,x.toInCall.ns,fun i y v h1 h2 h3=>?_⟩,fun y c h=>⟨_,x.cell y c h⟩,e0.hok.fresh 'c',fun y c h=>?_,fun p hp=>absurd (show p ∈ ([]:List 'b') from hp) 'e',e0.hok.kept hk,?_⟩
 ·exact name_of_addr x.apart (PySem.mem_of_lookup h1) (PySem.mem_of_lookup h2)
 ·have hy:scope.names.lookup y=some .cell ∨ scope.names.lookup y=some .free:=hy
  rcases hy with hy | hy
  ·exact qb6c hy
  ·exact absurd rfl (S.nofree _ (PySem.mem_of_lookup hy))
 ·exact le_of_lt (x.above y c (PySem.mem_of_lookup h))
 ·have hi:i < vs.length:=by
   unfold start at h2;by_cases hi:i < vs.length
   ·exact hi
   ·rw [getElem?_append_right (by simpa using hi)] at h2
    rw [List.getElem?_replicate] at h2;split at h2<;>cases h2
  have ha:vs[i]? = some v:=by
   unfold start at h2;rw [List.getElem?_append_left (by simpa using hi),getElem?_map] at h2;cases e:vs[i]? with
   | none=>rw [e] at h2;cases h2
   | some a=>rw [e] at h2;cases h2;rfl
  obtain⟨u,hu,rv⟩:=r.get ha;have hp:ps[i]? = some y:=by
   rw [← S.pre,List.getElem?_take_of_lt 'o'];exact h1
  have ndP:ps.Nodup:=by rw [← S.pre];exact S.nd.sublist (List.take_sublist _ _)
  refine⟨u,rv,?_⟩;rcases S.par y (mem_of_getElem? hp) with k | k
  ·exact .inl ⟨k,qb4q ndP hp hu k⟩
  ·obtain⟨c,e⟩:=qb6c (n:=s.heap.objs.size + 1) k
   refine .inr ⟨.inl k,c,e,?_⟩;have q:=x.cell y c e;rw [qb4r ndP hp hu (by show scope.names.lookup y ≠ _;rw [k];decide)] at q;exact q
 ·exact e0.hok.fresh (le_of_lt (x.above y c (PySem.mem_of_lookup h)))
 ·unfold start
  show _=N.length;rw [length_append,length_map,length_replicate];omega
def fn_of{CX:CXT}{P:Program}{w:World}{K:W.Frag}{mg:Str->Option Value}{base:Heap}{k:Nat}{f:Addr}{name qual:Str}{params:Arguments}{body:List Stmt}{scope:Scope}{dV kV doc pm cdv ct oc:Value}{an od:Option Addr}
  {osl:Array (Option Value)} {N ps:List Str} {sp:Sp} (lk:K.lookup f=some ⟨oc,od,.func (PySem.W.fnOf name qual params body scope dV kV doc pm an cdv ct),osl⟩) (hcd:PySem.W.codeIn K cdv qual=true) (S:FnScope N ps scope)
  (len:∀ vs H Q E,sp vs H Q E->vs.length=ps.length)
  (hbody:∀ (A:Around) (outer:List Env) (s:Shared) (H:Hp) (vs:List V) (Q:VK) (E:XK),Room k (A.deeper (envOfC qual scope s.heap.objs.size f cdv))->sp vs H Q E ->
   ∃ t,PSs (cxOf CX P w K mg base N qual scope f cdv A outer s H E) body t/\t { nx:=fun _ H'=>Q .non H',rt:=Q } (start N vs) H) :
  FnOk P w K mg base CX (k + 1) f (PySem.W.fnOf name qual params body scope dV kV doc pm an cdv ct) ps sp:=by
 refine⟨len,fun A outer s H args us vs Q E hr e0 hb r hsp=>?_⟩;have hl:=len _ _ _ _ hsp;have KX:K.In s.heap:=e0.mod.kin.keeps fun b o e=>(e0.bs b o e).1;have lim:s.heap.NoLimit:=e0.mod.nolimit.keeps fun b o e=>(e0.bs b o e).1;have hkind:∀ y ∈ ps.zip us,scope.names.lookup y.1=some .local ∨ (scope.names.lookup y.1=some .cell/\((cellsFrom (s.heap.objs.size + 1) scope.names []).lookup y.1).isSome=true):=fun⟨n,v⟩ hy=>by
  rcases S.par n (List.of_mem_zip hy).1 with q | q
  ·exact .inl q
  ·exact .inr ⟨q,PySem.W.cellsFrom_some _ _ _ (.inl q)⟩
 refine codeAny_call_function hr.depth (KX _ _ lk) rfl S.co S.gen rfl (PySem.W.codeRec_of KX hcd) (hb _ _ _ _ ?_);refine wpAny_newFunctionEnv_cells S.kind hkind fun env he s1 x=>?_;subst he;refine⟨lim.keeps x.toInCall.keep,codeAny_func ?_⟩;obtain⟨t,ht,hq⟩:=hbody A outer s H vs Q E (hr.deeper _) hsp;have I:Inv (cxOf CX P w K mg base N qual scope f cdv A outer s H E) [] (start N vs) H s1:=qc3h S hr.hd e0 hl r x;refine wpAny_mono (ht [] s1 (start N vs) H _ I hq) (fun fl s' hs=>?_) fun e s' hs=>hs;have fin:∀ {σ':St} {H':Hp} {v:V} {u:Value},Inv (cxOf CX P w K mg base N qual scope f cdv A outer s H E) [] σ' H' s'->RelV v u->Q v H'->CE outer P w H s Q u s':=
  fun{σ' H' v u} J rv q=>⟨v,H',J.os,J.bare,J.base,J.hok,rv,q⟩
 cases fl with
 | ret u =>
  obtain⟨v,σ',H',J,rv,q⟩:=hs;exact fin J rv q
 | next =>
  obtain⟨σ',H',J,q⟩:=hs;exact fin (v:=V.non) (u:=Value.none) J rfl q
 | brk =>
  obtain⟨_,_,_,q⟩:=hs;exact False.elim q
 | cont =>
  obtain⟨_,_,_,q⟩:=hs;exact False.elim q
end L2
namespace L2
open PySem PySem.Spec PyProof.Rows
section
variable{X:Cx}{x:Str}{p pos:Pos}{e:Expr}{es:List Expr}{t:TA}{id T:String}{r:List V->Hp->VK->Prop}
def tCB(r:List V->Hp->VK->Prop)(t:TA):TE:=fun σ H Q=>t σ H fun vs H1=>r vs H1 Q
def qa5x(hc:qa2l X (.builtin id) r)(hg:Gl X x)(hm:X.mg x=none)(hv:bootBuiltins x=some (.builtin id))(ha:PA X (e :: es) t) (hn:x ≠ "__name__":=by decide) (hdb:(x == ("__debug__" : Str))=false:=by decide)
  (he:starEach (e :: es) X.env=(false,eval e X.env) :: starEach es X.env:=by rfl) (hpl:(backTo pos (starEach es X.env)).any (·.1)=false:=by rfl):PE X (.Call (.Name x p) (e :: es) [] pos) (tCB r t):=by
 intro pins s σ H Q I h;refine wpAny_Call_Name_kw (qa6p I hg hm hv ?_ hn hdb);exact PyProof.Rows.callWith_builtin1 (thn (ha pos pins s σ H _ I h) fun us s1 hq8=>by obtain⟨vs,H1,I1,r1,q1⟩:=hq8;exact hc pins s1 σ H1 vs us Q I1 r1 q1) he hpl
def qb4s(hc:qa2l X (.type T) r)(hg:Gl X x)(hm:X.mg x=none)(hv:bootBuiltins x=some (.type T))(ha:PA X (e :: es) t) (hn:x ≠ "__name__":=by decide) (hdb:(x == ("__debug__" : Str))=false:=by decide)
  (he:starEach (e :: es) X.env=(false,eval e X.env) :: starEach es X.env:=by rfl) (hpl:(backTo pos (starEach es X.env)).any (·.1)=false:=by rfl):PE X (.Call (.Name x p) (e :: es) [] pos) (tCB r t):=by
 intro pins s σ H Q I h;refine wpAny_Call_Name_kw (qa6p I hg hm hv ?_ hn hdb);exact PyProof.Rows.callWith_type1 (thn (ha pos pins s σ H _ I h) fun us s1 hq8=>by obtain⟨vs,H1,I1,r1,q1⟩:=hq8;exact hc pins s1 σ H1 vs us Q I1 r1 q1) he hpl
end
end L2
namespace HT
open PySem PyProof.Rows
section
open PySem.SeqAt
open PySem.AutoSeq1 (wpAny_loadPart')
open PySem.MeetsSeq PySem.MeetsSeq2 PySem.MeetsSeq3
end
section
variable{prog:Program}{w:World}{A:Around}{E:Value->Shared->Prop}{s:Shared}
def cat_tup{t b:Addr}{vs ws:List Value}{Q:Value->Shared->Prop}(ht:IsTup s.heap t vs.toArray)(hb:IsTup s.heap b ws.toArray)(hv:vs ≠ [])
  (h1:ws=[]->Q (.ref t) s) (h2:ws ≠ []->Q (.ref s.heap.objs.size) { s with heap:=s.heap.push { cls:=.type "tuple",data:=.seq (vs ++ ws).toArray } })
  (hsz:vs.length + ws.length <= sizeLine):wpAny (model prog w) A (binaryOp .Add (.ref t) (.ref b)) Q E s:=by
 obtain⟨⟨cls,dd,data,sl⟩,ho,hc,n,hd⟩:=id ht;obtain⟨⟨cls2,dd2,data2,sl2⟩,ho2,hc2,n2,hd2⟩:=id hb;simp only at hc hd hc2 hd2;subst hc hd hc2 hd2;have e:vs.toArray ++ ws.toArray=(vs ++ ws).toArray:=by simp
 by_cases hw:ws=[]
 ·exact concat_meets ⟨_,ho,rfl⟩ ⟨_,ho2,rfl⟩ noFill_tuple_add seq_tuple_add PySem.F.slot_tuple_add PySem.F.entry_tuple_add (PySem.F.args_tuple_add_2 _ _)
   (tuple_addW1 t b vs.toArray ws.toArray n n2 dd dd2 sl sl2 (by simpa using hv) (by simp [hw])) ⟨ho,ho2,h1 hw⟩
 ·refine concat_meets ⟨_,ho,rfl⟩ ⟨_,ho2,rfl⟩ noFill_tuple_add seq_tuple_add PySem.F.slot_tuple_add PySem.F.entry_tuple_add (PySem.F.args_tuple_add_2 _ _)
   (tuple_addW2 t b vs.toArray ws.toArray n n2 dd dd2 sl sl2 (by simpa using hv) (by simpa using hw) (by rw [size_toArray,size_toArray];exact hsz)) ⟨ho,ho2,?_⟩
  rw [e];exact h2 hw
noncomputable def sIx(n d:Nat):Option Int->Nat
 | none=>d
 | some v=>if v < 0 then(v + (n:Int)).toNat else min v.toNat n
theorem qb6d(n d:Nat):sIx n d none=d:=rfl
def qb9v(n d k:Nat):sIx n d (some (k:Int))=min k n:=by
 show(if (k:Int) < 0 then((k:Int) + (n:Int)).toNat else min (k:Int).toNat n)=min k n;rw [if_neg 'o',toNat_natCast]
def sIx_le(n d:Nat)(hd:d <= n)(o:Option Int):sIx n d o <= n:=by
 cases o with
 | none=>exact hd
 | some v =>
  show(if v < 0 then(v + (n:Int)).toNat else min v.toNat n) <= n;by_cases hv:v < 0
  ·rw [if_pos hv];omega
  ·rw [if_neg hv];exact Nat.min_le_right _ _
def qb9w(v:Int)(n d:Nat):(if v < 0 then max (v + (n:Int)) 0 else min v (n:Int))=((sIx n d (some v):Nat):Int):=by
 show(if v < 0 then max (v + (n:Int)) 0 else min v (n:Int))=(((if v < 0 then(v + (n:Int)).toNat else min v.toNat n):Nat):Int);by_cases hv:v < 0
 ·simp only [if_pos hv];omega
 ·simp only [if_neg hv];omega
def qc1h(lo hi:Option Int)(n:Nat):Builtin.Slice.sliceAdjust lo hi 1 (n:Int)=(((sIx n 0 lo:Nat):Int),((sIx n n hi:Nat):Int)):=by
 have h1:¬ ((1:Int) < 0):=by omega
 unfold Builtin.Slice.sliceAdjust;simp only [h1,if_false];refine Prod.ext ?_ ?_
 ·cases lo with
  | none=>rfl
  | some v=>exact qb9w v n 0
 ·cases hi with
  | none=>rfl
  | some v=>exact qb9w v n n
def qc1i(i j:Nat):Builtin.Slice.slicePlaces (i:Int) (j:Int) 1=j - i:=by
 unfold Builtin.Slice.slicePlaces;have h1:(1:Int) > 0:=by omega
 simp only [h1,if_true,Int.ediv_one];split<;>omega
def qb2w{v:Value}{o:Option Int}{Q:Option Int->Shared->Prop}(p:IsPart v o)(h:Q o s):wpAny (model prog w) A (Builtin.Slice.slicePartIndex v) Q E s:=by
 cases p with
 | none=>exact slicePart_none h
 | int i t=>exact slicePart_int h
def qa7t{sl:Addr}{vl vu:Value}{lo hi:Option Int}{n:Nat}{Q:Int × Int × Nat->Shared->Prop}(hs:s.heap.IsSliceOf sl vl vu .none)(pl:IsPart vl lo)(pu:IsPart vu hi)
  (h:Q (((sIx n 0 lo:Nat):Int),1,sIx n n hi - sIx n 0 lo) s):wpAny (model prog w) A (Builtin.Slice.sliceApplied (.ref sl) (pure (n:Int))) Q E s:=by
 obtain⟨os,hos,hcs,hds⟩:=id hs;unfold Builtin.Slice.sliceApplied Builtin.Slice.sliceFields;refine wpAny_bind (wpAny_bind (wpAny_field hos hds (x:=vl) rfl (wpAny_bind (wpAny_field hos hds (x:=vu) rfl (wpAny_bind (wpAny_field hos hds (x:=.none) rfl (wpAny_pure ?_)))))));refine wpAny_bind (slicePart_none ?_);show wpAny _ _ (if ((1:Int) == 0)=true then _ else _) _ _ s;rw [if_neg 'd'];refine wpAny_bind (qb2w pl (wpAny_bind (qb2w pu (wpAny_bind (wpAny_pure ?_)))));show wpAny _ _ (match Builtin.Slice.sliceAdjust lo hi 1 (n:Int) with | (lo,hi)=>pure (lo,(1:Int),Builtin.Slice.slicePlaces lo hi 1)) _ _ s;rw [qc1h lo hi n];show wpAny _ _ (pure (((sIx n 0 lo:Nat):Int),(1:Int),Builtin.Slice.slicePlaces ((sIx n 0 lo:Nat):Int) ((sIx n n hi:Nat):Int) 1)) _ _ s;rw [qc1i];exact wpAny_pure h
def qc5g(xs:Array Value)(i k:Nat):((List.range k).filterMap fun(m:Nat)=>xs[((i:Int) + (m:Int) * 1).toNat]?).toArray=((xs.toList.drop i).take k).toArray:=by
 have e:(fun(m:Nat)=>xs[((i:Int) + (m:Int) * 1).toNat]?)=fun m=>xs[i + m]?:=by
  funext m
  have:((i:Int) + (m:Int) * 1).toNat=i + m:=by omega
  rw [this]
 rw [e];have:=pick_run xs i k;rw [List.filterMap_map] at this;have e2:((fun x=>xs[x]?) ∘ fun x=>i + x)=fun m=>xs[i + m]?:=rfl;rw [e2] at this;rw [this]
def qb1x{t sl:Addr}{items:Array Value}{vl vu:Value}{lo hi:Option Int}{Q:Value->Shared->Prop}(ht:IsTup s.heap t items)(hs:s.heap.IsSliceOf sl vl vu .none)(pl:IsPart vl lo)(pu:IsPart vu hi)
  (hw:¬ (sIx items.size 0 lo=0/\sIx items.size items.size hi=items.size))
  (h:Q (.ref s.heap.objs.size) { s with heap:=s.heap.push { cls:=.type "tuple",data:=.seq ((items.toList.drop (sIx items.size 0 lo)).take (sIx items.size items.size hi - sIx items.size 0 lo)).toArray } })
  (hsz:items.size <= sizeLine):wpAny (model prog w) A (getItem (.ref t) (.ref sl)) Q E s:=by
 have htake:sizeOk (.seq ((items.toList.drop (sIx items.size 0 lo)).take (sIx items.size items.size hi - sIx items.size 0 lo)).toArray):=by
  show((items.toList.drop (sIx items.size 0 lo)).take (sIx items.size items.size hi - sIx items.size 0 lo)).toArray.size <= sizeLine;rw [size_toArray,length_take,length_drop,length_toList];omega
 have hj:sIx items.size items.size hi <= items.size:=sIx_le _ _ 'c' hi;obtain⟨os,hos,hcs,hds⟩:=id hs;have hTs:s.TypeIs (.ref sl) "slice":=⟨os,hos,hcs⟩;unfold getItem
 try with_reducible refine wpAny_holding ?_
 first | refine wpAny_bind (wpAny_pure ?_) | skip
 refine wpAny_bind (wpAny_sequenceKey ht.typeIs 'd' ?_);refine wpAny_bind (wpAny_callSpecial?_slot (name:=Str.ofString "__getitem__") ht.typeIs PyProof.Rows.slot_tuple_getitem
  (wpAny_call_entry PyProof.Rows.slot_tuple_getitem ht.typeIs entry_tuple_getitem ?_ (args_tuple_getitem _ _)))
 show wpAny _ _ (Builtin.Tuple.tupleItemsOf (.ref t) >>= _) _ _ s;refine wpAny_bind (tupleItemsOf_ ht ?_);refine wpAny_bind (wpAny_typeOf hTs ?_);rw [if_pos 'd'];refine wpAny_bind (qa7t hs pl pu ?_);have hno:¬ ((((sIx items.size 0 lo:Nat):Int) == 0 && (1:Int) == 1 && (sIx items.size items.size hi - sIx items.size 0 lo) == items.size)=true):=by
  intro q;rw [and_eq_true,and_eq_true] at q;have q1:((sIx items.size 0 lo:Nat):Int)=0:=eq_of_beq q.1.1;have q2:sIx items.size items.size hi - sIx items.size 0 lo=items.size:=eq_of_beq q.2;exact hw ⟨'o','o'⟩
 show wpAny _ _ (if (((sIx items.size 0 lo:Nat):Int) == 0 && (1:Int) == 1 && (sIx items.size items.size hi - sIx items.size 0 lo) == items.size)=true then _ else _) _ _ s;rw [if_neg hno,qc5g]
 first
  | exact wpAny_bind (m:=Builtin.Tuple.tupleExact _) (wpAny_newObj_type (wpAny_pure ⟨_,rfl,wpAny_pure h⟩) htake)
  | exact wpAny_bind (m:=Builtin.Tuple.tupleExact _) (wpAny_newObj_type (wpAny_bind (wpAny_pure (wpAny_pure ⟨_,rfl,wpAny_pure h⟩))) htake)
  | exact wpAny_bind (wpAny_bind (m:=Builtin.Tuple.tupleExact _) (wpAny_newObj_type (wpAny_pure (wpAny_pure ⟨_,rfl,wpAny_pure h⟩)) htake))
  | exact wpAny_bind (wpAny_bind (m:=Builtin.Tuple.tupleExact _) (wpAny_newObj_type (wpAny_pure ⟨_,rfl,wpAny_pure h⟩) htake))
end
end HT
namespace L2
open PySem PySem.Spec PyProof.Rows
abbrev TO:=St->Hp->(Option Int->Hp->Prop)->Prop
def PO(X:Cx)(e:Option Expr)(t:TO):Prop:=
 ∀ (pins:List 'b') (s:Shared) (σ:St) (H:Hp) (Q:Option Int->Hp->Prop),Inv X pins σ H s->t σ H Q ->
  wpAny (model X.prog X.w) X.A (evalPart e X.env) (fun u s'=>∃ o H',Inv X pins σ H' s'/\IsPart u o/\Q o H') X.xe s
noncomputable def qb9x:TO:=fun _ H Q=>Q none H
def tPart(t:TE):TO:=fun σ H Q=>t σ H fun x H1=>∃ i,x=.int i/\Q (some i) H1
def intsAre_of{ns:List Int}:∀ {us:List Value},Vals (ns.map V.int) us->IntsAre us ns:=by
 induction ns with
 | nil=>intro us r;rw [map_nil] at r;cases r;exact .nil
 | cons n ns ih =>
  intro us r;rw [map_cons] at r;cases r with
  | cons r1 r2 =>
   obtain⟨t,e⟩:=r1;subst e;exact .cons n t (ih r2)
section
variable{X:Cx}{e:Expr}{te:TE}{lo hi:Option Expr}{tl th:TO}{pos p2:Pos}
def po_none:PO X none qb9x:=by
 intro pins s σ H Q I h;rw [evalPart_none];exact wpAny_pure ⟨none,H,I,.none,h⟩
def po_some(h:PE X e te):PO X (some e) (tPart te):=by
 intro pins s σ H Q I hw;rw [evalPart_some];refine thn (h pins s σ H _ I hw) fun u s1 hq9=>?_;obtain⟨x,H1,I1,r1,q1⟩:=hq9;obtain⟨i,rfl,q⟩:=q1;obtain⟨t,rfl⟩:=r1;exact⟨some i,H1,I1,.int i t,q⟩
def SlR(X:Cx)(r:V->Option Int->Option Int->Hp->VK->Prop):Prop:=
 ∀ (pins:List 'b') (s:Shared) (σ:St) (H:Hp) (x:V) (v vl vu:Value) (lo hi:Option Int) (sl:Addr) (Q:VK),Inv X pins σ H s->RelV x v->s.heap.IsSliceOf sl vl vu .none->IsPart vl lo->IsPart vu hi->r x lo hi H Q ->
  ∃ T id,typeLookup (.type T) "__getitem__" = pure (some (.builtin id))/\s.TypeIs v T/\wpAny (model X.prog X.w) X.A (getItem v (.ref sl)) (EP X pins σ Q) X.xe s
def SlR.or{r r':V->Option Int->Option Int->Hp->VK->Prop}(h:SlR X r)(h':SlR X r'):SlR X (fun x lo hi H Q=>r x lo hi H Q ∨ r' x lo hi H Q):=by
 intro pins s σ H x v vl vu lo hi sl Q I rx hs pl pu q;rcases q with q | q
 ·exact h pins s σ H x v vl vu lo hi sl Q I rx hs pl pu q
 ·exact h' pins s σ H x v vl vu lo hi sl Q I rx hs pl pu q
def tSl(r:V->Option Int->Option Int->Hp->VK->Prop)(te:TE)(tl th:TO):TE:=fun σ H Q=>te σ H fun x H1=>tl σ H1 fun l H2=>th σ H2 fun u H3=>r x l u H3 Q
def qc5h{r:V->Option Int->Option Int->Hp->VK->Prop}(hr:SlR X r)(he:PE X e te)(hl:PO X lo tl)(hu:PO X hi th):PE X (.Subscript e (.Slice lo hi none p2) pos) (tSl r te tl th):=by
 intro pins s σ H Q I h;refine Subscript_ (thn (he pins s σ H _ I h) fun v s1 hq9=>?_);obtain⟨x,H1,I1,r1,q1⟩:=hq9;refine wpAny_Slice (thn (hl pins s1 σ H1 _ I1 q1) fun vl s2 ⟨l,H2,I2,pl,q2⟩=>thn (hu pins s2 σ H2 _ I2 q2) fun vu s3 hq9=>?_);obtain⟨u,H3,I3,pu,q3⟩:=hq9;rw [evalPart_none];refine wpAny_pure ?_;have I4:Inv X pins σ H3 { s3 with heap:=s3.heap.push { cls:=.type "slice",data:=.fields #[vl,vu,.none] } }:=I3.kept (t':=s3.toks) fun b ob q=>get?_push_of_some _ q;obtain⟨T,id,hT,ht,hg⟩:=hr pins { s3 with heap:=s3.heap.push { cls:=.type "slice",data:=.fields #[vl,vu,.none] } } σ H3 x v vl vu l u s3.heap.objs.size Q I4 r1 (Heap.IsSliceOf.new ..) pl pu q3;show wpAny (model X.prog X.w) X.A (subscriptTail e (.Slice lo hi none p2) v (.ref s3.heap.objs.size)) (EP X pins σ Q) X.xe { s3 with heap:=s3.heap.push { cls:=.type "slice",data:=.fields #[vl,vu,.none] } };exact tail_any (ops:=[.ref s3.heap.objs.size,v]) ht hT hg (by with_unfolding_all rfl)
noncomputable def cutV(xs:List V)(lo hi:Option Int):List V:=(xs.drop (HT.sIx xs.length 0 lo)).take (HT.sIx xs.length xs.length hi - HT.sIx xs.length 0 lo)
def qb8q(xs:List V)(lo hi:Option Int):(cutV xs lo hi).length <= xs.length:=by
 unfold cutV;rw [length_take,length_drop];omega
noncomputable def rSlT(K:W.Frag):V->Option Int->Option Int->Hp->VK->Prop:=fun x lo hi H Q=>∃ a xs,x=.ref a/\SqT K H a xs /\
 ¬ (HT.sIx xs.length 0 lo=0/\HT.sIx xs.length xs.length hi=xs.length)/\∀ p,H p=none->Q (.ref p) (upd H p (.tup (cutV xs lo hi)))
def qa6q:SlR X (rSlT X.K):=by
 intro pins s σ H x v vl vu lo hi sl Q I rx hs pl pu h;obtain⟨a,xs,rfl,hx,hw,q⟩:=h;cases rx;obtain⟨its,r,ht,hz⟩:=I.tuple hx;have hlen:its.toArray.size=xs.length:=by rw [size_toArray];exact r.length.symm
 refine⟨"tuple",_,PyProof.Rows.slot_tuple_getitem.lookup,ht.typeIs,?_⟩;refine HT.qb1x ht hs pl pu (by rw [hlen];exact hw) ?_ (by rw [hlen];exact hz);rw [hlen];refine⟨.ref s.heap.objs.size,_,I.laid (t':=s.toks) (o:=.tup (cutV xs lo hi)) (fun b ob q=>get?_push_of_some _ q) 'c' ?_,rfl,q _ (I.hok.fresh 'c')⟩;exact⟨le_trans (qb8q xs lo hi) hz,_,(r.drop (HT.sIx xs.length 0 lo)).take (HT.sIx xs.length xs.length hi - HT.sIx xs.length 0 lo),qa5g.new _ _⟩
def rCatT(K:W.Frag):R2:=fun x y H Q=>∃ a b xs ys,x=.ref a/\y=.ref b/\SqT K H a xs/\SqT K H b ys/\xs ≠ []/\xs.length + ys.length <= sizeLine /\
 (ys=[]->Q (.ref a) H)/\(ys ≠ []->∀ p,H p=none->Q (.ref p) (upd H p (.tup (xs ++ ys))))
def Vals.nil_iff{xs:List V}{us:List Value}(r:Vals xs us):us=[] ↔ xs=[]:=by
 cases r with
 | nil=>simp
 | cons _ _=>simp
def op_catT:OpR X (binaryOp .Add) (rCatT X.K):=by
 intro pins s σ H x y v u Q I rx ry h;obtain⟨a,b,xs,ys,rfl,rfl,ha,hb,hx,hz,q1,q2⟩:=h;cases rx;cases ry;obtain⟨its,r1,p1,_⟩:=I.tuple ha;obtain⟨its2,r2,p2,_⟩:=I.tuple hb;refine HT.cat_tup p1 p2 (fun z=>hx (r1.nil_iff.mp z)) (fun z=>⟨.ref a,H,I,rfl,q1 (r2.nil_iff.mp z)⟩) (fun z=>?_) (by rw [← r1.length,← r2.length];exact hz);refine⟨.ref s.heap.objs.size,_,I.laid (t':=s.toks) (o:=.tup (xs ++ ys)) (fun b ob q=>get?_push_of_some _ q) 'c' ?_,rfl,q2 (fun w=>z (r2.nil_iff.mpr w)) _ (I.hok.fresh 'c')⟩;exact⟨by rw [length_append];exact hz,_,r1.append r2,qa5g.new _ _⟩
end
end L2
namespace L2
open PySem PySem.Spec PyProof.Rows
noncomputable def ixN(n:Nat)(i:Int):Option Nat:=if 0 <= i then(if i < n then some i.toNat else none) else if -(n:Int) <= i then some (i + n).toNat else none
noncomputable def atI{α:Type}(xs:List α)(i:Int):Option α:=(ixN xs.length i).bind fun j=>xs[j]?
def qb9y{n:Nat}{i:Int}{j:Nat}(h:ixN n i=some j):seqIndex? i n=some j/\j < n /\ -(n:Int) <= i/\i < n:=by
 unfold ixN at h;by_cases h0:0 <= i
 ·rw [if_pos h0] at h
  by_cases h1:i < n
  ·rw [if_pos h1] at h
   have e:i.toNat=j:=Option.some.inj h;exact⟨by rw [seqIndex_of h0 h1,e],'o','o',h1⟩
  ·rw [if_neg h1] at h;cases h
 ·rw [if_neg h0] at h
  by_cases h1:-(n:Int) <= i
  ·rw [if_pos h1] at h
   have e:(i + n).toNat=j:=Option.some.inj h;exact⟨by rw [seqIndex_neg 'o' h1,e],'o',h1,'o'⟩
  ·rw [if_neg h1] at h;cases h
def qb3y{α:Type}{xs:List α}{i:Int}{v:α}(h:atI xs i=some v):∃ j,seqIndex? i xs.length=some j/\xs[j]? = some v/\j < xs.length /\ -(xs.length:Int) <= i/\i < xs.length:=by
 unfold atI at h;cases e:ixN xs.length i with
 | none=>rw [e] at h;cases h
 | some j =>
  rw [e] at h;obtain⟨h1,h2,h3,h4⟩:=qb9y e;exact⟨j,h1,h,h2,h3,h4⟩
def qa7o{α:Type}{xs:List α}{j:Nat}{v:α}(h:xs[j]? = some v):atI xs (j:Int)=some v:=by
 have hj:j < xs.length:=(List.getElem?_eq_some_iff.mp h).1;have e:ixN xs.length (j:Int)=some j:=by
  unfold ixN;rw [if_pos 'o',if_pos 'o'];simp
 unfold atI;rw [e];exact h
def qb9z(b:Expr):Prop:=∀ o i,subscripted b false o i=operate [o,i] (getItem o i)
def IxR(X:Cx)(r:R2):Prop:=
 ∀ (value slice:Expr) (pins:List 'b') (s:Shared) (σ:St) (H:Hp) (x y:V) (v u:Value) (Q:VK),Inv X pins σ H s->RelV x v->RelV y u->r x y H Q ->
  subscripted slice false v u=operate [v,u] (getItem v u)->wpAny (model X.prog X.w) X.A (subscriptTail value slice v u) (EP X pins σ Q) X.xe s
def MtR(X:Cx)(id:String)(r:V->List V->Hp->VK->Prop):Prop:=
 ∀ (pins:List 'b') (s:Shared) (σ:St) (H:Hp) (x:V) (xs:List V) (v:Value) (us:List Value) (Q:VK),Inv X pins σ H s->RelV x v->Vals xs us->r x xs H Q ->
  wpAny (model X.prog X.w) X.A (call (.builtin id) (v :: us)) (EP X pins σ Q) X.xe s
section
variable{X:Cx}{a b:Expr}{ta tb:TE}{pos:Pos}
def IxR.or{r r':R2}(h:IxR X r)(h':IxR X r'):IxR X (fun x y H Q=>r x y H Q ∨ r' x y H Q):=by
 intro value slice pins s σ H x y v u Q I rx ry q hs;rcases q with q | q
 ·exact h value slice pins s σ H x y v u Q I rx ry q hs
 ·exact h' value slice pins s σ H x y v u Q I rx ry q hs
def pe_ix{r:R2}(hr:IxR X r)(ha:PE X a ta)(hb:PE X b tb)(hs:qb9z b):PE X (.Subscript a b pos) (tOp r ta tb):=by
 intro pins s σ H Q I h;exact Subscript_ (binT ha hb I h fun v u s2 x y H2 I2 rx ry q=>hr a b pins s2 σ H2 x y v u Q I2 rx ry q (hs _ _))
def rIxL(K:W.Frag):R2:=fun x y H Q=>∃ p xs i v,x=.ref p/\y=.int i/\SqL K H p xs/\atI xs i=some v/\Q v H
def rIxT(K:W.Frag):R2:=fun x y H Q=>∃ p xs i v,x=.ref p/\y=.int i/\SqT K H p xs/\atI xs i=some v/\Q v H
def rIxS:R2:=fun x y H Q=>∃ z i c,x=.str z/\y=.int i/\z.length <= sizeLine/\atI z.cps.toList i=some c/\Q (.str ⟨#[c]⟩) H
def qa8x:IxR X (rIxL X.K):=by
 intro value slice pins s σ H x y v u Q I rx ry h hs;obtain⟨p,xs,i,z,rfl,rfl,hq,he,q⟩:=h;cases rx;obtain⟨t,rfl⟩:=ry;obtain⟨its,r,pl,hz⟩:=I.list hq;obtain⟨j,h1,h2,h3,h4,h5⟩:=qb3y he;obtain⟨w,ew,rw'⟩:=r.get h2;have hl:=r.length;have hn:=qa8w;have fin:EP X pins σ Q w s:=⟨z,H,I,rw',q⟩;by_cases h0:0 <= i
 ·have hj:i.toNat=j:=by
   rw [seqIndex_of h0 h5] at h1;exact Option.some.inj h1
  exact item_listR pl.isList h0 'o' (by rw [hj];simpa using ew) fin hs
 ·have hj:(i + (its.toArray.size:Int)).toNat=j:=by
   rw [seqIndex_neg 'o' h4] at h1;rw [size_toArray,← hl];exact Option.some.inj h1
  exact subscriptTail_builtinR (x:=w) pl.isList.typeIs slot_list_getitem.lookup
   (wpAny_getItem_list_neg (Q:=fun r s'=>r=w/\EP X pins σ Q r s') pl.isList 'o' (by rw [size_toArray]<;>omega) 'o' (by rw [hj];simpa using ew) ⟨rfl,fin⟩) hs
def ix_tup:IxR X (rIxT X.K):=by
 intro value slice pins s σ H x y v u Q I rx ry h hs;obtain⟨p,xs,i,z,rfl,rfl,hq,he,q⟩:=h;cases rx;obtain⟨t,rfl⟩:=ry;obtain⟨its,r,pl,hz⟩:=I.tuple hq;obtain⟨j,h1,h2,h3,h4,h5⟩:=qb3y he;obtain⟨w,ew,rw'⟩:=r.get h2;have hl:=r.length;have hn:=qa8w;have fin:EP X pins σ Q w s:=⟨z,H,I,rw',q⟩;exact subscriptTail_builtinR (x:=w) pl.typeIs slot_tuple_getitem.lookup
  (getItem_tuple (j:=j) (Q:=fun r s'=>r=w/\EP X pins σ Q r s') pl 'o' 'o' (by rw [size_toArray,← hl];exact h1) (by simpa using ew) ⟨rfl,fin⟩) hs
def ix_str:IxR X rIxS:=by
 intro value slice pins s σ H x y v u Q I rx ry h hs;obtain⟨z,i,c,rfl,rfl,hz,he,q⟩:=h;obtain⟨t,rfl⟩:=rx;obtain⟨t',rfl⟩:=ry;obtain⟨j,h1,h2,h3,h4,h5⟩:=qb3y he;have hl:z.cps.toList.length=z.length:=by simp [Str.length]
 rw [hl] at h1 h4 h5;have hn:=qa8w;exact tail_any (typeIs_str s z t) slot_str_getitem.lookup (getItem_str (c:=c) (by
  have e1:decide (i < -(2 ^ 63:Int))=false:=decide_eq_false 'o';have e2:decide (i ≥ 2 ^ 63)=false:=decide_eq_false 'o';rw [e1,e2,Bool.or_false]) (by rw [h1];simpa using h2) ⟨.str ⟨#[c]⟩,H,I.tok _,⟨_,rfl⟩,q⟩) hs
def rIx(K:W.Frag):R2:=fun x y H Q=>rIxL K x y H Q ∨ rIxT K x y H Q ∨ rIxS x y H Q
def qa1k:IxR X (rIx X.K):=qa8x.or (ix_tup.or ix_str)
def qc1j(its:List Value)(n j:Nat)(u:Value):Obj.mapSeq (·.setIfInBounds j u) { cls:=.type "list",data:=.seq its.toArray n }={ cls:=.type "list",data:=.seq (its.set j u).toArray n }:=by
 simp [Obj.mapSeq]
def Inv.lst{pins:List 'b'}{σ:St}{H:Hp}{s:Shared}{p:Addr}{xs:List V}(I:Inv X pins σ H s)(h:H p=some (.lst xs)) :
  ∃ (its:List Value) (n:Nat),Vals xs its/\s.heap.get? p=some { cls:=.type "list",data:=.seq its.toArray n }/\xs.length <= sizeLine:=by
 obtain⟨z,its,n,r,e⟩:=I.hok p _ h;exact⟨its,n,r,e,z⟩
def Inv.lstUpd{pins:List 'b'}{σ:St}{H:Hp}{s:Shared}{p:Addr}{xs ys:List V}{its its':List Value}{n n':Nat}{f:Obj->Obj}(I:Inv X pins σ H s)(h:H p=some (.lst xs))
  (ho:s.heap.get? p=some { cls:=.type "list",data:=.seq its.toArray n }) (hf:f { cls:=.type "list",data:=.seq its.toArray n }={ cls:=.type "list",data:=.seq its'.toArray n' }) (r:Vals ys its') (hz:ys.length <= sizeLine) (t:Nat) :
  Inv X pins σ (upd H p (.lst ys)) { s with heap:=s.heap.update p f,toks:=t }:=by
 have e:(s.heap.update p f).get? p=some { cls:=.type "list",data:=.seq its'.toArray n' }:=by
  rw [Heap.get?_update_self f ho (by rw [hf]<;>rfl),hf]
 refine I.write (x:=p) (e:=p) (by rw [h];trivial) (.inl rfl) (fun b u hb q=>(Heap.get?_update_other _ _ (Ne.symm hb)).trans q) ⟨_,e⟩ ?_;exact⟨hz,its',n',r,e⟩
noncomputable def rSetL:V->V->V->Hp->(Hp->Prop)->Prop:=fun o i v H Q=>∃ p xs k j,o=.ref p/\i=.int k/\H p=some (.lst xs)/\ixN xs.length k=some j/\Q (upd H p (.lst (xs.set j v)))
def set_list:PSet X rSetL:=by
 intro pins s σ H o i v ov iv u Q I ro ri rv h;obtain⟨p,xs,k,j,rfl,rfl,hp,hj,q⟩:=h;cases ro;obtain⟨t,rfl⟩:=ri;obtain⟨its,n,r,ho,hz⟩:=I.lst hp;obtain⟨h1,h2,h3,h4⟩:=qb9y hj;have hl:=r.length;have hn:=qa8w;have I':Inv X pins σ (upd H p (.lst (xs.set j v))) { s with heap:=s.heap.update p (Obj.mapSeq (·.setIfInBounds j u)) }:=
  I.lstUpd hp ho (qc1j its n j u) (r.set rv j) (by rw [length_set];exact hz) s.toks
 by_cases h0:0 <= k
 ·have hk:k.toNat=j:=by
   rw [seqIndex_of h0 h4] at h1;exact Option.some.inj h1
  exact PySem.W.ki_setAt ho h0 'o' (by rw [size_toArray,← hl];exact h4) (by rw [hk];exact⟨_,I',q⟩)
 ·have hk:(k + (its.toArray.size:Int)).toNat=j:=by
   rw [seqIndex_neg 'o' h3] at h1;rw [size_toArray,← hl];exact Option.some.inj h1
  exact PySem.W.ki_setBack ho 'o' (by rw [size_toArray,← hl];exact h3) 'o' (by rw [hk];exact⟨_,I',q⟩)
noncomputable def qa6i:V->Bool
 | .non=>true
 | .bl _=>true
 | .int _=>true
 | .str _=>true
 | _=>false
noncomputable def eqV:V->V->Bool
 | .non,.non=>true
 | .bl a,.bl b=>a == b
 | .bl a,.int b=>(if a then 1 else 0) == b
 | .int a,.bl b=>a == (if b then 1 else 0)
 | .int a,.int b=>a == b
 | .str a,.str b=>a == b
 | _,_=>false
def eqAt_V{A:Around}{s:Shared}{y x:V}{u v:Value}(ry:RelV y u)(rx:RelV x v)(fy:qa6i y=true)(fx:qa6i x=true):SeqAt.EqAt A s u v (eqV y x):=by
 cases y with
 | non =>
  cases ry
  cases x with
  | non=>cases rx;exact SeqAt.EqAt.same _
  | bl b=>cases rx;exact SeqAt.EqAt.none_bool b
  | int b=>obtain⟨t,rfl⟩:=rx;exact SeqAt.EqAt.none_int b t
  | str b=>obtain⟨t,rfl⟩:=rx;exact SeqAt.EqAt.none_str b t
  | _=>exact absurd (show false=true from fx) Bool.false_ne_true
 | bl a =>
  cases ry
  cases x with
  | non=>cases rx;exact SeqAt.EqAt.bool_none a
  | bl b=>cases rx;exact SeqAt.EqAt.bool_bool a b
  | int b=>obtain⟨t,rfl⟩:=rx;exact SeqAt.EqAt.bool_int a b t
  | str b=>obtain⟨t,rfl⟩:=rx;exact SeqAt.EqAt.bool_str a b t
  | _=>exact absurd (show false=true from fx) Bool.false_ne_true
 | int a =>
  obtain⟨t',rfl⟩:=ry;cases x with
  | non=>cases rx;exact SeqAt.EqAt.int_none a t'
  | bl b=>cases rx;exact SeqAt.EqAt.int_bool a t' b
  | int b=>obtain⟨t,rfl⟩:=rx;exact SeqAt.EqAt.int_int a t' b t
  | str b=>obtain⟨t,rfl⟩:=rx;exact SeqAt.EqAt.int_str a t' b t
  | _=>exact absurd (show false=true from fx) Bool.false_ne_true
 | str a =>
  obtain⟨t',rfl⟩:=ry;cases x with
  | non=>cases rx;exact SeqAt.EqAt.str_none a t'
  | bl b=>cases rx;exact SeqAt.EqAt.str_bool a t' b
  | int b=>obtain⟨t,rfl⟩:=rx;exact SeqAt.EqAt.str_int a t' b t
  | str b=>obtain⟨t,rfl⟩:=rx;exact SeqAt.EqAt.str_str a t' b t
  | _=>exact absurd (show false=true from fx) Bool.false_ne_true
 | _=>exact absurd (show false=true from fy) Bool.false_ne_true
noncomputable def eqU(x:V)(u:Value):Bool:=match u with
 | .none=>eqV .non x
 | .bool b=>eqV (.bl b) x
 | .int i _=>eqV (.int i) x
 | .str z _=>eqV (.str z) x
 | _=>false
def eqU_of{x y:V}{u:Value}(r:RelV y u)(f:qa6i y=true):eqU x u=eqV y x:=by
 cases y with
 | non=>cases r;rfl
 | bl b=>cases r;rfl
 | int i=>obtain⟨t,rfl⟩:=r;rfl
 | str z=>obtain⟨t,rfl⟩:=r;rfl
 | _=>exact absurd (show false=true from f) Bool.false_ne_true
def qa8y{x:V}:∀ {xs:List V} {us:List Value},Vals xs us->xs.all qa6i=true->us.any (eqU x)=xs.any fun y=>eqV y x
 | _,_,.nil,_=>rfl
 | y :: xs,u :: us,.cons r t,f=>by
  rw [all_cons,and_eq_true] at f;rw [List.any_cons,List.any_cons,eqU_of r f.1,qa8y t f.2]
def qa7u{A:Around}{s:Shared}{x:V}{v:Value}(rx:RelV x v)(fx:qa6i x=true):∀ {xs:List V} {us:List Value},Vals xs us->xs.all qa6i=true->∀ u ∈ us,SeqAt.EqAt A s u v (eqU x u)
 | _,_,.nil,_=>fun u hu=>by cases hu
 | y :: xs,u :: us,.cons r t,f=>fun u' hu=>by
  rw [all_cons,and_eq_true] at f;rcases mem_cons.mp hu with rfl | hu
  ·rw [eqU_of r f.1];exact eqAt_V r rx f.1 fx
  ·exact qa7u rx fx t f.2 u' hu
noncomputable def inV(x:V)(xs:List V):Bool:=xs.any fun y=>eqV y x
def rIn(K:W.Frag)(neg:Bool):R2:=fun x y H Q=>∃ p xs,y=.ref p/\(SqL K H p xs ∨ SqT K H p xs)/\qa6i x=true/\xs.all qa6i=true/\Q (.bl (if neg then !inV x xs else inV x xs)) H
def qc3i:OpR X (compareOp .In) (rIn X.K false):=by
 intro pins s σ H x y v u Q I rx ry h;obtain⟨p,xs,rfl,hq,fx,fs,q⟩:=h;cases ry;rcases hq with hq | hq
 ·obtain⟨its,r,pl,hz⟩:=I.list hq
  refine SeqAt.in_listAt (eqU x) pl.isList (fun w hw=>qa7u rx fx r fs w (by simpa using hw)) ⟨.bl _,H,I,rfl,?_⟩;rw [show its.toArray.any (eqU x)=its.any (eqU x) by simp,qa8y r fs];exact q
 ·obtain⟨its,r,pl,hz⟩:=I.tuple hq
  refine SeqAt.in_tupleAt (eqU x) pl (fun w hw=>qa7u rx fx r fs w (by simpa using hw)) ⟨.bl _,H,I,rfl,?_⟩;rw [show its.toArray.any (eqU x)=its.any (eqU x) by simp,qa8y r fs];exact q
def qb6e:OpR X (compareOp .NotIn) (rIn X.K true):=by
 intro pins s σ H x y v u Q I rx ry h;obtain⟨p,xs,rfl,hq,fx,fs,q⟩:=h;cases ry;rcases hq with hq | hq
 ·obtain⟨its,r,pl,hz⟩:=I.list hq
  refine SeqAt.notIn_listAt (eqU x) pl.isList (fun w hw=>qa7u rx fx r fs w (by simpa using hw)) ⟨.bl _,H,I,rfl,?_⟩;rw [show its.toArray.any (eqU x)=its.any (eqU x) by simp,qa8y r fs];exact q
 ·obtain⟨its,r,pl,hz⟩:=I.tuple hq
  refine SeqAt.notIn_tupleAt (eqU x) pl (fun w hw=>qa7u rx fx r fs w (by simpa using hw)) ⟨.bl _,H,I,rfl,?_⟩;rw [show its.toArray.any (eqU x)=its.any (eqU x) by simp,qa8y r fs];exact q
def qb6f:OpR X (compareOp .NotIn) (fun x y H Q=>∃ i j,x=.str i/\y=.str j/\Q (.bl (!(!(Builtin.Str.occurrences j i 0 j.length 1).isEmpty))) H):=by
 intro pins s σ H x y v u Q I rx ry h;obtain⟨i,j,rfl,rfl,q⟩:=h;obtain⟨t,rfl⟩:=rx;obtain⟨t',rfl⟩:=ry;exact notIn_str ⟨.bl _,H,I,rfl,q⟩
def qa5h:qa2l X (.builtin "len") (fun xs H Q=>∃ p ys,xs=[.ref p]/\(SqL X.K H p ys ∨ SqT X.K H p ys)/\Q (.int ys.length) H):=by
 intro pins s σ H xs us Q I r h;obtain⟨p,ys,rfl,hq,q⟩:=h;obtain⟨u,rfl,rx⟩:=vals1 r;cases rx;have hn:=qa8w;rcases hq with hq | hq
 ·obtain⟨its,r',pl,hz⟩:=I.list hq
  have hlen:=r'.length;exact Calls.call_len_list pl.isList (by simp only [size_toArray]<;>omega) ⟨.int ys.length,H,I.tok _,⟨s.toks + 1,by rw [size_toArray,hlen]⟩,q⟩
 ·obtain⟨its,r',pl,hz⟩:=I.tuple hq
  have hlen:=r'.length;exact len_tuple pl (by simp only [size_toArray]<;>omega) ⟨.int ys.length,H,I.tok _,⟨s.toks + 1,by rw [size_toArray,hlen]⟩,q⟩
def qb6g:qa2l X (.builtin "len") (fun xs H Q=>∃ z,xs=[.str z]/\z.length <= sizeLine/\Q (.int z.length) H):=by
 intro pins s σ H xs us Q I r h;obtain⟨z,rfl,hz,q⟩:=h;obtain⟨u,rfl,t,rfl⟩:=vals1 r;have hn:=qa8w;exact len_str 'o' ⟨.int z.length,H,I.tok _,⟨_,rfl⟩,q⟩
def qa2l.or{f:Value}{r r':List V->Hp->VK->Prop}(h:qa2l X f r)(h':qa2l X f r'):qa2l X f (fun xs H Q=>r xs H Q ∨ r' xs H Q):=by
 intro pins s σ H xs us Q I rs q;rcases q with q | q
 ·exact h pins s σ H xs us Q I rs q
 ·exact h' pins s σ H xs us Q I rs q
def qa5i:qa2l X (.type "list") (fun xs H Q=>∃ p ys,xs=[.ref p]/\(SqL X.K H p ys ∨ SqT X.K H p ys)/\∀ l,H l=none->Q (.ref l) (upd H l (.lst ys))):=by
 intro pins s σ H xs us Q I r h;obtain⟨p,ys,rfl,hq,q⟩:=h;obtain⟨u,rfl,rx⟩:=vals1 r;cases rx;have fin:∀ (its:List Value),Vals ys its->ys.length <= sizeLine->∀ (h':Heap) (c':Nat),(∀ b o',s.heap.get? b=some o'->h'.get? b=some o') ->
   h'.get? s.heap.objs.size=some { cls:=.type "list",dict:=none,data:=.seq its.toArray c',slots:=#[] }->EP X pins σ Q (.ref s.heap.objs.size) { s with heap:=h' }:=fun its r' hz h' c' kp e =>
  ⟨.ref s.heap.objs.size,_,I.laid (t':=s.toks) kp 'c' (show qa2x X.prog X.w _ h' _ (.lst ys) from⟨hz,its,c',r',e⟩),rfl,q _ (I.hok.fresh 'c')⟩
 rcases hq with hq | hq
 ·obtain⟨its,r',pl,hz⟩:=I.list hq
  have hlen:=r'.length;obtain⟨o,ho,hc,n,hd⟩:=pl.isList;exact call_list_seq p (.inl rfl) ho hc hd (fun h' c' kp e=>fin its r' hz h' c' kp e) (by simp only [size_toArray]<;>omega)
 ·obtain⟨its,r',pl,hz⟩:=I.tuple hq
  have hlen:=r'.length;obtain⟨o,ho,hc,n,hd⟩:=pl;exact call_list_seq p (.inr rfl) ho hc hd (fun h' c' kp e=>fin its r' hz h' c' kp e) (by simp only [size_toArray]<;>omega)
def qa2v:qa2l X (.type "tuple") (fun xs H Q=>∃ p ys,xs=[.ref p]/\((SqL X.K H p ys/\∀ l,H l=none->Q (.ref l) (upd H l (.tup ys))) ∨ (SqT X.K H p ys/\Q (.ref p) H))):=by
 intro pins s σ H xs us Q I r h;obtain⟨p,ys,rfl,h⟩:=h;obtain⟨u,rfl,rx⟩:=vals1 r;cases rx;rcases h with⟨hq,q⟩ | ⟨hq,q⟩
 ·obtain⟨its,r',pl,hz⟩:=I.list hq
  have hlen:=r'.length;refine call_tuple_list pl.isList (fun h' kp=>?_) (by simp only [size_toArray]<;>omega);have I1:Inv X pins σ H { s with heap:=h' }:=I.kept (t':=s.toks) kp;have I2:Inv X pins σ (upd H h'.objs.size (.tup ys)) { s with heap:=h'.push { cls:=.type "tuple",data:=.seq its.toArray } }:=
   I1.laid (t':=s.toks) (fun b o e=>get?_push_of_some _ e) 'c' (show qa2x X.prog X.w _ _ _ (.tup ys) from⟨hz,its,r',qa5g.new _ _⟩)
  exact⟨.ref h'.objs.size,_,I2,rfl,q _ (I1.hok.fresh 'c')⟩
 ·obtain⟨its,r',pl,hz⟩:=I.tuple hq
  exact call_tuple_same pl ⟨.ref p,H,I,rfl,q⟩
def tyV(K:W.Frag)(T:String)(x:V)(H:Hp):Prop:=match x with
 | .str _=>T = "str"
 | .int _=>T = "int"
 | .ref p=>(T = "list" /\ ∃ xs,SqL K H p xs) ∨ (T = "tuple" /\ ∃ o,K.lookup p=some o/\o.cls=.type "tuple" /\ o.dict=none) ∨
   (T = "dict" /\ ((∃ kvs,H p=some (.dK kvs)) ∨ ∃ kvs,H p=some (.dT kvs))) ∨ (T = "set" /\ ∃ S n,H p=some (.set S n))
 | _=>False
def tyV_is{pins:List 'b'}{σ:St}{H:Hp}{s:Shared}{T:String}{x:V}{v:Value}(I:Inv X pins σ H s)(r:RelV x v)(ty:tyV X.K T x H) :
  s.TypeIs v T/\∀ a,v=.ref a->∃ ob,s.heap.get? a=some ob/\ob.dict=none:=by
 cases x with
 | str z =>
  obtain⟨t,rfl⟩:=r;cases (show T = "str" from ty);exact⟨typeIs_str s z t,fun _ e=>nomatch e⟩
 | int i =>
  obtain⟨t,rfl⟩:=r;cases (show T = "int" from ty);exact⟨typeIs_int s i t,fun _ e=>nomatch e⟩
 | ref p =>
  cases r
  rcases ty with⟨rfl,xs,hq⟩ | ⟨rfl,o,hk,hc,hd⟩ | ⟨rfl,hk⟩ | ⟨rfl,S,n,hk⟩
  ·obtain⟨its,_,pl,_⟩:=I.list hq
   refine⟨pl.isList.typeIs,fun a e=>?_⟩;cases e;obtain⟨o,n,e,c,hd,_⟩:=pl;exact⟨o,e,hd⟩
  ·refine⟨⟨o,I.kIn p o hk,hc⟩,fun a e=>?_⟩
   cases e
   exact⟨o,I.kIn _ o hk,hd⟩
  ·have z:∃ o,s.heap.get? p=some o/\o.ExactDict:=by
    rcases hk with⟨kvs,hk⟩ | ⟨kvs,hk⟩
    ·obtain⟨_,_,_,_,o,_,_,e,ex,_⟩:=I.hok p _ hk
     exact⟨o,e,ex⟩
    ·obtain⟨_,_,_,_,o,_,_,e,ex,_⟩:=I.hok p _ hk
     exact⟨o,e,ex⟩
   obtain⟨o,e,ex⟩:=z;refine⟨⟨o,e,ex.1⟩,fun a e2=>?_⟩;cases e2;exact⟨o,e,ex.2.1⟩
  ·obtain⟨o,_,_,_,e,ex,_⟩:=I.hok p _ hk
   refine⟨⟨o,e,ex.1⟩,fun a e2=>?_⟩;cases e2;exact⟨o,e,ex.2.1⟩
 | _=>exact False.elim ty
def tBM(K:W.Frag)(T:String)(r:V->List V->Hp->VK->Prop)(to:TE)(t:TA):TE:=fun σ H Q=>to σ H fun x H1=>tyV K T x H1/\t σ H1 fun xs H2=>r x xs H2 Q
variable{o e:Expr}{es:List Expr}{to:TE}{t:TA}{name:Str}{apos cpos:Pos}{T id:String}{r:V->List V->Hp->VK->Prop}
def pe_bm(pa:PlainAttrs T)(slot:Slot T name id) (hty:typeOf (.builtin id)=pure (.type "method_descriptor")) (hm:MtR X id r) (ho:PE X o to) (ha:PA X (e :: es) t)
  (hbase:attributeBase o name X.env (eval o X.env)=eval o X.env:=by rfl)
  (hfew:((backTo cpos (starEach (e :: es) X.env)).all (fun x=>!x.1) && (backToKw cpos (keywordEach [] X.env)).all (fun x=>x.1.isSome)
   && decide ((e :: es).length + ([]:List Keyword).length + (if ([]:List Keyword).isEmpty then 0 else 1) < 30))=true:=by rfl)
  (hline:(apos.endLine == cpos.line)=true:=by rfl) (hs:starEach (e :: es) X.env=(false,eval e X.env) :: starEach es X.env:=by rfl) (hplain:(backTo cpos (starEach es X.env)).any (·.1)=false:=by rfl) :
  PE X (.Call (.Attribute o name apos) (e :: es) [] cpos) (tBM X.K T r to t):=by
 intro pins s σ H Q I h;refine wpAny_Call_method_late hbase hfew hline rfl (thn (ho pins s σ H _ I h) fun v s1 hq9=>?_);obtain⟨x,H1,I1,r1,ty,q1⟩:=hq9;obtain⟨h1,h2⟩:=tyV_is I1 r1 ty;refine⟨T,id,pa,slot,hty,h1,h2,?_⟩;have hA:=ha cpos pins s1 σ H1 _ I1 q1;rw [hs] at hA ⊢;refine Calls.callWith_builtin (by show(false || (backTo cpos (starEach es X.env)).any (·.1))=false;rw [hplain]<;>rfl) (Calls.evalArgs_plain ?_);exact thn hA fun us s2 hq8=>by obtain⟨vs,H2,I2,r2,q2⟩:=hq8;exact hm pins s2 σ H2 x vs v us Q I2 r1 r2 q2
end
end L2
namespace L2
open PySem PySem.Spec PyProof.Rows
def MtM(X:Cx)(id:String)(r:V->List V->Hp->VK->Prop):Prop:=
 ∀ (pins:List 'b') (s:Shared) (σ:St) (H:Hp) (x:V) (xs:List V) (v:Value) (us:List Value) (Q:VK),Inv X pins σ H s->RelV x v->Vals xs us->r x xs H Q ->
  wpAny (model X.prog X.w) X.A (call (.builtin id) (v :: us)) (EP X pins σ Q) X.xe s
def Vals.one:∀ {x:V} {us:List Value},Vals [x] us->∃ u,us=[u]/\RelV x u
 | _,_,.cons r .nil=>⟨_,rfl,r⟩
def Vals.two:∀ {x y:V} {us:List Value},Vals [x,y] us->∃ u v,us=[u,v]/\RelV x u/\RelV y v
 | _,_,_,.cons r (.cons q .nil)=>⟨_,_,rfl,r,q⟩
def Vals.zero:∀ {us:List Value},Vals [] us->us=[]
 | _,.nil=>rfl
section
variable{X:Cx}{pins:List 'b'}{σ:St}{H:Hp}{s:Shared}{l b:Addr}{xs ys zs:List V}
def Inv.lset{its its':List Value}{n:Nat}{f:Array Value->Array Value}{t':Nat}(I:Inv X pins σ H s)(hH:H l=some (.lst xs))
  (e:s.heap.get? l=some { cls:=.type "list",data:=.seq its.toArray n }) (hf:f its.toArray=its'.toArray) (hv:Vals ys its') (hz:ys.length <= sizeLine) :
  Inv X pins σ (upd H l (.lst ys)) { s with heap:=s.heap.update l (Obj.mapSeq f),toks:=t' }:=by
 have q:=PySem.IsL.update e f;rw [hf] at q;refine I.write (x:=l) (e:=l) (by rw [hH];exact trivial) (.inl rfl) (fun b' u hb hu=>(Heap.get?_update_other s.heap (Obj.mapSeq f) (Ne.symm hb)).trans hu) ⟨_,q⟩ ?_;exact⟨hz,its',_,hv,q⟩
def Inv.lnew{its:List Value}{t':Nat}(I:Inv X pins σ H s)(hv:Vals ys its)(hz:ys.length <= sizeLine) :
  Inv X pins σ (upd H s.heap.objs.size (.lst ys)) { s with heap:=s.heap.push { cls:=.type "list",data:=.seq its.toArray },toks:=t' }:=
 I.laid (fun _ _ q=>get?_push_of_some _ q) 'c' ⟨hz,its,0,hv,get?_push_size _ rfl⟩
def Inv.fresh(I:Inv X pins σ H s):H s.heap.objs.size=none:=I.hok.fresh 'c'
def Inv.lstM(I:Inv X pins σ H s)(hH:H l=some (.lst xs)):xs.length <= sizeLine/\∃ (its:List Value) (n:Nat),Vals xs its/\xs.length=its.length/\s.heap.get? l=some { cls:=.type "list",data:=.seq its.toArray n }:=by
 obtain⟨z,its,n,r,e⟩:=I.hok l _ hH;exact⟨z,its,n,r,r.length,e⟩
def qc5i{n:Nat}(h:n <= sizeLine):Builtin.List.listTooLong n=false:=by
 unfold Builtin.List.listTooLong;exact decide_eq_false 'o'
end
section
variable{X:Cx}
noncomputable def rAppend:V->List V->Hp->VK->Prop:=fun x vs H Q=>∃ l xs y,x=.ref l/\vs=[y]/\H l=some (.lst xs)/\xs.length < sizeLine/\Q .non (upd H l (.lst (xs ++ [y])))
def qc3j:MtM X "list.append" rAppend:=by
 intro pins s σ H x vs v us Q I rx rv h;obtain⟨l,xs,y,rfl,rfl,hH,hz,q⟩:=h;cases rx;obtain⟨u,rfl,ru⟩:=rv.one;obtain⟨z,its,n,r,hl,e⟩:=I.lstM hH;refine call_meets F.slot_list_append ⟨_,e,rfl⟩ F.entry_list_append (F.args_list_append_2 _ _) (PySem.list_append l its.toArray n u (by rw [size_toArray];omega)) ⟨e,?_⟩;refine⟨.non,_,I.lset (its':=its ++ [u]) hH e 'e' (r.append (.cons ru .nil)) ?_,rfl,q⟩;rw [length_append,List.length_singleton];omega
def rCat:R2:=fun x y H Q=>∃ l b xs zs,x=.ref l/\y=.ref b/\H l=some (.lst xs)/\H b=some (.lst zs)/\xs.length + zs.length <= sizeLine/\∀ p,H p=none->Q (.ref p) (upd H p (.lst (xs ++ zs)))
def op_cat:OpR X (binaryOp .Add) rCat:=by
 intro pins s σ H x y v u Q I rx ry h;obtain⟨l,b,xs,zs,rfl,rfl,hH,hB,hz,q⟩:=h;cases rx;cases ry;obtain⟨z,its,n,r,hl,e⟩:=I.lstM hH;obtain⟨z2,its2,n2,r2,hl2,e2⟩:=I.lstM hB;refine PySem.P.add_list e e2 ?_ (by rw [size_toArray,size_toArray];omega);have ea:its.toArray ++ its2.toArray=(its ++ its2).toArray:=by simp
 rw [ea];exact⟨.ref _,_,I.lnew (t':=s.toks) (r.append r2) (by rw [length_append];omega),rfl,q _ I.fresh⟩
end
section
variable{prog:Program}{w:World}{A:Around}{E:Value->Shared->Prop}{s:Shared}
set_option maxRecDepth 100000 in
end
end L2
namespace Att
open PySem PySem.W PySem.Calls PyProof.Rows
def qb2x{P:Params}{h:Heap}:∀ (ns:List Int) (vs:List Value),WellAll P h vs (ns.map WData.int)->IntsAre vs ns:=by
 intro ns;induction ns with
 | nil =>
  intro vs w;rw [map_nil] at w;cases w;exact .nil
 | cons n ns ih =>
  intro vs w;rw [map_cons] at w;cases w with
  | cons a b =>
   cases a
   exact .cons _ _ (ih _ b)
def qc3k{l:OpenLaw}{n:Nat}(hn:l.most=some n){P:Params}{h:Heap}{args:List WData}{vals:List Value}
  (hpre:l.row.toRowW.claim.pre args=true) (hwl:WellAll P h vals args) :
  ∃ a vs ns,vals=[Value.ref a]/\args=[WData.list (ns.map WData.int)]/\h.get? a=some { cls:=.type "list",data:=.seq vs.toArray }/\IntsAre vs ns/\ns.length <= n:=by
 have hsh:WShape.hasAll [] args [.list .int]=true:=(pre_splitW hpre).1;have hc:l.pre.holds [] { args:=args }=true:=(pre_splitW hpre).2;obtain⟨d,r,rfl,h1,h2⟩:=hasAllW_cons hsh;obtain rfl:=hasAllW_nil h2;obtain⟨xs,rfl,h3⟩:=hasW_list h1;obtain⟨ns,rfl⟩:=items_int h3;have hlen:ns.length <= n:=by
  unfold OpenLaw.pre at hc;have h4:(WTm.not (.lt (.lit (.int (n:Int))) (.len (.arg 0)))).holds [] { args:=[.list (ns.map .int)] }=true:=by
   have h4:=(holds_andW hc).1;rw [hn] at h4;exact h4
  have h5:=condW_of h4 (w_not (w_lt w_lit (w_len_list (w_arg rfl))));rw [length_map] at h5;refine Nat.le_of_not_lt fun q=>?_;have q':(n:Int) < ((ns.length:Nat):Int):=by omega
  first
   | (rw [decide_eq_true q'] at h5;exact absurd h5 'd')
   | (simp at h5;omega)
 cases hwl with
 | cons w1 w2 =>
  cases w2
  cases w1 with
  | list ho hall=>exact⟨_,_,ns,rfl,rfl,ho,qb2x ns _ hall,hlen⟩
def qc3l(l:OpenLaw)(args:List WData):l.row.toRowW.claim.post args (.bool true) args=true:=
 postW_of (r:=l.row.toRowW) (X:=(true == true))
  (show WShape.has [] (.bool true) .bool=true by first | rfl | decide | simp [WShape.has,WShape.arms,WShape.armsAll])
  (show(WTm.eq .res (.lit (.bool true))).value [] { args:=args,res:=some (.bool true),after:=args }=some (.bool (true == true)) from w_eq_bool (w_res rfl) w_lit) rfl
def attach_call{l:OpenLaw}{n:Nat}{q:Program}{loose:List Str}{XP:(Str->Option Value)->Heap->Prop}{YP:World->Heap->Prop}{d:DefRec}
  (hn:l.most=some n) (hdf:d.params.defaults=[])
  (call:∀ (w:World) (s₀ s₁:Shared) (mg mb:Str->Option Value) (fa:Addr) (o:Obj) (pm cd doc:Value) (a:Addr) (vs:List Value) (ns:List Int),
   Ground q loose [] XP w s₀ mg mb s₁.heap->YP w s₁.heap ->
   s₁.heap.get? fa=some o->o.data=.func (docDef d.name d.params d.body d.scope pm cd doc)->s₁.heap.CodeRec cd d.name->mg d.name=some (.ref fa) ->
   s₁.heap.get? a=some { cls:=.type "list",data:=.seq vs.toArray }->IntsAre vs ns->ns.length <= n->s₁.gens = #[] ->
   codeAny (model l.prog w) callerA (.call (.ref fa) ⟨[.ref a],[]⟩) (fun r s'=>r=.ok (.ret (.bool true))/\OldK s₁.heap s'.heap/\s'.os=s₁.os/\AllBare s'.gens) s₁) :
  WalkO q loose XP YP l.row.toRowW d [] (fun f vs=>PySem.call f vs):=by
 intro w s₀ s₁ mg mb G Y fa o pm cd doc dV kV ho hd hcd hD hmg hg args vals as hpre hlay hrd hwl hlo;obtain rfl:dV=.none:=Dflts.none hD hdf;obtain rfl:kV=.none:=Dflts.noKw hD;obtain⟨a,vs,ns,rfl,rfl,hobj,hints,hlen⟩:=qc3k hn hpre hwl;refine enter_call (codeAny_mono (call w s₀ s₁ mg mb fa o pm cd doc a vs ns G Y ho (fd_plain hd) hcd hmg hobj hints hlen hg) fun r s' hq=>?_);obtain⟨rfl,h2,h3,h4⟩:=hq;exact⟨.inl ⟨.bool true,.bool true,[],rfl,fun _=>rfl,.bool true,qc3l l _,fun _=>⟨List.Pairwise.nil,fun _ hm=>(nomatch hm)⟩⟩,h2,h3,h4⟩
end Att
namespace L2
open PySem PySem.Spec PyProof.Rows
def qb4t:∀ {vs:List Value} {ns:List Int},IntsAre vs ns->Vals (ns.map V.int) vs
 | _,_,.nil=>.nil
 | _,_,.cons n t h=>.cons ⟨t,rfl⟩ (qb4t h)
def Only(H:Hp):Prop:=∀ b,H b=none ∨ ∃ o xs,H b=some (.frz o (.lst xs))
def qc5j{P:Program}{w:World}{K:W.Frag}{mg mb:Str->Option Value}{CX:CXT}{k:Nat}{fa a:Addr}{fd:FuncData}{x:Str}{sp:Sp}{s₁:Shared}{vs:List Value}{ns:List Int}
  (KX:K.In s₁.heap) (hns:s₁.heap.Ns mainGlobals mg) (hb:s₁.heap.Ns builtinsNs mb) (hbb:∀ x:Str,x ≠ "__name__" -> mb x=bootBuiltins x) (hlim:s₁.heap.NoLimit) (hg:s₁.gens = #[])
  (ha:s₁.heap.get? a=some { cls:=.type "list",data:=.seq vs.toArray }) (hi:IntsAre vs ns) (hl:ns.length <= sizeLine) (hr:Room k callerA)
  (F:∀ base:Heap,K.In base->base.Ns mainGlobals mg->FnOk P w K mg base CX k fa fd [x] sp) (hbind:∀ (s:Shared) (u:Value),BindsTo s fd ⟨[u],[]⟩ [(x,u)])
  (hsp:∀ H:Hp,Only H->SqL K H a (ns.map V.int)->sp [.ref a] H (fun v _=>v=.bl true) fun _ _ _=>False)
  (hCX:∀ H e s',CX [] H s₁ (fun _ _ _=>False) e s'->False) :
  codeAny (model P w) callerA (.call (.ref fa) ⟨[.ref a],[]⟩) (fun r s'=>r=.ok (.ret (.bool true))/\OldK s₁.heap s'.heap/\s'.os=s₁.os/\AllBare s'.gens) s₁:=by
 have rv:=qb4t hi;have lenV:=hi.length
 -- from an abstract heap in which nothing but the script may be tracked
 have core:∀ H:Hp,Only H->SqL K H a (ns.map V.int)->HOk P w H s₁.heap->(∀ b,H b ≠ none->b=a)->(H a ≠ none->K.lookup a=none) ->
   codeAny (model P w) callerA (.call (.ref fa) ⟨[.ref a],[]⟩) (fun r s'=>r=.ok (.ret (.bool true))/\OldK s₁.heap s'.heap/\s'.os=s₁.os/\AllBare s'.gens) s₁:=by
  intro H hO hS hok hA hK;have base_of:∀ {b:Addr} {o:Obj},s₁.heap.get? b=some o->H b=none->(hidT s₁.heap H).get? b=some o:=fun e n=>qc5b e n;have noA:∀ {b:Addr} {o:Obj} {es:Array DictEntry} {ep:Nat},s₁.heap.get? b=some o->o.data=.dict es ep->H b=none:=fun{b o es ep} e d=>by
   cases q:H b with
   | none=>rfl
   | some u =>
    have e':b=a:=hA b (by rw [q];simp);subst e';rw [ha] at e;cases e;have d':Data.seq vs.toArray _=Data.dict es ep:=d;cases d'
  have nsK:∀ {b:Addr} {m:Str->Option Value},s₁.heap.Ns b m->(hidT s₁.heap H).Ns b m:=fun{b m} ⟨o,es,ep,e,d,r⟩=>⟨o,es,ep,base_of e (noA e d),d,r⟩;have hKb:K.In (hidT s₁.heap H):=fun b o e=>base_of (KX b o e) (by
   cases q:H b with
   | none=>rfl
   | some u =>
    have e':b=a:=hA b (by rw [q];simp);subst e';rw [hK (by rw [q];simp)] at e;cases e)
  have hM:Mod K mg (hidT s₁.heap H):=⟨hKb,nsK hns,⟨mb,nsK hb,hbb⟩,let ⟨mc,h1,h2⟩:=hlim;⟨mc,nsK h1,h2⟩⟩;have e0:Env0 P w K mg (hidT s₁.heap H) callerA [] s₁ H:=⟨rfl,hM,fun b o e=>of_hidT e,le_of_eq (qc3c _ _),trivial,fun b hb=>absurd (show b ∈ ([]:List Addr) from hb) 'e',hok,.of_eq hg⟩;refine codeAny_mono ((F _ hKb (nsK hns)).run callerA [] s₁ H ⟨[.ref a],[]⟩ [.ref a] [.ref a] _ _ hr e0 (hbind s₁ (.ref a)) (.cons rfl .nil) (hsp H hO hS)) fun r s' h=>?_;cases r with
  | error e=>exact(hCX H e s' h).elim
  | ok fl =>
   cases fl with
   | next=>exact False.elim h
   | brk=>exact False.elim h
   | cont=>exact False.elim h
   | ret u =>
    obtain⟨v,H',os,bare,un,hok',r',q⟩:=h;have q':v=.bl true:=q;subst q';obtain rfl:u=Value.bool true:=r';refine⟨rfl,OldK.of_keep fun b o e=>?_,os,bare⟩;cases q:H b with
    | none=>exact un.keep b o e q (by intro z;exact absurd (show b ∈ ([]:List Addr) from z) 'e') 'e'
    | some u =>
     rcases hO b with z | ⟨ob,xs,z⟩
     ·rw [q] at z;cases z
     ·have z2:=un.frzs b ob _ z
      obtain⟨e1,_⟩:=hok b _ z;obtain⟨e2,_⟩:=hok' b _ z2;rw [e] at e1;cases e1;exact e2
 cases hk:K.lookup a with
 | some o =>
  -- the script is one of the module's own objects
  have e:=KX a o hk;rw [ha] at e;cases e;refine core (fun _=>none) (fun _=>.inl rfl) (.inr ⟨_,vs.toArray,_,hk,rfl,rfl,rfl,by rw [size_toArray,lenV];exact hl,by simpa using rv⟩) (fun b u z=>by have z':(none:Option HO)=some u:=z;cases z') (fun b z=>absurd rfl z) fun z=>absurd rfl z
 | none =>
  refine core (fun b=>if b=a then some (.frz { cls:=.type "list",data:=.seq vs.toArray } (.lst (ns.map V.int))) else none) (fun b=>?_) (.inl (.inr ⟨{ cls:=.type "list",data:=.seq vs.toArray },if_pos rfl⟩)) (fun b u z=>?_) (fun b z=>?_) fun _=>hk
  ·by_cases hb:b=a
   ·exact .inr ⟨_,_,if_pos hb⟩
   ·exact .inl (if_neg hb)
  ·by_cases hb:b=a
   ·have z':=(if_pos hb).symm.trans z
    cases z'
    subst hb;exact⟨ha,by rw [length_map];exact hl,vs,_,rv,ha⟩
   ·have z':=(if_neg hb).symm.trans z
    cases z'
  ·by_cases hb:b=a
   ·exact hb
   ·exact absurd (if_neg hb) z
end L2
namespace L2
open PySem PySem.Spec PyProof.Rows
def walk_of{l:PySem.W.OpenLaw}{n k:Nat}{q:Program}{loose:List Str}{XP:(Str->Option Value)->Heap->Prop}{YP:World->Heap->Prop}{d:DefRec}{K:Params->W.Frag}{CX:World->CXT}{sp:World->Sp}{x:Str}
  (hn:l.most=some n) (hn2:n <= sizeLine) (hdf:d.params.defaults=[]) (hr:Room k callerA)
  (hY:∀ (w:World) (h:Heap),YP w h->(K w.params).In h)
  (F:∀ (w:World) (mg:Str->Option Value) (fa:Addr) (h:Heap),(K w.params).In h->h.Ns mainGlobals mg->mg d.name=some (.ref fa) ->
   ∃ fd:FuncData,(∀ (s:Shared) (u:Value),BindsTo s fd ⟨[u],[]⟩ [(x,u)]) /\
    ∀ base:Heap,(K w.params).In base->base.Ns mainGlobals mg->FnOk l.prog w (K w.params) mg base (CX w) k fa fd [x] (sp w))
  (hsp:∀ (w:World) (H:Hp) (a:Addr) (ns:List Int),ns.length <= n->Only H->SqL (K w.params) H a (ns.map V.int)->sp w [.ref a] H (fun v _=>v=.bl true) fun _ _ _=>False)
  (hCX:∀ (w:World) (H:Hp) (s:Shared) (e:Value) (s':Shared),CX w [] H s (fun _ _ _=>False) e s'->False) :
  PySem.W.WalkO q loose XP YP l.row.toRowW d [] (fun f vs=>PySem.call f vs):=by
 refine Att.attach_call hn hdf fun w s₀ s₁ mg mb fa o pm cd doc a vs ns G Y ho hd hcd hmg hobj hints hlen hg=>?_;have KX:=hY w _ Y;obtain⟨fd,hb,hF⟩:=F w mg fa _ KX G.T.g hmg;exact qc5j KX G.T.g G.T.b G.T.builtins G.T.nolimit hg hobj hints (le_trans hlen hn2) hr hF hb (fun H hO hS=>hsp w H a ns hlen hO hS) fun H e s'=>hCX w H s₁ e s'
end L2
namespace L2
open PySem PySem.Spec PyProof.Rows
noncomputable def qa5y(s:Stmt):Arguments:=match s with
 | .FunctionDef _ a _ _ _ _ _ _ _ _=>a
 | _=>{ posonlyargs:=[],args:=[],vararg:=none,kwonlyargs:=[],kw_defaults:=[],kwarg:=none,defaults:=[] }
noncomputable def qa3v(s:Stmt):List Stmt:=match s with
 | .FunctionDef _ _ b _ _ _ _ _ _ _=>b
 | _=>[]
noncomputable def qa0h(s:Stmt):Scope:=match s with
 | .FunctionDef _ _ _ _ _ _ sc _ _ _=>sc
 | _=>{ kind:=.function,names:=[],isGenerator:=false,isCoroutine:=false }
abbrev CX0:CXT:=fun _ _ _ _ _ _=>False
abbrev E0:XK:=fun _ _ _=>False
def pass0{X:Cx}:qb6b CX0 X E0:=fun _ _ _ _ _ _ _ h=>h.elim
structure Fun(K:W.Frag)(x qual:Str)(st:Stmt)(f:Addr)(fd:FuncData):Prop where
 ex:∃ (oc:Value) (od:Option Addr) (kV doc pm:Value) (an:Option Addr) (cdv ct:Value) (osl:Array (Option Value)),
  fd=PySem.W.fnOf x qual (qa5y st) (qa3v st) (qa0h st) .none kV doc pm an cdv ct/\K.lookup f=some ⟨oc,od,.func fd,osl⟩/\PySem.W.codeIn K cdv qual=true
 kp:PySem.W.keepIn K (.ref f)=true
section
variable{P:Program}{w:World}{K:W.Frag}{mg:Str->Option Value}{base:Heap}
def Fun.ok{x qual:Str}{st:Stmt}{f:Addr}{fd:FuncData}{N ps:List Str}{k:Nat}{sp:Sp}(F:Fun K x qual st f fd)(S:FnScope N ps (qa0h st))(len:∀ vs H Q E,sp vs H Q E->vs.length=ps.length)
  (hbody:∀ (cdv:Value) (A:Around) (outer:List Env) (s:Shared) (H:Hp) (vs:List V) (Q:VK) (E:XK),Room k (A.deeper (envOfC qual (qa0h st) s.heap.objs.size f cdv))->sp vs H Q E ->
   ∃ t,PSs (cxOf CX0 P w K mg base N qual (qa0h st) f cdv A outer s H E).nox (qa3v st) t/\t { nx:=fun _ H'=>Q .non H',rt:=Q } (start N vs) H):FnOk P w K mg base CX0 (k + 1) f fd ps sp:=by
 obtain⟨oc,od,kV,doc,pm,an,cdv,ct,osl,rfl,lk,hcd⟩:=F.ex;refine fn_of lk hcd S len fun A outer s H vs Q E hr hsp=>?_;obtain⟨t,h,q⟩:=hbody cdv A outer s H vs Q E hr hsp;exact⟨t,h.nox,q⟩
def Fun.binds{x qual:Str}{st:Stmt}{f:Addr}{fd:FuncData}{ps:List Str}(F:Fun K x qual st f fd)
  (h:∀ (kV doc pm:Value) (an:Option Addr) (cdv ct:Value) (us:List Value),us.length=ps.length->bindArgs (PySem.W.fnOf x qual (qa5y st) (qa3v st) (qa0h st) .none kV doc pm an cdv ct) ⟨us,[]⟩=pure (ps.zip us)):Binds K fd ps []:=by
 obtain⟨oc,od,kV,doc,pm,an,cdv,ct,osl,rfl,lk,hcd⟩:=F.ex;exact .all (h kV doc pm an cdv ct)
def qa7v{x qual:Str}{st:Stmt}{f:Addr}{oc:Value}{od an:Option Addr}{osl:Array (Option Value)}{kV doc pm cdv ct:Value}(l:K.lookup f=some ⟨oc,od,.func (PySem.W.fnOf x qual (qa5y st) (qa3v st) (qa0h st) .none kV doc pm an cdv ct),osl⟩)
  (c:PySem.W.codeIn K cdv qual=true) (k:PySem.W.keepIn K (.ref f)=true):Fun K x qual st f (PySem.W.fnOf x qual (qa5y st) (qa3v st) (qa0h st) .none kV doc pm an cdv ct):=⟨⟨oc,od,kV,doc,pm,an,cdv,ct,osl,rfl,l,c⟩,k⟩
end
section
variable{X:Cx}
def pv(i:Nat){x:Str}{pos:Pos}(hN:X.N[i]? = some x:=by rfl)(hv:Vis X.env.scope x:=by first | exact Or.inl rfl | exact Or.inr 'f' | exact Or.inr (Or.inr rfl)) (hd:(x == ("__debug__" : Str))=false:=by decide)
  (hcd:(x == ("__classdict__" : Str))=false:=by decide):PE X (.Name x pos) (tVar i):=qb5y hN hv hd hcd
end
def ite2{c A B:Prop}[Decidable c](h1:c->A)(h2:¬ c->B):if c then A else B:=by
 by_cases h:c
 ·rw [if_pos h]
  exact h1 h
 ·rw [if_neg h]
  exact h2 h
def Same(H H':Hp):Prop:=∀ b o,H b=some o->H' b=some o
def Same.refl(H:Hp):Same H H:=fun _ _ h=>h
def Same.free{H H':Hp}(e:Same H H'){l:Addr}(h:H' l=Option.none):H l=Option.none:=by
 cases q:H l with
 | none=>rfl
 | some o =>
  rw [e l o q] at h;cases h
end L2
end
section
namespace Sx
open PySem
abbrev Up(xs:Array Nat):Prop:=∀ i k:Nat,i < k->∀ hk:k < xs.size,∀ hi:i < xs.size,xs[i] < xs[k]
structure Bel(xs:Array Nat)(j r:Nat):Prop where
 le:r <= xs.size
 lo:∀ i,i < r->∀ h:i < xs.size,xs[i] < j
 hi:∀ i,r <= i->∀ h:i < xs.size,j <= xs[i]
def go_bel{xs:Array Nat}(up:Up xs)(j:Nat):∀ (f lo hi:Nat),hi - lo <= f->lo <= hi->hi <= xs.size->(∀ i,i < lo->∀ h:i < xs.size,xs[i] < j)->(∀ i,hi <= i->∀ h:i < xs.size,j <= xs[i])->Bel xs j (SetTable.below.go xs j f lo hi):=by
 intro f;induction f with
 | zero =>
  intro lo hi hf h1 h2 a b;have e:lo=hi:=by omega
  subst e;exact⟨h2,a,b⟩
 | succ f ih =>
  intro lo hi hf h1 h2 a b;unfold SetTable.below.go;by_cases hlt:lo < hi
  ·rw [if_pos hlt]
   have hm:(lo + hi) / 2 < xs.size:=by omega
   have eg:xs.getD ((lo + hi) / 2) j=xs[(lo + hi) / 2]:=by
    rw [getD_eq_getD_getElem?,Array.getElem?_eq_getElem hm];rfl
   dsimp only
   rw [eg];by_cases hc:xs[(lo + hi) / 2] < j
   ·rw [if_pos hc]
    refine ih _ _ 'o' 'o' h2 (fun i hi' h=>?_) b;by_cases e:i=(lo + hi) / 2
    ·subst e;exact hc
    ·exact Nat.lt_trans (up i ((lo + hi) / 2) 'o' hm h) hc
   ·rw [if_neg hc]
    refine ih _ _ 'o' 'o' 'o' a (fun i hi' h=>?_);by_cases e:i=(lo + hi) / 2
    ·subst e;omega
    ·have:=up ((lo + hi) / 2) i 'o' h hm
     omega
  ·rw [if_neg hlt]
   have e:lo=hi:=by omega
   subst e;exact⟨h2,a,b⟩
def bel{xs:Array Nat}(up:Up xs)(j:Nat):Bel xs j (SetTable.below xs j):=
 go_bel up j xs.size 0 xs.size 'o' 'o' 'c' (fun i h=>absurd h (not_lt_zero _)) (fun i h1 h2=>absurd h2 'o')
def Bel.eq{xs:Array Nat}{j r r':Nat}(a:Bel xs j r)(b:Bel xs j r'):r=r':=by
 rcases Nat.lt_trichotomy r r' with h | h | h
 ·have h1:=a.hi r 'c' (by have:=b.le;omega)
  have h2:=b.lo r h (by have:=b.le;omega);omega
 ·exact h
 ·have h1:=b.hi r' 'c' (by have:=a.le;omega)
  have h2:=a.lo r' h (by have:=a.le;omega);omega
def qc1k{xs:Array Nat}(up:Up xs){i:Nat}(h:i < xs.size):SetTable.below xs (xs[i] + 1)=i + 1:=
 (bel up _).eq ⟨h,fun k hk hs=>by
  by_cases e:k=i
  ·subst e;omega
  ·have:=up k i 'o' h hs
   omega,fun k hk hs=>by have:=up i k 'o' hs h;omega⟩
def qc1l{xs:Array Nat}(up:Up xs):SetTable.below xs 0=0:=
 (bel up _).eq ⟨zero_le _,fun i h=>absurd h (not_lt_zero _),fun i h1 h2=>zero_le _⟩
abbrev UpL(xs:List Nat):Prop:=xs.Pairwise (· < ·)
def up_of{xs:Array Nat}(h:UpL xs.toList):Up xs:=fun i k hik hk hi=>by
 have:=List.pairwise_iff_getElem.mp h i k (by simpa using hi) (by simpa using hk) hik;simpa using this
def put_up{xs:Array Nat}(h:UpL xs.toList){j:Nat}(hj:¬ xs[SetTable.below xs j]? = some j):UpL (SetTable.insertAt xs (SetTable.below xs j) j).toList:=by
 have b:=bel (up_of h) j;generalize SetTable.below xs j=r at b hj;rw [SetTable.toList_insertAt];have h0:UpL (xs.toList.take r ++ xs.toList.drop r):=by rw [List.take_append_drop];exact h
 obtain⟨h1,h2,h3⟩:=List.pairwise_append.mp h0;have lo:∀ a ∈ xs.toList.take r,a < j:=fun a ha=>by
  obtain⟨i,hi,e⟩:=getElem_of_mem ha;rw [length_take] at hi;rw [List.getElem_take] at e;have hs:i < xs.size:=by simp at hi;omega
  have:=b.lo i 'o' hs;rw [← e];simpa using this
 have hi:∀ a ∈ xs.toList.drop r,j < a:=fun a ha=>by
  obtain⟨i,hi,e⟩:=getElem_of_mem ha;rw [length_drop] at hi;rw [List.getElem_drop] at e;have hs:r + i < xs.size:=by simp at hi;omega
  have h5:=b.hi (r + i) 'o' hs;have e':xs[r + i]=a:=by rw [← e];simp
  have hr:r < xs.size:=by omega
  have h6:=b.hi r 'c' hr;have h7:xs[r] ≠ j:=fun e=>hj (by rw [Array.getElem?_eq_getElem hr,e]);by_cases e0:i=0
  ·subst e0
   simp only [Nat.add_zero] at e';omega
  ·have:=up_of h r (r + i) 'o' hs hr
   omega
 refine List.pairwise_append.mpr ⟨h1,pairwise_cons.mpr ⟨hi,h2⟩,fun a ha c hc=>?_⟩;rcases mem_cons.mp hc with rfl | hc
 ·exact lo a ha
 ·exact h3 a ha c hc
structure TOk(t:SetTable):Prop where
 none:t.dummies = #[]
 up:UpL t.place.toList
def qc3m(f m:Nat)(l:Bool):TOk (SetTable.fresh f m l):=⟨rfl,List.Pairwise.nil⟩
def qb4u(n:Nat):UpL (List.range n):=List.pairwise_lt_range
def qa6j(t:SetTable)(n:Nat):TOk (t.standIn n):=⟨rfl,by
 show UpL (Array.range n).toList;rw [Array.toList_range];exact qb4u n⟩
def tok_or{t:SetTable}(h:TOk t)(n:Nat):TOk (t.orStandIn n):=by
 unfold SetTable.orStandIn;split
 ·exact h
 ·exact qa6j t n
def qc0a(j:Nat):SetTable.has #[] j=false:=by
 unfold SetTable.has;simp
def qc5k{t:SetTable}(h:TOk t)(f:Nat->Int)(hh:Int):∀ (n:Nat) (p:SetTable.Probe),p.dummy=none->∀ j d,SetTable.probe.go t f hh n p=some (.empty j d)->d=none/\t.slot j=.empty:=by
 intro n;induction n with
 | zero=>intro p hp j d e;unfold SetTable.probe.go at e;cases e
 | succ n ih =>
  intro p hp j d e;unfold SetTable.probe.go at e;have adv:∀ q:SetTable.Probe,q.dummy=none->(t.advance q).dummy=none:=fun q hq=>by
   unfold SetTable.advance;split
   ·exact hq
   ·exact hq
  split at e
  ·rename_i hs
   injection e with e
   injection e with e1 e2
   subst e1;exact⟨by rw [← e2,hp],hs⟩
  ·rename_i hs
   exfalso
   unfold SetTable.slot at hs
   dsimp only at hs
   rw [h.none,qc0a] at hs;split at hs<;>cases hs
  ·split at e
   ·injection e with e;cases e
   ·exact ih _ (adv _ hp) j d e
def qc1m{t:SetTable}(h:TOk t){hh:Int}{j:Nat}{b:Bool}(e:t.freeSlot hh=some (j,b)):t.slot j=.empty:=by
 unfold SetTable.freeSlot SetTable.probe at e;split at e
 ·rename_i j' d hp
  obtain⟨hd,hs⟩:=qc5k h _ _ _ _ rfl _ _ hp;injection e with e
  injection e with e1 e2
  subst hd;subst e1;exact hs
 ·cases e
def tok_put{t:SetTable}(h:TOk t){j:Nat}(hs:t.slot j=.empty):TOk (t.put j).1:=by
 have hj:¬ t.place[SetTable.below t.place j]? = some j:=fun e=>by
  unfold SetTable.slot at hs
  dsimp only at hs
  rw [e] at hs;simp at hs
 refine⟨?_,?_⟩
 ·unfold SetTable.put
  dsimp only
  rw [h.none,qc0a];rfl
 ·exact put_up h.up hj
def qc1n{t:SetTable}(h:TOk t)(es:Array 'p')(hh:Int)(x:Value):TOk (layNew t es hh x).2.1:=by
 unfold layNew;split
 ·rename_i slot d e
  exact tok_or (tok_put h (qc1m h e)) _
 ·exact qa6j _ _
def qc3n{t:SetTable}(h:TOk t)(b:Bool):TOk { t with plain:=b }:=⟨h.none,h.up⟩
def qc5l{mask f m:Nat}{l p:Bool}{hs:Array Int}{r:SetTable × Array Nat}(e:SetTable.laid mask f m l p hs=some r):TOk r.1:=by
 unfold SetTable.laid at e;cases ho:SetTable.layClean mask hs with
 | none=>rw [ho] at e;cases e
 | some owner =>
  rw [ho] at e;cases e;refine⟨rfl,?_⟩;show UpL (List.map (fun q:Nat × Nat=>q.1) _);have key:∀ (l:List Nat),UpL l->UpL (List.map (fun q:Nat × Nat=>q.1) (l.filterMap fun j=>(owner.getD j none).map (j,·))):=by
   intro l hl;refine pairwise_map.mpr ?_;refine List.Pairwise.filterMap _ (fun a a' haa b hb c hc=>?_) hl;cases ha:owner.getD a none with
   | none=>rw [ha] at hb;cases hb
   | some u =>
    cases ha':owner.getD a' none with
    | none=>rw [ha'] at hc;cases hc
    | some u' =>
     rw [ha] at hb;rw [ha'] at hc;cases hb;cases hc;exact haa
  exact key _ (qb4u _)
def qc3o{t:SetTable}(h:TOk t)(es:Array 'p')(n:Nat):TOk (relayAll t es n).2.1:=by
 unfold relayAll;split
 ·rename_i t' order e
  dsimp only
  split
  ·exact qc5l e
  ·exact qa6j _ _
 ·exact qa6j _ _
def qc1o(t:SetTable)(es:Array 'p')(hh:Int)(x:Value):(layNew t es hh x).2.1.led=t.led:=by
 unfold layNew;split
 ·dsimp only
  unfold SetTable.orStandIn;split<;>rfl
 ·rfl
def qc3p(t:SetTable)(es:Array 'p')(n:Nat):(relayAll t es n).2.1.led=t.led:=by
 unfold relayAll;split
 ·rename_i t' order e
  dsimp only
  split
  ·unfold SetTable.relaid SetTable.laid at e
   cases ho:SetTable.layClean (SetTable.sizeAbove n - 1) (es.map (·.1)) with
   | none=>rw [ho] at e;cases e
   | some owner=>rw [ho] at e;cases e;rfl
  ·rfl
 ·rfl
end Sx
end
section
namespace Sx
open PySem
section
variable{prog:Program}{w:World}{K:Type}[DecidableEq K](knd:KeyKind prog w K)(dec:Value->K)
structure Fc(ks:List K)(es:Array 'p')(t:SetTable):Prop where
 el:ElemsOf knd es.toList
 pm:(es.toList.map fun e=>dec e.2).Perm ks
 nd:ks.Nodup
 sz:es.size < scanBound
 ft:t.fits es.size=true
 ok:TOk t
 ld:t.led = !w.params.followText "set-order"
abbrev setO(es:Array 'p')(ep:Nat)(t:SetTable):Obj:={ cls:=.type "set",dict:=none,data:=.set es ep t,slots:=#[] }
def SetV(h:Heap)(a:Addr)(ks:List K):Prop:=∃ es ep t,h.get? a=some (setO es ep t)/\Fc knd dec ks es t
noncomputable def ins(ks:List K)(k:K):List K:=if k ∈ ks then ks else ks ++ [k]
variable{knd dec}
variable{A:Around}{E:Value->Shared->Prop}{s:Shared}
def Fc.relay{ks:List K}{es:Array 'p'}{t:SetTable}(F:Fc knd dec ks es t)(n:Nat):Fc knd dec ks (relayAll t es n).1 (relayAll t es n).2.1:=by
 have p:=relayAll_perm t es n;have z:(relayAll t es n).1.size=es.size:=by rw [← length_toList,p.length_eq,length_toList]
 exact⟨F.el.perm p,(p.map _).trans F.pm,F.nd,by rw [z];exact F.sz,relayAll_fits t es n,qc3o F.ok es n,by rw [qc3p];exact F.ld⟩
def Fc.plain{ks:List K}{es:Array 'p'}{t:SetTable}(F:Fc knd dec ks es t):Fc knd dec ks es { t with plain:=false }:=
 ⟨F.el,F.pm,F.nd,F.sz,SetTable.fits_plain_off F.ft,qc3n F.ok _,F.ld⟩
def Fc.lay{ks:List K}{es:Array 'p'}{t:SetTable}(F:Fc knd dec ks es t)(hdec:∀ k v,knd.is k v=true->dec v=k){k:K}{x:Value}(hk:knd.is k x=true)(hx:x.scannable=true)(hn:k ∉ ks)(hr:ks.length + 1 < scanBound) :
  Fc knd dec (ks ++ [k]) (layNew t es (knd.hash k) x).1 (layNew t es (knd.hash k) x).2.1:=by
 have p:=layNew_perm t es (knd.hash k) x;rw [toList_push] at p;have z0:es.size=ks.length:=by have:=F.pm.length_eq;simpa using this
 have z:(layNew t es (knd.hash k) x).1.size=es.size + 1:=by rw [← length_toList,p.length_eq];simp
 refine⟨(F.el.push hk hx).perm p,?_,?_,by rw [z,z0];exact hr,layNew_fits t es _ x,qc1n F.ok es _ x,by rw [qc1o];exact F.ld⟩
 ·have p2:=p.map (fun e=>dec e.2)
  rw [map_append] at p2;have e1:List.map (fun e:Int × Value=>dec e.2) [(knd.hash k,x)]=[k]:=by simp [hdec k x hk]
  rw [e1] at p2;exact p2.trans (F.pm.append_right [k])
 ·rw [List.nodup_append]
  refine⟨F.nd,List.pairwise_singleton _ k,fun a ha b hb=>?_⟩;rw [mem_singleton] at hb;subst hb;exact fun e=>hn (e ▸ ha)
def qb4v{h:Heap}{a:Addr}{es:Array 'p'}{ep:Nat}{t:SetTable}(ho:h.get? a=some (setO es ep t))(es':Array 'p')(t':SetTable):(h.update a (Obj.putSet es' t')).get? a=some (setO es' (ep + 1) t'):=by
 have:=Heap.get?_update_self (Obj.putSet es' t') ho (by rw [putSet_of es' t' rfl];rfl);rw [putSet_of es' t' rfl] at this;exact this
def tail_v{g:Bool->Sem Unit}(hg:∀ (b:Bool) (s₁:Shared) (Q':Unit->Shared->Prop),Q' () s₁->wpAny (model prog w) A (g b) Q' E s₁){a:Addr}{es:Array 'p'}{ep:Nat}{t:SetTable}(ho:s.heap.get? a=some (setO es ep t))
  {ks:List K} {e1:Array 'p'} {t1:SetTable} (F:Fc knd dec ks e1 t1) {wd:Bool} {R:Option Bool->Shared->Prop} (h:∀ h',Heap.SameBut a s.heap h'->SetV knd dec h' a ks->R (some true) { s with heap:=h' }) :
  wpAny (model prog w) A (do
    storeSet a e1 t1
    if (!wd && t1.tooFull)=true then do
      g (relayAll t1 e1 (SetTable.grown e1.size)).2.2;storeSet a (relayAll t1 e1 (SetTable.grown e1.size)).1 (relayAll t1 e1 (SetTable.grown e1.size)).2.1
      pure (some true)
     else pure (some true)) R E s:=by
 refine wpAny_bind (wpAny_storeSet_of ho rfl ?_ (fits_of_scanBound F.sz));have o1:=qb4v ho e1 t1;have b1:=Heap.SameBut.update s.heap a (Obj.putSet e1 t1);split
 ·have F2:=F.relay (SetTable.grown e1.size)
  generalize relayAll t1 e1 (SetTable.grown e1.size)=Rl at F2 ⊢;refine wpAny_bind (hg _ _ _ (wpAny_bind (wpAny_storeSet_of o1 rfl ?_ (fits_of_scanBound F2.sz))));exact wpAny_pure (h _ (b1.trans (Heap.SameBut.update _ a _)) ⟨_,_,_,qb4v o1 _ _,F2⟩)
 ·exact wpAny_pure (h _ b1 ⟨_,_,_,o1,F⟩)
def addH_v(hdec:∀ k v,knd.is k v=true->dec v=k){a:Addr}{ks:List K}{k:K}{x:Value}{Q:Bool->Shared->Prop}(hk:knd.is k x=true)(hx:x.scannable=true)(hS:SetV knd dec s.heap a ks)(hr:ks.length + 1 < scanBound)
  (h:∀ b h',Heap.SameBut a s.heap h'->SetV knd dec h' a (ins ks k)->Q b { s with heap:=h' }):wpAny (model prog w) A (setAddHashed a x (knd.hash k)) Q E s:=by
 obtain⟨es,ep,t,ho,F⟩:=hS;unfold setAddHashed;unfold setAddHashedIn;refine wpAny_holding (wpAny_bind (wpAny_setState_of ho rfl F.ft ?_))
 dsimp only
 rw [byScan_of hx F.sz F.el];simp only [↓reduceIte];unfold setAddByScan;refine wpAny_bind (wpAny_bind (wpAny_rule (wpAny_bind (wpAny_setScan_of hk ho rfl F.ft F.el ?_))));cases hf:List.findIdx? (fun e=>knd.is k e.2) es.toList with
 | some j =>
  obtain⟨hj,hpj,_⟩:=List.findIdx?_eq_some_iff_getElem.mp hf;have hm:k ∈ ks:=F.pm.mem_iff.mp (mem_map.mpr ⟨es.toList[j],getElem_mem hj,hdec _ _ hpj⟩);refine wpAny_pure (wpAny_pure ?_);have:=h false s.heap (Heap.SameBut.refl a s.heap) (by rw [ins,if_pos hm];exact⟨es,ep,t,ho,F⟩);cases s;exact this
 | none =>
  have hn:k ∉ ks:=fun hm=>by
   obtain⟨e,he,q⟩:=mem_map.mp (F.pm.mem_iff.mpr hm);obtain⟨⟨k2,hk2,_⟩,_⟩:=F.el e he;have e2:k2=k:=(hdec _ _ hk2).symm.trans q;have:=List.findIdx?_eq_none_iff.mp hf e he;rw [← e2,hk2] at this;cases this
  have F1:=F.lay hdec hk hx hn hr;have hw:∀ (b:Bool) {s₁:Shared} {Q':Unit->Shared->Prop},Q' () s₁->wpAny (model prog w) A (match b with | true=>rule "set.scan.the-table-gave-way" | false=>pure ()) Q' E s₁:=fun b s₁ Q' hq=>by
   cases b<;>first | exact wpAny_pure hq | exact wpAny_rule hq
  have fin:∀ h',Heap.SameBut a s.heap h'->SetV knd dec h' a (ks ++ [k])->Q true { s with heap:=h' }:=fun h' b1 b2=>h true h' b1 (by rw [ins,if_neg hn];exact b2)
  dsimp only
  generalize layNew t es (knd.hash k) x=L at F1 ⊢;obtain⟨e1,t1,wd,gave⟩:=L
  dsimp only at F1 ⊢
  refine wpAny_bind (hw _ ?_);split
  ·refine wpAny_bind ?_
   rw [hashByValue_scannable 8 hx];refine wpAny_pure (tail_v (knd:=knd) (dec:=dec) ?_ ho (ks:=ks ++ [k]) ?_ ?_)
   ·intro b s₁ Q' hq;cases b<;>first | exact wpAny_pure hq | exact wpAny_rule hq
   ·split
    ·exact F1
    ·exact F1.plain
   ·intro h' hb hS';exact wpAny_pure (fin h' hb hS')
  ·refine wpAny_bind (wpAny_pure ?_);simp only [↓reduceIte]
   refine tail_v ?_ ho F1 ?_
   ·intro b s₁ Q' hq;cases b<;>first | exact wpAny_pure hq | exact wpAny_rule hq
   ·intro h' hb hS';exact wpAny_pure (fin h' hb hS')
def add_v(hdec:∀ k v,knd.is k v=true->dec v=k){a:Addr}{ks:List K}{k:K}{x:Value}{Q:Bool->Shared->Prop}(hk:knd.is k x=true)(hx:x.scannable=true)(hS:SetV knd dec s.heap a ks)(hr:ks.length + 1 < scanBound)
  (h:∀ b h',Heap.SameBut a s.heap h'->SetV knd dec h' a (ins ks k)->Q b { s with heap:=h',toks:=s.toks + 1 }):wpAny (model prog w) A (setAdd a x) Q E s:=by
 unfold setAdd;refine wpAny_holding (wpAny_bind (knd.pyHash hk ?_));exact addH_v hdec hk hx (s:={ s with toks:=s.toks + 1 }) hS hr fun b h' b1 b2=>h b h' b1 b2
end
end Sx
end
section
namespace Sx
open PySem
def qb4w:entryFor table "set.update.loop" = some Builtin.«set.update.loop»:=entryFor_of_tree (by kernel_rfl)
def qb0q:plainId "set.update.loop" = true:=by decide +kernel
section
variable{K:Type}[DecidableEq K]
noncomputable def uniq(ks:List K):List K:=ks.foldl ins []
def qc3q(ks:List K)(k:K):uniq (ks ++ [k])=ins (uniq ks) k:=by unfold uniq;rw [List.foldl_append];rfl
def ins_le(ks:List K)(k:K):(ins ks k).length <= ks.length + 1:=by
 unfold ins;split
 ·omega
 ·rw [length_append];exact le_refl _
def uniq_go(ks:List K):∀ l:List K,(ks.foldl ins l).length <= l.length + ks.length:=by
 induction ks with
 | nil=>intro l;exact le_refl _
 | cons k r ih =>
  intro l;have h1:=ih (ins l k);have h2:=ins_le l k;rw [List.foldl_cons,length_cons];omega
def qa8z(ks:List K):(uniq ks).length <= ks.length:=by
 have:=uniq_go ks [];simpa [uniq] using this
def mem_ins{ks:List K}{k j:K}:j ∈ ins ks k ↔ j ∈ ks ∨ j=k:=by
 unfold ins;split
 ·rename_i h
  exact⟨.inl,fun q=>q.elim id (fun e=>e ▸ h)⟩
 ·rw [mem_append,mem_singleton]
def qc3r{ks:List K}(h:ks.Nodup)(k:K):(ins ks k).Nodup:=by
 unfold ins;split
 ·exact h
 ·rename_i hk
  rw [List.nodup_append];refine⟨h,List.pairwise_singleton _ k,fun a ha b hb=>?_⟩;rw [mem_singleton] at hb;subst hb;exact fun e=>hk (e ▸ ha)
def mem_go(ks:List K):∀ (l:List K) (j:K),j ∈ ks.foldl ins l ↔ j ∈ l ∨ j ∈ ks:=by
 induction ks with
 | nil=>intro l j;simp
 | cons k r ih=>intro l j;rw [List.foldl_cons,ih,mem_ins,mem_cons,or_assoc]
def qa7w{ks:List K}{j:K}:j ∈ uniq ks ↔ j ∈ ks:=by unfold uniq;rw [mem_go];simp
def qc5m(ks:List K):∀ l:List K,l.Nodup->(ks.foldl ins l).Nodup:=by
 induction ks with
 | nil=>intro l h;exact h
 | cons k r ih=>intro l h;exact ih _ (qc3r h k)
def qa5j(ks:List K):(uniq ks).Nodup:=qc5m ks [] List.Pairwise.nil
end
section
variable{prog:Program}{w:World}{K:Type}[DecidableEq K]{knd:KeyKind prog w K}{dec:Value->K}{A:Around}{R:Result->Shared->Prop}{I:Addr}{fp wr:List Addr}{G:Array GenState->Array GenState->Prop}{St:Nat->Shared->Prop}{items:Array Value}{ks:List K}
def SetV.move{h h':Heap}{a:Addr}(x:SetV knd dec h a ks)(e:∀ o,h.get? a=some o->h'.get? a=some o):SetV knd dec h' a ks:=by
 obtain⟨es,ep,t,ho,F⟩:=x;exact⟨es,ep,t,e _ ho,F⟩
def qc5n(hdec:∀ k v,knd.is k v=true->dec v=k)(W:WalksS prog w A.in1 I fp wr G items.size (fun i v=>items[i]? = some v) St)(D:Addr)(hDf:D ∉ fp)(hl:items.size < 4000)(hks:∀ (i:Nat) (v:Value),items[i]? = some v->∃ k,ks[i]? = some k/\knd.is k v=true/\v.scannable=true) :
  ∀ (m i:Nat) (s:Shared),items.size - i=m->i <= items.size->St i s->SetV knd dec s.heap D (uniq (ks.take i)) ->
   (∀ s',Moved (D :: wr) G s s'->SetV knd dec s'.heap D (uniq (ks.take items.size))->R (.ok (.ret .none)) s') ->
   codeAny (model prog w) A (.builtin "set.update.loop" ⟨[.ref D,.ref I],[]⟩) R s:=by
 have hDw:D ∉ wr:=fun h=>hDf (W.sub _ h);have up:∀ b ∈ wr,b ∈ D :: wr:=fun b hb=>mem_cons_of_mem _ hb;intro m;induction m with
 | zero =>
  intro i s hm hi st sv fin;have hin:i=items.size:=by omega
  subst hin;refine codeAny_builtin qb4w ?_;rw [Around.under_plainId qb0q _];show wpAny _ A.in1 (pyNext (.ref I) >>= _) _ _ s;refine wpAny_bind (W.done s _ _ st fun s' mv=>?_);exact wpAny_pure (fin s' (mv.mono up) (sv.move fun o e=>mv.heap D _ hDw e))
 | succ m ih =>
  intro i s hm hi st sv fin;have hlt:i < items.size:=by omega
  refine codeAny_builtin qb4w ?_;rw [Around.under_plainId qb0q _];show wpAny _ A.in1 (pyNext (.ref I) >>= _) _ _ s;refine wpAny_bind (W.item i s _ _ hlt st fun v s' hv st' mv=>?_);obtain⟨k,hk,hi1,hi2⟩:=hks i v hv;have sv':=sv.move (h':=s'.heap) fun o e=>mv.heap D _ hDw e;have hsz:(uniq (ks.take i)).length + 1 < scanBound:=by
   have h1:=qa8z (ks.take i);have h2:=List.length_take_le i ks;have h3:scanBound=4096:=rfl;omega
  show wpAny _ A.in1 (holding [v] (setAdd D v) >>= _) _ _ s';refine wpAny_bind (wpAny_holding (add_v hdec hi1 hi2 sv' hsz fun b h' hs sv2=>?_));have e1:uniq (ks.take (i + 1))=ins (uniq (ks.take i)) k:=by
   rw [take_add_one,hk,toList_some,qc3q]
  refine wpAny_pure ⟨plainId_quiet qb0q _,ih (i + 1) _ 'o' hlt (W.frame _ s' _ _ st' (le_succ _) fun b hb o e=>?_) (by rw [e1];exact sv2) fun s2 mv2 sv3=>?_⟩
  ·rw [hs.2 b (fun h:b=D=>hDf (by rw [← h];exact hb))];exact e
  ·refine fin s2 (Moved.trans W.gtrans ((mv.mono up).then_heap (le_succ _) fun b o hb e=>?_) mv2) sv3
   rw [hs.2 b (fun h:b=D=>hb (by rw [h];exact mem_cons_self))];exact e
end
def tc_set(x:Value):checkTypeCall "set" ⟨[x],[]⟩=pure ():=by kernel_rfl
def nc_set(x:Value):checkBuiltinCall "set.__new__" ⟨[.type "set",x],[]⟩=pure ():=by kernel_rfl
def qb6h:isSubtype (.type "list") (.type "set")=pure false:=by rw [isSubtype_type];kernel_rfl
def qb8r:isSubtype (.type "list") (.type "frozenset")=pure false:=by rw [isSubtype_type];kernel_rfl
def qb8s:isSubtype (.type "tuple") (.type "set")=pure false:=by rw [isSubtype_type];kernel_rfl
def qc1p:isSubtype (.type "tuple") (.type "frozenset")=pure false:=by rw [isSubtype_type];kernel_rfl
section
variable{prog:Program}{w:World}{A:Around}{E:Value->Shared->Prop}{s:Shared}
abbrev newO(w:World):Obj:=setO #[] 0 (.fresh 0 0 (!w.params.followText "set-order"))
def new_v(x:Value){Q₁:Value->Shared->Prop}(h:Q₁ (.ref s.heap.objs.size) { s with heap:=s.heap.push (newO w) }) :
  codeAny (model prog w) A (.call (.builtin "set.__new__") ⟨[.type "set",x],[]⟩) (wants Q₁ E) s:=by
 refine codeAny_call_builtin F.plain_set_new F.entry_set_new (wpAny_of_eq (nc_set x) ?_);unfold Builtin.«set.__new__» Builtin.Frozenset.newClass;have hsub:=sub_set_self;obtain⟨hp,g,d,tk,os⟩:=s
 dsimp only
 wp_walk
 refine wpAny_askSetting (wpAny_pure ?_);dsimp only;simp only [newObj];exact wpAny_bind (wpAny_alloc (wpAny_pure (wpAny_pure h)))
def check_v{M:Model}{self x:Value}{Q:Unit->Shared->Prop} (hT:s.TypeIs self "set") (hQ:Q () s):wpAny M A (checkBuiltinCall "set.__init__" ⟨[self,x],[]⟩) Q E s:=by
 simp only [kind_set_init,checkBuiltinCall,split_set_init,sig_set_init];refine wpAny_bind (wpAny_isInstance hT sub_set_self ?_);simp only [false_eq_true,Bool.not_true,if_false];unfold Bind.checkArgs
 dsimp only
 refine wpAny_bind (m:=Bind.printed "set" true _ _) (PyProof.Rows.printed_name 'd' (wpAny_bind (m:=Bind.printed "*" false _ _) (PyProof.Rows.printed_star (self:=self) rfl hT fun short=>?_)));have r0:(Manifest.Receiver.self == Manifest.Receiver.none)=false:=by decide
 have n1:(if (Manifest.Receiver.self == Manifest.Receiver.none)=true then [self,x].length else [self,x].length - 1)=1:=by simp [r0]
 rw [n1,map_nil];have hc:Bind.check ⟨.positional,"set","*",.self,[⟨"iterable",.posOnly,false⟩]⟩ "set" short 1 []=pure ():=by
  simp [Bind.checkCount,Bind.check,Bind.isPositional];intro q;exact absurd q 'd'
 rw [hc];exact wpAny_pure hQ
def call_v{K:Type}[DecidableEq K]{knd:KeyKind prog w K}{dec:Value->K}{l:Addr}{items:Array Value}{ks:List K}{Q:Value->Shared->Prop}(hdec:∀ k v,knd.is k v=true->dec v=k)(hh:A.handled=none)(hq:s.heap.IsList l items ∨ s.heap.IsTuple l items)(hl:items.size < 4000)(hlen:ks.length=items.size)
  (hks:∀ (i:Nat) (v:Value),items[i]? = some v->∃ k,ks[i]? = some k/\knd.is k v=true/\v.scannable=true)
  (h:∀ h' tk,SetV knd dec h' s.heap.objs.size (uniq ks)->(∀ b o,s.heap.get? b=some o->h'.get? b=some o)->Q (.ref s.heap.objs.size) { s with heap:=h',toks:=tk }) :
  wpAny (model prog w) A (call (.type "set") [.ref l]) Q E s:=by
 obtain⟨c,tl,hmro⟩:=F.called_set.mro;have hsub:=F.called_set.sub;have hmade:=F.called_set.made;refine wpAny_call (codeAny_of_tree ?_);show wpAny _ _ (callAny (.type "set") _) _ _ _;refine wpAny_pure ⟨Code.quiet_builtin _ 'k',codeAny_builtin F.entry_type_call ?_⟩;rw [Around.under_plain (weight_type_call_type "set" [.ref l] []) rfl];have h1:=F.called_set.notType;have h2:=F.called_set.canCreate;have hct:=tc_set (.ref l)
 repeat (any_goals (first | assumption | wp_step))
 refine codeAny_mono (new_v (E:=E) (.ref l) (Q₁:=fun obj s₁=>obj=.ref s.heap.objs.size/\s₁={ s with heap:=s.heap.push (newO w) }) ⟨rfl,rfl⟩) fun r s₁ hr=>?_;cases r with
 | error e=>exact hr
 | ok fl =>
  cases fl with
  | ret obj =>
   obtain⟨rfl,rfl⟩:=hr;have hS:(s.heap.push (newO w)).get? s.heap.objs.size=some (newO w):=get?_push_size _ rfl;have sv:SetV knd dec (s.heap.push (newO w)) s.heap.objs.size ([]:List K):=⟨_,_,_,hS,⟨fun e he=>by simp at he,by simp,List.Pairwise.nil,'d',rfl,qc3m _ _ _,rfl⟩⟩;have hT:Shared.TypeIs { s with heap:=s.heap.push (newO w) } (.ref s.heap.objs.size) "set":=⟨_,hS,rfl⟩;have hli:=F.called_set.init.lookup;have hbi:=F.called_set.init.bind (.ref s.heap.objs.size)
   repeat (any_goals (first | assumption | wp_step))
   refine codeAny_mono (codeAny_call_builtin (R:=wants (fun r s₂=>r=.none/\Q (.ref s.heap.objs.size) s₂) E) F.called_set.init.plain F.entry_set_init (check_v hT ?_)) fun r₂ s₂ hr₂=>?_
   ·unfold Builtin.«set.__init__» noKeywords
    obtain⟨T,hTl,n1,n2,n3⟩:∃ T,Shared.TypeIs { s with heap:=s.heap.push (newO w) } (.ref l) T/\isSubtype (.type T) (.type "set")=pure false/\isSubtype (.type T) (.type "frozenset")=pure false/\(Value.type T == Value.type "dict")=false:=by
     rcases hq with hq | hq
     ·exact⟨"list",(hq.push _).typeIs,qb6h,qb8r,'d'⟩
     ·exact⟨"tuple",(hq.push _).typeIs,qb8s,qc1p,'d'⟩
    have hS':Heap.get? (Shared.heap { s with heap:=s.heap.push (newO w) }) s.heap.objs.size=some (newO w):=hS;have hlt:l < s.heap.objs.size:=by rcases hq with⟨o,ho,_⟩ | ⟨o,ho,_⟩<;>exact lt_size ho
    have hI:(s.heap.push (newO w)).objs.size=s.heap.objs.size + 1:=size_push ..;have PI:∀ (Q':Value->Shared->Prop) (E':Value->Shared->Prop),(∀ (o:Obj) (St:Nat->Shared->Prop),WalksS prog w A.in1.in1.in1 (s.heap.objs.size + 1) [s.heap.objs.size + 1,l] [s.heap.objs.size + 1] (fun a b=>b=a) items.size (fun i v=>items[i]? = some v) St->St 0 { s with heap:=(s.heap.push (newO w)).push o }->Q' (.ref (s.heap.objs.size + 1)) { s with heap:=(s.heap.push (newO w)).push o }) ->
      wpAny (model prog w) A.in1.in1 (pyIter (.ref l)) Q' E' { s with heap:=s.heap.push (newO w) }:=by
     intro Q' E' k;have hne:l ≠ s.heap.objs.size + 1:=ne_of_lt (lt_succ_of_lt hlt);rcases hq with hq | hq
     ·refine wpAny_pyIter_list (hq.push _) ?_
      rw [show Shared.heap { s with heap:=s.heap.push (newO w) }=s.heap.push (newO w) from rfl,hI];exact k _ _ ((Walks.list (A:=A.in1.in1.in1) (by simp [hh]) _ l hne items).toS) ⟨⟨_,by rw [← hI];exact get?_push_size _ rfl,rfl,rfl⟩,(hq.push _).push _⟩
     ·refine wpAny_pyIter_tuple (hq.push _) ?_
      rw [show Shared.heap { s with heap:=s.heap.push (newO w) }=s.heap.push (newO w) from rfl,hI];exact k _ _ ((Walks.tuple (A:=A.in1.in1.in1) (by simp [hh]) _ l hne items).toS) ⟨⟨_,by rw [← hI];exact get?_push_size _ rfl,rfl,rfl⟩,(hq.push _).push _⟩
    repeat (any_goals (first | assumption | ((with_reducible show wpAny _ _ (pyIter (Value.ref l)) _ _ _);refine PI _ _ fun o St W st=>?_) | ((with_reducible show wpAny _ _ (runValue _) _ _ _);refine wpAny_runValue ?_) | wp_step))
    have hDf:s.heap.objs.size ∉ [s.heap.objs.size + 1,l]:=by
     simp only [mem_cons,not_mem_nil,or_false,not_or];exact⟨ne_of_lt (lt_succ_self _),ne_of_gt hlt⟩
    refine qc5n hdec W s.heap.objs.size hDf hl hks items.size 0 _ 'o' (zero_le _) st (sv.move fun o e=>get?_push_of_some _ e) fun s' mv sv'=>?_;refine wpAny_pure (wpAny_pure ⟨rfl,?_⟩);rw [← hlen,take_length] at sv';have hk:=h s'.heap s'.toks sv' fun b o e=>mv.heap b o (fun hm=>?_) (get?_push_of_some _ (get?_push_of_some _ e))
    ·have eg:s'.gens=s.gens:=mv.gens
     have ed:s'.drawn=s.drawn:=mv.drawn;have eo:s'.os=s.os:=mv.os;cases s';dsimp only at eg ed eo hk;subst eg ed eo;exact hk
    ·have:=lt_size e
     rcases mem_cons.mp hm with q | q
     ·exact absurd this (by rw [q];exact lt_irrefl _)
     ·rw [mem_singleton] at q
      exact absurd this (by rw [q];exact not_lt.mpr (le_succ _))
   ·cases r₂ with
    | error e=>exact hr₂
    | ok fl₂ =>
     cases fl₂ with
     | ret r =>
      obtain⟨rfl,hq⟩:=hr₂
      repeat (any_goals (first | assumption | wp_step))
     | _=>exact hr₂.elim
  | _=>exact hr.elim
end
end Sx
end
section
namespace Sx
open PySem
def qb2j{α:Type}:∀ {l:List α} {i:Nat} {x:α},l[i]? = some x->(x :: l.eraseIdx i).Perm l
 | [],i,x,h=>by simp at h
 | a :: r,0,x,h=>by
  simp at h
  subst h;exact List.Perm.refl _
 | a :: r,i + 1,x,h=>by
  have h':r[i]? = some x:=by simpa using h
  exact(List.Perm.swap a x _).trans (List.Perm.cons a (qb2j h'))
def pick_go{α:Type}(f:Nat->Nat):∀ (n k:Nat) (l:List α) (out:Array α),l.length=n->(pickOrder.go f n k l out).toList.Perm (out.toList ++ l):=by
 intro n;induction n with
 | zero =>
  intro k l out h;have e:l=[]:=eq_nil_of_length_eq_zero h;subst e;unfold pickOrder.go;simp
 | succ n ih =>
  intro k l out h;unfold pickOrder.go;have hm:f k % l.length < l.length:=Nat.mod_lt _ 'o';have he:l[f k % l.length]? = some l[f k % l.length]:=getElem?_eq_getElem hm;rw [he]
  dsimp only
  refine(ih (k + 1) _ _ (by rw [List.length_eraseIdx_of_lt hm];omega)).trans ?_;rw [toList_push,List.append_assoc];exact(qb2j he).append_left out.toList
def qb0r{α:Type}(f:Nat->Nat)(xs:Array α):(pickOrder f xs).toList.Perm xs.toList:=by
 have:=pick_go f xs.size 0 xs.toList #[] 'e';simpa [pickOrder] using this
section
variable{M:Model}{A:Around}{E:Value->Shared->Prop}{s:Shared}
def qc1q{src:Source}{n:Nat}{Q:Nat->Shared->Prop}(hn:n ≠ 0)(h:∀ i d,i < n->Q i { s with drawn:=d }):wpAny M A (choose src n) Q E s:=
 fun Γ p hΓ=>⟨hn,h _ _ (Nat.mod_lt _ (Nat.pos_of_ne_zero hn))⟩
def qc5o{α:Type}:∀ (n:Nat) (l:List α) (s:Shared) {Q:List α->Shared->Prop},l.length=n->(∀ o d,o.Perm l->Q o { s with drawn:=d })->wpAny M A (drawOrder n l) Q E s:=by
 intro n;induction n with
 | zero =>
  intro l s Q hl h;have e:l=[]:=eq_nil_of_length_eq_zero hl;subst e;unfold drawOrder;exact wpAny_pure (h [] s.drawn (List.Perm.refl _))
 | succ n ih =>
  intro l s Q hl h;cases l with
  | nil=>cases hl
  | cons a r =>
   unfold drawOrder;refine wpAny_bind (qc1q 'e' fun i d hi=>?_);have he:(a :: r)[i]? = some (a :: r)[i]:=getElem?_eq_getElem hi;rw [he];refine wpAny_bind (ih _ _ (by rw [List.length_eraseIdx_of_lt hi];omega) fun o d' hp=>?_);exact wpAny_pure (h _ d' ((List.Perm.cons _ hp).trans (qb2j he)))
end
abbrev itO(first:Value)(i:Nat)(S:Addr)(n ep:Nat):Obj:={ cls:=.type "set_iterator",dict:=none,data:=.fields #[first,rawInt ((i:Nat):Int),.ref S,rawInt ((n:Nat):Int),rawInt ((ep:Nat):Int)],slots:=#[] }
def slot_next:Slot "set_iterator" "__next__" "set_iterator.__next__":=
 .of (n:="__next__") (owner:="set_iterator") (by rw [typeLookup_type,builtinLookup_eq_fast];kernel_rfl) 'k' 'k' 'k' (by first | exact .inl 'k' | exact .inr 'k') (by rw [isSubtype_type];kernel_rfl)
def entry_next:entryFor table "set_iterator.__next__" = some Builtin.«set_iterator.__next__»:=entryFor_of_tree (by kernel_rfl)
def args_next(a:Value):argsOk "set_iterator.__next__" ⟨[a],[]⟩:=by unfold argsOk;kernel_rfl
def qb4x:Slot "set_iterator" "__iter__" "set_iterator.__iter__":=
 .of (n:="__iter__") (owner:="set_iterator") (by rw [typeLookup_type,builtinLookup_eq_fast];kernel_rfl) 'k' 'k' 'k' (by first | exact .inl 'k' | exact .inr 'k') (by rw [isSubtype_type];kernel_rfl)
def qc1r:entryFor table "set_iterator.__iter__" = some Builtin.«dict_keyiterator.__iter__»:=
 entryFor_alias (id':="dict_keyiterator.__iter__") (by kernel_rfl) rfl 'k' (by kernel_rfl)
def qc3s(a:Value):argsOk "set_iterator.__iter__" ⟨[a],[]⟩:=by unfold argsOk;kernel_rfl
def qb6i:entryFor table "set.__iter__" = some Builtin.«frozenset.__iter__»:=
 entryFor_alias (id':="frozenset.__iter__") (by kernel_rfl) rfl 'k' (by kernel_rfl)
section
variable{prog:Program}{w:World}{A:Around}{E:Value->Shared->Prop}{s:Shared}{I S:Addr}{es:Array 'p'}{ep i n:Nat}{t:SetTable}{first:Value}
def qa6y{Q:Bool->Shared->Prop} (h:Q (w.params.followText "set-order") s):wpAny (model prog w) A setsByText Q E s:=wpAny_bind (wpAny_askSetting (wpAny_pure h))
def qb2y(ho:s.heap.get? S=some (setO es ep t))(hf:t.fits es.size=true) (hb:w.params.followText "set-order" = true) {slot:Nat} {Q:Option (Value × Nat)->Shared->Prop} (h:Q (((pickOrder (w.params.setOrder S ep) es)[i]?).map fun e=>(e.2,slot)) s):wpAny (model prog w) A (setNext S slot i ep) Q E s:=by
 unfold setNext;refine wpAny_bind (wpAny_setState_of ho rfl hf ?_)
 dsimp only
 refine wpAny_bind (qa6y ?_);rw [hb,if_pos rfl];rw [if_neg (show ¬ ((ep != ep)=true) by simp)];refine wpAny_bind ?_;unfold setWalk;refine wpAny_bind (wpAny_setState_of ho rfl hf ?_)
 dsimp only
 refine wpAny_bind (qa6y ?_);rw [hb,if_pos rfl];exact wpAny_bind (wpAny_askSetting (wpAny_pure (wpAny_pure h)))
def qb1y(ho:s.heap.get? S=some (setO es ep t))(hf:t.fits es.size=true) (hb:w.params.followText "set-order" = false) (hl:t.led=true) (hd:(!t.plain && decide (es.size > 1))=false) {slot:Nat} {Q:Option (Value × Nat)->Shared->Prop} (h:Q (match es[SetTable.below t.place slot]?,t.place[SetTable.below t.place slot]? with | some (_,x),some j=>some (x,j + 1) | _,_=>none) s):wpAny (model prog w) A (setNext S slot i ep) Q E s:=by
 unfold setNext;refine wpAny_bind (wpAny_setState_of ho rfl hf ?_)
 dsimp only
 refine wpAny_bind (qa6y ?_);rw [hb,if_neg Bool.false_ne_true];split
 ·rename_i q
  have q':(!t.plain && decide (es.size > 1))=true:=q;rw [hd] at q';cases q'
 ·refine wpAny_bind ?_
  show wpAny _ _ (if (!t.led && !es.isEmpty)=true then _ else _) _ _ _;rw [if_neg (by rw [hl];simp)];exact wpAny_pure (wpAny_pure h)
def qb6j{f nx:Nat}{x:Value}{Q:Option Value->Shared->Prop}(hi:s.heap.get? I=some (itO (rawInt ((f:Nat):Int)) i S es.size ep))(ho:s.heap.get? S=some (setO es ep t))(hf:t.fits es.size=true)
  (hN:∀ {A':Around} {E':Value->Shared->Prop} {Q':Option (Value × Nat)->Shared->Prop},Q' (some (x,nx)) s->wpAny (model prog w) A' (setNext S f i ep) Q' E' s)
  (hQ:∀ h',h'.get? I=some (itO (rawInt ((nx:Nat):Int)) (i + 1) S es.size ep)->Heap.SameBut I s.heap h'->Q (some x) { s with heap:=h' }):wpAny (model prog w) A (pyNext (.ref I)) Q E s:=by
 have ty:s.TypeIs (.ref I) "set_iterator":=⟨_,hi,rfl⟩;unfold pyNext;refine wpAny_bind (wpAny_attempt (wpAny_callSpecial?_slot (name:=Str.ofString "__next__") ty slot_next (wpAny_call_entry slot_next ty entry_next ?_ (args_next _))));unfold Builtin.«set_iterator.__next__»;refine wpAny_bind (m:=slotArgs _ _ _) (wpAny_pure (wpAny_bind (wpAny_fieldsOf hi rfl ?_)));show wpAny _ _ (setEntries S >>= _) _ _ s;refine wpAny_bind (wpAny_setEntries_of ho rfl hf ?_);rw [if_neg (show ¬ ((((es.size:Nat):Int) != ((es.size:Nat):Int))=true) by simp)];show wpAny _ _ (setNext S (Int.toNat ((f:Nat):Int)) (Int.toNat ((i:Nat):Int)) (Int.toNat ((ep:Nat):Int)) >>= _) _ _ s;rw [toNat_natCast,toNat_natCast,toNat_natCast];refine wpAny_bind (hN ?_);refine wpAny_bind (wpAny_setField_rec hi 'e' fun h1 e1 s1=>?_);refine wpAny_bind (wpAny_setField_rec e1 'e' fun h2 e2 s2=>?_);refine wpAny_pure ⟨_,rfl,wpAny_pure (hQ h2 ?_ (s1.trans s2))⟩;rw [e2];simp [rawInt]
def qb6k{f:Nat}{Q:Option Value->Shared->Prop}(hh:A.handled=none)(hi:s.heap.get? I=some (itO (rawInt ((f:Nat):Int)) i S es.size ep))(ho:s.heap.get? S=some (setO es ep t))(hf:t.fits es.size=true)
  (hN:∀ {A':Around} {E':Value->Shared->Prop} {Q':Option (Value × Nat)->Shared->Prop},Q' none s->wpAny (model prog w) A' (setNext S f i ep) Q' E' s)
  (hQ:∀ h',Heap.ExtBut I s.heap h'->Q none { s with heap:=h' }):wpAny (model prog w) A (pyNext (.ref I)) Q E s:=by
 have ty:s.TypeIs (.ref I) "set_iterator":=⟨_,hi,rfl⟩;unfold pyNext;refine wpAny_bind (wpAny_attempt (wpAny_callSpecial?_slot (name:=Str.ofString "__next__") ty slot_next (wpAny_call_entry slot_next ty entry_next ?_ (args_next _))));unfold Builtin.«set_iterator.__next__»;refine wpAny_bind (m:=slotArgs _ _ _) (wpAny_pure (wpAny_bind (wpAny_fieldsOf hi rfl ?_)));show wpAny _ _ (setEntries S >>= _) _ _ s;refine wpAny_bind (wpAny_setEntries_of ho rfl hf ?_);rw [if_neg (show ¬ ((((es.size:Nat):Int) != ((es.size:Nat):Int))=true) by simp)];show wpAny _ _ (setNext S (Int.toNat ((f:Nat):Int)) (Int.toNat ((i:Nat):Int)) (Int.toNat ((ep:Nat):Int)) >>= _) _ _ s;rw [toNat_natCast,toNat_natCast,toNat_natCast];refine wpAny_bind (hN ?_);refine wpAny_bind (wpAny_setField hi rfl 'e' ?_);show wpAny _ _ (newExc (.type "StopIteration") [] >>= _) _ _ _;refine wpAny_bind ?_;simp only [newTuple,newExc];refine wpAny_bind (wpAny_newObj_type (wpAny_bind (m:=firstArgMember _ _) (wpAny_of_eq (a:=Value.none) (by first | rfl | (simp only [firstArgMember];rfl)) ?_)) (by size_fits));refine wpAny_newObj_type ?_ (by size_fits);simp only [raiseNew];refine wpAny_bind (wpAny_handled ?_);rw [show A.in1.handled=none from hh];refine wpAny_bind (wpAny_pure (wpAny_throw ?_));refine wpAny_bind (wpAny_isInstance (T:="StopIteration") (b:=true) ⟨_,get?_push_size _ rfl,rfl⟩ isSubtype_stop ?_);exact wpAny_pure (hQ _ (((Heap.SameBut.update ..).extBut.push _).push _))
def qc1s{P:Addr}{order:List Nat}{j c:Nat}{x:Value}{hx:Int}{Q:Option Value->Shared->Prop}(hi:s.heap.get? I=some (itO (.ref P) i S es.size ep)) (hP:s.heap.get? P=some ⟨.type "tuple",none,.seq (order.map fun(k:Nat)=>rawInt k).toArray c,#[]⟩) (ho:s.heap.get? S=some (setO es ep t)) (hf:t.fits es.size=true)
  (hj:order[i]? = some j) (he:es[j]? = some (hx,x))
  (hQ:∀ h',h'.get? I=some (itO (.ref P) (i + 1) S es.size ep)->Heap.SameBut I s.heap h'->Q (some x) { s with heap:=h' }):wpAny (model prog w) A (pyNext (.ref I)) Q E s:=by
 have ty:s.TypeIs (.ref I) "set_iterator":=⟨_,hi,rfl⟩;unfold pyNext;refine wpAny_bind (wpAny_attempt (wpAny_callSpecial?_slot (name:=Str.ofString "__next__") ty slot_next (wpAny_call_entry slot_next ty entry_next ?_ (args_next _))));unfold Builtin.«set_iterator.__next__»;refine wpAny_bind (m:=slotArgs _ _ _) (wpAny_pure (wpAny_bind (wpAny_fieldsOf hi rfl ?_)));show wpAny _ _ (setEntries S >>= _) _ _ s;refine wpAny_bind (wpAny_setEntries_of ho rfl hf ?_);rw [if_neg (show ¬ ((((es.size:Nat):Int) != ((es.size:Nat):Int))=true) by simp)];show wpAny _ _ (seqItems? (.ref P) >>= _) _ _ s;refine wpAny_bind (wpAny_seqItems hP rfl ?_);show wpAny _ _ (match (order.map fun(k:Nat)=>rawInt k).toArray[Int.toNat ((i:Nat):Int)]? with | some (.int place _)=>_ | some _=>_ | none=>_) _ _ s;rw [toNat_natCast,getElem?_toArray,getElem?_map,hj];show wpAny _ _ (setNextDrawn S (Int.toNat ((j:Nat):Int)) (Int.toNat ((ep:Nat):Int)) >>= _) _ _ s;rw [toNat_natCast,toNat_natCast];unfold setNextDrawn;refine wpAny_bind (wpAny_bind (wpAny_setState_of ho rfl hf ?_))
 dsimp only
 rw [if_neg (show ¬ ((ep != ep)=true) by simp),he];refine wpAny_pure (wpAny_bind (wpAny_setField_rec hi 'e' fun h2 e2 s2=>?_));refine wpAny_pure ⟨_,rfl,wpAny_pure (hQ h2 ?_ s2)⟩;rw [e2];simp [rawInt]
def qc1t{P:Addr}{order:List Nat}{c:Nat}{Q:Option Value->Shared->Prop}(hh:A.handled=none)(hi:s.heap.get? I=some (itO (.ref P) i S es.size ep)) (hP:s.heap.get? P=some ⟨.type "tuple",none,.seq (order.map fun(k:Nat)=>rawInt k).toArray c,#[]⟩) (ho:s.heap.get? S=some (setO es ep t)) (hf:t.fits es.size=true)
  (hj:order[i]? = none)
  (hQ:∀ h',Heap.ExtBut I s.heap h'->Q none { s with heap:=h' }):wpAny (model prog w) A (pyNext (.ref I)) Q E s:=by
 have ty:s.TypeIs (.ref I) "set_iterator":=⟨_,hi,rfl⟩;unfold pyNext;refine wpAny_bind (wpAny_attempt (wpAny_callSpecial?_slot (name:=Str.ofString "__next__") ty slot_next (wpAny_call_entry slot_next ty entry_next ?_ (args_next _))));unfold Builtin.«set_iterator.__next__»;refine wpAny_bind (m:=slotArgs _ _ _) (wpAny_pure (wpAny_bind (wpAny_fieldsOf hi rfl ?_)));show wpAny _ _ (setEntries S >>= _) _ _ s;refine wpAny_bind (wpAny_setEntries_of ho rfl hf ?_);rw [if_neg (show ¬ ((((es.size:Nat):Int) != ((es.size:Nat):Int))=true) by simp)];show wpAny _ _ (seqItems? (.ref P) >>= _) _ _ s;refine wpAny_bind (wpAny_seqItems hP rfl ?_);show wpAny _ _ (match (order.map fun(k:Nat)=>rawInt k).toArray[Int.toNat ((i:Nat):Int)]? with | some (.int place _)=>_ | some _=>_ | none=>_) _ _ s;rw [toNat_natCast,getElem?_toArray,getElem?_map,hj];refine wpAny_bind (wpAny_setField_rec hi 'e' fun h1 e1 s1=>?_);refine wpAny_bind (wpAny_setField e1 rfl 'e' ?_);show wpAny _ _ (newExc (.type "StopIteration") [] >>= _) _ _ _;refine wpAny_bind ?_;simp only [newTuple,newExc];refine wpAny_bind (wpAny_newObj_type (wpAny_bind (m:=firstArgMember _ _) (wpAny_of_eq (a:=Value.none) (by first | rfl | (simp only [firstArgMember];rfl)) ?_)) (by size_fits));refine wpAny_newObj_type ?_ (by size_fits);simp only [raiseNew];refine wpAny_bind (wpAny_handled ?_);rw [show A.in1.handled=none from hh];refine wpAny_bind (wpAny_pure (wpAny_throw ?_));refine wpAny_bind (wpAny_isInstance (T:="StopIteration") (b:=true) ⟨_,get?_push_size _ rfl,rfl⟩ isSubtype_stop ?_);exact wpAny_pure (hQ _ (((s1.trans (Heap.SameBut.update ..)).extBut.push _).push _))
def qb2k{Q:Value->Shared->Prop}(hi:s.heap.get? I=some (itO first i S n ep))(h:Q (.ref I) s):wpAny (model prog w) A (pyIter (.ref I)) Q E s:=by
 have ty:s.TypeIs (.ref I) "set_iterator":=⟨_,hi,rfl⟩;refine wpAny_pyIter_slot ty qb4x (wpAny_call_entry qb4x ty qc1r ?_ (qc3s _));show wpAny _ _ (ret (.ref I)) _ _ s;exact wpAny_pure ⟨_,rfl,"set_iterator",_,ty,slot_next.lookup,h⟩
end
end Sx
end
section
namespace Sx
open PySem
noncomputable def slotAt(pl:Array Nat):Nat->Nat
 | 0=>0
 | i + 1=>pl.getD i 0 + 1
def qb2z{pl:Array Nat}(up:Up pl){i:Nat}(h:i <= pl.size):SetTable.below pl (slotAt pl i)=i:=by
 cases i with
 | zero=>exact qc1l up
 | succ i =>
  have hi:i < pl.size:=by omega
  show SetTable.below pl (pl.getD i 0 + 1)=i + 1;rw [getD_eq_getD_getElem?,Array.getElem?_eq_getElem hi];exact qc1k up hi
section
variable{prog:Program}{w:World}{A:Around}{I S:Addr}{es:Array 'p'}{ep:Nat}{t:SetTable}
def w_text(hh:A.handled=none)(hne:S ≠ I)(hf:t.fits es.size=true) (hb:w.params.followText "set-order" = true) :
  Walks prog w A I [I,S] [I] es.size (fun i v=>((pickOrder (w.params.setOrder S ep) es).toList.map (·.2))[i]? = some v) (fun i h=>h.get? I=some (itO (rawInt (((0:Nat):Nat):Int)) i S es.size ep)/\h.get? S=some (setO es ep t)):=by
 have sz:(pickOrder (w.params.setOrder S ep) es).size=es.size:=by rw [← length_toList,(qb0r _ es).length_eq,length_toList]
 refine⟨fun b hb=>by simp at hb;simp [hb],fun i h h' st k=>⟨k I 'e' _ st.1,k S 'e' _ st.2⟩,fun i s Q E hi st hQ=>?_,fun s Q E st hQ=>?_,fun i s Q E st hQ=>qb2k st.1 hQ⟩
 ·have hlt:i < (pickOrder (w.params.setOrder S ep) es).size:=by omega
  refine qb6j (nx:=0) (x:=((pickOrder (w.params.setOrder S ep) es)[i]).2) st.1 st.2 hf (fun{A' E' Q'} q=>qb2y st.2 hf hb (by rw [Array.getElem?_eq_getElem hlt];exact q)) fun h' j1 j2=>?_;exact hQ _ h' s.toks (by rw [getElem?_map,getElem?_toList,Array.getElem?_eq_getElem hlt];rfl) ⟨j1,j2.extBut _ _ hne st.2⟩ fun b o hb e=>j2.extBut b o (fun h=>hb (by simp [h])) e
 ·refine qb6k hh st.1 st.2 hf (fun{A' E' Q'} q=>qb2y st.2 hf hb (by rw [getElem?_eq_none 'o'];exact q)) fun h' j=>?_
  exact hQ h' s.toks fun b o hb e=>j b o (fun h=>hb (by simp [h])) e
def w_place(hh:A.handled=none)(hne:S ≠ I)(hf:t.fits es.size=true)(ok:TOk t) (hb:w.params.followText "set-order" = false) (hl:t.led=true) (hd:(!t.plain && decide (es.size > 1))=false) :
  Walks prog w A I [I,S] [I] es.size (fun i v=>(es.toList.map (·.2))[i]? = some v) (fun i h=>h.get? I=some (itO (rawInt ((slotAt t.place i:Nat):Int)) i S es.size ep)/\h.get? S=some (setO es ep t)):=by
 have sz:t.place.size=es.size:=by
  unfold SetTable.fits at hf;simp at hf;exact hf.1
 have up:=up_of ok.up;refine⟨fun b hb=>by simp at hb;simp [hb],fun i h h' st k=>⟨k I 'e' _ st.1,k S 'e' _ st.2⟩,fun i s Q E hi st hQ=>?_,fun s Q E st hQ=>?_,fun i s Q E st hQ=>qb2k st.1 hQ⟩
 ·have hp:i < t.place.size:=by omega
  refine qb6j (nx:=slotAt t.place (i + 1)) (x:=(es[i]).2) st.1 st.2 hf (fun{A' E' Q'} q=>qb1y st.2 hf hb hl hd ?_) fun h' j1 j2=>?_
  ·rw [qb2z up 'o',Array.getElem?_eq_getElem hi,Array.getElem?_eq_getElem hp]
   have e:slotAt t.place (i + 1)=t.place[i] + 1:=by
    show t.place.getD i 0 + 1=_;rw [getD_eq_getD_getElem?,Array.getElem?_eq_getElem hp];rfl
   rw [e] at q;exact q
  ·exact hQ _ h' s.toks (by rw [getElem?_map,getElem?_toList,Array.getElem?_eq_getElem hi];rfl) ⟨j1,j2.extBut _ _ hne st.2⟩ fun b o hb e=>j2.extBut b o (fun h=>hb (by simp [h])) e
 ·refine qb6k hh st.1 st.2 hf (fun{A' E' Q'} q=>qb1y st.2 hf hb hl hd ?_) fun h' j=>?_
  ·rw [qb2z up 'o',getElem?_eq_none 'o']
   exact q
  ·exact hQ h' s.toks fun b o hb e=>j b o (fun h=>hb (by simp [h])) e
noncomputable def valAt(es:Array 'p')(k:Nat):Value:=((es[k]?).map (·.2)).getD .none
def qc1u(es:Array 'p'):(List.range es.size).map (valAt es)=es.toList.map (·.2):=by
 apply List.ext_getElem
 ·simp
 ·intro i h1 h2
  simp at h1
  simp [valAt,h1]
def w_drawn{P:Addr}{order:List Nat}{c:Nat}(hh:A.handled=none)(hne:S ≠ I)(hnP:P ≠ I)(hf:t.fits es.size=true)(ho:order.Perm (List.range es.size)) :
  Walks prog w A I [I,S,P] [I] es.size (fun i v=>(order.map (valAt es))[i]? = some v) (fun i h=>h.get? I=some (itO (.ref P) i S es.size ep)/\h.get? S=some (setO es ep t)/\h.get? P=some ⟨.type "tuple",none,.seq (order.map fun(k:Nat)=>rawInt k).toArray c,#[]⟩):=by
 have sz:order.length=es.size:=by rw [ho.length_eq,length_range]
 refine⟨fun b hb=>by simp at hb;simp [hb],fun i h h' st k=>⟨k I 'e' _ st.1,k S 'e' _ st.2.1,k P 'e' _ st.2.2⟩,fun i s Q E hi st hQ=>?_,fun s Q E st hQ=>?_,fun i s Q E st hQ=>qb2k st.1 hQ⟩
 ·have hp:i < order.length:=by omega
  have hj:order[i] < es.size:=by
   have:=ho.mem_iff.mp (getElem_mem hp);simpa using this
  refine qc1s (j:=order[i]) (hx:=(es[order[i]]).1) (x:=(es[order[i]]).2) st.1 st.2.2 st.2.1 hf (getElem?_eq_getElem hp) (Array.getElem?_eq_getElem hj) fun h' j1 j2=>?_;refine hQ _ h' s.toks ?_ ⟨j1,j2.extBut _ _ hne st.2.1,j2.extBut _ _ hnP st.2.2⟩ fun b o hb e=>j2.extBut b o (fun h=>hb (by simp [h])) e;rw [getElem?_map,getElem?_eq_getElem hp];simp [valAt,hj]
 ·refine qc1t hh st.1 st.2.2 st.2.1 hf (List.getElem?_eq_none 'o') fun h' j=>?_
  exact hQ h' s.toks fun b o hb e=>j b o (fun h=>hb (by simp [h])) e
end
section
variable{prog:Program}{w:World}{A:Around}{E:Value->Shared->Prop}{s:Shared}{S:Addr}{es:Array 'p'}{ep:Nat}{t:SetTable}
def qc5p(ho:s.heap.get? S=some (setO es ep t))(hf:t.fits es.size=true)(ok:TOk t) (hl:t.led = !w.params.followText "set-order") (hz:es.size <= 4096) {Q:Value->Shared->Prop}
  (h:∀ (s':Shared) (I:Addr) (fp:List Addr) (out:List Value) (St:Nat->Heap->Prop),out.Perm (es.toList.map (·.2))->out.length=es.size->I ∈ fp->(∀ b ∈ fp,b=S ∨ s.heap.objs.size <= b)->(∀ b ∈ fp,b < s'.heap.objs.size)->s.heap.objs.size <= I ->
   (∀ A':Around,A'.handled=none->Walks prog w A' I fp [I] es.size (fun i v=>out[i]? = some v) St)->St 0 s'.heap->(∀ b o,s.heap.get? b=some o->s'.heap.get? b=some o)->s'.gens=s.gens->s'.os=s.os->s'.toks=s.toks->Q (.ref I) s') :
  wpAny (model prog w) A (pyIter (.ref S)) Q E s:=by
 have ty:s.TypeIs (.ref S) "set":=⟨_,ho,rfl⟩;have hlt:=lt_size ho;refine wpAny_pyIter_slot ty F.slot_set_iter (wpAny_call_entry F.slot_set_iter ty qb6i ?_ (F.args_set_iter_1 _));unfold Builtin.«frozenset.__iter__»;refine wpAny_bind (m:=Builtin.Frozenset.slot0 _ _) (wpAny_pure (wpAny_bind (m:=Builtin.Frozenset.sizeOf S) (wpAny_bind (wpAny_setEntries_of ho rfl hf (wpAny_pure ?_)))));refine wpAny_bind (m:=setDrawn S) ?_;unfold setDrawn;refine wpAny_bind (wpAny_setState_of ho rfl hf ?_);refine wpAny_bind (qa6y ?_);show wpAny _ _ (pure (!w.params.followText "set-order" && (!t.plain && decide (es.size > 1)))) _ _ _;refine wpAny_pure ?_;have hne:S ≠ s.heap.objs.size:=ne_of_lt hlt;cases hb:w.params.followText "set-order" with
 | true =>
  rw [if_neg 'e'];refine wpAny_bind (wpAny_pure (wpAny_bind (wpAny_setEpoch_of ho rfl hf ?_)));refine wpAny_bind (wpAny_newObj_type (wpAny_pure ⟨_,rfl,"set_iterator",_,⟨_,get?_push_size _ rfl,rfl⟩,slot_next.lookup,?_⟩));refine h _ s.heap.objs.size [s.heap.objs.size,S] _ _ ((qb0r (w.params.setOrder S ep) es).map (·.2)) (by rw [length_map,(qb0r _ es).length_eq,length_toList]) 'e' (fun b hb=>?_) (fun b hb=>?_) 'c' (fun A' hA=>w_text hA hne hf hb) ⟨get?_push_size _ rfl,get?_push_of_some _ ho⟩ (fun b o e=>get?_push_of_some _ e) rfl rfl rfl
  ·simp at hb;rcases hb with rfl | rfl
   ·exact .inr 'c'
   ·exact .inl rfl
  ·show b < (s.heap.push _).objs.size
   rw [size_push];simp at hb;rcases hb with rfl | rfl
   ·exact lt_succ_self _
   ·exact lt_succ_of_lt hlt
 | false =>
  cases hd:(!t.plain && decide (es.size > 1)) with
  | false =>
   rw [if_neg 'e'];refine wpAny_bind (wpAny_pure (wpAny_bind (wpAny_setEpoch_of ho rfl hf ?_)));refine wpAny_bind (wpAny_newObj_type (wpAny_pure ⟨_,rfl,"set_iterator",_,⟨_,get?_push_size _ rfl,rfl⟩,slot_next.lookup,?_⟩));refine h _ s.heap.objs.size [s.heap.objs.size,S] _ _ (List.Perm.refl _) 'e' 'e' (fun b hb=>?_) (fun b hb=>?_) 'c' (fun A' hA=>w_place hA hne hf ok hb (by rw [hl,hb];rfl) hd) ⟨get?_push_size _ rfl,get?_push_of_some _ ho⟩ (fun b o e=>get?_push_of_some _ e) rfl rfl rfl
   ·simp at hb;rcases hb with rfl | rfl
    ·exact .inr 'c'
    ·exact .inl rfl
   ·show b < (s.heap.push _).objs.size
    rw [size_push];simp at hb;rcases hb with rfl | rfl
    ·exact lt_succ_self _
    ·exact lt_succ_of_lt hlt
  | true =>
   rw [if_pos 'e'];refine wpAny_bind (qc5o _ _ _ length_range fun o d hp=>wpAny_bind (wpAny_newTuple ?_ (by
    rw [length_map,hp.length_eq,length_range];exact le_trans hz 'd')))
   refine wpAny_bind (wpAny_setEpoch_of (get?_push_of_some _ ho) rfl hf ?_);refine wpAny_bind (wpAny_newObj_type (wpAny_pure ⟨_,rfl,"set_iterator",_,⟨_,get?_push_size _ rfl,rfl⟩,slot_next.lookup,?_⟩));have e1:∀ ob:Obj,(s.heap.push ob).objs.size=s.heap.objs.size + 1:=fun ob=>size_push ..;show Q (.ref (s.heap.push _).objs.size) _;rw [e1];refine h _ (s.heap.objs.size + 1) [s.heap.objs.size + 1,S,s.heap.objs.size] (o.map (valAt es)) _ ((hp.map _).trans (by rw [qc1u])) (by rw [length_map,hp.length_eq,length_range]) 'e' (fun b hb=>?_) (fun b hb=>?_) (le_succ _) (fun A' hA=>w_drawn hA (ne_of_lt (lt_succ_of_lt hlt)) (ne_of_lt (lt_succ_self _)) hf hp) ⟨by rw [← e1];exact get?_push_size _ rfl,get?_push_of_some _ (get?_push_of_some _ ho),get?_push_of_some _ (get?_push_size _ rfl)⟩ (fun b o e=>get?_push_of_some _ (get?_push_of_some _ e)) rfl rfl rfl
   ·simp at hb;rcases hb with rfl | rfl | rfl
    ·exact .inr (le_succ _)
    ·exact .inl rfl
    ·exact .inr 'c'
   ·show b < ((s.heap.push _).push _).objs.size
    rw [size_push,e1];simp at hb;rcases hb with rfl | rfl | rfl
    ·exact lt_succ_self _
    ·exact lt_succ_of_lt (lt_succ_of_lt hlt)
    ·exact lt_succ_of_lt (lt_succ_self _)
end
end Sx
end
section
namespace Sx
open PySem
section
variable{prog:Program}{w:World}{A:Around}{E:Value->Shared->Prop}{s:Shared}{S:Addr}{es:Array 'p'}{ep:Nat}{t:SetTable}
abbrev nilO:Obj:={ cls:=.type "list",data:=.seq ([]:List Value).toArray }
def qb4y(hh:A.handled=none)(ho:s.heap.get? S=some (setO es ep t))(hf:t.fits es.size=true)(ok:TOk t) (hl:t.led = !w.params.followText "set-order") (hz:es.size <= 4096) {Q:List Value->Shared->Prop}
  (h:∀ (s':Shared) (out:List Value),out.Perm (es.toList.map (·.2))->(∀ b o,s.heap.get? b=some o->s'.heap.get? b=some o)->s'.gens=s.gens->s'.os=s.os->Q out s') :
  wpAny (model prog w) A (collect (.ref S)) Q E s:=by
 unfold collect;refine wpAny_bind (wpAny_runValue (codeAny_builtin F.entry_proto_collect ?_));rw [Around.under_plainId F.plain_proto_collect _];show wpAny _ A.in1 (newList [] >>= fun l=>again (.builtin "list.__iadd__" ⟨[l,.ref S],[]⟩)) _ _ s;refine wpAny_bind (wpAny_newObj_type (wpAny_pure ⟨plainId_quiet F.plain_list_iadd _,codeAny_builtin F.entry_list_iadd ?_⟩));rw [Around.under_plainId F.plain_list_iadd _];show wpAny _ A.in1 (Builtin.List.listExtendWith (.ref s.heap.objs.size) (.ref S) (.ref s.heap.objs.size)) _ _ { s with heap:=s.heap.push nilO };unfold Builtin.List.listExtendWith;have hlt:=lt_size ho;have ho1:(s.heap.push nilO).get? S=some (setO es ep t):=get?_push_of_some _ ho;have hL1:(s.heap.push nilO).get? s.heap.objs.size=some nilO:=get?_push_size _ rfl;have z1:(s.heap.push nilO).objs.size=s.heap.objs.size + 1:=size_push ..;have h1:Builtin.List.listSameRef (.ref s.heap.objs.size) (.ref S)=false:=by simp [Builtin.List.listSameRef,ne_of_gt hlt]
 refine wpAny_bind (wpAny_typeOf (T:="set") ⟨_,ho1,rfl⟩ ?_);rw [if_neg (by rw [h1];decide)];refine wpAny_bind (qc5p ho1 hf ok hl hz fun s' I fp out St op ol hI f1 f2 f3 W st kp eg eo et=>?_);have ho2:=kp _ _ ho1;have hL2:=kp _ _ hL1;have hS:s'.TypeIs (.ref S) "set":=⟨_,ho2,rfl⟩;refine wpAny_bind (wpAny_holding ?_);unfold Builtin.List.listLengthHint;refine wpAny_bind (wpAny_specialOf hS F.slot_set_len.lookup ?_)
 wp_delta
 refine wpAny_bind (wpAny_isInstance (b:=true) hS sub_set_self ?_);show wpAny _ A.in1 (typeOf (Value.ref S) >>= _) _ _ _;refine wpAny_bind (wpAny_typeOf hS (wpAny_pure ?_));show wpAny _ A.in1 (rule "list.extend.makes-room" >>= fun _=>Builtin.List.listTouch (.ref s.heap.objs.size) >>= fun _=>again (.builtin "list.extend.loop" ⟨[.ref s.heap.objs.size,.ref I,.ref s.heap.objs.size],[]⟩)) _ _ _;refine wpAny_bind (wpAny_rule (wpAny_bind ?_));show wpAny _ A.in1 (updateSeq s.heap.objs.size (·.push .none) >>= fun _=>updateSeq s.heap.objs.size (·.pop)) _ _ s';refine wpAny_bind (wpAny_updateSeq hL2 rfl ?_);have hL3:=Heap.get?_update_self (Obj.mapSeq (·.push Value.none)) hL2 rfl;refine wpAny_updateSeq hL3 rfl ?_;have hL4:=Heap.get?_update_self (Obj.mapSeq (·.pop)) hL3 rfl;have nf:s.heap.objs.size ∉ fp:=fun hm=>by
  rcases f1 _ hm with q | q
  ·exact ne_of_gt hlt q
  ·rw [z1] at q;exact absurd q (Nat.not_succ_le_self _)
 have oth:∀ b o,b ≠ s.heap.objs.size->s'.heap.get? b=some o->((s'.heap.update s.heap.objs.size (Obj.mapSeq (·.push Value.none))).update s.heap.objs.size (Obj.mapSeq (·.pop))).get? b=some o:=
  fun b o hb e=>(Heap.get?_update_other _ _ (Ne.symm hb)).trans ((Heap.get?_update_other _ _ (Ne.symm hb)).trans e)
 have W1:=W A.in1.in1 (by simp [hh]);have Ws:=W1.toS;refine wpAny_pure ⟨plainId_quiet F.plain_extend_loop _,codeAny_extend_loopS (W A.in1 (by simp [hh])).toS (le_trans hz 'd') _ nf _ es.size 0 _ _ _ rfl (zero_le _)
  (Ws.frame 0 s' _ s'.toks st 'c' fun b hb o e=>oth b o (fun q=>nf (q ▸ hb)) e) hL4 (ItemsOf.nil _) fun s2 acc c mv hS2 hacc=>?_⟩
 show wpAny _ A (load s.heap.objs.size >>= _) _ _ s2;refine wpAny_bind (wpAny_load hS2 (wpAny_pure ?_));have eq:acc.toList=out:=by
  apply List.ext_getElem?
  intro j;by_cases hj:j < acc.size
  ·have q:=hacc.2 j acc[j] (Array.getElem?_eq_getElem hj)
   rw [getElem?_toList,Array.getElem?_eq_getElem hj];exact q.symm
  ·rw [getElem?_toList,getElem?_eq_none 'o',List.getElem?_eq_none (by have:=hacc.1;omega)]
 rw [eq];refine h s2 out op (fun b o e=>?_) (mv.gens.trans eg) (mv.os.trans eo);have hb:=lt_size e;refine mv.heap b o (fun hm=>?_) (oth b o (ne_of_lt hb) (kp _ _ (get?_push_of_some _ e)));rcases mem_cons.mp hm with q | q
 ·exact absurd hb (by rw [q];exact lt_irrefl _)
 ·rw [mem_singleton] at q
  rw [z1] at f3;exact absurd hb (by rw [q];exact not_lt.mpr (le_trans (le_succ _) f3))
end
end Sx
end
namespace L2
open PySem PySem.Spec PyProof.Rows
section
noncomputable def clOf(env:Env):List (Str × NameKind)->List (Str × Addr)->List (Str × Addr)
 | [],acc=>acc
 | (n,k) :: r,acc=>if k == .free then clOf env r ((n,(env.cells.lookup n).getD 0) :: acc) else clOf env r acc
def qa9o(env:Env)(f:Str × NameKind->List (Str × Addr)->Sem (ForInStep (List (Str × Addr)))) :
  ∀ (names:List (Str × NameKind)) (acc:List (Str × Addr)),
   (∀ y ∈ names,∀ c,f y c=if (y.2 == .free)=true then pure (.yield ((y.1,(env.cells.lookup y.1).getD 0) :: c)) else pure (.yield c)) ->
   (forIn names acc f:Sem _)=pure (clOf env names acc)
 | [],acc,_=>by rw [List.forIn_nil];rfl
 | (n,k) :: r,acc,h=>by
  rw [List.forIn_cons,h (n,k) mem_cons_self];have hr:∀ y ∈ r,∀ c,f y c=if (y.2 == .free)=true then pure (.yield ((y.1,(env.cells.lookup y.1).getD 0) :: c)) else pure (.yield c):=fun y hy=>h y (mem_cons_of_mem _ hy)
  unfold clOf;by_cases hk:(k == NameKind.free)=true
  ·rw [if_pos hk,if_pos hk,← qa9o env f r _ hr]
   all_goals rfl
  ·rw [if_neg hk,if_neg hk,← qa9o env f r _ hr]
   all_goals rfl
def qb0m{env:Env}{scope:Scope}(h:∀ y ∈ scope.names,y.2=.free->∃ c,env.cells.lookup y.1=some c) :
  closureFor scope env=pure (clOf env scope.names []):=by
 simp only [closureFor];rw [qa9o env _ scope.names [] (fun y hy c=>by
  obtain⟨n,k⟩:=y;by_cases hk:k=.free
  ·subst hk
   obtain⟨a,ha⟩:=h (n,.free) hy rfl;have e:cellOf env n=pure a:=by unfold cellOf;rw [ha]
   simp only [beq_self_eq_true,if_true,e,ha,Option.getD_some];rfl
  ·have hb:(k == NameKind.free)=false:=by simpa using hk
   simp only [hb,false_eq_true,if_false])]
 rfl
def qa5z(env:Env):∀ (names:List (Str × NameKind)) (acc:List (Str × Addr)),clOf env names acc=clOf env names [] ++ acc
 | [],acc=>rfl
 | (n,k) :: r,acc=>by
  unfold clOf;split
  ·rw [qa5z env r,qa5z env r [_],List.append_assoc];rfl
  ·exact qa5z env r acc
def qa6a{env:Env}:∀ {names:List (Str × NameKind)} {x:Str} {c:Addr},(x,c) ∈ clOf env names []->(x,NameKind.free) ∈ names/\c=(env.cells.lookup x).getD 0
 | [],x,c,h=>by cases h
 | (n,k) :: r,x,c,h=>by
  unfold clOf at h;split at h
  ·rename_i hk
   rw [qa5z] at h;rcases mem_append.mp h with h | h
   ·exact⟨mem_cons_of_mem _ (qa6a h).1,(qa6a h).2⟩
   ·have e:(x,c)=(n,(env.cells.lookup n).getD 0):=by simpa using h
    have hk':k=.free:=by simpa using hk
    cases e
    exact⟨by rw [hk'];exact mem_cons_self,rfl⟩
  ·exact⟨mem_cons_of_mem _ (qa6a h).1,(qa6a h).2⟩
def qb3z{env:Env}:∀ {names:List (Str × NameKind)} {x:Str},(x,NameKind.free) ∈ names->(x,(env.cells.lookup x).getD 0) ∈ clOf env names []
 | [],x,h=>by cases h
 | (n,k) :: r,x,h=>by
  unfold clOf;rcases mem_cons.mp h with e | h
  ·cases e
   rw [if_pos (by rfl),qa5z];exact mem_append_right _ 'e'
  ·split
   ·rw [qa5z];exact List.mem_append_left _ (qb3z h)
   ·exact qb3z h
def qa3r:∀ (names:List (Str × NameKind)) (n:Nat) (acc:List (Str × Addr)),cellsFrom n names acc=cellsFrom n names [] ++ acc
 | [],_,acc=>rfl
 | (x,k) :: r,n,acc=>by
  unfold cellsFrom;split
  ·rw [qa3r r,qa3r r _ [_],List.append_assoc];rfl
  ·exact qa3r r n acc
def qa2g:∀ {names:List (Str × NameKind)} {n:Nat} {x:Str} {c:Addr},(x,c) ∈ cellsFrom n names []->(x,NameKind.cell) ∈ names/\n <= c
 | [],n,x,c,h=>by cases h
 | (y,k) :: r,n,x,c,h=>by
  unfold cellsFrom at h;split at h
  ·rename_i hk
   rw [qa3r] at h;rcases mem_append.mp h with h | h
   ·have q:=qa2g h
    exact⟨mem_cons_of_mem _ q.1,'o'⟩
   ·have e:(x,c)=(y,n):=by simpa using h
    have hk':k=.cell:=by simpa using hk
    cases e
    exact⟨by rw [hk'];exact mem_cons_self,le_refl _⟩
  ·have q:=qa2g h
   exact⟨mem_cons_of_mem _ q.1,q.2⟩
def qa6b{α:Type}(x:Str):∀ (a b:List (Str × α)),(a ++ b).lookup x=(a.lookup x).or (b.lookup x)
 | [],b=>by simp
 | (k,v) :: r,b=>by
  rw [List.cons_append,lookup_cons,lookup_cons];cases x == k with
  | true=>rfl
  | false=>exact qa6b x r b
def lookup_mem{α:Type}:∀ {l:List (Str × α)} {x:Str} {v:α},(x,v) ∈ l->∃ u,l.lookup x=some u
 | (k,w) :: r,x,v,h=>by
  rw [lookup_cons];cases e:x == k with
  | true=>exact⟨w,rfl⟩
  | false =>
   rcases mem_cons.mp h with q | q
   ·cases q;simp at e
   ·exact lookup_mem q
def qa3z{α:Type}:∀ {l:List (Str × α)} {x:Str} {v:α},(l.map (·.1)).Nodup->(x,v) ∈ l->l.lookup x=some v
 | (k,w) :: r,x,v,hn,h=>by
  rw [lookup_cons];rw [map_cons,nodup_cons] at hn;rcases mem_cons.mp h with q | q
  ·cases q;simp
  ·have:(x == k)=false:=by
    refine beq_eq_false_iff_ne.mpr ?_;rintro rfl;exact hn.1 (mem_map.mpr ⟨(x,v),q,rfl⟩)
   rw [this];exact qa3z hn.2 q
def qa9a(env:Env)(x:Str):∀ (names:List (Str × NameKind)),
  (names.map fun(n,k)=>if (k == NameKind.free && env.scope.kind == .function && env.kindOf n == some .cell) then(n,NameKind.cell) else(n,k)).lookup x =
   (names.lookup x).map fun k=>if (k == NameKind.free && env.scope.kind == .function && env.kindOf x == some .cell) then NameKind.cell else k
 | []=>rfl
 | (n,k) :: r=>by
  rw [map_cons,lookup_cons];cases hx:x == n with
  | true =>
   have e:x=n:=by simpa using hx
   subst e;by_cases hc:(k == NameKind.free && env.scope.kind == .function && env.kindOf x == some .cell)=true
   ·simp only [if_pos hc,lookup_cons,hx,map_some]
   ·simp only [if_neg hc,lookup_cons,hx,map_some]
  | false =>
   have ih:=qa9a env x r;by_cases hc:(k == NameKind.free && env.scope.kind == .function && env.kindOf n == some .cell)=true
   ·simp only [if_pos hc,lookup_cons,hx];exact ih
   ·simp only [if_neg hc,lookup_cons,hx];exact ih
def qb8t{M:Model}{A:Around}{E:Value->Shared->Prop}{s:Shared}{scope:Scope}{globals:Addr}{cl:List (Str × Addr)}{qual:Str}{outer:Env}{Q:Env->Shared->Prop}
  (hQ:Q (newEnv scope s.heap.objs.size globals (cellsFrom (s.heap.objs.size + 1) scope.names cl) qual none .none (some outer) builtinsNs)
    { s with heap:=pushCells (s.heap.push { cls:=.type "dict",data:=.dict #[] }) scope.names }) :
  wpAny M A (newFunctionEnv scope globals cl [] qual none .none (some outer)) Q E s:=by
 simp only [newFunctionEnv,Option.isSome_some,if_true];refine wpAny_bind (wpAny_alloc ?_);refine wpAny_bind (wpAny_layCells _ (fun name kind cells=>by cases hkc:kind == NameKind.cell<;>simp [hkc]) _ _ _ _ ?_);rw [show({ s with heap:=s.heap.push { cls:=.type "dict",data:=.dict #[] } }:Shared).heap.objs.size=s.heap.objs.size + 1 from size_push ..];rw [List.forIn_nil];exact wpAny_bind (wpAny_pure (wpAny_pure hQ))
section
variable{prog:Program}{w:World}{A:Around}{R:Result->Shared->Prop}{s:Shared}
def qb8u{elt target iter:Expr}{ifs:List Expr}{scope:Scope}{pos:Pos}{it acc:Value}{env:Env}(I:Nat->Shared->Prop)
  (turn:∀ n s,I n s->wpAny (model prog w) A (pyNext it) (fun r s₁=>match r with
   | none=>R (.ok .next) s₁
   | some v=>wpAny (model prog w) A (letOwnedTupleGo target it v) (fun _ s₂'=>wpAny (model prog w) A (assign target env v) (fun _ s₂ =>
     wpAny (model prog w) A (forIn ifs true fun c r=>if r=true then do let ok ← isTrue c env (eval c env);pure (ForInStep.yield ok) else pure (ForInStep.yield r)) (fun ok s₃ =>
      if ok=true then wpAny (model prog w) A (eval elt env) (fun x s₄ =>
       wpAny (model prog w) A (call (.builtin "list.append") [acc,x]) (fun _ s₅=>∃ m,m < n/\I m s₅) (notedBy (model prog w) A env fun e s'=>R (.error e) s') s₄) (notedBy (model prog w) A env fun e s'=>R (.error e) s') s₃
      else ∃ m,m < n/\I m s₃) (notedBy (model prog w) A env fun e s'=>R (.error e) s') s₂) (notedBy (model prog w) A env fun e s'=>R (.error e) s') s₂') (notedBy (model prog w) A env fun e s'=>R (.error e) s') s₁) (notedBy (model prog w) A env fun e s'=>R (.error e) s') s)
  (n:Nat) (h:I n s) :
  codeAny (model prog w) A (.compLoop (.ListComp elt [⟨target,iter,ifs,0⟩] scope pos) 0 it acc env) R s:=by
 refine codeAny_loop rfl I (fun n s hI=>?_) n h;show wpAny _ A ((compTurn (.ListComp elt [⟨target,iter,ifs,0⟩] scope pos) 0 it acc env).onRaise (fun x=>do noteFrame x env;theTreesLotGoes x)) _ _ s;refine wpAny_noted ?_;rw [compTurn_list];refine wpAny_bind (wpAny_standAt (wpAny_bind (wpAny_mono (turn n s hI) (fun r s₁ h₁=>?_) fun _ _ h'=>h')));cases r with
 | none=>exact wpAny_pure h₁
 | some v =>
  refine wpAny_bind (wpAny_mono h₁ (fun _ s₂' h₂'=>?_) fun _ _ h'=>h');refine wpAny_bind (wpAny_mono h₂' (fun _ s₂ h₂=>wpAny_bind (wpAny_mono h₂ (fun ok s₃ h₃=>?_) fun _ _ h'=>h')) fun _ _ h'=>h');cases ok with
  | false=>exact wpAny_pure ⟨rfl,h₃⟩
  | true =>
   exact wpAny_bind (wpAny_bind (wpAny_mono h₃ (fun x s₄ h₄=>wpAny_bind (wpAny_mono h₄ (fun _ s₅ h₅=>wpAny_pure (wpAny_pure ⟨rfl,h₅⟩)) fun _ _ h'=>h')) fun _ _ h'=>h'))
end
def nlt{a b:Nat}(h:b <= a):¬ a < b:=not_lt.mpr h
noncomputable def cxC(X:Cx)(scope:Scope)(own:List Str)(cap:List 'q')(fp:List Addr)(s2:Shared)(H2:Hp):Cx where
 prog:=X.prog
 w:=X.w
 K:=X.K
 mg:=X.mg
 base:=X.base
 A:=X.A
 N:=own ++ cap.map (·.1)
 s₀:=s2
 H₀:=H2
 env:={ scope:=relabel scope X.env,locals:=s2.heap.objs.size + 1,globals:=X.env.globals,cells:=cellsFrom (s2.heap.objs.size + 1 + 1) scope.names (clOf X.env scope.names []),qual:=X.env.qual,func:=none,code:=X.env.code,frame:=X.env.frame,builtins:=X.env.builtins }
 outer:=X.stack
 stack:=X.stack
 ex:=fp
 fn:=fun x=>scope.names.lookup x == some .cell
 calm:=X.calm
 pn:=[]
 xe:=fun _ _=>False
noncomputable def qa6z(own:List Str)(cap:List 'q')(σ:St):St:=List.replicate own.length none ++ cap.map fun p=>(σ[p.2]?).join
noncomputable def qa4t(X:Cx)(scope:Scope)(own:List Str)(cap:List 'q'):Bool:=
 scope.kind == .function && (scope.names.all fun y=>y.2 != .free || X.env.kindOf y.1 == some .cell || X.env.kindOf y.1 == some .free) &&
 (cap.all fun p=>X.N[p.2]? == some p.1 && scope.names.lookup p.1 == some .free) && (own.all fun x=>!((cap.map (·.1)).contains x))
section
variable{X:Cx}{pins:List 'b'}{σ:St}{H2:Hp}{s2:Shared}{scope:Scope}{own:List Str}{cap:List 'q'}{fp:List Addr}
def qa9p(h:qa4t X scope own cap=true):scope.kind=.function:=by
 simp only [qa4t,and_eq_true,beq_iff_eq] at h;exact h.1.1.1
def qa9q(h:qa4t X scope own cap=true):∀ y ∈ scope.names,y.2=.free->X.env.kindOf y.1=some .cell ∨ X.env.kindOf y.1=some .free:=by
 simp only [qa4t,and_eq_true,beq_iff_eq] at h;intro y hy hf;have q:=all_eq_true.mp h.1.1.2 y hy;simp only [hf,bne_self_eq_false,Bool.false_or,Bool.or_eq_true,beq_iff_eq] at q;exact q
def qc3t(h:qa4t X scope own cap=true):∀ p ∈ cap,X.N[p.2]? = some p.1/\scope.names.lookup p.1=some .free:=by
 simp only [qa4t,and_eq_true,beq_iff_eq] at h;intro p hp;have q:=all_eq_true.mp h.1.2 p hp;simp only [and_eq_true,beq_iff_eq] at q;exact q
def qc5q(I:Inv X pins σ H2 s2)(hok:qa4t X scope own cap=true)(hnd:(scope.names.map (·.1)).Nodup)(hfp:∀ b ∈ fp,FpOk X pins H2 b)(hob:∀ b ∈ fp,∃ o,s2.heap.get? b=some o) :
  Inv (cxC X scope own cap fp s2 H2) [] (qa6z own cap σ) (upd H2 s2.heap.objs.size (.lst []))
   { s2 with heap:=pushCells ((s2.heap.push { cls:=.type "list",dict:=none,data:=.seq ([]:List Value).toArray }).push { cls:=.type "dict",data:=.dict #[] }) scope.names }:=by
 have hkind:=qa9p hok;have hfree:=qa9q hok;have hcap:=qc3t hok;have hdf:H2 s2.heap.objs.size=none:=I.fresh;generalize hh1:s2.heap.push { cls:=.type "list",dict:=none,data:=.seq ([]:List Value).toArray }=h1;have z1:h1.objs.size=s2.heap.objs.size + 1:=by rw [← hh1,size_push]
 generalize hh2:h1.push { cls:=.type "dict",data:=.dict #[] }=h2;have z2:h2.objs.size=s2.heap.objs.size + 1 + 1:=by rw [← hh2,size_push,z1]
 have k1:∀ b o,s2.heap.get? b=some o->h1.get? b=some o:=fun b o e=>by rw [← hh1];exact get?_push_of_some _ e
 have k2:∀ b o,h1.get? b=some o->h2.get? b=some o:=fun b o e=>by rw [← hh2];exact get?_push_of_some _ e
 have k3:∀ b o,h2.get? b=some o->(pushCells h2 scope.names).get? b=some o:=fun b o e=>pushCells_keeps _ _ b o e;have k:∀ b o,s2.heap.get? b=some o->(pushCells h2 scope.names).get? b=some o:=fun b o e=>k3 b o (k2 b o (k1 b o e));have hD:(pushCells h2 scope.names).get? s2.heap.objs.size=some { cls:=.type "list",dict:=none,data:=.seq ([]:List Value).toArray }:=by
  refine k3 _ _ (k2 _ _ ?_);rw [← hh1];exact get?_push_size _ rfl
 have hC:(pushCells h2 scope.names).Ns (s2.heap.objs.size + 1) fun _=>none:=by
  have q:h2.Ns h1.objs.size fun _=>none:=by rw [← hh2];exact Heap.Ns.new h1 (.type "dict")
  rw [z1] at q;exact q.keeps k3
 have own_ok:=cellsFrom_ok scope.names h2 (s2.heap.objs.size + 1 + 1) [] ⟨fun _ _ hm=>(nomatch hm),List.Pairwise.nil⟩ (by rw [z2];exact le_refl _);rw [z2] at own_ok;have ec:(cxC X scope own cap fp s2 H2).env.cells=cellsFrom (s2.heap.objs.size + 1 + 1) scope.names [] ++ clOf X.env scope.names []:=qa3r _ _ _
 -- an entry is a new cell, or one of the names around
 have split:∀ x c,(cxC X scope own cap fp s2 H2).env.cells.lookup x=some c->((x,c) ∈ cellsFrom (s2.heap.objs.size + 1 + 1) scope.names []) ∨ ((x,NameKind.free) ∈ scope.names/\X.env.cells.lookup x=some c):=fun x c e=>by
  rw [ec,qa6b] at e;cases e1:(cellsFrom (s2.heap.objs.size + 1 + 1) scope.names []).lookup x with
  | some c'=>rw [e1] at e;cases e;exact .inl (mem_of_lookup e1)
  | none =>
   rw [e1] at e;have e':(clOf X.env scope.names []).lookup x=some c:=e;obtain⟨m1,m2⟩:=qa6a (mem_of_lookup e');obtain⟨c',hc'⟩:=I.ok.has x (hfree _ m1 rfl);rw [hc'] at m2;exact .inr ⟨m1,by rw [hc',m2];rfl⟩
 have capCell:∀ x,(x,NameKind.free) ∈ scope.names->∀ c,X.env.cells.lookup x=some c->(cxC X scope own cap fp s2 H2).env.cells.lookup x=some c:=fun x hx c hc=>by
  rw [ec,qa6b];cases e1:(cellsFrom (s2.heap.objs.size + 1 + 1) scope.names []).lookup x with
  | some c' =>
   have q:=(qa2g (mem_of_lookup e1)).1;have q1:=qa3z hnd q;have q2:=qa3z hnd hx;rw [q1] at q2;cases q2
  | none =>
   obtain⟨u,hu⟩:=lookup_mem (qb3z (env:=X.env) hx);have m2:=(qa6a (mem_of_lookup hu)).2;rw [hc] at m2;show(clOf X.env scope.names []).lookup x=some c;rw [hu,m2];rfl
 have lt_of_around:∀ x c,X.env.cells.lookup x=some c->c < s2.heap.objs.size:=fun x c e=>by
  obtain⟨v,q⟩:=I.cell x c e;exact q.lt
 have kof:∀ x,(cxC X scope own cap fp s2 H2).env.kindOf x=(scope.names.lookup x).map fun k=>if (k == NameKind.free && X.env.scope.kind == .function && X.env.kindOf x == some .cell) then NameKind.cell else k:=fun x=>qa9a X.env x scope.names
 have fpLt:∀ b ∈ fp,b < s2.heap.objs.size:=fun b hb=>by obtain⟨o,e⟩:=hob b hb;exact lt_size e
 have hokH:HOk X.prog X.w (upd H2 s2.heap.objs.size (.lst [])) (pushCells h2 scope.names):=I.hok.laid k 'c' ⟨zero_le _,[],_,.nil,hD⟩;refine⟨⟨I.ok.mod,?_,I.ok.glob,I.ok.blt,le_succ _,fun x y c e1 e2=>?_,fun x hx=>?_,fun x c hf e=>?_,I.ok.hd,I.ok.frames,.inl rfl,fun b hb=>⟨?_,fun x c e=>?_⟩,I.bs,le_trans I.ok.bsz I.sz,fun b o e hb=>?_,fun b hb hb2=>?_,I.stack,I.stkFree⟩,
  rfl,I.bare,Un.laid k 'c' hdf,⟨_,hC,fun i x v e1 e2 e3=>?_⟩,fun x c e=>?_,?_,fun x c e=>?_,fun p hp=>?_,hokH,?_⟩
 ·exact hkind
 ·rcases split x c e1 with m1 | ⟨m1,q1⟩<;>rcases split y c e2 with m2 | ⟨m2,q2⟩
  ·exact name_of_addr own_ok.apart m1 m2
  ·exact absurd (lt_of_around y c q2) (nlt (by have:=(qa2g m1).2;omega))
  ·exact absurd (lt_of_around x c q1) (nlt (by have:=(qa2g m2).2;omega))
  ·exact I.ok.inj x y c q1 q2
 ·rw [kof x] at hx
  cases e1:scope.names.lookup x with
  | none=>rw [e1] at hx;rcases hx with z | z<;>cases z
  | some kx =>
   have mx:=mem_of_lookup e1;cases kx with
   | free =>
    obtain⟨c,hc⟩:=I.ok.has x (hfree _ mx rfl);exact⟨c,capCell x mx c hc⟩
   | cell =>
    have q:=PySem.W.cellsFrom_some scope.names (s2.heap.objs.size + 1 + 1) (clOf X.env scope.names []) (x:=x) (.inl e1);exact Option.isSome_iff_exists.mp q
   | _=>rw [e1] at hx;rcases hx with z | z<;>simp at z
 ·rcases split x c e with m1 | ⟨m1,q1⟩
  ·have:=(qa2g m1).2;show s2.heap.objs.size <= c;omega
  ·have q2:=qa3z hnd m1
   have hf':(scope.names.lookup x == some NameKind.cell)=true:=hf;rw [q2] at hf';simp at hf'
 ·exact ne_of_lt (lt_succ_of_lt (fpLt b hb))
 ·have h1:=fpLt b hb
  rcases split x c e with m1 | ⟨m1,q1⟩
  ·exact ne_of_gt (lt_of_lt_of_le h1 (by have:=(qa2g m1).2;omega))
  ·exact(hfp b hb).2.2.2.2.1 x c q1
 ·rcases (hfp b hb).2.2.2.1 with z | z
  ·exact I.ok.noex b o e z
  ·exact absurd (lt_of_lt_of_le (lt_size e) (le_trans I.ok.bsz z)) (lt_irrefl _)
 ·rcases mem_cons.mp (I.stkSub b hb2) with z | z
  ·exact(hfp b hb).2.1 z
  ·exact(hfp b hb).2.2.1 z
 ·-- names that are closed over
  have ei:own.length <= i:=by
   by_cases hi:i < own.length
   ·unfold qa6z at e2
    rw [List.getElem?_append_left (by simpa using hi),List.getElem?_replicate,if_pos hi] at e2;cases e2
   ·omega
  have e1':(cap.map (·.1))[i - own.length]? = some x:=by
   have:(own ++ cap.map (·.1))[i]? = some x:=e1
   rwa [getElem?_append_right ei] at this
  have e2':(cap.map fun p=>(σ[p.2]?).join)[i - own.length]? = some (some v):=by
   unfold qa6z at e2;rw [getElem?_append_right (by simpa using ei)] at e2;simpa using e2
  rw [getElem?_map] at e1' e2';cases ep:cap[i - own.length]? with
  | none=>rw [ep] at e1';cases e1'
  | some p =>
   rw [ep] at e1' e2';have hx:p.1=x:=by simpa using e1'
   have hv:(σ[p.2]?).join=some v:=by simpa using e2'
   have hσ:σ[p.2]? = some (some v):=by
    cases eσ:σ[p.2]? with
    | none=>rw [eσ] at hv;cases hv
    | some w'=>rw [eσ] at hv;simp at hv;rw [hv]
   obtain⟨hN,hl⟩:=hcap p (mem_of_getElem? ep);rw [hx] at hN hl;have mx:=mem_of_lookup hl;have hvis:Vis X.env.scope x:=by
    rcases hfree _ mx rfl with z | z
    ·exact .inr (.inl z)
    ·exact .inr (.inr z)
   obtain⟨m,_,hl'⟩:=I.loc;obtain⟨u,r,lk⟩:=hl' p.2 x v hN hσ hvis;refine⟨u,r,.inr ?_⟩;rcases lk with⟨z,_⟩ | ⟨z,c,hc,hcell⟩
   ·rcases hfree _ mx rfl with z' | z'<;>rw [z'] at z<;>cases z
   ·refine⟨?_,c,capCell x mx c hc,hcell.keeps k⟩
    rw [kof x,hl];by_cases hcc:(NameKind.free == NameKind.free && X.env.scope.kind == .function && X.env.kindOf x == some .cell)=true
    ·left;simp only [map_some,if_pos hcc]
    ·right;simp only [map_some,if_neg hcc]
 ·rcases split x c e with m1 | ⟨m1,q1⟩
  ·exact⟨_,(own_ok.empty x c m1).1⟩
  ·obtain⟨v,q⟩:=I.cell x c q1
   exact⟨v,q.keeps k⟩
 ·show upd H2 s2.heap.objs.size (.lst []) (s2.heap.objs.size + 1)=none
  rw [qa0v (Nat.succ_ne_self _)];exact I.hok.fresh (le_succ _)
 ·rcases split x c e with m1 | ⟨m1,q1⟩
  ·have hle:=(qa2g m1).2
   rw [qa0v (ne_of_gt (lt_of_lt_of_le (lt_succ_self _) 'o'))];exact I.hok.fresh 'o'
  ·rw [qa0v (ne_of_lt (lt_of_around x c q1))]
   exact I.freeC x c q1
 ·exact absurd (show p ∈ ([]:List 'b') from hp) 'e'
 ·unfold qa6z
  show _=(own ++ cap.map (·.1)).length;simp
end
def PIf(X:Cx)(ifs:List Expr)(t:TT):Prop:=
 ∀ (pins:List 'b') (s:Shared) (σ:St) (H:Hp) (Q:Bool->Hp->Prop),Inv X pins σ H s->t σ H Q ->
  wpAny (model X.prog X.w) X.A (forIn ifs true fun c r=>if r=true then do let ok ← isTrue c X.env (eval c X.env);pure (ForInStep.yield ok) else pure (ForInStep.yield r)) (TP X pins σ Q) X.xe s
def tYes:TT:=fun _ H Q=>Q true H
def pif_nil{X:Cx}:PIf X [] tYes:=fun _ _ _ H _ I h=>wpAny_tests_nil ⟨H,I,h⟩
def pif_one{X:Cx}{c:Expr}{t:TT}(h:PT X c t):PIf X [c] t:=fun pins s σ H Q I hq=>wpAny_tests_one (h pins s σ H Q I hq)
def qb6l(own:List Str)(cap:List 'q')(g:TG)(tt:TT)(te:TE)(J:It)(D:Addr)(σ:St)(H1:Hp)(Z:Hp->Prop):Prop:=
 ∃ W:Nat->Nat->St->Hp->Prop,(∃ m,W 0 m (qa6z own cap σ) (upd H1 D (.lst [])))/\∀ i m σ' H',W i m σ' H' ->
  (J.stop i H'/\Z H') ∨ (J.go i H'/\∃ N:St->Hp->Prop,(∀ σ'' H'',N σ'' H''->∃ m',m' < m/\W (i + 1) m' σ'' H'')/\∀ x H'',J.yld i H' x H'' ->
   g x σ' H'' fun σ2 H2=>tt σ2 H2 fun b H3=>if b=true then te σ2 H3 fun y H4=>∃ ys,H4 D=some (.lst ys)/\ys.length < sizeLine/\N σ2 (upd H4 D (.lst (ys ++ [y]))) else N σ2 H3)
def tComp(own:List Str)(cap:List 'q')(wi:TI)(g:TG)(tt:TT)(te:TE):TE:=fun σ H Q=>wi σ H fun J H1=>∀ D,H1 D=none->qb6l own cap g tt te J D σ H1 (Q (.ref D))
def qb6m{X:Cx}{elt tg iter:Expr}{ifs:List Expr}{scope:Scope}{pos:Pos}{own:List Str}{cap:List 'q'}{g:TG}{tt:TT}{te:TE}
  (hc:X.calm=true) (hok:qa4t X scope own cap=true) (hnd:(scope.names.map (·.1)).Nodup)
  (hg:∀ fp s2 H2,PG (cxC X scope own cap fp s2 H2) tg g) (ht:∀ fp s2 H2,PIf (cxC X scope own cap fp s2 H2) ifs tt) (he:∀ fp s2 H2,PE (cxC X scope own cap fp s2 H2) elt te)
  {pins:List 'b'} {σ:St} {H1:Hp} {s2:Shared} {it:Addr} {fp:List Addr} {tn:Nat->Heap->Prop} {J:It} {Z:Hp->Prop} {RR:Result->Shared->Prop}
  (I:Inv X pins σ H1 s2) (T:Turn X.prog X.w X.K tg J fp it tn) (h0:tn 0 s2.heap) (hfp:∀ b ∈ fp,FpOk X pins H1 b)
  (hb:qb6l own cap g tt te J s2.heap.objs.size σ H1 Z)
  (hR:∀ s' H' m,(∀ h',Heap.SameBut (s2.heap.objs.size + 1) s'.heap h'->Inv X pins σ H' { s' with heap:=h' })->s'.heap.Ns (s2.heap.objs.size + 1) m->H' (s2.heap.objs.size + 1)=none->Z H'->RR (.ok .next) s') :
  wpAny (model X.prog X.w) X.A (newFunctionEnv scope X.env.globals (clOf X.env scope.names []) [] X.env.qual none .none (some X.env)) (fun cenv s₄ =>
   cenv.locals=s2.heap.objs.size + 1/\codeAny (model X.prog X.w) X.A (.compStart (.ListComp elt [⟨tg,iter,ifs,0⟩] scope pos) 0 (.ref it) (.ref s2.heap.objs.size) { cenv with scope:=relabel scope X.env }) RR s₄)
   X.xe { s2 with heap:=s2.heap.push { cls:=.type "list",dict:=none,data:=.seq ([]:List Value).toArray } }:=by
 have hob:∀ b ∈ fp,∃ o,s2.heap.get? b=some o:=fun b hb=>let ⟨o,e,_⟩:=T.obj _ _ h0 b hb;⟨o,e⟩;have I0:=qc5q (own:=own) (cap:=cap) I hok hnd hfp hob;refine qb8t ?_;have z1:(s2.heap.push { cls:=.type "list",dict:=none,data:=.seq ([]:List Value).toArray }).objs.size=s2.heap.objs.size + 1:=size_push ..
 dsimp only
 rw [z1];refine⟨rfl,?_⟩;show codeAny (model X.prog X.w) X.A (.compStart (.ListComp elt [⟨tg,iter,ifs,0⟩] scope pos) 0 (.ref it) (.ref s2.heap.objs.size) (cxC X scope own cap fp s2 H1).env) RR _;generalize hs4:({ s2 with heap:=pushCells ((s2.heap.push { cls:=.type "list",dict:=none,data:=.seq ([]:List Value).toArray }).push { cls:=.type "dict",data:=.dict #[] }) scope.names }:Shared)=s4 at I0 ⊢;have kp:∀ b o,s2.heap.get? b=some o->s4.heap.get? b=some o:=fun b o e=>by
  rw [← hs4];exact pushCells_keeps _ _ b o (get?_push_of_some _ (get?_push_of_some _ e))
 have st4:tn 0 s4.heap:=T.keep _ _ _ h0 fun b _ o e=>kp b o e;obtain⟨W,⟨m0,w0⟩,turn⟩:=hb
 -- the iterator's records are the block's own
 have stat:∀ {H':Hp},(∀ b ∈ fp,H' b=none)->∀ b ∈ fp,FpOk (cxC X scope own cap fp s2 H1) [] H' b:=fun hn b hb =>
  ⟨hn b hb,(I0.ok.exf b hb).1,I0.ok.exfs b hb,.inl hb,fun x c e=>(I0.ok.exf b hb).2 x c e,fun p hp=>absurd (show p ∈ ([]:List 'b') from hp) 'e'⟩
 have fr0:∀ b ∈ fp,upd H1 s2.heap.objs.size (.lst []) b=none:=fun b hb=>by
  obtain⟨o,e⟩:=hob b hb;rw [qa0v (ne_of_lt (lt_size e))];exact(hfp b hb).1
 have loop:codeAny (model X.prog X.w) X.A (.compLoop (.ListComp elt [⟨tg,iter,ifs,0⟩] scope pos) 0 (.ref it) (.ref s2.heap.objs.size) (cxC X scope own cap fp s2 H1).env) RR s4:=by
  refine qb8u (fun n s'=>∃ i σ' H',Inv (cxC X scope own cap fp s2 H1) [] σ' H' s'/\tn i s'.heap/\(∀ b ∈ fp,H' b=none)/\W i n σ' H') ?_ m0 ⟨0,_,_,I0,st4,fr0,w0⟩;rintro n s3 ⟨i,σ3,H3,I3,st3,fr3,w3⟩;rcases turn i n σ3 H3 w3 with⟨stop,qn⟩ | ⟨go,N,hN,step⟩
  ·refine wpAny_noRaise (thn (T.done (cxC X scope own cap fp s2 H1) rfl rfl rfl hc i [] s3 σ3 H3 _ I3 (stat fr3) st3 stop) fun r s5 hq9=>?_)
   obtain⟨hr,I5⟩:=hq9;subst hr;obtain⟨m5,hm5,_⟩:=id I5.loc;refine hR s5 H3 m5 (fun h' hs'=>?_) hm5 I5.free qn
   ·have un:Un (frs X.stack) fp H1 H3 s2.heap s5.heap:=I5.base
    have low:∀ b o,s2.heap.get? b=some o->b ≠ s2.heap.objs.size + 1:=fun b o e=>ne_of_lt (lt_succ_of_lt (lt_size e));refine I.call' (s':={ s5 with heap:=h' }) (ch:=fp) I5.os ⟨fun b o e n hb hx=>(hs'.2 b (low b o e)).trans (un.keep b o e n hb hx),fun b o e n hb hx=>?_,un.free,fun b o e hx=>?_,un.tups,un.frzs,un.tbls⟩ ?_ I5.bare fun b hb=>⟨(hfp b hb).2.2.2.1,(hfp b hb).2.1,(hfp b hb).2.2.2.2.1,(hfp b hb).2.2.2.2.2⟩
    ·obtain⟨sl,q⟩:=un.slot b o e n hb hx
     exact⟨sl,(hs'.2 b (low b o e)).trans q⟩
    ·obtain⟨o',q⟩:=un.there b o e hx
     exact⟨o',(hs'.2 b (low b o e)).trans q⟩
    ·intro b ob e
     refine(I5.hok b ob e).stay (fun c w' hc' q=>(hs'.2 c ?_).trans q) (fun _ q=>q) fun _ _ q=>q;have nC:H3 (s2.heap.objs.size + 1)=none:=I5.free;rintro rfl;rcases hc' with rfl | hc'
     ·rw [nC] at e;cases e
     ·rw [nC] at hc';cases hc'
  ·refine wpAny_noRaise (thn (T.item (cxC X scope own cap fp s2 H1) rfl rfl rfl hc i [] s3 σ3 H3 (fun _ _=>False) I3 (stat fr3) st3 go) fun r s5 hq9=>?_)
   obtain⟨u,hr,h5⟩:=hq9;subst hr;refine wpAny_noRaise (thn h5 fun _ s6 hq9=>?_);obtain⟨x,H6,I6,r6,y6,st6,fr6⟩:=hq9;have I6':=I6.pinned (stat fr6) (T.obj _ _ st6);refine wpAny_noRaise (thn (hg fp s2 H1 _ s6 σ3 H6 x u _ I6' r6 (step x H6 y6)) fun _ s7 hq9=>?_);obtain⟨σ7,H7,I7,q7⟩:=hq9;refine wpAny_noRaise (thn (ht fp s2 H1 _ s7 σ7 H7 _ I7 q7) fun ok s8 hq9=>?_);obtain⟨H8,I8,q8⟩:=hq9;have again:∀ {σ9:St} {H9:Hp} {s9:Shared},Inv (cxC X scope own cap fp s2 H1) ([] ++ qb0o fp s6.heap) σ9 H9 s9->N σ9 H9->∃ m,m < n/\∃ i σ' H',Inv (cxC X scope own cap fp s2 H1) [] σ' H' s9/\tn i s9.heap/\(∀ b ∈ fp,H' b=none)/\W i m σ' H':=fun{σ9 H9 s9} I9 n9=>by
    obtain⟨m',hm,w9⟩:=hN σ9 H9 n9;refine⟨m',hm,i + 1,σ9,H9,I9.unpinned,T.keep _ _ _ st6 fun b hb o e=>(I9.pin (b,o) (mem_append_right _ (mem_append_right _ (qa6x hb e)))).1,fun b hb=>?_,w9⟩;obtain⟨o,e,d⟩:=T.obj _ _ st6 b hb;exact(I9.pin (b,o) (mem_append_right _ (mem_append_right _ (qa6x hb e)))).2.1
   cases ok with
   | false=>exact again I8 q8
   | true =>
    rw [if_pos rfl] at q8;rw [if_pos rfl];refine wpAny_noRaise (thn (he fp s2 H1 _ s8 σ7 H8 _ I8 q8) fun y s9 hq9=>?_);obtain⟨yv,H9,I9,r9,ys,hD,hz,q9⟩:=hq9;refine wpAny_noRaise (thn (qc3j _ s9 σ7 H9 (.ref s2.heap.objs.size) [yv] (.ref s2.heap.objs.size) [y] (fun _ H'=>N σ7 H') I9 rfl (.cons r9 .nil) ⟨_,ys,yv,rfl,rfl,hD,hz,q9⟩) fun _ s10 hq9=>?_);obtain⟨_,H10,I10,_,q10⟩:=hq9;exact again I10 q10
 exact codeAny_compStart_list loop (T.self X.A 0 _ _ _ st4 loop)
def qb1z{scope:Scope}(hnd:(scope.names.map (·.1)).Nodup):∀ x ∈ scope.names,x.2=.local->scope.names.lookup x.1=some .local:=fun x hx e=>by
 obtain⟨n,k⟩:=x;have e':k=.local:=e;subst e';exact qa3z hnd hx
def pe_comp{X:Cx}{elt tg iter:Expr}{ifs:List Expr}{scope:Scope}{pos:Pos}{own:List Str}{cap:List 'q'}{wi:TI}{g:TG}{tt:TT}{te:TE}
  (hc:X.calm=true) (hok:qa4t X scope own cap=true) (hnd:(scope.names.map (·.1)).Nodup) (hi:PI X tg iter wi)
  (hg:∀ fp s2 H2,PG (cxC X scope own cap fp s2 H2) tg g) (ht:∀ fp s2 H2,PIf (cxC X scope own cap fp s2 H2) ifs tt) (he:∀ fp s2 H2,PE (cxC X scope own cap fp s2 H2) elt te)
  (hs:∀ x,foldedSetIterable iter X.env x=pure x:=by intro _;rfl) :
  PE X (.ListComp elt [⟨tg,iter,ifs,0⟩] scope pos) (tComp own cap wi g tt te):=by
 intro pins s σ H Q I h;have hkind:=qa9p hok;have hclos:closureFor scope X.env=pure (clOf X.env scope.names []):=qb0m fun y hy hf=>I.ok.has y.1 (qa9q hok y hy hf);rw [eval_ListComp];refine wpAny_comprehension_free (use:=none) rfl hs hclos hkind (qb1z hnd) (thn (hi pins s σ H _ I h) fun xv s1 h1=>thn h1 fun itv s2 h2=>?_);obtain⟨it,fp,tn,J,H1,e,I2,T,st2,f2,hb⟩:=h2;subst e;refine wpAny_newObj_type (thn (qb6m (iter:=iter) (pos:=pos) (RR:=compPost (model X.prog X.w) X.A X.xe none (EP X pins σ Q) (.ref s2.heap.objs.size) (s2.heap.objs.size + 1)) hc hok hnd hg ht he I2 T st2 f2 (hb _ I2.fresh) fun s' H' m hI hm hnC z=>?_) fun cenv s4 ⟨e,q⟩=>?_)
 ·exact⟨m,hm,fun h' hs'=>⟨.ref s2.heap.objs.size,H',hI h' hs',rfl,z⟩⟩
 ·rw [← e] at q;exact q
def ps_setC{X:Cx}{i:Nat}{y:Str}{py spos:Pos}{elt tg iter:Expr}{ifs:List Expr}{scope:Scope}{pos:Pos}{own:List Str}{cap:List 'q'}{wi:TI}{g:TG}{tt:TT}{te:TE}
  (hN:X.N.Nodup) (hi':X.N[i]? = some y) (hy:X.env.scope.names.lookup y=some .local)
  (hc:X.calm=true) (hok:qa4t X scope own cap=true) (hnd:(scope.names.map (·.1)).Nodup) (hi:PI X tg iter wi)
  (hg:∀ fp s2 H2,PG (cxC X scope own cap fp s2 H2) tg g) (ht:∀ fp s2 H2,PIf (cxC X scope own cap fp s2 H2) ifs tt) (he:∀ fp s2 H2,PE (cxC X scope own cap fp s2 H2) elt te)
  (hsw:swapsWith (.ListComp elt [⟨tg,iter,ifs,0⟩] scope pos) (some (.Name y py)) spos.line X.env=pure true:=by rfl)
  (hs:∀ x,foldedSetIterable iter X.env x=pure x:=by intro _;rfl) :
  PS X (.Assign [.Name y py] (.ListComp elt [⟨tg,iter,ifs,0⟩] scope pos) spos) (tAsg (tComp own cap wi g tt te) (qa9n i)):=by
 intro pins s σ H D I h;have hkind:=qa9p hok;have hclos:closureFor scope X.env=pure (clOf X.env scope.names []):=qb0m fun y hy hf=>I.ok.has y.1 (qa9q hok y hy hf);rw [exec_Assign_Name_used _ _ _ _ hsw];refine wpAny_bind (wpAny_standAt (wpAny_bind ?_));show wpAny _ X.A (do let _ ← comprehension (.ListComp elt [⟨tg,iter,ifs,0⟩] scope pos) scope X.env _ (newList []) false (eval iter X.env) (some (assign (.Name y py) X.env))) _ _ s;refine wpAny_bind (wpAny_mono (wpAny_comprehension_free (use:=some (assign (.Name y py) X.env)) (Q:=fun _ s'=>SP X pins D .next s') rfl hs hclos hkind (qb1z hnd)
  (thn (hi pins s σ H _ I h) fun xv s1 h1=>thn h1 fun itv s2 h2=>?_)) (fun _ s' hq=>wpAny_pure (wpAny_pure hq)) fun _ _ e=>e)
 obtain⟨it,fp,tn,J,H1,e,I2,T,st2,f2,hb⟩:=h2;subst e;refine wpAny_newObj_type (thn (qb6m (iter:=iter) (pos:=pos) (RR:=compPost (model X.prog X.w) X.A X.xe (some (assign (.Name y py) X.env)) (fun _ s'=>SP X pins D .next s') (.ref s2.heap.objs.size) (s2.heap.objs.size + 1)) hc hok hnd hg ht he I2 T st2 f2 (hb _ I2.fresh) fun s' H' m hI hm hnC z=>?_) fun cenv s4 ⟨e,q⟩=>?_)
 ·show wpAny _ _ (assign (.Name y py) X.env (.ref s2.heap.objs.size)) _ _ s'
  have I':Inv X pins σ H' s':=hI s'.heap (Heap.SameBut.refl ..);refine wpAny_assign_Name (qb4n I' hN hi' (.inl hy) (v:=.ref s2.heap.objs.size) rfl (fun s'' I'' hsb=>?_) (.inr hy));obtain⟨a,hs1,ha⟩:=hsb;have nC:s2.heap.objs.size + 1 ≠ a:=by
   rintro rfl;rcases ha with ha | ha
   ·have q:=I2.lt
    rw [← ha] at q;exact absurd q (nlt (le_succ _))
   ·obtain⟨v,q⟩:=I2.cell _ _ ha
    exact absurd q.lt (nlt (le_succ _))
  refine⟨m,hm.sameBut hs1 nC,fun h' hs'=>⟨_,H',?_,z⟩⟩;obtain⟨_,f1,f2,f3,f4,f5⟩:=I2.fpOk (b:=s2.heap.objs.size + 1) (le_succ _) hnC;exact I''.turned (t':=s''.toks) (it:=s2.heap.objs.size + 1) (fun b o hb e=>(hs'.2 b hb).trans e) hnC f1 f3 f4 f5
 ·rw [← e] at q;exact q
end
section
def qa2s:bootBuiltins "len" = some (.builtin "len"):=by decide +kernel
def qb5p:bootBuiltins "isinstance" = some (.builtin "isinstance"):=by decide +kernel
def qb6n:bootBuiltins "int" = some (.type "int"):=by decide +kernel
def qb1r:bootBuiltins "bool" = some (.type "bool"):=by decide +kernel
def qb3a:bootBuiltins "str" = some (.type "str"):=by decide +kernel
def qa9b:bootBuiltins "list" = some (.type "list"):=by decide +kernel
def qa1a:bootBuiltins "tuple" = some (.type "tuple"):=by decide +kernel
noncomputable def kvE(p:Str × Int):Key × V:=(Sum.inr p.1,V.int p.2)
noncomputable def kvD(p:Str × Int):PyData × PyData:=(.str p.1,.int p.2)
inductive FD where
 | none
 | bool (b:Bool)
 | int (n:Int)
 | str (x:Str)
noncomputable def FD.v:FD->V
 | .none=>.non
 | .bool b=>.bl b
 | .int n=>.int n
 | .str x=>.str x
noncomputable def FD.d:FD->PyData
 | .none=>.none
 | .bool b=>.bool b
 | .int n=>.int n
 | .str x=>.str x
noncomputable def keyD:Key->PyData
 | .inl i=>.int i
 | .inr x=>.str x
noncomputable def gE(p:Key × FD):Key × V:=(p.1,p.2.v)
noncomputable def gD(p:Key × FD):PyData × PyData:=(keyD p.1,p.2.d)
noncomputable def emb(p:Str × Int):Key × FD:=(Sum.inr p.1,FD.int p.2)
def emb_E(ν:List (Str × Int)):(ν.map emb).map gE=ν.map kvE:=by rw [map_map];rfl
def emb_D(ν:List (Str × Int)):(ν.map emb).map gD=ν.map kvD:=by rw [map_map];rfl
mutual
noncomputable def AtD(K:W.Frag)(H:Hp)(S:Addr->Prop):PyData->V->Prop
 | .none,v=>v=.non
 | .bool b,v=>v=.bl b
 | .int i,v=>v=.int i
 | .str x,v=>v=.str x
 | .list ds,v=>∃ a xs,v=.ref a/\S a/\H a=some (.lst xs)/\qa0b K H S ds xs
 | .tuple ds,v=>∃ a xs,v=.ref a/\SqT K H a xs/\qa0b K H S ds xs
 | .dict kvs,v=>∃ (a:Addr) (κ:List (Key × V)),v=.ref a/\S a/\H a=some (.dK κ)/\qa0l K H S kvs κ
noncomputable def qa0b(K:W.Frag)(H:Hp)(S:Addr->Prop):List PyData->List V->Prop
 | [],vs=>vs=[]
 | d :: ds,vs=>∃ v r,vs=v :: r/\AtD K H S d v/\qa0b K H S ds r
noncomputable def qa0l(K:W.Frag)(H:Hp)(S:Addr->Prop):List (PyData × PyData)->List (Key × V)->Prop
 | [],κ=>κ=[]
 | (x,d) :: r,κ=>∃ k v t,κ=(k,v) :: t/\x=keyD k/\AtD K H S d v/\qa0l K H S r t
end
abbrev Any:Addr->Prop:=fun _=>True
abbrev But(t:Addr):Addr->Prop:=fun b=>b ≠ t
def Keep(S:Addr->Prop)(H H':Hp):Prop:=(∀ b xs,H b=some (.tup xs)->H' b=some (.tup xs))/\(∀ b o u,H b=some (.frz o u)->H' b=some (.frz o u))/\∀ b o,S b->H b=some o->H' b=some o
section
variable{K:W.Frag}{H H':Hp}{S S':Addr->Prop}
def Keep.refl(S:Addr->Prop)(H:Hp):Keep S H H:=⟨fun _ _ h=>h,fun _ _ _ h=>h,fun _ _ _ h=>h⟩
def Keep.less(e:Keep S H H')(h:∀ b,S' b->S b):Keep S' H H':=⟨e.1,e.2.1,fun b xs s q=>e.2.2 b xs (h b s) q⟩
def Same.keep(e:Same H H'):Keep S H H':=⟨fun b xs h=>e b _ h,fun b o xs h=>e b _ h,fun b xs _ h=>e b _ h⟩
def qc3u{p:Addr}{xs ys:List V}(h:H p=some (.lst xs)):Keep (But p) H (upd H p (.lst ys)):=
 ⟨fun b zs q=>by rw [qa0v (ne_of q h (by intro z;cases z))];exact q,fun b o zs q=>by rw [qa0v (ne_of q h (by intro z;cases z))];exact q,fun b zs hb q=>by rw [qa0v hb];exact q⟩
def Keep.seqT{a:Addr}{xs:List V}(e:Keep S H H')(h:SqT K H a xs):SqT K H' a xs:=by
 rcases h with(h | ⟨o,h⟩) | h
 ·exact .inl (.inl (e.1 _ _ h))
 ·exact .inl (.inr ⟨o,e.2.1 _ _ _ h⟩)
 ·exact .inr h
def qa0y{H:Hp}{p:Addr}(h:H p=none)(o:HO):Same H (upd H p o):=fun b u q=>by rw [qa0v (qa2n q h)];exact q
mutual
def AtD.mono(e:Keep S H H'):∀ (d:PyData) (v:V),AtD K H S d v->AtD K H' S d v
 | .none,_,h=>by unfold AtD at h ⊢;exact h
 | .bool _,_,h=>by unfold AtD at h ⊢;exact h
 | .int _,_,h=>by unfold AtD at h ⊢;exact h
 | .str _,_,h=>by unfold AtD at h ⊢;exact h
 | .list ds,v,h=>by
  unfold AtD at h ⊢;obtain⟨a,xs,e1,s,q,r⟩:=h;exact⟨a,xs,e1,s,e.2.2 _ _ s q,qa0b.mono e ds xs r⟩
 | .tuple ds,v,h=>by
  unfold AtD at h ⊢;obtain⟨a,xs,e1,q,r⟩:=h;exact⟨a,xs,e1,e.seqT q,qa0b.mono e ds xs r⟩
 | .dict kvs,v,h=>by
  unfold AtD at h ⊢;obtain⟨a,ν,e1,s,q,e2⟩:=h;exact⟨a,ν,e1,s,e.2.2 a _ s q,qa0l.mono e kvs ν e2⟩
def qa0b.mono(e:Keep S H H'):∀ (ds:List PyData) (vs:List V),qa0b K H S ds vs->qa0b K H' S ds vs
 | [],_,h=>by unfold qa0b at h ⊢;exact h
 | d :: ds,vs,h=>by
  unfold qa0b at h ⊢;obtain⟨v,r,e1,h1,h2⟩:=h;exact⟨v,r,e1,AtD.mono e d v h1,qa0b.mono e ds r h2⟩
def qa0l.mono(e:Keep S H H'):∀ (kvs:List (PyData × PyData)) (κ:List (Key × V)),qa0l K H S kvs κ->qa0l K H' S kvs κ
 | [],_,h=>by unfold qa0l at h ⊢;exact h
 | (x,d) :: r,κ,h=>by
  unfold qa0l at h ⊢;obtain⟨k,v,t,e1,e2,h1,h2⟩:=h;exact⟨k,v,t,e1,e2,AtD.mono e d v h1,qa0l.mono e r t h2⟩
end
mutual
def AtD.more(e:∀ b,S b->S' b):∀ (d:PyData) (v:V),AtD K H S d v->AtD K H S' d v
 | .none,_,h=>by unfold AtD at h ⊢;exact h
 | .bool _,_,h=>by unfold AtD at h ⊢;exact h
 | .int _,_,h=>by unfold AtD at h ⊢;exact h
 | .str _,_,h=>by unfold AtD at h ⊢;exact h
 | .list ds,v,h=>by
  unfold AtD at h ⊢;obtain⟨a,xs,e1,s,q,r⟩:=h;exact⟨a,xs,e1,e a s,q,qa0b.more e ds xs r⟩
 | .tuple ds,v,h=>by
  unfold AtD at h ⊢;obtain⟨a,xs,e1,q,r⟩:=h;exact⟨a,xs,e1,q,qa0b.more e ds xs r⟩
 | .dict kvs,v,h=>by
  unfold AtD at h ⊢;obtain⟨a,ν,e1,s,q,e2⟩:=h;exact⟨a,ν,e1,e a s,q,qa0l.more e kvs ν e2⟩
def qa0b.more(e:∀ b,S b->S' b):∀ (ds:List PyData) (vs:List V),qa0b K H S ds vs->qa0b K H S' ds vs
 | [],_,h=>by unfold qa0b at h ⊢;exact h
 | d :: ds,vs,h=>by
  unfold qa0b at h ⊢;obtain⟨v,r,e1,h1,h2⟩:=h;exact⟨v,r,e1,AtD.more e d v h1,qa0b.more e ds r h2⟩
def qa0l.more(e:∀ b,S b->S' b):∀ (kvs:List (PyData × PyData)) (κ:List (Key × V)),qa0l K H S kvs κ->qa0l K H S' kvs κ
 | [],_,h=>by unfold qa0l at h ⊢;exact h
 | (x,d) :: r,κ,h=>by
  unfold qa0l at h ⊢;obtain⟨k,v,t,e1,e2,h1,h2⟩:=h;exact⟨k,v,t,e1,e2,AtD.more e d v h1,qa0l.more e r t h2⟩
end
mutual
noncomputable def qa7x:PyData->Bool
 | .none=>true | .bool _=>true | .int _=>true | .str _=>true
 | .list _=>false
 | .tuple ds=>qb1s ds
 | .dict _=>false
noncomputable def qb1s:List PyData->Bool
 | []=>true
 | d :: ds=>qa7x d && qb1s ds
end
mutual
def AtD.tups:∀ (d:PyData) (v:V),qa7x d=true->AtD K H S d v->AtD K H S' d v
 | .none,_,_,h=>by unfold AtD at h ⊢;exact h
 | .bool _,_,_,h=>by unfold AtD at h ⊢;exact h
 | .int _,_,_,h=>by unfold AtD at h ⊢;exact h
 | .str _,_,_,h=>by unfold AtD at h ⊢;exact h
 | .list ds,v,t,h=>by unfold qa7x at t;cases t
 | .tuple ds,v,t,h=>by
  unfold qa7x at t;unfold AtD at h ⊢;obtain⟨a,xs,e1,q,r⟩:=h;exact⟨a,xs,e1,q,qa0b.tups ds xs t r⟩
 | .dict _,_,t,_=>by unfold qa7x at t;cases t
def qa0b.tups:∀ (ds:List PyData) (vs:List V),qb1s ds=true->qa0b K H S ds vs->qa0b K H S' ds vs
 | [],_,_,h=>by unfold qa0b at h ⊢;exact h
 | d :: ds,vs,t,h=>by
  unfold qb1s at t;rw [and_eq_true] at t;unfold qa0b at h ⊢;obtain⟨v,r,e1,h1,h2⟩:=h;exact⟨v,r,e1,AtD.tups d v t.1 h1,qa0b.tups ds r t.2 h2⟩
end
def qa0b.nil:qa0b K H S [] []:=by unfold qa0b;rfl
def qa0b.cons{d:PyData}{ds:List PyData}{v:V}{vs:List V}(h:AtD K H S d v)(t:qa0b K H S ds vs):qa0b K H S (d :: ds) (v :: vs):=by
 unfold qa0b;exact⟨v,vs,rfl,h,t⟩
def qa0b.uncons{d:PyData}{ds:List PyData}{vs:List V}(h:qa0b K H S (d :: ds) vs):∃ v r,vs=v :: r/\AtD K H S d v/\qa0b K H S ds r:=by
 unfold qa0b at h;exact h
def qa0b.unnil{vs:List V}(h:qa0b K H S [] vs):vs=[]:=by unfold qa0b at h;exact h
def qa0b.length:∀ {ds:List PyData} {vs:List V},qa0b K H S ds vs->vs.length=ds.length
 | [],_,h=>by rw [h.unnil];rfl
 | d :: ds,vs,h=>by
  obtain⟨v,r,e,_,t⟩:=h.uncons;rw [e,length_cons,length_cons,qa0b.length t]
def qa0b.get:∀ {ds:List PyData} {vs:List V} {i:Nat} {d:PyData},qa0b K H S ds vs->ds[i]? = some d->∃ v,vs[i]? = some v/\AtD K H S d v
 | [],_,i,d,_,e=>by simp at e
 | d' :: ds,vs,0,d,h,e=>by
  obtain⟨v,r,rfl,hd,t⟩:=h.uncons;simp at e;subst e;exact⟨v,by simp,hd⟩
 | d' :: ds,vs,i + 1,d,h,e=>by
  obtain⟨v,r,rfl,hd,t⟩:=h.uncons;obtain⟨w,e1,e2⟩:=qa0b.get (i:=i) t (by simpa using e);exact⟨w,by simpa using e1,e2⟩
def qa0b.append:∀ {ds es:List PyData} {vs ws:List V},qa0b K H S ds vs->qa0b K H S es ws->qa0b K H S (ds ++ es) (vs ++ ws)
 | [],_,_,_,h,t=>by rw [h.unnil];exact t
 | d :: ds,es,vs,ws,h,t=>by
  obtain⟨v,r,rfl,hd,q⟩:=h.uncons;exact .cons hd (qa0b.append q t)
def qa0b.snoc{ds:List PyData}{vs:List V}{d:PyData}{v:V}(h:qa0b K H S ds vs)(hd:AtD K H S d v):qa0b K H S (ds ++ [d]) (vs ++ [v]):=h.append (.cons hd .nil)
def qa0b.drop:∀ {ds:List PyData} {vs:List V} (n:Nat),qa0b K H S ds vs->qa0b K H S (ds.drop n) (vs.drop n)
 | _,_,0,h=>by simpa using h
 | [],vs,n + 1,h=>by rw [h.unnil];exact .nil
 | d :: ds,vs,n + 1,h=>by
  obtain⟨v,r,rfl,hd,q⟩:=h.uncons;exact qa0b.drop n q
def qa0b.take:∀ {ds:List PyData} {vs:List V} (n:Nat),qa0b K H S ds vs->qa0b K H S (ds.take n) (vs.take n)
 | _,_,0,h=>by simpa using qa0b.nil
 | [],vs,n + 1,h=>by rw [h.unnil];exact .nil
 | d :: ds,vs,n + 1,h=>by
  obtain⟨v,r,rfl,hd,q⟩:=h.uncons;exact .cons hd (qa0b.take n q)
def qa9r:AtD K H S .none .non:=by unfold AtD;rfl
def qa1u(b:Bool):AtD K H S (.bool b) (.bl b):=by unfold AtD;rfl
def qa2r(i:Int):AtD K H S (.int i) (.int i):=by unfold AtD;rfl
def qa4z(x:Str):AtD K H S (.str x) (.str x):=by unfold AtD;rfl
def qb4a{v:V}(h:AtD K H S .none v):v=.non:=by unfold AtD at h;exact h
def qa7p{b:Bool}{v:V}(h:AtD K H S (.bool b) v):v=.bl b:=by unfold AtD at h;exact h
def qa9c{i:Int}{v:V}(h:AtD K H S (.int i) v):v=.int i:=by unfold AtD at h;exact h
def qb0s{x:Str}{v:V}(h:AtD K H S (.str x) v):v=.str x:=by unfold AtD at h;exact h
def qa3e{ds:List PyData}{v:V}(h:AtD K H S (.tuple ds) v):∃ a xs,v=.ref a/\SqT K H a xs/\qa0b K H S ds xs:=by unfold AtD at h;exact h
def qa4a{ds:List PyData}{v:V}(h:AtD K H S (.list ds) v):∃ a xs,v=.ref a/\S a/\H a=some (.lst xs)/\qa0b K H S ds xs:=by unfold AtD at h;exact h
def qa5a{ds:List PyData}{a:Addr}{xs:List V}(q:SqT K H a xs)(h:qa0b K H S ds xs):AtD K H S (.tuple ds) (.ref a):=by unfold AtD;exact⟨a,xs,rfl,q,h⟩
def qa2f{ds:List PyData}{a:Addr}{xs:List V}(s:S a)(q:H a=some (.lst xs))(h:qa0b K H S ds xs):AtD K H S (.list ds) (.ref a):=by unfold AtD;exact⟨a,xs,rfl,s,q,h⟩
def qb1t{kvs:List (PyData × PyData)}{v:V}(h:AtD K H S (.dict kvs) v):∃ (a:Addr) (κ:List (Key × V)),v=.ref a/\S a/\H a=some (.dK κ)/\qa0l K H S kvs κ:=by unfold AtD at h;exact h
def qb0t{kvs:List (PyData × PyData)}{κ:List (Key × V)}{a:Addr}(s:S a)(q:H a=some (.dK κ))(h:qa0l K H S kvs κ):AtD K H S (.dict kvs) (.ref a):=by unfold AtD;exact⟨a,κ,rfl,s,q,h⟩
def qa0l.nil:qa0l K H S [] []:=by unfold qa0l;rfl
def qa0l.cons{k:Key}{v:V}{d:PyData}{r:List (PyData × PyData)}{t:List (Key × V)}(h:AtD K H S d v)(hr:qa0l K H S r t):qa0l K H S ((keyD k,d) :: r) ((k,v) :: t):=by
 unfold qa0l;exact⟨k,v,t,rfl,rfl,h,hr⟩
def qa0l.uncons{x d:PyData}{r:List (PyData × PyData)}{κ:List (Key × V)}(h:qa0l K H S ((x,d) :: r) κ):∃ k v t,κ=(k,v) :: t/\x=keyD k/\AtD K H S d v/\qa0l K H S r t:=by unfold qa0l at h;exact h
def qa0l.unnil{κ:List (Key × V)}(h:qa0l K H S [] κ):κ=[]:=by unfold qa0l at h;exact h
def FD.at(f:FD):AtD K H S f.d f.v:=by
 cases f with
 | none=>exact qa9r
 | bool b=>exact qa1u b
 | int n=>exact qa2r n
 | str x=>exact qa4z x
def qa0l.flat:∀ (κ:List (Key × FD)),qa0l K H S (κ.map gD) (κ.map gE)
 | []=>.nil
 | (k,f) :: r=>.cons f.at (qa0l.flat r)
def qc3v{κ:List (Key × FD)}{a:Addr}(s:S a)(q:H a=some (.dK (κ.map gE))):AtD K H S (.dict (κ.map gD)) (.ref a):=qb0t s q (qa0l.flat κ)
def qc5r{ν:List (Str × Int)}{a:Addr}(s:S a)(q:H a=some (.dK (ν.map kvE))):AtD K H S (.dict (ν.map kvD)) (.ref a):=by
 rw [← emb_D];rw [← emb_E] at q;exact qc3v s q
def qa9s{ds:List PyData}{p:Addr}{xs:List V}(hp:H p=none)(h:qa0b K H S ds xs):AtD K (upd H p (.tup xs)) S (.tuple ds) (.ref p):=
 qa5a (SqT.of qa0n) (qa0b.mono (qa0y hp _).keep _ _ h)
def qc5s{ds:List PyData}{p:Addr}{xs:List V}(s:S p)(hp:H p=none)(h:qa0b K H S ds xs):AtD K (upd H p (.lst xs)) S (.list ds) (.ref p):=
 qa2f s qa0n (qa0b.mono (qa0y hp _).keep _ _ h)
end
def qc3w(h:Heap){k:Key}{u:Value}(q:keyIs k u=true):Reads h u (keyD k) []:=by
 rcases qa2a q with⟨i,t,e',h'⟩ | ⟨x,t,e',h'⟩
 ·rw [e',h'];exact .int i t
 ·rw [e',h'];exact .str x t
section
variable{X:Cx}{pins:List 'b'}{σ:St}{H:Hp}{s:Shared}{S:Addr->Prop}
mutual
def AtD.reads(I:Inv X pins σ H s):∀ (d:PyData) (v:V) (u:Value),AtD X.K H S d v->RelV v u->∃ as,Reads s.heap u d as
 | .none,v,u,h,r=>by cases qb4a h;cases r;exact⟨_,.none⟩
 | .bool b,v,u,h,r=>by cases qa7p h;cases r;exact⟨_,.bool b⟩
 | .int i,v,u,h,r=>by cases qa9c h;obtain⟨t,rfl⟩:=r;exact⟨_,.int i t⟩
 | .str x,v,u,h,r=>by cases qb0s h;obtain⟨t,rfl⟩:=r;exact⟨_,.str x t⟩
 | .list ds,v,u,h,r=>by
  obtain⟨a,xs,rfl,_,q,t⟩:=qa4a h;cases r;obtain⟨its,rv,⟨o,n,e,hc,_,hd⟩,_⟩:=I.list (SqL.of q);obtain⟨as,ra⟩:=qa0b.reads I ds xs its t rv;exact⟨_,.list e hc hd (by simpa using ra)⟩
 | .tuple ds,v,u,h,r=>by
  obtain⟨a,xs,rfl,q,t⟩:=qa3e h;cases r;obtain⟨its,rv,⟨o,e,hc,n,hd⟩,_⟩:=I.tuple q;obtain⟨as,ra⟩:=qa0b.reads I ds xs its t rv;exact⟨_,.tuple e hc hd (by simpa using ra)⟩
 | .dict kvs,v,u,h,r=>by
  obtain⟨a,ν,rfl,_,q,t⟩:=qb1t h;cases r;obtain⟨_,_,vs,kv,o,es,ep,e,hc,hd,_,hp,_⟩:=(show qa2x X.prog X.w H s.heap a (.dK ν) from I.hok a _ q);obtain⟨as,bs,r1,r2⟩:=qa0l.reads I kvs ν vs es.toList t kv hp;exact⟨_,.dict e hc.1 hd r1 r2⟩
def qa0b.reads(I:Inv X pins σ H s):∀ (ds:List PyData) (vs:List V) (us:List Value),qa0b X.K H S ds vs->Vals vs us->∃ as,ReadsAll s.heap us ds as
 | [],vs,us,h,r=>by
  cases h.unnil
  cases r
  exact⟨_,.nil⟩
 | d :: ds,vs,us,h,r=>by
  obtain⟨v,vr,rfl,hd,t⟩:=h.uncons;cases r with
  | cons r1 r2 =>
   obtain⟨as,q1⟩:=AtD.reads I d v _ hd r1;obtain⟨bs,q2⟩:=qa0b.reads I ds vr _ t r2;exact⟨_,.cons q1 q2⟩
def qa0l.reads(I:Inv X pins σ H s):∀ (kvs:List (PyData × PyData)) (κ:List (Key × V)) (vs:List (Key × Value)) (es:List DictEntry),qa0l X.K H S kvs κ->KV κ vs->Pairs (qb3x X.prog X.w) es vs->∃ as bs,ReadsAll s.heap (es.map (·.key)) (kvs.map (·.1)) as/\ReadsAll s.heap (es.map (·.val)) (kvs.map (·.2)) bs
 | [],κ,vs,es,h,r,q=>by
  cases h.unnil
  cases r
  cases q
  exact⟨_,_,.nil,.nil⟩
 | (x,d) :: kr,κ,vs,es,h,r,q=>by
  obtain⟨k,v,t,rfl,rfl,h1,h2⟩:=h.uncons;cases r with
  | cons r1 r2 =>
   cases q with
   | cons q1 q2 q3 =>
    rename_i kv _ e _;obtain⟨kk,kv2⟩:=kv;obtain⟨e1,e2⟩:=r1;cases e1;obtain⟨a1,w1⟩:=AtD.reads I d v kv2 h1 e2;obtain⟨as,bs,c1,c2⟩:=qa0l.reads I kr t _ _ h2 r2 q3;have hk:Reads s.heap e.key (keyD k) []:=qc3w _ (show keyIs k e.key=true from q1);have g1:=ReadsAll.cons hk c1;have g2:=ReadsAll.cons w1 c2;rw [show kv2=e.val from q2.symm] at g2;exact⟨_,_,g1,g2⟩
end
end
section
variable{X:Cx}
def qc0b{K:W.Frag}{H:Hp}{S:Addr->Prop}{ds:List PyData}{xs:List V}{i:Int}{d:PyData}(h:qa0b K H S ds xs)(e:atI ds i=some d):∃ v,atI xs i=some v/\AtD K H S d v:=by
 unfold atI at e ⊢;rw [h.length];cases q:ixN ds.length i with
 | none=>rw [q] at e;cases e
 | some j =>
  rw [q] at e;obtain⟨v,e1,e2⟩:=h.get (show ds[j]? = some d from e);exact⟨v,e1,e2⟩
def rEqD(K:W.Frag)(neg:Bool):R2:=fun x y H Q=>∃ S S' d e,AtD K H S d x/\AtD K H S' e y/\SeqAt.shaped d=true/\SeqAt.shaped e=true/\Q (.bl (if neg then !PyData.eqv d e else PyData.eqv d e)) H
def op_eqD(hu:X.A.units + 64 < cLine):OpR X (compareOp .Eq) (rEqD X.K false):=by
 intro pins s σ H x y v u Q I rx ry h;obtain⟨S,S',d,e,hd,he,sd,se,q⟩:=h;obtain⟨as,ra⟩:=AtD.reads I d x v hd rx;obtain⟨bs,rb⟩:=AtD.reads I e y u he ry;exact SeqAt.compareEq_shaped ra rb sd se hu ⟨.bl _,H,I,rfl,q⟩
def op_neD(hu:X.A.units + 64 < cLine):OpR X (compareOp .NotEq) (rEqD X.K true):=by
 intro pins s σ H x y v u Q I rx ry h;obtain⟨S,S',d,e,hd,he,sd,se,q⟩:=h;obtain⟨as,ra⟩:=AtD.reads I d x v hd rx;obtain⟨bs,rb⟩:=AtD.reads I e y u he ry;exact SeqAt.compareNe_shaped ra rb sd se hu ⟨.bl _,H,I,rfl,q⟩
noncomputable def tyD:PyData->String
 | .none => "NoneType" | .bool _ => "bool" | .int _ => "int" | .str _ => "str" | .list _ => "list" | .tuple _ => "tuple" | .dict _ => "dict"
noncomputable def isD(T:String)(d:PyData):Bool:=tyD d == T || (T == "int" && tyD d == "bool")
def pe_ty{x:Str}{T:String}{pos:Pos}(hg:Gl X x)(hm:X.mg x=none)(hv:bootBuiltins x=some (.type T)) (hn:x ≠ "__name__":=by decide) (hd:(x == ("__debug__" : Str))=false:=by decide):PE X (.Name x pos) (tC (.ty T)):=
 pe_bltn hg hm hv rfl hn hd
def qc5t{pins:List 'b'}{s:Shared}{σ:St}{H:Hp}{S:Addr->Prop}{d:PyData}{v:V}{u:Value}{T:String}{Q:VK}(I:Inv X pins σ H s)(h:AtD X.K H S d v)(r:RelV v u)
  (ht:PySem.W.kitOne X.K (.type (tyD d)) (.type T)=some (isD T d)) (q:Q (.bl (isD T d)) H) :
  wpAny (model X.prog X.w) X.A (call (.builtin "isinstance") [u,.type T]) (EP X pins σ Q) X.xe s:=by
 have fin:∀ tk,EP X pins σ Q (.bool (isD T d)) { s with toks:=tk }:=fun tk=>⟨.bl _,H,I.tok tk,rfl,q⟩;cases d with
 | none=>cases qb4a h;cases r;exact PySem.W.kia_one PySem.W.kitx_none I.kIn True.intro ht (fun z=>nomatch z) fin
 | bool b=>cases qa7p h;cases r;exact PySem.W.kia_one PySem.W.kitx_bool I.kIn True.intro ht (fun z=>nomatch z) fin
 | int i=>cases qa9c h;obtain⟨t,rfl⟩:=r;exact PySem.W.kia_one PySem.W.kitx_int I.kIn True.intro ht (fun z=>nomatch z) fin
 | str x=>cases qb0s h;obtain⟨t,rfl⟩:=r;exact PySem.W.kia_one PySem.W.kitx_str I.kIn True.intro ht (fun z=>nomatch z) fin
 | list ds =>
  obtain⟨a,xs,rfl,_,hq,_⟩:=qa4a h;cases r;obtain⟨its,_,⟨o,n,e,hc,_,hd⟩,_⟩:=I.list (SqL.of hq);exact PySem.W.kia_one PySem.W.kitx_list I.kIn ⟨o,e,hc⟩ ht (fun z=>nomatch z) fin
 | tuple ds =>
  obtain⟨a,xs,rfl,hq,_⟩:=qa3e h;cases r;obtain⟨its,_,⟨o,e,hc,n,hd⟩,_⟩:=I.tuple hq;exact PySem.W.kia_one PySem.W.kitx_tuple I.kIn ⟨o,e,hc⟩ ht (fun z=>nomatch z) fin
 | dict kvs =>
  obtain⟨a,ν,rfl,_,hq,_⟩:=qb1t h;cases r;obtain⟨_,_,vs,kv,o,es,ep,e,hc,hd,_,hp,_⟩:=(show qa2x X.prog X.w H s.heap a (.dK ν) from I.hok a _ hq);exact PySem.W.kia_one PySem.W.kitx_dict I.kIn ⟨o,e,hc.1⟩ ht (fun z=>nomatch z) fin
noncomputable def qa6c(T:String):Bool:=T == "int" || T == "str" || T == "bool" || T == "list" || T == "tuple" || T == "dict"
def kit_ok(K:W.Frag)(d:PyData)(T:String)(hT:qa6c T=true):PySem.W.kitOne K (.type (tyD d)) (.type T)=some (isD T d):=by
 simp only [qa6c,Bool.or_eq_true,beq_iff_eq] at hT;rcases hT with((((rfl | rfl) | rfl) | rfl) | rfl) | rfl<;>cases d<;>rfl
def qc5u:qa2l X (.builtin "isinstance") (fun xs H Q=>∃ v S d T,xs=[v,.ty T]/\AtD X.K H S d v/\qa6c T=true/\Q (.bl (isD T d)) H):=by
 intro pins s σ H xs us Q I rs h;obtain⟨v,S,d,T,rfl,hd,hT,q⟩:=h;obtain⟨u,u2,rfl,r1,r2⟩:=rs.two;cases r2;exact qc5t I hd r1 (kit_ok X.K d T hT) q
end
section
variable{X:Cx}{tg:Expr}
def iDat(K:W.Frag)(tl:TE):TI:=fun σ H R=>tl σ H fun x H1=>(∃ a,x=.ref a/\(∃ xs,SqT K H1 a xs)/\R (Itt K a) H1) ∨ (∃ a,x=.ref a/\(∃ xs,SqL K H1 a xs)/\R (Itl K a) H1)
def pi_dat{l:Expr}{tl:TE}(hl:PE X l tl):PI X tg l (iDat X.K tl):=by
 intro pins s σ H R I h;refine thn (hl pins s σ H (fun x H1=>(∃ a,x=.ref a/\(∃ xs,SqT X.K H1 a xs)/\R (Itt X.K a) H1) ∨ (∃ a,x=.ref a/\(∃ xs,SqL X.K H1 a xs)/\R (Itl X.K a) H1)) I h) fun v s1 hq9=>?_;obtain⟨x,H1,I1,r1,q1⟩:=hq9;rcases q1 with⟨a,rfl,⟨xs,hq⟩,q⟩ | ⟨a,rfl,⟨xs,hq⟩,q⟩
 ·cases r1
  obtain⟨its,rv,p,hz⟩:=I1.tuple hq;refine wpAny_pyIter_tuple (show s1.heap.IsTuple a its.toArray from p) ?_;refine⟨s1.heap.objs.size,[s1.heap.objs.size],_,_,H1,rfl,I1.kept (t':=s1.toks) fun b o e=>get?_push_of_some _ e,qc1d a _,⟨_,get?_push_size _ rfl,rfl,rfl⟩,fun b hb=>?_,q⟩;have e:b=s1.heap.objs.size:=by simpa using hb
  subst e;exact I1.fpOk 'c' (I1.hok.fresh 'c')
 ·cases r1
  obtain⟨its,rv,p,hz⟩:=I1.list hq;refine wpAny_pyIter_list p.isList ?_;refine⟨s1.heap.objs.size,[s1.heap.objs.size],_,_,H1,rfl,I1.kept (t':=s1.toks) fun b o e=>get?_push_of_some _ e,qc3d a _,⟨_,get?_push_size _ rfl,rfl,rfl⟩,fun b hb=>?_,q⟩;have e:b=s1.heap.objs.size:=by simpa using hb
  subst e;exact I1.fpOk 'c' (I1.hok.fresh 'c')
end
end
end L2
section
namespace L2
open PySem PySem.Spec PyProof.Rows
structure Def(K:W.Frag)(mg:Str->Option Value)(x:Str)(st:Stmt)(ps:List Str)(f:Addr)(fd:FuncData):Prop where
 fn:Fun K x x st f fd
 bd:Binds K fd ps []
 gl:mg x=some (.ref f)
section
variable{X:Cx}{k:Nat}{f:Addr}{fd:FuncData}{ps:List Str}{sp:Sp}{x:Str}{st:Stmt}{p pos:Pos}{e:Expr}{es:List Expr}{t:TA}
def qb2l(d:Def X.K X.mg x st ps f fd)(g:FnOk X.prog X.w X.K X.mg X.base CX0 k f fd ps sp)(hr:Room k X.A)(hg:Gl X x)(ha:PA X (e :: es) t) (hdb:(x == ("__debug__" : Str))=false:=by decide)
  (he:starEach (e :: es) X.env=(false,eval e X.env) :: starEach es X.env:=by rfl) (hpl:(backTo pos (starEach es X.env)).any (·.1)=false:=by rfl):PE X (.Call (.Name x p) (e :: es) [] pos) (tCall sp [] E0 t):=
 pe_call g hr hg d.gl d.fn.kp d.bd .nil pass0 ha hdb he hpl
end
section
variable{X:Cx}
def ints_of_all{K:W.Frag}{H:Hp}{S:Addr->Prop}:∀ {ns:List Int} {xs:List V},qa0b K H S (ns.map .int) xs->xs=ns.map V.int
 | [],xs,h=>by rw [h.unnil];rfl
 | n :: r,xs,h=>by
  obtain⟨v,vr,rfl,hd,t⟩:=h.uncons;rw [qa9c hd,ints_of_all t];rfl
end
end L2
namespace L2
open PySem PySem.Spec PyProof.Rows
def Frs(S:Addr->Prop)(H:Hp):Prop:=∀ p,H p=none->S p
section
variable{K:W.Frag}{S:Addr->Prop}{σ:St}{H:Hp}{d:PyData}{ds:List PyData}{t te:TE}{ta:TA}
def atI_in{α:Type}{xs:List α}{i:Int}(h0:0 <= i)(h1:i < xs.length):∃ x,atI xs i=some x/\x ∈ xs/\xs[i.toNat]? = some x:=by
 have hk:i.toNat < xs.length:=by omega
 have ei:i=((i.toNat:Nat):Int):=by omega
 have q:atI xs ((i.toNat:Nat):Int)=some xs[i.toNat]:=qa7o (getElem?_eq_getElem hk);rw [← ei] at q;exact⟨_,q,getElem_mem hk,getElem?_eq_getElem hk⟩
end
end L2
end
namespace L2
open PySem PySem.Spec PyProof.Rows
section
inductive Ents (w:World):List DictEntry->List (Str × V)->Prop where
 | nil:Ents w [] []
 | cons {x:Str} {t:Tok} {u:Value} {v:V} {es:List DictEntry} {kvs:List (Str × V)}:RelV v u->Ents w es kvs->Ents w (⟨PyData.keyHash w.params x,.str x t,u⟩ :: es) ((x,v) :: kvs)
end
section
inductive L where
 /-- data that nobody changes any more -/
 | d (x:PyData)
 /-- a list that this name alone has -/
 | own (xs:List PyData)
 /-- a list of a caller's, lent to be changed -/
 | bor (xs:List PyData)
 /-- the tape: the script and how many draws were made -/
 | tape (k:Nat)
 /-- the script -/
 | scr
abbrev Rho:=List (Option L)
abbrev Own:=Nat->Option Addr
structure Rc where
 H0:Hp
 S:Addr->Prop
 P:Addr->Prop
 M:Addr->Prop
 A:Addr->Prop
 B:Addr->Prop
 lent:Own
 sa:Addr
 ns:List Int
noncomputable def isIO:L->Bool
 | .bor _=>true
 | .tape _=>true
 | _=>false
noncomputable def live(c:Rc)(O:Own):Addr->Prop:=fun a=>c.S a/\¬ c.P a/\∀ i,O i ≠ some a
def qa9t(c:Rc)(p:Addr):Prop:=¬ c.B p/\c.S p/\¬ c.P p
def Scr(K:W.Frag)(H:Hp)(a:Addr)(xs:List V):Prop:=xs.length <= 63 /\
 ((∃ o,H a=some (.frz o (.lst xs))) ∨ ∃ (o:Obj) (its:Array Value) (n:Nat),K.lookup a=some o/\o.cls=.type "list" /\ o.dict=none/\o.data=.seq its n/\its.size <= sizeLine/\Vals xs its.toList)
def Scr.seq{K:W.Frag}{H:Hp}{a:Addr}{xs:List V}(h:Scr K H a xs):SqL K H a xs:=by
 rcases h.2 with⟨o,h⟩ | h
 ·exact .inl (.inr ⟨o,h⟩)
 ·exact .inr h
structure Rel(K:W.Frag)(c:Rc)(O:Own)(ρ:Rho)(σ:St)(H:Hp):Prop where
 dat:∀ (i:Nat) (x:PyData),ρ[i]? = some (some (L.d x))->∃ v,σ[i]? = some (some v)/\AtD K H (live c O) x v
 own:∀ (i:Nat) (xs:List PyData),ρ[i]? = some (some (.own xs))->∃ p vs,O i=some p/\qa9t c p/\σ[i]? = some (some (.ref p))/\H p=some (.lst vs)/\qa0b K H (live c O) xs vs
 bor:∀ (i:Nat) (xs:List PyData),ρ[i]? = some (some (.bor xs))->∃ p vs,O i=some p/\σ[i]? = some (some (.ref p))/\H p=some (.lst vs)/\qa0b K H (live c O) xs vs
 tap:∀ (i k:Nat),ρ[i]? = some (some (.tape k))->∃ p,O i=some p/\σ[i]? = some (some (.ref p))/\H p=some (.lst [.ref c.sa,.int k])
 scr:∀ i:Nat,ρ[i]? = some (some .scr)->σ[i]? = some (some (.ref c.sa))
 inj:∀ i j p,O i=some p->O j=some p->i=j
 has':∀ i p,O i=some p->c.A p/\∃ vs,H p=some (.lst vs)
 am:∀ p,c.A p->c.M p ∨ c.H0 p=none
 frs:∀ p,c.H0 p=none->c.S p
 same:∀ b o,¬ c.M b->c.H0 b=some o->H b=some o
 kept:∀ b,c.H0 b ≠ none->H b ≠ none
 ml:∀ p,c.M p->∃ vs,H p=some (.lst vs)
 pin:∀ p,c.P p ∨ c.B p->H p ≠ none
 lnt:∀ (i:Nat) (p:Addr),c.lent i=some p->∀ l:L,ρ[i]? = some (some l)->isIO l=true->O i=some p
 sc:Scr K H c.sa (c.ns.map V.int)
 len:σ.length=ρ.length
def Rel.has{K:W.Frag}{c:Rc}{O:Own}{ρ:Rho}{σ:St}{H:Hp}(R:Rel K c O ρ σ H)(i:Nat)(p:Addr)(h:O i=some p):(c.M p ∨ c.H0 p=none)/\∃ vs,H p=some (.lst vs):=⟨R.am p (R.has' i p h).1,(R.has' i p h).2⟩
def Pers(K:W.Frag)(S:Addr->Prop)(H:Hp)(S':Addr->Prop)(H':Hp):Prop:=∀ d v,AtD K H S d v->AtD K H' S' d v
section
variable{K:W.Frag}{S S' S2:Addr->Prop}{H H' H2:Hp}
def Pers.refl:Pers K S H S H:=fun _ _ h=>h
def Pers.trans(a:Pers K S H S' H')(b:Pers K S' H' S2 H2):Pers K S H S2 H2:=fun d v h=>b d v (a d v h)
def Pers.all(a:Pers K S H S' H'):∀ {ds:List PyData} {vs:List V},qa0b K H S ds vs->qa0b K H' S' ds vs
 | [],_,h=>by rw [h.unnil];exact .nil
 | d :: ds,vs,h=>by
  obtain⟨v,r,rfl,h1,h2⟩:=h.uncons;exact .cons (a d v h1) (Pers.all a h2)
def Pers.of(e:Keep S H H')(m:∀ a,S a->S' a):Pers K S H S' H':=fun d v h=>AtD.more m d v (AtD.mono e d v h)
def Pers.same(e:Same H H'):Pers K S H S H':=.of e.keep fun _ h=>h
mutual
def AtD.less{p:Addr}(hp:H p=none)(hs:∀ a,S a->a ≠ p->S' a):∀ (d:PyData) (v:V),AtD K H S d v->AtD K H S' d v
 | .none,_,h=>by unfold AtD at h ⊢;exact h
 | .bool _,_,h=>by unfold AtD at h ⊢;exact h
 | .int _,_,h=>by unfold AtD at h ⊢;exact h
 | .str _,_,h=>by unfold AtD at h ⊢;exact h
 | .list ds,v,h=>by
  obtain⟨a,xs,e1,s,q,r⟩:=qa4a h;subst e1;exact qa2f (hs a s (qa2n q hp)) q (qa0b.less hp hs ds xs r)
 | .tuple ds,v,h=>by
  obtain⟨a,xs,e1,q,r⟩:=qa3e h;subst e1;exact qa5a q (qa0b.less hp hs ds xs r)
 | .dict kvs,v,h=>by
  obtain⟨a,ν,e1,s,q,e2⟩:=qb1t h;subst e1;exact qb0t (hs a s (qa2n q hp)) q (qa0l.less hp hs kvs ν e2)
def qa0b.less{p:Addr}(hp:H p=none)(hs:∀ a,S a->a ≠ p->S' a):∀ (ds:List PyData) (vs:List V),qa0b K H S ds vs->qa0b K H S' ds vs
 | [],_,h=>by rw [h.unnil];exact .nil
 | d :: ds,vs,h=>by
  obtain⟨v,r,rfl,h1,h2⟩:=h.uncons;exact .cons (AtD.less hp hs d v h1) (qa0b.less hp hs ds r h2)
def qa0l.less{p:Addr}(hp:H p=none)(hs:∀ a,S a->a ≠ p->S' a):∀ (kvs:List (PyData × PyData)) (κ:List (Key × V)),qa0l K H S kvs κ->qa0l K H S' kvs κ
 | [],_,h=>by rw [h.unnil];exact .nil
 | (x,d) :: r,κ,h=>by
  obtain⟨k,v,t,rfl,rfl,h1,h2⟩:=h.uncons;exact .cons (AtD.less hp hs d v h1) (qa0l.less hp hs r t h2)
end
def Pers.new{p:Addr}(hp:H p=none)(hs:∀ a,S a->a ≠ p->S' a)(o:HO):Pers K S H S' (upd H p o):=fun d v h =>
 AtD.mono (qa0y hp o).keep d v (AtD.less hp hs d v h)
end
section
variable{K:W.Frag}{c:Rc}{O:Own}{ρ:Rho}{σ:St}{H H':Hp}
def Scr.keep{a:Addr}{xs:List V}{S:Addr->Prop}(h:Scr K H a xs)(e:Keep S H H'):Scr K H' a xs:=by
 refine⟨h.1,?_⟩;rcases h.2 with⟨o,h⟩ | h
 ·exact .inl ⟨o,e.2.1 _ _ _ h⟩
 ·exact .inr h
def Rel.to{c':Rc}{O':Own}(R:Rel K c O ρ σ H)(hO:∀ i,O' i=O i)(hB:∀ i p,O i=some p->qa9t c p->qa9t c' p)(hsa:c'.sa=c.sa)(hns:c'.ns=c.ns)
  (hp:Pers K (live c O) H (live c' O') H') (ho:∀ i p vs,O i=some p->H p=some (.lst vs)->H' p=some (.lst vs))
  (hA:∀ i p,O i=some p->c.A p->c'.A p) (am:∀ p,c'.A p->c'.M p ∨ c'.H0 p=none) (frs:∀ p,c'.H0 p=none->c'.S p) (same:∀ b o,¬ c'.M b->c'.H0 b=some o->H' b=some o) (kept:∀ b,c'.H0 b ≠ none->H' b ≠ none) (ml:∀ p,c'.M p->∃ vs,H' p=some (.lst vs))
  (pin:∀ p,c'.P p ∨ c'.B p->H' p ≠ none) (hl:∀ i,c'.lent i=c.lent i) (sc:Scr K H' c.sa (c.ns.map V.int)):Rel K c' O' ρ σ H' where
 dat i x e:=by obtain⟨v,h1,h2⟩:=R.dat i x e;exact⟨v,h1,hp _ _ h2⟩
 own i xs e:=by obtain⟨p,vs,h1,h2,h3,h4,h5⟩:=R.own i xs e;exact⟨p,vs,(hO i).trans h1,hB i p h1 h2,h3,ho i p vs h1 h4,hp.all h5⟩
 bor i xs e:=by obtain⟨p,vs,h1,h3,h4,h5⟩:=R.bor i xs e;exact⟨p,vs,(hO i).trans h1,h3,ho i p vs h1 h4,hp.all h5⟩
 tap i k e:=by obtain⟨p,h1,h2,h3⟩:=R.tap i k e;exact⟨p,(hO i).trans h1,h2,by rw [hsa];exact ho i p _ h1 h3⟩
 scr i e:=by rw [hsa];exact R.scr i e
 inj i j p e1 e2:=R.inj i j p ((hO i).symm.trans e1) ((hO j).symm.trans e2)
 has' i p e:=by
  have e':=(hO i).symm.trans e;obtain⟨h0,vs,h⟩:=R.has' i p e';exact⟨hA i p e' h0,vs,ho i p vs e' h⟩
 am:=am
 frs:=frs
 same:=same
 kept:=kept
 ml:=ml
 pin:=pin
 lnt i p e l h1 h2:=(hO i).trans (R.lnt i p ((hl i).symm.trans e) l h1 h2)
 sc:=by rw [hsa,hns];exact sc
 len:=R.len
def qc5v{i:Nat}{p:Addr}(h:O i=some p):¬ live c O p:=fun z=>z.2.2 i h
def Rel.grow(R:Rel K c O ρ σ H)(e:Same H H'):Rel K c O ρ σ H':=
 R.to (fun _=>rfl) (fun _ _ _ z=>z) rfl rfl (.same e) (fun i p vs _ q=>e _ _ q) (fun _ _ _ z=>z) R.am R.frs (fun b o n q=>e _ _ (R.same b o n q))
  (fun b n z=>R.kept b n (e.free z)) (fun p h=>let ⟨vs,q⟩:=R.ml p h;⟨vs,e _ _ q⟩) (fun p h z=>R.pin p h (e.free z)) (fun _=>rfl) (R.sc.keep (S:=Any) e.keep)
def Rel.free0(R:Rel K c O ρ σ H){p:Addr}(h:H p=none):c.H0 p=none:=by
 cases q:c.H0 p with
 | none=>rfl
 | some o=>exact absurd h (R.kept p (by rw [q];exact fun z=>nomatch z))
def Rel.liveNew(R:Rel K c O ρ σ H){p:Addr}(h:H p=none):live c O p:=
 ⟨R.frs p (R.free0 h),fun z=>R.pin p (.inl z) h,fun i e=>by obtain⟨_,vs,q⟩:=R.has i p e;rw [h] at q;cases q⟩
def Rel.frsLive(R:Rel K c O ρ σ H):Frs (live c O) H:=fun _ h=>R.liveNew h
def Rel.write{i:Nat}{p:Addr}{xs:List PyData}{vs vs':List V}{l:L}(R:Rel K c O ρ σ H)(hO:O i=some p)(hH:H p=some (.lst vs))
  (hl:ρ[i]? = some (some (.own xs)) ∨ ρ[i]? = some (some (.bor xs)) ∨ ∃ k:Nat,ρ[i]? = some (some (.tape k)))
  (hl':(∃ ys,ρ[i]? = some (some (.own xs))/\l=.own ys/\qa0b K H (live c O) ys vs') ∨ (∃ ys,ρ[i]? = some (some (.bor xs))/\l=.bor ys/\qa0b K H (live c O) ys vs') ∨ (∃ k k':Nat,ρ[i]? = some (some (.tape k))/\l=.tape k'/\vs'=[.ref c.sa,.int k'])) :
  Rel K c O (ρ.set i (some l)) σ (upd H p (.lst vs'))/\Pers K (live c O) H (live c O) (upd H p (.lst vs')):=by
 have hi:i < ρ.length:=by
  rcases hl with h | h | ⟨k,h⟩<;>exact(List.getElem?_eq_some_iff.mp h).1
 have kp:Keep (live c O) H (upd H p (.lst vs')):=(qc3u hH).less fun b hb e=>by
  subst e;exact qc5v hO hb
 have P:Pers K (live c O) H (live c O) (upd H p (.lst vs')):=.of kp fun _ h=>h;have at_i:(ρ.set i (some l))[i]? = some (some l):=by rw [getElem?_set_self hi]
 have at_j:∀ j,j ≠ i->(ρ.set i (some l))[j]? = ρ[j]?:=fun j hj=>getElem?_set_ne (Ne.symm hj);have other:∀ j q,j ≠ i->O j=some q->q ≠ p:=fun j q hj e z=>hj (R.inj j i p (by rw [← z];exact e) hO);have hσ:σ[i]? = some (some (.ref p)):=by
  rcases hl with h | h | ⟨k,h⟩
  ·obtain⟨p',_,h1,_,h3,_⟩:=R.own i xs h;rw [hO] at h1;cases h1;exact h3
  ·obtain⟨p',_,h1,h3,_⟩:=R.bor i xs h;rw [hO] at h1;cases h1;exact h3
  ·obtain⟨p',h1,h3,_⟩:=R.tap i k h;rw [hO] at h1;cases h1;exact h3
 refine⟨⟨fun j x e=>?_,fun j ys e=>?_,fun j ys e=>?_,fun j k e=>?_,fun j e=>?_,R.inj,fun j q e=>?_,R.am,R.frs,fun b o n q=>?_,fun b n z=>?_,fun q h=>?_,fun q h z=>?_,fun j q e l2 h1 h2=>?_,?_,?_⟩,P⟩
 ·by_cases hj:j=i
  ·subst hj;rw [at_i] at e
   rcases hl' with⟨ys,_,rfl,_⟩ | ⟨ys,_,rfl,_⟩ | ⟨k,k',_,rfl,_⟩<;>cases e
  ·rw [at_j j hj] at e
   obtain⟨v,h1,h2⟩:=R.dat j x e;exact⟨v,h1,P _ _ h2⟩
 ·by_cases hj:j=i
  ·subst hj;rw [at_i] at e
   rcases hl' with⟨zs,h0,rfl,h⟩ | ⟨zs,_,rfl,_⟩ | ⟨k,k',_,rfl,_⟩<;>cases e
   obtain⟨p',_,h1,h2,h3,_⟩:=R.own j xs h0;rw [hO] at h1;cases h1;exact⟨p,vs',hO,h2,h3,qa0n,P.all h⟩
  ·rw [at_j j hj] at e
   obtain⟨q,ws,h1,h2,h3,h4,h5⟩:=R.own j ys e;exact⟨q,ws,h1,h2,h3,by rw [qa0v (other j q hj h1)];exact h4,P.all h5⟩
 ·by_cases hj:j=i
  ·subst hj;rw [at_i] at e
   rcases hl' with⟨zs,_,rfl,_⟩ | ⟨zs,h0,rfl,h⟩ | ⟨k,k',_,rfl,_⟩<;>cases e
   exact⟨p,vs',hO,hσ,qa0n,P.all h⟩
  ·rw [at_j j hj] at e
   obtain⟨q,ws,h1,h3,h4,h5⟩:=R.bor j ys e;exact⟨q,ws,h1,h3,by rw [qa0v (other j q hj h1)];exact h4,P.all h5⟩
 ·by_cases hj:j=i
  ·subst hj;rw [at_i] at e
   rcases hl' with⟨zs,_,rfl,_⟩ | ⟨zs,_,rfl,_⟩ | ⟨k1,k',_,rfl,h⟩<;>cases e
   exact⟨p,hO,hσ,by rw [qa0n,h]⟩
  ·rw [at_j j hj] at e
   obtain⟨q,h1,h3,h4⟩:=R.tap j k e;exact⟨q,h1,h3,by rw [qa0v (other j q hj h1)];exact h4⟩
 ·by_cases hj:j=i
  ·subst hj;rw [at_i] at e
   rcases hl' with⟨ys,_,rfl,_⟩ | ⟨ys,_,rfl,_⟩ | ⟨k,k',_,rfl,_⟩<;>cases e
  ·rw [at_j j hj] at e
   exact R.scr j e
 ·obtain⟨h1,ws,h2⟩:=R.has' j q e
  refine⟨h1,?_⟩;by_cases hq:q=p
  ·subst hq;exact⟨vs',qa0n⟩
  ·exact⟨ws,by rw [qa0v hq];exact h2⟩
 ·have hb:b ≠ p:=by
   rintro rfl;rcases (R.has i b hO).1 with z | z
   ·exact n z
   ·rw [z] at q;cases q
  rw [qa0v hb];exact R.same b o n q
 ·by_cases hb:b=p
  ·subst hb;rw [qa0n] at z;cases z
  ·rw [qa0v hb] at z;exact R.kept b n z
 ·obtain⟨ws,h2⟩:=R.ml q h
  by_cases hq:q=p
  ·subst hq;exact⟨vs',qa0n⟩
  ·exact⟨ws,by rw [qa0v hq];exact h2⟩
 ·by_cases hb:q=p
  ·subst hb;rw [qa0n] at z;cases z
  ·rw [qa0v hb] at z;exact R.pin q h z
 ·by_cases hj:j=i
  ·subst hj;rw [at_i] at h1;cases h1
   rcases hl' with⟨zs,_,rfl,_⟩ | ⟨zs,h0,rfl,_⟩ | ⟨k1,k',h0,rfl,_⟩
   ·cases h2
   ·exact R.lnt j q e _ h0 rfl
   ·exact R.lnt j q e _ h0 rfl
  ·rw [at_j j hj] at h1;exact R.lnt j q e _ h1 h2
 ·exact R.sc.keep kp
 ·rw [length_set];exact R.len
noncomputable def qa5k(O:Own)(i:Nat):Own:=fun j=>if j=i then none else O j
def qb3b{i:Nat}{a:Addr}(h:live c O a):live c (qa5k O i) a:=⟨h.1,h.2.1,fun j e=>by
 unfold qa5k at e;by_cases hj:j=i
 ·rw [if_pos hj] at e;cases e
 ·rw [if_neg hj] at e;exact h.2.2 j e⟩
def qa3l{i j:Nat}(h:j ≠ i):qa5k O i j=O j:=if_neg h
def qc1v{i:Nat}:qa5k O i i=none:=if_pos rfl
def qa3m{i j:Nat}{p:Addr}(e:qa5k O i j=some p):j ≠ i/\O j=some p:=by
 by_cases hj:j=i
 ·subst hj;rw [qc1v] at e;cases e
 ·rw [qa3l hj] at e;exact⟨hj,e⟩
def Rel.freeze{i:Nat}{xs:List PyData}(R:Rel K c O ρ σ H)(hl:ρ[i]? = some (some (.own xs))) :
  Rel K c (qa5k O i) (ρ.set i (some (.d (.list xs)))) σ H/\Pers K (live c O) H (live c (qa5k O i)) H:=by
 obtain⟨p,vs,hO,hB,hσ,hH,hA⟩:=R.own i xs hl;have hi:i < ρ.length:=(List.getElem?_eq_some_iff.mp hl).1;have P:Pers K (live c O) H (live c (qa5k O i)) H:=.of (Keep.refl _ _) fun _ h=>qb3b h;have at_i:(ρ.set i (some (.d (.list xs))))[i]? = some (some (.d (.list xs))):=by rw [getElem?_set_self hi]
 have at_j:∀ j,j ≠ i->(ρ.set i (some (.d (.list xs))))[j]? = ρ[j]?:=fun j hj=>getElem?_set_ne (Ne.symm hj);have ne:∀ {j:Nat} {l:L},(ρ.set i (some (.d (.list xs))))[j]? = some (some l)->(∀ x,l ≠ .d x)->j ≠ i/\ρ[j]? = some (some l):=fun{j l} e n=>by
  by_cases hj:j=i
  ·subst hj;rw [at_i] at e;cases e;exact absurd rfl (n _)
  ·rw [at_j j hj] at e;exact⟨hj,e⟩
 refine⟨⟨fun j x e=>?_,fun j ys e=>?_,fun j ys e=>?_,fun j k e=>?_,fun j e=>?_,fun a b q e1 e2=>R.inj a b q (qa3m e1).2 (qa3m e2).2,fun j q e=>R.has' j q (qa3m e).2,R.am,R.frs,R.same,R.kept,R.ml,R.pin,fun j q e l h1 h2=>?_,R.sc,?_⟩,P⟩
 ·by_cases hj:j=i
  ·subst hj;rw [at_i] at e;cases e
   refine⟨.ref p,hσ,qa2f ⟨hB.2.1,hB.2.2,fun k e=>?_⟩ hH (P.all hA)⟩;obtain⟨h1,h2⟩:=qa3m e;exact h1 (R.inj k j p h2 hO)
  ·rw [at_j j hj] at e
   obtain⟨v,h1,h2⟩:=R.dat j x e;exact⟨v,h1,P _ _ h2⟩
 ·obtain⟨hj,e⟩:=ne e fun _ z=>nomatch z
  obtain⟨q,ws,h1,h2,h3,h4,h5⟩:=R.own j ys e;exact⟨q,ws,(qa3l hj).trans h1,h2,h3,h4,P.all h5⟩
 ·obtain⟨hj,e⟩:=ne e fun _ z=>nomatch z
  obtain⟨q,ws,h1,h3,h4,h5⟩:=R.bor j ys e;exact⟨q,ws,(qa3l hj).trans h1,h3,h4,P.all h5⟩
 ·obtain⟨hj,e⟩:=ne e fun _ z=>nomatch z
  obtain⟨q,h1,h3,h4⟩:=R.tap j k e;exact⟨q,(qa3l hj).trans h1,h3,h4⟩
 ·obtain⟨hj,e⟩:=ne e fun _ z=>nomatch z
  exact R.scr j e
 ·obtain⟨hj,e'⟩:=ne h1 fun x z=>by subst z;cases h2
  rw [qa3l hj];exact R.lnt j q e _ e' h2
 ·rw [length_set];exact R.len
def Rel.setD{i:Nat}{x:PyData}{v:V}(R:Rel K c O ρ σ H)(hi:i < ρ.length)(h:AtD K H (live c O) x v) :
  Rel K c (qa5k O i) (ρ.set i (some (.d x))) (σ.set i (some v)) H/\Pers K (live c O) H (live c (qa5k O i)) H:=by
 have P:Pers K (live c O) H (live c (qa5k O i)) H:=.of (Keep.refl _ _) fun _ h=>qb3b h;have at_i:∀ l:Option L,(ρ.set i l)[i]? = some l:=fun l=>by rw [getElem?_set_self hi]
 have at_j:∀ (l:Option L) j,j ≠ i->(ρ.set i l)[j]? = ρ[j]?:=fun l j hj=>getElem?_set_ne (Ne.symm hj);have st_j:∀ j,j ≠ i->(σ.set i (some v))[j]? = σ[j]?:=fun j hj=>getElem?_set_ne (Ne.symm hj);have ne:∀ {j:Nat} {l:L},(ρ.set i (some (.d x)))[j]? = some (some l)->(∀ x,l ≠ .d x)->j ≠ i/\ρ[j]? = some (some l):=fun{j l} e n=>by
  by_cases hj:j=i
  ·subst hj;rw [at_i] at e;cases e;exact absurd rfl (n _)
  ·rw [at_j _ j hj] at e;exact⟨hj,e⟩
 refine⟨⟨fun j y e=>?_,fun j ys e=>?_,fun j ys e=>?_,fun j k e=>?_,fun j e=>?_,fun a b q e1 e2=>R.inj a b q (qa3m e1).2 (qa3m e2).2,fun j q e=>R.has' j q (qa3m e).2,R.am,R.frs,R.same,R.kept,R.ml,R.pin,fun j q e l h1 h2=>?_,R.sc,?_⟩,P⟩
 ·by_cases hj:j=i
  ·subst hj;rw [at_i] at e;cases e
   exact⟨v,by rw [getElem?_set_self (by rw [R.len];exact hi)],P _ _ h⟩
  ·rw [at_j _ j hj] at e
   obtain⟨v,h1,h2⟩:=R.dat j y e;exact⟨v,by rw [st_j j hj];exact h1,P _ _ h2⟩
 ·obtain⟨hj,e⟩:=ne e fun _ z=>nomatch z
  obtain⟨q,ws,h1,h2,h3,h4,h5⟩:=R.own j ys e;exact⟨q,ws,(qa3l hj).trans h1,h2,by rw [st_j j hj];exact h3,h4,P.all h5⟩
 ·obtain⟨hj,e⟩:=ne e fun _ z=>nomatch z
  obtain⟨q,ws,h1,h3,h4,h5⟩:=R.bor j ys e;exact⟨q,ws,(qa3l hj).trans h1,by rw [st_j j hj];exact h3,h4,P.all h5⟩
 ·obtain⟨hj,e⟩:=ne e fun _ z=>nomatch z
  obtain⟨q,h1,h3,h4⟩:=R.tap j k e;exact⟨q,(qa3l hj).trans h1,by rw [st_j j hj];exact h3,h4⟩
 ·obtain⟨hj,e⟩:=ne e fun _ z=>nomatch z
  rw [st_j j hj];exact R.scr j e
 ·obtain⟨hj,e'⟩:=ne h1 fun x z=>by subst z;cases h2
  rw [qa3l hj];exact R.lnt j q e _ e' h2
 ·rw [length_set,length_set];exact R.len
noncomputable def Rc.add(c:Rc)(p:Addr):Rc:={ c with P:=fun a=>c.P a ∨ a=p }
def qa9u{p a:Addr}(h:live c O a)(n:a ≠ p):live (c.add p) O a:=⟨h.1,fun z=>z.elim h.2.1 n,h.2.2⟩
def qa5l{p a:Addr}(h:live (c.add p) O a):live c O a/\a ≠ p:=⟨⟨h.1,fun z=>h.2.1 (.inl z),h.2.2⟩,fun z=>h.2.1 (.inr z)⟩
def Rel.lay{p:Addr}{o:HO}(R:Rel K c O ρ σ H)(hp:H p=none):Rel K (c.add p) O ρ σ (upd H p o)/\Pers K (live c O) H (live (c.add p) O) (upd H p o):=by
 have P:Pers K (live c O) H (live (c.add p) O) (upd H p o):=.new hp (fun a h n=>qa9u h n) o;have S:=qa0y hp o;refine⟨R.to (fun _=>rfl) (fun i q hq z=>⟨z.1,z.2.1,fun w=>w.elim z.2.2 fun e=>?_⟩) rfl rfl P (fun i q vs _ h=>S _ _ h) (fun _ _ _ z=>z) R.am R.frs (fun b ob n q=>S _ _ (R.same b ob n q))
  (fun b n z=>R.kept b n (S.free z)) (fun p h=>let ⟨vs,q⟩:=R.ml p h;⟨vs,S _ _ q⟩) (fun q h z=>?_) (fun _=>rfl) (R.sc.keep (S:=Any) S.keep),P⟩
 ·obtain⟨_,vs,h⟩:=R.has i q hq
  rw [e,hp] at h;cases h
 ·rcases h with(h | rfl) | h
  ·exact R.pin q (.inl h) (S.free z)
  ·rw [qa0n] at z;cases z
  ·exact R.pin q (.inr h) (S.free z)
def Rel.unadd{p:Addr}(R:Rel K (c.add p) O ρ σ H):Rel K c O ρ σ H/\Pers K (live (c.add p) O) H (live c O) H:=by
 have P:Pers K (live (c.add p) O) H (live c O) H:=.of (Keep.refl _ _) fun a h=>(qa5l h).1;exact⟨R.to (fun _=>rfl) (fun i q _ z=>⟨z.1,z.2.1,fun w=>z.2.2 (.inl w)⟩) rfl rfl P (fun _ _ _ _ h=>h) (fun _ _ _ z=>z) R.am R.frs R.same R.kept R.ml (fun q h=>R.pin q (h.elim (fun z=>.inl (.inl z)) .inr)) (fun _=>rfl) R.sc,P⟩
noncomputable def owned(O:Own)(i:Nat)(p:Addr):Own:=fun j=>if j=i then some p else O j
def qa6d{i j:Nat}{p:Addr}(h:j ≠ i):owned O i p j=O j:=if_neg h
def qa9v{i:Nat}{p:Addr}:owned O i p i=some p:=if_pos rfl
def Rel.setOwn{i:Nat}{p:Addr}{xs:List PyData}{vs:List V}(R:Rel K (c.add p) O ρ σ H)(hi:i < ρ.length)(h0:c.H0 p=none)(hB:¬ c.B p)(hP:¬ c.P p)(hn:∀ j,O j ≠ some p)(hAp:c.A p)(hH:H p=some (.lst vs))(hA:qa0b K H (live (c.add p) O) xs vs) :
  Rel K c (owned O i p) (ρ.set i (some (.own xs))) (σ.set i (some (.ref p))) H/\Pers K (live (c.add p) O) H (live c (owned O i p)) H:=by
 have P:Pers K (live (c.add p) O) H (live c (owned O i p)) H:=.of (Keep.refl _ _) fun a h=>by
  obtain⟨h1,h2⟩:=qa5l h;refine⟨h1.1,h1.2.1,fun j e=>?_⟩;by_cases hj:j=i
  ·subst hj;rw [qa9v] at e;cases e;exact h2 rfl
  ·rw [qa6d hj] at e;exact h1.2.2 j e
 have at_i:(ρ.set i (some (.own xs)))[i]? = some (some (.own xs)):=by rw [getElem?_set_self hi]
 have at_j:∀ j,j ≠ i->(ρ.set i (some (.own xs)))[j]? = ρ[j]?:=fun j hj=>getElem?_set_ne (Ne.symm hj);have st_j:∀ j,j ≠ i->(σ.set i (some (.ref p)))[j]? = σ[j]?:=fun j hj=>getElem?_set_ne (Ne.symm hj);have ne:∀ {j:Nat} {l:L},(ρ.set i (some (.own xs)))[j]? = some (some l)->(∀ x,l ≠ .own x)->j ≠ i/\ρ[j]? = some (some l):=fun{j l} e n=>by
  by_cases hj:j=i
  ·subst hj;rw [at_i] at e;cases e;exact absurd rfl (n _)
  ·rw [at_j j hj] at e;exact⟨hj,e⟩
 have ow:∀ {j:Nat} {q:Addr},owned O i p j=some q->(j=i/\q=p) ∨ (j ≠ i/\O j=some q):=fun{j q} e=>by
  by_cases hj:j=i
  ·subst hj;rw [qa9v] at e;cases e;exact .inl ⟨rfl,rfl⟩
  ·rw [qa6d hj] at e;exact .inr ⟨hj,e⟩
 refine⟨⟨fun j y e=>?_,fun j ys e=>?_,fun j ys e=>?_,fun j k e=>?_,fun j e=>?_,fun a b q e1 e2=>?_,fun j q e=>?_,R.am,R.frs,R.same,R.kept,R.ml,fun q h=>R.pin q (h.elim (fun z=>.inl (.inl z)) .inr),fun j q e l h1 h2=>?_,R.sc,?_⟩,P⟩
 ·obtain⟨hj,e⟩:=ne e fun _ z=>nomatch z
  obtain⟨v,h1,h2⟩:=R.dat j y e;exact⟨v,by rw [st_j j hj];exact h1,P _ _ h2⟩
 ·by_cases hj:j=i
  ·subst hj;rw [at_i] at e;cases e
   exact⟨p,vs,qa9v,⟨hB,R.frs p h0,hP⟩,by rw [getElem?_set_self (by rw [R.len];exact hi)],hH,P.all hA⟩
  ·rw [at_j j hj] at e
   obtain⟨q,ws,h1,h2,h3,h4,h5⟩:=R.own j ys e;exact⟨q,ws,(qa6d hj).trans h1,⟨h2.1,h2.2.1,fun z=>h2.2.2 (.inl z)⟩,by rw [st_j j hj];exact h3,h4,P.all h5⟩
 ·obtain⟨hj,e⟩:=ne e fun _ z=>nomatch z
  obtain⟨q,ws,h1,h3,h4,h5⟩:=R.bor j ys e;exact⟨q,ws,(qa6d hj).trans h1,by rw [st_j j hj];exact h3,h4,P.all h5⟩
 ·obtain⟨hj,e⟩:=ne e fun _ z=>nomatch z
  obtain⟨q,h1,h3,h4⟩:=R.tap j k e;exact⟨q,(qa6d hj).trans h1,by rw [st_j j hj];exact h3,h4⟩
 ·obtain⟨hj,e⟩:=ne e fun _ z=>nomatch z
  rw [st_j j hj];exact R.scr j e
 ·rcases ow e1 with⟨h1,h2⟩ | ⟨h1,h2⟩<;>rcases ow e2 with⟨h3,h4⟩ | ⟨h3,h4⟩
  ·rw [h1,h3]
  ·rw [h2] at h4;exact absurd h4 (hn b)
  ·rw [h4] at h2;exact absurd h2 (hn a)
  ·exact R.inj a b q h2 h4
 ·rcases ow e with⟨h1,h2⟩ | ⟨h1,h2⟩
  ·subst h2;exact⟨hAp,vs,hH⟩
  ·exact R.has' j q h2
 ·obtain⟨hj,e'⟩:=ne h1 fun x z=>by subst z;cases h2
  rw [qa6d hj];exact R.lnt j q e _ e' h2
 ·rw [length_set,length_set];exact R.len
end
end
section
inductive DV where
 | d (x:PyData)
 | sl (i:Nat)
noncomputable def AtV(K:W.Frag)(S:Addr->Prop)(σ:St)(H:Hp):DV->V->Prop
 | .d x,v=>AtD K H S x v
 | .sl i,v=>σ[i]? = some (some v)
noncomputable def qa9d:L->Option PyData
 | .d x=>some x
 | .own xs=>some (.list xs)
 | .bor xs=>some (.list xs)
 | _=>none
noncomputable def qa0i(ρ:Rho):DV->Option PyData
 | .d x=>some x
 | .sl i=>(ρ[i]?.join).bind qa9d
def AtT(K:W.Frag)(H:Hp)(S:Addr->Prop)(x:PyData)(v:V):Prop:=AtD K H S x v ∨ ∃ ds a vs,x=.list ds/\v=.ref a/\H a=some (.lst vs)/\qa0b K H S ds vs
def need{α:Type}(o:Option α)(k:α->Prop):Prop:=match o with
 | some a=>k a
 | none=>False
theorem qa0r{α:Type}{a:α}{k:α->Prop}:need (some a) k=k a:=rfl
theorem qc3x{α:Type}{k:α->Prop}:need (none:Option α) k=False:=rfl
def ne{α:Type}{o:Option α}{k:α->Prop}(h:need o k):∃ a,o=some a/\k a:=by
 cases o with
 | none=>exact h.elim
 | some a=>exact⟨a,rfl,h⟩
def qc0c{α:Type}{o:Option α}{k:α->Prop}{a:α}(e:o=some a)(h:k a):need o k:=by rw [e];exact h
theorem itT{a b:Prop}:(if true=true then a else b)=a:=rfl
theorem itF{a b:Prop}:(if false=true then a else b)=b:=rfl
theorem mapC{α β:Type}{f:α->β}{a:α}{l:List α}:(a :: l).map f=f a :: l.map f:=rfl
theorem mapN{α β:Type}{f:α->β}:([]:List α).map f=[]:=rfl
abbrev TDE:=Rho->(DV->Rho->Prop)->Prop
abbrev TDF:=Rho->(List PyData->Rho->Prop)->Prop
abbrev TDT:=Rho->(Bool->Rho->Prop)->Prop
abbrev TDA:=Rho->(List DV->Rho->Prop)->Prop
def qb1u(c:Rc)(O:Own)(p:Addr):Prop:=c.H0 p=none/\¬ c.B p/\¬ c.P p/\∀ j,O j ≠ some p
def AdE(K:W.Frag)(t:TE)(dt:TDE):Prop:=∀ (c:Rc) (O:Own) (ρ:Rho) (σ:St) (H:Hp) (Qd:DV->Rho->Prop) (Q:VK),Rel K c O ρ σ H->dt ρ Qd ->
 (∀ x ρ' O' v H',Qd x ρ'->Rel K c O' ρ' σ H'->Pers K (live c O) H (live c O') H'->AtV K (live c O') σ H' x v->Q v H')->t σ H Q
def AdF(K:W.Frag)(t:TE)(dt:TDF):Prop:=∀ (c:Rc) (O:Own) (ρ:Rho) (σ:St) (H:Hp) (Qd:List PyData->Rho->Prop) (Q:VK),Rel K c O ρ σ H->dt ρ Qd ->
 (∀ xs ρ' O' p vs H',Qd xs ρ'->Rel K (c.add p) O' ρ' σ H'->Pers K (live c O) H (live (c.add p) O') H'->qb1u c O' p->H' p=some (.lst vs)->qa0b K H' (live (c.add p) O') xs vs->Q (.ref p) H')->t σ H Q
def AdT(K:W.Frag)(t:TT)(dt:TDT):Prop:=∀ (c:Rc) (O:Own) (ρ:Rho) (σ:St) (H:Hp) (Qd:Bool->Rho->Prop) (Q:Bool->Hp->Prop),Rel K c O ρ σ H->dt ρ Qd ->
 (∀ b ρ' O' H',Qd b ρ'->Rel K c O' ρ' σ H'->Pers K (live c O) H (live c O') H'->Q b H')->t σ H Q
noncomputable def AtVs(K:W.Frag)(S:Addr->Prop)(σ:St)(H:Hp):List DV->List V->Prop:=Paired (AtV K S σ H)
def AdA(K:W.Frag)(t:TA)(dt:TDA):Prop:=∀ (c:Rc) (O:Own) (ρ:Rho) (σ:St) (H:Hp) (Qd:List DV->Rho->Prop) (Q:List V->Hp->Prop),Rel K c O ρ σ H->dt ρ Qd ->
 (∀ xs ρ' O' vs H',Qd xs ρ'->Rel K c O' ρ' σ H'->Pers K (live c O) H (live c O') H'->AtVs K (live c O') σ H' xs vs->Q vs H')->t σ H Q
def DE(X:Cx)(e:Expr)(dt:TDE):Prop:=∃ t,PE X e t/\AdE X.K t dt
def DF(X:Cx)(e:Expr)(dt:TDF):Prop:=∃ t,PE X e t/\AdF X.K t dt
def DT(X:Cx)(e:Expr)(dt:TDT):Prop:=∃ t,PT X e t/\AdT X.K t dt
def DW(X:Cx)(e:Expr)(dt:TDT):Prop:=∃ t,PW X e t/\AdT X.K t dt
def DA(X:Cx)(es:List Expr)(dt:TDA):Prop:=∃ t,PA X es t/\AdA X.K t dt
section
variable{K:W.Frag}{c:Rc}{O:Own}{ρ:Rho}{σ:St}{H H':Hp}{S S':Addr->Prop}
def AtV.pers{x:DV}{v:V}(h:AtV K S σ H x v)(P:Pers K S H S' H'):AtV K S' σ H' x v:=by
 cases x with
 | d x=>exact P _ _ h
 | sl i=>exact h
def AtVs.pers{xs:List DV}{vs:List V}(h:AtVs K S σ H xs vs)(P:Pers K S H S' H'):AtVs K S' σ H' xs vs:=Paired.imp' (fun _ _ q=>q.pers P) h
def Rel.top(R:Rel K c O ρ σ H){x:DV}{v:V}{d:PyData}(h:AtV K (live c O) σ H x v)(e:qa0i ρ x=some d):AtT K H (live c O) d v:=by
 cases x with
 | d x=>cases e;exact .inl h
 | sl i =>
  have h':σ[i]? = some (some v):=h;have e':(ρ[i]?.join).bind qa9d=some d:=e;cases q:ρ[i]? with
  | none=>rw [q] at e';cases e'
  | some ol =>
   cases ol with
   | none=>rw [q] at e';cases e'
   | some l =>
    rw [q] at e';cases l with
    | d x =>
     cases e'
     obtain⟨w,h1,h2⟩:=R.dat i _ q;rw [h'] at h1;cases h1;exact .inl h2
    | own xs =>
     cases e'
     obtain⟨p,vs,_,_,h1,h2,h3⟩:=R.own i _ q;rw [h'] at h1;cases h1;exact .inr ⟨xs,p,vs,rfl,rfl,h2,h3⟩
    | bor xs =>
     cases e'
     obtain⟨p,vs,_,h1,h2,h3⟩:=R.bor i _ q;rw [h'] at h1;cases h1;exact .inr ⟨xs,p,vs,rfl,rfl,h2,h3⟩
    | tape k=>cases e'
    | scr=>cases e'
def AtT.list{ds:List PyData}{v:V}(h:AtT K H S (.list ds) v):∃ a vs,v=.ref a/\H a=some (.lst vs)/\qa0b K H S ds vs:=by
 rcases h with h | ⟨ds',a,vs,e,e2,h1,h2⟩
 ·obtain⟨a,vs,e,_,h1,h2⟩:=qa4a h
  exact⟨a,vs,e,h1,h2⟩
 ·cases e;exact⟨a,vs,e2,h1,h2⟩
def AtT.at{x:PyData}{v:V}(h:AtT K H S x v)(n:∀ ds,x ≠ .list ds):AtD K H S x v:=by
 rcases h with h | ⟨ds',a,vs,e,_⟩
 ·exact h
 ·exact absurd e (n ds')
def AtT.any{x:PyData}{v:V}(h:AtT K H S x v):AtD K H Any x v:=by
 rcases h with h | ⟨ds',a,vs,e,e2,h1,h2⟩
 ·exact AtD.more (fun _ _=>trivial) _ _ h
 ·subst e e2;exact qa2f trivial h1 (qa0b.more (fun _ _=>trivial) _ _ h2)
def dVar(i:Nat):TDE:=fun ρ Q=>(ρ[i]?.join).isSome=true/\Q (.sl i) ρ
def ad_var{i:Nat}:AdE K (tVar i) (dVar i):=by
 intro c O ρ σ H Qd Q R h k;obtain⟨h0,h⟩:=h;have ex:∃ v,σ[i]? = some (some v):=by
  cases q:ρ[i]? with
  | none=>rw [q] at h0;cases h0
  | some ol =>
   cases ol with
   | none=>rw [q] at h0;cases h0
   | some l =>
    cases l with
    | d x=>obtain⟨w,h1,_⟩:=R.dat i _ q;exact⟨w,h1⟩
    | own xs=>obtain⟨p,vs,_,_,h1,_⟩:=R.own i _ q;exact⟨_,h1⟩
    | bor xs=>obtain⟨p,vs,_,h1,_⟩:=R.bor i _ q;exact⟨_,h1⟩
    | tape k=>obtain⟨p,_,h1,_⟩:=R.tap i _ q;exact⟨_,h1⟩
    | scr=>exact⟨_,R.scr i q⟩
 obtain⟨v,hv⟩:=ex;exact⟨v,hv,k _ _ _ _ _ h R .refl hv⟩
def dC(x:PyData):TDE:=fun ρ Q=>Q (.d x) ρ
def ad_c{x:PyData}{v:V}(hx:∀ (S:Addr->Prop) H,AtD K H S x v):AdE K (tC v) (dC x):=fun c O ρ σ H Qd Q R h k=>k _ _ _ _ _ h R .refl (hx _ _)
end
section
variable{X:Cx}{a b e:Expr}{es:List Expr}{da db:TDE}{pos:Pos}
def dv(i:Nat){x:Str}(hN:X.N[i]? = some x:=by rfl)(hv:Vis X.env.scope x:=by first | exact Or.inl rfl | exact Or.inr 'f' | exact Or.inr (Or.inr rfl)) (hd:(x == ("__debug__" : Str))=false:=by decide)
  (hcd:(x == ("__classdict__" : Str))=false:=by decide):DE X (.Name x pos) (dVar i):=⟨_,qb5y hN hv hd hcd,ad_var⟩
def qa0f{i j}:DE X (.Constant (.int i) j pos) (dC (.int i)):=⟨_,qa1r,ad_c fun _ _=>qa2r i⟩
def qa1l{i j}:DE X (.Constant (.str i) j pos) (dC (.str i)):=⟨_,pe_str,ad_c fun _ _=>qa4z i⟩
def qa1j{i j}:DE X (.Constant (.bool i) j pos) (dC (.bool i)):=⟨_,pe_bl,ad_c fun _ _=>qa1u i⟩
def qb0u{j}:DE X (.Constant .none j pos) (dC .none):=⟨_,pe_non,ad_c fun _ _=>qa9r⟩
def de_gint{x:Str}{i:Int}(hg:Gl X x)(hm:∃ t,X.mg x=some (.int i t)) (hd:(x == ("__debug__" : Str))=false:=by decide):DE X (.Name x pos) (dC (.int i)):=by
 obtain⟨t,hm⟩:=hm;exact⟨_,pe_glob hg hm (v:=.int i) ⟨t,rfl⟩ hd,ad_c fun _ _=>qa2r i⟩
abbrev F2:=PyData->PyData->Option PyData
def AdR(K:W.Frag)(r:R2)(f:F2):Prop:=∀ (S:Addr->Prop) (H:Hp) (x y:V) (dx dy z:PyData) (Q:VK),Frs S H->AtT K H S dx x->AtT K H S dy y->f dx dy=some z ->
 (∀ v H',Same H H'->AtD K H' S z v->Q v H')->r x y H Q
def dOp(f:F2)(da db:TDE):TDE:=fun ρ Q=>da ρ fun x ρ1=>db ρ1 fun y ρ2=>need (qa0i ρ2 x) fun dx=>need (qa0i ρ2 y) fun dy=>need (f dx dy) fun z=>Q (.d z) ρ2
def ad_op{K:W.Frag}{r:R2}{f:F2}{ta tb:TE}(hr:AdR K r f)(ha:AdE K ta da)(hb:AdE K tb db):AdE K (tOp r ta tb) (dOp f da db):=by
 intro c O ρ σ H Qd Q R h k;refine ha c O ρ σ H _ _ R h fun x ρ1 O1 v H1 h1 R1 P1 a1=>?_;refine hb c O1 ρ1 σ H1 _ _ R1 h1 fun y ρ2 O2 u H2 h2 R2 P2 a2=>?_;obtain⟨dx,e1,hn1⟩:=ne (h2);obtain⟨dy,e2,hn2⟩:=ne (hn1);obtain⟨z,e3,h3⟩:=ne (hn2);refine hr (live c O2) H2 v u dx dy z Q R2.frsLive (R2.top (a1.pers P2) e1) (R2.top a2 e2) e3 fun w H3 s3 a3=>?_;exact k _ _ _ _ _ h3 (R2.grow s3) ((P1.trans P2).trans (.same s3)) a3
def qa3n{op:Operator}{r:R2}{f:F2}(ho:OpR X (binaryOp op) r)(hr:AdR X.K r f)(ha:DE X a da)(hb:DE X b db):DE X (.BinOp a op b pos) (dOp f da db):=by
 obtain⟨ta,pa,aa⟩:=ha;obtain⟨tb,pb,ab⟩:=hb;exact⟨_,qa2t ho pa pb,ad_op hr aa ab⟩
def qa4b{op:CmpOp}{r:R2}{f:F2}(ho:OpR X (compareOp op) r)(hr:AdR X.K r f)(ha:DE X a da)(hb:DE X b db)(hm:behindInMarks op b=false):DE X (.Compare a [op] [b] pos) (dOp f da db):=by
 obtain⟨ta,pa,aa⟩:=ha;obtain⟨tb,pb,ab⟩:=hb;exact⟨_,pe_cmpR ho pa pb hm,ad_op hr aa ab⟩
def qa2b{r:R2}{f:F2}(ho:IxR X r)(hr:AdR X.K r f)(ha:DE X a da)(hb:DE X b db)(hs:qb9z b):DE X (.Subscript a b pos) (dOp f da db):=by
 obtain⟨ta,pa,aa⟩:=ha;obtain⟨tb,pb,ab⟩:=hb;exact⟨_,pe_ix ho pa pb hs,ad_op hr aa ab⟩
end
section
variable{K:W.Frag}
def AtT.int{H:Hp}{S:Addr->Prop}{i:Int}{v:V}(h:AtT K H S (.int i) v):v=.int i:=qa9c (h.at fun _ z=>nomatch z)
def AtT.str{H:Hp}{S:Addr->Prop}{i:Str}{v:V}(h:AtT K H S (.str i) v):v=.str i:=qb0s (h.at fun _ z=>nomatch z)
def AtT.bool{H:Hp}{S:Addr->Prop}{i:Bool}{v:V}(h:AtT K H S (.bool i) v):v=.bl i:=qa7p (h.at fun _ z=>nomatch z)
def AtT.tup{H:Hp}{S:Addr->Prop}{ds:List PyData}{v:V}(h:AtT K H S (.tuple ds) v):∃ a xs,v=.ref a/\SqT K H a xs/\qa0b K H S ds xs:=qa3e (h.at fun _ z=>nomatch z)
def qa0b.eq_nil{H:Hp}{S:Addr->Prop}{ds:List PyData}(h:qa0b K H S ds []):ds=[]:=eq_nil_of_length_eq_zero h.length.symm
noncomputable def fAdd:F2
 | .int i,.int j=>some (.int (i + j))
 | .str x,.str y=>if x.length + y.length <= sizeLine then some (.str (x ++ y)) else none
 | .list xs,.list ys=>if xs.length + ys.length <= sizeLine then some (.list (xs ++ ys)) else none
 | .tuple xs,.tuple ys=>if xs.length + ys.length <= sizeLine then some (.tuple (xs ++ ys)) else none
 | _,_=>none
noncomputable def fSub:F2
 | .int i,.int j=>some (.int (i - j))
 | _,_=>none
noncomputable def fCmp(p:Int->Int->Bool):F2
 | .int i,.int j=>some (.bool (p i j))
 | _,_=>none
def ad_sub:AdR K (rI0 fun i j=>.int (i - j)) fSub:=by
 intro S H x y dx dy z Q f hx hy e k;unfold fSub at e;split at e<;>cases e;rw [hx.int,hy.int];exact⟨_,_,rfl,rfl,k _ _ (Same.refl _) (qa2r _)⟩
def qa4c(p:Int->Int->Bool):AdR K (rI0 fun i j=>.bl (p i j)) (fCmp p):=by
 intro S H x y dx dy z Q f hx hy e k;unfold fCmp at e;split at e<;>cases e;rw [hx.int,hy.int];exact⟨_,_,rfl,rfl,k _ _ (Same.refl _) (qa1u _)⟩
def rCat0(K:W.Frag):R2:=fun x y H Q=>∃ a b ys,x=.ref a/\y=.ref b/\SqT K H a []/\SqT K H b ys/\Q (.ref b) H
def op_cat0{X:Cx}:OpR X (binaryOp .Add) (rCat0 X.K):=by
 intro pins s σ H x y v u Q I rx ry h;obtain⟨a,b,ys,rfl,rfl,ha,hb,q⟩:=h;cases rx;cases ry;obtain⟨its,r1,p1,_⟩:=I.tuple ha;obtain⟨its2,r2,p2,_⟩:=I.tuple hb;cases r1;obtain⟨⟨cls,dd,data,sl⟩,ho,hc,n,hd⟩:=id p1;obtain⟨⟨cls2,dd2,data2,sl2⟩,ho2,hc2,n2,hd2⟩:=id p2;simp only at hc hd hc2 hd2;subst hc hd hc2 hd2;exact concat_meets ⟨_,ho,rfl⟩ ⟨_,ho2,rfl⟩ noFill_tuple_add seq_tuple_add PySem.F.slot_tuple_add PySem.F.entry_tuple_add (PySem.F.args_tuple_add_2 _ _)
   (tuple_addW0 a b _ its2.toArray n n2 dd dd2 sl sl2 'e') ⟨ho,ho2,⟨.ref b,H,I,rfl,q⟩⟩
def qc0d(K:W.Frag):R2:=fun x y H Q=>rI0 (fun i j=>.int (i + j)) x y H Q ∨ (∃ i j,x=.str i/\y=.str j/\i.length + j.length <= sizeLine/\Q (.str (i ++ j)) H) ∨ rCat x y H Q ∨ rCatT K x y H Q ∨ rCat0 K x y H Q
def qa1o{X:Cx}:OpR X (binaryOp .Add) (qc0d X.K):=qb2v.or (qc1g.or (op_cat.or (op_catT.or op_cat0)))
def qa2y:AdR K (qc0d K) fAdd:=by
 intro S H x y dx dy z Q f hx hy e k;unfold fAdd at e;split at e
 ·cases e
  rw [hx.int,hy.int];exact .inl ⟨_,_,rfl,rfl,k _ _ (Same.refl _) (qa2r _)⟩
 ·split at e
  ·rename_i hc
   cases e
   rw [hx.str,hy.str];exact .inr (.inl ⟨_,_,rfl,rfl,hc,k _ _ (Same.refl _) (qa4z _)⟩)
  ·cases e
 ·split at e
  ·rename_i hc
   cases e
   obtain⟨a,vs,rfl,h1,h2⟩:=hx.list;obtain⟨b,ws,rfl,h3,h4⟩:=hy.list;refine .inr (.inr (.inl ⟨a,b,vs,ws,rfl,rfl,h1,h3,by rw [h2.length,h4.length];exact hc,fun p hp=>k _ _ (qa0y hp _) (qc5s (f p hp) hp (h2.append h4))⟩))
  ·cases e
 ·split at e
  ·rename_i hc
   cases e
   obtain⟨a,vs,rfl,h1,h2⟩:=hx.tup;obtain⟨b,ws,rfl,h3,h4⟩:=hy.tup;by_cases hv:vs=[]
   ·subst hv
    obtain rfl:=h2.eq_nil;refine .inr (.inr (.inr (.inr ⟨a,b,ws,rfl,rfl,h1,h3,k _ _ (Same.refl _) ?_⟩)));exact qa5a h3 h4
   ·refine .inr (.inr (.inr (.inl ⟨a,b,vs,ws,rfl,rfl,h1,h3,hv,by rw [h2.length,h4.length];exact hc,fun ew=>k _ _ (Same.refl _) ?_,fun ew p hp=>k _ _ (qa0y hp _) (qa9s hp (h2.append h4))⟩)))
    subst ew;obtain rfl:=h4.eq_nil;rw [append_nil];exact qa5a h1 h2
  ·cases e
 ·cases e
noncomputable def fEq(neg:Bool):F2:=fun d e=>if SeqAt.shaped d=true/\SeqAt.shaped e=true then some (.bool (if neg then !PyData.eqv d e else PyData.eqv d e)) else none
def ad_eq{neg:Bool}:AdR K (rEqD K neg) (fEq neg):=by
 intro S H x y dx dy z Q f hx hy e k;unfold fEq at e;split at e
 ·rename_i hc
  cases e
  exact⟨Any,Any,dx,dy,hx.any,hy.any,hc.1,hc.2,k _ _ (Same.refl _) (qa1u _)⟩
 ·cases e
noncomputable def fIx:F2
 | .list xs,.int i=>atI xs i
 | .tuple xs,.int i=>atI xs i
 | .str x,.int i=>if x.length <= sizeLine then(atI x.cps.toList i).map fun c=>.str ⟨#[c]⟩ else none
 | _,_=>none
def qa2c:AdR K (rIx K) fIx:=by
 intro S H x y dx dy z Q f hx hy e k;unfold fIx at e;split at e
 ·obtain⟨a,vs,rfl,h1,h2⟩:=hx.list
  rw [hy.int];obtain⟨v,e1,e2⟩:=qc0b h2 e;exact .inl ⟨a,vs,_,v,rfl,rfl,SqL.of h1,e1,k _ _ (Same.refl _) e2⟩
 ·obtain⟨a,vs,rfl,h1,h2⟩:=hx.tup
  rw [hy.int];obtain⟨v,e1,e2⟩:=qc0b h2 e;exact .inr (.inl ⟨a,vs,_,v,rfl,rfl,h1,e1,k _ _ (Same.refl _) e2⟩)
 ·split at e
  ·rename_i hc
   rw [hx.str,hy.int];cases q:atI (PySem.Str.cps _).toList _ with
   | none=>rw [q] at e;cases e
   | some cc =>
    rw [q] at e;cases e;exact .inr (.inr ⟨_,_,cc,rfl,rfl,hc,q,k _ _ (Same.refl _) (qa4z _)⟩)
  ·cases e
 ·cases e
noncomputable def qa1g:PyData->Bool
 | .none=>true | .bool _=>true | .int _=>true | .str _=>true
 | _=>false
noncomputable def seqD:PyData->Option (List PyData)
 | .list xs=>some xs
 | .tuple xs=>some xs
 | _=>none
noncomputable def eqF:PyData->PyData->Bool
 | .none,.none=>true
 | .bool a,.bool b=>a == b
 | .int a,.int b=>a == b
 | .bool a,.int b=>(if a then(1:Int) else 0) == b
 | .int a,.bool b=>a == (if b then(1:Int) else 0)
 | .str a,.str b=>a == b
 | _,_=>false
noncomputable def inF(x:PyData)(xs:List PyData):Bool:=xs.any fun y=>eqF y x
noncomputable def fIn(neg:Bool):F2:=fun x y=>match y with
 | .str z=>match x with
  | .str w=>some (.bool (if neg then !(!(Builtin.Str.occurrences z w 0 z.length 1).isEmpty) else !(Builtin.Str.occurrences z w 0 z.length 1).isEmpty))
  | _=>none
 | y=>match seqD y with
  | some xs=>if qa1g x && xs.all qa1g then some (.bool (if neg then !inF x xs else inF x xs)) else none
  | none=>none
end
end
section
section
variable{K:W.Frag}{c:Rc}{O:Own}{ρ:Rho}{σ:St}{H H':Hp}{S S':Addr->Prop}
noncomputable def toV:PyData->V
 | .bool b=>.bl b
 | .int i=>.int i
 | .str x=>.str x
 | _=>.non
def qa7q{d:PyData}{v:V}(h:AtD K H S d v)(f:qa1g d=true):v=toV d/\qa6i v=true:=by
 cases d with
 | none=>rw [qb4a h];exact⟨rfl,rfl⟩
 | bool b=>rw [qa7p h];exact⟨rfl,rfl⟩
 | int i=>rw [qa9c h];exact⟨rfl,rfl⟩
 | str x=>rw [qb0s h];exact⟨rfl,rfl⟩
 | _=>cases f
def eq_flat{x y:PyData}(fx:qa1g x=true)(fy:qa1g y=true):eqV (toV y) (toV x)=eqF y x:=by
 cases x<;>cases y<;>first | rfl | (cases fx;done) | (cases fy;done)
def qb6o{x:PyData}(fx:qa1g x=true):∀ {ds:List PyData} {vs:List V},qa0b K H S ds vs->ds.all qa1g=true->vs.all qa6i=true/\inV (toV x) vs=inF x ds
 | [],vs,h,_=>by rw [h.unnil];exact⟨rfl,rfl⟩
 | d :: ds,vs,h,f=>by
  obtain⟨v,r,rfl,h1,h2⟩:=h.uncons;rw [all_cons,and_eq_true] at f;obtain⟨e1,e2⟩:=qa7q h1 f.1;obtain⟨e3,e4⟩:=qb6o fx h2 f.2;refine⟨by rw [all_cons,e2,e3];rfl,?_⟩;show(eqV v (toV x) || inV (toV x) r)=(eqF d x || inF x ds);rw [e1,eq_flat fx f.1,e4]
def qb6p(K:W.Frag)(neg:Bool):R2:=fun x y H Q=>rIn K neg x y H Q ∨ (∃ i j,x=.str i/\y=.str j/\Q (.bl (if neg then !(!(Builtin.Str.occurrences j i 0 j.length 1).isEmpty) else !(Builtin.Str.occurrences j i 0 j.length 1).isEmpty)) H)
def qb6q{X:Cx}:OpR X (compareOp .In) (qb6p X.K false):=qc3i.or qc3g
def qb2a{X:Cx}:OpR X (compareOp .NotIn) (qb6p X.K true):=qb6e.or qb6f
def AtT.seq{x:PyData}{ds:List PyData}{v:V}(h:AtT K H S x v)(e:seqD x=some ds):∃ a vs,v=.ref a/\(SqL K H a vs ∨ SqT K H a vs)/\qa0b K H S ds vs:=by
 cases x with
 | list xs=>cases e;obtain⟨a,vs,e1,h1,h2⟩:=h.list;exact⟨a,vs,e1,.inl (SqL.of h1),h2⟩
 | tuple xs=>cases e;obtain⟨a,vs,e1,h1,h2⟩:=h.tup;exact⟨a,vs,e1,.inr h1,h2⟩
 | _=>cases e
def ad_in{neg:Bool}:AdR K (qb6p K neg) (fIn neg):=by
 intro S H x y dx dy z Q f hx hy e k;unfold fIn at e;split at e
 ·split at e
  ·cases e
   rw [hx.str,hy.str];exact .inr ⟨_,_,rfl,rfl,k _ _ (Same.refl _) (qa1u _)⟩
  ·cases e
 ·split at e
  ·rename_i xs es
   split at e
   ·rename_i hf
    cases e
    rw [and_eq_true] at hf;obtain⟨a,vs,rfl,h1,h2⟩:=hy.seq es;obtain⟨e1,e2⟩:=qa7q (hx.at fun ds z=>by subst z;exact absurd hf.1 (by simp [qa1g])) hf.1;obtain⟨e3,e4⟩:=qb6o hf.1 h2 hf.2;refine .inl ⟨a,vs,rfl,h1,e2,e3,?_⟩;rw [e1,e4];exact k _ _ (Same.refl _) (qa1u _)
   ·cases e
  ·cases e
def fz(ρ:Rho)(x:DV)(Q:PyData->Rho->Prop):Prop:=match x with
 | .d y=>Q y ρ
 | .sl i=>match ρ[i]?.join with
  | some (.d y)=>Q y ρ
  | some (.own xs)=>Q (.list xs) (ρ.set i (some (.d (.list xs))))
  | _=>False
def qa1w{i:Nat}{l:L}(h:ρ[i]?.join=some l):ρ[i]? = some (some l):=by
 cases q:ρ[i]? with
 | none=>rw [q] at h;cases h
 | some o=>rw [q] at h;cases o with
  | none=>cases h
  | some l'=>cases h;rfl
def Rel.fz{x:DV}{v:V}{Q:PyData->Rho->Prop}(R:Rel K c O ρ σ H)(a:AtV K (live c O) σ H x v)(h:fz ρ x Q):∃ y ρ' O',Q y ρ'/\Rel K c O' ρ' σ H/\Pers K (live c O) H (live c O') H/\AtD K H (live c O') y v:=by
 cases x with
 | d y=>exact⟨y,ρ,O,h,R,.refl,a⟩
 | sl i =>
  have a':σ[i]? = some (some v):=a;simp only [L2.fz] at h;split at h
  ·rename_i y e
   have e':=qa1w e;obtain⟨w,h1,h2⟩:=R.dat i y e';rw [a'] at h1;cases h1;exact⟨y,ρ,O,h,R,.refl,h2⟩
  ·rename_i xs e
   have e':=qa1w e;obtain⟨R',P⟩:=R.freeze e';have hi:i < ρ.length:=(List.getElem?_eq_some_iff.mp e').1;obtain⟨w,h1,h2⟩:=R'.dat i (.list xs) (by rw [getElem?_set_self hi]);rw [a'] at h1;cases h1;exact⟨_,_,_,h,R',P,h2⟩
  ·exact h.elim
noncomputable def fzs:Rho->List DV->(List PyData->Rho->Prop)->Prop
 | ρ,[],Q=>Q [] ρ
 | ρ,x :: xs,Q=>fz ρ x fun y ρ1=>fzs ρ1 xs fun ys ρ2=>Q (y :: ys) ρ2
def qc0e{xs:List DV}:∀ {vs:List V} {ρ:Rho} {O:Own} {Q:List PyData->Rho->Prop},Rel K c O ρ σ H->AtVs K (live c O) σ H xs vs->fzs ρ xs Q->∃ ys ρ' O',Q ys ρ'/\Rel K c O' ρ' σ H/\Pers K (live c O) H (live c O') H/\qa0b K H (live c O') ys vs:=by
 induction xs with
 | nil =>
  intro vs ρ O Q R a h;cases a;exact⟨[],ρ,O,h,R,.refl,.nil⟩
 | cons x xs ih =>
  intro vs ρ O Q R a h;cases a with
  | cons a as =>
   obtain⟨y,ρ1,O1,h1,R1,P1,a1⟩:=R.fz a h;obtain⟨ys,ρ2,O2,h2,R2,P2,a2⟩:=ih R1 (AtVs.pers as P1) h1;exact⟨y :: ys,ρ2,O2,h2,R2,P1.trans P2,.cons (P2 _ _ a1) a2⟩
def dNil:TDA:=fun ρ Q=>Q [] ρ
def dCons(de:TDE)(dr:TDA):TDA:=fun ρ Q=>de ρ fun x ρ1=>dr ρ1 fun xs ρ2=>Q (x :: xs) ρ2
def ad_nil:AdA K tNil dNil:=fun c O ρ σ H Qd Q R h k=>k _ _ _ _ _ h R .refl .nil
def ad_cons{te:TE}{ta:TA}{de:TDE}{da:TDA}(he:AdE K te de)(ha:AdA K ta da):AdA K (qa8e te ta) (dCons de da):=by
 intro c O ρ σ H Qd Q R h k;refine he c O ρ σ H _ _ R h fun x ρ1 O1 v H1 h1 R1 P1 a1=>?_;refine ha c O1 ρ1 σ H1 _ _ R1 h1 fun xs ρ2 O2 vs H2 h2 R2 P2 a2=>?_;exact k _ _ _ _ _ h2 R2 (P1.trans P2) (.cons (a1.pers P2) a2)
def dTup(da:TDA):TDE:=fun ρ Q=>da ρ fun xs ρ1=>fzs ρ1 xs fun ys ρ2=>ys.length <= 1000000/\Q (.d (.tuple ys)) ρ2
def dLst(da:TDA):TDF:=fun ρ Q=>da ρ fun xs ρ1=>fzs ρ1 xs fun ys ρ2=>ys.length <= 1000000/\Q ys ρ2
def mil{n:Nat}(h:n <= 1000000):n < sizeLine:=Nat.lt_of_le_of_lt h 'k'
def ad_tup{ta:TA}{da:TDA}(ha:AdA K ta da):AdE K (tTup ta) (dTup da):=by
 intro c O ρ σ H Qd Q R h k;refine ha c O ρ σ H _ _ R h fun xs ρ1 O1 vs H1 h1 R1 P1 a1=>?_;obtain⟨ys,ρ2,O2,⟨hz,h2⟩,R2,P2,a2⟩:=qc0e R1 a1 h1;refine⟨by rw [a2.length];exact le_of_lt (mil hz),fun p hp=>?_⟩;have s:=qa0y hp (.tup vs);exact k _ _ _ _ _ h2 (R2.grow s) ((P1.trans P2).trans (.same s)) (qa9s hp a2)
def qb2m{p:Addr}(R:Rel K c O ρ σ H)(hp:H p=none):qb1u c O p:=⟨R.free0 hp,fun z=>R.pin p (.inr z) hp,fun z=>R.pin p (.inl z) hp,fun j e=>by obtain⟨_,vs,q⟩:=R.has j p e;rw [hp] at q;cases q⟩
def Rel.newL{p:Addr}{ys:List PyData}{vs:List V}(R:Rel K c O ρ σ H)(hp:H p=none)(h:qa0b K H (live c O) ys vs) :
  Rel K (c.add p) O ρ σ (upd H p (.lst vs))/\Pers K (live c O) H (live (c.add p) O) (upd H p (.lst vs))/\qb1u c O p/\qa0b K (upd H p (.lst vs)) (live (c.add p) O) ys vs:=by
 obtain⟨R1,P1⟩:=R.lay (o:=.lst vs) hp;exact⟨R1,P1,qb2m R hp,P1.all h⟩
def ad_lst{ta:TA}{da:TDA}(ha:AdA K ta da):AdF K (tLst ta) (dLst da):=by
 intro c O ρ σ H Qd Q R h k;refine ha c O ρ σ H _ _ R h fun xs ρ1 O1 vs H1 h1 R1 P1 a1=>?_;obtain⟨ys,ρ2,O2,⟨hz,h2⟩,R2,P2,a2⟩:=qc0e R1 a1 h1;refine⟨by rw [a2.length];exact le_of_lt (mil hz),fun p hp=>?_⟩;obtain⟨R3,P3,f3,a3⟩:=R2.newL hp a2;exact k _ _ _ _ _ _ h2 R3 ((P1.trans P2).trans P3) f3 qa0n a3
def dFz(df:TDF):TDE:=fun ρ Q=>df ρ fun xs ρ1=>Q (.d (.list xs)) ρ1
def ad_fz{t:TE}{df:TDF}(h:AdF K t df):AdE K t (dFz df):=by
 intro c O ρ σ H Qd Q R h0 k;refine h c O ρ σ H _ _ R h0 fun xs ρ1 O1 p vs H1 h1 R1 P1 f1 hp a1=>?_;obtain⟨R2,P2⟩:=R1.unadd;exact k _ _ _ _ _ h1 R2 (P1.trans P2) (qa2f ⟨R1.frs p f1.1,f1.2.2.1,f1.2.2.2⟩ hp (P2.all a1))
abbrev F2L:=PyData->PyData->Option (List PyData)
def dOpF(f:F2L)(da db:TDE):TDF:=fun ρ Q=>da ρ fun x ρ1=>db ρ1 fun y ρ2=>need (qa0i ρ2 x) fun dx=>need (qa0i ρ2 y) fun dy=>need (f dx dy) fun z=>Q z ρ2
noncomputable def qa1b(ρ:Rho):List DV->Option (List PyData)
 | []=>some []
 | x :: xs=>(qa0i ρ x).bind fun y=>(qa1b ρ xs).map (y :: ·)
noncomputable def AtTs(K:W.Frag)(H:Hp)(S:Addr->Prop):List PyData->List V->Prop:=Paired (AtT K H S)
def Rel.tops(R:Rel K c O ρ σ H){xs:List DV}:∀ {vs:List V} {ds:List PyData},AtVs K (live c O) σ H xs vs->qa1b ρ xs=some ds->AtTs K H (live c O) ds vs:=by
 induction xs with
 | nil =>
  intro vs ds a e;cases a;cases e;exact .nil
 | cons x xs ih =>
  intro vs ds a e;cases a with
  | cons a as =>
   unfold qa1b at e;cases q:qa0i ρ x with
   | none=>rw [q] at e;cases e
   | some y =>
    rw [q] at e;have e':(qa1b ρ xs).map (y :: ·)=some ds:=e;cases q2:qa1b ρ xs with
    | none=>rw [q2] at e';cases e'
    | some ys =>
     rw [q2] at e';cases e';exact .cons (R.top a q) (ih as q2)
abbrev FC:=List PyData->Option PyData
abbrev FCL:=List PyData->Option (List PyData)
def AdC(K:W.Frag)(r:List V->Hp->VK->Prop)(f:FC):Prop:=∀ (S:Addr->Prop) (H:Hp) (vs:List V) (ds:List PyData) (z:PyData) (Q:VK),Frs S H->AtTs K H S ds vs->f ds=some z ->
 (∀ v H',Same H H'->AtD K H' S z v->Q v H')->r vs H Q
def AdCF(K:W.Frag)(r:List V->Hp->VK->Prop)(f:FCL):Prop:=∀ (S:Addr->Prop) (H:Hp) (vs:List V) (ds:List PyData) (z:List PyData) (Q:VK),AtTs K H S ds vs->f ds=some z ->
 (∀ p ws,H p=none->qa0b K H S z ws->Q (.ref p) (upd H p (.lst ws)))->r vs H Q
def dCB(f:FC)(da:TDA):TDE:=fun ρ Q=>da ρ fun xs ρ1=>need (qa1b ρ1 xs) fun ds=>need (f ds) fun z=>Q (.d z) ρ1
def dCBF(f:FCL)(da:TDA):TDF:=fun ρ Q=>da ρ fun xs ρ1=>need (qa1b ρ1 xs) fun ds=>need (f ds) fun z=>Q z ρ1
def ad_cb{r:List V->Hp->VK->Prop}{f:FC}{ta:TA}{da:TDA}(hr:AdC K r f)(ha:AdA K ta da):AdE K (tCB r ta) (dCB f da):=by
 intro c O ρ σ H Qd Q R h k;refine ha c O ρ σ H _ _ R h fun xs ρ1 O1 vs H1 h1 R1 P1 a1=>?_;obtain⟨ds,e1,hn2⟩:=ne (h1);obtain⟨z,e2,h2⟩:=ne (hn2);refine hr (live c O1) H1 vs ds z Q R1.frsLive (R1.tops a1 e1) e2 fun v H2 s2 a2=>?_;exact k _ _ _ _ _ h2 (R1.grow s2) (P1.trans (.same s2)) a2
def ad_cbF{r:List V->Hp->VK->Prop}{f:FCL}{ta:TA}{da:TDA}(hr:AdCF K r f)(ha:AdA K ta da):AdF K (tCB r ta) (dCBF f da):=by
 intro c O ρ σ H Qd Q R h k;refine ha c O ρ σ H _ _ R h fun xs ρ1 O1 vs H1 h1 R1 P1 a1=>?_;obtain⟨ds,e1,hn1⟩:=ne (h1);obtain⟨z,e2,h2⟩:=ne (hn1);refine hr (live c O1) H1 vs ds z Q (R1.tops a1 e1) e2 fun p ws hp a2=>?_;obtain⟨R3,P3,f3,a4⟩:=R1.newL hp a2;exact k _ _ _ _ _ _ h2 R3 (P1.trans P3) f3 qa0n a4
def AtTs.one{d:PyData}{vs:List V}(h:AtTs K H S [d] vs):∃ v,vs=[v]/\AtT K H S d v:=by
 cases h with
 | cons h t=>cases t;exact⟨_,rfl,h⟩
noncomputable def fLen:FC
 | [.list xs]=>some (.int xs.length)
 | [.tuple xs]=>some (.int xs.length)
 | [.str x]=>if x.length <= sizeLine then some (.int x.length) else none
 | _=>none
noncomputable def qc0f(K:W.Frag):List V->Hp->VK->Prop:=fun xs H Q=>(∃ p ys,xs=[.ref p]/\(SqL K H p ys ∨ SqT K H p ys)/\Q (.int ys.length) H) ∨ (∃ z,xs=[.str z]/\z.length <= sizeLine/\Q (.int z.length) H)
def qa1m{X:Cx}:qa2l X (.builtin "len") (qc0f X.K):=qa5h.or qb6g
def qa3s:AdC K (qc0f K) fLen:=by
 intro S H vs ds z Q f h e k;unfold fLen at e;split at e
 ·cases e
  obtain⟨v,rfl,h1⟩:=h.one;obtain⟨a,ws,rfl,h2,h3⟩:=h1.list;exact .inl ⟨a,ws,rfl,.inl (SqL.of h2),by rw [h3.length];exact k _ _ (Same.refl _) (qa2r _)⟩
 ·cases e
  obtain⟨v,rfl,h1⟩:=h.one;obtain⟨a,ws,rfl,h2,h3⟩:=h1.tup;exact .inl ⟨a,ws,rfl,.inr h2,by rw [h3.length];exact k _ _ (Same.refl _) (qa2r _)⟩
 ·split at e
  ·rename_i hc
   cases e
   obtain⟨v,rfl,h1⟩:=h.one;rw [h1.str];exact .inr ⟨_,rfl,hc,k _ _ (Same.refl _) (qa2r _)⟩
  ·cases e
 ·cases e
noncomputable def qb3c:FC
 | [.list xs]=>some (.tuple xs)
 | [.tuple xs]=>some (.tuple xs)
 | _=>none
def qa6e:AdC K (fun xs H Q=>∃ p ys,xs=[.ref p]/\((SqL K H p ys/\∀ l,H l=none->Q (.ref l) (upd H l (.tup ys))) ∨ (SqT K H p ys/\Q (.ref p) H))) qb3c:=by
 intro S H vs ds z Q f h e k;unfold qb3c at e;split at e
 ·cases e
  obtain⟨v,rfl,h1⟩:=h.one;obtain⟨a,ws,rfl,h2,h3⟩:=h1.list;exact⟨a,ws,rfl,.inl ⟨SqL.of h2,fun l hl=>k _ _ (qa0y hl _) (qa9s hl h3)⟩⟩
 ·cases e
  obtain⟨v,rfl,h1⟩:=h.one;obtain⟨a,ws,rfl,h2,h3⟩:=h1.tup;exact⟨a,ws,rfl,.inr ⟨h2,k _ _ (Same.refl _) (qa5a h2 h3)⟩⟩
 ·cases e
noncomputable def fList:FCL
 | [.list xs]=>some xs
 | [.tuple xs]=>some xs
 | _=>none
def qb1v:AdCF K (fun xs H Q=>∃ p ys,xs=[.ref p]/\(SqL K H p ys ∨ SqT K H p ys)/\∀ l,H l=none->Q (.ref l) (upd H l (.lst ys))) fList:=by
 intro S H vs ds z Q h e k;unfold fList at e;split at e
 ·cases e
  obtain⟨v,rfl,h1⟩:=h.one;obtain⟨a,ws,rfl,h2,h3⟩:=h1.list;exact⟨a,ws,rfl,.inl (SqL.of h2),fun l hl=>k _ _ hl h3⟩
 ·cases e
  obtain⟨v,rfl,h1⟩:=h.one;obtain⟨a,ws,rfl,h2,h3⟩:=h1.tup;exact⟨a,ws,rfl,.inr h2,fun l hl=>k _ _ hl h3⟩
 ·cases e
end
section
variable{X:Cx}{a b e:Expr}{es:List Expr}{da db de:TDE}{daa:TDA}{pos:Pos}
def qa0c:DA X [] dNil:=⟨_,qa4q,ad_nil⟩
def qa0a(he:DE X e de)(ha:DA X es daa)(hs:starEach (e :: es) X.env=(false,eval e X.env) :: starEach es X.env:=by rfl):DA X (e :: es) (dCons de daa):=by
 obtain⟨te,p1,a1⟩:=he;obtain⟨ta,p2,a2⟩:=ha;exact⟨_,qa2j p1 p2 hs,ad_cons a1 a2⟩
def qa0t{x1}(ha:DA X es daa):DE X (.Tuple es x1 pos) (dTup daa):=by obtain⟨t,p,a⟩:=ha;exact⟨_,pe_tup p,ad_tup a⟩
def qa3f(ha:DA X es daa):DF X (.List es pos) (dLst daa):=by obtain⟨t,p,a⟩:=ha;exact⟨_,pe_lst p,ad_lst a⟩
def qa1e{df:TDF}(h:DF X e df):DE X e (dFz df):=by obtain⟨t,p,a⟩:=h;exact⟨t,p,ad_fz a⟩
def qa1c{x:Str}{p:Pos}{id:String}{r:List V->Hp->VK->Prop}{f:FC}(hc:qa2l X (.builtin id) r)(hr:AdC X.K r f)(hg:Gl X x)(hm:X.mg x=none)(hv:bootBuiltins x=some (.builtin id))(ha:DA X (e :: es) daa) (hn:x ≠ "__name__":=by decide) (hdb:(x == ("__debug__" : Str))=false:=by decide)
  (he:starEach (e :: es) X.env=(false,eval e X.env) :: starEach es X.env:=by rfl) (hpl:(backTo pos (starEach es X.env)).any (·.1)=false:=by rfl):DE X (.Call (.Name x p) (e :: es) [] pos) (dCB f daa):=by
 obtain⟨ta,pa,aa⟩:=ha;exact⟨_,qa5x hc hg hm hv pa hn hdb he hpl,ad_cb hr aa⟩
def qa4d{x:Str}{p:Pos}{T:String}{r:List V->Hp->VK->Prop}{f:FC}(hc:qa2l X (.type T) r)(hr:AdC X.K r f)(hg:Gl X x)(hm:X.mg x=none)(hv:bootBuiltins x=some (.type T))(ha:DA X (e :: es) daa) (hn:x ≠ "__name__":=by decide) (hdb:(x == ("__debug__" : Str))=false:=by decide)
  (he:starEach (e :: es) X.env=(false,eval e X.env) :: starEach es X.env:=by rfl) (hpl:(backTo pos (starEach es X.env)).any (·.1)=false:=by rfl):DE X (.Call (.Name x p) (e :: es) [] pos) (dCB f daa):=by
 obtain⟨ta,pa,aa⟩:=ha;exact⟨_,qb4s hc hg hm hv pa hn hdb he hpl,ad_cb hr aa⟩
def qa8f{x:Str}{p:Pos}{T:String}{r:List V->Hp->VK->Prop}{f:FCL}(hc:qa2l X (.type T) r)(hr:AdCF X.K r f)(hg:Gl X x)(hm:X.mg x=none)(hv:bootBuiltins x=some (.type T))(ha:DA X (e :: es) daa) (hn:x ≠ "__name__":=by decide) (hdb:(x == ("__debug__" : Str))=false:=by decide)
  (he:starEach (e :: es) X.env=(false,eval e X.env) :: starEach es X.env:=by rfl) (hpl:(backTo pos (starEach es X.env)).any (·.1)=false:=by rfl):DF X (.Call (.Name x p) (e :: es) [] pos) (dCBF f daa):=by
 obtain⟨ta,pa,aa⟩:=ha;exact⟨_,qb4s hc hg hm hv pa hn hdb he hpl,ad_cbF hr aa⟩
end
end
section
section
variable{K:W.Frag}{c:Rc}{O:Own}{ρ:Rho}{σ:St}{H H':Hp}{S S':Addr->Prop}
noncomputable def asB:PyData->Option Bool
 | .bool b=>some b
 | _=>none
def dB(de:TDE):TDT:=fun ρ Q=>de ρ fun x ρ1=>need (qa0i ρ1 x) fun d=>need (asB d) fun b=>Q b ρ1
def ad_b{t:TE}{de:TDE}(h:AdE K t de):AdT K (fun σ H Q=>t σ H fun x H'=>∃ k,x=.bl k/\Q k H') (dB de):=by
 intro c O ρ σ H Qd Q R h0 k;refine h c O ρ σ H _ _ R h0 fun x ρ1 O1 v H1 h1 R1 P1 a1=>?_;obtain⟨d,e1,hn12⟩:=ne (h1);obtain⟨b,e2,h2⟩:=ne (hn12);have a2:=R1.top a1 e1;cases d with
 | bool b'=>cases e2;exact⟨b,a2.bool,k _ _ _ _ h2 R1 P1⟩
 | _=>cases e2
noncomputable def tru:PyData->Option Bool
 | .none=>some false
 | .bool b=>some b
 | .int i=>some (i != 0)
 | .str x=>if x.length <= sizeLine then some ((x.length:Int) != 0) else none
 | .list xs=>some (!xs.isEmpty)
 | .tuple xs=>some (!xs.isEmpty)
 | .dict _=>none
def dTru(de:TDE):TDT:=fun ρ Q=>de ρ fun x ρ1=>need (qa0i ρ1 x) fun d=>need (tru d) fun b=>Q b ρ1
def dAnd(t u:TDT):TDT:=fun ρ Q=>t ρ fun b ρ1=>if b=true then u ρ1 Q else Q false ρ1
def dOr(t u:TDT):TDT:=fun ρ Q=>t ρ fun b ρ1=>if b=true then Q true ρ1 else u ρ1 Q
def dNot(t:TDT):TDT:=fun ρ Q=>t ρ fun b ρ1=>Q (!b) ρ1
def ad_and{t u:TT}{dt du:TDT}(h:AdT K t dt)(h':AdT K u du):AdT K (tAnd t u) (dAnd dt du):=by
 intro c O ρ σ H Qd Q R h0 k;refine h c O ρ σ H _ _ R h0 fun b ρ1 O1 H1 h1 R1 P1=>?_;cases b with
 | true=>rw [if_pos rfl] at h1 ⊢;exact h' c O1 ρ1 σ H1 _ _ R1 h1 fun b ρ2 O2 H2 h2 R2 P2=>k _ _ _ _ h2 R2 (P1.trans P2)
 | false=>rw [if_neg Bool.false_ne_true] at h1 ⊢;exact k _ _ _ _ h1 R1 P1
def ad_or{t u:TT}{dt du:TDT}(h:AdT K t dt)(h':AdT K u du):AdT K (tOr t u) (dOr dt du):=by
 intro c O ρ σ H Qd Q R h0 k;refine h c O ρ σ H _ _ R h0 fun b ρ1 O1 H1 h1 R1 P1=>?_;cases b with
 | true=>rw [if_pos rfl] at h1 ⊢;exact k _ _ _ _ h1 R1 P1
 | false=>rw [if_neg Bool.false_ne_true] at h1 ⊢;exact h' c O1 ρ1 σ H1 _ _ R1 h1 fun b ρ2 O2 H2 h2 R2 P2=>k _ _ _ _ h2 R2 (P1.trans P2)
def ad_not{t:TT}{dt:TDT}(h:AdT K t dt):AdT K (tNot t) (dNot dt):=by
 intro c O ρ σ H Qd Q R h0 k;exact h c O ρ σ H _ _ R h0 fun b ρ1 O1 H1 h1 R1 P1=>k _ _ _ _ h1 R1 P1
def dIfE(c:TDT)(a b:TDE):TDE:=fun ρ Q=>c ρ fun k ρ1=>if k=true then a ρ1 Q else b ρ1 Q
def qc5w:AtV K S σ H (.d .none) .non:=(qa9r:AtD K H S .none .non)
def qa9w{b:Bool}:AtV K S σ H (.d (.bool b)) (.bl b):=(qa1u b:AtD K H S (.bool b) (.bl b))
def dAndV(a b:TDE):TDE:=fun ρ Q=>a ρ fun x ρ1=>need (qa0i ρ1 x) fun d=>need (asB d) fun k=>if k=true then b ρ1 Q else Q (.d (.bool false)) ρ1
def dOrV(a b:TDE):TDE:=fun ρ Q=>a ρ fun x ρ1=>need (qa0i ρ1 x) fun d=>need (asB d) fun k=>if k=true then Q (.d (.bool true)) ρ1 else b ρ1 Q
def qb6r{d:PyData}{v:V}{b:Bool}(h:AtT K H S d v)(e:asB d=some b):v=.bl b:=by
 cases d with
 | bool b'=>cases e;exact h.bool
 | _=>cases e
def ad_andV{ta tb:TE}{da db:TDE}(ha:AdE K ta da)(hb:AdE K tb db):AdE K (tAndV ta tb) (dAndV da db):=by
 intro c O ρ σ H Qd Q R h0 k;refine ha c O ρ σ H _ _ R h0 fun x ρ1 O1 v H1 h1 R1 P1 a1=>?_;obtain⟨d,e1,hn10⟩:=ne (h1);obtain⟨b,e2,h2⟩:=ne (hn10);refine⟨b,qb6r (R1.top a1 e1) e2,?_⟩;cases b with
 | true=>rw [if_pos rfl] at h2 ⊢;exact hb c O1 ρ1 σ H1 _ _ R1 h2 fun x ρ2 O2 v H2 h2 R2 P2 a2=>k _ _ _ _ _ h2 R2 (P1.trans P2) a2
 | false=>rw [if_neg Bool.false_ne_true] at h2 ⊢;exact k _ _ _ _ _ h2 R1 P1 qa9w
def dNotV(a:TDE):TDE:=fun ρ Q=>a ρ fun x ρ1=>need (qa0i ρ1 x) fun d=>need (asB d) fun k=>Q (.d (.bool (!k))) ρ1
def ad_notV{ta:TE}{da:TDE}(ha:AdE K ta da):AdE K (tNotV ta) (dNotV da):=by
 intro c O ρ σ H Qd Q R h0 k;refine ha c O ρ σ H _ _ R h0 fun x ρ1 O1 v H1 h1 R1 P1 a1=>?_;obtain⟨d,e1,hn8⟩:=ne (h1);obtain⟨b,e2,h2⟩:=ne (hn8);exact⟨b,qb6r (R1.top a1 e1) e2,k _ _ _ _ _ h2 R1 P1 qa9w⟩
def qb3d(f f':F2)(da db dc:TDE):TDE:=fun ρ Q=>da ρ fun x ρ1=>db ρ1 fun y ρ2=>need (qa0i ρ2 x) fun dx=>need (qa0i ρ2 y) fun dy=>need (f dx dy) fun z=>need (asB z) fun k =>
 if k=true then dc ρ2 fun w ρ3=>need (qa0i ρ3 y) fun dy=>need (qa0i ρ3 w) fun dw=>need (f' dy dw) fun z'=>Q (.d z') ρ3 else Q (.d (.bool false)) ρ2
def qb6s{r r':R2}{f f':F2}{ta tb tc:TE}{da db dc:TDE}(hr:AdR K r f)(hr':AdR K r' f')(ha:AdE K ta da)(hb:AdE K tb db)(hc:AdE K tc dc):AdE K (qb5z r r' ta tb tc) (qb3d f f' da db dc):=by
 intro c O ρ σ H Qd Q R h k;refine ha c O ρ σ H _ _ R h fun x ρ1 O1 v H1 h1 R1 P1 a1=>?_;refine hb c O1 ρ1 σ H1 _ _ R1 h1 fun y ρ2 O2 u H2 h2 R2 P2 a2=>?_;obtain⟨dx,e1,hn7⟩:=ne (h2);obtain⟨dy,e2,hn17⟩:=ne (hn7);obtain⟨z,e3,hn20⟩:=ne (hn17);obtain⟨b,e4,h3⟩:=ne (hn20);refine hr (live c O2) H2 v u dx dy z _ R2.frsLive (R2.top (a1.pers P2) e1) (R2.top a2 e2) e3 fun w H3 s3 a3=>?_;have R3:=R2.grow s3;have P3:Pers K (live c O2) H2 (live c O2) H3:=.same s3;refine⟨b,qb6r (.inl a3) e4,?_⟩;cases b with
 | false=>rw [if_neg Bool.false_ne_true] at h3 ⊢;exact k _ _ _ _ _ h3 R3 ((P1.trans P2).trans P3) qa9w
 | true =>
  rw [if_pos rfl] at h3 ⊢;refine hc c O2 ρ2 σ H3 _ _ R3 h3 fun w ρ4 O4 u4 H4 h4 R4 P4 a4=>?_;obtain⟨dy',e5,hn26⟩:=ne (h4);obtain⟨dw,e6,hn28⟩:=ne (hn26);obtain⟨z',e7,h5⟩:=ne (hn28);refine hr' (live c O4) H4 u u4 dy' dw z' Q R4.frsLive (R4.top ((a2.pers P3).pers P4) e5) (R4.top a4 e6) e7 fun w5 H5 s5 a5=>?_;exact k _ _ _ _ _ h5 (R4.grow s5) ((((P1.trans P2).trans P3).trans P4).trans (.same s5)) a5
end
section
variable{X:Cx}{a b c e:Expr}{rest:List Expr}{da db dc de:TDE}{dt du:TDT}{pos:Pos}
def qa0x(h:DE X e de)(he:∀ whole,isTrue e X.env whole=(do let v ← whole;standAt e.pos;holding [v] (truthy v)):=by intro _;rfl):DT X e (dB de):=by
 obtain⟨t,p,a⟩:=h;exact⟨_,qb2u p he,ad_b a⟩
def qa1i{op:CmpOp}{r:R2}{f:F2}(ho:OpR X (compareOp op) r)(hr:AdR X.K r f)(ha:DE X a da)(hb:DE X b db)(hm:behindInMarks op b=false):DT X (.Compare a [op] [b] pos) (dB (dOp f da db)):=by
 obtain⟨ta,pa,aa⟩:=ha;obtain⟨tb,pb,ab⟩:=hb;exact⟨_,qb1q ho pa pb hm,ad_b (ad_op hr aa ab)⟩
def qc5x{op op':CmpOp}{r r':R2}{f f':F2}(ho:OpR X (compareOp op) r)(hr:AdR X.K r f)(ho':OpR X (compareOp op') r')(hr':AdR X.K r' f')(ha:DE X a da)(hb:DE X b db)(hc:DE X c dc)
  (hm:lastMarks [op,op'] [b,c]=false:=by with_unfolding_all rfl):DT X (.Compare a [op,op'] [b,c] pos) (dB (qb3d f f' da db dc)):=by
 obtain⟨ta,pa,aa⟩:=ha;obtain⟨tb,pb,ab⟩:=hb;obtain⟨tc,pc,ac⟩:=hc;exact⟨_,qc5f ho ho' pa pb pc hm,ad_b (qb6s hr hr' aa ab ac)⟩
def qb2n{op op':CmpOp}{r r':R2}{f f':F2}(ho:OpR X (compareOp op) r)(hr:AdR X.K r f)(ho':OpR X (compareOp op') r')(hr':AdR X.K r' f')(ha:DE X a da)(hb:DE X b db)(hc:DE X c dc)
  (hm:lastMarks [op,op'] [b,c]=false:=by with_unfolding_all rfl):DE X (.Compare a [op,op'] [b,c] pos) (qb3d f f' da db dc):=by
 obtain⟨ta,pa,aa⟩:=ha;obtain⟨tb,pb,ab⟩:=hb;obtain⟨tc,pc,ac⟩:=hc;exact⟨_,qc5e ho ho' pa pb pc hm,qb6s hr hr' aa ab ac⟩
def DW.toT(h:DW X e dt):DT X e dt:=by obtain⟨t,p,a⟩:=h;exact⟨t,p.pt,a⟩
def dw_and1(ha:DT X a dt):DW X (.BoolOp .And [a] pos) dt:=by obtain⟨t,p,a⟩:=ha;exact⟨t,pw_and1 p,a⟩
def qa3g(ha:DT X a dt):DW X (.BoolOp .Or [a] pos) dt:=by obtain⟨t,p,a⟩:=ha;exact⟨t,pw_or1 p,a⟩
def dw_and(ha:DT X a dt)(hb:DW X (.BoolOp .And (b :: rest) pos) du):DW X (.BoolOp .And (a :: b :: rest) pos) (dAnd dt du):=by obtain⟨_,p,a⟩:=ha;obtain⟨_,p',a'⟩:=hb;exact⟨_,pw_and p p',ad_and a a'⟩
def qa2o(ha:DT X a dt)(hb:DW X (.BoolOp .Or (b :: rest) pos) du):DW X (.BoolOp .Or (a :: b :: rest) pos) (dOr dt du):=by obtain⟨_,p,a⟩:=ha;obtain⟨_,p',a'⟩:=hb;exact⟨_,pw_or p p',ad_or a a'⟩
def qa1d(ha:DT X a dt):DT X (.UnaryOp .Not a pos) (dNot dt):=by obtain⟨_,p,a⟩:=ha;exact⟨_,pt_not p,ad_not a⟩
def qa5m{op}(h:DE X a da):DE X (.BoolOp op [a] pos) da:=by obtain⟨t,p,a⟩:=h;exact⟨t,pe_one p,a⟩
def qa4r(ha:DE X a da)(hb:DE X (.BoolOp .And (b :: rest) pos) db):DE X (.BoolOp .And (a :: b :: rest) pos) (dAndV da db):=by obtain⟨_,p,a⟩:=ha;obtain⟨_,p',a'⟩:=hb;exact⟨_,pe_and p p',ad_andV a a'⟩
def de_not(ha:DE X a da):DE X (.UnaryOp .Not a pos) (dNotV da):=by obtain⟨_,p,a⟩:=ha;exact⟨_,pe_not p,ad_notV a⟩
end
inductive RV where
 | d (x:PyData)
 | new (xs:List PyData)
structure DEnds where
 nx:Rho->Prop
 rt:RV->Rho->Prop
 bk:Rho->Prop:=fun _=>False
 ct:Rho->Prop:=fun _=>False
abbrev TDS:=DEnds->Rho->Prop
noncomputable def RetOk(K:W.Frag)(c:Rc)(O:Own)(ρ:Rho)(σ:St)(H:Hp):RV->V->Prop
 | .d x,v=>Rel K c O ρ σ H/\AtD K H (live c O) x v
 | .new xs,v=>∃ p vs,v=.ref p/\Rel K (c.add p) O ρ σ H/\qb1u c O p/\H p=some (.lst vs)/\qa0b K H (live (c.add p) O) xs vs
structure EndsOk(K:W.Frag)(c:Rc)(S0:Addr->Prop)(H0:Hp)(D:Ends)(Dd:DEnds):Prop where
 nx:∀ O ρ σ H,Rel K c O ρ σ H->Pers K S0 H0 (live c O) H->Dd.nx ρ->D.nx σ H
 rt:∀ r O ρ σ H v,RetOk K c O ρ σ H r v->Dd.rt r ρ->D.rt v H
 bk:∀ O ρ σ H,Rel K c O ρ σ H->Pers K S0 H0 (live c O) H->Dd.bk ρ->D.bk σ H
 ct:∀ O ρ σ H,Rel K c O ρ σ H->Pers K S0 H0 (live c O) H->Dd.ct ρ->D.ct σ H
 mb:∀ p,c.M p->c.B p
 oa:∀ p,c.H0 p=none->c.A p
def EndsOk.later{K:W.Frag}{c:Rc}{S0 S1:Addr->Prop}{H0 H1:Hp}{D:Ends}{Dd:DEnds}(E:EndsOk K c S0 H0 D Dd)(P:Pers K S0 H0 S1 H1):EndsOk K c S1 H1 D Dd:=
 ⟨fun O ρ σ H R q=>E.nx O ρ σ H R (P.trans q),E.rt,fun O ρ σ H R q=>E.bk O ρ σ H R (P.trans q),fun O ρ σ H R q=>E.ct O ρ σ H R (P.trans q),E.mb,E.oa⟩
def AdS(K:W.Frag)(t:TS)(dt:TDS):Prop:=∀ (c:Rc) (O:Own) (ρ:Rho) (σ:St) (H:Hp) (D:Ends) (Dd:DEnds),Rel K c O ρ σ H->EndsOk K c (live c O) H D Dd->dt Dd ρ->t D σ H
def DS(X:Cx)(st:Stmt)(dt:TDS):Prop:=∃ t,PS X st t/\AdS X.K t dt
def DSs(X:Cx)(st:List Stmt)(dt:TDS):Prop:=∃ t,PSs X st t/\AdS X.K t dt
section
variable{K:W.Frag}{c:Rc}{O:Own}{ρ:Rho}{σ:St}{H H':Hp}{S S':Addr->Prop}
def dNext:TDS:=fun D ρ=>D.nx ρ
def dSeq(t u:TDS):TDS:=fun D ρ=>t { D with nx:=u D } ρ
def ad_next:AdS K tNext dNext:=fun c O ρ σ H D Dd R E h=>E.nx O ρ σ H R .refl h
def ad_seq{t u:TS}{dt du:TDS}(h:AdS K t dt)(h':AdS K u du):AdS K (tSeq t u) (dSeq dt du):=fun c O ρ σ H D Dd R E q =>
 h c O ρ σ H { D with nx:=u D } { Dd with nx:=du Dd } R ⟨fun O1 ρ1 σ1 H1 R1 P1 q1=>h' c O1 ρ1 σ1 H1 D Dd R1 (E.later P1) q1,E.rt,E.bk,E.ct,E.mb,E.oa⟩ q
def dDrop(de:TDE):TDS:=fun D ρ=>de ρ fun _ ρ1=>D.nx ρ1
def ad_drop{t:TE}{de:TDE}(h:AdE K t de):AdS K (tDrop t) (dDrop de):=fun c O ρ σ H D Dd R E q =>
 h c O ρ σ H _ _ R q fun x ρ1 O1 v H1 h1 R1 P1 a1=>E.nx O1 ρ1 σ H1 R1 P1 h1
def dRet(de:TDE):TDS:=fun D ρ=>de ρ fun x ρ1=>fz ρ1 x fun y ρ2=>D.rt (.d y) ρ2
def ad_ret{t:TE}{de:TDE}(h:AdE K t de):AdS K (tRet t) (dRet de):=fun c O ρ σ H D Dd R E q =>
 h c O ρ σ H _ _ R q fun x ρ1 O1 v H1 h1 R1 P1 a1=>by
  obtain⟨y,ρ2,O2,h2,R2,P2,a2⟩:=R1.fz a1 h1;exact E.rt (.d y) O2 ρ2 σ H1 v ⟨R2,a2⟩ h2
def dRetF(df:TDF):TDS:=fun D ρ=>df ρ fun xs ρ1=>D.rt (.new xs) ρ1
def dIf(c:TDT)(t u:TDS):TDS:=fun D ρ=>c ρ fun b ρ1=>if b=true then t D ρ1 else u D ρ1
def ad_if{tc:TT}{t u:TS}{dc:TDT}{dt du:TDS}(hc:AdT K tc dc)(h:AdS K t dt)(h':AdS K u du):AdS K (tIfS tc t u) (dIf dc dt du):=fun c O ρ σ H D Dd R E q =>
 hc c O ρ σ H _ _ R q fun b ρ1 O1 H1 h1 R1 P1=>by
  cases b with
  | true=>rw [if_pos rfl] at h1 ⊢;exact h c O1 ρ1 σ H1 D Dd R1 (E.later P1) h1
  | false=>rw [if_neg Bool.false_ne_true] at h1 ⊢;exact h' c O1 ρ1 σ H1 D Dd R1 (E.later P1) h1
def dSet(i:Nat)(de:TDE):TDS:=fun D ρ=>de ρ fun x ρ1=>fz ρ1 x fun y ρ2=>i < ρ2.length/\D.nx (ρ2.set i (some (.d y)))
def ad_set{i:Nat}{t:TE}{de:TDE}(h:AdE K t de):AdS K (tAsg t (qa9n i)) (dSet i de):=fun c O ρ σ H D Dd R E q =>
 h c O ρ σ H _ _ R q fun x ρ1 O1 v H1 h1 R1 P1 a1=>by
  obtain⟨y,ρ2,O2,⟨hi,h2⟩,R2,P2,a2⟩:=R1.fz a1 h1;obtain⟨R3,P3⟩:=R2.setD hi a2;exact E.nx _ _ _ H1 R3 ((P1.trans P2).trans P3) h2
def dSetF(i:Nat)(df:TDF):TDS:=fun D ρ=>df ρ fun xs ρ1=>i < ρ1.length/\D.nx (ρ1.set i (some (.own xs)))
def qc0g{i:Nat}{t:TE}{df:TDF}(h:AdF K t df):AdS K (tAsg t (qa9n i)) (dSetF i df):=fun c O ρ σ H D Dd R E q =>
 h c O ρ σ H _ _ R q fun xs ρ1 O1 p vs H1 h1 R1 P1 f1 hp a1=>by
  obtain⟨hi,h2⟩:=h1;obtain⟨R3,P3⟩:=R1.setOwn hi f1.1 f1.2.1 f1.2.2.1 f1.2.2.2 (E.oa _ f1.1) hp a1;exact E.nx _ _ _ H1 R3 (P1.trans P3) h2
abbrev TDG:=PyData->Rho->(Rho->Prop)->Prop
abbrev TDGs:=List PyData->Rho->(Rho->Prop)->Prop
def AdG(K:W.Frag)(g:TG)(dg:TDG):Prop:=∀ (c:Rc) (O:Own) (ρ:Rho) (σ:St) (H:Hp) (x:PyData) (v:V) (Qd:Rho->Prop) (Q:St->Hp->Prop),Rel K c O ρ σ H->AtD K H (live c O) x v->dg x ρ Qd ->
 (∀ O' ρ' σ' ,Rel K c O' ρ' σ' H->Pers K (live c O) H (live c O') H->Qd ρ'->Q σ' H)->g v σ H Q
def AdGs(K:W.Frag)(g:TGs)(dg:TDGs):Prop:=∀ (c:Rc) (O:Own) (ρ:Rho) (σ:St) (H:Hp) (x:List PyData) (v:List V) (Qd:Rho->Prop) (Q:St->Hp->Prop),Rel K c O ρ σ H->qa0b K H (live c O) x v->dg x ρ Qd ->
 (∀ O' ρ' σ' ,Rel K c O' ρ' σ' H->Pers K (live c O) H (live c O') H->Qd ρ'->Q σ' H)->g v σ H Q
def qb6t(i:Nat):TDG:=fun x ρ Q=>i < ρ.length/\Q (ρ.set i (some (.d x)))
def ag_name{i:Nat}:AdG K (qa9n i) (qb6t i):=fun c O ρ σ H x v Qd Q R a h k=>by
 obtain⟨R1,P1⟩:=R.setD h.1 a;exact k _ _ _ R1 P1 h.2
noncomputable def dgNil:TDGs:=fun xs ρ Q=>xs=[]/\Q ρ
def qb6u(t:TDG)(u:TDGs):TDGs:=fun xs ρ Q=>match xs with
 | x :: r=>t x ρ fun ρ1=>u r ρ1 Q
 | []=>False
def ag_nil:AdGs K gNil dgNil:=fun c O ρ σ H x v Qd Q R a h k=>by
 obtain⟨rfl,h⟩:=h;exact⟨a.unnil,k _ _ _ R .refl h⟩
def ag_cons{t:TG}{u:TGs}{dt:TDG}{du:TDGs}(h:AdG K t dt)(h':AdGs K u du):AdGs K (gCons t u) (qb6u dt du):=fun c O ρ σ H x v Qd Q R a q k=>by
 cases x with
 | nil=>exact(show False from q).elim
 | cons x r =>
  obtain⟨w,ws,rfl,a1,a2⟩:=a.uncons;exact⟨w,ws,rfl,h c O ρ σ H x w _ _ R a1 q fun O1 ρ1 σ1 R1 P1 q1=>h' c O1 ρ1 σ1 H r ws _ _ R1 (P1.all a2) q1 fun O2 ρ2 σ2 R2 P2 q2=>k _ _ _ R2 (P1.trans P2) q2⟩
def dgTup(n:Nat)(t:TDGs):TDG:=fun x ρ Q=>match x with
 | .tuple xs=>xs.length=n/\t xs ρ Q
 | _=>False
def ag_tup{n:Nat}{t:TGs}{dt:TDGs}(h:AdGs K t dt):AdG K (gTup K n t) (dgTup n dt):=fun c O ρ σ H x v Qd Q R a q k=>by
 cases x with
 | tuple xs =>
  obtain⟨hn,q⟩:=q;obtain⟨b,ws,rfl,h1,h2⟩:=qa3e a;exact⟨b,ws,rfl,h1,by rw [h2.length];exact hn,h c O ρ σ H xs ws _ _ R h2 q k⟩
 | _=>exact(show False from q).elim
def dAsg(de:TDE)(g:TDG):TDS:=fun D ρ=>de ρ fun x ρ1=>fz ρ1 x fun y ρ2=>g y ρ2 D.nx
inductive OK where | o | b
noncomputable def ownB(ρ:Rho)(i:Nat):Option (OK × List PyData):=match ρ[i]?.join with
 | some (.own xs)=>some (.o,xs)
 | some (.bor xs)=>some (.b,xs)
 | _=>none
noncomputable def okL:OK->List PyData->L
 | .o,xs=>.own xs
 | .b,xs=>.bor xs
def qc0h{i:Nat}{o:OK}{xs:List PyData}(R:Rel K c O ρ σ H)(h:ownB ρ i=some (o,xs)):ρ[i]? = some (some (okL o xs))/\∃ p vs,O i=some p/\σ[i]? = some (some (.ref p))/\H p=some (.lst vs)/\qa0b K H (live c O) xs vs:=by
 unfold ownB at h;split at h
 ·rename_i ys e
  cases h
  have e':=qa1w e;obtain⟨p,vs,h1,_,h3,h4,h5⟩:=R.own i _ e';exact⟨e',p,vs,h1,h3,h4,h5⟩
 ·rename_i ys e
  cases h
  have e':=qa1w e;obtain⟨p,vs,h1,h3,h4,h5⟩:=R.bor i _ e';exact⟨e',p,vs,h1,h3,h4,h5⟩
 ·cases h
def Rel.writeB{i:Nat}{o:OK}{p:Addr}{xs ys:List PyData}{vs vs':List V}(R:Rel K c O ρ σ H)(hO:O i=some p)(hH:H p=some (.lst vs))(e:ρ[i]? = some (some (okL o xs)))(h:qa0b K H (live c O) ys vs') :
  Rel K c O (ρ.set i (some (okL o ys))) σ (upd H p (.lst vs'))/\Pers K (live c O) H (live c O) (upd H p (.lst vs')):=by
 cases o with
 | o=>exact R.write hO hH (.inl e) (.inl ⟨ys,e,rfl,h⟩)
 | b=>exact R.write hO hH (.inr (.inl e)) (.inr (.inl ⟨ys,e,rfl,h⟩))
def dAppend(i:Nat)(de:TDE):TDE:=fun ρ Q=>need (ownB ρ i) fun _=>de ρ fun x ρ1=>fz ρ1 x fun y ρ2=>need (ownB ρ2 i) fun o=>o.2.length <= 1000000/\Q (.d .none) (ρ2.set i (some (okL o.1 (o.2 ++ [y]))))
def dPop(i:Nat):TDE:=fun ρ Q=>need (ownB ρ i) fun o=>need o.2.getLast? fun y=>Q (.d y) (ρ.set i (some (okL o.1 o.2.dropLast)))
def qb6v(i:Nat)(di de:TDE):TDS:=fun D ρ=>de ρ fun x ρ1=>fz ρ1 x fun y ρ2=>need (ownB ρ2 i) fun _=>di ρ2 fun z ρ3=>need (qa0i ρ3 z) fun dz=>need (asI dz) fun n=>need (ownB ρ3 i) fun o=>need (ixN o.2.length n) fun j=>D.nx (ρ3.set i (some (okL o.1 (o.2.set j y))))
 where asI:PyData->Option Int
  | .int i=>some i
  | _=>none
abbrev TDI:=Rho->(List PyData->Rho->Prop)->Prop
def qb0v(K:W.Frag)(S:Addr->Prop)(H:Hp)(J:It)(xs:List PyData):Prop:=∀ (S':Addr->Prop) (H':Hp),Pers K S H S' H' ->
 (∀ (i:Nat) (x:PyData),xs[i]? = some x->J.go i H'/\∀ v H'',J.yld i H' v H''->Same H' H''/\AtD K H'' S' x v)/\J.stop xs.length H'
def AdI(K:W.Frag)(t:TI)(di:TDI):Prop:=∀ (c:Rc) (O:Own) (ρ:Rho) (σ:St) (H:Hp) (Qd:List PyData->Rho->Prop) (Q:It->Hp->Prop),Rel K c O ρ σ H->di ρ Qd ->
 (∀ xs ρ' O' J H',Qd xs ρ'->Rel K c O' ρ' σ H'->Pers K (live c O) H (live c O') H'->qb0v K (live c O') H' J xs->Q J H')->t σ H Q
def DI(X:Cx)(tg iter:Expr)(di:TDI):Prop:=∃ t,PI X tg iter t/\AdI X.K t di
def qc1w{a:Addr}{vs:List V}{xs:List PyData}(h1:SqT K H a vs)(h2:qa0b K H S xs vs):qb0v K S H (Itt K a) xs:=fun S' H' P=>by
 obtain⟨b,ws,e,h3,h4⟩:=qa3e (P _ _ (qa5a h1 h2));cases e;refine⟨fun i x e=>?_,⟨ws,h3,by rw [h4.length];exact le_refl _⟩⟩;obtain⟨w,e1,e2⟩:=h4.get e;refine⟨⟨ws,w,h3,e1⟩,fun v H'' y=>?_⟩;obtain⟨rfl,y⟩:=y;have e3:=y ws h3;rw [e1] at e3;cases e3;exact⟨Same.refl _,e2⟩
def qc1x{a:Addr}{vs:List V}{xs:List PyData}(hS:S a)(h1:H a=some (.lst vs))(h2:qa0b K H S xs vs):qb0v K S H (Itl K a) xs:=fun S' H' P=>by
 obtain⟨b,ws,e,_,h3,h4⟩:=qa4a (P _ _ (qa2f hS h1 h2));cases e;refine⟨fun i x e=>?_,⟨ws,SqL.of h3,by rw [h4.length];exact le_refl _⟩⟩;obtain⟨w,e1,e2⟩:=h4.get e;refine⟨⟨ws,w,SqL.of h3,e1⟩,fun v H'' y=>?_⟩;obtain⟨rfl,y⟩:=y;have e3:=y ws (SqL.of h3);rw [e1] at e3;cases e3;exact⟨Same.refl _,e2⟩
def diDat(de:TDE):TDI:=fun ρ Q=>de ρ fun x ρ1=>fz ρ1 x fun y ρ2=>need (seqD y) fun xs=>Q xs ρ2
def ai_dat{t:TE}{de:TDE}(h:AdE K t de):AdI K (iDat K t) (diDat de):=fun c O ρ σ H Qd Q R q k =>
 h c O ρ σ H _ _ R q fun x ρ1 O1 v H1 h1 R1 P1 a1=>by
  obtain⟨y,ρ2,O2,hz3,R2,P2,a2⟩:=R1.fz a1 h1;obtain⟨xs,e,h2⟩:=ne (hz3);cases y with
  | list ys =>
   cases e
   obtain⟨a,vs,rfl,hS,h3,h4⟩:=qa4a a2;exact .inr ⟨a,rfl,⟨vs,SqL.of h3⟩,k _ _ _ _ _ h2 R2 (P1.trans P2) (qc1x hS h3 h4)⟩
  | tuple ys =>
   cases e
   obtain⟨a,vs,rfl,h3,h4⟩:=qa3e a2;exact .inl ⟨a,rfl,⟨vs,h3⟩,k _ _ _ _ _ h2 R2 (P1.trans P2) (qc1w h3 h4)⟩
  | _=>cases e
noncomputable def rngD(lo:Int)(n:Nat):List PyData:=(List.range n).map fun i=>.int (lo + (i:Nat))
def qc1y{lo:Int}{n:Nat}:qb0v K S H (Itr lo n) (rngD lo n):=fun S' H' P=>by
 have hl:(rngD lo n).length=n:=by simp [rngD]
 refine⟨fun i x e=>?_,by rw [hl];exact le_refl _⟩;have hi:i < n:=by rw [← hl];exact(List.getElem?_eq_some_iff.mp e).1
 have ex:x=.int (lo + (i:Nat)):=by
  simp only [rngD,getElem?_map,List.getElem?_range hi,map_some] at e;exact(Option.some.inj e).symm
 subst ex;refine⟨hi,fun v H'' y=>?_⟩;obtain⟨rfl,rfl⟩:=y;exact⟨Same.refl _,qa2r _⟩
noncomputable def asI:PyData->Option Int
 | .int i=>some i
 | _=>none
def qb6w{d:PyData}{v:V}{i:Int}(h:AtT K H S d v)(e:asI d=some i):v=.int i:=by
 cases d with
 | int i'=>cases e;exact h.int
 | _=>cases e
def sm62(i:Int):Prop:=-(2 ^ 62) <= i/\i < 2 ^ 62
def qb6x(de:TDE):TDI:=fun ρ Q=>de ρ fun x ρ1=>need (qa0i ρ1 x) fun d=>need (asI d) fun j=>sm62 j/\Q (rngD 0 j.toNat) ρ1
def ai_rng1{t:TE}{de:TDE}(h:AdE K t de):AdI K (iRng1 (qa8e t tNil)) (qb6x de):=fun c O ρ σ H Qd Q R q k =>
 h c O ρ σ H _ _ R q fun x ρ1 O1 v H1 h1 R1 P1 a1=>by
  obtain⟨d,e1,hn2⟩:=ne (h1);obtain⟨j,e2,hn14⟩:=ne (hn2);obtain⟨hj,h2⟩:=hn14;have ev:=qb6w (R1.top a1 e1) e2;exact⟨j,by rw [ev],hj.1,hj.2,k _ _ _ _ _ h2 R1 P1 qc1y⟩
def qa4u(g:TDG)(b:TDS)(D:DEnds):List PyData->Rho->Prop
 | [],ρ=>D.nx ρ
 | x :: r,ρ=>g x ρ fun ρ1=>b { D with nx:=qa4u g b D r,ct:=qa4u g b D r,bk:=D.nx } ρ1
def dFor(di:TDI)(g:TDG)(b:TDS):TDS:=fun D ρ=>di ρ fun xs ρ1=>qa4u g b D xs ρ1
def ad_for{ti:TI}{tg:TG}{tb:TS}{di:TDI}{dg:TDG}{db:TDS}(hi:AdI K ti di)(hg:AdG K tg dg)(hb:AdS K tb db):AdS K (tFor ti tg tb) (dFor di dg db):=fun c O ρ σ H D Dd R E q =>
 hi c O ρ σ H _ _ R q fun xs ρ1 O1 J H1 h1 R1 P1 I1=>by
  refine⟨fun i m σ' H'=>m=xs.length - i/\i <= xs.length/\∃ O' ρ',Rel K c O' ρ' σ' H'/\Pers K (live c O1) H1 (live c O') H'/\qa4u dg db Dd (xs.drop i) ρ',⟨xs.length,by simp,zero_le _,O1,ρ1,R1,.refl,by rw [drop_zero];exact h1⟩,?_⟩;rintro i m σ2 H2 ⟨rfl,hle,O2,ρ2,R2,P2,h2⟩;obtain⟨it,stop⟩:=I1 _ _ P2;by_cases hlt:i < xs.length
  ·rw [drop_eq_getElem_cons hlt] at h2
   obtain⟨go,yld⟩:=it i xs[i] (getElem?_eq_getElem hlt);have h2':dg xs[i] ρ2 fun ρ1=>db { Dd with nx:=qa4u dg db Dd (xs.drop (i + 1)),ct:=qa4u dg db Dd (xs.drop (i + 1)),bk:=Dd.nx } ρ1:=h2;refine .inr ⟨go,fun σ' H'=>∃ O' ρ',Rel K c O' ρ' σ' H'/\Pers K (live c O1) H1 (live c O') H'/\qa4u dg db Dd (xs.drop (i + 1)) ρ',fun σ' H' hq8=>by obtain⟨O',ρ',R',P',q'⟩:=hq8;exact⟨xs.length - (i + 1),'o',rfl,hlt,O',ρ',R',P',q'⟩,fun v H3 y=>?_⟩;obtain⟨s3,a3⟩:=yld v H3 y;refine hg c O2 ρ2 σ2 H3 xs[i] v _ _ (R2.grow s3) a3 h2' fun O4 ρ4 σ4 R4 P4 h4=>?_;have P5:Pers K (live c O1) H1 (live c O4) H3:=(P2.trans (.same s3)).trans P4;exact hb c O4 ρ4 σ4 H3 _ { Dd with nx:=qa4u dg db Dd (xs.drop (i + 1)),ct:=qa4u dg db Dd (xs.drop (i + 1)),bk:=Dd.nx } R4 ⟨fun O6 ρ6 σ6 H6 R6 P6 q6=>⟨O6,ρ6,R6,P5.trans P6,q6⟩,E.rt,fun O6 ρ6 σ6 H6 R6 P6=>E.nx _ _ _ _ R6 ((P1.trans P5).trans P6),fun O6 ρ6 σ6 H6 R6 P6 q6=>⟨O6,ρ6,R6,P5.trans P6,q6⟩,E.mb,E.oa⟩ h4
  ·have e:i=xs.length:=by omega
   subst e;rw [List.drop_eq_nil_of_le 'c'] at h2;exact .inl ⟨stop,E.nx _ _ _ _ R2 (P1.trans P2) h2⟩
end
end
section
noncomputable def qa7a:L->L->Option L
 | .own _,.bor xs=>some (.own xs)
 | .bor _,.bor xs=>some (.bor xs)
 | .tape _,.tape k=>some (.tape k)
 | _,_=>none
noncomputable def lend:L->L
 | .own xs=>.bor xs
 | l=>l
noncomputable def isOw:L->Bool
 | .own _=>true
 | .bor _=>true
 | .tape _=>true
 | _=>false
abbrev Lent:=Nat->Option Nat
section
variable{K:W.Frag}{c:Rc}{O:Own}{ρ:Rho}{σ:St}{H H':Hp}{S S':Addr->Prop}
def Rel.ow{i:Nat}{l:L}(R:Rel K c O ρ σ H)(h:ρ[i]? = some (some l))(ho:isOw l=true):∃ p,O i=some p/\σ[i]? = some (some (.ref p)):=by
 cases l with
 | own xs=>obtain⟨p,vs,h1,_,h3,_⟩:=R.own i xs h;exact⟨p,h1,h3⟩
 | bor xs=>obtain⟨p,vs,h1,h3,_⟩:=R.bor i xs h;exact⟨p,h1,h3⟩
 | tape k=>obtain⟨p,h1,h3,_⟩:=R.tap i k h;exact⟨p,h1,h3⟩
 | _=>cases ho
noncomputable def Holds(K:W.Frag)(c:Rc)(S:Addr->Prop)(H:Hp)(p:Addr):L->Prop
 | .own xs=>∃ vs,H p=some (.lst vs)/\qa0b K H S xs vs
 | .bor xs=>∃ vs,H p=some (.lst vs)/\qa0b K H S xs vs
 | .tape k=>H p=some (.lst [.ref c.sa,.int k])
 | _=>False
def Rel.holds{i:Nat}{l:L}(R:Rel K c O ρ σ H)(h:ρ[i]? = some (some l))(ho:isOw l=true):∃ p,O i=some p/\σ[i]? = some (some (.ref p))/\Holds K c (live c O) H p l/\(∀ xs,l=.own xs->qa9t c p):=by
 cases l with
 | own xs=>obtain⟨p,vs,h1,h2,h3,h4,h5⟩:=R.own i xs h;exact⟨p,h1,h3,⟨vs,h4,h5⟩,fun _ _=>h2⟩
 | bor xs=>obtain⟨p,vs,h1,h3,h4,h5⟩:=R.bor i xs h;exact⟨p,h1,h3,⟨vs,h4,h5⟩,fun _ z=>nomatch z⟩
 | tape k=>obtain⟨p,h1,h3,h4⟩:=R.tap i k h;exact⟨p,h1,h3,h4,fun _ z=>nomatch z⟩
 | _=>cases ho
mutual
def AtD.inH(hs:∀ a,S a->H a ≠ none->S' a):∀ (d:PyData) (v:V),AtD K H S d v->AtD K H S' d v
 | .none,_,h=>by unfold AtD at h ⊢;exact h
 | .bool _,_,h=>by unfold AtD at h ⊢;exact h
 | .int _,_,h=>by unfold AtD at h ⊢;exact h
 | .str _,_,h=>by unfold AtD at h ⊢;exact h
 | .list ds,v,h=>by
  obtain⟨a,xs,e1,s,q,r⟩:=qa4a h;subst e1;exact qa2f (hs a s (by rw [q];exact fun z=>nomatch z)) q (qa0b.inH hs ds xs r)
 | .tuple ds,v,h=>by
  obtain⟨a,xs,e1,q,r⟩:=qa3e h;subst e1;exact qa5a q (qa0b.inH hs ds xs r)
 | .dict kvs,v,h=>by
  obtain⟨a,ν,e1,s,q,e2⟩:=qb1t h;subst e1;exact qb0t (hs a s (by rw [q];exact fun z=>nomatch z)) q (qa0l.inH hs kvs ν e2)
def qa0b.inH(hs:∀ a,S a->H a ≠ none->S' a):∀ (ds:List PyData) (vs:List V),qa0b K H S ds vs->qa0b K H S' ds vs
 | [],_,h=>by rw [h.unnil];exact .nil
 | d :: ds,vs,h=>by
  obtain⟨v,r,rfl,h1,h2⟩:=h.uncons;exact .cons (AtD.inH hs d v h1) (qa0b.inH hs ds r h2)
def qa0l.inH(hs:∀ a,S a->H a ≠ none->S' a):∀ (kvs:List (PyData × PyData)) (κ:List (Key × V)),qa0l K H S kvs κ->qa0l K H S' kvs κ
 | [],_,h=>by rw [h.unnil];exact .nil
 | (x,d) :: r,κ,h=>by
  obtain⟨k,v,t,rfl,rfl,h1,h2⟩:=h.uncons;exact .cons (AtD.inH hs d v h1) (qa0l.inH hs r t h2)
end
noncomputable def qa0z(O:Own)(ρ:Rho)(f:Lent):Own:=fun j=>(f j).bind fun i=>match ρ[i]?.join with
 | some l=>if isOw l then O i else none
 | none=>none
noncomputable def Rc.in(c:Rc)(O Oc:Own)(P:Addr->Prop)(b:Bool)(H:Hp):Rc:={ A:=fun p=>(∃ j,Oc j=some p) ∨ (b=true/\H p=none),H0:=H,S:=live c O,P:=P,M:=fun p=>∃ j,Oc j=some p,B:=fun p=>∃ j,Oc j=some p,lent:=Oc,sa:=c.sa,ns:=c.ns }
def qa2d{f:Lent}{j:Nat}{p:Addr}(h:qa0z O ρ f j=some p):∃ i l,f j=some i/\ρ[i]? = some (some l)/\isOw l=true/\O i=some p:=by
 unfold qa0z at h;cases e:f j with
 | none=>rw [e] at h;cases h
 | some i =>
  rw [e] at h;have h':(match ρ[i]?.join with | some l=>if isOw l then O i else none | none=>none)=some p:=h;split at h'
  ·rename_i l el
   split at h'
   ·rename_i ho
    exact⟨i,l,rfl,qa1w el,ho,h'⟩
   ·cases h'
  ·cases h'
def qb2o{f:Lent}{j i:Nat}{l:L}(e:f j=some i)(h:ρ[i]? = some (some l))(ho:isOw l=true):qa0z O ρ f j=O i:=by
 unfold qa0z;rw [e];show(match ρ[i]?.join with | some l=>if isOw l then O i else none | none=>none)=O i;rw [h];show(if isOw l then O i else none)=O i;rw [if_pos ho]
structure Begins(K:W.Frag)(c:Rc)(O:Own)(ρ:Rho)(σ:St)(H:Hp)(f:Lent)(ρi:Rho)(σi:St):Prop where
 io:∀ (j:Nat) (l:L),ρi[j]? = some (some l)->isOw l=true->∃ i l0,f j=some i/\ρ[i]? = some (some l0)/\isOw l0=true/\l=lend l0/\σi[j]? = σ[i]?
 dat:∀ (j:Nat) (x:PyData),ρi[j]? = some (some (.d x))->∃ v,σi[j]? = some (some v)/\AtD K H (live c O) x v
 scr:∀ j:Nat,ρi[j]? = some (some .scr)->σi[j]? = some (some (.ref c.sa))
 inj:∀ j k i,f j=some i->f k=some i->j=k
 len:σi.length=ρi.length
def Rel.begin{b:Bool}{f:Lent}{ρi:Rho}{σi:St}{P:Addr->Prop}{H':Hp}(R:Rel K c O ρ σ H)(B:Begins K c O ρ σ H f ρi σi)(hs:Same H H')(hP:∀ p,P p->H p=none/\H' p ≠ none) :
  Rel K (c.in O (qa0z O ρ f) P b H') (qa0z O ρ f) ρi σi H'/\Pers K (live c O) H (live (c.in O (qa0z O ρ f) P b H') (qa0z O ρ f)) H':=by
 have hl:∀ a,live c O a->H a ≠ none->live (c.in O (qa0z O ρ f) P b H') (qa0z O ρ f) a:=fun a h n=>⟨h,fun z=>n (hP a z).1,fun j e=>by
  obtain⟨i,l,_,_,_,e2⟩:=qa2d e;exact h.2.2 i e2⟩
 have P1:Pers K (live c O) H (live (c.in O (qa0z O ρ f) P b H') (qa0z O ρ f)) H':=fun d v h =>
  AtD.mono hs.keep _ _ (AtD.inH hl d v h)
 refine⟨⟨fun j x e=>?_,fun j xs e=>?_,fun j xs e=>?_,fun j k e=>?_,fun j e=>B.scr j e,fun j k p e1 e2=>?_,fun j p e=>?_,fun p hp=>hp.elim .inl fun z=>.inr z.2,fun p hp=>?_,fun b o _ q=>q,fun b n=>n,fun p h=>?_,fun p h=>?_,fun j p e l h1 h2=>e,?_,B.len⟩,P1⟩
 ·obtain⟨v,h1,h2⟩:=B.dat j x e
  exact⟨v,h1,P1 _ _ h2⟩
 ·obtain⟨i,l0,_,h2,h3,h4,_⟩:=B.io j _ e rfl
  cases l0<;>cases h4
 ·obtain⟨i,l0,h1,h2,h3,h4,h5⟩:=B.io j _ e rfl
  obtain⟨p,e1,e2,e3,_⟩:=R.holds h2 h3;have eO:qa0z O ρ f j=some p:=(qb2o h1 h2 h3).trans e1;cases l0 with
  | own ys=>cases h4;obtain⟨vs,e4,e5⟩:=e3;exact⟨p,vs,eO,by rw [h5];exact e2,hs _ _ e4,P1.all e5⟩
  | bor ys=>cases h4;obtain⟨vs,e4,e5⟩:=e3;exact⟨p,vs,eO,by rw [h5];exact e2,hs _ _ e4,P1.all e5⟩
  | _=>cases h4
 ·obtain⟨i,l0,h1,h2,h3,h4,h5⟩:=B.io j _ e rfl
  obtain⟨p,e1,e2,e3,_⟩:=R.holds h2 h3;have eO:qa0z O ρ f j=some p:=(qb2o h1 h2 h3).trans e1;cases l0 with
  | tape k0=>cases h4;exact⟨p,eO,by rw [h5];exact e2,hs _ _ e3⟩
  | _=>cases h4
 ·obtain⟨i1,_,f1,_,_,o1⟩:=qa2d e1
  obtain⟨i2,_,f2,_,_,o2⟩:=qa2d e2;have:=R.inj i1 i2 p o1 o2;subst this;exact B.inj j k i1 f1 f2
 ·obtain⟨i1,_,f1,_,_,o1⟩:=qa2d e
  obtain⟨_,vs,h⟩:=R.has i1 p o1;exact⟨.inl ⟨j,e⟩,vs,hs _ _ h⟩
 ·have hp':H p=none:=hs.free hp
  exact R.liveNew hp'
 ·obtain⟨j,e⟩:=h
  obtain⟨i1,_,f1,_,_,o1⟩:=qa2d e;obtain⟨_,vs,h⟩:=R.has i1 p o1;exact⟨vs,hs _ _ h⟩
 ·rcases h with h | ⟨j,e⟩
  ·exact(hP p h).2
  ·obtain⟨i1,_,f1,_,_,o1⟩:=qa2d e
   obtain⟨_,vs,h⟩:=R.has i1 p o1;rw [hs _ _ h];exact fun z=>nomatch z
 ·exact R.sc.keep (S:=Any) hs.keep
end
end
section
noncomputable def qa5n(ρi:Rho)(l0:L)(j:Nat):Option L:=(ρi[j]?.join).bind (qa7a l0)
noncomputable def qa4j(ρi:Rho)(j i:Nat)(ρ:Rho):Rho:=match ρ[i]?.join with
 | some l0=>if isOw l0 then ρ.set i (qa5n ρi l0 j) else ρ
 | none=>ρ
noncomputable def fills(ρi:Rho):List (Nat × Nat)->Rho->Rho
 | [],ρ=>ρ
 | (j,i) :: r,ρ=>fills ρi r (qa4j ρi j i ρ)
def qb6y{ρi ρ:Rho}{j i k:Nat}(h:k ≠ i):(qa4j ρi j i ρ)[k]? = ρ[k]?:=by
 unfold qa4j;split
 ·split
  ·exact getElem?_set_ne (Ne.symm h)
  ·rfl
 ·rfl
def qc5y{ρi ρ:Rho}{j i:Nat}{l0:L}(h:ρ[i]? = some (some l0))(ho:isOw l0=true):(qa4j ρi j i ρ)[i]? = some (qa5n ρi l0 j):=by
 have hi:i < ρ.length:=(List.getElem?_eq_some_iff.mp h).1;unfold qa4j;rw [h];show(if isOw l0 then ρ.set i (qa5n ρi l0 j) else ρ)[i]? = _;rw [if_pos ho,getElem?_set_self hi]
def qc5z{ρi ρ:Rho}{j i:Nat}(h:∀ l0,ρ[i]? = some (some l0)->isOw l0=false):qa4j ρi j i ρ=ρ:=by
 unfold qa4j;split
 ·rename_i l0 e
  rw [h l0 (qa1w e)];rfl
 ·rfl
def qc3y{ρi ρ:Rho}{j i:Nat}:(qa4j ρi j i ρ).length=ρ.length:=by
 unfold qa4j;split
 ·split
  ·rw [length_set]
  ·rfl
 ·rfl
def qb4z{ρi:Rho}:∀ {fl:List (Nat × Nat)} {ρ:Rho},(fills ρi fl ρ).length=ρ.length
 | [],_=>rfl
 | (j,i) :: r,ρ=>by unfold fills;rw [qb4z,qc3y]
def qa6k{ρi:Rho}:∀ {fl:List (Nat × Nat)} {ρ:Rho} {k:Nat},(∀ j,(j,k) ∈ fl->∀ l0,ρ[k]? = some (some l0)->isOw l0=false)->(fills ρi fl ρ)[k]? = ρ[k]?
 | [],_,_,_=>rfl
 | (j,i) :: r,ρ,k,h=>by
  unfold fills;by_cases hk:k=i
  ·subst hk
   have e:=qc5z (ρi:=ρi) (j:=j) (h j mem_cons_self);rw [e];exact qa6k fun j' m=>h j' (mem_cons_of_mem _ m)
  ·have e:=qb6y (ρi:=ρi) (ρ:=ρ) (j:=j) hk
   rw [qa6k (ρ:=qa4j ρi j i ρ) (fun j' m l0 q=>h j' (mem_cons_of_mem _ m) l0 (by rw [← e];exact q)),e]
def qb6z{ρi:Rho}:∀ {fl:List (Nat × Nat)} {ρ:Rho} {j i:Nat} {l0:L},(fl.map (·.2)).Nodup->(j,i) ∈ fl->ρ[i]? = some (some l0)->isOw l0=true->(fills ρi fl ρ)[i]? = some (qa5n ρi l0 j)
 | (j',i') :: r,ρ,j,i,l0,nd,m,h,ho=>by
  rw [map_cons,nodup_cons] at nd;unfold fills;rcases mem_cons.mp m with e | m2
  ·cases e
   rw [qa6k fun j2 m2=>absurd (mem_map.mpr ⟨(j2,_),m2,rfl⟩) nd.1];exact qc5y h ho
  ·have ne:i ≠ i':=by
    rintro rfl;exact nd.1 (mem_map.mpr ⟨(j,_),m2,rfl⟩)
   exact qb6z nd.2 m2 (by rw [qb6y ne];exact h) ho
section
variable{K:W.Frag}{c:Rc}{O:Own}{ρ:Rho}{σ:St}{H H':Hp}{S S':Addr->Prop}
def qb7a{l:L}(h:isIO l=true):isOw l=true:=by cases l<;>first | rfl | cases h
def Rel.finish{P':Addr->Prop}{fl:List (Nat × Nat)}{f:Lent}{ρi:Rho}{Oi:Own}{ci:Rc}{σi:St}(R:Rel K c O ρ σ H)(nd:(fl.map (·.2)).Nodup)(hf:∀ j i,(j,i) ∈ fl->f j=some i)(hf':∀ j i,f j=some i->(j,i) ∈ fl)
  (Ri:Rel K ci Oi ρi σi H') (hln:∀ j,ci.lent j=qa0z O ρ f j) (hsa:ci.sa=c.sa) (hns:ci.ns=c.ns)
  (fr:∀ b o,(∀ j,qa0z O ρ f j ≠ some b)->H b=some o->H' b=some o) (hk:∀ j p,qa0z O ρ f j=some p->∃ vs,H' p=some (.lst vs))
  (hP:Pers K (live ci Oi) H' (live { c with P:=P' } O) H') (hp:Pers K (live c O) H (live { c with P:=P' } O) H')
  (hP':∀ p,P' p->c.P p ∨ (H' p ≠ none/\∀ i,O i ≠ some p)):Rel K { c with P:=P' } O (fills ρi fl ρ) σ H':=by
 -- a slot is lent, or it is as it was
 have cases_:∀ i:Nat,(∃ j l0,(j,i) ∈ fl/\ρ[i]? = some (some l0)/\isOw l0=true/\(fills ρi fl ρ)[i]? = some (qa5n ρi l0 j)) ∨ ((fills ρi fl ρ)[i]? = ρ[i]? /\ ∀ p,O i=some p->(∃ l,ρ[i]? = some (some l)/\isOw l=true)->∀ j,qa0z O ρ f j ≠ some p):=fun i=>by
  by_cases h:∃ j l0,(j,i) ∈ fl/\ρ[i]? = some (some l0)/\isOw l0=true
  ·obtain⟨j,l0,h1,h2,h3⟩:=h
   exact .inl ⟨j,l0,h1,h2,h3,qb6z nd h1 h2 h3⟩
  ·refine .inr ⟨qa6k fun j m l0 q=>?_,fun p hO ⟨l,e1,e2⟩ j z=>?_⟩
   ·cases q2:isOw l0 with
    | false=>rfl
    | true=>exact absurd ⟨j,l0,m,q,q2⟩ h
   ·obtain⟨i2,l2,g1,g2,g3,g4⟩:=qa2d z
    have:=R.inj i2 i p g4 hO;subst this;exact h ⟨j,l2,hf' j _ g1,g2,g3⟩
 -- what a lent slot has now
 have lent_:∀ {i j:Nat} {l0 l:L},(j,i) ∈ fl->ρ[i]? = some (some l0)->isOw l0=true->qa5n ρi l0 j=some l->∃ p l',O i=some p/\σ[i]? = some (some (.ref p))/\isIO l'=true/\qa7a l0 l'=some l/\Holds K c (live { c with P:=P' } O) H' p l'/\(∀ xs,l0=.own xs->qa9t c p):=fun{i j l0 l} m h2 h3 e=>by
  obtain⟨p,e1,e2,e3,e4⟩:=R.holds h2 h3;unfold qa5n at e;cases el:ρi[j]?.join with
  | none=>rw [el] at e;cases e
  | some l' =>
   rw [el] at e;have e':qa7a l0 l'=some l:=e;have hio:isIO l'=true:=by cases l0<;>cases l'<;>first | rfl | cases e'
   have el':=qa1w el;have elent:ci.lent j=some p:=(hln j).trans ((qb2o (hf j i m) h2 h3).trans e1);have eO:=Ri.lnt j p elent l' el' hio;obtain⟨p',g1,_,g3,_⟩:=Ri.holds el' (qb7a hio);rw [eO] at g1;cases g1;refine⟨p,l',e1,e2,hio,e',?_,e4⟩;cases l' with
   | bor xs=>obtain⟨vs,q1,q2⟩:=g3;exact⟨vs,q1,hP.all q2⟩
   | tape k=>show H' p=_;rw [← hsa];exact g3
   | _=>cases hio
 have ok':∀ i p,O i=some p->qa9t c p->qa9t { c with P:=P' } p:=fun i p e h=>⟨h.1,h.2.1,fun z=>(hP' p z).elim h.2.2 fun w=>w.2 i e⟩;have stay:∀ i p o,O i=some p->(∃ l,ρ[i]? = some (some l)/\isOw l=true)->(∀ p,O i=some p->(∃ l,ρ[i]? = some (some l)/\isOw l=true)->∀ j,qa0z O ρ f j ≠ some p)->H p=some o->H' p=some o:=fun i p o e l n q=>fr p o (n p e l) q;refine⟨fun i x e=>?_,fun i xs e=>?_,fun i xs e=>?_,fun i k e=>?_,fun i e=>?_,R.inj,fun i p e=>⟨(R.has' i p e).1,?_⟩,R.am,R.frs,fun b o n q=>?_,fun b n=>?_,fun p h=>?_,fun p h=>?_,fun i p e l h1 h2=>?_,?_,?_⟩
 ·rcases cases_ i with⟨j,l0,m,h2,h3,h4⟩ | ⟨h1,_⟩
  ·rw [h4] at e
   obtain⟨p,l',_,_,hio,hl,_⟩:=lent_ m h2 h3 (Option.some.inj e);cases l'<;>first | (cases hio;done) | (cases l0<;>cases hl)
  ·rw [h1] at e
   obtain⟨v,e1,e2⟩:=R.dat i x e;exact⟨v,e1,hp _ _ e2⟩
 ·rcases cases_ i with⟨j,l0,m,h2,h3,h4⟩ | ⟨h1,h2⟩
  ·rw [h4] at e
   obtain⟨p,l',g1,g2,hio,hl,g3,g4⟩:=lent_ m h2 h3 (Option.some.inj e);cases l' with
   | bor ys =>
    cases l0 with
    | own zs=>cases hl;obtain⟨vs,q1,q2⟩:=g3;exact⟨p,vs,g1,ok' i p g1 (g4 _ rfl),g2,q1,q2⟩
    | _=>cases hl
   | tape k=>cases l0<;>cases hl
   | _=>cases hio
  ·rw [h1] at e
   obtain⟨p,vs,g1,g2,g3,g4,g5⟩:=R.own i xs e;exact⟨p,vs,g1,ok' i p g1 g2,g3,stay i p _ g1 ⟨_,e,rfl⟩ h2 g4,hp.all g5⟩
 ·rcases cases_ i with⟨j,l0,m,h2,h3,h4⟩ | ⟨h1,h2⟩
  ·rw [h4] at e
   obtain⟨p,l',g1,g2,hio,hl,g3,g4⟩:=lent_ m h2 h3 (Option.some.inj e);cases l' with
   | bor ys =>
    cases l0<;>cases hl<;>(obtain⟨vs,q1,q2⟩:=g3;exact⟨p,vs,g1,g2,q1,q2⟩)
   | tape k=>cases l0<;>cases hl
   | _=>cases hio
  ·rw [h1] at e
   obtain⟨p,vs,g1,g3,g4,g5⟩:=R.bor i xs e;exact⟨p,vs,g1,g3,stay i p _ g1 ⟨_,e,rfl⟩ h2 g4,hp.all g5⟩
 ·rcases cases_ i with⟨j,l0,m,h2,h3,h4⟩ | ⟨h1,h2⟩
  ·rw [h4] at e
   obtain⟨p,l',g1,g2,hio,hl,g3,g4⟩:=lent_ m h2 h3 (Option.some.inj e);cases l' with
   | bor ys=>cases l0<;>cases hl
   | tape k2=>cases l0<;>cases hl<;>exact⟨p,g1,g2,g3⟩
   | _=>cases hio
  ·rw [h1] at e
   obtain⟨p,g1,g3,g4⟩:=R.tap i k e;exact⟨p,g1,g3,stay i p _ g1 ⟨_,e,rfl⟩ h2 g4⟩
 ·rcases cases_ i with⟨j,l0,m,h2,h3,h4⟩ | ⟨h1,h2⟩
  ·rw [h4] at e
   obtain⟨p,l',g1,g2,hio,hl,g3,g4⟩:=lent_ m h2 h3 (Option.some.inj e);cases l'<;>first | (cases hio;done) | (cases l0<;>cases hl)
  ·rw [h1] at e;exact R.scr i e
 ·obtain⟨_,vs,q⟩:=R.has i p e
  by_cases hlt:∃ j,qa0z O ρ f j=some p
  ·obtain⟨j,hj⟩:=hlt;exact hk j p hj
  ·exact⟨vs,fr p _ (fun j z=>hlt ⟨j,z⟩) q⟩
 ·refine fr b o (fun j z=>?_) (R.same b o n q)
  obtain⟨i,l,_,_,_,hO⟩:=qa2d z;rcases (R.has i b hO).1 with w | w
  ·exact n w
  ·rw [w] at q;cases q
 ·have n':=R.kept b n
  by_cases hlt:∃ j,qa0z O ρ f j=some b
  ·obtain⟨j,hj⟩:=hlt
   obtain⟨vs,q⟩:=hk j b hj;rw [q];exact fun z=>nomatch z
  ·cases q:H b with
   | none=>exact absurd q n'
   | some o=>rw [fr b o (fun j z=>hlt ⟨j,z⟩) q];exact fun z=>nomatch z
 ·obtain⟨vs,q⟩:=R.ml p h
  by_cases hlt:∃ j,qa0z O ρ f j=some p
  ·obtain⟨j,hj⟩:=hlt;exact hk j p hj
  ·exact⟨vs,fr p _ (fun j z=>hlt ⟨j,z⟩) q⟩
 ·have fin:∀ q,(c.P q ∨ c.B q)->H' q ≠ none:=fun q hq=>by
   have n':=R.pin q hq;by_cases hlt:∃ j,qa0z O ρ f j=some q
   ·obtain⟨j,hj⟩:=hlt
    obtain⟨vs,q⟩:=hk j q hj;rw [q];exact fun z=>nomatch z
   ·cases q2:H q with
    | none=>exact absurd q2 n'
    | some o=>rw [fr q o (fun j z=>hlt ⟨j,z⟩) q2];exact fun z=>nomatch z
  rcases h with h | h
  ·rcases hP' p h with w | w
   ·exact fin p (.inl w)
   ·exact w.1
  ·exact fin p (.inr h)
 ·rcases cases_ i with⟨j,l0,m,h3,h4,h5⟩ | ⟨h3,h4⟩
  ·rw [h5] at h1
   obtain⟨p',l',g1,g2,hio,hl,g3,g4⟩:=lent_ m h3 h4 (Option.some.inj h1);cases l0 with
   | own zs=>cases l'<;>cases hl;cases h2
   | bor zs=>exact R.lnt i p e _ h3 rfl
   | tape k=>exact R.lnt i p e _ h3 rfl
   | _=>cases h4
  ·rw [h3] at h1;exact R.lnt i p e l h1 h2
 ·have:=Ri.sc
  rw [hsa,hns] at this;exact this
 ·rw [qb4z];exact R.len
end
end
section
abbrev DSp:=List L->(RV->Rho->Prop)->Prop
noncomputable def mask:List L->Rho->Rho
 | [],_=>[]
 | l :: ls,ρ=>(if isIO l then ρ.head?.join else none) :: mask ls ρ.tail
noncomputable def qb3e(N:List Str)(ls:List L):Rho:=ls.map some ++ List.replicate (N.length - ls.length) none
def spD(K:W.Frag)(ds:DSp):Sp:=fun vs H Q _=>∃ (c:Rc) (O:Own) (ls:List L) (Qd:RV->Rho->Prop),c.H0=H/\(∀ p,¬ c.P p)/\(∀ p,c.M p->c.B p)/\(∀ p,c.H0 p=none->c.A p)/\(∀ i,c.lent i=O i)/\Rel K c O (ls.map some) (vs.map some) H/\ds ls Qd /\
 ∀ r O' ρ' σ' v H',Qd r (mask ls ρ')->RetOk K c O' ρ' σ' H' r v->Q v H'
section
variable{K:W.Frag}{c:Rc}{O:Own}{ρ:Rho}{σ:St}{H H':Hp}{S S':Addr->Prop}
def Rel.more{n:Nat}(R:Rel K c O ρ σ H):Rel K c O (ρ ++ List.replicate n none) (σ ++ List.replicate n none) H:=by
 have at_:∀ {i:Nat} {l:L},(ρ ++ List.replicate n none)[i]? = some (some l)->ρ[i]? = some (some l):=fun{i l} e=>by
  by_cases hi:i < ρ.length
  ·rwa [List.getElem?_append_left hi] at e
  ·rw [getElem?_append_right 'o',List.getElem?_replicate] at e
   split at e<;>cases e
 have st:∀ {i:Nat} {v:V},σ[i]? = some (some v)->(σ ++ List.replicate n none)[i]? = some (some v):=fun{i v} e=>by
  rw [List.getElem?_append_left (List.getElem?_eq_some_iff.mp e).1];exact e
 refine⟨fun i x e=>?_,fun i xs e=>?_,fun i xs e=>?_,fun i k e=>?_,fun i e=>st (R.scr i (at_ e)),R.inj,R.has',R.am,R.frs,R.same,R.kept,R.ml,R.pin,fun i p e l h1 h2=>R.lnt i p e l (at_ h1) h2,R.sc,?_⟩
 ·obtain⟨v,h1,h2⟩:=R.dat i x (at_ e);exact⟨v,st h1,h2⟩
 ·obtain⟨p,vs,h1,h2,h3,h4⟩:=R.own i xs (at_ e);exact⟨p,vs,h1,h2,st h3,h4⟩
 ·obtain⟨p,vs,h1,h3,h4⟩:=R.bor i xs (at_ e);exact⟨p,vs,h1,st h3,h4⟩
 ·obtain⟨p,h1,h3,h4⟩:=R.tap i k (at_ e);exact⟨p,h1,st h3,h4⟩
 ·rw [length_append,length_append,R.len,length_replicate,length_replicate]
end
section
variable{P:Program}{w:World}{K:W.Frag}{mg:Str->Option Value}{base:Heap}
def Fun.dok{x qual:Str}{st:Stmt}{f:Addr}{fd:FuncData}{N ps:List Str}{k:Nat}{ds:DSp}(F:Fun K x qual st f fd)(S:FnScope N ps (qa0h st))
  (hbody:∀ (cdv:Value) (A:Around) (outer:List Env) (s:Shared) (H:Hp) (E:XK),Room k (A.deeper (envOfC qual (qa0h st) s.heap.objs.size f cdv)) ->
   ∀ (ls:List L) (Qd:RV->Rho->Prop),ds ls Qd->ls.length=ps.length/\∃ dt,DSs (cxOf CX0 P w K mg base N qual (qa0h st) f cdv A outer s H E).nox (qa3v st) dt/\dt { nx:=fun ρ=>Qd (.d .none) (mask ls ρ),rt:=fun r ρ=>Qd r (mask ls ρ) } (qb3e N ls)) (len:∀ ls Qd,ds ls Qd->ls.length=ps.length):FnOk P w K mg base CX0 (k + 1) f fd ps (spD K ds):=by
 refine F.ok S (fun vs H Q E h=>?_) (fun cdv A outer s H vs Q E hr h=>?_)
 ·obtain⟨c,O,ls,Qd,_,_,_,_,_,R,h1,_⟩:=h
  have:=R.len;rw [length_map,length_map] at this;rw [this];exact len ls Qd h1
 ·obtain⟨c,O,ls,Qd,h0,hP,hM,hA,hL,R,h1,fin⟩:=h
  obtain⟨hl,dt,⟨t,p,a⟩,q⟩:=hbody cdv A outer s H E hr ls Qd h1;have hlv:vs.length=ls.length:=by have:=R.len;rwa [length_map,length_map] at this
  refine⟨t,p,a c O (qb3e N ls) (start N vs) H _ { nx:=fun ρ=>Qd (.d .none) (mask ls ρ),rt:=fun r ρ=>Qd r (mask ls ρ) } ?_ ⟨fun O1 ρ1 σ1 H1 R1 _ q1=>?_,fun r O1 ρ1 σ1 H1 v h q1=>?_,fun _ _ _ _ _ _ z=>(show False from z).elim,fun _ _ _ _ _ _ z=>(show False from z).elim,hM,hA⟩ q⟩
  ·unfold qb3e start
   rw [hlv];exact R.more
  ·exact fin (.d .none) O1 ρ1 σ1 .non H1 q1 ⟨R1,qa9r⟩
  ·exact fin r O1 ρ1 σ1 v H1 q1 h
end
def fzL(ρ:Rho)(x:DV)(Q:L->Rho->Prop):Prop:=match x with
 | .d y=>Q (.d y) ρ
 | .sl i=>match ρ[i]?.join with
  | some (.d y)=>Q (.d y) ρ
  | some (.own xs)=>Q (.d (.list xs)) (ρ.set i (some (.d (.list xs))))
  | some .scr=>Q .scr ρ
  | _=>False
noncomputable def ioAt(ρ:Rho)(i:Nat):Option L:=match ρ[i]?.join with
 | some l=>if isOw l then some (lend l) else none
 | none=>none
noncomputable def pass:List Bool->List DV->Rho->(List L->Rho->Prop)->Prop
 | [],[],ρ,Q=>Q [] ρ
 | false :: fs,x :: xs,ρ,Q=>fzL ρ x fun l ρ1=>pass fs xs ρ1 fun ls ρ2=>Q (l :: ls) ρ2
 | true :: fs,.sl i :: xs,ρ,Q=>pass fs xs ρ fun ls ρ2=>need (ioAt ρ2 i) fun l=>Q (l :: ls) ρ2
 | _,_,_,_=>False
noncomputable def qa1p:List Bool->List DV->Lent
 | true :: _,.sl i :: _,0=>some i
 | _ :: fs,_ :: xs,j + 1=>qa1p fs xs j
 | _,_,_=>none
noncomputable def flOf:Nat->List Bool->List DV->List (Nat × Nat)
 | j,true :: fs,.sl i :: xs=>(j,i) :: flOf (j + 1) fs xs
 | j,true :: fs,.d _ :: xs=>flOf (j + 1) fs xs
 | j,false :: fs,_ :: xs=>flOf (j + 1) fs xs
 | _,_,_=>[]
def qa9x{fs:List Bool}:∀ {xs:List DV} {j0 j i:Nat},(j,i) ∈ flOf j0 fs xs ↔ ∃ k,j=j0 + k/\qa1p fs xs k=some i:=by
 induction fs with
 | nil =>
  intro xs j0 j i;have e1:flOf j0 [] xs=[]:=by cases xs<;>rfl
  have e2:∀ k,qa1p [] xs k=none:=fun k=>by cases xs<;>cases k<;>rfl
  rw [e1];exact⟨fun h=>absurd h (not_mem_nil),fun hq8=>by obtain⟨k,_,h⟩:=hq8;rw [e2] at h;cases h⟩
 | cons f fs ih =>
  intro xs j0 j i;cases xs with
  | nil =>
   have e1:flOf j0 (f :: fs) []=[]:=by cases f<;>rfl
   have e2:∀ k,qa1p (f :: fs) [] k=none:=fun k=>by cases f<;>cases k<;>rfl
   rw [e1];exact⟨fun h=>absurd h (not_mem_nil),fun hq8=>by obtain⟨k,_,h⟩:=hq8;rw [e2] at h;cases h⟩
  | cons x xs =>
   have step:(∃ k,j=j0 + 1 + k/\qa1p fs xs k=some i)->∃ k,j=j0 + k/\qa1p (f :: fs) (x :: xs) k=some i:=fun hq8=>by obtain⟨k,e1,e2⟩:=hq8;exact⟨k + 1,'o',by cases f<;>cases x<;>exact e2⟩
   have back:∀ k,j=j0 + (k + 1)->qa1p (f :: fs) (x :: xs) (k + 1)=some i->∃ k,j=j0 + 1 + k/\qa1p fs xs k=some i:=fun k e1 e2=>⟨k,'o',by cases f<;>cases x<;>exact e2⟩;cases f with
   | false =>
    have e:flOf j0 (false :: fs) (x :: xs)=flOf (j0 + 1) fs xs:=by cases x<;>rfl
    rw [e,ih];refine⟨step,fun hq8=>?_⟩;obtain⟨k,e1,e2⟩:=hq8;cases k with
    | zero=>cases x<;>cases e2
    | succ k=>exact back k e1 e2
   | true =>
    cases x with
    | d y =>
     show(j,i) ∈ flOf (j0 + 1) fs xs ↔ _;rw [ih];refine⟨step,fun hq8=>?_⟩;obtain⟨k,e1,e2⟩:=hq8;cases k with
     | zero=>cases e2
     | succ k=>exact back k e1 e2
    | sl i0 =>
     show(j,i) ∈ (j0,i0) :: flOf (j0 + 1) fs xs ↔ _;rw [mem_cons,ih];constructor
     ·rintro(e | h)
      ·cases e;exact⟨0,rfl,rfl⟩
      ·exact step h
     ·rintro⟨k,e1,e2⟩
      cases k with
      | zero =>
       have e3:some i0=some i:=e2;cases e3;exact .inl (by rw [e1];rfl)
      | succ k=>exact .inr (back k e1 e2)
inductive Args (K:W.Frag) (S:Addr->Prop) (sa:Addr) (ρ:Rho) (σ:St) (H:Hp):List Bool->List DV->List L->List V->Prop where
 | nil:Args K S sa ρ σ H [] [] [] []
 | dat {fs xs ls vs x y v}:AtD K H S y v->Args K S sa ρ σ H fs xs ls vs->Args K S sa ρ σ H (false :: fs) (x :: xs) (.d y :: ls) (v :: vs)
 | scr {fs xs ls vs x}:Args K S sa ρ σ H fs xs ls vs->Args K S sa ρ σ H (false :: fs) (x :: xs) (.scr :: ls) (.ref sa :: vs)
 | io {fs xs ls vs v} {i:Nat} {l0:L}:ρ[i]? = some (some l0)->isOw l0=true->σ[i]? = some (some v)->Args K S sa ρ σ H fs xs ls vs->Args K S sa ρ σ H (true :: fs) (.sl i :: xs) (lend l0 :: ls) (v :: vs)
section
variable{K:W.Frag}{c:Rc}{O:Own}{ρ:Rho}{σ:St}{H H':Hp}{S S':Addr->Prop}
def Rel.fzL{x:DV}{v:V}{Q:L->Rho->Prop}(R:Rel K c O ρ σ H)(a:AtV K (live c O) σ H x v)(h:fzL ρ x Q):∃ l ρ' O',Q l ρ'/\Rel K c O' ρ' σ H/\Pers K (live c O) H (live c O') H/\((∃ y,l=.d y/\AtD K H (live c O') y v) ∨ (l=.scr/\v=.ref c.sa)):=by
 cases x with
 | d y=>exact⟨.d y,ρ,O,h,R,.refl,.inl ⟨y,rfl,a⟩⟩
 | sl i =>
  have a':σ[i]? = some (some v):=a;simp only [L2.fzL] at h;split at h
  ·rename_i y e
   obtain⟨w,h1,h2⟩:=R.dat i y (qa1w e);rw [a'] at h1;cases h1;exact⟨.d y,ρ,O,h,R,.refl,.inl ⟨y,rfl,h2⟩⟩
  ·rename_i xs e
   have e':=qa1w e;obtain⟨R',P⟩:=R.freeze e';have hi:i < ρ.length:=(List.getElem?_eq_some_iff.mp e').1;obtain⟨w,h1,h2⟩:=R'.dat i (.list xs) (by rw [getElem?_set_self hi]);rw [a'] at h1;cases h1;exact⟨_,_,_,h,R',P,.inl ⟨_,rfl,h2⟩⟩
  ·rename_i e
   have:=R.scr i (qa1w e);rw [a'] at this;cases this;exact⟨_,ρ,O,h,R,.refl,.inr ⟨rfl,rfl⟩⟩
  ·exact h.elim
def pass_ok{fs:List Bool}:∀ {xs:List DV} {vs:List V} {ρ:Rho} {O:Own} {Q:List L->Rho->Prop},Rel K c O ρ σ H->AtVs K (live c O) σ H xs vs->pass fs xs ρ Q ->
  ∃ ls ρ' O',Q ls ρ'/\Rel K c O' ρ' σ H/\Pers K (live c O) H (live c O') H/\Args K (live c O') c.sa ρ' σ H fs xs ls vs:=by
 induction fs with
 | nil =>
  intro xs vs ρ O Q R a h;cases xs with
  | nil=>cases a;exact⟨[],ρ,O,h,R,.refl,.nil⟩
  | cons _ _=>exact(show False from h).elim
 | cons f fs ih =>
  intro xs vs ρ O Q R a h;cases xs with
  | nil=>cases f<;>exact(show False from h).elim
  | cons x xs =>
   cases a with
   | @cons _ _ v vs a as =>
   cases f with
   | false =>
    have h':L2.fzL ρ x fun l ρ1=>pass fs xs ρ1 fun ls ρ2=>Q (l :: ls) ρ2:=h;obtain⟨l,ρ1,O1,h1,R1,P1,a1⟩:=R.fzL a h';obtain⟨ls,ρ2,O2,h2,R2,P2,a2⟩:=ih R1 (AtVs.pers as P1) h1;refine⟨l :: ls,ρ2,O2,h2,R2,P1.trans P2,?_⟩;rcases a1 with⟨y,rfl,a1⟩ | ⟨rfl,rfl⟩
    ·exact .dat (P2 _ _ a1) a2
    ·exact .scr a2
   | true =>
    cases x with
    | d y=>exact(show False from h).elim
    | sl i =>
     have h':pass fs xs ρ fun ls ρ2=>need (ioAt ρ2 i) fun l=>Q (l :: ls) ρ2:=h;obtain⟨ls,ρ2,O2,hz1,R2,P2,a2⟩:=ih R as h';obtain⟨l,e,h2⟩:=ne (hz1);refine⟨l :: ls,ρ2,O2,h2,R2,P2,?_⟩;unfold ioAt at e;split at e
     ·rename_i l0 el
      split at e
      ·rename_i ho
       cases e
       exact .io (qa1w el) ho a a2
      ·cases e
     ·cases e
def Args.begins{fs:List Bool}{xs:List DV}{ls:List L}{vs:List V}(a:Args K (live c O) c.sa ρ σ H fs xs ls vs)(inj:∀ j k i,qa1p fs xs j=some i->qa1p fs xs k=some i->j=k) :
  Begins K c O ρ σ H (qa1p fs xs) (ls.map some) (vs.map some):=by
 refine⟨?_,?_,?_,inj,?_⟩
 ·clear inj
  induction a with
  | nil=>intro j l e;simp at e
  | dat h _ ih =>
   intro j l e ho;cases j with
   | zero=>cases e;cases ho
   | succ j=>obtain⟨i,l0,h1,h2⟩:=ih j l (by simpa using e) ho;exact⟨i,l0,h1,by simpa using h2⟩
  | scr _ ih =>
   intro j l e ho;cases j with
   | zero=>cases e;cases ho
   | succ j=>obtain⟨i,l0,h1,h2⟩:=ih j l (by simpa using e) ho;exact⟨i,l0,h1,by simpa using h2⟩
  | @io fs xs ls vs v i l0 h1 h2 h3 _ ih =>
   intro j l e ho;cases j with
   | zero=>cases e;exact⟨i,l0,rfl,h1,h2,rfl,by simpa using h3.symm⟩
   | succ j=>obtain⟨i,l0,h1,h2⟩:=ih j l (by simpa using e) ho;exact⟨i,l0,h1,by simpa using h2⟩
 ·clear inj
  induction a with
  | nil=>intro j x e;simp at e
  | dat h _ ih =>
   intro j x e;cases j with
   | zero=>cases e;exact⟨_,rfl,h⟩
   | succ j=>obtain⟨v,h1,h2⟩:=ih j x (by simpa using e);exact⟨v,by simpa using h1,h2⟩
  | scr _ ih =>
   intro j x e;cases j with
   | zero=>cases e
   | succ j=>obtain⟨v,h1,h2⟩:=ih j x (by simpa using e);exact⟨v,by simpa using h1,h2⟩
  | @io fs xs ls vs v i l0 h1 h2 h3 _ ih =>
   intro j x e;cases j with
   | zero=>cases l0<;>first | (cases h2;done) | cases e
   | succ j=>obtain⟨v,h1,h2⟩:=ih j x (by simpa using e);exact⟨v,by simpa using h1,h2⟩
 ·clear inj
  induction a with
  | nil=>intro j e;simp at e
  | dat h _ ih =>
   intro j e;cases j with
   | zero=>cases e
   | succ j=>have:=ih j (by simpa using e);simpa using this
  | scr _ ih =>
   intro j e;cases j with
   | zero=>rfl
   | succ j=>have:=ih j (by simpa using e);simpa using this
  | @io fs xs ls vs v i l0 h1 h2 h3 _ ih =>
   intro j e;cases j with
   | zero=>cases l0<;>first | (cases h2;done) | cases e
   | succ j=>have:=ih j (by simpa using e);simpa using this
 ·clear inj
  rw [length_map,length_map];induction a with
  | nil=>rfl
  | dat _ _ ih=>simp [ih]
  | scr _ ih=>simp [ih]
  | io _ _ _ _ ih=>simp [ih]
def Args.mask{fs:List Bool}{xs:List DV}{ls:List L}{vs:List V}(a:Args K (live c O) c.sa ρ σ H fs xs ls vs):∀ (ρ':Rho) {j i:Nat},qa1p fs xs j=some i->(L2.mask ls ρ')[j]?.join=ρ'[j]?.join:=by
 have hd:∀ ρ':Rho,ρ'.head?.join=ρ'[0]?.join:=fun ρ'=>by cases ρ'<;>rfl
 have tl:∀ (ρ':Rho) (j:Nat),ρ'.tail[j]? = ρ'[j + 1]?:=fun ρ' j=>by cases ρ'<;>simp
 induction a with
 | nil=>intro ρ' j i e;cases e
 | dat h _ ih =>
  intro ρ' j i e;cases j with
  | zero=>cases e
  | succ j =>
   have:=ih ρ'.tail (j:=j) (i:=i) e;rw [tl] at this;rw [← this];simp [L2.mask]
 | scr _ ih =>
  intro ρ' j i e;cases j with
  | zero=>cases e
  | succ j =>
   have:=ih ρ'.tail (j:=j) (i:=i) e;rw [tl] at this;rw [← this];simp [L2.mask]
 | @io fs xs ls vs v i0 l0 h1 h2 h3 _ ih =>
  intro ρ' j i e;cases j with
  | zero =>
   have hio:isIO (lend l0)=true:=by cases l0<;>first | rfl | cases h2
   simp only [L2.mask,hio,if_true,List.getElem?_cons_zero];show ρ'.head?.join=_;exact hd ρ'
  | succ j =>
   have:=ih ρ'.tail (j:=j) (i:=i) e;rw [tl] at this;rw [← this];simp [L2.mask]
end
def qb2b{ρi ρj:Rho}:∀ {fl:List (Nat × Nat)} {ρ:Rho},(∀ j i,(j,i) ∈ fl->ρi[j]?.join=ρj[j]?.join)->fills ρi fl ρ=fills ρj fl ρ
 | [],_,_=>rfl
 | (j,i) :: r,ρ,h=>by
  have e:qa4j ρi j i ρ=qa4j ρj j i ρ:=by
   unfold qa4j qa5n;rw [h j i mem_cons_self]
  unfold fills;rw [e];exact qb2b fun j' i' m=>h j' i' (mem_cons_of_mem _ m)
def dCall(fs:List Bool)(sp:DSp)(da:TDA)(ρ:Rho)(Q:RV->Rho->Prop):Prop:=da ρ fun xs ρ1=>pass fs xs ρ1 fun ls ρ2=>((flOf 0 fs xs).map (·.2)).Nodup/\sp ls fun r outs=>Q r (fills outs (flOf 0 fs xs) ρ2)
def qb7b(fs:List Bool)(sp:DSp)(da:TDA):TDE:=fun ρ Q=>dCall fs sp da ρ fun r ρ1=>match r with
 | .d x=>Q (.d x) ρ1
 | .new xs=>Q (.d (.list xs)) ρ1
section
variable{K:W.Frag}{c:Rc}{O:Own}{ρ:Rho}{σ:St}{H H':Hp}{S S':Addr->Prop}
def qc3z{fs:List Bool}{xs:List DV}(nd:((flOf 0 fs xs).map (·.2)).Nodup):∀ j k i,qa1p fs xs j=some i->qa1p fs xs k=some i->j=k:=fun j k i e1 e2=>by
 have m1:(j,i) ∈ flOf 0 fs xs:=qa9x.mpr ⟨j,'o',e1⟩;have m2:(k,i) ∈ flOf 0 fs xs:=qa9x.mpr ⟨k,'o',e2⟩;exact congrArg Prod.fst (key _ nd m1 m2 rfl)
where
 key:∀ (l:List (Nat × Nat)) {a b:Nat × Nat},(l.map (·.2)).Nodup->a ∈ l->b ∈ l->a.2=b.2->a=b:=fun l=>by
  induction l with
  | nil=>intro a b _ h;cases h
  | cons x l ih =>
   intro a b nd ha hb e;rw [map_cons,nodup_cons] at nd;rcases mem_cons.mp ha with ea | ha2<;>rcases mem_cons.mp hb with eb | hb2
   ·rw [ea,eb]
   ·exact absurd (mem_map.mpr ⟨b,hb2,by rw [← e,ea]⟩) nd.1
   ·exact absurd (mem_map.mpr ⟨a,ha2,by rw [e,eb]⟩) nd.1
   ·exact ih nd.2 ha2 hb2 e
def qc1z{fs:List Bool}{sp:DSp}{ta:TA}{da:TDA}(ha:∀ (Qa:List DV->Rho->Prop) (Qv:List V->Hp->Prop),da ρ Qa->(∀ xs ρ1 O1 vs H1,Qa xs ρ1->Rel K c O1 ρ1 σ H1->Pers K (live c O) H (live c O1) H1->AtVs K (live c O1) σ H1 xs vs->Qv vs H1)->ta σ H Qv)
  {Qd:RV->Rho->Prop} {Q:VK} (h:dCall fs sp da ρ Qd)
  (k:∀ r ρ' O' v H',Qd r ρ'->RetOk K c O' ρ' σ H' r v->Pers K (live c O) H (match r with | .d _=>live c O' | .new _=>fun a=>live c O' a/\v ≠ .ref a) H'->Q v H'):tCall (spD K sp) [] E0 ta σ H Q:=by
 refine ha _ _ h fun xs ρ1 O1 vs H1 h1 R1 P1 a1=>?_;obtain⟨ls,ρ2,O2,⟨nd,h2⟩,R2,P2,as⟩:=pass_ok R1 a1 h1;have inj:=qc3z nd;obtain⟨Ri,Pi⟩:=R2.begin (b:=true) (P:=fun _=>False) (H':=H1) (as.begins inj) (Same.refl _) (fun p z=>z.elim);rw [append_nil];have hf:∀ j i,(j,i) ∈ flOf 0 fs xs->qa1p fs xs j=some i:=fun j i m=>by
  obtain⟨k,e1,e2⟩:=qa9x.mp m;have:j=k:=by omega
  subst this;exact e2
 have hf':∀ j i,qa1p fs xs j=some i->(j,i) ∈ flOf 0 fs xs:=fun j i e=>qa9x.mpr ⟨j,'o',e⟩;refine⟨c.in O2 (qa0z O2 ρ2 (qa1p fs xs)) (fun _=>False) true H1,qa0z O2 ρ2 (qa1p fs xs),ls,_,rfl,fun p z=>z,fun p z=>z,fun p z=>.inr ⟨rfl,z⟩,fun i=>rfl,Ri,h2,fun r O' ρ' σ' v H' q ok=>?_⟩;have ef:fills (mask ls ρ') (flOf 0 fs xs) ρ2=fills ρ' (flOf 0 fs xs) ρ2:=qb2b fun j i m=>as.mask ρ' (hf j i m);rw [ef] at q;have P12:=P1.trans P2;have lentM:∀ {b:Addr},(∃ j,qa0z O2 ρ2 (qa1p fs xs) j=some b)->∃ vs,H1 b=some (.lst vs):=fun hq8=>by
  obtain⟨j,e⟩:=hq8;obtain⟨i,_,_,_,_,hO⟩:=qa2d e;exact(R2.has i _ hO).2
 have hsame:∀ {ci:Rc},Rel K ci O' ρ' σ' H'->ci.H0=H1->(∀ p,ci.M p->∃ j,qa0z O2 ρ2 (qa1p fs xs) j=some p)->(∀ b o,(∀ j,qa0z O2 ρ2 (qa1p fs xs) j ≠ some b)->H1 b=some o->H' b=some o):=fun{ci} Rf h0 hM b o n q=>by
  refine Rf.same b o (fun z=>?_) (by rw [h0];exact q);obtain⟨j,e⟩:=hM b z;exact n j e
 have keep:(∀ b o,(∀ j,qa0z O2 ρ2 (qa1p fs xs) j ≠ some b)->H1 b=some o->H' b=some o)->Keep (live c O2) H1 H':=fun fr =>
  ⟨fun b ws e=>fr b _ (fun j z=>by obtain⟨vs,w⟩:=lentM ⟨j,z⟩;rw [e] at w;cases w) e,fun b o u e=>fr b _ (fun j z=>by obtain⟨vs,w⟩:=lentM ⟨j,z⟩;rw [e] at w;cases w) e,
   fun b ws hl e=>fr b _ (fun j z=>by obtain⟨i,_,_,_,_,hO⟩:=qa2d z;exact hl.2.2 i hO) e⟩
 cases r with
 | d x =>
  obtain⟨Rf,ax⟩:=ok;have fr:=hsame Rf rfl (fun p z=>z);have hl:∀ a,live (c.in O2 (qa0z O2 ρ2 (qa1p fs xs)) (fun _=>False) true H1) O' a->live c O2 a:=fun a z=>z.1;have hp:Pers K (live c O2) H1 (live c O2) H':=.of (keep fr) fun _ z=>z;have hP:Pers K (live (c.in O2 (qa0z O2 ρ2 (qa1p fs xs)) (fun _=>False) true H1) O') H' (live c O2) H':=.of (Keep.refl _ _) hl;have Rn:=R2.finish (P':=c.P) nd hf hf' Rf (fun _=>rfl) rfl rfl fr (fun j p e=>Rf.ml p ⟨j,e⟩) hP hp (fun p z=>.inl z);exact k (.d x) _ O2 v H' q ⟨Rn,hP _ _ ax⟩ (P12.trans hp)
 | new ys =>
  obtain⟨p,ws,rfl,Rf,ff,hH,ax⟩:=ok;have fr:=hsame Rf rfl (fun p z=>z);have h1p:H1 p=none:=ff.1;have hl:∀ a,live ((c.in O2 (qa0z O2 ρ2 (qa1p fs xs)) (fun _=>False) true H1).add p) O' a->live (c.add p) O2 a:=fun a z=>by
   have z1:live c O2 a:=z.1;exact qa9u z1 fun e=>z.2.1 (.inr e)
  have hp:Pers K (live c O2) H1 (live (c.add p) O2) H':=fun d u h=>by
   refine AtD.mono (S:=live (c.add p) O2) ((keep fr).less fun b z=>(qa5l z).1) _ _ (AtD.less h1p (fun a z n=>qa9u z n) _ _ h)
  have hP:Pers K (live ((c.in O2 (qa0z O2 ρ2 (qa1p fs xs)) (fun _=>False) true H1).add p) O') H' (live (c.add p) O2) H':=.of (Keep.refl _ _) hl;have fp:=qb2m R2 h1p;have Rn:Rel K (c.add p) O2 (fills ρ' (flOf 0 fs xs) ρ2) σ H':=R2.finish (P':=fun a=>c.P a ∨ a=p) nd hf hf' Rf (fun _=>rfl) rfl rfl fr (fun j q e=>Rf.ml q ⟨j,e⟩) hP hp (fun q z=>z.elim .inl fun e=>.inr (by subst e;exact⟨by rw [hH];exact(fun z=>nomatch z),fp.2.2.2⟩));refine k (.new ys) _ O2 _ H' q ⟨p,ws,rfl,Rn,fp,hH,hP.all ax⟩ ((P12.trans hp).trans (.of (Keep.refl _ _) fun a z=>⟨(qa5l z).1,fun e=>(qa5l z).2 (by cases e;rfl)⟩))
def qc4a{fs:List Bool}{sp:DSp}{ta:TA}{da:TDA}(ha:AdA K ta da)(R:Rel K c O ρ σ H){Qd:RV->Rho->Prop}{Q:VK}(h:dCall fs sp da ρ Qd)
  (k:∀ r ρ' O' v H',Qd r ρ'->RetOk K c O' ρ' σ H' r v->Pers K (live c O) H (match r with | .d _=>live c O' | .new _=>fun a=>live c O' a/\v ≠ .ref a) H'->Q v H'):tCall (spD K sp) [] E0 ta σ H Q:=
 qc1z (fun Qa Qv q k'=>ha c O ρ σ H Qa Qv R q k') h k
def qc6a{fs:List Bool}{sp:DSp}{ta:TA}{da:TDA}(ha:AdA K ta da):AdE K (tCall (spD K sp) [] E0 ta) (qb7b fs sp da):=fun c O ρ σ H Qd Q R h k =>
 qc4a ha R h fun r ρ' O' v H' q ok P=>by
  cases r with
  | d x=>exact k _ _ _ _ _ q ok.1 P ok.2
  | new xs =>
   obtain⟨p,ws,rfl,Rn,fp,hH,ax⟩:=ok;obtain⟨R2,P2⟩:=Rn.unadd;exact k _ _ _ _ _ q R2 (P.trans (.of (Keep.refl _ _) fun a z=>z.1)) (qa2f ⟨Rn.frs p fp.1,fp.2.2.1,fp.2.2.2⟩ hH (P2.all ax))
end
section
variable{X:Cx}{k:Nat}{f:Addr}{fd:FuncData}{ps:List Str}{sp:DSp}{x:Str}{st:Stmt}{p pos:Pos}{e:Expr}{es:List Expr}{da:TDA}
def qa0g(fs:List Bool)(d:Def X.K X.mg x st ps f fd)(g:FnOk X.prog X.w X.K X.mg X.base CX0 k f fd ps (spD X.K sp))(hr:Room k X.A)(hg:Gl X x)(ha:DA X (e :: es) da) (hdb:(x == ("__debug__" : Str))=false:=by decide)
  (he:starEach (e :: es) X.env=(false,eval e X.env) :: starEach es X.env:=by rfl) (hpl:(backTo pos (starEach es X.env)).any (·.1)=false:=by rfl):DE X (.Call (.Name x p) (e :: es) [] pos) (qb7b fs sp da):=by
 obtain⟨t,pt,at_⟩:=ha;exact⟨_,qb2l d g hr hg pt hdb he hpl,qc6a at_⟩
end
end
section
noncomputable def capR(n:Nat)(cap:List 'q')(ρ:Rho):Rho:=List.replicate n none ++ cap.map fun p=>(ρ[p.2]?.join).map lend
noncomputable def flC:Nat->List 'q'->List (Nat × Nat)
 | _,[]=>[]
 | j,p :: r=>(j,p.2) :: flC (j + 1) r
noncomputable def qa7b(n:Nat)(cap:List 'q'):Lent:=fun j=>if j < n then none else(cap[j - n]?).map (·.2)
def qc0i:∀ {cap:List 'q'} {n j i:Nat},(j,i) ∈ flC n cap ↔ n <= j/\(cap[j - n]?).map (·.2)=some i:=by
 intro cap;induction cap with
 | nil=>intro n j i;simp [flC]
 | cons p r ih =>
  intro n j i;unfold flC;rw [mem_cons,ih];constructor
  ·rintro(e | ⟨h1,h2⟩)
   ·cases e;simp
   ·refine⟨'o',?_⟩
    have:j - n=(j - (n + 1)) + 1:=by omega
    rw [this,List.getElem?_cons_succ];exact h2
  ·rintro⟨h1,h2⟩
   by_cases e:j=n
   ·subst e
    simp at h2
    exact .inl (by rw [h2])
   ·refine .inr ⟨'o',?_⟩
    have:j - n=(j - (n + 1)) + 1:=by omega
    rw [this,List.getElem?_cons_succ] at h2;exact h2
def qc0j:∀ {cap:List 'q'} {n:Nat},(flC n cap).map (·.2)=cap.map (·.2)
 | [],_=>rfl
 | p :: r,n=>by unfold flC;rw [map_cons,map_cons,qc0j]
def qa1q(g:TDG)(tt:TDT)(te:TDE)(Q:List PyData->Rho->Prop):List PyData->Rho->List PyData->Prop
 | [],ρ,acc=>Q acc ρ
 | x :: r,ρ,acc=>g x ρ fun ρ1=>tt ρ1 fun b ρ2=>if b=true then te ρ2 fun y ρ3=>fz ρ3 y fun z ρ4=>qa1q g tt te Q r ρ4 (acc ++ [z]) else qa1q g tt te Q r ρ2 acc
def dComp(n:Nat)(cap:List 'q')(di:TDI)(g:TDG)(tt:TDT)(te:TDE):TDF:=fun ρ Q=>di ρ fun xs ρ1=>xs.length <= 1000000/\(cap.map (·.2)).Nodup/\qa1q g tt te (fun acc ρ'=>Q acc (fills ρ' (flC n cap) ρ1)) xs (capR n cap ρ1) []
section
variable{K:W.Frag}{c:Rc}{O:Own}{ρ:Rho}{σ:St}{H H':Hp}{S S':Addr->Prop}
def qc4b{l:L}:isOw (lend l)=isOw l:=by cases l<;>rfl
def qc2a{n:Nat}{cap:List 'q'}{own:List Str}(hn:own.length=n)(R:Rel K c O ρ σ H)(nd:(cap.map (·.2)).Nodup):Begins K c O ρ σ H (qa7b n cap) (capR n cap ρ) (qa6z own cap σ):=by
 have at_:∀ {j:Nat} {l:L},(capR n cap ρ)[j]? = some (some l)->n <= j/\∃ p l0,cap[j - n]? = some p/\ρ[p.2]? = some (some l0)/\l=lend l0:=fun{j l} e=>by
  unfold capR at e;by_cases hj:j < n
  ·rw [List.getElem?_append_left (by simpa using hj),List.getElem?_replicate,if_pos hj] at e;cases e
  ·rw [getElem?_append_right (by simpa using Nat.le_of_not_lt hj),length_replicate,getElem?_map] at e
   cases q:cap[j - n]? with
   | none=>rw [q] at e;cases e
   | some p =>
    rw [q] at e;have e':(ρ[p.2]?.join).map lend=some l:=Option.some.inj e;cases q2:ρ[p.2]?.join with
    | none=>rw [q2] at e';cases e'
    | some l0=>rw [q2] at e';cases e';exact⟨'o',p,l0,rfl,qa1w q2,rfl⟩
 have st:∀ {j:Nat} {p:Str × Nat},n <= j->cap[j - n]? = some p->(qa6z own cap σ)[j]? = some (σ[p.2]?).join:=fun{j p} h1 h2=>by
  unfold qa6z;rw [getElem?_append_right (by simp;omega),length_replicate,hn,getElem?_map,h2];rfl
 refine⟨fun j l e ho=>?_,fun j x e=>?_,fun j e=>?_,fun j k i e1 e2=>?_,?_⟩
 ·obtain⟨h1,p,l0,h2,h3,h4⟩:=at_ e
  have ho':isOw l0=true:=by rw [h4,qc4b] at ho;exact ho
  obtain⟨q,_,hq⟩:=R.ow h3 ho';refine⟨p.2,l0,?_,h3,ho',h4,?_⟩
  ·unfold qa7b;rw [if_neg 'o',h2];rfl
  ·rw [st h1 h2,hq];rfl
 ·obtain⟨h1,p,l0,h2,h3,h4⟩:=at_ e
  cases l0 with
  | d y =>
   cases h4
   obtain⟨v,e1,e2⟩:=R.dat _ _ h3;exact⟨v,by rw [st h1 h2,e1];rfl,e2⟩
  | _=>cases h4
 ·obtain⟨h1,p,l0,h2,h3,h4⟩:=at_ e
  cases l0 with
  | scr=>rw [st h1 h2,R.scr _ h3];rfl
  | _=>cases h4
 ·unfold qa7b at e1 e2
  split at e1
  ·cases e1
  ·split at e2
   ·cases e2
   ·rename_i h1 h2
    rw [← getElem?_map] at e1 e2;obtain⟨a1,b1⟩:=List.getElem?_eq_some_iff.mp e1;obtain⟨a2,b2⟩:=List.getElem?_eq_some_iff.mp e2;have:=(List.getElem_inj nd).mp (b1.trans b2.symm);omega
 ·unfold qa6z capR;simp [hn]
def qc0k{n:Nat}{own:List Str}{cap:List 'q'}{wi:TI}{g:TG}{tt:TT}{te:TE}{di:TDI}{dg:TDG}{dt:TDT}{de:TDE}(hn:own.length=n)(hi:AdI K wi di)(hg:AdG K g dg)(ht:AdT K tt dt)(he:AdE K te de) :
  AdF K (tComp own cap wi g tt te) (dComp n cap di dg dt de):=by
 intro c O ρ σ H Qd Q R h k;refine hi c O ρ σ H _ _ R h fun xs ρ1 O1 J H1 h1 R1 P1 I1 D hD=>?_;obtain⟨hz,nd,hloop⟩:=h1;have B:=qc2a (own:=own) hn R1 nd;generalize hOc:qa0z O1 ρ1 (qa7b n cap)=Oc;have s0:=qa0y hD (.lst []);obtain⟨R2,P2⟩:=R1.begin (b:=false) (P:=fun a=>a=D) B s0 (fun p e=>by subst e;exact⟨hD,by rw [qa0n];exact fun z=>nomatch z⟩);rw [hOc] at R2 P2;have lentM:∀ {b:Addr},(∃ j,Oc j=some b)->∃ vs,H1 b=some (.lst vs):=fun hq8=>by
  obtain⟨j,e⟩:=hq8;rw [← hOc] at e;obtain⟨i,_,_,_,_,hO⟩:=qa2d e;exact(R1.has i _ hO).2
 have nD:∀ j,Oc j ≠ some D:=fun j e=>by
  obtain⟨vs,q⟩:=lentM ⟨j,e⟩;rw [hD] at q;cases q
 -- what holds between two turns
 let Jn:St->Hp->Own->Rho->List PyData->List V->Prop:=fun σ' H' O' ρ' acc ys=>Rel K (c.in O1 Oc (fun a=>a=D) false H') O' ρ' σ' H'/\H' D=some (.lst ys)/\qa0b K H' (live (c.in O1 Oc (fun a=>a=D) false H') O') acc ys /\
  (∀ b o,(∀ j,Oc j ≠ some b)->b ≠ D->H1 b=some o->H' b=some o)/\Pers K (live c O1) H1 (live (c.in O1 Oc (fun a=>a=D) false H') O') H'
 refine⟨fun i m σ' H'=>m=xs.length - i/\i <= xs.length/\∃ O' ρ' acc ys,Jn σ' H' O' ρ' acc ys/\acc.length <= i/\qa1q dg dt de (fun acc ρ'=>Qd acc (fills ρ' (flC n cap) ρ1)) (xs.drop i) ρ' acc,⟨xs.length,by simp,zero_le _,Oc,_,[],[],⟨R2,qa0n,.nil,fun b o _ nb q=>by rw [qa0v nb];exact q,P2⟩,le_refl _,by rw [drop_zero];exact hloop⟩,?_⟩;rintro i m σ' H' ⟨rfl,hle,O',ρ',acc,ys,⟨R3,hDy,hacc,fr3,P3⟩,hal,q3⟩;obtain⟨it,stop⟩:=I1 _ _ P3;by_cases hlt:i < xs.length
 ·rw [drop_eq_getElem_cons hlt] at q3
  obtain⟨go,yld⟩:=it i xs[i] (getElem?_eq_getElem hlt);have q3':dg xs[i] ρ' fun ρ1'=>dt ρ1' fun b ρ2=>if b=true then de ρ2 fun y ρ3=>fz ρ3 y fun z ρ4=>qa1q dg dt de (fun acc ρ'=>Qd acc (fills ρ' (flC n cap) ρ1)) (xs.drop (i + 1)) ρ4 (acc ++ [z]) else qa1q dg dt de (fun acc ρ'=>Qd acc (fills ρ' (flC n cap) ρ1)) (xs.drop (i + 1)) ρ2 acc:=q3
  -- to the next turn, at a heap that differs from H4 at D alone
  have next:∀ (σ4:St) (H4 H5:Hp) (O4:Own) (ρ4:Rho) (acc':List PyData) (ys':List V),Rel K (c.in O1 Oc (fun a=>a=D) false H') O4 ρ4 σ4 H4->Pers K (live (c.in O1 Oc (fun a=>a=D) false H') O') H' (live (c.in O1 Oc (fun a=>a=D) false H') O4) H4 ->
    H5 D=some (.lst ys')->(∀ b,b ≠ D->H5 b=H4 b)->qa0b K H4 (live (c.in O1 Oc (fun a=>a=D) false H') O4) acc' ys'->Jn σ4 H5 O4 ρ4 acc' ys':=fun σ4 H4 H5 O4 ρ4 acc' ys' R4 P4 h5 ne a4=>by
   have h4D:H4 D ≠ none:=R4.kept D (by show H' D ≠ none;rw [hDy];exact fun z=>nomatch z);have kp:Keep (live (c.in O1 Oc (fun a=>a=D) false H') O4) H4 H5:=by
    have hDl:∃ zs,H4 D=some (.lst zs):=⟨ys,R4.same D _ (fun hq8=>by obtain⟨j,e⟩:=hq8;exact nD j e) hDy⟩;obtain⟨zs,hDl⟩:=hDl;exact⟨fun b ws e=>by rw [ne b (ne_of e hDl (by intro z;cases z))];exact e,fun b o u e=>by rw [ne b (ne_of e hDl (by intro z;cases z))];exact e,fun b ws hl e=>by rw [ne b (fun z=>hl.2.1 z)];exact e⟩
   have hl:∀ a,live (c.in O1 Oc (fun a=>a=D) false H') O4 a->live (c.in O1 Oc (fun a=>a=D) false H5) O4 a:=fun a z=>z;have P5:Pers K (live (c.in O1 Oc (fun a=>a=D) false H') O4) H4 (live (c.in O1 Oc (fun a=>a=D) false H5) O4) H5:=.of kp hl;have inM:∀ i p,O4 i=some p->∃ j,Oc j=some p:=fun i p e=>by
    rcases (R4.has' i p e).1 with z | z
    ·exact z
    ·exact absurd z.1 Bool.false_ne_true
   refine⟨R4.to (fun _=>rfl) (fun _ _ _ z=>z) rfl rfl P5 (fun i p vs e q=>?_) (fun i p e _=>.inl (inM i p e)) (fun p z=>z.elim .inl fun w=>absurd w.1 Bool.false_ne_true) (fun p z=>?_) (fun b o _ z=>z) (fun b z=>z) (fun p z=>?_) (fun p z=>?_) (fun _=>rfl) (R4.sc.keep kp),h5,P5.all a4,fun b o n1 n2 q=>?_,(P3.trans P4).trans P5⟩
   ·obtain⟨j,ej⟩:=inM i p e
    rw [ne p (fun z=>nD j (by rw [← z];exact ej))];exact q
   ·have z':H5 p=none:=z
    have np:p ≠ D:=by rintro rfl;rw [h5] at z';cases z'
    rw [ne p np] at z';exact R4.frs p (R4.free0 z')
   ·obtain⟨j,ej⟩:=z
    obtain⟨vs,q⟩:=R4.ml p ⟨j,ej⟩;exact⟨vs,by rw [ne p (fun w=>nD j (by rw [← w];exact ej))];exact q⟩
   ·rcases z with z | ⟨j,ej⟩
    ·rw [show p=D from z,h5];exact fun w=>nomatch w
    ·obtain⟨vs,q⟩:=R4.ml p ⟨j,ej⟩
     rw [ne p (fun w=>nD j (by rw [← w];exact ej)),q];exact fun w=>nomatch w
   ·rw [ne b n2]
    exact R4.same b o (fun hq8=>by obtain⟨j,e⟩:=hq8;exact n1 j e) (fr3 b o n1 n2 q)
  refine .inr ⟨go,fun σ'' H''=>∃ O'' ρ'' acc' ys',Jn σ'' H'' O'' ρ'' acc' ys'/\acc'.length <= i + 1/\qa1q dg dt de (fun acc ρ'=>Qd acc (fills ρ' (flC n cap) ρ1)) (xs.drop (i + 1)) ρ'' acc',fun σ'' H'' hq8=>by obtain⟨O'',ρ'',acc',ys',a1,a2,a3⟩:=hq8;exact⟨xs.length - (i + 1),'o',rfl,hlt,O'',ρ'',acc',ys',a1,a2,a3⟩,fun v H4 y=>?_⟩;obtain⟨s4,a4⟩:=yld v H4 y;refine hg _ O' ρ' σ' H4 xs[i] v _ _ (R3.grow s4) a4 q3' fun O5 ρ5 σ5 R5 P5 q5=>?_;refine ht _ O5 ρ5 σ5 H4 _ _ R5 q5 fun b ρ6 O6 H6 q6 R6 P6=>?_;have P06:=((Pers.same s4).trans P5).trans P6;have dAt:∀ {O9:Own} {ρ9:Rho} {σ9:St} {H9:Hp},Rel K (c.in O1 Oc (fun a=>a=D) false H') O9 ρ9 σ9 H9->H9 D=some (.lst ys):=fun Rx=>Rx.same D _ (fun hq8=>by obtain⟨j,e⟩:=hq8;exact nD j e) hDy;cases b with
  | false =>
   rw [if_neg Bool.false_ne_true] at q6 ⊢;exact⟨O6,ρ6,acc,ys,next σ5 H6 H6 O6 ρ6 acc ys R6 P06 (dAt R6) 'i' (P06.all hacc),'o',q6⟩
  | true =>
   rw [if_pos rfl] at q6 ⊢;refine he _ O6 ρ6 σ5 H6 _ _ R6 q6 fun y ρ7 O7 u H7 q7 R7 P7 a7=>?_;obtain⟨z,ρ8,O8,q8,R8,P8,a8⟩:=R7.fz a7 q7;have P08:=(P06.trans P7).trans P8;have accl:ys.length=acc.length:=hacc.length;refine⟨ys,dAt R8,by rw [accl];exact mil 'o',O8,ρ8,acc ++ [z],ys ++ [u],next σ5 H7 _ O8 ρ8 _ _ R8 P08 qa0n (fun b nb=>qa0v nb) ((P08.all hacc).snoc a8),by rw [length_append,List.length_singleton];omega,q8⟩
 ·have e:i=xs.length:=by omega
  subst e;rw [List.drop_eq_nil_of_le 'c'] at q3;refine .inl ⟨stop,?_⟩;have fr:∀ b o,(∀ j,qa0z O1 ρ1 (qa7b n cap) j ≠ some b)->H1 b=some o->H' b=some o:=fun b o n1 q=>fr3 b o (by rw [← hOc];exact n1) (qa2n q hD) q;have fp:=qb2m R1 hD;have hl:∀ a,live (c.in O1 Oc (fun a=>a=D) false H') O' a->live (c.add D) O1 a:=fun a z=>qa9u z.1 z.2.1;have hP:Pers K (live (c.in O1 Oc (fun a=>a=D) false H') O') H' (live (c.add D) O1) H':=.of (Keep.refl _ _) hl;have hp:Pers K (live c O1) H1 (live (c.add D) O1) H':=P3.trans hP;have hf:∀ j i,(j,i) ∈ flC n cap->qa7b n cap j=some i:=fun j i m=>by
   obtain⟨h1,h2⟩:=qc0i.mp m;unfold qa7b;rw [if_neg 'o'];exact h2
  have hf':∀ j i,qa7b n cap j=some i->(j,i) ∈ flC n cap:=fun j i e=>by
   unfold qa7b at e;split at e
   ·cases e
   ·exact qc0i.mpr ⟨'o',e⟩
  have Rn:Rel K (c.add D) O1 (fills ρ' (flC n cap) ρ1) σ H':=R1.finish (P':=fun a=>c.P a ∨ a=D) (by rw [qc0j];exact nd) hf hf' R3 (fun j=>by rw [hOc];rfl) rfl rfl fr (fun j p e=>R3.ml p ⟨j,by rw [← hOc];exact e⟩) hP hp (fun q z=>z.elim .inl fun e=>.inr (by subst e;exact⟨by rw [hDy];exact(fun z=>nomatch z),fp.2.2.2⟩));exact k _ _ O1 D ys H' q3 Rn (P1.trans hp) fp hDy (hP.all hacc)
end
end
section
def DG(X:Cx)(target:Expr)(dg:TDG):Prop:=∃ g,PG X target g/\AdG X.K g dg
def DGs(X:Cx)(ts:List Expr)(dg:TDGs):Prop:=∃ g,PGs X ts g/\AdGs X.K g dg
def DIf(X:Cx)(ifs:List Expr)(dt:TDT):Prop:=∃ t,PIf X ifs t/\AdT X.K t dt
section
variable{X:Cx}{st:Stmt}{rest:List Stmt}{e tg iter a b c:Expr}{es ifs:List Expr}{de da db dc:TDE}{df:TDF}{dt du:TDS}{dg:TDG}{dgs:TDGs}{di:TDI}{dtt:TDT}{daa:TDA}{pos:Pos}
def qa0o:DSs X [] dNext:=⟨_,qb1p,ad_next⟩
def qa0d(h1:DS X st dt)(h2:DSs X rest du):DSs X (st :: rest) (dSeq dt du):=by obtain⟨_,p,a⟩:=h1;obtain⟨_,p',a'⟩:=h2;exact⟨_,qa3k p p',ad_seq a a'⟩
def qa0e(h1:DS X st dt):DSs X [st] dt:=by obtain⟨_,p,a⟩:=h1;exact⟨_,qa5w p,a⟩
def qc0l(he:DE X e de)(hs:swapsWith e none pos.line X.env=pure false:=by rfl):DS X (.Expr e pos) (dDrop de):=by obtain⟨_,p,a⟩:=he;exact⟨_,ps_expr p hs,ad_drop a⟩
def qa0k(he:DE X e de):DS X (.Return (some e) pos) (dRet de):=by obtain⟨_,p,a⟩:=he;exact⟨_,qa8u p,ad_ret a⟩
def qa1h{c:Expr}{a b:List Stmt}(hc:DT X c dtt)(ha:DSs X a dt)(hb:DSs X b du):DS X (.If c a b pos) (dIf dtt dt du):=by obtain⟨_,p,a⟩:=hc;obtain⟨_,p',a'⟩:=ha;obtain⟨_,p2,a2⟩:=hb;exact⟨_,ps_if p p' p2,ad_if a a' a2⟩
def qa1s{i:Nat}{x:Str}{pos':Pos}(hN:X.N.Nodup)(hi:X.N[i]? = some x)(hx:Loc X.env.scope x)(he:DE X e de)(hs:swapsWith e (some (.Name x pos')) pos.line X.env=pure false:=by rfl)(hf:X.fn x=true ∨ X.env.scope.names.lookup x=some .local:=by first | exact .inl rfl | exact .inr rfl) :
  DS X (.Assign [.Name x pos'] e pos) (dSet i de):=by obtain⟨_,p,a⟩:=he;exact⟨_,qa7s hN hi hx p hs hf,ad_set a⟩
def qc0m{i:Nat}{x:Str}{pos':Pos}(hN:X.N.Nodup)(hi:X.N[i]? = some x)(hx:Loc X.env.scope x)(he:DF X e df)(hs:swapsWith e (some (.Name x pos')) pos.line X.env=pure false:=by rfl)(hf:X.fn x=true ∨ X.env.scope.names.lookup x=some .local:=by first | exact .inl rfl | exact .inr rfl) :
  DS X (.Assign [.Name x pos'] e pos) (dSetF i df):=by obtain⟨_,p,a⟩:=he;exact⟨_,qa7s hN hi hx p hs hf,qc0g a⟩
def qa0p{i:Nat}{x:Str}(hN:X.N.Nodup)(hi:X.N[i]? = some x)(hx:Loc X.env.scope x)(hf:X.fn x=true ∨ X.env.scope.names.lookup x=some .local:=by first | exact .inl rfl | exact .inr rfl | assumption):DG X (.Name x pos) (qb6t i):=⟨_,pg_name hN hi hx hf,ag_name⟩
def qc0n:DGs X [] dgNil:=⟨_,pgs_nil,ag_nil⟩
def qa9y(h1:DG X e dg)(h2:DGs X es dgs)(hs:(assignEach (e :: es) X.env).map (·.2)=assign e X.env :: (assignEach es X.env).map (·.2):=by rfl):DGs X (e :: es) (qb6u dg dgs):=by obtain⟨_,p,a⟩:=h1;obtain⟨_,p',a'⟩:=h2;exact⟨_,qc5c p p' hs,ag_cons a a'⟩
def dg_tup{k n:Nat}(hc:X.calm=true)(h:DGs X es dgs)(hn:(assignEach es X.env).length=n:=by rfl)(hst:(assignEach es X.env).findIdx? (·.1)=none:=by rfl):DG X (.Tuple es k pos) (dgTup n dgs):=by obtain⟨_,p,a⟩:=h;exact⟨_,pg_tup hc p hn hst,ag_tup a⟩
def qa5o{body:List Stmt}(hp:PassesOwn (model X.prog X.w) X.A X.env X.xe)(hc:X.calm=true)(hi:DI X tg iter di)(hg:DG X tg dg)(hb:DSs X body dt)(hs:∀ x,foldedSetIterable iter X.env x=pure x:=by intro _;rfl):DS X (.For tg iter body [] pos) (dFor di dg dt):=
 by obtain⟨_,p,a⟩:=hi;obtain⟨_,p',a'⟩:=hg;obtain⟨_,p2,a2⟩:=hb;exact⟨_,ps_for hp hc p p' p2 hs,ad_for a a' a2⟩
def qa1t(h:DE X e de):DI X tg e (diDat de):=by obtain⟨_,p,a⟩:=h;exact⟨_,pi_dat p,ai_dat a⟩
def qa5b{p:Pos} (hg:Gl X "range") (hm:X.mg "range" = none) (ha:DE X a da) (hs:starEach [a] X.env=[(false,eval a X.env)]:=by rfl):DI X tg (.Call (.Name "range" p) [a] [] pos) (qb6x da):=
 by obtain⟨_,p,a⟩:=ha;exact⟨_,qc3e hg hm (qa2j p qa4q hs) hs,ai_rng1 a⟩
def qa2k:DIf X [] (fun ρ Q=>Q true ρ):=⟨_,pif_nil,fun c O ρ σ H Qd Q R h k=>k _ _ _ _ h R .refl⟩
def qa9e(h:DT X e dtt):DIf X [e] dtt:=by obtain⟨_,p,a⟩:=h;exact⟨_,pif_one p,a⟩
end
def upE(K:W.Frag)(dt:TDE):TE:=fun σ H Q=>∃ c O ρ Qd,Rel K c O ρ σ H/\dt ρ Qd/\(∀ x ρ' O' v H',Qd x ρ'->Rel K c O' ρ' σ H'->Pers K (live c O) H (live c O') H'->AtV K (live c O') σ H' x v->Q v H')
def upT(K:W.Frag)(dt:TDT):TT:=fun σ H Q=>∃ c O ρ Qd,Rel K c O ρ σ H/\dt ρ Qd/\(∀ b ρ' O' H',Qd b ρ'->Rel K c O' ρ' σ H'->Pers K (live c O) H (live c O') H'->Q b H')
def upG(K:W.Frag)(dg:TDG):TG:=fun v σ H Q=>∃ c O ρ x Qd,Rel K c O ρ σ H/\AtD K H (live c O) x v/\dg x ρ Qd/\(∀ O' ρ' σ' ,Rel K c O' ρ' σ' H->Pers K (live c O) H (live c O') H->Qd ρ'->Q σ' H)
def ad_upE{K:W.Frag}{dt:TDE}:AdE K (upE K dt) dt:=fun c O ρ σ H Qd Q R h k=>⟨c,O,ρ,Qd,R,h,k⟩
def ad_upT{K:W.Frag}{dt:TDT}:AdT K (upT K dt) dt:=fun c O ρ σ H Qd Q R h k=>⟨c,O,ρ,Qd,R,h,k⟩
def ad_upG{K:W.Frag}{dg:TDG}:AdG K (upG K dg) dg:=fun c O ρ σ H x v Qd Q R a h k=>⟨c,O,ρ,x,Qd,R,a,h,k⟩
def DE.up{X:Cx}{e:Expr}{de:TDE}(h:DE X e de):PE X e (upE X.K de):=fun pins s σ H Q I q=>by
 obtain⟨t,p,a⟩:=h;obtain⟨c,O,ρ,Qd,R,q,k⟩:=q;exact p pins s σ H Q I (a c O ρ σ H Qd Q R q k)
def DIf.up{X:Cx}{e:List Expr}{de:TDT}(h:DIf X e de):PIf X e (upT X.K de):=fun pins s σ H Q I q=>by
 obtain⟨t,p,a⟩:=h;obtain⟨c,O,ρ,Qd,R,q,k⟩:=q;exact p pins s σ H Q I (a c O ρ σ H Qd Q R q k)
def DG.up{X:Cx}{e:Expr}{dg:TDG}(h:DG X e dg):PG X e (upG X.K dg):=fun pins s σ H v u Q I r q=>by
 obtain⟨t,p,a⟩:=h;obtain⟨c,O,ρ,x,Qd,R,ax,q,k⟩:=q;exact p pins s σ H v u Q I r (a c O ρ σ H x v Qd Q R ax q k)
section
variable{X:Cx}{elt tg iter:Expr}{ifs:List Expr}{scope:Scope}{pos:Pos}{own:List Str}{cap:List 'q'}{di:TDI}{dg:TDG}{dt:TDT}{de:TDE}
def qa1x(own:List Str)(cap:List 'q')(hc:X.calm=true)(hok:qa4t X scope own cap=true)(hnd:(scope.names.map (·.1)).Nodup)(hi:DI X tg iter di)
  (hg:∀ fp s2 H2,DG (cxC X scope own cap fp s2 H2) tg dg) (ht:∀ fp s2 H2,DIf (cxC X scope own cap fp s2 H2) ifs dt) (he:∀ fp s2 H2,DE (cxC X scope own cap fp s2 H2) elt de)
  (hs:∀ x,foldedSetIterable iter X.env x=pure x:=by intro _;rfl):DF X (.ListComp elt [⟨tg,iter,ifs,0⟩] scope pos) (dComp own.length cap di dg dt de):=by
 obtain⟨ti,pi,ai⟩:=hi;exact⟨_,pe_comp hc hok hnd pi (fun a b c=>(hg a b c).up) (fun a b c=>(ht a b c).up) (fun a b c=>(he a b c).up) hs,qc0k rfl ai ad_upG ad_upT ad_upE⟩
def qb4b{i:Nat}{y:Str}{py spos:Pos}(hN:X.N.Nodup)(hi':X.N[i]? = some y)(hy:X.env.scope.names.lookup y=some .local)
  (own:List Str) (cap:List 'q') (hc:X.calm=true) (hok:qa4t X scope own cap=true) (hnd:(scope.names.map (·.1)).Nodup) (hi:DI X tg iter di)
  (hg:∀ fp s2 H2,DG (cxC X scope own cap fp s2 H2) tg dg) (ht:∀ fp s2 H2,DIf (cxC X scope own cap fp s2 H2) ifs dt) (he:∀ fp s2 H2,DE (cxC X scope own cap fp s2 H2) elt de)
  (hsw:swapsWith (.ListComp elt [⟨tg,iter,ifs,0⟩] scope pos) (some (.Name y py)) spos.line X.env=pure true:=by rfl)
  (hs:∀ x,foldedSetIterable iter X.env x=pure x:=by intro _;rfl):DS X (.Assign [.Name y py] (.ListComp elt [⟨tg,iter,ifs,0⟩] scope pos) spos) (dSetF i (dComp own.length cap di dg dt de)):=by
 obtain⟨ti,pi,ai⟩:=hi;exact⟨_,ps_setC hN hi' hy hc hok hnd pi (fun a b c=>(hg a b c).up) (fun a b c=>(ht a b c).up) (fun a b c=>(he a b c).up) hsw hs,qc0g (qc0k rfl ai ad_upG ad_upT ad_upE)⟩
end
section
variable{K:W.Frag}
def dIs(T:String)(de:TDE):TDE:=fun ρ Q=>de ρ fun x ρ1=>need (qa0i ρ1 x) fun d=>Q (.d (.bool (isD T d))) ρ1
def ad_is{t:TE}{de:TDE}{T:String}(hT:qa6c T=true)(h:AdE K t de):AdE K (tCB (fun xs H Q=>∃ v S d T,xs=[v,.ty T]/\AtD K H S d v/\qa6c T=true/\Q (.bl (isD T d)) H) (qa8e t (qa8e (tC (.ty T)) tNil))) (dIs T de):=fun c O ρ σ H Qd Q R q k =>
 h c O ρ σ H _ _ R q fun x ρ1 O1 v H1 h1 R1 P1 a1=>by
  obtain⟨d,e1,h2⟩:=ne (h1);exact⟨v,Any,d,T,rfl,(R1.top a1 e1).any,hT,k _ _ _ _ _ h2 R1 P1 qa9w⟩
end
def qa1z{X:Cx}{e:Expr}{de:TDE}{x:Str}{T:String}{p p2 pos:Pos} (hg:Gl X "isinstance") (hm:X.mg "isinstance" = none) (hg2:Gl X x) (hm2:X.mg x=none) (hv:bootBuiltins x=some (.type T)) (hT:qa6c T=true) (he:DE X e de) (hn:x ≠ "__name__":=by decide) (hd:(x == ("__debug__" : Str))=false:=by decide)
  (hs:starEach [e,.Name x p2] X.env=(false,eval e X.env) :: starEach [.Name x p2] X.env:=by rfl):DE X (.Call (.Name "isinstance" p) [e,.Name x p2] [] pos) (dIs T de):=by
 obtain⟨t,pe,ae⟩:=he;exact⟨_,qa5x qc5u hg hm qb5p (qa2j pe (qa2j (pe_ty hg2 hm2 hv hn hd) qa4q) hs) 'd' 'd' hs rfl,ad_is hT ae⟩
end
section
noncomputable def fEqA(neg:Bool):F2:=fun x y=>if (qa1g x && qa1g y && scal (toV x) (toV y))=true then some (.bool (if neg then !decide (toV x=toV y) else decide (toV x=toV y))) else fEq neg x y
section
variable{K:W.Frag}
def qa2h:AdR K (fun x y H Q=>rEq x y H Q ∨ rEqD K false x y H Q) (fEqA false):=by
 intro S H x y dx dy z Q f hx hy e k;unfold fEqA at e;split at e
 ·rename_i hc
  rw [and_eq_true,and_eq_true] at hc;cases e;obtain⟨e1,_⟩:=qa7q (hx.at fun ds z=>by subst z;exact absurd hc.1.1 (by simp [qa1g])) hc.1.1;obtain⟨e2,_⟩:=qa7q (hy.at fun ds z=>by subst z;exact absurd hc.1.2 (by simp [qa1g])) hc.1.2;rw [e1,e2];exact .inl ⟨hc.2,k _ _ (Same.refl _) (qa1u _)⟩
 ·exact .inr (ad_eq S H x y dx dy z Q f hx hy e k)
def qb3f:AdR K (fun x y H Q=>rNe x y H Q ∨ rEqD K true x y H Q) (fEqA true):=by
 intro S H x y dx dy z Q f hx hy e k;unfold fEqA at e;split at e
 ·rename_i hc
  rw [and_eq_true,and_eq_true] at hc;cases e;obtain⟨e1,_⟩:=qa7q (hx.at fun ds z=>by subst z;exact absurd hc.1.1 (by simp [qa1g])) hc.1.1;obtain⟨e2,_⟩:=qa7q (hy.at fun ds z=>by subst z;exact absurd hc.1.2 (by simp [qa1g])) hc.1.2;rw [e1,e2];exact .inl ⟨hc.2,k _ _ (Same.refl _) (qa1u _)⟩
 ·exact .inr (ad_eq S H x y dx dy z Q f hx hy e k)
def qa2i{X:Cx}(hu:X.A.units + 64 < cLine):OpR X (compareOp .Eq) (fun x y H Q=>rEq x y H Q ∨ rEqD X.K false x y H Q):=op_eq.or (op_eqD hu)
def qb3g{X:Cx}(hu:X.A.units + 64 < cLine):OpR X (compareOp .NotEq) (fun x y H Q=>rNe x y H Q ∨ rEqD X.K true x y H Q):=op_ne.or (op_neD hu)
end
def qc6b{neg:Bool}{x y:Str}:fEqA neg (.str x) (.str y)=some (.bool (if neg then !decide (x=y) else decide (x=y))):=by
 have e:decide (V.str x=V.str y)=decide (x=y):=by simp
 unfold fEqA;rw [if_pos (show(qa1g (.str x) && qa1g (.str y) && scal (toV (.str x)) (toV (.str y)))=true from rfl)];show some (PyData.bool (if neg=true then !decide (V.str x=V.str y) else decide (V.str x=V.str y)))=_;rw [e]
def qc6c{neg:Bool}{x y:Int}:fEqA neg (.int x) (.int y)=some (.bool (if neg then !decide (x=y) else decide (x=y))):=by
 have e:decide (V.int x=V.int y)=decide (x=y):=by simp
 unfold fEqA;rw [if_pos (show(qa1g (.int x) && qa1g (.int y) && scal (toV (.int x)) (toV (.int y)))=true from rfl)];show some (PyData.bool (if neg=true then !decide (V.int x=V.int y) else decide (V.int x=V.int y)))=_;rw [e]
def qc4c{neg:Bool}{x y:Bool}:fEqA neg (.bool x) (.bool y)=some (.bool (if neg then !decide (x=y) else decide (x=y))):=by
 have e:decide (V.bl x=V.bl y)=decide (x=y):=by simp
 unfold fEqA;rw [if_pos (show(qa1g (.bool x) && qa1g (.bool y) && scal (toV (.bool x)) (toV (.bool y)))=true from rfl)];show some (PyData.bool (if neg=true then !decide (V.bl x=V.bl y) else decide (V.bl x=V.bl y)))=_;rw [e]
theorem fIx_l{xs:List PyData}{i:Int}:fIx (.list xs) (.int i)=atI xs i:=rfl
theorem fIx_t{xs:List PyData}{i:Int}:fIx (.tuple xs) (.int i)=atI xs i:=rfl
theorem fAdd_i{i j:Int}:fAdd (.int i) (.int j)=some (.int (i + j)):=rfl
theorem fSub_i{i j:Int}:fSub (.int i) (.int j)=some (.int (i - j)):=rfl
theorem fCmp_i{p:Int->Int->Bool}{i j:Int}:fCmp p (.int i) (.int j)=some (.bool (p i j)):=rfl
theorem fLen_l{xs:List PyData}:fLen [.list xs]=some (.int xs.length):=rfl
theorem fLen_t{xs:List PyData}:fLen [.tuple xs]=some (.int xs.length):=rfl
theorem qc6d{xs:List PyData}:qb3c [.list xs]=some (.tuple xs):=rfl
theorem qc6e{xs:List PyData}:qb3c [.tuple xs]=some (.tuple xs):=rfl
theorem fList_l{xs:List PyData}:fList [.list xs]=some xs:=rfl
theorem fList_t{xs:List PyData}:fList [.tuple xs]=some xs:=rfl
def fIn_f{neg:Bool}{x:PyData}{xs:List PyData}(h:(qa1g x && xs.all qa1g)=true):fIn neg x (.tuple xs)=some (.bool (if neg then !inF x xs else inF x xs)):=by
 show(if qa1g x && xs.all qa1g then some (PyData.bool (if neg then !inF x xs else inF x xs)) else none)=_;rw [if_pos h]
def fIn_fl{neg:Bool}{x:PyData}{xs:List PyData}(h:(qa1g x && xs.all qa1g)=true):fIn neg x (.list xs)=some (.bool (if neg then !inF x xs else inF x xs)):=by
 show(if qa1g x && xs.all qa1g then some (PyData.bool (if neg then !inF x xs else inF x xs)) else none)=_;rw [if_pos h]
def qa9f{xs ys:List PyData}(h:xs.length + ys.length <= sizeLine):fAdd (.tuple xs) (.tuple ys)=some (.tuple (xs ++ ys)):=by
 show(if xs.length + ys.length <= sizeLine then some (PyData.tuple (xs ++ ys)) else none)=_;rw [if_pos h]
def qa3w{xs:List PyData}{i:Int}{k:PyData->Prop}(h0:0 <= i)(h1:i < xs.length)(h:∀ d,d ∈ xs->xs[i.toNat]? = some d->k d):need (atI xs i) k:=by
 obtain⟨x,e1,e2,e3⟩:=atI_in h0 h1;exact qc0c e1 (h x e2 e3)
def qb5a{α:Type}{xs r:List α}{i:Nat}{x:α}(h:xs.drop i=x :: r):xs[i]? = some x/\xs.drop (i + 1)=r:=by
 have hi:i < xs.length:=by
  by_cases h':i < xs.length
  ·exact h'
  ·rw [List.drop_eq_nil_of_le 'o'] at h;cases h
 rw [drop_eq_getElem_cons hi] at h;injection h with h1 h2
 exact⟨by rw [getElem?_eq_getElem hi,h1],h2⟩
def qb7c{α:Type}{xs:List α}{i:Nat}(hi:i <= xs.length)(h:xs.drop i=[]):i=xs.length:=by
 have:=congrArg List.length h;simp at this;omega
def qa3o{g:TDG}{b:TDS}{D:DEnds}{xs:List PyData}{ρ:Rho}(Pv:Nat->Rho->Prop)(h0:Pv 0 ρ)
  (hs:∀ (i:Nat) (x:PyData) (ρ:Rho) (N:Rho->Prop),xs[i]? = some x->Pv i ρ->(∀ ρ',Pv (i + 1) ρ'->N ρ')->g x ρ fun ρ1=>b { D with nx:=N,ct:=N,bk:=D.nx } ρ1)
  (hd:∀ ρ,Pv xs.length ρ->D.nx ρ):qa4u g b D xs ρ:=by
 have key:∀ (r:List PyData) (i:Nat),i <= xs.length->xs.drop i=r->∀ ρ,Pv i ρ->qa4u g b D r ρ:=fun r=>by
  induction r with
  | nil =>
   intro i hi e ρ p;rw [qb7c hi e] at p;exact hd ρ p
  | cons x r ih =>
   intro i hi e ρ p;obtain⟨e1,e2⟩:=qb5a e;have hlt:i < xs.length:=(List.getElem?_eq_some_iff.mp e1).1;exact hs i x ρ _ e1 p fun ρ' p'=>ih (i + 1) hlt e2 ρ' p'
 exact key xs 0 (zero_le _) 'e' ρ h0
def qa7y{g:TDG}{tt:TDT}{te:TDE}{Q:List PyData->Rho->Prop}{xs:List PyData}{ρ:Rho}(Pv:Nat->Rho->List PyData->Prop)(h0:Pv 0 ρ [])
  (hs:∀ (i:Nat) (x:PyData) (ρ:Rho) (acc:List PyData) (N:Rho->List PyData->Prop),xs[i]? = some x->Pv i ρ acc->(∀ ρ' acc',Pv (i + 1) ρ' acc'->N ρ' acc') ->
   g x ρ fun ρ1=>tt ρ1 fun b ρ2=>if b=true then te ρ2 fun y ρ3=>fz ρ3 y fun z ρ4=>N ρ4 (acc ++ [z]) else N ρ2 acc)
  (hd:∀ ρ acc,Pv xs.length ρ acc->Q acc ρ):qa1q g tt te Q xs ρ []:=by
 have key:∀ (r:List PyData) (i:Nat),i <= xs.length->xs.drop i=r->∀ ρ acc,Pv i ρ acc->qa1q g tt te Q r ρ acc:=fun r=>by
  induction r with
  | nil =>
   intro i hi e ρ acc p;rw [qb7c hi e] at p;exact hd ρ acc p
  | cons x r ih =>
   intro i hi e ρ acc p;obtain⟨e1,e2⟩:=qb5a e;have hlt:i < xs.length:=(List.getElem?_eq_some_iff.mp e1).1;exact hs i x ρ acc _ e1 p fun ρ' acc' p'=>ih (i + 1) hlt e2 ρ' acc' p'
 exact key xs 0 (zero_le _) 'e' ρ [] h0
end
end L2
section
namespace L2
open PySem PySem.Spec PyProof.Rows
def later(u:TDS)(D:DEnds)(ρ:Rho):Prop:=u D ρ
def qc0o{u:TDS}{D:DEnds}{ρ:Rho}(h:u D ρ):later u D ρ:=h
section
variable{t u b:TDS}{c tt:TDT}{D:DEnds}{ρ ρi:Rho}{i j n:Nat}{da db dc de te:TDE}{df:TDF}{daa:TDA}{f f':F2}{fl:F2L}{fc:FC}{fcl:FCL}{T:String}{dg g:TDG}{dgs:TDGs}{di:TDI}{x:PyData}{y:DV}{xs:List PyData}{ys:List DV}{fs:List Bool}{sp:DSp}
 {Q:DV->Rho->Prop} {QF:List PyData->Rho->Prop} {QB:Bool->Rho->Prop} {QA:List DV->Rho->Prop} {QR:RV->Rho->Prop} {QD:PyData->Rho->Prop} {N:Rho->Prop} {QL:L->Rho->Prop} {QLs:List L->Rho->Prop}
theorem dSeq_a:dSeq t u D ρ=t { D with nx:=later u D } ρ:=rfl
theorem dNext_a:dNext D ρ=D.nx ρ:=rfl
theorem dIf_a:dIf c t u D ρ=c ρ fun b ρ1=>if b=true then t D ρ1 else u D ρ1:=rfl
theorem dDrop_a:dDrop de D ρ=de ρ fun _ ρ1=>D.nx ρ1:=rfl
theorem dRet_a:dRet de D ρ=de ρ fun x ρ1=>fz ρ1 x fun y ρ2=>D.rt (.d y) ρ2:=rfl
theorem dRetF_a:dRetF df D ρ=df ρ fun xs ρ1=>D.rt (.new xs) ρ1:=rfl
noncomputable def ownAtJ:Option L->Option (List PyData)
 | some (.own xs)=>some xs
 | _=>none
theorem qc6f:ownAtJ (some (.own xs))=some xs:=rfl
theorem dSet_a:dSet i de D ρ=de ρ fun x ρ1=>fz ρ1 x fun y ρ2=>i < ρ2.length/\D.nx (ρ2.set i (some (.d y))):=rfl
theorem dSetF_a:dSetF i df D ρ=df ρ fun xs ρ1=>i < ρ1.length/\D.nx (ρ1.set i (some (.own xs))):=rfl
theorem dAsg_a:dAsg de dg D ρ=de ρ fun x ρ1=>fz ρ1 x fun y ρ2=>dg y ρ2 D.nx:=rfl
theorem dFor_a:dFor di dg b D ρ=di ρ fun xs ρ1=>qa4u dg b D xs ρ1:=rfl
theorem dVar_a:dVar i ρ Q=((ρ[i]?.join).isSome=true/\Q (.sl i) ρ):=rfl
theorem dC_a:dC x ρ Q=Q (.d x) ρ:=rfl
theorem dOp_a:dOp f da db ρ Q=da ρ fun x ρ1=>db ρ1 fun y ρ2=>need (qa0i ρ2 x) fun dx=>need (qa0i ρ2 y) fun dy=>need (f dx dy) fun z=>Q (.d z) ρ2:=rfl
theorem dOpF_a:dOpF fl da db ρ QF=da ρ fun x ρ1=>db ρ1 fun y ρ2=>need (qa0i ρ2 x) fun dx=>need (qa0i ρ2 y) fun dy=>need (fl dx dy) fun z=>QF z ρ2:=rfl
theorem dCB_a:dCB fc daa ρ Q=daa ρ fun xs ρ1=>need (qa1b ρ1 xs) fun ds=>need (fc ds) fun z=>Q (.d z) ρ1:=rfl
theorem dCBF_a:dCBF fcl daa ρ QF=daa ρ fun xs ρ1=>need (qa1b ρ1 xs) fun ds=>need (fcl ds) fun z=>QF z ρ1:=rfl
theorem dTup_a:dTup daa ρ Q=daa ρ fun xs ρ1=>fzs ρ1 xs fun ys ρ2=>ys.length <= 1000000/\Q (.d (.tuple ys)) ρ2:=rfl
theorem dLst_a:dLst daa ρ QF=daa ρ fun xs ρ1=>fzs ρ1 xs fun ys ρ2=>ys.length <= 1000000/\QF ys ρ2:=rfl
theorem dFz_a:dFz df ρ Q=df ρ fun xs ρ1=>Q (.d (.list xs)) ρ1:=rfl
theorem dNil_a:dNil ρ QA=QA [] ρ:=rfl
theorem dCons_a:dCons de daa ρ QA=de ρ fun x ρ1=>daa ρ1 fun xs ρ2=>QA (x :: xs) ρ2:=rfl
theorem dB_a:dB de ρ QB=de ρ fun x ρ1=>need (qa0i ρ1 x) fun d=>need (asB d) fun b=>QB b ρ1:=rfl
theorem dTru_a:dTru de ρ QB=de ρ fun x ρ1=>need (qa0i ρ1 x) fun d=>need (tru d) fun b=>QB b ρ1:=rfl
theorem dAnd_a{v w:TDT}:dAnd v w ρ QB=v ρ fun b ρ1=>if b=true then w ρ1 QB else QB false ρ1:=rfl
theorem dOr_a{v w:TDT}:dOr v w ρ QB=v ρ fun b ρ1=>if b=true then QB true ρ1 else w ρ1 QB:=rfl
theorem dNot_a{v:TDT}:dNot v ρ QB=v ρ fun b ρ1=>QB (!b) ρ1:=rfl
theorem dIfE_a:dIfE c da db ρ Q=c ρ fun k ρ1=>if k=true then da ρ1 Q else db ρ1 Q:=rfl
theorem dAndV_a:dAndV da db ρ Q=da ρ fun x ρ1=>need (qa0i ρ1 x) fun d=>need (asB d) fun k=>if k=true then db ρ1 Q else Q (.d (.bool false)) ρ1:=rfl
theorem dOrV_a:dOrV da db ρ Q=da ρ fun x ρ1=>need (qa0i ρ1 x) fun d=>need (asB d) fun k=>if k=true then Q (.d (.bool true)) ρ1 else db ρ1 Q:=rfl
theorem dNotV_a:dNotV da ρ Q=da ρ fun x ρ1=>need (qa0i ρ1 x) fun d=>need (asB d) fun k=>Q (.d (.bool (!k))) ρ1:=rfl
theorem qc6g:qb3d f f' da db dc ρ Q=da ρ fun x ρ1=>db ρ1 fun y ρ2=>need (qa0i ρ2 x) fun dx=>need (qa0i ρ2 y) fun dy=>need (f dx dy) fun z=>need (asB z) fun k =>
 if k=true then dc ρ2 fun w ρ3=>need (qa0i ρ3 y) fun dy=>need (qa0i ρ3 w) fun dw=>need (f' dy dw) fun z'=>Q (.d z') ρ3 else Q (.d (.bool false)) ρ2:=rfl
theorem dIs_a:dIs T de ρ Q=de ρ fun x ρ1=>need (qa0i ρ1 x) fun d=>Q (.d (.bool (isD T d))) ρ1:=rfl
noncomputable def qa4v:Option L->Option (OK × List PyData)
 | some (.own xs)=>some (.o,xs)
 | some (.bor xs)=>some (.b,xs)
 | _=>none
theorem ownB_j:ownB ρ i=qa4v (ρ[i]?.join):=rfl
theorem ownBJ_o:qa4v (some (.own xs))=some (.o,xs):=rfl
theorem ownBJ_b:qa4v (some (.bor xs))=some (.b,xs):=rfl
theorem okL_o:okL .o xs=.own xs:=rfl
theorem okL_b:okL .b xs=.bor xs:=rfl
theorem qc4d:dAppend i de ρ Q=need (qa4v (ρ[i]?.join)) fun _=>de ρ fun x ρ1=>fz ρ1 x fun y ρ2=>need (qa4v (ρ2[i]?.join)) fun o=>o.2.length <= 1000000/\Q (.d .none) (ρ2.set i (some (okL o.1 (o.2 ++ [y])))):=rfl
theorem dPop_a:dPop i ρ Q=need (qa4v (ρ[i]?.join)) fun o=>need o.2.getLast? fun y=>Q (.d y) (ρ.set i (some (okL o.1 o.2.dropLast))):=rfl
theorem qc6h:qb6v i di' de D ρ=de ρ fun x ρ1=>fz ρ1 x fun y ρ2=>need (qa4v (ρ2[i]?.join)) fun _=>di' ρ2 fun z ρ3=>need (qa0i ρ3 z) fun dz=>need (qb6v.asI dz) fun n=>need (qa4v (ρ3[i]?.join)) fun o=>need (ixN o.2.length n) fun j=>D.nx (ρ3.set i (some (okL o.1 (o.2.set j y)))):=rfl
theorem asI2_i{n:Int}:qb6v.asI (.int n)=some n:=rfl
theorem asI_i{n:Int}:asI (.int n)=some n:=rfl
theorem qc6i:qb6t i x ρ N=(i < ρ.length/\N (ρ.set i (some (.d x)))):=rfl
theorem dgTup_a:dgTup n dgs (.tuple xs) ρ N=(xs.length=n/\dgs xs ρ N):=rfl
theorem qc6j:qb6u dg dgs (x :: xs) ρ N=dg x ρ fun ρ1=>dgs xs ρ1 N:=rfl
def dgNil_a:dgNil [] ρ N=N ρ:=by unfold dgNil;simp
theorem diDat_a:diDat de ρ QF=de ρ fun x ρ1=>fz ρ1 x fun y ρ2=>need (seqD y) fun xs=>QF xs ρ2:=rfl
theorem qc6k:qb6x de ρ QF=de ρ fun x ρ1=>need (qa0i ρ1 x) fun d=>need (asI d) fun j=>sm62 j/\QF (rngD 0 j.toNat) ρ1:=rfl
theorem qc6l:qb7b fs sp daa ρ Q=daa ρ fun xs ρ1=>pass fs xs ρ1 fun ls ρ2=>((flOf 0 fs xs).map (·.2)).Nodup/\sp ls fun r outs=>match r with
 | .d x=>Q (.d x) (fills outs (flOf 0 fs xs) ρ2)
 | .new ys=>Q (.d (.list ys)) (fills outs (flOf 0 fs xs) ρ2):=rfl
theorem pass_n:pass [] [] ρ QLs=QLs [] ρ:=rfl
def pass_f:pass (false :: fs) (y :: ys) ρ QLs=fzL ρ y fun l ρ1=>pass fs ys ρ1 fun ls ρ2=>QLs (l :: ls) ρ2:=by cases y<;>rfl
noncomputable def ioJ:Option L->Option L
 | some l=>if isOw l then some (lend l) else none
 | none=>none
theorem pass_t:pass (true :: fs) (.sl i :: ys) ρ QLs=pass fs ys ρ fun ls ρ2=>need (ioJ (ρ2[i]?.join)) fun l=>QLs (l :: ls) ρ2:=rfl
theorem ioJ_o:ioJ (some (.own xs))=some (.bor xs):=rfl
theorem ioJ_b:ioJ (some (.bor xs))=some (.bor xs):=rfl
theorem ioJ_t:ioJ (some (.tape n))=some (.tape n):=rfl
def fzJ(l:Option L)(ρ:Rho)(i:Nat)(Q:PyData->Rho->Prop):Prop:=match l with
 | some (.d y)=>Q y ρ
 | some (.own xs)=>Q (.list xs) (ρ.set i (some (.d (.list xs))))
 | _=>False
theorem fz_d:fz ρ (.d x) QD=QD x ρ:=rfl
theorem fz_sl:fz ρ (.sl i) QD=fzJ (ρ[i]?.join) ρ i QD:=rfl
theorem fzJ_d:fzJ (some (.d x)) ρ i QD=QD x ρ:=rfl
theorem fzJ_o:fzJ (some (.own xs)) ρ i QD=QD (.list xs) (ρ.set i (some (.d (.list xs)))):=rfl
def fzLJ(l:Option L)(ρ:Rho)(i:Nat)(Q:L->Rho->Prop):Prop:=match l with
 | some (.d y)=>Q (.d y) ρ
 | some (.own xs)=>Q (.d (.list xs)) (ρ.set i (some (.d (.list xs))))
 | some .scr=>Q .scr ρ
 | _=>False
theorem fzL_d:fzL ρ (.d x) QL=QL (.d x) ρ:=rfl
theorem fzL_sl:fzL ρ (.sl i) QL=fzLJ (ρ[i]?.join) ρ i QL:=rfl
theorem fzLJ_d:fzLJ (some (.d x)) ρ i QL=QL (.d x) ρ:=rfl
theorem fzLJ_o:fzLJ (some (.own xs)) ρ i QL=QL (.d (.list xs)) (ρ.set i (some (.d (.list xs)))):=rfl
theorem fzLJ_s:fzLJ (some .scr) ρ i QL=QL .scr ρ:=rfl
theorem fzs_n:fzs ρ [] QF=QF [] ρ:=rfl
theorem fzs_c:fzs ρ (y :: ys) QF=fz ρ y fun z ρ1=>fzs ρ1 ys fun zs ρ2=>QF (z :: zs) ρ2:=rfl
def flOf_n:flOf n [] ys=[]:=by cases ys<;>rfl
def flOf_f:flOf n (false :: fs) (y :: ys)=flOf (n + 1) fs ys:=by cases y<;>rfl
theorem flOf_t:flOf n (true :: fs) (.sl i :: ys)=(n,i) :: flOf (n + 1) fs ys:=rfl
noncomputable def qa7z(l:Option L)(ρi:Rho)(j i:Nat)(ρ:Rho):Rho:=match l with
 | some l0=>if isOw l0 then ρ.set i (qa5n ρi l0 j) else ρ
 | none=>ρ
theorem fills_n:fills ρi [] ρ=ρ:=rfl
theorem fills_c{r:List (Nat × Nat)}:fills ρi ((j,i) :: r) ρ=fills ρi r (qa7z (ρ[i]?.join) ρi j i ρ):=rfl
theorem qc6m:qa7z (some (.own xs)) ρi j i ρ=ρ.set i ((ρi[j]?.join).bind (qa7a (.own xs))):=rfl
theorem qc6n:qa7z (some (.bor xs)) ρi j i ρ=ρ.set i ((ρi[j]?.join).bind (qa7a (.bor xs))):=rfl
theorem qc6o:qa7z (some (.tape n)) ρi j i ρ=ρ.set i ((ρi[j]?.join).bind (qa7a (.tape n))):=rfl
theorem qc6p:qa7z (some (.d x)) ρi j i ρ=ρ:=rfl
theorem qc6q:qa7z (some .scr) ρi j i ρ=ρ:=rfl
theorem qc6r:qa7z none ρi j i ρ=ρ:=rfl
theorem relab_o:qa7a (.own xs) (.bor x')=some (.own x'):=rfl
theorem relab_b:qa7a (.bor xs) (.bor x')=some (.bor x'):=rfl
theorem relab_t{m:Nat}:qa7a (.tape n) (.tape m)=some (.tape m):=rfl
theorem lend_o:lend (.own xs)=.bor xs:=rfl
theorem lend_b:lend (.bor xs)=.bor xs:=rfl
theorem lend_t:lend (.tape n)=.tape n:=rfl
theorem lend_d:lend (.d x)=.d x:=rfl
theorem lend_s:lend .scr=.scr:=rfl
theorem dComp_a{cap:List 'q'}:dComp n cap di g tt te ρ QF=di ρ fun xs ρ1=>xs.length <= 1000000/\(cap.map (·.2)).Nodup/\qa1q g tt te (fun acc ρ'=>QF acc (fills ρ' (flC n cap) ρ1)) xs (capR n cap ρ1) []:=rfl
theorem flC_n:flC n []=[]:=rfl
theorem flC_c{p:Str × Nat}{r:List 'q'}:flC n (p :: r)=(n,p.2) :: flC (n + 1) r:=rfl
theorem capR_a{cap:List 'q'}:capR n cap ρ=List.replicate n none ++ cap.map fun p=>(ρ[p.2]?.join).map lend:=rfl
theorem deref_d:qa0i ρ (.d x)=some x:=rfl
theorem qc6s:qa0i ρ (.sl i)=(ρ[i]?.join).bind qa9d:=rfl
theorem qc6t:qa9d (.d x)=some x:=rfl
theorem qc6u:qa9d (.own xs)=some (.list xs):=rfl
theorem qc6v:qa9d (.bor xs)=some (.list xs):=rfl
theorem qc6w:qa1b ρ []=some []:=rfl
theorem qc6x:qa1b ρ (y :: ys)=(qa0i ρ y).bind fun z=>(qa1b ρ ys).map (z :: ·):=rfl
theorem asB_b{b:Bool}:asB (.bool b)=some b:=rfl
theorem tru_b{b:Bool}:tru (.bool b)=some b:=rfl
theorem tru_n:tru .none=some false:=rfl
theorem tru_i{i:Int}:tru (.int i)=some (i != 0):=rfl
theorem tru_l:tru (.list xs)=some (!xs.isEmpty):=rfl
theorem tru_t:tru (.tuple xs)=some (!xs.isEmpty):=rfl
theorem seqD_l:seqD (.list xs)=some xs:=rfl
theorem seqD_t:seqD (.tuple xs)=some xs:=rfl
theorem mask_n:mask [] ρ=[]:=rfl
theorem mask_d{ls:List L}{l:Option L}:mask (.d x :: ls) (l :: ρ)=none :: mask ls ρ:=rfl
theorem mask_s{ls:List L}{l:Option L}:mask (.scr :: ls) (l :: ρ)=none :: mask ls ρ:=rfl
theorem mask_t{ls:List L}{l:Option L}:mask (.tape n :: ls) (l :: ρ)=l :: mask ls ρ:=rfl
theorem mask_b{ls:List L}{l:Option L}:mask (.bor xs :: ls) (l :: ρ)=l :: mask ls ρ:=rfl
end
end L2
namespace L2
open PySem
def qa1v{g:TDG}{tt:TDT}{te:TDE}{Q:List PyData->Rho->Prop}{xs:List PyData}{ρ:Rho}(Sh:Rho->Prop)(fm:PyData->Option PyData)(h0:Sh ρ)
  (hs:∀ (x:PyData) (ρ:Rho) (N:Rho->Option PyData->Prop),x ∈ xs->Sh ρ->(∀ ρ',Sh ρ'->N ρ' (fm x))->g x ρ fun ρ1=>tt ρ1 fun b ρ2=>if b=true then te ρ2 fun y ρ3=>fz ρ3 y fun z ρ4=>N ρ4 (some z) else N ρ2 none)
  (hd:∀ ρ,Sh ρ->Q (xs.filterMap fm) ρ):qa1q g tt te Q xs ρ []:=by
 have key:∀ (r:List PyData) (acc:List PyData) (ρ:Rho),(∀ x ∈ r,x ∈ xs)->Sh ρ->(∀ ρ,Sh ρ->Q (acc ++ r.filterMap fm) ρ)->qa1q g tt te Q r ρ acc:=fun r=>by
  induction r with
  | nil=>intro acc ρ _ h hq;have:=hq ρ h;show Q acc ρ;simpa using this
  | cons x r ih =>
   intro acc ρ hm h hq;have step:=hs x ρ (fun ρ' o=>match o with | some z=>qa1q g tt te Q r ρ' (acc ++ [z]) | none=>qa1q g tt te Q r ρ' acc) (hm x mem_cons_self) h fun ρ' h'=>?_
   ·exact step
   ·cases e:fm x with
    | none =>
     refine ih acc ρ' (fun y hy=>hm y (mem_cons_of_mem _ hy)) h' fun ρ2 h2=>?_;have:=hq ρ2 h2
     rwa [List.filterMap_cons_none e] at this
    | some z =>
     refine ih (acc ++ [z]) ρ' (fun y hy=>hm y (mem_cons_of_mem _ hy)) h' fun ρ2 h2=>?_;have:=hq ρ2 h2;rw [List.filterMap_cons_some e] at this;simpa using this
 exact key xs [] ρ (fun _ h=>h) h0 fun ρ h=>by simpa using hd ρ h
def qa1y{c A B:Prop}[Decidable c](h1:c->A)(h2:¬ c->B):if decide c=true then A else B:=by
 by_cases h:c
 ·rw [if_pos (decide_eq_true h)];exact h1 h
 ·rw [if_neg (by simpa using h)];exact h2 h
end L2
namespace L2
end L2
end
section
namespace L2
open PySem PySem.Spec PyProof.Rows
abbrev TDO:=Rho->(Option Int->Rho->Prop)->Prop
section
variable{K:W.Frag}{c:Rc}{O:Own}{ρ:Rho}{σ:St}{H H':Hp}{S S':Addr->Prop}
def AdO(K:W.Frag)(t:TO)(dt:TDO):Prop:=∀ (c:Rc) (O:Own) (ρ:Rho) (σ:St) (H:Hp) (Qd:Option Int->Rho->Prop) (Q:Option Int->Hp->Prop),Rel K c O ρ σ H->dt ρ Qd ->
 (∀ o ρ' O' H',Qd o ρ'->Rel K c O' ρ' σ H'->Pers K (live c O) H (live c O') H'->Q o H')->t σ H Q
noncomputable def qb7d:TDO:=fun ρ Q=>Q none ρ
def qb7e(de:TDE):TDO:=fun ρ Q=>de ρ fun x ρ1=>need (qa0i ρ1 x) fun d=>need (asI d) fun i=>Q (some i) ρ1
def ao_none:AdO K qb9x qb7d:=fun c O ρ σ H Qd Q R h k=>k _ _ _ _ h R .refl
def ao_some{t:TE}{de:TDE}(h:AdE K t de):AdO K (tPart t) (qb7e de):=fun c O ρ σ H Qd Q R q k =>
 h c O ρ σ H _ _ R q fun x ρ1 O1 v H1 h1 R1 P1 a1=>by
  obtain⟨d,e1,hn6⟩:=ne (h1);obtain⟨i,e2,h2⟩:=ne (hn6);exact⟨i,qb6w (R1.top a1 e1) e2,k _ _ _ _ h2 R1 P1⟩
noncomputable def cutD(xs:List PyData)(lo hi:Option Int):List PyData:=(xs.drop (HT.sIx xs.length 0 lo)).take (HT.sIx xs.length xs.length hi - HT.sIx xs.length 0 lo)
def qa0b.cut{ds:List PyData}{vs:List V}(h:qa0b K H S ds vs)(lo hi:Option Int):qa0b K H S (cutD ds lo hi) (cutV vs lo hi):=by
 unfold cutD cutV;rw [h.length];exact(h.drop _).take _
abbrev FSl:=PyData->Option Int->Option Int->Option PyData
def dSl(f:FSl)(de:TDE)(dl dh:TDO):TDE:=fun ρ Q=>de ρ fun x ρ1=>dl ρ1 fun lo ρ2=>dh ρ2 fun hi ρ3=>need (qa0i ρ3 x) fun d=>need (f d lo hi) fun z=>Q (.d z) ρ3
def AdSl(K:W.Frag)(r:V->Option Int->Option Int->Hp->VK->Prop)(f:FSl):Prop:=∀ (S:Addr->Prop) (H:Hp) (x:V) (d z:PyData) (lo hi:Option Int) (Q:VK),Frs S H->AtT K H S d x->f d lo hi=some z->(∀ v H',Same H H'->AtD K H' S z v->Q v H')->r x lo hi H Q
def ad_sl{r:V->Option Int->Option Int->Hp->VK->Prop}{f:FSl}{te:TE}{tl th:TO}{de:TDE}{dl dh:TDO}(hr:AdSl K r f)(he:AdE K te de)(hl:AdO K tl dl)(hh:AdO K th dh):AdE K (tSl r te tl th) (dSl f de dl dh):=by
 intro c O ρ σ H Qd Q R h k;refine he c O ρ σ H _ _ R h fun x ρ1 O1 v H1 h1 R1 P1 a1=>?_;refine hl c O1 ρ1 σ H1 _ _ R1 h1 fun lo ρ2 O2 H2 h2 R2 P2=>?_;refine hh c O2 ρ2 σ H2 _ _ R2 h2 fun hi ρ3 O3 H3 h3 R3 P3=>?_;obtain⟨d,e1,hn5⟩:=ne (h3);obtain⟨z,e2,h4⟩:=ne (hn5);refine hr (live c O3) H3 v d z lo hi Q R3.frsLive (R3.top ((a1.pers P2).pers P3) e1) e2 fun w H4 s4 a4=>?_;exact k _ _ _ _ _ h4 (R3.grow s4) (((P1.trans P2).trans P3).trans (.same s4)) a4
noncomputable def fTab(tab:List (Str × PyData)):PyData->Option PyData
 | .str x=>tab.lookup x
 | _=>none
def dTab(tab:List (Str × PyData))(de:TDE):TDE:=fun ρ Q=>de ρ fun x ρ1=>need (qa0i ρ1 x) fun d=>need (fTab tab d) fun z=>Q (.d z) ρ1
noncomputable def qa2z:List PyData->Option 'j'
 | []=>some []
 | .int i :: r=>(qa2z r).map (i :: ·)
 | _ :: _=>none
def ints_map:∀ {ds:List PyData} {ns:List Int},qa2z ds=some ns->ds=ns.map .int
 | [],ns,h=>by cases h;rfl
 | d :: r,ns,h=>by
  cases d with
  | int i =>
   have h':(qa2z r).map (i :: ·)=some ns:=h;cases q:qa2z r with
   | none=>rw [q] at h';cases h'
   | some ms=>rw [q] at h';cases h';rw [ints_map q];rfl
  | _=>cases h
def ints_of(ns:List Int):qa2z (ns.map .int)=some ns:=by
 induction ns with
 | nil=>rfl
 | cons n r ih=>show(qa2z (r.map .int)).map (n :: ·)=_;rw [ih];rfl
def diRev(de:TDE):TDI:=fun ρ Q=>de ρ fun x ρ1=>need (qa0i ρ1 x) fun d=>need (asT d) fun xs=>Q xs.reverse ρ1
 where asT:PyData->Option (List PyData)
  | .tuple xs=>some xs
  | _=>none
noncomputable def downD(hi:Int)(n:Nat):List PyData:=(List.range n).map fun i=>.int (hi - (i:Nat))
def sm60(i:Int):Prop:=-(2 ^ 60) <= i/\i < 2 ^ 60
def diDown(da:TDA):TDI:=fun ρ Q=>da ρ fun xs ρ1=>need (qa1b ρ1 xs) fun ds=>need (three ds) fun p=>(sm60 p.1/\sm60 p.2)/\Q (downD p.1 (p.1 - p.2).toNat) ρ1
 where three:List PyData->Option (Int × Int)
  | [.int i,.int j,.int (-1)]=>some (i,j)
  | _=>none
def atV_int{i:Int}:AtV K S σ H (.d (.int i)) (.int i):=(qa2r i:AtD K H S (.int i) (.int i))
def dNeg(de:TDE):TDE:=fun ρ Q=>de ρ fun x ρ1=>need (qa0i ρ1 x) fun d=>need (asI d) fun i=>Q (.d (.int (-i))) ρ1
def ad_neg{t:TE}{de:TDE}(h:AdE K t de):AdE K (tUn (rU fun i=>.int (-i)) t) (dNeg de):=fun c O ρ σ H Qd Q R q k =>
 h c O ρ σ H _ _ R q fun x ρ1 O1 v H1 h1 R1 P1 a1=>by
  obtain⟨d,e1,hn1⟩:=ne (h1);obtain⟨i,e2,h2⟩:=ne (hn1);exact⟨i,qb6w (R1.top a1 e1) e2,k _ _ _ _ _ h2 R1 P1 atV_int⟩
end
section
variable{X:Cx}{e a b:Expr}{de da db:TDE}{lo hi:Option Expr}{dl dh:TDO}{tg:Expr}{pos p2:Pos}
def DO(X:Cx)(e:Option Expr)(dt:TDO):Prop:=∃ t,PO X e t/\AdO X.K t dt
def qa4k:DO X none qb7d:=⟨_,po_none,ao_none⟩
def qa4l(h:DE X e de):DO X (some e) (qb7e de):=by obtain⟨_,p,a⟩:=h;exact⟨_,po_some p,ao_some a⟩
def qa3p{r:V->Option Int->Option Int->Hp->VK->Prop}{f:FSl}(hr:SlR X r)(ha:AdSl X.K r f)(he:DE X e de)(hl:DO X lo dl)(hu:DO X hi dh):DE X (.Subscript e (.Slice lo hi none p2) pos) (dSl f de dl dh):=
 by obtain⟨_,p,a⟩:=he;obtain⟨_,p',a'⟩:=hl;obtain⟨_,p3,a3⟩:=hu;exact⟨_,qc5h hr p p' p3,ad_sl ha a a' a3⟩
def qb7f(h:DE X a da):DE X (.UnaryOp .USub a pos) (dNeg da):=by obtain⟨_,p,a⟩:=h;exact⟨_,pe_un un_neg p,ad_neg a⟩
end
section
variable{ρ:Rho}{de:TDE}{daa:TDA}{dl dh:TDO}{f:FSl}{tab:List (Str × PyData)}{Q:DV->Rho->Prop}{QF:List PyData->Rho->Prop}{QO:Option Int->Rho->Prop}{xs:List PyData}{x:Str}{i j:Int}
theorem dSl_a:dSl f de dl dh ρ Q=de ρ fun x ρ1=>dl ρ1 fun lo ρ2=>dh ρ2 fun hi ρ3=>need (qa0i ρ3 x) fun d=>need (f d lo hi) fun z=>Q (.d z) ρ3:=rfl
theorem qc6y:qb7d ρ QO=QO none ρ:=rfl
theorem qc6z:qb7e de ρ QO=de ρ fun x ρ1=>need (qa0i ρ1 x) fun d=>need (asI d) fun i=>QO (some i) ρ1:=rfl
theorem dTab_a:dTab tab de ρ Q=de ρ fun x ρ1=>need (qa0i ρ1 x) fun d=>need (fTab tab d) fun z=>Q (.d z) ρ1:=rfl
theorem fTab_s:fTab tab (.str x)=tab.lookup x:=rfl
theorem diRev_a:diRev de ρ QF=de ρ fun x ρ1=>need (qa0i ρ1 x) fun d=>need (diRev.asT d) fun xs=>QF xs.reverse ρ1:=rfl
theorem asT_t:diRev.asT (.tuple xs)=some xs:=rfl
theorem three_a:diDown.three [.int i,.int j,.int (-1)]=some (i,j):=rfl
theorem dNeg_a:dNeg de ρ Q=de ρ fun x ρ1=>need (qa0i ρ1 x) fun d=>need (asI d) fun i=>Q (.d (.int (-i))) ρ1:=rfl
end
end L2
namespace L2
open PySem
end L2
end
section
namespace L2
open PySem PySem.Spec PyProof.Rows
section
variable{α:Type}{a b c d e:α}{l:List α}{x y:Str}{i j:Int}{r:List PyData}
def atI_0:atI (a :: l) 0=some a:=qa7o (j:=0) rfl
def atI_1:atI (a :: b :: l) 1=some b:=qa7o (j:=1) rfl
def atI_2:atI (a :: b :: c :: l) 2=some c:=qa7o (j:=2) rfl
def atI_3:atI (a :: b :: c :: d :: l) 3=some d:=qa7o (j:=3) rfl
def atI_4:atI (a :: b :: c :: d :: e :: l) 4=some e:=qa7o (j:=4) rfl
theorem flatD_s:qa1g (.str x)=true:=rfl
theorem flatD_i:qa1g (.int i)=true:=rfl
theorem inF_nil{z:PyData}:inF z []=false:=rfl
def inF_s:inF (.str x) (.str y :: r)=(decide (y=x) || inF (.str x) r):=by
 show((y == x) || inF (.str x) r)=_;congr 1
def inF_i:inF (.int i) (.int j :: r)=(decide (j=i) || inF (.int i) r):=by
 show((j == i) || inF (.int i) r)=_;congr 1
end
end L2
namespace L2
open PySem PySem.Spec PyProof.Rows
def spLaw(K:W.Frag):Sp:=fun vs H Q _=>∃ (a:Addr) (ns:List Int),vs=[.ref a]/\SqL K H a (ns.map V.int)/\Only H/\ns.length <= 63/\∀ H',Q (.bl true) H'
section
variable{P:Program}{w:World}{K:W.Frag}{mg:Str->Option Value}{base:Heap}
def rel_law{H:Hp}{a p:Addr}{ns:List Int}{n:Nat}(hO:Only H)(hS:SqL K H a (ns.map V.int))(hl:ns.length <= 63)(hp:H p=none) :
  Rel K { H0:=upd H p (.lst [.ref a,.int 0]),S:=fun b=>b ≠ p,P:=fun _=>False,M:=fun b=>b=p,A:=fun b=>b=p ∨ upd H p (.lst [.ref a,.int 0]) b=none,B:=fun b=>b=p,lent:=fun i=>if i=1 then some p else none,sa:=a,ns:=ns }
   (fun i=>if i=1 then some p else none) (some .scr :: some (.tape 0) :: List.replicate n none) (some (.ref a) :: some (.ref p) :: List.replicate n none) (upd H p (.lst [.ref a,.int 0])):=by
 have at_:∀ {i:Nat} {l:L},(some L.scr :: some (L.tape 0) :: List.replicate n none:Rho)[i]? = some (some l)->(i=0/\l=.scr) ∨ (i=1/\l=.tape 0):=fun{i l} e=>by
  match i,e with
  | 0,e=>cases e;exact .inl ⟨rfl,rfl⟩
  | 1,e=>cases e;exact .inr ⟨rfl,rfl⟩
  | i + 2,e =>
   rw [List.getElem?_cons_succ,List.getElem?_cons_succ,List.getElem?_replicate] at e;split at e<;>cases e
 have own:∀ {i:Nat} {q:Addr},(if i=1 then some p else none)=some q->i=1/\q=p:=fun{i q} e=>by
  split at e
  ·cases e;exact⟨by assumption,rfl⟩
  ·cases e
 have sc:Scr K H a (ns.map V.int):=by
  refine⟨by simpa using hl,?_⟩;rcases hS with(h | h) | h
  ·rcases hO a with z | ⟨o,xs,z⟩<;>rw [h] at z<;>cases z
  ·exact .inl h
  ·exact .inr h
 refine⟨fun i x e=>?_,fun i x e=>?_,fun i x e=>?_,fun i k e=>?_,fun i e=>?_,fun i j q e1 e2=>?_,fun i q e=>?_,fun q h=>?_,fun q h=>?_,fun b o _ h=>h,fun b h=>h,fun q h=>?_,fun q h=>?_,fun i q e l h1 h2=>e,sc.keep (S:=Any) (qa0y hp _).keep,by simp⟩
 ·rcases at_ e with⟨_,z⟩ | ⟨_,z⟩<;>cases z
 ·rcases at_ e with⟨_,z⟩ | ⟨_,z⟩<;>cases z
 ·rcases at_ e with⟨_,z⟩ | ⟨_,z⟩<;>cases z
 ·rcases at_ e with⟨_,z⟩ | ⟨rfl,z⟩
  ·cases z
  ·cases z;exact⟨p,if_pos rfl,rfl,qa0n⟩
 ·rcases at_ e with⟨rfl,_⟩ | ⟨_,z⟩
  ·rfl
  ·cases z
 ·rw [(own e1).1,(own e2).1]
 ·rw [(own e).2];exact⟨.inl rfl,_,qa0n⟩
 ·rcases h with h | h
  ·exact .inl h
  ·exact .inr h
 ·rintro rfl
  have h':upd H q (.lst [.ref a,.int 0]) q=none:=h;rw [qa0n] at h';cases h'
 ·have h':q=p:=h
  subst h';exact⟨_,qa0n⟩
 ·rcases h with h | h
  ·exact h.elim
  ·have h':q=p:=h
   subst h';rw [qa0n];exact fun z=>nomatch z
def Fun.law{st:Stmt}{f:Addr}{fd:FuncData}{N':List Str}{k:Nat} (F:Fun K "law" "law" st f fd) (S:FnScope ("_law_script" :: "_law_tape" :: N') ["_law_script"] (qa0h st))
  (hbody:∀ (cdv:Value) (A:Around) (outer:List Env) (s:Shared) (H:Hp) (E:XK),Room k (A.deeper (envOfC "law" (qa0h st) s.heap.objs.size f cdv)) ->
   ∃ (st0:Stmt) (rest:List Stmt),qa3v st=st0 :: rest/\PS (cxOf CX0 P w K mg base ("_law_script" :: "_law_tape" :: N') "law" (qa0h st) f cdv A outer s H E).nox st0 (tAsg (tLst (qa8e (tVar 0) (qa8e (tC (.int 0)) tNil))) (qa9n 1)) /\
    ∃ dt,DSs (cxOf CX0 P w K mg base ("_law_script" :: "_law_tape" :: N') "law" (qa0h st) f cdv A outer s H E).nox rest dt/\dt { nx:=fun _=>False,rt:=fun r _=>r=.d (.bool true) } (some .scr :: some (.tape 0) :: List.replicate N'.length none)) :
  FnOk P w K mg base CX0 (k + 1) f fd ["_law_script"] (spLaw K):=by
 refine F.ok S (fun vs H Q E h=>?_) (fun cdv A outer s H vs Q E hr h=>?_)
 ·obtain⟨a,ns,rfl,_⟩:=h;rfl
 obtain⟨a,ns,rfl,hS,hO,hl,q⟩:=h;obtain⟨st0,rest,eb,p0,dt,⟨t,pt,at_⟩,hd⟩:=hbody cdv A outer s H E hr;rw [eb];refine⟨_,qa3k p0 pt,⟨.ref a,rfl,by show 2 <= sizeLine;decide,fun p hp=>?_⟩⟩;have e:(start ("_law_script" :: "_law_tape" :: N') [.ref a]).set 1 (some (.ref p))=some (.ref a) :: some (.ref p) :: List.replicate N'.length none:=by
  unfold start;simp [List.replicate_succ]
 show t _ ((start ("_law_script" :: "_law_tape" :: N') [.ref a]).set 1 (some (.ref p))) (upd H p (.lst [.ref a,.int 0]));rw [e];refine at_ _ _ _ _ _ _ _ (rel_law hO hS hl hp) ⟨fun _ _ _ _ _ _ z=>(show False from z).elim,fun r O1 ρ1 σ1 H1 v h z=>?_,fun _ _ _ _ _ _ z=>(show False from z).elim,fun _ _ _ _ _ _ z=>(show False from z).elim,fun _ z=>z,fun _ z=>.inr z⟩ hd;have z':r=.d (.bool true):=z;subst z';have ev:=qa7p h.2;subst ev;exact q H1
end
end L2
end
namespace L2
open PySem PySem.Spec PyProof.Rows
section
section
variable{P:Program}{w:World}{K:W.Frag}{mg:Str->Option Value}{base:Heap}
def sp_none{n:Nat}{f:Addr}{fd:FuncData}{ps:List Str}{ds:DSp}(h:∀ ls Q,¬ ds ls Q):FnOk P w K mg base CX0 n f fd ps (spD K ds):=by
 have no:∀ vs H Q E,¬ spD K ds vs H Q E:=fun vs H Q E z=>by
  obtain⟨c,O,ls,Qd,_,_,_,_,_,_,z,_⟩:=z;exact h _ _ z
 exact⟨fun vs H Q E h=>absurd h (no vs H Q E),fun A outer s H args us vs Q E _ _ _ _ h=>absurd h (no vs H Q E)⟩
end
end
section
def ItX(b:Bool)(h:Heap)(it a:Addr)(k:Nat):Prop:=match b with | true=>h.IsListIter it a k | false=>h.IsTupleIter it a k
def SqX(b:Bool)(h:Heap)(a:Addr)(xs:Array Value):Prop:=match b with | true=>h.IsList a xs | false=>h.IsTuple a xs
section
variable{X:Cx}{pins:List 'b'}{σ:List (Option V)}{H H':Hp}{s:Shared}{h':Heap}
def SqB(b:Bool)(K:W.Frag)(H:Hp)(a:Addr)(xs:List V):Prop:=match b with | true=>SqL K H a xs | false=>SqT K H a xs
end
def ZSt(b:Bool)(z TI TO i1 i2 a1 a2:Addr)(i:Nat)(h:Heap):Prop:=IsZip h z TI TO .none/\IsPair h TI (.ref i1) (.ref i2)/\(∃ p q,IsPair h TO p q)/\ItX b h i1 a1 i/\ItX b h i2 a2 i
end
section
section
variable{K:W.Frag}{S:Addr->Prop}{H:Hp}
def SqS(b:Bool)(K:W.Frag)(S:Addr->Prop)(H:Hp)(a:Addr)(vs:List V):Prop:=match b with | true=>S a/\H a=some (.lst vs) | false=>SqT K H a vs
end
end
section
section
variable{K:W.Frag}
def dIs2(T U:String)(de:TDE):TDE:=fun ρ Q=>de ρ fun x ρ1=>need (qa0i ρ1 x) fun d=>Q (.d (.bool (isD T d || isD U d))) ρ1
end
theorem dIs2_a{T U:String}{de:TDE}{ρ:Rho}{Q:DV->Rho->Prop}:dIs2 T U de ρ Q=de ρ fun x ρ1=>need (qa0i ρ1 x) fun d=>Q (.d (.bool (isD T d || isD U d))) ρ1:=rfl
end
section
section
variable{K:W.Frag}{c:Rc}{O:Own}{ρ:Rho}{σ:St}{H H':Hp}
def qa0b.same{S:Addr->Prop}{ds:List PyData}{vs:List V}(e:Same H H')(h:qa0b K H S ds vs):qa0b K H' S ds vs:=qa0b.mono e.keep ds vs h
end
end
section
section
variable{K:W.Frag}{S:Addr->Prop}{H:Hp}
noncomputable def enumD(xs:List PyData):List PyData:=xs.zipIdx.map fun p=>.tuple [.int (p.2:Int),p.1]
def diEnum(de:TDE):TDI:=fun ρ Q=>de ρ fun x ρ1=>fz ρ1 x fun y ρ2=>need (match y with | .list xs=>some xs | _=>none) fun xs=>Q (enumD xs) ρ2
end
theorem qc7a{de:TDE}{ρ:Rho}{Q:List PyData->Rho->Prop}:diEnum de ρ Q=de ρ fun x ρ1=>fz ρ1 x fun y ρ2=>need (match y with | .list xs=>some xs | _=>none) fun xs=>Q (enumD xs) ρ2:=rfl
end
section
section
variable{κ:Type}[DecidableEq κ]
noncomputable def valV(kvs:List (κ × V))(k:κ):Option V:=(kvs.find? fun kv=>decide (kv.1=k)).map (·.2)
noncomputable def putK(kvs:List (κ × V))(k:κ)(v:V):List (κ × V):=
 if (kvs.any fun kv=>decide (kv.1=k))=true then kvs.map (fun kv=>if kv.1=k then(kv.1,v) else kv) else kvs ++ [(k,v)]
noncomputable def dropK(kvs:List (κ × V))(k:κ):List (κ × V):=kvs.filter fun kv=>decide (kv.1 ≠ k)
end
abbrev KT(H:Hp):List (List Key × V)->List (List Key × Addr × Value)->Prop:=Paired fun p q=>p.1=q.1/\H q.2.1=some (.tup (p.1.map kV))/\RelV p.2 q.2.2
def DGet(H:Hp)(a:Addr)(y:V)(r:Option V):Prop:=
 (∃ kvs k,Rd H a (.dK kvs)/\y=kV k/\r=valV kvs k) ∨ ∃ kvs k b,Rd H a (.dT kvs)/\y=.ref b/\H b=some (.tup (k.map kV))/\r=valV kvs k
def DPut(H:Hp)(a:Addr)(y v:V)(H':Hp):Prop:=
 (∃ kvs k,H a=some (.dK kvs)/\y=kV k/\kvs.length < sizeLine/\H'=upd H a (.dK (putK kvs k v))) ∨
 ∃ kvs k b,H a=some (.dT kvs)/\y=.ref b/\H b=some (.tup (k.map kV))/\kvs.length < sizeLine/\H'=upd H a (.dT (putK kvs k v))
section
variable{X:Cx}{pins:List 'b'}{σ:St}{H:Hp}{s:Shared}{a:Addr}{y v:V}{u r:Value}{o:Option V}{A:Around}{E:Value->Shared->Prop}
def Inv.big(I:Inv X pins σ H s):sysModules < s.heap.objs.size:=by
 have h:mainGlobals < s.heap.objs.size:=(I.mod.glob.keeps I.bk).lt;exact Nat.lt_trans 'd' h
end
def qc7b{P:Program}{w:World}{H:Hp}(h:Heap)(hb:sysModules < h.objs.size):qa2x P w H (h.push { cls:=.type "dict",data:=.dict #[] }) h.objs.size (.dK []):=
 ⟨zero_le _,beq_eq_false_iff_ne.mpr (Ne.symm (ne_of_lt hb)),[],.nil,Heap.DictOf.new h⟩
def tDNewK:TE:=fun _ H Q=>∀ p,H p=none->Q (.ref p) (upd H p (.dK []))
section
variable{X:Cx}{pos:Pos}
def qc7c:PE X (.Dict [] [] pos) tDNewK:=fun pins s σ H Q I h =>
 wpAny_Dict_empty ⟨.ref s.heap.objs.size,_,I.laid (a:=s.heap.objs.size) (o:=.dK []) (t':=s.toks) (fun _ _ q=>get?_push_of_some _ q) 'c' (qc7b s.heap I.big),rfl,h _ (I.hok.fresh 'c')⟩
end
end
section
noncomputable def Rc.reb(c:Rc)(O:Own)(p:Addr)(H:Hp):Rc:={ c with H0:=H,P:=fun a=>c.P a ∨ a=p,M:=fun a=>∃ j,O j=some a,A:=fun a=>∃ j,O j=some a }
structure Pin(K:W.Frag)(c:Rc)(p:Addr)(ν:List (Str × Int))(i:Nat)(O:Own)(ρ:Rho)(σ:St)(H:Hp):Prop where
 rel:Rel K (c.reb O p H) O ρ σ H
 at_:H p=some (.dK (ν.map kvE))
 slot:σ[i]? = some (some (.ref p))
 nul:ρ[i]? = some none
 bA:∀ j q,O j=some q->c.A q
 bS:∀ b o,¬ c.M b->c.H0 b=some o->H b=some o
 bK:∀ b,c.H0 b ≠ none->H b ≠ none
 bM:∀ q,c.M q->∃ vs,H q=some (.lst vs)
 am:∀ q,c.A q->c.M q ∨ c.H0 q=none
 frs:∀ q,c.H0 q=none->c.S q
 fr0:c.H0 p=none
 np:¬ c.P p
end
section
def NotSq(o:HO):Prop:=(∀ xs,o ≠ .lst xs)/\(∀ xs,o ≠ .tup xs)/\∀ a u,o ≠ .frz a u
structure PinG(K:W.Frag)(c:Rc)(p:Addr)(o:HO)(O:Own)(ρ:Rho)(σ:St)(H:Hp):Prop where
 rel:Rel K (c.reb O p H) O ρ σ H
 at_:H p=some o
 nsq:NotSq o
 bA:∀ j q,O j=some q->c.A q
 bS:∀ b o,¬ c.M b->c.H0 b=some o->H b=some o
 bK:∀ b,c.H0 b ≠ none->H b ≠ none
 bM:∀ q,c.M q->∃ vs,H q=some (.lst vs)
 am:∀ q,c.A q->c.M q ∨ c.H0 q=none
 frs:∀ q,c.H0 q=none->c.S q
 fr0:c.H0 p=none
 np:¬ c.P p
end
section
section
variable{X:Cx}
def qa6r:bootBuiltins "sorted" = some (.builtin "sorted"):=by decide +kernel
def strs_of_all{K:W.Frag}{H:Hp}{S:Addr->Prop}:∀ {ss:List Str} {xs:List V},qa0b K H S (ss.map .str) xs->xs=ss.map V.str
 | [],xs,h=>by rw [h.unnil];rfl
 | n :: r,xs,h=>by
  obtain⟨v,vr,rfl,hd,t⟩:=h.uncons;rw [qb0s hd,strs_of_all t];rfl
def qb3h:∀ {us:List Value} {ss:List Str},StrsAre us ss->Vals (ss.map V.str) us
 | _,_,.nil=>.nil
 | _,_,.cons _ _ h=>.cons ⟨_,rfl⟩ (qb3h h)
end
end
section
section
variable{X:Cx}
def qb0w:bootBuiltins "all" = some (.builtin "all"):=by decide +kernel
end
section
variable{K:W.Frag}{H:Hp}{S:Addr->Prop}
def qa9z:∀ {ss:List Str},qa0b K H S (ss.map .str) (ss.map V.str)
 | []=>by unfold qa0b;rfl
 | x :: r=>by
  show qa0b K H S (.str x :: r.map .str) (.str x :: r.map V.str);unfold qa0b;exact⟨_,_,rfl,qa4z _,qa9z⟩
end
end
section
section
variable{prog:Program}{w:World}{A:Around}{E:Value->Shared->Prop}{s:Shared}
def IsZ2(h:Heap)(z TI TO T:Addr)(b:Bool):Prop:=h.get? z=some { cls:=.type "zip",dict:=none,data:=.fields #[rawInt T,.bool b,.bool false,.ref TI,.ref TO],slots:=#[] }
def ZF(h:Heap)(z TI TO:Addr):Prop:=(IsZip h z TI TO .none/\∃ p q,IsPair h TO p q) ∨ ∃ T b o,IsZ2 h z TI TO T b/\h.get? T=some o
def ZW(h:Heap)(z TI TO i1 i2 l1 l2:Addr)(k:Nat):Prop:=ZF h z TI TO/\IsPair h TI (.ref i1) (.ref i2)/\ItX true h i1 l1 k/\ItX false h i2 l2 k
end
end
section
noncomputable def qa4w:List PyData->Option (List Str)
 | []=>some []
 | .str x :: r=>(qa4w r).map (x :: ·)
 | _ :: _=>none
def qb7g:∀ ss:List Str,qa4w (ss.map .str)=some ss
 | []=>rfl
 | x :: r=>by show(qa4w (r.map .str)).map (x :: ·)=_;rw [qb7g r];rfl
def qb0x:∀ {xs:List PyData} {ss:List Str},qa4w xs=some ss->xs=ss.map .str
 | [],ss,h=>by cases h;rfl
 | .str x :: r,ss,h=>by
  have h':(qa4w r).map (x :: ·)=some ss:=h;obtain⟨qs,h1,rfl⟩:=map_eq_some_iff.mp h';rw [qb0x h1];rfl
end
end L2
section
namespace L2
open PySem
end L2
end
namespace L2
open PySem PySem.Spec PyProof.Rows
section
section
variable{prog:Program}{w:World}{A:Around}{E:Value->Shared->Prop}{s:Shared}
def qb5q{t sl:Addr}{items:Array Value}{vl vu:Value}{lo hi:Option Int}{Q:Value->Shared->Prop}(ht:IsTup s.heap t items)(hs:s.heap.IsSliceOf sl vl vu .none)(pl:IsPart vl lo)(pu:IsPart vu hi)
  (hw:HT.sIx items.size 0 lo=0/\HT.sIx items.size items.size hi=items.size) (h:Q (.ref t) s):wpAny (model prog w) A (getItem (.ref t) (.ref sl)) Q E s:=by
 have hTs:s.TypeIs (.ref sl) "slice":=by obtain⟨os,hos,hcs,_⟩:=id hs;exact⟨os,hos,hcs⟩
 unfold getItem
 try with_reducible refine wpAny_holding ?_
 first | refine wpAny_bind (wpAny_pure ?_) | skip
 refine wpAny_bind (wpAny_sequenceKey ht.typeIs 'd' ?_);refine wpAny_bind (wpAny_callSpecial?_slot (name:=Str.ofString "__getitem__") ht.typeIs slot_tuple_getitem (wpAny_call_entry slot_tuple_getitem ht.typeIs entry_tuple_getitem ?_ (args_tuple_getitem _ _)));show wpAny _ _ (Builtin.Tuple.tupleItemsOf (.ref t) >>= _) _ _ s;refine wpAny_bind (tupleItemsOf_ ht (wpAny_bind (wpAny_typeOf hTs ?_)));rw [if_pos 'd'];refine wpAny_bind (HT.qa7t hs pl pu ?_);rw [hw.1,hw.2];show wpAny _ _ (if (((0:Nat):Int) == 0 && (1:Int) == 1 && (items.size - 0) == items.size)=true then _ else _) _ _ s;rw [if_pos 'e'];refine wpAny_bind (m:=Builtin.Tuple.tupleIsExact (.ref t)) (wpAny_bind (wpAny_typeOf ht.typeIs (wpAny_pure ?_)));rw [if_pos 'd'];exact wpAny_bind (wpAny_rule (wpAny_pure ⟨_,rfl,wpAny_pure h⟩))
end
section
variable{X:Cx}{e:Expr}{te:TE}{pos p2:Pos}
noncomputable def rSlW(K:W.Frag):V->Option Int->Option Int->Hp->VK->Prop:=fun x lo hi H Q=>∃ a xs,x=.ref a/\SqT K H a xs/\(HT.sIx xs.length 0 lo=0/\HT.sIx xs.length xs.length hi=xs.length)/\Q x H
def qa4e:SlR X (rSlW X.K):=by
 intro pins s σ H x v vl vu lo hi sl Q I rx hs pl pu h;obtain⟨a,xs,rfl,hx,hw,q⟩:=h;cases rx;obtain⟨its,r,ht,hz⟩:=I.tuple hx;have hlen:its.toArray.size=xs.length:=by rw [size_toArray];exact r.length.symm
 exact⟨"tuple",_,slot_tuple_getitem.lookup,ht.typeIs,qb5q ht hs pl pu (by rw [hlen];exact hw) ⟨.ref a,H,I,rfl,q⟩⟩
def qc2b(l b:Addr)(items items2:Array Value)(n n2:Nat)(dd:Option Addr)(sl:Array (Option Value))(hs0:¬ (!items.isEmpty && Builtin.List.listTooLong (items.size + items2.size))=true)(hs1:items.size <= sizeLine)(hs2:items.size + items2.size <= sizeLine + 1) :
  Meets (Builtin.«list.extend» ⟨[.ref l,.ref b],[]⟩) (fun _ R s=>s.heap.get? l=some ⟨.type "list",none,.seq items n,#[]⟩/\s.heap.get? b=some ⟨.type "tuple",dd,.seq items2 n2,sl⟩/\R (.ok (.ret Value.none)) { s with heap:=s.heap.update l (Obj.mapSeq fun x=>x ++ items2),toks:=s.toks }):=
 .of_wp fun prog w A R s h=>by
  obtain⟨hp,g,d,tk,os⟩:=s;obtain⟨hl,hb,h⟩:=h;have room:(items ++ items2).size <= sizeLine + 1:=le_trans (le_of_eq Array.size_append) hs2
  wp_walk using (wpAny_updateSeq hl rfl (hz:=hs1) (_hz':=room)),wpAny_loadPart' hl,wpAny_loadPart' hb
  exact⟨_,rfl,h⟩
noncomputable def rExtT(K:W.Frag):V->List V->Hp->VK->Prop:=fun x vs H Q=>∃ l b xs zs,x=.ref l/\vs=[.ref b]/\H l=some (.lst xs)/\SqT K H b zs/\xs.length + zs.length <= 1000000/\Q .non (upd H l (.lst (xs ++ zs)))
def mt_extT:MtM X "list.extend" (rExtT X.K):=by
 intro pins s σ H x vs v us Q I rx rv h;obtain⟨l,b,xs,zs,rfl,rfl,hH,hB,hz,q⟩:=h;cases rx;obtain⟨u,rfl,ru⟩:=rv.one;cases ru;obtain⟨z,its,n,r,hl,e⟩:=I.lstM hH;obtain⟨its2,r2,⟨⟨oc,od,oa,os⟩,ho,hc,n2,hd⟩,z2⟩:=I.tuple hB;simp only at hc hd;subst hc hd;have hl2:=r2.length;have hsl:=sizeLine_eq;have hsz:its.toArray.size + its2.toArray.size <= sizeLine:=by rw [size_toArray,size_toArray];omega
 have hlong:¬ (!its.toArray.isEmpty && Builtin.List.listTooLong (its.toArray.size + its2.toArray.size))=true:=by
  rw [qc5i hsz,Bool.and_false];exact Bool.false_ne_true
 refine call_meets F.slot_list_extend ⟨_,e,rfl⟩ F.entry_list_extend (F.args_list_extend_2 _ _) (qc2b l b its.toArray its2.toArray n n2 od os hlong (by rw [size_toArray];omega) 'o') ⟨e,ho,?_⟩;refine⟨.non,_,I.lset (its':=its ++ its2) hH e 'e' (r.append r2) ?_,rfl,q⟩;rw [length_append];omega
end
end
section
def qc2c{xs:List PyData}{lo hi:Option Int}(h:HT.sIx xs.length 0 lo=0/\HT.sIx xs.length xs.length hi=xs.length):cutD xs lo hi=xs:=by
 unfold cutD;rw [h.1,h.2,drop_zero,Nat.sub_zero,take_length]
noncomputable def fSlA:FSl:=fun x lo hi=>match x with
 | .tuple xs=>some (.tuple (cutD xs lo hi))
 | _=>none
theorem fSlA_t{xs:List PyData}{lo hi:Option Int}:fSlA (.tuple xs) lo hi=some (.tuple (cutD xs lo hi)):=rfl
section
variable{K:W.Frag}{H:Hp}{S:Addr->Prop}
def qa6s:AdSl K (fun x lo hi H Q=>rSlT K x lo hi H Q ∨ rSlW K x lo hi H Q) fSlA:=by
 intro S H x d z lo hi Q f hx e k;unfold fSlA at e;split at e
 ·rename_i xs
  cases e
  obtain⟨a,vs,rfl,h1,h2⟩:=hx.tup;by_cases hw:HT.sIx xs.length 0 lo=0/\HT.sIx xs.length xs.length hi=xs.length
  ·refine .inr ⟨a,vs,rfl,h1,by rw [h2.length];exact hw,k _ _ (Same.refl _) ?_⟩
   rw [qc2c hw];exact qa5a h1 h2
  ·exact .inl ⟨a,vs,rfl,h1,by rw [h2.length];exact hw,fun p hp=>k _ _ (qa0y hp _) (qa9s hp (h2.cut lo hi))⟩
 ·cases e
def dNilD:TDE:=fun ρ Q=>Q (.d (.dict [])) ρ
def ad_nilD:AdE K tDNewK dNilD:=by
 intro c O ρ σ H Qd Q R h k p hp;have sm:=qa0y (H:=H) hp (.dK []);exact k _ _ _ _ _ h (R.grow sm) (.same sm) (show AtD K (upd H p (.dK [])) (live c O) (.dict []) (.ref p) from qc5r (ν:=[]) (R.frsLive p hp) qa0n)
def dExtT(i:Nat)(de:TDE):TDE:=fun ρ Q=>need (ownB ρ i) fun _=>de ρ fun x ρ1=>need (qa0i ρ1 x) fun dx=>∃ ys,dx=.tuple ys/\need (ownB ρ1 i) fun o=>o.2.length + ys.length <= 1000000/\Q (.d .none) (ρ1.set i (some (okL o.1 (o.2 ++ ys))))
def ad_extT{i:Nat}{t:TE}{de:TDE}(h:AdE K t de):AdE K (tBM K "list" (rExtT K) (tVar i) (qa8e t tNil)) (dExtT i de):=by
 intro c O ρ σ H Qd Q R q k;obtain⟨hz2,e,q⟩:=ne (q);obtain⟨o,xs⟩:=hz2;obtain⟨e0,p,vs,hO,hσ,hH,hA⟩:=qc0h R e;refine⟨.ref p,hσ,.inl ⟨rfl,vs,SqL.of hH⟩,?_⟩;refine h c O ρ σ H _ _ R q fun x ρ1 O1 v H1 h1 R1 P1 a1=>?_;obtain⟨dx,e1,hn8⟩:=ne (h1);obtain⟨ys,rfl,hn9⟩:=hn8;obtain⟨hz7,e2,hn1⟩:=ne (hn9);obtain⟨hz,h2⟩:=hn1;obtain⟨o2,xs2⟩:=hz7;obtain⟨b,zs,rfl,s1,s2⟩:=(R1.top a1 e1).tup;obtain⟨e3,p2,vs2,hO2,hσ2,hH2,hA2⟩:=qc0h R1 e2;rw [hσ] at hσ2;cases hσ2;refine⟨p,b,vs2,zs,rfl,rfl,hH2,s1,by rw [hA2.length,s2.length];exact hz,?_⟩;obtain⟨R3,P3⟩:=R1.writeB hO2 hH2 e3 (hA2.append s2);exact k _ _ _ _ _ h2 R3 (P1.trans P3) qc5w
def dInK(keys:List Str)(de:TDE):TDE:=fun ρ Q=>de ρ fun x ρ1=>need (qa0i ρ1 x) fun dx=>∃ z:Str,dx=.str z/\Q (.d (.bool (keys.contains z))) ρ1
noncomputable def fNotB:F2:=fun x y=>match x,y with
 | .bool a,.bool b=>some (.bool (!(a == b)))
 | _,_=>none
def ad_notB:AdR K (fun x y H Q=>∃ a b:Bool,x=.bl a/\y=.bl b/\Q (.bl (!(a == b))) H) fNotB:=by
 intro S H x y dx dy z Q f hx hy e k;unfold fNotB at e;split at e<;>cases e;exact⟨_,_,hx.bool,hy.bool,k _ _ (Same.refl _) (qa1u _)⟩
end
section
variable{X:Cx}{e st:Expr}{de ds:TDE}{pos p2:Pos}
def op_notB:OpR X (compareOp .IsNot) (fun x y H Q=>∃ a b:Bool,x=.bl a/\y=.bl b/\Q (.bl (!(a == b))) H):=by
 intro pins s σ H x y v u Q I rx ry h;obtain⟨a,b,rfl,rfl,q⟩:=h;cases rx;cases ry;have e:(Value.bool a == Value.bool b)=(a == b):=by cases a<;>cases b<;>rfl
 rw [← e] at q;exact wpAny_pure ⟨.bl _,H,I,rfl,q⟩
def de_nilD:DE X (.Dict [] [] pos) dNilD:=⟨_,qc7c,ad_nilD⟩
def qc0p(i:Nat){x:Str}{p apos:Pos}(hN:X.N[i]? = some x)(he:DE X e de)(hv:Vis X.env.scope x:=by first | exact Or.inl rfl | exact Or.inr 'f' | exact Or.inr (Or.inr rfl)) (hd:(x == ("__debug__" : Str))=false:=by decide)
  (hcd:(x == ("__classdict__" : Str))=false:=by decide) (hs:starEach [e] X.env=[(false,eval e X.env)]:=by rfl)
  (hbase:attributeBase (.Name x p) "extend" X.env (eval (.Name x p) X.env)=eval (.Name x p) X.env:=by rfl)
  (hfew:((backTo pos (starEach [e] X.env)).all (fun x=>!x.1) && (backToKw pos (keywordEach [] X.env)).all (fun x=>x.1.isSome)
   && decide (([e]:List Expr).length + ([]:List Keyword).length + (if ([]:List Keyword).isEmpty then 0 else 1) < 30))=true:=by rfl)
  (hline:(apos.endLine == pos.line)=true:=by rfl):DE X (.Call (.Attribute (.Name x p) "extend" apos) [e] [] pos) (dExtT i de):=by
 obtain⟨te,pe,ae⟩:=he;exact⟨_,pe_bm PySem.F.plainAttrs_list PySem.F.slot_list_extend PySem.F.type_list_extend mt_extT (qb5y hN hv hd hcd) (qa2j pe qa4q hs) hbase hfew hline hs rfl,ad_extT ae⟩
end
section
variable{i:Nat}{ρ:Rho}{Q:DV->Rho->Prop}{d1 d2:TDE}{keys:List Str}
theorem dNilD_a:dNilD ρ Q=Q (.d (.dict [])) ρ:=rfl
theorem dExtT_a:dExtT i d1 ρ Q=need (qa4v (ρ[i]?.join)) fun _=>d1 ρ fun x ρ1=>need (qa0i ρ1 x) fun dx=>∃ ys,dx=.tuple ys/\need (qa4v (ρ1[i]?.join)) fun o=>o.2.length + ys.length <= 1000000/\Q (.d .none) (ρ1.set i (some (okL o.1 (o.2 ++ ys)))):=rfl
theorem dInK_a:dInK keys d1 ρ Q=d1 ρ fun x ρ1=>need (qa0i ρ1 x) fun dx=>∃ z:Str,dx=.str z/\Q (.d (.bool (keys.contains z))) ρ1:=rfl
end
end
end L2
section
namespace Sx
open PySem PySem.Spec PyProof.Rows
def pw_eq{α:Type}{le:α->α->Prop}(anti:∀ a b,le a b->le b a->a=b):∀ {a b:List α},a.Perm b->a.Pairwise le->b.Pairwise le->a=b
 | [],b,h,_,_=>h.nil_eq
 | x :: r,[],h,_,_=>absurd h.length_eq 'e'
 | x :: r,y :: t,h,ha,hb=>by
  have e:x=y:=by
   have hx:x ∈ y :: t:=h.mem_iff.mp mem_cons_self;have hy:y ∈ x :: r:=h.mem_iff.mpr mem_cons_self;rcases mem_cons.mp hx with q | q
   ·exact q
   ·rcases mem_cons.mp hy with q2 | q2
    ·exact q2.symm
    ·exact anti x y (rel_of_pairwise_cons ha q2) (rel_of_pairwise_cons hb q)
  subst e;rw [pw_eq anti (List.Perm.cons_inv h) (pairwise_cons.mp ha).2 (pairwise_cons.mp hb).2]
noncomputable def srtI(ns:List Int):List Int:=ns.mergeSort (fun a b=>decide (a <= b))
def qa2p(ns:List Int):(srtI ns).Perm ns:=List.mergeSort_perm ns _
def qc0q(ns:List Int):(srtI ns).Pairwise (· <= ·):=by
 have h:=List.pairwise_mergeSort (le:=fun a b:Int=>decide (a <= b)) (fun a b c h1 h2=>by simp at *;omega) (fun a b=>by simp;omega) ns;exact h.imp fun h=>by simpa using h
def qb1w{a ns:List Int}(h:a.Perm ns)(hp:a.Pairwise (· <= ·)):a=srtI ns:=
 pw_eq (fun a b h1 h2=>Int.le_antisymm h1 h2) (h.trans (qa2p ns).symm) hp (qc0q ns)
def leS(a b:Str):Prop:=a.cps.toList <= b.cps.toList
def leS_iff(a b:Str):ltCps b.cps.toList a.cps.toList=false ↔ leS a b:=by
 rw [ltCps_eq];simp [leS,List.not_lt]
def qb0y{a b c:Str}(h1:leS a b)(h2:leS b c):leS a c:=List.le_trans h1 h2
def qb0z(a b:Str):leS a b ∨ leS b a:=List.le_total ..
def qb7h(a b:Str)(h1:leS a b)(h2:leS b a):a=b:=by
 have e:=List.le_antisymm h1 h2;cases a;cases b;congr 1;exact Array.ext' e
def qc0r:∀ (p:Str) (l:List Str),risingS p l=true->(p :: l).Pairwise leS
 | p,[],_=>List.pairwise_singleton _ _
 | p,x :: r,h=>by
  have h':(!ltCps x.cps.toList p.cps.toList && risingS x r)=true:=h;rw [and_eq_true] at h';have t:=qc0r x r h'.2;have h1:leS p x:=(leS_iff p x).mp (by simpa using h'.1);refine pairwise_cons.mpr ⟨fun y hy=>?_,t⟩;rcases mem_cons.mp hy with rfl | hy
  ·exact h1
  ·exact qb0y h1 (rel_of_pairwise_cons t hy)
def qc2d:∀ (l:List Str),sortedS l=true->l.Pairwise leS
 | [],_=>List.Pairwise.nil
 | x :: r,h=>qc0r x r h
instance (a b:Str):Decidable (leS a b):=by unfold leS;infer_instance
noncomputable def srtS(ss:List Str):List Str:=ss.mergeSort (fun a b=>decide (leS a b))
def qa8g(ss:List Str):(srtS ss).Perm ss:=List.mergeSort_perm ss _
def qc0s(ss:List Str):(srtS ss).Pairwise leS:=by
 have h:=List.pairwise_mergeSort (le:=fun a b:Str=>decide (leS a b)) (fun a b c h1 h2=>by
  simp only [decide_eq_true_eq] at *;exact qb0y h1 h2) (fun a b=>by
  rcases qb0z a b with h | h<;>simp [h]) ss
 exact h.imp fun h=>by simpa using h
def qc0t{a ss:List Str}(h:a.Perm ss)(hp:a.Pairwise leS):a=srtS ss:=
 pw_eq qb7h (h.trans (qa8g ss).symm) hp (qc0s ss)
section
variable{prog:Program}{w:World}{A:Around}{E:Value->Shared->Prop}{s:Shared}{S:Addr}
def decI:∀ k v,(intKind prog w).is k v=true->numOf v=k:=fun k v h=>by
 obtain⟨t,rfl⟩:=Value.isInt_shape h;rfl
def decS:∀ k v,(PySem.strKind prog w).is k v=true->strOf v=k:=fun k v h=>by
 obtain⟨t,rfl⟩:=Value.isStrOf_shape h;rfl
def qc4e{ns:List Int}(hh:A.handled=none)(hS:SetV (intKind prog w) numOf s.heap S ns)(h64:ns.length < 64){Q:Value->Shared->Prop}
  (h:∀ (s':Shared) (L:Addr) (out:List Value) (e:Nat),IntsAre out (srtI ns)->s'.heap.get? L=some (seqObj "list" out.toArray e)->(∀ b o,s.heap.get? b=some o->s'.heap.get? b=some o)->S < L->s'.gens=s.gens->s'.os=s.os->Q (.ref L) s') :
  wpAny (model prog w) A (call (.builtin "sorted") [.ref S]) Q E s:=by
 obtain⟨es,ep,t,ho,F⟩:=hS;refine call_function_entry kind_sorted plain_sorted entry_sorted (args_sorted1 _) ?_;unfold Builtin.«sorted»;have z0:es.size=ns.length:=by have:=F.pm.length_eq;simpa using this
 refine wpAny_bind (m:=checkCount "sorted" 1 1 _) (wpAny_pure (wpAny_bind (qb4y (by simp [hh]) ho F.ft F.ok F.ld 'o' fun s' out op kp eg eo=>?_)));have ol:out.length=ns.length:=by rw [op.length_eq,length_map,length_toList,z0]
 have hv:∀ v ∈ out,∃ n t,v=.int n t:=fun v hv=>by
  obtain⟨e,he,rfl⟩:=mem_map.mp (op.mem_iff.mp hv);obtain⟨⟨k,hk,_⟩,_⟩:=F.el e he;obtain⟨t,q⟩:=Value.isInt_shape hk;exact⟨k,t,q⟩
 have hI:=intsAre_map out hv;have hpm:(out.map numOf).Perm ns:=(op.map numOf).trans (by rw [map_map];exact F.pm);refine wpAny_bind (wpAny_newList ?_ (by rw [ol,sizeLine_eq];omega));have hoL:(s'.heap.push (seqObj "list" out.toArray 0)).get? s'.heap.objs.size=some (seqObj "list" out.toArray 0):=get?_push_size _ rfl;refine wpAny_bind (wpAny_holding (wpAny_call_entry slot_list_sort ⟨_,hoL,rfl⟩ entry_list_sort (list_sort_tree hoL hI 'o' fun out' ns' a1 a2 a3=>⟨_,rfl,?_⟩) (args_list_sort _)));obtain⟨e,he⟩:=sortedHeap_at (out:=out') hoL;have eq:=qb1w (a2.trans hpm) a3;subst eq;refine wpAny_pure ⟨_,rfl,h _ s'.heap.objs.size out'.toList e a1 he (fun b o q=>?_) (lt_size (kp _ _ ho)) eg eo⟩;have q':=kp b o q;have lt:=lt_size q';show(sortedHeap _ _ _ _).get? b=some o;rw [sortedHeap_old (ne_of_lt lt) (by rw [size_push];exact lt_succ_of_lt lt)];exact get?_push_of_some _ q'
def qc4f{ss:List Str}(hh:A.handled=none)(hS:SetV (PySem.strKind prog w) strOf s.heap S ss)(h64:ss.length < 64){Q:Value->Shared->Prop}
  (h:∀ (s':Shared) (L:Addr) (out:List Value) (e:Nat),StrsAre out (srtS ss)->s'.heap.get? L=some (seqObj "list" out.toArray e)->(∀ b o,s.heap.get? b=some o->s'.heap.get? b=some o)->S < L->s'.gens=s.gens->s'.os=s.os->Q (.ref L) s') :
  wpAny (model prog w) A (call (.builtin "sorted") [.ref S]) Q E s:=by
 obtain⟨es,ep,t,ho,F⟩:=hS;refine call_function_entry kind_sorted plain_sorted entry_sorted (args_sorted1 _) ?_;unfold Builtin.«sorted»;have z0:es.size=ss.length:=by have:=F.pm.length_eq;simpa using this
 refine wpAny_bind (m:=checkCount "sorted" 1 1 _) (wpAny_pure (wpAny_bind (qb4y (by simp [hh]) ho F.ft F.ok F.ld 'o' fun s' out op kp eg eo=>?_)));have ol:out.length=ss.length:=by rw [op.length_eq,length_map,length_toList,z0]
 have hv:∀ v ∈ out,∃ x t,v=.str x t:=fun v hv=>by
  obtain⟨e,he,rfl⟩:=mem_map.mp (op.mem_iff.mp hv);obtain⟨⟨k,hk,_⟩,_⟩:=F.el e he;obtain⟨t,q⟩:=Value.isStrOf_shape hk;exact⟨k,t,q⟩
 have hI:=strsAre_map out hv;have hpm:(out.map strOf).Perm ss:=(op.map strOf).trans (by rw [map_map];exact F.pm);refine wpAny_bind (wpAny_newList ?_ (by rw [ol,sizeLine_eq];omega));have hoL:(s'.heap.push (seqObj "list" out.toArray 0)).get? s'.heap.objs.size=some (seqObj "list" out.toArray 0):=get?_push_size _ rfl;refine wpAny_bind (wpAny_holding (wpAny_call_entry slot_list_sort ⟨_,hoL,rfl⟩ entry_list_sort (list_sort_treeK strKind_oneLt hoL hI.keysOf (fun v₁ v₂ rest e=>keyKind_strs (by rw [← e];exact hI)) 'o' fun st' hp hs=>⟨_,rfl,?_⟩) (args_list_sort _)));obtain⟨ss',a1,a2,a3⟩:=sorted_out_str hI hp hs;obtain⟨e,he⟩:=sortedHeap_at (out:=(arrOf st').map (·.2)) hoL;have eq:=qc0t (a2.trans hpm) (qc2d _ a3);subst eq;refine wpAny_pure ⟨_,rfl,h _ s'.heap.objs.size ((arrOf st').map (·.2)).toList e a1 he (fun b o q=>?_) (lt_size (kp _ _ ho)) eg eo⟩;have q':=kp b o q;have lt:=lt_size q';show(sortedHeap _ _ _ _).get? b=some o;rw [sortedHeap_old (ne_of_lt lt) (by rw [size_push];exact lt_succ_of_lt lt)];exact get?_push_of_some _ q'
end
end Sx
end
namespace L2
open PySem PySem.Spec PyProof.Rows
section
def bt_set:bootBuiltins "set" = some (.type "set"):=by decide +kernel
section
variable{X:Cx}{pins:List 'b'}{σ:List (Option V)}{H:Hp}{s:Shared}
def Inv.dr(I:Inv X pins σ H s)(d:Drawn):Inv X pins σ H { s with drawn:=d }:=⟨I.ok,I.os,I.bare,I.base,I.loc,I.cell,I.free,I.freeC,I.pin,I.hok,I.len⟩
def qb4c(X:Cx)(r:List V->Hp->VK->Prop):Prop:=∀ (pins:List 'b') (s:Shared) (σ:St) (H:Hp) (xs:List V) (us:List Value) (Q:VK),Inv X pins σ H s->Vals xs us->r xs H Q ->
 wpAny (model X.prog X.w) X.A (call (.type "set") us) (fun u s1=>wpAny (model X.prog X.w) X.A (call (.builtin "sorted") [u]) (EP X pins σ Q) X.xe s1) X.xe s
def qb3i{r:List V->Hp->VK->Prop}{a:Expr}{ta:TA}{p p2 pos pos2:Pos}(hr:qb4c X r) (hg:Gl X "set") (hm:X.mg "set" = none) (hg2:Gl X "sorted") (hm2:X.mg "sorted" = none) (ha:PA X [a] ta) (hs:starEach [a] X.env=(false,eval a X.env) :: starEach [] X.env:=by rfl) (hs2:(backTo pos (starEach [] X.env)).any (·.1)=false:=by rfl)
  (hs3:starEach [.Call (.Name "set" p) [a] [] pos] X.env=[(false,eval (.Call (.Name "set" p) [a] [] pos) X.env)]:=by rfl) :
  PE X (.Call (.Name "sorted" p2) [.Call (.Name "set" p) [a] [] pos] [] pos2) (tCB r ta):=by
 intro pins s σ H Q I h;refine Call_ (qa6p I hg2 hm2 qa6r (PyProof.Rows.callWith_builtin1 ?_ hs3 (by rfl)));rw [hs3];show wpAny _ _ (spliced ((false,eval (.Call (.Name "set" p) [a] [] pos) X.env) :: [])) _ _ s;refine Calls.spliced_cons (Call_ (qa6p I hg hm bt_set (PyProof.Rows.callWith_type1 (thn (ha pos pins s σ H _ I h) fun us s1 hq8=>?_) hs hs2)));obtain⟨vs,H1,I1,r1,q1⟩:=hq8;exact thn (hr pins s1 σ H1 vs us Q I1 r1 q1) fun u s2 h2=>Calls.spliced_nil h2
def qb1a:∀ {us:List Value} {ns:List Int},IntsAre us ns->Vals (ns.map V.int) us
 | _,_,.nil=>.nil
 | _,_,.cons _ _ h=>.cons ⟨_,rfl⟩ (qb1a h)
noncomputable def rSetI(K:W.Frag):List V->Hp->VK->Prop:=fun xs H Q=>∃ v S,∃ ns:List Int,xs=[v]/\(AtD K H S (.list (ns.map .int)) v ∨ AtD K H S (.tuple (ns.map .int)) v)/\ns.length < 64/\∀ p,H p=none->Q (.ref p) (upd H p (.lst ((Sx.srtI (Sx.uniq ns)).map V.int)))
noncomputable def rSetS(K:W.Frag):List V->Hp->VK->Prop:=fun xs H Q=>∃ v S,∃ ss:List Str,xs=[v]/\(AtD K H S (.list (ss.map .str)) v ∨ AtD K H S (.tuple (ss.map .str)) v)/\ss.length < 64/\∀ p,H p=none->Q (.ref p) (upd H p (.lst ((Sx.srtS (Sx.uniq ss)).map V.str)))
def qc7d(hc:X.calm=true):qb4c X (rSetI X.K):=by
 intro pins s σ H xs us Q I rs h;obtain⟨v,S,ns,rfl,hd,hn,q⟩:=h;obtain⟨u,rfl,r⟩:=vals1 rs;obtain⟨a,its,e,rv,hq⟩:∃ a its,v=.ref a/\Vals (ns.map V.int) its/\(s.heap.IsList a its.toArray ∨ s.heap.IsTuple a its.toArray):=by
  rcases hd with hd | hd
  ·obtain⟨a,ys,rfl,_,hq,t⟩:=qa4a hd
   have ey:=ints_of_all t;subst ey;obtain⟨its,rv,pl,hz⟩:=I.list (SqL.of hq);exact⟨a,its,rfl,rv,.inl pl.isList⟩
  ·obtain⟨a,ys,rfl,hq,t⟩:=qa3e hd
   have ey:=ints_of_all t;subst ey;obtain⟨its,rv,pl,hz⟩:=I.tuple hq;exact⟨a,its,rfl,rv,.inr pl⟩
 subst e;cases r;have hl:its.length=ns.length:=by rw [← rv.length,length_map]
 refine Sx.call_v (knd:=intKind X.prog X.w) (ks:=ns) Sx.decI (I.ok.hd hc) hq (by rw [size_toArray];omega) (by rw [size_toArray,hl]) (fun i w hw=>?_) fun h1 tk sv kp=>?_
 ·rw [getElem?_toArray] at hw
  have hi:i < its.length:=(List.getElem?_eq_some_iff.mp hw).1;have hi2:i < ns.length:=by omega
  obtain⟨u,e1,⟨t,ht⟩⟩:=rv.get (i:=i) (x:=V.int ns[i]) (by rw [getElem?_map,getElem?_eq_getElem hi2];rfl);subst ht;rw [hw] at e1;cases e1;exact⟨ns[i],getElem?_eq_getElem hi2,by simp [intKind,Value.isInt],rfl⟩
 ·have hu:=Sx.qa8z ns
  refine Sx.qc4e (I.ok.hd hc) sv 'o' fun s2 L out e a1 he kp2 hlt eg eo=>?_;have hle:((Sx.srtI (Sx.uniq ns)).map V.int).length <= sizeLine:=by
   rw [length_map,(Sx.qa2p _).length_eq,sizeLine_eq];omega
  have I2:=(I.laid (a:=L) (o:=.lst ((Sx.srtI (Sx.uniq ns)).map V.int)) (t':=s2.toks) (h':=s2.heap) (fun b o x=>kp2 _ _ (kp _ _ x)) (le_of_lt hlt) ⟨hle,out,e,qb1a a1,he⟩).dr s2.drawn;have es:({ s with heap:=s2.heap,toks:=s2.toks,drawn:=s2.drawn }:Shared)=s2:=by
   cases s2;dsimp only at eg eo;subst eg eo;rfl
  rw [es] at I2;exact⟨.ref _,_,I2,rfl,q _ (I.hok.fresh (le_of_lt hlt))⟩
def qc7e(hc:X.calm=true):qb4c X (rSetS X.K):=by
 intro pins s σ H xs us Q I rs h;obtain⟨v,S,ss,rfl,hd,hn,q⟩:=h;obtain⟨u,rfl,r⟩:=vals1 rs;obtain⟨a,its,e,rv,hq⟩:∃ a its,v=.ref a/\Vals (ss.map V.str) its/\(s.heap.IsList a its.toArray ∨ s.heap.IsTuple a its.toArray):=by
  rcases hd with hd | hd
  ·obtain⟨a,ys,rfl,_,hq,t⟩:=qa4a hd
   have ey:=strs_of_all t;subst ey;obtain⟨its,rv,pl,hz⟩:=I.list (SqL.of hq);exact⟨a,its,rfl,rv,.inl pl.isList⟩
  ·obtain⟨a,ys,rfl,hq,t⟩:=qa3e hd
   have ey:=strs_of_all t;subst ey;obtain⟨its,rv,pl,hz⟩:=I.tuple hq;exact⟨a,its,rfl,rv,.inr pl⟩
 subst e;cases r;have hl:its.length=ss.length:=by rw [← rv.length,length_map]
 refine Sx.call_v (knd:=PySem.strKind X.prog X.w) (ks:=ss) Sx.decS (I.ok.hd hc) hq (by rw [size_toArray];omega) (by rw [size_toArray,hl]) (fun i w hw=>?_) fun h1 tk sv kp=>?_
 ·rw [getElem?_toArray] at hw
  have hi:i < its.length:=(List.getElem?_eq_some_iff.mp hw).1;have hi2:i < ss.length:=by omega
  obtain⟨u,e1,⟨t,ht⟩⟩:=rv.get (i:=i) (x:=V.str ss[i]) (by rw [getElem?_map,getElem?_eq_getElem hi2];rfl);subst ht;rw [hw] at e1;cases e1;exact⟨ss[i],getElem?_eq_getElem hi2,by simp [PySem.strKind,Value.isStrOf],rfl⟩
 ·have hu:=Sx.qa8z ss
  refine Sx.qc4f (I.ok.hd hc) sv 'o' fun s2 L out e a1 he kp2 hlt eg eo=>?_;have hle:((Sx.srtS (Sx.uniq ss)).map V.str).length <= sizeLine:=by
   rw [length_map,(Sx.qa8g _).length_eq,sizeLine_eq];omega
  have I2:=(I.laid (a:=L) (o:=.lst ((Sx.srtS (Sx.uniq ss)).map V.str)) (t':=s2.toks) (h':=s2.heap) (fun b o x=>kp2 _ _ (kp _ _ x)) (le_of_lt hlt) ⟨hle,out,e,qb3h a1,he⟩).dr s2.drawn;have es:({ s with heap:=s2.heap,toks:=s2.toks,drawn:=s2.drawn }:Shared)=s2:=by
   cases s2;dsimp only at eg eo;subst eg eo;rfl
  rw [es] at I2;exact⟨.ref _,_,I2,rfl,q _ (I.hok.fresh (le_of_lt hlt))⟩
end
noncomputable def fSetI:FC:=fun ds=>match ds with
 | [.list xs]=>(qa2z xs).bind fun ns=>if ns.length < 64 then some (.list ((Sx.srtI (Sx.uniq ns)).map .int)) else none
 | [.tuple xs]=>(qa2z xs).bind fun ns=>if ns.length < 64 then some (.list ((Sx.srtI (Sx.uniq ns)).map .int)) else none
 | _=>none
noncomputable def fSetS:FC:=fun ds=>match ds with
 | [.list xs]=>(qa4w xs).bind fun ss=>if ss.length < 64 then some (.list ((Sx.srtS (Sx.uniq ss)).map .str)) else none
 | [.tuple xs]=>(qa4w xs).bind fun ss=>if ss.length < 64 then some (.list ((Sx.srtS (Sx.uniq ss)).map .str)) else none
 | _=>none
section
variable{K:W.Frag}{H:Hp}{S:Addr->Prop}
def qa6t:∀ {ns:List Int},qa0b K H S (ns.map .int) (ns.map V.int)
 | []=>by unfold qa0b;rfl
 | x :: r=>by
  show qa0b K H S (.int x :: r.map .int) (.int x :: r.map V.int);unfold qa0b;exact⟨_,_,rfl,qa2r _,qa6t⟩
def ad_setI:AdC K (rSetI K) fSetI:=by
 intro S H vs ds z Q f h e k;unfold fSetI at e;split at e
 ·rename_i xs
  cases q1:qa2z xs with
  | none=>rw [q1] at e;cases e
  | some ns =>
   rw [q1,bind_some] at e;split at e
   ·rename_i hl
    cases e
    obtain⟨v,rfl,h1⟩:=h.one;have e1:=ints_map q1;subst e1;exact⟨v,Any,ns,rfl,.inl h1.any,hl,fun p hp=>k _ _ (qa0y hp _) (qa2f (f p hp) qa0n qa6t)⟩
   ·cases e
 ·rename_i xs
  cases q1:qa2z xs with
  | none=>rw [q1] at e;cases e
  | some ns =>
   rw [q1,bind_some] at e;split at e
   ·rename_i hl
    cases e
    obtain⟨v,rfl,h1⟩:=h.one;have e1:=ints_map q1;subst e1;exact⟨v,Any,ns,rfl,.inr h1.any,hl,fun p hp=>k _ _ (qa0y hp _) (qa2f (f p hp) qa0n qa6t)⟩
   ·cases e
 ·cases e
def ad_setS:AdC K (rSetS K) fSetS:=by
 intro S H vs ds z Q f h e k;unfold fSetS at e;split at e
 ·rename_i xs
  cases q1:qa4w xs with
  | none=>rw [q1] at e;cases e
  | some ss =>
   rw [q1,bind_some] at e;split at e
   ·rename_i hl
    cases e
    obtain⟨v,rfl,h1⟩:=h.one;have e1:=qb0x q1;subst e1;exact⟨v,Any,ss,rfl,.inl h1.any,hl,fun p hp=>k _ _ (qa0y hp _) (qa2f (f p hp) qa0n qa9z)⟩
   ·cases e
 ·rename_i xs
  cases q1:qa4w xs with
  | none=>rw [q1] at e;cases e
  | some ss =>
   rw [q1,bind_some] at e;split at e
   ·rename_i hl
    cases e
    obtain⟨v,rfl,h1⟩:=h.one;have e1:=qb0x q1;subst e1;exact⟨v,Any,ss,rfl,.inr h1.any,hl,fun p hp=>k _ _ (qa0y hp _) (qa2f (f p hp) qa0n qa9z)⟩
   ·cases e
 ·cases e
end
section
variable{X:Cx}{a:Expr}{daa:TDA}{p p2 pos pos2:Pos}
def qc0u(hc:X.calm=true) (hg:Gl X "set") (hm:X.mg "set" = none) (hg2:Gl X "sorted") (hm2:X.mg "sorted" = none) (ha:DA X [a] daa) (hs:starEach [a] X.env=(false,eval a X.env) :: starEach [] X.env:=by rfl) (hs2:(backTo pos (starEach [] X.env)).any (·.1)=false:=by rfl)
  (hs3:starEach [.Call (.Name "set" p) [a] [] pos] X.env=[(false,eval (.Call (.Name "set" p) [a] [] pos) X.env)]:=by rfl) :
  DE X (.Call (.Name "sorted" p2) [.Call (.Name "set" p) [a] [] pos] [] pos2) (dCB fSetI daa):=by
 obtain⟨ta,pa,aa⟩:=ha;exact⟨_,qb3i (qc7d hc) hg hm hg2 hm2 pa hs hs2 hs3,ad_cb ad_setI aa⟩
def de_setS(hc:X.calm=true) (hg:Gl X "set") (hm:X.mg "set" = none) (hg2:Gl X "sorted") (hm2:X.mg "sorted" = none) (ha:DA X [a] daa) (hs:starEach [a] X.env=(false,eval a X.env) :: starEach [] X.env:=by rfl) (hs2:(backTo pos (starEach [] X.env)).any (·.1)=false:=by rfl)
  (hs3:starEach [.Call (.Name "set" p) [a] [] pos] X.env=[(false,eval (.Call (.Name "set" p) [a] [] pos) X.env)]:=by rfl) :
  DE X (.Call (.Name "sorted" p2) [.Call (.Name "set" p) [a] [] pos] [] pos2) (dCB fSetS daa):=by
 obtain⟨ta,pa,aa⟩:=ha;exact⟨_,qb3i (qc7e hc) hg hm hg2 hm2 pa hs hs2 hs3,ad_cb ad_setS aa⟩
end
end
end L2
section
namespace Sx
open PySem PySem.W PyProof.Rows
noncomputable def AllP{α:Type}(n:Nat)(P:α->Prop):KasT α->Prop
 | .ret a=>P a
 | .ask i j k=>i < n/\j < n/\∀ b,AllP n P (k b)
def qa5c{α β:Type}{n:Nat}{P:α->Prop}{R:β->Prop}{f:α->KasT β}(h:∀ a,P a->AllP n R (f a)):∀ t:KasT α,AllP n P t->AllP n R (t.bind f)
 | .ret a,q=>h a q
 | .ask i j k,q=>⟨q.1,q.2.1,fun b=>qa5c h (k b) (q.2.2 b)⟩
abbrev PN(n:Nat)(p:Array Nat):Prop:=p.Perm (List.toArray (List.range n))
def qa4s{n:Nat}(hn:0 < n){p:Array Nat}(h:PN n p)(i:Nat):p.getD i 0 < n:=by
 rw [getD_eq_getD_getElem?];cases e:p[i]? with
 | none=>exact hn
 | some x =>
  have hm:x ∈ p.toList:=by
   rw [← getElem?_toList] at e;exact mem_of_getElem? e
  have:=(Array.perm_iff_toList_perm.mp h).mem_iff.mp hm;simpa using this
def qb1b{n:Nat}{p:Array Nat}(h:PN n p)(i j:Nat):PN n (kas_rev p i j):=(mirror_perm _ _ _ _).trans h
section
variable{n:Nat}(hn:0 < n)
include hn
def qb4d{p:Array Nat}(h:PN n p):∀ f m,AllP n (fun _=>True) (kas_asc p f m)
 | 0,m=>trivial
 | f + 1,m=>⟨qa4s hn h _,qa4s hn h _,fun b=>by
  cases b with
  | true=>exact trivial
  | false=>exact qb4d h f (m + 1)⟩
def qb0a:∀ f {p:Array Nat} m q,PN n p->AllP n (fun r=>PN n r.1) (kas_desc f p m q)
 | 0,p,m,q,h=>h
 | f + 1,p,m,q,h=>⟨qa4s hn h _,qa4s hn h _,fun b=>by
  cases b with
  | true =>
   show AllP n _ (if q > 0 then _ else _);split
   ·exact qb0a f _ _ (qb1b h _ _)
   ·exact qb0a f _ _ h
  | false =>
   refine⟨qa4s hn h _,qa4s hn h _,fun b=>?_⟩;cases b with
   | true=>exact h
   | false=>exact qb0a f _ _ h⟩
def qb5b{p:Array Nat}(h:PN n p)(m r:Nat):AllP n (fun x=>PN n x.2) (kas_tail3 m r p):=by
 refine qa5c (P:=fun _=>True) (fun a _=>?_) _ (qb4d hn (qb1b h _ _) _ _);exact qb1b h _ _
def qb1c{p:Array Nat}(h:PN n p)(m r:Nat):AllP n (fun x=>PN n x.2) (kas_descPart m r p):=by
 refine qa5c (fun x hx=>?_) _ (qb0a hn _ _ _ h);show AllP n _ (if x.2.2 > 0 then _ else _);split
 ·exact qb5b hn (qb1b hx _ _) _ _
 ·exact qb5b hn hx _ _
def qc4g{p:Array Nat}(h:PN n p)(r:Nat):AllP n (fun x=>PN n x.2) (kas_count r p):=by
 refine qa5c (fun m _=>?_) _ (qb4d hn h _ _);show AllP n _ (if (m == r)=true then _ else if m > 1 then _ else _);split
 ·exact h
 ·split
  ·refine⟨qa4s hn h _,qa4s hn h _,fun b=>?_⟩
   cases b with
   | true=>exact h
   | false=>exact qb1c hn (qb1b h _ _) _ _
  ·exact qb1c hn h _ _
def qb1d{p:Array Nat}(h:PN n p)(k:Nat):∀ f l r,AllP n (fun _=>True) (kas_place p k f l r)
 | 0,l,r=>trivial
 | f + 1,l,r=>by
  show AllP n _ (if l ≥ r then _ else _);split
  ·exact trivial
  ·refine⟨qa4s hn h _,qa4s hn h _,fun b=>?_⟩
   cases b with
   | true=>exact qb1d h k f _ _
   | false=>exact qb1d h k f _ _
def qc0v:∀ f {p:Array Nat} k,PN n p->AllP n (fun x=>PN n x) (kas_bin f p k)
 | 0,p,k,h=>h
 | f + 1,p,k,h=>qa5c (fun l _=>qc0v f _ ((bubble_perm _ _ _).trans h)) _ (qb1d hn h _ _ _ _)
def qc7f:AllP n (fun p=>PN n p) (kas_sort n):=by
 refine qa5c (fun r hr=>?_) _ (qc4g hn (Array.Perm.refl _) n);show AllP n _ (if r.1 < n then _ else _);split
 ·exact qc0v hn _ _ hr
 ·exact hr
end
def TupAt(h:Heap)(v:Value)(t:List Int):Prop:=∃ a o xs n,v=.ref a/\h.get? a=some o/\o.cls=.type "tuple" /\ o.data=.seq xs n/\IntsAre xs.toList t/\t ≠ []
section
variable{prog:Program}{w:World}{A:Around}{E:Value->Shared->Prop}{s:Shared}
def qb7i:∀ {vs:List Value} {h:Heap},(∀ v ∈ vs,∃ t,TupAt h v t)->∃ fs,KatTups h vs fs/\fs.length=vs.length/\∀ v ∈ fs,∃ n t,v=.int n t
 | [],h,_=>⟨[],KatTups.nil,rfl,fun v hv=>absurd hv not_mem_nil⟩
 | v :: r,h,H=>by
  obtain⟨fs,k,hl,hf⟩:=qb7i (vs:=r) (h:=h) fun v hv=>H v (mem_cons_of_mem _ hv);obtain⟨t,a,o,xs,n,rfl,ho,hc,hd,hI,hne⟩:=H v mem_cons_self;obtain⟨f,fr,e⟩:∃ f fr,xs.toList=f :: fr:=by
   cases q:xs.toList with
   | nil=>rw [q] at hI;cases hI;exact absurd rfl hne
   | cons f fr=>exact⟨f,fr,rfl⟩
  have e0:xs[0]? = some f:=by rw [← getElem?_toList,e];rfl
  refine⟨f :: fs,KatTups.cons ho hc hd e0 k,by rw [length_cons,length_cons,hl],fun v hv=>?_⟩;rcases mem_cons.mp hv with rfl | hv
  ·exact hI.all _ (by rw [e];exact mem_cons_self)
  ·exact hf v hv
end
end Sx
end
section
namespace L2
open PySem PySem.Spec PyProof.Rows
abbrev encT(t:List Int):PyData:=.tuple (t.map .int)
section
variable{prog:Program}{w:World}{A:Around}{E:Value->Shared->Prop}{s:Shared}
def qb2c{h h':Heap}{v:Value}{t:List Int}(x:Sx.TupAt h v t)(k:∀ b o,h.get? b=some o->h'.get? b=some o):Sx.TupAt h' v t:=by
 obtain⟨a,o,xs,n,e,ho,r⟩:=x;exact⟨a,o,xs,n,e,k _ _ ho,r⟩
end
section
variable{X:Cx}
def qb0n:∀ {ns:List Int} {us:List Value},Vals (ns.map V.int) us->IntsAre us ns
 | [],us,h=>by rw [Vals.zero h];exact .nil
 | x :: r,us,h=>by
  cases h with
  | cons h1 h2 =>
   obtain⟨t,rfl⟩:=h1;exact .cons _ _ (qb0n h2)
end
def dSortT(da:TDA):TDE:=fun ρ Q=>da ρ fun xs ρ1=>need (qa1b ρ1 xs) fun ds=>∃ tss:List 'j',ds=[.list (tss.map encT)]/\(∀ t ∈ tss,t ≠ [])/\tss.length < 64/\∀ tss':List 'j',tss'.Perm tss->Q (.d (.list (tss'.map encT))) ρ1
section
variable{K:W.Frag}
def qb2p{H:Hp}{S S':Addr->Prop}:∀ {tss:List 'j'} {xs:List V},qa0b K H S (tss.map encT) xs->qa0b K H S' (tss.map encT) xs
 | [],xs,h=>by rw [h.unnil];unfold qa0b;rfl
 | t :: r,xs,h=>by
  obtain⟨y,yr,e,hd,tl⟩:=qa0b.uncons (ds:=r.map encT) (d:=encT t) h;subst e;obtain⟨a,ys,rfl,hq,tt⟩:=qa3e hd;have ey:=ints_of_all tt;subst ey;show qa0b K H S' (encT t :: r.map encT) _;unfold qa0b;refine⟨_,_,rfl,?_,qb2p tl⟩;unfold AtD;exact⟨a,_,rfl,hq,qa6t⟩
end
theorem qc7g{da:TDA}{ρ:Rho}{Q:DV->Rho->Prop}:dSortT da ρ Q=(da ρ fun xs ρ1=>need (qa1b ρ1 xs) fun ds=>∃ tss:List 'j',ds=[.list (tss.map encT)]/\(∀ t ∈ tss,t ≠ [])/\tss.length < 64/\∀ tss':List 'j',tss'.Perm tss->Q (.d (.list (tss'.map encT))) ρ1):=rfl
def fSetI_l{ns:List Int}(h:ns.length < 64):fSetI [.list (ns.map .int)]=some (.list ((Sx.srtI (Sx.uniq ns)).map .int)):=by
 show((qa2z (ns.map .int)).bind fun ns=>if ns.length < 64 then _ else _)=_;rw [ints_of,bind_some,if_pos h]
def fSetI_t{ns:List Int}(h:ns.length < 64):fSetI [.tuple (ns.map .int)]=some (.list ((Sx.srtI (Sx.uniq ns)).map .int)):=by
 show((qa2z (ns.map .int)).bind fun ns=>if ns.length < 64 then _ else _)=_;rw [ints_of,bind_some,if_pos h]
def fSetS_l{ss:List Str}(h:ss.length < 64):fSetS [.list (ss.map .str)]=some (.list ((Sx.srtS (Sx.uniq ss)).map .str)):=by
 show((qa4w (ss.map .str)).bind fun ss=>if ss.length < 64 then _ else _)=_;rw [qb7g,bind_some,if_pos h]
end L2
namespace Sn
instance stands:Nonempty Unit:=⟨()⟩
end Sn
end
namespace L2
open PySem PySem.Spec PyProof.Rows
section
noncomputable def rngV(n:Nat):List V:=(List.range n).map fun i=>V.int (0 + (i:Nat))
noncomputable def rListR:List V->Hp->VK->Prop:=fun xs H Q=>∃ j:Int,xs=[.int j]/\0 <= j/\j <= 1000000/\∀ p,H p=none->Q (.ref p) (upd H p (.lst (rngV j.toNat)))
section
variable{X:Cx}
def qc4h{acc:Array Value}{n:Nat}(h:ItemsOf (fun i v=>∃ t,v=.int (0 + (i:Nat) * 1) t) acc n):Vals (rngV n) acc.toList:=by
 have key:∀ (m k:Nat) (l:List Value),l.length=m->(∀ (i:Nat) (v:Value),l[i]? = some v->∃ t,v=Value.int (((k + i:Nat):Int)) t)->Vals ((List.range' k m).map fun i=>V.int (0 + (i:Nat))) l:=by
  intro m;induction m with
  | zero =>
   intro k l hl _;have e:l=[]:=eq_nil_of_length_eq_zero hl;subst e;exact .nil
  | succ m ih =>
   intro k l hl hv;cases l with
   | nil=>cases hl
   | cons x r =>
    rw [List.range'_succ,map_cons];obtain⟨t,ht⟩:=hv 0 x rfl;refine .cons ⟨t,by rw [ht];simp⟩ (ih (k + 1) r (by simpa using hl) fun i v hi=>?_);obtain⟨t,ht⟩:=hv (i + 1) v (by simpa using hi);exact⟨t,by rw [ht];congr 1;omega⟩
 unfold rngV;rw [List.range_eq_range'];refine key n 0 acc.toList (by rw [length_toList];exact h.1) fun i v hi=>?_;obtain⟨t,ht⟩:=h.2 i v (by rw [← getElem?_toList];exact hi);exact⟨t,by rw [ht];congr 1;omega⟩
def qb7j{a:Expr}{ta:TA}{p p2 pos pos2:Pos}(hc:X.calm=true) (hg:Gl X "range") (hm:X.mg "range" = none) (hg2:Gl X "list") (hm2:X.mg "list" = none) (ha:PA X [a] ta) (hs:starEach [a] X.env=(false,eval a X.env) :: starEach [] X.env:=by rfl) (hs2:(backTo pos (starEach [] X.env)).any (·.1)=false:=by rfl)
  (hs3:starEach [.Call (.Name "range" p) [a] [] pos] X.env=[(false,eval (.Call (.Name "range" p) [a] [] pos) X.env)]:=by rfl) :
  PE X (.Call (.Name "list" p2) [.Call (.Name "range" p) [a] [] pos] [] pos2) (tCB rListR ta):=by
 intro pins s σ H Q I h;refine Call_ (qa6p I hg2 hm2 qa9b (PyProof.Rows.callWith_type1 ?_ hs3 (by rfl)));rw [hs3];show wpAny _ _ (spliced ((false,eval (.Call (.Name "range" p) [a] [] pos) X.env) :: [])) _ _ s;refine Calls.spliced_cons (Call_ (qa6p I hg hm boot_range (PyProof.Rows.callWith_type1 (thn (ha pos pins s σ H _ I h) fun us s1 hq8=>?_) hs hs2)));obtain⟨vs,H1,I1,r1,q1⟩:=hq8;obtain⟨j,rfl,h0,h1,q⟩:=q1;obtain⟨u,rfl,t,rfl⟩:=vals1 r1;refine call_range_1 (Calls.spliced_nil ?_);have e2:Builtin.Range.rangeSize 0 j 1=((j.toNat:Nat):Int):=by rw [rangeSize_one];split<;>omega
 refine call_list_range (n:=j.toNat) (I1.ok.hd hc) (IsRange.new ..) (small_one 'o' 'o' 'o' 'o') e2 (by show j.toNat <= 16777216;omega) fun h' tk acc c' kp he hacc=>?_;have hle:(rngV j.toNat).length <= sizeLine:=by unfold rngV;rw [length_map,length_range,sizeLine_eq];omega
 have ge:s1.heap.objs.size <= (s1.heap.push { cls:=.type "range",data:=.fields #[.int 0 s1.toks,.int j t,.int 1 (s1.toks + 1)] }).objs.size:=by rw [size_push];exact le_succ _
 refine⟨.ref _,_,I1.laid (o:=.lst (rngV j.toNat)) (t':=tk) (fun b o x=>kp _ _ (get?_push_of_some _ x)) ?_ ⟨hle,acc.toList,c',qc4h hacc,he⟩,rfl,q _ (I1.hok.fresh ?_)⟩
 ·show _ <= (s1.heap.push _).objs.size;rw [size_push];exact le_succ _
 ·show _ <= (s1.heap.push _).objs.size;rw [size_push];exact le_succ _
end
noncomputable def qb3j:FC:=fun ds=>match ds with
 | [.int j]=>if 0 <= j/\j <= 1000000 then some (.list (rngD 0 j.toNat)) else none
 | _=>none
def qb7k{j:Int}(h0:0 <= j)(h1:j <= 1000000):qb3j [.int j]=some (.list (rngD 0 j.toNat)):=if_pos ⟨h0,h1⟩
def qc4i{K:W.Frag}{H:Hp}{S:Addr->Prop}(n:Nat):qa0b K H S (rngD 0 n) (rngV n):=by
 unfold rngD rngV;generalize List.range n=l;induction l with
 | nil=>unfold qa0b;rfl
 | cons x r ih =>
  rw [map_cons,map_cons];unfold qa0b;exact⟨_,_,rfl,qa2r _,ih⟩
def qc7h{K:W.Frag}:AdC K rListR qb3j:=by
 intro S H vs ds z Q f h e k;unfold qb3j at e;split at e
 ·rename_i j
  split at e
  ·rename_i hx
   cases e
   obtain⟨v,rfl,h1⟩:=h.one;have ev:=h1.int;subst ev;exact⟨j,rfl,hx.1,hx.2,fun p hp=>k _ _ (qa0y hp _) (qa2f (f p hp) qa0n (qc4i _))⟩
  ·cases e
 ·cases e
def qb7l{X:Cx}{a:Expr}{daa:TDA}{p p2 pos pos2:Pos}(hc:X.calm=true) (hg:Gl X "range") (hm:X.mg "range" = none) (hg2:Gl X "list") (hm2:X.mg "list" = none) (ha:DA X [a] daa) (hs:starEach [a] X.env=(false,eval a X.env) :: starEach [] X.env:=by rfl) (hs2:(backTo pos (starEach [] X.env)).any (·.1)=false:=by rfl)
  (hs3:starEach [.Call (.Name "range" p) [a] [] pos] X.env=[(false,eval (.Call (.Name "range" p) [a] [] pos) X.env)]:=by rfl) :
  DE X (.Call (.Name "list" p2) [.Call (.Name "range" p) [a] [] pos] [] pos2) (dCB qb3j daa):=by
 obtain⟨ta,pa,aa⟩:=ha;exact⟨_,qb7j hc hg hm hg2 hm2 pa hs hs2 hs3,ad_cb qc7h aa⟩
end
section
noncomputable def Its(x:Str):It:=⟨fun i _=>i < x.cps.size,fun i H y H'=>H'=H/\∃ c,x.cps[i]? = some c/\y=.str ⟨#[c]⟩,fun i _=>x.cps.size <= i⟩
def qc4j{P:Program}{w:World}{K:W.Frag}{tg:Expr}(it:Addr)(x:Str)(t:Tok):Turn P w K tg (Its x) [it] it (fun i h=>h.IsStrIter it "str_ascii_iterator" x t i) where
 mem:=by simp
 obj:=fun i h st b hb=>by
  have e:b=it:=by simpa using hb
  subst e;obtain⟨o,e,c,d⟩:=st;exact⟨o,e,fun v z=>by rw [d] at z;cases z⟩
 keep:=fun i h h' st k=>let ⟨o,ho,r⟩:=st;⟨o,k it 'e' o ho,r⟩
 item:=by
  intro X hP hw hK hc i pins s σ H E I hf st hg;subst hP hw hK;obtain⟨f0,f1,f2,f3,f4,f5⟩:=hf it 'e';refine(Walks.strAscii (prog:=X.prog) (w:=X.w) (I.ok.hd hc) it x t).item i s _ _ hg st fun v h' tk hv st' kk=>?_;obtain⟨c,u,hcu,rfl⟩:=hv;have I1:Inv X pins σ H { s with heap:=h',toks:=tk }:=I.turned (fun b o hb e=>kk b o (by simpa using hb) e) f0 f1 f3 f4 f5;obtain⟨o,e,c1,d⟩:=id st';exact⟨_,rfl,go_of (s:={ s with heap:=h',toks:=tk }) e c1 d 'd' ⟨.str ⟨#[c]⟩,H,I1,⟨u,rfl⟩,⟨rfl,c,hcu,rfl⟩,st',fun b hb=>(hf b hb).1⟩⟩
 done:=by
  intro X hP hw hK hc i pins s σ H E I hf st hg;subst hP hw hK;obtain⟨f0,f1,f2,f3,f4,f5⟩:=hf it 'e';have hn:x.cps[i]? = none:=getElem?_eq_none hg;exact wpAny_pyNext_ascii_end (I.ok.hd hc) st hn fun h' eb=>⟨rfl,I.turned (t':=s.toks) (fun b o hb e=>eb b o hb e) f0 f1 f3 f4 f5⟩
 self:=fun _ _ _ _ _ st h=>wpAny_pyIter_striter_ascii st h
def qc4k{P:Program}{w:World}{K:W.Frag}{tg:Expr}(it:Addr)(x:Str)(t:Tok):Turn P w K tg (Its x) [it] it (fun i h=>h.IsStrIter it "str_iterator" x t i) where
 mem:=by simp
 obj:=fun i h st b hb=>by
  have e:b=it:=by simpa using hb
  subst e;obtain⟨o,e,c,d⟩:=st;exact⟨o,e,fun v z=>by rw [d] at z;cases z⟩
 keep:=fun i h h' st k=>let ⟨o,ho,r⟩:=st;⟨o,k it 'e' o ho,r⟩
 item:=by
  intro X hP hw hK hc i pins s σ H E I hf st hg;subst hP hw hK;obtain⟨f0,f1,f2,f3,f4,f5⟩:=hf it 'e';refine(Walks.strWide (prog:=X.prog) (w:=X.w) (I.ok.hd hc) it x t).item i s _ _ hg st fun v h' tk hv st' kk=>?_;obtain⟨c,u,hcu,rfl⟩:=hv;have I1:Inv X pins σ H { s with heap:=h',toks:=tk }:=I.turned (fun b o hb e=>kk b o (by simpa using hb) e) f0 f1 f3 f4 f5;obtain⟨o,e,c1,d⟩:=id st';exact⟨_,rfl,go_of (s:={ s with heap:=h',toks:=tk }) e c1 d 'd' ⟨.str ⟨#[c]⟩,H,I1,⟨u,rfl⟩,⟨rfl,c,hcu,rfl⟩,st',fun b hb=>(hf b hb).1⟩⟩
 done:=by
  intro X hP hw hK hc i pins s σ H E I hf st hg;subst hP hw hK;obtain⟨f0,f1,f2,f3,f4,f5⟩:=hf it 'e';have hn:x.cps[i]? = none:=getElem?_eq_none hg;exact wpAny_pyNext_wide_end (I.ok.hd hc) st hn fun h' eb=>⟨rfl,I.turned (t':=s.toks) (fun b o hb e=>eb b o hb e) f0 f1 f3 f4 f5⟩
 self:=fun _ _ _ _ _ st h=>wpAny_pyIter_striter_wide st h
section
variable{X:Cx}{tg:Expr}
def iStr(tl:TE):TI:=fun σ H R=>tl σ H fun x H1=>∃ z,x=.str z/\R (Its z) H1
def pi_str{l:Expr}{tl:TE}(hl:PE X l tl):PI X tg l (iStr tl):=by
 intro pins s σ H R I h;refine thn (hl pins s σ H _ I h) fun v s1 hq9=>?_;obtain⟨x,H1,I1,r1,q1⟩:=hq9;obtain⟨z,rfl,q⟩:=q1;obtain⟨t,rfl⟩:=r1;have fp:∀ b ∈ [s1.heap.objs.size],FpOk X pins H1 b:=fun b hb=>by
  have e:b=s1.heap.objs.size:=by simpa using hb
  subst e;exact I1.fpOk 'c' (I1.hok.fresh 'c')
 cases ha:z.cps.all (· < 128) with
 | true=>exact wpAny_pyIter_ascii ha ⟨s1.heap.objs.size,[s1.heap.objs.size],_,_,H1,rfl,I1.kept (t':=s1.toks) fun b o e=>get?_push_of_some _ e,qc4j _ z t,⟨_,get?_push_size _ rfl,rfl,rfl⟩,fp,q⟩
 | false=>exact wpAny_pyIter_wide ha ⟨s1.heap.objs.size,[s1.heap.objs.size],_,_,H1,rfl,I1.kept (t':=s1.toks) fun b o e=>get?_push_of_some _ e,qc4k _ z t,⟨_,get?_push_size _ rfl,rfl,rfl⟩,fp,q⟩
end
abbrev signs(x:Str):List PyData:=x.cps.toList.map fun c=>.str ⟨#[c]⟩
noncomputable def asSt:PyData->Option Str
 | .str x=>some x
 | _=>none
theorem asSt_s{x:Str}:asSt (.str x)=some x:=rfl
def diStr(de:TDE):TDI:=fun ρ Q=>de ρ fun x ρ1=>need (qa0i ρ1 x) fun d=>need (asSt d) fun z=>Q (signs z) ρ1
section
variable{K:W.Frag}{H:Hp}{S:Addr->Prop}
def qc2e{z:Str}:qb0v K S H (Its z) (signs z):=fun S' H' P=>by
 refine⟨fun i x e=>?_,by simp [Its]⟩;rw [getElem?_map,getElem?_toList] at e;obtain⟨c,hc,rfl⟩:=map_eq_some_iff.mp e;refine⟨(Array.getElem?_eq_some_iff.mp hc).1,fun v H'' y=>?_⟩;obtain⟨rfl,c',hc',rfl⟩:=y;rw [hc] at hc';cases hc';exact⟨Same.refl _,qa4z _⟩
def ai_str{t:TE}{de:TDE}(h:AdE K t de):AdI K (iStr t) (diStr de):=fun c O ρ σ H Qd Q R q k =>
 h c O ρ σ H _ _ R q fun x ρ1 O1 v H1 h1 R1 P1 a1=>by
  obtain⟨d,e1,hn1⟩:=ne (h1);obtain⟨z,e2,h2⟩:=ne (hn1);cases d with
  | str z' =>
   cases e2
   exact⟨z,(R1.top a1 e1).str,k _ _ _ _ _ h2 R1 P1 qc2e⟩
  | _=>cases e2
end
def di_str{X:Cx}{tg e:Expr}{de:TDE}(h:DE X e de):DI X tg e (diStr de):=by obtain⟨_,p,a⟩:=h;exact⟨_,pi_str p,ai_str a⟩
theorem diStr_a{de:TDE}{ρ:Rho}{Q:List PyData->Rho->Prop}:diStr de ρ Q=(de ρ fun x ρ1=>need (qa0i ρ1 x) fun d=>need (asSt d) fun z=>Q (signs z) ρ1):=rfl
noncomputable def leC(x y:Str):Bool:=decide (x.cps.toList <= y.cps.toList)
def rLeS:R2:=fun x y H Q=>∃ i j,x=.str i/\y=.str j/\Q (.bl (leC i j)) H
def qb7m{X:Cx}:OpR X (compareOp .LtE) rLeS:=by
 intro pins s σ H x y v u Q I rx ry h;obtain⟨i,j,rfl,rfl,q⟩:=h;obtain⟨t,rfl⟩:=rx;obtain⟨t',rfl⟩:=ry;refine P.le_str ⟨.bl _,H,I,?_,q⟩;show Value.bool _=Value.bool (leC i j);congr 1;unfold leC;rw [Bool.eq_iff_iff];simp [List.not_lt]
noncomputable def fLeS:F2
 | .str i,.str j=>some (.bool (leC i j))
 | _,_=>none
theorem fLeS_s{x y:Str}:fLeS (.str x) (.str y)=some (.bool (leC x y)):=rfl
def qb7n{K:W.Frag}:AdR K rLeS fLeS:=by
 intro S H x y dx dy z Q f hx hy e k;unfold fLeS at e;split at e
 ·cases e
  exact⟨_,_,hx.str,hy.str,k _ _ (Same.refl _) (qa1u _)⟩
 ·cases e
section
variable{X:Cx}
noncomputable def rAllB(K:W.Frag):List V->Hp->VK->Prop:=fun xs H Q=>∃ v S,∃ bs:List Bool,xs=[v]/\AtD K H S (.list (bs.map .bool)) v/\Q (.bl (bs.all id)) H
def bools_of_all{K:W.Frag}{H:Hp}{S:Addr->Prop}:∀ {bs:List Bool} {xs:List V},qa0b K H S (bs.map .bool) xs->xs=bs.map V.bl
 | [],xs,h=>by rw [h.unnil];rfl
 | n :: r,xs,h=>by
  obtain⟨v,vr,rfl,hd,t⟩:=h.uncons;rw [qa7p hd,bools_of_all t];rfl
def qb3k:∀ {bs:List Bool} {us:List Value},Vals (bs.map V.bl) us->us=bs.map Value.bool
 | [],us,h=>by rw [Vals.zero h];rfl
 | x :: r,us,h=>by
  cases h with
  | cons h1 h2 =>
   rw [qb3k h2,map_cons];congr 1
def qa6u(hc:X.calm=true):qa2l X (.builtin "all") (rAllB X.K):=by
 intro pins s σ H xs us Q I rs h;obtain⟨v,S,bs,rfl,hd,q⟩:=h;obtain⟨u,rfl,r⟩:=vals1 rs;obtain⟨a,ys,rfl,_,hq,t⟩:=qa4a hd;cases r;have ey:=bools_of_all t;subst ey;obtain⟨its,rv,pl,hz⟩:=I.list (SqL.of hq);have ei:=qb3k rv;subst ei;have la:a < s.heap.objs.size:=lt_size pl.isList.choose_spec.1;refine call_all_walk (wpAny_pyIter_list pl.isList ⟨s.heap.objs.size,_,_,_,_,_,fun i=>bs.getD i true,rfl,Walks.list (by simpa using I.ok.hd hc) s.heap.objs.size a (ne_of_lt la) (bs.map Value.bool).toArray,⟨⟨_,get?_push_size _ rfl,rfl,rfl⟩,pl.isList.push _⟩,fun i v s' Q' E' hP hQ=>?_,fun h' tk hk=>?_⟩)
 ·have hP:(bs.map Value.bool).toArray[i]? = some v:=hP
  rw [getElem?_toArray,getElem?_map] at hP;obtain⟨b,hb,rfl⟩:=map_eq_some_iff.mp hP;have e:bs.getD i true=b:=by rw [getD_eq_getElem?_getD,hb];rfl
  have hQ:Q' (bs.getD i true) s':=hQ;rw [e] at hQ;exact wpAny_truthy_bool hQ
 ·have e:((List.range (bs.map Value.bool).toArray.size).all fun i=>bs.getD i true)=bs.all id:=by
   rw [size_toArray,length_map,Bool.eq_iff_iff,all_eq_true,all_eq_true];constructor
   ·intro h b hb
    obtain⟨i,hi,rfl⟩:=getElem_of_mem hb;have:=h i (mem_range.mpr hi);rw [getD_eq_getElem?_getD,getElem?_eq_getElem hi] at this;exact this
   ·intro h i hi
    have hi':=mem_range.mp hi;rw [getD_eq_getElem?_getD,getElem?_eq_getElem hi'];exact h _ (getElem_mem hi')
  rw [e];refine⟨.bl _,H,I.kept fun b o e=>hk b o ?_ (get?_push_of_some _ e),rfl,q⟩;rw [mem_singleton];exact ne_of_lt (lt_size e)
end
noncomputable def qa8a:List PyData->Option (List Bool)
 | []=>some []
 | .bool b :: r=>(qa8a r).map (b :: ·)
 | _ :: _=>none
def qb5c:∀ bs:List Bool,qa8a (bs.map .bool)=some bs
 | []=>rfl
 | x :: r=>by show(qa8a (r.map .bool)).map (x :: ·)=_;rw [qb5c r];rfl
def qb3l:∀ {xs:List PyData} {bs:List Bool},qa8a xs=some bs->xs=bs.map .bool
 | [],bs,h=>by cases h;rfl
 | .bool x :: r,bs,h=>by
  have h':(qa8a r).map (x :: ·)=some bs:=h;obtain⟨qs,h1,rfl⟩:=map_eq_some_iff.mp h';rw [qb3l h1];rfl
noncomputable def fAllB:FC:=fun ds=>match ds with
 | [.list xs]=>(qa8a xs).map fun bs=>.bool (bs.all id)
 | _=>none
def qb7o(bs:List Bool):fAllB [.list (bs.map .bool)]=some (.bool (bs.all id)):=by
 show(qa8a (bs.map .bool)).map _=_;rw [qb5c];rfl
def qa9g{K:W.Frag}:AdC K (rAllB K) fAllB:=by
 intro S H vs ds z Q f h e k;unfold fAllB at e;split at e
 ·rename_i xs
  obtain⟨bs,q1,rfl⟩:=map_eq_some_iff.mp e;obtain⟨v,rfl,h1⟩:=h.one;have e1:=qb3l q1;subst e1;exact⟨v,Any,bs,rfl,h1.any,k _ _ (Same.refl _) (qa1u _)⟩
 ·cases e
end
section
noncomputable def rSlS:V->Option Int->Option Int->Hp->VK->Prop:=fun x lo hi H Q=>∃ z,x=.str z/\z.length <= sizeLine/\Q (.str (Txt.slice z lo hi)) H
def qb5d{v:Value}{o:Option Int}(h:IsPart v o):∃ p:Option (Int × Tok),v=partValue p/\p.map (·.1)=o:=by
 cases h with
 | none=>exact⟨none,rfl,rfl⟩
 | int i t=>exact⟨some (i,t),rfl,rfl⟩
def sl_str{X:Cx}:SlR X rSlS:=by
 intro pins s σ H x v vl vu lo hi sl Q I rx hs pl pu h;obtain⟨z,rfl,hz,q⟩:=h;obtain⟨t,rfl⟩:=rx;obtain⟨l,rfl,rfl⟩:=qb5d pl;obtain⟨u,rfl,rfl⟩:=qb5d pu;obtain⟨o,ho,hc,hd⟩:=hs;refine⟨"str",_,PySem.F.slot_str_getitem.lookup,typeIs_str _ _ _,wpAny_getItem_str_slice (l:=l) (u:=u) (st:=none) ⟨o,ho,hc,hd⟩ rfl ?_⟩;exact post_val_or_str ⟨le_trans (Txt.slice_le z _ _) hz,fun t' k=>⟨.str _,H,I.tok k,⟨t',rfl⟩,q⟩⟩
noncomputable def fSlS:FSl
 | .str z,lo,hi=>if z.length <= sizeLine then some (.str (Txt.slice z lo hi)) else none
 | _,_,_=>none
def fSlS_s{z:Str}{lo hi:Option Int}(h:z.length <= sizeLine):fSlS (.str z) lo hi=some (.str (Txt.slice z lo hi)):=if_pos h
def ad_slS{K:W.Frag}:AdSl K rSlS fSlS:=by
 intro S H x d z lo hi Q f hx e k;unfold fSlS at e;split at e
 ·split at e
  ·rename_i hz
   cases e
   exact⟨_,hx.str,hz,k _ _ (Same.refl _) (qa4z _)⟩
  ·cases e
 ·cases e
def qb5r(l:Addr)(items:Array Value)(n:Nat)(b:Addr)(items2:Array Value)(n2:Nat)(hc0:(items.size != items2.size)=true) :
  Meets (Builtin.«list.__eq__» ⟨[.ref l,.ref b],[]⟩) (fun _ R s=>s.heap.get? l=some ⟨.type "list",none,.seq items n,#[]⟩/\s.heap.get? b=some ⟨.type "list",none,.seq items2 n2,#[]⟩/\R (.ok (.ret (Value.bool false))) { s with heap:=s.heap,toks:=s.toks }):=
 .of_wp fun prog w A R s h=>by
  obtain⟨hp,g,d,tk,os⟩:=s;obtain⟨hl,hb,h⟩:=h;have f3:=AutoSeq1.sub_list_list
  wp_walk using wpAny_loadPart' hl,wpAny_loadPart' hb
  exact⟨_,rfl,h⟩
section
variable{X:Cx}
def rEqS:R2:=fun x y H Q=>∃ a b vs,x=.ref a/\y=.ref b/\H a=some (.lst vs)/\vs ≠ []/\H b=some (.lst [])/\Q (.bl false) H
def op_eqS(hu:X.A.units + 64 < cLine):OpR X (compareOp .Eq) rEqS:=by
 intro pins s σ H x y v u Q I rx ry h;obtain⟨a,b,vs,rfl,rfl,ha,hne,hb,q⟩:=h;cases rx;cases ry;obtain⟨z,its,n,r,hl,e⟩:=I.lstM ha;obtain⟨z2,its2,n2,r2,hl2,e2⟩:=I.lstM hb;have h2:its2=[]:=r2.zero;subst h2;have hs:(its.toArray.size != (#[]:Array Value).size)=true:=by
  cases its with
  | nil=>exact absurd (List.length_eq_zero_iff.mp (by rw [hl];rfl)) hne
  | cons _ _=>simp
 have main:wpAny (model X.prog X.w) X.A (richCompare .Eq (.ref a) (.ref b)) (EP X pins σ Q) X.xe s:=
  richCompare_meets_room (op:=.Eq) ⟨_,e,rfl⟩ ⟨_,e2,rfl⟩ PySem.F.slot_list_eq PySem.F.entry_list_eq (PySem.F.args_list_eq_2 _ _) (qb5r a its.toArray n b #[] n2 hs) ⟨e,e2,by nofun,.bl false,H,I,rfl,q⟩ 'o'
 exact main
end
noncomputable def fEqN:F2:=fun x y=>match x,y with
 | .list xs,.list []=>some (.bool xs.isEmpty)
 | _,_=>none
theorem fEqN_l{xs:List PyData}:fEqN (.list xs) (.list [])=some (.bool xs.isEmpty):=rfl
def ad_eqN{K:W.Frag}:AdR K (fun x y H Q=>rEqS x y H Q ∨ rEqD K false x y H Q) fEqN:=by
 intro S H x y dx dy z Q f hx hy e k;unfold fEqN at e;split at e
 ·rename_i xs
  cases e
  obtain⟨b,ws2,rfl,h3,h4⟩:=hy.list;cases h4.unnil;cases xs with
  | nil=>exact .inr ⟨Any,Any,.list [],.list [],hx.any,hy.any,'d','d',k _ _ (Same.refl _) (qa1u _)⟩
  | cons d r =>
   obtain⟨a,ws,rfl,h1,h2⟩:=hx.list;refine .inl ⟨a,b,ws,rfl,rfl,h1,?_,h3,k _ _ (Same.refl _) (qa1u _)⟩;rintro rfl;have:=h2.length;cases this
 ·cases e
def sign_in(x:Str)(c:Nat):(!(Builtin.Str.occurrences x ⟨#[c]⟩ 0 x.length 1).isEmpty)=x.cps.toList.contains c:=by
 rw [Bool.eq_iff_iff,StrLaws.found_iff,List.contains_iff_mem];constructor
 ·rintro⟨i,h1,h2⟩
  have h1':i + 1 <= x.cps.size:=h1;have e:x.cps.extract i (i + 1) = #[c]:=by
   unfold Builtin.Str.subAt at h2;exact eq_of_beq h2
  have hi:i < x.cps.size:=by omega
  have e2:x.cps[i]=c:=by
   have:(x.cps.extract i (i + 1))[0]? = some c:=by rw [e];rfl
   rw [Array.getElem?_extract] at this;simp [hi] at this;exact this.2
  rw [← e2];exact mem_toList_iff.mpr (Array.getElem_mem hi)
 ·intro h
  obtain⟨i,hi,e⟩:=getElem_of_mem h;rw [length_toList] at hi;refine⟨i,(show i + 1 <= x.cps.size by omega),?_⟩;unfold Builtin.Str.subAt;have e2:x.cps.extract i (i + 1) = #[c]:=by
   apply Array.ext'
   rw [Array.toList_extract,List.extract_eq_take_drop];have ed:x.cps.toList.drop i=c :: x.cps.toList.drop (i + 1):=by rw [← e];exact drop_eq_getElem_cons (by rw [length_toList];exact hi)
   rw [ed];simp
  show(x.cps.extract i (i + 1) == #[c])=true;rw [e2];exact beq_self_eq_true _
def qc7i{neg:Bool}{x:Str}{c:Nat}:fIn neg (.str ⟨#[c]⟩) (.str x)=some (.bool (if neg then !x.cps.toList.contains c else x.cps.toList.contains c)):=by
 show some (PyData.bool (if neg then !(!(Builtin.Str.occurrences x ⟨#[c]⟩ 0 x.length 1).isEmpty) else !(Builtin.Str.occurrences x ⟨#[c]⟩ 0 x.length 1).isEmpty))=_;rw [sign_in]
end
section
noncomputable def asKey:PyData->Option Key
 | .int i=>some (.inl i)
 | .str x=>some (.inr x)
 | _=>none
structure PinK(K:W.Frag)(c:Rc)(p:Addr)(ν:List (Key × V))(i:Nat)(O:Own)(ρ:Rho)(σ:St)(H:Hp):Prop where
 rel:Rel K (c.reb O p H) O ρ σ H
 at_:H p=some (.dK ν)
 slot:σ[i]? = some (some (.ref p))
 nul:ρ[i]? = some none
 bA:∀ j q,O j=some q->c.A q
 bS:∀ b o,¬ c.M b->c.H0 b=some o->H b=some o
 bK:∀ b,c.H0 b ≠ none->H b ≠ none
 bM:∀ q,c.M q->∃ vs,H q=some (.lst vs)
 am:∀ q,c.A q->c.M q ∨ c.H0 q=none
 frs:∀ q,c.H0 q=none->c.S q
 fr0:c.H0 p=none
 np:¬ c.P p
end
section
noncomputable def kD(q:Key × PyData):PyData × PyData:=(keyD q.1,q.2)
noncomputable def putA(ν:List (Key × PyData))(k:Key)(d:PyData):List (Key × PyData):=if (ν.any fun q=>decide (q.1=k))=true then ν.map (fun q=>if q.1=k then(q.1,d) else q) else ν ++ [(k,d)]
noncomputable def foldA(μ ν:List (Key × PyData)):List (Key × PyData):=ν.foldl (fun acc q=>putA acc q.1 q.2) μ
abbrev TDP:=DEnds->Rho->List (Key × PyData)->Prop
noncomputable def notL:PyData->Bool
 | .list _=>false
 | _=>true
noncomputable def getA:List (PyData × PyData)->Key->Option PyData
 | [],_=>none
 | q :: r,k=>if asKey q.1=some k then some q.2 else getA r k
end
section
section
variable{fs:List Bool}{y:PyData}{i n:Nat}{ys:List DV}{ρ:Rho}{QLs:List L->Rho->Prop}
theorem pass_fd:pass (false :: fs) (.d y :: ys) ρ QLs=fzL ρ (.d y) fun l ρ1=>pass fs ys ρ1 fun ls ρ2=>QLs (l :: ls) ρ2:=rfl
theorem pass_fs:pass (false :: fs) (.sl i :: ys) ρ QLs=fzL ρ (.sl i) fun l ρ1=>pass fs ys ρ1 fun ls ρ2=>QLs (l :: ls) ρ2:=rfl
theorem flOf_n0:flOf n [] []=[]:=rfl
theorem flOf_fd:flOf n (false :: fs) (.d y :: ys)=flOf (n + 1) fs ys:=rfl
theorem flOf_fs:flOf n (false :: fs) (.sl i :: ys)=flOf (n + 1) fs ys:=rfl
end
end
section
noncomputable def strK:List (PyData × PyData)->Option (List Str)
 | []=>some []
 | (.str x,_) :: r=>(strK r).map (x :: ·)
 | _ :: _=>none
end
end L2
section
namespace Sx
open PySem PySem.W PyProof.Rows
section
variable(lt:Nat->Nat->Bool)
noncomputable def Ev{α:Type}:KasT α->α
 | .ret a=>a
 | .ask i j k=>Ev (k (lt i j))
def qa7r{α β:Type}(f:α->KasT β):∀ t:KasT α,Ev lt (t.bind f)=Ev lt (f (Ev lt t))
 | .ret _=>rfl
 | .ask i j k=>qa7r f (k (lt i j))
def ev_all{α:Type}{n:Nat}{P:α->Prop}:∀ t:KasT α,AllP n P t->P (Ev lt t)
 | .ret _,h=>h
 | .ask i j k,h=>ev_all (k (lt i j)) (h.2.2 _)
def ev_wp{α:Type}{n:Nat}{P:α->Prop}{cmp:Nat->Nat->(Bool->Shared->Prop)->Shared->Prop}{Q:α->Shared->Prop}{s:Shared}(hc:∀ i j (C:Bool->Shared->Prop),i < n->j < n->C (lt i j) s->cmp i j C s):∀ t:KasT α,AllP n P t->Q (Ev lt t) s->t.kasWp cmp Q s
 | .ret a,_,q=>q
 | .ask i j k,h,q=>hc i j _ h.1 h.2.1 (ev_wp hc (k (lt i j)) (h.2.2 _) q)
structure Ord:Prop where
 asym:∀ x y,lt x y=true->lt y x=false
 trans:∀ x y z,lt y x=false->lt z y=false->lt z x=false
abbrev g(p:Array Nat)(i:Nat):Nat:=p.getD i 0
def As(p:Array Nat)(b:Nat):Prop:=∀ i,1 <= i->i < b->lt (g p i) (g p (i - 1))=false
def Ds(p:Array Nat)(b:Nat):Prop:=∀ i,1 <= i->i < b->lt (g p (i - 1)) (g p i)=false
def Eq'(p:Array Nat)(n q:Nat):Prop:=∀ i,n - (q + 1) <= i->i + 1 < n->lt (g p (i + 1)) (g p i)=false
def So(p:Array Nat)(b:Nat):Prop:=∀ i j,i <= j->j < b->lt (g p j) (g p i)=false
variable{lt}
def Ord.refl(O:Ord lt)(x:Nat):lt x x=false:=by
 cases h:lt x x with
 | false=>rfl
 | true=>have:=O.asym x x h;rw [h] at this;exact this
def Ord.lt_le(O:Ord lt){x y z:Nat}(h1:lt x y=true)(h2:lt z y=false):lt x z=true:=by
 cases h:lt x z with
 | true=>rfl
 | false=>have:=O.trans y z x h2 h;rw [h1] at this;cases this
def So.of(O:Ord lt){p:Array Nat}{b:Nat}(h:As lt p b):So lt p b:=by
 intro i j hij hj;induction j with
 | zero =>
  have e:i=0:=by omega
  subst e;exact O.refl _
 | succ j ih =>
  by_cases e:i=j + 1
  ·subst e;exact O.refl _
  ·exact O.trans _ _ _ (ih 'o' 'o') (h (j + 1) 'o' hj)
def Ds.all(O:Ord lt){p:Array Nat}{b:Nat}(h:Ds lt p b):∀ i j,i <= j->j < b->lt (g p i) (g p j)=false:=by
 intro i j hij hj;induction j with
 | zero =>
  have e:i=0:=by omega
  subst e;exact O.refl _
 | succ j ih =>
  by_cases e:i=j + 1
  ·subst e;exact O.refl _
  ·exact O.trans _ _ _ (h (j + 1) 'o' hj) (ih 'o' 'o')
def qa8h{p:Array Nat}{i j:Nat}(hj:j <= p.size)(k:Nat):g (kas_rev p i j) k=if i <= k/\k < j then g p (i + j - 1 - k) else g p k:=by
 unfold g;rw [getD_eq_getD_getElem?,getD_eq_getD_getElem?,getD_eq_getD_getElem?];unfold kas_rev;rw [getElem?_mirror hj _ 'o'];by_cases h:i <= k/\k < j
 ·rw [if_pos h]
  by_cases h2:(i <= k/\k < i + (j - i) / 2) ∨ (j - (j - i) / 2 <= k/\k < j)
  ·rw [if_pos h2]
  ·rw [if_neg h2,show i + j - 1 - k=k by omega]
 ·rw [if_neg h,if_neg 'o']
def qc0w(O:Ord lt){p:Array Nat}{n q:Nat}(hs:n <= p.size)(hq:q + 1 <= n)(d:Ds lt p n)(e:Eq' lt p n q):Ds lt (kas_rev p (n - (q + 1)) n) n:=by
 intro i h1 h2;rw [qa8h hs,qa8h hs];by_cases c1:n - (q + 1) <= i - 1
 ·rw [if_pos ⟨'o','o'⟩,if_pos ⟨'o',h2⟩]
  have:=e (n - (q + 1) + n - 1 - i) 'o' 'o';rw [show n - (q + 1) + n - 1 - (i - 1)=n - (q + 1) + n - 1 - i + 1 by omega];exact this
 ·rw [if_neg 'o']
  by_cases c2:n - (q + 1) <= i
  ·rw [if_pos ⟨c2,h2⟩]
   exact d.all O _ _ 'o' 'o'
  ·rw [if_neg 'o']
   exact d i h1 h2
def qa4y(p:Array Nat)(i j:Nat):(kas_rev p i j).size=p.size:=kas_rev_size i j
def ev_asc(p:Array Nat):∀ f m,m <= Ev lt (kas_asc p f m)/\Ev lt (kas_asc p f m) <= m + f/\(∀ i,m <= i->i < Ev lt (kas_asc p f m)->lt (g p i) (g p (i - 1))=false)/\(Ev lt (kas_asc p f m) < m + f->lt (g p (Ev lt (kas_asc p f m))) (g p (Ev lt (kas_asc p f m) - 1))=true):=by
 intro f;induction f with
 | zero=>intro m;exact⟨le_refl _,le_refl _,fun i h1 h2=>absurd h2 (not_lt.mpr h1),fun h=>absurd h (lt_irrefl _)⟩
 | succ f ih =>
  intro m;have e:Ev lt (kas_asc p (f + 1) m)=Ev lt (if lt (g p m) (g p (m - 1))=true then .ret m else kas_asc p f (m + 1)):=rfl;rw [e];cases h:lt (g p m) (g p (m - 1)) with
  | true =>
   rw [if_pos rfl];exact⟨le_refl _,Nat.le_add_right _ _,fun i h1 h2=>absurd h2 (not_lt.mpr h1),fun _=>h⟩
  | false =>
   rw [if_neg Bool.false_ne_true];obtain⟨a,b,c,d⟩:=ih (m + 1);refine⟨'o','o',fun i h1 h2=>?_,fun h2=>d 'o'⟩;by_cases e:i=m
   ·subst e;exact h
   ·exact c i 'o' h2
def ev_desc(O:Ord lt):∀ f (p:Array Nat) n q,n + f <= p.size->q + 1 <= n->Ds lt p n->Eq' lt p n q ->
  (Ev lt (kas_desc f p n q)).1.size=p.size/\n <= (Ev lt (kas_desc f p n q)).2.1/\(Ev lt (kas_desc f p n q)).2.1 <= n + f/\(Ev lt (kas_desc f p n q)).2.2 + 1 <= (Ev lt (kas_desc f p n q)).2.1/\Ds lt (Ev lt (kas_desc f p n q)).1 (Ev lt (kas_desc f p n q)).2.1/\Eq' lt (Ev lt (kas_desc f p n q)).1 (Ev lt (kas_desc f p n q)).2.1 (Ev lt (kas_desc f p n q)).2.2:=by
 intro f;induction f with
 | zero=>intro p n q _ h2 h3 h4;exact⟨rfl,le_refl _,le_refl _,h2,h3,h4⟩
 | succ f ih =>
  intro p n q h1 h2 h3 h4;have e:Ev lt (kas_desc (f + 1) p n q)=Ev lt (if lt (g p n) (g p (n - 1))=true then(if q > 0 then kas_desc f (kas_rev p (n - (q + 1)) n) (n + 1) 0 else kas_desc f p (n + 1) 0) else .ask (g p (n - 1)) (g p n) fun d=>if d=true then .ret (p,n,q) else kas_desc f p (n + 1) (q + 1)):=rfl;rw [e];have e0:∀ p':Array Nat,Eq' lt p' (n + 1) 0:=fun p' i a b=>by omega
  cases h:lt (g p n) (g p (n - 1)) with
  | true =>
   rw [if_pos rfl];by_cases hq:q > 0
   ·rw [if_pos hq]
    have dr:Ds lt (kas_rev p (n - (q + 1)) n) (n + 1):=fun i a b=>by
     by_cases c:i < n
     ·exact qc0w O 'o' h2 h3 h4 i a c
     ·have ei:i=n:=by omega
      subst ei;rw [qa8h 'o',qa8h 'o',if_pos ⟨'o','o'⟩,if_neg 'o'];have h5:=h3.all O (i - (q + 1)) (i - 1) 'o' 'o';rw [show i - (q + 1) + i - 1 - (i - 1)=i - (q + 1) by omega];exact O.trans _ _ _ (O.asym _ _ h) h5
    have:=ih (kas_rev p (n - (q + 1)) n) (n + 1) 0 (by rw [qa4y];omega) 'o' dr (e0 _);rw [qa4y] at this;exact⟨this.1,'o','o',this.2.2.2.1,this.2.2.2.2⟩
   ·rw [if_neg hq]
    have dr:Ds lt p (n + 1):=fun i a b=>by
     by_cases c:i < n
     ·exact h3 i a c
     ·have ei:i=n:=by omega
      subst ei;exact O.asym _ _ h
    have:=ih p (n + 1) 0 'o' 'o' dr (e0 _);exact⟨this.1,'o','o',this.2.2.2.1,this.2.2.2.2⟩
  | false =>
   rw [if_neg Bool.false_ne_true];have e1:Ev lt (.ask (g p (n - 1)) (g p n) fun d=>if d=true then .ret (p,n,q) else kas_desc f p (n + 1) (q + 1))=Ev lt (if lt (g p (n - 1)) (g p n)=true then .ret (p,n,q) else kas_desc f p (n + 1) (q + 1)):=rfl;rw [e1];cases h5:lt (g p (n - 1)) (g p n) with
   | true =>
    rw [if_pos rfl];exact⟨rfl,le_refl _,Nat.le_add_right _ _,h2,h3,h4⟩
   | false =>
    rw [if_neg Bool.false_ne_true];have dr:Ds lt p (n + 1):=fun i a b=>by
     by_cases c:i < n
     ·exact h3 i a c
     ·have ei:i=n:=by omega
      subst ei;exact h5
    have er:Eq' lt p (n + 1) (q + 1):=fun i a b=>by
     by_cases c:i + 1 < n
     ·exact h4 i 'o' c
     ·have ei:i=n - 1:=by omega
      subst ei;rw [show n - 1 + 1=n by omega];exact h
    have:=ih p (n + 1) (q + 1) 'o' 'o' dr er;exact⟨this.1,'o','o',this.2.2.2.1,this.2.2.2.2⟩
def qb7p{p:Array Nat}{n r:Nat}(h1:1 <= n)(h2:n <= r)(hs:r <= p.size)(d:Ds lt p n):As lt (Ev lt (kas_tail3 n r p)).2 (Ev lt (kas_tail3 n r p)).1/\(Ev lt (kas_tail3 n r p)).2.size=p.size/\(Ev lt (kas_tail3 n r p)).1 <= r:=by
 have e:Ev lt (kas_tail3 n r p)=(Ev lt (kas_asc (kas_rev p 0 n) (r - n) n),kas_rev p 0 n):=qa7r lt _ _;rw [e];obtain⟨a,b,c,_⟩:=ev_asc (lt:=lt) (kas_rev p 0 n) (r - n) n;refine⟨fun i h3 h4=>?_,qa4y _ _ _,by show _ <= r;omega⟩;by_cases hi:i < n
 ·show lt (g (kas_rev p 0 n) i) (g (kas_rev p 0 n) (i - 1))=false
  rw [qa8h 'o',qa8h 'o',if_pos ⟨'o','o'⟩,if_pos ⟨'o','o'⟩];have:=d (0 + n - 1 - (i - 1)) 'o' 'o';rw [show 0 + n - 1 - (i - 1) - 1=0 + n - 1 - i by omega] at this;exact this
 ·exact c i 'o' h4
def qb2d(O:Ord lt){p:Array Nat}{n r:Nat}(h1:1 <= n)(h2:n + 1 <= r)(hs:r <= p.size)(d:Ds lt p (n + 1)):As lt (Ev lt (kas_descPart n r p)).2 (Ev lt (kas_descPart n r p)).1/\(Ev lt (kas_descPart n r p)).2.size=p.size/\(Ev lt (kas_descPart n r p)).1 <= r:=by
 have e:Ev lt (kas_descPart n r p)=Ev lt ((fun x:Array Nat × Nat × Nat=>if x.2.2 > 0 then kas_tail3 x.2.1 r (kas_rev x.1 (x.2.1 - (x.2.2 + 1)) x.2.1) else kas_tail3 x.2.1 r x.1) (Ev lt (kas_desc (r - (n + 1)) p (n + 1) 0))):=qa7r lt _ _;rw [e];obtain⟨a1,a2,a3,a4,a5,a6⟩:=ev_desc O (r - (n + 1)) p (n + 1) 0 'o' 'o' d (fun i a b=>by omega);generalize Ev lt (kas_desc (r - (n + 1)) p (n + 1) 0)=x at a1 a2 a3 a4 a5 a6;obtain⟨p',n',q'⟩:=x
 dsimp only at a1 a2 a3 a4 a5 a6 ⊢
 by_cases hq:q' > 0
 ·rw [if_pos hq]
  have:=qb7p (lt:=lt) (r:=r) 'o' 'o' (by rw [qa4y];omega) (qc0w O 'o' a4 a5 a6);rw [qa4y,a1] at this;exact this
 ·rw [if_neg hq]
  have:=qb7p (lt:=lt) (r:=r) (p:=p') (n:=n') 'o' 'o' 'o' a5;rw [a1] at this;exact this
def qc7j(O:Ord lt){p:Array Nat}{r:Nat}(h1:1 <= r)(hs:r <= p.size):As lt (Ev lt (kas_count r p)).2 (Ev lt (kas_count r p)).1/\(Ev lt (kas_count r p)).2.size=p.size/\(Ev lt (kas_count r p)).1 <= r:=by
 have e:Ev lt (kas_count r p)=Ev lt ((fun n:Nat=>if (n == r)=true then .ret (n,p) else if n > 1 then .ask (g p 0) (g p (n - 1)) fun c=>if c=true then .ret (n,p) else kas_descPart n r (kas_rev p 0 n) else kas_descPart n r p) (Ev lt (kas_asc p (r - 1) 1))):=qa7r lt _ _;rw [e];obtain⟨a,b,c,d⟩:=ev_asc (lt:=lt) p (r - 1) 1;generalize Ev lt (kas_asc p (r - 1) 1)=n at a b c d;have ap:As lt p n:=fun i h3 h4=>c i h3 h4
 dsimp only
 by_cases e1:(n == r)=true
 ·rw [if_pos e1]
  exact⟨ap,rfl,by show n <= r;omega⟩
 ·rw [if_neg e1]
  have hn:n < r:=by
   have:n ≠ r:=by simpa using e1
   omega
  have hd:=d 'o';by_cases e2:n > 1
  ·rw [if_pos e2]
   have e3:Ev lt (.ask (g p 0) (g p (n - 1)) fun c=>if c=true then .ret (n,p) else kas_descPart n r (kas_rev p 0 n))=Ev lt (if lt (g p 0) (g p (n - 1))=true then .ret (n,p) else kas_descPart n r (kas_rev p 0 n)):=rfl;rw [e3];cases h:lt (g p 0) (g p (n - 1)) with
   | true=>rw [if_pos rfl];exact⟨ap,rfl,by show n <= r;omega⟩
   | false =>
    rw [if_neg Bool.false_ne_true];have so:=So.of O ap;have dr:Ds lt (kas_rev p 0 n) (n + 1):=fun i h3 h4=>by
     rw [qa8h 'o',qa8h 'o',if_pos ⟨'o','o'⟩];by_cases ci:i < n
     ·rw [if_pos ⟨'o',ci⟩]
      exact so _ _ 'o' 'o'
     ·have ei:i=n:=by omega
      subst ei;rw [if_neg 'o',show 0 + i - 1 - (i - 1)=0 by omega];exact O.trans _ _ _ (O.asym _ _ hd) h
    have:=qb2d O (p:=kas_rev p 0 n) (n:=n) (r:=r) 'o' 'o' (by rw [qa4y];exact hs) dr;rw [qa4y] at this;exact this
  ·rw [if_neg e2]
   have en:n=1:=by omega
   subst en;exact qb2d O 'c' 'o' hs fun i h3 h4=>by
    have ei:i=1:=by omega
    subst ei;exact O.asym _ _ hd
def qc7k(O:Ord lt){p:Array Nat}{k:Nat}(so:So lt p k):∀ f l r,r - l <= f->l <= r->r <= k->(∀ i,i < l->lt (g p k) (g p i)=false)->(∀ i,r <= i->i < k->lt (g p k) (g p i)=true) ->
  Ev lt (kas_place p k f l r) <= k/\(∀ i,i < Ev lt (kas_place p k f l r)->lt (g p k) (g p i)=false)/\∀ i,Ev lt (kas_place p k f l r) <= i->i < k->lt (g p k) (g p i)=true:=by
 intro f;induction f with
 | zero =>
  intro l r hf h0 hr h1 h2;have e:l=r:=by omega
  subst e;exact⟨hr,h1,h2⟩
 | succ f ih =>
  intro l r hf h0 hr h1 h2;have e:Ev lt (kas_place p k (f + 1) l r)=Ev lt (if l ≥ r then .ret l else .ask (g p k) (g p ((l + r) / 2)) fun c=>if c=true then kas_place p k f l ((l + r) / 2) else kas_place p k f ((l + r) / 2 + 1) r):=rfl;rw [e];by_cases hl:l ≥ r
  ·rw [if_pos hl]
   have e:l=r:=by omega
   subst e;exact⟨hr,h1,h2⟩
  ·rw [if_neg hl]
   have e3:Ev lt (.ask (g p k) (g p ((l + r) / 2)) fun c=>if c=true then kas_place p k f l ((l + r) / 2) else kas_place p k f ((l + r) / 2 + 1) r)=Ev lt (if lt (g p k) (g p ((l + r) / 2))=true then kas_place p k f l ((l + r) / 2) else kas_place p k f ((l + r) / 2 + 1) r):=rfl;rw [e3];cases h:lt (g p k) (g p ((l + r) / 2)) with
   | true =>
    rw [if_pos rfl];exact ih l ((l + r) / 2) 'o' 'o' 'o' h1 fun i a b=>O.lt_le h (so _ _ a b)
   | false =>
    rw [if_neg Bool.false_ne_true];exact ih ((l + r) / 2 + 1) r 'o' 'o' hr (fun i a=>O.trans _ _ _ (so i ((l + r) / 2) 'o' 'o') h) h2
def bub_g{p:Array Nat}{k d:Nat}(hk:k < p.size)(hd:d <= k)(i:Nat):g (bubble p k d) i=if i=k - d then g p k else if k - d < i/\i <= k then g p (i - 1) else g p i:=by
 unfold g;rw [getD_eq_getD_getElem?,getD_eq_getD_getElem?,getD_eq_getD_getElem?,getD_eq_getD_getElem?,getElem?_bubble hk d hd];split
 ·rfl
 ·split<;>rfl
def ev_bin(O:Ord lt):∀ f (p:Array Nat) k,k + f <= p.size->So lt p k->So lt (Ev lt (kas_bin f p k)) (k + f):=by
 intro f;induction f with
 | zero=>intro p k _ so;exact so
 | succ f ih =>
  intro p k hs so;have e:Ev lt (kas_bin (f + 1) p k)=Ev lt (kas_bin f (bubble p k (k - Ev lt (kas_place p k k 0 k))) (k + 1)):=qa7r lt _ _;rw [e];obtain⟨a,b,c⟩:=qc7k O so k 0 k 'o' (zero_le _) 'c' (fun i h=>absurd h (not_lt_zero _)) (fun i h1 h2=>absurd h2 (not_lt.mpr h1));generalize Ev lt (kas_place p k k 0 k)=l at a b c;rw [show k + (f + 1)=(k + 1) + f by omega];refine ih _ _ (by rw [bubble_size];omega) ?_;intro i j hij hj;have hk:k < p.size:=by omega
  rw [bub_g hk 'o',bub_g hk 'o',show k - (k - l)=l by omega];by_cases ej:j=l
  ·rw [if_pos ej]
   by_cases ei:i=l
   ·rw [if_pos ei];exact O.refl _
   ·rw [if_neg ei,if_neg 'o']
    exact b i 'o'
  ·rw [if_neg ej]
   by_cases cj:l < j/\j <= k
   ·rw [if_pos cj]
    by_cases ei:i=l
    ·rw [if_pos ei]
     exact O.asym _ _ (c (j - 1) 'o' 'o')
    ·rw [if_neg ei]
     by_cases ci:l < i/\i <= k
     ·rw [if_pos ci];exact so _ _ 'o' 'o'
     ·rw [if_neg ci];exact so _ _ 'o' 'o'
   ·rw [if_neg cj,if_neg 'o',if_neg 'o']
    exact so _ _ hij 'o'
def ev_sort(O:Ord lt){n:Nat}(hn:1 <= n):So lt (Ev lt (kas_sort n)) n:=by
 have e:Ev lt (kas_sort n)=Ev lt ((fun r:Nat × Array Nat=>if r.1 < n then kas_bin (n - max r.1 1) r.2 (max r.1 1) else .ret r.2) (Ev lt (kas_count n (List.toArray (List.range n))))):=qa7r lt _ _;rw [e];have hz:(List.toArray (List.range n)).size=n:=by simp
 obtain⟨a,b,c⟩:=qc7j O (p:=List.toArray (List.range n)) hn (by rw [hz];exact le_refl _);generalize Ev lt (kas_count n (List.toArray (List.range n)))=x at a b c;obtain⟨m,p⟩:=x
 dsimp only at a b c ⊢
 rw [hz] at b;by_cases h:m < n
 ·rw [if_pos h]
  have so1:So lt p (max m 1):=by
   intro i j hij hj;by_cases hm:j < m
   ·exact So.of O a i j hij hm
   ·have e1:j=0:=by omega
    have e2:i=0:=by omega
    subst e1 e2;exact O.refl _
  have:=ev_bin O (n - max m 1) p (max m 1) 'o' so1;rw [show max m 1 + (n - max m 1)=n by omega] at this;exact this
 ·rw [if_neg h]
  exact fun i j hij hj=>So.of O a i j hij 'o'
end
end Sx
end
section
namespace Sx
open PySem PySem.W PyProof.Rows
noncomputable def srtT(tss:List 'j'):List 'j':=tss.mergeSort (fun a b=>decide (a <= b))
def qb5e(tss:List 'j'):(srtT tss).Perm tss:=List.mergeSort_perm tss _
def qc0x(tss:List 'j'):(srtT tss).Pairwise (· <= ·):=by
 have h:=List.pairwise_mergeSort (le:=fun a b:List Int=>decide (a <= b)) (fun a b c h1 h2=>by
  simp only [decide_eq_true_eq] at *;exact List.le_trans h1 h2) (fun a b=>by
  rcases List.le_total a b with h | h<;>simp [h]) tss
 exact h.imp fun h=>by simpa using h
def qb4e{a tss:List 'j'}(h:a.Perm tss)(hp:a.Pairwise (· <= ·)):a=srtT tss:=
 pw_eq (fun a b h1 h2=>List.le_antisymm h1 h2) (h.trans (qb5e tss).symm) hp (qc0x tss)
noncomputable def ltOf(tss:List 'j')(i j:Nat):Bool:=decide (tss.getD i [] < tss.getD j [])
def ord_of(tss:List 'j'):Ord (ltOf tss) where
 asym:=fun x y h=>by
  unfold ltOf at *;rw [decide_eq_true_eq] at h;rw [decide_eq_false_iff_not];exact List.lt_asymm h
 trans:=fun x y z h1 h2=>by
  unfold ltOf at *;rw [decide_eq_false_iff_not,List.not_lt] at *;exact List.le_trans h1 h2
section
variable{prog:Program}{w:World}{A:Around}{E:Value->Shared->Prop}{s:Shared}
def qc0y{b:Bool}{Q:Bool->Shared->Prop}:∀ (xs ys:List Value) (t t':List Int) (i:Nat) (fin:Bool),IntsAre xs t->IntsAre ys t'->fin=decide (xs.length < ys.length)->Q (decide (t < t')) s->KatLex prog w A b fin Q (xs.zip ys) i s
 | [],ys,t,t',i,fin,h1,h2,hf,q=>by
  rw [List.zip_nil_left];cases h1;have e:fin=decide ([] < t'):=by
   rw [hf];cases h2<;>simp
  rw [e];exact kat_nil q
 | x :: r,[],t,t',i,fin,h1,h2,hf,q=>by
  rw [List.zip_nil_right];cases h2;have e:fin=decide (t < []):=by
   rw [hf];cases h1<;>simp
  rw [e];exact kat_nil q
 | x :: r,y :: u,t,t',i,fin,h1,h2,hf,q=>by
  cases h1 with
  | cons n tk h1 =>
   cases h2 with
   | cons m tk' h2 =>
    rw [List.zip_cons_cons];refine kat_cons (wpAny_eqBool_int ?_);cases hn:(n == m) with
    | true =>
     have e:n=m:=by simpa using hn
     subst e;refine kat_yes (qc0y r u _ _ (i + 1) fin h1 h2 (by rw [hf];simp) ?_);rename_i ts us;have e2:decide (n :: ts < n :: us)=decide (ts < us):=by rw [Bool.eq_iff_iff];simp [List.cons_lt_cons_iff]
     rw [e2] at q;exact q
    | false =>
     have e:n ≠ m:=by simpa using hn
     rename_i ts us;have e2:decide (n :: ts < m :: us)=decide (n < m):=by rw [Bool.eq_iff_iff];simp [List.cons_lt_cons_iff,e]
     rw [e2] at q;refine kat_no ?_;cases (b && i == 0) with
     | true=>exact oneLt_int q
     | false=>exact kat_one _ _ (wpAny_lt_int q)
def tup_ltS{b:Bool}{u v:Value}{t t':List Int}{Q:Bool->Shared->Prop}(hu:TupAt s.heap u t)(hv:TupAt s.heap v t')(q:Q (decide (t < t')) s):wpAny (model prog w) A (keyLt' (tuples' b) u v) Q E s:=by
 obtain⟨a,o,xs,n,rfl,ho,_,hd,hI,_⟩:=hu;obtain⟨a',o',xs',n',rfl,ho',_,hd',hI',_⟩:=hv;exact kat_lt ho hd ho' hd' (qc0y _ _ t t' 0 _ hI hI' 'e' q)
def qb5f{a:Addr}{vs:List Value}{n:Nat}{tss:List 'j'}{P:PySem.Fin->Shared->Prop} (ho:s.heap.get? a=some (seqObj "list" vs.toArray n)) (h64:vs.length < 64) (hl:tss.length=vs.length)
  (ht:∀ i,i < vs.length->TupAt ((((s.heap.update a (Obj.mapSeq fun _=>#[])).push (seqObj "tuple" vs.toArray 0)).push (seqObj "list" #[] 0))) (vs.getD i Value.none) (tss.getD i []))
  (h:∀ is:List Nat,is.Perm (List.range vs.length)->is.map (fun i=>tss.getD i [])=srtT tss->P (.done (.ret .none)) { s with heap:=sortedHeap s.heap a vs (is.map fun i=>vs.getD i Value.none).toArray }) :
  wpAny (model prog w) A (Builtin.«list.sort» ⟨[.ref a],[]⟩) P E s:=by
 rw [list_sort_plain];have ha:a < s.heap.objs.size:=lt_size ho;have hb:vs.toArray.size <= sizeLine:=by rw [size_toArray,sizeLine_eq];omega
 have rgm:∀ {β:Type} (l:List β) (d:β),(List.range l.length).map (fun i=>l.getD i d)=l:=fun l d=>by
  apply List.ext_getElem
  ·simp
  ·intro i h1 h2;simp at h1;simp [h1]
 refine wpAny_bind (listItems_at ho rfl (wpAny_bind (listUpdate_at ho rfl ?_ hb (zero_le _))));obtain⟨e1,ho1⟩:∃ e1,(s.heap.update a (Obj.mapSeq fun _=>#[])).get? a=some (seqObj "list" #[] e1):=⟨_,get?_update_seq ho (fun _=>#[])⟩;refine wpAny_bind (seqEpoch_at ho1 rfl (wpAny_bind (wpAny_newTuple ?_ (by show vs.length <= _;rw [sizeLine_eq];omega))));refine wpAny_bind (wpAny_newList (wpAny_holding ?_) (zero_le _));have ho6:(((s.heap.update a (Obj.mapSeq fun _=>#[])).push (seqObj "tuple" vs.toArray 0)).push (seqObj "list" #[] 0)).get? a=some (seqObj "list" #[] e1):=get?_push_of_some _ (get?_push_of_some _ ho1);show wpAny (model prog w) A _ P E { s with heap:=((s.heap.update a (Obj.mapSeq fun _=>#[])).push (seqObj "tuple" vs.toArray 0)).push (seqObj "list" #[] 0) }
 dsimp only
 by_cases h2:vs.toArray.size < 2
 ·rw [if_pos h2,if_pos h2]
  refine wpAny_bind (wpAny_pure ?_);rw [StateT.run_pure];refine wpAny_bind (wpAny_pure ?_)
  dsimp only
  have es:(arrOf (SortSt.mk' general' (vs.toArray.zip vs.toArray) #[] 7 none)).map (·.2)=vs.toArray:=by
   show(vs.toArray.zip vs.toArray).map (·.2)=_;apply Array.toList_inj.mp;rw [Array.toList_map,Array.toList_zip,List.map_snd_zip 'c']
  rw [es];refine wpAny_bind (seqEpoch_at ho6 rfl (wpAny_bind (listUpdate_at ho6 rfl ?_ (zero_le _) (le_trans hb (le_succ _)))));simp only [bne_self_eq_false,false_eq_true,if_false];have hv:vs.length < 2:=by rw [size_toArray] at h2;exact h2
  have pwt:tss.Pairwise (· <= ·):=by
   match tss,(show tss.length < 2 by omega) with
   | [],_=>exact List.Pairwise.nil
   | [x],_=>exact List.pairwise_singleton _ _
  have:=h (List.range vs.length) (List.Perm.refl _) (by rw [← hl,rgm];exact qb4e (List.Perm.refl _) pwt);rw [rgm] at this;exact wpAny_pure this
 ·rw [if_neg h2,if_neg h2]
  have h2':2 <= vs.length:=by rw [size_toArray] at h2;omega
  obtain⟨fs,k1,k2,k3⟩:=qb7i (vs:=vs) (h:=(((s.heap.update a (Obj.mapSeq fun _=>#[])).push (seqObj "tuple" vs.toArray 0)).push (seqObj "list" #[] 0))) fun v hv=>by
   obtain⟨i,hi,e⟩:=getElem_of_mem hv;have:=ht i hi;rw [show vs.getD i Value.none=v by rw [getD_eq_getElem?_getD,getElem?_eq_getElem hi];exact e] at this;exact⟨_,this⟩
  refine wpAny_bind (kat_kind (T:=.type "int") k1 'o' (fun v hv=>?_) 'd' ?_)
  ·obtain⟨n,t,rfl⟩:=k3 v hv
   exact .now
  have an:=qc7f (n:=vs.length) 'o';have pn:=ev_all (ltOf tss) _ an;have so:=ev_sort (ord_of tss) (n:=vs.length) 'o';refine wpAny_bind (wpAny_mono (kat_run (Q:=fun st' s'=>s'={ s with heap:=((s.heap.update a (Obj.mapSeq fun _=>#[])).push (seqObj "tuple" vs.toArray 0)).push (seqObj "list" #[] 0) }/\failedOf st'=none/\arrOf st'=(Ev (ltOf tss) (kas_sort vs.length)).map (kas_item (vs.toArray.zip vs.toArray))) (G:=fun p s'=>p=Ev (ltOf tss) (kas_sort vs.length)/\s'={ s with heap:=((s.heap.update a (Obj.mapSeq fun _=>#[])).push (seqObj "tuple" vs.toArray 0)).push (seqObj "list" #[] 0) })
   rfl h2' h64 (fun p st' s' a1 a2 a3 a4=>⟨a4.2,a3,by rw [a2,a4.1]⟩) (ev_wp (ltOf tss) (fun i j C hi hj hC=>?_) _ an ⟨rfl,rfl⟩)) ?_ fun _ _ e=>e)
  ·unfold kas_ask
   exact tup_ltS (ht i hi) (ht j hj) hC
  generalize Ev (ltOf tss) (kas_sort vs.length)=p at pn so;rintro⟨⟨⟩,st'⟩ s' ⟨rfl,hf,har⟩
  dsimp only
  have hout:=kat_snds rfl har;rw [hout];have pnl:p.toList.Perm (List.range vs.length):=Array.perm_iff_toList_perm.mp pn;have psz:p.toList.length=vs.length:=by rw [pnl.length_eq,length_range]
  have hsrt:p.toList.map (fun i=>tss.getD i [])=srtT tss:=by
   refine qb4e ?_ ?_
   ·have:=pnl.map (fun i=>tss.getD i [])
    rw [← hl,rgm] at this;exact this
   ·rw [List.pairwise_iff_getElem]
    intro i j hi hj hij;rw [length_map] at hi hj;rw [List.getElem_map,List.getElem_map];have:=so i j (le_of_lt hij) 'o';unfold ltOf g at this;rw [decide_eq_false_iff_not,List.not_lt] at this;have gi:∀ k,k < p.toList.length->p.getD k 0=p.toList[k]!:=fun k hk=>by
     rw [getD_eq_getD_getElem?];simp at hk;simp [hk]
    have e1:p.getD i 0=p.toList[i]:=by rw [getD_eq_getD_getElem?,← getElem?_toList,getElem?_eq_getElem hi];rfl
    have e2:p.getD j 0=p.toList[j]:=by rw [getD_eq_getD_getElem?,← getElem?_toList,getElem?_eq_getElem hj];rfl
    rw [e1,e2] at this;exact this
  refine wpAny_bind (seqEpoch_at ho6 rfl (wpAny_bind (listUpdate_at ho6 rfl ?_ (zero_le _) (by
   show(List.toArray _).size <= _;rw [size_toArray,length_map,psz,sizeLine_eq];omega))))
  rw [hf];simp only [bne_self_eq_false,false_eq_true,if_false];exact wpAny_pure (h _ pnl hsrt)
end
end Sx
end
namespace L2
open PySem PySem.Spec PyProof.Rows
section
section
variable{prog:Program}{w:World}{A:Around}{E:Value->Shared->Prop}{s:Shared}
def qb7q{l:Addr}{vs:List Value}{tss:List 'j'}{Q:Value->Shared->Prop}(hl:s.heap.IsList l vs.toArray)(hn:tss.length=vs.length)(ht:∀ i,i < vs.length->Sx.TupAt s.heap (vs.getD i Value.none) (tss.getD i []))(h64:vs.length < 64)
  (h:∀ is:List Nat,is.Perm (List.range vs.length)->is.map (fun i=>tss.getD i [])=Sx.srtT tss->Q (.ref (s.heap.objs.size + 1)) { s with heap:=sortedAll s.heap vs (is.map fun i=>vs.getD i Value.none).toArray }):wpAny (model prog w) A (call (.builtin "sorted") [.ref l]) Q E s:=by
 refine call_function_entry kind_sorted plain_sorted entry_sorted (args_sorted1 _) ?_;unfold Builtin.«sorted»;refine wpAny_bind (m:=checkCount "sorted" 1 1 _) (wpAny_pure (wpAny_bind (collect_list hl ?_ (by rw [sizeLine_eq];omega))));refine wpAny_bind (wpAny_newList ?_ (by rw [sizeLine_eq];omega));have hz:((s.heap.push (seqObj "list" #[] 0)).update s.heap.objs.size (Obj.mapSeq (· ++ vs.toArray))).objs.size=s.heap.objs.size + 1:=by rw [Heap.size_update,size_push']
 have oL:(((s.heap.push (seqObj "list" #[] 0)).update s.heap.objs.size (Obj.mapSeq (· ++ vs.toArray))).push (seqObj "list" vs.toArray 0)).get? (s.heap.objs.size + 1)=some (seqObj "list" vs.toArray 0):=by rw [← hz];exact get?_push_size _ rfl
 show wpAny _ _ _ _ _ { s with heap:=(((s.heap.push (seqObj "list" #[] 0)).update s.heap.objs.size (Obj.mapSeq (· ++ vs.toArray))).push (seqObj "list" vs.toArray 0)) };rw [hz];have keep:∀ b o,s.heap.get? b=some o->(((((((s.heap.push (seqObj "list" #[] 0)).update s.heap.objs.size (Obj.mapSeq (· ++ vs.toArray))).push (seqObj "list" vs.toArray 0)).update (s.heap.objs.size + 1) (Obj.mapSeq fun _=>#[])).push (seqObj "tuple" vs.toArray 0)).push (seqObj "list" #[] 0))).get? b=some o:=fun b o q=>by
  have hlt:b < s.heap.objs.size:=lt_size q;refine get?_push_of_some _ (get?_push_of_some _ ?_);rw [Heap.get?_update_ne _ _ _ _ (ne_of_lt (lt_succ_of_lt hlt))];refine get?_push_of_some _ ?_;rw [Heap.get?_update_ne _ _ _ _ (ne_of_lt hlt)];exact get?_push_of_some _ q
 refine wpAny_bind (wpAny_holding (wpAny_call_entry slot_list_sort ⟨_,oL,rfl⟩ entry_list_sort (Sx.qb5f oL h64 hn (fun i hi=>qb2c (ht i hi) keep) fun is hp he=>⟨_,rfl,?_⟩) (args_list_sort _)));exact wpAny_pure ⟨_,rfl,h is hp he⟩
end
section
variable{K:W.Frag}{H:Hp}{S:Addr->Prop}
def qb0b{tss:List 'j'}{xs:List V}(h:qa0b K H S (tss.map encT) xs):∀ is:List Nat,(∀ i ∈ is,i < tss.length)->qa0b K H S ((is.map fun i=>tss.getD i []).map encT) (is.map fun i=>xs.getD i .non)
 | [],_=>by unfold qa0b;rfl
 | i :: r,hi=>by
  have h1:=hi i mem_cons_self;obtain⟨v,e1,hd⟩:=h.get (i:=i) (d:=encT (tss.getD i [])) (by rw [getElem?_map,getD_eq_getElem?_getD,getElem?_eq_getElem h1];rfl);rw [map_cons,map_cons,map_cons];unfold qa0b;refine⟨_,_,rfl,?_,qb0b h r fun j hj=>hi j (mem_cons_of_mem _ hj)⟩;have ex:xs.getD i V.non=v:=by rw [getD_eq_getElem?_getD,e1];rfl
  rw [ex];exact hd
def qb1e{xs:List V}{us:List Value}(h:Vals xs us):∀ is:List Nat,(∀ i ∈ is,i < xs.length)->Vals (is.map fun i=>xs.getD i .non) (is.map fun i=>us.getD i Value.none)
 | [],_=>.nil
 | i :: r,hi=>by
  have h1:=hi i mem_cons_self;obtain⟨u,e1,hr⟩:=h.get (i:=i) (x:=xs[i]) (getElem?_eq_getElem h1);rw [map_cons,map_cons];refine .cons ?_ (qb1e h r fun j hj=>hi j (mem_cons_of_mem _ hj));rw [getD_eq_getElem?_getD,getD_eq_getElem?_getD,getElem?_eq_getElem h1,e1];exact hr
noncomputable def rSrtT(K:W.Frag):List V->Hp->VK->Prop:=fun xs H Q=>∃ v S,∃ tss:List 'j',xs=[v]/\AtD K H S (.list (tss.map encT)) v/\(∀ t ∈ tss,t ≠ [])/\tss.length < 64/\∀ (p:Addr) (xs':List V),H p=none->qa0b K H S ((Sx.srtT tss).map encT) xs'->Q (.ref p) (upd H p (.lst xs'))
end
section
variable{X:Cx}
def qb7r{pins:List 'b'}{σ:List (Option V)}{H:Hp}{s:Shared}{S:Addr->Prop}(I:Inv X pins σ H s){tss:List 'j'}{xs:List V}{its:List Value}(hne:∀ t ∈ tss,t ≠ [])(h:qa0b X.K H S (tss.map encT) xs)(v:Vals xs its):∀ i,i < its.length->Sx.TupAt s.heap (its.getD i Value.none) (tss.getD i []):=fun i hi=>by
 have hl:its.length=tss.length:=by rw [← v.length,h.length,length_map]
 have hi2:i < tss.length:=by omega
 have ht:tss.getD i []=tss[i]:=by rw [getD_eq_getElem?_getD,getElem?_eq_getElem hi2];rfl
 obtain⟨x,e1,hd⟩:=h.get (i:=i) (d:=encT tss[i]) (by rw [getElem?_map,getElem?_eq_getElem hi2];rfl);obtain⟨u,e2,r⟩:=v.get e1;rw [ht,getD_eq_getElem?_getD,e2];obtain⟨a,ys,rfl,hq,tt⟩:=qa3e hd;have ey:=ints_of_all tt;subst ey;obtain⟨its',rv,pl,hz⟩:=I.tuple hq;cases r;obtain⟨o,ho,hc,n,hdt⟩:=pl;exact⟨a,o,its'.toArray,n,rfl,ho,hc,hdt,qb0n rv,hne _ (getElem_mem hi2)⟩
def qc4l:qa2l X (.builtin "sorted") (rSrtT X.K):=by
 intro pins s σ H xs us Q I rs h;obtain⟨v,S,tss,rfl,hd,hne,hn,q⟩:=h;obtain⟨u,rfl,r⟩:=vals1 rs;obtain⟨a,ys,rfl,_,hq,t⟩:=qa4a hd;cases r;obtain⟨its,rv,pl,hz⟩:=I.list (SqL.of hq);have hl:its.length=tss.length:=by rw [← rv.length,t.length,length_map]
 refine qb7q pl.isList hl.symm (qb7r I hne t rv) 'o' fun is hp he=>?_;have hin:∀ i ∈ is,i < its.length:=fun i hi=>mem_range.mp (hp.mem_iff.mp hi);have a1:=qb0b t is (fun i hi=>by have:=hin i hi;omega);rw [he] at a1;have v1:=qb1e rv is (fun i hi=>by have:=hin i hi;rw [rv.length];exact this);obtain⟨e,hoe⟩:=sortedAll_at s.heap its (is.map fun i=>its.getD i Value.none).toArray;have hle:(is.map fun i=>ys.getD i V.non).length <= sizeLine:=by
  rw [length_map,hp.length_eq,length_range,sizeLine_eq];omega
 exact⟨.ref _,_,I.laid (a:=s.heap.objs.size + 1) (o:=.lst (is.map fun i=>ys.getD i V.non)) (t':=s.toks) (fun b o e=>sortedAll_old e) (le_succ _) ⟨hle,_,e,v1,hoe⟩,rfl,q _ _ (I.hok.fresh (le_succ _)) a1⟩
end
noncomputable def qa7c:List PyData->Option (List 'j')
 | []=>some []
 | .tuple xs :: r=>(qa2z xs).bind fun t=>(qa7c r).map (t :: ·)
 | _ :: _=>none
def qb2q:∀ tss:List 'j',qa7c (tss.map encT)=some tss
 | []=>rfl
 | t :: r=>by
  show(qa2z (t.map .int)).bind (fun t=>(qa7c (r.map encT)).map (t :: ·))=_;rw [ints_of,bind_some,qb2q r];rfl
def qb1f:∀ {xs:List PyData} {tss:List 'j'},qa7c xs=some tss->xs=tss.map encT
 | [],tss,h=>by cases h;rfl
 | .tuple xs :: r,tss,h=>by
  have h':(qa2z xs).bind (fun t=>(qa7c r).map (t :: ·))=some tss:=h;obtain⟨t,h1,h2⟩:=bind_eq_some_iff.mp h';obtain⟨qs,h3,rfl⟩:=map_eq_some_iff.mp h2;rw [qb1f h3,ints_map h1];rfl
noncomputable def fSrtT:FC:=fun ds=>match ds with
 | [.list xs]=>(qa7c xs).bind fun tss=>if (tss.all fun t=>!t.isEmpty)=true/\tss.length < 64 then some (.list ((Sx.srtT tss).map encT)) else none
 | _=>none
def qc7l{tss:List 'j'}(h:∀ t ∈ tss,t ≠ [])(h2:tss.length < 64):fSrtT [.list (tss.map encT)]=some (.list ((Sx.srtT tss).map encT)):=by
 show(qa7c (tss.map encT)).bind _=_;rw [qb2q,bind_some,if_pos ⟨all_eq_true.mpr fun t ht=>by
  have:=h t ht;cases t with
  | nil=>exact absurd rfl this
  | cons _ _=>rfl,h2⟩]
def ad_srtT{K:W.Frag}:AdC K (rSrtT K) fSrtT:=by
 intro S H vs ds z Q f h e k;unfold fSrtT at e;split at e
 ·rename_i xs
  obtain⟨tss,q1,e2⟩:=bind_eq_some_iff.mp e;split at e2
  ·rename_i hc
   cases e2
   obtain⟨v,rfl,h1⟩:=h.one;have e1:=qb1f q1;subst e1;refine⟨v,Any,tss,rfl,h1.any,fun t ht hn=>?_,hc.2,fun p xs' hp ha=>k _ _ (qa0y hp _) (qa2f (f p hp) qa0n ((qb2p ha).same (qa0y hp _)))⟩;have:=all_eq_true.mp hc.1 t ht;rw [hn] at this;cases this
  ·cases e2
 ·cases e
end
end L2
section
namespace Sx
open PySem
end Sx
end
section
namespace Sx
open PySem
section
variable{prog:Program}{w:World}{K:Type}[DecidableEq K]{knd:KeyKind prog w K}{dec:Value->K}
variable{A:Around}{E:Value->Shared->Prop}{s:Shared}
end
end Sx
end
section
namespace Sx
open PySem
section
variable{prog:Program}{w:World}{K:Type}[DecidableEq K]{knd:KeyKind prog w K}{dec:Value->K}
variable{A:Around}{E:Value->Shared->Prop}{s:Shared}
end
end Sx
end
section
namespace Sx
open PySem
section
variable{prog:Program}{w:World}{K:Type}[DecidableEq K]{knd:KeyKind prog w K}{dec:Value->K}
variable{A:Around}{E:Value->Shared->Prop}{s:Shared}
end
end Sx
end
section
namespace Sx
open PySem
section
variable{prog:Program}{w:World}{K:Type}[DecidableEq K]{knd:KeyKind prog w K}{dec:Value->K}
variable{A:Around}{E:Value->Shared->Prop}{s:Shared}
end
end Sx
end
namespace L2
open PySem PySem.Spec PyProof.Rows
section
noncomputable def unS(a b:List Str):List Str:=Sx.srtS (Sx.uniq (a ++ b))
noncomputable def txD:List PyData->Option (List Str)
 | [.list xs]=>qa4w xs
 | [.tuple xs]=>qa4w xs
 | _=>none
def dSU(da db:TDA):TDE:=fun ρ Q=>da ρ fun xs ρ1=>need (qa1b ρ1 xs) fun ds=>need (txD ds) fun a=>a.length <= 3/\db ρ1 fun ys ρ2=>need (qa1b ρ2 ys) fun es=>need (txD es) fun b=>b.length <= 3/\Q (.d (.list ((unS a b).map .str))) ρ2
end
section
noncomputable def kQ(p:Str × PyData):Key × PyData:=(Sum.inr p.1,p.2)
noncomputable def pairQ(p:Str × PyData):PyData:=.tuple [.str p.1,p.2]
section
variable{K:W.Frag}{H:Hp}{S:Addr->Prop}
noncomputable def fGetD:PyData->List PyData->Option PyData:=fun x ds=>match x,ds with
 | .dict kvs,[.str k,d]=>if notL d=true then some ((getA kvs (Sum.inr k)).getD d) else none
 | _,_=>none
def dGetD(dd:TDE)(da:TDA):TDE:=fun ρ Q=>dd ρ fun x ρ1=>need (qa0i ρ1 x) fun dx=>(∃ kvs,dx=.dict kvs)/\da ρ1 fun ys ρ2=>need (qa0i ρ2 x) fun dx2=>need (qa1b ρ2 ys) fun ds=>need (fGetD dx2 ds) fun z=>Q (.d z) ρ2
end
theorem dGetD_a{d1:TDE}{da:TDA}{ρ:Rho}{Q:DV->Rho->Prop}:dGetD d1 da ρ Q=d1 ρ fun x ρ1=>need (qa0i ρ1 x) fun dx=>(∃ kvs,dx=.dict kvs)/\da ρ1 fun ys ρ2=>need (qa0i ρ2 x) fun dx2=>need (qa1b ρ2 ys) fun ds=>need (fGetD dx2 ds) fun z=>Q (.d z) ρ2:=rfl
theorem dSU_a{da db:TDA}{ρ:Rho}{Q:DV->Rho->Prop}:dSU da db ρ Q=da ρ fun xs ρ1=>need (qa1b ρ1 xs) fun ds=>need (txD ds) fun a=>a.length <= 3/\db ρ1 fun ys ρ2=>need (qa1b ρ2 ys) fun es=>need (txD es) fun b=>b.length <= 3/\Q (.d (.list ((unS a b).map .str))) ρ2:=rfl
end
end L2
section
namespace Sx
open PySem PySem.W PyProof.Rows
end Sx
namespace L2
open PySem PySem.Spec PyProof.Rows
end L2
end
namespace L2
open PySem PySem.Spec PyProof.Rows
section
section
variable{K:W.Frag}
def dCopyP(i:Nat)(da:TDA)(dp:TDP):TDS:=fun D ρ=>da ρ fun xs ρ1=>need (qa1b ρ1 xs) fun ds=>i < ρ1.length/\∃ ν:List (Key × PyData),ds=[.dict (ν.map kD)]/\dp D (ρ1.set i none) ν
end
theorem qc7m{i:Nat}{da:TDA}{dp:TDP}{D:DEnds}{ρ:Rho}:dCopyP i da dp D ρ=da ρ fun xs ρ1=>need (qa1b ρ1 xs) fun ds=>i < ρ1.length/\∃ ν:List (Key × PyData),ds=[.dict (ν.map kD)]/\dp D (ρ1.set i none) ν:=rfl
end
section
mutual
noncomputable def ndD:PyData->Bool
 | .dict _=>false
 | .list ds=>ndA ds
 | .tuple ds=>ndA ds
 | _=>true
noncomputable def ndA:List PyData->Bool
 | []=>true
 | d :: r=>ndD d && ndA r
end
section
variable{K:W.Frag}{H H':Hp}{S S':Addr->Prop}{ok:Bool}
mutual
def AtD.carry(hl:∀ a xs,S a->H a=some (.lst xs)->S' a/\H' a=some (.lst xs))(hd:ok=true->∀ a κ,S a->H a=some (.dK κ)->S' a/\H' a=some (.dK κ))(ht:∀ a xs,SqT K H a xs->SqT K H' a xs) :
  ∀ (d:PyData) (v:V),ok=true ∨ ndD d=true->AtD K H S d v->AtD K H' S' d v
 | .none,_,_,h=>by unfold AtD at h ⊢;exact h
 | .bool _,_,_,h=>by unfold AtD at h ⊢;exact h
 | .int _,_,_,h=>by unfold AtD at h ⊢;exact h
 | .str _,_,_,h=>by unfold AtD at h ⊢;exact h
 | .list ds,v,n,h=>by
  unfold AtD at h ⊢;obtain⟨a,xs,e1,s,q,r⟩:=h;obtain⟨s',q'⟩:=hl a xs s q;exact⟨a,xs,e1,s',q',qa0b.carry hl hd ht ds xs (n.imp id fun z=>by unfold ndD at z;exact z) r⟩
 | .tuple ds,v,n,h=>by
  unfold AtD at h ⊢;obtain⟨a,xs,e1,q,r⟩:=h;exact⟨a,xs,e1,ht a xs q,qa0b.carry hl hd ht ds xs (n.imp id fun z=>by unfold ndD at z;exact z) r⟩
 | .dict kvs,v,n,h=>by
  unfold AtD at h ⊢;obtain⟨a,ν,e1,s,q,e2⟩:=h;have o:ok=true:=n.elim id fun z=>by unfold ndD at z;cases z
  obtain⟨s',q'⟩:=hd o a ν s q;exact⟨a,ν,e1,s',q',qa0l.carry o hl hd ht kvs ν e2⟩
def qa0b.carry(hl:∀ a xs,S a->H a=some (.lst xs)->S' a/\H' a=some (.lst xs))(hd:ok=true->∀ a κ,S a->H a=some (.dK κ)->S' a/\H' a=some (.dK κ))(ht:∀ a xs,SqT K H a xs->SqT K H' a xs) :
  ∀ (ds:List PyData) (vs:List V),ok=true ∨ ndA ds=true->qa0b K H S ds vs->qa0b K H' S' ds vs
 | [],_,_,h=>by unfold qa0b at h ⊢;exact h
 | d :: ds,vs,n,h=>by
  unfold qa0b at h ⊢;obtain⟨v,r,e1,h1,h2⟩:=h;have n1:ok=true ∨ ndD d=true:=n.imp id fun z=>by unfold ndA at z;rw [and_eq_true] at z;exact z.1
  have n2:ok=true ∨ ndA ds=true:=n.imp id fun z=>by unfold ndA at z;rw [and_eq_true] at z;exact z.2
  exact⟨v,r,e1,AtD.carry hl hd ht d v n1 h1,qa0b.carry hl hd ht ds r n2 h2⟩
def qa0l.carry(o:ok=true)(hl:∀ a xs,S a->H a=some (.lst xs)->S' a/\H' a=some (.lst xs))(hd:ok=true->∀ a κ,S a->H a=some (.dK κ)->S' a/\H' a=some (.dK κ))(ht:∀ a xs,SqT K H a xs->SqT K H' a xs) :
  ∀ (kvs:List (PyData × PyData)) (κ:List (Key × V)),qa0l K H S kvs κ->qa0l K H' S' kvs κ
 | [],_,h=>by unfold qa0l at h ⊢;exact h
 | (x,d) :: r,κ,h=>by
  unfold qa0l at h ⊢;obtain⟨k,v,t,e1,e2,h1,h2⟩:=h;exact⟨k,v,t,e1,e2,AtD.carry hl hd ht d v (.inl o) h1,qa0l.carry o hl hd ht r t h2⟩
end
end
noncomputable def Rc.rebA(c:Rc)(O:Own)(H:Hp):Rc:={ c with H0:=H,M:=fun a=>∃ j,O j=some a,A:=fun a=>(∃ j,O j=some a) ∨ H a=none }
noncomputable def ndL:Option L->Bool
 | some (.d x)=>ndD x
 | some (.own xs)=>ndA xs
 | some (.bor xs)=>ndA xs
 | _=>true
structure EndsI(K:W.Frag)(c:Rc)(i:Nat)(s0:Option (Option V))(S0:Addr->Prop)(H0:Hp)(D:Ends)(Dd:DEnds):Prop where
 nx:∀ O ρ σ H,Rel K c O ρ σ H->Pers K S0 H0 (live c O) H->σ[i]? = s0->Dd.nx ρ->D.nx σ H
 rt:∀ r O ρ σ H v,RetOk K c O ρ σ H r v->Dd.rt r ρ->D.rt v H
 bk:∀ O ρ σ H,Rel K c O ρ σ H->Pers K S0 H0 (live c O) H->σ[i]? = s0->Dd.bk ρ->D.bk σ H
 ct:∀ O ρ σ H,Rel K c O ρ σ H->Pers K S0 H0 (live c O) H->σ[i]? = s0->Dd.ct ρ->D.ct σ H
 oa:∀ p,c.H0 p=none->c.A p
noncomputable def ndR:Nat->Rho->Bool
 | _,[]=>true
 | 0,_ :: r=>r.all ndL
 | i + 1,l :: r=>ndL l && ndR i r
abbrev TPt:=(Rho->List (Key × PyData)->Prop)->Rho->List (Key × PyData)->Prop
noncomputable def dLent(i:Nat)(ρ:Rho)(ν:List (Key × PyData)):Rho:=ρ.set i (some (.d (.dict (ν.map kD))))
def pStm(i:Nat)(dt:TDS):TPt:=fun N ρ ν=>dt { nx:=fun ρ'=>i < ρ'.length/\ndR i ρ'=true/\N (ρ'.set i none) ν,rt:=fun _ _=>False } (dLent i ρ ν)
def pIf(i:Nat)(dc:TDT)(da db:TPt):TPt:=fun N ρ ν=>dc (dLent i ρ ν) fun b ρ'=>i < ρ'.length/\ndR i ρ'=true/\if b=true then da N (ρ'.set i none) ν else db N (ρ'.set i none) ν
noncomputable def pSeq(da db:TPt):TPt:=fun N ρ ν=>da (fun ρ' ν'=>db N ρ' ν') ρ ν
def pPut(i:Nat)(dk dv:TDE):TPt:=fun N ρ ν=>ν.length < 1000/\dv (dLent i ρ ν) fun y ρ1=>fz ρ1 y fun dy ρ2=>dk ρ2 fun z ρ3=>i < ρ3.length/\ndR i ρ3=true/\ndD dy=true/\need (qa0i ρ3 z) fun dz=>need (asKey dz) fun k=>N (ρ3.set i none) (putA ν k dy)
def dCopyT(i:Nat)(da:TDA)(dp:TDP):TDS:=fun D ρ=>da ρ fun xs ρ1=>need (qa1b ρ1 xs) fun ds=>i < ρ1.length/\∃ ps:List (Str × PyData),ds=[.tuple (ps.map pairQ)]/\ps.length <= 1000/\dp D (ρ1.set i none) (foldA [] (ps.map kQ))
theorem qc7n{i:Nat}{da:TDA}{dp:TDP}{D:DEnds}{ρ:Rho}:dCopyT i da dp D ρ=da ρ fun xs ρ1=>need (qa1b ρ1 xs) fun ds=>i < ρ1.length/\∃ ps:List (Str × PyData),ds=[.tuple (ps.map pairQ)]/\ps.length <= 1000/\dp D (ρ1.set i none) (foldA [] (ps.map kQ)):=rfl
theorem pStm_a{i:Nat}{dt:TDS}{N:Rho->List (Key × PyData)->Prop}{ρ:Rho}{ν:List (Key × PyData)}:pStm i dt N ρ ν=dt { nx:=fun ρ'=>i < ρ'.length/\ndR i ρ'=true/\N (ρ'.set i none) ν,rt:=fun _ _=>False } (ρ.set i (some (.d (.dict (ν.map kD))))):=rfl
theorem pIf_a{i:Nat}{dc:TDT}{da db:TPt}{N:Rho->List (Key × PyData)->Prop}{ρ:Rho}{ν:List (Key × PyData)}:pIf i dc da db N ρ ν=dc (ρ.set i (some (.d (.dict (ν.map kD))))) fun b ρ'=>i < ρ'.length/\ndR i ρ'=true/\if b=true then da N (ρ'.set i none) ν else db N (ρ'.set i none) ν:=rfl
theorem pSeq_a{da db:TPt}{N:Rho->List (Key × PyData)->Prop}{ρ:Rho}{ν:List (Key × PyData)}:pSeq da db N ρ ν=da (fun ρ' ν'=>db N ρ' ν') ρ ν:=rfl
theorem pPut_a{i:Nat}{dk dv:TDE}{N:Rho->List (Key × PyData)->Prop}{ρ:Rho}{ν:List (Key × PyData)}:pPut i dk dv N ρ ν=(ν.length < 1000/\dv (ρ.set i (some (.d (.dict (ν.map kD))))) fun y ρ1=>fz ρ1 y fun dy ρ2=>dk ρ2 fun z ρ3=>i < ρ3.length/\ndR i ρ3=true/\ndD dy=true/\need (qa0i ρ3 z) fun dz=>need (asKey dz) fun k=>N (ρ3.set i none) (putA ν k dy)):=rfl
end
end L2
section
namespace Sx
open PySem
end Sx
namespace L2
open PySem PySem.Spec PyProof.Rows
end L2
end
namespace L2
open PySem PySem.Spec PyProof.Rows
section
noncomputable def grpAdd(L:List (Int × List Nat))(m:Int)(i:Nat):List (Int × List Nat):=if (L.any fun t=>decide (t.1=m))=true then L.map (fun t=>if t.1=m then(t.1,t.2 ++ [i]) else t) else L ++ [(m,[i])]
noncomputable def grpN(ms:List Int):Nat->List (Int × List Nat)
 | 0=>[]
 | n + 1=>match ms[n]? with
  | some m=>grpAdd (grpN ms n) m n
  | none=>grpN ms n
noncomputable def nV(ps:List Nat):List V:=ps.map fun(c:Nat)=>V.int (c:Int)
abbrev TG3:=List (Int × Addr × List Nat)
noncomputable def kT3(T:TG3):List (Key × V):=T.map fun t=>(Sum.inl t.1,V.ref t.2.1)
structure PB(H:Hp)(p:Addr)(ms:List Int)(i:Nat)(T:TG3)(H':Hp):Prop where
 eq:(T.map fun t=>(t.1,t.2.2))=grpN ms i
 dk:H' p=some (.dK (kT3 T))
 at_:∀ t ∈ T,H' t.2.1=some (.lst (nV t.2.2))/\H t.2.1=none/\t.2.1 ≠ p
 nq:(T.map (·.2.1)).Nodup
 nm:(T.map (·.1)).Nodup
 len:T.length <= i
 pl:∀ t ∈ T,t.2.2 ≠ []/\t.2.2.length <= i
 same:Same H H'
end
section
def valsN:∀ {us:List Value} {ns:List Int},IntsAre us ns->Vals (ns.map V.int) us
 | [],_,h=>by cases h;exact .nil
 | u :: r,_,h=>by
  cases h with
  | cons n t h=>exact .cons ⟨t,rfl⟩ (valsN h)
def qc0z{X:Cx}{pins:List 'b'}{σ:St}{H:Hp}{s:Shared}{a:Addr}{ys:List V}(I:Inv X pins σ H s)(h:SqL X.K H a ys ∨ SqT X.K H a ys) :
  ∃ (its:List Value) (T:String) (o:Obj) (n:Nat),Vals ys its/\(T = "list" ∨ T = "tuple")/\s.heap.get? a=some o/\o.cls=.type T/\o.data=.seq its.toArray n/\ys.length <= sizeLine:=by
 rcases h with h | h
 ·obtain⟨its,rv,⟨o,n,e,c,_,d⟩,z⟩:=I.list h
  exact⟨its,"list",o,n,rv,.inl rfl,e,c,d,z⟩
 ·obtain⟨its,rv,⟨o,e,c,n,d⟩,z⟩:=I.tuple h
  exact⟨its,"tuple",o,n,rv,.inr rfl,e,c,d,z⟩
noncomputable def rSrtTT(K:W.Frag):List V->Hp->VK->Prop:=fun xs H Q=>∃ v S,∃ tss:List 'j',xs=[v]/\AtD K H S (.tuple (tss.map encT)) v/\(∀ t ∈ tss,t ≠ [])/\tss.length < 64/\∀ p xs',H p=none->qa0b K H S ((Sx.srtT tss).map encT) xs'->Q (.ref p) (upd H p (.lst xs'))
def qb3m{X:Cx}:qa2l X (.builtin "sorted") (rSrtTT X.K):=by
 intro pins s σ H xs us Q I rs h;obtain⟨v,S,tss,rfl,hd,hne,hn,q⟩:=h;obtain⟨u,rfl,r⟩:=vals1 rs;obtain⟨a,ys,rfl,hq,t⟩:=qa3e hd;cases r;obtain⟨its,T,o,n,rv,hT,ho,hc,hdt,hz⟩:=qc0z I (.inr hq);have hl:its.length=tss.length:=by rw [← rv.length,t.length,length_map]
 refine call_function_entry kind_sorted plain_sorted entry_sorted (args_sorted1 _) ?_;unfold Builtin.«sorted»;refine wpAny_bind (m:=checkCount "sorted" 1 1 _) (wpAny_pure (wpAny_bind (wpAny_collect_seq a hT ho hc hdt (fun h' kp=>?_) (by rw [size_toArray,sizeLine_eq];omega))));refine wpAny_bind (wpAny_newList ?_ (by rw [sizeLine_eq];show its.length <= _;omega));have oL:(h'.push (seqObj "list" its.toArray 0)).get? h'.objs.size=some (seqObj "list" its.toArray 0):=get?_push_size _ rfl;show wpAny _ _ _ _ _ { s with heap:=h'.push (seqObj "list" its.toArray 0) };have keep:∀ b o,s.heap.get? b=some o->((((h'.push (seqObj "list" its.toArray 0)).update h'.objs.size (Obj.mapSeq fun _=>#[])).push (seqObj "tuple" its.toArray 0)).push (seqObj "list" #[] 0)).get? b=some o:=fun b o q=>by
  have q2:=kp b o q;have hlt:b < h'.objs.size:=lt_size q2;refine get?_push_of_some _ (get?_push_of_some _ ?_);rw [Heap.get?_update_ne _ _ _ _ (ne_of_lt hlt)];exact get?_push_of_some _ q2
 refine wpAny_bind (wpAny_holding (wpAny_call_entry slot_list_sort ⟨_,oL,rfl⟩ entry_list_sort (Sx.qb5f oL 'o' hl.symm (fun i hi=>qb2c (qb7r I hne t rv i hi) keep) fun is hp he=>⟨_,rfl,?_⟩) (args_list_sort _)));refine wpAny_pure ⟨_,rfl,?_⟩;have hin:∀ i ∈ is,i < its.length:=fun i hi=>mem_range.mp (hp.mem_iff.mp hi);have a1:=qb0b t is (fun i hi=>by have:=hin i hi;omega);rw [he] at a1;have v1:=qb1e rv is (fun i hi=>by have:=hin i hi;rw [rv.length];exact this);obtain⟨e,hoe⟩:=sortedHeap_at (out:=(is.map fun i=>its.getD i Value.none).toArray) oL;have hle:(is.map fun i=>ys.getD i V.non).length <= sizeLine:=by
  rw [length_map,hp.length_eq,length_range,sizeLine_eq];omega
 have I1:Inv X pins σ H { s with heap:=h' }:=I.kept (t':=s.toks) kp;refine⟨.ref h'.objs.size,_,I1.laid (a:=h'.objs.size) (o:=.lst (is.map fun i=>ys.getD i V.non)) (t':=s.toks) (fun b o q=>?_) 'c' ⟨hle,_,e,v1,hoe⟩,rfl,q _ _ (I1.hok.fresh 'c') a1⟩;have hb:b < h'.objs.size:=lt_size q;rw [sortedHeap_old (ne_of_lt hb) (by rw [size_push'];exact lt_succ_of_lt hb)];exact get?_push_of_some _ q
noncomputable def qb1g:FC:=fun ds=>match ds with
 | [.tuple xs]=>(qa7c xs).bind fun tss=>if (tss.all fun t=>!t.isEmpty)=true/\tss.length < 64 then some (.list ((Sx.srtT tss).map encT)) else none
 | _=>none
def qb7s{K:W.Frag}:AdC K (rSrtTT K) qb1g:=by
 intro S H vs ds z Q f h e k;unfold qb1g at e;split at e
 ·rename_i xs
  obtain⟨tss,q1,e2⟩:=bind_eq_some_iff.mp e;split at e2
  ·rename_i hc
   cases e2
   obtain⟨v,rfl,h1⟩:=h.one;have e1:=qb1f q1;subst e1;refine⟨v,Any,tss,rfl,h1.any,fun t ht hn=>?_,hc.2,fun p xs' hp ha=>k _ _ (qa0y hp _) (qa2f (f p hp) qa0n ((qb2p ha).same (qa0y hp _)))⟩;have:=all_eq_true.mp hc.1 t ht;rw [hn] at this;cases this
  ·cases e2
 ·cases e
def qb5g{tss:List 'j'}(h:∀ t ∈ tss,t ≠ [])(h2:tss.length < 64):qb1g [.tuple (tss.map encT)]=some (.list ((Sx.srtT tss).map encT)):=by
 show(qa7c (tss.map encT)).bind _=_;rw [qb2q,bind_some,if_pos ⟨all_eq_true.mpr fun t ht=>by
  have:=h t ht;cases t with
  | nil=>exact absurd rfl this
  | cons _ _=>rfl,h2⟩]
end
end L2
section
namespace PySem
open Sem (wp)
open AutoSeq1 (wpAny_loadPart')
end PySem
namespace L2
open PySem PySem.Spec PyProof.Rows
section
variable{K:W.Frag}{S:Addr->Prop}{H:Hp}
def diEnumT(de:TDE):TDI:=fun ρ Q=>de ρ fun x ρ1=>fz ρ1 x fun y ρ2=>need (match y with | .tuple xs=>some xs | _=>none) fun xs=>Q (enumD xs) ρ2
end
theorem qc4m{de:TDE}{ρ:Rho}{Q:List PyData->Rho->Prop}:diEnumT de ρ Q=de ρ fun x ρ1=>fz ρ1 x fun y ρ2=>need (match y with | .tuple xs=>some xs | _=>none) fun xs=>Q (enumD xs) ρ2:=rfl
end L2
end
namespace L2
open PySem PySem.Spec PyProof.Rows
section
open AutoSeq1 (wpAny_loadPart')
section
variable{K:W.Frag}
def dExtL(i:Nat)(de:TDE):TDE:=fun ρ Q=>need (ownB ρ i) fun _=>de ρ fun x ρ1=>need (qa0i ρ1 x) fun dx=>∃ ys,dx=.list ys/\need (ownB ρ1 i) fun o=>o.2.length + ys.length <= 1000000/\Q (.d .none) (ρ1.set i (some (okL o.1 (o.2 ++ ys))))
end
section
variable{X:Cx}{e:Expr}{de:TDE}{pos:Pos}
theorem dExtL_a{i:Nat}{ρ:Rho}{Q:DV->Rho->Prop}{d1:TDE}:dExtL i d1 ρ Q=need (qa4v (ρ[i]?.join)) fun _=>d1 ρ fun x ρ1=>need (qa0i ρ1 x) fun dx=>∃ ys,dx=.list ys/\need (qa4v (ρ1[i]?.join)) fun o=>o.2.length + ys.length <= 1000000/\Q (.d .none) (ρ1.set i (some (okL o.1 (o.2 ++ ys)))):=rfl
end
end
section
section
variable{X:Cx}
open Classical in
end
end
section
noncomputable def fStrI:FC:=fun ds=>match ds with
 | [.int i]=>if i.natAbs.log2 < 1920 then some (.str (toString i)) else none
 | _=>none
def ad_str{K:W.Frag}:AdC K (fun xs H Q=>∃ i,xs=[.int i]/\i.natAbs.log2 < 1920/\Q (.str (toString i)) H) fStrI:=by
 intro S H vs ds z Q f h e k;unfold fStrI at e;split at e
 ·rename_i i
  split at e
  ·rename_i hz
   cases e
   obtain⟨v,rfl,h1⟩:=h.one;rw [h1.int];exact⟨i,rfl,hz,k _ _ (Same.refl _) (qa4z _)⟩
  ·cases e
 ·cases e
def qb5h:∀ n:Fin 3001,(Str.ofString (toString (n.val:Int))).length <= 6/\(Str.ofString (toString (-(n.val:Int)))).length <= 6:=by decide +kernel
def qc2f{i:Int}(h1:-3000 <= i)(h2:i <= 3000):(Str.ofString (toString i)).length <= 6:=by
 by_cases h:0 <= i
 ·have:=(qb5h ⟨i.toNat,'o'⟩).1
  rwa [show(((⟨i.toNat,'o'⟩:Fin 3001).val:Nat):Int)=i from by show((i.toNat:Nat):Int)=i;omega] at this
 ·have:=(qb5h ⟨(-i).toNat,'o'⟩).2
  rwa [show -(((⟨(-i).toNat,'o'⟩:Fin 3001).val:Nat):Int)=i from by show -(((-i).toNat:Nat):Int)=i;omega] at this
def fStrI_i{i:Int}(h1:-3000 <= i)(h2:i <= 3000):fStrI [.int i]=some (.str (toString i)):=by
 show(if i.natAbs.log2 < 1920 then _ else _)=_;rw [if_pos];have:i.natAbs.log2 <= i.natAbs:=Nat.log2_le_self _;have h3:i.natAbs < 2 ^ 12:=by omega
 by_cases h0:i.natAbs=0
 ·rw [h0];decide
 ·have:=(Nat.log2_lt h0).mpr h3
  omega
end
end L2
section
namespace Sx
open PySem PySem.W PyProof.Rows
def pvId(n:String):Lean.Syntax:=let f:=Lean.mkPrivateNameCore `PySem.Builtin.List.W1All (`PySem.Builtin ++ n.toName);Lean.Syntax.ident .none n.toSubstring f [.decl f []]
local macro_rules | `(tactic| walk_at "pv gallop") => `(tactic| delta $(⟨pvId "gallop"⟩))
local macro_rules | `(tactic| walk_at "pv setMin") => `(tactic| delta $(⟨pvId "setMinGallop"⟩))
def IP(x:Keyed):Prop:=∃ a t,x=(.int a t,.int a t)
def IPs(xs:Array Keyed):Prop:=∀ x ∈ xs,IP x
structure Sf(n:Nat)(p:Array 'h')(st:SortSt):Prop where
 k:kindOf st=oneType'
 z:(arrOf st).size=n
 ip:IPs (arrOf st)
 f:failedOf st=none
 p:pendingOf st=p
section
variable{prog:Program}{w:World}{A:Around}{E:Value->Shared->Prop}{s:Shared}{st:SortSt}
def s_lt{x y:Keyed}{Q:Option Bool->SortSt->Prop}(hx:IP x)(hy:IP y)(hk:kindOf st=oneType')(h:∀ b,Q (some b) st):wpS (model prog w) A E s ((sortPriv% PySem.Builtin.lt) x y) Q st:=by
 obtain⟨a,t,rfl⟩:=hx;obtain⟨b,u,rfl⟩:=hy;show wpS _ _ _ _ (lt' _ _) _ _;rw [lt'_eq];refine wpS_bind (wpS_get ?_);rw [hk,keyLt'_oneType];exact wpS_bind (wpS_lift (wpAny_attempt (oneLt_int ⟨rfl,wpS_pure (h _)⟩)))
def qa0j{xs:Array Keyed}{i:Nat}{Q:Keyed->SortSt->Prop}(hi:i < xs.size)(hx:IPs xs)(h:∀ x,IP x->Q x st):wpS (model prog w) A E s ((sortPriv% PySem.Builtin.elem) xs i) Q st:=by
 show wpS _ _ _ _ (elem' _ _) _ _;rw [elem'_eq,getElem?_pos xs i hi];exact wpS_pure (h _ (hx _ (Array.getElem_mem hi)))
def qa4f{n:Nat}{p:Array 'h'}{i j:Nat}{Q:Option Bool->SortSt->Prop}(F:Sf n p st)(hi:i < n)(hj:j < n)(h:∀ b,Q (some b) st):wpS (model prog w) A E s (ltAt' i j) Q st:=by
 rw [ltAt'_eq];refine wpS_bind (wpS_get ?_);exact wpS_bind (qa0j (by rw [F.z];exact hi) F.ip fun x hx=>wpS_bind (qa0j (by rw [F.z];exact hj) F.ip fun y hy=>s_lt hx hy F.k h))
def Sf.rev{n:Nat}{p:Array 'h'}(F:Sf n p st){xs:Array Keyed}(hp:xs.Perm (arrOf st)):Sf n p (setArr st xs):=
 ⟨F.k,hp.size_eq.trans F.z,fun x hx=>F.ip x (hp.mem_iff.mp hx),F.f,F.p⟩
def qa7d{n:Nat}{p:Array 'h'}{i j:Nat}{Q:Unit->SortSt->Prop}(F:Sf n p st)(h:∀ st',Sf n p st'->Q () st'):wpS (model prog w) A E s (reverseSlice' i j) Q st:=by
 rw [reverseSlice'_eq];exact wpS_modify (h _ (F.rev (mirror_perm ..)))
def s_move{n:Nat}{p:Array 'h'}{i j:Nat}{Q:Unit->SortSt->Prop}(F:Sf n p st)(h:∀ st',Sf n p st'->Q () st'):wpS (model prog w) A E s (moveDown' i j) Q st:=by
 rw [moveDown'_eq];exact wpS_modify (h _ (F.rev (bubble_perm ..)))
def qb7t{l:Bool}{key:Keyed}{arr:Array Keyed}{j:Nat}{Q:Option Bool->SortSt->Prop}(hkey:IP key)(harr:IPs arr)(hk:kindOf st=oneType')(hi:j < arr.size)(h:∀ b,Q (some b) st) :
  wpS (model prog w) A E s (do
   let x ← (sortPriv% PySem.Builtin.elem) arr j
   if l=true then(sortPriv% PySem.Builtin.lt) x key else do
    let r ← (sortPriv% PySem.Builtin.lt) key x
    pure (Option.map (fun x=>!x) r)) Q st:=by
 refine wpS_bind (qa0j hi harr fun x hx=>?_);cases l with
 | true=>rw [if_pos rfl];exact s_lt hx hkey hk h
 | false=>rw [if_neg Bool.false_ne_true];exact wpS_bind (s_lt hkey hx hk fun b=>wpS_pure (h _))
def qa2e{l:Bool}{key:Keyed}{arr:Array Keyed}{base n hint:Nat}{Q:Option Nat->SortSt->Prop}(hkey:IP key)(harr:IPs arr)(hk:kindOf st=oneType')(hb:base + n <= arr.size)(hh:hint < n)(h:∀ k,k <= n->Q (some k) st) :
  wpS (model prog w) A E s ((sortPriv% PySem.Builtin.gallop) l key arr base n hint) Q st:=by
 walk_at "pv gallop"
 dsimp only
 refine wpS_bind (qb7t hkey harr hk 'o' fun right=>?_);have B:∀ i (Q':Option Bool->SortSt->Prop),i < n->(∀ b,Q' (some b) st)->wpS (model prog w) A E s (do
   let x ← (sortPriv% PySem.Builtin.elem) arr (base + i)
   if l=true then(sortPriv% PySem.Builtin.lt) x key else do
    let r ← (sortPriv% PySem.Builtin.lt) key x
    pure (Option.map (fun x=>!x) r)) Q' st:=fun i Q' hi h'=>qb7t hkey harr hk 'o' h'
 cases right with
 | true =>
  dsimp only
  rw [if_pos rfl];refine wpS_bind (wpS_mono (wpS_forRange (I:=fun _ c st'=>st'=st/\c.1=none) (Q:=fun c st'=>st'=st/\c.1=none) ?_ (fun _ _ h=>h) ⟨rfl,rfl⟩) ?_)
  ·rintro x ⟨r,a,o⟩ st' _ _ ⟨rfl,e⟩
   cases e
   dsimp only
   by_cases c:o ≥ n - hint
   ·rw [if_pos c];exact wpS_pure ⟨rfl,rfl⟩
   ·rw [if_neg c]
    refine wpS_bind (B _ _ 'o' fun b=>?_);cases b with
    | true=>exact wpS_pure ⟨rfl,rfl⟩
    | false=>exact wpS_pure ⟨rfl,rfl⟩
  ·rintro⟨r,a,o⟩ st' ⟨e',e⟩
   cases e
   cases e'
   dsimp only
   refine wpS_bind (wpS_mono (wpS_forRange (I:=fun _ c st'=>st'=st/\c.1=none/\c.2.2 <= n) (Q:=fun c st'=>st'=st/\c.1=none/\c.2.2 <= n) ?_ (fun _ _ h=>h) ⟨rfl,rfl,by dsimp only;omega⟩) ?_)
   ·rintro x ⟨r,l,u⟩ st' _ _ ⟨rfl,e,q⟩
    cases e
    dsimp only at q ⊢
    by_cases c:l ≥ u
    ·rw [if_pos c];exact wpS_pure ⟨rfl,rfl,q⟩
    ·rw [if_neg c]
     refine wpS_bind (B _ _ 'o' fun b=>?_);cases b with
     | true=>exact wpS_pure ⟨rfl,rfl,q⟩
     | false=>exact wpS_pure ⟨rfl,rfl,by dsimp only;omega⟩
   ·rintro⟨r,l,u⟩ st' ⟨rfl,e,q⟩
    cases e
    exact wpS_pure (h _ q)
 | false =>
  dsimp only
  rw [if_neg Bool.false_ne_true];refine wpS_bind (wpS_mono (wpS_forRange (I:=fun _ c st'=>st'=st/\c.1=none) (Q:=fun c st'=>st'=st/\c.1=none) ?_ (fun _ _ h=>h) ⟨rfl,rfl⟩) ?_)
  ·rintro x ⟨r,a,o⟩ st' _ _ ⟨rfl,e⟩
   cases e
   dsimp only
   by_cases c:o ≥ hint + 1
   ·rw [if_pos c];exact wpS_pure ⟨rfl,rfl⟩
   ·rw [if_neg c]
    refine wpS_bind (B _ _ 'o' fun b=>?_);cases b with
    | true=>exact wpS_pure ⟨rfl,rfl⟩
    | false=>exact wpS_pure ⟨rfl,rfl⟩
  ·rintro⟨r,a,o⟩ st' ⟨e',e⟩
   cases e
   cases e'
   dsimp only
   refine wpS_bind (wpS_mono (wpS_forRange (I:=fun _ c st'=>st'=st/\c.1=none/\c.2.2 <= n) (Q:=fun c st'=>st'=st/\c.1=none/\c.2.2 <= n) ?_ (fun _ _ h=>h) ⟨rfl,rfl,by dsimp only;omega⟩) ?_)
   ·rintro x ⟨r,l,u⟩ st' _ _ ⟨rfl,e,q⟩
    cases e
    dsimp only at q ⊢
    by_cases c:l ≥ u
    ·rw [if_pos c];exact wpS_pure ⟨rfl,rfl,q⟩
    ·rw [if_neg c]
     refine wpS_bind (B _ _ 'o' fun b=>?_);cases b with
     | true=>exact wpS_pure ⟨rfl,rfl,q⟩
     | false=>exact wpS_pure ⟨rfl,rfl,by dsimp only;omega⟩
   ·rintro⟨r,l,u⟩ st' ⟨rfl,e,q⟩
    cases e
    exact wpS_pure (h _ q)
def qa6f{n:Nat}{p:Array 'h'}{g:Nat}{Q:Unit->SortSt->Prop}(F:Sf n p st)(h:∀ st',Sf n p st'->Q () st'):wpS (model prog w) A E s ((sortPriv% PySem.Builtin.setMinGallop) g) Q st:=by
 walk_at "pv setMin";exact wpS_modify (h _ ⟨F.k,F.z,F.ip,F.f,F.p⟩)
end
end Sx
end
section
namespace Sx
open PySem PySem.W PyProof.Rows
local macro_rules | `(tactic| walk_at "pv mergeLo") => `(tactic| delta $(⟨pvId "mergeLo"⟩))
local macro_rules | `(tactic| walk_at "pv mergeHi") => `(tactic| delta $(⟨pvId "mergeHi"⟩))
section
variable{prog:Program}{w:World}{A:Around}{E:Value->Shared->Prop}{s:Shared}{st:SortSt}{N:Nat}{pd:Array 'h'}
def s_count{lo nrem:Nat}{Q:Option Nat->SortSt->Prop}(F:Sf N pd st)(h1:1 <= nrem)(hz:lo + nrem <= N)(h:∀ m st',1 <= m->m <= nrem->Sf N pd st'->Q (some m) st'):wpS (model prog w) A E s (countRun' lo nrem) Q st:=by
 rw [countRun'_eq]
 dsimp only
 refine wpS_bind (wpS_mono (wpS_forRange (I:=fun i c st'=>c.1=none/\1 <= c.2/\c.2 <= i/\Sf N pd st') (Q:=fun c st'=>c.1=none/\1 <= c.2/\c.2 <= nrem/\Sf N pd st') ?_ (fun c st' h=>⟨h.1,h.2.1,by have:=h.2.2.1;omega,h.2.2.2⟩) ⟨rfl,le_refl _,le_refl _,F⟩) ?_)
 ·rintro i ⟨r,n⟩ st' hi1 hi2 ⟨e,q1,q2,F'⟩
  cases e
  dsimp only at q1 q2 ⊢
  refine wpS_bind (qa4f F' 'o' 'o' fun b=>?_);cases b with
  | true=>exact wpS_pure ⟨rfl,q1,by dsimp only;omega,F'⟩
  | false=>exact wpS_pure ⟨rfl,by dsimp only;omega,by dsimp only;omega,F'⟩
 ·rintro⟨r,n⟩ st' ⟨e,q1,q2,F'⟩
  cases e
  dsimp only at q1 q2 ⊢
  by_cases c:(n == nrem)=true
  ·rw [if_pos c];exact wpS_pure (h _ _ q1 q2 F')
  rw [if_neg c];have c':n + 1 <= nrem:=by
   have:n ≠ nrem:=fun e=>c (by rw [e];exact beq_self_eq_true _);omega
  by_cases c2:n > 1
  ·rw [if_pos c2]
   refine wpS_bind (qa4f F' 'o' 'o' fun b=>?_);cases b with
   | true=>exact wpS_pure (h _ _ q1 q2 F')
   | false =>
    refine wpS_bind (qa7d F' fun st3 F3=>?_);refine wpS_bind (wpS_lift (wpAny_rule ⟨rfl,?_⟩));refine wpS_bind (wpS_mono (wpS_forRange (I:=fun i c st'=>c.1=none/\1 <= c.2.1/\c.2.1 <= i/\Sf N pd st') (Q:=fun c st'=>c.1=none/\1 <= c.2.1/\c.2.1 <= nrem/\Sf N pd st') ?_ (fun c st' h=>⟨h.1,h.2.1,by have:=h.2.2.1;omega,h.2.2.2⟩) ⟨rfl,le_add_left ..,le_refl _,F3⟩) ?_)
    ·rintro i ⟨r,k,m⟩ st4 hi1 hi2 ⟨e,q1,q2,F4⟩
     cases e
     dsimp only at q1 q2 ⊢
     refine wpS_bind (qa4f F4 'o' 'o' fun b=>?_);cases b with
     | true =>
      dsimp only
      rw [if_pos rfl];by_cases c3:m > 0
      ·rw [if_pos c3]
       exact wpS_bind (qa7d F4 fun st5 F5=>wpS_pure ⟨rfl,le_add_left ..,succ_le_succ q2,F5⟩)
      ·rw [if_neg c3]
       exact wpS_pure ⟨rfl,le_add_left ..,succ_le_succ q2,F4⟩
     | false =>
      dsimp only
      rw [if_neg Bool.false_ne_true];refine wpS_bind (qa4f F4 'o' 'o' fun b=>?_);cases b with
      | true=>exact wpS_pure ⟨rfl,q1,by dsimp only;omega,F4⟩
      | false=>exact wpS_pure ⟨rfl,le_add_left ..,succ_le_succ q2,F4⟩
    ·rintro⟨r,k,m⟩ st4 ⟨e,q1,q2,F4⟩
     cases e
     dsimp only at q1 q2 ⊢
     by_cases c3:m > 0
     ·rw [if_pos c3]
      refine wpS_bind (qa7d F4 fun st5 F5=>?_);refine wpS_bind (qa7d F5 fun st6 F6=>?_);refine wpS_bind (wpS_mono (wpS_forRange (I:=fun i c st'=>c.1=none/\1 <= c.2/\c.2 <= i/\Sf N pd st') (Q:=fun c st'=>c.1=none/\1 <= c.2/\c.2 <= nrem/\Sf N pd st') ?_ (fun c st' h=>⟨h.1,h.2.1,by have:=h.2.2.1;omega,h.2.2.2⟩) ⟨rfl,q1,le_refl _,F6⟩) ?_)
      ·rintro i ⟨r,n⟩ st' hi1 hi2 ⟨e,q1,q2,F'⟩
       cases e
       dsimp only at q1 q2 ⊢
       refine wpS_bind (qa4f F' 'o' 'o' fun b=>?_);cases b with
       | true=>exact wpS_pure ⟨rfl,q1,by dsimp only;omega,F'⟩
       | false=>exact wpS_pure ⟨rfl,le_add_left ..,succ_le_succ q2,F'⟩
      ·rintro⟨r,n⟩ st' ⟨e,q1,q2,F'⟩
       cases e
       exact wpS_pure (h _ _ q1 q2 F')
     ·rw [if_neg c3]
      have F5:=F4;refine wpS_bind (qa7d F5 fun st6 F6=>?_);refine wpS_bind (wpS_mono (wpS_forRange (I:=fun i c st'=>c.1=none/\1 <= c.2/\c.2 <= i/\Sf N pd st') (Q:=fun c st'=>c.1=none/\1 <= c.2/\c.2 <= nrem/\Sf N pd st') ?_ (fun c st' h=>⟨h.1,h.2.1,by have:=h.2.2.1;omega,h.2.2.2⟩) ⟨rfl,q1,le_refl _,F6⟩) ?_)
      ·rintro i ⟨r,n⟩ st' hi1 hi2 ⟨e,q1,q2,F'⟩
       cases e
       dsimp only at q1 q2 ⊢
       refine wpS_bind (qa4f F' 'o' 'o' fun b=>?_);cases b with
       | true=>exact wpS_pure ⟨rfl,q1,by dsimp only;omega,F'⟩
       | false=>exact wpS_pure ⟨rfl,le_add_left ..,succ_le_succ q2,F'⟩
      ·rintro⟨r,n⟩ st' ⟨e,q1,q2,F'⟩
       cases e
       exact wpS_pure (h _ _ q1 q2 F')
  ·rw [if_neg c2]
   have F3:=F';refine wpS_bind (wpS_lift (wpAny_rule ⟨rfl,?_⟩));refine wpS_bind (wpS_mono (wpS_forRange (I:=fun i c st'=>c.1=none/\1 <= c.2.1/\c.2.1 <= i/\Sf N pd st') (Q:=fun c st'=>c.1=none/\1 <= c.2.1/\c.2.1 <= nrem/\Sf N pd st') ?_ (fun c st' h=>⟨h.1,h.2.1,by have:=h.2.2.1;omega,h.2.2.2⟩) ⟨rfl,le_add_left ..,le_refl _,F3⟩) ?_)
   ·rintro i ⟨r,k,m⟩ st4 hi1 hi2 ⟨e,q1,q2,F4⟩
    cases e
    dsimp only at q1 q2 ⊢
    refine wpS_bind (qa4f F4 'o' 'o' fun b=>?_);cases b with
    | true =>
     dsimp only
     rw [if_pos rfl];by_cases c3:m > 0
     ·rw [if_pos c3]
      exact wpS_bind (qa7d F4 fun st5 F5=>wpS_pure ⟨rfl,le_add_left ..,succ_le_succ q2,F5⟩)
     ·rw [if_neg c3]
      exact wpS_pure ⟨rfl,le_add_left ..,succ_le_succ q2,F4⟩
    | false =>
     dsimp only
     rw [if_neg Bool.false_ne_true];refine wpS_bind (qa4f F4 'o' 'o' fun b=>?_);cases b with
     | true=>exact wpS_pure ⟨rfl,q1,by dsimp only;omega,F4⟩
     | false=>exact wpS_pure ⟨rfl,le_add_left ..,succ_le_succ q2,F4⟩
   ·rintro⟨r,k,m⟩ st4 ⟨e,q1,q2,F4⟩
    cases e
    dsimp only at q1 q2 ⊢
    by_cases c3:m > 0
    ·rw [if_pos c3]
     refine wpS_bind (qa7d F4 fun st5 F5=>?_);refine wpS_bind (qa7d F5 fun st6 F6=>?_);refine wpS_bind (wpS_mono (wpS_forRange (I:=fun i c st'=>c.1=none/\1 <= c.2/\c.2 <= i/\Sf N pd st') (Q:=fun c st'=>c.1=none/\1 <= c.2/\c.2 <= nrem/\Sf N pd st') ?_ (fun c st' h=>⟨h.1,h.2.1,by have:=h.2.2.1;omega,h.2.2.2⟩) ⟨rfl,q1,le_refl _,F6⟩) ?_)
     ·rintro i ⟨r,n⟩ st' hi1 hi2 ⟨e,q1,q2,F'⟩
      cases e
      dsimp only at q1 q2 ⊢
      refine wpS_bind (qa4f F' 'o' 'o' fun b=>?_);cases b with
      | true=>exact wpS_pure ⟨rfl,q1,by dsimp only;omega,F'⟩
      | false=>exact wpS_pure ⟨rfl,le_add_left ..,succ_le_succ q2,F'⟩
     ·rintro⟨r,n⟩ st' ⟨e,q1,q2,F'⟩
      cases e
      exact wpS_pure (h _ _ q1 q2 F')
    ·rw [if_neg c3]
     have F5:=F4;refine wpS_bind (qa7d F5 fun st6 F6=>?_);refine wpS_bind (wpS_mono (wpS_forRange (I:=fun i c st'=>c.1=none/\1 <= c.2/\c.2 <= i/\Sf N pd st') (Q:=fun c st'=>c.1=none/\1 <= c.2/\c.2 <= nrem/\Sf N pd st') ?_ (fun c st' h=>⟨h.1,h.2.1,by have:=h.2.2.1;omega,h.2.2.2⟩) ⟨rfl,q1,le_refl _,F6⟩) ?_)
     ·rintro i ⟨r,n⟩ st' hi1 hi2 ⟨e,q1,q2,F'⟩
      cases e
      dsimp only at q1 q2 ⊢
      refine wpS_bind (qa4f F' 'o' 'o' fun b=>?_);cases b with
      | true=>exact wpS_pure ⟨rfl,q1,by dsimp only;omega,F'⟩
      | false=>exact wpS_pure ⟨rfl,le_add_left ..,succ_le_succ q2,F'⟩
     ·rintro⟨r,n⟩ st' ⟨e,q1,q2,F'⟩
      cases e
      exact wpS_pure (h _ _ q1 q2 F')
def s_bin{lo n ok:Nat}{Q:Bool->SortSt->Prop}(F:Sf N pd st)(hz:lo + n <= N)(h:∀ st',Sf N pd st'->Q true st'):wpS (model prog w) A E s (binarySort' lo n ok) Q st:=by
 rw [binarySort'_eq]
 dsimp only
 refine wpS_bind (wpS_mono (wpS_forRange (I:=fun i c st'=>c.1=none/\Sf N pd st') (Q:=fun c st'=>c.1=none/\Sf N pd st') ?_ (fun c st' h=>h) ⟨rfl,F⟩) ?_)
 ·rintro k ⟨r,u⟩ st' hi1 hi2 ⟨e,F'⟩
  cases e
  refine wpS_bind (wpS_mono (wpS_forRange (I:=fun i c st'=>c.1=none/\c.2.2 <= k/\Sf N pd st') (Q:=fun c st'=>c.1=none/\Sf N pd st') ?_ (fun c st' h=>⟨h.1,h.2.2⟩) ⟨rfl,le_refl _,F'⟩) ?_)
  ·rintro i ⟨r,l,u⟩ st' _ _ ⟨e,q,F'⟩
   cases e
   dsimp only at q ⊢
   by_cases c:l ≥ u
   ·rw [if_pos c];exact wpS_pure ⟨rfl,F'⟩
   ·rw [if_neg c]
    refine wpS_bind (qa4f F' 'o' 'o' fun b=>?_);cases b with
    | true=>exact wpS_pure ⟨rfl,by dsimp only;omega,F'⟩
    | false=>exact wpS_pure ⟨rfl,q,F'⟩
  ·rintro⟨r,l,u⟩ st' ⟨e,F'⟩
   cases e
   exact wpS_bind (s_move F' fun st'' F''=>wpS_pure ⟨rfl,F''⟩)
 ·rintro⟨r,u⟩ st' ⟨e,F'⟩
  cases e
  exact wpS_pure (h _ F')
end
end Sx
end
section
namespace Sx
open PySem PySem.W PyProof.Rows
local macro_rules | `(tactic| walk_at "pv mergeLo") => `(tactic| delta $(⟨pvId "mergeLo"⟩))
local macro_rules | `(tactic| walk_at "pv mergeHi") => `(tactic| delta $(⟨pvId "mergeHi"⟩))
def IPs.push{xs:Array Keyed}{x:Keyed}(h:IPs xs)(hx:IP x):IPs (xs.push x):=fun y hy=>(Array.mem_push.mp hy).elim (h y) (fun e=>e ▸ hx)
def IPs.app{xs ys:Array Keyed}(h:IPs xs)(h2:IPs ys):IPs (xs ++ ys):=fun y hy=>(Array.mem_append.mp hy).elim (h y) (h2 y)
def IPs.ext{xs:Array Keyed}{i j:Nat}(h:IPs xs):IPs (xs.extract i j):=fun y hy=>by
 rw [← mem_toList_iff,Array.toList_extract] at hy;exact h y (mem_toList_iff.mp (mem_of_mem_drop (mem_of_mem_take (by rw [List.extract_eq_take_drop] at hy;exact hy))))
def IPs.rev{xs:Array Keyed}(h:IPs xs):IPs xs.reverse:=fun y hy=>h y (Array.mem_reverse.mp hy)
def IPs.one{x:Keyed}(h:IP x):IPs #[x]:=fun y hy=>by
 rw [Array.mem_singleton.mp hy];exact h
section
variable{prog:Program}{w:World}{A:Around}{E:Value->Shared->Prop}{s:Shared}{st:SortSt}{N:Nat}{pd:Array 'h'}
def nbeq{a b:Nat}(h:¬ (a == b)=true):a ≠ b:=fun e=>h (by rw [e];exact beq_self_eq_true _)
def qc4n{a b:Array Keyed}{Q:Array Keyed->SortSt->Prop}(ha:IPs a)(hb:IPs b)(h1:1 <= a.size)(h2:1 <= b.size)(F:Sf N pd st)(h:∀ out st',IPs out->Sf N pd st'->Q out st') :
  wpS (model prog w) A E s ((sortPriv% PySem.Builtin.mergeLo) a b) Q st:=by
 walk_at "pv mergeLo";refine wpS_bind (wpS_lift (wpAny_rule ⟨rfl,?_⟩))
 dsimp only
 refine wpS_bind (qa0j 'o' hb fun x0 hx0=>?_);by_cases c1:(1 == b.size)=true
 ·rw [if_pos c1]
  exact wpS_pure (h _ _ (((IPs.one hx0).app ha.ext).app hb.ext) F)
 rw [if_neg c1];have c1:=nbeq c1;by_cases c2:(0 + 1 == a.size)=true
 ·rw [if_pos c2]
  exact wpS_pure (h _ _ (((IPs.one hx0).app hb.ext).app ha.ext) F)
 rw [if_neg c2];have c2:=nbeq c2;refine wpS_bind (wpS_get ?_);refine wpS_bind (wpS_mono (wpS_forRange (I:=fun i c st'=>Sf N pd st'/\IPs c.2.1/\c.1=none/\c.2.2.1 + 1 < a.size/\c.2.2.2.1 < b.size/\i + 1 <= c.2.2.1 + c.2.2.2.1) (Q:=fun c st'=>Sf N pd st'/\∃ r,c.1=some r/\IPs r) ?_ ?_ ⟨F,IPs.one hx0,rfl,by dsimp only;omega,by dsimp only;omega,le_refl _⟩) ?_)
 ·rintro i ⟨r,out,ia,ib,mg⟩ st1 _ hi ⟨F1,ho,e,b1,b2,b3⟩
  cases e
  dsimp only at ho b1 b2 b3 ⊢
  refine wpS_bind (wpS_mono (wpS_forRange (I:=fun j c st'=>Sf N pd st'/\IPs c.2.1/\c.1=none/\c.2.2.1 + 1 < a.size/\c.2.2.2.1 < b.size/\i + 1 + j <= c.2.2.1 + c.2.2.2.1) (Q:=fun c st'=>Sf N pd st'/\((∃ r,c.1=some r/\IPs r) ∨ (c.1=none/\IPs c.2.1/\c.2.2.1 + 1 < a.size/\c.2.2.2.1 < b.size/\i + 2 <= c.2.2.1 + c.2.2.2.1))) ?_ ?_ ⟨F1,ho,rfl,b1,b2,b3⟩) ?_)
  ·rintro j ⟨r,out,ia,ib,ac,bc⟩ st2 _ hj ⟨F2,ho,e,b1,b2,b3⟩
   cases e
   dsimp only at ho b1 b2 b3 ⊢
   refine wpS_bind (qa0j b2 hb fun x hx=>wpS_bind (qa0j 'o' ha fun y hy=>wpS_bind (s_lt hx hy F2.k fun bw=>?_)));cases bw with
   | true =>
    dsimp only
    rw [if_pos rfl];refine wpS_bind (qa0j b2 hb fun z hz=>?_);by_cases d1:(ib + 1 == b.size)=true
    ·rw [if_pos d1]
     exact wpS_pure ⟨F2,.inl ⟨_,rfl,((ho.push hz).app ha.ext).app hb.ext⟩⟩
    rw [if_neg d1];have d1:=nbeq d1;by_cases d2:bc + 1 ≥ mg
    ·rw [if_pos d2];exact wpS_pure ⟨F2,.inr ⟨rfl,ho.push hz,b1,by dsimp only;omega,by dsimp only;omega⟩⟩
    ·rw [if_neg d2];exact wpS_pure ⟨F2,ho.push hz,rfl,b1,by dsimp only;omega,by dsimp only;omega⟩
   | false =>
    dsimp only
    rw [if_neg Bool.false_ne_true];refine wpS_bind (qa0j 'o' ha fun z hz=>?_);by_cases d1:(ia + 1 + 1 == a.size)=true
    ·rw [if_pos d1]
     exact wpS_pure ⟨F2,.inl ⟨_,rfl,((ho.push hz).app hb.ext).app ha.ext⟩⟩
    rw [if_neg d1];have d1:=nbeq d1;by_cases d2:ac + 1 ≥ mg
    ·rw [if_pos d2];exact wpS_pure ⟨F2,.inr ⟨rfl,ho.push hz,by dsimp only;omega,b2,by dsimp only;omega⟩⟩
    ·rw [if_neg d2];exact wpS_pure ⟨F2,ho.push hz,rfl,by dsimp only;omega,b2,by dsimp only;omega⟩
  ·rintro⟨r,out,ia,ib,ac,bc⟩ st2 ⟨F2,ho,e,b1,b2,b3⟩
   exact⟨F2,.inr ⟨e,ho,b1,b2,'o'⟩⟩
  ·rintro⟨r,out,ia,ib,ac,bc⟩ st2 ⟨F2,⟨r',e,hr⟩ | ⟨e,ho,b1,b2,b3⟩⟩
   ·cases e
    exact wpS_pure ⟨F2,_,rfl,hr⟩
   cases e
   dsimp only at ho b1 b2 b3 ⊢
   refine wpS_bind (wpS_lift (wpAny_rule ⟨rfl,?_⟩));refine wpS_bind (wpS_mono (wpS_forRange (I:=fun j c st'=>Sf N pd st'/\IPs c.2.1/\c.1=none/\c.2.2.1 + 1 < a.size/\c.2.2.2.1 < b.size/\i + 2 <= c.2.2.1 + c.2.2.2.1) (Q:=fun c st'=>Sf N pd st'/\((∃ r,c.1=some r/\IPs r) ∨ (c.1=none/\IPs c.2.1/\c.2.2.1 + 1 < a.size/\c.2.2.2.1 < b.size/\i + 2 <= c.2.2.1 + c.2.2.2.1))) ?_ ?_ ⟨F2,ho,rfl,b1,b2,b3⟩) ?_)
   ·rintro j ⟨r,out,ia,ib,mg,ac,bc⟩ st3 _ hj ⟨F3,ho,e,b1,b2,b3⟩
    cases e
    dsimp only at ho b1 b2 b3 ⊢
    by_cases d0:mg > 1
    ·rw [if_pos d0]
     refine wpS_bind (qa6f F3 fun st4 F4=>?_);refine wpS_bind (qa0j b2 hb fun x hx=>wpS_bind (qa2e hx ha F4.k 'o' 'o' fun k hk=>?_))
     dsimp only
     by_cases d1:k > 0
     ·rw [if_pos d1]
      by_cases d2:(ia + k + 1 == a.size)=true
      ·rw [if_pos d2]
       exact wpS_pure ⟨F4,.inl ⟨_,rfl,((ho.app ha.ext).app hb.ext).app ha.ext⟩⟩
      rw [if_neg d2];have d2:=nbeq d2;by_cases d3:(ia + k == a.size)=true
      ·rw [if_pos d3]
       exact wpS_pure ⟨F4,.inl ⟨_,rfl,((ho.app ha.ext).app ha.ext).app hb.ext⟩⟩
      rw [if_neg d3];have d3:=nbeq d3;have ho':=ho.app (ha.ext (i:=ia) (j:=ia + k));have b1':ia + k + 1 < a.size:=by omega
      refine wpS_bind (qa0j b2 hb fun z hz=>?_);by_cases d4:(ib + 1 == b.size)=true
      ·rw [if_pos d4]
       exact wpS_pure ⟨F4,.inl ⟨_,rfl,((ho'.push hz).app ha.ext).app hb.ext⟩⟩
      rw [if_neg d4];have d4:=nbeq d4;refine wpS_bind (qa0j 'o' ha fun y hy=>wpS_bind (qa2e hy hb F4.k 'o' 'o' fun k2 hk2=>?_))
      dsimp only
      by_cases d5:k2 > 0
      ·rw [if_pos d5]
       by_cases d6:(ib + 1 + k2 == b.size)=true
       ·rw [if_pos d6]
        exact wpS_pure ⟨F4,.inl ⟨_,rfl,(((ho'.push hz).app hb.ext).app ha.ext).app hb.ext⟩⟩
       rw [if_neg d6];have d6:=nbeq d6;have ho2:=(ho'.push hz).app (hb.ext (i:=ib + 1) (j:=ib + 1 + k2));have b2':ib + 1 + k2 < b.size:=by omega
       refine wpS_bind (qa0j 'o' ha fun q hq=>?_);split
       ·exact wpS_pure ⟨F4,.inl ⟨_,rfl,((ho2.push hq).app hb.ext).app ha.ext⟩⟩
       rename_i d7;have d7:=nbeq d7;split
       ·exact wpS_pure ⟨F4,.inr ⟨rfl,ho2.push hq,by dsimp only;omega,b2',by dsimp only;omega⟩⟩
       ·exact wpS_pure ⟨F4,ho2.push hq,rfl,by dsimp only;omega,b2',by dsimp only;omega⟩
      ·rw [if_neg d5]
       have ho2:=ho'.push hz;have b2':ib + 1 < b.size:=by omega
       refine wpS_bind (qa0j 'o' ha fun q hq=>?_);split
       ·exact wpS_pure ⟨F4,.inl ⟨_,rfl,((ho2.push hq).app hb.ext).app ha.ext⟩⟩
       rename_i d7;have d7:=nbeq d7;split
       ·exact wpS_pure ⟨F4,.inr ⟨rfl,ho2.push hq,by dsimp only;omega,b2',by dsimp only;omega⟩⟩
       ·exact wpS_pure ⟨F4,ho2.push hq,rfl,by dsimp only;omega,b2',by dsimp only;omega⟩
     ·rw [if_neg d1]
      have ho':=ho;have b1':=b1;refine wpS_bind (qa0j b2 hb fun z hz=>?_);by_cases d4:(ib + 1 == b.size)=true
      ·rw [if_pos d4]
       exact wpS_pure ⟨F4,.inl ⟨_,rfl,((ho'.push hz).app ha.ext).app hb.ext⟩⟩
      rw [if_neg d4];have d4:=nbeq d4;refine wpS_bind (qa0j 'o' ha fun y hy=>wpS_bind (qa2e hy hb F4.k 'o' 'o' fun k2 hk2=>?_))
      dsimp only
      by_cases d5:k2 > 0
      ·rw [if_pos d5]
       by_cases d6:(ib + 1 + k2 == b.size)=true
       ·rw [if_pos d6]
        exact wpS_pure ⟨F4,.inl ⟨_,rfl,(((ho'.push hz).app hb.ext).app ha.ext).app hb.ext⟩⟩
       rw [if_neg d6];have d6:=nbeq d6;have ho2:=(ho'.push hz).app (hb.ext (i:=ib + 1) (j:=ib + 1 + k2));have b2':ib + 1 + k2 < b.size:=by omega
       refine wpS_bind (qa0j 'o' ha fun q hq=>?_);split
       ·exact wpS_pure ⟨F4,.inl ⟨_,rfl,((ho2.push hq).app hb.ext).app ha.ext⟩⟩
       rename_i d7;have d7:=nbeq d7;split
       ·exact wpS_pure ⟨F4,.inr ⟨rfl,ho2.push hq,by dsimp only;omega,b2',by dsimp only;omega⟩⟩
       ·exact wpS_pure ⟨F4,ho2.push hq,rfl,by dsimp only;omega,b2',by dsimp only;omega⟩
      ·rw [if_neg d5]
       have ho2:=ho'.push hz;have b2':ib + 1 < b.size:=by omega
       refine wpS_bind (qa0j 'o' ha fun q hq=>?_);split
       ·exact wpS_pure ⟨F4,.inl ⟨_,rfl,((ho2.push hq).app hb.ext).app ha.ext⟩⟩
       rename_i d7;have d7:=nbeq d7;split
       ·exact wpS_pure ⟨F4,.inr ⟨rfl,ho2.push hq,by dsimp only;omega,b2',by dsimp only;omega⟩⟩
       ·exact wpS_pure ⟨F4,ho2.push hq,rfl,by dsimp only;omega,b2',by dsimp only;omega⟩
    ·rw [if_neg d0]
     refine wpS_bind (qa6f F3 fun st4 F4=>?_);refine wpS_bind (qa0j b2 hb fun x hx=>wpS_bind (qa2e hx ha F4.k 'o' 'o' fun k hk=>?_))
     dsimp only
     by_cases d1:k > 0
     ·rw [if_pos d1]
      by_cases d2:(ia + k + 1 == a.size)=true
      ·rw [if_pos d2]
       exact wpS_pure ⟨F4,.inl ⟨_,rfl,((ho.app ha.ext).app hb.ext).app ha.ext⟩⟩
      rw [if_neg d2];have d2:=nbeq d2;by_cases d3:(ia + k == a.size)=true
      ·rw [if_pos d3]
       exact wpS_pure ⟨F4,.inl ⟨_,rfl,((ho.app ha.ext).app ha.ext).app hb.ext⟩⟩
      rw [if_neg d3];have d3:=nbeq d3;have ho':=ho.app (ha.ext (i:=ia) (j:=ia + k));have b1':ia + k + 1 < a.size:=by omega
      refine wpS_bind (qa0j b2 hb fun z hz=>?_);by_cases d4:(ib + 1 == b.size)=true
      ·rw [if_pos d4]
       exact wpS_pure ⟨F4,.inl ⟨_,rfl,((ho'.push hz).app ha.ext).app hb.ext⟩⟩
      rw [if_neg d4];have d4:=nbeq d4;refine wpS_bind (qa0j 'o' ha fun y hy=>wpS_bind (qa2e hy hb F4.k 'o' 'o' fun k2 hk2=>?_))
      dsimp only
      by_cases d5:k2 > 0
      ·rw [if_pos d5]
       by_cases d6:(ib + 1 + k2 == b.size)=true
       ·rw [if_pos d6]
        exact wpS_pure ⟨F4,.inl ⟨_,rfl,(((ho'.push hz).app hb.ext).app ha.ext).app hb.ext⟩⟩
       rw [if_neg d6];have d6:=nbeq d6;have ho2:=(ho'.push hz).app (hb.ext (i:=ib + 1) (j:=ib + 1 + k2));have b2':ib + 1 + k2 < b.size:=by omega
       refine wpS_bind (qa0j 'o' ha fun q hq=>?_);split
       ·exact wpS_pure ⟨F4,.inl ⟨_,rfl,((ho2.push hq).app hb.ext).app ha.ext⟩⟩
       rename_i d7;have d7:=nbeq d7;split
       ·exact wpS_pure ⟨F4,.inr ⟨rfl,ho2.push hq,by dsimp only;omega,b2',by dsimp only;omega⟩⟩
       ·exact wpS_pure ⟨F4,ho2.push hq,rfl,by dsimp only;omega,b2',by dsimp only;omega⟩
      ·rw [if_neg d5]
       have ho2:=ho'.push hz;have b2':ib + 1 < b.size:=by omega
       refine wpS_bind (qa0j 'o' ha fun q hq=>?_);split
       ·exact wpS_pure ⟨F4,.inl ⟨_,rfl,((ho2.push hq).app hb.ext).app ha.ext⟩⟩
       rename_i d7;have d7:=nbeq d7;split
       ·exact wpS_pure ⟨F4,.inr ⟨rfl,ho2.push hq,by dsimp only;omega,b2',by dsimp only;omega⟩⟩
       ·exact wpS_pure ⟨F4,ho2.push hq,rfl,by dsimp only;omega,b2',by dsimp only;omega⟩
     ·rw [if_neg d1]
      have ho':=ho;have b1':=b1;refine wpS_bind (qa0j b2 hb fun z hz=>?_);by_cases d4:(ib + 1 == b.size)=true
      ·rw [if_pos d4]
       exact wpS_pure ⟨F4,.inl ⟨_,rfl,((ho'.push hz).app ha.ext).app hb.ext⟩⟩
      rw [if_neg d4];have d4:=nbeq d4;refine wpS_bind (qa0j 'o' ha fun y hy=>wpS_bind (qa2e hy hb F4.k 'o' 'o' fun k2 hk2=>?_))
      dsimp only
      by_cases d5:k2 > 0
      ·rw [if_pos d5]
       by_cases d6:(ib + 1 + k2 == b.size)=true
       ·rw [if_pos d6]
        exact wpS_pure ⟨F4,.inl ⟨_,rfl,(((ho'.push hz).app hb.ext).app ha.ext).app hb.ext⟩⟩
       rw [if_neg d6];have d6:=nbeq d6;have ho2:=(ho'.push hz).app (hb.ext (i:=ib + 1) (j:=ib + 1 + k2));have b2':ib + 1 + k2 < b.size:=by omega
       refine wpS_bind (qa0j 'o' ha fun q hq=>?_);split
       ·exact wpS_pure ⟨F4,.inl ⟨_,rfl,((ho2.push hq).app hb.ext).app ha.ext⟩⟩
       rename_i d7;have d7:=nbeq d7;split
       ·exact wpS_pure ⟨F4,.inr ⟨rfl,ho2.push hq,by dsimp only;omega,b2',by dsimp only;omega⟩⟩
       ·exact wpS_pure ⟨F4,ho2.push hq,rfl,by dsimp only;omega,b2',by dsimp only;omega⟩
      ·rw [if_neg d5]
       have ho2:=ho'.push hz;have b2':ib + 1 < b.size:=by omega
       refine wpS_bind (qa0j 'o' ha fun q hq=>?_);split
       ·exact wpS_pure ⟨F4,.inl ⟨_,rfl,((ho2.push hq).app hb.ext).app ha.ext⟩⟩
       rename_i d7;have d7:=nbeq d7;split
       ·exact wpS_pure ⟨F4,.inr ⟨rfl,ho2.push hq,by dsimp only;omega,b2',by dsimp only;omega⟩⟩
       ·exact wpS_pure ⟨F4,ho2.push hq,rfl,by dsimp only;omega,b2',by dsimp only;omega⟩
   ·rintro⟨r,out,ia,ib,mg,ac,bc⟩ st3 ⟨F3,ho,e,b1,b2,b3⟩
    exact⟨F3,.inr ⟨e,ho,b1,b2,b3⟩⟩
   ·rintro⟨r,out,ia,ib,mg,ac,bc⟩ st3 ⟨F3,⟨r',e,hr⟩ | ⟨e,ho,b1,b2,b3⟩⟩
    ·cases e
     exact wpS_pure ⟨F3,_,rfl,hr⟩
    cases e
    exact wpS_bind (qa6f F3 fun st4 F4=>wpS_pure ⟨F4,ho,rfl,b1,b2,by dsimp only at b3 ⊢;omega⟩)
 ·rintro⟨r,out,ia,ib,mg⟩ st1 ⟨F1,ho,e,b1,b2,b3⟩
  exfalso
  dsimp only at b1 b2 b3
  omega
 ·rintro⟨r,out,ia,ib,mg⟩ st1 ⟨F1,r',e,hr⟩
  cases e
  exact wpS_pure (h _ _ hr F1)
end
end Sx
end
section
namespace Sx
open PySem PySem.W PyProof.Rows
local macro_rules | `(tactic| walk_at "pv mergeHi") => `(tactic| delta $(⟨pvId "mergeHi"⟩))
section
variable{prog:Program}{w:World}{A:Around}{E:Value->Shared->Prop}{s:Shared}{st:SortSt}{N:Nat}{pd:Array 'h'}
def qc4o{a b:Array Keyed}{Q:Array Keyed->SortSt->Prop}(ha:IPs a)(hb:IPs b)(h1:1 <= a.size)(h2:1 <= b.size)(F:Sf N pd st)(h:∀ out st',IPs out->Sf N pd st'->Q out st') :
  wpS (model prog w) A E s ((sortPriv% PySem.Builtin.mergeHi) a b) Q st:=by
 walk_at "pv mergeHi";refine wpS_bind (wpS_lift (wpAny_rule ⟨rfl,?_⟩))
 dsimp only
 refine wpS_bind (qa0j 'o' ha fun x0 hx0=>?_);by_cases c1:(a.size - 1 == 0)=true
 ·rw [if_pos c1]
  exact wpS_pure (h _ _ ((ha.ext.app hb.ext).app (IPs.one hx0).rev) F)
 rw [if_neg c1];have c1:=nbeq c1;by_cases c2:(b.size == 1)=true
 ·rw [if_pos c2]
  exact wpS_pure (h _ _ ((hb.ext.app ha.ext).app (IPs.one hx0).rev) F)
 rw [if_neg c2];have c2:=nbeq c2;refine wpS_bind (wpS_get ?_);refine wpS_bind (wpS_mono (wpS_forRange (I:=fun i c st'=>Sf N pd st'/\IPs c.2.2.2.1/\c.1=none/\(1 <= c.2.1/\c.2.1 <= a.size)/\(2 <= c.2.2.1/\c.2.2.1 <= b.size)/\i + 1 + c.2.1 + c.2.2.1 <= a.size + b.size) (Q:=fun c st'=>Sf N pd st'/\∃ r,c.1=some r/\IPs r) ?_ ?_ ⟨F,IPs.one hx0,rfl,by dsimp only;omega,by dsimp only;omega,by dsimp only;omega⟩) ?_)
 ·rintro i ⟨r,na,nb,out,mg⟩ st1 _ hi ⟨F1,ho,e,b1,b2,b3⟩
  cases e
  dsimp only at ho b1 b2 b3 ⊢
  refine wpS_bind (wpS_mono (wpS_forRange (I:=fun j c st'=>Sf N pd st'/\IPs c.2.2.2.1/\c.1=none/\(1 <= c.2.1/\c.2.1 <= a.size)/\(2 <= c.2.2.1/\c.2.2.1 <= b.size)/\i + 1 + j + c.2.1 + c.2.2.1 <= a.size + b.size) (Q:=fun c st'=>Sf N pd st'/\((∃ r,c.1=some r/\IPs r) ∨ (c.1=none/\IPs c.2.2.2.1/\(1 <= c.2.1/\c.2.1 <= a.size)/\(2 <= c.2.2.1/\c.2.2.1 <= b.size)/\i + 2 + c.2.1 + c.2.2.1 <= a.size + b.size))) ?_ ?_ ⟨F1,ho,rfl,b1,b2,b3⟩) ?_)
  ·rintro j ⟨r,na,nb,out,ac,bc⟩ st2 _ hj ⟨F2,ho,e,b1,b2,b3⟩
   cases e
   dsimp only at ho b1 b2 b3 ⊢
   refine wpS_bind (qa0j 'o' hb fun x hx=>wpS_bind (qa0j 'o' ha fun y hy=>wpS_bind (s_lt hx hy F2.k fun bw=>?_)));cases bw with
   | true =>
    dsimp only
    rw [if_pos rfl];refine wpS_bind (qa0j 'o' ha fun z hz=>?_);by_cases d1:(na - 1 == 0)=true
    ·rw [if_pos d1]
     exact wpS_pure ⟨F2,.inl ⟨_,rfl,(ha.ext.app hb.ext).app (ho.push hz).rev⟩⟩
    rw [if_neg d1];have d1:=nbeq d1;by_cases d2:ac + 1 ≥ mg
    ·rw [if_pos d2];exact wpS_pure ⟨F2,.inr ⟨rfl,ho.push hz,by dsimp only;omega,b2,by dsimp only;omega⟩⟩
    ·rw [if_neg d2];exact wpS_pure ⟨F2,ho.push hz,rfl,by dsimp only;omega,b2,by dsimp only;omega⟩
   | false =>
    dsimp only
    rw [if_neg Bool.false_ne_true];refine wpS_bind (qa0j 'o' hb fun z hz=>?_);by_cases d1:(nb - 1 == 1)=true
    ·rw [if_pos d1]
     exact wpS_pure ⟨F2,.inl ⟨_,rfl,(hb.ext.app ha.ext).app (ho.push hz).rev⟩⟩
    rw [if_neg d1];have d1:=nbeq d1;by_cases d2:bc + 1 ≥ mg
    ·rw [if_pos d2];exact wpS_pure ⟨F2,.inr ⟨rfl,ho.push hz,b1,by dsimp only;omega,by dsimp only;omega⟩⟩
    ·rw [if_neg d2];exact wpS_pure ⟨F2,ho.push hz,rfl,b1,by dsimp only;omega,by dsimp only;omega⟩
  ·rintro⟨r,na,nb,out,ac,bc⟩ st2 ⟨F2,ho,e,b1,b2,b3⟩
   exact⟨F2,.inr ⟨e,ho,b1,b2,'o'⟩⟩
  ·rintro⟨r,na,nb,out,ac,bc⟩ st2 ⟨F2,⟨r',e,hr⟩ | ⟨e,ho,b1,b2,b3⟩⟩
   ·cases e
    exact wpS_pure ⟨F2,_,rfl,hr⟩
   cases e
   dsimp only at ho b1 b2 b3 ⊢
   refine wpS_bind (wpS_lift (wpAny_rule ⟨rfl,?_⟩));refine wpS_bind (wpS_mono (wpS_forRange (I:=fun j c st'=>Sf N pd st'/\IPs c.2.2.2.1/\c.1=none/\(1 <= c.2.1/\c.2.1 <= a.size)/\(2 <= c.2.2.1/\c.2.2.1 <= b.size)/\i + 2 + c.2.1 + c.2.2.1 <= a.size + b.size) (Q:=fun c st'=>Sf N pd st'/\((∃ r,c.1=some r/\IPs r) ∨ (c.1=none/\IPs c.2.2.2.1/\(1 <= c.2.1/\c.2.1 <= a.size)/\(2 <= c.2.2.1/\c.2.2.1 <= b.size)/\i + 2 + c.2.1 + c.2.2.1 <= a.size + b.size))) ?_ ?_ ⟨F2,ho,rfl,b1,b2,b3⟩) ?_)
   ·rintro j ⟨r,na,nb,out,mg,ac,bc⟩ st3 _ hj ⟨F3,ho,e,b1,b2,b3⟩
    cases e
    dsimp only at ho b1 b2 b3 ⊢
    by_cases d0:mg > 1
    ·rw [if_pos d0]
     refine wpS_bind (qa6f F3 fun st4 F4=>?_);refine wpS_bind (qa0j 'o' hb fun x hx=>wpS_bind (qa2e hx ha F4.k 'o' 'o' fun k hk=>?_))
     dsimp only
     by_cases d1:na - k > 0
     ·rw [if_pos d1]
      by_cases d2:(k == 0)=true
      ·rw [if_pos d2]
       exact wpS_pure ⟨F4,.inl ⟨_,rfl,(ha.ext.app hb.ext).app (ho.app ha.ext.rev).rev⟩⟩
      rw [if_neg d2];have d2:=nbeq d2;have ho':=ho.app (ha.ext (i:=k) (j:=na)).rev;have b1':1 <= k/\k <= a.size:=by omega
      refine wpS_bind (qa0j 'o' hb fun z hz=>?_);by_cases d4:(nb - 1 == 1)=true
      ·rw [if_pos d4]
       exact wpS_pure ⟨F4,.inl ⟨_,rfl,(hb.ext.app ha.ext).app (ho'.push hz).rev⟩⟩
      rw [if_neg d4];have d4:=nbeq d4;refine wpS_bind (qa0j 'o' ha fun y hy=>wpS_bind (qa2e hy hb F4.k 'o' 'o' fun k2 hk2=>?_))
      dsimp only
      by_cases d5:nb - 1 - k2 > 0
      ·rw [if_pos d5]
       by_cases d6:(k2 == 1)=true
       ·rw [if_pos d6]
        exact wpS_pure ⟨F4,.inl ⟨_,rfl,(hb.ext.app ha.ext).app ((ho'.push hz).app hb.ext.rev).rev⟩⟩
       rw [if_neg d6];have d6:=nbeq d6;by_cases d8:(k2 == 0)=true
       ·rw [if_pos d8]
        exact wpS_pure ⟨F4,.inl ⟨_,rfl,(ha.ext.app hb.ext).app ((ho'.push hz).app hb.ext.rev).rev⟩⟩
       rw [if_neg d8];have d8:=nbeq d8;have ho2:=(ho'.push hz).app (hb.ext (i:=k2) (j:=nb - 1)).rev;have b2':2 <= k2/\k2 <= b.size:=by omega
       refine wpS_bind (qa0j 'o' ha fun q hq=>?_);split
       ·exact wpS_pure ⟨F4,.inl ⟨_,rfl,(ha.ext.app hb.ext).app (ho2.push hq).rev⟩⟩
       rename_i d7;have d7:=nbeq d7;split
       ·exact wpS_pure ⟨F4,.inr ⟨rfl,ho2.push hq,by dsimp only;omega,b2',by dsimp only;omega⟩⟩
       ·exact wpS_pure ⟨F4,ho2.push hq,rfl,by dsimp only;omega,b2',by dsimp only;omega⟩
      ·rw [if_neg d5]
       have ho2:=ho'.push hz;have b2':2 <= nb - 1/\nb - 1 <= b.size:=by omega
       refine wpS_bind (qa0j 'o' ha fun q hq=>?_);split
       ·exact wpS_pure ⟨F4,.inl ⟨_,rfl,(ha.ext.app hb.ext).app (ho2.push hq).rev⟩⟩
       rename_i d7;have d7:=nbeq d7;split
       ·exact wpS_pure ⟨F4,.inr ⟨rfl,ho2.push hq,by dsimp only;omega,b2',by dsimp only;omega⟩⟩
       ·exact wpS_pure ⟨F4,ho2.push hq,rfl,by dsimp only;omega,b2',by dsimp only;omega⟩
     ·rw [if_neg d1]
      have ho':=ho;have b1':=b1;refine wpS_bind (qa0j 'o' hb fun z hz=>?_);by_cases d4:(nb - 1 == 1)=true
      ·rw [if_pos d4]
       exact wpS_pure ⟨F4,.inl ⟨_,rfl,(hb.ext.app ha.ext).app (ho'.push hz).rev⟩⟩
      rw [if_neg d4];have d4:=nbeq d4;refine wpS_bind (qa0j 'o' ha fun y hy=>wpS_bind (qa2e hy hb F4.k 'o' 'o' fun k2 hk2=>?_))
      dsimp only
      by_cases d5:nb - 1 - k2 > 0
      ·rw [if_pos d5]
       by_cases d6:(k2 == 1)=true
       ·rw [if_pos d6]
        exact wpS_pure ⟨F4,.inl ⟨_,rfl,(hb.ext.app ha.ext).app ((ho'.push hz).app hb.ext.rev).rev⟩⟩
       rw [if_neg d6];have d6:=nbeq d6;by_cases d8:(k2 == 0)=true
       ·rw [if_pos d8]
        exact wpS_pure ⟨F4,.inl ⟨_,rfl,(ha.ext.app hb.ext).app ((ho'.push hz).app hb.ext.rev).rev⟩⟩
       rw [if_neg d8];have d8:=nbeq d8;have ho2:=(ho'.push hz).app (hb.ext (i:=k2) (j:=nb - 1)).rev;have b2':2 <= k2/\k2 <= b.size:=by omega
       refine wpS_bind (qa0j 'o' ha fun q hq=>?_);split
       ·exact wpS_pure ⟨F4,.inl ⟨_,rfl,(ha.ext.app hb.ext).app (ho2.push hq).rev⟩⟩
       rename_i d7;have d7:=nbeq d7;split
       ·exact wpS_pure ⟨F4,.inr ⟨rfl,ho2.push hq,by dsimp only;omega,b2',by dsimp only;omega⟩⟩
       ·exact wpS_pure ⟨F4,ho2.push hq,rfl,by dsimp only;omega,b2',by dsimp only;omega⟩
      ·rw [if_neg d5]
       have ho2:=ho'.push hz;have b2':2 <= nb - 1/\nb - 1 <= b.size:=by omega
       refine wpS_bind (qa0j 'o' ha fun q hq=>?_);split
       ·exact wpS_pure ⟨F4,.inl ⟨_,rfl,(ha.ext.app hb.ext).app (ho2.push hq).rev⟩⟩
       rename_i d7;have d7:=nbeq d7;split
       ·exact wpS_pure ⟨F4,.inr ⟨rfl,ho2.push hq,by dsimp only;omega,b2',by dsimp only;omega⟩⟩
       ·exact wpS_pure ⟨F4,ho2.push hq,rfl,by dsimp only;omega,b2',by dsimp only;omega⟩
    ·rw [if_neg d0]
     refine wpS_bind (qa6f F3 fun st4 F4=>?_);refine wpS_bind (qa0j 'o' hb fun x hx=>wpS_bind (qa2e hx ha F4.k 'o' 'o' fun k hk=>?_))
     dsimp only
     by_cases d1:na - k > 0
     ·rw [if_pos d1]
      by_cases d2:(k == 0)=true
      ·rw [if_pos d2]
       exact wpS_pure ⟨F4,.inl ⟨_,rfl,(ha.ext.app hb.ext).app (ho.app ha.ext.rev).rev⟩⟩
      rw [if_neg d2];have d2:=nbeq d2;have ho':=ho.app (ha.ext (i:=k) (j:=na)).rev;have b1':1 <= k/\k <= a.size:=by omega
      refine wpS_bind (qa0j 'o' hb fun z hz=>?_);by_cases d4:(nb - 1 == 1)=true
      ·rw [if_pos d4]
       exact wpS_pure ⟨F4,.inl ⟨_,rfl,(hb.ext.app ha.ext).app (ho'.push hz).rev⟩⟩
      rw [if_neg d4];have d4:=nbeq d4;refine wpS_bind (qa0j 'o' ha fun y hy=>wpS_bind (qa2e hy hb F4.k 'o' 'o' fun k2 hk2=>?_))
      dsimp only
      by_cases d5:nb - 1 - k2 > 0
      ·rw [if_pos d5]
       by_cases d6:(k2 == 1)=true
       ·rw [if_pos d6]
        exact wpS_pure ⟨F4,.inl ⟨_,rfl,(hb.ext.app ha.ext).app ((ho'.push hz).app hb.ext.rev).rev⟩⟩
       rw [if_neg d6];have d6:=nbeq d6;by_cases d8:(k2 == 0)=true
       ·rw [if_pos d8]
        exact wpS_pure ⟨F4,.inl ⟨_,rfl,(ha.ext.app hb.ext).app ((ho'.push hz).app hb.ext.rev).rev⟩⟩
       rw [if_neg d8];have d8:=nbeq d8;have ho2:=(ho'.push hz).app (hb.ext (i:=k2) (j:=nb - 1)).rev;have b2':2 <= k2/\k2 <= b.size:=by omega
       refine wpS_bind (qa0j 'o' ha fun q hq=>?_);split
       ·exact wpS_pure ⟨F4,.inl ⟨_,rfl,(ha.ext.app hb.ext).app (ho2.push hq).rev⟩⟩
       rename_i d7;have d7:=nbeq d7;split
       ·exact wpS_pure ⟨F4,.inr ⟨rfl,ho2.push hq,by dsimp only;omega,b2',by dsimp only;omega⟩⟩
       ·exact wpS_pure ⟨F4,ho2.push hq,rfl,by dsimp only;omega,b2',by dsimp only;omega⟩
      ·rw [if_neg d5]
       have ho2:=ho'.push hz;have b2':2 <= nb - 1/\nb - 1 <= b.size:=by omega
       refine wpS_bind (qa0j 'o' ha fun q hq=>?_);split
       ·exact wpS_pure ⟨F4,.inl ⟨_,rfl,(ha.ext.app hb.ext).app (ho2.push hq).rev⟩⟩
       rename_i d7;have d7:=nbeq d7;split
       ·exact wpS_pure ⟨F4,.inr ⟨rfl,ho2.push hq,by dsimp only;omega,b2',by dsimp only;omega⟩⟩
       ·exact wpS_pure ⟨F4,ho2.push hq,rfl,by dsimp only;omega,b2',by dsimp only;omega⟩
     ·rw [if_neg d1]
      have ho':=ho;have b1':=b1;refine wpS_bind (qa0j 'o' hb fun z hz=>?_);by_cases d4:(nb - 1 == 1)=true
      ·rw [if_pos d4]
       exact wpS_pure ⟨F4,.inl ⟨_,rfl,(hb.ext.app ha.ext).app (ho'.push hz).rev⟩⟩
      rw [if_neg d4];have d4:=nbeq d4;refine wpS_bind (qa0j 'o' ha fun y hy=>wpS_bind (qa2e hy hb F4.k 'o' 'o' fun k2 hk2=>?_))
      dsimp only
      by_cases d5:nb - 1 - k2 > 0
      ·rw [if_pos d5]
       by_cases d6:(k2 == 1)=true
       ·rw [if_pos d6]
        exact wpS_pure ⟨F4,.inl ⟨_,rfl,(hb.ext.app ha.ext).app ((ho'.push hz).app hb.ext.rev).rev⟩⟩
       rw [if_neg d6];have d6:=nbeq d6;by_cases d8:(k2 == 0)=true
       ·rw [if_pos d8]
        exact wpS_pure ⟨F4,.inl ⟨_,rfl,(ha.ext.app hb.ext).app ((ho'.push hz).app hb.ext.rev).rev⟩⟩
       rw [if_neg d8];have d8:=nbeq d8;have ho2:=(ho'.push hz).app (hb.ext (i:=k2) (j:=nb - 1)).rev;have b2':2 <= k2/\k2 <= b.size:=by omega
       refine wpS_bind (qa0j 'o' ha fun q hq=>?_);split
       ·exact wpS_pure ⟨F4,.inl ⟨_,rfl,(ha.ext.app hb.ext).app (ho2.push hq).rev⟩⟩
       rename_i d7;have d7:=nbeq d7;split
       ·exact wpS_pure ⟨F4,.inr ⟨rfl,ho2.push hq,by dsimp only;omega,b2',by dsimp only;omega⟩⟩
       ·exact wpS_pure ⟨F4,ho2.push hq,rfl,by dsimp only;omega,b2',by dsimp only;omega⟩
      ·rw [if_neg d5]
       have ho2:=ho'.push hz;have b2':2 <= nb - 1/\nb - 1 <= b.size:=by omega
       refine wpS_bind (qa0j 'o' ha fun q hq=>?_);split
       ·exact wpS_pure ⟨F4,.inl ⟨_,rfl,(ha.ext.app hb.ext).app (ho2.push hq).rev⟩⟩
       rename_i d7;have d7:=nbeq d7;split
       ·exact wpS_pure ⟨F4,.inr ⟨rfl,ho2.push hq,by dsimp only;omega,b2',by dsimp only;omega⟩⟩
       ·exact wpS_pure ⟨F4,ho2.push hq,rfl,by dsimp only;omega,b2',by dsimp only;omega⟩
   ·rintro⟨r,na,nb,out,mg,ac,bc⟩ st3 ⟨F3,ho,e,b1,b2,b3⟩
    exact⟨F3,.inr ⟨e,ho,b1,b2,b3⟩⟩
   ·rintro⟨r,na,nb,out,mg,ac,bc⟩ st3 ⟨F3,⟨r',e,hr⟩ | ⟨e,ho,b1,b2,b3⟩⟩
    ·cases e
     exact wpS_pure ⟨F3,_,rfl,hr⟩
    cases e
    exact wpS_bind (qa6f F3 fun st4 F4=>wpS_pure ⟨F4,ho,rfl,b1,b2,by dsimp only at b3 ⊢;omega⟩)
 ·rintro⟨r,na,nb,out,mg⟩ st1 ⟨F1,ho,e,b1,b2,b3⟩
  exfalso
  dsimp only at b1 b2 b3
  omega
 ·rintro⟨r,na,nb,out,mg⟩ st1 ⟨F1,r',e,hr⟩
  cases e
  exact wpS_pure (h _ _ hr F1)
end
end Sx
end
section
namespace Sx
open PySem PySem.W PyProof.Rows
local macro_rules | `(tactic| walk_at "pv mergeAt") => `(tactic| delta $(⟨pvId "mergeAt"⟩))
noncomputable def Ch:Nat->List 'h'->Nat->Prop
 | a,[],e=>a=e
 | a,x :: r,e=>x.1=a/\1 <= x.2.1/\Ch (a + x.2.1) r e
def Ch.le:∀ {l:List 'h'} {a e:Nat},Ch a l e->a <= e
 | [],a,e,h=>le_of_eq h
 | x :: r,a,e,h=>le_trans (Nat.le_add_right _ _) h.2.2.le
def Ch.two:∀ {l:List 'h'} {a e i:Nat},Ch a l e->i + 1 < l.length->∃ sa na p nb q,l[i]? = some (sa,na,p)/\l[i + 1]? = some (sa + na,nb,q)/\1 <= na/\1 <= nb/\sa + na + nb <= e/\Ch a ((l.set i (sa,na + nb,p)).eraseIdx (i + 1)) e
 | [],_,_,_,_,h=>absurd h (not_lt_zero _)
 | [x],_,_,i,_,h=>by simp at h
 | (s1,n1,p1) :: (s2,n2,p2) :: r,a,e,0,h,_=>by
  obtain⟨h1,h2,h3,h4,h5⟩:=h
  dsimp only at h1 h2 h3 h4 h5
  subst h1;subst h3;refine⟨s1,n1,p1,n2,p2,rfl,rfl,h2,h4,h5.le,rfl,le_trans h2 (Nat.le_add_right _ _),?_⟩;show Ch (s1 + (n1 + n2)) r e;rw [← Nat.add_assoc];exact h5
 | (s1,n1,p1) :: y :: r,a,e,i + 1,h,hl=>by
  obtain⟨sa,na,p,nb,q,e1,e2,m1,m2,m3,m4⟩:=Ch.two (l:=y :: r) (i:=i) h.2.2 (by simpa using hl);exact⟨sa,na,p,nb,q,e1,e2,m1,m2,m3,h.1,h.2.1,m4⟩
def Ch.mod{f:Nat × Nat × Nat->Nat × Nat × Nat}(hf:∀ x,(f x).1=x.1/\(f x).2.1=x.2.1):∀ {l:List 'h'} {a e i:Nat},Ch a l e->Ch a (l.modify i f) e
 | [],a,e,i,h=>by rw [List.modify_nil];exact h
 | x :: r,a,e,0,h=>by
  rw [List.modify_zero_cons];refine⟨(hf x).1.trans h.1,by rw [(hf x).2];exact h.2.1,by rw [(hf x).2];exact h.2.2⟩
 | x :: r,a,e,i + 1,h=>by
  rw [List.modify_succ_cons];exact⟨h.1,h.2.1,h.2.2.mod hf⟩
def Ch.snoc{n p:Nat}(hn:1 <= n):∀ {l:List 'h'} {a e:Nat},Ch a l e->Ch a (l ++ [(e,n,p)]) (e + n)
 | [],a,e,h=>⟨h.symm,hn,congrArg (· + n) h⟩
 | x :: r,a,e,h=>⟨h.1,h.2.1,h.2.2.snoc hn⟩
section
variable{prog:Program}{w:World}{A:Around}{E:Value->Shared->Prop}{s:Shared}{st:SortSt}{N:Nat}{pd:Array 'h'}
def wpS_set{σ:Type}{M:Model}{t st:σ}{Q:PUnit->σ->Prop}(h:Q ⟨⟩ t):wpS M A E s (set t:StateT σ Sem PUnit) Q st:=by
 unfold wpS;rw [StateT.run_set];exact wpAny_pure ⟨rfl,h⟩
def qb7u{f:Nat->Nat}:∀ (l:List (Keyed × Nat)) (a:Array Keyed),(∀ x ∈ l,IP x.1)->IPs a->(l.foldl (fun a x=>a.setIfInBounds (f x.2) x.1) a).size=a.size/\IPs (l.foldl (fun a x=>a.setIfInBounds (f x.2) x.1) a)
 | [],a,_,h=>⟨rfl,h⟩
 | x :: l,a,hl,h=>by
  obtain⟨e1,e2⟩:=qb7u (f:=f) l (a.setIfInBounds (f x.2) x.1) (fun y hy=>hl y (.tail _ hy)) (fun y hy=>by
   rcases Array.mem_or_eq_of_mem_setIfInBounds hy with h1 | h1
   ·exact h y h1
   ·rw [h1];exact hl x (.head _))
  exact⟨e1.trans Array.size_setIfInBounds,e2⟩
def qb1h{i e:Nat}{Q:Bool->SortSt->Prop}(F:Sf N pd st)(hc:Ch 0 pd.toList e)(he:e <= N)(hi:i + 1 < pd.size)(h:∀ st' pd',Ch 0 pd'.toList e->Sf N pd' st'->Q true st') :
  wpS (model prog w) A E s (mergeAt' i) Q st:=by
 delta mergeAt'
 walk_at "pv mergeAt";refine wpS_bind (wpS_get ?_);obtain⟨sa,na,p,nb,q,e1,e2,m1,m2,m3,m4⟩:=hc.two (i:=i) (by simpa using hi);have e1':(pendingOf st)[i]? = some (sa,na,p):=by rw [F.p,← getElem?_toList];exact e1
 have e2':(pendingOf st)[i + 1]? = some (sa + na,nb,q):=by rw [F.p,← getElem?_toList];exact e2
 rw [e1',e2']
 dsimp only
 refine wpS_bind (wpS_set ?_);have hz:((sortPriv% PySem.Builtin.SortState.a) st).size=N:=F.z;have F1:Sf N ((pd.setIfInBounds i (sa,na + nb,p)).eraseIdxIfInBounds (i + 1)) (setPending st (((pendingOf st).setIfInBounds i (sa,na + nb,p)).eraseIdxIfInBounds (i + 1))):=⟨F.k,F.z,F.ip,F.f,by show Array.eraseIdxIfInBounds (Array.setIfInBounds (pendingOf st) _ _) _=_;rw [F.p]⟩;have C1:Ch 0 ((pd.setIfInBounds i (sa,na + nb,p)).eraseIdxIfInBounds (i + 1)).toList e:=by
  rw [Array.toList_eraseIdxIfInBounds,Array.toList_setIfInBounds];exact m4
 refine wpS_bind (qa0j 'o' F.ip fun x hx=>wpS_bind (qa2e hx F.ip F1.k 'o' 'o' fun k hk=>?_))
 dsimp only
 by_cases d1:(na - k == 0)=true
 ·rw [if_pos d1];exact wpS_pure (h _ _ C1 F1)
 rw [if_neg d1];have d1:=nbeq d1;refine wpS_bind (qa0j 'o' F.ip fun y hy=>wpS_bind (qa2e hy F.ip F1.k 'o' 'o' fun k2 hk2=>?_))
 dsimp only
 by_cases d2:(k2 == 0)=true
 ·rw [if_pos d2];exact wpS_pure (h _ _ C1 F1)
 rw [if_neg d2];have d2:=nbeq d2;have W:∀ (out:Array Keyed) (st':SortSt),IPs out->Sf N ((pd.setIfInBounds i (sa,na + nb,p)).eraseIdxIfInBounds (i + 1)) st'->Sf N ((pd.setIfInBounds i (sa,na + nb,p)).eraseIdxIfInBounds (i + 1)) (setArr st' (out.toList.zipIdx.foldl (fun a x=>a.setIfInBounds (sa + k + x.2) x.1) (arrOf st'))):=fun out st' ho F'=>by
  obtain⟨g1,g2⟩:=qb7u (f:=fun j=>sa + k + j) out.toList.zipIdx (arrOf st') (fun x hx=>ho _ (mem_toList_iff.mp (List.fst_mem_of_mem_zipIdx hx))) F'.ip;exact⟨F'.k,g1.trans F'.z,g2,F'.f,F'.p⟩
 have s1:1 <= ((arrOf st).extract (sa + k) (sa + na)).size:=by rw [Array.size_extract,F.z];omega
 have s2:1 <= ((arrOf st).extract (sa + na) (sa + na + k2)).size:=by rw [Array.size_extract,F.z];omega
 by_cases d3:na - k <= k2
 ·rw [if_pos d3]
  refine wpS_bind (qc4n F.ip.ext F.ip.ext s1 s2 F1 fun out st' ho F'=>wpS_bind (wpS_modify (wpS_bind (wpS_get ?_))));refine wpS_pure ?_;have e:(failedOf st').isNone=true:=by rw [F'.f];rfl
  show Q (failedOf st').isNone _;rw [e];exact h _ _ C1 (W out st' ho F')
 ·rw [if_neg d3]
  refine wpS_bind (qc4o F.ip.ext F.ip.ext s1 s2 F1 fun out st' ho F'=>wpS_bind (wpS_modify (wpS_bind (wpS_get ?_))));refine wpS_pure ?_;have e:(failedOf st').isNone=true:=by rw [F'.f];rfl
  show Q (failedOf st').isNone _;rw [e];exact h _ _ C1 (W out st' ho F')
def ite_lt1{p:Prop}[Decidable p]{a n:Nat}(h:a + 1 < n):(if p then a - 1 else a) + 1 < n:=by split<;>omega
def s_runs{Q:Unit->SortSt->Prop}(F:Sf N #[] st)(h2:2 <= N)(h:∀ st' pd',Sf N pd' st'->Q () st'):wpS (model prog w) A E s sortRuns' Q st:=by
 rw [sortRuns'_eq];refine wpS_bind (wpS_get ?_)
 dsimp only
 rw [F.z];refine wpS_bind (wpS_mono (wpS_forRange (I:=fun _ (c:Option Unit × Nat) st'=>c.1=none/\c.2 <= N/\∃ pd:Array 'h',Ch 0 pd.toList c.2/\Sf N pd st') (Q:=fun c st'=>c.1=none/\c.2 <= N/\∃ pd:Array 'h',Ch 0 pd.toList c.2/\Sf N pd st') ?_ (fun _ _ h=>h) ⟨rfl,zero_le _,#[],(show(0:Nat)=0 from rfl),F⟩) ?_)
 ·rintro i ⟨r,lo⟩ st1 _ _ ⟨e,hl,pd,C,F1⟩
  cases e
  dsimp only at hl C ⊢
  by_cases c1:lo ≥ N
  ·rw [if_pos c1];exact wpS_pure ⟨rfl,hl,pd,C,F1⟩
  rw [if_neg c1];refine wpS_bind (s_count F1 'o' 'o' fun m st2 hm1 hm2 F2=>?_)
  dsimp only
  by_cases c2:m < minRun' N N 0
  ·rw [if_pos c2]
   refine wpS_bind (wpS_lift (wpAny_rule ⟨rfl,?_⟩));refine wpS_bind (s_bin F2 'o' fun st3 F3=>?_);rw [if_neg 'd'];have hn1:1 <= min (N - lo) (minRun' N N 0):=by omega
   have hn2:lo + min (N - lo) (minRun' N N 0) <= N:=by omega
   generalize min (N - lo) (minRun' N N 0)=n at hn1 hn2 ⊢;refine wpS_bind (wpS_get ?_);rw [F3.p];cases hb:pd.back? with
   | none =>
    dsimp only
    refine wpS_bind (wpS_modify (wpS_pure ⟨rfl,hn2,pd.push (lo,n,0),?_,⟨F3.k,F3.z,F3.ip,F3.f,?_⟩⟩))
    ·rw [toList_push];exact C.snoc hn1
    ·show Array.push (pendingOf _) _=_;rw [F3.p]
   | some b =>
    obtain⟨s1,n1,b3⟩:=b
    dsimp only
    refine wpS_bind (wpS_mono (wpS_forRange (I:=fun _ c st'=>c.1=none/\∃ pd:Array 'h',Ch 0 pd.toList lo/\Sf N pd st') (Q:=fun c st'=>c.1=none/\∃ pd:Array 'h',Ch 0 pd.toList lo/\Sf N pd st') ?_ (fun _ _ h=>h) ⟨rfl,pd,C,F3⟩) ?_)
    ·rintro i ⟨r,u⟩ st1 _ _ ⟨e,pd,C,F1⟩
     cases e
     refine wpS_bind (wpS_get ?_);rw [F1.p];by_cases d1:pd.size > 1
     ·rw [if_pos d1,getElem?_pos pd (pd.size - 2) 'o']
      dsimp only
      split
      ·exact wpS_pure ⟨rfl,pd,C,F1⟩
      ·refine wpS_bind (qb1h F1 C hl 'o' fun st2 pd2 C2 F2=>?_)
       rw [if_neg 'd'];exact wpS_pure ⟨rfl,pd2,C2,F2⟩
     ·rw [if_neg d1]
      exact wpS_pure ⟨rfl,pd,C,F1⟩
    ·rintro⟨r,u⟩ st4 ⟨e,pd,C,F4⟩
     cases e
     dsimp only
     refine wpS_bind (wpS_modify (wpS_bind (wpS_modify (wpS_pure ⟨rfl,hn2,(pd.modify (pd.size - 1) fun x=>(x.1,x.2.1,power' N (2 * s1 + n1) (2 * s1 + n1 + n1 + n) N)).push (lo,n,0),?_,⟨F4.k,F4.z,F4.ip,F4.f,?_⟩⟩))));rotate_left
     ·show((pendingOf st4).modify ((pendingOf st4).size - 1) _).push _=_;rw [F4.p]
     ·rw [toList_push,Array.toList_modify];exact(C.mod (f:=fun x=>(x.1,x.2.1,power' N (2 * s1 + n1) (2 * s1 + n1 + n1 + n) N)) (fun x=>⟨rfl,rfl⟩)).snoc hn1
  ·rw [if_neg c2]
   have F3:=F2;have hn1:=hm1;have hn2:lo + m <= N:=by omega
   generalize hmn:m=n at hn1 hn2 ⊢;refine wpS_bind (wpS_get ?_);rw [F3.p];cases hb:pd.back? with
   | none =>
    dsimp only
    refine wpS_bind (wpS_modify (wpS_pure ⟨rfl,hn2,pd.push (lo,n,0),?_,⟨F3.k,F3.z,F3.ip,F3.f,?_⟩⟩))
    ·rw [toList_push];exact C.snoc hn1
    ·show Array.push (pendingOf _) _=_;rw [F3.p]
   | some b =>
    obtain⟨s1,n1,b3⟩:=b
    dsimp only
    refine wpS_bind (wpS_mono (wpS_forRange (I:=fun _ c st'=>c.1=none/\∃ pd:Array 'h',Ch 0 pd.toList lo/\Sf N pd st') (Q:=fun c st'=>c.1=none/\∃ pd:Array 'h',Ch 0 pd.toList lo/\Sf N pd st') ?_ (fun _ _ h=>h) ⟨rfl,pd,C,F3⟩) ?_)
    ·rintro i ⟨r,u⟩ st1 _ _ ⟨e,pd,C,F1⟩
     cases e
     refine wpS_bind (wpS_get ?_);rw [F1.p];by_cases d1:pd.size > 1
     ·rw [if_pos d1,getElem?_pos pd (pd.size - 2) 'o']
      dsimp only
      split
      ·exact wpS_pure ⟨rfl,pd,C,F1⟩
      ·refine wpS_bind (qb1h F1 C hl 'o' fun st2 pd2 C2 F2=>?_)
       rw [if_neg 'd'];exact wpS_pure ⟨rfl,pd2,C2,F2⟩
     ·rw [if_neg d1]
      exact wpS_pure ⟨rfl,pd,C,F1⟩
    ·rintro⟨r,u⟩ st4 ⟨e,pd,C,F4⟩
     cases e
     dsimp only
     refine wpS_bind (wpS_modify (wpS_bind (wpS_modify (wpS_pure ⟨rfl,hn2,(pd.modify (pd.size - 1) fun x=>(x.1,x.2.1,power' N (2 * s1 + n1) (2 * s1 + n1 + n1 + n) N)).push (lo,n,0),?_,⟨F4.k,F4.z,F4.ip,F4.f,?_⟩⟩))));rotate_left
     ·show((pendingOf st4).modify ((pendingOf st4).size - 1) _).push _=_;rw [F4.p]
     ·rw [toList_push,Array.toList_modify];exact(C.mod (f:=fun x=>(x.1,x.2.1,power' N (2 * s1 + n1) (2 * s1 + n1 + n1 + n) N)) (fun x=>⟨rfl,rfl⟩)).snoc hn1
 ·rintro⟨r,lo⟩ st1 ⟨e,hl,pd,C,F1⟩
  cases e
  dsimp only at hl C ⊢
  refine wpS_bind (wpS_mono (wpS_forRange (I:=fun _ c st'=>c.1=none/\∃ pd:Array 'h',Ch 0 pd.toList lo/\Sf N pd st') (Q:=fun c st'=>c.1=none/\∃ pd:Array 'h',Ch 0 pd.toList lo/\Sf N pd st') ?_ (fun _ _ h=>h) ⟨rfl,pd,C,F1⟩) ?_)
  ·rintro i ⟨r,u⟩ st1 _ _ ⟨e,pd,C,F1⟩
   cases e
   refine wpS_bind (wpS_get ?_);by_cases c1:(pendingOf st1).size <= 1
   ·rw [if_pos c1];exact wpS_pure ⟨rfl,pd,C,F1⟩
   rw [if_neg c1];rw [F1.p] at c1 ⊢;refine wpS_bind (qb1h F1 C hl (ite_lt1 'o') fun st2 pd2 C2 F2=>?_);rw [if_neg 'd'];exact wpS_pure ⟨rfl,pd2,C2,F2⟩
  ·rintro⟨r,u⟩ st1 ⟨e,pd,C,F1⟩
   cases e
   exact wpS_pure (h _ _ F1)
end
end Sx
end
section
namespace Sx
open PySem PySem.W PyProof.Rows
section
variable{prog:Program}{w:World}{A:Around}{E:Value->Shared->Prop}{s:Shared}
def qc4p{vs:List Value}{ns:List Int}(h:IntsAre vs ns):IPs (pairsOf vs):=fun x hx=>by
 have h1:x ∈ vs.zip vs:=by rw [← pairsOf_toList];exact mem_toList_iff.mpr hx
 obtain⟨e,m⟩:=mem_zip_self h1;obtain⟨n,t,e2⟩:=h.all _ m;obtain⟨x1,x2⟩:=x
 dsimp only at e e2
 exact⟨n,t,by rw [← e,e2]⟩
def ips_out{xs:Array Keyed}(h:IPs xs):∃ ns,IntsAre (xs.map (·.2)).toList ns/\ns.length=xs.size:=by
 refine⟨_,intsAre_map _ fun v hv=>?_,by simp⟩;rw [Array.toList_map] at hv;obtain⟨x,hx,e⟩:=mem_map.mp hv;obtain⟨a,t,e2⟩:=h x (mem_toList_iff.mp hx);exact⟨a,t,by rw [← e,e2]⟩
def qb5s{a:Addr}{vs:List Value}{ns:List Int}{n:Nat}{P:PySem.Fin->Shared->Prop} (ho:s.heap.get? a=some (seqObj "list" vs.toArray n)) (hI:IntsAre vs ns) (hz:vs.length <= 4096)
  (h:∀ (out:Array Value) (ns':List Int),IntsAre out.toList ns'->ns'.length=ns.length->(ns.length < 64->ns'.Perm ns/\ns'.Pairwise (· <= ·))->P (.done (.ret .none)) { s with heap:=sortedHeap s.heap a vs out }) :
  wpAny (model prog w) A (Builtin.«list.sort» ⟨[.ref a],[]⟩) P E s:=by
 have hl:vs.length=ns.length:=hI.length;by_cases h64:vs.length < 64
 ·exact list_sort_tree ho hI h64 fun out ns' a1 a2 a3=>h out ns' a1 a2.length_eq fun _=>⟨a2,a3⟩
 have ha:a < s.heap.objs.size:=lt_size ho;obtain⟨e1,ho1⟩:∃ e1,(s.heap.update a (Obj.mapSeq fun _=>#[])).get? a=some (seqObj "list" #[] e1):=⟨_,get?_update_seq ho (fun _=>#[])⟩;have ho6:(((s.heap.update a (Obj.mapSeq fun _=>#[])).push (seqObj "tuple" vs.toArray 0)).push (seqObj "list" #[] 0)).get? a=some (seqObj "list" #[] e1):=by
  rw [Heap.get?_push_ne _ _ _ (by rw [size_push',Heap.size_update];exact ne_of_lt (lt_succ_of_lt ha)),Heap.get?_push_ne _ _ _ (by rw [Heap.size_update];exact ne_of_lt ha)];exact ho1
 rw [list_sort_plain];refine wpAny_bind (listItems_at ho rfl (wpAny_bind (listUpdate_at ho rfl ?_ (by rw [size_toArray,sizeLine_eq];omega) (zero_le _))));refine wpAny_bind (seqEpoch_at ho1 rfl (wpAny_bind (wpAny_newTuple ?_ (by show vs.length <= _;rw [sizeLine_eq];omega))));refine wpAny_bind (wpAny_newList (wpAny_holding ?_) (zero_le _));show wpAny (model prog w) A _ P E { s with heap:=((s.heap.update a (Obj.mapSeq fun _=>#[])).push (seqObj "tuple" vs.toArray 0)).push (seqObj "list" #[] 0) }
 dsimp only
 have hn2:¬ vs.toArray.size < 2:=by rw [size_toArray];omega
 rw [if_neg hn2,if_neg hn2];obtain⟨v₁,v₂,rest,rfl⟩:∃ v₁ v₂ rest,vs=v₁ :: v₂ :: rest:=by
  cases vs with
  | nil=>simp at h64
  | cons v₁ r=>cases r with
   | nil=>simp at h64
   | cons v₂ rest=>exact⟨v₁,v₂,rest,rfl⟩
 rw [keyKind_ints hI];refine wpAny_bind (wpAny_pure ?_);refine wpAny_bind (wpAny_mono (s_runs (N:=(v₁ :: v₂ :: rest).length) (st:=SortSt.mk' oneType' ((v₁ :: v₂ :: rest).toArray.zip (v₁ :: v₂ :: rest).toArray) #[] 7 none)
  (Q:=fun _ st'=>∃ pd,Sf (v₁ :: v₂ :: rest).length pd st') ⟨rfl,pairsOf_size _,qc4p hI,rfl,rfl⟩ 'e' fun st' pd F=>⟨pd,F⟩) ?_ fun _ _ e=>e)
 rintro⟨⟨⟩,st'⟩ s' ⟨rfl,pd,F⟩
 dsimp only
 refine wpAny_bind (seqEpoch_at ho6 rfl ?_);refine wpAny_bind (listUpdate_at ho6 rfl ?_ (hsz2:=by rw [Array.size_map];refine le_trans (le_of_eq F.z) ?_;rw [sizeLine_eq];omega));rw [F.f];simp only [bne_self_eq_false,false_eq_true,if_false];obtain⟨ns',g1,g2⟩:=ips_out F.ip;exact wpAny_pure (h _ ns' g1 (by rw [g2,F.z];exact hl) fun q=>absurd (hl ▸ q) h64)
end
end Sx
end
namespace L2
open PySem PySem.Spec PyProof.Rows
section
def SrtW(ns ns':List Int):Prop:=ns'.length=ns.length/\(ns.length < 64->ns'=Sx.srtI ns)
noncomputable def rSortW(K:W.Frag):List V->Hp->VK->Prop:=fun xs H Q=>∃ a,∃ ns:List Int,xs=[.ref a]/\(SqL K H a (ns.map V.int) ∨ SqT K H a (ns.map V.int))/\ns.length <= 4096/\∀ p ns',SrtW ns ns'->H p=none->Q (.ref p) (upd H p (.lst (ns'.map V.int)))
def qc2g{X:Cx}:qa2l X (.builtin "sorted") (rSortW X.K):=by
 intro pins s σ H xs us Q I rs h;obtain⟨a,ns,rfl,ha,hn,q⟩:=h;obtain⟨u,rfl,rx⟩:=vals1 rs;cases rx;obtain⟨its,T,o,n,rv,hT,ho,hc,hd,hz⟩:=qc0z I ha;have hI:IntsAre its ns:=intsAre_of rv;have hl:its.length=ns.length:=by rw [← rv.length,length_map]
 refine call_function_entry kind_sorted plain_sorted entry_sorted (args_sorted1 _) ?_;unfold Builtin.«sorted»;refine wpAny_bind (m:=checkCount "sorted" 1 1 _) (wpAny_pure (wpAny_bind (wpAny_collect_seq a hT ho hc hd (fun h' kp=>?_) (by rw [size_toArray,sizeLine_eq];omega))));refine wpAny_bind (wpAny_newList ?_ (by rw [sizeLine_eq];show its.length <= _;omega));have oL:(h'.push (seqObj "list" its.toArray 0)).get? h'.objs.size=some (seqObj "list" its.toArray 0):=get?_push_size _ rfl;show wpAny _ _ _ _ _ { s with heap:=h'.push (seqObj "list" its.toArray 0) };refine wpAny_bind (wpAny_holding (wpAny_call_entry slot_list_sort ⟨_,oL,rfl⟩ entry_list_sort (Sx.qb5s oL hI 'o' fun out ns' h1 h2 h3=>⟨_,rfl,?_⟩) (args_list_sort _)));refine wpAny_pure ⟨_,rfl,?_⟩;obtain⟨e,he⟩:=sortedHeap_at (out:=out) oL;have hle:(ns'.map V.int).length <= sizeLine:=by
  rw [length_map,h2,sizeLine_eq];omega
 have I1:Inv X pins σ H { s with heap:=h' }:=I.kept (t':=s.toks) kp;refine⟨.ref h'.objs.size,_,I1.laid (a:=h'.objs.size) (o:=.lst (ns'.map V.int)) (t':=s.toks) (fun b o q=>?_) 'c' ⟨hle,_,e,valsN h1,he⟩,rfl,q _ _ ⟨h2,fun g=>Sx.qb1w (h3 g).1 (h3 g).2⟩ (I1.hok.fresh 'c')⟩;have hb:b < h'.objs.size:=lt_size q;rw [sortedHeap_old (ne_of_lt hb) (by rw [size_push'];exact lt_succ_of_lt hb)];exact get?_push_of_some _ q
noncomputable def insW:List PyData->Option 'j'
 | [d]=>(seqD d).bind fun xs=>(qa2z xs).bind fun ns=>if ns.length <= 4096 then some ns else none
 | _=>none
def insW_l{ns:List Int}(h:ns.length <= 4096):insW [.list (ns.map .int)]=some ns:=by
 show(qa2z (ns.map .int)).bind _=_;rw [ints_of,bind_some,if_pos h]
def dSortW(da:TDA):TDE:=fun ρ Q=>da ρ fun xs ρ1=>need (qa1b ρ1 xs) fun ds=>need (insW ds) fun ns=>∀ ns',SrtW ns ns'->Q (.d (.list (ns'.map .int))) ρ1
theorem qc7o{da:TDA}{ρ:Rho}{Q:DV->Rho->Prop}:dSortW da ρ Q=da ρ fun xs ρ1=>need (qa1b ρ1 xs) fun ds=>need (insW ds) fun ns=>∀ ns',SrtW ns ns'->Q (.d (.list (ns'.map .int))) ρ1:=rfl
def qb7v{X:Cx}{e:Expr}{p pos:Pos}{daa:TDA} (hg:Gl X "sorted") (hm:X.mg "sorted" = none) (ha:DA X [e] daa)
  (he:starEach [e] X.env=(false,eval e X.env) :: starEach [] X.env:=by rfl) (hpl:(backTo pos (starEach [] X.env)).any (·.1)=false:=by rfl):DE X (.Call (.Name "sorted" p) [e] [] pos) (dSortW daa):=by
 obtain⟨ta,pa,aa⟩:=ha;refine⟨_,qa5x qc2g hg hm qa6r pa 'd' 'd' he hpl,?_⟩;intro c O ρ σ H Qd Q R h k;refine aa c O ρ σ H _ _ R h fun xs ρ1 O1 vs H1 h1 R1 P1 a1=>?_;obtain⟨ds,e1,hn2⟩:=ne h1;obtain⟨ns,e2,h2⟩:=ne hn2;have ts:=R1.tops a1 e1;unfold insW at e2;split at e2
 ·rename_i d
  obtain⟨zs,q0,e3⟩:=bind_eq_some_iff.mp e2;obtain⟨ms,q1,e4⟩:=bind_eq_some_iff.mp e3;split at e4
  ·rename_i hl
   cases e4
   obtain⟨v,rfl,t1⟩:=ts.one;obtain⟨a,ys,rfl,sq,al⟩:=t1.seq q0;have ex:=ints_map q1;subst ex;have ey:=ints_of_all al;subst ey;refine⟨a,ns,rfl,sq,hl,fun p ns' w hp=>?_⟩;have s2:=qa0y hp (HO.lst (ns'.map V.int));exact k _ _ _ _ _ (h2 ns' w) (R1.grow s2) (P1.trans (.same s2)) (qa2f (R1.frsLive p hp) qa0n qa6t)
  ·cases e4
 ·cases e2
end
section
section
variable{X:Cx}
def rEqE(K:W.Frag):R2:=fun x y H Q=>∃ a b xs,x=.ref a/\y=.ref b/\SqT K H a xs/\SqT K H b []/\Q (.bl xs.isEmpty) H
def op_eqE(hu:X.A.units + 64 < cLine):OpR X (compareOp .Eq) (rEqE X.K):=by
 intro pins s σ H x y v u Q I rx ry h;obtain⟨a,b,xs,rfl,rfl,ha,hb,q⟩:=h;cases rx;cases ry;obtain⟨its,r1,⟨o1,e1,c1,n1,d1⟩,_⟩:=I.tuple ha;obtain⟨its2,r2,⟨o2,e2,c2,n2,d2⟩,_⟩:=I.tuple hb;have h2:its2=[]:=r2.zero;subst h2;obtain⟨k1,dd1,dt1,sl1⟩:=o1;obtain⟨k2,dd2,dt2,sl2⟩:=o2
 dsimp only at c1 d1 c2 d2
 subst c1;subst d1;subst c2;subst d2;have hs:((List.range (min its.toArray.size (#[]:Array Value).size)).all (fun _=>true) && its.toArray.size == (#[]:Array Value).size)=xs.isEmpty:=by
  have hl:=r1.length;cases xs with
  | nil=>cases its with
   | nil=>rfl
   | cons _ _=>simp at hl
  | cons _ _=>cases its with
   | nil=>simp at hl
   | cons _ _=>simp
 have main:wpAny (model X.prog X.w) X.A (richCompare .Eq (.ref a) (.ref b)) (EP X pins σ Q) X.xe s:=
  richCompare_meets_room (op:=.Eq) ⟨_,e1,rfl⟩ ⟨_,e2,rfl⟩ PySem.F.slot_tuple_eq PySem.F.entry_tuple_eq (PySem.F.args_tuple_eq_2 _ _) (PySem.SeqAt.tuple_eqAt a b its.toArray #[] n1 n2 dd1 dd2 sl1 sl2 fun _=>true) ⟨e1,e2,fun j _ h=>absurd h (not_lt_zero _),by nofun,.bl _,H,I,by rw [hs];rfl,q⟩ 'o'
 exact main
end
noncomputable def fEqE:F2:=fun x y=>match x,y with
 | .tuple xs,.tuple []=>some (.bool xs.isEmpty)
 | _,_=>none
theorem fEqE_t{xs:List PyData}:fEqE (.tuple xs) (.tuple [])=some (.bool xs.isEmpty):=rfl
def ad_eqE{K:W.Frag}:AdR K (rEqE K) fEqE:=by
 intro S H x y dx dy z Q f hx hy e k;unfold fEqE at e;split at e
 ·rename_i xs
  cases e
  obtain⟨a,ws,rfl,h1,h2⟩:=hx.tup;obtain⟨b,ws2,rfl,h3,h4⟩:=hy.tup;cases h4.unnil;have e:ws.isEmpty=xs.isEmpty:=by
   have:=h2.length;cases ws<;>cases xs<;>first | rfl | simp at this
  exact⟨a,b,ws,rfl,rfl,h1,h3,by rw [e];exact k _ _ (Same.refl _) (qa1u _)⟩
 ·cases e
end
end L2
section
namespace K02
open PySem L2 Sn
variable{P:Program}{w:World}{K:W.Frag}{mg:Str->Option Value}{base:Heap}{n:Nat}
abbrev FU(K:W.Frag)(x:Str)(st:Stmt)(f:Addr)(fd:FuncData):=Fun K x x st f fd
abbrev FO(P:Program)(w:World)(K:W.Frag)(mg:Str->Option Value)(base:Heap)(n:Nat)(f:Addr)(fd:FuncData)(ps:List Str)(s:DSp):=FnOk P w K mg base CX0 n f fd ps (spD K s)
open Lean in
def dl02 (p : Bool) : MacroM (TSyntaxArray `Lean.Parser.Tactic.simpLemma) := (("↓qc7o ↓itT ↓itF ↓qc7n ↓pStm_a ↓pIf_a ↓pSeq_a ↓pPut_a ↓dExtT_a ↓qc7a ↓qc4m ↓qc6h ↓dOpF_a ↓dIs2_a ↓dSU_a ↓dNeg_a mapC mapN qc6f ownBJ_o ownBJ_b ↓qc7m ↓dGetD_a ↓qc7g ↓diRev_a ↓dExtL_a ↓pass_fd ↓pass_fs flOf_n0 flOf_fd flOf_fs ↓diStr_a asSt_s fLeS_s ↓dSeq_a ↓dNilD_a ↓dInK_a fSlA_t ↓dNext_a ↓dIf_a ↓dDrop_a ↓dRet_a ↓dRetF_a ↓dSet_a ↓dSetF_a ↓dAsg_a ↓dFor_a ↓dVar_a ↓dC_a ↓dOp_a ↓dCB_a ↓dCBF_a ↓dTup_a ↓dLst_a ↓dFz_a ↓dNil_a ↓dCons_a ↓dB_a ↓dTru_a ↓dAnd_a ↓dOr_a ↓dNot_a ↓dIfE_a ↓dAndV_a ↓dOrV_a ↓dNotV_a ↓qc6g ↓dIs_a ↓qc4d ↓dPop_a ↓qc6i ↓dgTup_a ↓qc6j ↓diDat_a ↓qc6k ↓qc6l ↓pass_n ↓pass_t ↓fz_d ↓fz_sl ↓fzL_d ↓fzL_sl ↓fzs_n ↓fzs_c ↓dComp_a ↓dSl_a ↓qc6y ↓qc6z ↓dTab_a fTab_s asT_t flatD_s flatD_i inF_nil List.all_cons List.all_nil three_a ownB_j okL_o okL_b asI2_i asI_i ioJ_o ioJ_b ioJ_t fzJ_d fzJ_o fzLJ_d fzLJ_o fzLJ_s flOf_t fills_n fills_c qc6m qc6n qc6o qc6p qc6q qc6r relab_o relab_b relab_t lend_o lend_b lend_t lend_d lend_s flC_n flC_c capR_a deref_d qc6s qc6t qc6u qc6v qc6w qc6x asB_b tru_b tru_n tru_i tru_l tru_t seqD_l seqD_t mask_n mask_d mask_s mask_t mask_b qa0r qc3x fAdd_i fSub_i fCmp_i fLen_l fLen_t qc6d qc6e fList_l fList_t fIx_l fIx_t List.getElem?_cons_zero List.getElem?_cons_succ List.getElem?_nil List.set_cons_zero List.set_cons_succ Option.join_some Option.join_none Option.bind_some Option.bind_none Option.map_some Option.map_none Option.isSome_some List.length_cons List.length_nil List.cons_append List.nil_append qb3e Nat.reduceAdd Nat.reduceSub Bool.not_true Bool.not_false" ++ (if p then " ↓dgNil_a ↓pass_f atI_0 atI_1 atI_2 atI_3 atI_4 fIn_f fIn_fl inF_s inF_i Bool.and_self Bool.and_true Bool.or_false Bool.or_true Bool.true_or Bool.false_or flOf_n flOf_f qc6b qc6c qc4c List.map_cons List.map_nil List.replicate if_true if_false Bool.false_eq_true true_and and_true List.nodup_cons List.nodup_nil List.not_mem_nil not_false_eq_true List.mem_cons Nat.reduceLeDiff Nat.reduceLT reduceCtorEq Nat.zero_add Nat.reduceEqDiff false_or or_false" else "")).splitOn " ").toArray.mapM fun s => if s.startsWith "↓" then `(Parser.Tactic.simpLemma| ↓$(mkIdent (s.drop 1).toName):ident) else `(Parser.Tactic.simpLemma| $(mkIdent s.toName):ident)
local macro_rules | `(tactic| walk_at "p1") => do let a ← dl02 true; `(tactic| simp only [$[$a:simpLemma],*])
local macro_rules | `(tactic| walk_at "d1") => do let a ← dl02 false; `(tactic| first | dsimp only [$[$a:simpLemma],*] | walk_at "p1")
local macro_rules | `(tactic| lia) => `(tactic| (repeat first | (with_reducible refine qc0o ?_) | walk_at "d1"))
local macro_rules | `(tactic| walk_at "k1") => do let a ← dl02 true; `(tactic| simp +decide only [$[$a:simpLemma],*])
local macro_rules | `(tactic| walk_at "dk") => `(tactic| (repeat first | (with_reducible refine qc0o ?_) | walk_at "k1"))
local macro_rules | `(term| 'r') => `((qa2b qa1k qa2c (dv 0) qa0f 'i'))
local macro_rules | `(term| 's') => `((qa0e (qa0k qa1j)))
local macro_rules | `(term| 't') => `((qa0a (dv 1) qa0c))
local macro_rules | `(term| 'u') => `((qa0a (dv 0) qa0c))
local macro_rules | `(term| 'v') => `((fun _ _ _=>qa2k))
local macro_rules | `(term| 'w') => `((qa0a qa0f qa0c))
local macro_rules | `(term| 'x') => `((fun _ _ _=>(qa0p (i:=0) (show(["_law_one"]:List Str).Nodup by decide +kernel) rfl 'f')))
local macro_rules | `(term| 'y') => `((qa0a (dv 2) qa0c))
local macro_rules | `(term| 'z') => `((qa0t qa0c))
local macro_rules | `(term| 'A') => `(⟨'o','o'⟩)
local macro_rules | `(term| 'B') => `((qa1t (dv 0)))
noncomputable def top(i:Nat):Stmt:=PySem.Challenge.pw_worldsay_k02_what_is_a_world.main.body.getD i (.Pass ⟨0,0,0,0⟩)
structure Bl(mg:Str->Option Value):Prop where
 len_:mg "len" = none
 range_:mg "range" = none
 tuple_:mg "tuple" = none
 bool_:mg "bool" = none
 isinstance_:mg "isinstance" = none
 reversed_:mg "reversed" = none
 max_:mg "max" = none
 zip_:mg "zip" = none
 list_:mg "list" = none
 str_:mg "str" = none
 enumerate_:mg "enumerate" = none
 dict_:mg "dict" = none
 sum_:mg "sum" = none
 int_:mg "int" = none
 min_:mg "min" = none
 sorted_:mg "sorted" = none
 all_:mg "all" = none
 set_:mg "set" = none
 repr_:mg "repr" = none
def spCell(K:W.Frag):Sp:=fun vs H Q _=>∃ (v:Addr) (ns:List Int) (k:Int),vs=[.ref v,.int k]/\SqL K H v (ns.map V.int)/\0 <= k/\∀ c:Int,(ns=[]->c=0)->Q (.int c) H
def spBy(K:W.Frag):Sp:=fun vs H Q _=>∃ (v:Addr) (ns:List Int) (k many:Int),vs=[.ref v,.int k,.int many]/\SqL K H v (ns.map V.int)/\ns.length <= 63/\0 <= k/\k <= 1000000/\0 < many/\∀ r:Int,0 <= r->r < many->Q (.int r) H
def spNext:DSp:=fun ls Q=>∃ (k:Nat) (many:Int),ls=[.tape k,.d (.int many)]/\0 < many/\k < 1000000/\∀ r:Int,0 <= r->r < many->Q (.d (.int r)) [some (.tape (k + 1)),none]
abbrev qa3t:Stmt:=top 13
def qb4f:FnScope ["_law_script","_law_k"] ["_law_script","_law_k"] (qa0h qa3t):='a'
def qc2h{f:Addr}{fd:FuncData} (F:FU K "_law_cell_at" qa3t f fd) (B:Bl mg):FnOk P w K mg base CX0 1 f fd ["_law_script","_law_k"] (spCell K):=by
 refine F.ok qb4f (fun vs H Q E h=>?_) (fun cdv A outer s H vs Q E hr h=>?_)
 ·obtain⟨v,ns,k,rfl,_⟩:=h
  rfl
 obtain⟨v,ns,k,rfl,hv,hk,q⟩:=h;refine⟨_,(qa3k (ps_if (qb1q op_gt (qa5x qa5h rfl B.len_ qa2s (qa2j (pv 0) qa4q)) qa1r (qa0q _))
  (qa5w (qa8u (pe_ix qa8x (pv 0) (qa2t qa8v (pv 1) (qa5x qa5h rfl B.len_ qa2s (qa2j (pv 0) qa4q))) 'i')))
  qb1p)
  (qa5w (qa8u qa1r))),?_⟩
 have hl:(ns.map V.int).length=ns.length:=length_map _;refine⟨_,rfl,v,_,rfl,.inl hv,_,_,rfl,rfl,_,rfl,?_⟩;rw [hl];refine ite2 (fun c=>?_) (fun c=>?_)
 ·have c':(0:Int) < (ns.length:Int):=of_decide_eq_true c
  refine⟨_,rfl,_,rfl,_,rfl,v,_,rfl,.inl hv,_,_,rfl,rfl,?_,?_⟩
  ·rw [hl];exact c'
  ·rw [hl]
   have m0:0 <= k % (ns.length:Int):=emod_nonneg _ 'o';have m1:k % (ns.length:Int) < (ns.length:Int):=Int.emod_lt_of_pos _ c';obtain⟨d,e1,e2,_⟩:=atI_in (xs:=ns.map V.int) m0 (by rw [hl];exact m1);obtain⟨n,_,rfl⟩:=mem_map.mp e2;exact⟨v,_,_,_,rfl,rfl,hv,e1,q n fun e=>by rw [e] at c';exact absurd c' 'd'⟩
 ·exact q 0 fun _=>rfl
abbrev qb0c:Stmt:=top 14
def qa6v:FnScope ["_law_script","_law_k","_law_many","_law_cell","_law_part","_law_seed"] ["_law_script","_law_k","_law_many"] (qa0h qb0c):='a'
def ok_by{f f1:Addr}{fd fd1:FuncData} (F:FU K "_law_by" qb0c f fd) (B:Bl mg) (qa2w:Def K mg "_law_cell_at" qa3t ["_law_script","_law_k"] f1 fd1):FnOk P w K mg base CX0 2 f fd ["_law_script","_law_k","_law_many"] (spBy K):=by
 have qb5t:FnOk P w K mg base CX0 1 f1 fd1 ["_law_script","_law_k"] (spCell K):=qc2h qa2w.fn B;refine F.ok qa6v (fun vs H Q E h=>?_) (fun cdv A outer s H vs Q E hr h=>?_)
 ·obtain⟨v,ns,k,many,rfl,_⟩:=h
  rfl
 obtain⟨v,ns,k,many,rfl,hv,hl,hk,hk2,hm,q⟩:=h;refine⟨_,(qa3k (qa7s (i:=3) qa6v.nd rfl 'f' (qb2l qa2w qb5t hr rfl (qa2j (pv 0) (qa2j (pv 1) qa4q))))
  (qa3k (qa7s (i:=4) qa6v.nd rfl 'f' qa1r)
  (qa3k (ps_if (qb1q op_ge (pv 3) (qa2t op_pow qa1r qa1r) (qa0q _))
  (qa5w (qa7s (i:=4) qa6v.nd rfl 'f' (qa2t op_shr (pv 3) (qa2t qb0p qa1r (qa2t op_fdiv (pv 1) (qa5x qa5h rfl B.len_ qa2s (qa2j (pv 0) qa4q)))))))
  qb1p)
  (qa3k (ps_if (qb1q op_gt (pv 4) qa1r (qa0q _))
  (qa5w (qa8u (qa2t qa8v (pv 4) (pv 2))))
  qb1p)
  (qa3k (qa7s (i:=5) qa6v.nd rfl 'f' (qa2t qb2v (qa2t qb2v (qa2t qa8v (pv 3) qa1r) (qa2t qb0p (qa2t qb0p qa1r (pv 1)) (pv 1))) qa1r))
  (qa5w (qa8u (qa2t qa8v (qa2t qa8v (qa2t qb0p (qa2t qa8v (qa2t qb0p (pv 5) qa1r) qa1r) qa1r) qa1r) (pv 2))))))))),?_⟩
 have hln:(ns.map V.int).length=ns.length:=length_map _;refine⟨_,rfl,_,rfl,v,ns,k,rfl,hv,hk,fun c hc=>?_⟩;have e64:(2:Int) ^ 64=18446744073709551616:=by decide
 refine⟨_,rfl,_,_,rfl,rfl,⟨'d','d','d'⟩,_,_,rfl,rfl,_,rfl,?_⟩;refine ite2 (fun c1=>?_) (fun c1=>?_)
 ·have c1':(10:Int) ^ (18:Int).toNat <= c:=of_decide_eq_true c1
  have hne:0 < ns.length:=by
   cases ns with
   | nil=>rw [hc rfl] at c1';exact absurd c1' 'd'
   | cons _ _=>exact Nat.succ_pos _
  have hd0:0 <= k / (ns.length:Int):=Int.ediv_nonneg hk 'o';refine⟨_,rfl,_,rfl,_,rfl,v,_,rfl,.inl hv,_,_,rfl,rfl,?_,_,_,rfl,rfl,.inl ⟨'d','d'⟩,_,_,rfl,rfl,?_,?_⟩
  ·rw [hln];exact 'A'
  ·rw [hln];show(0:Int) <= 20 * (k / (ns.length:Int));omega
  refine⟨_,rfl,_,_,rfl,rfl,_,rfl,?_⟩;refine ite2 (fun c2=>?_) (fun c2=>?_)
  ·exact⟨_,rfl,_,rfl,_,_,rfl,rfl,hm,q _ (emod_nonneg _ 'o') (Int.emod_lt_of_pos _ hm)⟩
  ·refine⟨_,rfl,_,_,rfl,rfl,(by show(0:Int) < 1000003;decide),_,rfl,_,_,rfl,rfl,.inl ⟨'d','d'⟩,_,rfl,_,_,rfl,rfl,.inr 'A',_,_,rfl,rfl,_,_,rfl,rfl,?_⟩
   refine⟨_,rfl,_,_,rfl,rfl,.inr ⟨'d','d'⟩,_,_,rfl,rfl,(by show(0:Int) < 999983;decide),_,_,rfl,rfl,.inr ⟨'d','d'⟩,_,_,rfl,rfl,(by show(0:Int) < 524287;decide),_,rfl,_,_,rfl,rfl,hm,?_⟩;exact q _ (emod_nonneg _ 'o') (Int.emod_lt_of_pos _ hm)
 ·refine⟨_,rfl,_,_,rfl,rfl,_,rfl,?_⟩
  refine ite2 (fun c2=>?_) (fun c2=>?_)
  ·exact⟨_,rfl,_,rfl,_,_,rfl,rfl,hm,q _ (emod_nonneg _ 'o') (Int.emod_lt_of_pos _ hm)⟩
  ·refine⟨_,rfl,_,_,rfl,rfl,(by show(0:Int) < 1000003;decide),_,rfl,_,_,rfl,rfl,.inl ⟨'d','d'⟩,_,rfl,_,_,rfl,rfl,.inr 'A',_,_,rfl,rfl,_,_,rfl,rfl,?_⟩
   refine⟨_,rfl,_,_,rfl,rfl,.inr ⟨'d','d'⟩,_,_,rfl,rfl,(by show(0:Int) < 999983;decide),_,_,rfl,rfl,.inr ⟨'d','d'⟩,_,_,rfl,rfl,(by show(0:Int) < 524287;decide),_,rfl,_,_,rfl,rfl,hm,?_⟩;exact q _ (emod_nonneg _ 'o') (Int.emod_lt_of_pos _ hm)
abbrev qa7e:Stmt:=top 15
def qb8v:FnScope ["_law_tape","_law_many"] ["_law_tape","_law_many"] (qa0h qa7e):='a'
def ok_next{f f1 f2:Addr}{fd fd1 fd2:FuncData} (F:FU K "_law_next" qa7e f fd) (B:Bl mg) (qa2w:Def K mg "_law_cell_at" qa3t ["_law_script","_law_k"] f1 fd1)
  (qb0d:Def K mg "_law_by" qb0c ["_law_script","_law_k","_law_many"] f2 fd2):FO P w K mg base 3 f fd ["_law_tape","_law_many"] spNext:=by
 have qc7p:FnOk P w K mg base CX0 2 f2 fd2 ["_law_script","_law_k","_law_many"] (spBy K):=ok_by qb0d.fn B qa2w;refine F.ok qb8v (fun vs H Q E h=>?_) (fun cdv A outer s H vs Q E hr h=>?_)
 ·obtain⟨c,O,ls,Qd,_,_,_,_,_,R,⟨k,many,rfl,_⟩,_⟩:=h
  have:=R.len;rw [length_map] at this;exact this
 obtain⟨c,O,ls,Qd,_,_,_,_,_,R,⟨k,many,rfl,hm,hk2,q⟩,fin⟩:=h;obtain⟨t,hO,hσ0,ht⟩:=R.tap 0 k rfl;obtain⟨v1,hσ1,a1⟩:=R.dat 1 _ rfl;have e1:=qa9c a1;subst e1;have hvs:vs=[.ref t,.int many]:=by
  have hl:=R.len;rw [length_map] at hl
  match vs,hl with
  | [x,y],_ =>
   have e0:x=.ref t:=by simpa using hσ0
   have e1:y=.int many:=by simpa using hσ1
   rw [e0,e1]
 subst hvs;have hs:=R.sc;have hl:c.ns.length <= 63:=by simpa using hs.1
 refine⟨_,(qa3k (ps_asg (qa2t qb2v (pe_ix qa8x (pv 0) qa1r 'i') qa1r) (pg_sub (pv 0) qa1r set_list))
  (qa5w (qa8u (qb2l qb0d qc7p hr rfl (qa2j (pe_ix qa8x (pv 0) qa1r 'i') (qa2j (pe_ix qa8x (pv 0) qa1r 'i') (qa2j (pv 1) qa4q))))))),?_⟩
 have ht':(upd H t (.lst ([V.ref c.sa,V.int k].set 1 (.int ((k:Int) + 1))))) t=some (.lst [.ref c.sa,.int ((k:Int) + 1)]):=qa0n;obtain⟨R2,P2⟩:=R.write (l:=.tape (k + 1)) (xs:=[]) (vs':=[.ref c.sa,.int ((k + 1:Nat):Int)]) hO ht (.inr (.inr ⟨k,rfl⟩)) (.inr (.inr ⟨k,k + 1,rfl,rfl,rfl⟩));have ek:((k + 1:Nat):Int)=(k:Int) + 1:=by omega
 rw [ek] at R2;refine⟨_,rfl,t,_,1,_,rfl,rfl,SqL.of ht,rfl,_,_,rfl,rfl,_,rfl,t,_,1,1,rfl,rfl,ht,rfl,?_⟩;refine⟨_,rfl,t,_,0,_,rfl,rfl,SqL.of ht',rfl,_,rfl,t,_,1,_,rfl,rfl,SqL.of ht',rfl,_,rfl,?_⟩;refine⟨_,c.ns,_,_,rfl,R2.sc.seq,hl,'o','o',hm,fun r h0 h1=>?_⟩;exact fin (.d (.int r)) O [some (.tape (k + 1)),some (.d (.int many))] _ _ _ (q r h0 h1) ⟨R2,qa2r r⟩
abbrev GNext(P:Program)(w:World)(K:W.Frag)(mg:Str->Option Value)(base:Heap)(n:Nat)(f:Addr)(fd:FuncData):Prop:=FO P w K mg base n f fd ["_law_tape","_law_many"] spNext
abbrev DNext(K:W.Frag)(mg:Str->Option Value)(f:Addr)(fd:FuncData):Prop:=Def K mg "_law_next" qa7e ["_law_tape","_law_many"] f fd
def rngI{m:Nat}{a:Nat}{u:PyData}(h:(rngD 0 m)[a]? = some u):a < m/\u=.int (a:Int):=by
 have ha:a < m:=by
  have:=(List.getElem?_eq_some_iff.mp h).1;simpa [rngD] using this
 refine⟨ha,?_⟩;simp only [rngD,getElem?_map,List.getElem?_range ha,map_some] at h;have:=(Option.some.inj h).symm;rw [this];congr 1;omega
def qa5d{m:Nat}:(rngD 0 m).length=m:=by simp [rngD]
def InR(m:Nat)(ns:List Int):Prop:=(∀ x ∈ ns,0 <= x/\x < (m:Int))/\ns.length <= m/\ns.Pairwise (· < ·)
noncomputable def pt(ls:List Int)(v:Int):List Int:=((List.range ls.length).filter fun p=>decide (ls.getD p 0=v)).map fun p:Nat=>(p:Int)
def pt_in(ls:List Int)(v:Int):InR ls.length (pt ls v):=by
 unfold pt;refine⟨fun x hx=>?_,?_,?_⟩
 ·obtain⟨p,hp,rfl⟩:=mem_map.mp hx
  have:=mem_range.mp (mem_filter.mp hp).1;omega
 ·rw [length_map]
  exact le_trans (List.length_filter_le ..) (by rw [length_range];exact le_refl _)
 ·exact pairwise_map.mpr ((List.pairwise_lt_range.filter _).imp fun h=>by omega)
def pt_mem{ls:List Int}{p:Nat}(h:p < ls.length):(p:Int) ∈ pt ls (ls.getD p 0):=by
 unfold pt;exact mem_map.mpr ⟨p,mem_filter.mpr ⟨mem_range.mpr h,by simp⟩,rfl⟩
def pt_ne{ls:List Int}{v:Int}(h:v ∈ ls):pt ls v ≠ []:=by
 obtain⟨i,hi,e⟩:=getElem_of_mem h;have hm:=pt_mem hi;have e2:ls.getD i 0=v:=by rw [getD_eq_getElem?_getD,getElem?_eq_getElem hi];exact e
 rw [e2] at hm;exact List.ne_nil_of_mem hm
structure Parts(m:Nat)(tss:List 'j'):Prop where
 ne:∀ t ∈ tss,t ≠ []
 inr:∀ t ∈ tss,InR m t
 len:tss.length <= m
 cov:∀ p:Nat,p < m->∃ t ∈ tss,(p:Int) ∈ t
 srt:Sx.srtT tss=tss
 nd:tss.flatten.Nodup
def qb2u{ls:List Int}{v x:Int}(h:x ∈ pt ls v):ls.getD x.toNat 0=v:=by
 unfold pt at h;obtain⟨p,hp,rfl⟩:=mem_map.mp h;simpa using (mem_filter.mp hp).2
def pts_nd{ls vs:List Int}(h:vs.Nodup):((vs.map (pt ls)).flatten).Nodup:=by
 refine List.pairwise_flatten.mpr ⟨fun l hl=>?_,pairwise_map.mpr (h.imp fun hne x hx y hy e=>?_)⟩
 ·obtain⟨v,_,rfl⟩:=mem_map.mp hl
  exact(pt_in ls v).2.2.imp fun h=>Int.ne_of_lt h
 ·subst e
  exact hne ((qb2u hx).symm.trans (qb2u hy))
def qc4q(a:List 'j'):Sx.srtT (Sx.srtT a)=Sx.srtT a:=(Sx.qb4e (List.Perm.refl _) (Sx.qc0x a)).symm
def qc7q{ls:List Int}{tss:List 'j'}(h0:tss=Sx.srtT ((Sx.srtI (Sx.uniq ls)).map (pt ls))):Parts ls.length tss:=by
 have h:tss.Perm ((Sx.srtI (Sx.uniq ls)).map (pt ls)):=by rw [h0];exact Sx.qb5e _
 have mem:∀ v,v ∈ Sx.srtI (Sx.uniq ls) ↔ v ∈ ls:=fun v=>(Sx.qa2p _).mem_iff.trans Sx.qa7w;refine⟨fun t ht=>?_,fun t ht=>?_,?_,fun p hp=>?_,by rw [h0];exact qc4q _,h.flatten.nodup_iff.mpr (pts_nd ((Sx.qa2p _).nodup_iff.mpr (Sx.qa5j ls)))⟩
 ·obtain⟨v,hv,rfl⟩:=mem_map.mp (h.mem_iff.mp ht)
  exact pt_ne ((mem v).mp hv)
 ·obtain⟨v,hv,rfl⟩:=mem_map.mp (h.mem_iff.mp ht)
  exact pt_in ls v
 ·rw [h.length_eq,length_map,(Sx.qa2p _).length_eq]
  exact Sx.qa8z ls
 ·refine⟨pt ls (ls.getD p 0),h.mem_iff.mpr (mem_map.mpr ⟨_,(mem _).mpr ?_,rfl⟩),pt_mem hp⟩
  rw [getD_eq_getElem?_getD,getElem?_eq_getElem hp];exact getElem_mem hp
def pt_map{ls:List Int}{v:Int}:(rngD 0 ls.length).filterMap (fun x=>match x with | .int p=>if ls.getD p.toNat 0=v then some (PyData.int p) else none | _=>none)=(pt ls v).map .int:=by
 unfold pt rngD;generalize List.range ls.length=r;induction r with
 | nil=>rfl
 | cons p r ih =>
  rw [map_cons,filterMap_cons];have e:(0 + (p:Int)).toNat=p:=by omega
  have e2:(0 + (p:Int))=(p:Int):=by omega
  simp only [e2,toNat_natCast];rw [List.filter_cons];by_cases c:ls.getD p 0=v
  ·rw [if_pos c,if_pos (by simpa using c),map_cons,map_cons,← ih]
  ·rw [if_neg c,if_neg (by simpa using c),← ih]
def qb7w:DSp:=fun ls Q=>∃ (k m:Nat) (few:Int),ls=[.tape k,.d (.int (m:Int)),.d (.int few)]/\0 < few/\m <= 60/\k + m < 900000/\∀ (ns:List Int) (k':Nat),k' <= k + m->InR m ns->Q (.d (encT ns)) [some (.tape k'),none,none]
def qb4g:DSp:=fun ls Q=>∃ (k m:Nat),ls=[.tape k,.d (.int (m:Int))]/\m <= 60/\k + m + 1 < 900000/\∀ (tss:List 'j') (k':Nat),k' <= k + m + 1->Parts m tss->Q (.d (.tuple (tss.map encT))) [some (.tape k'),none]
abbrev qa7f:Stmt:=top 16
def qb8w:FnScope ["_law_tape","_law_many","_law_few"] ["_law_tape","_law_many","_law_few"] (qa0h qa7f):='a'
def ok_some{f f1:Addr}{fd fd1:FuncData} (F:FU K "_law_some" qa7f f fd) (B:Bl mg) (qa0m:DNext K mg f1 fd1) (qa0u:GNext P w K mg base n f1 fd1):FO P w K mg base (n + 1) f fd ["_law_tape","_law_many","_law_few"] qb7w:=by
 refine F.dok qb8w (fun cdv A outer s H E hr ls Qd h=>?_) (fun ls Qd hq8=>by obtain⟨_,_,_,e,_⟩:=hq8;rw [e];rfl);obtain⟨k,m,few,rfl,hf,hm,hk,q⟩:=h;refine⟨rfl,?_⟩;refine⟨_,(qa0e (qa0k (qa4d qa2v qa6e rfl B.tuple_ qa1a (qa0a (qa1e (qa1x ["_law_p"] [("_law_tape",0),("_law_few",2)] rfl (by rfl) 'k' (qa5b rfl B.range_ (dv 1)) (fun _ _ _=>(qa0p (i:=0) (show(["_law_p","_law_tape","_law_few"]:List Str).Nodup by decide +kernel) rfl 'f')) (fun _ _ _=>(qa9e (qa1i (qa2i hr.units) qa2h (qa0g [true,false] qa0m qa0u hr rfl (qa0a (dv 1) 'y')) qa0f (qa0q _)))) (fun _ _ _=>(dv 0)))) qa0c)))),?_⟩;lia;refine⟨'A',?_⟩;rw [show((m:Int)).toNat=m by omega];refine⟨by rw [qa5d];omega,?_⟩;refine qa7y (fun i ρ acc=>∃ (v0:Option L) (k':Nat) (ns:List Int),ρ=[v0,some (.tape k'),some (.d (.int few))]/\acc=ns.map .int/\ns.length <= i/\((∀ x ∈ ns,0 <= x/\x < (i:Int))/\ns.Pairwise (· < ·))/\k' <= k + i/\i <= m) ⟨none,k,[],rfl,rfl,by simp,⟨fun x hx=>by simp at hx,List.Pairwise.nil⟩,'o','o'⟩ ?_ ?_
 ·rintro i x ρ acc N hx ⟨v0,k',ns,rfl,rfl,hl,⟨hb,hup⟩,hk',hi⟩ hN
  obtain⟨hi2,rfl⟩:=rngI hx;lia;refine⟨k',few,rfl,hf,'o',fun r h0 h1=>?_⟩;lia;refine qa1y (fun c=>?_) (fun c=>?_)
  ·lia
   refine hN _ _ ⟨_,k' + 1,ns ++ [(i:Int)],rfl,by simp,by simp;omega,⟨fun x hx=>?_,?_⟩,'o','o'⟩
   ·rcases mem_append.mp hx with h | h
    ·have:=hb x h;omega
    ·rw [mem_singleton.mp h];omega
   ·refine List.pairwise_append.mpr ⟨hup,List.pairwise_singleton _ _,fun a ha b hb2=>?_⟩
    rw [mem_singleton.mp hb2];exact(hb a ha).2
  ·exact hN _ _ ⟨_,k' + 1,ns,rfl,rfl,'o',⟨fun x hx=>by have:=hb x hx;omega,hup⟩,'o','o'⟩
 ·rintro ρ acc ⟨v0,k',ns,rfl,rfl,hl,⟨hb,hup⟩,hk',hi⟩
  rw [qa5d] at hl hk' hb;lia;exact q _ _ 'o' ⟨hb,hl,hup⟩
abbrev qa6l:Stmt:=top 17
def qa8b:FnScope ["_law_tape","_law_many","_law_kinds","_law_labels"] ["_law_tape","_law_many"] (qa0h qa6l):='a'
def qc7r{f f1:Addr}{fd fd1:FuncData} (F:FU K "_law_parts" qa6l f fd) (B:Bl mg) (qa0m:DNext K mg f1 fd1) (qa0u:GNext P w K mg base n f1 fd1):FO P w K mg base (n + 1) f fd ["_law_tape","_law_many"] qb4g:=by
 refine F.dok qa8b (fun cdv A outer s H E hr ls Qd h=>?_) (fun ls Qd hq8=>by obtain⟨_,_,e,_⟩:=hq8;rw [e];rfl);obtain⟨k,m,rfl,hm,hk,q⟩:=h;refine⟨rfl,?_⟩;refine⟨_,(qa0d (qa1s (i:=2) qa8b.nd rfl (Or.inr rfl) (qa3n qa1o qa2y qa0f (qa0g [true,false] qa0m qa0u hr rfl (qa0a (dv 0) 'w'))))
  (qa0d (qa1s (i:=3) qa8b.nd rfl (Or.inr rfl) (qa1e (qa1x ["_law_p"] [("_law_tape",0),("_law_kinds",2)] rfl (by rfl) 'k' (qa5b rfl B.range_ (dv 1)) (fun _ _ _=>(qa0p (i:=0) (show(["_law_p","_law_tape","_law_kinds"]:List Str).Nodup by decide +kernel) rfl 'f')) 'v' (fun _ _ _=>(qa0g [true,false] qa0m qa0u hr rfl (qa0a (dv 1) 'y'))))))
  (qa0e (qa0k (qa4d qa2v qa6e rfl B.tuple_ qa1a (qa0a (qa1c qc4l ad_srtT rfl B.sorted_ qa6r (qa0a (qa1e (qa1x ["_law_one"] [("_law_many",1),("_law_labels",3)] rfl (by rfl) 'k' (qa1t (qc0u rfl rfl B.set_ rfl B.sorted_ (qa0a (dv 3) qa0c))) (fun _ _ _=>(qa0p (i:=0) (show(["_law_one","_law_many","_law_labels"]:List Str).Nodup by decide +kernel) rfl (Or.inr rfl))) 'v' (fun _ _ _=>(qa4d qa2v qa6e rfl B.tuple_ qa1a (qa0a (qa1e (qa1x ["_law_p"] [("_law_labels",2),("_law_one",0)] rfl (by rfl) 'k' (qa5b rfl B.range_ (dv 1)) (fun _ _ _=>(qa0p (i:=0) (show(["_law_p","_law_labels","_law_one"]:List Str).Nodup by decide +kernel) rfl 'f')) (fun _ _ _=>(qa9e (qa1i (qa2i hr.units) qa2h (qa2b qa1k qa2c (dv 1) (dv 0) 'i') (dv 2) (qa0q _)))) (fun _ _ _=>(dv 0)))) qa0c))))) qa0c)) qa0c)))))),?_⟩
 lia;refine⟨k,4,rfl,'d','o',fun r h0 h1=>?_⟩;lia;refine⟨'A',?_⟩;rw [show((m:Int)).toNat=m by omega];refine⟨by rw [qa5d];omega,?_⟩;refine qa7y (fun i ρ acc=>∃ (v0:Option L) (k':Nat) (ns:List Int),ρ=[v0,some (.tape k'),some (.d (.int (1 + r)))]/\acc=ns.map .int/\ns.length=i/\k' <= k + 1 + i/\i <= m) ⟨none,k + 1,[],rfl,rfl,by simp,'o','o'⟩ ?_ ?_
 ·rintro i x ρ acc N hx ⟨v0,k',ns,rfl,rfl,hl,hk',hi⟩ hN
  obtain⟨hi2,rfl⟩:=rngI hx;lia;refine⟨k',1 + r,rfl,'o','o',fun r2 h2 h3=>?_⟩;lia;exact hN _ _ ⟨_,k' + 1,ns ++ [r2],rfl,by simp,by simp;omega,'o','o'⟩
 ·rintro ρ acc ⟨v0,k',ls,rfl,rfl,hl,hk',hi⟩
  rw [qa5d] at hl hk';subst hl;lia;have hu:=Sx.qa8z ls;rw [fSetI_l 'o',qa0r];lia;refine⟨by rw [length_map,(Sx.qa2p _).length_eq];omega,?_⟩;refine L2.qa1v (fun ρ=>∃ v0:Option L,ρ=[v0,some (.d (.int (ls.length:Int))),some (.d (.list (ls.map .int)))]) (fun x=>match x with | .int v=>some (encT (pt ls v)) | _=>none) ⟨_,rfl⟩ ?_ ?_
  ·rintro x ρ N hx ⟨v0,rfl⟩ hN
   obtain⟨v,hv,rfl⟩:=mem_map.mp hx;lia;refine⟨'A',?_⟩;rw [show((ls.length:Int)).toNat=ls.length by omega];refine⟨by rw [qa5d];omega,?_⟩;refine L2.qa1v (fun ρ=>∃ v0:Option L,ρ=[v0,some (.d (.list (ls.map .int))),some (.d (.int v))]) (fun x=>match x with | .int p=>if ls.getD p.toNat 0=v then some (PyData.int p) else none | _=>none) ⟨_,rfl⟩ ?_ ?_
   ·rintro y ρ N2 hy ⟨v0,rfl⟩ hN2
    obtain⟨a,ha⟩:=List.getElem?_of_mem hy;obtain⟨ha2,rfl⟩:=rngI ha;lia;refine qa3w 'o' (by rw [length_map];omega) fun d hd hdi=>?_;rw [show((a:Int)).toNat=a by omega,getElem?_map,getElem?_eq_getElem ha2] at hdi;cases hdi;lia;have eg:ls.getD a 0=ls[a]:=by rw [getD_eq_getElem?_getD,getElem?_eq_getElem ha2];rfl
    simp only [toNat_natCast,eg] at hN2;refine qa1y (fun c=>?_) (fun c=>?_)
    ·lia
     simp only [if_pos c] at hN2;exact hN2 _ ⟨_,rfl⟩
    ·simp only [if_neg c] at hN2
     exact hN2 _ ⟨_,rfl⟩
   ·rintro ρ ⟨v0,rfl⟩
    rw [pt_map];lia;exact hN _ ⟨_,rfl⟩
  ·rintro ρ _
   have ef:((Sx.srtI (Sx.uniq ls)).map PyData.int).filterMap (fun x=>match x with | .int v=>some (encT (pt ls v)) | _=>none)=((Sx.srtI (Sx.uniq ls)).map (pt ls)).map encT:=by
    rw [List.filterMap_map,map_map];exact congrFun (List.filterMap_eq_map (f:=fun v=>encT (pt ls v))) _
   rw [ef];rw [qc7l (fun t ht=>?_) ?_,qa0r]
   ·lia
    exact q _ _ 'o' (qc7q rfl)
   ·rw [length_map,(Sx.qa2p _).length_eq];omega
   ·obtain⟨v,hv,rfl⟩:=mem_map.mp ht
    exact pt_ne (Sx.qa7w.mp ((Sx.qa2p _).mem_iff.mp hv))
structure Wd where
 many:Nat
 facts:List (Str × List Int)
 moves:List 'j'
 sights:List (Str × List 'j')
abbrev encF(f:Str × List Int):PyData:=.tuple [.str f.1,encT f.2]
abbrev encS(s:Str × List 'j'):PyData:=.tuple [.str s.1,.tuple (s.2.map encT)]
abbrev Wd.enc(W:Wd):PyData:=.tuple [.tuple (W.facts.map encF),.tuple (W.moves.map encT),.tuple (W.sights.map encS)]
structure Good(W:Wd):Prop where
 m1:1 <= W.many
 m2:W.many <= 60
 mv:W.moves.length=W.many
 mr:∀ t ∈ W.moves,InR W.many t
 fn:(W.facts.map (·.1)).Sublist (["p","pq","q"]:List Str)
 fr:∀ f ∈ W.facts,InR W.many f.2
 sn:(W.sights.map (·.1)).Sublist (["a","ab","b"]:List Str)
 sr:∀ s ∈ W.sights,Parts W.many s.2
def qb4h:DSp:=fun ls Q=>∃ (k most:Nat),ls=[.tape k,.d (.int (most:Int))]/\1 <= most/\most <= 60/\k + 5000 < 900000/\∀ (W:Wd) (k':Nat),k' <= k + 4000->Good W->W.many <= most->Q (.d W.enc) [some (.tape k'),none]
def sub_snoc{ss:List Str}{xs:List Str}{i:Nat}{x:Str}(h:ss.Sublist (xs.take i))(e:xs[i]? = some x):(ss ++ [x]).Sublist (xs.take (i + 1)):=by
 rw [take_add_one,e];exact h.append (List.Sublist.refl _)
def qb7x{ss:List Str}{xs:List Str}{i:Nat}(h:ss.Sublist (xs.take i)):ss.Sublist (xs.take (i + 1)):=
 h.trans (List.take_sublist_take_left (le_succ i))
def str3{a b c:Str}{i:Nat}{x:PyData}(h:([.str a,.str b,.str c]:List PyData)[i]? = some x):∃ z,([a,b,c]:List Str)[i]? = some z/\x=.str z/\i < 3:=by
 match i,h with
 | 0,h=>cases h;exact⟨a,rfl,rfl,'o'⟩
 | 1,h=>cases h;exact⟨b,rfl,rfl,'o'⟩
 | 2,h=>cases h;exact⟨c,rfl,rfl,'o'⟩
 | i + 3,h=>simp at h
abbrev qa6m:Stmt:=top 18
def qa3h:FnScope ["_law_tape","_law_most","_law_many","_law_few","_law_moves","_law_facts","_law_sights"] ["_law_tape","_law_most"] (qa0h qa6m):='a'
def qc7s{f f1 f2 f3:Addr}{fd fd1 fd2 fd3:FuncData} (F:FU K "_law_world" qa6m f fd) (B:Bl mg) (qa0m:DNext K mg f1 fd1) (qa0u:GNext P w K mg base n f1 fd1)
  (qa7g:Def K mg "_law_some" qa7f ["_law_tape","_law_many","_law_few"] f2 fd2) (qb3n:FO P w K mg base n f2 fd2 ["_law_tape","_law_many","_law_few"] qb7w)
  (qa8o:Def K mg "_law_parts" qa6l ["_law_tape","_law_many"] f3 fd3) (qb8x:FO P w K mg base n f3 fd3 ["_law_tape","_law_many"] qb4g):FO P w K mg base (n + 1) f fd ["_law_tape","_law_most"] qb4h:=by
 refine F.dok qa3h (fun cdv A outer s H E hr ls Qd h=>?_) (fun ls Qd hq8=>by obtain⟨_,_,e,_⟩:=hq8;rw [e];rfl);obtain⟨k,most,rfl,hm1,hm2,hk,q⟩:=h;refine⟨rfl,?_⟩;refine⟨_,(qa0d (qa1s (i:=2) qa3h.nd rfl (Or.inr rfl) (qa3n qa1o qa2y qa0f (qa0g [true,false] qa0m qa0u hr rfl (qa0a (dv 0) 't'))))
  (qa0d (qa1s (i:=3) qa3h.nd rfl (Or.inr rfl) (qa3n qa1o qa2y qa0f (qa0g [true,false] qa0m qa0u hr rfl (qa0a (dv 0) 'w'))))
  (qa0d (qa1s (i:=4) qa3h.nd rfl 'f' (qa4d qa2v qa6e rfl B.tuple_ qa1a (qa0a (qa1e (qa1x ["_law_p"] [("_law_tape",0),("_law_many",2),("_law_few",3)] rfl (by rfl) 'k' (qa5b rfl B.range_ (dv 2)) (fun _ _ _=>(qa0p (i:=0) (show(["_law_p","_law_tape","_law_many","_law_few"]:List Str).Nodup by decide +kernel) rfl 'f')) 'v' (fun _ _ _=>(qa0g [true,false,false] qa7g qb3n hr rfl (qa0a (dv 1) (qa0a (dv 2) (qa0a (dv 3) qa0c))))))) qa0c)))
  (qa0d (qb4b (i:=5) qa3h.nd rfl rfl ["_law_name"] [("_law_tape",0),("_law_many",2)] rfl (by rfl) 'k' (qa1t (qa1e (qa3f (qa0a qa1l (qa0a qa1l (qa0a qa1l qa0c)))))) (fun _ _ _=>(qa0p (i:=0) (show(["_law_name","_law_tape","_law_many"]:List Str).Nodup by decide +kernel) rfl 'f')) (fun _ _ _=>(qa9e (qa1i op_gt (qa4c _) (qa0g [true,false] qa0m qa0u hr rfl (qa0a (dv 1) 'w')) qa0f (qa0q _)))) (fun _ _ _=>(qa0t (qa0a (dv 0) (qa0a (qa0g [true,false,false] qa7g qb3n hr rfl (qa0a (dv 1) (qa0a (dv 2) 'w'))) qa0c)))))
  (qa0d (qb4b (i:=6) qa3h.nd rfl rfl ["_law_hand"] [("_law_tape",0),("_law_many",2)] rfl (by rfl) 'k' (qa1t (qa1e (qa3f (qa0a qa1l (qa0a qa1l (qa0a qa1l qa0c)))))) (fun _ _ _=>(qa0p (i:=0) (show(["_law_hand","_law_tape","_law_many"]:List Str).Nodup by decide +kernel) rfl 'f')) (fun _ _ _=>(qa9e (qa1i op_gt (qa4c _) (qa0g [true,false] qa0m qa0u hr rfl (qa0a (dv 1) 'w')) qa0f (qa0q _)))) (fun _ _ _=>(qa0t (qa0a (dv 0) (qa0a (qa0g [true,false] qa8o qb8x hr rfl (qa0a (dv 1) 'y')) qa0c)))))
  (qa0e (qa0k (qa0t (qa0a (qa4d qa2v qa6e rfl B.tuple_ qa1a (qa0a (dv 5) qa0c)) (qa0a (dv 4) (qa0a (qa4d qa2v qa6e rfl B.tuple_ qa1a (qa0a (dv 6) qa0c)) qa0c))))))))))),?_⟩
 lia;refine⟨k,most,rfl,'o','o',fun r h0 h1=>?_⟩;obtain⟨m,rfl,hma,hmb⟩:∃ m:Nat,r=(m:Int) - 1/\1 <= m/\m <= most:=⟨r.toNat + 1,'o','o','o'⟩;lia;rw [show(1:Int) + ((m:Int) - 1)=(m:Int) by omega];refine⟨k + 1,3,rfl,'d','o',fun r2 h2 h3=>?_⟩;lia;refine⟨'A',?_⟩;rw [show((m:Int)).toNat=m by omega];refine⟨by rw [qa5d];omega,?_⟩;refine qa7y (fun i ρ acc=>∃ (v0:Option L) (k':Nat) (tss:List 'j'),ρ=[v0,some (.tape k'),some (.d (.int (m:Int))),some (.d (.int (2 + r2)))]/\acc=tss.map encT/\tss.length=i/\(∀ t ∈ tss,InR m t)/\k' <= k + 2 + 60 * i/\i <= m) ⟨none,k + 2,[],rfl,rfl,rfl,fun x hx=>by simp at hx,'o','o'⟩ ?_ ?_
 ·rintro i x ρ acc N hx ⟨v0,k',tss,rfl,rfl,hl,hb,hk',hi⟩ hN
  obtain⟨hi2,rfl⟩:=rngI hx;lia;refine⟨k',m,2 + r2,rfl,'o','o','o',fun ns k2 hk2 hns=>?_⟩;lia;refine hN _ _ ⟨_,k2,tss ++ [ns],rfl,by simp,by simp;omega,fun t ht=>?_,'o','o'⟩;rcases mem_append.mp ht with h | h
  ·exact hb t h
  ·rw [mem_singleton.mp h];exact hns
 rintro ρ acc ⟨v0,k1,mvs,rfl,rfl,hmv,hmr,hk1,_⟩;rw [qa5d] at hmv hk1;lia;refine qa7y (fun i ρ acc=>∃ (v0:Option L) (k':Nat) (fs:List (Str × List Int)),ρ=[v0,some (.tape k'),some (.d (.int (m:Int)))]/\acc=fs.map encF/\(fs.map (·.1)).Sublist ((["p","pq","q"]:List Str).take i)/\(∀ f ∈ fs,InR m f.2)/\k' <= k + 3602 + 61 * i/\i <= 3) ⟨none,k1,[],rfl,rfl,by simp,fun x hx=>by simp at hx,'o','o'⟩ ?_ ?_
 ·rintro i x ρ acc N hx ⟨v0,k',fs,rfl,rfl,hl,hb,hk',hi⟩ hN
  obtain⟨z,hz,rfl,hi3⟩:=str3 hx;lia;refine⟨k',5,rfl,'d','o',fun r4 h4 h5=>?_⟩;lia;refine qa1y (fun c=>?_) (fun c=>?_)
  ·lia
   refine⟨k' + 1,m,2,rfl,'o','o','o',fun ns k2 hk2 hns=>?_⟩;lia;refine hN _ _ ⟨_,k2,fs ++ [(z,ns)],rfl,by simp,by rw [map_append];exact sub_snoc hl hz,fun t ht=>?_,'o','o'⟩;rcases mem_append.mp ht with h | h
   ·exact hb t h
   ·rw [mem_singleton.mp h];exact hns
  ·exact hN _ _ ⟨_,k' + 1,fs,rfl,rfl,qb7x hl,hb,'o','o'⟩
 rintro ρ acc ⟨v0,k2,fs,rfl,rfl,hfn,hfr,hk2,_⟩;lia;refine qa7y (fun i ρ acc=>∃ (v0:Option L) (k':Nat) (ss:List (Str × List 'j')),ρ=[v0,some (.tape k'),some (.d (.int (m:Int)))]/\acc=ss.map encS/\(ss.map (·.1)).Sublist ((["a","ab","b"]:List Str).take i)/\(∀ f ∈ ss,Parts m f.2)/\k' <= k + 3785 + 62 * i/\i <= 3) ⟨none,k2,[],rfl,rfl,by simp,fun x hx=>by simp at hx,by simp at hk2;omega,'o'⟩ ?_ ?_
 ·rintro i x ρ acc N hx ⟨v0,k',ss,rfl,rfl,hl,hb,hk',hi⟩ hN
  obtain⟨z,hz,rfl,hi3⟩:=str3 hx;lia;refine⟨k',5,rfl,'d','o',fun r4 h4 h5=>?_⟩;lia;refine qa1y (fun c=>?_) (fun c=>?_)
  ·lia
   refine⟨k' + 1,m,rfl,'o','o',fun tss k3 hk3 hps=>?_⟩;lia;refine hN _ _ ⟨_,k3,ss ++ [(z,tss)],rfl,by simp,by rw [map_append];exact sub_snoc hl hz,fun t ht=>?_,'o','o'⟩;rcases mem_append.mp ht with h | h
   ·exact hb t h
   ·rw [mem_singleton.mp h];exact hps
  ·exact hN _ _ ⟨_,k' + 1,ss,rfl,rfl,qb7x hl,hb,'o','o'⟩
 rintro ρ acc ⟨v0,k3,ss,rfl,rfl,hsn,hsr,hk3,_⟩;lia;exact q ⟨m,fs,mvs,ss⟩ k3 (by simp at hk3;omega) ⟨hma,by show m <= 60;omega,hmv,hmr,hfn,hfr,hsn,hsr⟩ hmb
noncomputable def low(c:Nat):Bool:=decide (97 <= c) && decide (c <= 122)
noncomputable def qa0s(x:Str):Bool:=decide (1 <= x.length) && decide (x.length <= 8) && x.cps.toList.all low
noncomputable def isName:PyData->Bool
 | .str x=>qa0s x
 | _=>false
def leC_a(c:Nat):leC "a" ⟨#[c]⟩=decide (97 <= c):=by
 have e:(Str.ofString "a").cps.toList=[97]:=by decide +kernel
 unfold leC;rw [e];show decide ([97] <= [c])=_;rw [Bool.eq_iff_iff];simp [List.cons_le_cons_iff];omega
def leC_z(c:Nat):leC ⟨#[c]⟩ "z" = decide (c <= 122):=by
 have e:(Str.ofString "z").cps.toList=[122]:=by decide +kernel
 unfold leC;rw [e];show decide ([c] <= [122])=_;rw [Bool.eq_iff_iff];simp [List.cons_le_cons_iff];omega
def fLen_s{x:Str}(h:x.length <= 1000):fLen [.str x]=some (.int (x.length:Int)):=if_pos (by rw [sizeLine_eq];omega)
def qa9h:DSp:=fun ls Q=>∃ d:PyData,ls=[.d d]/\(∀ x,d=.str x->x.length <= 1000)/\Q (.d (.bool (isName d))) [none]
def qb4i(x:Str):x.cps.toList.length=x.length:=by simp [Str.length]
abbrev qa8i:Stmt:=top 3
def qc2i:FnScope ["thing"] ["thing"] (qa0h qa8i):='a'
def ok_name{f:Addr}{fd:FuncData} (F:FU K "is_name" qa8i f fd) (B:Bl mg) (m_LONGEST_NAME:∃ t,mg "LONGEST_NAME" = some (.int 8 t)):FO P w K mg base (n + 1) f fd ["thing"] qa9h:=by
 refine F.dok qc2i (fun cdv A outer s H E hr ls Qd h=>?_) 'n';obtain⟨d,rfl,hl,q⟩:=h;refine⟨rfl,?_⟩;refine⟨_,(qa0d (qa1h (qa1d (qa0x (qa1z rfl B.isinstance_ rfl B.str_ qb3a rfl (dv 0))))
  's'
  qa0o)
  (qa0e (qa0k (qa4r (qb2n op_le (qa4c _) op_le (qa4c _) qa0f (qa1c qa1m qa3s rfl B.len_ qa2s 'u') (de_gint rfl m_LONGEST_NAME)) (qa5m (qa1c (qa6u rfl) qa9g rfl B.all_ qb0w (qa0a (qa1e (qa1x ["sign"] [] rfl (by rfl) 'k' (di_str (dv 0)) (fun _ _ _=>(qa0p (i:=0) (show(["sign"]:List Str).Nodup by decide +kernel) rfl 'f')) 'v' (fun _ _ _=>(qb2n qb7m qb7n qb7m qb7n qa1l (dv 0) qa1l)))) qa0c))))))),?_⟩
 lia;cases d with
 | str x =>
  rw [show isD "str" (.str x)=true from rfl];lia;have hx:=hl x rfl;rw [fLen_s 'o',qa0r];lia;refine qa1y (fun c1=>?_) (fun c1=>?_)
  ·lia
   refine qa1y (fun c2=>?_) (fun c2=>?_)
   ·refine⟨by rw [length_map,qb4i];omega,?_⟩
    refine L2.qa1v (fun ρ=>∃ v0:Option L,ρ=[v0]) (fun d=>match d with | .str z=>some (.bool (z.cps.toList.all low)) | _=>none) ⟨_,rfl⟩ ?_ ?_
    ·rintro y ρ N hy ⟨v0,rfl⟩ hN
     obtain⟨c,hc,rfl⟩:=mem_map.mp hy;lia;rw [leC_a,leC_z];have el:(Str.cps ⟨#[c]⟩).toList.all low=(decide (97 <= c) && decide (c <= 122)):=by simp [low]
     simp only [el] at hN;refine qa1y (fun c3=>?_) (fun c3=>?_)
     ·lia
      rw [decide_eq_true c3,Bool.true_and] at hN;exact hN _ ⟨_,rfl⟩
     ·lia
      rw [decide_eq_false c3,Bool.false_and] at hN;exact hN _ ⟨_,rfl⟩
    ·rintro ρ _
     have ef:(signs x).filterMap (fun d=>match d with | .str z=>some (PyData.bool (z.cps.toList.all low)) | _=>none)=(x.cps.toList.map low).map .bool:=by
      unfold signs;generalize x.cps.toList=l;induction l with
      | nil=>rfl
      | cons c r ih=>rw [map_cons,filterMap_cons,ih];simp
     rw [ef,qb7o,qa0r];have en:isName (.str x)=(x.cps.toList.map low).all id:=by
      show qa0s x=_;unfold qa0s;rw [decide_eq_true (show 1 <= x.length by omega),decide_eq_true (show x.length <= 8 by omega)];simp
     rw [← en];exact q
   ·have en:isName (.str x)=false:=by
     show qa0s x=_;unfold qa0s;rw [decide_eq_false (show ¬ x.length <= 8 by omega)];simp
    rw [en] at q;exact q
  ·have en:isName (.str x)=false:=by
    show qa0s x=_;unfold qa0s;rw [decide_eq_false (show ¬ 1 <= x.length by omega)];simp
   rw [en] at q;exact q
 | _ =>
  first
   | rw [show isD "str" PyData.none=false from rfl]
   | (rename_i y;rw [show isD "str" (PyData.bool y)=false from rfl])
   | (rename_i y;rw [show isD "str" (PyData.int y)=false from rfl])
   | (rename_i y;rw [show isD "str" (PyData.list y)=false from rfl])
   | (rename_i y;rw [show isD "str" (PyData.tuple y)=false from rfl])
   | (rename_i y;rw [show isD "str" (PyData.dict y)=false from rfl])
  lia;exact q
noncomputable def rise(ahead:Str):List PyData->Bool
 | []=>true
 | .str x :: r=>qa0s x && !leC x ahead && rise x r
 | _ :: _=>false
def qc1a{p:Str}{d:PyData}{r:List PyData}(h:isName d=false):rise p (d :: r)=false:=by
 cases d with
 | str x=>show(qa0s x && !leC x p && rise x r)=false;rw [show qa0s x=false from h];rfl
 | _=>rfl
def qb0e{d:PyData}(h:isName d=true):∃ x,d=.str x/\qa0s x=true:=by
 cases d with
 | str x=>exact⟨x,rfl,h⟩
 | _=>cases h
def qa2q{d:PyData}:isD "tuple" d=true ↔ ∃ xs,d=.tuple xs:=by
 cases d with
 | tuple xs=>exact⟨fun _=>⟨xs,rfl⟩,fun _=>rfl⟩
 | none=>exact 'g'
 | bool b=>exact 'g'
 | int b=>exact 'g'
 | str b=>exact 'g'
 | list b=>exact 'g'
 | dict b=>exact 'g'
mutual
noncomputable def Fn(c:Nat):PyData->Prop
 | .str x=>x.length <= c
 | .tuple xs=>xs.length <= c/\qa1f c xs
 | .none=>True
 | .bool _=>True
 | .int i=>-(c:Int) <= i/\i <= (c:Int)
 | .list _=>True
 | .dict _=>True
noncomputable def qa1f(c:Nat):List PyData->Prop
 | []=>True
 | x :: r=>Fn c x/\qa1f c r
end
def qa1f.mem{c:Nat}:∀ {xs:List PyData},qa1f c xs->∀ x ∈ xs,Fn c x
 | y :: r,h,x,hx=>by
  rcases mem_cons.mp hx with rfl | hx
  ·exact h.1
  ·exact qa1f.mem h.2 x hx
def qa1f.of{c:Nat}:∀ {xs:List PyData},(∀ x ∈ xs,Fn c x)->qa1f c xs
 | [],_=>trivial
 | x :: r,h=>⟨h x (mem_cons_self ..),qa1f.of fun y hy=>h y (mem_cons_of_mem _ hy)⟩
mutual
def Fn.up{c c':Nat}(hc:c <= c'):∀ {d:PyData},Fn c d->Fn c' d
 | .str _,h=>le_trans h hc
 | .tuple xs,h=>⟨le_trans h.1 hc,qa1f.up hc h.2⟩
 | .int i,h=>⟨by have:=h.1;omega,by have:=h.2;omega⟩
 | .none,_=>trivial
 | .bool _,_=>trivial
 | .list _,_=>trivial
 | .dict _,_=>trivial
def qa1f.up{c c':Nat}(hc:c <= c'):∀ {xs:List PyData},qa1f c xs->qa1f c' xs
 | [],_=>trivial
 | _ :: _,h=>⟨Fn.up hc h.1,qa1f.up hc h.2⟩
end
def Fn.str{c:Nat}{d:PyData}(h:Fn c d)(hc:c <= 1000):∀ x,d=.str x->x.length <= 1000:=fun x e=>by
 subst e;exact le_trans h hc
def G(d:PyData):Prop:=Fn 62 d
def G.str{d:PyData}(h:G d):∀ x,d=.str x->x.length <= 1000:=Fn.str h 'd'
def G.len{xs:List PyData}(h:G (.tuple xs)):xs.length <= 62:=h.1
def G.mem{xs:List PyData}(h:G (.tuple xs)){x:PyData}(hx:x ∈ xs):G x:=h.2.mem x hx
def qb7y:DSp:=fun ls Q=>∃ (d:PyData) (xs:List PyData),ls=[.d d]/\(d=.tuple xs ∨ d=.list xs)/\(∀ x ∈ xs,G x)/\Q (.d (.bool (rise "" xs))) [none]
abbrev qa3a:Stmt:=top 4
def qa2u:FnScope ["things","ahead","thing"] ["things"] (qa0h qa3a):='a'
def ok_rise{f f1:Addr}{fd fd1:FuncData} (F:FU K "are_rising_names" qa3a f fd) (B:Bl mg) (d_is_name:Def K mg "is_name" qa8i ["thing"] f1 fd1) (g_is_name:FO P w K mg base n f1 fd1 ["thing"] qa9h):FO P w K mg base (n + 1) f fd ["things"] qb7y:=by
 refine F.dok qa2u (fun cdv A outer s H E hr ls Qd h=>?_) 'l';obtain⟨d,xs,rfl,hd,hf,q⟩:=h;refine⟨rfl,?_⟩;refine⟨_,(qa0d (qa1s (i:=1) qa2u.nd rfl 'f' qa1l)
  (qa0d (qa5o PassesOwn.never rfl 'B' (qa0p (i:=2) qa2u.nd rfl 'f')
  (qa0d (qa1h (DW.toT (qa2o (qa1d (qa0x (qa0g [false] d_is_name g_is_name hr rfl 'y'))) (qa3g (qa1i qb7m qb7n (dv 2) (dv 1) (qa0q _)))))
  's'
  qa0o)
  (qa0e (qa1s (i:=1) qa2u.nd rfl 'f' (dv 2)))))
  's')),?_⟩
 lia;have es:seqD d=some xs:=by rcases hd with rfl | rfl<;>rfl
 rw [es,qa0r];refine qa3o (fun i ρ=>∃ (v2:Option L) (p:Str),ρ=[some (.d d),some (.d (.str p)),v2]/\rise "" xs=rise p (xs.drop i)) ⟨none,"",rfl,rfl⟩ ?_ ?_
 ·rintro i x ρ N hx ⟨v2,p,rfl,hr⟩ hN
  obtain⟨hi,ex⟩:=List.getElem?_eq_some_iff.mp hx;have ed:xs.drop i=x :: xs.drop (i + 1):=by rw [← ex];exact drop_eq_getElem_cons hi
  rw [ed] at hr;have hfx:=hf x (mem_of_getElem? hx);lia;refine⟨x,rfl,hfx.str,?_⟩;lia;cases hn:isName x with
  | false =>
   lia;rw [hr,qc1a hn] at q;exact q
  | true =>
   obtain⟨z,rfl,hz⟩:=qb0e hn;lia;have er:rise p (.str z :: xs.drop (i + 1))=(!leC z p && rise z (xs.drop (i + 1))):=by
    show(qa0s z && !leC z p && rise z (xs.drop (i + 1)))=_;rw [hz,Bool.true_and]
   cases hc:leC z p with
   | true =>
    lia;rw [hr,er,hc] at q;exact q
   | false =>
    lia;rw [hc] at er;exact hN _ ⟨_,z,rfl,by rw [hr,er];rfl⟩
 ·rintro ρ ⟨v2,p,rfl,hr⟩
  rw [List.drop_length] at hr;lia;rw [hr] at q;exact q
def qb8y(c:Nat):((Str.ofString "abcdefghijklmnopqrstuvwxyz").cps.toList.contains c)=low c:=by
 have e:(Str.ofString "abcdefghijklmnopqrstuvwxyz").cps.toList=List.range' 97 26:=by decide +kernel
 rw [e,Bool.eq_iff_iff,List.contains_iff_mem,List.mem_range'];unfold low;rw [and_eq_true,decide_eq_true_eq,decide_eq_true_eq];constructor
 ·rintro⟨i,hi,rfl⟩;omega
 ·rintro⟨h1,h2⟩;exact⟨c - 97,'o','o'⟩
def leC_iff{a b:Str}:leC a b=true ↔ Sx.leS a b:=by unfold leC Sx.leS;exact decide_eq_true_iff
def qc4r{ss:List Str}(h:ss.Pairwise fun a b=>¬ Sx.leS b a):Sx.srtS (Sx.uniq ss)=ss:=by
 have nd:ss.Nodup:=h.imp fun{a b} hab e=>hab (by rw [e];exact List.le_refl _);have pm:(Sx.uniq ss).Perm ss:=(List.perm_ext_iff_of_nodup (Sx.qa5j ss) nd).mpr fun a=>Sx.qa7w;exact(Sx.qc0t pm.symm (h.imp fun{a b} hab=>(Sx.qb0z a b).resolve_right hab)).symm
def qc4s{ss:List Str}(h:Sx.srtS (Sx.uniq ss)=ss):ss.Pairwise fun a b=>¬ Sx.leS b a:=by
 have h1:=Sx.qc0s (Sx.uniq ss);have h2:(Sx.srtS (Sx.uniq ss)).Nodup:=(Sx.qa8g _).nodup_iff.mpr (Sx.qa5j ss);rw [h] at h1 h2;exact List.Pairwise.imp₂ (fun a b hab hne hba=>hne (Sx.qb7h a b hab hba)) h1 h2
def qb2r:∀ (ss:List Str) (p:Str),(∀ z ∈ ss,qa0s z=true)->(rise p (ss.map .str)=true ↔ (p :: ss).Pairwise fun a b=>¬ Sx.leS b a)
 | [],p,_=>by simp [rise]
 | x :: r,p,h=>by
  show(qa0s x && !leC x p && rise x (r.map .str))=true ↔ _;rw [h x mem_cons_self,Bool.true_and,and_eq_true,qb2r r x fun z hz=>h z (mem_cons_of_mem _ hz),Bool.not_eq_true',← not_eq_true,leC_iff];constructor
  ·rintro⟨h1,h2⟩
   refine pairwise_cons.mpr ⟨fun y hy=>?_,h2⟩;rcases mem_cons.mp hy with rfl | hy
   ·exact h1
   ·have h3:=rel_of_pairwise_cons h2 hy
    intro h4;have h5:=(Sx.qb0z x y).resolve_right h3;exact h1 (Sx.qb0y h5 h4)
  ·intro h2
   exact⟨rel_of_pairwise_cons h2 mem_cons_self,(pairwise_cons.mp h2).2⟩
def nil_le{x:Str}(h:qa0s x=true):¬ Sx.leS x "":=by
 intro h2;have e:(Str.ofString "").cps.toList=[]:=by decide +kernel
 unfold Sx.leS at h2;rw [e] at h2;have hl:x.cps.toList=[]:=by
  cases q:x.cps.toList with
  | nil=>rfl
  | cons a r=>rw [q] at h2;simp at h2
 unfold qa0s at h;simp only [and_eq_true,decide_eq_true_eq] at h;have:=qb4i x;rw [hl] at this;simp at this;omega
def qc7t{ss:List Str}(h:∀ z ∈ ss,qa0s z=true):rise "" (ss.map .str)=decide (Sx.srtS (Sx.uniq ss)=ss):=by
 rw [Bool.eq_iff_iff,qb2r ss "" h,decide_eq_true_eq];constructor
 ·intro hp
  exact qc4r (pairwise_cons.mp hp).2
 ·intro he
  exact pairwise_cons.mpr ⟨fun y hy=>nil_le (h y hy),qc4s he⟩
def qc7u{x:Str}(h:qa0s x=true):PyData.strOk x=true:=by
 unfold qa0s at h;simp only [and_eq_true,decide_eq_true_eq] at h;have h2:=h.2;unfold PyData.strOk;rw [← Array.all_toList];rw [all_eq_true] at h2 ⊢;intro c hc;have:=h2 c hc;unfold low at this;simp only [and_eq_true,decide_eq_true_eq] at this;simp;omega
def qb5i:∀ {xs:List PyData},(∀ d ∈ xs,isName d=true)->∃ ss:List Str,xs=ss.map .str/\∀ z ∈ ss,qa0s z=true
 | [],_=>⟨[],rfl,fun z hz=>absurd hz not_mem_nil⟩
 | d :: r,h=>by
  obtain⟨x,rfl,hx⟩:=qb0e (h d mem_cons_self);obtain⟨ss,rfl,hs⟩:=qb5i (xs:=r) fun d hd=>h d (mem_cons_of_mem _ hd);refine⟨x :: ss,rfl,fun z hz=>?_⟩;rcases mem_cons.mp hz with rfl | hz
  ·exact hx
  ·exact hs z hz
def qb7z:∀ {xs:List PyData} {p:Str},(∃ d ∈ xs,isName d=false)->rise p xs=false
 | d :: r,p,h=>by
  cases hn:isName d with
  | false=>exact qc1a hn
  | true =>
   obtain⟨x,rfl,hx⟩:=qb0e hn;obtain⟨d',hd',hf⟩:=h;rcases mem_cons.mp hd' with rfl | hd'
   ·rw [hn] at hf;cases hf
   ·show(qa0s x && !leC x p && rise x r)=false
    rw [qb7z ⟨d',hd',hf⟩,Bool.and_false]
def eqvs:∀ (a b:List Str),PyData.eqvAll (a.map .str) (b.map .str)=decide (a=b)
 | [],[]=>by simp [PyData.eqvAll]
 | [],_ :: _=>by simp [PyData.eqvAll]
 | _ :: _,[]=>by simp [PyData.eqvAll]
 | x :: r,y :: t=>by
  show PyData.eqvAll (.str x :: r.map .str) (.str y :: t.map .str)=_;rw [PyData.eqvAll,eqvs r t,PyData.eqv];rw [Bool.eq_iff_iff];simp
def qb2e{ns:List Str}(h:∀ s ∈ ns,PyData.strOk s=true):SeqAt.shaped (.list (ns.map .str))=true:=by
 have h1:PyData.canLayAll0 (ns.map .str)=true:=by
  induction ns with
  | nil=>rfl
  | cons s r ih=>simp [PyData.canLayAll0,PyData.canLay0,h s (mem_cons_self ..),ih fun z hz=>h z (mem_cons_of_mem _ hz)]
 have h2:PyData.depthAll (ns.map .str)=0:=by
  clear h h1;induction ns with
  | nil=>rfl
  | cons s r ih=>simp [PyData.depthAll,PyData.depth,ih]
 simp [SeqAt.shaped,PyData.canLay0,h1,PyData.depth,h2]
def qc4t(b:Bool)(xs:List Bool):inF (.bool b) (xs.map .bool)=xs.contains b:=by
 induction xs with
 | nil=>rfl
 | cons x r ih =>
  unfold inF at ih ⊢;rw [map_cons,List.any_cons,ih,List.contains_cons];cases x<;>cases b<;>rfl
def qb5j{neg:Bool}{b:Bool}{xs:List Bool}:fIn neg (.bool b) (.list (xs.map .bool))=some (.bool (if neg then !xs.contains b else xs.contains b)):=by
 have h1:(xs.map PyData.bool).all qa1g=true:=by
  induction xs with
  | nil=>rfl
  | cons x r ih=>rw [map_cons,all_cons,ih];rfl
 rw [fIn_fl (by rw [h1];rfl),qc4t]
abbrev qa6n:Stmt:=top 21
def qb1i:FnScope ["_law_thing","_law_letters"] ["_law_thing"] (qa0h qa6n):='a'
def qc4u{f:Addr}{fd:FuncData} (F:FU K "_law_named" qa6n f fd) (B:Bl mg):FO P w K mg base (n + 1) f fd ["_law_thing"] qa9h:=by
 refine F.dok qb1i (fun cdv A outer s H E hr ls Qd h=>?_) (fun ls Qd hq8=>by obtain⟨_,e,_⟩:=hq8;rw [e];rfl);obtain⟨d,rfl,hl,q⟩:=h;refine⟨rfl,?_⟩;refine⟨_,(qa0d (qa1s (i:=1) qb1i.nd rfl (Or.inr rfl) qa1l)
  (qa0e (qa0k (qa4r (qa1z rfl B.isinstance_ rfl B.str_ qb3a rfl (dv 0)) (qa4r (qb2n op_lt (qa4c _) op_lt (qa4c _) qa0f (qa1c qa1m qa3s rfl B.len_ qa2s 'u') qa0f) (qa5m (qa4b ((op_eqS hr.units).or (op_eqD hr.units)) ad_eqN (qa1e (qa1x ["_law_sign"] [("_law_letters",1)] rfl (by rfl) 'k' (di_str (dv 0)) (fun _ _ _=>(qa0p (i:=0) (show(["_law_sign","_law_letters"]:List Str).Nodup by decide +kernel) rfl 'f')) (fun _ _ _=>(qa9e (qa1i qb2a ad_in (dv 0) (dv 1) (by rfl)))) (fun _ _ _=>(dv 0)))) (qa1e (qa3f qa0c)) (qa0q _)))))))),?_⟩
 lia;cases d with
 | str x =>
  have hx:=hl x rfl;rw [show isD "str" (.str x)=true from rfl];lia;rw [fLen_s 'o',qa0r];lia;refine qa1y (fun c1=>?_) (fun c1=>?_)
  ·lia
   refine qa1y (fun c2=>?_) (fun c2=>?_)
   ·lia
    refine⟨by rw [length_map,qb4i];omega,?_⟩;refine L2.qa1v (fun ρ=>∃ v0:Option L,ρ=[v0,some (.d (.str "abcdefghijklmnopqrstuvwxyz"))]) (fun d=>match d with | .str z=>if z.cps.toList.all low=true then none else some (.str z) | _=>none) ⟨_,rfl⟩ ?_ ?_
    ·rintro y ρ N hy ⟨v0,rfl⟩ hN
     obtain⟨c,hc,rfl⟩:=mem_map.mp hy;lia;rw [qc7i,qb8y];have el:(Str.cps ⟨#[c]⟩).toList.all low=low c:=by simp
     simp only [el] at hN;lia;cases hc:low c with
     | true =>
      rw [hc] at hN;lia;exact hN _ ⟨_,rfl⟩
     | false =>
      rw [hc] at hN;lia;exact hN _ ⟨_,rfl⟩
    ·rintro ρ _
     rw [fEqN_l,qa0r];have ef:((signs x).filterMap (fun d=>match d with | .str z=>if z.cps.toList.all low=true then none else some (PyData.str z) | _=>none)).isEmpty=x.cps.toList.all low:=by
      unfold signs;generalize x.cps.toList=l;induction l with
      | nil=>rfl
      | cons c r ih =>
       rw [map_cons,filterMap_cons,all_cons];have el:(Str.cps ⟨#[c]⟩).toList.all low=low c:=by simp
       simp only [el];cases hc:low c with
       | true=>simp only [if_true,Bool.true_and];exact ih
       | false=>simp
     rw [ef];have en:isName (.str x)=x.cps.toList.all low:=by
      show qa0s x=_;unfold qa0s;rw [decide_eq_true (show 1 <= x.length by omega),decide_eq_true (show x.length <= 8 by omega)];simp
     rw [← en];exact q
   ·lia
    have en:isName (.str x)=false:=by
     show qa0s x=_;unfold qa0s;rw [decide_eq_false (show ¬ x.length <= 8 by omega)];simp
    rw [en] at q;exact q
  ·lia
   have en:isName (.str x)=false:=by
    show qa0s x=_;unfold qa0s;rw [decide_eq_false (show ¬ 1 <= x.length by omega)];simp
   rw [en] at q;exact q
 | _ =>
  first
   | rw [show isD "str" PyData.none=false from rfl]
   | (rename_i y;rw [show isD "str" (PyData.bool y)=false from rfl])
   | (rename_i y;rw [show isD "str" (PyData.int y)=false from rfl])
   | (rename_i y;rw [show isD "str" (PyData.list y)=false from rfl])
   | (rename_i y;rw [show isD "str" (PyData.tuple y)=false from rfl])
   | (rename_i y;rw [show isD "str" (PyData.dict y)=false from rfl])
  lia;exact q
noncomputable def isW:PyData->Bool
 | .int _=>true
 | _=>false
noncomputable def ptsR(m:Nat):Int->List PyData->Bool
 | _,[]=>true
 | a,.int p :: r=>decide (a < p) && decide (p < (m:Int)) && ptsR m p r
 | _,_ :: _=>false
noncomputable def ptsD(m:Nat):PyData->Bool
 | .tuple xs=>ptsR m (-1) xs
 | _=>false
noncomputable def hdD:PyData->PyData
 | .tuple (x :: _)=>x
 | _=>.none
noncomputable def sndD:PyData->PyData
 | .tuple (_ :: y :: _)=>y
 | _=>.none
noncomputable def qa3b:PyData->Bool
 | .tuple [_,_]=>true
 | _=>false
def qc2j(ys:List PyData):qa3b (.tuple ys)=decide ((ys.length:Int)=2):=by
 rcases ys with _ | ⟨a,_ | ⟨b,_ | ⟨c,r⟩⟩⟩
 ·rfl
 ·rfl
 ·rfl
 ·exact(decide_eq_false (by simp only [length_cons];omega)).symm
def qa8j{d:PyData}(h:qa3b d=true):∃ x y,d=.tuple [x,y]:=by
 cases d with
 | tuple xs =>
  rcases xs with _ | ⟨a,_ | ⟨b,_ | ⟨c,r⟩⟩⟩
  ·cases h
  ·cases h
  ·exact⟨_,_,rfl⟩
  ·cases h
 | _=>cases h
noncomputable def named:PyData->Bool
 | .tuple xs=>xs.all qa3b && rise "" (xs.map hdD)
 | _=>false
def qb0f(p:PyData->Bool)(xs:List PyData):xs.filterMap (fun d=>some (PyData.bool (p d)))=(xs.map p).map .bool:=by
 rw [map_map];induction xs with
 | nil=>rfl
 | cons x r ih=>rw [filterMap_cons,map_cons,← ih];rfl
def all_ids(p:PyData->Bool)(xs:List PyData):(xs.map p).all id=xs.all p:=by
 induction xs with
 | nil=>rfl
 | cons x r ih=>rw [map_cons,all_cons,all_cons,ih];rfl
def qb3o(p:PyData->Bool)(xs:List PyData):fAllB [.list (xs.filterMap fun d=>some (PyData.bool (p d)))]=some (.bool (xs.all p)):=by
 rw [qb0f,qb7o,all_ids]
def fm_map(f:PyData->PyData)(xs:List PyData):xs.filterMap (fun d=>some (f d))=xs.map f:=by
 induction xs with
 | nil=>rfl
 | cons x r ih=>rw [filterMap_cons,map_cons,← ih]
def qb0g:∀ {m:Nat} {tss:List 'j'},(∀ t ∈ tss,t.length <= m)->tss.flatten.length <= m * tss.length
 | _,[],_=>by simp
 | m,t :: r,h=>by
  rw [List.flatten_cons,length_append,length_cons,Nat.mul_succ];have h1:=h t mem_cons_self;have h2:=qb0g (m:=m) (tss:=r) fun x hx=>h x (mem_cons_of_mem _ hx);omega
def qb5k(tss:List 'j'):SeqAt.shaped (.list (tss.map encT))=true:=by
 have i1:∀ t:List Int,PyData.canLayAll0 (t.map .int)=true:=fun t=>by
  induction t with
  | nil=>rfl
  | cons s r ih=>simp [PyData.canLayAll0,PyData.canLay0,ih]
 have i2:∀ t:List Int,PyData.depthAll (t.map .int)=0:=fun t=>by
  induction t with
  | nil=>rfl
  | cons s r ih=>simp [PyData.depthAll,PyData.depth,ih]
 have h1:PyData.canLayAll0 (tss.map encT)=true:=by
  induction tss with
  | nil=>rfl
  | cons s r ih=>simp [PyData.canLayAll0,PyData.canLay0,ih,i1]
 have h2:PyData.depthAll (tss.map encT) <= 1:=by
  clear h1;induction tss with
  | nil=>simp [PyData.depthAll]
  | cons s r ih =>
   have:=i2 s;simp [PyData.depthAll,PyData.depth,this] at ih ⊢;omega
 simp [SeqAt.shaped,PyData.canLay0,h1,PyData.depth]
 omega
def qb8a(m:Nat):rngD 0 m=((List.range m).map fun p:Nat=>(p:Int)).map .int:=by
 unfold rngD;rw [map_map];refine List.map_congr_left fun p _=>?_;show PyData.int (0 + (p:Int))=PyData.int (p:Int);congr 1;omega
def qb1j:∀ a b:List Int,PyData.eqvAll (a.map .int) (b.map .int)=decide (a=b)
 | [],[]=>rfl
 | [],y :: b=>by
  show PyData.eqvAll [] (.int y :: b.map .int)=_;rw [PyData.eqvAll];rfl
  all_goals simp
 | x :: a,[]=>by
  show PyData.eqvAll (.int x :: a.map .int) []=_;rw [PyData.eqvAll];rfl
  all_goals simp
 | x :: a,y :: b=>by
  show PyData.eqvAll (.int x :: a.map .int) (.int y :: b.map .int)=_;rw [PyData.eqvAll,qb1j a b,PyData.eqv];by_cases e:x=y
  ·subst e;by_cases e2:a=b<;>simp [e2]
  ·simp [e]
def eqv_T(a b:List Int):PyData.eqv (encT a) (encT b)=decide (a=b):=by
 show PyData.eqv (.tuple (a.map .int)) (.tuple (b.map .int))=_;rw [PyData.eqv,qb1j]
def shaped_ints(t:List Int):SeqAt.shaped (.list (t.map .int))=true:=by
 have h1:PyData.canLayAll0 (t.map .int)=true:=by
  induction t with
  | nil=>rfl
  | cons s r ih=>simp [PyData.canLayAll0,PyData.canLay0,ih]
 have h2:PyData.depthAll (t.map .int)=0:=by
  clear h1;induction t with
  | nil=>rfl
  | cons s r ih=>simp [PyData.depthAll,PyData.depth,ih]
 simp [SeqAt.shaped,PyData.canLay0,h1,PyData.depth,h2]
def qa1n{α:Type}{o:Option α}{a:α}{k:α->Prop}(e:o=some a)(h:k a):need o k:=qc0c e h
noncomputable def intOf:PyData->Int
 | .int a=>a
 | _=>0
noncomputable def intsOf:PyData->List Int
 | .tuple xs=>xs.map intOf
 | _=>[]
def qa8k:∀ {xs:List PyData} {m:Nat} {a:Int},ptsR m a xs=true->xs=(xs.map intOf).map .int
 | [],_,_,_=>rfl
 | .int p :: r,m,a,h=>by
  have h':(decide (a < p) && decide (p < (m:Int)) && ptsR m p r)=true:=h;rw [and_eq_true] at h';rw [map_cons,map_cons,← qa8k h'.2];rfl
 | .none :: _,_,_,h=>nomatch h
 | .bool _ :: _,_,_,h=>nomatch h
 | .str _ :: _,_,_,h=>nomatch h
 | .list _ :: _,_,_,h=>nomatch h
 | .tuple _ :: _,_,_,h=>nomatch h
 | .dict _ :: _,_,_,h=>nomatch h
def qb0h{m:Nat}{d:PyData}(h:ptsD m d=true):d=encT (intsOf d):=by
 cases d with
 | tuple xs=>exact congrArg PyData.tuple (qa8k h)
 | _=>cases h
noncomputable def neD:PyData->Bool
 | .tuple xs=>!xs.isEmpty
 | _=>false
noncomputable def qa4m(m:Nat):List Int:=(List.range m).map fun p:Nat=>(p:Int)
noncomputable def qa3c(m:Nat):PyData->Bool
 | .tuple xs=>(xs.all fun p=>ptsD m p && neD p) && (decide (Sx.srtI (xs.map intsOf).flatten=qa4m m) && decide (Sx.srtT (xs.map intsOf)=xs.map intsOf))
 | _=>false
noncomputable def seqs:PyData->List PyData
 | .tuple xs=>xs
 | _=>[]
noncomputable def qa3u(m:Nat)(d:PyData):Bool:=named d && (seqs d).all fun p=>ptsD m (sndD p)
noncomputable def qa3i(m:Nat)(d:PyData):Bool:=named d && (seqs d).all fun p=>qa3c m (sndD p)
noncomputable def qa4g:PyData->Bool
 | .tuple [f,.tuple mv,s]=>!mv.isEmpty && (mv.all (ptsD mv.length) && (qa3u mv.length f && qa3i mv.length s))
 | _=>false
def fEq_li(a b:List Int):fEq false (.list (a.map .int)) (.list (b.map .int))=some (.bool (decide (a=b))):=by
 unfold fEq;rw [if_pos ⟨shaped_ints a,shaped_ints b⟩];show some (PyData.bool (PyData.eqv _ _))=_;rw [PyData.eqv,qb1j]
def eqA_LT:∀ a b:List 'j',PyData.eqvAll (a.map encT) (b.map encT)=decide (a=b)
 | [],[]=>rfl
 | [],y :: b=>by
  show PyData.eqvAll [] (encT y :: b.map encT)=_;rw [PyData.eqvAll];rfl
  all_goals simp
 | x :: a,[]=>by
  show PyData.eqvAll (encT x :: a.map encT) []=_;rw [PyData.eqvAll];rfl
  all_goals simp
 | x :: a,y :: b=>by
  show PyData.eqvAll (encT x :: a.map encT) (encT y :: b.map encT)=_;rw [PyData.eqvAll,eqA_LT a b,eqv_T];by_cases e:x=y
  ·subst e;by_cases e2:a=b<;>simp [e2]
  ·simp [e]
def fEq_LT(a b:List 'j'):fEq false (.list (a.map encT)) (.list (b.map encT))=some (.bool (decide (a=b))):=by
 unfold fEq;rw [if_pos ⟨qb5k a,qb5k b⟩];show some (PyData.bool (PyData.eqv _ _))=_;rw [PyData.eqv,eqA_LT]
def qb8b(a b:List Int):fEqA false (.list (a.map .int)) (.list (b.map .int))=some (.bool (decide (a=b))):=fEq_li a b
def eqA_lt(a b:List 'j'):fEqA false (.list (a.map encT)) (.list (b.map encT))=some (.bool (decide (a=b))):=fEq_LT a b
def qc1b{ns ns':List Int}{m:Nat}(h:SrtW ns ns')(hm:m <= 62):decide (ns'=qa4m m)=decide (Sx.srtI ns=qa4m m):=by
 have lr:(qa4m m).length=m:=by unfold qa4m;rw [length_map,length_range]
 by_cases c:ns.length < 64
 ·rw [h.2 c]
 ·rw [decide_eq_false fun e=>?_,decide_eq_false fun e=>?_]
  ·have:=congrArg List.length e
   rw [(Sx.qa2p ns).length_eq,lr] at this;omega
  ·have:=congrArg List.length e
   rw [h.1,lr] at this;omega
def qb8c{m:Nat}:∀ {xs:List PyData},(∀ p ∈ xs,ptsD m p=true)->xs=(xs.map intsOf).map encT
 | [],_=>rfl
 | p :: r,h=>by
  rw [map_cons,map_cons,← qb8c fun x hx=>h x (mem_cons_of_mem _ hx),← qb0h (h p mem_cons_self)]
def spWh:DSp:=fun ls Q=>∃ d:PyData,ls=[.d d]/\Q (.d (.bool (isW d))) [none]
def qa9i:DSp:=fun ls Q=>∃ (d:PyData) (m:Nat),ls=[.d d,.d (.int (m:Int))]/\Q (.d (.bool (ptsD m d))) [none,none]
def qa5e:DSp:=fun ls Q=>∃ (d:PyData) (m:Nat),ls=[.d d,.d (.int (m:Int))]/\m <= 62/\G d/\Q (.d (.bool (qa3c m d))) [none,none]
def qa6g:DSp:=fun ls Q=>∃ d:PyData,ls=[.d d]/\G d/\Q (.d (.bool (named d))) [none]
def qb1k:DSp:=fun ls Q=>∃ (d:PyData) (m:Nat),ls=[.d d,.d (.int (m:Int))]/\m <= 62/\G d/\Q (.d (.bool (qa3u m d))) [none,none]
def qb0i:DSp:=fun ls Q=>∃ (d:PyData) (m:Nat),ls=[.d d,.d (.int (m:Int))]/\m <= 62/\G d/\Q (.d (.bool (qa3i m d))) [none,none]
def qa5f:DSp:=fun ls Q=>∃ d:PyData,ls=[.d d]/\G d/\Q (.d (.bool (qa4g d))) [none]
abbrev qa7h:Stmt:=top 2
def qb8z:FnScope ["thing"] ["thing"] (qa0h qa7h):='a'
def qc7v{f:Addr}{fd:FuncData} (F:FU K "is_whole" qa7h f fd) (B:Bl mg):FO P w K mg base (n + 1) f fd ["thing"] spWh:=by
 refine F.dok qb8z (fun cdv A outer s H E hr ls Qd h=>?_) 'n';obtain⟨p,rfl,q⟩:=h;refine⟨rfl,?_⟩;refine⟨_,(qa0e (qa0k (qa4r (qa1z rfl B.isinstance_ rfl B.int_ qb6n rfl (dv 0)) (qa5m (de_not (qa1z rfl B.isinstance_ rfl B.bool_ qb1r rfl (dv 0))))))),?_⟩;lia;have e:isW p=(isD "int" p && !isD "bool" p):=by cases p<;>rfl
 rw [e] at q;cases h1:isD "int" p with
 | true =>
  rw [h1] at q;walk_at "dk";cases h2:isD "bool" p with
  | true=>rw [h2] at q;walk_at "dk";exact q
  | false=>rw [h2] at q;walk_at "dk";exact q
 | false=>rw [h1] at q;walk_at "dk";exact q
abbrev qa3x:Stmt:=top 7
def qa5p:FnScope ["thing","many","ahead","point"] ["thing","many"] (qa0h qa3x):='a'
def qb8d{f f1:Addr}{fd fd1:FuncData} (F:FU K "is_points" qa3x f fd) (B:Bl mg) (d_is_whole:Def K mg "is_whole" qa7h ["thing"] f1 fd1) (g_is_whole:FO P w K mg base n f1 fd1 ["thing"] spWh):FO P w K mg base (n + 1) f fd ["thing","many"] qa9i:=by
 refine F.dok qa5p (fun cdv A outer s H E hr ls Qd h=>?_) 'l';obtain⟨d,m,rfl,q⟩:=h;refine⟨rfl,?_⟩;refine⟨_,(qa0d (qa1h (qa1d (qa0x (qa1z rfl B.isinstance_ rfl B.tuple_ qa1a rfl (dv 0))))
  's'
  qa0o)
  (qa0d (qa1s (i:=2) qa5p.nd rfl 'f' (qb7f qa0f))
  (qa0d (qa5o PassesOwn.never rfl 'B' (qa0p (i:=3) qa5p.nd rfl 'f')
  (qa0d (qa1h (DW.toT (qa2o (qa1d (qa0x (qa0g [false] d_is_whole g_is_whole hr rfl (qa0a (dv 3) qa0c)))) (qa3g (qa1d (qc5x op_lt (qa4c _) op_lt (qa4c _) (dv 2) (dv 3) (dv 1))))))
  's'
  qa0o)
  (qa0e (qa1s (i:=2) qa5p.nd rfl 'f' (dv 3)))))
  's'))),?_⟩
 lia;cases ht:isD "tuple" d with
 | false =>
  walk_at "dk";have e:ptsD m d=false:=by cases d<;>first | rfl | cases ht
  rw [e] at q;exact q
 | true =>
  obtain⟨xs,rfl⟩:∃ xs,d=.tuple xs:=by cases d<;>first | exact⟨_,rfl⟩ | cases ht
  walk_at "dk";refine qa3o (fun i ρ=>∃ (v3:Option L) (a:Int),ρ=[some (.d (.tuple xs)),some (.d (.int (m:Int))),some (.d (.int a)),v3]/\ptsR m (-1) xs=ptsR m a (xs.drop i)) ⟨none,-1,rfl,rfl⟩ ?_ ?_
  ·rintro i x ρ N hx ⟨v3,a,rfl,ha⟩ hN
   obtain⟨hi,ex⟩:=List.getElem?_eq_some_iff.mp hx;rw [drop_eq_getElem_cons hi,ex] at ha;lia;refine⟨x,rfl,?_⟩;lia;cases hw:isW x with
   | false =>
    walk_at "dk";have e:ptsD m (.tuple xs)=false:=by
     show ptsR m (-1) xs=false;rw [ha];cases x<;>first | rfl | cases hw
    rw [e] at q;exact q
   | true =>
    obtain⟨p,rfl⟩:∃ p,x=.int p:=by cases x<;>first | exact⟨_,rfl⟩ | cases hw
    walk_at "dk";have e:ptsR m (-1) xs=(decide (a < p) && decide (p < (m:Int)) && ptsR m p (xs.drop (i + 1))):=ha;refine qa1y (fun c=>?_) (fun c=>?_)
    ·walk_at "dk"
     by_cases c2:p < (m:Int)
     ·rw [decide_eq_true c2]
      walk_at "dk";rw [decide_eq_true c,decide_eq_true c2] at e;exact hN _ ⟨_,p,rfl,e⟩
     ·rw [decide_eq_false c2]
      walk_at "dk";rw [decide_eq_false c2,Bool.and_false,Bool.false_and] at e;rw [show ptsD m (.tuple xs)=false from e] at q;exact q
    ·walk_at "dk"
     rw [decide_eq_false c,Bool.false_and,Bool.false_and] at e;rw [show ptsD m (.tuple xs)=false from e] at q;exact q
  ·rintro ρ ⟨v3,a,rfl,ha⟩
   rw [List.drop_length] at ha;lia;rw [show ptsD m (.tuple xs)=true from ha] at q;exact q
abbrev qa5q:Stmt:=top 9
def qb9a:FnScope ["thing"] ["thing"] (qa0h qa5q):='a'
def qc7w{f f1:Addr}{fd fd1:FuncData} (F:FU K "is_named" qa5q f fd) (B:Bl mg) (d_are_rising_names:Def K mg "are_rising_names" qa3a ["things"] f1 fd1) (g_are_rising_names:FO P w K mg base n f1 fd1 ["things"] qb7y):FO P w K mg base (n + 1) f fd ["thing"] qa6g:=by
 refine F.dok qb9a (fun cdv A outer s H E hr ls Qd h=>?_) 'n';obtain⟨d,rfl,hg,q⟩:=h;refine⟨rfl,?_⟩;refine⟨_,(qa0d (qa1h (qa1d (qa0x (qa1z rfl B.isinstance_ rfl B.tuple_ qa1a rfl (dv 0))))
  's'
  qa0o)
  (qa0d (qa1h (qa1d (qa0x (qa1c (qa6u rfl) qa9g rfl B.all_ qb0w (qa0a (qa1e (qa1x ["pair"] [] rfl (by rfl) 'k' 'B' (fun _ _ _=>(qa0p (i:=0) (show(["pair"]:List Str).Nodup by decide +kernel) rfl 'f')) 'v' (fun _ _ _=>(qa4r (qa1z rfl B.isinstance_ rfl B.tuple_ qa1a rfl (dv 0)) (qa5m (qa4b (qa2i hr.units) qa2h (qa1c qa1m qa3s rfl B.len_ qa2s 'u') qa0f (qa0q _))))))) qa0c))))
  's'
  qa0o)
  (qa0e (qa0k (qa0g [false] d_are_rising_names g_are_rising_names hr rfl (qa0a (qa1e (qa1x ["pair"] [] rfl (by rfl) 'k' 'B' (fun _ _ _=>(qa0p (i:=0) (show(["pair"]:List Str).Nodup by decide +kernel) rfl 'f')) 'v' (fun _ _ _=>'r'))) qa0c)))))),?_⟩
 lia;cases ht:isD "tuple" d with
 | false =>
  lia;rw [show named d=false by cases d<;>first | rfl | cases ht] at q;exact q
 | true =>
  obtain⟨xs,rfl⟩:=qa2q.mp ht;have hl:=hg.len;lia;refine⟨'o',?_⟩;refine L2.qa1v (fun ρ=>∃ v0:Option L,ρ=[v0]) (fun p=>some (.bool (qa3b p))) ⟨_,rfl⟩ ?_ ?_
  ·rintro p ρ N hp ⟨v0,rfl⟩ hN
   lia;cases p with
   | tuple ys =>
    rw [qc2j] at hN;rw [show isD "tuple" (.tuple ys)=true from rfl];lia;exact hN _ ⟨_,rfl⟩
   | _=>exact hN _ ⟨_,rfl⟩
  ·rintro ρ ⟨v0,rfl⟩
   rw [qb3o,qa0r];lia;have eq:named (.tuple xs)=(xs.all qa3b && rise "" (xs.map hdD)):=rfl;cases ha:xs.all qa3b with
   | false =>
    rw [eq,ha] at q;lia;exact q
   | true =>
    rw [eq,ha,Bool.true_and] at q;lia;refine⟨'o',?_⟩;refine L2.qa1v (fun ρ=>∃ v0:Option L,ρ=[v0]) (fun p=>some (hdD p)) ⟨_,rfl⟩ ?_ ?_
    ·rintro p ρ N hp ⟨v0,rfl⟩ hN
     obtain⟨x,y,rfl⟩:=qa8j (all_eq_true.mp ha p hp);lia;exact hN _ ⟨_,rfl⟩
    ·rintro ρ ⟨v0,rfl⟩
     rw [fm_map];lia;refine⟨_,xs.map hdD,rfl,.inr rfl,fun x hx=>?_,?_⟩
     ·obtain⟨p,hp,rfl⟩:=mem_map.mp hx
      obtain⟨x,y,rfl⟩:=qa8j (all_eq_true.mp ha p hp);exact(hg.mem hp).mem mem_cons_self
     ·lia
      exact q
abbrev qa7i:Stmt:=top 8
def qa8p:FnScope ["thing","many","points","part"] ["thing","many"] (qa0h qa7i):='a'
def qb9b{f f1:Addr}{fd fd1:FuncData} (F:FU K "is_parts" qa7i f fd) (B:Bl mg) (d_is_points:Def K mg "is_points" qa3x ["thing","many"] f1 fd1) (g_is_points:FO P w K mg base n f1 fd1 ["thing","many"] qa9i):FO P w K mg base (n + 1) f fd ["thing","many"] qa5e:=by
 refine F.dok qa8p (fun cdv A outer s H E hr ls Qd h=>?_) 'l';obtain⟨d,m,rfl,hm,hg,q⟩:=h;refine⟨rfl,?_⟩;refine⟨_,(qa0d (qa1h (qa1d (qa0x (qa1z rfl B.isinstance_ rfl B.tuple_ qa1a rfl (dv 0))))
  's'
  qa0o)
  (qa0d (qc0m (i:=2) qa8p.nd rfl 'f' (qa3f qa0c))
  (qa0d (qa5o PassesOwn.never rfl 'B' (qa0p (i:=3) qa8p.nd rfl 'f')
  (qa0d (qa1h (DW.toT (qa2o (qa1d (qa0x (qa0g [false,false] d_is_points g_is_points hr rfl (qa0a (dv 3) 't')))) (qa3g (qa1i (qa2i hr.units) qa2h (qa1c qa1m qa3s rfl B.len_ qa2s (qa0a (dv 3) qa0c)) qa0f (qa0q _)))))
  's'
  qa0o)
  (qa0e (qc0l (qc0p 2 rfl (dv 3))))))
  (qa0e (qa0k (qa4r (qa4b (qa2i hr.units) qa2h (qb7v rfl B.sorted_ 'y') (qb7l rfl rfl B.range_ rfl B.list_ 't') (qa0q _)) (qa5m (qa4b (qa2i hr.units) qa2h (qa1c qb3m qb7s rfl B.sorted_ qa6r 'u') (qa1e (qa8f qa5i qb1v rfl B.list_ qa9b 'u')) (qa0q _))))))))),?_⟩
 lia;cases ht:isD "tuple" d with
 | false =>
  walk_at "dk";rw [show qa3c m d=false by cases d<;>first | rfl | cases ht] at q;exact q
 | true =>
 obtain⟨xs,rfl⟩:=qa2q.mp ht;walk_at "dk";have hlen:=hg.len;refine qa3o (fun i ρ=>∃ (v3:Option L),ρ=[some (.d (.tuple xs)),some (.d (.int (m:Int))),some (.own (((xs.take i).map intsOf).flatten.map .int)),v3]/\i <= xs.length/\∀ p ∈ xs.take i,(ptsD m p && neD p)=true) ⟨none,rfl,'o',fun p hp=>by simp at hp⟩ ?_ ?_
 ·rintro i x ρ N hx ⟨v3,rfl,hi,hall⟩ hN
  obtain⟨hi2,ex⟩:=List.getElem?_eq_some_iff.mp hx;have hxm:=mem_of_getElem? hx;have hgx:=hg.mem hxm;have bad:(ptsD m x && neD x)=false->qa3c m (.tuple xs)=false:=fun e=>by
   show((xs.all fun p=>ptsD m p && neD p) && _)=false;rw [Bool.and_eq_false_iff];refine .inl ?_;rw [← not_eq_true];intro h2;have:=all_eq_true.mp h2 x hxm;rw [e] at this;cases this
  lia;refine⟨x,m,rfl,?_⟩;lia;cases hp:ptsD m x with
  | false =>
   walk_at "dk";rw [bad (by rw [hp];rfl)] at q;exact q
  | true =>
   have ee:=qb0h hp;obtain⟨ys,rfl⟩:∃ ys,x=.tuple ys:=⟨_,ee⟩;have hyl:=hgx.len;walk_at "dk";by_cases c:(ys.length:Int)=0
   ·rw [decide_eq_true c]
    walk_at "dk";have hy:ys=[]:=List.length_eq_zero_iff.mp 'o';subst hy;rw [bad (by rw [hp];rfl)] at q;exact q
   ·rw [decide_eq_false c]
    walk_at "dk";have hfl:=qb0g (m:=62) (tss:=(xs.take i).map intsOf) fun t ht=>by
     obtain⟨p,hp,rfl⟩:=mem_map.mp ht;have hgp:=hg.mem (mem_of_mem_take hp);cases p with
     | tuple zs=>show(zs.map intOf).length <= 62;rw [length_map];exact hgp.len
     | _=>exact zero_le _
    rw [length_map,length_take] at hfl;have h62:62 * min i xs.length <= 62 * 62:=Nat.mul_le_mul_left _ 'o';refine⟨ys,rfl,by rw [length_map];omega,hN _ ⟨some (.d (.tuple ys)),?_,'o',fun p hp2=>?_⟩⟩
    ·rw [take_add_one,hx,toList_some,map_append,List.flatten_append,map_append]
     have e2:ys=(ys.map intOf).map .int:=qa8k hp;simp only [map_cons,map_nil,List.flatten_cons,List.flatten_nil,append_nil];rw [show intsOf (.tuple ys)=ys.map intOf from rfl,← e2]
    ·rw [take_add_one,hx,toList_some] at hp2
     rcases mem_append.mp hp2 with h3 | h3
     ·exact hall p h3
     ·rw [mem_singleton.mp h3,hp]
      cases ys with
      | nil=>exact absurd rfl c
      | cons _ _=>rfl
 ·rintro ρ ⟨v3,rfl,hi,hall⟩
  rw [take_length] at hall ⊢;have hz:(xs.map intsOf).flatten.length <= 4096:=by
   have hfl:=qb0g (m:=62) (tss:=xs.map intsOf) fun t ht=>by
    obtain⟨p,hp,rfl⟩:=mem_map.mp ht;have hgp:=hg.mem hp;cases p with
    | tuple zs=>show(zs.map intOf).length <= 62;rw [length_map];exact hgp.len
    | _=>exact zero_le _
   rw [length_map] at hfl;have h62:62 * xs.length <= 62 * 62:=Nat.mul_le_mul_left _ hlen;omega
  have hb:(xs.all fun p=>ptsD m p && neD p)=true:=all_eq_true.mpr hall;have e0:qa3c m (.tuple xs)=(decide (Sx.srtI (xs.map intsOf).flatten=qa4m m) && decide (Sx.srtT (xs.map intsOf)=xs.map intsOf)):=by
   show((xs.all fun p=>ptsD m p && neD p) && _)=_;rw [hb,Bool.true_and]
  rw [e0] at q;lia;refine qa1n (insW_l hz) fun ns' hw=>?_;lia;refine qa1n (qb7k 'o' 'o') ?_;rw [show((m:Int)).toNat=m by omega,qb8a];refine qa1n (qb8b _ _) ?_;rw [show decide (ns'=(List.range m).map fun p:Nat=>(p:Int))=decide (Sx.srtI (xs.map intsOf).flatten=qa4m m) from qc1b hw hm];lia;by_cases c:Sx.srtI (xs.map intsOf).flatten=qa4m m
  ·rw [decide_eq_true c] at q ⊢
   walk_at "dk";rw [Bool.true_and] at q;have hx:=qb8c (m:=m) (xs:=xs) fun p hp=>(and_eq_true _ _ ▸ hall p hp:ptsD m p=true/\neD p=true).1;have hne:∀ t ∈ xs.map intsOf,t ≠ []:=fun t ht=>by
    obtain⟨p,hp,rfl⟩:=mem_map.mp ht;have h2:=(and_eq_true _ _ ▸ hall p hp:ptsD m p=true/\neD p=true).2;cases p with
    | tuple zs =>
     cases zs with
     | nil=>cases h2
     | cons _ _=>exact nofun
    | _=>cases h2
   have e1:qb1g [.tuple xs]=some (.list ((Sx.srtT (xs.map intsOf)).map encT)):=by
    conv=>lhs;rw [hx]
    exact qb5g hne (by rw [length_map];omega)
   refine qa1n e1 ?_;lia;have e2:fEqA false (.list ((Sx.srtT (xs.map intsOf)).map encT)) (.list xs)=some (.bool (decide (Sx.srtT (xs.map intsOf)=xs.map intsOf))):=by
    conv=>lhs;rw [hx]
    rw [eqA_lt];rw [← hx]
   refine qa1n e2 ?_;exact q
  ·rw [decide_eq_false c] at q ⊢
   walk_at "dk";exact q
def qa7j{d:PyData}(h:named d=true):∃ xs,d=.tuple xs/\∀ p ∈ xs,∃ x y,p=.tuple [x,y]:=by
 cases d with
 | tuple xs =>
  have h:(xs.all qa3b && rise "" (xs.map hdD))=true:=h;rw [and_eq_true] at h;exact⟨xs,rfl,fun p hp=>qa8j (all_eq_true.mp h.1 p hp)⟩
 | _=>cases h
abbrev qa7k:Stmt:=top 10
def qb9c:FnScope ["thing","many"] ["thing","many"] (qa0h qa7k):='a'
def qb9d{f f1 f2:Addr}{fd fd1 fd2:FuncData} (F:FU K "is_facts" qa7k f fd) (B:Bl mg) (d_is_named:Def K mg "is_named" qa5q ["thing"] f1 fd1) (g_is_named:FO P w K mg base n f1 fd1 ["thing"] qa6g)
  (d_is_points:Def K mg "is_points" qa3x ["thing","many"] f2 fd2) (g_is_points:FO P w K mg base n f2 fd2 ["thing","many"] qa9i):FO P w K mg base (n + 1) f fd ["thing","many"] qb1k:=by
 refine F.dok qb9c (fun cdv A outer s H E hr ls Qd h=>?_) 'l';obtain⟨d,m,rfl,hm,hg,q⟩:=h;refine⟨rfl,?_⟩;refine⟨_,(qa0e (qa0k (qa4r (qa0g [false] d_is_named g_is_named hr rfl 'u') (qa5m (qa1c (qa6u rfl) qa9g rfl B.all_ qb0w (qa0a (qa1e (qa1x ["pair"] [("many",1)] rfl (by rfl) 'k' 'B' (fun _ _ _=>(qa0p (i:=0) (show(["pair","many"]:List Str).Nodup by decide +kernel) rfl 'f')) 'v' (fun _ _ _=>(qa0g [false,false] d_is_points g_is_points hr rfl (qa0a 'r' 't'))))) qa0c)))))),?_⟩;lia;refine⟨d,rfl,hg,?_⟩;lia;cases hn:named d with
 | false =>
  walk_at "dk";rw [show qa3u m d=false by unfold qa3u;rw [hn];rfl] at q;exact q
 | true =>
  obtain⟨xs,rfl,hp⟩:=qa7j hn;have hl:=hg.len;walk_at "dk";refine⟨'o',?_⟩;refine L2.qa1v (fun ρ=>∃ v0:Option L,ρ=[v0,some (.d (.int (m:Int)))]) (fun p=>some (.bool (ptsD m (sndD p)))) ⟨_,rfl⟩ ?_ ?_
  ·rintro y ρ N hy ⟨v0,rfl⟩ hN
   obtain⟨a,b,rfl⟩:=hp y hy;lia;refine⟨b,m,rfl,?_⟩;lia;exact hN _ ⟨_,rfl⟩
  ·rintro ρ _
   rw [qb3o,qa0r];rw [show qa3u m (.tuple xs)=xs.all fun p=>ptsD m (sndD p) by unfold qa3u;rw [hn];rfl] at q;exact q
abbrev qa6o:Stmt:=top 11
def qb8e:FnScope ["thing","many"] ["thing","many"] (qa0h qa6o):='a'
def qb8f{f f1 f2:Addr}{fd fd1 fd2:FuncData} (F:FU K "is_sights" qa6o f fd) (B:Bl mg) (d_is_named:Def K mg "is_named" qa5q ["thing"] f1 fd1) (g_is_named:FO P w K mg base n f1 fd1 ["thing"] qa6g)
  (d_is_parts:Def K mg "is_parts" qa7i ["thing","many"] f2 fd2) (g_is_parts:FO P w K mg base n f2 fd2 ["thing","many"] qa5e):FO P w K mg base (n + 1) f fd ["thing","many"] qb0i:=by
 refine F.dok qb8e (fun cdv A outer s H E hr ls Qd h=>?_) 'l';obtain⟨d,m,rfl,hm,hg,q⟩:=h;refine⟨rfl,?_⟩;refine⟨_,(qa0e (qa0k (qa4r (qa0g [false] d_is_named g_is_named hr rfl 'u') (qa5m (qa1c (qa6u rfl) qa9g rfl B.all_ qb0w (qa0a (qa1e (qa1x ["pair"] [("many",1)] rfl (by rfl) 'k' 'B' (fun _ _ _=>(qa0p (i:=0) (show(["pair","many"]:List Str).Nodup by decide +kernel) rfl 'f')) 'v' (fun _ _ _=>(qa0g [false,false] d_is_parts g_is_parts hr rfl (qa0a 'r' 't'))))) qa0c)))))),?_⟩;lia;refine⟨d,rfl,hg,?_⟩;lia;cases hn:named d with
 | false =>
  walk_at "dk";rw [show qa3i m d=false by unfold qa3i;rw [hn];rfl] at q;exact q
 | true =>
  obtain⟨xs,rfl,hp⟩:=qa7j hn;have hl:=hg.len;walk_at "dk";refine⟨'o',?_⟩;refine L2.qa1v (fun ρ=>∃ v0:Option L,ρ=[v0,some (.d (.int (m:Int)))]) (fun p=>some (.bool (qa3c m (sndD p)))) ⟨_,rfl⟩ ?_ ?_
  ·rintro y ρ N hy ⟨v0,rfl⟩ hN
   obtain⟨a,b,rfl⟩:=hp y hy;have hb:G b:=(hg.mem hy).mem 'm';lia;refine⟨b,m,rfl,hm,hb,?_⟩;lia;exact hN _ ⟨_,rfl⟩
  ·rintro ρ _
   rw [qb3o,qa0r];rw [show qa3i m (.tuple xs)=xs.all fun p=>qa3c m (sndD p) by unfold qa3i;rw [hn];rfl] at q;exact q
def len3(xs:List PyData):(∃ a b c,xs=[a,b,c]) ∨ ¬ xs.length=3:=by
 rcases xs with _ | ⟨a,_ | ⟨b,_ | ⟨c,_ | ⟨d,r⟩⟩⟩⟩
 ·exact .inr 'd'
 ·exact .inr 'e'
 ·exact .inr 'e'
 ·exact .inl ⟨_,_,_,rfl⟩
 ·exact .inr (by simp only [length_cons];omega)
def qb5l{xs:List PyData}(h:¬ xs.length=3):qa4g (.tuple xs)=false:=by
 rcases xs with _ | ⟨a,_ | ⟨b,_ | ⟨c,_ | ⟨d,r⟩⟩⟩⟩<;>first | rfl | exact absurd rfl h | (cases b<;>rfl)
def qb2f{a b c:PyData} (h:isD "tuple" b=false):qa4g (.tuple [a,b,c])=false:=by
 cases b<;>first | rfl | cases h
abbrev qa7l:Stmt:=top 6
def qa8q:FnScope ["thing","moves","many"] ["thing"] (qa0h qa7l):='a'
def qb9e{f f1 f2 f3:Addr}{fd fd1 fd2 fd3:FuncData} (F:FU K "is_world" qa7l f fd) (B:Bl mg) (d_is_points:Def K mg "is_points" qa3x ["thing","many"] f1 fd1) (g_is_points:FO P w K mg base n f1 fd1 ["thing","many"] qa9i)
  (d_is_facts:Def K mg "is_facts" qa7k ["thing","many"] f2 fd2) (g_is_facts:FO P w K mg base n f2 fd2 ["thing","many"] qb1k) (d_is_sights:Def K mg "is_sights" qa6o ["thing","many"] f3 fd3) (g_is_sights:FO P w K mg base n f3 fd3 ["thing","many"] qb0i):FO P w K mg base (n + 1) f fd ["thing"] qa5f:=by
 refine F.dok qa8q (fun cdv A outer s H E hr ls Qd h=>?_) 'n';obtain⟨d,rfl,hg,q⟩:=h;refine⟨rfl,?_⟩;refine⟨_,(qa0d (qa1h (DW.toT (qa2o (qa1d (qa0x (qa1z rfl B.isinstance_ rfl B.tuple_ qa1a rfl (dv 0)))) (qa3g (qa1i (qb3g hr.units) qb3f (qa1c qa1m qa3s rfl B.len_ qa2s 'u') qa0f (qa0q _)))))
  's'
  qa0o)
  (qa0d (qa1s (i:=1) qa8q.nd rfl 'f' 'r')
  (qa0d (qa1h (DW.toT (qa2o (qa1d (qa0x (qa1z rfl B.isinstance_ rfl B.tuple_ qa1a rfl (dv 1)))) (qa3g (qa1i (qa2i hr.units) qa2h (qa1c qa1m qa3s rfl B.len_ qa2s 't') qa0f (qa0q _)))))
  's'
  qa0o)
  (qa0d (qa1s (i:=2) qa8q.nd rfl (Or.inr rfl) (qa1c qa1m qa3s rfl B.len_ qa2s 't'))
  (qa0d (qa1h (qa1d (qa0x (qa1c (qa6u rfl) qa9g rfl B.all_ qb0w (qa0a (qa1e (qa1x ["points"] [("many",2)] rfl (by rfl) 'k' (qa1t (dv 1)) (fun _ _ _=>(qa0p (i:=0) (show(["points","many"]:List Str).Nodup by decide +kernel) rfl 'f')) 'v' (fun _ _ _=>(qa0g [false,false] d_is_points g_is_points hr rfl (qa0a (dv 0) 't'))))) qa0c))))
  's'
  qa0o)
  (qa0e (qa0k (qa4r (qa0g [false,false] d_is_facts g_is_facts hr rfl (qa0a 'r' 'y')) (qa5m (qa0g [false,false] d_is_sights g_is_sights hr rfl (qa0a 'r' 'y'))))))))))),?_⟩
 lia;cases ht:isD "tuple" d with
 | false =>
  walk_at "dk";rw [show qa4g d=false by cases d<;>first | rfl | cases ht] at q;exact q
 | true =>
 obtain⟨xs,rfl⟩:=qa2q.mp ht;walk_at "dk";rcases len3 xs with⟨a,b,c,rfl⟩ | h3
 rotate_left
 ·have hl:=hg.len
  rw [decide_eq_false (show ¬ (xs.length:Int)=3 by omega)];walk_at "dk";rw [qb5l h3] at q;exact q
 walk_at "dk";cases hb:isD "tuple" b with
 | false =>
  walk_at "dk";rw [qb2f hb] at q;exact q
 | true =>
 obtain⟨mv,rfl⟩:=qa2q.mp hb;have ga:G a:=hg.mem mem_cons_self;have gb:G (.tuple mv):=hg.mem 'm';have gc:G c:=hg.mem (mem_cons_of_mem _ 'm');have hl:=gb.len;have e0:qa4g (.tuple [a,.tuple mv,c])=(!mv.isEmpty && (mv.all (ptsD mv.length) && (qa3u mv.length a && qa3i mv.length c))):=rfl;walk_at "dk";by_cases h0:(mv.length:Int)=0
 ·rw [decide_eq_true h0]
  walk_at "dk";have hy:mv=[]:=List.length_eq_zero_iff.mp 'o';subst hy;exact q
 rw [decide_eq_false h0];walk_at "dk";have he:mv.isEmpty=false:=by
  cases mv with
  | nil=>exact absurd rfl h0
  | cons _ _=>rfl
 rw [he,Bool.not_false,Bool.true_and] at e0;refine⟨'o',?_⟩;refine L2.qa1v (fun ρ=>∃ v0:Option L,ρ=[v0,some (.d (.int (mv.length:Int)))]) (fun p=>some (.bool (ptsD mv.length p))) ⟨_,rfl⟩ ?_ ?_
 ·rintro y ρ N hy ⟨v0,rfl⟩ hN
  lia;refine⟨y,mv.length,rfl,?_⟩;lia;exact hN _ ⟨_,rfl⟩
 rintro ρ _;rw [qb3o,qa0r];lia;cases h1:mv.all (ptsD mv.length) with
 | false =>
  walk_at "dk";rw [e0,h1] at q;exact q
 | true =>
  rw [h1,Bool.true_and] at e0;walk_at "dk";refine⟨a,mv.length,rfl,hl,ga,?_⟩;lia;cases h2:qa3u mv.length a with
  | false =>
   walk_at "dk";rw [e0,h2] at q;exact q
  | true =>
   rw [h2,Bool.true_and] at e0;walk_at "dk";refine⟨c,mv.length,rfl,hl,gc,?_⟩;rw [e0] at q;exact q
def qc2k{ss:List Int}(h:ss.Pairwise (· < ·)):Sx.srtI (Sx.uniq ss)=ss:=by
 have nd:ss.Nodup:=h.imp fun{a b} hab e=>by omega
 have pm:(Sx.uniq ss).Perm ss:=(List.perm_ext_iff_of_nodup (Sx.qa5j ss) nd).mpr fun a=>Sx.qa7w;exact(Sx.qb1w pm.symm (h.imp fun{a b} hab=>by omega)).symm
def qc2l{ss:List Int}(h:Sx.srtI (Sx.uniq ss)=ss):ss.Pairwise (· < ·):=by
 have h1:=Sx.qc0q (Sx.uniq ss);have h2:(Sx.srtI (Sx.uniq ss)).Nodup:=(Sx.qa2p _).nodup_iff.mpr (Sx.qa5j ss);rw [h] at h1 h2;exact List.Pairwise.imp₂ (fun a b hab hne=>by omega) h1 h2
def qb2s{m:Nat}:∀ (ns:List Int) (a:Int),ptsR m a (ns.map .int)=true ↔ (a :: ns).Pairwise (· < ·)/\∀ x ∈ ns,x < (m:Int)
 | [],a=>by simp [ptsR]
 | x :: r,a=>by
  show(decide (a < x) && decide (x < (m:Int)) && ptsR m x (r.map .int))=true ↔ _;rw [and_eq_true,and_eq_true,decide_eq_true_eq,decide_eq_true_eq,qb2s r x];constructor
  ·rintro⟨⟨h1,h2⟩,h3,h4⟩
   refine⟨pairwise_cons.mpr ⟨fun y hy=>?_,h3⟩,fun y hy=>?_⟩
   ·rcases mem_cons.mp hy with rfl | hy
    ·exact h1
    ·have:=rel_of_pairwise_cons h3 hy
     omega
   ·rcases mem_cons.mp hy with rfl | hy
    ·exact h2
    ·exact h4 y hy
  ·rintro⟨h1,h2⟩
   exact⟨⟨rel_of_pairwise_cons h1 mem_cons_self,h2 x mem_cons_self⟩,(pairwise_cons.mp h1).2,fun y hy=>h2 y (mem_cons_of_mem _ hy)⟩
noncomputable def inB(m:Nat):PyData->Bool
 | .int p=>decide (0 <= p) && decide (p < (m:Int))
 | _=>false
def inB_int{m:Nat}{d:PyData}(h:inB m d=true):∃ p,d=.int p/\0 <= p/\p < (m:Int):=by
 cases d with
 | int p =>
  have h:(decide (0 <= p) && decide (p < (m:Int)))=true:=h;rw [and_eq_true,decide_eq_true_eq,decide_eq_true_eq] at h;exact⟨p,rfl,h.1,h.2⟩
 | _=>cases h
def qc1c{m:Nat}:∀ {xs:List PyData},(∀ p ∈ xs,inB m p=true)->∃ ns:List Int,xs=ns.map .int/\∀ x ∈ ns,0 <= x/\x < (m:Int)
 | [],_=>⟨[],rfl,fun x hx=>absurd hx not_mem_nil⟩
 | p :: r,h=>by
  obtain⟨q,rfl,h1,h2⟩:=inB_int (h p mem_cons_self);obtain⟨ns,rfl,h3⟩:=qc1c (xs:=r) fun x hx=>h x (mem_cons_of_mem _ hx);refine⟨q :: ns,rfl,fun x hx=>?_⟩;rcases mem_cons.mp hx with rfl | hx
  ·exact⟨h1,h2⟩
  ·exact h3 x hx
def row_ok{m:Nat}{ns:List Int}(h:∀ x ∈ ns,0 <= x/\x < (m:Int)):ptsD m (.tuple (ns.map .int))=decide (ns=Sx.srtI (Sx.uniq ns)):=by
 show ptsR m (-1) (ns.map .int)=_;rw [Bool.eq_iff_iff,qb2s,decide_eq_true_eq];constructor
 ·rintro⟨h1,_⟩
  exact(qc2k (pairwise_cons.mp h1).2).symm
 ·intro he
  exact⟨pairwise_cons.mpr ⟨fun y hy=>by have:=(h y hy).1;omega,qc2l he.symm⟩,fun x hx=>(h x hx).2⟩
def qb8g{m:Nat}:∀ {xs:List PyData} {a:Int},-1 <= a->ptsR m a xs=true->∀ p ∈ xs,inB m p=true
 | .int q :: r,a,ha,h,p,hp=>by
  have h:(decide (a < q) && decide (q < (m:Int)) && ptsR m q r)=true:=h;rw [and_eq_true,and_eq_true,decide_eq_true_eq,decide_eq_true_eq] at h;rcases mem_cons.mp hp with rfl | hp
  ·show(decide (0 <= q) && decide (q < (m:Int)))=true
   rw [and_eq_true,decide_eq_true_eq,decide_eq_true_eq];exact⟨'o',h.1.2⟩
  ·exact qb8g 'o' h.2 p hp
 | .none :: _,_,_,h,_,_=>nomatch h
 | .bool _ :: _,_,_,h,_,_=>nomatch h
 | .str _ :: _,_,_,h,_,_=>nomatch h
 | .list _ :: _,_,_,h,_,_=>nomatch h
 | .tuple _ :: _,_,_,h,_,_=>nomatch h
 | .dict _ :: _,_,_,h,_,_=>nomatch h
def row_bad{m:Nat}{xs:List PyData}{p:PyData}(hp:p ∈ xs)(h:inB m p=false):ptsD m (.tuple xs)=false:=by
 rw [← not_eq_true];intro h2;have:=qb8g 'o' (show ptsR m (-1) xs=true from h2) p hp;rw [h] at this;cases this
def spRow:DSp:=fun ls Q=>∃ (d:PyData) (m:Nat),ls=[.d d,.d (.int (m:Int))]/\m <= 62/\G d/\Q (.d (.bool (ptsD m d))) [none,none]
abbrev qa6w:Stmt:=top 22
def qb3p:FnScope ["_law_thing","_law_many","_law_one"] ["_law_thing","_law_many"] (qa0h qa6w):='a'
def ok_row{f:Addr}{fd:FuncData} (F:FU K "_law_row" qa6w f fd) (B:Bl mg):FO P w K mg base (n + 1) f fd ["_law_thing","_law_many"] spRow:=by
 refine F.dok qb3p (fun cdv A outer s H E hr ls Qd h=>?_) 'l';obtain⟨d,m,rfl,hm,hg,q⟩:=h;refine⟨rfl,?_⟩;refine⟨_,(qa0d (qa1h (qa1d (qa0x (qa1z rfl B.isinstance_ rfl B.tuple_ qa1a rfl (dv 0))))
  's'
  qa0o)
  (qa0d (qa5o PassesOwn.never rfl 'B' (qa0p (i:=2) qb3p.nd rfl 'f')
  (qa0e (qa1h (DW.toT (qa2o (qa1d (qa0x (qa1z rfl B.isinstance_ rfl B.int_ qb6n rfl (dv 2)))) (qa2o (qa0x (qa1z rfl B.isinstance_ rfl B.bool_ qb1r rfl (dv 2))) (qa2o (qa1i op_lt (qa4c _) (dv 2) qa0f (qa0q _)) (qa3g (qa1i op_ge (qa4c _) (dv 2) (dv 1) (qa0q _)))))))
  's'
  qa0o)))
  (qa0e (qa0k (qa4b (qa2i hr.units) qa2h (qa1e (qa8f qa5i qb1v rfl B.list_ qa9b 'u')) (qc0u rfl rfl B.set_ rfl B.sorted_ 'u') (qa0q _)))))),?_⟩
 lia;cases ht:isD "tuple" d with
 | false =>
  walk_at "dk";rw [show ptsD m d=false by cases d<;>first | rfl | cases ht] at q;exact q
 | true =>
 obtain⟨xs,rfl⟩:=qa2q.mp ht;walk_at "dk";have hl:=hg.len;refine qa3o (fun i ρ=>∃ (v2:Option L),ρ=[some (.d (.tuple xs)),some (.d (.int (m:Int))),v2]/\∀ p ∈ xs.take i,inB m p=true) ⟨none,rfl,fun p hp=>by simp at hp⟩ ?_ ?_
 ·rintro i x ρ N hx ⟨v2,rfl,hall⟩ hN
  have hxm:=mem_of_getElem? hx;have bad:inB m x=false->Qd (.d (.bool false)) [none,none]:=fun e=>by
   rw [row_bad hxm e] at q;exact q
  have good:inB m x=true->∀ p ∈ xs.take (i + 1),inB m p=true:=fun e p hp=>by
   rw [take_add_one,hx,toList_some] at hp;rcases mem_append.mp hp with h3 | h3
   ·exact hall p h3
   ·rw [mem_singleton.mp h3];exact e
  lia;cases h1:isD "int" x with
  | false =>
   walk_at "dk";exact bad (by cases x<;>first | rfl | cases h1)
  | true =>
   walk_at "dk";cases h2:isD "bool" x with
   | true =>
    walk_at "dk";exact bad (by cases x<;>first | rfl | cases h2)
   | false =>
    obtain⟨p,rfl⟩:∃ p,x=.int p:=by cases x<;>first | exact⟨_,rfl⟩ | (cases h1;done) | (cases h2;done)
    walk_at "dk";have e:inB m (.int p)=(decide (0 <= p) && decide (p < (m:Int))):=rfl;refine qa1y (fun c=>?_) (fun c=>?_)
    ·walk_at "dk"
     exact bad (by rw [e,decide_eq_false (show ¬ 0 <= p by omega)];rfl)
    ·refine qa1y (fun c2=>?_) (fun c2=>?_)
     ·walk_at "dk"
      exact bad (by rw [e,decide_eq_false (show ¬ p < (m:Int) by omega),Bool.and_false])
     ·walk_at "dk"
      exact hN _ ⟨_,rfl,good (by rw [e,decide_eq_true (show 0 <= p by omega),decide_eq_true (show p < (m:Int) by omega)];rfl)⟩
 ·rintro ρ ⟨v2,rfl,hall⟩
  rw [take_length] at hall;obtain⟨ns,rfl,hns⟩:=qc1c hall;rw [length_map] at hl;lia;have e1:fSetI [.tuple (ns.map .int)]=some (.list ((Sx.srtI (Sx.uniq ns)).map .int)):=fSetI_t 'o';refine qa1n e1 ?_;refine qa1n (qb8b _ _) ?_;rw [row_ok hns] at q;exact q
noncomputable def qb0j:PyData->Bool
 | .tuple [x,_]=>isName x
 | _=>false
def qb2t{d:PyData}(h:qb0j d=true):∃ x y,d=.tuple [x,y]/\isName x=true:=by
 cases d with
 | tuple xs =>
  rcases xs with _ | ⟨a,_ | ⟨b,_ | ⟨c,r⟩⟩⟩
  ·cases h
  ·cases h
  ·exact⟨_,_,rfl,h⟩
  ·cases h
 | _=>cases h
def qc4v{xs:List PyData}{p:PyData}(hp:p ∈ xs)(h:qb0j p=false):named (.tuple xs)=false:=by
 show(xs.all qa3b && rise "" (xs.map hdD))=false;cases h1:qa3b p with
 | false =>
  have:xs.all qa3b=false:=by
   rw [← not_eq_true];intro h2;have:=all_eq_true.mp h2 p hp;rw [h1] at this;cases this
  rw [this];rfl
 | true =>
  obtain⟨x,y,rfl⟩:=qa8j h1;rw [qb7z ⟨x,mem_map.mpr ⟨_,hp,rfl⟩,h⟩,Bool.and_false]
def qc2m{xs:List PyData}(h:∀ p ∈ xs,qb0j p=true):∃ ss:List Str,xs.map hdD=ss.map .str/\(∀ z ∈ ss,qa0s z=true)/\named (.tuple xs)=decide (ss=Sx.srtS (Sx.uniq ss)):=by
 obtain⟨ss,e,hs⟩:=qb5i (xs:=xs.map hdD) fun d hd=>by
  obtain⟨p,hp,rfl⟩:=mem_map.mp hd;obtain⟨x,y,rfl,hx⟩:=qb2t (h p hp);exact hx
 refine⟨ss,e,hs,?_⟩;show(xs.all qa3b && rise "" (xs.map hdD))=_;have h1:xs.all qa3b=true:=all_eq_true.mpr fun p hp=>by
  obtain⟨x,y,rfl,hx⟩:=qb2t (h p hp);rfl
 rw [h1,Bool.true_and,e,qc7t hs];rw [Bool.eq_iff_iff,decide_eq_true_eq,decide_eq_true_eq];exact⟨Eq.symm,Eq.symm⟩
def eqA_ls{a b:List Str}(ha:∀ s ∈ a,PyData.strOk s=true)(hb:∀ s ∈ b,PyData.strOk s=true):fEqA false (.list (a.map .str)) (.list (b.map .str))=some (.bool (decide (a=b))):=by
 show fEq false _ _=_;unfold fEq;rw [if_pos ⟨qb2e ha,qb2e hb⟩];show some (PyData.bool (PyData.eqv _ _))=_;rw [PyData.eqv,eqvs]
abbrev qa4n:Stmt:=top 23
def qa5r:FnScope ["_law_thing","_law_one","_law_names"] ["_law_thing"] (qa0h qa4n):='a'
def qc2n{f f1:Addr}{fd fd1:FuncData} (F:FU K "_law_by_names" qa4n f fd) (B:Bl mg) (qa8r:Def K mg "_law_named" qa6n ["_law_thing"] f1 fd1) (qb9f:FO P w K mg base n f1 fd1 ["_law_thing"] qa9h):FO P w K mg base (n + 1) f fd ["_law_thing"] qa6g:=by
 refine F.dok qa5r (fun cdv A outer s H E hr ls Qd h=>?_) 'n';obtain⟨d,rfl,hg,q⟩:=h;refine⟨rfl,?_⟩;refine⟨_,(qa0d (qa1h (qa1d (qa0x (qa1z rfl B.isinstance_ rfl B.tuple_ qa1a rfl (dv 0))))
  's'
  qa0o)
  (qa0d (qa5o PassesOwn.never rfl 'B' (qa0p (i:=1) qa5r.nd rfl 'f')
  (qa0e (qa1h (DW.toT (qa2o (qa1d (qa0x (qa1z rfl B.isinstance_ rfl B.tuple_ qa1a rfl (dv 1)))) (qa2o (qa1i (qb3g hr.units) qb3f (qa1c qa1m qa3s rfl B.len_ qa2s 't') qa0f (qa0q _)) (qa3g (qa1d (qa0x (qa0g [false] qa8r qb9f hr rfl (qa0a (qa2b qa1k qa2c (dv 1) qa0f 'i') qa0c))))))))
  's'
  qa0o)))
  (qa0d (qb4b (i:=2) qa5r.nd rfl rfl ["_law_one"] [] rfl (by rfl) 'k' 'B' 'x' 'v' (fun _ _ _=>'r'))
  (qa0e (qa0k (qa4b (qa2i hr.units) qa2h (dv 2) (de_setS rfl rfl B.set_ rfl B.sorted_ 'y') (qa0q _))))))),?_⟩
 lia;cases ht:isD "tuple" d with
 | false =>
  walk_at "dk";rw [show named d=false by cases d<;>first | rfl | cases ht] at q;exact q
 | true =>
 obtain⟨xs,rfl⟩:=qa2q.mp ht;walk_at "dk";have hl:=hg.len;refine qa3o (fun i ρ=>∃ (v1 v2:Option L),ρ=[some (.d (.tuple xs)),v1,v2]/\∀ p ∈ xs.take i,qb0j p=true) ⟨none,none,rfl,fun p hp=>by simp at hp⟩ ?_ ?_
 ·rintro i x ρ N hx ⟨v1,v2,rfl,hall⟩ hN
  have hxm:=mem_of_getElem? hx;have hgx:=hg.mem hxm;have bad:qb0j x=false->Qd (.d (.bool false)) [none]:=fun e=>by
   rw [qc4v hxm e] at q;exact q
  have good:qb0j x=true->∀ p ∈ xs.take (i + 1),qb0j p=true:=fun e p hp=>by
   rw [take_add_one,hx,toList_some] at hp;rcases mem_append.mp hp with h3 | h3
   ·exact hall p h3
   ·rw [mem_singleton.mp h3];exact e
  lia;cases h1:isD "tuple" x with
  | false =>
   walk_at "dk";exact bad (by cases x<;>first | rfl | cases h1)
  | true =>
   obtain⟨ys,rfl⟩:=qa2q.mp h1;walk_at "dk";by_cases c:(ys.length:Int)=2
   ·obtain⟨a,b,rfl⟩:∃ a b,ys=[a,b]:=by
     rcases ys with _ | ⟨a,_ | ⟨b,_ | ⟨c',r⟩⟩⟩
     ·simp at c
     ·simp at c
     ·exact⟨_,_,rfl⟩
     ·simp only [length_cons] at c;omega
    have hga:G a:=hgx.mem mem_cons_self;walk_at "dk";refine⟨a,rfl,hga.str,?_⟩;walk_at "dk";cases hn:isName a with
    | false =>
     walk_at "dk";exact bad hn
    | true =>
     walk_at "dk";exact hN _ ⟨_,_,rfl,good hn⟩
   ·rw [decide_eq_false c]
    walk_at "dk";refine bad ?_;rcases ys with _ | ⟨a,_ | ⟨b,_ | ⟨c',r⟩⟩⟩<;>first | rfl | exact absurd rfl c
 ·rintro ρ ⟨v1,v2,rfl,hall⟩
  rw [take_length] at hall;obtain⟨ss,es,hs,en⟩:=qc2m hall;lia;refine⟨'o',?_⟩;refine L2.qa1v (fun ρ=>∃ v0:Option L,ρ=[v0]) (fun p=>some (hdD p)) ⟨_,rfl⟩ ?_ ?_
  ·rintro p ρ N hp ⟨v0,rfl⟩ hN
   obtain⟨x,y,rfl,_⟩:=qb2t (hall p hp);lia;exact hN _ ⟨_,rfl⟩
  ·rintro ρ ⟨v0,rfl⟩
   have hlen:ss.length=xs.length:=by
    have:=congrArg List.length es;rw [length_map,length_map] at this;exact this.symm
   rw [fm_map,es];lia;refine qa1n (fSetS_l 'o') ?_;have hok:∀ s ∈ ss,PyData.strOk s=true:=fun s hs'=>qc7u (hs s hs');refine qa1n (eqA_ls hok fun s h2=>hok s (Sx.qa7w.mp ((Sx.qa8g _).mem_iff.mp h2))) ?_;rw [en] at q;exact q
def qb5m{m:Nat}{xs:List PyData}{x:PyData}(hxm:x ∈ xs)(e:(ptsD m x && neD x)=false):qa3c m (.tuple xs)=false:=by
 show((xs.all fun p=>ptsD m p && neD p) && _)=false;rw [Bool.and_eq_false_iff];refine .inl ?_;rw [← not_eq_true];intro h2;have:=all_eq_true.mp h2 x hxm;rw [e] at this;cases this
def flat62{xs:List PyData}(hg:∀ p ∈ xs,G p)(hl:xs.length <= 62):(xs.map intsOf).flatten.length <= 62 * 62:=by
 have hfl:=qb0g (m:=62) (tss:=xs.map intsOf) fun t ht=>by
  obtain⟨p,hp,rfl⟩:=mem_map.mp ht;have hgp:=hg p hp;cases p with
  | tuple zs=>show(zs.map intOf).length <= 62;rw [length_map];exact hgp.len
  | _=>exact zero_le _
 rw [length_map] at hfl;have h62:62 * xs.length <= 62 * 62:=Nat.mul_le_mul_left _ hl;omega
abbrev qa5s:Stmt:=top 24
def qa4x:FnScope ["_law_thing","_law_many","_law_part","_law_whole"] ["_law_thing","_law_many"] (qa0h qa5s):='a'
def qc4w{f f1:Addr}{fd fd1:FuncData} (F:FU K "_law_parted" qa5s f fd) (B:Bl mg) (qa4h:Def K mg "_law_row" qa6w ["_law_thing","_law_many"] f1 fd1) (qa8l:FO P w K mg base n f1 fd1 ["_law_thing","_law_many"] spRow):FO P w K mg base (n + 1) f fd ["_law_thing","_law_many"] qa5e:=by
 refine F.dok qa4x (fun cdv A outer s H E hr ls Qd h=>?_) 'l';obtain⟨d,m,rfl,hm,hg,q⟩:=h;refine⟨rfl,?_⟩;refine⟨_,(qa0d (qa1h (qa1d (qa0x (qa1z rfl B.isinstance_ rfl B.tuple_ qa1a rfl (dv 0))))
  's'
  qa0o)
  (qa0d (qa5o PassesOwn.never rfl 'B' (qa0p (i:=2) qa4x.nd rfl 'f')
  (qa0e (qa1h (DW.toT (qa2o (qa1d (qa0x (qa0g [false,false] qa4h qa8l hr rfl (qa0a (dv 2) 't')))) (qa3g (qa1i (op_eqE hr.units) ad_eqE (dv 2) 'z' (qa0q _)))))
  's'
  qa0o)))
  (qa0d (qc0m (i:=3) qa4x.nd rfl 'f' (qa3f qa0c))
  (qa0d (qa5o PassesOwn.never rfl 'B' (qa0p (i:=2) qa4x.nd rfl 'f')
  (qa0e (qc0l (qc0p 3 rfl (dv 2)))))
  (qa0e (qa0k (qa4r (qa4b (qa2i hr.units) qa2h (qb7v rfl B.sorted_ (qa0a (dv 3) qa0c)) (qb7l rfl rfl B.range_ rfl B.list_ 't') (qa0q _)) (qa5m (qa4b (qa2i hr.units) qa2h (qa1e (qa8f qa5i qb1v rfl B.list_ qa9b 'u')) (qa1c qb3m qb7s rfl B.sorted_ qa6r 'u') (qa0q _)))))))))),?_⟩
 lia;cases ht:isD "tuple" d with
 | false =>
  walk_at "dk";rw [show qa3c m d=false by cases d<;>first | rfl | cases ht] at q;exact q
 | true =>
 obtain⟨xs,rfl⟩:=qa2q.mp ht;walk_at "dk";have hlen:=hg.len;refine qa3o (fun i ρ=>∃ (v2 v3:Option L),ρ=[some (.d (.tuple xs)),some (.d (.int (m:Int))),v2,v3]/\∀ p ∈ xs.take i,(ptsD m p && neD p)=true) ⟨none,none,rfl,fun p hp=>by simp at hp⟩ ?_ ?_
 ·rintro i x ρ N hx ⟨v2,v3,rfl,hall⟩ hN
  have hxm:=mem_of_getElem? hx;have hgx:=hg.mem hxm;lia;refine⟨x,m,rfl,hm,hgx,?_⟩;lia;cases hp:ptsD m x with
  | false =>
   walk_at "dk";rw [qb5m hxm (by rw [hp];rfl)] at q;exact q
  | true =>
   have ee:=qb0h hp;obtain⟨ys,rfl⟩:∃ ys,x=.tuple ys:=⟨_,ee⟩;walk_at "dk";rw [fEqE_t,qa0r];walk_at "dk";cases he:ys.isEmpty with
   | true =>
    walk_at "dk";rw [qb5m hxm (by rw [hp];show(true && !ys.isEmpty)=false;rw [he];rfl)] at q;exact q
   | false =>
    walk_at "dk";refine hN _ ⟨_,_,rfl,fun p hp2=>?_⟩;rw [take_add_one,hx,toList_some] at hp2;rcases mem_append.mp hp2 with h3 | h3
    ·exact hall p h3
    ·rw [mem_singleton.mp h3,hp];show(true && !ys.isEmpty)=true;rw [he];rfl
 rintro ρ ⟨v2,v3,rfl,hall⟩;rw [take_length] at hall;have hx:=qb8c (m:=m) (xs:=xs) fun p hp=>(and_eq_true _ _ ▸ hall p hp:ptsD m p=true/\neD p=true).1;lia;refine qa3o (fun i ρ=>∃ (v2:Option L),ρ=[some (.d (.tuple xs)),some (.d (.int (m:Int))),v2,some (.own (((xs.take i).map intsOf).flatten.map .int))]/\i <= xs.length) ⟨_,rfl,'o'⟩ ?_ ?_
 ·rintro i x ρ N hxi ⟨v2,rfl,hi⟩ hN
  obtain⟨hi2,ex⟩:=List.getElem?_eq_some_iff.mp hxi;have hxm:=mem_of_getElem? hxi;have hgx:=hg.mem hxm;have hp:=(and_eq_true _ _ ▸ hall x hxm:ptsD m x=true/\neD x=true).1;have ee:=qb0h hp;obtain⟨ys,rfl⟩:∃ ys,x=.tuple ys:=⟨_,ee⟩;have hyl:=hgx.len;have hfl:=flat62 (xs:=xs.take i) (fun p hp=>hg.mem (mem_of_mem_take hp)) (by rw [length_take];omega);lia;refine⟨ys,rfl,by rw [length_map];omega,hN _ ⟨some (.d (.tuple ys)),?_,'o'⟩⟩;rw [take_add_one,hxi,toList_some,map_append,List.flatten_append,map_append];have e2:ys=(ys.map intOf).map .int:=qa8k hp;simp only [map_cons,map_nil,List.flatten_cons,List.flatten_nil,append_nil];rw [show intsOf (.tuple ys)=ys.map intOf from rfl,← e2]
 ·rintro ρ ⟨v2,rfl,hi⟩
  rw [take_length];have hz:=flat62 (xs:=xs) (fun p hp=>hg.mem hp) hlen;have hb:(xs.all fun p=>ptsD m p && neD p)=true:=all_eq_true.mpr hall;have e0:qa3c m (.tuple xs)=(decide (Sx.srtI (xs.map intsOf).flatten=qa4m m) && decide (Sx.srtT (xs.map intsOf)=xs.map intsOf)):=by
   show((xs.all fun p=>ptsD m p && neD p) && _)=_;rw [hb,Bool.true_and]
  rw [e0] at q;lia;refine qa1n (insW_l 'o') fun ns' hw=>?_;lia;refine qa1n (qb7k 'o' 'o') ?_;rw [show((m:Int)).toNat=m by omega,qb8a];refine qa1n (qb8b _ _) ?_;rw [show decide (ns'=(List.range m).map fun p:Nat=>(p:Int))=decide (Sx.srtI (xs.map intsOf).flatten=qa4m m) from qc1b hw hm];lia;by_cases c:Sx.srtI (xs.map intsOf).flatten=qa4m m
  ·rw [decide_eq_true c] at q ⊢
   walk_at "dk";rw [Bool.true_and] at q;have hne:∀ t ∈ xs.map intsOf,t ≠ []:=fun t ht=>by
    obtain⟨p,hp,rfl⟩:=mem_map.mp ht;have h2:=(and_eq_true _ _ ▸ hall p hp:ptsD m p=true/\neD p=true).2;cases p with
    | tuple zs =>
     cases zs with
     | nil=>cases h2
     | cons _ _=>exact nofun
    | _=>cases h2
   have e1:qb1g [.tuple xs]=some (.list ((Sx.srtT (xs.map intsOf)).map encT)):=by
    conv=>lhs;rw [hx]
    exact qb5g hne (by rw [length_map];omega)
   refine qa1n e1 ?_;lia;have e2:fEqA false (.list xs) (.list ((Sx.srtT (xs.map intsOf)).map encT))=some (.bool (decide (Sx.srtT (xs.map intsOf)=xs.map intsOf))):=by
    have e3:=eqA_lt (xs.map intsOf) (Sx.srtT (xs.map intsOf));rw [← hx] at e3;rw [e3];congr 2;rw [Bool.eq_iff_iff,decide_eq_true_eq,decide_eq_true_eq];exact⟨Eq.symm,Eq.symm⟩
   refine qa1n e2 ?_;exact q
  ·rw [decide_eq_false c] at q ⊢
   walk_at "dk";exact q
def qb8h{α:Type}(p:α->Bool)(xs:List α):(xs.map p).contains false = !xs.all p:=by
 induction xs with
 | nil=>rfl
 | cons x r ih =>
  rw [map_cons,List.contains_cons,all_cons,ih];cases p x<;>simp
def qb8i(p:PyData->Bool)(xs:List PyData):fIn false (.bool false) (.list (xs.filterMap fun d=>some (PyData.bool (p d))))=some (.bool (!xs.all p)):=by
 rw [qb0f,qb5j,qb8h];rfl
def qc4x(p:PyData->Bool)(xs:List PyData):fIn true (.bool false) (.list (xs.filterMap fun d=>some (PyData.bool (p d))))=some (.bool (xs.all p)):=by
 rw [qb0f,qb5j,qb8h];simp
abbrev qa4o:Stmt:=top 25
def qa8m:FnScope ["_law_thing","_law_many"] ["_law_thing"] (qa0h qa4o):='a'
def qb8j{f f1 f2 f3:Addr}{fd fd1 fd2 fd3:FuncData} (F:FU K "_law_is_world" qa4o f fd) (B:Bl mg) (qa4h:Def K mg "_law_row" qa6w ["_law_thing","_law_many"] f1 fd1) (qa8l:FO P w K mg base n f1 fd1 ["_law_thing","_law_many"] spRow)
  (qa4p:Def K mg "_law_by_names" qa4n ["_law_thing"] f2 fd2) (qa9j:FO P w K mg base n f2 fd2 ["_law_thing"] qa6g) (qa8c:Def K mg "_law_parted" qa5s ["_law_thing","_law_many"] f3 fd3) (qb8k:FO P w K mg base n f3 fd3 ["_law_thing","_law_many"] qa5e):FO P w K mg base (n + 1) f fd ["_law_thing"] qa5f:=by
 refine F.dok qa8m (fun cdv A outer s H E hr ls Qd h=>?_) 'n';obtain⟨d,rfl,hg,q⟩:=h;refine⟨rfl,?_⟩;refine⟨_,(qa0d (qa1h (DW.toT (qa2o (qa1d (qa0x (qa1z rfl B.isinstance_ rfl B.tuple_ qa1a rfl (dv 0)))) (qa2o (qa1i (qb3g hr.units) qb3f (qa1c qa1m qa3s rfl B.len_ qa2s 'u') qa0f (qa0q _)) (qa2o (qa1d (qa0x (qa1z rfl B.isinstance_ rfl B.tuple_ qa1a rfl 'r'))) (qa3g (qa1i (op_eqE hr.units) ad_eqE 'r' 'z' (qa0q _)))))))
  's'
  qa0o)
  (qa0d (qa1s (i:=1) qa8m.nd rfl (Or.inr rfl) (qa1c qa1m qa3s rfl B.len_ qa2s (qa0a 'r' qa0c)))
  (qa0d (qa1h (qa1i qb6q ad_in qa1j (qa1e (qa1x ["_law_row_here"] [("_law_many",1)] rfl (by rfl) 'k' (qa1t 'r') (fun _ _ _=>(qa0p (i:=0) (show(["_law_row_here","_law_many"]:List Str).Nodup by decide +kernel) rfl 'f')) 'v' (fun _ _ _=>(qa0g [false,false] qa4h qa8l hr rfl (qa0a (dv 0) 't'))))) (by rfl))
  's'
  qa0o)
  (qa0d (qa1h (DW.toT (qa2o (qa1d (qa0x (qa0g [false] qa4p qa9j hr rfl (qa0a 'r' qa0c)))) (qa3g (qa1d (qa0x (qa0g [false] qa4p qa9j hr rfl (qa0a 'r' qa0c)))))))
  's'
  qa0o)
  (qa0d (qa1h (qa1i qb6q ad_in qa1j (qa1e (qa1x ["_law_name","_law_points"] [("_law_many",1)] rfl (by rfl) 'k' (qa1t 'r') (fun _ _ _=>(dg_tup (n:=2) rfl (qa9y (qa0p (i:=0) (show(["_law_name","_law_points","_law_many"]:List Str).Nodup by decide +kernel) rfl 'f') (qa9y (qa0p (i:=1) (show(["_law_name","_law_points","_law_many"]:List Str).Nodup by decide +kernel) rfl 'f') qc0n)))) 'v' (fun _ _ _=>(qa0g [false,false] qa4h qa8l hr rfl (qa0a (dv 1) 'y'))))) (by rfl))
  's'
  qa0o)
  (qa0e (qa0k (qa4b qb2a ad_in qa1j (qa1e (qa1x ["_law_name","_law_parts_here"] [("_law_many",1)] rfl (by rfl) 'k' (qa1t 'r') (fun _ _ _=>(dg_tup (n:=2) rfl (qa9y (qa0p (i:=0) (show(["_law_name","_law_parts_here","_law_many"]:List Str).Nodup by decide +kernel) rfl 'f') (qa9y (qa0p (i:=1) (show(["_law_name","_law_parts_here","_law_many"]:List Str).Nodup by decide +kernel) rfl 'f') qc0n)))) 'v' (fun _ _ _=>(qa0g [false,false] qa8c qb8k hr rfl (qa0a (dv 1) 'y'))))) (by rfl))))))))),?_⟩
 lia;cases ht:isD "tuple" d with
 | false =>
  walk_at "dk";rw [show qa4g d=false by cases d<;>first | rfl | cases ht] at q;exact q
 | true =>
 obtain⟨xs,rfl⟩:=qa2q.mp ht;walk_at "dk";rcases len3 xs with⟨a,b,c,rfl⟩ | h3
 rotate_left
 ·have hl:=hg.len
  rw [decide_eq_false (show ¬ (xs.length:Int)=3 by omega)];walk_at "dk";rw [qb5l h3] at q;exact q
 walk_at "dk";cases hb:isD "tuple" b with
 | false =>
  walk_at "dk";rw [qb2f hb] at q;exact q
 | true =>
 obtain⟨mv,rfl⟩:=qa2q.mp hb;have ga:G a:=hg.mem mem_cons_self;have gb:G (.tuple mv):=hg.mem 'm';have gc:G c:=hg.mem (mem_cons_of_mem _ 'm');have hl:=gb.len;have e0:qa4g (.tuple [a,.tuple mv,c])=(!mv.isEmpty && (mv.all (ptsD mv.length) && (qa3u mv.length a && qa3i mv.length c))):=rfl;walk_at "dk";rw [fEqE_t,qa0r];walk_at "dk";cases he:mv.isEmpty with
 | true =>
  walk_at "dk";rw [e0,he] at q;exact q
 | false =>
 rw [he,Bool.not_false,Bool.true_and] at e0;walk_at "dk";refine⟨'o',?_⟩;refine L2.qa1v (fun ρ=>∃ v0:Option L,ρ=[v0,some (.d (.int (mv.length:Int)))]) (fun p=>some (.bool (ptsD mv.length p))) ⟨_,rfl⟩ ?_ ?_
 ·rintro y ρ N hy ⟨v0,rfl⟩ hN
  lia;refine⟨y,mv.length,rfl,hl,gb.mem hy,?_⟩;lia;exact hN _ ⟨_,rfl⟩
 rintro ρ _;lia;refine qa1n (qb8i _ _) ?_;lia;cases h1:mv.all (ptsD mv.length) with
 | false =>
  walk_at "dk";rw [e0,h1] at q;exact q
 | true =>
 rw [h1,Bool.true_and] at e0;walk_at "dk";refine⟨a,rfl,ga,?_⟩;lia;have ef:qa3u mv.length a=(named a && (seqs a).all fun p=>ptsD mv.length (sndD p)):=rfl;have es:qa3i mv.length c=(named c && (seqs c).all fun p=>qa3c mv.length (sndD p)):=rfl;cases hna:named a with
 | false =>
  walk_at "dk";rw [e0,ef,hna] at q;exact q
 | true =>
 rw [hna,Bool.true_and] at ef;walk_at "dk";refine⟨c,rfl,gc,?_⟩;lia;cases hnc:named c with
 | false =>
  walk_at "dk";rw [e0,es,hnc,Bool.false_and,Bool.and_false] at q;exact q
 | true =>
 rw [hnc,Bool.true_and] at es;obtain⟨fs,rfl,hfp⟩:=qa7j hna;obtain⟨ss,rfl,hsp⟩:=qa7j hnc;have lf:=ga.len;have lss:=gc.len;walk_at "dk";refine⟨'o',?_⟩;refine L2.qa1v (fun ρ=>∃ v0 v1:Option L,ρ=[v0,v1,some (.d (.int (mv.length:Int)))]) (fun p=>some (.bool (ptsD mv.length (sndD p)))) ⟨_,_,rfl⟩ ?_ ?_
 ·rintro y ρ N hy ⟨v0,v1,rfl⟩ hN
  obtain⟨x1,x2,rfl⟩:=hfp y hy;have hb:G x2:=(ga.mem hy).mem 'm';lia;refine⟨x2,mv.length,rfl,hl,hb,?_⟩;lia;exact hN _ ⟨_,_,rfl⟩
 rintro ρ _;lia;refine qa1n (qb8i _ _) ?_;lia;rw [show seqs (.tuple fs)=fs from rfl] at ef;rw [show seqs (.tuple ss)=ss from rfl] at es;cases h2:fs.all (fun p=>ptsD mv.length (sndD p)) with
 | false =>
  walk_at "dk";rw [e0,ef,h2] at q;exact q
 | true =>
 walk_at "dk";refine⟨'o',?_⟩;refine L2.qa1v (fun ρ=>∃ v0 v1:Option L,ρ=[v0,v1,some (.d (.int (mv.length:Int)))]) (fun p=>some (.bool (qa3c mv.length (sndD p)))) ⟨_,_,rfl⟩ ?_ ?_
 ·rintro y ρ N hy ⟨v0,v1,rfl⟩ hN
  obtain⟨x1,x2,rfl⟩:=hsp y hy;have hb:G x2:=(gc.mem hy).mem 'm';lia;refine⟨x2,mv.length,rfl,hl,hb,?_⟩;lia;exact hN _ ⟨_,_,rfl⟩
 rintro ρ _;lia;refine qa1n (qc4x _ _) ?_;rw [e0,ef,h2,es] at q;exact q
noncomputable def Dp:Nat->PyData->Prop
 | 0,_=>False
 | n + 1,d=>∀ xs,d=.tuple xs->∀ x ∈ xs,Dp n x
def Dp.succ:∀ {h:Nat} {d:PyData},Dp h d->Dp (h + 1) d
 | 0,_,x=>absurd x id
 | h + 1,d,x=>fun xs e y hy=>Dp.succ (x xs e y hy)
def qa9k{h:Nat}{d:PyData}(n:∀ xs,d ≠ .tuple xs):Dp (h + 1) d:=fun xs e=>absurd e (n xs)
def qa3d{h:Nat}{xs:List PyData}(a:∀ x ∈ xs,Dp h x):Dp (h + 1) (.tuple xs):=fun ys e y hy=>by cases e;exact a y hy
def qb1l{h:Nat}{xs:List PyData}(a:Dp (h + 1) (.tuple xs)):∀ x ∈ xs,Dp h x:=a xs rfl
def Dp.pos{h:Nat}{d:PyData}(a:Dp h d):∃ h0,h=h0 + 1:=by
 cases h with
 | zero=>exact absurd a id
 | succ h=>exact⟨h,rfl⟩
def qb8l:DSp:=fun ls Q=>∃ (k c h:Nat) (d:PyData),ls=[.tape k,.d d]/\k < 900000/\Dp h d/\Fn c d/\9 <= c/\c <= 70/\∀ d':PyData,Fn (c + 1) d'->Dp (h + 1) d'->Q (.d d') [some (.tape (k + 1)),none]
def qb3q(m:Nat):DSp:=fun ls Q=>∃ (k c h:Nat) (d:PyData),ls=[.tape k,.d d]/\k + 3 * h + 10 < 900000/\Dp h d/\h <= m/\Fn c d/\9 <= c/\c <= 70/\∀ (d':PyData) (k':Nat),k' <= k + 3 * h->Fn (c + 1) d'->Dp (h + 1) d'->Q (.d d') [some (.tape k'),none]
def qa1f.app{c:Nat}{xs ys:List PyData}(h1:qa1f c xs)(h2:qa1f c ys):qa1f c (xs ++ ys):=qa1f.of fun x hx=>(mem_append.mp hx).elim (h1.mem x) (h2.mem x)
def qb0k{xs:List PyData}{i:Nat}(h:i <= xs.length):cutD xs none (some (i:Int))=xs.take i:=by
 unfold cutD;rw [HT.qb6d,HT.qb9v,drop_zero,Nat.sub_zero,Nat.min_eq_left h]
def qb0l{xs:List PyData}{i:Nat}(h:i <= xs.length):cutD xs (some (i:Int)) none=xs.drop i:=by
 unfold cutD;rw [HT.qb9v,HT.qb6d,Nat.min_eq_left h];exact List.take_of_length_le (by rw [length_drop];exact le_refl _)
abbrev qa3y:Stmt:=top 19
def qa8d:FnScope ["_law_tape","_law_thing","_law_some_here"] ["_law_tape","_law_thing"] (qa0h qa3y):='a'
def qc7x{f f1:Addr}{fd fd1:FuncData} (F:FU K "_law_bent_leaf" qa3y f fd) (B:Bl mg) (qa0m:DNext K mg f1 fd1) (qa0u:GNext P w K mg base n f1 fd1):FO P w K mg base (n + 1) f fd ["_law_tape","_law_thing"] qb8l:=by
 refine F.dok qa8d (fun cdv A outer s H E hr ls Qd h=>?_) (fun ls Qd hq8=>by obtain⟨_,_,_,_,e,_⟩:=hq8;rw [e];rfl);obtain⟨k,c,h,d,rfl,hk,hdp,hf,hc1,hc2,q⟩:=h;refine⟨rfl,?_⟩;have sl:=sizeLine_eq;have flt:∀ d':PyData,Fn (c + 1) d'->(∀ xs,d' ≠ .tuple xs)->Qd (.d d') [some (.tape (k + 1)),none]:=fun d' h1 h2=>q d' h1 (qa9k h2);have kn:∀ z:Str,z.length <= 9->Fn (c + 1) (.str z):=fun z hz=>show z.length <= c + 1 by omega
 have ki:∀ i:Int,-9 <= i->i <= 9->Fn (c + 1) (.int i):=fun i h1 h2=>'A';refine⟨_,(qa0d (qa1h (DW.toT (dw_and (qa0x (qa1z rfl B.isinstance_ rfl B.int_ qb6n rfl (dv 1))) (dw_and1 (qa1d (qa0x (qa1z rfl B.isinstance_ rfl B.bool_ qb1r rfl (dv 1)))))))
  (qa0e (qa0k (qa2b qa1k qa2c (qa1e (qa3f (qa0a (qa3n qa1o qa2y (dv 1) qa0f) (qa0a (qa3n op_sub ad_sub (dv 1) qa0f) (qa0a (qa4b (qa2i hr.units) qa2h (dv 1) qa0f (qa0q _)) (qa0a (qa4d qb6a ad_str rfl B.str_ qb3a 't') (qa0a qb0u (qa0a (qb7f qa0f) (qa0a (qa0t 't') 'w'))))))))) (qa0g [true,false] qa0m qa0u hr rfl (qa0a (dv 0) 'w')) 'i')))
  qa0o)
  (qa0d (qa1h (qa0x (qa1z rfl B.isinstance_ rfl B.str_ qb3a rfl (dv 1)))
  (qa0d (qa1s (i:=2) qa8d.nd rfl 'f' (qa1e (qa3f (qa0a qa1l (qa0a qa1l (qa0a (qa3n qa1o qa2y (dv 1) qa1l) (qa0a qa1l (qa0a (qa3p sl_str ad_slS (dv 1) qa4k (qa4l (qb7f qa0f))) (qa0a qa1l (qa0a qb0u (qa0a qa0f (qa0a qa1l (qa0a qa1l (qa0a qa1l (qa0a qa1l (qa0a qa1l (qa0a qa1l qa0c)))))))))))))))))
  (qa0e (qa0k (qa2b qa1k qa2c (dv 2) (qa0g [true,false] qa0m qa0u hr rfl (qa0a (dv 0) 'w')) 'i'))))
  qa0o)
  (qa0d (qa1h (qa0x (qa1z rfl B.isinstance_ rfl B.tuple_ qa1a rfl (dv 1)))
  (qa0e (qa0k (qa2b qa1k qa2c (qa1e (qa3f (qa0a (qa1e (qa8f qa5i qb1v rfl B.list_ qa9b 't')) (qa0a (qa3n qa1o qa2y (dv 1) (qa0t 'w')) (qa0a qb0u (qa0a (qa0t 't') qa0c)))))) (qa0g [true,false] qa0m qa0u hr rfl (qa0a (dv 0) 'w')) 'i')))
  qa0o)
  (qa0e (qa0k (qa2b qa1k qa2c (qa1e (qa3f (qa0a qb0u (qa0a 'z' (qa0a qa1l 'w'))))) (qa0g [true,false] qa0m qa0u hr rfl (qa0a (dv 0) 'w')) 'i')))))),?_⟩
 lia;have other:isD "str" d=false->isD "tuple" d=false->(isD "int" d && !isD "bool" d)=false->Qd (.d .none) [some (.tape (k + 1)),none]/\Qd (.d (.tuple [])) [some (.tape (k + 1)),none]/\Qd (.d (.str "a")) [some (.tape (k + 1)),none]/\Qd (.d (.int 0)) [some (.tape (k + 1)),none]:=fun _ _ _ =>
  ⟨flt _ trivial nofun,q _ ⟨by simp,trivial⟩ (qa3d fun x hx=>by simp at hx),flt _ (kn _ 'k') nofun,flt _ (ki _ 'o' 'o') nofun⟩
 cases d with
 | str x =>
  have hx:x.length <= c:=hf;rw [show isD "int" (.str x)=false from rfl];lia;rw [show isD "str" (.str x)=true from rfl];lia;have lz:(Str.ofString "z").length=1:=by decide +kernel
  have la:(x ++ Str.ofString "z").length=x.length + (Str.ofString "z").length:=by
   show(x.cps ++ _).size=_;rw [Array.size_append];rfl
  rw [show fAdd (.str x) (.str "z")=some (.str (x ++ Str.ofString "z")) from if_pos (show x.length + (Str.ofString "z").length <= sizeLine by omega),qa0r];lia;rw [fSlS_s 'o',qa0r];have ls:=Txt.slice_le x none (some (-1));generalize Txt.slice x none (some (-1))=y at ls;lia;refine⟨k,14,rfl,'d','o',fun r h0 h4=>?_⟩;lia;refine qa3w h0 (by simpa using h4) fun d' hd' _=>?_;lia;simp only [mem_cons,not_mem_nil,or_false] at hd';rcases hd' with rfl | rfl | rfl | rfl | rfl | rfl | rfl | rfl | rfl | rfl | rfl | rfl | rfl | rfl
  ·exact flt _ (kn _ 'k') nofun
  ·exact flt _ (kn _ 'k') nofun
  ·exact flt _ (show(x ++ Str.ofString "z").length <= c + 1 by omega) nofun
  ·exact flt _ (kn _ 'k') nofun
  ·exact flt _ (show y.length <= c + 1 by omega) nofun
  ·exact flt _ (kn _ 'k') nofun
  ·exact flt _ trivial nofun
  ·exact flt _ (ki _ 'o' 'o') nofun
  ·exact flt _ (kn _ 'k') nofun
  ·exact flt _ (kn _ 'k') nofun
  ·exact flt _ (kn _ 'k') nofun
  ·exact flt _ (kn _ 'k') nofun
  ·exact flt _ (kn _ 'k') nofun
  ·exact flt _ (kn _ 'k') nofun
 | tuple xs =>
  rw [show isD "int" (.tuple xs)=false from rfl];lia;rw [show isD "str" (.tuple xs)=false from rfl];lia;rw [show isD "tuple" (.tuple xs)=true from rfl];lia;obtain⟨h1,h2⟩:=hf;obtain⟨h0',rfl⟩:=hdp.pos;rw [qa9f (by simp;omega),qa0r];lia;refine⟨k,4,rfl,'d','o',fun r h0 h4=>?_⟩;lia;refine qa3w h0 (by simpa using h4) fun d' hd' _=>?_;lia;simp only [mem_cons,not_mem_nil,or_false] at hd';rcases hd' with rfl | rfl | rfl | rfl
  ·exact flt _ trivial nofun
  ·refine q _ ⟨by simp;omega,qa1f.app (h2.up 'o') ⟨ki _ 'o' 'o',trivial⟩⟩ (qa3d fun x hx=>?_)
   rcases mem_append.mp hx with hx | hx
   ·exact(qb1l hdp x hx).succ
   ·rw [mem_singleton.mp hx];exact qa9k nofun
  ·exact flt _ trivial nofun
  ·exact q _ ⟨by simp,⟨'o',h2.up 'o'⟩,trivial⟩ (qa3d fun x hx=>by rw [mem_singleton.mp hx];exact hdp)
 | int i =>
  obtain⟨i1,i2⟩:=hf;rw [show isD "int" (.int i)=true from rfl];lia;rw [show isD "bool" (.int i)=false from rfl];lia;rw [fStrI_i 'o' 'o',qa0r];lia;have ls:=qc2f (i:=i) 'o' 'o';refine⟨k,8,rfl,'d','o',fun r h0 h4=>?_⟩;lia;refine qa3w h0 (by simpa using h4) fun d' hd' _=>?_;lia;simp only [mem_cons,not_mem_nil,or_false] at hd';rcases hd' with rfl | rfl | rfl | rfl | rfl | rfl | rfl | rfl
  ·exact flt _ 'A' nofun
  ·exact flt _ 'A' nofun
  ·exact flt _ trivial nofun
  ·exact flt _ (show(Str.ofString (toString i)).length <= c + 1 by omega) nofun
  ·exact flt _ trivial nofun
  ·exact flt _ (ki _ 'o' 'o') nofun
  ·obtain⟨h0',rfl⟩:=hdp.pos
   exact q _ ⟨by simp,'A',trivial⟩ (qa3d fun x hx=>by rw [mem_singleton.mp hx];exact hdp)
  ·exact flt _ (ki _ 'o' 'o') nofun
 | bool b =>
  rw [show isD "int" (.bool b)=true from rfl];lia;rw [show isD "bool" (.bool b)=true from rfl];lia;rw [show isD "str" (.bool b)=false from rfl];lia;rw [show isD "tuple" (.bool b)=false from rfl];lia;refine⟨k,4,rfl,'d','o',fun r h0 h4=>?_⟩;lia;refine qa3w h0 (by simpa using h4) fun d' hd' _=>?_;lia;obtain⟨o1,o2,o3,o4⟩:=other rfl rfl rfl;simp only [mem_cons,not_mem_nil,or_false] at hd';rcases hd' with rfl | rfl | rfl | rfl<;>assumption
 | none =>
  rw [show isD "int" .none=false from rfl];lia;rw [show isD "str" .none=false from rfl];lia;rw [show isD "tuple" .none=false from rfl];lia;refine⟨k,4,rfl,'d','o',fun r h0 h4=>?_⟩;lia;refine qa3w h0 (by simpa using h4) fun d' hd' _=>?_;lia;obtain⟨o1,o2,o3,o4⟩:=other rfl rfl rfl;simp only [mem_cons,not_mem_nil,or_false] at hd';rcases hd' with rfl | rfl | rfl | rfl<;>assumption
 | list xs =>
  rw [show isD "int" (.list xs)=false from rfl];lia;rw [show isD "str" (.list xs)=false from rfl];lia;rw [show isD "tuple" (.list xs)=false from rfl];lia;refine⟨k,4,rfl,'d','o',fun r h0 h4=>?_⟩;lia;refine qa3w h0 (by simpa using h4) fun d' hd' _=>?_;lia;obtain⟨o1,o2,o3,o4⟩:=other rfl rfl rfl;simp only [mem_cons,not_mem_nil,or_false] at hd';rcases hd' with rfl | rfl | rfl | rfl<;>assumption
 | dict xs =>
  rw [show isD "int" (.dict xs)=false from rfl];lia;rw [show isD "str" (.dict xs)=false from rfl];lia;rw [show isD "tuple" (.dict xs)=false from rfl];lia;refine⟨k,4,rfl,'d','o',fun r h0 h4=>?_⟩;lia;refine qa3w h0 (by simpa using h4) fun d' hd' _=>?_;lia;obtain⟨o1,o2,o3,o4⟩:=other rfl rfl rfl;simp only [mem_cons,not_mem_nil,or_false] at hd';rcases hd' with rfl | rfl | rfl | rfl<;>assumption
abbrev qa5t:Stmt:=top 20
def qa8s:FnScope ["_law_tape","_law_thing","_law_way","_law_at"] ["_law_tape","_law_thing"] (qa0h qa5t):='a'
def ok_bent{f f1 f2:Addr}{fd fd1 fd2:FuncData} (F:FU K "_law_bent" qa5t f fd) (B:Bl mg) (qa0m:DNext K mg f1 fd1) (qa0u:GNext P w K mg base n f1 fd1)
  (qa5u:Def K mg "_law_bent_leaf" qa3y ["_law_tape","_law_thing"] f2 fd2) (qb3r:FO P w K mg base n f2 fd2 ["_law_tape","_law_thing"] qb8l)
  (qa3q:Def K mg "_law_bent" qa5t ["_law_tape","_law_thing"] f fd) {m:Nat} (qa7m:FO P w K mg base n f fd ["_law_tape","_law_thing"] (qb3q m)):FnOk P w K mg base CX0 (n + 1) f fd ["_law_tape","_law_thing"] (spD K (qb3q (m + 1))):=by
 refine F.dok qa8s (fun cdv A outer s H E hr ls Qd h=>?_) (fun ls Qd hq8=>by obtain⟨_,_,_,_,e,_⟩:=hq8;rw [e];rfl);obtain⟨k,c,h,d,rfl,hk,hdp,hm,hf,hc1,hc2,q⟩:=h;obtain⟨h,rfl⟩:=hdp.pos;refine⟨rfl,?_⟩;have sl:=sizeLine_eq;refine⟨_,(qa0d (qa1s (i:=2) qa8s.nd rfl 'f' (qa0g [true,false] qa0m qa0u hr rfl (qa0a (dv 0) 'w')))
  (qa0d (qa1h (DW.toT (qa2o (qa1d (qa0x (qa1z rfl B.isinstance_ rfl B.tuple_ qa1a rfl (dv 1)))) (qa2o (qa1i (qa2i hr.units) qa2h (qa1c qa1m qa3s rfl B.len_ qa2s 't') qa0f (qa0q _)) (qa3g (qa1i op_lt (qa4c _) (dv 2) qa0f (qa0q _))))))
  (qa0e (qa0k (qa0g [true,false] qa5u qb3r hr rfl (qa0a (dv 0) 't'))))
  qa0o)
  (qa0d (qa1s (i:=3) qa8s.nd rfl 'f' (qa0g [true,false] qa0m qa0u hr rfl (qa0a (dv 0) (qa0a (qa1c qa1m qa3s rfl B.len_ qa2s 't') qa0c))))
  (qa0d (qa1h (qa1i (qa2i hr.units) qa2h (dv 2) qa0f (qa0q _))
  (qa0e (qa0k (qa3n qa1o qa2y (qa3p (qa6q.or qa4e) qa6s (dv 1) qa4k (qa4l (dv 3))) (qa3p (qa6q.or qa4e) qa6s (dv 1) (qa4l (qa3n qa1o qa2y (dv 3) qa0f)) qa4k))))
  qa0o)
  (qa0d (qa1h (qa1i (qa2i hr.units) qa2h (dv 2) qa0f (qa0q _))
  (qa0e (qa0k (qa3n qa1o qa2y (qa3p (qa6q.or qa4e) qa6s (dv 1) qa4k (qa4l (qa3n qa1o qa2y (dv 3) qa0f))) (qa3p (qa6q.or qa4e) qa6s (dv 1) (qa4l (dv 3)) qa4k))))
  qa0o)
  (qa0d (qa1h (qa1i (qa2i hr.units) qa2h (dv 2) qa0f (qa0q _))
  (qa0e (qa0k (qa3n qa1o qa2y (qa3p (qa6q.or qa4e) qa6s (dv 1) (qa4l (dv 3)) qa4k) (qa3p (qa6q.or qa4e) qa6s (dv 1) qa4k (qa4l (dv 3))))))
  qa0o)
  (qa0e (qa0k (qa3n qa1o qa2y (qa3n qa1o qa2y (qa3p (qa6q.or qa4e) qa6s (dv 1) qa4k (qa4l (dv 3))) (qa0t (qa0a (qa0g [true,false] qa3q qa7m hr rfl (qa0a (dv 0) (qa0a (qa2b qa1k qa2c (dv 1) (dv 3) 'i') qa0c))) qa0c))) (qa3p (qa6q.or qa4e) qa6s (dv 1) (qa4l (qa3n qa1o qa2y (dv 3) qa0f)) qa4k)))))))))),?_⟩
 lia;refine⟨k,10,rfl,'d','o',fun r h0 h1=>?_⟩;lia;have fin:∀ d':PyData,Fn (c + 1) d'->Dp (h + 1 + 1) d'->Qd (.d d') [some (.tape (k + 2)),none]:=fun d' hd' h2=>q d' (k + 2) 'o' hd' h2;by_cases hk1:∃ xs,d=.tuple xs
 ·obtain⟨xs,rfl⟩:=hk1
  obtain⟨hxl,hxs⟩:=hf;rw [show isD "tuple" (.tuple xs)=true from rfl];lia;refine qa1y (fun c1=>?_) (fun c1=>?_)
  ·lia
   exact⟨k + 1,c,h + 1,.tuple xs,rfl,'o',hdp,⟨hxl,hxs⟩,hc1,hc2,fun d' hd' h2=>fin d' hd' h2⟩
  ·refine qa1y (fun c2=>?_) (fun c2=>?_)
   ·lia
    exact⟨k + 1,c,h + 1,.tuple xs,rfl,'o',hdp,⟨hxl,hxs⟩,hc1,hc2,fun d' hd' h2=>fin d' hd' h2⟩
   ·lia
    refine⟨k + 1,_,rfl,'o','o',fun r2 h2 h3=>?_⟩;obtain⟨i,rfl⟩:∃ i:Nat,r2=(i:Int):=⟨r2.toNat,'o'⟩;have hi:i < xs.length:=by omega
    have fall:∀ ys:List PyData,(∀ x ∈ ys,x ∈ xs)->qa1f (c + 1) ys:=fun ys hy=>qa1f.of fun x hx=>(hxs.mem x (hy x hx)).up 'o';have dall:∀ ys zs:List PyData,(∀ x ∈ ys,x ∈ xs)->(∀ x ∈ zs,x ∈ xs)->Dp (h + 1 + 1) (.tuple (ys ++ zs)):=fun ys zs h1 h2=>qa3d fun x hx=>(qb1l hdp x ((mem_append.mp hx).elim (h1 x) (h2 x))).succ;have e1:(i:Int) + 1=((i + 1:Nat):Int):=by omega
    have lt:(xs.take i).length=i:=by rw [length_take];omega
    have lt1:(xs.take (i + 1)).length=i + 1:=by rw [length_take];omega
    have ld:(xs.drop i).length=xs.length - i:=length_drop;have ld1:(xs.drop (i + 1)).length=xs.length - (i + 1):=length_drop;lia;refine qa1y (fun c3=>?_) (fun c3=>?_)
    ·lia
     rw [qb0k 'o',e1,qb0l 'o',qa9f 'o',qa0r];lia;exact fin _ ⟨by rw [length_append];omega,qa1f.app (fall _ fun x hx=>mem_of_mem_take hx) (fall _ fun x hx=>mem_of_mem_drop hx)⟩ (dall _ _ (fun x hx=>mem_of_mem_take hx) fun x hx=>mem_of_mem_drop hx)
    ·lia
     refine qa1y (fun c4=>?_) (fun c4=>?_)
     ·lia
      rw [e1,qb0k 'o',qb0l 'o',qa9f 'o',qa0r];lia;exact fin _ ⟨by rw [length_append];omega,qa1f.app (fall _ fun x hx=>mem_of_mem_take hx) (fall _ fun x hx=>mem_of_mem_drop hx)⟩ (dall _ _ (fun x hx=>mem_of_mem_take hx) fun x hx=>mem_of_mem_drop hx)
     ·lia
      refine qa1y (fun c5=>?_) (fun c5=>?_)
      ·lia
       rw [qb0l 'o',qb0k 'o',qa9f 'o',qa0r];lia;exact fin _ ⟨by rw [length_append];omega,qa1f.app (fall _ fun x hx=>mem_of_mem_drop hx) (fall _ fun x hx=>mem_of_mem_take hx)⟩ (dall _ _ (fun x hx=>mem_of_mem_drop hx) fun x hx=>mem_of_mem_take hx)
      ·lia
       refine qa3w h2 h3 fun y hy hyi=>?_;refine⟨k + 2,c,h,y,rfl,'o',qb1l hdp y hy,'o',hxs.mem y hy,hc1,hc2,fun d' k' hk' hd' hdp'=>?_⟩;lia;rw [qb0k 'o',e1,qb0l 'o',qa9f (by simp;omega),qa0r,qa9f (by simp;omega),qa0r];lia;refine q _ k' 'o' ⟨by simp;omega,qa1f.app (qa1f.app (fall _ fun x hx=>mem_of_mem_take hx) ⟨hd',trivial⟩) (fall _ fun x hx=>mem_of_mem_drop hx)⟩ (qa3d fun x hx=>?_);rcases mem_append.mp hx with hx | hx
       ·rcases mem_append.mp hx with hx | hx
        ·exact(qb1l hdp x (mem_of_mem_take hx)).succ
        ·rw [mem_singleton.mp hx];exact hdp'
       ·exact(qb1l hdp x (mem_of_mem_drop hx)).succ
 ·have hnt:isD "tuple" d=false:=by
   cases d with
   | tuple xs=>exact absurd ⟨xs,rfl⟩ hk1
   | _=>rfl
  rw [hnt];lia;exact⟨k + 1,c,h + 1,d,rfl,'o',hdp,hf,hc1,hc2,fun d' hd' h2=>fin d' hd' h2⟩
def Parts.flat{m:Nat}{tss:List 'j'}(h:Parts m tss):tss.flatten.Perm ((List.range m).map fun p:Nat=>(p:Int)):=by
 refine(List.perm_ext_iff_of_nodup h.nd ?_).mpr fun x=>?_
 ·exact pairwise_map.mpr (List.pairwise_lt_range.imp fun h=>by omega)
 ·rw [List.mem_flatten,mem_map]
  constructor
  ·rintro⟨t,ht,hx⟩
   have:=(h.inr t ht).1 x hx;exact⟨x.toNat,mem_range.mpr 'o','o'⟩
  ·rintro⟨p,hp,rfl⟩
   obtain⟨t,ht,hx⟩:=h.cov p (mem_range.mp hp);exact⟨t,ht,hx⟩
def Parts.sflat{m:Nat}{tss:List 'j'}(h:Parts m tss):Sx.srtI tss.flatten=(List.range m).map fun p:Nat=>(p:Int):=
 (Sx.qb1w h.flat.symm (pairwise_map.mpr (List.pairwise_lt_range.imp fun h=>by omega))).symm
def qb8m{m:Nat}{t:List Int}(h:InR m t):ptsD m (encT t)=true:=by
 refine(qb2s t (-1)).mpr ⟨pairwise_cons.mpr ⟨fun x hx=>?_,h.2.2⟩,fun x hx=>(h.1 x hx).2⟩;have:=(h.1 x hx).1;omega
def qc2o(t:List Int):intsOf (encT t)=t:=by
 show(t.map PyData.int).map intOf=t;rw [map_map];exact List.map_id'' (fun _=>rfl) t
def qb9g(tss:List 'j'):(tss.map encT).map intsOf=tss:=by
 rw [map_map];exact List.map_id'' qc2o tss
def qc2p{m:Nat}{tss:List 'j'}(h:Parts m tss):qa3c m (.tuple (tss.map encT))=true:=by
 show(((tss.map encT).all fun p=>ptsD m p && neD p) && (decide (Sx.srtI ((tss.map encT).map intsOf).flatten=qa4m m) && decide (Sx.srtT ((tss.map encT).map intsOf)=(tss.map encT).map intsOf)))=true;rw [qb9g,decide_eq_true (show Sx.srtI tss.flatten=qa4m m from h.sflat),decide_eq_true h.srt,Bool.and_self,Bool.and_true];refine all_eq_true.mpr fun p hp=>?_;obtain⟨t,ht,rfl⟩:=mem_map.mp hp;rw [qb8m (h.inr t ht),Bool.true_and];have:=h.ne t ht;cases t with
 | nil=>exact absurd rfl this
 | cons _ _=>rfl
def qc7y{ss:List Str}{a b c:Str}(h:ss.Sublist [a,b,c])(ho:∀ z ∈ [a,b,c],qa0s z=true)(hp:([a,b,c]:List Str).Pairwise fun a b=>¬ Sx.leS b a):rise "" (ss.map .str)=true:=by
 have hs:∀ z ∈ ss,qa0s z=true:=fun z hz=>ho z (h.subset hz);exact(qb2r ss "" hs).mpr (pairwise_cons.mpr ⟨fun y hy=>nil_le (hs y hy),hp.sublist h⟩)
def qb5n{α:Type}{fs:List (Str × α)}{g:Str × α->PyData}{k:α->PyData}(hg:∀ f,g f=.tuple [.str f.1,k f.2]){a b c:Str}(h:(fs.map (·.1)).Sublist [a,b,c])(ho:∀ z ∈ [a,b,c],qa0s z=true)(hp:([a,b,c]:List Str).Pairwise fun a b=>¬ Sx.leS b a):named (.tuple (fs.map g))=true:=by
 show((fs.map g).all qa3b && rise "" ((fs.map g).map hdD))=true;have e1:(fs.map g).all qa3b=true:=all_eq_true.mpr fun p hp=>by
  obtain⟨f,hf,rfl⟩:=mem_map.mp hp;rw [hg];rfl
 have e2:(fs.map g).map hdD=(fs.map (·.1)).map .str:=by
  rw [map_map,map_map];exact List.map_congr_left fun f _=>by show hdD (g f)=_;rw [hg];rfl
 rw [e1,e2,qc7y h ho hp];rfl
def nF:∀ z ∈ (["p","pq","q"]:List Str),qa0s z=true:=by decide +kernel
def nS:∀ z ∈ (["a","ab","b"]:List Str),qa0s z=true:=by decide +kernel
instance (a b:Str):Decidable (Sx.leS a b):=inferInstanceAs (Decidable (a.cps.toList <= b.cps.toList))
def pF:(["p","pq","q"]:List Str).Pairwise fun a b=>¬ Sx.leS b a:=by decide +kernel
def pS:(["a","ab","b"]:List Str).Pairwise fun a b=>¬ Sx.leS b a:=by decide +kernel
def qc2q{W:Wd}(g:Good W):qa4g W.enc=true:=by
 have hm:(W.moves.map encT).length=W.many:=by rw [length_map,g.mv]
 show(!(W.moves.map encT).isEmpty && ((W.moves.map encT).all (ptsD (W.moves.map encT).length) && (qa3u (W.moves.map encT).length (.tuple (W.facts.map encF)) && qa3i (W.moves.map encT).length (.tuple (W.sights.map encS)))))=true;rw [hm];have h0:(W.moves.map encT).isEmpty=false:=by
  cases h:W.moves.map encT with
  | nil=>rw [h] at hm;have:=g.m1;simp at hm;omega
  | cons _ _=>rfl
 have h1:(W.moves.map encT).all (ptsD W.many)=true:=all_eq_true.mpr fun p hp=>by
  obtain⟨t,ht,rfl⟩:=mem_map.mp hp;exact qb8m (g.mr t ht)
 have h2:qa3u W.many (.tuple (W.facts.map encF))=true:=by
  show(named (.tuple (W.facts.map encF)) && (W.facts.map encF).all fun p=>ptsD W.many (sndD p))=true;rw [qb5n (k:=encT) (fun f=>rfl) g.fn nF pF,Bool.true_and];refine all_eq_true.mpr fun p hp=>?_;obtain⟨t,ht,rfl⟩:=mem_map.mp hp;exact qb8m (g.fr t ht)
 have h3:qa3i W.many (.tuple (W.sights.map encS))=true:=by
  show(named (.tuple (W.sights.map encS)) && (W.sights.map encS).all fun p=>qa3c W.many (sndD p))=true;rw [qb5n (k:=fun s=>.tuple (s.map encT)) (fun f=>rfl) g.sn nS pS,Bool.true_and];refine all_eq_true.mpr fun p hp=>?_;obtain⟨t,ht,rfl⟩:=mem_map.mp hp;exact qc2p (g.sr t ht)
 rw [h0,h1,h2,h3];rfl
def fn_T{m:Nat}{t:List Int}(h:InR m t)(hm:m <= 60):Fn 60 (encT t):=by
 refine⟨by rw [length_map];have:=h.2.1;omega,qa1f.of fun x hx=>?_⟩;obtain⟨i,hi,rfl⟩:=mem_map.mp hx;have:=h.1 i hi;exact 'A'
def dp_T{t:List Int}{h:Nat}:Dp (h + 2) (encT t):=qa3d fun x hx=>by
 obtain⟨i,hi,rfl⟩:=mem_map.mp hx;exact qa9k nofun
def short3{ss:List Str}{a b c:Str}(h:ss.Sublist [a,b,c]):ss.length <= 3:=h.length_le
def name60{ss:List Str}{l:List Str}(h:ss.Sublist l)(ho:∀ z ∈ l,qa0s z=true){z:Str}(hz:z ∈ ss):Fn 60 (.str z):=by
 have:=ho z (h.subset hz);unfold qa0s at this;simp only [and_eq_true,decide_eq_true_eq] at this;exact le_trans this.1.2 'd'
def fn_W{W:Wd}(g:Good W):Fn 60 W.enc:=by
 have lf:=short3 g.fn;have ls:=short3 g.sn;rw [length_map] at lf ls;have hm:=g.m2;refine⟨by simp,⟨by rw [length_map];omega,qa1f.of fun x hx=>?_⟩,⟨by rw [length_map,g.mv];omega,qa1f.of fun x hx=>?_⟩,⟨by rw [length_map];omega,qa1f.of fun x hx=>?_⟩,trivial⟩
 ·obtain⟨f,hf,rfl⟩:=mem_map.mp hx
  exact⟨by simp,name60 g.fn nF (mem_map.mpr ⟨f,hf,rfl⟩),fn_T (g.fr f hf) hm,trivial⟩
 ·obtain⟨f,hf,rfl⟩:=mem_map.mp hx
  exact fn_T (g.mr f hf) hm
 ·obtain⟨f,hf,rfl⟩:=mem_map.mp hx
  have hp:=g.sr f hf;refine⟨by simp,name60 g.sn nS (mem_map.mpr ⟨f,hf,rfl⟩),⟨by rw [length_map];have:=hp.len;omega,qa1f.of fun x hx=>?_⟩,trivial⟩;obtain⟨t,ht,rfl⟩:=mem_map.mp hx;exact fn_T (hp.inr t ht) hm
def dp_W(W:Wd):Dp 6 W.enc:=by
 refine qa3d fun x hx=>?_;simp only [mem_cons,not_mem_nil,or_false] at hx;rcases hx with rfl | rfl | rfl
 ·refine qa3d fun x hx=>?_
  obtain⟨f,hf,rfl⟩:=mem_map.mp hx;refine qa3d fun x hx=>?_;simp only [mem_cons,not_mem_nil,or_false] at hx;rcases hx with rfl | rfl
  ·exact qa9k nofun
  ·exact dp_T
 ·refine qa3d fun x hx=>?_
  obtain⟨f,hf,rfl⟩:=mem_map.mp hx;exact dp_T
 ·refine qa3d fun x hx=>?_
  obtain⟨f,hf,rfl⟩:=mem_map.mp hx;refine qa3d fun x hx=>?_;simp only [mem_cons,not_mem_nil,or_false] at hx;rcases hx with rfl | rfl
  ·exact qa9k nofun
  ·refine qa3d fun x hx=>?_
   obtain⟨t,ht,rfl⟩:=mem_map.mp hx;exact dp_T
def qb1m(bs:List Bool):SeqAt.shaped (.list (bs.map .bool))=true:=by
 have h1:PyData.canLayAll0 (bs.map .bool)=true:=by
  induction bs with
  | nil=>rfl
  | cons s r ih=>simp [PyData.canLayAll0,PyData.canLay0,ih]
 have h2:PyData.depthAll (bs.map .bool)=0:=by
  clear h1;induction bs with
  | nil=>rfl
  | cons s r ih=>simp [PyData.depthAll,PyData.depth,ih]
 simp [SeqAt.shaped,PyData.canLay0,h1,PyData.depth,h2]
def eqv_bs:∀ bs:List Bool,PyData.eqvAll (bs.map .bool) (bs.map .bool)=true
 | []=>rfl
 | b :: r=>by
  show PyData.eqvAll (.bool b :: r.map .bool) (.bool b :: r.map .bool)=true;rw [PyData.eqvAll,eqv_bs r];cases b<;>rfl
def eqA_bs(bs:List Bool):fEqA false (.list (bs.map .bool)) (.list (bs.map .bool))=some (.bool true):=by
 show fEq false _ _=_;unfold fEq;rw [if_pos ⟨qb1m bs,qb1m bs⟩];show some (PyData.bool (PyData.eqv _ _))=_;rw [PyData.eqv,eqv_bs]
def usS{α:Type}{us:List α}{n:Nat}(h:us.length=n + 1):∃ a r,us=a :: r/\r.length=n:=by
 cases us with
 | nil=>cases h
 | cons a r=>exact⟨a,r,rfl,Nat.succ.inj h⟩
def qb9h{c:Prop}[Decidable c]{A:Prop}{t:TDS}{D:DEnds}{q:Rho}(J:Rho->Prop)(h1:c->(∀ ρ,J ρ->later t D ρ)->A)(h2:¬ c->J q)(hF:∀ ρ,J ρ->later t D ρ):if decide c=true then A else later t D q:=by
 by_cases h:c
 ·rw [if_pos (decide_eq_true h)];exact h1 h hF
 ·rw [if_neg (by rw [decide_eq_false h];exact Bool.false_ne_true)];exact hF _ (h2 h)
abbrev qa7n:Stmt:=top 26
def qa5v:FnScope ["_law_script","_law_tape","_law_k","_law_world_here","_law_turn","_law_bent_here","_law_told","_law_some_here"] ["_law_script"] (qa0h qa7n):='a'
def ok_law{f f1 f2 f3 f4 f5:Addr}{fd fd1 fd2 fd3 fd4 fd5:FuncData} (F:FU K "law" qa7n f fd) (B:Bl mg) (qa0m:DNext K mg f1 fd1) (qa0u:GNext P w K mg base n f1 fd1)
  (qa8t:Def K mg "_law_world" qa6m ["_law_tape","_law_most"] f2 fd2) (qb9i:FO P w K mg base n f2 fd2 ["_law_tape","_law_most"] qb4h)
  (qa3q:Def K mg "_law_bent" qa5t ["_law_tape","_law_thing"] f3 fd3) (qa7m:FO P w K mg base n f3 fd3 ["_law_tape","_law_thing"] (qb3q 8))
  (d_is_world:Def K mg "is_world" qa7l ["thing"] f4 fd4) (g_is_world:FO P w K mg base n f4 fd4 ["thing"] qa5f)
  (qa3j:Def K mg "_law_is_world" qa4o ["_law_thing"] f5 fd5) (qa6h:FO P w K mg base n f5 fd5 ["_law_thing"] qa5f):FnOk P w K mg base CX0 (n + 1) f fd ["_law_script"] (spLaw K):=by
 refine F.law qa5v (fun cdv A outer s H E hr=>?_);have sl:=sizeLine_eq;refine⟨_,_,rfl,qa7s (i:=1) qa5v.nd rfl 'f' (pe_lst (qa2j (pv 0) (qa2j qa1r qa4q))),_,(qa0d (qa5o PassesOwn.never rfl (qa5b rfl B.range_ qa0f) (qa0p (i:=2) qa5v.nd rfl 'f')
  (qa0d (qa1s (i:=3) qa5v.nd rfl 'f' (qa0g [true,false] qa8t qb9i hr rfl (qa0a (dv 1) (qa0a (qa2b qa1k qa2c (qa1e (qa3f (qa0a qa0f (qa0a qa0f 'w')))) (dv 2) 'i') qa0c))))
  (qa0d (qa1h (DW.toT (qa2o (qa1d (qa0x (qa0g [false] qa3j qa6h hr rfl (qa0a (dv 3) qa0c)))) (qa3g (qa1i op_notB ad_notB (qa0g [false] d_is_world g_is_world hr rfl (qa0a (dv 3) qa0c)) qa1j (qa0q _)))))
  's'
  qa0o)
  (qa0e (qa5o PassesOwn.never rfl (qa5b rfl B.range_ qa0f) (qa0p (i:=4) qa5v.nd rfl 'f')
  (qa0d (qa1s (i:=5) qa5v.nd rfl 'f' (qa0g [true,false] qa3q qa7m hr rfl (qa0a (dv 1) (qa0a (dv 3) qa0c))))
  (qa0d (qa1h (qa1i (qa2i hr.units) qa2h (qa0g [true,false] qa0m qa0u hr rfl (qa0a (dv 1) 'w')) qa0f (qa0q _))
  (qa0e (qa1s (i:=5) qa5v.nd rfl 'f' (qa0g [true,false] qa3q qa7m hr rfl (qa0a (dv 1) (qa0a (dv 5) qa0c)))))
  qa0o)
  (qa0d (qa1s (i:=6) qa5v.nd rfl 'f' (qa0g [false] d_is_world g_is_world hr rfl (qa0a (dv 5) qa0c)))
  (qa0e (qa1h (DW.toT (qa2o (qa1d (qa0x (qa1z rfl B.isinstance_ rfl B.bool_ qb1r rfl (dv 6)))) (qa3g (qa1i (qb3g hr.units) qb3f (dv 6) (qa0g [false] qa3j qa6h hr rfl (qa0a (dv 5) qa0c)) (qa0q _)))))
  's'
  qa0o))))))))))
  (qa0d (qa1s (i:=7) qa5v.nd rfl 'f' (qa1e (qa3f (qa0a qb0u (qa0a qa0f (qa0a qa1l (qa0a 'z' (qa0a (qa1e (qa3f qa0c)) (qa0a (qa0t (qa0a 'z' (qa0a 'z' (qa0a 'z' qa0c)))) (qa0a (qa0t (qa0a 'z' (qa0a (qa0t (qa0a 'z' qa0c)) (qa0a 'z' qa0c)))) (qa0a de_nilD (qa0a (qa0t (qa0a 'z' (qa0a (qa1e (qa3f (qa0a 'z' qa0c))) (qa0a 'z' qa0c)))) (qa0a (qa0t (qa0a 'z' (qa0a (qa0t (qa0a (qa0t 'w') qa0c)) (qa0a 'z' qa0c)))) (qa0a (qa0t (qa0a 'z' (qa0a (qa0t (qa0a 'z' qa0c)) qa0c))) qa0c))))))))))))))
  (qa0e (qa0k (qa4b (qa2i hr.units) qa2h (qa1e (qa1x ["_law_one"] [] rfl (by rfl) 'k' (qa1t (dv 7)) 'x' 'v' (fun _ _ _=>(qa0g [false] d_is_world g_is_world hr rfl 'u')))) (qa1e (qa1x ["_law_one"] [] rfl (by rfl) 'k' (qa1t (dv 7)) 'x' 'v' (fun _ _ _=>(qa0g [false] qa3j qa6h hr rfl 'u')))) (qa0q _)))))),?_⟩
 lia;refine⟨⟨'d','d'⟩,?_⟩;refine qa3o (fun i ρ=>∃ (k:Nat) (v2 v3 v4 v5 v6:Option L),ρ=[some .scr,some (.tape k),v2,v3,v4,v5,v6,none]/\k <= 6000 * i/\i <= 3) ⟨0,none,none,none,none,none,rfl,'o','o'⟩ ?_ ?_
 ·rintro i u ρ N hu ⟨k,v2,v3,v4,v5,v6,rfl,hk,hi⟩ hN
  obtain⟨hi2,rfl⟩:=rngI hu;lia;refine qa3w 'o' (by simp;omega) fun z hz _=>?_;obtain⟨most,rfl,hm1,hm2⟩:∃ most:Nat,z=.int (most:Int)/\1 <= most/\most <= 60:=by
   simp only [mem_cons,not_mem_nil,or_false] at hz;rcases hz with rfl | rfl | rfl
   ·exact⟨9,rfl,'d','d'⟩
   ·exact⟨3,rfl,'d','d'⟩
   ·exact⟨60,rfl,'d','d'⟩
  refine⟨k,most,rfl,hm1,hm2,'o',fun W k1 hk1 g hmW=>?_⟩;have hfn:=fn_W g;have hwg:=qc2q g;have hG:G W.enc:=hfn.up 'd';have hdp:=dp_W W;generalize W.enc=we at hfn hwg hG hdp;lia;refine⟨we,rfl,hG,?_⟩;rw [hwg];lia;refine⟨we,rfl,hG,?_⟩;rw [hwg];lia;refine qa1n (a:=PyData.bool false) rfl ?_;lia;refine⟨⟨'d','d'⟩,?_⟩;refine qa3o (fun j ρ=>∃ (k2:Nat) (v4 v5 v6:Option L),ρ=[some .scr,some (.tape k2),some (.d (.int (i:Int))),some (.d we),v4,v5,v6,none]/\k2 <= k1 + 60 * j/\j <= 12) ⟨k1,v4,v5,v6,rfl,'o','o'⟩ ?_ ?_
  ·rintro j u2 ρ N2 hu2 ⟨k2,v4,v5,v6,rfl,hk2,hj⟩ hN2
   obtain⟨hj2,rfl⟩:=rngI hu2;lia;refine⟨k2,60,6,we,rfl,'o',hdp,'o',hfn,'o','o',fun d1 k3 hk3 hf1 hd1=>?_⟩;lia;refine⟨k3,4,rfl,'d','o',fun r0 g0 g1=>?_⟩;lia;refine qb9h (fun ρ=>∃ (k4:Nat) (d2:PyData),ρ=[some .scr,some (.tape k4),some (.d (.int (i:Int))),some (.d we),some (.d (.int (j:Int))),some (.d d2),v6,none]/\k4 <= k3 + 30/\G d2) (fun c fin=>?_) (fun c=>⟨k3 + 1,d1,rfl,'o',hf1.up 'd'⟩) ?_
   ·refine⟨k3 + 1,61,7,d1,rfl,'o',hd1,'o',hf1,'o','o',fun d2 k4 hk4 hf2 hd2=>?_⟩
    walk_at "d1";exact fin _ ⟨k4,d2,rfl,'o',hf2⟩
   rintro ρ ⟨k4,d2,rfl,hk4,hg2⟩;lia;refine⟨d2,rfl,hg2,?_⟩;lia;rw [show isD "bool" (.bool (qa4g d2))=true from rfl];lia;refine⟨d2,rfl,hg2,?_⟩;lia;rw [if_neg 'e'];exact hN2 _ ⟨k4,_,_,_,rfl,'o','o'⟩
  ·rintro ρ ⟨k2,v4,v5,v6,rfl,hk2,_⟩
   rw [qa5d] at hk2;exact hN _ ⟨k2,_,_,_,_,_,rfl,'o','o'⟩
 ·rintro ρ ⟨k,v2,v3,v4,v5,v6,rfl,hk,_⟩
  lia;have hL:∀ d ∈ ([.none,.int 0,.str "",.tuple [],.list [],.tuple [.tuple [],.tuple [],.tuple []],.tuple [.tuple [],.tuple [.tuple []],.tuple []],.dict [],.tuple [.tuple [],.list [.tuple []],.tuple []],.tuple [.tuple [],.tuple [.tuple [.int 0]],.tuple []],.tuple [.tuple [],.tuple [.tuple []]]]:List PyData),G d:=by
   intro d hd;simp only [mem_cons,not_mem_nil,or_false] at hd;have s0:Fn 62 (.str ""):=show(Str.ofString "").length <= 62 by decide +kernel
   rcases hd with rfl | rfl | rfl | rfl | rfl | rfl | rfl | rfl | rfl | rfl | rfl
   ·exact trivial
   ·exact⟨'d','d'⟩
   ·exact s0
   all_goals simp [G,Fn,qa1f]
  generalize ([.none,.int 0,.str "",.tuple [],.list [],.tuple [.tuple [],.tuple [],.tuple []],.tuple [.tuple [],.tuple [.tuple []],.tuple []],.dict [],.tuple [.tuple [],.list [.tuple []],.tuple []],.tuple [.tuple [],.tuple [.tuple [.int 0]],.tuple []],.tuple [.tuple [],.tuple [.tuple []]]]:List PyData)=ds at hL ⊢;refine L2.qa1v (fun ρ=>∃ v0:Option L,ρ=[v0]) (fun p=>some (.bool (qa4g p))) ⟨_,rfl⟩ ?_ ?_
  ·rintro y ρ N hy ⟨v0,rfl⟩ hN
   lia;refine⟨y,rfl,hL y hy,?_⟩;lia;exact hN _ ⟨_,rfl⟩
  rintro ρ _;refine L2.qa1v (fun ρ=>∃ v0:Option L,ρ=[v0]) (fun p=>some (.bool (qa4g p))) ⟨_,rfl⟩ ?_ ?_
  ·rintro y ρ N hy ⟨v0,rfl⟩ hN
   lia;refine⟨y,rfl,hL y hy,?_⟩;lia;exact hN _ ⟨_,rfl⟩
  rintro ρ _;rw [qb0f];refine qa1n (eqA_bs _) ?_;rfl
def Lies(K:W.Frag)(x:Str)(st:Stmt)(ps:List Str):Prop:=∃ f fd,Fun K x x st f fd/\W.nsIn K mainGlobals x=some (some (.ref f))/\Binds K fd ps []
abbrev fnX(x:Str)(st:Stmt)(kV dc pm:Value)(an:Option Addr)(cd ct:Value):FuncData:=W.fnOf x x (qa5y st) (qa3v st) (qa0h st) .none kV dc pm an cd ct
def qa4i{K:W.Frag}{x:Str}{st:Stmt}{ps:List Str}{f:Addr}{od an:Option Addr}{sl:Array (Option Value)}{oc kV dc pm cd ct:Value}
  (a:W.nsIn K mainGlobals x=some (some (.ref f))) (l:K.lookup f=some ⟨oc,od,.func (fnX x st kV dc pm an cd ct),sl⟩) (c:W.codeIn K cd x=true) (k:W.keepIn K (.ref f)=true) (hp:ps.length=1)
  (b:∀ (kV dc pm:Value) (an:Option Addr) (cd ct a0:Value),bindArgs (fnX x st kV dc pm an cd ct) ⟨[a0],[]⟩=pure (ps.zip [a0])):Lies K x st ps:=⟨f,_,qa7v l c k,a,(qa7v l c k).binds fun kV dc pm an cd ct us hl=>by
  rw [hp] at hl;obtain⟨a0,u0,rfl,h0⟩:=usS hl;obtain rfl:=eq_nil_of_length_eq_zero h0;exact b kV dc pm an cd ct a0⟩
def qa2m{K:W.Frag}{x:Str}{st:Stmt}{ps:List Str}{f:Addr}{od an:Option Addr}{sl:Array (Option Value)}{oc kV dc pm cd ct:Value}
  (a:W.nsIn K mainGlobals x=some (some (.ref f))) (l:K.lookup f=some ⟨oc,od,.func (fnX x st kV dc pm an cd ct),sl⟩) (c:W.codeIn K cd x=true) (k:W.keepIn K (.ref f)=true) (hp:ps.length=2)
  (b:∀ (kV dc pm:Value) (an:Option Addr) (cd ct a0 a1:Value),bindArgs (fnX x st kV dc pm an cd ct) ⟨[a0,a1],[]⟩=pure (ps.zip [a0,a1])):Lies K x st ps:=⟨f,_,qa7v l c k,a,(qa7v l c k).binds fun kV dc pm an cd ct us hl=>by
  rw [hp] at hl;obtain⟨a0,u0,rfl,h0⟩:=usS hl;obtain⟨a1,u1,rfl,h1⟩:=usS h0;obtain rfl:=eq_nil_of_length_eq_zero h1;exact b kV dc pm an cd ct a0 a1⟩
def qb8n{K:W.Frag}{x:Str}{st:Stmt}{ps:List Str}{f:Addr}{od an:Option Addr}{sl:Array (Option Value)}{oc kV dc pm cd ct:Value}
  (a:W.nsIn K mainGlobals x=some (some (.ref f))) (l:K.lookup f=some ⟨oc,od,.func (fnX x st kV dc pm an cd ct),sl⟩) (c:W.codeIn K cd x=true) (k:W.keepIn K (.ref f)=true) (hp:ps.length=3)
  (b:∀ (kV dc pm:Value) (an:Option Addr) (cd ct a0 a1 a2:Value),bindArgs (fnX x st kV dc pm an cd ct) ⟨[a0,a1,a2],[]⟩=pure (ps.zip [a0,a1,a2])):Lies K x st ps:=⟨f,_,qa7v l c k,a,(qa7v l c k).binds fun kV dc pm an cd ct us hl=>by
  rw [hp] at hl;obtain⟨a0,u0,rfl,h0⟩:=usS hl;obtain⟨a1,u1,rfl,h1⟩:=usS h0;obtain⟨a2,u2,rfl,h2⟩:=usS h1;obtain rfl:=eq_nil_of_length_eq_zero h2;exact b kV dc pm an cd ct a0 a1 a2⟩
def all_mk{P:Program}{w:World}{K:W.Frag}{h:Heap}{mg:Str->Option Value}{fa:Addr}(X:K.In h)(G:h.Ns mainGlobals mg) (hfa:mg "law" = some (.ref fa))
  (h_is_whole:Lies K "is_whole" qa7h ["thing"])
  (h_is_name:Lies K "is_name" qa8i ["thing"])
  (h_are_rising_names:Lies K "are_rising_names" qa3a ["things"])
  (h_is_world:Lies K "is_world" qa7l ["thing"])
  (h_is_points:Lies K "is_points" qa3x ["thing","many"])
  (h_is_parts:Lies K "is_parts" qa7i ["thing","many"])
  (h_is_named:Lies K "is_named" qa5q ["thing"])
  (h_is_facts:Lies K "is_facts" qa7k ["thing","many"])
  (h_is_sights:Lies K "is_sights" qa6o ["thing","many"])
  (h_law_cell_at:Lies K "_law_cell_at" qa3t ["_law_script","_law_k"])
  (h_law_by:Lies K "_law_by" qb0c ["_law_script","_law_k","_law_many"])
  (h_law_next:Lies K "_law_next" qa7e ["_law_tape","_law_many"])
  (h_law_some:Lies K "_law_some" qa7f ["_law_tape","_law_many","_law_few"])
  (h_law_parts:Lies K "_law_parts" qa6l ["_law_tape","_law_many"])
  (h_law_world:Lies K "_law_world" qa6m ["_law_tape","_law_most"])
  (h_law_bent_leaf:Lies K "_law_bent_leaf" qa3y ["_law_tape","_law_thing"])
  (h_law_bent:Lies K "_law_bent" qa5t ["_law_tape","_law_thing"])
  (h_law_named:Lies K "_law_named" qa6n ["_law_thing"])
  (h_law_row:Lies K "_law_row" qa6w ["_law_thing","_law_many"])
  (h_law_by_names:Lies K "_law_by_names" qa4n ["_law_thing"])
  (h_law_parted:Lies K "_law_parted" qa5s ["_law_thing","_law_many"])
  (h_law_is_world:Lies K "_law_is_world" qa4o ["_law_thing"])
  {f_law:Addr} {od_law an_law:Option Addr} {sl_law:Array (Option Value)} {oc_law kV_law dc_law pm_law cd_law ct_law:Value}
  (a_law:W.nsIn K mainGlobals "law" = some (some (.ref f_law))) (l_law:K.lookup f_law=some ⟨oc_law,od_law,.func (W.fnOf "law" "law" (qa5y qa7n) (qa3v qa7n) (qa0h qa7n) .none kV_law dc_law pm_law an_law cd_law ct_law),sl_law⟩) (c_law:W.codeIn K cd_law "law" = true) (k_law:W.keepIn K (.ref f_law)=true)
  (z_len:W.nsIn K mainGlobals "len" = some none)
  (z_range:W.nsIn K mainGlobals "range" = some none)
  (z_tuple:W.nsIn K mainGlobals "tuple" = some none)
  (z_bool:W.nsIn K mainGlobals "bool" = some none)
  (z_isinstance:W.nsIn K mainGlobals "isinstance" = some none)
  (z_reversed:W.nsIn K mainGlobals "reversed" = some none)
  (z_max:W.nsIn K mainGlobals "max" = some none)
  (z_zip:W.nsIn K mainGlobals "zip" = some none)
  (z_list:W.nsIn K mainGlobals "list" = some none)
  (z_str:W.nsIn K mainGlobals "str" = some none)
  (z_enumerate:W.nsIn K mainGlobals "enumerate" = some none)
  (z_dict:W.nsIn K mainGlobals "dict" = some none)
  (z_sum:W.nsIn K mainGlobals "sum" = some none)
  (z_int:W.nsIn K mainGlobals "int" = some none)
  (z_min:W.nsIn K mainGlobals "min" = some none)
  (z_sorted:W.nsIn K mainGlobals "sorted" = some none)
  (z_all:W.nsIn K mainGlobals "all" = some none)
  (z_set:W.nsIn K mainGlobals "set" = some none)
  (z_repr:W.nsIn K mainGlobals "repr" = some none)
  {tk_LONGEST_NAME:Tok} (a_LONGEST_NAME:W.nsIn K mainGlobals "LONGEST_NAME" = some (some (.int 8 tk_LONGEST_NAME)))
  : ∃ fd:FuncData,(∀ (s:Shared) (v:Value),BindsTo s fd ⟨[v],[]⟩ [("_law_script",v)])/\∀ base:Heap,K.In base->base.Ns mainGlobals mg->FnOk P w K mg base CX0 40 fa fd ["_law_script"] (spLaw K):=by
 have e:=hfa.symm.trans (W.mg_of X G a_law);cases e;obtain⟨f_is_whole,_,F_is_whole,qc2r,b_is_whole⟩:=h_is_whole;have d_is_whole:Def K mg _ _ _ _ _:=⟨F_is_whole,b_is_whole,W.mg_of X G qc2r⟩;obtain⟨f_is_name,_,F_is_name,qc4y,b_is_name⟩:=h_is_name;have d_is_name:Def K mg _ _ _ _ _:=⟨F_is_name,b_is_name,W.mg_of X G qc4y⟩;obtain⟨f_are_rising_names,_,F_are_rising_names,qb1n,b_are_rising_names⟩:=h_are_rising_names;have d_are_rising_names:Def K mg _ _ _ _ _:=⟨F_are_rising_names,b_are_rising_names,W.mg_of X G qb1n⟩;obtain⟨f_is_world,_,F_is_world,qc2s,b_is_world⟩:=h_is_world;have d_is_world:Def K mg _ _ _ _ _:=⟨F_is_world,b_is_world,W.mg_of X G qc2s⟩;obtain⟨f_is_points,_,F_is_points,qb9j,b_is_points⟩:=h_is_points;have d_is_points:Def K mg _ _ _ _ _:=⟨F_is_points,b_is_points,W.mg_of X G qb9j⟩;obtain⟨f_is_parts,_,F_is_parts,qc2t,b_is_parts⟩:=h_is_parts;have d_is_parts:Def K mg _ _ _ _ _:=⟨F_is_parts,b_is_parts,W.mg_of X G qc2t⟩;obtain⟨f_is_named,_,F_is_named,qc2u,b_is_named⟩:=h_is_named;have d_is_named:Def K mg _ _ _ _ _:=⟨F_is_named,b_is_named,W.mg_of X G qc2u⟩;obtain⟨f_is_facts,_,F_is_facts,qc2v,b_is_facts⟩:=h_is_facts;have d_is_facts:Def K mg _ _ _ _ _:=⟨F_is_facts,b_is_facts,W.mg_of X G qc2v⟩;obtain⟨f_is_sights,_,F_is_sights,qb9k,b_is_sights⟩:=h_is_sights;have d_is_sights:Def K mg _ _ _ _ _:=⟨F_is_sights,b_is_sights,W.mg_of X G qb9k⟩;obtain⟨qc8b,_,qb5u,qb5v,b_law_cell_at⟩:=h_law_cell_at;have qa2w:Def K mg _ _ _ _ _:=⟨qb5u,b_law_cell_at,W.mg_of X G qb5v⟩;obtain⟨f_law_by,_,qc7z,qc8a,b_law_by⟩:=h_law_by
 have qb0d:Def K mg _ _ _ _ _:=⟨qc7z,b_law_by,W.mg_of X G qc8a⟩;obtain⟨qc2w,_,qb3s,qc2x,b_law_next⟩:=h_law_next;have qa0m:Def K mg _ _ _ _ _:=⟨qb3s,b_law_next,W.mg_of X G qc2x⟩;obtain⟨qc2y,_,qb3t,qc2z,b_law_some⟩:=h_law_some;have qa7g:Def K mg _ _ _ _ _:=⟨qb3t,b_law_some,W.mg_of X G qc2z⟩;obtain⟨qb9l,_,qb2g,qb9m,b_law_parts⟩:=h_law_parts;have qa8o:Def K mg _ _ _ _ _:=⟨qb2g,b_law_parts,W.mg_of X G qb9m⟩;obtain⟨qb9n,_,qb2h,qb9o,b_law_world⟩:=h_law_world;have qa8t:Def K mg _ _ _ _ _:=⟨qb2h,b_law_world,W.mg_of X G qb9o⟩;obtain⟨qb3u,_,qa8n,qb3v,b_law_bent_leaf⟩:=h_law_bent_leaf;have qa5u:Def K mg _ _ _ _ _:=⟨qa8n,b_law_bent_leaf,W.mg_of X G qb3v⟩;obtain⟨qc3a,_,qb3w,qc3b,b_law_bent⟩:=h_law_bent;have qa3q:Def K mg _ _ _ _ _:=⟨qb3w,b_law_bent,W.mg_of X G qc3b⟩;obtain⟨qb9p,_,qb2i,qb9q,b_law_named⟩:=h_law_named;have qa8r:Def K mg _ _ _ _ _:=⟨qb2i,b_law_named,W.mg_of X G qb9q⟩;obtain⟨qc4z,_,qb5o,qc5a,b_law_row⟩:=h_law_row;have qa4h:Def K mg _ _ _ _ _:=⟨qb5o,b_law_row,W.mg_of X G qc5a⟩;obtain⟨qb4j,_,qa9l,qb4k,b_law_by_names⟩:=h_law_by_names;have qa4p:Def K mg _ _ _ _ _:=⟨qa9l,b_law_by_names,W.mg_of X G qb4k⟩;obtain⟨qb8o,_,qb1o,qb8p,b_law_parted⟩:=h_law_parted;have qa8c:Def K mg _ _ _ _ _:=⟨qb1o,b_law_parted,W.mg_of X G qb8p⟩;obtain⟨qb4l,_,qa9m,qb4m,b_law_is_world⟩:=h_law_is_world;have qa3j:Def K mg _ _ _ _ _:=⟨qa9m,b_law_is_world,W.mg_of X G qb4m⟩;have F_law:=qa7v (st:=qa7n) l_law c_law k_law;have B:Bl mg:=⟨W.mg_none_of X G z_len,W.mg_none_of X G z_range,W.mg_none_of X G z_tuple,W.mg_none_of X G z_bool,W.mg_none_of X G z_isinstance,W.mg_none_of X G z_reversed,W.mg_none_of X G z_max,W.mg_none_of X G z_zip,W.mg_none_of X G z_list,W.mg_none_of X G z_str,W.mg_none_of X G z_enumerate,W.mg_none_of X G z_dict,W.mg_none_of X G z_sum,W.mg_none_of X G z_int,W.mg_none_of X G z_min,W.mg_none_of X G z_sorted,W.mg_none_of X G z_all,W.mg_none_of X G z_set,W.mg_none_of X G z_repr⟩;have m_LONGEST_NAME:∃ t,mg "LONGEST_NAME" = some (.int 8 t):=⟨_,W.mg_of X G a_LONGEST_NAME⟩;refine⟨W.fnOf "law" "law" (qa5y qa7n) (qa3v qa7n) (qa0h qa7n) .none kV_law dc_law pm_law an_law cd_law ct_law,fun s v=>.of_eq rfl,fun base _ _=>?_⟩
 have gn:FnOk P w K mg base CX0 3 qc2w _ _ _:=ok_next qb3s B qa2w qb0d;have gS:FnOk P w K mg base CX0 4 qc2y _ _ (spD K qb7w):=ok_some qb3t B qa0m gn;have gP:FnOk P w K mg base CX0 4 qb9l _ _ (spD K qb4g):=qc7r qb2g B qa0m gn;have gW:FnOk P w K mg base CX0 5 qb9n _ _ (spD K qb4h):=qc7s qb2h B qa0m (gn.mono (by decide:3 <= 4)) qa7g gS qa8o gP;have gL:FnOk P w K mg base CX0 4 qb3u _ _ (spD K qb8l):=qc7x qa8n B qa0m gn;have gB:∀ m:Nat,FnOk P w K mg base CX0 (5 + m) qc3a _ _ (spD K (qb3q m)):=fun m=>by
  induction m with
  | zero=>exact sp_none fun ls Q h=>by obtain⟨_,_,_,_,_,_,hd,h2,_⟩:=h;obtain⟨_,e⟩:=hd.pos;omega
  | succ m ih=>exact ok_bent qb3w B qa0m (n:=5 + m) (gn.mono (by omega:3 <= 5 + m)) qa5u (gL.mono (by omega:4 <= 5 + m)) qa3q ih
 have g1:FnOk P w K mg base CX0 1 f_is_whole _ _ (spD K spWh):=qc7v F_is_whole B;have g2:FnOk P w K mg base CX0 1 f_is_name _ _ (spD K qa9h):=ok_name F_is_name B m_LONGEST_NAME;have g3:FnOk P w K mg base CX0 2 f_are_rising_names _ _ (spD K qb7y):=ok_rise F_are_rising_names B d_is_name g2;have g4:FnOk P w K mg base CX0 2 f_is_points _ _ (spD K qa9i):=qb8d F_is_points B d_is_whole g1;have g5:FnOk P w K mg base CX0 3 f_is_parts _ _ (spD K qa5e):=qb9b F_is_parts B d_is_points g4;have g6:FnOk P w K mg base CX0 3 f_is_named _ _ (spD K qa6g):=qc7w F_is_named B d_are_rising_names g3;have g7:FnOk P w K mg base CX0 4 f_is_facts _ _ (spD K qb1k):=qb9d F_is_facts B d_is_named g6 d_is_points (g4.mono (by decide:2 <= 3));have g8:FnOk P w K mg base CX0 4 f_is_sights _ _ (spD K qb0i):=qb8f F_is_sights B d_is_named g6 d_is_parts g5;have g9:FnOk P w K mg base CX0 5 f_is_world _ _ (spD K qa5f):=qb9e F_is_world B d_is_points (g4.mono (by decide:2 <= 4)) d_is_facts g7 d_is_sights g8;have i1:FnOk P w K mg base CX0 1 qb9p _ _ (spD K qa9h):=qc4u qb2i B;have i2:FnOk P w K mg base CX0 2 qb4j _ _ (spD K qa6g):=qc2n qa9l B qa8r i1;have i3:FnOk P w K mg base CX0 1 qc4z _ _ (spD K spRow):=ok_row qb5o B;have i4:FnOk P w K mg base CX0 2 qb8o _ _ (spD K qa5e):=qc4w qb1o B qa4h i3;have i5:FnOk P w K mg base CX0 3 qb4l _ _ (spD K qa5f):=qb8j qa9m B qa4h (i3.mono (by decide:1 <= 2)) qa4p i2 qa8c i4;exact ok_law F_law B qa0m (gn.mono (by decide:3 <= 39)) qa8t (gW.mono (by decide:5 <= 39)) qa3q ((gB 8).mono (by decide:5 + 8 <= 39)) d_is_world (g9.mono (by decide:5 <= 39)) qa3j (i5.mono (by decide:3 <= 39))
end K02
namespace PySem.W.Fast
def tw4217017827300598724:=()
def tw11817601228409189993:=()
def tw7775740546240219962:=()
def tw2230530076446494686:=PySem.Challenge.pw_worldsay_k02_what_is_a_world
theorem te2230530076446494686:PySem.Challenge.pw_worldsay_k02_what_is_a_world=tw2230530076446494686:=rfl
def tw12478365283468174807:=()
def tw5474814524820620420:=()
def tw17584337227940953605:=()
def tw4803899786827503619:=()
def tw8098540559846376700:=()
def tw3578130568951770163:=()
def tw2947862395723986486:=()
def tw585601330608622028:=()
def tw9373924348497418511:=()
def tw1553880105577702725:=()
def tw9690972724852336328:=()
def tw15856878555145300217:=()
def tw9439568230872521349:=()
def tw5950283979339348358:=()
def tw570830213041629344:=()
def tw2908254172192918145:=()
def tw17999648126673284939:=()
def tw5365883581169566617:=()
def tw3634081218876315217:=()
def tw17374146544480549146:=()
def tw2033962926686050864:=()
def tw296631159286182337:=()
def tw16168571306027301733:=()
def tw5243850384491674452:=()
def tw13484150544740602946:=()
def tw7565924905974028710:=()
def tw10578980278964006167:=()
def tw12624792010611979830:=()
def tw9805377641280815261:=()
def tw10648216120195601112:=()
def tw8830035158008167678:=()
def tw15515988376160165392:=()
def tw73591023291353186:=()
def tw3810812294057142475:=()
def tw9813361444718474351:=()
def tw8286531177185880194:=()
end PySem.W.Fast
open PySem PySem.W PyProof.Rows
set_option maxRecDepth 100000 in
set_option maxHeartbeats 0 in
theorem PySem.Challenge.cw_worldsay_k02_what_is_a_world_holds : PySem.Challenge.rw_worldsay_k02_what_is_a_world.Holds := by
 w_on;o_law;k_head;(case hw=>w_witness2)
 k_fill
 refine L2.walk_of (l:=PySem.Challenge.rw_worldsay_k02_what_is_a_world) (n:=63) (k:=40) (x:="_law_script") (CX:=fun _=>L2.CX0) (sp:=fun w=>L2.spLaw (_:PySem.W.Frag)) rfl (by decide) rfl ⟨rfl,by decide,by decide,rfl⟩ (fun w h Y=>PySem.W.kIn_of Y) ?F (fun w H a ns hl hO hS=>⟨a,ns,rfl,hS,hO,hl,fun _=>rfl⟩) (fun _ _ _ _ _ z=>z)
 case F =>
  intro w mg fa h KX G hmg
  refine' K02.all_mk KX G hmg ?h_is_whole ?h_is_name ?h_are_rising_names ?h_is_world ?h_is_points ?h_is_parts ?h_is_named ?h_is_facts ?h_is_sights ?h_law_cell_at ?h_law_by ?h_law_next ?h_law_some ?h_law_parts ?h_law_world ?h_law_bent_leaf ?h_law_bent ?h_law_named ?h_law_row ?h_law_by_names ?h_law_parted ?h_law_is_world ?a_law ?l_law ?c_law ?k_law ?z_len ?z_range ?z_tuple ?z_bool ?z_isinstance ?z_reversed ?z_max ?z_zip ?z_list ?z_str ?z_enumerate ?z_dict ?z_sum ?z_int ?z_min ?z_sorted ?z_all ?z_set ?z_repr ?a_LONGEST_NAME
  (case h_is_whole=>refine' K02.qa4i ?h_is_wholea ?h_is_wholel ?h_is_wholec ?h_is_wholek rfl (fun _ _ _ _ _ _ _  => rfl);(case h_is_wholea=>k_is);(case h_is_wholel=>k_is);(case h_is_wholec=>k_is);(case h_is_wholek=>k_is))
  (case h_is_name=>refine' K02.qa4i ?h_is_namea ?h_is_namel ?h_is_namec ?h_is_namek rfl (fun _ _ _ _ _ _ _  => rfl);(case h_is_namea=>k_is);(case h_is_namel=>k_is);(case h_is_namec=>k_is);(case h_is_namek=>k_is))
  (case h_are_rising_names=>refine' K02.qa4i ?h_are_rising_namesa ?h_are_rising_namesl ?h_are_rising_namesc ?h_are_rising_namesk rfl (fun _ _ _ _ _ _ _  => rfl);(case h_are_rising_namesa=>k_is);(case h_are_rising_namesl=>k_is);(case h_are_rising_namesc=>k_is);(case h_are_rising_namesk=>k_is))
  (case h_is_world=>refine' K02.qa4i ?h_is_worlda ?h_is_worldl ?h_is_worldc ?h_is_worldk rfl (fun _ _ _ _ _ _ _  => rfl);(case h_is_worlda=>k_is);(case h_is_worldl=>k_is);(case h_is_worldc=>k_is);(case h_is_worldk=>k_is))
  (case h_is_points=>refine' K02.qa2m ?h_is_pointsa ?h_is_pointsl ?h_is_pointsc ?h_is_pointsk rfl (fun _ _ _ _ _ _ _ _  => rfl);(case h_is_pointsa=>k_is);(case h_is_pointsl=>k_is);(case h_is_pointsc=>k_is);(case h_is_pointsk=>k_is))
  (case h_is_parts=>refine' K02.qa2m ?h_is_partsa ?h_is_partsl ?h_is_partsc ?h_is_partsk rfl (fun _ _ _ _ _ _ _ _  => rfl);(case h_is_partsa=>k_is);(case h_is_partsl=>k_is);(case h_is_partsc=>k_is);(case h_is_partsk=>k_is))
  (case h_is_named=>refine' K02.qa4i ?h_is_nameda ?h_is_namedl ?h_is_namedc ?h_is_namedk rfl (fun _ _ _ _ _ _ _  => rfl);(case h_is_nameda=>k_is);(case h_is_namedl=>k_is);(case h_is_namedc=>k_is);(case h_is_namedk=>k_is))
  (case h_is_facts=>refine' K02.qa2m ?h_is_factsa ?h_is_factsl ?h_is_factsc ?h_is_factsk rfl (fun _ _ _ _ _ _ _ _  => rfl);(case h_is_factsa=>k_is);(case h_is_factsl=>k_is);(case h_is_factsc=>k_is);(case h_is_factsk=>k_is))
  (case h_is_sights=>refine' K02.qa2m ?h_is_sightsa ?h_is_sightsl ?h_is_sightsc ?h_is_sightsk rfl (fun _ _ _ _ _ _ _ _  => rfl);(case h_is_sightsa=>k_is);(case h_is_sightsl=>k_is);(case h_is_sightsc=>k_is);(case h_is_sightsk=>k_is))
  (case h_law_cell_at=>refine' K02.qa2m ?h_law_cell_ata ?h_law_cell_atl ?h_law_cell_atc ?h_law_cell_atk rfl (fun _ _ _ _ _ _ _ _  => rfl);(case h_law_cell_ata=>k_is);(case h_law_cell_atl=>k_is);(case h_law_cell_atc=>k_is);(case h_law_cell_atk=>k_is))
  (case h_law_by=>refine' K02.qb8n ?h_law_bya ?h_law_byl ?h_law_byc ?h_law_byk rfl (fun _ _ _ _ _ _ _ _ _  => rfl);(case h_law_bya=>k_is);(case h_law_byl=>k_is);(case h_law_byc=>k_is);(case h_law_byk=>k_is))
  (case h_law_next=>refine' K02.qa2m ?h_law_nexta ?h_law_nextl ?h_law_nextc ?h_law_nextk rfl (fun _ _ _ _ _ _ _ _  => rfl);(case h_law_nexta=>k_is);(case h_law_nextl=>k_is);(case h_law_nextc=>k_is);(case h_law_nextk=>k_is))
  (case h_law_some=>refine' K02.qb8n ?h_law_somea ?h_law_somel ?h_law_somec ?h_law_somek rfl (fun _ _ _ _ _ _ _ _ _  => rfl);(case h_law_somea=>k_is);(case h_law_somel=>k_is);(case h_law_somec=>k_is);(case h_law_somek=>k_is))
  (case h_law_parts=>refine' K02.qa2m ?h_law_partsa ?h_law_partsl ?h_law_partsc ?h_law_partsk rfl (fun _ _ _ _ _ _ _ _  => rfl);(case h_law_partsa=>k_is);(case h_law_partsl=>k_is);(case h_law_partsc=>k_is);(case h_law_partsk=>k_is))
  (case h_law_world=>refine' K02.qa2m ?h_law_worlda ?h_law_worldl ?h_law_worldc ?h_law_worldk rfl (fun _ _ _ _ _ _ _ _  => rfl);(case h_law_worlda=>k_is);(case h_law_worldl=>k_is);(case h_law_worldc=>k_is);(case h_law_worldk=>k_is))
  (case h_law_bent_leaf=>refine' K02.qa2m ?h_law_bent_leafa ?h_law_bent_leafl ?h_law_bent_leafc ?h_law_bent_leafk rfl (fun _ _ _ _ _ _ _ _  => rfl);(case h_law_bent_leafa=>k_is);(case h_law_bent_leafl=>k_is);(case h_law_bent_leafc=>k_is);(case h_law_bent_leafk=>k_is))
  (case h_law_bent=>refine' K02.qa2m ?h_law_benta ?h_law_bentl ?h_law_bentc ?h_law_bentk rfl (fun _ _ _ _ _ _ _ _  => rfl);(case h_law_benta=>k_is);(case h_law_bentl=>k_is);(case h_law_bentc=>k_is);(case h_law_bentk=>k_is))
  (case h_law_named=>refine' K02.qa4i ?h_law_nameda ?h_law_namedl ?h_law_namedc ?h_law_namedk rfl (fun _ _ _ _ _ _ _  => rfl);(case h_law_nameda=>k_is);(case h_law_namedl=>k_is);(case h_law_namedc=>k_is);(case h_law_namedk=>k_is))
  (case h_law_row=>refine' K02.qa2m ?h_law_rowa ?h_law_rowl ?h_law_rowc ?h_law_rowk rfl (fun _ _ _ _ _ _ _ _  => rfl);(case h_law_rowa=>k_is);(case h_law_rowl=>k_is);(case h_law_rowc=>k_is);(case h_law_rowk=>k_is))
  (case h_law_by_names=>refine' K02.qa4i ?h_law_by_namesa ?h_law_by_namesl ?h_law_by_namesc ?h_law_by_namesk rfl (fun _ _ _ _ _ _ _  => rfl);(case h_law_by_namesa=>k_is);(case h_law_by_namesl=>k_is);(case h_law_by_namesc=>k_is);(case h_law_by_namesk=>k_is))
  (case h_law_parted=>refine' K02.qa2m ?h_law_parteda ?h_law_partedl ?h_law_partedc ?h_law_partedk rfl (fun _ _ _ _ _ _ _ _  => rfl);(case h_law_parteda=>k_is);(case h_law_partedl=>k_is);(case h_law_partedc=>k_is);(case h_law_partedk=>k_is))
  (case h_law_is_world=>refine' K02.qa4i ?h_law_is_worlda ?h_law_is_worldl ?h_law_is_worldc ?h_law_is_worldk rfl (fun _ _ _ _ _ _ _  => rfl);(case h_law_is_worlda=>k_is);(case h_law_is_worldl=>k_is);(case h_law_is_worldc=>k_is);(case h_law_is_worldk=>k_is))
  (case a_law=>k_is)
  (case l_law=>k_is)
  (case c_law=>k_is)
  (case k_law=>k_is)
  (case z_len=>k_is)
  (case z_range=>k_is)
  (case z_tuple=>k_is)
  (case z_bool=>k_is)
  (case z_isinstance=>k_is)
  (case z_reversed=>k_is)
  (case z_max=>k_is)
  (case z_zip=>k_is)
  (case z_list=>k_is)
  (case z_str=>k_is)
  (case z_enumerate=>k_is)
  (case z_dict=>k_is)
  (case z_sum=>k_is)
  (case z_int=>k_is)
  (case z_min=>k_is)
  (case z_sorted=>k_is)
  (case z_all=>k_is)
  (case z_set=>k_is)
  (case z_repr=>k_is)
  (case a_LONGEST_NAME=>k_is)
end
end
