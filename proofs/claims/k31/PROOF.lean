import PyProof.Rows.All
import Wide.All
import OpenK.AllK
import Wide.FinOn
import Lean
import PyProof.EqAt
import PyProof.EqKinds
import PyProof.TupleCall
import PyProof.SetKind
import PyProof.SetNew
import PyProof.SetRoads
import PyProof.CollectIter
import PyProof.WalksMore
import PyProof.MakeMany
import PyProof.ZipIter
import PyProof.EnumMake
import PyProof.EnumFor
import KE.KDictOf
import KE.KEqDict
import PyProof.Rows.SortWalk
import PyProof.Rows.SortStr
import PyProof.ConsumeWalk
import KE.KItemsList
import PyProof.StrCalls
import PyProof.StrCaseBound
import PyProof.SetScanFacts
import KE.KSortTup
import PyProof.Rows.SortShellK
import PyProof.ReprRoads
import PyProof.ReprLen
import PyProof.ListRange
import PyProof.StrWalks
import PyProof.StrBlockI
import PyProof.SliceStr2
import PyProof.StrLawsIn
import KE.KDictList
import KE.KDictSum
import PyProof.FactsAll.set
import KE.KDictLaws
import PyProof.DictValues
import PyProof.DictWalks
import PyProof.TupleOfSeq
import PyProof.Draws
import PyProof.CallFns
import PyProof.Ascii
import PyProof.P3Eq
import PyProof.TupleKey
import PyProof.DictIter
import OpenK.KOwn
import PyProof.NsDelKeeps
import KE.KIsAll
import PyProof.ExcArgsOwn
import PySem.Challenge.RW_worldsay_k31_ways
open List (all_cons all_eq_true any_cons append_assoc append_nil drop_zero eq_nil_of_length_eq_zero find?_cons flatten_cons getD_eq_getElem?_getD getElem?_append_right getElem?_eq_getElem getElem?_map getElem?_set_ne getElem?_set_self getElem_mem getElem_of_mem length_append length_cons length_map length_range length_replicate length_set length_take lookup_cons map_append map_congr_left map_cons map_id map_map map_nil mem_append mem_append_right mem_cons mem_cons_of_mem mem_cons_self mem_filter mem_map mem_of_getElem? mem_range mem_singleton nodup_append nodup_cons not_mem_nil pairwise_map pairwise_singleton replicate_succ size_toArray take_add_one take_length)
open PySem.Heap (get?_push_of_some get?_push_size get?_update_self lt_size size_push)
open Option (bind_some map_eq_some_iff map_some toList_some)
open Bool (and_eq_true false_eq_true)
open Array (getD_eq_getD_getElem? getElem?_eq_none getElem?_toList length_toList mem_toList_iff toList_push)
open Nat (le_add_left le_of_eq le_of_lt le_refl le_succ le_trans lt_irrefl lt_of_lt_of_le lt_succ_of_lt lt_succ_self lt_trans ne_of_gt ne_of_lt not_lt succ_le_succ zero_le)
open Int (emod_nonneg toNat_natCast)
set_option Elab.async false
set_option linter.all false
set_option maxRecDepth 100000
set_option maxHeartbeats 4000000
noncomputable section
local macro_rules | `(term| 'k') => `(by decide +kernel)
local macro_rules | `(term| 'o') => `(by omega)
local macro_rules | `(term| 'd') => `(by decide)
local macro_rules | `(term| 'a') => `((PySem.Addr × PySem.Obj))
local macro_rules | `(term| 'b') => `((le_refl _))
local macro_rules | `(term| 'c') => `((by simp))
local macro_rules | `(term| 'e') => `((Or.inl rfl))
local macro_rules | `(term| 'f') => `(⟨rfl,rfl,rfl,'k',rfl,'k','k'⟩)
local macro_rules | `(term| 'g') => `((List Int))
local macro_rules | `(term| 'h') => `((Nat × Nat × Nat))
local macro_rules | `(term| 'i') => `((fun _ _=>rfl))
local macro_rules | `(term| 'j') => `((Int × PySem.Value))
local macro_rules | `(term| 'l') => `((Bool × List PySem.Value))
local macro_rules | `(term| 'm') => `((PySem.Str × Nat))
local macro_rules | `(term| 'n') => `((le_succ _))
section
namespace L2
open PySem PySem.Spec PyProof.Rows
abbrev Key:=Sum Int Str
noncomputable def a7z:Key->Value->Bool
 | .inl k,v=>Value.isInt k v
 | .inr x,v=>Value.isStrOf x v
noncomputable def keyH(w:World):Key->Int
 | .inl k=>hashInt k
 | .inr x=>hashStr w x
def a1s:∀ {k:Key} {v:Value},a7z k v=true->(∃ i t,k=Sum.inl i/\v=Value.int i t) ∨ (∃ x t,k=Sum.inr x/\v=Value.str x t)
 | .inl i,v,h=>by
  obtain⟨t,e⟩:=Value.isInt_shape (k:=i) (v:=v) h;exact .inl ⟨i,t,rfl,e⟩
 | .inr x,v,h=>by
  obtain⟨t,e⟩:=Value.isStrOf_shape (x:=x) (v:=v) h;exact .inr ⟨x,t,rfl,e⟩
def c4h(i:Int)(t:Tok):a7z (.inl i) (.int i t)=true:=by simp [a7z,Value.isInt]
def c4i(x:Str)(t:Tok):a7z (.inr x) (.str x t)=true:=by simp [a7z,Value.isStrOf]
def d6u(a b:Int):decide ((Sum.inl a:Key)=Sum.inl b)=(a == b):=by
 by_cases e:a=b
 ·subst e;simp
 ·have h:¬ (Sum.inl a:Key)=Sum.inl b:=fun q=>e (Sum.inl.inj q)
  rw [decide_eq_false h];exact(beq_eq_false_iff_ne.mpr e).symm
def d6v(a b:Str):decide ((Sum.inr a:Key)=Sum.inr b)=decide (a=b):=by
 by_cases e:a=b
 ·subst e;simp
 ·have h:¬ (Sum.inr a:Key)=Sum.inr b:=fun q=>e (Sum.inr.inj q)
  rw [decide_eq_false h,decide_eq_false e]
def d6w(a:Int)(b:Str):decide ((Sum.inl a:Key)=Sum.inr b)=false:=decide_eq_false (fun q=>nomatch q)
def d6x(a:Str)(b:Int):decide ((Sum.inr a:Key)=Sum.inl b)=false:=decide_eq_false (fun q=>nomatch q)
noncomputable def a1f(prog:Program)(w:World):PySem.KeyKind prog w Key where
 is:=a7z
 hash:=keyH w
 inj:=fun v a b ha hb=>by
  rcases a1s ha with⟨i,t,rfl,rfl⟩ | ⟨x,t,rfl,rfl⟩
  ·rcases a1s hb with⟨j,u,rfl,e⟩ | ⟨y,u,rfl,e⟩
   ·injection e with e1 _;rw [e1]
   ·exact nomatch e
  ·rcases a1s hb with⟨j,u,rfl,e⟩ | ⟨y,u,rfl,e⟩
   ·exact nomatch e
   ·injection e with e1 _;rw [e1]
 byValue:=fun k v h=>by
  rcases a1s h with⟨i,t,rfl,rfl⟩ | ⟨x,t,rfl,rfl⟩<;>rfl
 pyHash:=fun hv h=>by
  rcases a1s hv with⟨i,t,rfl,rfl⟩ | ⟨x,t,rfl,rfl⟩
  ·exact wpAny_pyHash_int h
  ·exact wpAny_pyHash_str h
 eqBool:=fun hu hv h=>by
  rcases a1s hu with⟨i,t,rfl,rfl⟩ | ⟨x,t,rfl,rfl⟩
  ·rcases a1s hv with⟨j,u,rfl,rfl⟩ | ⟨y,u,rfl,rfl⟩
   ·rw [d6u] at h;exact wpAny_eqBool_int h
   ·rw [d6w] at h;exact SeqAt.EqAt.int_str i t y u _ _ _ _ h
  ·rcases a1s hv with⟨j,u,rfl,rfl⟩ | ⟨y,u,rfl,rfl⟩
   ·rw [d6x] at h;exact SeqAt.EqAt.str_int x t j u _ _ _ _ h
   ·rw [d6v] at h;exact wpAny_eqBool_str h
 «strs»:=fun k x t v h=>by
  rcases a1s h with⟨i,u,rfl,e⟩ | ⟨y,u,rfl,e⟩
  ·exact nomatch e
  ·injection e with e1 _
   subst e1;cases v<;>rfl
def b9k(prog:Program)(w:World)(i:Int)(t:Tok):(a1f prog w).is (.inl i) (.int i t)=true:=c4h i t
def b1s(prog:Program)(w:World)(x:Str)(t:Tok):(a1f prog w).is (.inr x) (.str x t)=true:=c4i x t
end L2
namespace L2
open PySem PySem.Spec PyProof.Rows
inductive V where
 | non | bl (b:Bool) | int (i:Int) | str (x:Str) | byt (b:Array UInt8) | flt (b:UInt64) | ref (a:Addr) | ty (n:String)
 deriving DecidableEq
noncomputable def RelV:V->Value->Prop
 | .non,u=>u=Value.none
 | .bl b,u=>u=Value.bool b
 | .int i,u=>∃ t,u=Value.int i t
 | .str x,u=>∃ t,u=Value.str x t
 | .byt b,u=>∃ t,u=Value.bytes b t
 | .flt b,u=>∃ t,u=Value.float b t
 | .ref a,u=>u=Value.ref a
 | .ty n,u=>u=Value.type n
abbrev Vals:List V->List Value->Prop:=Paired RelV
def Vals.length{xs:List V}{us:List Value}(r:Vals xs us):xs.length=us.length:=Paired.length r
def Vals.get:∀ {xs:List V} {us:List Value} {i:Nat} {x:V},Vals xs us->xs[i]? = some x->∃ u,us[i]? = some u/\RelV x u
 | _,_,_,_,.nil,e=>by simp at e
 | _,_,0,_,.cons r _,e=>by simp at e;subst e;exact⟨_,rfl,r⟩
 | _,_,i + 1,x,.cons _ t,e=>by
  obtain⟨u,h1,h2⟩:=Vals.get (i:=i) (x:=x) t (by simpa using e);exact⟨u,by simpa using h1,h2⟩
def Vals.set{x:V}{u:Value}(r:RelV x u):∀ {xs:List V} {us:List Value} (i:Nat),Vals xs us->Vals (xs.set i x) (us.set i u)
 | _,_,_,.nil=>.nil
 | _,_,0,.cons _ t=>.cons r t
 | _,_,i + 1,.cons q t=>.cons q (Vals.set r i t)
def Vals.append:∀ {xs ys:List V} {us ws:List Value},Vals xs us->Vals ys ws->Vals (xs ++ ys) (us ++ ws)
 | _,_,_,_,.nil,s=>s
 | _,_,_,_,.cons r t,s=>.cons r (Vals.append t s)
def Vals.take:∀ {xs:List V} {us:List Value} (n:Nat),Vals xs us->Vals (xs.take n) (us.take n)
 | _,_,0,_=>.nil
 | _,_,_ + 1,.nil=>.nil
 | _,_,n + 1,.cons r t=>.cons r (Vals.take n t)
def Vals.drop:∀ {xs:List V} {us:List Value} (n:Nat),Vals xs us->Vals (xs.drop n) (us.drop n)
 | _,_,0,r=>r
 | _,_,_ + 1,.nil=>.nil
 | _,_,n + 1,.cons _ t=>Vals.drop n t
noncomputable def RelO:Option V->Option Value->Prop
 | some v,some u=>RelV v u
 | none,none=>True
 | _,_=>False
noncomputable def KV{κ:Type}:List (κ × V)->List (κ × Value)->Prop:=Paired fun(p:κ × V) (q:κ × Value)=>p.1=q.1/\RelV p.2 q.2
noncomputable def kV:Key->V
 | .inl i=>.int i
 | .inr x=>.str x
inductive HO where
 /-- a list -/
 | lst (xs:List V)
 /-- a tuple (never changes) -/
 | tup (xs:List V)
 /-- a dict whose keys are ints and texts; one whose keys are tuples of ints and texts (the empty one is both) -/
 | dK (kvs:List (Key × V)) | dT (kvs:List (List Key × V))
 /-- a set of ints: its members, its size -/
 | set (S:Int->Bool) (n:Nat)
 /-- an instance of the class at C, its dict at dx, its attributes -/
 | ins (C dx:Addr) (fs:List (Str × V))
 /-- the dict of the instance at x -/
 | own (x:Addr)
 /-- the dict of an exception -/
 | xd (fs:List (Str × V))
 /-- a bound method, f of x -/
 | met (f x:Addr)
 /-- a range object lo, lo + 1, .. below hi -/
 | rng (lo hi:Int)
 /-- a thing that is known to the object (the script; a dict while a loop walks it): read, never written while it is so -/
 | frz (o:Obj) (u:HO)
 /-- a code object's table -/
 | tbl (ps:Array Value)
 /-- any other thing, by what is true of its one object (a def of one's own: SetO a S n := HO.ext fun h => ..) -/
 | ext (φ:Heap->Prop)
abbrev Hp:=Addr->Option HO
noncomputable def upd(H:Hp)(a:Addr)(o:HO):Hp:=fun b=>if b=a then some o else H b
def a0d{H:Hp}{a:Addr}{o:HO}:upd H a o a=some o:=by unfold upd;rw [if_pos rfl]
def a0b{H:Hp}{a b:Addr}{o:HO}(h:b ≠ a):upd H a o b=H b:=by unfold upd;rw [if_neg h]
def d2p{H:Hp}{a:Addr}{o u:HO}:upd (upd H a o) a u=upd H a u:=by
 funext b;unfold upd;split<;>rfl
def b2v{H:Hp}{a b:Addr}{o u:HO}(h:H a=some o)(h':H b=some u)(d:o ≠ u):a ≠ b:=by
 intro e;subst e;rw [h] at h';exact d (Option.some.inj h')
def a0u{H:Hp}{a b:Addr}{o:HO}(h:H a=some o)(h':H b=none):a ≠ b:=by
 intro e;subst e;rw [h] at h';cases h'
def a3k(h:Heap)(a:Addr)(items:Array Value):Prop:=∃ o,h.get? a=some o/\(o.cls=.type "tuple" /\ o.dict=none)/\∃ n,o.data=.seq items n
def a3k.tup{h:Heap}{a:Addr}{items:Array Value}(x:a3k h a items):IsTup h a items:=by obtain⟨o,e,c,n,d⟩:=x;exact⟨o,e,c.1,n,d⟩
def a3k.new(h:Heap)(xs:Array Value):a3k (h.push { cls:=.type "tuple",data:=.seq xs }) h.objs.size xs:=⟨_,get?_push_size _ rfl,⟨rfl,rfl⟩,_,rfl⟩
section
variable(P:Program)(w:World)
noncomputable def a1h(H:Hp)(h:Heap)(a:Addr):HO->Prop
 | .lst xs=>xs.length <= sizeLine/\∃ (its:List Value) (n:Nat),Vals xs its/\h.get? a=some { cls:=.type "list",data:=.seq its.toArray n }
 | .tup xs=>xs.length <= sizeLine/\∃ its:List Value,Vals xs its/\a3k h a its.toArray
 | .dK kvs=>kvs.length <= sizeLine/\(a == sysModules)=false/\∃ vs,KV kvs vs/\h.DictOf (a1f P w) a vs
 | .dT kvs=>kvs.length <= sizeLine/\(a == sysModules)=false/\∃ xs:List (List Key × Addr × Value),
   Paired (fun(p:List Key × V) (q:List Key × Addr × Value)=>p.1=q.1/\H q.2.1=some (.tup (p.1.map kV))/\RelV p.2 q.2.2) kvs xs /\
   ∃ o es ep,h.get? a=some o/\o.ExactDict/\o.data=.dict es ep/\es.toList=xs.map (entryOfKey (tupleKind (a1f P w)))/\(xs.map (·.1)).Nodup
 | .set S n=>h.SetOf (intKind P w) a S n
 | .ins C dx fs=>H dx=some (.own a)/\fs.length <= 1000/\dx ≠ a/\h.get? a=some (PySem.W.instObj C dx) /\
   ∃ mA,h.Ns1 dx mA/\(∀ f,RelO (fs.lookup f) (mA f))/\PySem.Within mA (fs.map (·.1))
 | .own _=>∃ o,h.get? a=some o
 | .xd fs=>∃ mA,h.Ns1 a mA/\∀ f,RelO (fs.lookup f) (mA f)
 | .rng lo hi=>∃ t u v,h.get? a=some { cls:=.type "range",data:=.fields #[.int lo t,.int hi u,.int 1 v] }
 | .frz o u=>h.get? a=some o/\a1h H h a u
 | .tbl ps=>h.get? a=some { cls:=.none,data:=.fields ps }
 | .met f x=>h.get? a=some (PySem.W.methodObj (.ref f) (.ref x))
 | .ext φ=>φ h/\(∃ o,h.get? a=some o)/\∀ h1 h2:Heap,φ h1->(∀ o,h1.get? a=some o->h2.get? a=some o)->φ h2
def HOk(H:Hp)(h:Heap):Prop:=∀ a o,H a=some o->a1h P w H h a o
end
section
variable{P:Program}{w:World}{H H':Hp}{h h':Heap}{a:Addr}{o:HO}
def a1h.lt(x:a1h P w H h a o):a < h.objs.size:=by
 cases o with
 | lst xs=>obtain⟨_,_,_,_,e⟩:=x;exact lt_size e
 | tup xs=>obtain⟨_,_,_,p⟩:=x;exact p.tup.lt
 | dK kvs=>obtain⟨_,_,_,_,o,_,_,e,_⟩:=x;exact lt_size e
 | dT kvs=>obtain⟨_,_,_,_,o,_,_,e,_⟩:=x;exact lt_size e
 | set S n=>obtain⟨o,_,_,_,e,_⟩:=x;exact lt_size e
 | ins C dx fs=>obtain⟨_,_,_,e,_⟩:=x;exact lt_size e
 | own y=>obtain⟨_,e⟩:=x;exact lt_size e
 | xd fs=>obtain⟨_,⟨_,_,_,e,_⟩,_⟩:=x;exact lt_size e
 | rng lo hi=>obtain⟨_,_,_,e⟩:=x;exact lt_size e
 | frz ob u=>obtain⟨e,_⟩:=x;exact lt_size e
 | tbl ps=>exact lt_size (show h.get? a=some _ from x)
 | met f y=>exact lt_size (show h.get? a=some _ from x)
 | ext φ=>obtain⟨_,⟨_,e⟩,_⟩:=x;exact lt_size e
def Paired.mapP{α β:Type}{F G:α->β->Prop}:∀ {l₁:List α} {l₂:List β},Paired F l₁ l₂->(∀ a b,F a b->G a b)->Paired G l₁ l₂
 | _,_,.nil,_=>.nil
 | _,_,.cons r t,f=>.cons (f _ _ r) (Paired.mapP t f)
def Paired.imp'{α β:Type}{F G:α->β->Prop}(f:∀ a b,F a b->G a b){l₁:List α}{l₂:List β}(r:Paired F l₁ l₂):Paired G l₁ l₂:=Paired.mapP r f
def a1h.stay(x:a1h P w H h a o)(k:∀ b u,(b=a ∨ H b=some (.own a))->h.get? b=some u->h'.get? b=some u)
  (ho:∀ b,H b=some (.own a)->H' b=some (.own a)) (ht:∀ b xs,H b=some (.tup xs)->H' b=some (.tup xs)):a1h P w H' h' a o:=by
 induction o with
 | lst xs=>obtain⟨z,its,n,r,e⟩:=x;exact⟨z,its,n,r,k _ _ (.inl rfl) e⟩
 | tup xs=>obtain⟨z,its,r,ob,e,c⟩:=x;exact⟨z,its,r,ob,k _ _ (.inl rfl) e,c⟩
 | dK kvs=>obtain⟨z,y,vs,r,ob,es,ep,e,c⟩:=x;exact⟨z,y,vs,r,ob,es,ep,k _ _ (.inl rfl) e,c⟩
 | dT kvs =>
  obtain⟨z,y,xs,r,ob,es,ep,e,c⟩:=x;exact⟨z,y,xs,Paired.mapP r fun p q z=>⟨z.1,ht _ _ z.2.1,z.2.2⟩,ob,es,ep,k _ _ (.inl rfl) e,c⟩
 | set S n=>obtain⟨ob,es,ep,t,e,c⟩:=x;exact⟨ob,es,ep,t,k _ _ (.inl rfl) e,c⟩
 | ins C dx fs =>
  obtain⟨d,z,ne,e,mA,⟨od,es,ep,e2,c⟩,r⟩:=x;exact⟨ho _ d,z,ne,k _ _ (.inl rfl) e,mA,⟨od,es,ep,k _ _ (.inr d) e2,c⟩,r⟩
 | own y=>obtain⟨ob,e⟩:=x;exact⟨ob,k _ _ (.inl rfl) e⟩
 | xd fs=>obtain⟨mA,⟨od,es,ep,e,c⟩,r⟩:=x;exact⟨mA,⟨od,es,ep,k _ _ (.inl rfl) e,c⟩,r⟩
 | rng lo hi=>obtain⟨t,u,v,e⟩:=x;exact⟨t,u,v,k _ _ (.inl rfl) e⟩
 | frz ob u ih=>obtain⟨e,q⟩:=x;exact⟨k _ _ (.inl rfl) e,ih q⟩
 | tbl ps =>
  have e:h.get? a=some { cls:=.none,data:=.fields ps }:=x;show h'.get? a=some { cls:=.none,data:=.fields ps };exact k a _ (.inl rfl) e
 | met f y =>
  have e:h.get? a=some (PySem.W.methodObj (.ref f) (.ref y)):=x;show h'.get? a=some (PySem.W.methodObj (.ref f) (.ref y));exact k a _ (.inl rfl) e
 | ext φ=>obtain⟨p,⟨o,e⟩,st⟩:=x;exact⟨st _ _ p fun o q=>k _ _ (.inl rfl) q,⟨o,k _ _ (.inl rfl) e⟩,st⟩
def HOk.lt(x:HOk P w H h)(e:H a=some o):a < h.objs.size:=(x a o e).lt
def HOk.fresh(x:HOk P w H h)(e:h.objs.size <= a):H a=none:=by
 cases q:H a with
 | none=>rfl
 | some u=>exact absurd (lt_of_lt_of_le (x.lt q) e) (lt_irrefl _)
def HOk.kept(x:HOk P w H h)(k:∀ b u,h.get? b=some u->h'.get? b=some u):HOk P w H h':=fun a o e =>
 (x a o e).stay (fun b u _ q=>k b u q) (fun _ q=>q) fun _ _ q=>q
def HOk.laid(x:HOk P w H h)(k:∀ b u,h.get? b=some u->h'.get? b=some u)(hp:h.objs.size <= a)(new:a1h P w (upd H a o) h' a o):HOk P w (upd H a o) h':=fun b u e=>by
 have hn:=x.fresh hp;by_cases hb:b=a
 ·subst hb;rw [a0d] at e;cases e;exact new
 ·rw [a0b hb] at e
  exact(x b u e).stay (fun c v _ q=>k c v q) (fun c q=>by rw [a0b (a0u q hn)];exact q) fun c xs q=>by rw [a0b (a0u q hn)];exact q
end
def Rd(H:Hp)(a:Addr)(u:HO):Prop:=H a=some u ∨ ∃ o,H a=some (.frz o u)
def Rd.ok{P:Program}{w:World}{H:Hp}{h:Heap}{a:Addr}{u:HO}(r:Rd H a u)(x:HOk P w H h):a1h P w H h a u:=by
 rcases r with r | ⟨o,r⟩
 ·exact x a u r
 ·obtain⟨_,q⟩:=x a _ r
  exact q
noncomputable def Mut:Option HO->Prop
 | some (.lst _)=>True
 | some (.dK _)=>True
 | some (.dT _)=>True
 | some (.set _ _)=>True
 | some (.ins _ _ _)=>True
 | some (.ext _)=>True
 | _=>False
section
variable{P:Program}{w:World}{H:Hp}{h h':Heap}{x e:Addr}{o':HO}
def HOk.write(ok:HOk P w H h)(mu:Mut (H x))(he:e=x ∨ H e=some (.own x))(k:∀ b u,b ≠ e->h.get? b=some u->h'.get? b=some u)(heo:∃ u,h'.get? e=some u)
  (new:a1h P w (upd H x o') h' x o'):HOk P w (upd H x o') h':=fun b u q=>by
 have nown:∀ c y,H c=some (.own y)->c ≠ x:=fun c y r z=>by subst z;rw [r] at mu;exact mu
 have ntup:∀ c xs,H c=some (.tup xs)->c ≠ x:=fun c xs r z=>by subst z;rw [r] at mu;exact mu
 by_cases hb:b=x
 ·subst hb;rw [a0d] at q;cases q;exact new
 ·rw [a0b hb] at q
  by_cases hbe:b=e
  ·have q':H b=some (.own x):=by
    rcases he with z | z
    ·exact absurd (hbe.trans z) hb
    ·rw [hbe];exact z
   rw [q] at q';cases q';obtain⟨v,hv⟩:=heo;exact⟨v,by rw [hbe];exact hv⟩
  ·refine(ok b u q).stay (fun c v hc r=>k c v ?_ r) (fun c r=>by rw [a0b (nown c b r)];exact r) fun c xs r=>by rw [a0b (ntup c xs r)];exact r
   rcases hc with rfl | hc
   ·exact hbe
   ·rintro rfl
    rcases he with z | z
    ·exact nown c b hc z
    ·rw [hc] at z;cases z;exact hb rfl
end
structure Un(fs ex:List Addr)(H H':Hp)(h h':Heap):Prop where
 keep:∀ b o,h.get? b=some o->H b=none->b ∉ fs->b ∉ ex->h'.get? b=some o
 slot:∀ b o,h.get? b=some o->H b=none->b ∈ fs->b ∉ ex->∃ sl,h'.get? b=some { o with slots:=sl }
 free:∀ b o,h.get? b=some o->H b=none->b ∉ ex->H' b=none
 there:∀ b o,h.get? b=some o->b ∉ ex->∃ o',h'.get? b=some o'
 tups:∀ b xs,H b=some (.tup xs)->H' b=some (.tup xs)
 frzs:∀ b o u,H b=some (.frz o u)->H' b=some (.frz o u)
 tbls:∀ b ps,H b=some (.tbl ps)->∃ more,H' b=some (.tbl (ps ++ more))
section
variable{fs fs' ex ex':List Addr}{H H1 H2:Hp}{h h1 h2 h':Heap}{a x e:Addr}{o:HO}
def Un.any(u:Un fs ex H H1 h h1){b:Addr}{ob:Obj}(q:h.get? b=some ob)(n:H b=none)(hx:b ∉ ex):∃ sl,h1.get? b=some { ob with slots:=sl }:=by
 by_cases hb:b ∈ fs
 ·exact u.slot b ob q n hb hx
 ·exact⟨ob.slots,u.keep b ob q n hb hx⟩
def Un.kept(k:∀ b u,h.get? b=some u->h'.get? b=some u):Un fs ex H H h h':=
 ⟨fun b ob q _ _ _=>k b ob q,fun b ob q _ _ _=>⟨ob.slots,k b ob q⟩,fun _ _ _ n _=>n,fun b ob q _=>⟨ob,k b ob q⟩,fun _ _ q=>q,fun _ _ _ q=>q,fun _ ps q=>⟨#[],by rw [q];simp⟩⟩
def Un.refl:Un fs ex H H h h:=Un.kept fun _ _ q=>q
def Un.laid(k:∀ b u,h.get? b=some u->h'.get? b=some u)(hp:h.objs.size <= a)(hn:H a=none):Un fs ex H (upd H a o) h h' where
 keep:=fun b u q _ _ _=>k b u q
 slot:=fun b u q _ _ _=>⟨u.slots,k b u q⟩
 free:=fun b u q n _=>by rw [a0b (ne_of_lt (lt_of_lt_of_le (lt_size q) hp))];exact n
 there:=fun b u q _=>⟨u,k b u q⟩
 tups:=fun b xs q=>by rw [a0b (a0u q hn)];exact q
 frzs:=fun b u xs q=>by rw [a0b (a0u q hn)];exact q
 tbls:=fun b ps q=>⟨#[],by rw [a0b (a0u q hn),q];simp⟩
def Un.write(mu:Mut (H x))(he:e=x ∨ H e=some (.own x))(k:∀ b u,b ≠ e->h.get? b=some u->h'.get? b=some u)(heo:∃ u,h'.get? e=some u):Un fs ex H (upd H x o) h h':=by
 have hx:∀ b,H b=none->b ≠ x:=fun b n z=>by subst z;rw [n] at mu;exact mu
 have hb:∀ b,H b=none->b ≠ e:=fun b n z=>by
  subst z;rcases he with r | r
  ·exact hx b n r
  ·rw [n] at r;cases r
 have hm:∀ b u,H b=some u->¬ Mut (some u)->b ≠ x:=fun b u q nm z=>by subst z;rw [q] at mu;exact nm mu
 refine⟨fun b u q n _ _=>k b u (hb b n) q,fun b u q n _ _=>⟨u.slots,k b u (hb b n) q⟩,fun b u q n _=>by rw [a0b (hx b n)];exact n,fun b u q _=>?_,
  fun b xs q=>by rw [a0b (hm b _ q fun z=>z)];exact q,fun b u xs q=>by rw [a0b (hm b _ q fun z=>z)];exact q,fun b ps q=>⟨#[],by rw [a0b (hm b _ q fun z=>z),q];simp⟩⟩
 by_cases hbe:b=e
 ·subst hbe;exact heo
 ·exact⟨u,k b u hbe q⟩
end
noncomputable def trk(h:Heap)(H:Hp):List Addr:=(List.range h.objs.size).filter fun a=>(H a).isSome
noncomputable def hidT(h:Heap)(H:Hp):Heap:=PySem.W.hideAll h (trk h H)
def c4j(h:Heap)(H:Hp):(hidT h H).objs.size=h.objs.size:=PySem.W.hideAll_size _ _
def c7z{h:Heap}{H:Hp}{b:Addr}{o:Obj}(e:h.get? b=some o)(n:H b=none):(hidT h H).get? b=some o:=
 PySem.W.hideAll_get _ e fun hm=>by
  have q:(H b).isSome=true:=(mem_filter.mp hm).2;rw [n] at q;simp at q
def d2q{h:Heap}{H:Hp}{b:Addr}{o:Obj}(e:(hidT h H).get? b=some o):h.get? b=some o/\H b=none:=by
 have e':h.get? b=some o:=PySem.W.of_hideAll (trk h H) e;refine⟨e',?_⟩;cases q:H b with
 | none=>rfl
 | some x =>
  have hm:b ∈ trk h H:=mem_filter.mpr ⟨mem_range.mpr (lt_size e'),by simp [q]⟩;have z:(hidT h H).get? b=none:=PySem.W.hideAll_none (trk h H) hm;rw [z] at e;cases e
noncomputable def d2r(g h:Heap)(L:Addr):List 'a':=(List.range h.objs.size).filterMap fun a=>if a=L ∨ (g.get? a).isSome=true then none else(h.get? a).map fun o=>(a,o)
noncomputable def rest(g h:Heap)(L d:Addr):List 'a':=(d2r g h L).filter fun p=>decide (p.1 ≠ d)
end L2
namespace L2
open PySem PySem.Spec PyProof.Rows
structure Mod(K:W.Frag)(mg:Str->Option Value)(base:Heap):Prop where
 kin:K.In base
 glob:base.Ns mainGlobals mg
 blt:∃ mb,base.Ns builtinsNs mb/\∀ x:Str,x ≠ "__name__" -> mb x=bootBuiltins x
 nolimit:base.NoLimit
structure Cx where
 prog:Program
 w:World
 K:W.Frag
 mg:Str->Option Value
 base:Heap
 A:Around
 N:List Str
 s₀:Shared
 H₀:Hp
 env:Env
 outer:List Env
 stack:List Env
 ex:List Addr
 fn:Str->Bool
 calm:Bool
 pn:List 'a'
 xe:Value->Shared->Prop
noncomputable def frs(l:List Env):List Addr:=l.filterMap (·.frame)
abbrev Cx.fs(X:Cx):List Addr:=frs X.outer
def Vis(sc:Scope)(x:Str):Prop:=sc.names.lookup x=some .local ∨ sc.names.lookup x=some .cell ∨ sc.names.lookup x=some .free
def Loc(sc:Scope)(x:Str):Prop:=sc.names.lookup x=some .local ∨ sc.names.lookup x=some .cell
def Look(env:Env)(h:Heap)(m:Str->Option Value)(x:Str)(u:Value):Prop:=
 (env.kindOf x=some .local/\m x=some u) ∨ ((env.kindOf x=some .cell ∨ env.kindOf x=some .free)/\∃ c,env.cells.lookup x=some c/\h.IsCell c (some u))
structure Cx.Ok(X:Cx):Prop where
 mod:Mod X.K X.mg X.base
 kind:X.env.scope.kind=.function
 glob:X.env.globals=mainGlobals
 blt:X.env.builtins=builtinsNs
 above:X.s₀.heap.objs.size <= X.env.locals
 inj:∀ x y c,X.env.cells.lookup x=some c->X.env.cells.lookup y=some c->x=y
 has:∀ x,(X.env.kindOf x=some .cell ∨ X.env.kindOf x=some .free)->∃ c,X.env.cells.lookup x=some c
 cab:∀ x c,X.fn x=true->X.env.cells.lookup x=some c->X.s₀.heap.objs.size <= c
 hd:X.calm=true->X.A.handled=none
 frames:X.A.frames=some X.stack
 stk:X.stack=X.outer ∨ (X.stack=X.env :: X.outer/\X.env.frame=some X.env.locals)
 exf:∀ b ∈ X.ex,b ≠ X.env.locals/\∀ x c,X.env.cells.lookup x=some c->c ≠ b
 bs:∀ b o,X.base.get? b=some o->X.s₀.heap.get? b=some o/\X.H₀ b=none
 bsz:X.base.objs.size <= X.s₀.heap.objs.size
 noex:∀ b o,X.base.get? b=some o->b ∉ X.ex
 exfs:∀ b ∈ X.ex,b ∉ X.fs
 funs:X.s₀.heap.FunFrames X.base X.outer
 frf:∀ b ∈ X.fs,X.H₀ b=none
structure Inv(X:Cx)(pins:List 'a')(σ:List (Option V))(H:Hp)(s:Shared):Prop where
 ok:X.Ok
 os:s.os=X.s₀.os
 bare:AllBare s.gens
 base:Un X.fs X.ex X.H₀ H X.s₀.heap s.heap
 loc:∃ m,s.heap.Ns X.env.locals m/\∀ (i:Nat) (x:Str) (v:V),X.N[i]? = some x->σ[i]? = some (some v)->Vis X.env.scope x->∃ u,RelV v u/\Look X.env s.heap m x u
 cell:∀ x c,X.env.cells.lookup x=some c->∃ v,s.heap.IsCell c v
 free:H X.env.locals=none
 freeC:∀ x c,X.env.cells.lookup x=some c->H c=none
 pin:∀ p ∈ X.pn ++ pins,s.heap.get? p.1=some p.2/\H p.1=none/\p.1 ≠ X.env.locals/\p.1 ∉ X.fs/\∀ v,p.2.data ≠ .cell v
 hok:HOk X.prog X.w H s.heap
 len:σ.length=X.N.length
section
variable{X:Cx}{pins:List 'a'}{σ:List (Option V)}{H H':Hp}{s:Shared}{h':Heap}
def Cx.Ok.nofr(ok:X.Ok){b:Addr}{o:Obj}(e:X.base.get? b=some o):b ∉ X.fs:=fun hb=>by
 have:=(ok.funs.mem hb).1;rw [e] at this;cases this
def Inv.bs(I:Inv X pins σ H s):∀ b o,X.base.get? b=some o->s.heap.get? b=some o/\H b=none:=fun b o e =>
 ⟨I.base.keep b o (I.ok.bs b o e).1 (I.ok.bs b o e).2 (I.ok.nofr e) (I.ok.noex b o e),I.base.free b o (I.ok.bs b o e).1 (I.ok.bs b o e).2 (I.ok.noex b o e)⟩
def Inv.bk(I:Inv X pins σ H s):∀ b o,X.base.get? b=some o->s.heap.get? b=some o:=fun b o e=>(I.bs b o e).1
def Inv.mod(I:Inv X pins σ H s):Mod X.K X.mg X.base:=I.ok.mod
def Inv.kIn(I:Inv X pins σ H s):X.K.In s.heap:=I.ok.mod.kin.keeps I.bk
def Inv.lt(I:Inv X pins σ H s):X.env.locals < s.heap.objs.size:=by obtain⟨_,hn,_⟩:=I.loc;exact hn.lt
def Inv.sz(I:Inv X pins σ H s):X.s₀.heap.objs.size <= s.heap.objs.size:=le_trans I.ok.above (le_of_lt I.lt)
def Inv.nofs(I:Inv X pins σ H s){a:Addr}(h:s.heap.objs.size <= a):a ∉ X.fs:=fun hb=>by
 obtain⟨_,o,ho,_⟩:=I.ok.funs.mem hb;exact absurd (lt_of_lt_of_le (lt_size ho) (le_trans I.sz h)) (lt_irrefl _)
def Inv.cne(I:Inv X pins σ H s):∀ x c,X.env.cells.lookup x=some c->c ≠ X.env.locals:=fun x c e z=>by
 obtain⟨v,o,ho,hd⟩:=I.cell x c e;obtain⟨m,⟨o',es,ep,ho',hd',_⟩,_⟩:=I.loc;rw [z,ho'] at ho;cases ho;rw [hd'] at hd;cases hd
def Inv.funs(I:Inv X pins σ H s):s.heap.FunFrames X.base X.outer:=by
 have all:∀ (l:List Env),(∀ b ∈ frs l,b ∈ X.fs)->X.s₀.heap.FunFrames X.base l->s.heap.FunFrames X.base l:=by
  intro l;induction l with
  | nil=>intro _ _;trivial
  | cons env r ih =>
   intro hs hl;obtain⟨hk,⟨L,o,hf,hn,ho,hd⟩,hr⟩:=hl;have hL:L ∈ X.fs:=hs L (by unfold frs;rw [List.filterMap_cons,hf];exact mem_cons_self);obtain⟨sl,e⟩:=I.base.slot L o ho (I.ok.frf L hL) hL fun z=>I.ok.exfs L z hL;exact⟨hk,⟨L,_,hf,hn,e,hd⟩,ih (fun b hb=>hs b (by unfold frs;rw [List.filterMap_cons,hf];exact mem_cons_of_mem _ hb)) hr⟩
 exact all X.outer (fun _ hb=>hb) I.ok.funs
def Inv.stack(I:Inv X pins σ H s):s.heap.FunFrames X.base X.stack:=by
 rcases I.ok.stk with e | ⟨e,hf⟩
 ·rw [e];exact I.funs
 ·rw [e]
  obtain⟨m,hn,_⟩:=I.loc;refine .cons (by rw [I.ok.kind];decide) hf hn ?_ I.funs;exact Heap.get?_none_of_le (le_trans I.ok.bsz I.ok.above)
def Inv.stkSub(I:Inv X pins σ H s):∀ b ∈ frs X.stack,b ∈ X.env.locals :: X.fs:=fun b hb=>by
 rcases I.ok.stk with e | ⟨e,hf⟩
 ·rw [e] at hb;exact mem_cons_of_mem _ hb
 ·rw [e] at hb
  unfold frs at hb;rw [List.filterMap_cons,hf] at hb;exact hb
def Inv.stkFree(I:Inv X pins σ H s):∀ b ∈ frs X.stack,H b=none:=fun b hb=>by
 rcases mem_cons.mp (I.stkSub b hb) with e | hb
 ·rw [e];exact I.free
 ·obtain⟨_,o,ho,_⟩:=I.ok.funs.mem hb
  exact I.base.free b o ho (I.ok.frf b hb) fun z=>I.ok.exfs b z hb
def Inv.step{g':Array GenState}{t':Nat}{d':Drawn}{ch:List Addr}(I:Inv X pins σ H s)
  (hch:∀ b ∈ ch,(b ∈ X.ex ∨ X.s₀.heap.objs.size <= b)/\b ≠ X.env.locals/\(∀ x c,X.env.cells.lookup x=some c->c ≠ b)/\∀ p ∈ X.pn ++ pins,p.1 ≠ b)
  (keep:∀ b o,b ≠ X.env.locals->b ∉ X.fs->b ∉ ch->s.heap.get? b=some o->H b=none->h'.get? b=some o)
  (slot:∀ b o,b ≠ X.env.locals->b ∈ X.fs->b ∉ ch->s.heap.get? b=some o->H b=none->∃ sl,h'.get? b=some { o with slots:=sl }) (free:∀ b o,b ∉ ch->s.heap.get? b=some o->H b=none->H' b=none)
  (there:∀ b o,b ∉ ch->s.heap.get? b=some o->∃ o',h'.get? b=some o')
  (tups:∀ b xs,H b=some (.tup xs)->H' b=some (.tup xs)) (frzs:∀ b o u,H b=some (.frz o u)->H' b=some (.frz o u)) (tbls:∀ b ps,H b=some (.tbl ps)->∃ more,H' b=some (.tbl (ps ++ more)))
  (ns:∀ m,s.heap.Ns X.env.locals m->h'.Ns X.env.locals m) (hok:HOk X.prog X.w H' h') (hg:AllBare g') :
  Inv X pins σ H' { s with heap:=h',gens:=g',drawn:=d',toks:=t' }:=by
 have neL:∀ b o,X.s₀.heap.get? b=some o->b ≠ X.env.locals:=fun b o e=>ne_of_lt (lt_of_lt_of_le (lt_size e) I.ok.above);have neC:∀ b o,X.s₀.heap.get? b=some o->b ∉ X.ex->b ∉ ch:=fun b o e hx hb=>by
  rcases (hch b hb).1 with z | z
  ·exact hx z
  ·exact absurd (lt_of_lt_of_le (lt_size e) z) (lt_irrefl _)
 have cellK:∀ x c,X.env.cells.lookup x=some c->∀ v,s.heap.IsCell c v->h'.IsCell c v:=fun x c e v hq8=>by
  obtain⟨o,ho,hd⟩:=hq8;have nch:c ∉ ch:=fun z=>(hch c z).2.2.1 x c e rfl;by_cases hc:c ∈ X.fs
  ·obtain⟨sl,q⟩:=slot c o (I.cne x c e) hc nch ho (I.freeC x c e)
   exact⟨_,q,hd⟩
  ·exact⟨o,keep c o (I.cne x c e) hc nch ho (I.freeC x c e),hd⟩
 refine⟨I.ok,I.os,hg,⟨fun b o e n hb hx=>?_,fun b o e n hb hx=>?_,fun b o e n hx=>?_,fun b o e hx=>?_,fun b xs e=>tups b xs (I.base.tups b xs e),fun b o xs e=>frzs b o xs (I.base.frzs b o xs e),fun b ps e=>?_⟩,?_,fun x c e=>?_,?_,fun x c e=>?_,fun p hp=>?_,hok,I.len⟩
 ·exact keep b o (neL b o e) hb (neC b o e hx) (I.base.keep b o e n hb hx) (I.base.free b o e n hx)
 ·obtain⟨sl,e1⟩:=I.base.slot b o e n hb hx
  obtain⟨sl',e2⟩:=slot b _ (neL b o e) hb (neC b o e hx) e1 (I.base.free b o e n hx);exact⟨sl',e2⟩
 ·obtain⟨o',e1⟩:=I.base.there b o e hx
  exact free b o' (neC b o e hx) e1 (I.base.free b o e n hx)
 ·obtain⟨o',e1⟩:=I.base.there b o e hx
  exact there b o' (neC b o e hx) e1
 ·obtain⟨m1,e1⟩:=I.base.tbls b ps e
  obtain⟨m2,e2⟩:=tbls b _ e1;exact⟨m1 ++ m2,by rw [e2,Array.append_assoc]⟩
 ·obtain⟨m,hn,hl⟩:=I.loc
  refine⟨m,ns m hn,fun i x v e1 e2 e3=>?_⟩;obtain⟨u,r,l⟩:=hl i x v e1 e2 e3;refine⟨u,r,?_⟩;rcases l with l | ⟨k,c,e,z⟩
  ·exact .inl l
  ·exact .inr ⟨k,c,e,cellK x c e _ z⟩
 ·obtain⟨v,z⟩:=I.cell x c e
  exact⟨v,cellK x c e v z⟩
 ·obtain⟨m,⟨o,_,_,ho,_⟩,_⟩:=I.loc
  exact free _ o (fun z=>(hch _ z).2.1 rfl) ho I.free
 ·obtain⟨v,o,ho,hd⟩:=I.cell x c e
  exact free c o (fun z=>(hch c z).2.2.1 x c e rfl) ho (I.freeC x c e)
 ·obtain⟨e,n,ne,nf,d⟩:=I.pin p hp
  have nch:p.1 ∉ ch:=fun z=>(hch p.1 z).2.2.2 p hp rfl;exact⟨keep p.1 p.2 ne nf nch e n,free p.1 p.2 nch e n,ne,nf,d⟩
def Inv.un{t':Nat}(I:Inv X pins σ H s)(u:Un X.fs [] H H' s.heap h')(hok:HOk X.prog X.w H' h'):Inv X pins σ H' { s with heap:=h',toks:=t' }:=by
 obtain⟨m,⟨o,es,ep,ho,r⟩,_⟩:=id I.loc;obtain⟨sl,hL⟩:=u.any ho I.free 'c';exact I.step (g':=s.gens) (d':=s.drawn) (ch:=[]) (fun _ z=>nomatch z) (fun b o _ hb _ e n=>u.keep b o e n hb 'c') (fun b o _ hb _ e n=>u.slot b o e n hb 'c') (fun b o _ e n=>u.free b o e n 'c') (fun b o _ e=>u.there b o e 'c') u.tups u.frzs u.tbls (fun m' hm=>by
  obtain⟨o',es',ep',ho',r'⟩:=hm;rw [ho] at ho';cases ho';exact⟨_,es',ep',hL,r'⟩) hok I.bare
def Inv.call{g':Array GenState}{t':Nat}{d':Drawn}{ch:List Addr}(I:Inv X pins σ H s)(u:Un (frs X.stack) ch H H' s.heap h')(hok:HOk X.prog X.w H' h')(hg:AllBare g')
  (hch:∀ b ∈ ch,(b ∈ X.ex ∨ X.s₀.heap.objs.size <= b)/\b ≠ X.env.locals/\(∀ x c,X.env.cells.lookup x=some c->c ≠ b)/\∀ p ∈ X.pn ++ pins,p.1 ≠ b) :
  Inv X pins σ H' { s with heap:=h',gens:=g',drawn:=d',toks:=t' }:=by
 obtain⟨m,⟨o,es,ep,ho,r⟩,_⟩:=id I.loc;obtain⟨sl,hL⟩:=u.any ho I.free fun z=>(hch _ z).2.1 rfl;exact I.step (ch:=ch) hch (fun b o hL hb hc e n=>u.keep b o e n (fun z=>(mem_cons.mp (I.stkSub b z)).elim hL hb) hc) (fun b o _ _ hc e n=>u.any e n hc) (fun b o hc e n=>u.free b o e n hc) (fun b o hc e=>u.there b o e hc) u.tups u.frzs u.tbls (fun m' hm=>by
  obtain⟨o',es',ep',ho',r'⟩:=hm;rw [ho] at ho';cases ho';exact⟨_,es',ep',hL,r'⟩) hok hg
def Inv.turned{t':Nat}{it:Addr}(I:Inv X pins σ H s)(k:∀ b o,b ≠ it->s.heap.get? b=some o->h'.get? b=some o)(hn:H it=none)(hL:it ≠ X.env.locals)
  (h1:it ∈ X.ex ∨ X.s₀.heap.objs.size <= it) (h2:∀ x c,X.env.cells.lookup x=some c->c ≠ it) (h3:∀ p ∈ X.pn ++ pins,p.1 ≠ it):Inv X pins σ H { s with heap:=h',toks:=t' }:=by
 have nit:∀ b u,H b=some u->b ≠ it:=fun b u e z=>by rw [z,hn] at e;cases e
 refine I.step (g':=s.gens) (d':=s.drawn) (ch:=[it]) (fun b hb=>?_) (fun b o _ _ hc e _=>k b o (fun z=>hc (by simp [z])) e) (fun b o _ _ hc e _=>⟨o.slots,k b o (fun z=>hc (by simp [z])) e⟩) (fun _ _ _ _ n=>n)
  (fun b o hc e=>⟨o,k b o (fun z=>hc (by simp [z])) e⟩) (fun _ _ e=>e) (fun _ _ _ e=>e) (fun b ps e=>⟨#[],by rw [e];simp⟩) (fun m hm=>?_) (fun b u e=>?_) I.bare
 ·have e:b=it:=by simpa using hb
  subst e;exact⟨h1,hL,h2,h3⟩
 ·obtain⟨o,es,ep,ho,r⟩:=hm
  exact⟨o,es,ep,k _ o (Ne.symm hL) ho,r⟩
 ·refine(I.hok b u e).stay (fun c v hc q=>k c v ?_ q) (fun _ q=>q) fun _ _ q=>q
  rcases hc with z | z
  ·rw [z];exact nit b u e
  ·exact nit c _ z
def Inv.tok(I:Inv X pins σ H s)(t:Nat):Inv X pins σ H { s with toks:=t }:=I.un (h':=s.heap) (t':=t) Un.refl I.hok
def Inv.kept{t':Nat}(I:Inv X pins σ H s)(k:∀ b u,s.heap.get? b=some u->h'.get? b=some u):Inv X pins σ H { s with heap:=h',toks:=t' }:=I.un (Un.kept k) (I.hok.kept k)
def Inv.laid{a:Addr}{o:HO}{t':Nat}(I:Inv X pins σ H s)(k:∀ b u,s.heap.get? b=some u->h'.get? b=some u)(hp:s.heap.objs.size <= a)(new:a1h X.prog X.w (upd H a o) h' a o) :
  Inv X pins σ (upd H a o) { s with heap:=h',toks:=t' }:=I.un (Un.laid k hp (I.hok.fresh hp)) (I.hok.laid k hp new)
def Inv.write{x e:Addr}{o:HO}{t':Nat}(I:Inv X pins σ H s)(mu:Mut (H x))(he:e=x ∨ H e=some (.own x))(k:∀ b u,b ≠ e->s.heap.get? b=some u->h'.get? b=some u)(heo:∃ u,h'.get? e=some u)
  (new:a1h X.prog X.w (upd H x o) h' x o):Inv X pins σ (upd H x o) { s with heap:=h',toks:=t' }:=I.un (Un.write mu he k heo) (I.hok.write mu he k heo new)
def Inv.pins_of{pins':List 'a'}(I:Inv X pins σ H s)(h:∀ p ∈ pins',s.heap.get? p.1=some p.2/\H p.1=none/\p.1 ≠ X.env.locals/\p.1 ∉ X.fs/\∀ v,p.2.data ≠ .cell v):Inv X pins' σ H s:=
 ⟨I.ok,I.os,I.bare,I.base,I.loc,I.cell,I.free,I.freeC,fun p hp=>(mem_append.mp hp).elim (fun z=>I.pin p (List.mem_append_left _ z)) (h p),I.hok,I.len⟩
def b2c{N:List Str}(hN:N.Nodup){i j:Nat}{x:Str}(a:N[i]? = some x)(b:N[j]? = some x):i=j:=by
 obtain⟨h1,e1⟩:=List.getElem?_eq_some_iff.mp a;obtain⟨h2,e2⟩:=List.getElem?_eq_some_iff.mp b;exact(List.getElem_inj hN).mp (e1.trans e2.symm)
def b4w{M:Model}{A:Around}{E:Value->Shared->Prop}{i:Nat}{x:Str}{v:V}{u:Value}{Q:Unit->Shared->Prop}(I:Inv X pins σ H s)(hN:X.N.Nodup)(hi:X.N[i]? = some x)(hx:Loc X.env.scope x)(r:RelV v u)
  (h:∀ s',Inv X pins (σ.set i (some v)) H s'->(∃ a,Heap.SameBut a s.heap s'.heap/\(a=X.env.locals ∨ X.env.cells.lookup x=some a))->Q () s') (hf:X.fn x=true ∨ X.env.scope.names.lookup x=some .local:=by first | exact .inl rfl | exact .inr rfl | assumption):wpAny M A (storeName X.env x u) Q E s:=by
 obtain⟨m,hn,hl⟩:=id I.loc;have hcls:(X.env.scope.kind == .class || (X.env.scope.kind == .module && X.env.locals != X.env.globals))=false:=by rw [I.ok.kind];rfl
 have hiσ:i < σ.length:=by rw [I.len];exact(List.getElem?_eq_some_iff.mp hi).1
 have cne:=I.cne;have tracked:∀ {a:Addr} {h':Heap},(∃ o,s.heap.get? a=some o/\H a=none)->Heap.SameBut a s.heap h'->HOk X.prog X.w H h':=fun{a h'} ha hs b ob e=>by
  obtain⟨_,_,hfree⟩:=ha;refine(I.hok b ob e).stay (fun c w' hc q=>(hs.2 c ?_).trans q) (fun _ q=>q) fun _ _ q=>q;rintro rfl;rcases hc with rfl | hc
  ·rw [hfree] at e;cases e
  ·rw [hfree] at hc;cases hc
 rcases hx with hk | hk
 ·refine wpAny_storeName_local hk hn (fun h' hn' hs=>?_) hcls
  obtain⟨oL,_,_,hoL,_⟩:=id hn;refine h _ ⟨I.ok,I.os,I.bare,⟨fun b o e n hb hx=>?_,fun b o e n hb hx=>?_,I.base.free,fun b o e hx=>?_,I.base.tups,I.base.frzs,I.base.tbls⟩,⟨_,hn',fun j y v' e1 e2 e3=>?_⟩,fun y c e=>?_,I.free,I.freeC,fun p hp=>?_,tracked ⟨oL,hoL,I.free⟩ hs,by simpa using I.len⟩ ⟨_,hs,.inl rfl⟩
  ·exact(hs.2 b (ne_of_lt (lt_of_lt_of_le (lt_size e) I.ok.above))).trans (I.base.keep b o e n hb hx)
  ·obtain⟨sl,e1⟩:=I.base.slot b o e n hb hx
   exact⟨sl,(hs.2 b (ne_of_lt (lt_of_lt_of_le (lt_size e) I.ok.above))).trans e1⟩
  ·obtain⟨o',e1⟩:=I.base.there b o e hx
   exact⟨o',(hs.2 b (ne_of_lt (lt_of_lt_of_le (lt_size e) I.ok.above))).trans e1⟩
  ·by_cases hj:j=i
   ·subst hj
    rw [hi] at e1;cases e1;rw [getElem?_set_self hiσ] at e2;cases e2;exact⟨u,r,.inl ⟨hk,by simp⟩⟩
   ·rw [getElem?_set_ne (Ne.symm hj)] at e2
    obtain⟨u',r',q⟩:=hl j y v' e1 e2 e3;refine⟨u',r',?_⟩;rcases q with⟨k,e⟩ | ⟨k,c,e,z⟩
    ·refine .inl ⟨k,?_⟩
     have:y ≠ x:=fun e=>hj (b2c hN e1 (e ▸ hi));simp [this,e]
    ·exact .inr ⟨k,c,e,z.sameBut hs (cne y c e)⟩
  ·obtain⟨w',z⟩:=I.cell y c e
   exact⟨w',z.sameBut hs (cne y c e)⟩
  ·obtain⟨e,n,ne,nf,d⟩:=I.pin p hp
   exact⟨(hs.2 p.1 ne).trans e,n,ne,nf,d⟩
 ·have hfn:X.fn x=true:=by
   rcases hf with z | z
   ·exact z
   ·rw [z] at hk;cases hk
  obtain⟨c,hc⟩:=I.ok.has x (.inl hk);obtain⟨w',z⟩:=I.cell x c hc;refine wpAny_storeName_cell I.ok.kind hk hc z (fun h' hc' hs=>?_);obtain⟨oc,hoc,hocd⟩:=id z;refine h { s with heap:=h' } ⟨I.ok,I.os,I.bare,⟨fun b o e n hb hx=>?_,fun b o e n hb hx=>?_,I.base.free,fun b o e hx=>?_,I.base.tups,I.base.frzs,I.base.tbls⟩,⟨m,hn.sameBut hs (Ne.symm (cne x c hc)),fun j y v' e1 e2 e3=>?_⟩,fun y c' e=>?_,I.free,I.freeC,fun p hp=>?_,tracked ⟨oc,hoc,I.freeC x c hc⟩ hs,by simpa using I.len⟩ ⟨c,hs,.inr hc⟩
  ·exact(hs.2 b (ne_of_lt (lt_of_lt_of_le (lt_size e) (I.ok.cab x c hfn hc)))).trans (I.base.keep b o e n hb hx)
  ·obtain⟨sl,e1⟩:=I.base.slot b o e n hb hx
   exact⟨sl,(hs.2 b (ne_of_lt (lt_of_lt_of_le (lt_size e) (I.ok.cab x c hfn hc)))).trans e1⟩
  ·obtain⟨o',e1⟩:=I.base.there b o e hx
   exact⟨o',(hs.2 b (ne_of_lt (lt_of_lt_of_le (lt_size e) (I.ok.cab x c hfn hc)))).trans e1⟩
  ·by_cases hj:j=i
   ·subst hj
    rw [hi] at e1;cases e1;rw [getElem?_set_self hiσ] at e2;cases e2;exact⟨u,r,.inr ⟨.inl hk,c,hc,hc'⟩⟩
   ·rw [getElem?_set_ne (Ne.symm hj)] at e2
    obtain⟨u',r',q⟩:=hl j y v' e1 e2 e3;refine⟨u',r',?_⟩;rcases q with q | ⟨k,c',e,z'⟩
    ·exact .inl q
    ·refine .inr ⟨k,c',e,z'.sameBut hs ?_⟩
     rintro rfl;exact hj (b2c hN e1 (I.ok.inj _ _ _ e hc ▸ hi))
  ·by_cases hcc:c'=c
   ·subst hcc;exact⟨_,hc'⟩
   ·obtain⟨w2,z2⟩:=I.cell y c' e
    exact⟨w2,z2.sameBut hs hcc⟩
  ·obtain⟨e,n,ne,nf,d⟩:=I.pin p hp
   refine⟨(hs.2 p.1 ?_).trans e,n,ne,nf,d⟩;intro q;rw [q,hoc] at e;have q':oc=p.2:=Option.some.inj e;exact d w' (by rw [← q'];exact hocd)
def a8r{M:Model}{A:Around}{E:Value->Shared->Prop}{i:Nat}{x:Str}{v:V}{u:Value}{Q:Unit->Shared->Prop}(I:Inv X pins σ H s)(hN:X.N.Nodup)(hi:X.N[i]? = some x)(hx:Loc X.env.scope x)(r:RelV v u)
  (h:∀ s',Inv X pins (σ.set i (some v)) H s'->Q () s') (hf:X.fn x=true ∨ X.env.scope.names.lookup x=some .local:=by first | exact .inl rfl | exact .inr rfl | assumption):wpAny M A (storeName X.env x u) Q E s:=
 b4w I hN hi hx r (fun s' I' _=>h s' I') hf
def Inv.call'{s':Shared}{ch:List Addr}(I:Inv X pins σ H s)(ho:s'.os=s.os)(u:Un (frs X.stack) ch H H' s.heap s'.heap)(hok:HOk X.prog X.w H' s'.heap)(hg:AllBare s'.gens)
  (hch:∀ b ∈ ch,(b ∈ X.ex ∨ X.s₀.heap.objs.size <= b)/\b ≠ X.env.locals/\(∀ x c,X.env.cells.lookup x=some c->c ≠ b)/\∀ p ∈ X.pn ++ pins,p.1 ≠ b):Inv X pins σ H' s':=by
 obtain⟨h',g',d',t',o'⟩:=s';have e:o'=s.os:=ho;subst e;exact I.call (g':=g') (t':=t') (d':=d') u hok hg hch
end
abbrev XK:=Value->Option Addr->Hp->Prop
abbrev St:=List (Option V)
abbrev VK:=V->Hp->Prop
abbrev TE:=St->Hp->VK->Prop
abbrev TT:=St->Hp->(Bool->Hp->Prop)->Prop
abbrev TA:=St->Hp->(List V->Hp->Prop)->Prop
structure Ends where
 nx:St->Hp->Prop
 rt:VK
 bk:St->Hp->Prop:=fun _ _=>False
 ct:St->Hp->Prop:=fun _ _=>False
abbrev TS:=Ends->St->Hp->Prop
def EP(X:Cx)(pins:List 'a')(σ:St)(Q:VK)(u:Value)(s':Shared):Prop:=∃ v H',Inv X pins σ H' s'/\RelV v u/\Q v H'
def TP(X:Cx)(pins:List 'a')(σ:St)(Q:Bool->Hp->Prop)(b:Bool)(s':Shared):Prop:=∃ H',Inv X pins σ H' s'/\Q b H'
def AP(X:Cx)(pins:List 'a')(σ:St)(Q:List V->Hp->Prop)(us:List Value)(s':Shared):Prop:=∃ vs H',Inv X pins σ H' s'/\Vals vs us/\Q vs H'
def SP(X:Cx)(pins:List 'a')(D:Ends)(f:Flow)(s':Shared):Prop:=
 match f with
 | .next=>∃ σ' H',Inv X pins σ' H' s'/\D.nx σ' H'
 | .brk=>∃ σ' H',Inv X pins σ' H' s'/\D.bk σ' H'
 | .cont=>∃ σ' H',Inv X pins σ' H' s'/\D.ct σ' H'
 | .ret u=>∃ v σ' H',Inv X pins σ' H' s'/\RelV v u/\D.rt v H'
def PE(X:Cx)(e:Expr)(t:TE):Prop:=
 ∀ (pins:List 'a') (s:Shared) (σ:St) (H:Hp) (Q:VK),Inv X pins σ H s->t σ H Q->wpAny (model X.prog X.w) X.A (eval e X.env) (EP X pins σ Q) X.xe s
def PT(X:Cx)(e:Expr)(t:TT):Prop:=
 ∀ (pins:List 'a') (s:Shared) (σ:St) (H:Hp) (Q:Bool->Hp->Prop),Inv X pins σ H s->t σ H Q->wpAny (model X.prog X.w) X.A (isTrue e X.env (eval e X.env)) (TP X pins σ Q) X.xe s
def PW(X:Cx)(e:Expr)(t:TT):Prop:=
 ∀ (whole:Sem Value) (pins:List 'a') (s:Shared) (σ:St) (H:Hp) (Q:Bool->Hp->Prop),Inv X pins σ H s->t σ H Q->wpAny (model X.prog X.w) X.A (isTrue e X.env whole) (TP X pins σ Q) X.xe s
def PW.pt{X:Cx}{e:Expr}{t:TT}(h:PW X e t):PT X e t:=h _
def PA(X:Cx)(es:List Expr)(t:TA):Prop:=
 ∀ (pos:Pos) (pins:List 'a') (s:Shared) (σ:St) (H:Hp) (Q:List V->Hp->Prop),Inv X pins σ H s->t σ H Q->wpAny (model X.prog X.w) X.A (spliced (backTo pos (starEach es X.env))) (AP X pins σ Q) X.xe s
def PS(X:Cx)(st:Stmt)(t:TS):Prop:=
 ∀ (pins:List 'a') (s:Shared) (σ:St) (H:Hp) (D:Ends),Inv X pins σ H s->t D σ H->wpAny (model X.prog X.w) X.A (exec st X.env) (SP X pins D) X.xe s
def PSs(X:Cx)(st:List Stmt)(t:TS):Prop:=
 ∀ (pins:List 'a') (s:Shared) (σ:St) (H:Hp) (D:Ends),Inv X pins σ H s->t D σ H->wpAny (model X.prog X.w) X.A (execs st X.env) (SP X pins D) X.xe s
def thn{α:Type}{t:Sem α}{Q Q':α->Shared->Prop}{M:Model}{A:Around}{E:Value->Shared->Prop}{s:Shared}(h:wpAny M A t Q E s)(hQ:∀ a s,Q a s->Q' a s):wpAny M A t Q' E s:=wpAny_mono h hQ fun _ _ x=>x
end L2
namespace L2
open PySem PySem.Spec PyProof.Rows
section
variable{X:Cx}
def tVar(i:Nat):TE:=fun σ H Q=>∃ v,σ[i]? = some (some v)/\Q v H
def tC(v:V):TE:=fun _ H Q=>Q v H
def a8g{i:Nat}{x:Str}{pos:Pos}(hN:X.N[i]? = some x)(hv:Vis X.env.scope x) (hd:(x == ("__debug__" : Str))=false:=by decide) (hcd:(x == ("__classdict__" : Str))=false:=by decide):PE X (.Name x pos) (tVar i):=by
 intro pins s σ H Q I h;obtain⟨v,e,h⟩:=h;obtain⟨m,hn,hl⟩:=I.loc;obtain⟨u,r,l⟩:=hl i x v hN e hv;have fin:EP X pins σ Q u s:=⟨v,H,I,r,h⟩;rcases l with⟨hk,hm⟩ | ⟨hk,c,hc,hcell⟩
 ·exact wpAny_Name (wpAny_loadName_local I.ok.kind hk hn hm fin) hd
 ·rcases hk with hk | hk
  ·exact wpAny_Name (wpAny_loadName_cell I.ok.kind hk hc hcell fin) hd
  ·exact wpAny_Name (wpAny_loadName_free I.ok.kind hk hc hcell fin hcd) hd
def a0t{i j pos}:PE X (.Constant (.int i) j pos) (tC (.int i)):=fun _ _ _ H _ I h=>wpAny_Constant_int ⟨.int i,H,I.tok _,⟨_,rfl⟩,h⟩
def d1h{b j pos}:PE X (.Constant (.bool b) j pos) (tC (.bl b)):=fun _ _ _ H _ I h=>Constant_bool ⟨.bl b,H,I,rfl,h⟩
def b6q{j pos}:PE X (.Constant .none j pos) (tC .non):=fun _ _ _ H _ I h=>Constant_none ⟨.non,H,I,rfl,h⟩
def c4k{x j pos}:PE X (.Constant (.str x) j pos) (tC (.str x)):=fun _ _ _ H _ I h=>Calls.Constant_str ⟨.str x,H,I.tok _,⟨_,rfl⟩,h⟩
def Gl(X:Cx)(x:Str):Prop:=X.env.kindOf x=some .globalImplicit
def a7f{E:Value->Shared->Prop}{pins:List 'a'}{s:Shared}{σ:St}{H:Hp}{x:Str}{u:Value}{pos:Pos}{Q:Value->Shared->Prop}(I:Inv X pins σ H s)(hg:Gl X x)(hm:X.mg x=some u)(h:Q u s)
  (hd:(x == ("__debug__" : Str))=false:=by decide):wpAny (model X.prog X.w) X.A (eval (.Name x pos) X.env) Q E s:=
 Calls.Name_function_global I.ok.kind hg (Calls.loadGlobal_global (by rw [I.ok.glob];exact I.mod.glob.keeps I.bk) hm h) hd
def a4k{E:Value->Shared->Prop}{pins:List 'a'}{s:Shared}{σ:St}{H:Hp}{x:Str}{u:Value}{pos:Pos}{Q:Value->Shared->Prop}(I:Inv X pins σ H s)(hg:Gl X x)(hm:X.mg x=none)(hv:bootBuiltins x=some u)(h:Q u s)
  (hn:x ≠ "__name__":=by decide) (hd:(x == ("__debug__" : Str))=false:=by decide):wpAny (model X.prog X.w) X.A (eval (.Name x pos) X.env) Q E s:=by
 obtain⟨mb,h1,h2⟩:=I.mod.blt;exact Calls.Name_function_global I.ok.kind hg (Calls.loadGlobal_builtin (by rw [I.ok.glob];exact I.mod.glob.keeps I.bk) hm (by rw [I.ok.blt];exact h1.keeps I.bk) ((h2 x hn).trans hv) h) hd
def a4z{x:Str}{v:V}{u:Value}{pos:Pos}(hg:Gl X x)(hm:X.mg x=some u)(r:RelV v u) (hd:(x == ("__debug__" : Str))=false:=by decide):PE X (.Name x pos) (tC v):=
 fun _ _ _ H _ I h=>a7f I hg hm ⟨v,H,I,r,h⟩ hd
def d2s{x:Str}{v:V}{u:Value}{pos:Pos}(hg:Gl X x)(hm:X.mg x=none)(hv:bootBuiltins x=some u)(r:RelV v u) (hn:x ≠ "__name__":=by decide) (hd:(x == ("__debug__" : Str))=false:=by decide):PE X (.Name x pos) (tC v):=
 fun _ _ _ H _ I h=>a4k I hg hm hv ⟨v,H,I,r,h⟩ hn hd
variable{a b:Expr}{ta tb:TE}{pos:Pos}
def tB(t:TE):TT:=fun σ H Q=>t σ H fun x H1=>∃ c,x=.bl c/\Q c H1
def a9s{e:Expr}{t:TE}(h:PE X e t)(he:∀ whole,isTrue e X.env whole=(do let v ← whole;standAt e.pos;holding [v] (truthy v)):=by intro _;rfl):PT X e (tB t):=by
 intro pins s σ H Q I hw;refine isTrue_plain (thn (h pins s σ H _ I hw) fun v s1 hq8=>?_) (he _);obtain⟨x,H1,I1,r1,q1⟩:=hq8;obtain⟨d,rfl,q⟩:=q1;cases r1;exact wpAny_truthy_bool ⟨H1,I1,q⟩
variable{tA tB':TT}{rest:List Expr}
def tAnd(t u:TT):TT:=fun σ H Q=>t σ H fun c H1=>if c=true then u σ H1 Q else Q false H1
def tOr(t u:TT):TT:=fun σ H Q=>t σ H fun c H1=>if c=true then Q true H1 else u σ H1 Q
def tNot(t:TT):TT:=fun σ H Q=>t σ H fun c H1=>Q (!c) H1
def d2t(ha:PT X a tA):PW X (.BoolOp .And [a] pos) tA:=by
 intro wh pins s σ H Q I h;refine isTrue_and (thn (ha pins s σ H Q I h) fun c s1 e=>?_);cases c with
 | true=>exact isTrue_and_nil e
 | false=>exact e
def d6y(ha:PT X a tA):PW X (.BoolOp .Or [a] pos) tA:=by
 intro wh pins s σ H Q I h;refine isTrue_or (thn (ha pins s σ H Q I h) fun c s1 e=>?_);cases c with
 | false=>exact isTrue_or_nil e
 | true=>exact e
def c4l(ha:PT X a tA)(hb:PW X (.BoolOp .And (b :: rest) pos) tB'):PW X (.BoolOp .And (a :: b :: rest) pos) (tAnd tA tB'):=by
 intro wh pins s σ H Q I h;refine isTrue_and (thn (ha pins s σ H _ I h) fun c s1 hq9=>?_);obtain⟨H1,I1,q1⟩:=hq9;cases c with
 | true=>exact hb wh pins s1 σ H1 Q I1 q1
 | false=>exact⟨H1,I1,q1⟩
def pw_or(ha:PT X a tA)(hb:PW X (.BoolOp .Or (b :: rest) pos) tB'):PW X (.BoolOp .Or (a :: b :: rest) pos) (tOr tA tB'):=by
 intro wh pins s σ H Q I h;refine isTrue_or (thn (ha pins s σ H _ I h) fun c s1 hq9=>?_);obtain⟨H1,I1,q1⟩:=hq9;cases c with
 | true=>exact⟨H1,I1,q1⟩
 | false=>exact hb wh pins s1 σ H1 Q I1 q1
def d6z(ha:PT X a tA):PT X (.UnaryOp .Not a pos) (tNot tA):=by
 intro pins s σ H Q I h;exact isTrue_not (ha pins s σ H (fun c H1=>Q (!c) H1) I h)
def tIf(t:TT)(ta tb:TE):TE:=fun σ H Q=>t σ H fun c H1=>if c=true then ta σ H1 Q else tb σ H1 Q
end
end L2
namespace L2
open PySem PySem.Spec PyProof.Rows
def SqL(K:W.Frag)(H:Hp)(a:Addr)(xs:List V):Prop:=
 Rd H a (.lst xs) ∨
  ∃ (o:Obj) (its:Array Value) (n:Nat),K.lookup a=some o/\o.cls=.type "list" /\ o.dict=none/\o.data=.seq its n/\its.size <= sizeLine/\Vals xs its.toList
def SqT(K:W.Frag)(H:Hp)(a:Addr)(xs:List V):Prop:=
 Rd H a (.tup xs) ∨
  ∃ (o:Obj) (its:Array Value) (n:Nat),K.lookup a=some o/\(o.cls=.type "tuple" /\ o.dict=none)/\o.data=.seq its n/\its.size <= sizeLine/\Vals xs its.toList
noncomputable def absV:Value->Option V
 | .none=>some .non
 | .bool b=>some (.bl b)
 | .int i _=>some (.int i)
 | .str x _=>some (.str x)
 | .bytes b _=>some (.byt b)
 | .float b _=>some (.flt b)
 | .ref a=>some (.ref a)
 | .type n=>some (.ty n)
 | _=>none
def RelV.abs{x:V}{u:Value}(r:RelV x u):absV u=some x:=by
 cases x with
 | non=>cases r;rfl
 | bl _=>cases r;rfl
 | int _=>obtain⟨t,rfl⟩:=r;rfl
 | str _=>obtain⟨t,rfl⟩:=r;rfl
 | byt _=>obtain⟨t,rfl⟩:=r;rfl
 | flt _=>obtain⟨t,rfl⟩:=r;rfl
 | ref _=>cases r;rfl
 | ty _=>cases r;rfl
def RelV.inj{x y:V}{u:Value}(r:RelV x u)(q:RelV y u):x=y:=Option.some.inj (r.abs.symm.trans q.abs)
def Vals.inj:∀ {xs ys:List V} {us:List Value},Vals xs us->Vals ys us->xs=ys
 | _,_,_,.nil,.nil=>rfl
 | _,_,_,.cons r t,.cons r' t'=>by rw [r.inj r',Vals.inj t t']
section
variable{X:Cx}{pins:List 'a'}{σ:St}{H:Hp}{s:Shared}{a:Addr}{xs ys:List V}
def SqL.of{K:W.Frag}(h:H a=some (.lst xs)):SqL K H a xs:=.inl (.inl h)
def SqT.of{K:W.Frag}(h:H a=some (.tup xs)):SqT K H a xs:=.inl (.inl h)
def Inv.list(I:Inv X pins σ H s)(h:SqL X.K H a xs):∃ its:List Value,Vals xs its/\PlainL s.heap a its.toArray/\xs.length <= sizeLine:=by
 rcases h with h | ⟨o,its,n,hk,hc,hd,hs,hz,r⟩
 ·obtain⟨z,its,n,r,e⟩:=h.ok I.hok
  exact⟨its,r,⟨_,n,e,rfl,rfl,rfl⟩,z⟩
 ·refine⟨its.toList,r,⟨o,n,I.kIn a o hk,hc,hd,by simpa using hs⟩,?_⟩
  have e:=r.length;simp only [length_toList] at e;omega
def Inv.tupleP(I:Inv X pins σ H s)(h:SqT X.K H a xs):∃ its:List Value,Vals xs its/\a3k s.heap a its.toArray/\xs.length <= sizeLine:=by
 rcases h with h | ⟨o,its,n,hk,hc,hs,hz,r⟩
 ·obtain⟨z,its,r,p⟩:=h.ok I.hok
  exact⟨its,r,p,z⟩
 ·refine⟨its.toList,r,⟨o,I.kIn a o hk,hc,n,by simpa using hs⟩,?_⟩
  have e:=r.length;simp only [length_toList] at e;omega
def Inv.tuple(I:Inv X pins σ H s)(h:SqT X.K H a xs):∃ its:List Value,Vals xs its/\IsTup s.heap a its.toArray/\xs.length <= sizeLine:=by obtain⟨its,r,p,z⟩:=I.tupleP h;exact⟨its,r,p.tup,z⟩
def Inv.list_inj(I:Inv X pins σ H s)(h:SqL X.K H a xs)(h':SqL X.K H a ys):xs=ys:=by
 obtain⟨its,r,⟨o,n,e,_,_,d⟩,_⟩:=I.list h;obtain⟨its',r',⟨o',n',e',_,_,d'⟩,_⟩:=I.list h';rw [e] at e';cases e';rw [d] at d';injection d' with d1 _
 have:its=its':=by simpa using congrArg Array.toList d1
 subst this;exact r.inj r'
def Inv.tuple_inj(I:Inv X pins σ H s)(h:SqT X.K H a xs)(h':SqT X.K H a ys):xs=ys:=by
 obtain⟨its,r,⟨o,e,_,n,d⟩,_⟩:=I.tuple h;obtain⟨its',r',⟨o',e',_,n',d'⟩,_⟩:=I.tuple h';rw [e] at e';cases e';rw [d] at d';injection d' with d1 _
 have:its=its':=by simpa using congrArg Array.toList d1
 subst this;exact r.inj r'
end
abbrev Cx.wish(X:Cx)(E:Value->Shared->Prop):Cx:={ X with xe:=E }
abbrev Cx.nox(X:Cx):Cx:=X.wish fun _ _=>False
def Cx.Ok.wish{X:Cx}(ok:X.Ok)(E:Value->Shared->Prop):(X.wish E).Ok:=
 ⟨ok.mod,ok.kind,ok.glob,ok.blt,ok.above,ok.inj,ok.has,ok.cab,ok.hd,ok.frames,ok.stk,ok.exf,ok.bs,ok.bsz,ok.noex,ok.exfs,ok.funs,ok.frf⟩
def Cx.Ok.unwish{X:Cx}{E:Value->Shared->Prop}(ok:(X.wish E).Ok):X.Ok:=
 ⟨ok.mod,ok.kind,ok.glob,ok.blt,ok.above,ok.inj,ok.has,ok.cab,ok.hd,ok.frames,ok.stk,ok.exf,ok.bs,ok.bsz,ok.noex,ok.exfs,ok.funs,ok.frf⟩
section
variable{X:Cx}{pins:List 'a'}{σ:St}{H:Hp}{s:Shared}{E:Value->Shared->Prop}
def Inv.wish(I:Inv X pins σ H s)(E:Value->Shared->Prop):Inv (X.wish E) pins σ H s:=⟨I.ok.wish E,I.os,I.bare,I.base,I.loc,I.cell,I.free,I.freeC,I.pin,I.hok,I.len⟩
def Inv.unwish(I:Inv (X.wish E) pins σ H s):Inv X pins σ H s:=⟨I.ok.unwish,I.os,I.bare,I.base,I.loc,I.cell,I.free,I.freeC,I.pin,I.hok,I.len⟩
def SP.unwish{D:Ends}{f:Flow}{s':Shared}(h:SP (X.wish E) pins D f s'):SP X pins D f s':=by
 cases f with
 | next=>obtain⟨σ',H',I,q⟩:=h;exact⟨σ',H',I.unwish,q⟩
 | brk=>obtain⟨σ',H',I,q⟩:=h;exact⟨σ',H',I.unwish,q⟩
 | cont=>obtain⟨σ',H',I,q⟩:=h;exact⟨σ',H',I.unwish,q⟩
 | ret u=>obtain⟨v,σ',H',I,r,q⟩:=h;exact⟨v,σ',H',I.unwish,r,q⟩
def PT.nox{e:Expr}{t:TT}(h:PT X.nox e t):PT X e t:=fun pins s σ H Q I hw =>
 wpAny_mono (h pins s σ H Q (I.wish _) hw) (fun _ _ hq8=>by obtain⟨H',I',q⟩:=hq8;exact⟨H',I'.unwish,q⟩) fun _ _ z=>False.elim z
def PSs.nox{st:List Stmt}{t:TS}(h:PSs X.nox st t):PSs X st t:=fun pins s σ H D I hw =>
 wpAny_mono (h pins s σ H D (I.wish _) hw) (fun _ _ q=>q.unwish) fun _ _ z=>False.elim z
end
section
variable{X:Cx}{st:Stmt}{rest:List Stmt}{t u:TS}{e:Expr}{te:TE}{pos:Pos}
def d1i:TS:=fun D σ H=>D.nx σ H
def tSeq(t u:TS):TS:=fun D σ H=>t { D with nx:=u D } σ H
def a4e:PSs X [] d1i:=fun _ _ σ H _ I h=>wpAny_execs_nil ⟨σ,H,I,h⟩
def a0o(h1:PS X st t)(h2:PSs X rest u):PSs X (st :: rest) (tSeq t u):=by
 intro pins s σ H D I h;refine wpAny_execs_cons (thn (h1 pins s σ H { D with nx:=u D } I h) fun f s1 q=>?_);cases f with
 | next =>
  obtain⟨σ',H',I',q⟩:=q;exact h2 pins s1 σ' H' D I' q
 | ret v=>exact q
 | brk=>exact q
 | cont=>exact q
def a0z(h1:PS X st t):PSs X [st] t:=by
 intro pins s σ H D I h;refine wpAny_execs_cons (thn (h1 pins s σ H D I h) fun f s1 q=>?_);cases f with
 | next=>exact wpAny_execs_nil q
 | ret v=>exact q
 | brk=>exact q
 | cont=>exact q
def Inv.quiet{pins:List 'a'}{σ:St}{H:Hp}{s:Shared}(I:Inv X pins σ H s):interactive X.env=false:=by simp [interactive,I.ok.kind]
def c1q(te:TE):TS:=fun D σ H=>te σ H fun _ H1=>D.nx σ H1
def a7g(he:PE X e te)(hs:swapsWith e none pos.line X.env=pure false:=by rfl):PS X (.Expr e pos) (c1q te):=by
 intro pins s σ H D I h;exact wpAny_Expr_any (thn (he pins s σ H _ I h) fun v s1 hq8=>by obtain⟨x,H1,I1,r1,q1⟩:=hq8;exact⟨σ,H1,I1,q1⟩) I.quiet hs
def tRet(te:TE):TS:=fun D σ H=>te σ H D.rt
def a3l(he:PE X e te):PS X (.Return (some e) pos) (tRet te):=by
 intro pins s σ H D I h;exact wpAny_Return_some (thn (he pins s σ H _ I h) fun v s1 hq8=>by obtain⟨x,H1,I1,r1,q1⟩:=hq8;exact⟨x,σ,H1,I1,r1,q1⟩)
def tIfS(c:TT)(t u:TS):TS:=fun D σ H=>c σ H fun b H1=>if b=true then t D σ H1 else u D σ H1
def a6p{c:Expr}{a b:List Stmt}{tc:TT}(hc:PT X c tc)(ha:PSs X a t)(hb:PSs X b u):PS X (.If c a b pos) (tIfS tc t u):=by
 intro pins s σ H D I h;refine wpAny_If (thn (hc pins s σ H _ I h) fun d s1 hq9=>?_);obtain⟨H1,I1,q1⟩:=hq9;cases d with
 | true=>exact ha pins s1 σ H1 D I1 q1
 | false=>exact hb pins s1 σ H1 D I1 q1
end
abbrev TG:=V->St->Hp->(St->Hp->Prop)->Prop
abbrev TGs:=List V->St->Hp->(St->Hp->Prop)->Prop
def PG(X:Cx)(target:Expr)(t:TG):Prop:=
 ∀ (pins:List 'a') (s:Shared) (σ:St) (H:Hp) (v:V) (u:Value) (Q:St->Hp->Prop),Inv X pins σ H s->RelV v u->t v σ H Q ->
  wpAny (model X.prog X.w) X.A (assign target X.env u) (fun _ s'=>∃ σ' H',Inv X pins σ' H' s'/\Q σ' H') X.xe s
def PGs(X:Cx)(ts:List Expr)(t:TGs):Prop:=
 ∀ (pins:List 'a') (s:Shared) (σ:St) (H:Hp) (vs:List V) (us:List Value) (Q:St->Hp->Prop),Inv X pins σ H s->Vals vs us->t vs σ H Q ->
  wpAny (model X.prog X.w) X.A (assignInOrder ((assignEach ts X.env).map (·.2)) us) (fun _ s'=>∃ σ' H',Inv X pins σ' H' s'/\Q σ' H') X.xe s
abbrev TSet:=V->V->V->Hp->(Hp->Prop)->Prop
def PSet(X:Cx)(t:TSet):Prop:=
 ∀ (pins:List 'a') (s:Shared) (σ:St) (H:Hp) (o i v:V) (ov iv u:Value) (Q:Hp->Prop),Inv X pins σ H s->RelV o ov->RelV i iv->RelV v u->t o i v H Q ->
  wpAny (model X.prog X.w) X.A (setItem ov iv u) (fun _ s'=>∃ H',Inv X pins σ H' s'/\Q H') X.xe s
section
variable{X:Cx}{pos:Pos}
noncomputable def a2r(i:Nat):TG:=fun v σ H Q=>Q (σ.set i (some v)) H
def a2b{i:Nat}{x:Str}(hN:X.N.Nodup)(hi:X.N[i]? = some x)(hx:Loc X.env.scope x)(hf:X.fn x=true ∨ X.env.scope.names.lookup x=some .local:=by first | exact .inl rfl | exact .inr rfl | assumption):PG X (.Name x pos) (a2r i):=by
 intro pins s σ H v u Q I r h;exact wpAny_assign_Name (a8r I hN hi hx r (fun s' I'=>⟨_,H,I',h⟩) hf)
noncomputable def gNil:TGs:=fun vs σ H Q=>vs=[]/\Q σ H
noncomputable def b0t(t:TG)(u:TGs):TGs:=fun vs σ H Q=>∃ v r,vs=v :: r/\t v σ H fun σ' H'=>u r σ' H' Q
def b0u:PGs X [] gNil:=by
 intro pins s σ H vs us Q I r h;obtain⟨e,h⟩:=h;subst e;cases r;exact assignInOrder_nil ⟨σ,H,I,h⟩
def a4u{e:Expr}{es:List Expr}{t:TG}{u:TGs}(h1:PG X e t)(h2:PGs X es u)
  (hs:(assignEach (e :: es) X.env).map (·.2)=assign e X.env :: (assignEach es X.env).map (·.2):=by rfl):PGs X (e :: es) (b0t t u):=by
 intro pins s σ H vs us Q I r h;obtain⟨v,vr,e1,h⟩:=h;subst e1;cases r with
 | cons r rr =>
  rw [hs];refine assignInOrder_cons (thn (h1 pins s σ H _ _ _ I r h) fun _ s1 hq9=>?_);obtain⟨σ1,H1,I1,q1⟩:=hq9;exact h2 pins s1 σ1 H1 _ _ Q I1 rr q1
noncomputable def gTup(K:W.Frag)(n:Nat)(t:TGs):TG:=fun v σ H Q=>∃ a xs,v=.ref a/\SqT K H a xs/\xs.length=n/\t xs σ H Q
def b2w{es:List Expr}{k:Nat}{t:TGs}{n:Nat}(hc:X.calm=true)(h:PGs X es t)
  (hn:(assignEach es X.env).length=n:=by rfl) (hst:(assignEach es X.env).findIdx? (·.1)=none:=by rfl):PG X (.Tuple es k pos) (gTup X.K n t):=by
 intro pins s σ H v u Q I r hw;obtain⟨a,xs,e1,hq,hl,hw⟩:=hw;subst e1;cases r;obtain⟨its,rv,ht,hz⟩:=I.tuple hq;refine assign_Tuple_tuple (I.ok.hd hc) ht (by simp [hn,← hl,rv.length]) hst fun h' hx=>?_;have I1:Inv X pins σ H { s with heap:=h' }:=I.kept (t':=s.toks) fun b o e=>hx b o (ne_of_lt (lt_size e)) e;exact h pins _ σ H xs _ Q I1 (by simpa using rv) hw
def gSub(to ti:TE)(t:TSet):TG:=fun v σ H Q=>to σ H fun o H1=>ti σ H1 fun i H2=>t o i v H2 fun H3=>Q σ H3
def b6r{o i:Expr}{to ti:TE}{t:TSet}(ho:PE X o to)(hi:PE X i ti)(hs:PSet X t)
  (ha:∀ v,assign (.Subscript o i pos) X.env v=(do
   let ov ← holding [v] (eval o X.env)
   let iv ← holding [v,ov] (eval i X.env)
   standAt pos
   holding [v,ov,iv] (setItem ov iv v)
   release [v,ov,iv] []):=by intro _;rfl):PG X (.Subscript o i pos) (gSub to ti t):=by
 intro pins s σ H v u Q I r h;rw [ha];refine wpAny_bind (wpAny_holding (thn (ho pins s σ H _ I h) fun ov s1 hq9=>?_));obtain⟨x,H1,I1,r1,q1⟩:=hq9;refine wpAny_bind (wpAny_holding (thn (hi pins s1 σ H1 _ I1 q1) fun iv s2 hq9=>?_));obtain⟨y,H2,I2,r2,q2⟩:=hq9;refine wpAny_bind (wpAny_standAt (wpAny_bind (wpAny_holding (thn (hs pins s2 σ H2 x y v ov iv u _ I2 r1 r2 r q2) fun _ s3 hq9=>?_))));obtain⟨H3,I3,q3⟩:=hq9;exact wpAny_release ⟨σ,H3,I3,q3⟩
def tAsg(te:TE)(g:TG):TS:=fun D σ H=>te σ H fun x H1=>g x σ H1 D.nx
def b6s{tg e:Expr}{te:TE}{g:TG}(he:PE X e te)(hg:PG X tg g)(hs:swapsWithSole [tg] e pos.line X.env=pure false:=by rfl)(hw:swappedStores [tg] e X.env=pure none:=by rfl)
  (h1:(assignEach [tg] X.env).map (·.2)=[assign tg X.env]:=by rfl):PS X (.Assign [tg] e pos) (tAsg te g):=by
 intro pins s σ H D I h;refine wpAny_Assign_stores (thn (he pins s σ H _ I h) fun v s1 hq8=>?_) hs hw;obtain⟨x,H1,I1,r1,q1⟩:=hq8;rw [h1];exact thn (hg pins s1 σ H1 x v _ I1 r1 q1) fun _ s2 q=>q
def a1z{i:Nat}{x:Str}{e:Expr}{te:TE}{pos':Pos}(hN:X.N.Nodup)(hi:X.N[i]? = some x)(hx:Loc X.env.scope x)(he:PE X e te)(hs:swapsWith e (some (.Name x pos')) pos.line X.env=pure false:=by rfl)(hf:X.fn x=true ∨ X.env.scope.names.lookup x=some .local:=by first | exact .inl rfl | exact .inr rfl | assumption) :
  PS X (.Assign [.Name x pos'] e pos) (tAsg te (a2r i)):=by
 intro pins s σ H D I h;refine wpAny_Assign_Name (thn (he pins s σ H _ I h) fun v s1 hq8=>?_) hs;obtain⟨y,H1,I1,r1,q1⟩:=hq8;exact a8r I1 hN hi hx r1 (fun s2 I2=>⟨_,H1,I2,q1⟩) hf
end
structure It where
 go:Nat->Hp->Prop
 yld:Nat->Hp->V->Hp->Prop
 stop:Nat->Hp->Prop
def FpOk(X:Cx)(pins:List 'a')(H:Hp)(b:Addr):Prop:=
 H b=none/\b ≠ X.env.locals/\b ∉ X.fs/\(b ∈ X.ex ∨ X.s₀.heap.objs.size <= b)/\(∀ x c,X.env.cells.lookup x=some c->c ≠ b)/\∀ p ∈ X.pn ++ pins,p.1 ≠ b
def Inv.fpOk{X:Cx}{pins:List 'a'}{σ:St}{H H':Hp}{s:Shared}{b:Addr}(I:Inv X pins σ H s)(hb:s.heap.objs.size <= b)(hn:H' b=none):FpOk X pins H' b:=by
 refine⟨hn,ne_of_gt (lt_of_lt_of_le I.lt hb),I.nofs hb,.inr (le_trans I.sz hb),fun x c e z=>?_,fun p hp z=>?_⟩
 ·obtain⟨v,q⟩:=I.cell x c e
  exact absurd (lt_of_lt_of_le q.lt (by rw [z];exact hb)) (lt_irrefl _)
 ·exact absurd (lt_of_lt_of_le (lt_size (I.pin p hp).1) (by rw [z];exact hb)) (lt_irrefl _)
structure Turn(P:Program)(w:World)(K:W.Frag)(tg:Expr)(J:It)(fp:List Addr)(it:Addr)(tn:Nat->Heap->Prop):Prop where
 mem:it ∈ fp
 obj:∀ i h,tn i h->∀ b ∈ fp,∃ o,h.get? b=some o/\∀ v,o.data ≠ .cell v
 keep:∀ i h h',tn i h->(∀ b ∈ fp,∀ o,h.get? b=some o->h'.get? b=some o)->tn i h'
 item:∀ (X:Cx),X.prog=P->X.w=w->X.K=K->X.calm=true->∀ (i:Nat) (pins:List 'a') (s:Shared) (σ:St) (H:Hp) (E:Value->Shared->Prop),Inv X pins σ H s->(∀ b ∈ fp,FpOk X pins H b)->tn i s.heap->J.go i H ->
  wpAny (model P w) X.A (pyNext (.ref it)) (fun r s1=>∃ u,r=some u /\
   wpAny (model P w) X.A (letOwnedTupleGo tg (.ref it) u) (fun _ s2=>∃ x H',Inv X pins σ H' s2/\RelV x u/\J.yld i H x H'/\tn (i + 1) s2.heap/\∀ b ∈ fp,H' b=none) E s1) E s
 done:∀ (X:Cx),X.prog=P->X.w=w->X.K=K->X.calm=true->∀ (i:Nat) (pins:List 'a') (s:Shared) (σ:St) (H:Hp) (E:Value->Shared->Prop),Inv X pins σ H s->(∀ b ∈ fp,FpOk X pins H b)->tn i s.heap->J.stop i H ->
  wpAny (model P w) X.A (pyNext (.ref it)) (fun r s1=>r=none/\Inv X pins σ H s1) E s
 self:∀ (A:Around) (i:Nat) (s:Shared) (Q:Value->Shared->Prop) (E:Value->Shared->Prop),tn i s.heap->Q (.ref it) s->wpAny (model P w) A (pyIter (.ref it)) Q E s
abbrev TI:=St->Hp->(It->Hp->Prop)->Prop
def PIE(X:Cx)(pins:List 'a')(σ:St)(tg:Expr)(R:It->Hp->Prop)(itv:Value)(s2:Shared):Prop:=
 ∃ (it:Addr) (fp:List Addr) (tn:Nat->Heap->Prop) (J:It) (H':Hp),itv=.ref it/\Inv X pins σ H' s2/\Turn X.prog X.w X.K tg J fp it tn/\tn 0 s2.heap/\(∀ b ∈ fp,FpOk X pins H' b)/\R J H'
def PI(X:Cx)(tg iter:Expr)(wi:TI):Prop:=
 ∀ (pins:List 'a') (s:Shared) (σ:St) (H:Hp) (R:It->Hp->Prop),Inv X pins σ H s->wi σ H R ->
  wpAny (model X.prog X.w) X.A (eval iter X.env) (fun v s1=>wpAny (model X.prog X.w) X.A (pyIter v) (PIE X pins σ tg R) X.xe s1) X.xe s
def b6e{M:Model}{A:Around}{E:Value->Shared->Prop}{s:Shared}{tg:Expr}{it:Addr}{u:Value}{o:Obj}{n:String}{vs:Array Value}{Q:Unit->Shared->Prop}(ho:s.heap.get? it=some o)(hc:o.cls=.type n)(hd:o.data=.fields vs)
  (hn:["enumerate","zip","dict_itemiterator","dict_reverseitemiterator","odict_iterator","itertools.zip_longest","itertools.pairwise"].contains n=false) (hQ:Q () s):wpAny M A (letOwnedTupleGo tg (.ref it) u) Q E s:=by
 unfold letOwnedTupleGo;cases tg<;>first
  | exact wpAny_pure hQ
  | (cases u<;>first
    | exact wpAny_pure hQ
    | (
      refine wpAny_bind (wpAny_load ho ?_);rw [hc,hd];show wpAny M A (if (["enumerate","zip","dict_itemiterator","dict_reverseitemiterator","odict_iterator","itertools.zip_longest","itertools.pairwise"].contains n && vs[0]? == some (rawInt _))=true then _ else _) Q E s;rw [if_neg (by intro h;rw [hn,Bool.false_and] at h;cases h)];exact wpAny_pure hQ))
noncomputable def Itl(K:W.Frag)(a:Addr):It:=
 ⟨fun i H=>∃ xs x,SqL K H a xs/\xs[i]? = some x,fun i H x H'=>H'=H/\∀ xs,SqL K H a xs->xs[i]? = some x,fun i H=>∃ xs,SqL K H a xs/\xs.length <= i⟩
noncomputable def Itt(K:W.Frag)(a:Addr):It:=
 ⟨fun i H=>∃ xs x,SqT K H a xs/\xs[i]? = some x,fun i H x H'=>H'=H/\∀ xs,SqT K H a xs->xs[i]? = some x,fun i H=>∃ xs,SqT K H a xs/\xs.length <= i⟩
noncomputable def Itr(lo:Int)(n:Nat):It:=⟨fun i _=>i < n,fun i H x H'=>H'=H/\x=.int (lo + i),fun i _=>n <= i⟩
def b4x{P:Program}{w:World}{K:W.Frag}{tg:Expr}(a it:Addr):Turn P w K tg (Itl K a) [it] it (fun i h=>h.IsListIter it a i) where
 mem:=by simp
 obj:=fun i h st b hb=>by
  have e:b=it:=by simpa using hb
  subst e;obtain⟨o,e,c,d⟩:=st;exact⟨o,e,fun v z=>by rw [d] at z;cases z⟩
 keep:=fun i h h' st k=>st.at fun o e=>k it 'c' o e
 item:=by
  intro X hP hw hK hc i pins s σ H E I hf st hg;subst hP hw hK;obtain⟨xs,x,hq,hx⟩:=hg;obtain⟨its,rv,p,hz⟩:=I.list hq;obtain⟨u,hu,ru⟩:=rv.get hx;obtain⟨f0,f1,f2,f3,f4,f5⟩:=hf it 'c';refine wpAny_pyNext_list_item st p.isList (x:=u) (by simpa using hu) fun h' st' sb=>?_;have I1:Inv X pins σ H { s with heap:=h' }:=I.turned (t':=s.toks) (fun b o hb e=>(sb.2 b hb).trans e) f0 f1 f3 f4 f5;obtain⟨o,e,c,d⟩:=id st';exact⟨u,rfl,b6e (s:={ s with heap:=h' }) e c d 'd' ⟨x,H,I1,ru,⟨rfl,fun ys hy=>by rw [I.list_inj hy hq];exact hx⟩,st',fun b hb=>(hf b hb).1⟩⟩
 done:=by
  intro X hP hw hK hc i pins s σ H E I hf st hg;subst hP hw hK;obtain⟨xs,hq,hx⟩:=hg;obtain⟨its,rv,p,hz⟩:=I.list hq;obtain⟨f0,f1,f2,f3,f4,f5⟩:=hf it 'c';have hl:=rv.length;exact wpAny_pyNext_list_end (I.ok.hd hc) st p.isList (by simp;omega) fun h' eb=>⟨rfl,I.turned (t':=s.toks) (fun b o hb e=>eb b o hb e) f0 f1 f3 f4 f5⟩
 self:=fun _ _ _ _ _ st h=>wpAny_pyIter_listiter st h
def b2x{P:Program}{w:World}{K:W.Frag}{tg:Expr}(a it:Addr):Turn P w K tg (Itt K a) [it] it (fun i h=>h.IsTupleIter it a i) where
 mem:=by simp
 obj:=fun i h st b hb=>by
  have e:b=it:=by simpa using hb
  subst e;obtain⟨o,e,c,d⟩:=st;exact⟨o,e,fun v z=>by rw [d] at z;cases z⟩
 keep:=fun i h h' st k=>st.at fun o e=>k it 'c' o e
 item:=by
  intro X hP hw hK hc i pins s σ H E I hf st hg;subst hP hw hK;obtain⟨xs,x,hq,hx⟩:=hg;obtain⟨its,rv,p,hz⟩:=I.tuple hq;obtain⟨u,hu,ru⟩:=rv.get hx;obtain⟨f0,f1,f2,f3,f4,f5⟩:=hf it 'c';refine wpAny_pyNext_tuple_item st (show s.heap.IsTuple a its.toArray from p) (x:=u) (by simpa using hu) fun h' st' sb=>?_;have I1:Inv X pins σ H { s with heap:=h' }:=I.turned (t':=s.toks) (fun b o hb e=>(sb.2 b hb).trans e) f0 f1 f3 f4 f5;obtain⟨o,e,c,d⟩:=id st';exact⟨u,rfl,b6e (s:={ s with heap:=h' }) e c d 'd' ⟨x,H,I1,ru,⟨rfl,fun ys hy=>by rw [I.tuple_inj hy hq];exact hx⟩,st',fun b hb=>(hf b hb).1⟩⟩
 done:=by
  intro X hP hw hK hc i pins s σ H E I hf st hg;subst hP hw hK;obtain⟨xs,hq,hx⟩:=hg;obtain⟨its,rv,p,hz⟩:=I.tuple hq;obtain⟨f0,f1,f2,f3,f4,f5⟩:=hf it 'c';have hl:=rv.length;exact wpAny_pyNext_tuple_end (I.ok.hd hc) st (show s.heap.IsTuple a its.toArray from p) (by simp;omega) fun h' eb=>⟨rfl,I.turned (t':=s.toks) (fun b o hb e=>eb b o hb e) f0 f1 f3 f4 f5⟩
 self:=fun _ _ _ _ _ st h=>wpAny_pyIter_tupleiter st h
def c1r{P:Program}{w:World}{K:W.Frag}{tg:Expr}(it:Addr)(lo:Int)(n:Nat):Turn P w K tg (Itr lo n) [it] it (fun i h=>IsRangeIter h it (lo + (i:Nat) * 1) ((n:Int) - (i:Nat)) 1) where
 mem:=by simp
 obj:=fun i h st b hb=>by
  have e:b=it:=by simpa using hb
  subst e;exact⟨_,st,fun v z=>by
   have z':Data.fields _=Data.cell v:=z;cases z'⟩
 keep:=fun i h h' st k=>k it 'c' _ st
 item:=by
  intro X hP hw hK hc i pins s σ H E I hf st hg;subst hP hw hK;obtain⟨f0,f1,f2,f3,f4,f5⟩:=hf it 'c';have W:=Walks.range (prog:=X.prog) (w:=X.w) (I.ok.hd hc) it lo 1 n;refine W.item i s _ _ hg st fun v h' tk hv st' kk=>?_;obtain⟨t,rfl⟩:=hv;have I1:Inv X pins σ H { s with heap:=h',toks:=tk }:=I.turned (fun b o hb e=>kk b o (by simpa using hb) e) f0 f1 f3 f4 f5;refine⟨_,rfl,b6e (s:={ s with heap:=h',toks:=tk }) (n:="range_iterator") st' rfl rfl 'd' ⟨.int (lo + i),H,I1,⟨t,?_⟩,⟨rfl,rfl⟩,st',fun b hb=>(hf b hb).1⟩⟩;rw [Int.mul_one]
 done:=by
  intro X hP hw hK hc i pins s σ H E I hf st hg;subst hP hw hK;obtain⟨f0,f1,f2,f3,f4,f5⟩:=hf it 'c';exact wpAny_pyNext_range_end (I.ok.hd hc) st (by have:n <= i:=hg;omega) fun h' eb=>⟨rfl,I.turned (t':=s.toks) (fun b o hb e=>eb b o hb e) f0 f1 f3 f4 f5⟩
 self:=fun _ _ _ _ _ st h=>wpAny_pyIter_rangeiter st h
end L2
namespace L2
open PySem PySem.Spec PyProof.Rows
section
variable{X:Cx}{tg:Expr}
def iList(K:W.Frag)(tl:TE):TI:=fun σ H R=>tl σ H fun x H1=>∃ a,x=.ref a/\(∃ xs,SqL K H1 a xs)/\R (Itl K a) H1
def iTup(K:W.Frag)(tl:TE):TI:=fun σ H R=>tl σ H fun x H1=>∃ a,x=.ref a/\(∃ xs,SqT K H1 a xs)/\R (Itt K a) H1
def b3y{l:Expr}{tl:TE}(hl:PE X l tl):PI X tg l (iList X.K tl):=by
 intro pins s σ H R I h;refine thn (hl pins s σ H _ I h) fun v s1 hq9=>?_;obtain⟨x,H1,I1,r1,q1⟩:=hq9;obtain⟨a,e,⟨xs,hq⟩,q⟩:=q1;subst e;cases r1;obtain⟨its,rv,p,hz⟩:=I1.list hq;refine wpAny_pyIter_list p.isList ?_;refine⟨s1.heap.objs.size,[s1.heap.objs.size],_,_,H1,rfl,I1.kept (t':=s1.toks) fun b o e=>get?_push_of_some _ e,b4x a _,⟨_,get?_push_size _ rfl,rfl,rfl⟩,fun b hb=>?_,q⟩;have e:b=s1.heap.objs.size:=by simpa using hb
 subst e;exact I1.fpOk 'b' (I1.hok.fresh 'b')
def b6t{l:Expr}{tl:TE}(hl:PE X l tl):PI X tg l (iTup X.K tl):=by
 intro pins s σ H R I h;refine thn (hl pins s σ H _ I h) fun v s1 hq9=>?_;obtain⟨x,H1,I1,r1,q1⟩:=hq9;obtain⟨a,e,⟨xs,hq⟩,q⟩:=q1;subst e;cases r1;obtain⟨its,rv,p,hz⟩:=I1.tuple hq;refine wpAny_pyIter_tuple (show s1.heap.IsTuple a its.toArray from p) ?_;refine⟨s1.heap.objs.size,[s1.heap.objs.size],_,_,H1,rfl,I1.kept (t':=s1.toks) fun b o e=>get?_push_of_some _ e,b2x a _,⟨_,get?_push_size _ rfl,rfl,rfl⟩,fun b hb=>?_,q⟩;have e:b=s1.heap.objs.size:=by simpa using hb
 subst e;exact I1.fpOk 'b' (I1.hok.fresh 'b')
def c8a{pins:List 'a'}{σ:St}{H:Hp}{s:Shared}{R:It->Hp->Prop}{E:Value->Shared->Prop}{lo hi:Int}{t u v:Tok}{tk:Nat}(I:Inv X pins σ H s)(h1:-(2 ^ 62) <= lo)(h2:lo < 2 ^ 62)(h3:-(2 ^ 62) <= hi)(h4:hi < 2 ^ 62)
  (q:R (Itr lo (hi - lo).toNat) H):wpAny (model X.prog X.w) X.A (pyIter (.ref s.heap.objs.size)) (PIE X pins σ tg R) E { s with heap:=s.heap.push { cls:=.type "range",data:=.fields #[.int lo t,.int hi u,.int 1 v] },toks:=tk }:=by
 refine wpAny_pyIter_range (IsRange.new ..) (small_one h1 h2 h3 h4) ?_;have I1:Inv X pins σ H { s with heap:=s.heap.push { cls:=.type "range",data:=.fields #[.int lo t,.int hi u,.int 1 v] },toks:=tk }:=I.kept fun b o e=>get?_push_of_some _ e;refine⟨(s.heap.push { cls:=.type "range",data:=.fields #[.int lo t,.int hi u,.int 1 v] }).objs.size,[(s.heap.push { cls:=.type "range",data:=.fields #[.int lo t,.int hi u,.int 1 v] }).objs.size],_,_,H,rfl,
  I1.kept (t':=tk) fun b o e=>get?_push_of_some _ e,c1r _ lo (hi - lo).toNat,?_,fun b hb=>?_,q⟩
 ·have e1:lo + ((0:Nat):Int) * 1=lo:=by simp
  have e2:(((hi - lo).toNat:Nat):Int) - ((0:Nat):Int)=Builtin.Range.rangeSize lo hi 1:=by rw [rangeSize_one];split<;>omega
  show IsRangeIter _ _ (lo + ((0:Nat):Int) * 1) ((((hi - lo).toNat:Nat):Int) - ((0:Nat):Int)) 1;rw [e1,e2];exact get?_push_size _ rfl
 ·have e:b=(s.heap.push { cls:=.type "range",data:=.fields #[.int lo t,.int hi u,.int 1 v] }).objs.size:=by simpa using hb
  subst e;exact I1.fpOk 'b' (I1.hok.fresh 'b')
def d1j(ta:TA):TI:=fun σ H R=>ta σ H fun vs H1=>∃ j:Int,vs=[.int j] /\ -(2 ^ 62) <= j/\j < 2 ^ 62/\R (Itr 0 j.toNat) H1
def c4m{a:Expr}{ta:TA}{p pos:Pos} (hg:Gl X "range") (hm:X.mg "range" = none) (ha:PA X [a] ta) (hs:starEach [a] X.env=[(false,eval a X.env)]:=by rfl):PI X tg (.Call (.Name "range" p) [a] [] pos) (d1j ta):=by
 intro pins s σ H R I h;refine Call_ (a4k I hg hm boot_range (PyProof.Rows.callWith_type1 (thn (ha pos pins s σ H _ I h) fun us s1 hq8=>?_) hs rfl));obtain⟨vs,H1,I1,r1,q1⟩:=hq8;obtain⟨j,e,q1,q2,q⟩:=q1;subst e;cases r1 with
 | cons r rr =>
  cases rr
  obtain⟨t,rfl⟩:=r;exact call_range_1 (c8a I1 'o' 'o' q1 q2 (by simpa using q))
def tFor(wi:TI)(g:TG)(tb:TS):TS:=fun D σ H=>wi σ H fun J H1=>∃ W:Nat->Nat->St->Hp->Prop,(∃ m,W 0 m σ H1)/\∀ i m σ H,W i m σ H ->
 (J.stop i H/\D.nx σ H) ∨ (J.go i H/\∃ N:St->Hp->Prop,(∀ σ' H',N σ' H'->∃ m',m' < m/\W (i + 1) m' σ' H')/\∀ x H',J.yld i H x H'->g x σ H' fun σ2 H2=>tb { D with nx:=N,ct:=N,bk:=D.nx } σ2 H2)
noncomputable def a9t(fp:List Addr)(h:Heap):List 'a':=fp.filterMap fun b=>(h.get? b).map fun o=>(b,o)
def a6q{fp:List Addr}{h:Heap}{b:Addr}{o:Obj}(hb:b ∈ fp)(e:h.get? b=some o):(b,o) ∈ a9t fp h:=List.mem_filterMap.mpr ⟨b,hb,by rw [e];rfl⟩
def c4n{fp:List Addr}{h:Heap}{p:Addr × Obj}(hp:p ∈ a9t fp h):p.1 ∈ fp/\h.get? p.1=some p.2:=by
 obtain⟨b,hb,e⟩:=List.mem_filterMap.mp hp;cases q:h.get? b with
 | none=>rw [q] at e;cases e
 | some o =>
  rw [q] at e;have e':(b,o)=p:=Option.some.inj e;subst e';exact⟨hb,q⟩
def Inv.pinned{pins:List 'a'}{σ:St}{H:Hp}{s:Shared}{fp:List Addr}(I:Inv X pins σ H s)(hf:∀ b ∈ fp,FpOk X pins H b)(ho:∀ b ∈ fp,∃ o,s.heap.get? b=some o/\∀ v,o.data ≠ .cell v):Inv X (pins ++ a9t fp s.heap) σ H s:=
 I.pins_of fun p hp=>(mem_append.mp hp).elim (fun z=>I.pin p (mem_append_right _ z)) fun z=>by
  obtain⟨hb,e⟩:=c4n z;obtain⟨f0,f1,f2,_⟩:=hf p.1 hb;obtain⟨o,e',d⟩:=ho p.1 hb;rw [e] at e';cases e';exact⟨e,f0,f1,f2,d⟩
def Inv.unpinned{pins pl:List 'a'}{σ:St}{H:Hp}{s:Shared}(I:Inv X (pins ++ pl) σ H s):Inv X pins σ H s:=I.pins_of fun p hp=>I.pin p (mem_append_right _ (List.mem_append_left _ hp))
def a6h{iter:Expr}{body:List Stmt}{wi:TI}{g:TG}{tb:TS}{pos:Pos}(hp:PassesOwn (model X.prog X.w) X.A X.env X.xe)(hc:X.calm=true)(hi:PI X tg iter wi)(hg:PG X tg g)(hb:PSs X body tb)
  (hs:∀ x,foldedSetIterable iter X.env x=pure x:=by intro _;rfl):PS X (.For tg iter body [] pos) (tFor wi g tb):=by
 intro pins s σ H D I h;refine wpAny_For (thn (hi pins s σ H _ I h) fun v s1 h1=>thn h1 fun itv s2 h2=>?_) hs;obtain⟨it,fp,tn,J,H2,e,I2,T,st2,f2,W,⟨m0,w0⟩,turn⟩:=h2;subst e
 -- what stays true of the iterator's objects through the loop
 have stat:∀ {H':Hp},(∀ b ∈ fp,H' b=none)->∀ b ∈ fp,FpOk X pins H' b:=fun hn b hb=>⟨hn b hb,(f2 b hb).2⟩;refine codeAny_forLoop_any (fun n s'=>∃ i σ' H',Inv X pins σ' H' s'/\tn i s'.heap/\(∀ b ∈ fp,H' b=none)/\W i n σ' H') ?_ m0 ⟨0,σ,H2,I2,st2,fun b hb=>(f2 b hb).1,w0⟩;rintro n s3 ⟨i,σ3,H3,I3,st3,fr3,w3⟩;rcases turn i n σ3 H3 w3 with⟨stop,qn⟩ | ⟨go,N,hN,step⟩
 ·refine wpAny_passesOwn hp (thn (T.done X rfl rfl rfl hc i pins s3 σ3 H3 X.xe I3 (stat fr3) st3 stop) fun r s4 hq9=>?_)
  obtain⟨hr,I4⟩:=hq9;subst hr;exact wpAny_execs_nil ⟨σ3,H3,I4,qn⟩
 ·refine wpAny_passesOwn hp (thn (T.item X rfl rfl rfl hc i pins s3 σ3 H3 X.xe I3 (stat fr3) st3 go) fun r s4 hq9=>?_)
  obtain⟨u,hr,h4⟩:=hq9;subst hr;refine wpAny_passesOwn hp (thn h4 fun _ s5 hq9=>?_);obtain⟨x,H5,I5,r5,y5,st5,fr5⟩:=hq9;have I5':=I5.pinned (stat fr5) (T.obj _ _ st5);refine wpAny_passesOwn hp (thn (hg _ s5 σ3 H5 x u _ I5' r5 (step x H5 y5)) fun _ s6 hq9=>?_);obtain⟨σ6,H6,I6,q6⟩:=hq9;refine wpAny_passesOwn hp (thn (hb _ s6 σ6 H6 _ I6 q6) fun f s7 q7=>?_);have again:∀ {σ7:St} {H7:Hp},Inv X (pins ++ a9t fp s5.heap) σ7 H7 s7->N σ7 H7->∃ m,m < n/\∃ i σ' H',Inv X pins σ' H' s7/\tn i s7.heap/\(∀ b ∈ fp,H' b=none)/\W i m σ' H':=fun{σ7 H7} I7 n7=>by
   obtain⟨m',hm,w7⟩:=hN σ7 H7 n7;refine⟨m',hm,i + 1,σ7,H7,I7.unpinned,T.keep _ _ _ st5 fun b hb o e=>(I7.pin (b,o) (mem_append_right _ (mem_append_right _ (a6q hb e)))).1,fun b hb=>?_,w7⟩;obtain⟨o,e,d⟩:=T.obj _ _ st5 b hb;exact(I7.pin (b,o) (mem_append_right _ (mem_append_right _ (a6q hb e)))).2.1
  cases f with
  | next=>obtain⟨σ7,H7,I7,n7⟩:=q7;exact again I7 n7
  | cont=>obtain⟨σ7,H7,I7,n7⟩:=q7;exact again I7 n7
  | brk=>obtain⟨σ7,H7,I7,q7⟩:=q7;exact⟨σ7,H7,I7.unpinned,q7⟩
  | ret v=>obtain⟨x7,σ7,H7,I7,r7,q7⟩:=q7;exact⟨x7,σ7,H7,I7.unpinned,r7,q7⟩
end
def b3z{K:W.Frag}{a:Addr}{xs:List V}{g:TG}{tb:TS}{D:Ends}{σ:St}{H:Hp}(Pv:Nat->St->Hp->Prop)(h0:Pv 0 σ H)(hl:∀ i σ H,i <= xs.length->Pv i σ H->SqT K H a xs)
  (hs:∀ i x σ H,xs[i]? = some x->Pv i σ H->g x σ H fun σ2 H2=>tb { D with nx:=Pv (i + 1),ct:=Pv (i + 1),bk:=D.nx } σ2 H2) (hd:∀ σ H,Pv xs.length σ H->D.nx σ H) :
  ∃ W:Nat->Nat->St->Hp->Prop,(∃ m,W 0 m σ H)/\∀ i m σ H,W i m σ H ->
   ((Itt K a).stop i H/\D.nx σ H) ∨ ((Itt K a).go i H/\∃ N:St->Hp->Prop,(∀ σ' H',N σ' H'->∃ m',m' < m/\W (i + 1) m' σ' H')/\∀ x H',(Itt K a).yld i H x H'->g x σ H' fun σ2 H2=>tb { D with nx:=N,ct:=N,bk:=D.nx } σ2 H2):=by
 refine⟨fun i m σ H=>m=xs.length - i/\i <= xs.length/\Pv i σ H,⟨xs.length,by simp,zero_le _,h0⟩,?_⟩;rintro i m σ H ⟨rfl,hi,p⟩;have q:=hl i σ H hi p;by_cases hlt:i < xs.length
 ·refine .inr ⟨⟨xs,xs[i],q,by simp [hlt]⟩,Pv (i + 1),fun σ' H' p'=>⟨xs.length - (i + 1),'o',rfl,hlt,p'⟩,fun x H' y=>?_⟩
  obtain⟨e,y⟩:=y;subst e;exact hs i x σ _ (y xs q) p
 ·have e:i=xs.length:=by omega
  subst e;exact .inl ⟨⟨xs,q,le_refl _⟩,hd σ H p⟩
end L2
namespace L2
open PySem PySem.Spec PyProof.Rows
abbrev R2:=V->V->Hp->VK->Prop
def OpR(X:Cx)(f:Value->Value->Sem Value)(r:R2):Prop:=
 ∀ (pins:List 'a') (s:Shared) (σ:St) (H:Hp) (x y:V) (v u:Value) (Q:VK),Inv X pins σ H s->RelV x v->RelV y u->r x y H Q ->
  wpAny (model X.prog X.w) X.A (f v u) (EP X pins σ Q) X.xe s
def UnR(X:Cx)(f:Value->Sem Value)(r:V->Hp->VK->Prop):Prop:=
 ∀ (pins:List 'a') (s:Shared) (σ:St) (H:Hp) (x:V) (v:Value) (Q:VK),Inv X pins σ H s->RelV x v->r x H Q ->
  wpAny (model X.prog X.w) X.A (f v) (EP X pins σ Q) X.xe s
def a1r(X:Cx)(f:Value)(r:List V->Hp->VK->Prop):Prop:=
 ∀ (pins:List 'a') (s:Shared) (σ:St) (H:Hp) (xs:List V) (us:List Value) (Q:VK),Inv X pins σ H s->Vals xs us->r xs H Q ->
  wpAny (model X.prog X.w) X.A (call f us) (EP X pins σ Q) X.xe s
def TruR(X:Cx)(r:V->Hp->(Bool->Hp->Prop)->Prop):Prop:=
 ∀ (pins:List 'a') (s:Shared) (σ:St) (H:Hp) (x:V) (v:Value) (Q:Bool->Hp->Prop),Inv X pins σ H s->RelV x v->r x H Q ->
  wpAny (model X.prog X.w) X.A (truthy v) (TP X pins σ Q) X.xe s
def tOp(r:R2)(ta tb:TE):TE:=fun σ H Q=>ta σ H fun x H1=>tb σ H1 fun y H2=>r x y H2 Q
def tUn(r:V->Hp->VK->Prop)(ta:TE):TE:=fun σ H Q=>ta σ H fun x H1=>r x H1 Q
def rI(C:Int->Int->Prop)(g:Int->Int->V):R2:=fun x y H Q=>∃ i j,x=.int i/\y=.int j/\C i j/\Q (g i j) H
def rI0(g:Int->Int->V):R2:=fun x y H Q=>∃ i j,x=.int i/\y=.int j/\Q (g i j) H
noncomputable def rU(g:Int->V):V->Hp->VK->Prop:=fun x H Q=>∃ i,x=.int i/\Q (g i) H
section
variable{X:Cx}{a b c:Expr}{ta tb tc:TE}{pos:Pos}
def binT(ha:PE X a ta)(hb:PE X b tb){pins:List 'a'}{s:Shared}{σ:St}{H:Hp}{R:V->V->Hp->Prop}(I:Inv X pins σ H s)
  (h:ta σ H fun x H1=>tb σ H1 fun y H2=>R x y H2) {Q:Value->Shared->Prop} {f:Value->Value->Sem Value}
  (hf:∀ v u s2 x y H2,Inv X pins σ H2 s2->RelV x v->RelV y u->R x y H2->wpAny (model X.prog X.w) X.A (f v u) Q X.xe s2) :
  wpAny (model X.prog X.w) X.A (eval a X.env) (fun v s₁=>wpAny (model X.prog X.w) X.A (eval b X.env) (fun u s₂=>wpAny (model X.prog X.w) X.A (f v u) Q X.xe s₂) X.xe s₁) X.xe s:=by
 refine thn (ha pins s σ H _ I h) fun v s1 hq9=>?_;obtain⟨x,H1,I1,r1,q1⟩:=hq9;refine thn (hb pins s1 σ H1 _ I1 q1) fun u s2 hq9=>?_;obtain⟨y,H2,I2,r2,q2⟩:=hq9;exact hf v u s2 x y H2 I2 r1 r2 q2
def a2k{op:Operator}{r:R2}(ho:OpR X (binaryOp op) r)(ha:PE X a ta)(hb:PE X b tb):PE X (.BinOp a op b pos) (tOp r ta tb):=by
 intro pins s σ H Q I h;exact wpAny_BinOp (binT ha hb I h fun v u s2 x y H2 I2 rx ry q=>ho pins s2 σ H2 x y v u Q I2 rx ry q)
def b6f{op:UnaryOp}{r:V->Hp->VK->Prop}(ho:UnR X (unaryOp op) r)(ha:PE X a ta):PE X (.UnaryOp op a pos) (tUn r ta):=by
 intro pins s σ H Q I h;exact UnaryOp_ (thn (ha pins s σ H _ I h) fun v s1 hq8=>by obtain⟨x,H1,I1,r1,q1⟩:=hq8;exact ho pins s1 σ H1 x v Q I1 r1 q1)
def opI{f:Value->Value->Sem Value}{C:Int->Int->Prop}{g:Int->Int->Int}
  (rule:∀ (i j:Int) (t u:Tok) (s:Shared) (Q:Value->Shared->Prop) (E:Value->Shared->Prop),C i j->Q (.int (g i j) s.toks) { s with toks:=s.toks + 1 }->wpAny (model X.prog X.w) X.A (f (.int i t) (.int j u)) Q E s) :
  OpR X f (rI C fun i j=>.int (g i j)):=by
 intro pins s σ H x y v u Q I rx ry h;obtain⟨i,j,rfl,rfl,hc,q⟩:=h;obtain⟨t,rfl⟩:=rx;obtain⟨t',rfl⟩:=ry;exact rule i j t t' s _ _ hc ⟨.int (g i j),H,I.tok _,⟨_,rfl⟩,q⟩
def opI0{f:Value->Value->Sem Value}{g:Int->Int->Int}
  (rule:∀ (i j:Int) (t u:Tok) (s:Shared) (Q:Value->Shared->Prop) (E:Value->Shared->Prop),Q (.int (g i j) s.toks) { s with toks:=s.toks + 1 }->wpAny (model X.prog X.w) X.A (f (.int i t) (.int j u)) Q E s) :
  OpR X f (rI0 fun i j=>.int (g i j)):=by
 intro pins s σ H x y v u Q I rx ry h;obtain⟨i,j,rfl,rfl,q⟩:=h;obtain⟨t,rfl⟩:=rx;obtain⟨t',rfl⟩:=ry;exact rule i j t t' s _ _ ⟨.int (g i j),H,I.tok _,⟨_,rfl⟩,q⟩
def opB0{f:Value->Value->Sem Value}{g:Int->Int->Bool}
  (rule:∀ (i j:Int) (t u:Tok) (s:Shared) (Q:Value->Shared->Prop) (E:Value->Shared->Prop),Q (.bool (g i j)) s->wpAny (model X.prog X.w) X.A (f (.int i t) (.int j u)) Q E s) :
  OpR X f (rI0 fun i j=>.bl (g i j)):=by
 intro pins s σ H x y v u Q I rx ry h;obtain⟨i,j,rfl,rfl,q⟩:=h;obtain⟨t,rfl⟩:=rx;obtain⟨t',rfl⟩:=ry;exact rule i j t t' s _ _ ⟨.bl (g i j),H,I,rfl,q⟩
def CDiv(i j:Int):Prop:=0 < j/\j < 1073741824
def CPow(i j:Int):Prop:=0 <= j/\j <= 1000000/\i.natAbs < 2 ^ 64
def CMul(i j:Int):Prop:=(-(2 ^ 64) < i/\i < 2 ^ 64) ∨ (-(2 ^ 64) < j/\j < 2 ^ 64)
def CMul.ok{i j:Int}(h:CMul i j):IntMulOk i j:=by
 rcases h with⟨h1,h2⟩ | ⟨h1,h2⟩
 ·exact .of_left (intBits_le_64 h1 h2)
 ·exact .of_right (intBits_le_64 h1 h2)
def c1s(k:Nat):(0:Int) <= 2 ^ k:=by
 rw [two_pow_cast];exact Int.natCast_nonneg _
def b2y:OpR X (binaryOp .Add) (rI0 fun i j=>.int (i + j)):=opI0 fun _ _ _ _ _ _ _ q=>add_int q
def d7a:OpR X (binaryOp .Sub) (rI0 fun i j=>.int (i - j)):=opI0 fun _ _ _ _ _ _ _ q=>sub_int q
def a9u:OpR X (binaryOp .Mult) (rI CMul fun i j=>.int (i * j)):=opI fun _ _ _ _ _ _ _ hc q=>mul_int q hc.ok
def d2u:OpR X (binaryOp .FloorDiv) (rI CDiv fun i j=>.int (i / j)):=opI fun i j _ _ _ _ _ hc q=>by
 have h1:(0:Int) < j:=hc.1;have h2:j < 1073741824:=hc.2;exact floordiv_int 'o' (by rw [Int.fdiv_eq_ediv_of_nonneg i 'o'];exact q) (.inl (PyProof.noPylong_small 'o'))
def a7p:OpR X (binaryOp .Mod) (rI (fun _ j=>0 < j) fun i j=>.int (i % j)):=opI fun i j _ _ _ _ _ hc q=>by
 have h1:(0:Int) < j:=hc;exact mod_int' 'o' (by rw [Int.fmod_eq_emod_of_nonneg i 'o'];exact q)
def d7b:OpR X (binaryOp .Pow) (rI CPow fun i j=>.int (i ^ j.toNat)):=opI fun _ _ _ _ _ _ _ hc q=>pow_int_small hc.1 hc.2.1 hc.2.2 q
def d7c:OpR X (binaryOp .RShift) (rI (fun _ j=>0 <= j) fun i j=>.int (i / 2 ^ j.toNat)):=opI fun i j _ _ _ _ _ hc q =>
 rshift_int hc (by rw [Int.fdiv_eq_ediv_of_nonneg i (c1s _)];exact q)
def unI{f:Value->Sem Value}{g:Int->Int}
  (rule:∀ (i:Int) (t:Tok) (s:Shared) (Q:Value->Shared->Prop) (E:Value->Shared->Prop),Q (.int (g i) s.toks) { s with toks:=s.toks + 1 }->wpAny (model X.prog X.w) X.A (f (.int i t)) Q E s) :
  UnR X f (rU fun i=>.int (g i)):=by
 intro pins s σ H x v Q I rx h;obtain⟨i,rfl,q⟩:=h;obtain⟨t,rfl⟩:=rx;exact rule i t s _ _ ⟨.int (g i),H,I.tok _,⟨_,rfl⟩,q⟩
def b2z:UnR X (unaryOp .USub) (rU fun i=>.int (-i)):=unI fun _ _ _ _ _ q=>neg_int q
end
noncomputable def scal:V->V->Bool
 | .non,.non=>true | .non,.int _=>true | .int _,.non=>true | .non,.bl _=>true | .bl _,.non=>true | .non,.str _=>true | .str _,.non=>true
 | .int _,.int _=>true | .bl _,.bl _=>true | .str _,.str _=>true | .byt _,.byt _=>true
 | .int _,.str _=>true | .str _,.int _=>true | .bl _,.str _=>true | .str _,.bl _=>true
 | _,_=>false
def rEq:R2:=fun x y H Q=>scal x y=true/\Q (.bl (decide (x=y))) H
def rNe:R2:=fun x y H Q=>scal x y=true/\Q (.bl (!decide (x=y))) H
def c0g{i j:Int}:decide (V.int i=V.int j)=(i == j):=by
 rw [Bool.eq_iff_iff];simp
def c4o{i j:Bool}:decide (V.bl i=V.bl j)=(i == j):=by
 rw [Bool.eq_iff_iff];simp
def c0h{i j:Str}:decide (V.str i=V.str j)=(i == j):=by
 rw [Bool.eq_iff_iff];simp
def c0i{i j:Array UInt8}:decide (V.byt i=V.byt j)=(i.toList == j.toList):=by
 rw [Bool.eq_iff_iff];cases i;cases j;simp
section
variable{X:Cx}{a b c:Expr}{ta tb tc:TE}{pos:Pos}
def a0x{pins:List 'a'}{σ:St}{H:Hp}{s:Shared}{Q:VK}{k k':Bool}(I:Inv X pins σ H s)(q:Q (.bl k) H)(e:k=k'):EP X pins σ Q (.bool k') s:=by
 subst e;exact⟨.bl k,H,I,rfl,q⟩
def d1k:OpR X (compareOp .Eq) rEq:=by
 intro pins s σ H x y v u Q I rx ry h;obtain⟨hs,q⟩:=h;cases x with
 | non =>
  cases rx
  cases y with
  | non=>cases ry;exact PySem.EqNone.eq_none_none (a0x I q 'c')
  | bl j=>cases ry;exact PySem.EqNone.eq_none_bool (a0x I q 'c')
  | int j=>obtain⟨t',rfl⟩:=ry;exact PySem.EqNone.eq_none_int (a0x I q 'c')
  | str j=>obtain⟨t',rfl⟩:=ry;exact PySem.EqNone.eq_none_str (a0x I q 'c')
  | _=>exact absurd (show false=true from hs) Bool.false_ne_true
 | bl i =>
  cases rx
  cases y with
  | non=>cases ry;exact PySem.EqNone.eq_bool_none (a0x I q 'c')
  | bl j=>cases ry;exact eq_bool (a0x I q c4o)
  | str j=>obtain⟨t',rfl⟩:=ry;exact PySem.EqMixed.eq_bool_str (a0x I q 'c')
  | _=>exact absurd (show false=true from hs) Bool.false_ne_true
 | int i =>
  obtain⟨t,rfl⟩:=rx;cases y with
  | non=>cases ry;exact PySem.EqNone.eq_int_none (a0x I q 'c')
  | int j=>obtain⟨t',rfl⟩:=ry;exact eq_int (a0x I q c0g)
  | str j=>obtain⟨t',rfl⟩:=ry;exact PySem.EqMixed.eq_int_str (a0x I q 'c')
  | _=>exact absurd (show false=true from hs) Bool.false_ne_true
 | str i =>
  obtain⟨t,rfl⟩:=rx;cases y with
  | non=>cases ry;exact PySem.EqNone.eq_str_none (a0x I q 'c')
  | bl j=>cases ry;exact PySem.EqMixed.eq_str_bool (a0x I q 'c')
  | int j=>obtain⟨t',rfl⟩:=ry;exact PySem.EqMixed.eq_str_int (a0x I q 'c')
  | str j=>obtain⟨t',rfl⟩:=ry;exact eq_str (a0x I q c0h)
  | _=>exact absurd (show false=true from hs) Bool.false_ne_true
 | byt i =>
  obtain⟨t,rfl⟩:=rx;cases y with
  | byt j=>obtain⟨t',rfl⟩:=ry;exact PySem.W.eq_bytes (a0x I q c0i)
  | _=>exact absurd (show false=true from hs) Bool.false_ne_true
 | _=>cases y<;>exact absurd (show false=true from hs) Bool.false_ne_true
def d1l:OpR X (compareOp .NotEq) rNe:=by
 intro pins s σ H x y v u Q I rx ry h;obtain⟨hs,q⟩:=h;cases x with
 | non =>
  cases rx
  cases y with
  | non=>cases ry;exact PySem.EqNone.ne_none_none (a0x I q 'c')
  | bl j=>cases ry;exact PySem.EqNone.ne_none_bool (a0x I q 'c')
  | int j=>obtain⟨t',rfl⟩:=ry;exact PySem.EqNone.ne_none_int (a0x I q 'c')
  | str j=>obtain⟨t',rfl⟩:=ry;exact PySem.EqNone.ne_none_str (a0x I q 'c')
  | _=>exact absurd (show false=true from hs) Bool.false_ne_true
 | bl i =>
  cases rx
  cases y with
  | non=>cases ry;exact PySem.EqNone.ne_bool_none (a0x I q 'c')
  | bl j=>cases ry;exact ne_bool (a0x I q (congrArg not c4o))
  | str j=>obtain⟨t',rfl⟩:=ry;exact PySem.EqMixed.ne_bool_str (a0x I q 'c')
  | _=>exact absurd (show false=true from hs) Bool.false_ne_true
 | int i =>
  obtain⟨t,rfl⟩:=rx;cases y with
  | non=>cases ry;exact PySem.EqNone.ne_int_none (a0x I q 'c')
  | int j=>obtain⟨t',rfl⟩:=ry;exact ne_int (a0x I q (congrArg not c0g))
  | str j=>obtain⟨t',rfl⟩:=ry;exact PySem.EqMixed.ne_int_str (a0x I q 'c')
  | _=>exact absurd (show false=true from hs) Bool.false_ne_true
 | str i =>
  obtain⟨t,rfl⟩:=rx;cases y with
  | non=>cases ry;exact PySem.EqNone.ne_str_none (a0x I q 'c')
  | bl j=>cases ry;exact PySem.EqMixed.ne_str_bool (a0x I q 'c')
  | int j=>obtain⟨t',rfl⟩:=ry;exact PySem.EqMixed.ne_str_int (a0x I q 'c')
  | str j=>obtain⟨t',rfl⟩:=ry;exact ne_str (a0x I q (congrArg not c0h))
  | _=>exact absurd (show false=true from hs) Bool.false_ne_true
 | byt i =>
  obtain⟨t,rfl⟩:=rx;cases y with
  | byt j=>obtain⟨t',rfl⟩:=ry;exact PySem.W.ne_bytes (a0x I q (congrArg not c0i))
  | _=>exact absurd (show false=true from hs) Bool.false_ne_true
 | _=>cases y<;>exact absurd (show false=true from hs) Bool.false_ne_true
def op_le:OpR X (compareOp .LtE) (rI0 fun i j=>.bl (decide (i <= j))):=opB0 fun _ _ _ _ _ _ _ q=>le_int q
def a8s:OpR X (compareOp .Gt) (rI0 fun i j=>.bl (decide (j < i))):=opB0 fun _ _ _ _ _ _ _ q=>gt_int q
def op_ge:OpR X (compareOp .GtE) (rI0 fun i j=>.bl (decide (j <= i))):=opB0 fun _ _ _ _ _ _ _ q=>ge_int q
def c4p:OpR X (compareOp .In) (fun x y H Q=>∃ i j,x=.str i/\y=.str j/\Q (.bl (!(Builtin.Str.occurrences j i 0 j.length 1).isEmpty)) H):=by
 intro pins s σ H x y v u Q I rx ry h;obtain⟨i,j,rfl,rfl,q⟩:=h;obtain⟨t,rfl⟩:=rx;obtain⟨t',rfl⟩:=ry;exact in_str (a0x I q rfl)
def d7d:OpR X (compareOp .Is) (fun x y H Q=>y=.non/\Q (.bl (decide (x=.non))) H):=by
 intro pins s σ H x y v u Q I rx ry h;obtain⟨rfl,q⟩:=h;cases ry;refine is_none_gen (a0x I q ?_);cases x<;>first
  | (cases rx;rfl)
  | (obtain⟨t,rfl⟩:=rx;rfl)
def d2v:OpR X (compareOp .IsNot) (fun x y H Q=>y=.non/\Q (.bl (!decide (x=.non))) H):=by
 intro pins s σ H x y v u Q I rx ry h;obtain⟨rfl,q⟩:=h;cases ry;refine isnot_none_gen (a0x I q ?_);cases x<;>first
  | (cases rx;rfl)
  | (obtain⟨t,rfl⟩:=rx;rfl)
def OpR.or{f:Value->Value->Sem Value}{r r':R2}(h:OpR X f r)(h':OpR X f r'):OpR X f (fun x y H Q=>r x y H Q ∨ r' x y H Q):=by
 intro pins s σ H x y v u Q I rx ry q;rcases q with q | q
 ·exact h pins s σ H x y v u Q I rx ry q
 ·exact h' pins s σ H x y v u Q I rx ry q
def a2a(b:Expr){op:CmpOp}(h:op ≠ .In:=by decide)(h2:op ≠ .NotIn:=by decide):behindInMarks op b=false:=by
 have e1:(op == CmpOp.In)=false:=by cases op<;>first | rfl | exact absurd rfl h
 have e2:(op == CmpOp.NotIn)=false:=by cases op<;>first | rfl | exact absurd rfl h2
 cases b<;>simp [behindInMarks,e1,e2]
def d2w{op:CmpOp}{r:R2}(ho:OpR X (compareOp op) r)(ha:PE X a ta)(hb:PE X b tb)(hm:behindInMarks op b=false):PE X (.Compare a [op] [b] pos) (tOp r ta tb):=by
 intro pins s σ H Q I h;exact wpAny_Compare1 (binT ha hb I h fun v u s2 x y H2 I2 rx ry q=>ho pins s2 σ H2 x y v u Q I2 rx ry q) hm
def d1m(t:TE):TT:=fun σ H Q=>t σ H fun x H'=>∃ k,x=.bl k/\Q k H'
def a4f{op:CmpOp}{r:R2}(ho:OpR X (compareOp op) r)(ha:PE X a ta)(hb:PE X b tb)(hm:behindInMarks op b=false):PT X (.Compare a [op] [b] pos) (d1m (tOp r ta tb)):=by
 intro pins s σ H Q I h;refine wpAny_isTrue_Compare1 (thn (ha pins s σ H _ I h) fun v s1 ⟨x,H1,I1,r1,q1⟩=>thn (hb pins s1 σ H1 _ I1 q1) fun u s2 ⟨y,H2,I2,r2,q2⟩ =>
  thn (ho pins s2 σ H2 x y v u _ I2 r1 r2 q2) fun c s3 ⟨z,H3,I3,r3,k,e,q3⟩=>?_) hm
 subst e;cases r3;exact wpAny_truthy_bool ⟨H3,I3,q3⟩
def TruV(K:W.Frag)(x:V)(H:Hp)(k:Bool):Prop:=
 match x with
 | .non=>k=false
 | .bl b=>k=b
 | .int i=>k=(i != 0)
 | .str y=>y.length <= sizeLine/\k=((y.length:Int) != 0)
 | .byt y=>y.size <= sizeLine/\k=((y.size:Int) != 0)
 | .ref p=>(∃ xs,SqL K H p xs/\k = !xs.isEmpty) ∨ (∃ xs,SqT K H p xs/\k = !xs.isEmpty) ∨ ∃ kvs,H p=some (.dK kvs)/\k = !kvs.isEmpty
 | _=>False
def c1t{κ:Type}{kvs:List (κ × V)}{vs:List (κ × Value)}(r:KV kvs vs):(!vs.isEmpty) = !kvs.isEmpty:=by
 cases r<;>rfl
def b3a{xs:List V}{its:List Value}(r:Vals xs its):(!its.toArray.isEmpty) = !xs.isEmpty:=by
 cases r<;>simp
def a7q:(sizeLine:Nat) < 2 ^ 63:=by rw [sizeLine_eq];decide
def d7e:TruR X (fun x H Q=>∃ k,TruV X.K x H k/\Q k H):=by
 intro pins s σ H x v Q I rx h;obtain⟨k,e,q⟩:=h;have hl:=a7q;have hs:sizeLine=16777216:=sizeLine_eq;cases x with
 | non =>
  cases rx
  have e':k=false:=e;subst e';exact truthy_none ⟨H,I,q⟩
 | bl b =>
  cases rx
  have e':k=b:=e;subst e';exact wpAny_truthy_bool ⟨H,I,q⟩
 | int i =>
  obtain⟨t,rfl⟩:=rx;have e':k=(i != 0):=e;subst e';exact PySem.P.truthy_int ⟨H,I,q⟩
 | str y =>
  obtain⟨t,rfl⟩:=rx;obtain⟨hy,e'⟩:y.length <= sizeLine/\k=((y.length:Int) != 0):=e;subst e';exact PySem.P.truthy_str 'o' ⟨H,I.tok _,q⟩
 | byt y =>
  obtain⟨t,rfl⟩:=rx;obtain⟨hy,e'⟩:y.size <= sizeLine/\k=((y.size:Int) != 0):=e;subst e';exact PySem.W.truthy_bytes 'o' ⟨H,I.tok _,q⟩
 | ref p =>
  cases rx
  have e':(∃ xs,SqL X.K H p xs/\k = !xs.isEmpty) ∨ (∃ xs,SqT X.K H p xs/\k = !xs.isEmpty) ∨ ∃ kvs,H p=some (.dK kvs)/\k = !kvs.isEmpty:=e;rcases e' with⟨xs,hx,e'⟩ | ⟨xs,hx,e'⟩ | ⟨kvs,hx,e'⟩
  ·subst e'
   obtain⟨its,r,pl,hz⟩:=I.list hx;have hlen:=r.length;exact wpAny_truthy_list pl.isList (by simp only [size_toArray];omega) ⟨H,I.tok _,by rw [b3a r];exact q⟩
  ·subst e'
   obtain⟨its,r,pl,hz⟩:=I.tuple hx;have hlen:=r.length;exact truthy_tuple pl (by simp only [size_toArray];omega) ⟨H,I.tok _,by rw [b3a r];exact q⟩
  ·subst e'
   obtain⟨hz,hS,vs,r,m⟩:kvs.length <= sizeLine/\(p == sysModules)=false/\∃ vs,KV kvs vs/\s.heap.DictOf (a1f X.prog X.w) p vs:=I.hok p _ hx;have hlen:kvs.length=vs.length:=Paired.length r;exact wpAny_truthy_dict hS m 'o' ⟨H,I.tok _,by rw [c1t r];exact q⟩
 | _=>exact(show False from e).elim
def c8b(ha:PE X a ta)(he:∀ whole,isTrue a X.env whole=(do let v ← whole;standAt a.pos;holding [v] (truthy v))) :
  PT X a (fun σ H Q=>ta σ H fun x H'=>∃ k,TruV X.K x H' k/\Q k H'):=by
 intro pins s σ H Q I h;exact isTrue_plain (thn (ha pins s σ H _ I h) fun v s1 hq8=>by obtain⟨x,H1,I1,r1,q1⟩:=hq8;exact d7e pins s1 σ H1 x v Q I1 r1 q1) (he _)
def c1u:OpR X (binaryOp .Add) (fun x y H Q=>∃ i j,x=.str i/\y=.str j/\i.length + j.length <= sizeLine/\Q (.str (i ++ j)) H):=by
 intro pins s σ H x y v u Q I rx ry h;obtain⟨i,j,rfl,rfl,hz,q⟩:=h;obtain⟨t,rfl⟩:=rx;obtain⟨t',rfl⟩:=ry;exact add_str (fun t' tk=>⟨.str (i ++ j),H,I.tok _,⟨_,rfl⟩,q⟩) hz
def vals1{x:V}{us:List Value}(r:Vals [x] us):∃ u,us=[u]/\RelV x u:=by
 cases r with
 | cons r1 r2=>cases r2;exact⟨_,rfl,r1⟩
end
end L2
namespace L2
open PySem PySem.Spec PyProof.Rows
structure ObjM(h:Heap)(x dx C:Addr)(mA:Str->Option Value):Prop where
 obj:h.get? x=some (PySem.W.instObj C dx)
 ns:h.Ns1 dx mA
 ne:dx ≠ x
def c4q{h:Heap}{dx:Addr}{mA:Str->Option Value}(n:h.Ns1 dx mA):∃ od,h.get? dx=some od/\∀ name,PySem.W.lookIn name od=some (mA name):=by
 obtain⟨o,es,ep,ho,hd,hk,_,hm⟩:=n;refine⟨o,ho,fun name=>?_⟩;have e:=hm name;unfold nsFind findBy at e;rw [← Array.find?_toList] at e;unfold PySem.W.lookIn;rw [hd]
 dsimp only
 split
 ·rename_i y q
  rw [q] at e;exact congrArg some e
 ·rename_i q
  rw [q] at e;have a:es.toList.any (·.refKey)=false:=by
   rw [List.any_eq_false];intro y hy;obtain⟨z,t,hkey⟩:=hk y (mem_toList_iff.mp hy);simp [DictEntry.refKey,hkey]
  have a':¬ es.toList.any (·.refKey)=true:=by rw [a];exact Bool.false_ne_true
  rw [if_neg a'];exact congrArg some e
def ObjM.look{h:Heap}{x dx C:Addr}{mA:Str->Option Value}(I:ObjM h x dx C mA):∃ od,PySem.W.InstAt h x (PySem.W.instObj C dx) C (some od)/\∀ name,PySem.W.lookIn name od=some (mA name):=
 let ⟨od,ho,hl⟩:=c4q I.ns
 ⟨od,⟨I.obj,rfl,rfl,ho⟩,hl⟩
section
variable{prog:Program}{w:World}{A:Around}{E:Value->Shared->Prop}{s:Shared}{K:W.Frag}{x dx C f:Addr}{mA:Str->Option Value}{name:Str}{v:Value}
def d2x{expr:Bool}{Q:Value->Shared->Prop}(X:K.In s.heap)(I:ObjM s.heap x dx C mA)(hg:PySem.W.plainGet K C name=true)(hh:PySem.W.hasDictIn K C=true)
  (ha:PySem.W.findIn K (.ref C) name=some none) (hv:mA name=some v) (hv':PySem.W.handedIn v=true) (h:Q v { s with toks:=s.toks + 1 }) :
  wpAny (model prog w) A (getAttr (.ref x) name expr) Q E s:=by
 obtain⟨od,J,hl⟩:=I.look;exact PySem.W.get_value X J (PySem.W.plainGet_of hg).1 (PySem.W.findObj_own hh ha rfl (by rw [hl,hv])) hv' h
def d2y{ns:List Str}{Q:Unit->Shared->Prop}(X:K.In s.heap)(I:ObjM s.heap x dx C mA)
  (hs:PySem.W.findIn K (.ref C) "__setattr__" = some (some (.builtin "object.__setattr__"))) (hp:PySem.W.plainOver K C=true) (ht:PySem.W.takerIn K C name=some none) (hh:PySem.W.hasDictIn K C=true)
  (hw:PySem.Within mA ns) (hsz:ns.length <= sizeLine)
  (h:∀ h',ObjM h' x dx C (fun y=>if y=name then some v else mA y)->Heap.SameBut dx s.heap h'->Q () { s with heap:=h',toks:=s.toks + 2 }) :
  wpAny (model prog w) A (setAttr (.ref x) name v) Q E s:=by
 obtain⟨od,J,hl⟩:=I.look;refine PySem.W.set_plain X J hs (PySem.W.osa_open (s:={ s with toks:=s.toks + 1 }) (r:=none) X J hp ht fun b=>?_);obtain⟨cd,hc,hd'⟩:=PySem.W.any_some hh;have hx:s.heap.get? x=some ⟨.ref C,some dx,.plain,#[]⟩:=I.obj;refine wpAny_bind (wpAny_pure (wpAny_bind (wpAny_bind (wpAny_loadPart hx (wpAny_bind (PySem.W.Looks.here (s:={ s with toks:=s.toks + 1 }) (PySem.W.looks_clsIn X hc) ?_))))));rw [hd'];refine wpAny_pure (a:=some dx) (wpAny_bind (wpAny_pure (wpAny_bind ?_)));refine wpAny_nsSet1 (s:={ s with toks:=s.toks + 1 }) I.ns fun h' hn2 hs2=>?_;obtain⟨oD,esD,epD,hoD,hdD,hcD⟩:=hn2.count (PySem.Within.cons name v hw);refine wpAny_bind (wpAny_lookBehind hoD (by rw [hdD];exact pastItsLine_dict (le_trans hcD (by rw [length_cons];omega))) ?_);exact wpAny_pure (h _ ⟨(hs2.2 _ (Ne.symm I.ne)).trans I.obj,hn2,I.ne⟩ hs2)
def c8c{R:Result->Shared->Prop}{vs:List Value}{kw:List (Str × Value)}(X:K.In s.heap)(hm:PySem.W.makesIn K C=true)
  (hi:PySem.W.findIn K (.ref C) "__init__" = some (some (.ref f))) (hf:PySem.W.typeIn K (.ref f)=some (.type "function"))
  (h:codeAny (model prog w) (A.under (.builtin "type.__call__" ⟨.ref C :: vs,kw⟩)) (.call (.ref f) ⟨.ref (s.heap.objs.size + 1) :: vs,kw⟩) (PySem.W.InitBack (s.heap.objs.size + 1) R)
   { s with heap:=(s.heap.push PySem.W.emptyDict).push (PySem.W.instObj C s.heap.objs.size) }) :
  codeAny (model prog w) A (.call (.ref C) ⟨vs,kw⟩) R s:=by
 obtain⟨hh,g,d,t,os⟩:=s;exact PySem.W.make_core (PySem.W.makes_of X hm) (PySem.W.looks_findIn X hi) (fun self=>PySem.W.bind_fn X self hf) (.inl rfl) h
end
noncomputable def putF(f:Str)(v:V):List (Str × V)->List (Str × V)
 | []=>[(f,v)]
 | (g,x) :: r=>if g=f then(g,v) :: r else(g,x) :: putF f v r
def a0p(f g:Str)(v:V):∀ fs:List (Str × V),(putF f v fs).lookup g=if g=f then some v else fs.lookup g
 | []=>by
  show List.lookup g [(f,v)]=_;by_cases h:g=f
  ·have hb:(g == f)=true:=beq_iff_eq.mpr h
   simp only [List.lookup,hb,if_pos h]
  ·have hb:(g == f)=false:=beq_eq_false_iff_ne.mpr h
   simp only [List.lookup,hb,if_neg h]
 | (k,x) :: r=>by
  have ih:=a0p f g v r;rw [show putF f v ((k,x) :: r)=(if k=f then(k,v) :: r else(k,x) :: putF f v r) from rfl];by_cases hk:k=f
  ·rw [if_pos hk]
   by_cases h:g=k
   ·have hb:(g == k)=true:=beq_iff_eq.mpr h
    simp only [List.lookup,hb,if_pos (h.trans hk)]
   ·have hb:(g == k)=false:=beq_eq_false_iff_ne.mpr h
    simp only [List.lookup,hb,if_neg (fun e:g=f=>h (e.trans hk.symm))]
  ·rw [if_neg hk]
   by_cases h:g=k
   ·have hb:(g == k)=true:=beq_iff_eq.mpr h
    simp only [List.lookup,hb,if_neg (fun e:g=f=>hk (h.symm.trans e))]
   ·have hb:(g == k)=false:=beq_eq_false_iff_ne.mpr h
    simp only [List.lookup,hb];exact ih
def a9v(f:Str)(v:V):∀ fs:List (Str × V),f ∈ (putF f v fs).map (·.1)/\∀ g,g ∈ fs.map (·.1)->g ∈ (putF f v fs).map (·.1)
 | []=>⟨by simp [putF],fun g h=>by simp at h⟩
 | (k,x) :: r=>by
  obtain⟨i1,i2⟩:=a9v f v r;rw [show putF f v ((k,x) :: r)=(if k=f then(k,v) :: r else(k,x) :: putF f v r) from rfl];by_cases hk:k=f
  ·rw [if_pos hk]
   subst hk;exact⟨by simp,fun g h=>by simpa using h⟩
  ·rw [if_neg hk]
   refine⟨?_,fun g h=>?_⟩
   ·rw [map_cons]
    exact mem_cons_of_mem _ i1
   ·rw [map_cons] at h ⊢
    rcases mem_cons.mp h with e | e
    ·exact mem_cons.mpr (.inl e)
    ·exact mem_cons_of_mem _ (i2 g e)
def a8d(f:Str)(v:V):∀ fs:List (Str × V),(putF f v fs).length <= fs.length + 1
 | []=>by simp [putF]
 | (k,x) :: r=>by
  have ih:=a8d f v r;rw [show putF f v ((k,x) :: r)=(if k=f then(k,v) :: r else(k,x) :: putF f v r) from rfl];by_cases hk:k=f
  ·rw [if_pos hk,length_cons,length_cons];omega
  ·rw [if_neg hk,length_cons,length_cons];omega
def RelO.some_of{v:V}{o:Option Value}(r:RelO (some v) o):∃ u,o=some u/\RelV v u:=by
 cases o with
 | none=>exact(show False from r).elim
 | some u=>exact⟨u,rfl,r⟩
def RelO.none_of{o:Option Value}(r:RelO none o):o=none:=by
 cases o with
 | none=>rfl
 | some u=>exact(show False from r).elim
def c4r{v:V}{u:Value}(r:RelV v u):PySem.W.handedIn u=true:=by
 cases v with
 | non=>cases (show u=Value.none from r);rfl
 | bl b=>cases (show u=Value.bool b from r);rfl
 | int i=>obtain⟨t,e⟩:=(show ∃ t,u=Value.int i t from r);cases e;rfl
 | str x=>obtain⟨t,e⟩:=(show ∃ t,u=Value.str x t from r);cases e;rfl
 | byt b=>obtain⟨t,e⟩:=(show ∃ t,u=Value.bytes b t from r);cases e;rfl
 | flt b=>obtain⟨t,e⟩:=(show ∃ t,u=Value.float b t from r);cases e;rfl
 | ref a=>cases (show u=Value.ref a from r);rfl
 | ty n=>cases (show u=Value.type n from r);rfl
section
variable{P:Program}{w:World}{H H':Hp}{h h':Heap}{a C dx:Addr}{fs fs':List (Str × V)}
def c0j(hok:HOk P w H h)(e:H a=some (.ins C dx fs)):∃ mA,ObjM h a dx C mA/\(∀ f,RelO (fs.lookup f) (mA f))/\PySem.Within mA (fs.map (·.1))/\fs.length <= 1000/\H dx=some (.own a):=by
 obtain⟨d,z,ne,ob,mA,n,r,q⟩:=(show a1h P w H h a (.ins C dx fs) from hok a _ e);exact⟨mA,⟨ob,n,ne⟩,r,q,z,d⟩
end
structure Cls(K:W.Frag)(C:Addr):Prop where
 pg:PySem.W.plainGet K C Str.empty=true
 hd:PySem.W.hasDictIn K C=true
 po:PySem.W.plainOver K C=true
 sa:PySem.W.findIn K (.ref C) "__setattr__" = some (some (.builtin "object.__setattr__"))
def Cls.get{K:W.Frag}{C:Addr}(c:Cls K C)(f:Str):PySem.W.plainGet K C f=true:=c.pg
def a2j(K:W.Frag)(C:Addr)(f:Str):Prop:=PySem.W.findIn K (.ref C) f=some none
def a2j.taker{K:W.Frag}{C:Addr}{f:Str}(n:a2j K C f):PySem.W.takerIn K C f=some none:=by
 unfold PySem.W.takerIn;rw [show PySem.W.findIn K (.ref C) f=some none from n];rfl
section
variable{X:Cx}{pins:List 'a'}{σ:St}{H:Hp}{s:Shared}{a C dx:Addr}{fs:List (Str × V)}{f:Str}{v:V}{A:Around}{E:Value->Shared->Prop}
def c1v{b:Bool}{Q:Value->Shared->Prop}(I:Inv X pins σ H s)(e:H a=some (.ins C dx fs))(c:Cls X.K C)(n:a2j X.K C f)(l:fs.lookup f=some v)
  (h:∀ u s',Inv X pins σ H s'->RelV v u->Q u s'):wpAny (model X.prog X.w) A (getAttr (.ref a) f b) Q E s:=by
 obtain⟨mA,O,r,_,_,_⟩:=c0j I.hok e;obtain⟨u,hu,ru⟩:=RelO.some_of (v:=v) (o:=mA f) (by rw [← l];exact r f);exact d2x I.kIn O (c.get f) c.hd n hu (c4r ru) (h u _ (I.tok _) ru)
def c1w{y:V}{u:Value}{Q:Unit->Shared->Prop}(I:Inv X pins σ H s)(e:H a=some (.ins C dx fs))(c:Cls X.K C)(n:a2j X.K C f)(hl:fs.length < 1000)(ry:RelV y u)
  (h:∀ s',Inv X pins σ (upd H a (.ins C dx (putF f y fs))) s'->Q () s'):wpAny (model X.prog X.w) A (setAttr (.ref a) f u) Q E s:=by
 obtain⟨mA,O,r,wi,_,ho⟩:=c0j I.hok e;have hz:(fs.map (·.1)).length <= sizeLine:=by rw [length_map,sizeLine_eq];omega
 refine d2y I.kIn O c.sa c.po n.taker c.hd wi hz fun h' O' sb=>h _ ?_;have hd:∃ o,h'.get? dx=some o:=by obtain⟨o,_,_,e',_⟩:=O'.ns;exact⟨o,e'⟩
 refine I.write (x:=a) (e:=dx) (by rw [e];exact True.intro) (.inr ho) (fun b q hb z=>(sb.2 b hb).trans z) hd ?_;refine⟨by rw [a0b O.ne];exact ho,?_,O.ne,O'.obj,_,O'.ns,fun g=>?_,fun g hg=>?_⟩
 ·have:=a8d f y fs;omega
 ·show RelO ((putF f y fs).lookup g) (if g=f then some u else mA g)
  rw [a0p];by_cases q:g=f
  ·rw [if_pos q,if_pos q];exact ry
  ·rw [if_neg q,if_neg q];exact r g
 ·by_cases q:g=f
  ·rw [q];exact(a9v f y fs).1
  ·refine(a9v f y fs).2 g (wi g fun z=>hg ?_)
   show(if g=f then some u else mA g)=none;rw [if_neg q];exact z
def Inv.made(I:Inv X pins σ H s):Inv X pins σ (upd (upd H s.heap.objs.size (.own (s.heap.objs.size + 1))) (s.heap.objs.size + 1) (.ins C s.heap.objs.size []))
  { s with heap:=(s.heap.push PySem.W.emptyDict).push (PySem.W.instObj C s.heap.objs.size) }:=by
 have e1:(s.heap.push PySem.W.emptyDict).get? s.heap.objs.size=some PySem.W.emptyDict:=get?_push_size s.heap rfl;have e2:((s.heap.push PySem.W.emptyDict).push (PySem.W.instObj C s.heap.objs.size)).get? (s.heap.objs.size + 1)=some (PySem.W.instObj C s.heap.objs.size):=by
  have:=get?_push_size (s.heap.push PySem.W.emptyDict) (o:=PySem.W.instObj C s.heap.objs.size) rfl
  rwa [size_push] at this
 have e3:(s.heap.push PySem.W.emptyDict).Ns s.heap.objs.size (fun _=>none):=⟨PySem.W.emptyDict,#[],_,e1,rfl,(fun e he=>absurd he 'c'),fun _=>rfl⟩;have I1:=I.laid (a:=s.heap.objs.size) (o:=.own (s.heap.objs.size + 1)) (h':=s.heap.push PySem.W.emptyDict) (t':=s.toks) (fun b u q=>get?_push_of_some _ q) 'b' ⟨_,e1⟩;refine I1.laid (a:=s.heap.objs.size + 1) (o:=.ins C s.heap.objs.size []) (t':=s.toks) (fun b u q=>get?_push_of_some _ q) (le_of_eq (size_push _ _)) ?_;have ne:s.heap.objs.size ≠ s.heap.objs.size + 1:=ne_of_lt (lt_succ_self _);refine⟨by rw [a0b ne,a0d],zero_le _,ne,e2,fun _=>none,(Heap.Ns1.of_empty e3).at fun o q=>get?_push_of_some _ q,fun _=>True.intro,fun y hy=>absurd rfl hy⟩
def d2z{prog:Program}{w:World}{env:Env}{e:Expr}{f:Str}{pos:Pos}{s:Shared}{Q:Value->Shared->Prop}(hb:attributeBase e f env (eval e env)=eval e env)
  (h:wpAny (model prog w) A (eval e env) (fun o s₁=>wpAny (model prog w) A (getAttr o f true) Q E s₁) E s):wpAny (model prog w) A (eval (.Attribute e f pos) env) Q E s:=
 Attribute_any_ h (by rw [arm_eval_Attribute,hb])
end
def tFld(K:W.Frag)(ta:TE)(f:Str):TE:=fun σ H Q=>ta σ H fun x H1=>∃ a C dx fs v,x=.ref a/\H1 a=some (.ins C dx fs)/\Cls K C/\a2j K C f/\fs.lookup f=some v/\Q v H1
def sFld(K:W.Frag)(ta tv:TE)(f:Str):TS:=fun D σ H=>tv σ H fun y H1=>ta σ H1 fun x H2=>∃ a C dx fs,x=.ref a/\H2 a=some (.ins C dx fs)/\Cls K C/\a2j K C f/\fs.length < 1000 /\
 D.nx σ (upd H2 a (.ins C dx (putF f y fs)))
section
variable{X:Cx}{o e value:Expr}{f:Str}{pos pos' tpos:Pos}{ta tv:TE}
def b6u(he:PE X e ta)(hb:attributeBase e f X.env (eval e X.env)=eval e X.env):PE X (.Attribute e f pos) (tFld X.K ta f):=by
 intro pins s σ H Q I h;refine d2z hb (thn (he pins s σ H _ I h) fun u s1 hq9=>?_);obtain⟨x,H1,I1,rx,a,C,dx,fs,v,ex,ea,c,n,l,q⟩:=hq9;subst ex;obtain rfl:u=Value.ref a:=rx;exact c1v I1 ea c n l fun u' s2 I2 ru=>⟨v,H1,I2,ru,q⟩
def a9w(ha:PE X o ta)(hv:PE X value tv)(hs:swapsWith value (some (.Attribute o f pos')) pos.line X.env=pure false):PS X (.Assign [.Attribute o f pos'] value pos) (sFld X.K ta tv f):=by
 intro pins s σ H D I h;refine plainObj_wpAny_Assign_Attribute (thn (hv pins s σ H _ I h) fun u s1 ⟨y,H1,I1,ry,q⟩=>thn (ha pins s1 σ H1 _ I1 q) fun ov s2 hq8=>?_) hs;obtain⟨x,H2,I2,rx,a,C,dx,fs,ex,ea,c,n,l,q2⟩:=hq8;subst ex;obtain rfl:ov=Value.ref a:=rx;exact c1w I2 ea c n l ry fun s3 I3=>⟨σ,_,I3,q2⟩
end
end L2
namespace L2
open PySem PySem.Spec PyProof.Rows
structure Room(k:Nat)(A:Around):Prop where
 hd:A.handled=none
 dp:A.depth + 3 * k + 5 < recursionLimit
 un:A.units + 16 * k + 200 < cLine
 gd:A.guards=some []
def Room.mono{j k:Nat}{A:Around}(r:Room k A)(h:j <= k):Room j A:=⟨r.hd,by have:=r.dp;omega,by have:=r.un;omega,r.gd⟩
def Room.deeper{k:Nat}{A:Around}(r:Room (k + 1) A)(env:Env):Room k (A.deeper env):=
 ⟨r.hd,by have:=r.dp;show A.depth + 1 + 3 * k + 5 < _;omega,by have:=r.un;show A.units + 3 + 16 * k + 200 < _;omega,r.gd⟩
def c1x{A:Around}{C:Addr}{us:List Value}{kw:List (Str × Value)}:(A.under (.builtin "type.__call__" ⟨.ref C :: us,kw⟩)).depth=A.depth + 1:=by
 first | rfl | simp [Around.under,Code.weight,Code.isCreation,Code.isGuard,Code.isCaller,Code.frames,Code.isFrame,guardIds]
def c1y{A:Around}{C:Addr}{us:List Value}{kw:List (Str × Value)}:(A.under (.builtin "type.__call__" ⟨.ref C :: us,kw⟩)).units=A.units + 1:=by
 first | rfl | simp [Around.under,Code.cUnits,Code.frames,Code.isFrame]
def Room.make{k:Nat}{A:Around}(r:Room (k + 1) A)(C:Addr)(us:List Value)(kw:List (Str × Value)):Room k (A.under (.builtin "type.__call__" ⟨.ref C :: us,kw⟩)):=
 ⟨r.hd,by have:=r.dp;rw [c1x];omega,by have:=r.un;rw [c1y];omega,by rw [show(A.under (.builtin "type.__call__" ⟨.ref C :: us,kw⟩)).guards=A.guards from by first | rfl | simp [Around.under,Code.guards,Code.isGuard,guardIds,pushGuards]];exact r.gd⟩
def Room.depth{k:Nat}{A:Around}(r:Room k A):A.depth < recursionLimit:=by have:=r.dp;omega
def Room.units{k:Nat}{A:Around}(r:Room k A):A.units + 64 < cLine:=by have:=r.un;omega
def tNil:TA:=fun _ H Q=>Q [] H
def a3g(ta:TE)(tr:TA):TA:=fun σ H Q=>ta σ H fun x H1=>tr σ H1 fun xs H2=>Q (x :: xs) H2
section
variable{X:Cx}{e:Expr}{es:List Expr}{te:TE}{t:TA}{pos:Pos}
def a0j:PA X [] tNil:=fun _ _ _ _ H Q I h=>Calls.spliced_nil ⟨[],H,I,.nil,h⟩
def a0e(ha:PE X e te)(hr:PA X es t)(hs:starEach (e :: es) X.env=(false,eval e X.env) :: starEach es X.env:=by rfl):PA X (e :: es) (a3g te t):=by
 intro pos pins s σ H Q I h;rw [hs];show wpAny _ _ (spliced ((false,eval e X.env) :: backTo pos (starEach es X.env))) _ _ s;refine Calls.spliced_cons (thn (ha pins s σ H _ I h) fun u s1 hq9=>?_);obtain⟨x,H1,I1,r1,q1⟩:=hq9;exact thn (hr pos pins s1 σ H1 _ I1 q1) fun us s2 hq8=>by obtain⟨xs,H2,I2,r2,q2⟩:=hq8;exact⟨x :: xs,H2,I2,.cons r1 r2,q2⟩
def tTup(t:TA):TE:=fun σ H Q=>t σ H fun xs H1=>xs.length <= sizeLine/\∀ p,H1 p=none->Q (.ref p) (upd H1 p (.tup xs))
def tLst(t:TA):TE:=fun σ H Q=>t σ H fun xs H1=>xs.length <= sizeLine/\∀ p,H1 p=none->Q (.ref p) (upd H1 p (.lst xs))
def a7r{x1}(h:PA X es t):PE X (.Tuple es x1 pos) (tTup t):=by
 intro pins s σ H Q I hq;refine wpAny_Tuple_spliced (thn (h pos pins s σ H _ I hq) fun us s1 ⟨xs,H1,I1,r,z,q⟩=>⟨by rw [← r.length];exact z,?_⟩);have hf:H1 s1.heap.objs.size=none:=I1.hok.fresh 'b';refine⟨.ref s1.heap.objs.size,upd H1 s1.heap.objs.size (.tup xs),I1.laid (t':=s1.toks) (fun b u e=>get?_push_of_some _ e) 'b' ?_,rfl,q _ hf⟩;exact⟨z,us,r,⟨_,get?_push_size _ rfl,⟨rfl,rfl⟩,_,rfl⟩⟩
def a8h(h:PA X es t):PE X (.List es pos) (tLst t):=by
 intro pins s σ H Q I hq;refine wpAny_List_spliced (thn (h pos pins s σ H _ I hq) fun us s1 ⟨xs,H1,I1,r,z,q⟩=>⟨by rw [← r.length];exact z,?_⟩);have hf:H1 s1.heap.objs.size=none:=I1.hok.fresh 'b';refine⟨.ref s1.heap.objs.size,upd H1 s1.heap.objs.size (.lst xs),I1.laid (t':=s1.toks) (fun b u e=>get?_push_of_some _ e) 'b' ?_,rfl,q _ hf⟩;exact⟨z,us,0,r,get?_push_size _ rfl⟩
end
abbrev Sp:=List V->Hp->VK->XK->Prop
abbrev CXT:=List Env->Hp->Shared->XK->Value->Shared->Prop
structure Env0(P:Program)(w:World)(K:W.Frag)(mg:Str->Option Value)(base:Heap)(A:Around)(outer:List Env)(s:Shared)(H:Hp):Prop where
 frames:A.frames=some outer
 mod:Mod K mg base
 bs:∀ b o,base.get? b=some o->s.heap.get? b=some o/\H b=none
 bsz:base.objs.size <= s.heap.objs.size
 funs:s.heap.FunFrames base outer
 frf:∀ b ∈ frs outer,H b=none
 hok:HOk P w H s.heap
 bare:AllBare s.gens
def CE(outer:List Env)(P:Program)(w:World)(H:Hp)(s:Shared)(Q:VK)(u:Value)(s':Shared):Prop:=
 ∃ v H',s'.os=s.os/\AllBare s'.gens/\Un (frs outer) [] H H' s.heap s'.heap/\HOk P w H' s'.heap/\RelV v u/\Q v H'
def CR(CX:CXT)(outer:List Env)(P:Program)(w:World)(H:Hp)(s:Shared)(Q:VK)(E:XK)(r:Result)(s':Shared):Prop:=
 match r with
 | .ok (.ret u)=>CE outer P w H s Q u s'
 | .ok _=>False
 | .error e=>CX outer H s E e s'
structure FnOk(P:Program)(w:World)(K:W.Frag)(mg:Str->Option Value)(base:Heap)(CX:CXT)(k:Nat)(f:Addr)(fd:FuncData)(ps:List Str)(sp:Sp):Prop where
 len:∀ vs H Q E,sp vs H Q E->vs.length=ps.length
 run:∀ (A:Around) (outer:List Env) (s:Shared) (H:Hp) (args:Args) (us:List Value) (vs:List V) (Q:VK) (E:XK),Room k A->Env0 P w K mg base A outer s H->BindsTo s fd args (ps.zip us)->Vals vs us->sp vs H Q E ->
  codeAny (model P w) A (.call (.ref f) args) (CR CX outer P w H s Q E) s
def FnOk.mono{P:Program}{w:World}{K:W.Frag}{mg:Str->Option Value}{base:Heap}{CX:CXT}{j k:Nat}{f:Addr}{fd:FuncData}{ps:List Str}{sp:Sp}(F:FnOk P w K mg base CX j f fd ps sp)(h:j <= k) :
  FnOk P w K mg base CX k f fd ps sp:=⟨F.len,fun A outer s H args us vs Q E hr=>F.run A outer s H args us vs Q E (hr.mono h)⟩
def FnOk.imp{P:Program}{w:World}{K:W.Frag}{mg:Str->Option Value}{base:Heap}{CX:CXT}{k:Nat}{f:Addr}{fd:FuncData}{ps:List Str}{sp sp':Sp}(F:FnOk P w K mg base CX k f fd ps sp)
  (h:∀ vs H Q E,sp' vs H Q E->sp vs H Q E):FnOk P w K mg base CX k f fd ps sp':=
 ⟨fun vs H Q E q=>F.len vs H Q E (h _ _ _ _ q),fun A outer s H args us vs Q E hr he hb hv hs=>F.run A outer s H args us vs Q E hr he hb hv (h _ _ _ _ hs)⟩
def Env0.make{P:Program}{w:World}{K:W.Frag}{mg:Str->Option Value}{base:Heap}{A:Around}{outer:List Env}{s:Shared}{H:Hp}(e:Env0 P w K mg base A outer s H)(C:Addr)(us:List Value)(kw:List (Str × Value)) :
  Env0 P w K mg base (A.under (.builtin "type.__call__" ⟨.ref C :: us,kw⟩)) outer s H:=⟨by first | exact e.frames | (simpa [Around.under,Code.envs,Code.isFrame,pushEnvs] using e.frames),e.mod,e.bs,e.bsz,e.funs,e.frf,e.hok,e.bare⟩
section
variable{X:Cx}{pins:List 'a'}{σ:St}{H:Hp}{s s':Shared}
def Inv.env0(I:Inv X pins σ H s):Env0 X.prog X.w X.K X.mg X.base X.A X.stack s H:=
 ⟨I.ok.frames,I.ok.mod,I.bs,le_trans I.ok.bsz I.sz,I.stack,I.stkFree,I.hok,I.bare⟩
def Inv.after{Q:VK}{u:Value}(I:Inv X pins σ H s)(h:CE X.stack X.prog X.w H s Q u s'):EP X pins σ Q u s':=by
 obtain⟨v,H',os,bare,un,hok,r,q⟩:=h;obtain⟨hh,g,d,t,os'⟩:=s';obtain rfl:os'=s.os:=os;exact⟨v,H',I.call (h':=hh) (g':=g) (d':=d) (t':=t) (ch:=[]) un hok bare (fun b z=>absurd z 'c'),r,q⟩
end
def b0v(sp:Sp)(dvs:List V)(E:XK)(t:TA):TE:=fun σ H Q=>t σ H fun vs H1=>sp (vs ++ dvs) H1 Q E
def tMake(C:Addr)(sp:Sp)(dvs:List V)(E:XK)(t:TA):TE:=fun σ H Q=>t σ H fun vs H1=>∀ x dx,H1 x=none->H1 dx=none->dx ≠ x ->
 sp (.ref x :: (vs ++ dvs)) (upd (upd H1 dx (.own x)) x (.ins C dx [])) (fun v H2=>v=.non/\Q (.ref x) H2) E
def Binds(K:W.Frag)(fd:FuncData)(ps:List Str)(ds:List Value):Prop:=
 ∀ (s:Shared) (us:List Value),K.In s.heap->(us ++ ds).length=ps.length->BindsTo s fd ⟨us,[]⟩ (ps.zip (us ++ ds))
def Binds.all{K:W.Frag}{fd:FuncData}{ps:List Str}(h:∀ us:List Value,us.length=ps.length->bindArgs fd ⟨us,[]⟩=pure (ps.zip us)):Binds K fd ps []:=fun s us _ hl=>by
 rw [append_nil] at hl ⊢;exact .of_eq (h us hl)
def a8i(CX:CXT)(X:Cx)(E:XK):Prop:=∀ (pins:List 'a') (σ:St) (H:Hp) (s:Shared) (e:Value) (s':Shared),Inv X pins σ H s->CX X.stack H s E e s'->X.xe e s'
section
variable{X:Cx}{CX:CXT}{k:Nat}{f C:Addr}{fd:FuncData}{ps:List Str}{sp:Sp}{dvs:List V}{ds:List Value}{E:XK}{x m:Str}{p pos apos:Pos}{e o:Expr}{es:List Expr}{ta:TE}{t:TA}
def d7f{pins:List 'a'}{σ:St}{H:Hp}{s:Shared}{Q:VK}{us:List Value}{vs:List V}(F:FnOk X.prog X.w X.K X.mg X.base CX k f fd ps sp)(hr:Room k X.A)(hb:Binds X.K fd ps ds)(hd:Vals dvs ds)(hx:a8i CX X E)
  (I:Inv X pins σ H s) (r:Vals vs us) (h:sp (vs ++ dvs) H Q E):wpAny (model X.prog X.w) X.A (call (.ref f) us) (EP X pins σ Q) X.xe s:=by
 have r2:Vals (vs ++ dvs) (us ++ ds):=r.append hd;have hl:(us ++ ds).length=ps.length:=by rw [← r2.length];exact F.len _ _ _ _ h
 refine wpAny_call (codeAny_mono (F.run X.A X.stack s H ⟨us,[]⟩ (us ++ ds) (vs ++ dvs) Q E hr I.env0 (hb s us I.kIn hl) r2 h) fun r s' hq=>?_);cases r with
 | error e=>exact hx pins σ H s e s' I hq
 | ok fl =>
  cases fl with
  | ret u=>exact I.after hq
  | next=>exact False.elim hq
  | brk=>exact False.elim hq
  | cont=>exact False.elim hq
def c0k(F:FnOk X.prog X.w X.K X.mg X.base CX k f fd ps sp)(hr:Room k X.A)(hg:Gl X x)(hm:X.mg x=some (.ref f))(hk:PySem.W.keepIn X.K (.ref f)=true)(hb:Binds X.K fd ps ds)(hd:Vals dvs ds)(hx:a8i CX X E)
  (ha:PA X (e :: es) t) (hdb:(x == ("__debug__" : Str))=false:=by decide) (he:starEach (e :: es) X.env=(false,eval e X.env) :: starEach es X.env:=by rfl) (hpl:(backTo pos (starEach es X.env)).any (·.1)=false:=by rfl) :
  PE X (.Call (.Name x p) (e :: es) [] pos) (b0v sp dvs E t):=by
 intro pins s σ H Q I h;refine wpAny_Call_Name_kw (a7f I hg hm ?_ hdb);refine PySem.W.callWith_K (h₀:=X.base) I.ok.mod.kin hk (thn (ha pos pins s σ H _ I h) fun us s1 ⟨vs,H1,I1,r,q⟩=>⟨I1.kIn,?_⟩) he hpl;exact d7f F hr hb hd hx I1 r q
structure Mk(K:W.Frag)(C f:Addr):Prop where
 makes:PySem.W.makesIn K C=true
 init:PySem.W.findIn K (.ref C) "__init__" = some (some (.ref f))
 fn:PySem.W.isFn K (.ref f)=true
 kp:PySem.W.keepIn K (.ref C)=true
def c8d{pins:List 'a'}{σ:St}{H:Hp}{s:Shared}{Q:VK}{us:List Value}{vs:List V}(M:Mk X.K C f)(F:FnOk X.prog X.w X.K X.mg X.base CX k f fd ps sp)(hr:Room (k + 1) X.A)(hb:Binds X.K fd ps ds)(hd:Vals dvs ds)
  (hx:a8i CX X E) (I:Inv X pins σ H s) (r:Vals vs us)
  (h:∀ x dx,H x=none->H dx=none->dx ≠ x->sp (.ref x :: (vs ++ dvs)) (upd (upd H dx (.own x)) x (.ins C dx [])) (fun v H2=>v=.non/\Q (.ref x) H2) E) :
  wpAny (model X.prog X.w) X.A (call (.ref C) us) (EP X pins σ Q) X.xe s:=by
 have hq:=h (s.heap.objs.size + 1) s.heap.objs.size (I.hok.fresh 'n') (I.hok.fresh 'b') (ne_of_lt (lt_succ_self _));have I2:=Inv.made (C:=C) I;have r2:Vals (V.ref (s.heap.objs.size + 1) :: (vs ++ dvs)) (Value.ref (s.heap.objs.size + 1) :: (us ++ ds)):=.cons rfl (r.append hd);have hl:(Value.ref (s.heap.objs.size + 1) :: us ++ ds).length=ps.length:=by
  have e:=r2.length;rw [F.len _ _ _ _ hq] at e;exact e.symm
 refine wpAny_call (c8c (f:=f) I.kIn M.makes M.init (beq_iff_eq.mp M.fn) (codeAny_mono (F.run _ X.stack _ _ ⟨Value.ref (s.heap.objs.size + 1) :: us,[]⟩ (Value.ref (s.heap.objs.size + 1) :: (us ++ ds)) _ _ E (hr.make C us [])
  (I2.env0.make C us []) (hb _ (Value.ref (s.heap.objs.size + 1) :: us) I2.kIn hl) r2 hq) fun r s' hq'=>?_))
 cases r with
 | error e=>exact hx pins σ _ _ e s' I2 hq'
 | ok fl =>
  cases fl with
  | ret u =>
   obtain⟨v,H',I3,rv,ev,q3⟩:=I2.after hq';subst ev;exact⟨rv,⟨V.ref (s.heap.objs.size + 1),H',I3,rfl,q3⟩⟩
  | next=>exact False.elim hq'
  | brk=>exact False.elim hq'
  | cont=>exact False.elim hq'
def d3a(M:Mk X.K C f)(F:FnOk X.prog X.w X.K X.mg X.base CX k f fd ps sp)(hr:Room (k + 1) X.A)(hg:Gl X x)(hm:X.mg x=some (.ref C))(hb:Binds X.K fd ps ds)(hd:Vals dvs ds)(hx:a8i CX X E)
  (ha:PA X (e :: es) t) (hdb:(x == ("__debug__" : Str))=false:=by decide) (he:starEach (e :: es) X.env=(false,eval e X.env) :: starEach es X.env:=by rfl) (hpl:(backTo pos (starEach es X.env)).any (·.1)=false:=by rfl) :
  PE X (.Call (.Name x p) (e :: es) [] pos) (tMake C sp dvs E t):=by
 intro pins s σ H Q I h;refine wpAny_Call_Name_kw (a7f I hg hm ?_ hdb);refine PySem.W.callWith_K (h₀:=X.base) I.ok.mod.kin M.kp (thn (ha pos pins s σ H _ I h) fun us s1 ⟨vs,H1,I1,r,q⟩=>⟨I1.kIn,?_⟩) he hpl;exact c8d M F hr hb hd hx I1 r q
end
section
variable{X:Cx}{CX:CXT}{k:Nat}{f C:Addr}{fd:FuncData}{ps ks:List Str}{sp:Sp}{E:XK}{x m:Str}{p pos apos kpos:Pos}{e o:Expr}{es:List Expr}{kws:List Keyword}{te ta:TE}{t tk:TA}{nm:Option Str}
variable{g:List Value->List Value->List Value}{gV:List V->List V->List V}
end
structure FnScope(N P:List Str)(sc:Scope):Prop where
 kind:sc.kind=.function
 co:sc.isCoroutine=false
 gen:sc.isGenerator=false
 nd:N.Nodup
 pre:N.take P.length=P
 par:∀ x ∈ P,sc.names.lookup x=some .local ∨ sc.names.lookup x=some .cell
 nofree:∀ y ∈ sc.names,y.2 ≠ .free
def b4y{kindOf:Str->Option NameKind}{x:Str}:∀ {binds:List (Str × Value)} {m:Str->Option Value},(∀ v,(x,v) ∉ binds)->bindL kindOf binds m x=m x
 | [],_,_=>rfl
 | (n,v) :: r,m,h=>by
  unfold bindL;rw [b4y fun w hw=>h w (mem_cons_of_mem _ hw)];split
  ·have:x ≠ n:=by rintro rfl;exact h v mem_cons_self
   simp [this]
  ·rfl
def b4z{kindOf:Str->Option NameKind}{x:Str}:∀ {binds:List (Str × Value)} {m:Str->Option Value},(∀ v,(x,v) ∉ binds)->bindC kindOf binds m x=m x
 | [],_,_=>rfl
 | (n,v) :: r,m,h=>by
  unfold bindC;rw [b4z fun w hw=>h w (mem_cons_of_mem _ hw)];split
  ·rfl
  ·have:x ≠ n:=by rintro rfl;exact h v mem_cons_self
   simp [this]
def b5a{kindOf:Str->Option NameKind}{x:Str}{v:Value}:∀ {P:List Str} {vs:List Value} {i:Nat} {m:Str->Option Value},P.Nodup->P[i]? = some x->vs[i]? = some v->kindOf x=some .local ->
  bindL kindOf (P.zip vs) m x=some v
 | [],_,_,_,_,h,_,_=>by simp at h
 | _ :: _,[],_,_,_,_,h,_=>by simp at h
 | p :: P,w :: vs,0,m,nd,h1,h2,hk=>by
  simp at h1 h2;subst h1;subst h2
  show bindL kindOf ((p,w) :: P.zip vs) m p=_;unfold bindL;rw [b4y fun v hv=>(nodup_cons.mp nd).1 (List.of_mem_zip hv).1,if_pos hk];simp
 | p :: P,w :: vs,i + 1,m,nd,h1,h2,hk=>by
  show bindL kindOf ((p,w) :: P.zip vs) m x=_;unfold bindL;exact b5a (i:=i) (nodup_cons.mp nd).2 (by simpa using h1) (by simpa using h2) hk
def b5b{kindOf:Str->Option NameKind}{x:Str}{v:Value}:∀ {P:List Str} {vs:List Value} {i:Nat} {m:Str->Option Value},P.Nodup->P[i]? = some x->vs[i]? = some v->kindOf x ≠ some .local ->
  bindC kindOf (P.zip vs) m x=some v
 | [],_,_,_,_,h,_,_=>by simp at h
 | _ :: _,[],_,_,_,_,h,_=>by simp at h
 | p :: P,w :: vs,0,m,nd,h1,h2,hk=>by
  simp at h1 h2;subst h1;subst h2
  show bindC kindOf ((p,w) :: P.zip vs) m p=_;unfold bindC;rw [b4z fun v hv=>(nodup_cons.mp nd).1 (List.of_mem_zip hv).1,if_neg hk];simp
 | p :: P,w :: vs,i + 1,m,nd,h1,h2,hk=>by
  show bindC kindOf ((p,w) :: P.zip vs) m x=_;unfold bindC;exact b5b (i:=i) (nodup_cons.mp nd).2 (by simpa using h1) (by simpa using h2) hk
noncomputable def start(N:List Str)(vs:List V):St:=vs.map some ++ List.replicate (N.length - vs.length) none
noncomputable def cxOf(CX:CXT)(P:Program)(w:World)(K:W.Frag)(mg:Str->Option Value)(base:Heap)(N:List Str)(qual:Str)(scope:Scope)(f:Addr)(cd:Value)(A:Around)(outer:List Env)(s:Shared)(H:Hp)(E:XK):Cx where
 prog:=P
 w:=w
 K:=K
 mg:=mg
 base:=base
 A:=A.deeper (envOfC qual scope s.heap.objs.size f cd)
 N:=N
 s₀:=s
 H₀:=H
 env:=envOfC qual scope s.heap.objs.size f cd
 outer:=outer
 stack:=envOfC qual scope s.heap.objs.size f cd :: outer
 ex:=[]
 calm:=true
 fn:=fun _=>true
 pn:=[]
 xe:=fun e s'=>wpAny (model P w) (A.deeper (envOfC qual scope s.heap.objs.size f cd)) (leaving (envOfC qual scope s.heap.objs.size f cd) e) (fun _ s''=>CX outer H s E e s'') (fun e' s''=>CX outer H s E e' s'') s'
def b6v{sc:Scope}{n:Nat}{x:Str}(h:sc.names.lookup x=some .cell):∃ c,(cellsFrom n sc.names []).lookup x=some c:=by
 have q:=PySem.W.cellsFrom_some sc.names n [] (.inl h);exact Option.isSome_iff_exists.mp q
def c4s{CX:CXT}{P:Program}{w:World}{K:W.Frag}{mg:Str->Option Value}{base:Heap}{N ps:List Str}{qual:Str}{scope:Scope}{f:Addr}{cd:Value}{A:Around}{outer:List Env}{s s1:Shared}{H:Hp}{E:XK}{us:List Value}{vs:List V}
  (S:FnScope N ps scope) (hd:A.handled=none) (e0:Env0 P w K mg base A outer s H) (hl:vs.length=ps.length) (r:Vals vs us)
  (x:InCallC s s.heap.objs.size (bindL (envOfC qual scope s.heap.objs.size f cd).kindOf (ps.zip us) fun _=>none) (cellsFrom (s.heap.objs.size + 1) scope.names []) (bindC (envOfC qual scope s.heap.objs.size f cd).kindOf (ps.zip us) fun _=>none) s1) :
  Inv (cxOf CX P w K mg base N qual scope f cd A outer s H E) [] (start N vs) H s1:=by
 have hpl:ps.length <= N.length:=by have:=congrArg List.length S.pre;rw [length_take] at this;omega
 obtain⟨h1,tk,rfl,hk⟩:=x.done;have noA:∀ b:Addr,b ∉ (cxOf CX P w K mg base N qual scope f cd A outer s H E).ex:=fun b z=>absurd (show b ∈ ([]:List Addr) from z) 'c';refine⟨⟨e0.mod,S.kind,rfl,rfl,le_refl _,fun y z c h1 h2=>?_,fun y hy=>?_,fun y c _ h=>?_,fun _=>hd,Around.frames_deeper e0.frames,.inr ⟨rfl,rfl⟩,fun b z=>absurd z (noA b),e0.bs,e0.bsz,fun b _ _=>noA b,fun b z=>absurd z (noA b),e0.funs,e0.frf⟩,
  rfl,e0.bare,Un.kept hk,⟨_,x.toInCall.ns,fun i y v h1 h2 h3=>?_⟩,fun y c h=>⟨_,x.cell y c h⟩,e0.hok.fresh 'b',fun y c h=>?_,fun p hp=>absurd (show p ∈ ([]:List 'a') from hp) 'c',e0.hok.kept hk,?_⟩
 ·exact name_of_addr x.apart (PySem.mem_of_lookup h1) (PySem.mem_of_lookup h2)
 ·have hy:scope.names.lookup y=some .cell ∨ scope.names.lookup y=some .free:=hy
  rcases hy with hy | hy
  ·exact b6v hy
  ·exact absurd rfl (S.nofree _ (PySem.mem_of_lookup hy))
 ·exact le_of_lt (x.above y c (PySem.mem_of_lookup h))
 ·have hi:i < vs.length:=by
   unfold start at h2;by_cases hi:i < vs.length
   ·exact hi
   ·rw [getElem?_append_right (by simpa using hi)] at h2
    rw [List.getElem?_replicate] at h2;split at h2<;>cases h2
  have ha:vs[i]? = some v:=by
   unfold start at h2;rw [List.getElem?_append_left (by simpa using hi),getElem?_map] at h2;cases e:vs[i]? with
   | none=>rw [e] at h2;cases h2
   | some a=>rw [e] at h2;cases h2;rfl
  obtain⟨u,hu,rv⟩:=r.get ha;have hp:ps[i]? = some y:=by
   rw [← S.pre,List.getElem?_take_of_lt 'o'];exact h1
  have ndP:ps.Nodup:=by rw [← S.pre];exact S.nd.sublist (List.take_sublist _ _)
  refine⟨u,rv,?_⟩;rcases S.par y (mem_of_getElem? hp) with k | k
  ·exact .inl ⟨k,b5a ndP hp hu k⟩
  ·obtain⟨c,e⟩:=b6v (n:=s.heap.objs.size + 1) k
   refine .inr ⟨.inl k,c,e,?_⟩;have q:=x.cell y c e;rw [b5b ndP hp hu (by show scope.names.lookup y ≠ _;rw [k];decide)] at q;exact q
 ·exact e0.hok.fresh (le_of_lt (x.above y c (PySem.mem_of_lookup h)))
 ·unfold start
  show _=N.length;rw [length_append,length_map,length_replicate];omega
def d1n{CX:CXT}{P:Program}{w:World}{K:W.Frag}{mg:Str->Option Value}{base:Heap}{k:Nat}{f:Addr}{name qual:Str}{params:Arguments}{body:List Stmt}{scope:Scope}{dV kV doc pm cdv ct oc:Value}{an od:Option Addr}
  {osl:Array (Option Value)} {N ps:List Str} {sp:Sp} (lk:K.lookup f=some ⟨oc,od,.func (PySem.W.fnOf name qual params body scope dV kV doc pm an cdv ct),osl⟩) (hcd:PySem.W.codeIn K cdv qual=true) (S:FnScope N ps scope)
  (len:∀ vs H Q E,sp vs H Q E->vs.length=ps.length)
  (hbody:∀ (A:Around) (outer:List Env) (s:Shared) (H:Hp) (vs:List V) (Q:VK) (E:XK),Room k (A.deeper (envOfC qual scope s.heap.objs.size f cdv))->sp vs H Q E ->
   ∃ t,PSs (cxOf CX P w K mg base N qual scope f cdv A outer s H E) body t/\t { nx:=fun _ H'=>Q .non H',rt:=Q } (start N vs) H) :
  FnOk P w K mg base CX (k + 1) f (PySem.W.fnOf name qual params body scope dV kV doc pm an cdv ct) ps sp:=by
 refine⟨len,fun A outer s H args us vs Q E hr e0 hb r hsp=>?_⟩;have hl:=len _ _ _ _ hsp;have KX:K.In s.heap:=e0.mod.kin.keeps fun b o e=>(e0.bs b o e).1;have lim:s.heap.NoLimit:=e0.mod.nolimit.keeps fun b o e=>(e0.bs b o e).1;have hkind:∀ y ∈ ps.zip us,scope.names.lookup y.1=some .local ∨ (scope.names.lookup y.1=some .cell/\((cellsFrom (s.heap.objs.size + 1) scope.names []).lookup y.1).isSome=true):=fun⟨n,v⟩ hy=>by
  rcases S.par n (List.of_mem_zip hy).1 with q | q
  ·exact .inl q
  ·exact .inr ⟨q,PySem.W.cellsFrom_some _ _ _ (.inl q)⟩
 refine codeAny_call_function hr.depth (KX _ _ lk) rfl S.co S.gen rfl (PySem.W.codeRec_of KX hcd) (hb _ _ _ _ ?_);refine wpAny_newFunctionEnv_cells S.kind hkind fun env he s1 x=>?_;subst he;refine⟨lim.keeps x.toInCall.keep,codeAny_func ?_⟩;obtain⟨t,ht,hq⟩:=hbody A outer s H vs Q E (hr.deeper _) hsp;have I:Inv (cxOf CX P w K mg base N qual scope f cdv A outer s H E) [] (start N vs) H s1:=c4s S hr.hd e0 hl r x;refine wpAny_mono (ht [] s1 (start N vs) H _ I hq) (fun fl s' hs=>?_) fun e s' hs=>hs;have fin:∀ {σ':St} {H':Hp} {v:V} {u:Value},Inv (cxOf CX P w K mg base N qual scope f cdv A outer s H E) [] σ' H' s'->RelV v u->Q v H'->CE outer P w H s Q u s':=
  fun{σ' H' v u} J rv q=>⟨v,H',J.os,J.bare,J.base,J.hok,rv,q⟩
 cases fl with
 | ret u =>
  obtain⟨v,σ',H',J,rv,q⟩:=hs;exact fin J rv q
 | next =>
  obtain⟨σ',H',J,q⟩:=hs;exact fin (v:=V.non) (u:=Value.none) J rfl q
 | brk =>
  obtain⟨_,_,_,q⟩:=hs;exact False.elim q
 | cont =>
  obtain⟨_,_,_,q⟩:=hs;exact False.elim q
end L2
namespace L2
open PySem PySem.Spec PyProof.Rows
section
variable{X:Cx}{x:Str}{p pos:Pos}{e:Expr}{es:List Expr}{t:TA}{id T:String}{r:List V->Hp->VK->Prop}
def tCB(r:List V->Hp->VK->Prop)(t:TA):TE:=fun σ H Q=>t σ H fun vs H1=>r vs H1 Q
def a2o(hc:a1r X (.builtin id) r)(hg:Gl X x)(hm:X.mg x=none)(hv:bootBuiltins x=some (.builtin id))(ha:PA X (e :: es) t) (hn:x ≠ "__name__":=by decide) (hdb:(x == ("__debug__" : Str))=false:=by decide)
  (he:starEach (e :: es) X.env=(false,eval e X.env) :: starEach es X.env:=by rfl) (hpl:(backTo pos (starEach es X.env)).any (·.1)=false:=by rfl):PE X (.Call (.Name x p) (e :: es) [] pos) (tCB r t):=by
 intro pins s σ H Q I h;refine wpAny_Call_Name_kw (a4k I hg hm hv ?_ hn hdb);exact PyProof.Rows.callWith_builtin1 (thn (ha pos pins s σ H _ I h) fun us s1 hq8=>by obtain⟨vs,H1,I1,r1,q1⟩:=hq8;exact hc pins s1 σ H1 vs us Q I1 r1 q1) he hpl
def a2l(hc:a1r X (.type T) r)(hg:Gl X x)(hm:X.mg x=none)(hv:bootBuiltins x=some (.type T))(ha:PA X (e :: es) t) (hn:x ≠ "__name__":=by decide) (hdb:(x == ("__debug__" : Str))=false:=by decide)
  (he:starEach (e :: es) X.env=(false,eval e X.env) :: starEach es X.env:=by rfl) (hpl:(backTo pos (starEach es X.env)).any (·.1)=false:=by rfl):PE X (.Call (.Name x p) (e :: es) [] pos) (tCB r t):=by
 intro pins s σ H Q I h;refine wpAny_Call_Name_kw (a4k I hg hm hv ?_ hn hdb);exact PyProof.Rows.callWith_type1 (thn (ha pos pins s σ H _ I h) fun us s1 hq8=>by obtain⟨vs,H1,I1,r1,q1⟩:=hq8;exact hc pins s1 σ H1 vs us Q I1 r1 q1) he hpl
end
end L2
namespace HT
open PySem PyProof.Rows
section
open PySem.SeqAt
open PySem.AutoSeq1 (wpAny_loadPart')
open PySem.MeetsSeq PySem.MeetsSeq2 PySem.MeetsSeq3
end
section
variable{prog:Program}{w:World}{A:Around}{E:Value->Shared->Prop}{s:Shared}
def d3b{t b:Addr}{vs ws:List Value}{Q:Value->Shared->Prop}(ht:IsTup s.heap t vs.toArray)(hb:IsTup s.heap b ws.toArray)(hv:vs ≠ [])
  (h1:ws=[]->Q (.ref t) s) (h2:ws ≠ []->Q (.ref s.heap.objs.size) { s with heap:=s.heap.push { cls:=.type "tuple",data:=.seq (vs ++ ws).toArray } })
  (hsz:vs.length + ws.length <= sizeLine):wpAny (model prog w) A (binaryOp .Add (.ref t) (.ref b)) Q E s:=by
 obtain⟨⟨cls,dd,data,sl⟩,ho,hc,n,hd⟩:=id ht;obtain⟨⟨cls2,dd2,data2,sl2⟩,ho2,hc2,n2,hd2⟩:=id hb;simp only at hc hd hc2 hd2;subst hc hd hc2 hd2;have e:vs.toArray ++ ws.toArray=(vs ++ ws).toArray:=by simp
 by_cases hw:ws=[]
 ·exact concat_meets ⟨_,ho,rfl⟩ ⟨_,ho2,rfl⟩ noFill_tuple_add seq_tuple_add PySem.F.slot_tuple_add PySem.F.entry_tuple_add (PySem.F.args_tuple_add_2 _ _)
   (tuple_addW1 t b vs.toArray ws.toArray n n2 dd dd2 sl sl2 (by simpa using hv) (by simp [hw])) ⟨ho,ho2,h1 hw⟩
 ·refine concat_meets ⟨_,ho,rfl⟩ ⟨_,ho2,rfl⟩ noFill_tuple_add seq_tuple_add PySem.F.slot_tuple_add PySem.F.entry_tuple_add (PySem.F.args_tuple_add_2 _ _)
   (tuple_addW2 t b vs.toArray ws.toArray n n2 dd dd2 sl sl2 (by simpa using hv) (by simpa using hw) (by rw [size_toArray,size_toArray];exact hsz)) ⟨ho,ho2,?_⟩
  rw [e];exact h2 hw
noncomputable def sIx(n d:Nat):Option Int->Nat
 | none=>d
 | some v=>if v < 0 then(v + (n:Int)).toNat else min v.toNat n
def d7g(n d:Nat)(hd:d <= n)(o:Option Int):sIx n d o <= n:=by
 cases o with
 | none=>exact hd
 | some v =>
  show(if v < 0 then(v + (n:Int)).toNat else min v.toNat n) <= n;by_cases hv:v < 0
  ·rw [if_pos hv];omega
  ·rw [if_neg hv];exact Nat.min_le_right _ _
def c0l(v:Int)(n d:Nat):(if v < 0 then max (v + (n:Int)) 0 else min v (n:Int))=((sIx n d (some v):Nat):Int):=by
 show(if v < 0 then max (v + (n:Int)) 0 else min v (n:Int))=(((if v < 0 then(v + (n:Int)).toNat else min v.toNat n):Nat):Int);by_cases hv:v < 0
 ·simp only [if_pos hv];omega
 ·simp only [if_neg hv];omega
def c1z(lo hi:Option Int)(n:Nat):Builtin.Slice.sliceAdjust lo hi 1 (n:Int)=(((sIx n 0 lo:Nat):Int),((sIx n n hi:Nat):Int)):=by
 have h1:¬ ((1:Int) < 0):=by omega
 unfold Builtin.Slice.sliceAdjust;simp only [h1,if_false];refine Prod.ext ?_ ?_
 ·cases lo with
  | none=>rfl
  | some v=>exact c0l v n 0
 ·cases hi with
  | none=>rfl
  | some v=>exact c0l v n n
def c2a(i j:Nat):Builtin.Slice.slicePlaces (i:Int) (j:Int) 1=j - i:=by
 unfold Builtin.Slice.slicePlaces;have h1:(1:Int) > 0:=by omega
 simp only [h1,if_true,Int.ediv_one];split<;>omega
def b3b{v:Value}{o:Option Int}{Q:Option Int->Shared->Prop}(p:IsPart v o)(h:Q o s):wpAny (model prog w) A (Builtin.Slice.slicePartIndex v) Q E s:=by
 cases p with
 | none=>exact slicePart_none h
 | int i t=>exact slicePart_int h
def b2d{sl:Addr}{vl vu:Value}{lo hi:Option Int}{n:Nat}{Q:Int × Int × Nat->Shared->Prop}(hs:s.heap.IsSliceOf sl vl vu .none)(pl:IsPart vl lo)(pu:IsPart vu hi)
  (h:Q (((sIx n 0 lo:Nat):Int),1,sIx n n hi - sIx n 0 lo) s):wpAny (model prog w) A (Builtin.Slice.sliceApplied (.ref sl) (pure (n:Int))) Q E s:=by
 obtain⟨os,hos,hcs,hds⟩:=id hs;unfold Builtin.Slice.sliceApplied Builtin.Slice.sliceFields;refine wpAny_bind (wpAny_bind (wpAny_field hos hds (x:=vl) rfl (wpAny_bind (wpAny_field hos hds (x:=vu) rfl (wpAny_bind (wpAny_field hos hds (x:=.none) rfl (wpAny_pure ?_)))))));refine wpAny_bind (slicePart_none ?_);show wpAny _ _ (if ((1:Int) == 0)=true then _ else _) _ _ s;rw [if_neg 'd'];refine wpAny_bind (b3b pl (wpAny_bind (b3b pu (wpAny_bind (wpAny_pure ?_)))));show wpAny _ _ (match Builtin.Slice.sliceAdjust lo hi 1 (n:Int) with | (lo,hi)=>pure (lo,(1:Int),Builtin.Slice.slicePlaces lo hi 1)) _ _ s;rw [c1z lo hi n];show wpAny _ _ (pure (((sIx n 0 lo:Nat):Int),(1:Int),Builtin.Slice.slicePlaces ((sIx n 0 lo:Nat):Int) ((sIx n n hi:Nat):Int) 1)) _ _ s;rw [c2a];exact wpAny_pure h
def c8e(xs:Array Value)(i k:Nat):((List.range k).filterMap fun(m:Nat)=>xs[((i:Int) + (m:Int) * 1).toNat]?).toArray=((xs.toList.drop i).take k).toArray:=by
 have e:(fun(m:Nat)=>xs[((i:Int) + (m:Int) * 1).toNat]?)=fun m=>xs[i + m]?:=by
  funext m
  have:((i:Int) + (m:Int) * 1).toNat=i + m:=by omega
  rw [this]
 rw [e];have:=pick_run xs i k;rw [List.filterMap_map] at this;have e2:((fun x=>xs[x]?) ∘ fun x=>i + x)=fun m=>xs[i + m]?:=rfl;rw [e2] at this;rw [this]
def b1o{t sl:Addr}{items:Array Value}{vl vu:Value}{lo hi:Option Int}{Q:Value->Shared->Prop}(ht:IsTup s.heap t items)(hs:s.heap.IsSliceOf sl vl vu .none)(pl:IsPart vl lo)(pu:IsPart vu hi)
  (hw:¬ (sIx items.size 0 lo=0/\sIx items.size items.size hi=items.size))
  (h:Q (.ref s.heap.objs.size) { s with heap:=s.heap.push { cls:=.type "tuple",data:=.seq ((items.toList.drop (sIx items.size 0 lo)).take (sIx items.size items.size hi - sIx items.size 0 lo)).toArray } })
  (hsz:items.size <= sizeLine):wpAny (model prog w) A (getItem (.ref t) (.ref sl)) Q E s:=by
 have htake:sizeOk (.seq ((items.toList.drop (sIx items.size 0 lo)).take (sIx items.size items.size hi - sIx items.size 0 lo)).toArray):=by
  show((items.toList.drop (sIx items.size 0 lo)).take (sIx items.size items.size hi - sIx items.size 0 lo)).toArray.size <= sizeLine;rw [size_toArray,length_take,List.length_drop,length_toList];omega
 have hj:sIx items.size items.size hi <= items.size:=d7g _ _ 'b' hi;obtain⟨os,hos,hcs,hds⟩:=id hs;have hTs:s.TypeIs (.ref sl) "slice":=⟨os,hos,hcs⟩;unfold getItem
 try with_reducible refine wpAny_holding ?_
 first | refine wpAny_bind (wpAny_pure ?_) | skip
 refine wpAny_bind (wpAny_sequenceKey ht.typeIs 'd' ?_);refine wpAny_bind (wpAny_callSpecial?_slot (name:=Str.ofString "__getitem__") ht.typeIs PyProof.Rows.slot_tuple_getitem
  (wpAny_call_entry PyProof.Rows.slot_tuple_getitem ht.typeIs entry_tuple_getitem ?_ (args_tuple_getitem _ _)))
 show wpAny _ _ (Builtin.Tuple.tupleItemsOf (.ref t) >>= _) _ _ s;refine wpAny_bind (tupleItemsOf_ ht ?_);refine wpAny_bind (wpAny_typeOf hTs ?_);rw [if_pos 'd'];refine wpAny_bind (b2d hs pl pu ?_);have hno:¬ ((((sIx items.size 0 lo:Nat):Int) == 0 && (1:Int) == 1 && (sIx items.size items.size hi - sIx items.size 0 lo) == items.size)=true):=by
  intro q;rw [and_eq_true,and_eq_true] at q;have q1:((sIx items.size 0 lo:Nat):Int)=0:=eq_of_beq q.1.1;have q2:sIx items.size items.size hi - sIx items.size 0 lo=items.size:=eq_of_beq q.2;exact hw ⟨'o','o'⟩
 show wpAny _ _ (if (((sIx items.size 0 lo:Nat):Int) == 0 && (1:Int) == 1 && (sIx items.size items.size hi - sIx items.size 0 lo) == items.size)=true then _ else _) _ _ s;rw [if_neg hno,c8e]
 first
  | exact wpAny_bind (m:=Builtin.Tuple.tupleExact _) (wpAny_newObj_type (wpAny_pure ⟨_,rfl,wpAny_pure h⟩) htake)
  | exact wpAny_bind (m:=Builtin.Tuple.tupleExact _) (wpAny_newObj_type (wpAny_bind (wpAny_pure (wpAny_pure ⟨_,rfl,wpAny_pure h⟩))) htake)
  | exact wpAny_bind (wpAny_bind (m:=Builtin.Tuple.tupleExact _) (wpAny_newObj_type (wpAny_pure (wpAny_pure ⟨_,rfl,wpAny_pure h⟩)) htake))
  | exact wpAny_bind (wpAny_bind (m:=Builtin.Tuple.tupleExact _) (wpAny_newObj_type (wpAny_pure ⟨_,rfl,wpAny_pure h⟩) htake))
end
end HT
namespace L2
open PySem PySem.Spec PyProof.Rows
abbrev TO:=St->Hp->(Option Int->Hp->Prop)->Prop
def PO(X:Cx)(e:Option Expr)(t:TO):Prop:=
 ∀ (pins:List 'a') (s:Shared) (σ:St) (H:Hp) (Q:Option Int->Hp->Prop),Inv X pins σ H s->t σ H Q ->
  wpAny (model X.prog X.w) X.A (evalPart e X.env) (fun u s'=>∃ o H',Inv X pins σ H' s'/\IsPart u o/\Q o H') X.xe s
noncomputable def d3c:TO:=fun _ H Q=>Q none H
def tPart(t:TE):TO:=fun σ H Q=>t σ H fun x H1=>∃ i,x=.int i/\Q (some i) H1
section
variable{X:Cx}{e:Expr}{te:TE}{lo hi:Option Expr}{tl th:TO}{pos p2:Pos}
def c0m:PO X none d3c:=by
 intro pins s σ H Q I h;rw [evalPart_none];exact wpAny_pure ⟨none,H,I,.none,h⟩
def c0n(h:PE X e te):PO X (some e) (tPart te):=by
 intro pins s σ H Q I hw;rw [evalPart_some];refine thn (h pins s σ H _ I hw) fun u s1 hq9=>?_;obtain⟨x,H1,I1,r1,q1⟩:=hq9;obtain⟨i,rfl,q⟩:=q1;obtain⟨t,rfl⟩:=r1;exact⟨some i,H1,I1,.int i t,q⟩
def SlR(X:Cx)(r:V->Option Int->Option Int->Hp->VK->Prop):Prop:=
 ∀ (pins:List 'a') (s:Shared) (σ:St) (H:Hp) (x:V) (v vl vu:Value) (lo hi:Option Int) (sl:Addr) (Q:VK),Inv X pins σ H s->RelV x v->s.heap.IsSliceOf sl vl vu .none->IsPart vl lo->IsPart vu hi->r x lo hi H Q ->
  ∃ T id,typeLookup (.type T) "__getitem__" = pure (some (.builtin id))/\s.TypeIs v T/\wpAny (model X.prog X.w) X.A (getItem v (.ref sl)) (EP X pins σ Q) X.xe s
def tSl(r:V->Option Int->Option Int->Hp->VK->Prop)(te:TE)(tl th:TO):TE:=fun σ H Q=>te σ H fun x H1=>tl σ H1 fun l H2=>th σ H2 fun u H3=>r x l u H3 Q
def b6w{r:V->Option Int->Option Int->Hp->VK->Prop}(hr:SlR X r)(he:PE X e te)(hl:PO X lo tl)(hu:PO X hi th):PE X (.Subscript e (.Slice lo hi none p2) pos) (tSl r te tl th):=by
 intro pins s σ H Q I h;refine Subscript_ (thn (he pins s σ H _ I h) fun v s1 hq9=>?_);obtain⟨x,H1,I1,r1,q1⟩:=hq9;refine wpAny_Slice (thn (hl pins s1 σ H1 _ I1 q1) fun vl s2 ⟨l,H2,I2,pl,q2⟩=>thn (hu pins s2 σ H2 _ I2 q2) fun vu s3 hq9=>?_);obtain⟨u,H3,I3,pu,q3⟩:=hq9;rw [evalPart_none];refine wpAny_pure ?_;have I4:Inv X pins σ H3 { s3 with heap:=s3.heap.push { cls:=.type "slice",data:=.fields #[vl,vu,.none] } }:=I3.kept (t':=s3.toks) fun b ob q=>get?_push_of_some _ q;obtain⟨T,id,hT,ht,hg⟩:=hr pins { s3 with heap:=s3.heap.push { cls:=.type "slice",data:=.fields #[vl,vu,.none] } } σ H3 x v vl vu l u s3.heap.objs.size Q I4 r1 (Heap.IsSliceOf.new ..) pl pu q3;show wpAny (model X.prog X.w) X.A (subscriptTail e (.Slice lo hi none p2) v (.ref s3.heap.objs.size)) (EP X pins σ Q) X.xe { s3 with heap:=s3.heap.push { cls:=.type "slice",data:=.fields #[vl,vu,.none] } };exact tail_any (ops:=[.ref s3.heap.objs.size,v]) ht hT hg (by with_unfolding_all rfl)
noncomputable def cutV(xs:List V)(lo hi:Option Int):List V:=(xs.drop (HT.sIx xs.length 0 lo)).take (HT.sIx xs.length xs.length hi - HT.sIx xs.length 0 lo)
def b9l(xs:List V)(lo hi:Option Int):(cutV xs lo hi).length <= xs.length:=by
 unfold cutV;rw [length_take,List.length_drop];omega
noncomputable def rSlT(K:W.Frag):V->Option Int->Option Int->Hp->VK->Prop:=fun x lo hi H Q=>∃ a xs,x=.ref a/\SqT K H a xs /\
 ¬ (HT.sIx xs.length 0 lo=0/\HT.sIx xs.length xs.length hi=xs.length)/\∀ p,H p=none->Q (.ref p) (upd H p (.tup (cutV xs lo hi)))
def c4t:SlR X (rSlT X.K):=by
 intro pins s σ H x v vl vu lo hi sl Q I rx hs pl pu h;obtain⟨a,xs,rfl,hx,hw,q⟩:=h;cases rx;obtain⟨its,r,ht,hz⟩:=I.tuple hx;have hlen:its.toArray.size=xs.length:=by rw [size_toArray];exact r.length.symm
 refine⟨"tuple",_,PyProof.Rows.slot_tuple_getitem.lookup,ht.typeIs,?_⟩;refine HT.b1o ht hs pl pu (by rw [hlen];exact hw) ?_ (by rw [hlen];exact hz);rw [hlen];refine⟨.ref s.heap.objs.size,_,I.laid (t':=s.toks) (o:=.tup (cutV xs lo hi)) (fun b ob q=>get?_push_of_some _ q) 'b' ?_,rfl,q _ (I.hok.fresh 'b')⟩;exact⟨le_trans (b9l xs lo hi) hz,_,(r.drop (HT.sIx xs.length 0 lo)).take (HT.sIx xs.length xs.length hi - HT.sIx xs.length 0 lo),a3k.new _ _⟩
def d1o(K:W.Frag):R2:=fun x y H Q=>∃ a b xs ys,x=.ref a/\y=.ref b/\SqT K H a xs/\SqT K H b ys/\xs ≠ []/\xs.length + ys.length <= sizeLine /\
 (ys=[]->Q (.ref a) H)/\(ys ≠ []->∀ p,H p=none->Q (.ref p) (upd H p (.tup (xs ++ ys))))
def Vals.nil_iff{xs:List V}{us:List Value}(r:Vals xs us):us=[] ↔ xs=[]:=by
 cases r with
 | nil=>simp
 | cons _ _=>simp
def d3d:OpR X (binaryOp .Add) (d1o X.K):=by
 intro pins s σ H x y v u Q I rx ry h;obtain⟨a,b,xs,ys,rfl,rfl,ha,hb,hx,hz,q1,q2⟩:=h;cases rx;cases ry;obtain⟨its,r1,p1,_⟩:=I.tuple ha;obtain⟨its2,r2,p2,_⟩:=I.tuple hb;refine HT.d3b p1 p2 (fun z=>hx (r1.nil_iff.mp z)) (fun z=>⟨.ref a,H,I,rfl,q1 (r2.nil_iff.mp z)⟩) (fun z=>?_) (by rw [← r1.length,← r2.length];exact hz);refine⟨.ref s.heap.objs.size,_,I.laid (t':=s.toks) (o:=.tup (xs ++ ys)) (fun b ob q=>get?_push_of_some _ q) 'b' ?_,rfl,q2 (fun w=>z (r2.nil_iff.mpr w)) _ (I.hok.fresh 'b')⟩;exact⟨by rw [length_append];exact hz,_,r1.append r2,a3k.new _ _⟩
end
end L2
namespace L2
open PySem PySem.Spec PyProof.Rows
noncomputable def ixN(n:Nat)(i:Int):Option Nat:=if 0 <= i then(if i < n then some i.toNat else none) else if -(n:Int) <= i then some (i + n).toNat else none
noncomputable def atI{α:Type}(xs:List α)(i:Int):Option α:=(ixN xs.length i).bind fun j=>xs[j]?
def c0o{n:Nat}{i:Int}{j:Nat}(h:ixN n i=some j):seqIndex? i n=some j/\j < n /\ -(n:Int) <= i/\i < n:=by
 unfold ixN at h;by_cases h0:0 <= i
 ·rw [if_pos h0] at h
  by_cases h1:i < n
  ·rw [if_pos h1] at h
   have e:i.toNat=j:=Option.some.inj h;exact⟨by rw [seqIndex_of h0 h1,e],'o','o',h1⟩
  ·rw [if_neg h1] at h;cases h
 ·rw [if_neg h0] at h
  by_cases h1:-(n:Int) <= i
  ·rw [if_pos h1] at h
   have e:(i + n).toNat=j:=Option.some.inj h;exact⟨by rw [seqIndex_neg 'o' h1,e],'o',h1,'o'⟩
  ·rw [if_neg h1] at h;cases h
def b4a{α:Type}{xs:List α}{i:Int}{v:α}(h:atI xs i=some v):∃ j,seqIndex? i xs.length=some j/\xs[j]? = some v/\j < xs.length /\ -(xs.length:Int) <= i/\i < xs.length:=by
 unfold atI at h;cases e:ixN xs.length i with
 | none=>rw [e] at h;cases h
 | some j =>
  rw [e] at h;obtain⟨h1,h2,h3,h4⟩:=c0o e;exact⟨j,h1,h,h2,h3,h4⟩
def a1j{α:Type}{xs:List α}{j:Nat}{v:α}(h:xs[j]? = some v):atI xs (j:Int)=some v:=by
 have hj:j < xs.length:=(List.getElem?_eq_some_iff.mp h).1;have e:ixN xs.length (j:Int)=some j:=by
  unfold ixN;rw [if_pos 'o',if_pos 'o'];simp
 unfold atI;rw [e];exact h
def b4b(b:Expr):Prop:=∀ o i,subscripted b false o i=operate [o,i] (getItem o i)
def IxR(X:Cx)(r:R2):Prop:=
 ∀ (value slice:Expr) (pins:List 'a') (s:Shared) (σ:St) (H:Hp) (x y:V) (v u:Value) (Q:VK),Inv X pins σ H s->RelV x v->RelV y u->r x y H Q ->
  subscripted slice false v u=operate [v,u] (getItem v u)->wpAny (model X.prog X.w) X.A (subscriptTail value slice v u) (EP X pins σ Q) X.xe s
def MtR(X:Cx)(id:String)(r:V->List V->Hp->VK->Prop):Prop:=
 ∀ (pins:List 'a') (s:Shared) (σ:St) (H:Hp) (x:V) (xs:List V) (v:Value) (us:List Value) (Q:VK),Inv X pins σ H s->RelV x v->Vals xs us->r x xs H Q ->
  wpAny (model X.prog X.w) X.A (call (.builtin id) (v :: us)) (EP X pins σ Q) X.xe s
section
variable{X:Cx}{a b:Expr}{ta tb:TE}{pos:Pos}
def IxR.or{r r':R2}(h:IxR X r)(h':IxR X r'):IxR X (fun x y H Q=>r x y H Q ∨ r' x y H Q):=by
 intro value slice pins s σ H x y v u Q I rx ry q hs;rcases q with q | q
 ·exact h value slice pins s σ H x y v u Q I rx ry q hs
 ·exact h' value slice pins s σ H x y v u Q I rx ry q hs
def a2i{r:R2}(hr:IxR X r)(ha:PE X a ta)(hb:PE X b tb)(hs:b4b b):PE X (.Subscript a b pos) (tOp r ta tb):=by
 intro pins s σ H Q I h;exact Subscript_ (binT ha hb I h fun v u s2 x y H2 I2 rx ry q=>hr a b pins s2 σ H2 x y v u Q I2 rx ry q (hs _ _))
def rIxL(K:W.Frag):R2:=fun x y H Q=>∃ p xs i v,x=.ref p/\y=.int i/\SqL K H p xs/\atI xs i=some v/\Q v H
def rIxT(K:W.Frag):R2:=fun x y H Q=>∃ p xs i v,x=.ref p/\y=.int i/\SqT K H p xs/\atI xs i=some v/\Q v H
def rIxS:R2:=fun x y H Q=>∃ z i c,x=.str z/\y=.int i/\z.length <= sizeLine/\atI z.cps.toList i=some c/\Q (.str ⟨#[c]⟩) H
def a5n:IxR X (rIxL X.K):=by
 intro value slice pins s σ H x y v u Q I rx ry h hs;obtain⟨p,xs,i,z,rfl,rfl,hq,he,q⟩:=h;cases rx;obtain⟨t,rfl⟩:=ry;obtain⟨its,r,pl,hz⟩:=I.list hq;obtain⟨j,h1,h2,h3,h4,h5⟩:=b4a he;obtain⟨w,ew,rw'⟩:=r.get h2;have hl:=r.length;have hn:=a7q;have fin:EP X pins σ Q w s:=⟨z,H,I,rw',q⟩;by_cases h0:0 <= i
 ·have hj:i.toNat=j:=by
   rw [seqIndex_of h0 h5] at h1;exact Option.some.inj h1
  exact item_listR pl.isList h0 'o' (by rw [hj];simpa using ew) fin hs
 ·have hj:(i + (its.toArray.size:Int)).toNat=j:=by
   rw [seqIndex_neg 'o' h4] at h1;rw [size_toArray,← hl];exact Option.some.inj h1
  exact subscriptTail_builtinR (x:=w) pl.isList.typeIs slot_list_getitem.lookup
   (wpAny_getItem_list_neg (Q:=fun r s'=>r=w/\EP X pins σ Q r s') pl.isList 'o' (by rw [size_toArray]<;>omega) 'o' (by rw [hj];simpa using ew) ⟨rfl,fin⟩) hs
def b6x:IxR X (rIxT X.K):=by
 intro value slice pins s σ H x y v u Q I rx ry h hs;obtain⟨p,xs,i,z,rfl,rfl,hq,he,q⟩:=h;cases rx;obtain⟨t,rfl⟩:=ry;obtain⟨its,r,pl,hz⟩:=I.tuple hq;obtain⟨j,h1,h2,h3,h4,h5⟩:=b4a he;obtain⟨w,ew,rw'⟩:=r.get h2;have hl:=r.length;have hn:=a7q;have fin:EP X pins σ Q w s:=⟨z,H,I,rw',q⟩;exact subscriptTail_builtinR (x:=w) pl.typeIs slot_tuple_getitem.lookup
  (getItem_tuple (j:=j) (Q:=fun r s'=>r=w/\EP X pins σ Q r s') pl 'o' 'o' (by rw [size_toArray,← hl];exact h1) (by simpa using ew) ⟨rfl,fin⟩) hs
def d7h:IxR X rIxS:=by
 intro value slice pins s σ H x y v u Q I rx ry h hs;obtain⟨z,i,c,rfl,rfl,hz,he,q⟩:=h;obtain⟨t,rfl⟩:=rx;obtain⟨t',rfl⟩:=ry;obtain⟨j,h1,h2,h3,h4,h5⟩:=b4a he;have hl:z.cps.toList.length=z.length:=by simp [Str.length]
 rw [hl] at h1 h4 h5;have hn:=a7q;exact tail_any (typeIs_str s z t) slot_str_getitem.lookup (getItem_str (c:=c) (by
  have e1:decide (i < -(2 ^ 63:Int))=false:=decide_eq_false 'o';have e2:decide (i ≥ 2 ^ 63)=false:=decide_eq_false 'o';rw [e1,e2,Bool.or_false]) (by rw [h1];simpa using h2) ⟨.str ⟨#[c]⟩,H,I.tok _,⟨_,rfl⟩,q⟩) hs
def rIx(K:W.Frag):R2:=fun x y H Q=>rIxL K x y H Q ∨ rIxT K x y H Q ∨ rIxS x y H Q
def a4l:IxR X (rIx X.K):=a5n.or (b6x.or d7h)
def c2b(its:List Value)(n j:Nat)(u:Value):Obj.mapSeq (·.setIfInBounds j u) { cls:=.type "list",data:=.seq its.toArray n }={ cls:=.type "list",data:=.seq (its.set j u).toArray n }:=by
 simp [Obj.mapSeq]
def Inv.lst{pins:List 'a'}{σ:St}{H:Hp}{s:Shared}{p:Addr}{xs:List V}(I:Inv X pins σ H s)(h:H p=some (.lst xs)) :
  ∃ (its:List Value) (n:Nat),Vals xs its/\s.heap.get? p=some { cls:=.type "list",data:=.seq its.toArray n }/\xs.length <= sizeLine:=by
 obtain⟨z,its,n,r,e⟩:=I.hok p _ h;exact⟨its,n,r,e,z⟩
def Inv.lstUpd{pins:List 'a'}{σ:St}{H:Hp}{s:Shared}{p:Addr}{xs ys:List V}{its its':List Value}{n n':Nat}{f:Obj->Obj}(I:Inv X pins σ H s)(h:H p=some (.lst xs))
  (ho:s.heap.get? p=some { cls:=.type "list",data:=.seq its.toArray n }) (hf:f { cls:=.type "list",data:=.seq its.toArray n }={ cls:=.type "list",data:=.seq its'.toArray n' }) (r:Vals ys its') (hz:ys.length <= sizeLine) (t:Nat) :
  Inv X pins σ (upd H p (.lst ys)) { s with heap:=s.heap.update p f,toks:=t }:=by
 have e:(s.heap.update p f).get? p=some { cls:=.type "list",data:=.seq its'.toArray n' }:=by
  rw [get?_update_self f ho (by rw [hf]<;>rfl),hf]
 refine I.write (x:=p) (e:=p) (by rw [h];trivial) (.inl rfl) (fun b u hb q=>(Heap.get?_update_other _ _ (Ne.symm hb)).trans q) ⟨_,e⟩ ?_;exact⟨hz,its',n',r,e⟩
noncomputable def d1p:V->V->V->Hp->(Hp->Prop)->Prop:=fun o i v H Q=>∃ p xs k j,o=.ref p/\i=.int k/\H p=some (.lst xs)/\ixN xs.length k=some j/\Q (upd H p (.lst (xs.set j v)))
def set_list:PSet X d1p:=by
 intro pins s σ H o i v ov iv u Q I ro ri rv h;obtain⟨p,xs,k,j,rfl,rfl,hp,hj,q⟩:=h;cases ro;obtain⟨t,rfl⟩:=ri;obtain⟨its,n,r,ho,hz⟩:=I.lst hp;obtain⟨h1,h2,h3,h4⟩:=c0o hj;have hl:=r.length;have hn:=a7q;have I':Inv X pins σ (upd H p (.lst (xs.set j v))) { s with heap:=s.heap.update p (Obj.mapSeq (·.setIfInBounds j u)) }:=
  I.lstUpd hp ho (c2b its n j u) (r.set rv j) (by rw [length_set];exact hz) s.toks
 by_cases h0:0 <= k
 ·have hk:k.toNat=j:=by
   rw [seqIndex_of h0 h4] at h1;exact Option.some.inj h1
  exact PySem.W.ki_setAt ho h0 'o' (by rw [size_toArray,← hl];exact h4) (by rw [hk];exact⟨_,I',q⟩)
 ·have hk:(k + (its.toArray.size:Int)).toNat=j:=by
   rw [seqIndex_neg 'o' h3] at h1;rw [size_toArray,← hl];exact Option.some.inj h1
  exact PySem.W.ki_setBack ho 'o' (by rw [size_toArray,← hl];exact h3) 'o' (by rw [hk];exact⟨_,I',q⟩)
noncomputable def a5y:V->Bool
 | .non=>true
 | .bl _=>true
 | .int _=>true
 | .str _=>true
 | _=>false
noncomputable def eqV:V->V->Bool
 | .non,.non=>true
 | .bl a,.bl b=>a == b
 | .bl a,.int b=>(if a then 1 else 0) == b
 | .int a,.bl b=>a == (if b then 1 else 0)
 | .int a,.int b=>a == b
 | .str a,.str b=>a == b
 | _,_=>false
def d7i{A:Around}{s:Shared}{y x:V}{u v:Value}(ry:RelV y u)(rx:RelV x v)(fy:a5y y=true)(fx:a5y x=true):SeqAt.EqAt A s u v (eqV y x):=by
 cases y with
 | non =>
  cases ry
  cases x with
  | non=>cases rx;exact SeqAt.EqAt.same _
  | bl b=>cases rx;exact SeqAt.EqAt.none_bool b
  | int b=>obtain⟨t,rfl⟩:=rx;exact SeqAt.EqAt.none_int b t
  | str b=>obtain⟨t,rfl⟩:=rx;exact SeqAt.EqAt.none_str b t
  | _=>exact absurd (show false=true from fx) Bool.false_ne_true
 | bl a =>
  cases ry
  cases x with
  | non=>cases rx;exact SeqAt.EqAt.bool_none a
  | bl b=>cases rx;exact SeqAt.EqAt.bool_bool a b
  | int b=>obtain⟨t,rfl⟩:=rx;exact SeqAt.EqAt.bool_int a b t
  | str b=>obtain⟨t,rfl⟩:=rx;exact SeqAt.EqAt.bool_str a b t
  | _=>exact absurd (show false=true from fx) Bool.false_ne_true
 | int a =>
  obtain⟨t',rfl⟩:=ry;cases x with
  | non=>cases rx;exact SeqAt.EqAt.int_none a t'
  | bl b=>cases rx;exact SeqAt.EqAt.int_bool a t' b
  | int b=>obtain⟨t,rfl⟩:=rx;exact SeqAt.EqAt.int_int a t' b t
  | str b=>obtain⟨t,rfl⟩:=rx;exact SeqAt.EqAt.int_str a t' b t
  | _=>exact absurd (show false=true from fx) Bool.false_ne_true
 | str a =>
  obtain⟨t',rfl⟩:=ry;cases x with
  | non=>cases rx;exact SeqAt.EqAt.str_none a t'
  | bl b=>cases rx;exact SeqAt.EqAt.str_bool a t' b
  | int b=>obtain⟨t,rfl⟩:=rx;exact SeqAt.EqAt.str_int a t' b t
  | str b=>obtain⟨t,rfl⟩:=rx;exact SeqAt.EqAt.str_str a t' b t
  | _=>exact absurd (show false=true from fx) Bool.false_ne_true
 | _=>exact absurd (show false=true from fy) Bool.false_ne_true
noncomputable def eqU(x:V)(u:Value):Bool:=match u with
 | .none=>eqV .non x
 | .bool b=>eqV (.bl b) x
 | .int i _=>eqV (.int i) x
 | .str z _=>eqV (.str z) x
 | _=>false
def c4u{x y:V}{u:Value}(r:RelV y u)(f:a5y y=true):eqU x u=eqV y x:=by
 cases y with
 | non=>cases r;rfl
 | bl b=>cases r;rfl
 | int i=>obtain⟨t,rfl⟩:=r;rfl
 | str z=>obtain⟨t,rfl⟩:=r;rfl
 | _=>exact absurd (show false=true from f) Bool.false_ne_true
def b4c{x:V}:∀ {xs:List V} {us:List Value},Vals xs us->xs.all a5y=true->us.any (eqU x)=xs.any fun y=>eqV y x
 | _,_,.nil,_=>rfl
 | y :: xs,u :: us,.cons r t,f=>by
  rw [all_cons,and_eq_true] at f;rw [any_cons,any_cons,c4u r f.1,b4c t f.2]
def b2e{A:Around}{s:Shared}{x:V}{v:Value}(rx:RelV x v)(fx:a5y x=true):∀ {xs:List V} {us:List Value},Vals xs us->xs.all a5y=true->∀ u ∈ us,SeqAt.EqAt A s u v (eqU x u)
 | _,_,.nil,_=>fun u hu=>by cases hu
 | y :: xs,u :: us,.cons r t,f=>fun u' hu=>by
  rw [all_cons,and_eq_true] at f;rcases mem_cons.mp hu with rfl | hu
  ·rw [c4u r f.1];exact d7i r rx f.1 fx
  ·exact b2e rx fx t f.2 u' hu
noncomputable def inV(x:V)(xs:List V):Bool:=xs.any fun y=>eqV y x
def rIn(K:W.Frag)(neg:Bool):R2:=fun x y H Q=>∃ p xs,y=.ref p/\(SqL K H p xs ∨ SqT K H p xs)/\a5y x=true/\xs.all a5y=true/\Q (.bl (if neg then !inV x xs else inV x xs)) H
def c4v:OpR X (compareOp .In) (rIn X.K false):=by
 intro pins s σ H x y v u Q I rx ry h;obtain⟨p,xs,rfl,hq,fx,fs,q⟩:=h;cases ry;rcases hq with hq | hq
 ·obtain⟨its,r,pl,hz⟩:=I.list hq
  refine SeqAt.in_listAt (eqU x) pl.isList (fun w hw=>b2e rx fx r fs w (by simpa using hw)) ⟨.bl _,H,I,rfl,?_⟩;rw [show its.toArray.any (eqU x)=its.any (eqU x) by simp,b4c r fs];exact q
 ·obtain⟨its,r,pl,hz⟩:=I.tuple hq
  refine SeqAt.in_tupleAt (eqU x) pl (fun w hw=>b2e rx fx r fs w (by simpa using hw)) ⟨.bl _,H,I,rfl,?_⟩;rw [show its.toArray.any (eqU x)=its.any (eqU x) by simp,b4c r fs];exact q
def a3t:a1r X (.builtin "len") (fun xs H Q=>∃ p ys,xs=[.ref p]/\(SqL X.K H p ys ∨ SqT X.K H p ys)/\Q (.int ys.length) H):=by
 intro pins s σ H xs us Q I r h;obtain⟨p,ys,rfl,hq,q⟩:=h;obtain⟨u,rfl,rx⟩:=vals1 r;cases rx;have hn:=a7q;rcases hq with hq | hq
 ·obtain⟨its,r',pl,hz⟩:=I.list hq
  have hlen:=r'.length;exact Calls.call_len_list pl.isList (by simp only [size_toArray]<;>omega) ⟨.int ys.length,H,I.tok _,⟨s.toks + 1,by rw [size_toArray,hlen]⟩,q⟩
 ·obtain⟨its,r',pl,hz⟩:=I.tuple hq
  have hlen:=r'.length;exact len_tuple pl (by simp only [size_toArray]<;>omega) ⟨.int ys.length,H,I.tok _,⟨s.toks + 1,by rw [size_toArray,hlen]⟩,q⟩
def b6y:a1r X (.builtin "len") (fun xs H Q=>∃ z,xs=[.str z]/\z.length <= sizeLine/\Q (.int z.length) H):=by
 intro pins s σ H xs us Q I r h;obtain⟨z,rfl,hz,q⟩:=h;obtain⟨u,rfl,t,rfl⟩:=vals1 r;have hn:=a7q;exact len_str 'o' ⟨.int z.length,H,I.tok _,⟨_,rfl⟩,q⟩
def a1r.or{f:Value}{r r':List V->Hp->VK->Prop}(h:a1r X f r)(h':a1r X f r'):a1r X f (fun xs H Q=>r xs H Q ∨ r' xs H Q):=by
 intro pins s σ H xs us Q I rs q;rcases q with q | q
 ·exact h pins s σ H xs us Q I rs q
 ·exact h' pins s σ H xs us Q I rs q
def a0v:a1r X (.type "tuple") (fun xs H Q=>∃ p ys,xs=[.ref p]/\((SqL X.K H p ys/\∀ l,H l=none->Q (.ref l) (upd H l (.tup ys))) ∨ (SqT X.K H p ys/\Q (.ref p) H))):=by
 intro pins s σ H xs us Q I r h;obtain⟨p,ys,rfl,h⟩:=h;obtain⟨u,rfl,rx⟩:=vals1 r;cases rx;rcases h with⟨hq,q⟩ | ⟨hq,q⟩
 ·obtain⟨its,r',pl,hz⟩:=I.list hq
  have hlen:=r'.length;refine call_tuple_list pl.isList (fun h' kp=>?_) (by simp only [size_toArray]<;>omega);have I1:Inv X pins σ H { s with heap:=h' }:=I.kept (t':=s.toks) kp;have I2:Inv X pins σ (upd H h'.objs.size (.tup ys)) { s with heap:=h'.push { cls:=.type "tuple",data:=.seq its.toArray } }:=
   I1.laid (t':=s.toks) (fun b o e=>get?_push_of_some _ e) 'b' (show a1h X.prog X.w _ _ _ (.tup ys) from⟨hz,its,r',a3k.new _ _⟩)
  exact⟨.ref h'.objs.size,_,I2,rfl,q _ (I1.hok.fresh 'b')⟩
 ·obtain⟨its,r',pl,hz⟩:=I.tuple hq
  exact call_tuple_same pl ⟨.ref p,H,I,rfl,q⟩
def tyV(K:W.Frag)(T:String)(x:V)(H:Hp):Prop:=match x with
 | .str _=>T = "str"
 | .int _=>T = "int"
 | .ref p=>(T = "list" /\ ∃ xs,SqL K H p xs) ∨ (T = "tuple" /\ ∃ o,K.lookup p=some o/\o.cls=.type "tuple" /\ o.dict=none) ∨
   (T = "dict" /\ ((∃ kvs,H p=some (.dK kvs)) ∨ ∃ kvs,H p=some (.dT kvs))) ∨ (T = "set" /\ ∃ S n,H p=some (.set S n))
 | _=>False
def d7j{pins:List 'a'}{σ:St}{H:Hp}{s:Shared}{T:String}{x:V}{v:Value}(I:Inv X pins σ H s)(r:RelV x v)(ty:tyV X.K T x H) :
  s.TypeIs v T/\∀ a,v=.ref a->∃ ob,s.heap.get? a=some ob/\ob.dict=none:=by
 cases x with
 | str z =>
  obtain⟨t,rfl⟩:=r;cases (show T = "str" from ty);exact⟨typeIs_str s z t,fun _ e=>nomatch e⟩
 | int i =>
  obtain⟨t,rfl⟩:=r;cases (show T = "int" from ty);exact⟨typeIs_int s i t,fun _ e=>nomatch e⟩
 | ref p =>
  cases r
  rcases ty with⟨rfl,xs,hq⟩ | ⟨rfl,o,hk,hc,hd⟩ | ⟨rfl,hk⟩ | ⟨rfl,S,n,hk⟩
  ·obtain⟨its,_,pl,_⟩:=I.list hq
   refine⟨pl.isList.typeIs,fun a e=>?_⟩;cases e;obtain⟨o,n,e,c,hd,_⟩:=pl;exact⟨o,e,hd⟩
  ·refine⟨⟨o,I.kIn p o hk,hc⟩,fun a e=>?_⟩
   cases e
   exact⟨o,I.kIn _ o hk,hd⟩
  ·have z:∃ o,s.heap.get? p=some o/\o.ExactDict:=by
    rcases hk with⟨kvs,hk⟩ | ⟨kvs,hk⟩
    ·obtain⟨_,_,_,_,o,_,_,e,ex,_⟩:=I.hok p _ hk
     exact⟨o,e,ex⟩
    ·obtain⟨_,_,_,_,o,_,_,e,ex,_⟩:=I.hok p _ hk
     exact⟨o,e,ex⟩
   obtain⟨o,e,ex⟩:=z;refine⟨⟨o,e,ex.1⟩,fun a e2=>?_⟩;cases e2;exact⟨o,e,ex.2.1⟩
  ·obtain⟨o,_,_,_,e,ex,_⟩:=I.hok p _ hk
   refine⟨⟨o,e,ex.1⟩,fun a e2=>?_⟩;cases e2;exact⟨o,e,ex.2.1⟩
 | _=>exact False.elim ty
def tBM(K:W.Frag)(T:String)(r:V->List V->Hp->VK->Prop)(to:TE)(t:TA):TE:=fun σ H Q=>to σ H fun x H1=>tyV K T x H1/\t σ H1 fun xs H2=>r x xs H2 Q
variable{o e:Expr}{es:List Expr}{to:TE}{t:TA}{name:Str}{apos cpos:Pos}{T id:String}{r:V->List V->Hp->VK->Prop}
def a8t(pa:PlainAttrs T)(slot:Slot T name id) (hty:typeOf (.builtin id)=pure (.type "method_descriptor")) (hm:MtR X id r) (ho:PE X o to) (ha:PA X (e :: es) t)
  (hbase:attributeBase o name X.env (eval o X.env)=eval o X.env:=by rfl)
  (hfew:((backTo cpos (starEach (e :: es) X.env)).all (fun x=>!x.1) && (backToKw cpos (keywordEach [] X.env)).all (fun x=>x.1.isSome)
   && decide ((e :: es).length + ([]:List Keyword).length + (if ([]:List Keyword).isEmpty then 0 else 1) < 30))=true:=by rfl)
  (hline:(apos.endLine == cpos.line)=true:=by rfl) (hs:starEach (e :: es) X.env=(false,eval e X.env) :: starEach es X.env:=by rfl) (hplain:(backTo cpos (starEach es X.env)).any (·.1)=false:=by rfl) :
  PE X (.Call (.Attribute o name apos) (e :: es) [] cpos) (tBM X.K T r to t):=by
 intro pins s σ H Q I h;refine wpAny_Call_method_late hbase hfew hline rfl (thn (ho pins s σ H _ I h) fun v s1 hq9=>?_);obtain⟨x,H1,I1,r1,ty,q1⟩:=hq9;obtain⟨h1,h2⟩:=d7j I1 r1 ty;refine⟨T,id,pa,slot,hty,h1,h2,?_⟩;have hA:=ha cpos pins s1 σ H1 _ I1 q1;rw [hs] at hA ⊢;refine Calls.callWith_builtin (by show(false || (backTo cpos (starEach es X.env)).any (·.1))=false;rw [hplain]<;>rfl) (Calls.evalArgs_plain ?_);exact thn hA fun us s2 hq8=>by obtain⟨vs,H2,I2,r2,q2⟩:=hq8;exact hm pins s2 σ H2 x vs v us Q I2 r1 r2 q2
end
end L2
namespace L2
open PySem PySem.Spec PyProof.Rows
def MtM(X:Cx)(id:String)(r:V->List V->Hp->VK->Prop):Prop:=
 ∀ (pins:List 'a') (s:Shared) (σ:St) (H:Hp) (x:V) (xs:List V) (v:Value) (us:List Value) (Q:VK),Inv X pins σ H s->RelV x v->Vals xs us->r x xs H Q ->
  wpAny (model X.prog X.w) X.A (call (.builtin id) (v :: us)) (EP X pins σ Q) X.xe s
def Vals.one:∀ {x:V} {us:List Value},Vals [x] us->∃ u,us=[u]/\RelV x u
 | _,_,.cons r .nil=>⟨_,rfl,r⟩
def Vals.two:∀ {x y:V} {us:List Value},Vals [x,y] us->∃ u v,us=[u,v]/\RelV x u/\RelV y v
 | _,_,_,.cons r (.cons q .nil)=>⟨_,_,rfl,r,q⟩
def Vals.zero:∀ {us:List Value},Vals [] us->us=[]
 | _,.nil=>rfl
def Vals.rep{xs:List V}{us:List Value}(h:Vals xs us):∀ k:Nat,Vals (List.replicate k xs).flatten (List.replicate k us).flatten
 | 0=>.nil
 | k + 1=>by
  rw [replicate_succ,replicate_succ,flatten_cons,flatten_cons];exact Vals.append h (Vals.rep h k)
def foldl_rep(its:List Value):∀ (k:Nat) (acc:List Value),
  List.foldl (fun x1 x2=>x1 ++ x2) acc.toArray (List.replicate k its.toArray)=(acc ++ (List.replicate k its).flatten).toArray
 | 0,acc=>by simp
 | k + 1,acc=>by
  have e:acc.toArray ++ its.toArray=(acc ++ its).toArray:=by simp
  have e2:(acc ++ its) ++ (List.replicate k its).flatten=acc ++ (List.replicate (k + 1) its).flatten:=by
   rw [replicate_succ,flatten_cons,append_assoc]
  rw [← e2,← foldl_rep its k (acc ++ its),← e,replicate_succ,List.foldl_cons]
section
variable{X:Cx}{pins:List 'a'}{σ:St}{H:Hp}{s:Shared}{l b:Addr}{xs ys zs:List V}
def Inv.lset{its its':List Value}{n:Nat}{f:Array Value->Array Value}{t':Nat}(I:Inv X pins σ H s)(hH:H l=some (.lst xs))
  (e:s.heap.get? l=some { cls:=.type "list",data:=.seq its.toArray n }) (hf:f its.toArray=its'.toArray) (hv:Vals ys its') (hz:ys.length <= sizeLine) :
  Inv X pins σ (upd H l (.lst ys)) { s with heap:=s.heap.update l (Obj.mapSeq f),toks:=t' }:=by
 have q:=PySem.IsL.update e f;rw [hf] at q;refine I.write (x:=l) (e:=l) (by rw [hH];exact trivial) (.inl rfl) (fun b' u hb hu=>(Heap.get?_update_other s.heap (Obj.mapSeq f) (Ne.symm hb)).trans hu) ⟨_,q⟩ ?_;exact⟨hz,its',_,hv,q⟩
def Inv.lnew{its:List Value}{t':Nat}(I:Inv X pins σ H s)(hv:Vals ys its)(hz:ys.length <= sizeLine) :
  Inv X pins σ (upd H s.heap.objs.size (.lst ys)) { s with heap:=s.heap.push { cls:=.type "list",data:=.seq its.toArray },toks:=t' }:=
 I.laid (fun _ _ q=>get?_push_of_some _ q) 'b' ⟨hz,its,0,hv,get?_push_size _ rfl⟩
def Inv.fresh(I:Inv X pins σ H s):H s.heap.objs.size=none:=I.hok.fresh 'b'
def Inv.lstM(I:Inv X pins σ H s)(hH:H l=some (.lst xs)):xs.length <= sizeLine/\∃ (its:List Value) (n:Nat),Vals xs its/\xs.length=its.length/\s.heap.get? l=some { cls:=.type "list",data:=.seq its.toArray n }:=by
 obtain⟨z,its,n,r,e⟩:=I.hok l _ hH;exact⟨z,its,n,r,r.length,e⟩
def b6z{n:Nat}(h:n <= sizeLine):Builtin.List.listTooLong n=false:=by
 unfold Builtin.List.listTooLong;exact decide_eq_false 'o'
end
section
variable{X:Cx}
noncomputable def b4d:V->List V->Hp->VK->Prop:=fun x vs H Q=>∃ l xs y,x=.ref l/\vs=[y]/\H l=some (.lst xs)/\xs.length < sizeLine/\Q .non (upd H l (.lst (xs ++ [y])))
def a3u:MtM X "list.append" b4d:=by
 intro pins s σ H x vs v us Q I rx rv h;obtain⟨l,xs,y,rfl,rfl,hH,hz,q⟩:=h;cases rx;obtain⟨u,rfl,ru⟩:=rv.one;obtain⟨z,its,n,r,hl,e⟩:=I.lstM hH;refine call_meets F.slot_list_append ⟨_,e,rfl⟩ F.entry_list_append (F.args_list_append_2 _ _) (PySem.list_append l its.toArray n u (by rw [size_toArray];omega)) ⟨e,?_⟩;refine⟨.non,_,I.lset (its':=its ++ [u]) hH e 'c' (r.append (.cons ru .nil)) ?_,rfl,q⟩;rw [length_append,List.length_singleton];omega
def rCat:R2:=fun x y H Q=>∃ l b xs zs,x=.ref l/\y=.ref b/\H l=some (.lst xs)/\H b=some (.lst zs)/\xs.length + zs.length <= sizeLine/\∀ p,H p=none->Q (.ref p) (upd H p (.lst (xs ++ zs)))
def d7k:OpR X (binaryOp .Add) rCat:=by
 intro pins s σ H x y v u Q I rx ry h;obtain⟨l,b,xs,zs,rfl,rfl,hH,hB,hz,q⟩:=h;cases rx;cases ry;obtain⟨z,its,n,r,hl,e⟩:=I.lstM hH;obtain⟨z2,its2,n2,r2,hl2,e2⟩:=I.lstM hB;refine PySem.P.add_list e e2 ?_ (by rw [size_toArray,size_toArray];omega);have ea:its.toArray ++ its2.toArray=(its ++ its2).toArray:=by simp
 rw [ea];exact⟨.ref _,_,I.lnew (t':=s.toks) (r.append r2) (by rw [length_append];omega),rfl,q _ I.fresh⟩
def rRep:R2:=fun x y H Q=>∃ l k xs,x=.ref l/\y=.int k/\H l=some (.lst xs) /\ -(2 ^ 63) <= k/\k < 2 ^ 63/\xs.length * k.toNat <= sizeLine /\
 ∀ p,H p=none->Q (.ref p) (upd H p (.lst (List.replicate k.toNat xs).flatten))
def len_rep{α:Type}(xs:List α)(k:Nat):(List.replicate k xs).flatten.length=k * xs.length:=by
 induction k with
 | zero=>simp
 | succ k ih=>rw [replicate_succ,flatten_cons,length_append,ih,Nat.succ_mul,Nat.add_comm]
def d7l:OpR X (binaryOp .Mult) rRep:=by
 intro pins s σ H x y v u Q I rx ry h;obtain⟨l,k,xs,rfl,rfl,hH,h1,h2,hz,q⟩:=h;cases rx;obtain⟨t,rfl⟩:=ry;obtain⟨z,its,n,r,hl,e⟩:=I.lstM hH;have hlen:its.toArray.size * k.toNat <= sizeLine:=by rw [size_toArray,← hl];exact hz
 have hcap:¬ its.toArray.size * k.toNat > (2 ^ 63 - 1) / 8:=by
  have:(sizeLine:Nat) <= (2 ^ 63 - 1) / 8:=by decide
  omega
 have hfit:¬ (!Builtin.List.listFitsIndex k)=true:=by
  rw [fitsIndex_both h1 h2];exact Bool.false_ne_true
 have hlong:¬ Builtin.List.listTooLong (its.toArray.size * k.toNat)=true:=by
  rw [b6z hlen];exact Bool.false_ne_true
 have hnew:List.foldl (fun x1 x2=>x1 ++ x2) #[] (List.replicate (if its.toArray.isEmpty=true then 0 else k.toNat) its.toArray)=(List.replicate k.toNat its).flatten.toArray:=by
  have f0:∀ m:Nat,List.foldl (fun x1 x2=>x1 ++ x2) #[] (List.replicate m its.toArray)=(List.replicate m its).flatten.toArray:=fun m=>by
   have:=foldl_rep its m [];rw [List.nil_append] at this;exact this
  rw [f0];cases its with
  | nil=>simp
  | cons a r'=>rw [if_neg 'c']
 refine wpAny_binaryOp_repeat_ref (T:="list") (U:="int") 'd' ⟨_,e,rfl⟩ (fun s'=>typeIs_int s' k t) noFill_list_mul F.fills_int_mul F.slot_int_rmul repeat_list F.slot_int_index.lookup
  (call_meets F.slot_int_rmul (typeIs_int s k t) F.entry_int_rmul (F.args_int_rmul_2 _ _) (int___rmul___int_list k t l its.toArray n)
   ⟨e,rfl,⟨_,e,rfl⟩,call_meets F.slot_list_mul ⟨_,e,rfl⟩ F.entry_list_mul (F.args_list_mul_2 _ _) (AutoListH.list___mul___list_int_3 l its.toArray n k t hfit hcap hlong) ⟨e,?_⟩⟩)
 rw [hnew];exact⟨.ref _,_,I.lnew (t':=s.toks) (r.rep k.toNat) (by rw [len_rep,Nat.mul_comm];exact hz),rfl,q _ I.fresh⟩
end
section
variable{prog:Program}{w:World}{A:Around}{E:Value->Shared->Prop}{s:Shared}
set_option maxRecDepth 100000 in
end
end L2
namespace Att
open PySem PySem.W PySem.Calls PyProof.Rows
def b3c{P:Params}{h:Heap}:∀ (ns:List Int) (vs:List Value),WellAll P h vs (ns.map WData.int)->IntsAre vs ns:=by
 intro ns;induction ns with
 | nil =>
  intro vs w;rw [map_nil] at w;cases w;exact .nil
 | cons n ns ih =>
  intro vs w;rw [map_cons] at w;cases w with
  | cons a b =>
   cases a
   exact .cons _ _ (ih _ b)
def c4w{l:OpenLaw}{n:Nat}(hn:l.most=some n){P:Params}{h:Heap}{args:List WData}{vals:List Value}
  (hpre:l.row.toRowW.claim.pre args=true) (hwl:WellAll P h vals args) :
  ∃ a vs ns,vals=[Value.ref a]/\args=[WData.list (ns.map WData.int)]/\h.get? a=some { cls:=.type "list",data:=.seq vs.toArray }/\IntsAre vs ns/\ns.length <= n:=by
 have hsh:WShape.hasAll [] args [.list .int]=true:=(pre_splitW hpre).1;have hc:l.pre.holds [] { args:=args }=true:=(pre_splitW hpre).2;obtain⟨d,r,rfl,h1,h2⟩:=hasAllW_cons hsh;obtain rfl:=hasAllW_nil h2;obtain⟨xs,rfl,h3⟩:=hasW_list h1;obtain⟨ns,rfl⟩:=items_int h3;have hlen:ns.length <= n:=by
  unfold OpenLaw.pre at hc;have h4:(WTm.not (.lt (.lit (.int (n:Int))) (.len (.arg 0)))).holds [] { args:=[.list (ns.map .int)] }=true:=by
   have h4:=(holds_andW hc).1;rw [hn] at h4;exact h4
  have h5:=condW_of h4 (w_not (w_lt w_lit (w_len_list (w_arg rfl))));rw [length_map] at h5;refine Nat.le_of_not_lt fun q=>?_;have q':(n:Int) < ((ns.length:Nat):Int):=by omega
  first
   | (rw [decide_eq_true q'] at h5;exact absurd h5 'd')
   | (simp at h5;omega)
 cases hwl with
 | cons w1 w2 =>
  cases w2
  cases w1 with
  | list ho hall=>exact⟨_,_,ns,rfl,rfl,ho,b3c ns _ hall,hlen⟩
def c4x(l:OpenLaw)(args:List WData):l.row.toRowW.claim.post args (.bool true) args=true:=
 postW_of (r:=l.row.toRowW) (X:=(true == true))
  (show WShape.has [] (.bool true) .bool=true by first | rfl | decide | simp [WShape.has,WShape.arms,WShape.armsAll])
  (show(WTm.eq .res (.lit (.bool true))).value [] { args:=args,res:=some (.bool true),after:=args }=some (.bool (true == true)) from w_eq_bool (w_res rfl) w_lit) rfl
def attach_call{l:OpenLaw}{n:Nat}{q:Program}{loose:List Str}{XP:(Str->Option Value)->Heap->Prop}{YP:World->Heap->Prop}{d:DefRec}
  (hn:l.most=some n) (hdf:d.params.defaults=[])
  (call:∀ (w:World) (s₀ s₁:Shared) (mg mb:Str->Option Value) (fa:Addr) (o:Obj) (pm cd doc:Value) (a:Addr) (vs:List Value) (ns:List Int),
   Ground q loose [] XP w s₀ mg mb s₁.heap->YP w s₁.heap ->
   s₁.heap.get? fa=some o->o.data=.func (docDef d.name d.params d.body d.scope pm cd doc)->s₁.heap.CodeRec cd d.name->mg d.name=some (.ref fa) ->
   s₁.heap.get? a=some { cls:=.type "list",data:=.seq vs.toArray }->IntsAre vs ns->ns.length <= n->s₁.gens = #[] ->
   codeAny (model l.prog w) callerA (.call (.ref fa) ⟨[.ref a],[]⟩) (fun r s'=>r=.ok (.ret (.bool true))/\OldK s₁.heap s'.heap/\s'.os=s₁.os/\AllBare s'.gens) s₁) :
  WalkO q loose XP YP l.row.toRowW d [] (fun f vs=>PySem.call f vs):=by
 intro w s₀ s₁ mg mb G Y fa o pm cd doc dV kV ho hd hcd hD hmg hg args vals as hpre hlay hrd hwl hlo;obtain rfl:dV=.none:=Dflts.none hD hdf;obtain rfl:kV=.none:=Dflts.noKw hD;obtain⟨a,vs,ns,rfl,rfl,hobj,hints,hlen⟩:=c4w hn hpre hwl;refine enter_call (codeAny_mono (call w s₀ s₁ mg mb fa o pm cd doc a vs ns G Y ho (fd_plain hd) hcd hmg hobj hints hlen hg) fun r s' hq=>?_);obtain⟨rfl,h2,h3,h4⟩:=hq;exact⟨.inl ⟨.bool true,.bool true,[],rfl,fun _=>rfl,.bool true,c4x l _,fun _=>⟨List.Pairwise.nil,fun _ hm=>(nomatch hm)⟩⟩,h2,h3,h4⟩
end Att
namespace L2
open PySem PySem.Spec PyProof.Rows
def b5c:∀ {vs:List Value} {ns:List Int},IntsAre vs ns->Vals (ns.map V.int) vs
 | _,_,.nil=>.nil
 | _,_,.cons n t h=>.cons ⟨t,rfl⟩ (b5c h)
def Only(H:Hp):Prop:=∀ b,H b=none ∨ ∃ o xs,H b=some (.frz o (.lst xs))
def c8f{P:Program}{w:World}{K:W.Frag}{mg mb:Str->Option Value}{CX:CXT}{k:Nat}{fa a:Addr}{fd:FuncData}{x:Str}{sp:Sp}{s₁:Shared}{vs:List Value}{ns:List Int}
  (KX:K.In s₁.heap) (hns:s₁.heap.Ns mainGlobals mg) (hb:s₁.heap.Ns builtinsNs mb) (hbb:∀ x:Str,x ≠ "__name__" -> mb x=bootBuiltins x) (hlim:s₁.heap.NoLimit) (hg:s₁.gens = #[])
  (ha:s₁.heap.get? a=some { cls:=.type "list",data:=.seq vs.toArray }) (hi:IntsAre vs ns) (hl:ns.length <= sizeLine) (hr:Room k callerA)
  (F:∀ base:Heap,K.In base->base.Ns mainGlobals mg->FnOk P w K mg base CX k fa fd [x] sp) (hbind:∀ (s:Shared) (u:Value),BindsTo s fd ⟨[u],[]⟩ [(x,u)])
  (hsp:∀ H:Hp,Only H->SqL K H a (ns.map V.int)->sp [.ref a] H (fun v _=>v=.bl true) fun _ _ _=>False)
  (hCX:∀ H e s',CX [] H s₁ (fun _ _ _=>False) e s'->False) :
  codeAny (model P w) callerA (.call (.ref fa) ⟨[.ref a],[]⟩) (fun r s'=>r=.ok (.ret (.bool true))/\OldK s₁.heap s'.heap/\s'.os=s₁.os/\AllBare s'.gens) s₁:=by
 have rv:=b5c hi;have lenV:=hi.length
 -- from an abstract heap in which nothing but the script may be tracked
 have core:∀ H:Hp,Only H->SqL K H a (ns.map V.int)->HOk P w H s₁.heap->(∀ b,H b ≠ none->b=a)->(H a ≠ none->K.lookup a=none) ->
   codeAny (model P w) callerA (.call (.ref fa) ⟨[.ref a],[]⟩) (fun r s'=>r=.ok (.ret (.bool true))/\OldK s₁.heap s'.heap/\s'.os=s₁.os/\AllBare s'.gens) s₁:=by
  intro H hO hS hok hA hK;have base_of:∀ {b:Addr} {o:Obj},s₁.heap.get? b=some o->H b=none->(hidT s₁.heap H).get? b=some o:=fun e n=>c7z e n;have noA:∀ {b:Addr} {o:Obj} {es:Array DictEntry} {ep:Nat},s₁.heap.get? b=some o->o.data=.dict es ep->H b=none:=fun{b o es ep} e d=>by
   cases q:H b with
   | none=>rfl
   | some u =>
    have e':b=a:=hA b (by rw [q];simp);subst e';rw [ha] at e;cases e;have d':Data.seq vs.toArray _=Data.dict es ep:=d;cases d'
  have nsK:∀ {b:Addr} {m:Str->Option Value},s₁.heap.Ns b m->(hidT s₁.heap H).Ns b m:=fun{b m} ⟨o,es,ep,e,d,r⟩=>⟨o,es,ep,base_of e (noA e d),d,r⟩;have hKb:K.In (hidT s₁.heap H):=fun b o e=>base_of (KX b o e) (by
   cases q:H b with
   | none=>rfl
   | some u =>
    have e':b=a:=hA b (by rw [q];simp);subst e';rw [hK (by rw [q];simp)] at e;cases e)
  have hM:Mod K mg (hidT s₁.heap H):=⟨hKb,nsK hns,⟨mb,nsK hb,hbb⟩,let ⟨mc,h1,h2⟩:=hlim;⟨mc,nsK h1,h2⟩⟩;have e0:Env0 P w K mg (hidT s₁.heap H) callerA [] s₁ H:=⟨rfl,hM,fun b o e=>d2q e,le_of_eq (c4j _ _),trivial,fun b hb=>absurd (show b ∈ ([]:List Addr) from hb) 'c',hok,.of_eq hg⟩;refine codeAny_mono ((F _ hKb (nsK hns)).run callerA [] s₁ H ⟨[.ref a],[]⟩ [.ref a] [.ref a] _ _ hr e0 (hbind s₁ (.ref a)) (.cons rfl .nil) (hsp H hO hS)) fun r s' h=>?_;cases r with
  | error e=>exact(hCX H e s' h).elim
  | ok fl =>
   cases fl with
   | next=>exact False.elim h
   | brk=>exact False.elim h
   | cont=>exact False.elim h
   | ret u =>
    obtain⟨v,H',os,bare,un,hok',r',q⟩:=h;have q':v=.bl true:=q;subst q';obtain rfl:u=Value.bool true:=r';refine⟨rfl,OldK.of_keep fun b o e=>?_,os,bare⟩;cases q:H b with
    | none=>exact un.keep b o e q (by intro z;exact absurd (show b ∈ ([]:List Addr) from z) 'c') 'c'
    | some u =>
     rcases hO b with z | ⟨ob,xs,z⟩
     ·rw [q] at z;cases z
     ·have z2:=un.frzs b ob _ z
      obtain⟨e1,_⟩:=hok b _ z;obtain⟨e2,_⟩:=hok' b _ z2;rw [e] at e1;cases e1;exact e2
 cases hk:K.lookup a with
 | some o =>
  -- the script is one of the module's own objects
  have e:=KX a o hk;rw [ha] at e;cases e;refine core (fun _=>none) (fun _=>.inl rfl) (.inr ⟨_,vs.toArray,_,hk,rfl,rfl,rfl,by rw [size_toArray,lenV];exact hl,by simpa using rv⟩) (fun b u z=>by have z':(none:Option HO)=some u:=z;cases z') (fun b z=>absurd rfl z) fun z=>absurd rfl z
 | none =>
  refine core (fun b=>if b=a then some (.frz { cls:=.type "list",data:=.seq vs.toArray } (.lst (ns.map V.int))) else none) (fun b=>?_) (.inl (.inr ⟨{ cls:=.type "list",data:=.seq vs.toArray },if_pos rfl⟩)) (fun b u z=>?_) (fun b z=>?_) fun _=>hk
  ·by_cases hb:b=a
   ·exact .inr ⟨_,_,if_pos hb⟩
   ·exact .inl (if_neg hb)
  ·by_cases hb:b=a
   ·have z':=(if_pos hb).symm.trans z
    cases z'
    subst hb;exact⟨ha,by rw [length_map];exact hl,vs,_,rv,ha⟩
   ·have z':=(if_neg hb).symm.trans z
    cases z'
  ·by_cases hb:b=a
   ·exact hb
   ·exact absurd (if_neg hb) z
end L2
namespace L2
open PySem PySem.Spec PyProof.Rows
def d3e{l:PySem.W.OpenLaw}{n k:Nat}{q:Program}{loose:List Str}{XP:(Str->Option Value)->Heap->Prop}{YP:World->Heap->Prop}{d:DefRec}{K:Params->W.Frag}{CX:World->CXT}{sp:World->Sp}{x:Str}
  (hn:l.most=some n) (hn2:n <= sizeLine) (hdf:d.params.defaults=[]) (hr:Room k callerA)
  (hY:∀ (w:World) (h:Heap),YP w h->(K w.params).In h)
  (F:∀ (w:World) (mg:Str->Option Value) (fa:Addr) (h:Heap),(K w.params).In h->h.Ns mainGlobals mg->mg d.name=some (.ref fa) ->
   ∃ fd:FuncData,(∀ (s:Shared) (u:Value),BindsTo s fd ⟨[u],[]⟩ [(x,u)]) /\
    ∀ base:Heap,(K w.params).In base->base.Ns mainGlobals mg->FnOk l.prog w (K w.params) mg base (CX w) k fa fd [x] (sp w))
  (hsp:∀ (w:World) (H:Hp) (a:Addr) (ns:List Int),ns.length <= n->Only H->SqL (K w.params) H a (ns.map V.int)->sp w [.ref a] H (fun v _=>v=.bl true) fun _ _ _=>False)
  (hCX:∀ (w:World) (H:Hp) (s:Shared) (e:Value) (s':Shared),CX w [] H s (fun _ _ _=>False) e s'->False) :
  PySem.W.WalkO q loose XP YP l.row.toRowW d [] (fun f vs=>PySem.call f vs):=by
 refine Att.attach_call hn hdf fun w s₀ s₁ mg mb fa o pm cd doc a vs ns G Y ho hd hcd hmg hobj hints hlen hg=>?_;have KX:=hY w _ Y;obtain⟨fd,hb,hF⟩:=F w mg fa _ KX G.T.g hmg;exact c8f KX G.T.g G.T.b G.T.builtins G.T.nolimit hg hobj hints (le_trans hlen hn2) hr hF hb (fun H hO hS=>hsp w H a ns hlen hO hS) fun H e s'=>hCX w H s₁ e s'
end L2
namespace L2
open PySem PySem.Spec PyProof.Rows
noncomputable def inClass(s:Stmt)(j:Nat):Stmt:=match s with
 | .ClassDef _ _ _ body _ _ _ _ _ _ _=>body.getD j (.Pass ⟨0,0,0,0⟩)
 | _=>.Pass ⟨0,0,0,0⟩
noncomputable def a5a(s:Stmt):Arguments:=match s with
 | .FunctionDef _ a _ _ _ _ _ _ _ _=>a
 | _=>{ posonlyargs:=[],args:=[],vararg:=none,kwonlyargs:=[],kw_defaults:=[],kwarg:=none,defaults:=[] }
noncomputable def a2n(s:Stmt):List Stmt:=match s with
 | .FunctionDef _ _ b _ _ _ _ _ _ _=>b
 | _=>[]
noncomputable def a0h(s:Stmt):Scope:=match s with
 | .FunctionDef _ _ _ _ _ _ sc _ _ _=>sc
 | _=>{ kind:=.function,names:=[],isGenerator:=false,isCoroutine:=false }
abbrev CX0:CXT:=fun _ _ _ _ _ _=>False
abbrev E0:XK:=fun _ _ _=>False
def d1q{X:Cx}:a8i CX0 X E0:=fun _ _ _ _ _ _ _ h=>h.elim
structure Fun(K:W.Frag)(x qual:Str)(st:Stmt)(f:Addr)(fd:FuncData):Prop where
 ex:∃ (oc:Value) (od:Option Addr) (kV doc pm:Value) (an:Option Addr) (cdv ct:Value) (osl:Array (Option Value)),
  fd=PySem.W.fnOf x qual (a5a st) (a2n st) (a0h st) .none kV doc pm an cdv ct/\K.lookup f=some ⟨oc,od,.func fd,osl⟩/\PySem.W.codeIn K cdv qual=true
 kp:PySem.W.keepIn K (.ref f)=true
section
variable{P:Program}{w:World}{K:W.Frag}{mg:Str->Option Value}{base:Heap}
def Fun.ok{x qual:Str}{st:Stmt}{f:Addr}{fd:FuncData}{N ps:List Str}{k:Nat}{sp:Sp}(F:Fun K x qual st f fd)(S:FnScope N ps (a0h st))(len:∀ vs H Q E,sp vs H Q E->vs.length=ps.length)
  (hbody:∀ (cdv:Value) (A:Around) (outer:List Env) (s:Shared) (H:Hp) (vs:List V) (Q:VK) (E:XK),Room k (A.deeper (envOfC qual (a0h st) s.heap.objs.size f cdv))->sp vs H Q E ->
   ∃ t,PSs (cxOf CX0 P w K mg base N qual (a0h st) f cdv A outer s H E).nox (a2n st) t/\t { nx:=fun _ H'=>Q .non H',rt:=Q } (start N vs) H):FnOk P w K mg base CX0 (k + 1) f fd ps sp:=by
 obtain⟨oc,od,kV,doc,pm,an,cdv,ct,osl,rfl,lk,hcd⟩:=F.ex;refine d1n lk hcd S len fun A outer s H vs Q E hr hsp=>?_;obtain⟨t,h,q⟩:=hbody cdv A outer s H vs Q E hr hsp;exact⟨t,h.nox,q⟩
def Fun.binds{x qual:Str}{st:Stmt}{f:Addr}{fd:FuncData}{ps:List Str}(F:Fun K x qual st f fd)
  (h:∀ (kV doc pm:Value) (an:Option Addr) (cdv ct:Value) (us:List Value),us.length=ps.length->bindArgs (PySem.W.fnOf x qual (a5a st) (a2n st) (a0h st) .none kV doc pm an cdv ct) ⟨us,[]⟩=pure (ps.zip us)):Binds K fd ps []:=by
 obtain⟨oc,od,kV,doc,pm,an,cdv,ct,osl,rfl,lk,hcd⟩:=F.ex;exact .all (h kV doc pm an cdv ct)
def a4m{x qual:Str}{st:Stmt}{f:Addr}{oc:Value}{od an:Option Addr}{osl:Array (Option Value)}{kV doc pm cdv ct:Value}(l:K.lookup f=some ⟨oc,od,.func (PySem.W.fnOf x qual (a5a st) (a2n st) (a0h st) .none kV doc pm an cdv ct),osl⟩)
  (c:PySem.W.codeIn K cdv qual=true) (k:PySem.W.keepIn K (.ref f)=true):Fun K x qual st f (PySem.W.fnOf x qual (a5a st) (a2n st) (a0h st) .none kV doc pm an cdv ct):=⟨⟨oc,od,kV,doc,pm,an,cdv,ct,osl,rfl,l,c⟩,k⟩
end
def d1r{A:Around}{k:Nat}(hr:Room k A):A.units + 1 < cLine:=Nat.lt_of_le_of_lt (Nat.add_le_add_left (by decide:1 <= 64) _) hr.units
def a9x{n:Nat}(h:n <= 1000):n < sizeLine:=Nat.lt_of_le_of_lt h 'd'
section
variable{X:Cx}
def pv(i:Nat){x:Str}{pos:Pos}(hN:X.N[i]? = some x:=by rfl)(hv:Vis X.env.scope x:=by first | exact Or.inl rfl | exact Or.inr 'e' | exact Or.inr (Or.inr rfl)) (hd:(x == ("__debug__" : Str))=false:=by decide)
  (hcd:(x == ("__classdict__" : Str))=false:=by decide):PE X (.Name x pos) (tVar i):=a8g hN hv hd hcd
end
def iteF{A B:Prop}(h:B):if false=true then A else B:=by
 rw [if_neg Bool.false_ne_true];exact h
def iteT{A B:Prop}(h:A):if true=true then A else B:=by
 rw [if_pos rfl];exact h
def ite2{c A B:Prop}[Decidable c](h1:c->A)(h2:¬ c->B):if c then A else B:=by
 by_cases h:c
 ·rw [if_pos h]
  exact h1 h
 ·rw [if_neg h]
  exact h2 h
def Same(H H':Hp):Prop:=∀ b o,H b=some o->H' b=some o
def Same.refl(H:Hp):Same H H:=fun _ _ h=>h
def Same.trans{H H1 H2:Hp}(a:Same H H1)(b:Same H1 H2):Same H H2:=fun c o h=>b c o (a c o h)
def Same.free{H H':Hp}(e:Same H H'){l:Addr}(h:H' l=Option.none):H l=Option.none:=by
 cases q:H l with
 | none=>rfl
 | some o =>
  rw [e l o q] at h;cases h
end L2
end
section
namespace Sx
open PySem
abbrev Up(xs:Array Nat):Prop:=∀ i k:Nat,i < k->∀ hk:k < xs.size,∀ hi:i < xs.size,xs[i] < xs[k]
structure Bel(xs:Array Nat)(j r:Nat):Prop where
 le:r <= xs.size
 lo:∀ i,i < r->∀ h:i < xs.size,xs[i] < j
 hi:∀ i,r <= i->∀ h:i < xs.size,j <= xs[i]
def d7m{xs:Array Nat}(up:Up xs)(j:Nat):∀ (f lo hi:Nat),hi - lo <= f->lo <= hi->hi <= xs.size->(∀ i,i < lo->∀ h:i < xs.size,xs[i] < j)->(∀ i,hi <= i->∀ h:i < xs.size,j <= xs[i])->Bel xs j (SetTable.below.go xs j f lo hi):=by
 intro f;induction f with
 | zero =>
  intro lo hi hf h1 h2 a b;have e:lo=hi:=by omega
  subst e;exact⟨h2,a,b⟩
 | succ f ih =>
  intro lo hi hf h1 h2 a b;unfold SetTable.below.go;by_cases hlt:lo < hi
  ·rw [if_pos hlt]
   have hm:(lo + hi) / 2 < xs.size:=by omega
   have eg:xs.getD ((lo + hi) / 2) j=xs[(lo + hi) / 2]:=by
    rw [getD_eq_getD_getElem?,Array.getElem?_eq_getElem hm];rfl
   dsimp only
   rw [eg];by_cases hc:xs[(lo + hi) / 2] < j
   ·rw [if_pos hc]
    refine ih _ _ 'o' 'o' h2 (fun i hi' h=>?_) b;by_cases e:i=(lo + hi) / 2
    ·subst e;exact hc
    ·exact lt_trans (up i ((lo + hi) / 2) 'o' hm h) hc
   ·rw [if_neg hc]
    refine ih _ _ 'o' 'o' 'o' a (fun i hi' h=>?_);by_cases e:i=(lo + hi) / 2
    ·subst e;omega
    ·have:=up ((lo + hi) / 2) i 'o' h hm
     omega
  ·rw [if_neg hlt]
   have e:lo=hi:=by omega
   subst e;exact⟨h2,a,b⟩
def bel{xs:Array Nat}(up:Up xs)(j:Nat):Bel xs j (SetTable.below xs j):=
 d7m up j xs.size 0 xs.size 'o' 'o' 'b' (fun i h=>absurd h (Nat.not_lt_zero _)) (fun i h1 h2=>absurd h2 'o')
def Bel.eq{xs:Array Nat}{j r r':Nat}(a:Bel xs j r)(b:Bel xs j r'):r=r':=by
 rcases Nat.lt_trichotomy r r' with h | h | h
 ·have h1:=a.hi r 'b' (by have:=b.le;omega)
  have h2:=b.lo r h (by have:=b.le;omega);omega
 ·exact h
 ·have h1:=b.hi r' 'b' (by have:=a.le;omega)
  have h2:=a.lo r' h (by have:=a.le;omega);omega
def c2c{xs:Array Nat}(up:Up xs){i:Nat}(h:i < xs.size):SetTable.below xs (xs[i] + 1)=i + 1:=
 (bel up _).eq ⟨h,fun k hk hs=>by
  by_cases e:k=i
  ·subst e;omega
  ·have:=up k i 'o' h hs
   omega,fun k hk hs=>by have:=up i k 'o' hs h;omega⟩
def c2d{xs:Array Nat}(up:Up xs):SetTable.below xs 0=0:=
 (bel up _).eq ⟨zero_le _,fun i h=>absurd h (Nat.not_lt_zero _),fun i h1 h2=>zero_le _⟩
abbrev UpL(xs:List Nat):Prop:=xs.Pairwise (· < ·)
def c2e{xs:Array Nat}(h:UpL xs.toList):Up xs:=fun i k hik hk hi=>by
 have:=List.pairwise_iff_getElem.mp h i k (by simpa using hi) (by simpa using hk) hik;simpa using this
def d7n{xs:Array Nat}(h:UpL xs.toList){j:Nat}(hj:¬ xs[SetTable.below xs j]? = some j):UpL (SetTable.insertAt xs (SetTable.below xs j) j).toList:=by
 have b:=bel (c2e h) j;generalize SetTable.below xs j=r at b hj;rw [SetTable.toList_insertAt];have h0:UpL (xs.toList.take r ++ xs.toList.drop r):=by rw [List.take_append_drop];exact h
 obtain⟨h1,h2,h3⟩:=List.pairwise_append.mp h0;have lo:∀ a ∈ xs.toList.take r,a < j:=fun a ha=>by
  obtain⟨i,hi,e⟩:=getElem_of_mem ha;rw [length_take] at hi;rw [List.getElem_take] at e;have hs:i < xs.size:=by simp at hi;omega
  have:=b.lo i 'o' hs;rw [← e];simpa using this
 have hi:∀ a ∈ xs.toList.drop r,j < a:=fun a ha=>by
  obtain⟨i,hi,e⟩:=getElem_of_mem ha;rw [List.length_drop] at hi;rw [List.getElem_drop] at e;have hs:r + i < xs.size:=by simp at hi;omega
  have h5:=b.hi (r + i) 'o' hs;have e':xs[r + i]=a:=by rw [← e];simp
  have hr:r < xs.size:=by omega
  have h6:=b.hi r 'b' hr;have h7:xs[r] ≠ j:=fun e=>hj (by rw [Array.getElem?_eq_getElem hr,e]);by_cases e0:i=0
  ·subst e0
   simp only [Nat.add_zero] at e';omega
  ·have:=c2e h r (r + i) 'o' hs hr
   omega
 refine List.pairwise_append.mpr ⟨h1,List.pairwise_cons.mpr ⟨hi,h2⟩,fun a ha c hc=>?_⟩;rcases mem_cons.mp hc with rfl | hc
 ·exact lo a ha
 ·exact h3 a ha c hc
structure TOk(t:SetTable):Prop where
 none:t.dummies = #[]
 up:UpL t.place.toList
def c4y(f m:Nat)(l:Bool):TOk (SetTable.fresh f m l):=⟨rfl,List.Pairwise.nil⟩
def b5d(n:Nat):UpL (List.range n):=List.pairwise_lt_range
def a5z(t:SetTable)(n:Nat):TOk (t.standIn n):=⟨rfl,by
 show UpL (Array.range n).toList;rw [Array.toList_range];exact b5d n⟩
def d7o{t:SetTable}(h:TOk t)(n:Nat):TOk (t.orStandIn n):=by
 unfold SetTable.orStandIn;split
 ·exact h
 ·exact a5z t n
def c0p(j:Nat):SetTable.has #[] j=false:=by
 unfold SetTable.has;simp
def c8g{t:SetTable}(h:TOk t)(f:Nat->Int)(hh:Int):∀ (n:Nat) (p:SetTable.Probe),p.dummy=none->∀ j d,SetTable.probe.go t f hh n p=some (.empty j d)->d=none/\t.slot j=.empty:=by
 intro n;induction n with
 | zero=>intro p hp j d e;unfold SetTable.probe.go at e;cases e
 | succ n ih =>
  intro p hp j d e;unfold SetTable.probe.go at e;have adv:∀ q:SetTable.Probe,q.dummy=none->(t.advance q).dummy=none:=fun q hq=>by
   unfold SetTable.advance;split
   ·exact hq
   ·exact hq
  split at e
  ·rename_i hs
   injection e with e
   injection e with e1 e2
   subst e1;exact⟨by rw [← e2,hp],hs⟩
  ·rename_i hs
   exfalso
   unfold SetTable.slot at hs
   dsimp only at hs
   rw [h.none,c0p] at hs;split at hs<;>cases hs
  ·split at e
   ·injection e with e;cases e
   ·exact ih _ (adv _ hp) j d e
def c2f{t:SetTable}(h:TOk t){hh:Int}{j:Nat}{b:Bool}(e:t.freeSlot hh=some (j,b)):t.slot j=.empty:=by
 unfold SetTable.freeSlot SetTable.probe at e;split at e
 ·rename_i j' d hp
  obtain⟨hd,hs⟩:=c8g h _ _ _ _ rfl _ _ hp;injection e with e
  injection e with e1 e2
  subst hd;subst e1;exact hs
 ·cases e
def d3f{t:SetTable}(h:TOk t){j:Nat}(hs:t.slot j=.empty):TOk (t.put j).1:=by
 have hj:¬ t.place[SetTable.below t.place j]? = some j:=fun e=>by
  unfold SetTable.slot at hs
  dsimp only at hs
  rw [e] at hs;simp at hs
 refine⟨?_,?_⟩
 ·unfold SetTable.put
  dsimp only
  rw [h.none,c0p];rfl
 ·exact d7n h.up hj
def c2g{t:SetTable}(h:TOk t)(es:Array 'j')(hh:Int)(x:Value):TOk (layNew t es hh x).2.1:=by
 unfold layNew;split
 ·rename_i slot d e
  exact d7o (d3f h (c2f h e)) _
 ·exact a5z _ _
def c4z{t:SetTable}(h:TOk t)(b:Bool):TOk { t with plain:=b }:=⟨h.none,h.up⟩
def c8h{mask f m:Nat}{l p:Bool}{hs:Array Int}{r:SetTable × Array Nat}(e:SetTable.laid mask f m l p hs=some r):TOk r.1:=by
 unfold SetTable.laid at e;cases ho:SetTable.layClean mask hs with
 | none=>rw [ho] at e;cases e
 | some owner =>
  rw [ho] at e;cases e;refine⟨rfl,?_⟩;show UpL (List.map (fun q:Nat × Nat=>q.1) _);have key:∀ (l:List Nat),UpL l->UpL (List.map (fun q:Nat × Nat=>q.1) (l.filterMap fun j=>(owner.getD j none).map (j,·))):=by
   intro l hl;refine pairwise_map.mpr ?_;refine List.Pairwise.filterMap _ (fun a a' haa b hb c hc=>?_) hl;cases ha:owner.getD a none with
   | none=>rw [ha] at hb;cases hb
   | some u =>
    cases ha':owner.getD a' none with
    | none=>rw [ha'] at hc;cases hc
    | some u' =>
     rw [ha] at hb;rw [ha'] at hc;cases hb;cases hc;exact haa
  exact key _ (b5d _)
def c5a{t:SetTable}(h:TOk t)(es:Array 'j')(n:Nat):TOk (relayAll t es n).2.1:=by
 unfold relayAll;split
 ·rename_i t' order e
  dsimp only
  split
  ·exact c8h e
  ·exact a5z _ _
 ·exact a5z _ _
def c2h(t:SetTable)(es:Array 'j')(hh:Int)(x:Value):(layNew t es hh x).2.1.led=t.led:=by
 unfold layNew;split
 ·dsimp only
  unfold SetTable.orStandIn;split<;>rfl
 ·rfl
def c5b(t:SetTable)(es:Array 'j')(n:Nat):(relayAll t es n).2.1.led=t.led:=by
 unfold relayAll;split
 ·rename_i t' order e
  dsimp only
  split
  ·unfold SetTable.relaid SetTable.laid at e
   cases ho:SetTable.layClean (SetTable.sizeAbove n - 1) (es.map (·.1)) with
   | none=>rw [ho] at e;cases e
   | some owner=>rw [ho] at e;cases e;rfl
  ·rfl
 ·rfl
end Sx
end
section
namespace Sx
open PySem
section
variable{prog:Program}{w:World}{K:Type}[DecidableEq K](knd:KeyKind prog w K)(dec:Value->K)
structure Fc(ks:List K)(es:Array 'j')(t:SetTable):Prop where
 el:ElemsOf knd es.toList
 pm:(es.toList.map fun e=>dec e.2).Perm ks
 nd:ks.Nodup
 sz:es.size < scanBound
 ft:t.fits es.size=true
 ok:TOk t
 ld:t.led = !w.params.followText "set-order"
abbrev setO(es:Array 'j')(ep:Nat)(t:SetTable):Obj:={ cls:=.type "set",dict:=none,data:=.set es ep t,slots:=#[] }
def SetV(h:Heap)(a:Addr)(ks:List K):Prop:=∃ es ep t,h.get? a=some (setO es ep t)/\Fc knd dec ks es t
noncomputable def ins(ks:List K)(k:K):List K:=if k ∈ ks then ks else ks ++ [k]
variable{knd dec}
variable{A:Around}{E:Value->Shared->Prop}{s:Shared}
def Fc.relay{ks:List K}{es:Array 'j'}{t:SetTable}(F:Fc knd dec ks es t)(n:Nat):Fc knd dec ks (relayAll t es n).1 (relayAll t es n).2.1:=by
 have p:=relayAll_perm t es n;have z:(relayAll t es n).1.size=es.size:=by rw [← length_toList,p.length_eq,length_toList]
 exact⟨F.el.perm p,(p.map _).trans F.pm,F.nd,by rw [z];exact F.sz,relayAll_fits t es n,c5a F.ok es n,by rw [c5b];exact F.ld⟩
def Fc.plain{ks:List K}{es:Array 'j'}{t:SetTable}(F:Fc knd dec ks es t):Fc knd dec ks es { t with plain:=false }:=
 ⟨F.el,F.pm,F.nd,F.sz,SetTable.fits_plain_off F.ft,c4z F.ok _,F.ld⟩
def Fc.lay{ks:List K}{es:Array 'j'}{t:SetTable}(F:Fc knd dec ks es t)(hdec:∀ k v,knd.is k v=true->dec v=k){k:K}{x:Value}(hk:knd.is k x=true)(hx:x.scannable=true)(hn:k ∉ ks)(hr:ks.length + 1 < scanBound) :
  Fc knd dec (ks ++ [k]) (layNew t es (knd.hash k) x).1 (layNew t es (knd.hash k) x).2.1:=by
 have p:=layNew_perm t es (knd.hash k) x;rw [toList_push] at p;have z0:es.size=ks.length:=by have:=F.pm.length_eq;simpa using this
 have z:(layNew t es (knd.hash k) x).1.size=es.size + 1:=by rw [← length_toList,p.length_eq];simp
 refine⟨(F.el.push hk hx).perm p,?_,?_,by rw [z,z0];exact hr,layNew_fits t es _ x,c2g F.ok es _ x,by rw [c2h];exact F.ld⟩
 ·have p2:=p.map (fun e=>dec e.2)
  rw [map_append] at p2;have e1:List.map (fun e:Int × Value=>dec e.2) [(knd.hash k,x)]=[k]:=by simp [hdec k x hk]
  rw [e1] at p2;exact p2.trans (F.pm.append_right [k])
 ·rw [nodup_append]
  refine⟨F.nd,pairwise_singleton _ k,fun a ha b hb=>?_⟩;rw [mem_singleton] at hb;subst hb;exact fun e=>hn (e ▸ ha)
def b5e{h:Heap}{a:Addr}{es:Array 'j'}{ep:Nat}{t:SetTable}(ho:h.get? a=some (setO es ep t))(es':Array 'j')(t':SetTable):(h.update a (Obj.putSet es' t')).get? a=some (setO es' (ep + 1) t'):=by
 have:=get?_update_self (Obj.putSet es' t') ho (by rw [putSet_of es' t' rfl];rfl);rw [putSet_of es' t' rfl] at this;exact this
def c5c{g:Bool->Sem Unit}(hg:∀ (b:Bool) (s₁:Shared) (Q':Unit->Shared->Prop),Q' () s₁->wpAny (model prog w) A (g b) Q' E s₁){a:Addr}{es:Array 'j'}{ep:Nat}{t:SetTable}(ho:s.heap.get? a=some (setO es ep t))
  {ks:List K} {e1:Array 'j'} {t1:SetTable} (F:Fc knd dec ks e1 t1) {wd:Bool} {R:Option Bool->Shared->Prop} (h:∀ h',Heap.SameBut a s.heap h'->SetV knd dec h' a ks->R (some true) { s with heap:=h' }) :
  wpAny (model prog w) A (do
    storeSet a e1 t1
    if (!wd && t1.tooFull)=true then do
      g (relayAll t1 e1 (SetTable.grown e1.size)).2.2;storeSet a (relayAll t1 e1 (SetTable.grown e1.size)).1 (relayAll t1 e1 (SetTable.grown e1.size)).2.1
      pure (some true)
     else pure (some true)) R E s:=by
 refine wpAny_bind (wpAny_storeSet_of ho rfl ?_ (fits_of_scanBound F.sz));have o1:=b5e ho e1 t1;have b1:=Heap.SameBut.update s.heap a (Obj.putSet e1 t1);split
 ·have F2:=F.relay (SetTable.grown e1.size)
  generalize relayAll t1 e1 (SetTable.grown e1.size)=Rl at F2 ⊢;refine wpAny_bind (hg _ _ _ (wpAny_bind (wpAny_storeSet_of o1 rfl ?_ (fits_of_scanBound F2.sz))));exact wpAny_pure (h _ (b1.trans (Heap.SameBut.update _ a _)) ⟨_,_,_,b5e o1 _ _,F2⟩)
 ·exact wpAny_pure (h _ b1 ⟨_,_,_,o1,F⟩)
def d7p(hdec:∀ k v,knd.is k v=true->dec v=k){a:Addr}{ks:List K}{k:K}{x:Value}{Q:Bool->Shared->Prop}(hk:knd.is k x=true)(hx:x.scannable=true)(hS:SetV knd dec s.heap a ks)(hr:ks.length + 1 < scanBound)
  (h:∀ b h',Heap.SameBut a s.heap h'->SetV knd dec h' a (ins ks k)->Q b { s with heap:=h' }):wpAny (model prog w) A (setAddHashed a x (knd.hash k)) Q E s:=by
 obtain⟨es,ep,t,ho,F⟩:=hS;unfold setAddHashed;unfold setAddHashedIn;refine wpAny_holding (wpAny_bind (wpAny_setState_of ho rfl F.ft ?_))
 dsimp only
 rw [byScan_of hx F.sz F.el];simp only [↓reduceIte];unfold setAddByScan;refine wpAny_bind (wpAny_bind (wpAny_rule (wpAny_bind (wpAny_setScan_of hk ho rfl F.ft F.el ?_))));cases hf:List.findIdx? (fun e=>knd.is k e.2) es.toList with
 | some j =>
  obtain⟨hj,hpj,_⟩:=List.findIdx?_eq_some_iff_getElem.mp hf;have hm:k ∈ ks:=F.pm.mem_iff.mp (mem_map.mpr ⟨es.toList[j],getElem_mem hj,hdec _ _ hpj⟩);refine wpAny_pure (wpAny_pure ?_);have:=h false s.heap (Heap.SameBut.refl a s.heap) (by rw [ins,if_pos hm];exact⟨es,ep,t,ho,F⟩);cases s;exact this
 | none =>
  have hn:k ∉ ks:=fun hm=>by
   obtain⟨e,he,q⟩:=mem_map.mp (F.pm.mem_iff.mpr hm);obtain⟨⟨k2,hk2,_⟩,_⟩:=F.el e he;have e2:k2=k:=(hdec _ _ hk2).symm.trans q;have:=List.findIdx?_eq_none_iff.mp hf e he;rw [← e2,hk2] at this;cases this
  have F1:=F.lay hdec hk hx hn hr;have hw:∀ (b:Bool) {s₁:Shared} {Q':Unit->Shared->Prop},Q' () s₁->wpAny (model prog w) A (match b with | true=>rule "set.scan.the-table-gave-way" | false=>pure ()) Q' E s₁:=fun b s₁ Q' hq=>by
   cases b<;>first | exact wpAny_pure hq | exact wpAny_rule hq
  have fin:∀ h',Heap.SameBut a s.heap h'->SetV knd dec h' a (ks ++ [k])->Q true { s with heap:=h' }:=fun h' b1 b2=>h true h' b1 (by rw [ins,if_neg hn];exact b2)
  dsimp only
  generalize layNew t es (knd.hash k) x=L at F1 ⊢;obtain⟨e1,t1,wd,gave⟩:=L
  dsimp only at F1 ⊢
  refine wpAny_bind (hw _ ?_);split
  ·refine wpAny_bind ?_
   rw [hashByValue_scannable 8 hx];refine wpAny_pure (c5c (knd:=knd) (dec:=dec) ?_ ho (ks:=ks ++ [k]) ?_ ?_)
   ·intro b s₁ Q' hq;cases b<;>first | exact wpAny_pure hq | exact wpAny_rule hq
   ·split
    ·exact F1
    ·exact F1.plain
   ·intro h' hb hS';exact wpAny_pure (fin h' hb hS')
  ·refine wpAny_bind (wpAny_pure ?_);simp only [↓reduceIte]
   refine c5c ?_ ho F1 ?_
   ·intro b s₁ Q' hq;cases b<;>first | exact wpAny_pure hq | exact wpAny_rule hq
   ·intro h' hb hS';exact wpAny_pure (fin h' hb hS')
def add_v(hdec:∀ k v,knd.is k v=true->dec v=k){a:Addr}{ks:List K}{k:K}{x:Value}{Q:Bool->Shared->Prop}(hk:knd.is k x=true)(hx:x.scannable=true)(hS:SetV knd dec s.heap a ks)(hr:ks.length + 1 < scanBound)
  (h:∀ b h',Heap.SameBut a s.heap h'->SetV knd dec h' a (ins ks k)->Q b { s with heap:=h',toks:=s.toks + 1 }):wpAny (model prog w) A (setAdd a x) Q E s:=by
 unfold setAdd;refine wpAny_holding (wpAny_bind (knd.pyHash hk ?_));exact d7p hdec hk hx (s:={ s with toks:=s.toks + 1 }) hS hr fun b h' b1 b2=>h b h' b1 b2
end
end Sx
end
section
namespace Sx
open PySem
def b5f:entryFor table "set.update.loop" = some Builtin.«set.update.loop»:=entryFor_of_tree (by kernel_rfl)
def a9y:plainId "set.update.loop" = true:=by decide +kernel
section
variable{K:Type}[DecidableEq K]
noncomputable def uniq(ks:List K):List K:=ks.foldl ins []
def c5d(ks:List K)(k:K):uniq (ks ++ [k])=ins (uniq ks) k:=by unfold uniq;rw [List.foldl_append];rfl
def d7q(ks:List K)(k:K):(ins ks k).length <= ks.length + 1:=by
 unfold ins;split
 ·omega
 ·rw [length_append];exact le_refl _
def d3g(ks:List K):∀ l:List K,(ks.foldl ins l).length <= l.length + ks.length:=by
 induction ks with
 | nil=>intro l;exact le_refl _
 | cons k r ih =>
  intro l;have h1:=ih (ins l k);have h2:=d7q l k;rw [List.foldl_cons,length_cons];omega
def b0w(ks:List K):(uniq ks).length <= ks.length:=by
 have:=d3g ks [];simpa [uniq] using this
def d3h{ks:List K}{k j:K}:j ∈ ins ks k ↔ j ∈ ks ∨ j=k:=by
 unfold ins;split
 ·rename_i h
  exact⟨.inl,fun q=>q.elim id (fun e=>e ▸ h)⟩
 ·rw [mem_append,mem_singleton]
def c5e{ks:List K}(h:ks.Nodup)(k:K):(ins ks k).Nodup:=by
 unfold ins;split
 ·exact h
 ·rename_i hk
  rw [nodup_append];refine⟨h,pairwise_singleton _ k,fun a ha b hb=>?_⟩;rw [mem_singleton] at hb;subst hb;exact fun e=>hk (e ▸ ha)
def d7r(ks:List K):∀ (l:List K) (j:K),j ∈ ks.foldl ins l ↔ j ∈ l ∨ j ∈ ks:=by
 induction ks with
 | nil=>intro l j;simp
 | cons k r ih=>intro l j;rw [List.foldl_cons,ih,d3h,mem_cons,or_assoc]
def b7a{ks:List K}{j:K}:j ∈ uniq ks ↔ j ∈ ks:=by unfold uniq;rw [d7r];simp
def c8i(ks:List K):∀ l:List K,l.Nodup->(ks.foldl ins l).Nodup:=by
 induction ks with
 | nil=>intro l h;exact h
 | cons k r ih=>intro l h;exact ih _ (c5e h k)
def c2i(ks:List K):(uniq ks).Nodup:=c8i ks [] List.Pairwise.nil
end
section
variable{prog:Program}{w:World}{K:Type}[DecidableEq K]{knd:KeyKind prog w K}{dec:Value->K}{A:Around}{R:Result->Shared->Prop}{I:Addr}{fp wr:List Addr}{G:Array GenState->Array GenState->Prop}{St:Nat->Shared->Prop}{items:Array Value}{ks:List K}
def SetV.move{h h':Heap}{a:Addr}(x:SetV knd dec h a ks)(e:∀ o,h.get? a=some o->h'.get? a=some o):SetV knd dec h' a ks:=by
 obtain⟨es,ep,t,ho,F⟩:=x;exact⟨es,ep,t,e _ ho,F⟩
def c8j(hdec:∀ k v,knd.is k v=true->dec v=k)(W:WalksS prog w A.in1 I fp wr G items.size (fun i v=>items[i]? = some v) St)(D:Addr)(hDf:D ∉ fp)(hl:items.size < 4000)(hks:∀ (i:Nat) (v:Value),items[i]? = some v->∃ k,ks[i]? = some k/\knd.is k v=true/\v.scannable=true) :
  ∀ (m i:Nat) (s:Shared),items.size - i=m->i <= items.size->St i s->SetV knd dec s.heap D (uniq (ks.take i)) ->
   (∀ s',Moved (D :: wr) G s s'->SetV knd dec s'.heap D (uniq (ks.take items.size))->R (.ok (.ret .none)) s') ->
   codeAny (model prog w) A (.builtin "set.update.loop" ⟨[.ref D,.ref I],[]⟩) R s:=by
 have hDw:D ∉ wr:=fun h=>hDf (W.sub _ h);have up:∀ b ∈ wr,b ∈ D :: wr:=fun b hb=>mem_cons_of_mem _ hb;intro m;induction m with
 | zero =>
  intro i s hm hi st sv fin;have hin:i=items.size:=by omega
  subst hin;refine codeAny_builtin b5f ?_;rw [Around.under_plainId a9y _];show wpAny _ A.in1 (pyNext (.ref I) >>= _) _ _ s;refine wpAny_bind (W.done s _ _ st fun s' mv=>?_);exact wpAny_pure (fin s' (mv.mono up) (sv.move fun o e=>mv.heap D _ hDw e))
 | succ m ih =>
  intro i s hm hi st sv fin;have hlt:i < items.size:=by omega
  refine codeAny_builtin b5f ?_;rw [Around.under_plainId a9y _];show wpAny _ A.in1 (pyNext (.ref I) >>= _) _ _ s;refine wpAny_bind (W.item i s _ _ hlt st fun v s' hv st' mv=>?_);obtain⟨k,hk,hi1,hi2⟩:=hks i v hv;have sv':=sv.move (h':=s'.heap) fun o e=>mv.heap D _ hDw e;have hsz:(uniq (ks.take i)).length + 1 < scanBound:=by
   have h1:=b0w (ks.take i);have h2:=List.length_take_le i ks;have h3:scanBound=4096:=rfl;omega
  show wpAny _ A.in1 (holding [v] (setAdd D v) >>= _) _ _ s';refine wpAny_bind (wpAny_holding (add_v hdec hi1 hi2 sv' hsz fun b h' hs sv2=>?_));have e1:uniq (ks.take (i + 1))=ins (uniq (ks.take i)) k:=by
   rw [take_add_one,hk,toList_some,c5d]
  refine wpAny_pure ⟨plainId_quiet a9y _,ih (i + 1) _ 'o' hlt (W.frame _ s' _ _ st' 'n' fun b hb o e=>?_) (by rw [e1];exact sv2) fun s2 mv2 sv3=>?_⟩
  ·rw [hs.2 b (fun h:b=D=>hDf (by rw [← h];exact hb))];exact e
  ·refine fin s2 (Moved.trans W.gtrans ((mv.mono up).then_heap 'n' fun b o hb e=>?_) mv2) sv3
   rw [hs.2 b (fun h:b=D=>hb (by rw [h];exact mem_cons_self))];exact e
end
def d7s(x:Value):checkTypeCall "set" ⟨[x],[]⟩=pure ():=by kernel_rfl
def d7t(x:Value):checkBuiltinCall "set.__new__" ⟨[.type "set",x],[]⟩=pure ():=by kernel_rfl
def b7b:isSubtype (.type "list") (.type "set")=pure false:=by rw [isSubtype_type];kernel_rfl
def b9m:isSubtype (.type "list") (.type "frozenset")=pure false:=by rw [isSubtype_type];kernel_rfl
def b9n:isSubtype (.type "tuple") (.type "set")=pure false:=by rw [isSubtype_type];kernel_rfl
def c2j:isSubtype (.type "tuple") (.type "frozenset")=pure false:=by rw [isSubtype_type];kernel_rfl
section
variable{prog:Program}{w:World}{A:Around}{E:Value->Shared->Prop}{s:Shared}
abbrev newO(w:World):Obj:=setO #[] 0 (.fresh 0 0 (!w.params.followText "set-order"))
def new_v(x:Value){Q₁:Value->Shared->Prop}(h:Q₁ (.ref s.heap.objs.size) { s with heap:=s.heap.push (newO w) }) :
  codeAny (model prog w) A (.call (.builtin "set.__new__") ⟨[.type "set",x],[]⟩) (wants Q₁ E) s:=by
 refine codeAny_call_builtin F.plain_set_new F.entry_set_new (wpAny_of_eq (d7t x) ?_);unfold Builtin.«set.__new__» Builtin.Frozenset.newClass;have hsub:=sub_set_self;obtain⟨hp,g,d,tk,os⟩:=s
 dsimp only
 wp_walk
 refine wpAny_askSetting (wpAny_pure ?_);dsimp only;simp only [newObj];exact wpAny_bind (wpAny_alloc (wpAny_pure (wpAny_pure h)))
def d3i{M:Model}{self x:Value}{Q:Unit->Shared->Prop} (hT:s.TypeIs self "set") (hQ:Q () s):wpAny M A (checkBuiltinCall "set.__init__" ⟨[self,x],[]⟩) Q E s:=by
 simp only [kind_set_init,checkBuiltinCall,split_set_init,sig_set_init];refine wpAny_bind (wpAny_isInstance hT sub_set_self ?_);simp only [false_eq_true,Bool.not_true,if_false];unfold Bind.checkArgs
 dsimp only
 refine wpAny_bind (m:=Bind.printed "set" true _ _) (PyProof.Rows.printed_name 'd' (wpAny_bind (m:=Bind.printed "*" false _ _) (PyProof.Rows.printed_star (self:=self) rfl hT fun short=>?_)));have r0:(Manifest.Receiver.self == Manifest.Receiver.none)=false:=by decide
 have n1:(if (Manifest.Receiver.self == Manifest.Receiver.none)=true then [self,x].length else [self,x].length - 1)=1:=by simp [r0]
 rw [n1,map_nil];have hc:Bind.check ⟨.positional,"set","*",.self,[⟨"iterable",.posOnly,false⟩]⟩ "set" short 1 []=pure ():=by
  simp [Bind.checkCount,Bind.check,Bind.isPositional];intro q;exact absurd q 'd'
 rw [hc];exact wpAny_pure hQ
def call_v{K:Type}[DecidableEq K]{knd:KeyKind prog w K}{dec:Value->K}{l:Addr}{items:Array Value}{ks:List K}{Q:Value->Shared->Prop}(hdec:∀ k v,knd.is k v=true->dec v=k)(hh:A.handled=none)(hq:s.heap.IsList l items ∨ s.heap.IsTuple l items)(hl:items.size < 4000)(hlen:ks.length=items.size)
  (hks:∀ (i:Nat) (v:Value),items[i]? = some v->∃ k,ks[i]? = some k/\knd.is k v=true/\v.scannable=true)
  (h:∀ h' tk,SetV knd dec h' s.heap.objs.size (uniq ks)->(∀ b o,s.heap.get? b=some o->h'.get? b=some o)->Q (.ref s.heap.objs.size) { s with heap:=h',toks:=tk }) :
  wpAny (model prog w) A (call (.type "set") [.ref l]) Q E s:=by
 obtain⟨c,tl,hmro⟩:=F.called_set.mro;have hsub:=F.called_set.sub;have hmade:=F.called_set.made;refine wpAny_call (codeAny_of_tree ?_);show wpAny _ _ (callAny (.type "set") _) _ _ _;refine wpAny_pure ⟨Code.quiet_builtin _ 'k',codeAny_builtin F.entry_type_call ?_⟩;rw [Around.under_plain (weight_type_call_type "set" [.ref l] []) rfl];have h1:=F.called_set.notType;have h2:=F.called_set.canCreate;have hct:=d7s (.ref l)
 repeat (any_goals (first | assumption | wp_step))
 refine codeAny_mono (new_v (E:=E) (.ref l) (Q₁:=fun obj s₁=>obj=.ref s.heap.objs.size/\s₁={ s with heap:=s.heap.push (newO w) }) ⟨rfl,rfl⟩) fun r s₁ hr=>?_;cases r with
 | error e=>exact hr
 | ok fl =>
  cases fl with
  | ret obj =>
   obtain⟨rfl,rfl⟩:=hr;have hS:(s.heap.push (newO w)).get? s.heap.objs.size=some (newO w):=get?_push_size _ rfl;have sv:SetV knd dec (s.heap.push (newO w)) s.heap.objs.size ([]:List K):=⟨_,_,_,hS,⟨fun e he=>by simp at he,by simp,List.Pairwise.nil,'d',rfl,c4y _ _ _,rfl⟩⟩;have hT:Shared.TypeIs { s with heap:=s.heap.push (newO w) } (.ref s.heap.objs.size) "set":=⟨_,hS,rfl⟩;have hli:=F.called_set.init.lookup;have hbi:=F.called_set.init.bind (.ref s.heap.objs.size)
   repeat (any_goals (first | assumption | wp_step))
   refine codeAny_mono (codeAny_call_builtin (R:=wants (fun r s₂=>r=.none/\Q (.ref s.heap.objs.size) s₂) E) F.called_set.init.plain F.entry_set_init (d3i hT ?_)) fun r₂ s₂ hr₂=>?_
   ·unfold Builtin.«set.__init__» noKeywords
    obtain⟨T,hTl,n1,n2,n3⟩:∃ T,Shared.TypeIs { s with heap:=s.heap.push (newO w) } (.ref l) T/\isSubtype (.type T) (.type "set")=pure false/\isSubtype (.type T) (.type "frozenset")=pure false/\(Value.type T == Value.type "dict")=false:=by
     rcases hq with hq | hq
     ·exact⟨"list",(hq.push _).typeIs,b7b,b9m,'d'⟩
     ·exact⟨"tuple",(hq.push _).typeIs,b9n,c2j,'d'⟩
    have hS':Heap.get? (Shared.heap { s with heap:=s.heap.push (newO w) }) s.heap.objs.size=some (newO w):=hS;have hlt:l < s.heap.objs.size:=by rcases hq with⟨o,ho,_⟩ | ⟨o,ho,_⟩<;>exact lt_size ho
    have hI:(s.heap.push (newO w)).objs.size=s.heap.objs.size + 1:=size_push ..;have PI:∀ (Q':Value->Shared->Prop) (E':Value->Shared->Prop),(∀ (o:Obj) (St:Nat->Shared->Prop),WalksS prog w A.in1.in1.in1 (s.heap.objs.size + 1) [s.heap.objs.size + 1,l] [s.heap.objs.size + 1] (fun a b=>b=a) items.size (fun i v=>items[i]? = some v) St->St 0 { s with heap:=(s.heap.push (newO w)).push o }->Q' (.ref (s.heap.objs.size + 1)) { s with heap:=(s.heap.push (newO w)).push o }) ->
      wpAny (model prog w) A.in1.in1 (pyIter (.ref l)) Q' E' { s with heap:=s.heap.push (newO w) }:=by
     intro Q' E' k;have hne:l ≠ s.heap.objs.size + 1:=ne_of_lt (lt_succ_of_lt hlt);rcases hq with hq | hq
     ·refine wpAny_pyIter_list (hq.push _) ?_
      rw [show Shared.heap { s with heap:=s.heap.push (newO w) }=s.heap.push (newO w) from rfl,hI];exact k _ _ ((Walks.list (A:=A.in1.in1.in1) (by simp [hh]) _ l hne items).toS) ⟨⟨_,by rw [← hI];exact get?_push_size _ rfl,rfl,rfl⟩,(hq.push _).push _⟩
     ·refine wpAny_pyIter_tuple (hq.push _) ?_
      rw [show Shared.heap { s with heap:=s.heap.push (newO w) }=s.heap.push (newO w) from rfl,hI];exact k _ _ ((Walks.tuple (A:=A.in1.in1.in1) (by simp [hh]) _ l hne items).toS) ⟨⟨_,by rw [← hI];exact get?_push_size _ rfl,rfl,rfl⟩,(hq.push _).push _⟩
    repeat (any_goals (first | assumption | ((with_reducible show wpAny _ _ (pyIter (Value.ref l)) _ _ _);refine PI _ _ fun o St W st=>?_) | ((with_reducible show wpAny _ _ (runValue _) _ _ _);refine wpAny_runValue ?_) | wp_step))
    have hDf:s.heap.objs.size ∉ [s.heap.objs.size + 1,l]:=by
     simp only [mem_cons,not_mem_nil,or_false,not_or];exact⟨ne_of_lt (lt_succ_self _),ne_of_gt hlt⟩
    refine c8j hdec W s.heap.objs.size hDf hl hks items.size 0 _ 'o' (zero_le _) st (sv.move fun o e=>get?_push_of_some _ e) fun s' mv sv'=>?_;refine wpAny_pure (wpAny_pure ⟨rfl,?_⟩);rw [← hlen,take_length] at sv';have hk:=h s'.heap s'.toks sv' fun b o e=>mv.heap b o (fun hm=>?_) (get?_push_of_some _ (get?_push_of_some _ e))
    ·have eg:s'.gens=s.gens:=mv.gens
     have ed:s'.drawn=s.drawn:=mv.drawn;have eo:s'.os=s.os:=mv.os;cases s';dsimp only at eg ed eo hk;subst eg ed eo;exact hk
    ·have:=lt_size e
     rcases mem_cons.mp hm with q | q
     ·exact absurd this (by rw [q];exact lt_irrefl _)
     ·rw [mem_singleton] at q
      exact absurd this (by rw [q];exact not_lt.mpr 'n')
   ·cases r₂ with
    | error e=>exact hr₂
    | ok fl₂ =>
     cases fl₂ with
     | ret r =>
      obtain⟨rfl,hq⟩:=hr₂
      repeat (any_goals (first | assumption | wp_step))
     | _=>exact hr₂.elim
  | _=>exact hr.elim
end
end Sx
end
section
namespace Sx
open PySem
def b2f{α:Type}:∀ {l:List α} {i:Nat} {x:α},l[i]? = some x->(x :: l.eraseIdx i).Perm l
 | [],i,x,h=>by simp at h
 | a :: r,0,x,h=>by
  simp at h
  subst h;exact List.Perm.refl _
 | a :: r,i + 1,x,h=>by
  have h':r[i]? = some x:=by simpa using h
  exact(List.Perm.swap a x _).trans (List.Perm.cons a (b2f h'))
def d3j{α:Type}(f:Nat->Nat):∀ (n k:Nat) (l:List α) (out:Array α),l.length=n->(pickOrder.go f n k l out).toList.Perm (out.toList ++ l):=by
 intro n;induction n with
 | zero =>
  intro k l out h;have e:l=[]:=eq_nil_of_length_eq_zero h;subst e;unfold pickOrder.go;simp
 | succ n ih =>
  intro k l out h;unfold pickOrder.go;have hm:f k % l.length < l.length:=Nat.mod_lt _ 'o';have he:l[f k % l.length]? = some l[f k % l.length]:=getElem?_eq_getElem hm;rw [he]
  dsimp only
  refine(ih (k + 1) _ _ (by rw [List.length_eraseIdx_of_lt hm];omega)).trans ?_;rw [toList_push,append_assoc];exact(b2f he).append_left out.toList
def a9z{α:Type}(f:Nat->Nat)(xs:Array α):(pickOrder f xs).toList.Perm xs.toList:=by
 have:=d3j f xs.size 0 xs.toList #[] 'c';simpa [pickOrder] using this
section
variable{M:Model}{A:Around}{E:Value->Shared->Prop}{s:Shared}
def c2k{src:Source}{n:Nat}{Q:Nat->Shared->Prop}(hn:n ≠ 0)(h:∀ i d,i < n->Q i { s with drawn:=d }):wpAny M A (choose src n) Q E s:=
 fun Γ p hΓ=>⟨hn,h _ _ (Nat.mod_lt _ (Nat.pos_of_ne_zero hn))⟩
def c8k{α:Type}:∀ (n:Nat) (l:List α) (s:Shared) {Q:List α->Shared->Prop},l.length=n->(∀ o d,o.Perm l->Q o { s with drawn:=d })->wpAny M A (drawOrder n l) Q E s:=by
 intro n;induction n with
 | zero =>
  intro l s Q hl h;have e:l=[]:=eq_nil_of_length_eq_zero hl;subst e;unfold drawOrder;exact wpAny_pure (h [] s.drawn (List.Perm.refl _))
 | succ n ih =>
  intro l s Q hl h;cases l with
  | nil=>cases hl
  | cons a r =>
   unfold drawOrder;refine wpAny_bind (c2k 'c' fun i d hi=>?_);have he:(a :: r)[i]? = some (a :: r)[i]:=getElem?_eq_getElem hi;rw [he];refine wpAny_bind (ih _ _ (by rw [List.length_eraseIdx_of_lt hi];omega) fun o d' hp=>?_);exact wpAny_pure (h _ d' ((List.Perm.cons _ hp).trans (b2f he)))
end
abbrev itO(first:Value)(i:Nat)(S:Addr)(n ep:Nat):Obj:={ cls:=.type "set_iterator",dict:=none,data:=.fields #[first,rawInt ((i:Nat):Int),.ref S,rawInt ((n:Nat):Int),rawInt ((ep:Nat):Int)],slots:=#[] }
def slot_next:Slot "set_iterator" "__next__" "set_iterator.__next__":=
 .of (n:="__next__") (owner:="set_iterator") (by rw [typeLookup_type,builtinLookup_eq_fast];kernel_rfl) 'k' 'k' 'k' (by first | exact .inl 'k' | exact .inr 'k') (by rw [isSubtype_type];kernel_rfl)
def entry_next:entryFor table "set_iterator.__next__" = some Builtin.«set_iterator.__next__»:=entryFor_of_tree (by kernel_rfl)
def args_next(a:Value):argsOk "set_iterator.__next__" ⟨[a],[]⟩:=by unfold argsOk;kernel_rfl
def b5g:Slot "set_iterator" "__iter__" "set_iterator.__iter__":=
 .of (n:="__iter__") (owner:="set_iterator") (by rw [typeLookup_type,builtinLookup_eq_fast];kernel_rfl) 'k' 'k' 'k' (by first | exact .inl 'k' | exact .inr 'k') (by rw [isSubtype_type];kernel_rfl)
def c2l:entryFor table "set_iterator.__iter__" = some Builtin.«dict_keyiterator.__iter__»:=
 entryFor_alias (id':="dict_keyiterator.__iter__") (by kernel_rfl) rfl 'k' (by kernel_rfl)
def c5f(a:Value):argsOk "set_iterator.__iter__" ⟨[a],[]⟩:=by unfold argsOk;kernel_rfl
def b7c:entryFor table "set.__iter__" = some Builtin.«frozenset.__iter__»:=
 entryFor_alias (id':="frozenset.__iter__") (by kernel_rfl) rfl 'k' (by kernel_rfl)
section
variable{prog:Program}{w:World}{A:Around}{E:Value->Shared->Prop}{s:Shared}{I S:Addr}{es:Array 'j'}{ep i n:Nat}{t:SetTable}{first:Value}
def a6r{Q:Bool->Shared->Prop} (h:Q (w.params.followText "set-order") s):wpAny (model prog w) A setsByText Q E s:=wpAny_bind (wpAny_askSetting (wpAny_pure h))
def b3d(ho:s.heap.get? S=some (setO es ep t))(hf:t.fits es.size=true) (hb:w.params.followText "set-order" = true) {slot:Nat} {Q:Option (Value × Nat)->Shared->Prop} (h:Q (((pickOrder (w.params.setOrder S ep) es)[i]?).map fun e=>(e.2,slot)) s):wpAny (model prog w) A (setNext S slot i ep) Q E s:=by
 unfold setNext;refine wpAny_bind (wpAny_setState_of ho rfl hf ?_)
 dsimp only
 refine wpAny_bind (a6r ?_);rw [hb,if_pos rfl];rw [if_neg (show ¬ ((ep != ep)=true) by simp)];refine wpAny_bind ?_;unfold setWalk;refine wpAny_bind (wpAny_setState_of ho rfl hf ?_)
 dsimp only
 refine wpAny_bind (a6r ?_);rw [hb,if_pos rfl];exact wpAny_bind (wpAny_askSetting (wpAny_pure (wpAny_pure h)))
def b1t(ho:s.heap.get? S=some (setO es ep t))(hf:t.fits es.size=true) (hb:w.params.followText "set-order" = false) (hl:t.led=true) (hd:(!t.plain && decide (es.size > 1))=false) {slot:Nat} {Q:Option (Value × Nat)->Shared->Prop} (h:Q (match es[SetTable.below t.place slot]?,t.place[SetTable.below t.place slot]? with | some (_,x),some j=>some (x,j + 1) | _,_=>none) s):wpAny (model prog w) A (setNext S slot i ep) Q E s:=by
 unfold setNext;refine wpAny_bind (wpAny_setState_of ho rfl hf ?_)
 dsimp only
 refine wpAny_bind (a6r ?_);rw [hb,if_neg Bool.false_ne_true];split
 ·rename_i q
  have q':(!t.plain && decide (es.size > 1))=true:=q;rw [hd] at q';cases q'
 ·refine wpAny_bind ?_
  show wpAny _ _ (if (!t.led && !es.isEmpty)=true then _ else _) _ _ _;rw [if_neg (by rw [hl];simp)];exact wpAny_pure (wpAny_pure h)
def b7d{f nx:Nat}{x:Value}{Q:Option Value->Shared->Prop}(hi:s.heap.get? I=some (itO (rawInt ((f:Nat):Int)) i S es.size ep))(ho:s.heap.get? S=some (setO es ep t))(hf:t.fits es.size=true)
  (hN:∀ {A':Around} {E':Value->Shared->Prop} {Q':Option (Value × Nat)->Shared->Prop},Q' (some (x,nx)) s->wpAny (model prog w) A' (setNext S f i ep) Q' E' s)
  (hQ:∀ h',h'.get? I=some (itO (rawInt ((nx:Nat):Int)) (i + 1) S es.size ep)->Heap.SameBut I s.heap h'->Q (some x) { s with heap:=h' }):wpAny (model prog w) A (pyNext (.ref I)) Q E s:=by
 have ty:s.TypeIs (.ref I) "set_iterator":=⟨_,hi,rfl⟩;unfold pyNext;refine wpAny_bind (wpAny_attempt (wpAny_callSpecial?_slot (name:=Str.ofString "__next__") ty slot_next (wpAny_call_entry slot_next ty entry_next ?_ (args_next _))));unfold Builtin.«set_iterator.__next__»;refine wpAny_bind (m:=slotArgs _ _ _) (wpAny_pure (wpAny_bind (wpAny_fieldsOf hi rfl ?_)));show wpAny _ _ (setEntries S >>= _) _ _ s;refine wpAny_bind (wpAny_setEntries_of ho rfl hf ?_);rw [if_neg (show ¬ ((((es.size:Nat):Int) != ((es.size:Nat):Int))=true) by simp)];show wpAny _ _ (setNext S (Int.toNat ((f:Nat):Int)) (Int.toNat ((i:Nat):Int)) (Int.toNat ((ep:Nat):Int)) >>= _) _ _ s;rw [toNat_natCast,toNat_natCast,toNat_natCast];refine wpAny_bind (hN ?_);refine wpAny_bind (wpAny_setField_rec hi 'c' fun h1 e1 s1=>?_);refine wpAny_bind (wpAny_setField_rec e1 'c' fun h2 e2 s2=>?_);refine wpAny_pure ⟨_,rfl,wpAny_pure (hQ h2 ?_ (s1.trans s2))⟩;rw [e2];simp [rawInt]
def b7e{f:Nat}{Q:Option Value->Shared->Prop}(hh:A.handled=none)(hi:s.heap.get? I=some (itO (rawInt ((f:Nat):Int)) i S es.size ep))(ho:s.heap.get? S=some (setO es ep t))(hf:t.fits es.size=true)
  (hN:∀ {A':Around} {E':Value->Shared->Prop} {Q':Option (Value × Nat)->Shared->Prop},Q' none s->wpAny (model prog w) A' (setNext S f i ep) Q' E' s)
  (hQ:∀ h',Heap.ExtBut I s.heap h'->Q none { s with heap:=h' }):wpAny (model prog w) A (pyNext (.ref I)) Q E s:=by
 have ty:s.TypeIs (.ref I) "set_iterator":=⟨_,hi,rfl⟩;unfold pyNext;refine wpAny_bind (wpAny_attempt (wpAny_callSpecial?_slot (name:=Str.ofString "__next__") ty slot_next (wpAny_call_entry slot_next ty entry_next ?_ (args_next _))));unfold Builtin.«set_iterator.__next__»;refine wpAny_bind (m:=slotArgs _ _ _) (wpAny_pure (wpAny_bind (wpAny_fieldsOf hi rfl ?_)));show wpAny _ _ (setEntries S >>= _) _ _ s;refine wpAny_bind (wpAny_setEntries_of ho rfl hf ?_);rw [if_neg (show ¬ ((((es.size:Nat):Int) != ((es.size:Nat):Int))=true) by simp)];show wpAny _ _ (setNext S (Int.toNat ((f:Nat):Int)) (Int.toNat ((i:Nat):Int)) (Int.toNat ((ep:Nat):Int)) >>= _) _ _ s;rw [toNat_natCast,toNat_natCast,toNat_natCast];refine wpAny_bind (hN ?_);refine wpAny_bind (wpAny_setField hi rfl 'c' ?_);show wpAny _ _ (newExc (.type "StopIteration") [] >>= _) _ _ _;refine wpAny_bind ?_;simp only [newTuple,newExc];refine wpAny_bind (wpAny_newObj_type (wpAny_bind (m:=firstArgMember _ _) (wpAny_of_eq (a:=Value.none) (by first | rfl | (simp only [firstArgMember];rfl)) ?_)) (by size_fits));refine wpAny_newObj_type ?_ (by size_fits);simp only [raiseNew];refine wpAny_bind (wpAny_handled ?_);rw [show A.in1.handled=none from hh];refine wpAny_bind (wpAny_pure (wpAny_throw ?_));refine wpAny_bind (wpAny_isInstance (T:="StopIteration") (b:=true) ⟨_,get?_push_size _ rfl,rfl⟩ isSubtype_stop ?_);exact wpAny_pure (hQ _ (((Heap.SameBut.update ..).extBut.push _).push _))
def c2m{P:Addr}{order:List Nat}{j c:Nat}{x:Value}{hx:Int}{Q:Option Value->Shared->Prop}(hi:s.heap.get? I=some (itO (.ref P) i S es.size ep)) (hP:s.heap.get? P=some ⟨.type "tuple",none,.seq (order.map fun(k:Nat)=>rawInt k).toArray c,#[]⟩) (ho:s.heap.get? S=some (setO es ep t)) (hf:t.fits es.size=true)
  (hj:order[i]? = some j) (he:es[j]? = some (hx,x))
  (hQ:∀ h',h'.get? I=some (itO (.ref P) (i + 1) S es.size ep)->Heap.SameBut I s.heap h'->Q (some x) { s with heap:=h' }):wpAny (model prog w) A (pyNext (.ref I)) Q E s:=by
 have ty:s.TypeIs (.ref I) "set_iterator":=⟨_,hi,rfl⟩;unfold pyNext;refine wpAny_bind (wpAny_attempt (wpAny_callSpecial?_slot (name:=Str.ofString "__next__") ty slot_next (wpAny_call_entry slot_next ty entry_next ?_ (args_next _))));unfold Builtin.«set_iterator.__next__»;refine wpAny_bind (m:=slotArgs _ _ _) (wpAny_pure (wpAny_bind (wpAny_fieldsOf hi rfl ?_)));show wpAny _ _ (setEntries S >>= _) _ _ s;refine wpAny_bind (wpAny_setEntries_of ho rfl hf ?_);rw [if_neg (show ¬ ((((es.size:Nat):Int) != ((es.size:Nat):Int))=true) by simp)];show wpAny _ _ (seqItems? (.ref P) >>= _) _ _ s;refine wpAny_bind (wpAny_seqItems hP rfl ?_);show wpAny _ _ (match (order.map fun(k:Nat)=>rawInt k).toArray[Int.toNat ((i:Nat):Int)]? with | some (.int place _)=>_ | some _=>_ | none=>_) _ _ s;rw [toNat_natCast,List.getElem?_toArray,getElem?_map,hj];show wpAny _ _ (setNextDrawn S (Int.toNat ((j:Nat):Int)) (Int.toNat ((ep:Nat):Int)) >>= _) _ _ s;rw [toNat_natCast,toNat_natCast];unfold setNextDrawn;refine wpAny_bind (wpAny_bind (wpAny_setState_of ho rfl hf ?_))
 dsimp only
 rw [if_neg (show ¬ ((ep != ep)=true) by simp),he];refine wpAny_pure (wpAny_bind (wpAny_setField_rec hi 'c' fun h2 e2 s2=>?_));refine wpAny_pure ⟨_,rfl,wpAny_pure (hQ h2 ?_ s2)⟩;rw [e2];simp [rawInt]
def c2n{P:Addr}{order:List Nat}{c:Nat}{Q:Option Value->Shared->Prop}(hh:A.handled=none)(hi:s.heap.get? I=some (itO (.ref P) i S es.size ep)) (hP:s.heap.get? P=some ⟨.type "tuple",none,.seq (order.map fun(k:Nat)=>rawInt k).toArray c,#[]⟩) (ho:s.heap.get? S=some (setO es ep t)) (hf:t.fits es.size=true)
  (hj:order[i]? = none)
  (hQ:∀ h',Heap.ExtBut I s.heap h'->Q none { s with heap:=h' }):wpAny (model prog w) A (pyNext (.ref I)) Q E s:=by
 have ty:s.TypeIs (.ref I) "set_iterator":=⟨_,hi,rfl⟩;unfold pyNext;refine wpAny_bind (wpAny_attempt (wpAny_callSpecial?_slot (name:=Str.ofString "__next__") ty slot_next (wpAny_call_entry slot_next ty entry_next ?_ (args_next _))));unfold Builtin.«set_iterator.__next__»;refine wpAny_bind (m:=slotArgs _ _ _) (wpAny_pure (wpAny_bind (wpAny_fieldsOf hi rfl ?_)));show wpAny _ _ (setEntries S >>= _) _ _ s;refine wpAny_bind (wpAny_setEntries_of ho rfl hf ?_);rw [if_neg (show ¬ ((((es.size:Nat):Int) != ((es.size:Nat):Int))=true) by simp)];show wpAny _ _ (seqItems? (.ref P) >>= _) _ _ s;refine wpAny_bind (wpAny_seqItems hP rfl ?_);show wpAny _ _ (match (order.map fun(k:Nat)=>rawInt k).toArray[Int.toNat ((i:Nat):Int)]? with | some (.int place _)=>_ | some _=>_ | none=>_) _ _ s;rw [toNat_natCast,List.getElem?_toArray,getElem?_map,hj];refine wpAny_bind (wpAny_setField_rec hi 'c' fun h1 e1 s1=>?_);refine wpAny_bind (wpAny_setField e1 rfl 'c' ?_);show wpAny _ _ (newExc (.type "StopIteration") [] >>= _) _ _ _;refine wpAny_bind ?_;simp only [newTuple,newExc];refine wpAny_bind (wpAny_newObj_type (wpAny_bind (m:=firstArgMember _ _) (wpAny_of_eq (a:=Value.none) (by first | rfl | (simp only [firstArgMember];rfl)) ?_)) (by size_fits));refine wpAny_newObj_type ?_ (by size_fits);simp only [raiseNew];refine wpAny_bind (wpAny_handled ?_);rw [show A.in1.handled=none from hh];refine wpAny_bind (wpAny_pure (wpAny_throw ?_));refine wpAny_bind (wpAny_isInstance (T:="StopIteration") (b:=true) ⟨_,get?_push_size _ rfl,rfl⟩ isSubtype_stop ?_);exact wpAny_pure (hQ _ (((s1.trans (Heap.SameBut.update ..)).extBut.push _).push _))
def b2g{Q:Value->Shared->Prop}(hi:s.heap.get? I=some (itO first i S n ep))(h:Q (.ref I) s):wpAny (model prog w) A (pyIter (.ref I)) Q E s:=by
 have ty:s.TypeIs (.ref I) "set_iterator":=⟨_,hi,rfl⟩;refine wpAny_pyIter_slot ty b5g (wpAny_call_entry b5g ty c2l ?_ (c5f _));show wpAny _ _ (ret (.ref I)) _ _ s;exact wpAny_pure ⟨_,rfl,"set_iterator",_,ty,slot_next.lookup,h⟩
end
end Sx
end
section
namespace Sx
open PySem
noncomputable def slotAt(pl:Array Nat):Nat->Nat
 | 0=>0
 | i + 1=>pl.getD i 0 + 1
def b3e{pl:Array Nat}(up:Up pl){i:Nat}(h:i <= pl.size):SetTable.below pl (slotAt pl i)=i:=by
 cases i with
 | zero=>exact c2d up
 | succ i =>
  have hi:i < pl.size:=by omega
  show SetTable.below pl (pl.getD i 0 + 1)=i + 1;rw [getD_eq_getD_getElem?,Array.getElem?_eq_getElem hi];exact c2c up hi
section
variable{prog:Program}{w:World}{A:Around}{I S:Addr}{es:Array 'j'}{ep:Nat}{t:SetTable}
def w_text(hh:A.handled=none)(hne:S ≠ I)(hf:t.fits es.size=true) (hb:w.params.followText "set-order" = true) :
  Walks prog w A I [I,S] [I] es.size (fun i v=>((pickOrder (w.params.setOrder S ep) es).toList.map (·.2))[i]? = some v) (fun i h=>h.get? I=some (itO (rawInt (((0:Nat):Nat):Int)) i S es.size ep)/\h.get? S=some (setO es ep t)):=by
 have sz:(pickOrder (w.params.setOrder S ep) es).size=es.size:=by rw [← length_toList,(a9z _ es).length_eq,length_toList]
 refine⟨fun b hb=>by simp at hb;simp [hb],fun i h h' st k=>⟨k I 'c' _ st.1,k S 'c' _ st.2⟩,fun i s Q E hi st hQ=>?_,fun s Q E st hQ=>?_,fun i s Q E st hQ=>b2g st.1 hQ⟩
 ·have hlt:i < (pickOrder (w.params.setOrder S ep) es).size:=by omega
  refine b7d (nx:=0) (x:=((pickOrder (w.params.setOrder S ep) es)[i]).2) st.1 st.2 hf (fun{A' E' Q'} q=>b3d st.2 hf hb (by rw [Array.getElem?_eq_getElem hlt];exact q)) fun h' j1 j2=>?_;exact hQ _ h' s.toks (by rw [getElem?_map,getElem?_toList,Array.getElem?_eq_getElem hlt];rfl) ⟨j1,j2.extBut _ _ hne st.2⟩ fun b o hb e=>j2.extBut b o (fun h=>hb (by simp [h])) e
 ·refine b7e hh st.1 st.2 hf (fun{A' E' Q'} q=>b3d st.2 hf hb (by rw [getElem?_eq_none 'o'];exact q)) fun h' j=>?_
  exact hQ h' s.toks fun b o hb e=>j b o (fun h=>hb (by simp [h])) e
def d3k(hh:A.handled=none)(hne:S ≠ I)(hf:t.fits es.size=true)(ok:TOk t) (hb:w.params.followText "set-order" = false) (hl:t.led=true) (hd:(!t.plain && decide (es.size > 1))=false) :
  Walks prog w A I [I,S] [I] es.size (fun i v=>(es.toList.map (·.2))[i]? = some v) (fun i h=>h.get? I=some (itO (rawInt ((slotAt t.place i:Nat):Int)) i S es.size ep)/\h.get? S=some (setO es ep t)):=by
 have sz:t.place.size=es.size:=by
  unfold SetTable.fits at hf;simp at hf;exact hf.1
 have up:=c2e ok.up;refine⟨fun b hb=>by simp at hb;simp [hb],fun i h h' st k=>⟨k I 'c' _ st.1,k S 'c' _ st.2⟩,fun i s Q E hi st hQ=>?_,fun s Q E st hQ=>?_,fun i s Q E st hQ=>b2g st.1 hQ⟩
 ·have hp:i < t.place.size:=by omega
  refine b7d (nx:=slotAt t.place (i + 1)) (x:=(es[i]).2) st.1 st.2 hf (fun{A' E' Q'} q=>b1t st.2 hf hb hl hd ?_) fun h' j1 j2=>?_
  ·rw [b3e up 'o',Array.getElem?_eq_getElem hi,Array.getElem?_eq_getElem hp]
   have e:slotAt t.place (i + 1)=t.place[i] + 1:=by
    show t.place.getD i 0 + 1=_;rw [getD_eq_getD_getElem?,Array.getElem?_eq_getElem hp];rfl
   rw [e] at q;exact q
  ·exact hQ _ h' s.toks (by rw [getElem?_map,getElem?_toList,Array.getElem?_eq_getElem hi];rfl) ⟨j1,j2.extBut _ _ hne st.2⟩ fun b o hb e=>j2.extBut b o (fun h=>hb (by simp [h])) e
 ·refine b7e hh st.1 st.2 hf (fun{A' E' Q'} q=>b1t st.2 hf hb hl hd ?_) fun h' j=>?_
  ·rw [b3e up 'o',getElem?_eq_none 'o']
   exact q
  ·exact hQ h' s.toks fun b o hb e=>j b o (fun h=>hb (by simp [h])) e
noncomputable def valAt(es:Array 'j')(k:Nat):Value:=((es[k]?).map (·.2)).getD .none
def c2o(es:Array 'j'):(List.range es.size).map (valAt es)=es.toList.map (·.2):=by
 apply List.ext_getElem
 ·simp
 ·intro i h1 h2
  simp at h1
  simp [valAt,h1]
def d3l{P:Addr}{order:List Nat}{c:Nat}(hh:A.handled=none)(hne:S ≠ I)(hnP:P ≠ I)(hf:t.fits es.size=true)(ho:order.Perm (List.range es.size)) :
  Walks prog w A I [I,S,P] [I] es.size (fun i v=>(order.map (valAt es))[i]? = some v) (fun i h=>h.get? I=some (itO (.ref P) i S es.size ep)/\h.get? S=some (setO es ep t)/\h.get? P=some ⟨.type "tuple",none,.seq (order.map fun(k:Nat)=>rawInt k).toArray c,#[]⟩):=by
 have sz:order.length=es.size:=by rw [ho.length_eq,length_range]
 refine⟨fun b hb=>by simp at hb;simp [hb],fun i h h' st k=>⟨k I 'c' _ st.1,k S 'c' _ st.2.1,k P 'c' _ st.2.2⟩,fun i s Q E hi st hQ=>?_,fun s Q E st hQ=>?_,fun i s Q E st hQ=>b2g st.1 hQ⟩
 ·have hp:i < order.length:=by omega
  have hj:order[i] < es.size:=by
   have:=ho.mem_iff.mp (getElem_mem hp);simpa using this
  refine c2m (j:=order[i]) (hx:=(es[order[i]]).1) (x:=(es[order[i]]).2) st.1 st.2.2 st.2.1 hf (getElem?_eq_getElem hp) (Array.getElem?_eq_getElem hj) fun h' j1 j2=>?_;refine hQ _ h' s.toks ?_ ⟨j1,j2.extBut _ _ hne st.2.1,j2.extBut _ _ hnP st.2.2⟩ fun b o hb e=>j2.extBut b o (fun h=>hb (by simp [h])) e;rw [getElem?_map,getElem?_eq_getElem hp];simp [valAt,hj]
 ·refine c2n hh st.1 st.2.2 st.2.1 hf (List.getElem?_eq_none 'o') fun h' j=>?_
  exact hQ h' s.toks fun b o hb e=>j b o (fun h=>hb (by simp [h])) e
end
section
variable{prog:Program}{w:World}{A:Around}{E:Value->Shared->Prop}{s:Shared}{S:Addr}{es:Array 'j'}{ep:Nat}{t:SetTable}
def c8l(ho:s.heap.get? S=some (setO es ep t))(hf:t.fits es.size=true)(ok:TOk t) (hl:t.led = !w.params.followText "set-order") (hz:es.size <= 4096) {Q:Value->Shared->Prop}
  (h:∀ (s':Shared) (I:Addr) (fp:List Addr) (out:List Value) (St:Nat->Heap->Prop),out.Perm (es.toList.map (·.2))->out.length=es.size->I ∈ fp->(∀ b ∈ fp,b=S ∨ s.heap.objs.size <= b)->(∀ b ∈ fp,b < s'.heap.objs.size)->s.heap.objs.size <= I ->
   (∀ A':Around,A'.handled=none->Walks prog w A' I fp [I] es.size (fun i v=>out[i]? = some v) St)->St 0 s'.heap->(∀ b o,s.heap.get? b=some o->s'.heap.get? b=some o)->s'.gens=s.gens->s'.os=s.os->s'.toks=s.toks->Q (.ref I) s') :
  wpAny (model prog w) A (pyIter (.ref S)) Q E s:=by
 have ty:s.TypeIs (.ref S) "set":=⟨_,ho,rfl⟩;have hlt:=lt_size ho;refine wpAny_pyIter_slot ty F.slot_set_iter (wpAny_call_entry F.slot_set_iter ty b7c ?_ (F.args_set_iter_1 _));unfold Builtin.«frozenset.__iter__»;refine wpAny_bind (m:=Builtin.Frozenset.slot0 _ _) (wpAny_pure (wpAny_bind (m:=Builtin.Frozenset.sizeOf S) (wpAny_bind (wpAny_setEntries_of ho rfl hf (wpAny_pure ?_)))));refine wpAny_bind (m:=setDrawn S) ?_;unfold setDrawn;refine wpAny_bind (wpAny_setState_of ho rfl hf ?_);refine wpAny_bind (a6r ?_);show wpAny _ _ (pure (!w.params.followText "set-order" && (!t.plain && decide (es.size > 1)))) _ _ _;refine wpAny_pure ?_;have hne:S ≠ s.heap.objs.size:=ne_of_lt hlt;cases hb:w.params.followText "set-order" with
 | true =>
  rw [if_neg 'c'];refine wpAny_bind (wpAny_pure (wpAny_bind (wpAny_setEpoch_of ho rfl hf ?_)));refine wpAny_bind (wpAny_newObj_type (wpAny_pure ⟨_,rfl,"set_iterator",_,⟨_,get?_push_size _ rfl,rfl⟩,slot_next.lookup,?_⟩));refine h _ s.heap.objs.size [s.heap.objs.size,S] _ _ ((a9z (w.params.setOrder S ep) es).map (·.2)) (by rw [length_map,(a9z _ es).length_eq,length_toList]) 'c' (fun b hb=>?_) (fun b hb=>?_) 'b' (fun A' hA=>w_text hA hne hf hb) ⟨get?_push_size _ rfl,get?_push_of_some _ ho⟩ (fun b o e=>get?_push_of_some _ e) rfl rfl rfl
  ·simp at hb;rcases hb with rfl | rfl
   ·exact .inr 'b'
   ·exact .inl rfl
  ·show b < (s.heap.push _).objs.size
   rw [size_push];simp at hb;rcases hb with rfl | rfl
   ·exact lt_succ_self _
   ·exact lt_succ_of_lt hlt
 | false =>
  cases hd:(!t.plain && decide (es.size > 1)) with
  | false =>
   rw [if_neg 'c'];refine wpAny_bind (wpAny_pure (wpAny_bind (wpAny_setEpoch_of ho rfl hf ?_)));refine wpAny_bind (wpAny_newObj_type (wpAny_pure ⟨_,rfl,"set_iterator",_,⟨_,get?_push_size _ rfl,rfl⟩,slot_next.lookup,?_⟩));refine h _ s.heap.objs.size [s.heap.objs.size,S] _ _ (List.Perm.refl _) 'c' 'c' (fun b hb=>?_) (fun b hb=>?_) 'b' (fun A' hA=>d3k hA hne hf ok hb (by rw [hl,hb];rfl) hd) ⟨get?_push_size _ rfl,get?_push_of_some _ ho⟩ (fun b o e=>get?_push_of_some _ e) rfl rfl rfl
   ·simp at hb;rcases hb with rfl | rfl
    ·exact .inr 'b'
    ·exact .inl rfl
   ·show b < (s.heap.push _).objs.size
    rw [size_push];simp at hb;rcases hb with rfl | rfl
    ·exact lt_succ_self _
    ·exact lt_succ_of_lt hlt
  | true =>
   rw [if_pos 'c'];refine wpAny_bind (c8k _ _ _ length_range fun o d hp=>wpAny_bind (wpAny_newTuple ?_ (by
    rw [length_map,hp.length_eq,length_range];exact le_trans hz 'd')))
   refine wpAny_bind (wpAny_setEpoch_of (get?_push_of_some _ ho) rfl hf ?_);refine wpAny_bind (wpAny_newObj_type (wpAny_pure ⟨_,rfl,"set_iterator",_,⟨_,get?_push_size _ rfl,rfl⟩,slot_next.lookup,?_⟩));have e1:∀ ob:Obj,(s.heap.push ob).objs.size=s.heap.objs.size + 1:=fun ob=>size_push ..;show Q (.ref (s.heap.push _).objs.size) _;rw [e1];refine h _ (s.heap.objs.size + 1) [s.heap.objs.size + 1,S,s.heap.objs.size] (o.map (valAt es)) _ ((hp.map _).trans (by rw [c2o])) (by rw [length_map,hp.length_eq,length_range]) 'c' (fun b hb=>?_) (fun b hb=>?_) 'n' (fun A' hA=>d3l hA (ne_of_lt (lt_succ_of_lt hlt)) (ne_of_lt (lt_succ_self _)) hf hp) ⟨by rw [← e1];exact get?_push_size _ rfl,get?_push_of_some _ (get?_push_of_some _ ho),get?_push_of_some _ (get?_push_size _ rfl)⟩ (fun b o e=>get?_push_of_some _ (get?_push_of_some _ e)) rfl rfl rfl
   ·simp at hb;rcases hb with rfl | rfl | rfl
    ·exact .inr 'n'
    ·exact .inl rfl
    ·exact .inr 'b'
   ·show b < ((s.heap.push _).push _).objs.size
    rw [size_push,e1];simp at hb;rcases hb with rfl | rfl | rfl
    ·exact lt_succ_self _
    ·exact lt_succ_of_lt (lt_succ_of_lt hlt)
    ·exact lt_succ_of_lt (lt_succ_self _)
end
end Sx
end
section
namespace Sx
open PySem
section
variable{prog:Program}{w:World}{A:Around}{E:Value->Shared->Prop}{s:Shared}{S:Addr}{es:Array 'j'}{ep:Nat}{t:SetTable}
abbrev nilO:Obj:={ cls:=.type "list",data:=.seq ([]:List Value).toArray }
def c5g(hh:A.handled=none)(ho:s.heap.get? S=some (setO es ep t))(hf:t.fits es.size=true)(ok:TOk t) (hl:t.led = !w.params.followText "set-order") (hz:es.size <= 4096) {Q:List Value->Shared->Prop}
  (h:∀ (s':Shared) (out:List Value),out.Perm (es.toList.map (·.2))->(∀ b o,s.heap.get? b=some o->s'.heap.get? b=some o)->s'.gens=s.gens->s'.os=s.os->Q out s') :
  wpAny (model prog w) A (collect (.ref S)) Q E s:=by
 unfold collect;refine wpAny_bind (wpAny_runValue (codeAny_builtin F.entry_proto_collect ?_));rw [Around.under_plainId F.plain_proto_collect _];show wpAny _ A.in1 (newList [] >>= fun l=>again (.builtin "list.__iadd__" ⟨[l,.ref S],[]⟩)) _ _ s;refine wpAny_bind (wpAny_newObj_type (wpAny_pure ⟨plainId_quiet F.plain_list_iadd _,codeAny_builtin F.entry_list_iadd ?_⟩));rw [Around.under_plainId F.plain_list_iadd _];show wpAny _ A.in1 (Builtin.List.listExtendWith (.ref s.heap.objs.size) (.ref S) (.ref s.heap.objs.size)) _ _ { s with heap:=s.heap.push nilO };unfold Builtin.List.listExtendWith;have hlt:=lt_size ho;have ho1:(s.heap.push nilO).get? S=some (setO es ep t):=get?_push_of_some _ ho;have hL1:(s.heap.push nilO).get? s.heap.objs.size=some nilO:=get?_push_size _ rfl;have z1:(s.heap.push nilO).objs.size=s.heap.objs.size + 1:=size_push ..;have h1:Builtin.List.listSameRef (.ref s.heap.objs.size) (.ref S)=false:=by simp [Builtin.List.listSameRef,ne_of_gt hlt]
 refine wpAny_bind (wpAny_typeOf (T:="set") ⟨_,ho1,rfl⟩ ?_);rw [if_neg (by rw [h1];decide)];refine wpAny_bind (c8l ho1 hf ok hl hz fun s' I fp out St op ol hI f1 f2 f3 W st kp eg eo et=>?_);have ho2:=kp _ _ ho1;have hL2:=kp _ _ hL1;have hS:s'.TypeIs (.ref S) "set":=⟨_,ho2,rfl⟩;refine wpAny_bind (wpAny_holding ?_);unfold Builtin.List.listLengthHint;refine wpAny_bind (wpAny_specialOf hS F.slot_set_len.lookup ?_)
 wp_delta
 refine wpAny_bind (wpAny_isInstance (b:=true) hS sub_set_self ?_);show wpAny _ A.in1 (typeOf (Value.ref S) >>= _) _ _ _;refine wpAny_bind (wpAny_typeOf hS (wpAny_pure ?_));show wpAny _ A.in1 (rule "list.extend.makes-room" >>= fun _=>Builtin.List.listTouch (.ref s.heap.objs.size) >>= fun _=>again (.builtin "list.extend.loop" ⟨[.ref s.heap.objs.size,.ref I,.ref s.heap.objs.size],[]⟩)) _ _ _;refine wpAny_bind (wpAny_rule (wpAny_bind ?_));show wpAny _ A.in1 (updateSeq s.heap.objs.size (·.push .none) >>= fun _=>updateSeq s.heap.objs.size (·.pop)) _ _ s';refine wpAny_bind (wpAny_updateSeq hL2 rfl ?_);have hL3:=get?_update_self (Obj.mapSeq (·.push Value.none)) hL2 rfl;refine wpAny_updateSeq hL3 rfl ?_;have hL4:=get?_update_self (Obj.mapSeq (·.pop)) hL3 rfl;have nf:s.heap.objs.size ∉ fp:=fun hm=>by
  rcases f1 _ hm with q | q
  ·exact ne_of_gt hlt q
  ·rw [z1] at q;exact absurd q (Nat.not_succ_le_self _)
 have oth:∀ b o,b ≠ s.heap.objs.size->s'.heap.get? b=some o->((s'.heap.update s.heap.objs.size (Obj.mapSeq (·.push Value.none))).update s.heap.objs.size (Obj.mapSeq (·.pop))).get? b=some o:=
  fun b o hb e=>(Heap.get?_update_other _ _ (Ne.symm hb)).trans ((Heap.get?_update_other _ _ (Ne.symm hb)).trans e)
 have W1:=W A.in1.in1 (by simp [hh]);have Ws:=W1.toS;refine wpAny_pure ⟨plainId_quiet F.plain_extend_loop _,codeAny_extend_loopS (W A.in1 (by simp [hh])).toS (le_trans hz 'd') _ nf _ es.size 0 _ _ _ rfl (zero_le _)
  (Ws.frame 0 s' _ s'.toks st 'b' fun b hb o e=>oth b o (fun q=>nf (q ▸ hb)) e) hL4 (ItemsOf.nil _) fun s2 acc c mv hS2 hacc=>?_⟩
 show wpAny _ A (load s.heap.objs.size >>= _) _ _ s2;refine wpAny_bind (wpAny_load hS2 (wpAny_pure ?_));have eq:acc.toList=out:=by
  apply List.ext_getElem?
  intro j;by_cases hj:j < acc.size
  ·have q:=hacc.2 j acc[j] (Array.getElem?_eq_getElem hj)
   rw [getElem?_toList,Array.getElem?_eq_getElem hj];exact q.symm
  ·rw [getElem?_toList,getElem?_eq_none 'o',List.getElem?_eq_none (by have:=hacc.1;omega)]
 rw [eq];refine h s2 out op (fun b o e=>?_) (mv.gens.trans eg) (mv.os.trans eo);have hb:=lt_size e;refine mv.heap b o (fun hm=>?_) (oth b o (ne_of_lt hb) (kp _ _ (get?_push_of_some _ e)));rcases mem_cons.mp hm with q | q
 ·exact absurd hb (by rw [q];exact lt_irrefl _)
 ·rw [mem_singleton] at q
  rw [z1] at f3;exact absurd hb (by rw [q];exact not_lt.mpr (le_trans 'n' f3))
end
end Sx
end
namespace L2
open PySem PySem.Spec PyProof.Rows
section
noncomputable def clOf(env:Env):List (Str × NameKind)->List (Str × Addr)->List (Str × Addr)
 | [],acc=>acc
 | (n,k) :: r,acc=>if k == .free then clOf env r ((n,(env.cells.lookup n).getD 0) :: acc) else clOf env r acc
def a8u(env:Env)(f:Str × NameKind->List (Str × Addr)->Sem (ForInStep (List (Str × Addr)))) :
  ∀ (names:List (Str × NameKind)) (acc:List (Str × Addr)),
   (∀ y ∈ names,∀ c,f y c=if (y.2 == .free)=true then pure (.yield ((y.1,(env.cells.lookup y.1).getD 0) :: c)) else pure (.yield c)) ->
   (forIn names acc f:Sem _)=pure (clOf env names acc)
 | [],acc,_=>by rw [List.forIn_nil];rfl
 | (n,k) :: r,acc,h=>by
  rw [List.forIn_cons,h (n,k) mem_cons_self];have hr:∀ y ∈ r,∀ c,f y c=if (y.2 == .free)=true then pure (.yield ((y.1,(env.cells.lookup y.1).getD 0) :: c)) else pure (.yield c):=fun y hy=>h y (mem_cons_of_mem _ hy)
  unfold clOf;by_cases hk:(k == NameKind.free)=true
  ·rw [if_pos hk,if_pos hk,← a8u env f r _ hr]
   all_goals rfl
  ·rw [if_neg hk,if_neg hk,← a8u env f r _ hr]
   all_goals rfl
def a9p{env:Env}{scope:Scope}(h:∀ y ∈ scope.names,y.2=.free->∃ c,env.cells.lookup y.1=some c) :
  closureFor scope env=pure (clOf env scope.names []):=by
 simp only [closureFor];rw [a8u env _ scope.names [] (fun y hy c=>by
  obtain⟨n,k⟩:=y;by_cases hk:k=.free
  ·subst hk
   obtain⟨a,ha⟩:=h (n,.free) hy rfl;have e:cellOf env n=pure a:=by unfold cellOf;rw [ha]
   simp only [beq_self_eq_true,if_true,e,ha,Option.getD_some];rfl
  ·have hb:(k == NameKind.free)=false:=by simpa using hk
   simp only [hb,false_eq_true,if_false])]
 rfl
def a5o(env:Env):∀ (names:List (Str × NameKind)) (acc:List (Str × Addr)),clOf env names acc=clOf env names [] ++ acc
 | [],acc=>rfl
 | (n,k) :: r,acc=>by
  unfold clOf;split
  ·rw [a5o env r,a5o env r [_],append_assoc];rfl
  ·exact a5o env r acc
def a5p{env:Env}:∀ {names:List (Str × NameKind)} {x:Str} {c:Addr},(x,c) ∈ clOf env names []->(x,NameKind.free) ∈ names/\c=(env.cells.lookup x).getD 0
 | [],x,c,h=>by cases h
 | (n,k) :: r,x,c,h=>by
  unfold clOf at h;split at h
  ·rename_i hk
   rw [a5o] at h;rcases mem_append.mp h with h | h
   ·exact⟨mem_cons_of_mem _ (a5p h).1,(a5p h).2⟩
   ·have e:(x,c)=(n,(env.cells.lookup n).getD 0):=by simpa using h
    have hk':k=.free:=by simpa using hk
    cases e
    exact⟨by rw [hk'];exact mem_cons_self,rfl⟩
  ·exact⟨mem_cons_of_mem _ (a5p h).1,(a5p h).2⟩
def b4e{env:Env}:∀ {names:List (Str × NameKind)} {x:Str},(x,NameKind.free) ∈ names->(x,(env.cells.lookup x).getD 0) ∈ clOf env names []
 | [],x,h=>by cases h
 | (n,k) :: r,x,h=>by
  unfold clOf;rcases mem_cons.mp h with e | h
  ·cases e
   rw [if_pos (by rfl),a5o];exact mem_append_right _ 'c'
  ·split
   ·rw [a5o];exact List.mem_append_left _ (b4e h)
   ·exact b4e h
def a3m:∀ (names:List (Str × NameKind)) (n:Nat) (acc:List (Str × Addr)),cellsFrom n names acc=cellsFrom n names [] ++ acc
 | [],_,acc=>rfl
 | (x,k) :: r,n,acc=>by
  unfold cellsFrom;split
  ·rw [a3m r,a3m r _ [_],append_assoc];rfl
  ·exact a3m r n acc
def a1x:∀ {names:List (Str × NameKind)} {n:Nat} {x:Str} {c:Addr},(x,c) ∈ cellsFrom n names []->(x,NameKind.cell) ∈ names/\n <= c
 | [],n,x,c,h=>by cases h
 | (y,k) :: r,n,x,c,h=>by
  unfold cellsFrom at h;split at h
  ·rename_i hk
   rw [a3m] at h;rcases mem_append.mp h with h | h
   ·have q:=a1x h
    exact⟨mem_cons_of_mem _ q.1,'o'⟩
   ·have e:(x,c)=(y,n):=by simpa using h
    have hk':k=.cell:=by simpa using hk
    cases e
    exact⟨by rw [hk'];exact mem_cons_self,le_refl _⟩
  ·have q:=a1x h
   exact⟨mem_cons_of_mem _ q.1,q.2⟩
def a5q{α:Type}(x:Str):∀ (a b:List (Str × α)),(a ++ b).lookup x=(a.lookup x).or (b.lookup x)
 | [],b=>by simp
 | (k,v) :: r,b=>by
  rw [List.cons_append,lookup_cons,lookup_cons];cases x == k with
  | true=>rfl
  | false=>exact a5q x r b
def lookup_mem{α:Type}:∀ {l:List (Str × α)} {x:Str} {v:α},(x,v) ∈ l->∃ u,l.lookup x=some u
 | (k,w) :: r,x,v,h=>by
  rw [lookup_cons];cases e:x == k with
  | true=>exact⟨w,rfl⟩
  | false =>
   rcases mem_cons.mp h with q | q
   ·cases q;simp at e
   ·exact lookup_mem q
def a3v{α:Type}:∀ {l:List (Str × α)} {x:Str} {v:α},(l.map (·.1)).Nodup->(x,v) ∈ l->l.lookup x=some v
 | (k,w) :: r,x,v,hn,h=>by
  rw [lookup_cons];rw [map_cons,nodup_cons] at hn;rcases mem_cons.mp h with q | q
  ·cases q;simp
  ·have:(x == k)=false:=by
    refine beq_eq_false_iff_ne.mpr ?_;rintro rfl;exact hn.1 (mem_map.mpr ⟨(x,v),q,rfl⟩)
   rw [this];exact a3v hn.2 q
def a8j(env:Env)(x:Str):∀ (names:List (Str × NameKind)),
  (names.map fun(n,k)=>if (k == NameKind.free && env.scope.kind == .function && env.kindOf n == some .cell) then(n,NameKind.cell) else(n,k)).lookup x =
   (names.lookup x).map fun k=>if (k == NameKind.free && env.scope.kind == .function && env.kindOf x == some .cell) then NameKind.cell else k
 | []=>rfl
 | (n,k) :: r=>by
  rw [map_cons,lookup_cons];cases hx:x == n with
  | true =>
   have e:x=n:=by simpa using hx
   subst e;by_cases hc:(k == NameKind.free && env.scope.kind == .function && env.kindOf x == some .cell)=true
   ·simp only [if_pos hc,lookup_cons,hx,map_some]
   ·simp only [if_neg hc,lookup_cons,hx,map_some]
  | false =>
   have ih:=a8j env x r;by_cases hc:(k == NameKind.free && env.scope.kind == .function && env.kindOf n == some .cell)=true
   ·simp only [if_pos hc,lookup_cons,hx];exact ih
   ·simp only [if_neg hc,lookup_cons,hx];exact ih
def b9o{M:Model}{A:Around}{E:Value->Shared->Prop}{s:Shared}{scope:Scope}{globals:Addr}{cl:List (Str × Addr)}{qual:Str}{outer:Env}{Q:Env->Shared->Prop}
  (hQ:Q (newEnv scope s.heap.objs.size globals (cellsFrom (s.heap.objs.size + 1) scope.names cl) qual none .none (some outer) builtinsNs)
    { s with heap:=pushCells (s.heap.push { cls:=.type "dict",data:=.dict #[] }) scope.names }) :
  wpAny M A (newFunctionEnv scope globals cl [] qual none .none (some outer)) Q E s:=by
 simp only [newFunctionEnv,Option.isSome_some,if_true];refine wpAny_bind (wpAny_alloc ?_);refine wpAny_bind (wpAny_layCells _ (fun name kind cells=>by cases hkc:kind == NameKind.cell<;>simp [hkc]) _ _ _ _ ?_);rw [show({ s with heap:=s.heap.push { cls:=.type "dict",data:=.dict #[] } }:Shared).heap.objs.size=s.heap.objs.size + 1 from size_push ..];rw [List.forIn_nil];exact wpAny_bind (wpAny_pure (wpAny_pure hQ))
section
variable{prog:Program}{w:World}{A:Around}{R:Result->Shared->Prop}{s:Shared}
def b9p{elt target iter:Expr}{ifs:List Expr}{scope:Scope}{pos:Pos}{it acc:Value}{env:Env}(I:Nat->Shared->Prop)
  (turn:∀ n s,I n s->wpAny (model prog w) A (pyNext it) (fun r s₁=>match r with
   | none=>R (.ok .next) s₁
   | some v=>wpAny (model prog w) A (letOwnedTupleGo target it v) (fun _ s₂'=>wpAny (model prog w) A (assign target env v) (fun _ s₂ =>
     wpAny (model prog w) A (forIn ifs true fun c r=>if r=true then do let ok ← isTrue c env (eval c env);pure (ForInStep.yield ok) else pure (ForInStep.yield r)) (fun ok s₃ =>
      if ok=true then wpAny (model prog w) A (eval elt env) (fun x s₄ =>
       wpAny (model prog w) A (call (.builtin "list.append") [acc,x]) (fun _ s₅=>∃ m,m < n/\I m s₅) (notedBy (model prog w) A env fun e s'=>R (.error e) s') s₄) (notedBy (model prog w) A env fun e s'=>R (.error e) s') s₃
      else ∃ m,m < n/\I m s₃) (notedBy (model prog w) A env fun e s'=>R (.error e) s') s₂) (notedBy (model prog w) A env fun e s'=>R (.error e) s') s₂') (notedBy (model prog w) A env fun e s'=>R (.error e) s') s₁) (notedBy (model prog w) A env fun e s'=>R (.error e) s') s)
  (n:Nat) (h:I n s) :
  codeAny (model prog w) A (.compLoop (.ListComp elt [⟨target,iter,ifs,0⟩] scope pos) 0 it acc env) R s:=by
 refine codeAny_loop rfl I (fun n s hI=>?_) n h;show wpAny _ A ((compTurn (.ListComp elt [⟨target,iter,ifs,0⟩] scope pos) 0 it acc env).onRaise (fun x=>do noteFrame x env;theTreesLotGoes x)) _ _ s;refine wpAny_noted ?_;rw [compTurn_list];refine wpAny_bind (wpAny_standAt (wpAny_bind (wpAny_mono (turn n s hI) (fun r s₁ h₁=>?_) fun _ _ h'=>h')));cases r with
 | none=>exact wpAny_pure h₁
 | some v =>
  refine wpAny_bind (wpAny_mono h₁ (fun _ s₂' h₂'=>?_) fun _ _ h'=>h');refine wpAny_bind (wpAny_mono h₂' (fun _ s₂ h₂=>wpAny_bind (wpAny_mono h₂ (fun ok s₃ h₃=>?_) fun _ _ h'=>h')) fun _ _ h'=>h');cases ok with
  | false=>exact wpAny_pure ⟨rfl,h₃⟩
  | true =>
   exact wpAny_bind (wpAny_bind (wpAny_mono h₃ (fun x s₄ h₄=>wpAny_bind (wpAny_mono h₄ (fun _ s₅ h₅=>wpAny_pure (wpAny_pure ⟨rfl,h₅⟩)) fun _ _ h'=>h')) fun _ _ h'=>h'))
end
def nlt{a b:Nat}(h:b <= a):¬ a < b:=not_lt.mpr h
noncomputable def cxC(X:Cx)(scope:Scope)(own:List Str)(cap:List 'm')(fp:List Addr)(s2:Shared)(H2:Hp):Cx where
 prog:=X.prog
 w:=X.w
 K:=X.K
 mg:=X.mg
 base:=X.base
 A:=X.A
 N:=own ++ cap.map (·.1)
 s₀:=s2
 H₀:=H2
 env:={ scope:=relabel scope X.env,locals:=s2.heap.objs.size + 1,globals:=X.env.globals,cells:=cellsFrom (s2.heap.objs.size + 1 + 1) scope.names (clOf X.env scope.names []),qual:=X.env.qual,func:=none,code:=X.env.code,frame:=X.env.frame,builtins:=X.env.builtins }
 outer:=X.stack
 stack:=X.stack
 ex:=fp
 fn:=fun x=>scope.names.lookup x == some .cell
 calm:=X.calm
 pn:=[]
 xe:=fun _ _=>False
noncomputable def a6a(own:List Str)(cap:List 'm')(σ:St):St:=List.replicate own.length none ++ cap.map fun p=>(σ[p.2]?).join
noncomputable def a4s(X:Cx)(scope:Scope)(own:List Str)(cap:List 'm'):Bool:=
 scope.kind == .function && (scope.names.all fun y=>y.2 != .free || X.env.kindOf y.1 == some .cell || X.env.kindOf y.1 == some .free) &&
 (cap.all fun p=>X.N[p.2]? == some p.1 && scope.names.lookup p.1 == some .free) && (own.all fun x=>!((cap.map (·.1)).contains x))
section
variable{X:Cx}{pins:List 'a'}{σ:St}{H2:Hp}{s2:Shared}{scope:Scope}{own:List Str}{cap:List 'm'}{fp:List Addr}
def a8v(h:a4s X scope own cap=true):scope.kind=.function:=by
 simp only [a4s,and_eq_true,beq_iff_eq] at h;exact h.1.1.1
def a8w(h:a4s X scope own cap=true):∀ y ∈ scope.names,y.2=.free->X.env.kindOf y.1=some .cell ∨ X.env.kindOf y.1=some .free:=by
 simp only [a4s,and_eq_true,beq_iff_eq] at h;intro y hy hf;have q:=all_eq_true.mp h.1.1.2 y hy;simp only [hf,bne_self_eq_false,Bool.false_or,Bool.or_eq_true,beq_iff_eq] at q;exact q
def c5h(h:a4s X scope own cap=true):∀ p ∈ cap,X.N[p.2]? = some p.1/\scope.names.lookup p.1=some .free:=by
 simp only [a4s,and_eq_true,beq_iff_eq] at h;intro p hp;have q:=all_eq_true.mp h.1.2 p hp;simp only [and_eq_true,beq_iff_eq] at q;exact q
def c8m(I:Inv X pins σ H2 s2)(hok:a4s X scope own cap=true)(hnd:(scope.names.map (·.1)).Nodup)(hfp:∀ b ∈ fp,FpOk X pins H2 b)(hob:∀ b ∈ fp,∃ o,s2.heap.get? b=some o) :
  Inv (cxC X scope own cap fp s2 H2) [] (a6a own cap σ) (upd H2 s2.heap.objs.size (.lst []))
   { s2 with heap:=pushCells ((s2.heap.push { cls:=.type "list",dict:=none,data:=.seq ([]:List Value).toArray }).push { cls:=.type "dict",data:=.dict #[] }) scope.names }:=by
 have hkind:=a8v hok;have hfree:=a8w hok;have hcap:=c5h hok;have hdf:H2 s2.heap.objs.size=none:=I.fresh;generalize hh1:s2.heap.push { cls:=.type "list",dict:=none,data:=.seq ([]:List Value).toArray }=h1;have z1:h1.objs.size=s2.heap.objs.size + 1:=by rw [← hh1,size_push]
 generalize hh2:h1.push { cls:=.type "dict",data:=.dict #[] }=h2;have z2:h2.objs.size=s2.heap.objs.size + 1 + 1:=by rw [← hh2,size_push,z1]
 have k1:∀ b o,s2.heap.get? b=some o->h1.get? b=some o:=fun b o e=>by rw [← hh1];exact get?_push_of_some _ e
 have k2:∀ b o,h1.get? b=some o->h2.get? b=some o:=fun b o e=>by rw [← hh2];exact get?_push_of_some _ e
 have k3:∀ b o,h2.get? b=some o->(pushCells h2 scope.names).get? b=some o:=fun b o e=>pushCells_keeps _ _ b o e;have k:∀ b o,s2.heap.get? b=some o->(pushCells h2 scope.names).get? b=some o:=fun b o e=>k3 b o (k2 b o (k1 b o e));have hD:(pushCells h2 scope.names).get? s2.heap.objs.size=some { cls:=.type "list",dict:=none,data:=.seq ([]:List Value).toArray }:=by
  refine k3 _ _ (k2 _ _ ?_);rw [← hh1];exact get?_push_size _ rfl
 have hC:(pushCells h2 scope.names).Ns (s2.heap.objs.size + 1) fun _=>none:=by
  have q:h2.Ns h1.objs.size fun _=>none:=by rw [← hh2];exact Heap.Ns.new h1 (.type "dict")
  rw [z1] at q;exact q.keeps k3
 have own_ok:=cellsFrom_ok scope.names h2 (s2.heap.objs.size + 1 + 1) [] ⟨fun _ _ hm=>(nomatch hm),List.Pairwise.nil⟩ (by rw [z2];exact le_refl _);rw [z2] at own_ok;have ec:(cxC X scope own cap fp s2 H2).env.cells=cellsFrom (s2.heap.objs.size + 1 + 1) scope.names [] ++ clOf X.env scope.names []:=a3m _ _ _
 -- an entry is a new cell, or one of the names around
 have split:∀ x c,(cxC X scope own cap fp s2 H2).env.cells.lookup x=some c->((x,c) ∈ cellsFrom (s2.heap.objs.size + 1 + 1) scope.names []) ∨ ((x,NameKind.free) ∈ scope.names/\X.env.cells.lookup x=some c):=fun x c e=>by
  rw [ec,a5q] at e;cases e1:(cellsFrom (s2.heap.objs.size + 1 + 1) scope.names []).lookup x with
  | some c'=>rw [e1] at e;cases e;exact .inl (mem_of_lookup e1)
  | none =>
   rw [e1] at e;have e':(clOf X.env scope.names []).lookup x=some c:=e;obtain⟨m1,m2⟩:=a5p (mem_of_lookup e');obtain⟨c',hc'⟩:=I.ok.has x (hfree _ m1 rfl);rw [hc'] at m2;exact .inr ⟨m1,by rw [hc',m2];rfl⟩
 have capCell:∀ x,(x,NameKind.free) ∈ scope.names->∀ c,X.env.cells.lookup x=some c->(cxC X scope own cap fp s2 H2).env.cells.lookup x=some c:=fun x hx c hc=>by
  rw [ec,a5q];cases e1:(cellsFrom (s2.heap.objs.size + 1 + 1) scope.names []).lookup x with
  | some c' =>
   have q:=(a1x (mem_of_lookup e1)).1;have q1:=a3v hnd q;have q2:=a3v hnd hx;rw [q1] at q2;cases q2
  | none =>
   obtain⟨u,hu⟩:=lookup_mem (b4e (env:=X.env) hx);have m2:=(a5p (mem_of_lookup hu)).2;rw [hc] at m2;show(clOf X.env scope.names []).lookup x=some c;rw [hu,m2];rfl
 have lt_of_around:∀ x c,X.env.cells.lookup x=some c->c < s2.heap.objs.size:=fun x c e=>by
  obtain⟨v,q⟩:=I.cell x c e;exact q.lt
 have kof:∀ x,(cxC X scope own cap fp s2 H2).env.kindOf x=(scope.names.lookup x).map fun k=>if (k == NameKind.free && X.env.scope.kind == .function && X.env.kindOf x == some .cell) then NameKind.cell else k:=fun x=>a8j X.env x scope.names
 have fpLt:∀ b ∈ fp,b < s2.heap.objs.size:=fun b hb=>by obtain⟨o,e⟩:=hob b hb;exact lt_size e
 have hokH:HOk X.prog X.w (upd H2 s2.heap.objs.size (.lst [])) (pushCells h2 scope.names):=I.hok.laid k 'b' ⟨zero_le _,[],_,.nil,hD⟩;refine⟨⟨I.ok.mod,?_,I.ok.glob,I.ok.blt,le_succ _,fun x y c e1 e2=>?_,fun x hx=>?_,fun x c hf e=>?_,I.ok.hd,I.ok.frames,.inl rfl,fun b hb=>⟨?_,fun x c e=>?_⟩,I.bs,le_trans I.ok.bsz I.sz,fun b o e hb=>?_,fun b hb hb2=>?_,I.stack,I.stkFree⟩,
  rfl,I.bare,Un.laid k 'b' hdf,⟨_,hC,fun i x v e1 e2 e3=>?_⟩,fun x c e=>?_,?_,fun x c e=>?_,fun p hp=>?_,hokH,?_⟩
 ·exact hkind
 ·rcases split x c e1 with m1 | ⟨m1,q1⟩<;>rcases split y c e2 with m2 | ⟨m2,q2⟩
  ·exact name_of_addr own_ok.apart m1 m2
  ·exact absurd (lt_of_around y c q2) (nlt (by have:=(a1x m1).2;omega))
  ·exact absurd (lt_of_around x c q1) (nlt (by have:=(a1x m2).2;omega))
  ·exact I.ok.inj x y c q1 q2
 ·rw [kof x] at hx
  cases e1:scope.names.lookup x with
  | none=>rw [e1] at hx;rcases hx with z | z<;>cases z
  | some kx =>
   have mx:=mem_of_lookup e1;cases kx with
   | free =>
    obtain⟨c,hc⟩:=I.ok.has x (hfree _ mx rfl);exact⟨c,capCell x mx c hc⟩
   | cell =>
    have q:=PySem.W.cellsFrom_some scope.names (s2.heap.objs.size + 1 + 1) (clOf X.env scope.names []) (x:=x) (.inl e1);exact Option.isSome_iff_exists.mp q
   | _=>rw [e1] at hx;rcases hx with z | z<;>simp at z
 ·rcases split x c e with m1 | ⟨m1,q1⟩
  ·have:=(a1x m1).2;show s2.heap.objs.size <= c;omega
  ·have q2:=a3v hnd m1
   have hf':(scope.names.lookup x == some NameKind.cell)=true:=hf;rw [q2] at hf';simp at hf'
 ·exact ne_of_lt (lt_succ_of_lt (fpLt b hb))
 ·have h1:=fpLt b hb
  rcases split x c e with m1 | ⟨m1,q1⟩
  ·exact ne_of_gt (lt_of_lt_of_le h1 (by have:=(a1x m1).2;omega))
  ·exact(hfp b hb).2.2.2.2.1 x c q1
 ·rcases (hfp b hb).2.2.2.1 with z | z
  ·exact I.ok.noex b o e z
  ·exact absurd (lt_of_lt_of_le (lt_size e) (le_trans I.ok.bsz z)) (lt_irrefl _)
 ·rcases mem_cons.mp (I.stkSub b hb2) with z | z
  ·exact(hfp b hb).2.1 z
  ·exact(hfp b hb).2.2.1 z
 ·-- names that are closed over
  have ei:own.length <= i:=by
   by_cases hi:i < own.length
   ·unfold a6a at e2
    rw [List.getElem?_append_left (by simpa using hi),List.getElem?_replicate,if_pos hi] at e2;cases e2
   ·omega
  have e1':(cap.map (·.1))[i - own.length]? = some x:=by
   have:(own ++ cap.map (·.1))[i]? = some x:=e1
   rwa [getElem?_append_right ei] at this
  have e2':(cap.map fun p=>(σ[p.2]?).join)[i - own.length]? = some (some v):=by
   unfold a6a at e2;rw [getElem?_append_right (by simpa using ei)] at e2;simpa using e2
  rw [getElem?_map] at e1' e2';cases ep:cap[i - own.length]? with
  | none=>rw [ep] at e1';cases e1'
  | some p =>
   rw [ep] at e1' e2';have hx:p.1=x:=by simpa using e1'
   have hv:(σ[p.2]?).join=some v:=by simpa using e2'
   have hσ:σ[p.2]? = some (some v):=by
    cases eσ:σ[p.2]? with
    | none=>rw [eσ] at hv;cases hv
    | some w'=>rw [eσ] at hv;simp at hv;rw [hv]
   obtain⟨hN,hl⟩:=hcap p (mem_of_getElem? ep);rw [hx] at hN hl;have mx:=mem_of_lookup hl;have hvis:Vis X.env.scope x:=by
    rcases hfree _ mx rfl with z | z
    ·exact .inr (.inl z)
    ·exact .inr (.inr z)
   obtain⟨m,_,hl'⟩:=I.loc;obtain⟨u,r,lk⟩:=hl' p.2 x v hN hσ hvis;refine⟨u,r,.inr ?_⟩;rcases lk with⟨z,_⟩ | ⟨z,c,hc,hcell⟩
   ·rcases hfree _ mx rfl with z' | z'<;>rw [z'] at z<;>cases z
   ·refine⟨?_,c,capCell x mx c hc,hcell.keeps k⟩
    rw [kof x,hl];by_cases hcc:(NameKind.free == NameKind.free && X.env.scope.kind == .function && X.env.kindOf x == some .cell)=true
    ·left;simp only [map_some,if_pos hcc]
    ·right;simp only [map_some,if_neg hcc]
 ·rcases split x c e with m1 | ⟨m1,q1⟩
  ·exact⟨_,(own_ok.empty x c m1).1⟩
  ·obtain⟨v,q⟩:=I.cell x c q1
   exact⟨v,q.keeps k⟩
 ·show upd H2 s2.heap.objs.size (.lst []) (s2.heap.objs.size + 1)=none
  rw [a0b (Nat.succ_ne_self _)];exact I.hok.fresh 'n'
 ·rcases split x c e with m1 | ⟨m1,q1⟩
  ·have hle:=(a1x m1).2
   rw [a0b (ne_of_gt (lt_of_lt_of_le (lt_succ_self _) 'o'))];exact I.hok.fresh 'o'
  ·rw [a0b (ne_of_lt (lt_of_around x c q1))]
   exact I.freeC x c q1
 ·exact absurd (show p ∈ ([]:List 'a') from hp) 'c'
 ·unfold a6a
  show _=(own ++ cap.map (·.1)).length;simp
end
def PIf(X:Cx)(ifs:List Expr)(t:TT):Prop:=
 ∀ (pins:List 'a') (s:Shared) (σ:St) (H:Hp) (Q:Bool->Hp->Prop),Inv X pins σ H s->t σ H Q ->
  wpAny (model X.prog X.w) X.A (forIn ifs true fun c r=>if r=true then do let ok ← isTrue c X.env (eval c X.env);pure (ForInStep.yield ok) else pure (ForInStep.yield r)) (TP X pins σ Q) X.xe s
def tYes:TT:=fun _ H Q=>Q true H
def a8k{X:Cx}:PIf X [] tYes:=fun _ _ _ H _ I h=>wpAny_tests_nil ⟨H,I,h⟩
def c0q{X:Cx}{c:Expr}{t:TT}(h:PT X c t):PIf X [c] t:=fun pins s σ H Q I hq=>wpAny_tests_one (h pins s σ H Q I hq)
def b2h(own:List Str)(cap:List 'm')(g:TG)(tt:TT)(te:TE)(J:It)(D:Addr)(σ:St)(H1:Hp)(Z:Hp->Prop):Prop:=
 ∃ W:Nat->Nat->St->Hp->Prop,(∃ m,W 0 m (a6a own cap σ) (upd H1 D (.lst [])))/\∀ i m σ' H',W i m σ' H' ->
  (J.stop i H'/\Z H') ∨ (J.go i H'/\∃ N:St->Hp->Prop,(∀ σ'' H'',N σ'' H''->∃ m',m' < m/\W (i + 1) m' σ'' H'')/\∀ x H'',J.yld i H' x H'' ->
   g x σ' H'' fun σ2 H2=>tt σ2 H2 fun b H3=>if b=true then te σ2 H3 fun y H4=>∃ ys,H4 D=some (.lst ys)/\ys.length < sizeLine/\N σ2 (upd H4 D (.lst (ys ++ [y]))) else N σ2 H3)
def b3f(own:List Str)(cap:List 'm')(wi:TI)(g:TG)(tt:TT)(te:TE):TE:=fun σ H Q=>wi σ H fun J H1=>∀ D,H1 D=none->b2h own cap g tt te J D σ H1 (Q (.ref D))
def b7f{X:Cx}{elt tg iter:Expr}{ifs:List Expr}{scope:Scope}{pos:Pos}{own:List Str}{cap:List 'm'}{g:TG}{tt:TT}{te:TE}
  (hc:X.calm=true) (hok:a4s X scope own cap=true) (hnd:(scope.names.map (·.1)).Nodup)
  (hg:∀ fp s2 H2,PG (cxC X scope own cap fp s2 H2) tg g) (ht:∀ fp s2 H2,PIf (cxC X scope own cap fp s2 H2) ifs tt) (he:∀ fp s2 H2,PE (cxC X scope own cap fp s2 H2) elt te)
  {pins:List 'a'} {σ:St} {H1:Hp} {s2:Shared} {it:Addr} {fp:List Addr} {tn:Nat->Heap->Prop} {J:It} {Z:Hp->Prop} {RR:Result->Shared->Prop}
  (I:Inv X pins σ H1 s2) (T:Turn X.prog X.w X.K tg J fp it tn) (h0:tn 0 s2.heap) (hfp:∀ b ∈ fp,FpOk X pins H1 b)
  (hb:b2h own cap g tt te J s2.heap.objs.size σ H1 Z)
  (hR:∀ s' H' m,(∀ h',Heap.SameBut (s2.heap.objs.size + 1) s'.heap h'->Inv X pins σ H' { s' with heap:=h' })->s'.heap.Ns (s2.heap.objs.size + 1) m->H' (s2.heap.objs.size + 1)=none->Z H'->RR (.ok .next) s') :
  wpAny (model X.prog X.w) X.A (newFunctionEnv scope X.env.globals (clOf X.env scope.names []) [] X.env.qual none .none (some X.env)) (fun cenv s₄ =>
   cenv.locals=s2.heap.objs.size + 1/\codeAny (model X.prog X.w) X.A (.compStart (.ListComp elt [⟨tg,iter,ifs,0⟩] scope pos) 0 (.ref it) (.ref s2.heap.objs.size) { cenv with scope:=relabel scope X.env }) RR s₄)
   X.xe { s2 with heap:=s2.heap.push { cls:=.type "list",dict:=none,data:=.seq ([]:List Value).toArray } }:=by
 have hob:∀ b ∈ fp,∃ o,s2.heap.get? b=some o:=fun b hb=>let ⟨o,e,_⟩:=T.obj _ _ h0 b hb;⟨o,e⟩;have I0:=c8m (own:=own) (cap:=cap) I hok hnd hfp hob;refine b9o ?_;have z1:(s2.heap.push { cls:=.type "list",dict:=none,data:=.seq ([]:List Value).toArray }).objs.size=s2.heap.objs.size + 1:=size_push ..
 dsimp only
 rw [z1];refine⟨rfl,?_⟩;show codeAny (model X.prog X.w) X.A (.compStart (.ListComp elt [⟨tg,iter,ifs,0⟩] scope pos) 0 (.ref it) (.ref s2.heap.objs.size) (cxC X scope own cap fp s2 H1).env) RR _;generalize hs4:({ s2 with heap:=pushCells ((s2.heap.push { cls:=.type "list",dict:=none,data:=.seq ([]:List Value).toArray }).push { cls:=.type "dict",data:=.dict #[] }) scope.names }:Shared)=s4 at I0 ⊢;have kp:∀ b o,s2.heap.get? b=some o->s4.heap.get? b=some o:=fun b o e=>by
  rw [← hs4];exact pushCells_keeps _ _ b o (get?_push_of_some _ (get?_push_of_some _ e))
 have st4:tn 0 s4.heap:=T.keep _ _ _ h0 fun b _ o e=>kp b o e;obtain⟨W,⟨m0,w0⟩,turn⟩:=hb
 -- the iterator's records are the block's own
 have stat:∀ {H':Hp},(∀ b ∈ fp,H' b=none)->∀ b ∈ fp,FpOk (cxC X scope own cap fp s2 H1) [] H' b:=fun hn b hb =>
  ⟨hn b hb,(I0.ok.exf b hb).1,I0.ok.exfs b hb,.inl hb,fun x c e=>(I0.ok.exf b hb).2 x c e,fun p hp=>absurd (show p ∈ ([]:List 'a') from hp) 'c'⟩
 have fr0:∀ b ∈ fp,upd H1 s2.heap.objs.size (.lst []) b=none:=fun b hb=>by
  obtain⟨o,e⟩:=hob b hb;rw [a0b (ne_of_lt (lt_size e))];exact(hfp b hb).1
 have loop:codeAny (model X.prog X.w) X.A (.compLoop (.ListComp elt [⟨tg,iter,ifs,0⟩] scope pos) 0 (.ref it) (.ref s2.heap.objs.size) (cxC X scope own cap fp s2 H1).env) RR s4:=by
  refine b9p (fun n s'=>∃ i σ' H',Inv (cxC X scope own cap fp s2 H1) [] σ' H' s'/\tn i s'.heap/\(∀ b ∈ fp,H' b=none)/\W i n σ' H') ?_ m0 ⟨0,_,_,I0,st4,fr0,w0⟩;rintro n s3 ⟨i,σ3,H3,I3,st3,fr3,w3⟩;rcases turn i n σ3 H3 w3 with⟨stop,qn⟩ | ⟨go,N,hN,step⟩
  ·refine wpAny_noRaise (thn (T.done (cxC X scope own cap fp s2 H1) rfl rfl rfl hc i [] s3 σ3 H3 _ I3 (stat fr3) st3 stop) fun r s5 hq9=>?_)
   obtain⟨hr,I5⟩:=hq9;subst hr;obtain⟨m5,hm5,_⟩:=id I5.loc;refine hR s5 H3 m5 (fun h' hs'=>?_) hm5 I5.free qn
   ·have un:Un (frs X.stack) fp H1 H3 s2.heap s5.heap:=I5.base
    have low:∀ b o,s2.heap.get? b=some o->b ≠ s2.heap.objs.size + 1:=fun b o e=>ne_of_lt (lt_succ_of_lt (lt_size e));refine I.call' (s':={ s5 with heap:=h' }) (ch:=fp) I5.os ⟨fun b o e n hb hx=>(hs'.2 b (low b o e)).trans (un.keep b o e n hb hx),fun b o e n hb hx=>?_,un.free,fun b o e hx=>?_,un.tups,un.frzs,un.tbls⟩ ?_ I5.bare fun b hb=>⟨(hfp b hb).2.2.2.1,(hfp b hb).2.1,(hfp b hb).2.2.2.2.1,(hfp b hb).2.2.2.2.2⟩
    ·obtain⟨sl,q⟩:=un.slot b o e n hb hx
     exact⟨sl,(hs'.2 b (low b o e)).trans q⟩
    ·obtain⟨o',q⟩:=un.there b o e hx
     exact⟨o',(hs'.2 b (low b o e)).trans q⟩
    ·intro b ob e
     refine(I5.hok b ob e).stay (fun c w' hc' q=>(hs'.2 c ?_).trans q) (fun _ q=>q) fun _ _ q=>q;have nC:H3 (s2.heap.objs.size + 1)=none:=I5.free;rintro rfl;rcases hc' with rfl | hc'
     ·rw [nC] at e;cases e
     ·rw [nC] at hc';cases hc'
  ·refine wpAny_noRaise (thn (T.item (cxC X scope own cap fp s2 H1) rfl rfl rfl hc i [] s3 σ3 H3 (fun _ _=>False) I3 (stat fr3) st3 go) fun r s5 hq9=>?_)
   obtain⟨u,hr,h5⟩:=hq9;subst hr;refine wpAny_noRaise (thn h5 fun _ s6 hq9=>?_);obtain⟨x,H6,I6,r6,y6,st6,fr6⟩:=hq9;have I6':=I6.pinned (stat fr6) (T.obj _ _ st6);refine wpAny_noRaise (thn (hg fp s2 H1 _ s6 σ3 H6 x u _ I6' r6 (step x H6 y6)) fun _ s7 hq9=>?_);obtain⟨σ7,H7,I7,q7⟩:=hq9;refine wpAny_noRaise (thn (ht fp s2 H1 _ s7 σ7 H7 _ I7 q7) fun ok s8 hq9=>?_);obtain⟨H8,I8,q8⟩:=hq9;have again:∀ {σ9:St} {H9:Hp} {s9:Shared},Inv (cxC X scope own cap fp s2 H1) ([] ++ a9t fp s6.heap) σ9 H9 s9->N σ9 H9->∃ m,m < n/\∃ i σ' H',Inv (cxC X scope own cap fp s2 H1) [] σ' H' s9/\tn i s9.heap/\(∀ b ∈ fp,H' b=none)/\W i m σ' H':=fun{σ9 H9 s9} I9 n9=>by
    obtain⟨m',hm,w9⟩:=hN σ9 H9 n9;refine⟨m',hm,i + 1,σ9,H9,I9.unpinned,T.keep _ _ _ st6 fun b hb o e=>(I9.pin (b,o) (mem_append_right _ (mem_append_right _ (a6q hb e)))).1,fun b hb=>?_,w9⟩;obtain⟨o,e,d⟩:=T.obj _ _ st6 b hb;exact(I9.pin (b,o) (mem_append_right _ (mem_append_right _ (a6q hb e)))).2.1
   cases ok with
   | false=>exact again I8 q8
   | true =>
    rw [if_pos rfl] at q8;rw [if_pos rfl];refine wpAny_noRaise (thn (he fp s2 H1 _ s8 σ7 H8 _ I8 q8) fun y s9 hq9=>?_);obtain⟨yv,H9,I9,r9,ys,hD,hz,q9⟩:=hq9;refine wpAny_noRaise (thn (a3u _ s9 σ7 H9 (.ref s2.heap.objs.size) [yv] (.ref s2.heap.objs.size) [y] (fun _ H'=>N σ7 H') I9 rfl (.cons r9 .nil) ⟨_,ys,yv,rfl,rfl,hD,hz,q9⟩) fun _ s10 hq9=>?_);obtain⟨_,H10,I10,_,q10⟩:=hq9;exact again I10 q10
 exact codeAny_compStart_list loop (T.self X.A 0 _ _ _ st4 loop)
def b1u{scope:Scope}(hnd:(scope.names.map (·.1)).Nodup):∀ x ∈ scope.names,x.2=.local->scope.names.lookup x.1=some .local:=fun x hx e=>by
 obtain⟨n,k⟩:=x;have e':k=.local:=e;subst e';exact a3v hnd hx
def a7h{X:Cx}{elt tg iter:Expr}{ifs:List Expr}{scope:Scope}{pos:Pos}{own:List Str}{cap:List 'm'}{wi:TI}{g:TG}{tt:TT}{te:TE}
  (hc:X.calm=true) (hok:a4s X scope own cap=true) (hnd:(scope.names.map (·.1)).Nodup) (hi:PI X tg iter wi)
  (hg:∀ fp s2 H2,PG (cxC X scope own cap fp s2 H2) tg g) (ht:∀ fp s2 H2,PIf (cxC X scope own cap fp s2 H2) ifs tt) (he:∀ fp s2 H2,PE (cxC X scope own cap fp s2 H2) elt te)
  (hs:∀ x,foldedSetIterable iter X.env x=pure x:=by intro _;rfl) :
  PE X (.ListComp elt [⟨tg,iter,ifs,0⟩] scope pos) (b3f own cap wi g tt te):=by
 intro pins s σ H Q I h;have hkind:=a8v hok;have hclos:closureFor scope X.env=pure (clOf X.env scope.names []):=a9p fun y hy hf=>I.ok.has y.1 (a8w hok y hy hf);rw [eval_ListComp];refine wpAny_comprehension_free (use:=none) rfl hs hclos hkind (b1u hnd) (thn (hi pins s σ H _ I h) fun xv s1 h1=>thn h1 fun itv s2 h2=>?_);obtain⟨it,fp,tn,J,H1,e,I2,T,st2,f2,hb⟩:=h2;subst e;refine wpAny_newObj_type (thn (b7f (iter:=iter) (pos:=pos) (RR:=compPost (model X.prog X.w) X.A X.xe none (EP X pins σ Q) (.ref s2.heap.objs.size) (s2.heap.objs.size + 1)) hc hok hnd hg ht he I2 T st2 f2 (hb _ I2.fresh) fun s' H' m hI hm hnC z=>?_) fun cenv s4 ⟨e,q⟩=>?_)
 ·exact⟨m,hm,fun h' hs'=>⟨.ref s2.heap.objs.size,H',hI h' hs',rfl,z⟩⟩
 ·rw [← e] at q;exact q
def d3m{X:Cx}{i:Nat}{y:Str}{py spos:Pos}{elt tg iter:Expr}{ifs:List Expr}{scope:Scope}{pos:Pos}{own:List Str}{cap:List 'm'}{wi:TI}{g:TG}{tt:TT}{te:TE}
  (hN:X.N.Nodup) (hi':X.N[i]? = some y) (hy:X.env.scope.names.lookup y=some .local)
  (hc:X.calm=true) (hok:a4s X scope own cap=true) (hnd:(scope.names.map (·.1)).Nodup) (hi:PI X tg iter wi)
  (hg:∀ fp s2 H2,PG (cxC X scope own cap fp s2 H2) tg g) (ht:∀ fp s2 H2,PIf (cxC X scope own cap fp s2 H2) ifs tt) (he:∀ fp s2 H2,PE (cxC X scope own cap fp s2 H2) elt te)
  (hsw:swapsWith (.ListComp elt [⟨tg,iter,ifs,0⟩] scope pos) (some (.Name y py)) spos.line X.env=pure true:=by rfl)
  (hs:∀ x,foldedSetIterable iter X.env x=pure x:=by intro _;rfl) :
  PS X (.Assign [.Name y py] (.ListComp elt [⟨tg,iter,ifs,0⟩] scope pos) spos) (tAsg (b3f own cap wi g tt te) (a2r i)):=by
 intro pins s σ H D I h;have hkind:=a8v hok;have hclos:closureFor scope X.env=pure (clOf X.env scope.names []):=a9p fun y hy hf=>I.ok.has y.1 (a8w hok y hy hf);rw [exec_Assign_Name_used _ _ _ _ hsw];refine wpAny_bind (wpAny_standAt (wpAny_bind ?_));show wpAny _ X.A (do let _ ← comprehension (.ListComp elt [⟨tg,iter,ifs,0⟩] scope pos) scope X.env _ (newList []) false (eval iter X.env) (some (assign (.Name y py) X.env))) _ _ s;refine wpAny_bind (wpAny_mono (wpAny_comprehension_free (use:=some (assign (.Name y py) X.env)) (Q:=fun _ s'=>SP X pins D .next s') rfl hs hclos hkind (b1u hnd)
  (thn (hi pins s σ H _ I h) fun xv s1 h1=>thn h1 fun itv s2 h2=>?_)) (fun _ s' hq=>wpAny_pure (wpAny_pure hq)) fun _ _ e=>e)
 obtain⟨it,fp,tn,J,H1,e,I2,T,st2,f2,hb⟩:=h2;subst e;refine wpAny_newObj_type (thn (b7f (iter:=iter) (pos:=pos) (RR:=compPost (model X.prog X.w) X.A X.xe (some (assign (.Name y py) X.env)) (fun _ s'=>SP X pins D .next s') (.ref s2.heap.objs.size) (s2.heap.objs.size + 1)) hc hok hnd hg ht he I2 T st2 f2 (hb _ I2.fresh) fun s' H' m hI hm hnC z=>?_) fun cenv s4 ⟨e,q⟩=>?_)
 ·show wpAny _ _ (assign (.Name y py) X.env (.ref s2.heap.objs.size)) _ _ s'
  have I':Inv X pins σ H' s':=hI s'.heap (Heap.SameBut.refl ..);refine wpAny_assign_Name (b4w I' hN hi' (.inl hy) (v:=.ref s2.heap.objs.size) rfl (fun s'' I'' hsb=>?_) (.inr hy));obtain⟨a,hs1,ha⟩:=hsb;have nC:s2.heap.objs.size + 1 ≠ a:=by
   rintro rfl;rcases ha with ha | ha
   ·have q:=I2.lt
    rw [← ha] at q;exact absurd q (nlt 'n')
   ·obtain⟨v,q⟩:=I2.cell _ _ ha
    exact absurd q.lt (nlt 'n')
  refine⟨m,hm.sameBut hs1 nC,fun h' hs'=>⟨_,H',?_,z⟩⟩;obtain⟨_,f1,f2,f3,f4,f5⟩:=I2.fpOk (b:=s2.heap.objs.size + 1) 'n' hnC;exact I''.turned (t':=s''.toks) (it:=s2.heap.objs.size + 1) (fun b o hb e=>(hs'.2 b hb).trans e) hnC f1 f3 f4 f5
 ·rw [← e] at q;exact q
end
section
def a3n:bootBuiltins "len" = some (.builtin "len"):=by decide +kernel
def a6n:bootBuiltins "isinstance" = some (.builtin "isinstance"):=by decide +kernel
def b0x:bootBuiltins "repr" = some (.builtin "repr"):=by decide +kernel
def a1k:bootBuiltins "tuple" = some (.type "tuple"):=by decide +kernel
def d3n:bootBuiltins "dict" = some (.type "dict"):=by decide +kernel
noncomputable def kvE(p:Str × Int):Key × V:=(Sum.inr p.1,V.int p.2)
noncomputable def kvD(p:Str × Int):PyData × PyData:=(.str p.1,.int p.2)
inductive FD where
 | none
 | bool (b:Bool)
 | int (n:Int)
 | str (x:Str)
noncomputable def FD.v:FD->V
 | .none=>.non
 | .bool b=>.bl b
 | .int n=>.int n
 | .str x=>.str x
noncomputable def FD.d:FD->PyData
 | .none=>.none
 | .bool b=>.bool b
 | .int n=>.int n
 | .str x=>.str x
noncomputable def keyD:Key->PyData
 | .inl i=>.int i
 | .inr x=>.str x
noncomputable def gE(p:Key × FD):Key × V:=(p.1,p.2.v)
noncomputable def gD(p:Key × FD):PyData × PyData:=(keyD p.1,p.2.d)
noncomputable def emb(p:Str × Int):Key × FD:=(Sum.inr p.1,FD.int p.2)
mutual
noncomputable def AtD(K:W.Frag)(H:Hp)(S:Addr->Prop):PyData->V->Prop
 | .none,v=>v=.non
 | .bool b,v=>v=.bl b
 | .int i,v=>v=.int i
 | .str x,v=>v=.str x
 | .list ds,v=>∃ a xs,v=.ref a/\S a/\H a=some (.lst xs)/\a0a K H S ds xs
 | .tuple ds,v=>∃ a xs,v=.ref a/\SqT K H a xs/\a0a K H S ds xs
 | .dict kvs,v=>∃ (a:Addr) (κ:List (Key × V)),v=.ref a/\S a/\H a=some (.dK κ)/\a0m K H S kvs κ
noncomputable def a0a(K:W.Frag)(H:Hp)(S:Addr->Prop):List PyData->List V->Prop
 | [],vs=>vs=[]
 | d :: ds,vs=>∃ v r,vs=v :: r/\AtD K H S d v/\a0a K H S ds r
noncomputable def a0m(K:W.Frag)(H:Hp)(S:Addr->Prop):List (PyData × PyData)->List (Key × V)->Prop
 | [],κ=>κ=[]
 | (x,d) :: r,κ=>∃ k v t,κ=(k,v) :: t/\x=keyD k/\AtD K H S d v/\a0m K H S r t
end
abbrev Any:Addr->Prop:=fun _=>True
abbrev But(t:Addr):Addr->Prop:=fun b=>b ≠ t
def Keep(S:Addr->Prop)(H H':Hp):Prop:=(∀ b xs,H b=some (.tup xs)->H' b=some (.tup xs))/\(∀ b o u,H b=some (.frz o u)->H' b=some (.frz o u))/\∀ b o,S b->H b=some o->H' b=some o
section
variable{K:W.Frag}{H H':Hp}{S S':Addr->Prop}
def Keep.refl(S:Addr->Prop)(H:Hp):Keep S H H:=⟨fun _ _ h=>h,fun _ _ _ h=>h,fun _ _ _ h=>h⟩
def Keep.trans{H1:Hp}(a:Keep S H H1)(b:Keep S H1 H'):Keep S H H':=⟨fun c xs h=>b.1 c xs (a.1 c xs h),fun c o xs h=>b.2.1 c o xs (a.2.1 c o xs h),fun c xs s h=>b.2.2 c xs s (a.2.2 c xs s h)⟩
def Keep.less(e:Keep S H H')(h:∀ b,S' b->S b):Keep S' H H':=⟨e.1,e.2.1,fun b xs s q=>e.2.2 b xs (h b s) q⟩
def Same.keep(e:Same H H'):Keep S H H':=⟨fun b xs h=>e b _ h,fun b o xs h=>e b _ h,fun b xs _ h=>e b _ h⟩
def c5i{p:Addr}{xs ys:List V}(h:H p=some (.lst xs)):Keep (But p) H (upd H p (.lst ys)):=
 ⟨fun b zs q=>by rw [a0b (b2v q h (by intro z;cases z))];exact q,fun b o zs q=>by rw [a0b (b2v q h (by intro z;cases z))];exact q,fun b zs hb q=>by rw [a0b hb];exact q⟩
def Keep.seqT{a:Addr}{xs:List V}(e:Keep S H H')(h:SqT K H a xs):SqT K H' a xs:=by
 rcases h with(h | ⟨o,h⟩) | h
 ·exact .inl (.inl (e.1 _ _ h))
 ·exact .inl (.inr ⟨o,e.2.1 _ _ _ h⟩)
 ·exact .inr h
def a0f{H:Hp}{p:Addr}(h:H p=none)(o:HO):Same H (upd H p o):=fun b u q=>by rw [a0b (a0u q h)];exact q
mutual
def AtD.mono(e:Keep S H H'):∀ (d:PyData) (v:V),AtD K H S d v->AtD K H' S d v
 | .none,_,h=>by unfold AtD at h ⊢;exact h
 | .bool _,_,h=>by unfold AtD at h ⊢;exact h
 | .int _,_,h=>by unfold AtD at h ⊢;exact h
 | .str _,_,h=>by unfold AtD at h ⊢;exact h
 | .list ds,v,h=>by
  unfold AtD at h ⊢;obtain⟨a,xs,e1,s,q,r⟩:=h;exact⟨a,xs,e1,s,e.2.2 _ _ s q,a0a.mono e ds xs r⟩
 | .tuple ds,v,h=>by
  unfold AtD at h ⊢;obtain⟨a,xs,e1,q,r⟩:=h;exact⟨a,xs,e1,e.seqT q,a0a.mono e ds xs r⟩
 | .dict kvs,v,h=>by
  unfold AtD at h ⊢;obtain⟨a,ν,e1,s,q,e2⟩:=h;exact⟨a,ν,e1,s,e.2.2 a _ s q,a0m.mono e kvs ν e2⟩
def a0a.mono(e:Keep S H H'):∀ (ds:List PyData) (vs:List V),a0a K H S ds vs->a0a K H' S ds vs
 | [],_,h=>by unfold a0a at h ⊢;exact h
 | d :: ds,vs,h=>by
  unfold a0a at h ⊢;obtain⟨v,r,e1,h1,h2⟩:=h;exact⟨v,r,e1,AtD.mono e d v h1,a0a.mono e ds r h2⟩
def a0m.mono(e:Keep S H H'):∀ (kvs:List (PyData × PyData)) (κ:List (Key × V)),a0m K H S kvs κ->a0m K H' S kvs κ
 | [],_,h=>by unfold a0m at h ⊢;exact h
 | (x,d) :: r,κ,h=>by
  unfold a0m at h ⊢;obtain⟨k,v,t,e1,e2,h1,h2⟩:=h;exact⟨k,v,t,e1,e2,AtD.mono e d v h1,a0m.mono e r t h2⟩
end
mutual
def AtD.more(e:∀ b,S b->S' b):∀ (d:PyData) (v:V),AtD K H S d v->AtD K H S' d v
 | .none,_,h=>by unfold AtD at h ⊢;exact h
 | .bool _,_,h=>by unfold AtD at h ⊢;exact h
 | .int _,_,h=>by unfold AtD at h ⊢;exact h
 | .str _,_,h=>by unfold AtD at h ⊢;exact h
 | .list ds,v,h=>by
  unfold AtD at h ⊢;obtain⟨a,xs,e1,s,q,r⟩:=h;exact⟨a,xs,e1,e a s,q,a0a.more e ds xs r⟩
 | .tuple ds,v,h=>by
  unfold AtD at h ⊢;obtain⟨a,xs,e1,q,r⟩:=h;exact⟨a,xs,e1,q,a0a.more e ds xs r⟩
 | .dict kvs,v,h=>by
  unfold AtD at h ⊢;obtain⟨a,ν,e1,s,q,e2⟩:=h;exact⟨a,ν,e1,e a s,q,a0m.more e kvs ν e2⟩
def a0a.more(e:∀ b,S b->S' b):∀ (ds:List PyData) (vs:List V),a0a K H S ds vs->a0a K H S' ds vs
 | [],_,h=>by unfold a0a at h ⊢;exact h
 | d :: ds,vs,h=>by
  unfold a0a at h ⊢;obtain⟨v,r,e1,h1,h2⟩:=h;exact⟨v,r,e1,AtD.more e d v h1,a0a.more e ds r h2⟩
def a0m.more(e:∀ b,S b->S' b):∀ (kvs:List (PyData × PyData)) (κ:List (Key × V)),a0m K H S kvs κ->a0m K H S' kvs κ
 | [],_,h=>by unfold a0m at h ⊢;exact h
 | (x,d) :: r,κ,h=>by
  unfold a0m at h ⊢;obtain⟨k,v,t,e1,e2,h1,h2⟩:=h;exact⟨k,v,t,e1,e2,AtD.more e d v h1,a0m.more e r t h2⟩
end
mutual
noncomputable def a0l:PyData->Bool
 | .none=>true | .bool _=>true | .int _=>true | .str _=>true
 | .list _=>false
 | .tuple ds=>a0q ds
 | .dict _=>false
noncomputable def a0q:List PyData->Bool
 | []=>true
 | d :: ds=>a0l d && a0q ds
end
mutual
def AtD.tups:∀ (d:PyData) (v:V),a0l d=true->AtD K H S d v->AtD K H S' d v
 | .none,_,_,h=>by unfold AtD at h ⊢;exact h
 | .bool _,_,_,h=>by unfold AtD at h ⊢;exact h
 | .int _,_,_,h=>by unfold AtD at h ⊢;exact h
 | .str _,_,_,h=>by unfold AtD at h ⊢;exact h
 | .list ds,v,t,h=>by unfold a0l at t;cases t
 | .tuple ds,v,t,h=>by
  unfold a0l at t;unfold AtD at h ⊢;obtain⟨a,xs,e1,q,r⟩:=h;exact⟨a,xs,e1,q,a0a.tups ds xs t r⟩
 | .dict _,_,t,_=>by unfold a0l at t;cases t
def a0a.tups:∀ (ds:List PyData) (vs:List V),a0q ds=true->a0a K H S ds vs->a0a K H S' ds vs
 | [],_,_,h=>by unfold a0a at h ⊢;exact h
 | d :: ds,vs,t,h=>by
  unfold a0q at t;rw [and_eq_true] at t;unfold a0a at h ⊢;obtain⟨v,r,e1,h1,h2⟩:=h;exact⟨v,r,e1,AtD.tups d v t.1 h1,a0a.tups ds r t.2 h2⟩
end
def a0a.nil:a0a K H S [] []:=by unfold a0a;rfl
def a0a.cons{d:PyData}{ds:List PyData}{v:V}{vs:List V}(h:AtD K H S d v)(t:a0a K H S ds vs):a0a K H S (d :: ds) (v :: vs):=by
 unfold a0a;exact⟨v,vs,rfl,h,t⟩
def a0a.uncons{d:PyData}{ds:List PyData}{vs:List V}(h:a0a K H S (d :: ds) vs):∃ v r,vs=v :: r/\AtD K H S d v/\a0a K H S ds r:=by
 unfold a0a at h;exact h
def a0a.unnil{vs:List V}(h:a0a K H S [] vs):vs=[]:=by unfold a0a at h;exact h
def a0a.length:∀ {ds:List PyData} {vs:List V},a0a K H S ds vs->vs.length=ds.length
 | [],_,h=>by rw [h.unnil];rfl
 | d :: ds,vs,h=>by
  obtain⟨v,r,e,_,t⟩:=h.uncons;rw [e,length_cons,length_cons,a0a.length t]
def a0a.get:∀ {ds:List PyData} {vs:List V} {i:Nat} {d:PyData},a0a K H S ds vs->ds[i]? = some d->∃ v,vs[i]? = some v/\AtD K H S d v
 | [],_,i,d,_,e=>by simp at e
 | d' :: ds,vs,0,d,h,e=>by
  obtain⟨v,r,rfl,hd,t⟩:=h.uncons;simp at e;subst e;exact⟨v,by simp,hd⟩
 | d' :: ds,vs,i + 1,d,h,e=>by
  obtain⟨v,r,rfl,hd,t⟩:=h.uncons;obtain⟨w,e1,e2⟩:=a0a.get (i:=i) t (by simpa using e);exact⟨w,by simpa using e1,e2⟩
def a0a.append:∀ {ds es:List PyData} {vs ws:List V},a0a K H S ds vs->a0a K H S es ws->a0a K H S (ds ++ es) (vs ++ ws)
 | [],_,_,_,h,t=>by rw [h.unnil];exact t
 | d :: ds,es,vs,ws,h,t=>by
  obtain⟨v,r,rfl,hd,q⟩:=h.uncons;exact .cons hd (a0a.append q t)
def a0a.snoc{ds:List PyData}{vs:List V}{d:PyData}{v:V}(h:a0a K H S ds vs)(hd:AtD K H S d v):a0a K H S (ds ++ [d]) (vs ++ [v]):=h.append (.cons hd .nil)
def a0a.set:∀ {ds:List PyData} {vs:List V} (i:Nat) {d:PyData} {v:V},a0a K H S ds vs->AtD K H S d v->a0a K H S (ds.set i d) (vs.set i v)
 | [],_,i,d,v,h,_=>by rw [h.unnil];exact .nil
 | d' :: ds,vs,0,d,v,h,hd=>by
  obtain⟨v',r,rfl,_,q⟩:=h.uncons;exact .cons hd q
 | d' :: ds,vs,i + 1,d,v,h,hd=>by
  obtain⟨v',r,rfl,h',q⟩:=h.uncons;exact .cons h' (a0a.set i q hd)
def a5r:AtD K H S .none .non:=by unfold AtD;rfl
def a3w(b:Bool):AtD K H S (.bool b) (.bl b):=by unfold AtD;rfl
def a1o(i:Int):AtD K H S (.int i) (.int i):=by unfold AtD;rfl
def b0y(x:Str):AtD K H S (.str x) (.str x):=by unfold AtD;rfl
def b4f{v:V}(h:AtD K H S .none v):v=.non:=by unfold AtD at h;exact h
def b0z{b:Bool}{v:V}(h:AtD K H S (.bool b) v):v=.bl b:=by unfold AtD at h;exact h
def b0a{i:Int}{v:V}(h:AtD K H S (.int i) v):v=.int i:=by unfold AtD at h;exact h
def b3g{x:Str}{v:V}(h:AtD K H S (.str x) v):v=.str x:=by unfold AtD at h;exact h
def a2g{ds:List PyData}{v:V}(h:AtD K H S (.tuple ds) v):∃ a xs,v=.ref a/\SqT K H a xs/\a0a K H S ds xs:=by unfold AtD at h;exact h
def a2u{ds:List PyData}{v:V}(h:AtD K H S (.list ds) v):∃ a xs,v=.ref a/\S a/\H a=some (.lst xs)/\a0a K H S ds xs:=by unfold AtD at h;exact h
def a1q{ds:List PyData}{a:Addr}{xs:List V}(q:SqT K H a xs)(h:a0a K H S ds xs):AtD K H S (.tuple ds) (.ref a):=by unfold AtD;exact⟨a,xs,rfl,q,h⟩
def a2c{ds:List PyData}{a:Addr}{xs:List V}(s:S a)(q:H a=some (.lst xs))(h:a0a K H S ds xs):AtD K H S (.list ds) (.ref a):=by unfold AtD;exact⟨a,xs,rfl,s,q,h⟩
def b1a{kvs:List (PyData × PyData)}{v:V}(h:AtD K H S (.dict kvs) v):∃ (a:Addr) (κ:List (Key × V)),v=.ref a/\S a/\H a=some (.dK κ)/\a0m K H S kvs κ:=by unfold AtD at h;exact h
def b5h{kvs:List (PyData × PyData)}{κ:List (Key × V)}{a:Addr}(s:S a)(q:H a=some (.dK κ))(h:a0m K H S kvs κ):AtD K H S (.dict kvs) (.ref a):=by unfold AtD;exact⟨a,κ,rfl,s,q,h⟩
def a0m.nil:a0m K H S [] []:=by unfold a0m;rfl
def a0m.cons{k:Key}{v:V}{d:PyData}{r:List (PyData × PyData)}{t:List (Key × V)}(h:AtD K H S d v)(hr:a0m K H S r t):a0m K H S ((keyD k,d) :: r) ((k,v) :: t):=by
 unfold a0m;exact⟨k,v,t,rfl,rfl,h,hr⟩
def a0m.uncons{x d:PyData}{r:List (PyData × PyData)}{κ:List (Key × V)}(h:a0m K H S ((x,d) :: r) κ):∃ k v t,κ=(k,v) :: t/\x=keyD k/\AtD K H S d v/\a0m K H S r t:=by unfold a0m at h;exact h
def a0m.unnil{κ:List (Key × V)}(h:a0m K H S [] κ):κ=[]:=by unfold a0m at h;exact h
def a8x{ds:List PyData}{p:Addr}{xs:List V}(hp:H p=none)(h:a0a K H S ds xs):AtD K (upd H p (.tup xs)) S (.tuple ds) (.ref p):=
 a1q (SqT.of a0d) (a0a.mono (a0f hp _).keep _ _ h)
def c8n{ds:List PyData}{p:Addr}{xs:List V}(s:S p)(hp:H p=none)(h:a0a K H S ds xs):AtD K (upd H p (.lst xs)) S (.list ds) (.ref p):=
 a2c s a0d (a0a.mono (a0f hp _).keep _ _ h)
def a0a.ints(ns:List Int):a0a K H S (ns.map .int) (ns.map V.int):=by
 induction ns with
 | nil=>exact .nil
 | cons n r ih=>exact .cons (a1o n) ih
end
def c5j(h:Heap){k:Key}{u:Value}(q:a7z k u=true):Reads h u (keyD k) []:=by
 rcases a1s q with⟨i,t,e',h'⟩ | ⟨x,t,e',h'⟩
 ·rw [e',h'];exact .int i t
 ·rw [e',h'];exact .str x t
section
variable{X:Cx}{pins:List 'a'}{σ:St}{H:Hp}{s:Shared}{S:Addr->Prop}
mutual
def AtD.reads(I:Inv X pins σ H s):∀ (d:PyData) (v:V) (u:Value),AtD X.K H S d v->RelV v u->∃ as,Reads s.heap u d as
 | .none,v,u,h,r=>by cases b4f h;cases r;exact⟨_,.none⟩
 | .bool b,v,u,h,r=>by cases b0z h;cases r;exact⟨_,.bool b⟩
 | .int i,v,u,h,r=>by cases b0a h;obtain⟨t,rfl⟩:=r;exact⟨_,.int i t⟩
 | .str x,v,u,h,r=>by cases b3g h;obtain⟨t,rfl⟩:=r;exact⟨_,.str x t⟩
 | .list ds,v,u,h,r=>by
  obtain⟨a,xs,rfl,_,q,t⟩:=a2u h;cases r;obtain⟨its,rv,⟨o,n,e,hc,_,hd⟩,_⟩:=I.list (SqL.of q);obtain⟨as,ra⟩:=a0a.reads I ds xs its t rv;exact⟨_,.list e hc hd (by simpa using ra)⟩
 | .tuple ds,v,u,h,r=>by
  obtain⟨a,xs,rfl,q,t⟩:=a2g h;cases r;obtain⟨its,rv,⟨o,e,hc,n,hd⟩,_⟩:=I.tuple q;obtain⟨as,ra⟩:=a0a.reads I ds xs its t rv;exact⟨_,.tuple e hc hd (by simpa using ra)⟩
 | .dict kvs,v,u,h,r=>by
  obtain⟨a,ν,rfl,_,q,t⟩:=b1a h;cases r;obtain⟨_,_,vs,kv,o,es,ep,e,hc,hd,_,hp,_⟩:=(show a1h X.prog X.w H s.heap a (.dK ν) from I.hok a _ q);obtain⟨as,bs,r1,r2⟩:=a0m.reads I kvs ν vs es.toList t kv hp;exact⟨_,.dict e hc.1 hd r1 r2⟩
def a0a.reads(I:Inv X pins σ H s):∀ (ds:List PyData) (vs:List V) (us:List Value),a0a X.K H S ds vs->Vals vs us->∃ as,ReadsAll s.heap us ds as
 | [],vs,us,h,r=>by
  cases h.unnil
  cases r
  exact⟨_,.nil⟩
 | d :: ds,vs,us,h,r=>by
  obtain⟨v,vr,rfl,hd,t⟩:=h.uncons;cases r with
  | cons r1 r2 =>
   obtain⟨as,q1⟩:=AtD.reads I d v _ hd r1;obtain⟨bs,q2⟩:=a0a.reads I ds vr _ t r2;exact⟨_,.cons q1 q2⟩
def a0m.reads(I:Inv X pins σ H s):∀ (kvs:List (PyData × PyData)) (κ:List (Key × V)) (vs:List (Key × Value)) (es:List DictEntry),a0m X.K H S kvs κ->KV κ vs->Pairs (a1f X.prog X.w) es vs->∃ as bs,ReadsAll s.heap (es.map (·.key)) (kvs.map (·.1)) as/\ReadsAll s.heap (es.map (·.val)) (kvs.map (·.2)) bs
 | [],κ,vs,es,h,r,q=>by
  cases h.unnil
  cases r
  cases q
  exact⟨_,_,.nil,.nil⟩
 | (x,d) :: kr,κ,vs,es,h,r,q=>by
  obtain⟨k,v,t,rfl,rfl,h1,h2⟩:=h.uncons;cases r with
  | cons r1 r2 =>
   cases q with
   | cons q1 q2 q3 =>
    rename_i kv _ e _;obtain⟨kk,kv2⟩:=kv;obtain⟨e1,e2⟩:=r1;cases e1;obtain⟨a1,w1⟩:=AtD.reads I d v kv2 h1 e2;obtain⟨as,bs,c1,c2⟩:=a0m.reads I kr t _ _ h2 r2 q3;have hk:Reads s.heap e.key (keyD k) []:=c5j _ (show a7z k e.key=true from q1);have g1:=ReadsAll.cons hk c1;have g2:=ReadsAll.cons w1 c2;rw [show kv2=e.val from q2.symm] at g2;exact⟨_,_,g1,g2⟩
end
end
section
variable{X:Cx}
def IxR.imp{r r':R2}(h:IxR X r)(f:∀ x y H Q,r' x y H Q->r x y H Q):IxR X r':=fun value slice pins s σ H x y v u Q I rx ry q hs=>h value slice pins s σ H x y v u Q I rx ry (f x y H Q q) hs
def a1r.imp{g:Value}{r r':List V->Hp->VK->Prop}(h:a1r X g r)(f:∀ x H Q,r' x H Q->r x H Q):a1r X g r':=fun pins s σ H xs us Q I rs q=>h pins s σ H xs us Q I rs (f xs H Q q)
def SeqD(K:W.Frag)(H:Hp)(S:Addr->Prop)(ds:List PyData)(v:V):Prop:=AtD K H S (.tuple ds) v ∨ AtD K H S (.list ds) v
def b1b{K:W.Frag}{H:Hp}{S:Addr->Prop}{ds:List PyData}{xs:List V}{i:Int}{d:PyData}(h:a0a K H S ds xs)(e:atI ds i=some d):∃ v,atI xs i=some v/\AtD K H S d v:=by
 unfold atI at e ⊢;rw [h.length];cases q:ixN ds.length i with
 | none=>rw [q] at e;cases e
 | some j =>
  rw [q] at e;obtain⟨v,e1,e2⟩:=h.get (show ds[j]? = some d from e);exact⟨v,e1,e2⟩
def rIxD(K:W.Frag):R2:=fun x y H Q=>∃ S ds i d,SeqD K H S ds x/\y=.int i/\atI ds i=some d/\∀ v,AtD K H S d v->Q v H
def a3o:IxR X (rIxD X.K):=(a5n.or b6x).imp fun x y H Q h=>by
 obtain⟨S,ds,i,d,h | h,rfl,e,q⟩:=h
 ·obtain⟨a,xs,rfl,hs,t⟩:=a2g h
  obtain⟨v,e1,e2⟩:=b1b t e;exact .inr ⟨a,xs,i,v,rfl,rfl,hs,e1,q v e2⟩
 ·obtain⟨a,xs,rfl,_,hs,t⟩:=a2u h
  obtain⟨v,e1,e2⟩:=b1b t e;exact .inl ⟨a,xs,i,v,rfl,rfl,SqL.of hs,e1,q v e2⟩
def c5k:a1r X (.builtin "len") (fun xs H Q=>∃ v S ds,xs=[v]/\SeqD X.K H S ds v/\Q (.int ds.length) H):=a3t.imp fun xs H Q h=>by
 obtain⟨v,S,ds,rfl,h | h,q⟩:=h
 ·obtain⟨a,ys,rfl,hs,t⟩:=a2g h
  exact⟨a,ys,rfl,.inr hs,by rw [t.length];exact q⟩
 ·obtain⟨a,ys,rfl,_,hs,t⟩:=a2u h
  exact⟨a,ys,rfl,.inl (SqL.of hs),by rw [t.length];exact q⟩
def rEqD(K:W.Frag)(neg:Bool):R2:=fun x y H Q=>∃ S S' d e,AtD K H S d x/\AtD K H S' e y/\SeqAt.shaped d=true/\SeqAt.shaped e=true/\Q (.bl (if neg then !PyData.eqv d e else PyData.eqv d e)) H
def d7u(hu:X.A.units + 64 < cLine):OpR X (compareOp .Eq) (rEqD X.K false):=by
 intro pins s σ H x y v u Q I rx ry h;obtain⟨S,S',d,e,hd,he,sd,se,q⟩:=h;obtain⟨as,ra⟩:=AtD.reads I d x v hd rx;obtain⟨bs,rb⟩:=AtD.reads I e y u he ry;exact SeqAt.compareEq_shaped ra rb sd se hu ⟨.bl _,H,I,rfl,q⟩
def d7v(hu:X.A.units + 64 < cLine):OpR X (compareOp .NotEq) (rEqD X.K true):=by
 intro pins s σ H x y v u Q I rx ry h;obtain⟨S,S',d,e,hd,he,sd,se,q⟩:=h;obtain⟨as,ra⟩:=AtD.reads I d x v hd rx;obtain⟨bs,rb⟩:=AtD.reads I e y u he ry;exact SeqAt.compareNe_shaped ra rb sd se hu ⟨.bl _,H,I,rfl,q⟩
def pe_ty{x:Str}{T:String}{pos:Pos}(hg:Gl X x)(hm:X.mg x=none)(hv:bootBuiltins x=some (.type T)) (hn:x ≠ "__name__":=by decide) (hd:(x == ("__debug__" : Str))=false:=by decide):PE X (.Name x pos) (tC (.ty T)):=
 d2s hg hm hv rfl hn hd
end
section
variable{X:Cx}{tg:Expr}
def iDat(K:W.Frag)(tl:TE):TI:=fun σ H R=>tl σ H fun x H1=>(∃ a,x=.ref a/\(∃ xs,SqT K H1 a xs)/\R (Itt K a) H1) ∨ (∃ a,x=.ref a/\(∃ xs,SqL K H1 a xs)/\R (Itl K a) H1)
def c5l{l:Expr}{tl:TE}(hl:PE X l tl):PI X tg l (iDat X.K tl):=by
 intro pins s σ H R I h;refine thn (hl pins s σ H (fun x H1=>(∃ a,x=.ref a/\(∃ xs,SqT X.K H1 a xs)/\R (Itt X.K a) H1) ∨ (∃ a,x=.ref a/\(∃ xs,SqL X.K H1 a xs)/\R (Itl X.K a) H1)) I h) fun v s1 hq9=>?_;obtain⟨x,H1,I1,r1,q1⟩:=hq9;rcases q1 with⟨a,rfl,⟨xs,hq⟩,q⟩ | ⟨a,rfl,⟨xs,hq⟩,q⟩
 ·cases r1
  obtain⟨its,rv,p,hz⟩:=I1.tuple hq;refine wpAny_pyIter_tuple (show s1.heap.IsTuple a its.toArray from p) ?_;refine⟨s1.heap.objs.size,[s1.heap.objs.size],_,_,H1,rfl,I1.kept (t':=s1.toks) fun b o e=>get?_push_of_some _ e,b2x a _,⟨_,get?_push_size _ rfl,rfl,rfl⟩,fun b hb=>?_,q⟩;have e:b=s1.heap.objs.size:=by simpa using hb
  subst e;exact I1.fpOk 'b' (I1.hok.fresh 'b')
 ·cases r1
  obtain⟨its,rv,p,hz⟩:=I1.list hq;refine wpAny_pyIter_list p.isList ?_;refine⟨s1.heap.objs.size,[s1.heap.objs.size],_,_,H1,rfl,I1.kept (t':=s1.toks) fun b o e=>get?_push_of_some _ e,b4x a _,⟨_,get?_push_size _ rfl,rfl,rfl⟩,fun b hb=>?_,q⟩;have e:b=s1.heap.objs.size:=by simpa using hb
  subst e;exact I1.fpOk 'b' (I1.hok.fresh 'b')
end
def b1c(J:It)(σ:St)(H:Hp)(go:V->St->Hp->(St->Hp->Prop)->Prop)(done:St->Hp->Prop):Prop:=
 ∃ W:Nat->Nat->St->Hp->Prop,(∃ m,W 0 m σ H)/\∀ i m σ H,W i m σ H ->
  (J.stop i H/\done σ H) ∨ (J.go i H/\∃ N:St->Hp->Prop,(∀ σ' H',N σ' H'->∃ m',m' < m/\W (i + 1) m' σ' H')/\∀ x H',J.yld i H x H'->go x σ H' N)
def b7g{K:W.Frag}{a:Addr}{xs:List V}{σ:St}{H:Hp}{go:V->St->Hp->(St->Hp->Prop)->Prop}{done:St->Hp->Prop}(Pv:Nat->St->Hp->Prop)(h0:Pv 0 σ H)(hl:∀ i σ H,i <= xs.length->Pv i σ H->SqT K H a xs)
  (hs:∀ i x σ H,xs[i]? = some x->Pv i σ H->go x σ H (Pv (i + 1))) (hd:∀ σ H,Pv xs.length σ H->done σ H):b1c (Itt K a) σ H go done:=by
 refine⟨fun i m σ H=>m=xs.length - i/\i <= xs.length/\Pv i σ H,⟨xs.length,by simp,zero_le _,h0⟩,?_⟩;rintro i m σ H ⟨rfl,hi,p⟩;have q:=hl i σ H hi p;by_cases hlt:i < xs.length
 ·refine .inr ⟨⟨xs,xs[i],q,by simp [hlt]⟩,Pv (i + 1),fun σ' H' p'=>⟨xs.length - (i + 1),'o',rfl,hlt,p'⟩,fun x H' y=>?_⟩
  obtain⟨e,y⟩:=y;subst e;exact hs i x σ _ (y xs q) p
 ·have e:i=xs.length:=by omega
  subst e;exact .inl ⟨⟨xs,q,le_refl _⟩,hd σ H p⟩
def b5i{K:W.Frag}{a:Addr}{xs:List V}{σ:St}{H:Hp}{go:V->St->Hp->(St->Hp->Prop)->Prop}{done:St->Hp->Prop}(Pv:Nat->St->Hp->Prop)(h0:Pv 0 σ H)(hl:∀ i σ H,i <= xs.length->Pv i σ H->SqL K H a xs)
  (hs:∀ i x σ H,xs[i]? = some x->Pv i σ H->go x σ H (Pv (i + 1))) (hd:∀ σ H,Pv xs.length σ H->done σ H):b1c (Itl K a) σ H go done:=by
 refine⟨fun i m σ H=>m=xs.length - i/\i <= xs.length/\Pv i σ H,⟨xs.length,by simp,zero_le _,h0⟩,?_⟩;rintro i m σ H ⟨rfl,hi,p⟩;have q:=hl i σ H hi p;by_cases hlt:i < xs.length
 ·refine .inr ⟨⟨xs,xs[i],q,by simp [hlt]⟩,Pv (i + 1),fun σ' H' p'=>⟨xs.length - (i + 1),'o',rfl,hlt,p'⟩,fun x H' y=>?_⟩
  obtain⟨e,y⟩:=y;subst e;exact hs i x σ _ (y xs q) p
 ·have e:i=xs.length:=by omega
  subst e;exact .inl ⟨⟨xs,q,le_refl _⟩,hd σ H p⟩
def a6i{own:List Str}{cap:List 'm'}{g:TG}{tt:TT}{te:TE}{J:It}{D:Addr}{σ:St}{H1:Hp}{Z:Hp->Prop}
  (h:b1c J (a6a own cap σ) (upd H1 D (.lst [])) (fun x σ' H'' N=>g x σ' H'' fun σ2 H2=>tt σ2 H2 fun b H3=>if b=true then te σ2 H3 fun y H4=>∃ ys,H4 D=some (.lst ys)/\ys.length < sizeLine/\N σ2 (upd H4 D (.lst (ys ++ [y]))) else N σ2 H3) (fun _ H'=>Z H')) :
  b2h own cap g tt te J D σ H1 Z:=h
end
end L2
section
namespace L2
open PySem PySem.Spec PyProof.Rows
structure Def(K:W.Frag)(mg:Str->Option Value)(x:Str)(st:Stmt)(ps:List Str)(f:Addr)(fd:FuncData):Prop where
 fn:Fun K x x st f fd
 bd:Binds K fd ps []
 gl:mg x=some (.ref f)
section
variable{X:Cx}{k:Nat}{f:Addr}{fd:FuncData}{ps:List Str}{sp:Sp}{x:Str}{st:Stmt}{p pos:Pos}{e:Expr}{es:List Expr}{t:TA}
def a4v(d:Def X.K X.mg x st ps f fd)(g:FnOk X.prog X.w X.K X.mg X.base CX0 k f fd ps sp)(hr:Room k X.A)(hg:Gl X x)(ha:PA X (e :: es) t) (hdb:(x == ("__debug__" : Str))=false:=by decide)
  (he:starEach (e :: es) X.env=(false,eval e X.env) :: starEach es X.env:=by rfl) (hpl:(backTo pos (starEach es X.env)).any (·.1)=false:=by rfl):PE X (.Call (.Name x p) (e :: es) [] pos) (b0v sp [] E0 t):=
 c0k g hr hg d.gl d.fn.kp d.bd .nil d1q ha hdb he hpl
end
section
variable{X:Cx}
def ints_of_all{K:W.Frag}{H:Hp}{S:Addr->Prop}:∀ {ns:List Int} {xs:List V},a0a K H S (ns.map .int) xs->xs=ns.map V.int
 | [],xs,h=>by rw [h.unnil];rfl
 | n :: r,xs,h=>by
  obtain⟨v,vr,rfl,hd,t⟩:=h.uncons;rw [b0a hd,ints_of_all t];rfl
end
end L2
namespace L2
open PySem PySem.Spec PyProof.Rows
def Frs(S:Addr->Prop)(H:Hp):Prop:=∀ p,H p=none->S p
section
variable{K:W.Frag}{S:Addr->Prop}{σ:St}{H:Hp}{d:PyData}{ds:List PyData}{t te:TE}{ta:TA}
def c5m{α:Type}{xs:List α}{i:Int}(h0:0 <= i)(h1:i < xs.length):∃ x,atI xs i=some x/\x ∈ xs/\xs[i.toNat]? = some x:=by
 have hk:i.toNat < xs.length:=by omega
 have ei:i=((i.toNat:Nat):Int):=by omega
 have q:atI xs ((i.toNat:Nat):Int)=some xs[i.toNat]:=a1j (getElem?_eq_getElem hk);rw [← ei] at q;exact⟨_,q,getElem_mem hk,getElem?_eq_getElem hk⟩
end
end L2
end
namespace L2
open PySem PySem.Spec PyProof.Rows
section
inductive Ents (w:World):List DictEntry->List (Str × V)->Prop where
 | nil:Ents w [] []
 | cons {x:Str} {t:Tok} {u:Value} {v:V} {es:List DictEntry} {kvs:List (Str × V)}:RelV v u->Ents w es kvs->Ents w (⟨PyData.keyHash w.params x,.str x t,u⟩ :: es) ((x,v) :: kvs)
end
section
inductive L where
 /-- data that nobody changes any more -/
 | d (x:PyData)
 /-- a list that this name alone has -/
 | own (xs:List PyData)
 /-- a list of a caller's, lent to be changed -/
 | bor (xs:List PyData)
 /-- the tape: the script and how many draws were made -/
 | tape (k:Nat)
 /-- the script -/
 | scr
abbrev Rho:=List (Option L)
abbrev Own:=Nat->Option Addr
structure Rc where
 H0:Hp
 S:Addr->Prop
 P:Addr->Prop
 M:Addr->Prop
 A:Addr->Prop
 B:Addr->Prop
 lent:Own
 sa:Addr
 ns:List Int
noncomputable def isIO:L->Bool
 | .bor _=>true
 | .tape _=>true
 | _=>false
noncomputable def live(c:Rc)(O:Own):Addr->Prop:=fun a=>c.S a/\¬ c.P a/\∀ i,O i ≠ some a
def a8a(c:Rc)(p:Addr):Prop:=¬ c.B p/\c.S p/\¬ c.P p
def Scr(K:W.Frag)(H:Hp)(a:Addr)(xs:List V):Prop:=xs.length <= 63 /\
 ((∃ o,H a=some (.frz o (.lst xs))) ∨ ∃ (o:Obj) (its:Array Value) (n:Nat),K.lookup a=some o/\o.cls=.type "list" /\ o.dict=none/\o.data=.seq its n/\its.size <= sizeLine/\Vals xs its.toList)
def Scr.seq{K:W.Frag}{H:Hp}{a:Addr}{xs:List V}(h:Scr K H a xs):SqL K H a xs:=by
 rcases h.2 with⟨o,h⟩ | h
 ·exact .inl (.inr ⟨o,h⟩)
 ·exact .inr h
structure Rel(K:W.Frag)(c:Rc)(O:Own)(ρ:Rho)(σ:St)(H:Hp):Prop where
 dat:∀ (i:Nat) (x:PyData),ρ[i]? = some (some (L.d x))->∃ v,σ[i]? = some (some v)/\AtD K H (live c O) x v
 own:∀ (i:Nat) (xs:List PyData),ρ[i]? = some (some (.own xs))->∃ p vs,O i=some p/\a8a c p/\σ[i]? = some (some (.ref p))/\H p=some (.lst vs)/\a0a K H (live c O) xs vs
 bor:∀ (i:Nat) (xs:List PyData),ρ[i]? = some (some (.bor xs))->∃ p vs,O i=some p/\σ[i]? = some (some (.ref p))/\H p=some (.lst vs)/\a0a K H (live c O) xs vs
 tap:∀ (i k:Nat),ρ[i]? = some (some (.tape k))->∃ p,O i=some p/\σ[i]? = some (some (.ref p))/\H p=some (.lst [.ref c.sa,.int k])
 scr:∀ i:Nat,ρ[i]? = some (some .scr)->σ[i]? = some (some (.ref c.sa))
 inj:∀ i j p,O i=some p->O j=some p->i=j
 has':∀ i p,O i=some p->c.A p/\∃ vs,H p=some (.lst vs)
 am:∀ p,c.A p->c.M p ∨ c.H0 p=none
 frs:∀ p,c.H0 p=none->c.S p
 same:∀ b o,¬ c.M b->c.H0 b=some o->H b=some o
 kept:∀ b,c.H0 b ≠ none->H b ≠ none
 ml:∀ p,c.M p->∃ vs,H p=some (.lst vs)
 pin:∀ p,c.P p ∨ c.B p->H p ≠ none
 lnt:∀ (i:Nat) (p:Addr),c.lent i=some p->∀ l:L,ρ[i]? = some (some l)->isIO l=true->O i=some p
 sc:Scr K H c.sa (c.ns.map V.int)
 len:σ.length=ρ.length
def Rel.has{K:W.Frag}{c:Rc}{O:Own}{ρ:Rho}{σ:St}{H:Hp}(R:Rel K c O ρ σ H)(i:Nat)(p:Addr)(h:O i=some p):(c.M p ∨ c.H0 p=none)/\∃ vs,H p=some (.lst vs):=⟨R.am p (R.has' i p h).1,(R.has' i p h).2⟩
def Pers(K:W.Frag)(S:Addr->Prop)(H:Hp)(S':Addr->Prop)(H':Hp):Prop:=∀ d v,AtD K H S d v->AtD K H' S' d v
section
variable{K:W.Frag}{S S' S2:Addr->Prop}{H H' H2:Hp}
def Pers.refl:Pers K S H S H:=fun _ _ h=>h
def Pers.trans(a:Pers K S H S' H')(b:Pers K S' H' S2 H2):Pers K S H S2 H2:=fun d v h=>b d v (a d v h)
def Pers.all(a:Pers K S H S' H'):∀ {ds:List PyData} {vs:List V},a0a K H S ds vs->a0a K H' S' ds vs
 | [],_,h=>by rw [h.unnil];exact .nil
 | d :: ds,vs,h=>by
  obtain⟨v,r,rfl,h1,h2⟩:=h.uncons;exact .cons (a d v h1) (Pers.all a h2)
def Pers.of(e:Keep S H H')(m:∀ a,S a->S' a):Pers K S H S' H':=fun d v h=>AtD.more m d v (AtD.mono e d v h)
def Pers.same(e:Same H H'):Pers K S H S H':=.of e.keep fun _ h=>h
mutual
def AtD.less{p:Addr}(hp:H p=none)(hs:∀ a,S a->a ≠ p->S' a):∀ (d:PyData) (v:V),AtD K H S d v->AtD K H S' d v
 | .none,_,h=>by unfold AtD at h ⊢;exact h
 | .bool _,_,h=>by unfold AtD at h ⊢;exact h
 | .int _,_,h=>by unfold AtD at h ⊢;exact h
 | .str _,_,h=>by unfold AtD at h ⊢;exact h
 | .list ds,v,h=>by
  obtain⟨a,xs,e1,s,q,r⟩:=a2u h;subst e1;exact a2c (hs a s (a0u q hp)) q (a0a.less hp hs ds xs r)
 | .tuple ds,v,h=>by
  obtain⟨a,xs,e1,q,r⟩:=a2g h;subst e1;exact a1q q (a0a.less hp hs ds xs r)
 | .dict kvs,v,h=>by
  obtain⟨a,ν,e1,s,q,e2⟩:=b1a h;subst e1;exact b5h (hs a s (a0u q hp)) q (a0m.less hp hs kvs ν e2)
def a0a.less{p:Addr}(hp:H p=none)(hs:∀ a,S a->a ≠ p->S' a):∀ (ds:List PyData) (vs:List V),a0a K H S ds vs->a0a K H S' ds vs
 | [],_,h=>by rw [h.unnil];exact .nil
 | d :: ds,vs,h=>by
  obtain⟨v,r,rfl,h1,h2⟩:=h.uncons;exact .cons (AtD.less hp hs d v h1) (a0a.less hp hs ds r h2)
def a0m.less{p:Addr}(hp:H p=none)(hs:∀ a,S a->a ≠ p->S' a):∀ (kvs:List (PyData × PyData)) (κ:List (Key × V)),a0m K H S kvs κ->a0m K H S' kvs κ
 | [],_,h=>by rw [h.unnil];exact .nil
 | (x,d) :: r,κ,h=>by
  obtain⟨k,v,t,rfl,rfl,h1,h2⟩:=h.uncons;exact .cons (AtD.less hp hs d v h1) (a0m.less hp hs r t h2)
end
def Pers.new{p:Addr}(hp:H p=none)(hs:∀ a,S a->a ≠ p->S' a)(o:HO):Pers K S H S' (upd H p o):=fun d v h =>
 AtD.mono (a0f hp o).keep d v (AtD.less hp hs d v h)
end
section
variable{K:W.Frag}{c:Rc}{O:Own}{ρ:Rho}{σ:St}{H H':Hp}
def Scr.keep{a:Addr}{xs:List V}{S:Addr->Prop}(h:Scr K H a xs)(e:Keep S H H'):Scr K H' a xs:=by
 refine⟨h.1,?_⟩;rcases h.2 with⟨o,h⟩ | h
 ·exact .inl ⟨o,e.2.1 _ _ _ h⟩
 ·exact .inr h
def Rel.to{c':Rc}{O':Own}(R:Rel K c O ρ σ H)(hO:∀ i,O' i=O i)(hB:∀ i p,O i=some p->a8a c p->a8a c' p)(hsa:c'.sa=c.sa)(hns:c'.ns=c.ns)
  (hp:Pers K (live c O) H (live c' O') H') (ho:∀ i p vs,O i=some p->H p=some (.lst vs)->H' p=some (.lst vs))
  (hA:∀ i p,O i=some p->c.A p->c'.A p) (am:∀ p,c'.A p->c'.M p ∨ c'.H0 p=none) (frs:∀ p,c'.H0 p=none->c'.S p) (same:∀ b o,¬ c'.M b->c'.H0 b=some o->H' b=some o) (kept:∀ b,c'.H0 b ≠ none->H' b ≠ none) (ml:∀ p,c'.M p->∃ vs,H' p=some (.lst vs))
  (pin:∀ p,c'.P p ∨ c'.B p->H' p ≠ none) (hl:∀ i,c'.lent i=c.lent i) (sc:Scr K H' c.sa (c.ns.map V.int)):Rel K c' O' ρ σ H' where
 dat i x e:=by obtain⟨v,h1,h2⟩:=R.dat i x e;exact⟨v,h1,hp _ _ h2⟩
 own i xs e:=by obtain⟨p,vs,h1,h2,h3,h4,h5⟩:=R.own i xs e;exact⟨p,vs,(hO i).trans h1,hB i p h1 h2,h3,ho i p vs h1 h4,hp.all h5⟩
 bor i xs e:=by obtain⟨p,vs,h1,h3,h4,h5⟩:=R.bor i xs e;exact⟨p,vs,(hO i).trans h1,h3,ho i p vs h1 h4,hp.all h5⟩
 tap i k e:=by obtain⟨p,h1,h2,h3⟩:=R.tap i k e;exact⟨p,(hO i).trans h1,h2,by rw [hsa];exact ho i p _ h1 h3⟩
 scr i e:=by rw [hsa];exact R.scr i e
 inj i j p e1 e2:=R.inj i j p ((hO i).symm.trans e1) ((hO j).symm.trans e2)
 has' i p e:=by
  have e':=(hO i).symm.trans e;obtain⟨h0,vs,h⟩:=R.has' i p e';exact⟨hA i p e' h0,vs,ho i p vs e' h⟩
 am:=am
 frs:=frs
 same:=same
 kept:=kept
 ml:=ml
 pin:=pin
 lnt i p e l h1 h2:=(hO i).trans (R.lnt i p ((hl i).symm.trans e) l h1 h2)
 sc:=by rw [hsa,hns];exact sc
 len:=R.len
def b7h{i:Nat}{p:Addr}(h:O i=some p):¬ live c O p:=fun z=>z.2.2 i h
def Rel.grow(R:Rel K c O ρ σ H)(e:Same H H'):Rel K c O ρ σ H':=
 R.to (fun _=>rfl) (fun _ _ _ z=>z) rfl rfl (.same e) (fun i p vs _ q=>e _ _ q) (fun _ _ _ z=>z) R.am R.frs (fun b o n q=>e _ _ (R.same b o n q))
  (fun b n z=>R.kept b n (e.free z)) (fun p h=>let ⟨vs,q⟩:=R.ml p h;⟨vs,e _ _ q⟩) (fun p h z=>R.pin p h (e.free z)) (fun _=>rfl) (R.sc.keep (S:=Any) e.keep)
def Rel.free0(R:Rel K c O ρ σ H){p:Addr}(h:H p=none):c.H0 p=none:=by
 cases q:c.H0 p with
 | none=>rfl
 | some o=>exact absurd h (R.kept p (by rw [q];exact fun z=>nomatch z))
def Rel.liveNew(R:Rel K c O ρ σ H){p:Addr}(h:H p=none):live c O p:=
 ⟨R.frs p (R.free0 h),fun z=>R.pin p (.inl z) h,fun i e=>by obtain⟨_,vs,q⟩:=R.has i p e;rw [h] at q;cases q⟩
def Rel.frsLive(R:Rel K c O ρ σ H):Frs (live c O) H:=fun _ h=>R.liveNew h
def Rel.write{i:Nat}{p:Addr}{xs:List PyData}{vs vs':List V}{l:L}(R:Rel K c O ρ σ H)(hO:O i=some p)(hH:H p=some (.lst vs))
  (hl:ρ[i]? = some (some (.own xs)) ∨ ρ[i]? = some (some (.bor xs)) ∨ ∃ k:Nat,ρ[i]? = some (some (.tape k)))
  (hl':(∃ ys,ρ[i]? = some (some (.own xs))/\l=.own ys/\a0a K H (live c O) ys vs') ∨ (∃ ys,ρ[i]? = some (some (.bor xs))/\l=.bor ys/\a0a K H (live c O) ys vs') ∨ (∃ k k':Nat,ρ[i]? = some (some (.tape k))/\l=.tape k'/\vs'=[.ref c.sa,.int k'])) :
  Rel K c O (ρ.set i (some l)) σ (upd H p (.lst vs'))/\Pers K (live c O) H (live c O) (upd H p (.lst vs')):=by
 have hi:i < ρ.length:=by
  rcases hl with h | h | ⟨k,h⟩<;>exact(List.getElem?_eq_some_iff.mp h).1
 have kp:Keep (live c O) H (upd H p (.lst vs')):=(c5i hH).less fun b hb e=>by
  subst e;exact b7h hO hb
 have P:Pers K (live c O) H (live c O) (upd H p (.lst vs')):=.of kp fun _ h=>h;have at_i:(ρ.set i (some l))[i]? = some (some l):=by rw [getElem?_set_self hi]
 have at_j:∀ j,j ≠ i->(ρ.set i (some l))[j]? = ρ[j]?:=fun j hj=>getElem?_set_ne (Ne.symm hj);have other:∀ j q,j ≠ i->O j=some q->q ≠ p:=fun j q hj e z=>hj (R.inj j i p (by rw [← z];exact e) hO);have hσ:σ[i]? = some (some (.ref p)):=by
  rcases hl with h | h | ⟨k,h⟩
  ·obtain⟨p',_,h1,_,h3,_⟩:=R.own i xs h;rw [hO] at h1;cases h1;exact h3
  ·obtain⟨p',_,h1,h3,_⟩:=R.bor i xs h;rw [hO] at h1;cases h1;exact h3
  ·obtain⟨p',h1,h3,_⟩:=R.tap i k h;rw [hO] at h1;cases h1;exact h3
 refine⟨⟨fun j x e=>?_,fun j ys e=>?_,fun j ys e=>?_,fun j k e=>?_,fun j e=>?_,R.inj,fun j q e=>?_,R.am,R.frs,fun b o n q=>?_,fun b n z=>?_,fun q h=>?_,fun q h z=>?_,fun j q e l2 h1 h2=>?_,?_,?_⟩,P⟩
 ·by_cases hj:j=i
  ·subst hj;rw [at_i] at e
   rcases hl' with⟨ys,_,rfl,_⟩ | ⟨ys,_,rfl,_⟩ | ⟨k,k',_,rfl,_⟩<;>cases e
  ·rw [at_j j hj] at e
   obtain⟨v,h1,h2⟩:=R.dat j x e;exact⟨v,h1,P _ _ h2⟩
 ·by_cases hj:j=i
  ·subst hj;rw [at_i] at e
   rcases hl' with⟨zs,h0,rfl,h⟩ | ⟨zs,_,rfl,_⟩ | ⟨k,k',_,rfl,_⟩<;>cases e
   obtain⟨p',_,h1,h2,h3,_⟩:=R.own j xs h0;rw [hO] at h1;cases h1;exact⟨p,vs',hO,h2,h3,a0d,P.all h⟩
  ·rw [at_j j hj] at e
   obtain⟨q,ws,h1,h2,h3,h4,h5⟩:=R.own j ys e;exact⟨q,ws,h1,h2,h3,by rw [a0b (other j q hj h1)];exact h4,P.all h5⟩
 ·by_cases hj:j=i
  ·subst hj;rw [at_i] at e
   rcases hl' with⟨zs,_,rfl,_⟩ | ⟨zs,h0,rfl,h⟩ | ⟨k,k',_,rfl,_⟩<;>cases e
   exact⟨p,vs',hO,hσ,a0d,P.all h⟩
  ·rw [at_j j hj] at e
   obtain⟨q,ws,h1,h3,h4,h5⟩:=R.bor j ys e;exact⟨q,ws,h1,h3,by rw [a0b (other j q hj h1)];exact h4,P.all h5⟩
 ·by_cases hj:j=i
  ·subst hj;rw [at_i] at e
   rcases hl' with⟨zs,_,rfl,_⟩ | ⟨zs,_,rfl,_⟩ | ⟨k1,k',_,rfl,h⟩<;>cases e
   exact⟨p,hO,hσ,by rw [a0d,h]⟩
  ·rw [at_j j hj] at e
   obtain⟨q,h1,h3,h4⟩:=R.tap j k e;exact⟨q,h1,h3,by rw [a0b (other j q hj h1)];exact h4⟩
 ·by_cases hj:j=i
  ·subst hj;rw [at_i] at e
   rcases hl' with⟨ys,_,rfl,_⟩ | ⟨ys,_,rfl,_⟩ | ⟨k,k',_,rfl,_⟩<;>cases e
  ·rw [at_j j hj] at e
   exact R.scr j e
 ·obtain⟨h1,ws,h2⟩:=R.has' j q e
  refine⟨h1,?_⟩;by_cases hq:q=p
  ·subst hq;exact⟨vs',a0d⟩
  ·exact⟨ws,by rw [a0b hq];exact h2⟩
 ·have hb:b ≠ p:=by
   rintro rfl;rcases (R.has i b hO).1 with z | z
   ·exact n z
   ·rw [z] at q;cases q
  rw [a0b hb];exact R.same b o n q
 ·by_cases hb:b=p
  ·subst hb;rw [a0d] at z;cases z
  ·rw [a0b hb] at z;exact R.kept b n z
 ·obtain⟨ws,h2⟩:=R.ml q h
  by_cases hq:q=p
  ·subst hq;exact⟨vs',a0d⟩
  ·exact⟨ws,by rw [a0b hq];exact h2⟩
 ·by_cases hb:q=p
  ·subst hb;rw [a0d] at z;cases z
  ·rw [a0b hb] at z;exact R.pin q h z
 ·by_cases hj:j=i
  ·subst hj;rw [at_i] at h1;cases h1
   rcases hl' with⟨zs,_,rfl,_⟩ | ⟨zs,h0,rfl,_⟩ | ⟨k1,k',h0,rfl,_⟩
   ·cases h2
   ·exact R.lnt j q e _ h0 rfl
   ·exact R.lnt j q e _ h0 rfl
  ·rw [at_j j hj] at h1;exact R.lnt j q e _ h1 h2
 ·exact R.sc.keep kp
 ·rw [length_set];exact R.len
noncomputable def a3h(O:Own)(i:Nat):Own:=fun j=>if j=i then none else O j
def a8y{i:Nat}{a:Addr}(h:live c O a):live c (a3h O i) a:=⟨h.1,h.2.1,fun j e=>by
 unfold a3h at e;by_cases hj:j=i
 ·rw [if_pos hj] at e;cases e
 ·rw [if_neg hj] at e;exact h.2.2 j e⟩
def a2d{i j:Nat}(h:j ≠ i):a3h O i j=O j:=if_neg h
def c2p{i:Nat}:a3h O i i=none:=if_pos rfl
def a1t{i j:Nat}{p:Addr}(e:a3h O i j=some p):j ≠ i/\O j=some p:=by
 by_cases hj:j=i
 ·subst hj;rw [c2p] at e;cases e
 ·rw [a2d hj] at e;exact⟨hj,e⟩
def Rel.freeze{i:Nat}{xs:List PyData}(R:Rel K c O ρ σ H)(hl:ρ[i]? = some (some (.own xs))) :
  Rel K c (a3h O i) (ρ.set i (some (.d (.list xs)))) σ H/\Pers K (live c O) H (live c (a3h O i)) H:=by
 obtain⟨p,vs,hO,hB,hσ,hH,hA⟩:=R.own i xs hl;have hi:i < ρ.length:=(List.getElem?_eq_some_iff.mp hl).1;have P:Pers K (live c O) H (live c (a3h O i)) H:=.of (Keep.refl _ _) fun _ h=>a8y h;have at_i:(ρ.set i (some (.d (.list xs))))[i]? = some (some (.d (.list xs))):=by rw [getElem?_set_self hi]
 have at_j:∀ j,j ≠ i->(ρ.set i (some (.d (.list xs))))[j]? = ρ[j]?:=fun j hj=>getElem?_set_ne (Ne.symm hj);have ne:∀ {j:Nat} {l:L},(ρ.set i (some (.d (.list xs))))[j]? = some (some l)->(∀ x,l ≠ .d x)->j ≠ i/\ρ[j]? = some (some l):=fun{j l} e n=>by
  by_cases hj:j=i
  ·subst hj;rw [at_i] at e;cases e;exact absurd rfl (n _)
  ·rw [at_j j hj] at e;exact⟨hj,e⟩
 refine⟨⟨fun j x e=>?_,fun j ys e=>?_,fun j ys e=>?_,fun j k e=>?_,fun j e=>?_,fun a b q e1 e2=>R.inj a b q (a1t e1).2 (a1t e2).2,fun j q e=>R.has' j q (a1t e).2,R.am,R.frs,R.same,R.kept,R.ml,R.pin,fun j q e l h1 h2=>?_,R.sc,?_⟩,P⟩
 ·by_cases hj:j=i
  ·subst hj;rw [at_i] at e;cases e
   refine⟨.ref p,hσ,a2c ⟨hB.2.1,hB.2.2,fun k e=>?_⟩ hH (P.all hA)⟩;obtain⟨h1,h2⟩:=a1t e;exact h1 (R.inj k j p h2 hO)
  ·rw [at_j j hj] at e
   obtain⟨v,h1,h2⟩:=R.dat j x e;exact⟨v,h1,P _ _ h2⟩
 ·obtain⟨hj,e⟩:=ne e fun _ z=>nomatch z
  obtain⟨q,ws,h1,h2,h3,h4,h5⟩:=R.own j ys e;exact⟨q,ws,(a2d hj).trans h1,h2,h3,h4,P.all h5⟩
 ·obtain⟨hj,e⟩:=ne e fun _ z=>nomatch z
  obtain⟨q,ws,h1,h3,h4,h5⟩:=R.bor j ys e;exact⟨q,ws,(a2d hj).trans h1,h3,h4,P.all h5⟩
 ·obtain⟨hj,e⟩:=ne e fun _ z=>nomatch z
  obtain⟨q,h1,h3,h4⟩:=R.tap j k e;exact⟨q,(a2d hj).trans h1,h3,h4⟩
 ·obtain⟨hj,e⟩:=ne e fun _ z=>nomatch z
  exact R.scr j e
 ·obtain⟨hj,e'⟩:=ne h1 fun x z=>by subst z;cases h2
  rw [a2d hj];exact R.lnt j q e _ e' h2
 ·rw [length_set];exact R.len
def Rel.setD{i:Nat}{x:PyData}{v:V}(R:Rel K c O ρ σ H)(hi:i < ρ.length)(h:AtD K H (live c O) x v) :
  Rel K c (a3h O i) (ρ.set i (some (.d x))) (σ.set i (some v)) H/\Pers K (live c O) H (live c (a3h O i)) H:=by
 have P:Pers K (live c O) H (live c (a3h O i)) H:=.of (Keep.refl _ _) fun _ h=>a8y h;have at_i:∀ l:Option L,(ρ.set i l)[i]? = some l:=fun l=>by rw [getElem?_set_self hi]
 have at_j:∀ (l:Option L) j,j ≠ i->(ρ.set i l)[j]? = ρ[j]?:=fun l j hj=>getElem?_set_ne (Ne.symm hj);have st_j:∀ j,j ≠ i->(σ.set i (some v))[j]? = σ[j]?:=fun j hj=>getElem?_set_ne (Ne.symm hj);have ne:∀ {j:Nat} {l:L},(ρ.set i (some (.d x)))[j]? = some (some l)->(∀ x,l ≠ .d x)->j ≠ i/\ρ[j]? = some (some l):=fun{j l} e n=>by
  by_cases hj:j=i
  ·subst hj;rw [at_i] at e;cases e;exact absurd rfl (n _)
  ·rw [at_j _ j hj] at e;exact⟨hj,e⟩
 refine⟨⟨fun j y e=>?_,fun j ys e=>?_,fun j ys e=>?_,fun j k e=>?_,fun j e=>?_,fun a b q e1 e2=>R.inj a b q (a1t e1).2 (a1t e2).2,fun j q e=>R.has' j q (a1t e).2,R.am,R.frs,R.same,R.kept,R.ml,R.pin,fun j q e l h1 h2=>?_,R.sc,?_⟩,P⟩
 ·by_cases hj:j=i
  ·subst hj;rw [at_i] at e;cases e
   exact⟨v,by rw [getElem?_set_self (by rw [R.len];exact hi)],P _ _ h⟩
  ·rw [at_j _ j hj] at e
   obtain⟨v,h1,h2⟩:=R.dat j y e;exact⟨v,by rw [st_j j hj];exact h1,P _ _ h2⟩
 ·obtain⟨hj,e⟩:=ne e fun _ z=>nomatch z
  obtain⟨q,ws,h1,h2,h3,h4,h5⟩:=R.own j ys e;exact⟨q,ws,(a2d hj).trans h1,h2,by rw [st_j j hj];exact h3,h4,P.all h5⟩
 ·obtain⟨hj,e⟩:=ne e fun _ z=>nomatch z
  obtain⟨q,ws,h1,h3,h4,h5⟩:=R.bor j ys e;exact⟨q,ws,(a2d hj).trans h1,by rw [st_j j hj];exact h3,h4,P.all h5⟩
 ·obtain⟨hj,e⟩:=ne e fun _ z=>nomatch z
  obtain⟨q,h1,h3,h4⟩:=R.tap j k e;exact⟨q,(a2d hj).trans h1,by rw [st_j j hj];exact h3,h4⟩
 ·obtain⟨hj,e⟩:=ne e fun _ z=>nomatch z
  rw [st_j j hj];exact R.scr j e
 ·obtain⟨hj,e'⟩:=ne h1 fun x z=>by subst z;cases h2
  rw [a2d hj];exact R.lnt j q e _ e' h2
 ·rw [length_set,length_set];exact R.len
noncomputable def Rc.add(c:Rc)(p:Addr):Rc:={ c with P:=fun a=>c.P a ∨ a=p }
def a8z{p a:Addr}(h:live c O a)(n:a ≠ p):live (c.add p) O a:=⟨h.1,fun z=>z.elim h.2.1 n,h.2.2⟩
def a3i{p a:Addr}(h:live (c.add p) O a):live c O a/\a ≠ p:=⟨⟨h.1,fun z=>h.2.1 (.inl z),h.2.2⟩,fun z=>h.2.1 (.inr z)⟩
def Rel.lay{p:Addr}{o:HO}(R:Rel K c O ρ σ H)(hp:H p=none):Rel K (c.add p) O ρ σ (upd H p o)/\Pers K (live c O) H (live (c.add p) O) (upd H p o):=by
 have P:Pers K (live c O) H (live (c.add p) O) (upd H p o):=.new hp (fun a h n=>a8z h n) o;have S:=a0f hp o;refine⟨R.to (fun _=>rfl) (fun i q hq z=>⟨z.1,z.2.1,fun w=>w.elim z.2.2 fun e=>?_⟩) rfl rfl P (fun i q vs _ h=>S _ _ h) (fun _ _ _ z=>z) R.am R.frs (fun b ob n q=>S _ _ (R.same b ob n q))
  (fun b n z=>R.kept b n (S.free z)) (fun p h=>let ⟨vs,q⟩:=R.ml p h;⟨vs,S _ _ q⟩) (fun q h z=>?_) (fun _=>rfl) (R.sc.keep (S:=Any) S.keep),P⟩
 ·obtain⟨_,vs,h⟩:=R.has i q hq
  rw [e,hp] at h;cases h
 ·rcases h with(h | rfl) | h
  ·exact R.pin q (.inl h) (S.free z)
  ·rw [a0d] at z;cases z
  ·exact R.pin q (.inr h) (S.free z)
def Rel.unadd{p:Addr}(R:Rel K (c.add p) O ρ σ H):Rel K c O ρ σ H/\Pers K (live (c.add p) O) H (live c O) H:=by
 have P:Pers K (live (c.add p) O) H (live c O) H:=.of (Keep.refl _ _) fun a h=>(a3i h).1;exact⟨R.to (fun _=>rfl) (fun i q _ z=>⟨z.1,z.2.1,fun w=>z.2.2 (.inl w)⟩) rfl rfl P (fun _ _ _ _ h=>h) (fun _ _ _ z=>z) R.am R.frs R.same R.kept R.ml (fun q h=>R.pin q (h.elim (fun z=>.inl (.inl z)) .inr)) (fun _=>rfl) R.sc,P⟩
noncomputable def owned(O:Own)(i:Nat)(p:Addr):Own:=fun j=>if j=i then some p else O j
def a5s{i j:Nat}{p:Addr}(h:j ≠ i):owned O i p j=O j:=if_neg h
def a9a{i:Nat}{p:Addr}:owned O i p i=some p:=if_pos rfl
def Rel.setOwn{i:Nat}{p:Addr}{xs:List PyData}{vs:List V}(R:Rel K (c.add p) O ρ σ H)(hi:i < ρ.length)(h0:c.H0 p=none)(hB:¬ c.B p)(hP:¬ c.P p)(hn:∀ j,O j ≠ some p)(hAp:c.A p)(hH:H p=some (.lst vs))(hA:a0a K H (live (c.add p) O) xs vs) :
  Rel K c (owned O i p) (ρ.set i (some (.own xs))) (σ.set i (some (.ref p))) H/\Pers K (live (c.add p) O) H (live c (owned O i p)) H:=by
 have P:Pers K (live (c.add p) O) H (live c (owned O i p)) H:=.of (Keep.refl _ _) fun a h=>by
  obtain⟨h1,h2⟩:=a3i h;refine⟨h1.1,h1.2.1,fun j e=>?_⟩;by_cases hj:j=i
  ·subst hj;rw [a9a] at e;cases e;exact h2 rfl
  ·rw [a5s hj] at e;exact h1.2.2 j e
 have at_i:(ρ.set i (some (.own xs)))[i]? = some (some (.own xs)):=by rw [getElem?_set_self hi]
 have at_j:∀ j,j ≠ i->(ρ.set i (some (.own xs)))[j]? = ρ[j]?:=fun j hj=>getElem?_set_ne (Ne.symm hj);have st_j:∀ j,j ≠ i->(σ.set i (some (.ref p)))[j]? = σ[j]?:=fun j hj=>getElem?_set_ne (Ne.symm hj);have ne:∀ {j:Nat} {l:L},(ρ.set i (some (.own xs)))[j]? = some (some l)->(∀ x,l ≠ .own x)->j ≠ i/\ρ[j]? = some (some l):=fun{j l} e n=>by
  by_cases hj:j=i
  ·subst hj;rw [at_i] at e;cases e;exact absurd rfl (n _)
  ·rw [at_j j hj] at e;exact⟨hj,e⟩
 have ow:∀ {j:Nat} {q:Addr},owned O i p j=some q->(j=i/\q=p) ∨ (j ≠ i/\O j=some q):=fun{j q} e=>by
  by_cases hj:j=i
  ·subst hj;rw [a9a] at e;cases e;exact .inl ⟨rfl,rfl⟩
  ·rw [a5s hj] at e;exact .inr ⟨hj,e⟩
 refine⟨⟨fun j y e=>?_,fun j ys e=>?_,fun j ys e=>?_,fun j k e=>?_,fun j e=>?_,fun a b q e1 e2=>?_,fun j q e=>?_,R.am,R.frs,R.same,R.kept,R.ml,fun q h=>R.pin q (h.elim (fun z=>.inl (.inl z)) .inr),fun j q e l h1 h2=>?_,R.sc,?_⟩,P⟩
 ·obtain⟨hj,e⟩:=ne e fun _ z=>nomatch z
  obtain⟨v,h1,h2⟩:=R.dat j y e;exact⟨v,by rw [st_j j hj];exact h1,P _ _ h2⟩
 ·by_cases hj:j=i
  ·subst hj;rw [at_i] at e;cases e
   exact⟨p,vs,a9a,⟨hB,R.frs p h0,hP⟩,by rw [getElem?_set_self (by rw [R.len];exact hi)],hH,P.all hA⟩
  ·rw [at_j j hj] at e
   obtain⟨q,ws,h1,h2,h3,h4,h5⟩:=R.own j ys e;exact⟨q,ws,(a5s hj).trans h1,⟨h2.1,h2.2.1,fun z=>h2.2.2 (.inl z)⟩,by rw [st_j j hj];exact h3,h4,P.all h5⟩
 ·obtain⟨hj,e⟩:=ne e fun _ z=>nomatch z
  obtain⟨q,ws,h1,h3,h4,h5⟩:=R.bor j ys e;exact⟨q,ws,(a5s hj).trans h1,by rw [st_j j hj];exact h3,h4,P.all h5⟩
 ·obtain⟨hj,e⟩:=ne e fun _ z=>nomatch z
  obtain⟨q,h1,h3,h4⟩:=R.tap j k e;exact⟨q,(a5s hj).trans h1,by rw [st_j j hj];exact h3,h4⟩
 ·obtain⟨hj,e⟩:=ne e fun _ z=>nomatch z
  rw [st_j j hj];exact R.scr j e
 ·rcases ow e1 with⟨h1,h2⟩ | ⟨h1,h2⟩<;>rcases ow e2 with⟨h3,h4⟩ | ⟨h3,h4⟩
  ·rw [h1,h3]
  ·rw [h2] at h4;exact absurd h4 (hn b)
  ·rw [h4] at h2;exact absurd h2 (hn a)
  ·exact R.inj a b q h2 h4
 ·rcases ow e with⟨h1,h2⟩ | ⟨h1,h2⟩
  ·subst h2;exact⟨hAp,vs,hH⟩
  ·exact R.has' j q h2
 ·obtain⟨hj,e'⟩:=ne h1 fun x z=>by subst z;cases h2
  rw [a5s hj];exact R.lnt j q e _ e' h2
 ·rw [length_set,length_set];exact R.len
def Rel.disown{i:Nat}{xs:List PyData}(R:Rel K c O ρ σ H)(hl:ρ[i]? = some (some (.own xs))):∃ p vs,σ[i]? = some (some (.ref p))/\O i=some p/\a8a c p/\H p=some (.lst vs)/\Rel K (c.add p) (a3h O i) (ρ.set i none) σ H/\a0a K H (live (c.add p) (a3h O i)) xs vs:=by
 obtain⟨p,vs,hO,hB,hσ,hH,hA⟩:=R.own i xs hl;have hlive:∀ a,live c O a->live (c.add p) (a3h O i) a:=fun a h=>⟨h.1,fun z=>z.elim h.2.1 fun e=>by subst e;exact b7h hO h,(a8y (i:=i) h).2.2⟩;have P:Pers K (live c O) H (live (c.add p) (a3h O i)) H:=.of (Keep.refl _ _) hlive;have ne:∀ {j:Nat} {l:L},(ρ.set i none)[j]? = some (some l)->j ≠ i/\ρ[j]? = some (some l):=fun{j l} e=>by
  by_cases hj:j=i
  ·subst hj
   rw [getElem?_set_self (List.getElem?_eq_some_iff.mp hl).1] at e;cases e
  ·rw [getElem?_set_ne (Ne.symm hj)] at e;exact⟨hj,e⟩
 refine⟨p,vs,hσ,hO,hB,hH,⟨fun j x e=>?_,fun j ys e=>?_,fun j ys e=>?_,fun j k e=>?_,fun j e=>R.scr j (ne e).2,fun a b q e1 e2=>R.inj a b q (a1t e1).2 (a1t e2).2,fun j q e=>R.has' j q (a1t e).2,R.am,R.frs,R.same,R.kept,R.ml,fun q h z=>?_,fun j q e l h1 h2=>?_,R.sc,?_⟩,P.all hA⟩
 ·obtain⟨hj,e⟩:=ne e
  obtain⟨v,h1,h2⟩:=R.dat j x e;exact⟨v,h1,P _ _ h2⟩
 ·obtain⟨hj,e⟩:=ne e
  obtain⟨q,ws,h1,h2,h3,h4,h5⟩:=R.own j ys e;exact⟨q,ws,(a2d hj).trans h1,⟨h2.1,h2.2.1,fun z=>z.elim h2.2.2 fun e=>hj (R.inj j i p (by rw [← e];exact h1) hO)⟩,h3,h4,P.all h5⟩
 ·obtain⟨hj,e⟩:=ne e
  obtain⟨q,ws,h1,h3,h4,h5⟩:=R.bor j ys e;exact⟨q,ws,(a2d hj).trans h1,h3,h4,P.all h5⟩
 ·obtain⟨hj,e⟩:=ne e
  obtain⟨q,h1,h3,h4⟩:=R.tap j k e;exact⟨q,(a2d hj).trans h1,h3,h4⟩
 ·rcases h with(h | rfl) | h
  ·exact R.pin q (.inl h) z
  ·rw [hH] at z;cases z
  ·exact R.pin q (.inr h) z
 ·obtain⟨hj,e'⟩:=ne h1
  rw [a2d hj];exact R.lnt j q e _ e' h2
 ·rw [length_set];exact R.len
end
end
section
inductive DV where
 | d (x:PyData)
 | sl (i:Nat)
noncomputable def AtV(K:W.Frag)(S:Addr->Prop)(σ:St)(H:Hp):DV->V->Prop
 | .d x,v=>AtD K H S x v
 | .sl i,v=>σ[i]? = some (some v)
noncomputable def a8l:L->Option PyData
 | .d x=>some x
 | .own xs=>some (.list xs)
 | .bor xs=>some (.list xs)
 | _=>none
noncomputable def a1p(ρ:Rho):DV->Option PyData
 | .d x=>some x
 | .sl i=>(ρ[i]?.join).bind a8l
def AtT(K:W.Frag)(H:Hp)(S:Addr->Prop)(x:PyData)(v:V):Prop:=AtD K H S x v ∨ ∃ ds a vs,x=.list ds/\v=.ref a/\H a=some (.lst vs)/\a0a K H S ds vs
def need{α:Type}(o:Option α)(k:α->Prop):Prop:=match o with
 | some a=>k a
 | none=>False
theorem b0b{α:Type}{a:α}{k:α->Prop}:need (some a) k=k a:=rfl
theorem c5n{α:Type}{k:α->Prop}:need (none:Option α) k=False:=rfl
def ne{α:Type}{o:Option α}{k:α->Prop}(h:need o k):∃ a,o=some a/\k a:=by
 cases o with
 | none=>exact h.elim
 | some a=>exact⟨a,rfl,h⟩
def d3o{α:Type}{o:Option α}{k:α->Prop}{a:α}(e:o=some a)(h:k a):need o k:=by rw [e];exact h
theorem itT{a b:Prop}:(if true=true then a else b)=a:=rfl
theorem itF{a b:Prop}:(if false=true then a else b)=b:=rfl
theorem mapC{α β:Type}{f:α->β}{a:α}{l:List α}:(a :: l).map f=f a :: l.map f:=rfl
theorem mapN{α β:Type}{f:α->β}:([]:List α).map f=[]:=rfl
abbrev TDE:=Rho->(DV->Rho->Prop)->Prop
abbrev TDF:=Rho->(List PyData->Rho->Prop)->Prop
abbrev TDT:=Rho->(Bool->Rho->Prop)->Prop
abbrev TDA:=Rho->(List DV->Rho->Prop)->Prop
def b1d(c:Rc)(O:Own)(p:Addr):Prop:=c.H0 p=none/\¬ c.B p/\¬ c.P p/\∀ j,O j ≠ some p
def AdE(K:W.Frag)(t:TE)(dt:TDE):Prop:=∀ (c:Rc) (O:Own) (ρ:Rho) (σ:St) (H:Hp) (Qd:DV->Rho->Prop) (Q:VK),Rel K c O ρ σ H->dt ρ Qd ->
 (∀ x ρ' O' v H',Qd x ρ'->Rel K c O' ρ' σ H'->Pers K (live c O) H (live c O') H'->AtV K (live c O') σ H' x v->Q v H')->t σ H Q
def AdF(K:W.Frag)(t:TE)(dt:TDF):Prop:=∀ (c:Rc) (O:Own) (ρ:Rho) (σ:St) (H:Hp) (Qd:List PyData->Rho->Prop) (Q:VK),Rel K c O ρ σ H->dt ρ Qd ->
 (∀ xs ρ' O' p vs H',Qd xs ρ'->Rel K (c.add p) O' ρ' σ H'->Pers K (live c O) H (live (c.add p) O') H'->b1d c O' p->H' p=some (.lst vs)->a0a K H' (live (c.add p) O') xs vs->Q (.ref p) H')->t σ H Q
def AdT(K:W.Frag)(t:TT)(dt:TDT):Prop:=∀ (c:Rc) (O:Own) (ρ:Rho) (σ:St) (H:Hp) (Qd:Bool->Rho->Prop) (Q:Bool->Hp->Prop),Rel K c O ρ σ H->dt ρ Qd ->
 (∀ b ρ' O' H',Qd b ρ'->Rel K c O' ρ' σ H'->Pers K (live c O) H (live c O') H'->Q b H')->t σ H Q
noncomputable def AtVs(K:W.Frag)(S:Addr->Prop)(σ:St)(H:Hp):List DV->List V->Prop:=Paired (AtV K S σ H)
def AdA(K:W.Frag)(t:TA)(dt:TDA):Prop:=∀ (c:Rc) (O:Own) (ρ:Rho) (σ:St) (H:Hp) (Qd:List DV->Rho->Prop) (Q:List V->Hp->Prop),Rel K c O ρ σ H->dt ρ Qd ->
 (∀ xs ρ' O' vs H',Qd xs ρ'->Rel K c O' ρ' σ H'->Pers K (live c O) H (live c O') H'->AtVs K (live c O') σ H' xs vs->Q vs H')->t σ H Q
def DE(X:Cx)(e:Expr)(dt:TDE):Prop:=∃ t,PE X e t/\AdE X.K t dt
def DF(X:Cx)(e:Expr)(dt:TDF):Prop:=∃ t,PE X e t/\AdF X.K t dt
def DT(X:Cx)(e:Expr)(dt:TDT):Prop:=∃ t,PT X e t/\AdT X.K t dt
def DW(X:Cx)(e:Expr)(dt:TDT):Prop:=∃ t,PW X e t/\AdT X.K t dt
def DA(X:Cx)(es:List Expr)(dt:TDA):Prop:=∃ t,PA X es t/\AdA X.K t dt
section
variable{K:W.Frag}{c:Rc}{O:Own}{ρ:Rho}{σ:St}{H H':Hp}{S S':Addr->Prop}
def AtV.pers{x:DV}{v:V}(h:AtV K S σ H x v)(P:Pers K S H S' H'):AtV K S' σ H' x v:=by
 cases x with
 | d x=>exact P _ _ h
 | sl i=>exact h
def AtVs.pers{xs:List DV}{vs:List V}(h:AtVs K S σ H xs vs)(P:Pers K S H S' H'):AtVs K S' σ H' xs vs:=Paired.imp' (fun _ _ q=>q.pers P) h
def AtD.top{x:PyData}{v:V}(h:AtD K H S x v):AtT K H S x v:=.inl h
def Rel.top(R:Rel K c O ρ σ H){x:DV}{v:V}{d:PyData}(h:AtV K (live c O) σ H x v)(e:a1p ρ x=some d):AtT K H (live c O) d v:=by
 cases x with
 | d x=>cases e;exact .inl h
 | sl i =>
  have h':σ[i]? = some (some v):=h;have e':(ρ[i]?.join).bind a8l=some d:=e;cases q:ρ[i]? with
  | none=>rw [q] at e';cases e'
  | some ol =>
   cases ol with
   | none=>rw [q] at e';cases e'
   | some l =>
    rw [q] at e';cases l with
    | d x =>
     cases e'
     obtain⟨w,h1,h2⟩:=R.dat i _ q;rw [h'] at h1;cases h1;exact .inl h2
    | own xs =>
     cases e'
     obtain⟨p,vs,_,_,h1,h2,h3⟩:=R.own i _ q;rw [h'] at h1;cases h1;exact .inr ⟨xs,p,vs,rfl,rfl,h2,h3⟩
    | bor xs =>
     cases e'
     obtain⟨p,vs,_,h1,h2,h3⟩:=R.bor i _ q;rw [h'] at h1;cases h1;exact .inr ⟨xs,p,vs,rfl,rfl,h2,h3⟩
    | tape k=>cases e'
    | scr=>cases e'
def AtT.list{ds:List PyData}{v:V}(h:AtT K H S (.list ds) v):∃ a vs,v=.ref a/\H a=some (.lst vs)/\a0a K H S ds vs:=by
 rcases h with h | ⟨ds',a,vs,e,e2,h1,h2⟩
 ·obtain⟨a,vs,e,_,h1,h2⟩:=a2u h
  exact⟨a,vs,e,h1,h2⟩
 ·cases e;exact⟨a,vs,e2,h1,h2⟩
def AtT.at{x:PyData}{v:V}(h:AtT K H S x v)(n:∀ ds,x ≠ .list ds):AtD K H S x v:=by
 rcases h with h | ⟨ds',a,vs,e,_⟩
 ·exact h
 ·exact absurd e (n ds')
def AtT.any{x:PyData}{v:V}(h:AtT K H S x v):AtD K H Any x v:=by
 rcases h with h | ⟨ds',a,vs,e,e2,h1,h2⟩
 ·exact AtD.more (fun _ _=>trivial) _ _ h
 ·subst e e2;exact a2c trivial h1 (a0a.more (fun _ _=>trivial) _ _ h2)
def dVar(i:Nat):TDE:=fun ρ Q=>(ρ[i]?.join).isSome=true/\Q (.sl i) ρ
def d7w{i:Nat}:AdE K (tVar i) (dVar i):=by
 intro c O ρ σ H Qd Q R h k;obtain⟨h0,h⟩:=h;have ex:∃ v,σ[i]? = some (some v):=by
  cases q:ρ[i]? with
  | none=>rw [q] at h0;cases h0
  | some ol =>
   cases ol with
   | none=>rw [q] at h0;cases h0
   | some l =>
    cases l with
    | d x=>obtain⟨w,h1,_⟩:=R.dat i _ q;exact⟨w,h1⟩
    | own xs=>obtain⟨p,vs,_,_,h1,_⟩:=R.own i _ q;exact⟨_,h1⟩
    | bor xs=>obtain⟨p,vs,_,h1,_⟩:=R.bor i _ q;exact⟨_,h1⟩
    | tape k=>obtain⟨p,_,h1,_⟩:=R.tap i _ q;exact⟨_,h1⟩
    | scr=>exact⟨_,R.scr i q⟩
 obtain⟨v,hv⟩:=ex;exact⟨v,hv,k _ _ _ _ _ h R .refl hv⟩
def dC(x:PyData):TDE:=fun ρ Q=>Q (.d x) ρ
def ad_c{x:PyData}{v:V}(hx:∀ (S:Addr->Prop) H,AtD K H S x v):AdE K (tC v) (dC x):=fun c O ρ σ H Qd Q R h k=>k _ _ _ _ _ h R .refl (hx _ _)
end
section
variable{X:Cx}{a b e:Expr}{es:List Expr}{da db:TDE}{pos:Pos}
def dv(i:Nat){x:Str}(hN:X.N[i]? = some x:=by rfl)(hv:Vis X.env.scope x:=by first | exact Or.inl rfl | exact Or.inr 'e' | exact Or.inr (Or.inr rfl)) (hd:(x == ("__debug__" : Str))=false:=by decide)
  (hcd:(x == ("__classdict__" : Str))=false:=by decide):DE X (.Name x pos) (dVar i):=⟨_,a8g hN hv hd hcd,d7w⟩
def a0n{i j}:DE X (.Constant (.int i) j pos) (dC (.int i)):=⟨_,a0t,ad_c fun _ _=>a1o i⟩
def a8m{i j}:DE X (.Constant (.str i) j pos) (dC (.str i)):=⟨_,c4k,ad_c fun _ _=>b0y i⟩
def de_bl{i j}:DE X (.Constant (.bool i) j pos) (dC (.bool i)):=⟨_,d1h,ad_c fun _ _=>a3w i⟩
def c5o{j}:DE X (.Constant .none j pos) (dC .none):=⟨_,b6q,ad_c fun _ _=>a5r⟩
def c0r{x:Str}{i:Int}(hg:Gl X x)(hm:∃ t,X.mg x=some (.int i t)) (hd:(x == ("__debug__" : Str))=false:=by decide):DE X (.Name x pos) (dC (.int i)):=by
 obtain⟨t,hm⟩:=hm;exact⟨_,a4z hg hm (v:=.int i) ⟨t,rfl⟩ hd,ad_c fun _ _=>a1o i⟩
abbrev F2:=PyData->PyData->Option PyData
def AdR(K:W.Frag)(r:R2)(f:F2):Prop:=∀ (S:Addr->Prop) (H:Hp) (x y:V) (dx dy z:PyData) (Q:VK),Frs S H->AtT K H S dx x->AtT K H S dy y->f dx dy=some z ->
 (∀ v H',Same H H'->AtD K H' S z v->Q v H')->r x y H Q
def dOp(f:F2)(da db:TDE):TDE:=fun ρ Q=>da ρ fun x ρ1=>db ρ1 fun y ρ2=>need (a1p ρ2 x) fun dx=>need (a1p ρ2 y) fun dy=>need (f dx dy) fun z=>Q (.d z) ρ2
def b6g{K:W.Frag}{r:R2}{f:F2}{ta tb:TE}(hr:AdR K r f)(ha:AdE K ta da)(hb:AdE K tb db):AdE K (tOp r ta tb) (dOp f da db):=by
 intro c O ρ σ H Qd Q R h k;refine ha c O ρ σ H _ _ R h fun x ρ1 O1 v H1 h1 R1 P1 a1=>?_;refine hb c O1 ρ1 σ H1 _ _ R1 h1 fun y ρ2 O2 u H2 h2 R2 P2 a2=>?_;obtain⟨dx,e1,hn1⟩:=ne (h2);obtain⟨dy,e2,hn2⟩:=ne (hn1);obtain⟨z,e3,h3⟩:=ne (hn2);refine hr (live c O2) H2 v u dx dy z Q R2.frsLive (R2.top (a1.pers P2) e1) (R2.top a2 e2) e3 fun w H3 s3 a3=>?_;exact k _ _ _ _ _ h3 (R2.grow s3) ((P1.trans P2).trans (.same s3)) a3
def a5d{op:Operator}{r:R2}{f:F2}(ho:OpR X (binaryOp op) r)(hr:AdR X.K r f)(ha:DE X a da)(hb:DE X b db):DE X (.BinOp a op b pos) (dOp f da db):=by
 obtain⟨ta,pa,aa⟩:=ha;obtain⟨tb,pb,ab⟩:=hb;exact⟨_,a2k ho pa pb,b6g hr aa ab⟩
def d7x{op:CmpOp}{r:R2}{f:F2}(ho:OpR X (compareOp op) r)(hr:AdR X.K r f)(ha:DE X a da)(hb:DE X b db)(hm:behindInMarks op b=false):DE X (.Compare a [op] [b] pos) (dOp f da db):=by
 obtain⟨ta,pa,aa⟩:=ha;obtain⟨tb,pb,ab⟩:=hb;exact⟨_,d2w ho pa pb hm,b6g hr aa ab⟩
def a6b{r:R2}{f:F2}(ho:IxR X r)(hr:AdR X.K r f)(ha:DE X a da)(hb:DE X b db)(hs:b4b b):DE X (.Subscript a b pos) (dOp f da db):=by
 obtain⟨ta,pa,aa⟩:=ha;obtain⟨tb,pb,ab⟩:=hb;exact⟨_,a2i ho pa pb hs,b6g hr aa ab⟩
end
section
variable{K:W.Frag}
def AtT.int{H:Hp}{S:Addr->Prop}{i:Int}{v:V}(h:AtT K H S (.int i) v):v=.int i:=b0a (h.at fun _ z=>nomatch z)
def AtT.str{H:Hp}{S:Addr->Prop}{i:Str}{v:V}(h:AtT K H S (.str i) v):v=.str i:=b3g (h.at fun _ z=>nomatch z)
def AtT.bool{H:Hp}{S:Addr->Prop}{i:Bool}{v:V}(h:AtT K H S (.bool i) v):v=.bl i:=b0z (h.at fun _ z=>nomatch z)
def AtT.none{H:Hp}{S:Addr->Prop}{v:V}(h:AtT K H S .none v):v=.non:=b4f (h.at fun _ z=>nomatch z)
def AtT.tup{H:Hp}{S:Addr->Prop}{ds:List PyData}{v:V}(h:AtT K H S (.tuple ds) v):∃ a xs,v=.ref a/\SqT K H a xs/\a0a K H S ds xs:=a2g (h.at fun _ z=>nomatch z)
def a0a.eq_nil{H:Hp}{S:Addr->Prop}{ds:List PyData}(h:a0a K H S ds []):ds=[]:=eq_nil_of_length_eq_zero h.length.symm
noncomputable def fAdd:F2
 | .int i,.int j=>some (.int (i + j))
 | .str x,.str y=>if x.length + y.length <= sizeLine then some (.str (x ++ y)) else none
 | .list xs,.list ys=>if xs.length + ys.length <= sizeLine then some (.list (xs ++ ys)) else none
 | .tuple xs,.tuple ys=>if xs.length + ys.length <= sizeLine then some (.tuple (xs ++ ys)) else none
 | _,_=>none
noncomputable def fSub:F2
 | .int i,.int j=>some (.int (i - j))
 | _,_=>none
noncomputable def fMod:F2
 | .int i,.int j=>if 0 < j then some (.int (i % j)) else none
 | _,_=>none
noncomputable def fCmp(p:Int->Int->Bool):F2
 | .int i,.int j=>some (.bool (p i j))
 | _,_=>none
def d7y:AdR K (rI0 fun i j=>.int (i - j)) fSub:=by
 intro S H x y dx dy z Q f hx hy e k;unfold fSub at e;split at e<;>cases e;rw [hx.int,hy.int];exact⟨_,_,rfl,rfl,k _ _ (Same.refl _) (a1o _)⟩
def a8n(p:Int->Int->Bool):AdR K (rI0 fun i j=>.bl (p i j)) (fCmp p):=by
 intro S H x y dx dy z Q f hx hy e k;unfold fCmp at e;split at e<;>cases e;rw [hx.int,hy.int];exact⟨_,_,rfl,rfl,k _ _ (Same.refl _) (a3w _)⟩
def d7z:AdR K (rI (fun _ j=>0 < j) fun i j=>.int (i % j)) fMod:=by
 intro S H x y dx dy z Q f hx hy e k;unfold fMod at e;split at e
 ·split at e
  ·rename_i hc
   cases e
   rw [hx.int,hy.int];exact⟨_,_,rfl,rfl,hc,k _ _ (Same.refl _) (a1o _)⟩
  ·cases e
 ·cases e
def d1s(K:W.Frag):R2:=fun x y H Q=>∃ a b ys,x=.ref a/\y=.ref b/\SqT K H a []/\SqT K H b ys/\Q (.ref b) H
def d3p{X:Cx}:OpR X (binaryOp .Add) (d1s X.K):=by
 intro pins s σ H x y v u Q I rx ry h;obtain⟨a,b,ys,rfl,rfl,ha,hb,q⟩:=h;cases rx;cases ry;obtain⟨its,r1,p1,_⟩:=I.tuple ha;obtain⟨its2,r2,p2,_⟩:=I.tuple hb;cases r1;obtain⟨⟨cls,dd,data,sl⟩,ho,hc,n,hd⟩:=id p1;obtain⟨⟨cls2,dd2,data2,sl2⟩,ho2,hc2,n2,hd2⟩:=id p2;simp only at hc hd hc2 hd2;subst hc hd hc2 hd2;exact concat_meets ⟨_,ho,rfl⟩ ⟨_,ho2,rfl⟩ noFill_tuple_add seq_tuple_add PySem.F.slot_tuple_add PySem.F.entry_tuple_add (PySem.F.args_tuple_add_2 _ _)
   (tuple_addW0 a b _ its2.toArray n n2 dd dd2 sl sl2 'c') ⟨ho,ho2,⟨.ref b,H,I,rfl,q⟩⟩
def c0s(K:W.Frag):R2:=fun x y H Q=>rI0 (fun i j=>.int (i + j)) x y H Q ∨ (∃ i j,x=.str i/\y=.str j/\i.length + j.length <= sizeLine/\Q (.str (i ++ j)) H) ∨ rCat x y H Q ∨ d1o K x y H Q ∨ d1s K x y H Q
def a2v{X:Cx}:OpR X (binaryOp .Add) (c0s X.K):=b2y.or (c1u.or (d7k.or (d3d.or d3p)))
def a5e:AdR K (c0s K) fAdd:=by
 intro S H x y dx dy z Q f hx hy e k;unfold fAdd at e;split at e
 ·cases e
  rw [hx.int,hy.int];exact .inl ⟨_,_,rfl,rfl,k _ _ (Same.refl _) (a1o _)⟩
 ·split at e
  ·rename_i hc
   cases e
   rw [hx.str,hy.str];exact .inr (.inl ⟨_,_,rfl,rfl,hc,k _ _ (Same.refl _) (b0y _)⟩)
  ·cases e
 ·split at e
  ·rename_i hc
   cases e
   obtain⟨a,vs,rfl,h1,h2⟩:=hx.list;obtain⟨b,ws,rfl,h3,h4⟩:=hy.list;refine .inr (.inr (.inl ⟨a,b,vs,ws,rfl,rfl,h1,h3,by rw [h2.length,h4.length];exact hc,fun p hp=>k _ _ (a0f hp _) (c8n (f p hp) hp (h2.append h4))⟩))
  ·cases e
 ·split at e
  ·rename_i hc
   cases e
   obtain⟨a,vs,rfl,h1,h2⟩:=hx.tup;obtain⟨b,ws,rfl,h3,h4⟩:=hy.tup;by_cases hv:vs=[]
   ·subst hv
    obtain rfl:=h2.eq_nil;refine .inr (.inr (.inr (.inr ⟨a,b,ws,rfl,rfl,h1,h3,k _ _ (Same.refl _) ?_⟩)));exact a1q h3 h4
   ·refine .inr (.inr (.inr (.inl ⟨a,b,vs,ws,rfl,rfl,h1,h3,hv,by rw [h2.length,h4.length];exact hc,fun ew=>k _ _ (Same.refl _) ?_,fun ew p hp=>k _ _ (a0f hp _) (a8x hp (h2.append h4))⟩)))
    subst ew;obtain rfl:=h4.eq_nil;rw [append_nil];exact a1q h1 h2
  ·cases e
 ·cases e
def a0a.rep{H:Hp}{S:Addr->Prop}{ds:List PyData}{xs:List V}(h:a0a K H S ds xs):∀ n:Nat,a0a K H S (List.replicate n ds).flatten (List.replicate n xs).flatten
 | 0=>.nil
 | n + 1=>by
  rw [replicate_succ,replicate_succ,flatten_cons,flatten_cons];exact h.append (a0a.rep h n)
noncomputable def fEq(neg:Bool):F2:=fun d e=>if SeqAt.shaped d=true/\SeqAt.shaped e=true then some (.bool (if neg then !PyData.eqv d e else PyData.eqv d e)) else none
def d1t{neg:Bool}:AdR K (rEqD K neg) (fEq neg):=by
 intro S H x y dx dy z Q f hx hy e k;unfold fEq at e;split at e
 ·rename_i hc
  cases e
  exact⟨Any,Any,dx,dy,hx.any,hy.any,hc.1,hc.2,k _ _ (Same.refl _) (a3w _)⟩
 ·cases e
noncomputable def fIx:F2
 | .list xs,.int i=>atI xs i
 | .tuple xs,.int i=>atI xs i
 | .str x,.int i=>if x.length <= sizeLine then(atI x.cps.toList i).map fun c=>.str ⟨#[c]⟩ else none
 | _,_=>none
def a6c:AdR K (rIx K) fIx:=by
 intro S H x y dx dy z Q f hx hy e k;unfold fIx at e;split at e
 ·obtain⟨a,vs,rfl,h1,h2⟩:=hx.list
  rw [hy.int];obtain⟨v,e1,e2⟩:=b1b h2 e;exact .inl ⟨a,vs,_,v,rfl,rfl,SqL.of h1,e1,k _ _ (Same.refl _) e2⟩
 ·obtain⟨a,vs,rfl,h1,h2⟩:=hx.tup
  rw [hy.int];obtain⟨v,e1,e2⟩:=b1b h2 e;exact .inr (.inl ⟨a,vs,_,v,rfl,rfl,h1,e1,k _ _ (Same.refl _) e2⟩)
 ·split at e
  ·rename_i hc
   rw [hx.str,hy.int];cases q:atI (PySem.Str.cps _).toList _ with
   | none=>rw [q] at e;cases e
   | some cc =>
    rw [q] at e;cases e;exact .inr (.inr ⟨_,_,cc,rfl,rfl,hc,q,k _ _ (Same.refl _) (b0y _)⟩)
  ·cases e
 ·cases e
noncomputable def a1c:PyData->Bool
 | .none=>true | .bool _=>true | .int _=>true | .str _=>true
 | _=>false
noncomputable def seqD:PyData->Option (List PyData)
 | .list xs=>some xs
 | .tuple xs=>some xs
 | _=>none
noncomputable def eqF:PyData->PyData->Bool
 | .none,.none=>true
 | .bool a,.bool b=>a == b
 | .int a,.int b=>a == b
 | .bool a,.int b=>(if a then(1:Int) else 0) == b
 | .int a,.bool b=>a == (if b then(1:Int) else 0)
 | .str a,.str b=>a == b
 | _,_=>false
noncomputable def inF(x:PyData)(xs:List PyData):Bool:=xs.any fun y=>eqF y x
noncomputable def fIn(neg:Bool):F2:=fun x y=>match y with
 | .str z=>match x with
  | .str w=>some (.bool (if neg then !(!(Builtin.Str.occurrences z w 0 z.length 1).isEmpty) else !(Builtin.Str.occurrences z w 0 z.length 1).isEmpty))
  | _=>none
 | y=>match seqD y with
  | some xs=>if a1c x && xs.all a1c then some (.bool (if neg then !inF x xs else inF x xs)) else none
  | none=>none
end
end
section
section
variable{K:W.Frag}{c:Rc}{O:Own}{ρ:Rho}{σ:St}{H H':Hp}{S S':Addr->Prop}
noncomputable def toV:PyData->V
 | .bool b=>.bl b
 | .int i=>.int i
 | .str x=>.str x
 | _=>.non
def a7i{d:PyData}{v:V}(h:AtD K H S d v)(f:a1c d=true):v=toV d/\a5y v=true:=by
 cases d with
 | none=>rw [b4f h];exact⟨rfl,rfl⟩
 | bool b=>rw [b0z h];exact⟨rfl,rfl⟩
 | int i=>rw [b0a h];exact⟨rfl,rfl⟩
 | str x=>rw [b3g h];exact⟨rfl,rfl⟩
 | _=>cases f
def d3q{x y:PyData}(fx:a1c x=true)(fy:a1c y=true):eqV (toV y) (toV x)=eqF y x:=by
 cases x<;>cases y<;>first | rfl | (cases fx;done) | (cases fy;done)
def b7i{x:PyData}(fx:a1c x=true):∀ {ds:List PyData} {vs:List V},a0a K H S ds vs->ds.all a1c=true->vs.all a5y=true/\inV (toV x) vs=inF x ds
 | [],vs,h,_=>by rw [h.unnil];exact⟨rfl,rfl⟩
 | d :: ds,vs,h,f=>by
  obtain⟨v,r,rfl,h1,h2⟩:=h.uncons;rw [all_cons,and_eq_true] at f;obtain⟨e1,e2⟩:=a7i h1 f.1;obtain⟨e3,e4⟩:=b7i fx h2 f.2;refine⟨by rw [all_cons,e2,e3];rfl,?_⟩;show(eqV v (toV x) || inV (toV x) r)=(eqF d x || inF x ds);rw [e1,d3q fx f.1,e4]
def b7j(K:W.Frag)(neg:Bool):R2:=fun x y H Q=>rIn K neg x y H Q ∨ (∃ i j,x=.str i/\y=.str j/\Q (.bl (if neg then !(!(Builtin.Str.occurrences j i 0 j.length 1).isEmpty) else !(Builtin.Str.occurrences j i 0 j.length 1).isEmpty)) H)
def c8o{X:Cx}:OpR X (compareOp .In) (b7j X.K false):=c4v.or c4p
def AtT.seq{x:PyData}{ds:List PyData}{v:V}(h:AtT K H S x v)(e:seqD x=some ds):∃ a vs,v=.ref a/\(SqL K H a vs ∨ SqT K H a vs)/\a0a K H S ds vs:=by
 cases x with
 | list xs=>cases e;obtain⟨a,vs,e1,h1,h2⟩:=h.list;exact⟨a,vs,e1,.inl (SqL.of h1),h2⟩
 | tuple xs=>cases e;obtain⟨a,vs,e1,h1,h2⟩:=h.tup;exact⟨a,vs,e1,.inr h1,h2⟩
 | _=>cases e
def ad_in{neg:Bool}:AdR K (b7j K neg) (fIn neg):=by
 intro S H x y dx dy z Q f hx hy e k;unfold fIn at e;split at e
 ·split at e
  ·cases e
   rw [hx.str,hy.str];exact .inr ⟨_,_,rfl,rfl,k _ _ (Same.refl _) (a3w _)⟩
  ·cases e
 ·split at e
  ·rename_i xs es
   split at e
   ·rename_i hf
    cases e
    rw [and_eq_true] at hf;obtain⟨a,vs,rfl,h1,h2⟩:=hy.seq es;obtain⟨e1,e2⟩:=a7i (hx.at fun ds z=>by subst z;exact absurd hf.1 (by simp [a1c])) hf.1;obtain⟨e3,e4⟩:=b7i hf.1 h2 hf.2;refine .inl ⟨a,vs,rfl,h1,e2,e3,?_⟩;rw [e1,e4];exact k _ _ (Same.refl _) (a3w _)
   ·cases e
  ·cases e
def fz(ρ:Rho)(x:DV)(Q:PyData->Rho->Prop):Prop:=match x with
 | .d y=>Q y ρ
 | .sl i=>match ρ[i]?.join with
  | some (.d y)=>Q y ρ
  | some (.own xs)=>Q (.list xs) (ρ.set i (some (.d (.list xs))))
  | _=>False
def a1l{i:Nat}{l:L}(h:ρ[i]?.join=some l):ρ[i]? = some (some l):=by
 cases q:ρ[i]? with
 | none=>rw [q] at h;cases h
 | some o=>rw [q] at h;cases o with
  | none=>cases h
  | some l'=>cases h;rfl
def Rel.fz{x:DV}{v:V}{Q:PyData->Rho->Prop}(R:Rel K c O ρ σ H)(a:AtV K (live c O) σ H x v)(h:fz ρ x Q):∃ y ρ' O',Q y ρ'/\Rel K c O' ρ' σ H/\Pers K (live c O) H (live c O') H/\AtD K H (live c O') y v:=by
 cases x with
 | d y=>exact⟨y,ρ,O,h,R,.refl,a⟩
 | sl i =>
  have a':σ[i]? = some (some v):=a;simp only [L2.fz] at h;split at h
  ·rename_i y e
   have e':=a1l e;obtain⟨w,h1,h2⟩:=R.dat i y e';rw [a'] at h1;cases h1;exact⟨y,ρ,O,h,R,.refl,h2⟩
  ·rename_i xs e
   have e':=a1l e;obtain⟨R',P⟩:=R.freeze e';have hi:i < ρ.length:=(List.getElem?_eq_some_iff.mp e').1;obtain⟨w,h1,h2⟩:=R'.dat i (.list xs) (by rw [getElem?_set_self hi]);rw [a'] at h1;cases h1;exact⟨_,_,_,h,R',P,h2⟩
  ·exact h.elim
noncomputable def fzs:Rho->List DV->(List PyData->Rho->Prop)->Prop
 | ρ,[],Q=>Q [] ρ
 | ρ,x :: xs,Q=>fz ρ x fun y ρ1=>fzs ρ1 xs fun ys ρ2=>Q (y :: ys) ρ2
def c0t{xs:List DV}:∀ {vs:List V} {ρ:Rho} {O:Own} {Q:List PyData->Rho->Prop},Rel K c O ρ σ H->AtVs K (live c O) σ H xs vs->fzs ρ xs Q->∃ ys ρ' O',Q ys ρ'/\Rel K c O' ρ' σ H/\Pers K (live c O) H (live c O') H/\a0a K H (live c O') ys vs:=by
 induction xs with
 | nil =>
  intro vs ρ O Q R a h;cases a;exact⟨[],ρ,O,h,R,.refl,.nil⟩
 | cons x xs ih =>
  intro vs ρ O Q R a h;cases a with
  | cons a as =>
   obtain⟨y,ρ1,O1,h1,R1,P1,a1⟩:=R.fz a h;obtain⟨ys,ρ2,O2,h2,R2,P2,a2⟩:=ih R1 (AtVs.pers as P1) h1;exact⟨y :: ys,ρ2,O2,h2,R2,P1.trans P2,.cons (P2 _ _ a1) a2⟩
def dNil:TDA:=fun ρ Q=>Q [] ρ
def c2q(de:TDE)(dr:TDA):TDA:=fun ρ Q=>de ρ fun x ρ1=>dr ρ1 fun xs ρ2=>Q (x :: xs) ρ2
def d8a:AdA K tNil dNil:=fun c O ρ σ H Qd Q R h k=>k _ _ _ _ _ h R .refl .nil
def d3r{te:TE}{ta:TA}{de:TDE}{da:TDA}(he:AdE K te de)(ha:AdA K ta da):AdA K (a3g te ta) (c2q de da):=by
 intro c O ρ σ H Qd Q R h k;refine he c O ρ σ H _ _ R h fun x ρ1 O1 v H1 h1 R1 P1 a1=>?_;refine ha c O1 ρ1 σ H1 _ _ R1 h1 fun xs ρ2 O2 vs H2 h2 R2 P2 a2=>?_;exact k _ _ _ _ _ h2 R2 (P1.trans P2) (.cons (a1.pers P2) a2)
def dTup(da:TDA):TDE:=fun ρ Q=>da ρ fun xs ρ1=>fzs ρ1 xs fun ys ρ2=>ys.length <= 1000000/\Q (.d (.tuple ys)) ρ2
def dLst(da:TDA):TDF:=fun ρ Q=>da ρ fun xs ρ1=>fzs ρ1 xs fun ys ρ2=>ys.length <= 1000000/\Q ys ρ2
def mil{n:Nat}(h:n <= 1000000):n < sizeLine:=Nat.lt_of_le_of_lt h 'k'
def d8b{ta:TA}{da:TDA}(ha:AdA K ta da):AdE K (tTup ta) (dTup da):=by
 intro c O ρ σ H Qd Q R h k;refine ha c O ρ σ H _ _ R h fun xs ρ1 O1 vs H1 h1 R1 P1 a1=>?_;obtain⟨ys,ρ2,O2,⟨hz,h2⟩,R2,P2,a2⟩:=c0t R1 a1 h1;refine⟨by rw [a2.length];exact le_of_lt (mil hz),fun p hp=>?_⟩;have s:=a0f hp (.tup vs);exact k _ _ _ _ _ h2 (R2.grow s) ((P1.trans P2).trans (.same s)) (a8x hp a2)
def b2j{p:Addr}(R:Rel K c O ρ σ H)(hp:H p=none):b1d c O p:=⟨R.free0 hp,fun z=>R.pin p (.inr z) hp,fun z=>R.pin p (.inl z) hp,fun j e=>by obtain⟨_,vs,q⟩:=R.has j p e;rw [hp] at q;cases q⟩
def Rel.newL{p:Addr}{ys:List PyData}{vs:List V}(R:Rel K c O ρ σ H)(hp:H p=none)(h:a0a K H (live c O) ys vs) :
  Rel K (c.add p) O ρ σ (upd H p (.lst vs))/\Pers K (live c O) H (live (c.add p) O) (upd H p (.lst vs))/\b1d c O p/\a0a K (upd H p (.lst vs)) (live (c.add p) O) ys vs:=by
 obtain⟨R1,P1⟩:=R.lay (o:=.lst vs) hp;exact⟨R1,P1,b2j R hp,P1.all h⟩
def d8c{ta:TA}{da:TDA}(ha:AdA K ta da):AdF K (tLst ta) (dLst da):=by
 intro c O ρ σ H Qd Q R h k;refine ha c O ρ σ H _ _ R h fun xs ρ1 O1 vs H1 h1 R1 P1 a1=>?_;obtain⟨ys,ρ2,O2,⟨hz,h2⟩,R2,P2,a2⟩:=c0t R1 a1 h1;refine⟨by rw [a2.length];exact le_of_lt (mil hz),fun p hp=>?_⟩;obtain⟨R3,P3,f3,a3⟩:=R2.newL hp a2;exact k _ _ _ _ _ _ h2 R3 ((P1.trans P2).trans P3) f3 a0d a3
def dFz(df:TDF):TDE:=fun ρ Q=>df ρ fun xs ρ1=>Q (.d (.list xs)) ρ1
def ad_fz{t:TE}{df:TDF}(h:AdF K t df):AdE K t (dFz df):=by
 intro c O ρ σ H Qd Q R h0 k;refine h c O ρ σ H _ _ R h0 fun xs ρ1 O1 p vs H1 h1 R1 P1 f1 hp a1=>?_;obtain⟨R2,P2⟩:=R1.unadd;exact k _ _ _ _ _ h1 R2 (P1.trans P2) (a2c ⟨R1.frs p f1.1,f1.2.2.1,f1.2.2.2⟩ hp (P2.all a1))
abbrev F2L:=PyData->PyData->Option (List PyData)
def AdRF(K:W.Frag)(r:R2)(f:F2L):Prop:=∀ (S:Addr->Prop) (H:Hp) (x y:V) (dx dy:PyData) (z:List PyData) (Q:VK),AtT K H S dx x->AtT K H S dy y->f dx dy=some z ->
 (∀ p vs,H p=none->a0a K H S z vs->Q (.ref p) (upd H p (.lst vs)))->r x y H Q
def dOpF(f:F2L)(da db:TDE):TDF:=fun ρ Q=>da ρ fun x ρ1=>db ρ1 fun y ρ2=>need (a1p ρ2 x) fun dx=>need (a1p ρ2 y) fun dy=>need (f dx dy) fun z=>Q z ρ2
def d8d{r:R2}{f:F2L}{ta tb:TE}{da db:TDE}(hr:AdRF K r f)(ha:AdE K ta da)(hb:AdE K tb db):AdF K (tOp r ta tb) (dOpF f da db):=by
 intro c O ρ σ H Qd Q R h k;refine ha c O ρ σ H _ _ R h fun x ρ1 O1 v H1 h1 R1 P1 a1=>?_;refine hb c O1 ρ1 σ H1 _ _ R1 h1 fun y ρ2 O2 u H2 h2 R2 P2 a2=>?_;obtain⟨dx,e1,hn3⟩:=ne (h2);obtain⟨dy,e2,hn4⟩:=ne (hn3);obtain⟨z,e3,h3⟩:=ne (hn4);refine hr (live c O2) H2 v u dx dy z Q (R2.top (a1.pers P2) e1) (R2.top a2 e2) e3 fun p vs hp a3=>?_;obtain⟨R3,P3,f3,a4⟩:=R2.newL hp a3;exact k _ _ _ _ _ _ h3 R3 ((P1.trans P2).trans P3) f3 a0d a4
noncomputable def fRep:F2L
 | .list xs,.int j=>@ite _ (-(2 ^ 63) <= j/\j < 2 ^ 63/\xs.length * j.toNat <= sizeLine) (Classical.propDecidable _) (some (List.replicate j.toNat xs).flatten) none
 | _,_=>none
def d8e:AdRF K rRep fRep:=by
 intro S H x y dx dy z Q hx hy e k;unfold fRep at e;split at e
 ·split at e
  ·rename_i hc
   cases e
   obtain⟨a,vs,rfl,h1,h2⟩:=hx.list;rw [hy.int];exact⟨a,_,vs,rfl,rfl,h1,hc.1,hc.2.1,by rw [h2.length];exact hc.2.2,fun p hp=>k p _ hp (h2.rep _)⟩
  ·cases e
 ·cases e
noncomputable def a3x(ρ:Rho):List DV->Option (List PyData)
 | []=>some []
 | x :: xs=>(a1p ρ x).bind fun y=>(a3x ρ xs).map (y :: ·)
noncomputable def AtTs(K:W.Frag)(H:Hp)(S:Addr->Prop):List PyData->List V->Prop:=Paired (AtT K H S)
def Rel.tops(R:Rel K c O ρ σ H){xs:List DV}:∀ {vs:List V} {ds:List PyData},AtVs K (live c O) σ H xs vs->a3x ρ xs=some ds->AtTs K H (live c O) ds vs:=by
 induction xs with
 | nil =>
  intro vs ds a e;cases a;cases e;exact .nil
 | cons x xs ih =>
  intro vs ds a e;cases a with
  | cons a as =>
   unfold a3x at e;cases q:a1p ρ x with
   | none=>rw [q] at e;cases e
   | some y =>
    rw [q] at e;have e':(a3x ρ xs).map (y :: ·)=some ds:=e;cases q2:a3x ρ xs with
    | none=>rw [q2] at e';cases e'
    | some ys =>
     rw [q2] at e';cases e';exact .cons (R.top a q) (ih as q2)
abbrev FC:=List PyData->Option PyData
abbrev FCL:=List PyData->Option (List PyData)
def AdC(K:W.Frag)(r:List V->Hp->VK->Prop)(f:FC):Prop:=∀ (S:Addr->Prop) (H:Hp) (vs:List V) (ds:List PyData) (z:PyData) (Q:VK),Frs S H->AtTs K H S ds vs->f ds=some z ->
 (∀ v H',Same H H'->AtD K H' S z v->Q v H')->r vs H Q
def dCB(f:FC)(da:TDA):TDE:=fun ρ Q=>da ρ fun xs ρ1=>need (a3x ρ1 xs) fun ds=>need (f ds) fun z=>Q (.d z) ρ1
def b6h{r:List V->Hp->VK->Prop}{f:FC}{ta:TA}{da:TDA}(hr:AdC K r f)(ha:AdA K ta da):AdE K (tCB r ta) (dCB f da):=by
 intro c O ρ σ H Qd Q R h k;refine ha c O ρ σ H _ _ R h fun xs ρ1 O1 vs H1 h1 R1 P1 a1=>?_;obtain⟨ds,e1,hn2⟩:=ne (h1);obtain⟨z,e2,h2⟩:=ne (hn2);refine hr (live c O1) H1 vs ds z Q R1.frsLive (R1.tops a1 e1) e2 fun v H2 s2 a2=>?_;exact k _ _ _ _ _ h2 (R1.grow s2) (P1.trans (.same s2)) a2
def AtTs.one{d:PyData}{vs:List V}(h:AtTs K H S [d] vs):∃ v,vs=[v]/\AtT K H S d v:=by
 cases h with
 | cons h t=>cases t;exact⟨_,rfl,h⟩
noncomputable def fLen:FC
 | [.list xs]=>some (.int xs.length)
 | [.tuple xs]=>some (.int xs.length)
 | [.str x]=>if x.length <= sizeLine then some (.int x.length) else none
 | _=>none
noncomputable def c0u(K:W.Frag):List V->Hp->VK->Prop:=fun xs H Q=>(∃ p ys,xs=[.ref p]/\(SqL K H p ys ∨ SqT K H p ys)/\Q (.int ys.length) H) ∨ (∃ z,xs=[.str z]/\z.length <= sizeLine/\Q (.int z.length) H)
def a2m{X:Cx}:a1r X (.builtin "len") (c0u X.K):=a3t.or b6y
def a6j:AdC K (c0u K) fLen:=by
 intro S H vs ds z Q f h e k;unfold fLen at e;split at e
 ·cases e
  obtain⟨v,rfl,h1⟩:=h.one;obtain⟨a,ws,rfl,h2,h3⟩:=h1.list;exact .inl ⟨a,ws,rfl,.inl (SqL.of h2),by rw [h3.length];exact k _ _ (Same.refl _) (a1o _)⟩
 ·cases e
  obtain⟨v,rfl,h1⟩:=h.one;obtain⟨a,ws,rfl,h2,h3⟩:=h1.tup;exact .inl ⟨a,ws,rfl,.inr h2,by rw [h3.length];exact k _ _ (Same.refl _) (a1o _)⟩
 ·split at e
  ·rename_i hc
   cases e
   obtain⟨v,rfl,h1⟩:=h.one;rw [h1.str];exact .inr ⟨_,rfl,hc,k _ _ (Same.refl _) (a1o _)⟩
  ·cases e
 ·cases e
noncomputable def b3h:FC
 | [.list xs]=>some (.tuple xs)
 | [.tuple xs]=>some (.tuple xs)
 | _=>none
def a4w:AdC K (fun xs H Q=>∃ p ys,xs=[.ref p]/\((SqL K H p ys/\∀ l,H l=none->Q (.ref l) (upd H l (.tup ys))) ∨ (SqT K H p ys/\Q (.ref p) H))) b3h:=by
 intro S H vs ds z Q f h e k;unfold b3h at e;split at e
 ·cases e
  obtain⟨v,rfl,h1⟩:=h.one;obtain⟨a,ws,rfl,h2,h3⟩:=h1.list;exact⟨a,ws,rfl,.inl ⟨SqL.of h2,fun l hl=>k _ _ (a0f hl _) (a8x hl h3)⟩⟩
 ·cases e
  obtain⟨v,rfl,h1⟩:=h.one;obtain⟨a,ws,rfl,h2,h3⟩:=h1.tup;exact⟨a,ws,rfl,.inr ⟨h2,k _ _ (Same.refl _) (a1q h2 h3)⟩⟩
 ·cases e
end
section
variable{X:Cx}{a b e:Expr}{es:List Expr}{da db de:TDE}{daa:TDA}{pos:Pos}
def a0g:DA X [] dNil:=⟨_,a0j,d8a⟩
def a0c(he:DE X e de)(ha:DA X es daa)(hs:starEach (e :: es) X.env=(false,eval e X.env) :: starEach es X.env:=by rfl):DA X (e :: es) (c2q de daa):=by
 obtain⟨te,p1,a1⟩:=he;obtain⟨ta,p2,a2⟩:=ha;exact⟨_,a0e p1 p2 hs,d3r a1 a2⟩
def a3a{x1}(ha:DA X es daa):DE X (.Tuple es x1 pos) (dTup daa):=by obtain⟨t,p,a⟩:=ha;exact⟨_,a7r p,d8b a⟩
def a6k(ha:DA X es daa):DF X (.List es pos) (dLst daa):=by obtain⟨t,p,a⟩:=ha;exact⟨_,a8h p,d8c a⟩
def a5f{df:TDF}(h:DF X e df):DE X e (dFz df):=by obtain⟨t,p,a⟩:=h;exact⟨t,p,ad_fz a⟩
def df_op{op:Operator}{r:R2}{f:F2L}(ho:OpR X (binaryOp op) r)(hr:AdRF X.K r f)(ha:DE X a da)(hb:DE X b db):DF X (.BinOp a op b pos) (dOpF f da db):=by
 obtain⟨ta,pa,aa⟩:=ha;obtain⟨tb,pb,ab⟩:=hb;exact⟨_,a2k ho pa pb,d8d hr aa ab⟩
def a2p{x:Str}{p:Pos}{id:String}{r:List V->Hp->VK->Prop}{f:FC}(hc:a1r X (.builtin id) r)(hr:AdC X.K r f)(hg:Gl X x)(hm:X.mg x=none)(hv:bootBuiltins x=some (.builtin id))(ha:DA X (e :: es) daa) (hn:x ≠ "__name__":=by decide) (hdb:(x == ("__debug__" : Str))=false:=by decide)
  (he:starEach (e :: es) X.env=(false,eval e X.env) :: starEach es X.env:=by rfl) (hpl:(backTo pos (starEach es X.env)).any (·.1)=false:=by rfl):DE X (.Call (.Name x p) (e :: es) [] pos) (dCB f daa):=by
 obtain⟨ta,pa,aa⟩:=ha;exact⟨_,a2o hc hg hm hv pa hn hdb he hpl,b6h hr aa⟩
def a3y{x:Str}{p:Pos}{T:String}{r:List V->Hp->VK->Prop}{f:FC}(hc:a1r X (.type T) r)(hr:AdC X.K r f)(hg:Gl X x)(hm:X.mg x=none)(hv:bootBuiltins x=some (.type T))(ha:DA X (e :: es) daa) (hn:x ≠ "__name__":=by decide) (hdb:(x == ("__debug__" : Str))=false:=by decide)
  (he:starEach (e :: es) X.env=(false,eval e X.env) :: starEach es X.env:=by rfl) (hpl:(backTo pos (starEach es X.env)).any (·.1)=false:=by rfl):DE X (.Call (.Name x p) (e :: es) [] pos) (dCB f daa):=by
 obtain⟨ta,pa,aa⟩:=ha;exact⟨_,a2l hc hg hm hv pa hn hdb he hpl,b6h hr aa⟩
end
end
section
section
variable{K:W.Frag}{c:Rc}{O:Own}{ρ:Rho}{σ:St}{H H':Hp}{S S':Addr->Prop}
noncomputable def asB:PyData->Option Bool
 | .bool b=>some b
 | _=>none
def dB(de:TDE):TDT:=fun ρ Q=>de ρ fun x ρ1=>need (a1p ρ1 x) fun d=>need (asB d) fun b=>Q b ρ1
def ad_b{t:TE}{de:TDE}(h:AdE K t de):AdT K (fun σ H Q=>t σ H fun x H'=>∃ k,x=.bl k/\Q k H') (dB de):=by
 intro c O ρ σ H Qd Q R h0 k;refine h c O ρ σ H _ _ R h0 fun x ρ1 O1 v H1 h1 R1 P1 a1=>?_;obtain⟨d,e1,hn12⟩:=ne (h1);obtain⟨b,e2,h2⟩:=ne (hn12);have a2:=R1.top a1 e1;cases d with
 | bool b'=>cases e2;exact⟨b,a2.bool,k _ _ _ _ h2 R1 P1⟩
 | _=>cases e2
noncomputable def tru:PyData->Option Bool
 | .none=>some false
 | .bool b=>some b
 | .int i=>some (i != 0)
 | .str x=>if x.length <= sizeLine then some ((x.length:Int) != 0) else none
 | .list xs=>some (!xs.isEmpty)
 | .tuple xs=>some (!xs.isEmpty)
 | .dict _=>none
def dOr(t u:TDT):TDT:=fun ρ Q=>t ρ fun b ρ1=>if b=true then Q true ρ1 else u ρ1 Q
def ad_or{t u:TT}{dt du:TDT}(h:AdT K t dt)(h':AdT K u du):AdT K (tOr t u) (dOr dt du):=by
 intro c O ρ σ H Qd Q R h0 k;refine h c O ρ σ H _ _ R h0 fun b ρ1 O1 H1 h1 R1 P1=>?_;cases b with
 | true=>rw [if_pos rfl] at h1 ⊢;exact k _ _ _ _ h1 R1 P1
 | false=>rw [if_neg Bool.false_ne_true] at h1 ⊢;exact h' c O1 ρ1 σ H1 _ _ R1 h1 fun b ρ2 O2 H2 h2 R2 P2=>k _ _ _ _ h2 R2 (P1.trans P2)
def b7k:AtV K S σ H (.d .none) .non:=(a5r:AtD K H S .none .non)
end
section
variable{X:Cx}{a b c e:Expr}{rest:List Expr}{da db dc de:TDE}{dt du:TDT}{pos:Pos}
def a3z{op:CmpOp}{r:R2}{f:F2}(ho:OpR X (compareOp op) r)(hr:AdR X.K r f)(ha:DE X a da)(hb:DE X b db)(hm:behindInMarks op b=false):DT X (.Compare a [op] [b] pos) (dB (dOp f da db)):=by
 obtain⟨ta,pa,aa⟩:=ha;obtain⟨tb,pb,ab⟩:=hb;exact⟨_,a4f ho pa pb hm,ad_b (b6g hr aa ab)⟩
def DW.toT(h:DW X e dt):DT X e dt:=by obtain⟨t,p,a⟩:=h;exact⟨t,p.pt,a⟩
def d8f(ha:DT X a dt):DW X (.BoolOp .Or [a] pos) dt:=by obtain⟨t,p,a⟩:=ha;exact⟨t,d6y p,a⟩
def dw_or(ha:DT X a dt)(hb:DW X (.BoolOp .Or (b :: rest) pos) du):DW X (.BoolOp .Or (a :: b :: rest) pos) (dOr dt du):=by obtain⟨_,p,a⟩:=ha;obtain⟨_,p',a'⟩:=hb;exact⟨_,pw_or p p',ad_or a a'⟩
end
inductive RV where
 | d (x:PyData)
 | new (xs:List PyData)
structure DEnds where
 nx:Rho->Prop
 rt:RV->Rho->Prop
 bk:Rho->Prop:=fun _=>False
 ct:Rho->Prop:=fun _=>False
abbrev TDS:=DEnds->Rho->Prop
noncomputable def b1e(K:W.Frag)(c:Rc)(O:Own)(ρ:Rho)(σ:St)(H:Hp):RV->V->Prop
 | .d x,v=>Rel K c O ρ σ H/\AtD K H (live c O) x v
 | .new xs,v=>∃ p vs,v=.ref p/\Rel K (c.add p) O ρ σ H/\b1d c O p/\H p=some (.lst vs)/\a0a K H (live (c.add p) O) xs vs
structure EndsOk(K:W.Frag)(c:Rc)(S0:Addr->Prop)(H0:Hp)(D:Ends)(Dd:DEnds):Prop where
 nx:∀ O ρ σ H,Rel K c O ρ σ H->Pers K S0 H0 (live c O) H->Dd.nx ρ->D.nx σ H
 rt:∀ r O ρ σ H v,b1e K c O ρ σ H r v->Dd.rt r ρ->D.rt v H
 bk:∀ O ρ σ H,Rel K c O ρ σ H->Pers K S0 H0 (live c O) H->Dd.bk ρ->D.bk σ H
 ct:∀ O ρ σ H,Rel K c O ρ σ H->Pers K S0 H0 (live c O) H->Dd.ct ρ->D.ct σ H
 mb:∀ p,c.M p->c.B p
 oa:∀ p,c.H0 p=none->c.A p
def EndsOk.later{K:W.Frag}{c:Rc}{S0 S1:Addr->Prop}{H0 H1:Hp}{D:Ends}{Dd:DEnds}(E:EndsOk K c S0 H0 D Dd)(P:Pers K S0 H0 S1 H1):EndsOk K c S1 H1 D Dd:=
 ⟨fun O ρ σ H R q=>E.nx O ρ σ H R (P.trans q),E.rt,fun O ρ σ H R q=>E.bk O ρ σ H R (P.trans q),fun O ρ σ H R q=>E.ct O ρ σ H R (P.trans q),E.mb,E.oa⟩
def AdS(K:W.Frag)(t:TS)(dt:TDS):Prop:=∀ (c:Rc) (O:Own) (ρ:Rho) (σ:St) (H:Hp) (D:Ends) (Dd:DEnds),Rel K c O ρ σ H->EndsOk K c (live c O) H D Dd->dt Dd ρ->t D σ H
def DS(X:Cx)(st:Stmt)(dt:TDS):Prop:=∃ t,PS X st t/\AdS X.K t dt
def DSs(X:Cx)(st:List Stmt)(dt:TDS):Prop:=∃ t,PSs X st t/\AdS X.K t dt
section
variable{K:W.Frag}{c:Rc}{O:Own}{ρ:Rho}{σ:St}{H H':Hp}{S S':Addr->Prop}
def b6i:TDS:=fun D ρ=>D.nx ρ
def dSeq(t u:TDS):TDS:=fun D ρ=>t { D with nx:=u D } ρ
def d3s:AdS K d1i b6i:=fun c O ρ σ H D Dd R E h=>E.nx O ρ σ H R .refl h
def d8g{t u:TS}{dt du:TDS}(h:AdS K t dt)(h':AdS K u du):AdS K (tSeq t u) (dSeq dt du):=fun c O ρ σ H D Dd R E q =>
 h c O ρ σ H { D with nx:=u D } { Dd with nx:=du Dd } R ⟨fun O1 ρ1 σ1 H1 R1 P1 q1=>h' c O1 ρ1 σ1 H1 D Dd R1 (E.later P1) q1,E.rt,E.bk,E.ct,E.mb,E.oa⟩ q
def c2r(de:TDE):TDS:=fun D ρ=>de ρ fun _ ρ1=>D.nx ρ1
def d3t{t:TE}{de:TDE}(h:AdE K t de):AdS K (c1q t) (c2r de):=fun c O ρ σ H D Dd R E q =>
 h c O ρ σ H _ _ R q fun x ρ1 O1 v H1 h1 R1 P1 a1=>E.nx O1 ρ1 σ H1 R1 P1 h1
def dRet(de:TDE):TDS:=fun D ρ=>de ρ fun x ρ1=>fz ρ1 x fun y ρ2=>D.rt (.d y) ρ2
def d8h{t:TE}{de:TDE}(h:AdE K t de):AdS K (tRet t) (dRet de):=fun c O ρ σ H D Dd R E q =>
 h c O ρ σ H _ _ R q fun x ρ1 O1 v H1 h1 R1 P1 a1=>by
  obtain⟨y,ρ2,O2,h2,R2,P2,a2⟩:=R1.fz a1 h1;exact E.rt (.d y) O2 ρ2 σ H1 v ⟨R2,a2⟩ h2
noncomputable def ownAt(ρ:Rho)(i:Nat):Option (List PyData):=match ρ[i]?.join with
 | some (.own xs)=>some xs
 | _=>none
def c0v(i:Nat):TDS:=fun D ρ=>need (ownAt ρ i) fun xs=>D.rt (.new xs) (ρ.set i none)
def c2s{i:Nat}{xs:List PyData}(h:ownAt ρ i=some xs):ρ[i]? = some (some (.own xs)):=by
 unfold ownAt at h;split at h
 ·rename_i ys e
  cases h
  exact a1l e
 ·cases h
def c5p{i:Nat}:AdS K (tRet (tVar i)) (c0v i):=by
 intro c O ρ σ H D Dd R E q;obtain⟨xs,e,q⟩:=ne (q);have e':=c2s e;obtain⟨p,vs,h1,h2,h3,h4,R1,a1⟩:=R.disown e';refine⟨.ref p,h1,E.rt (.new xs) _ _ σ H _ ⟨p,vs,rfl,R1,⟨?_,h3.1,h3.2.2,fun j ej=>?_⟩,h4,a1⟩ q⟩
 ·rcases (R.has i p h2).1 with z | z
  ·exact absurd (E.mb p z) h3.1
  ·exact z
 ·obtain⟨n,ej⟩:=a1t ej
  exact n (R.inj j i p ej h2)
def dIf(c:TDT)(t u:TDS):TDS:=fun D ρ=>c ρ fun b ρ1=>if b=true then t D ρ1 else u D ρ1
def ad_if{tc:TT}{t u:TS}{dc:TDT}{dt du:TDS}(hc:AdT K tc dc)(h:AdS K t dt)(h':AdS K u du):AdS K (tIfS tc t u) (dIf dc dt du):=fun c O ρ σ H D Dd R E q =>
 hc c O ρ σ H _ _ R q fun b ρ1 O1 H1 h1 R1 P1=>by
  cases b with
  | true=>rw [if_pos rfl] at h1 ⊢;exact h c O1 ρ1 σ H1 D Dd R1 (E.later P1) h1
  | false=>rw [if_neg Bool.false_ne_true] at h1 ⊢;exact h' c O1 ρ1 σ H1 D Dd R1 (E.later P1) h1
def dSet(i:Nat)(de:TDE):TDS:=fun D ρ=>de ρ fun x ρ1=>fz ρ1 x fun y ρ2=>i < ρ2.length/\D.nx (ρ2.set i (some (.d y)))
def d8i{i:Nat}{t:TE}{de:TDE}(h:AdE K t de):AdS K (tAsg t (a2r i)) (dSet i de):=fun c O ρ σ H D Dd R E q =>
 h c O ρ σ H _ _ R q fun x ρ1 O1 v H1 h1 R1 P1 a1=>by
  obtain⟨y,ρ2,O2,⟨hi,h2⟩,R2,P2,a2⟩:=R1.fz a1 h1;obtain⟨R3,P3⟩:=R2.setD hi a2;exact E.nx _ _ _ H1 R3 ((P1.trans P2).trans P3) h2
def b6j(i:Nat)(df:TDF):TDS:=fun D ρ=>df ρ fun xs ρ1=>i < ρ1.length/\D.nx (ρ1.set i (some (.own xs)))
def c0w{i:Nat}{t:TE}{df:TDF}(h:AdF K t df):AdS K (tAsg t (a2r i)) (b6j i df):=fun c O ρ σ H D Dd R E q =>
 h c O ρ σ H _ _ R q fun xs ρ1 O1 p vs H1 h1 R1 P1 f1 hp a1=>by
  obtain⟨hi,h2⟩:=h1;obtain⟨R3,P3⟩:=R1.setOwn hi f1.1 f1.2.1 f1.2.2.1 f1.2.2.2 (E.oa _ f1.1) hp a1;exact E.nx _ _ _ H1 R3 (P1.trans P3) h2
abbrev TDG:=PyData->Rho->(Rho->Prop)->Prop
abbrev TDGs:=List PyData->Rho->(Rho->Prop)->Prop
def AdG(K:W.Frag)(g:TG)(dg:TDG):Prop:=∀ (c:Rc) (O:Own) (ρ:Rho) (σ:St) (H:Hp) (x:PyData) (v:V) (Qd:Rho->Prop) (Q:St->Hp->Prop),Rel K c O ρ σ H->AtD K H (live c O) x v->dg x ρ Qd ->
 (∀ O' ρ' σ' ,Rel K c O' ρ' σ' H->Pers K (live c O) H (live c O') H->Qd ρ'->Q σ' H)->g v σ H Q
def AdGs(K:W.Frag)(g:TGs)(dg:TDGs):Prop:=∀ (c:Rc) (O:Own) (ρ:Rho) (σ:St) (H:Hp) (x:List PyData) (v:List V) (Qd:Rho->Prop) (Q:St->Hp->Prop),Rel K c O ρ σ H->a0a K H (live c O) x v->dg x ρ Qd ->
 (∀ O' ρ' σ' ,Rel K c O' ρ' σ' H->Pers K (live c O) H (live c O') H->Qd ρ'->Q σ' H)->g v σ H Q
def b7l(i:Nat):TDG:=fun x ρ Q=>i < ρ.length/\Q (ρ.set i (some (.d x)))
def d3u{i:Nat}:AdG K (a2r i) (b7l i):=fun c O ρ σ H x v Qd Q R a h k=>by
 obtain⟨R1,P1⟩:=R.setD h.1 a;exact k _ _ _ R1 P1 h.2
noncomputable def b6k:TDGs:=fun xs ρ Q=>xs=[]/\Q ρ
def b7m(t:TDG)(u:TDGs):TDGs:=fun xs ρ Q=>match xs with
 | x :: r=>t x ρ fun ρ1=>u r ρ1 Q
 | []=>False
def d8j:AdGs K gNil b6k:=fun c O ρ σ H x v Qd Q R a h k=>by
 obtain⟨rfl,h⟩:=h;exact⟨a.unnil,k _ _ _ R .refl h⟩
def d3v{t:TG}{u:TGs}{dt:TDG}{du:TDGs}(h:AdG K t dt)(h':AdGs K u du):AdGs K (b0t t u) (b7m dt du):=fun c O ρ σ H x v Qd Q R a q k=>by
 cases x with
 | nil=>exact(show False from q).elim
 | cons x r =>
  obtain⟨w,ws,rfl,a1,a2⟩:=a.uncons;exact⟨w,ws,rfl,h c O ρ σ H x w _ _ R a1 q fun O1 ρ1 σ1 R1 P1 q1=>h' c O1 ρ1 σ1 H r ws _ _ R1 (P1.all a2) q1 fun O2 ρ2 σ2 R2 P2 q2=>k _ _ _ R2 (P1.trans P2) q2⟩
def c2t(n:Nat)(t:TDGs):TDG:=fun x ρ Q=>match x with
 | .tuple xs=>xs.length=n/\t xs ρ Q
 | _=>False
def d8k{n:Nat}{t:TGs}{dt:TDGs}(h:AdGs K t dt):AdG K (gTup K n t) (c2t n dt):=fun c O ρ σ H x v Qd Q R a q k=>by
 cases x with
 | tuple xs =>
  obtain⟨hn,q⟩:=q;obtain⟨b,ws,rfl,h1,h2⟩:=a2g a;exact⟨b,ws,rfl,h1,by rw [h2.length];exact hn,h c O ρ σ H xs ws _ _ R h2 q k⟩
 | _=>exact(show False from q).elim
inductive OK where | o | b
noncomputable def ownB(ρ:Rho)(i:Nat):Option (OK × List PyData):=match ρ[i]?.join with
 | some (.own xs)=>some (.o,xs)
 | some (.bor xs)=>some (.b,xs)
 | _=>none
noncomputable def okL:OK->List PyData->L
 | .o,xs=>.own xs
 | .b,xs=>.bor xs
def a7j{i:Nat}{o:OK}{xs:List PyData}(R:Rel K c O ρ σ H)(h:ownB ρ i=some (o,xs)):ρ[i]? = some (some (okL o xs))/\∃ p vs,O i=some p/\σ[i]? = some (some (.ref p))/\H p=some (.lst vs)/\a0a K H (live c O) xs vs:=by
 unfold ownB at h;split at h
 ·rename_i ys e
  cases h
  have e':=a1l e;obtain⟨p,vs,h1,_,h3,h4,h5⟩:=R.own i _ e';exact⟨e',p,vs,h1,h3,h4,h5⟩
 ·rename_i ys e
  cases h
  have e':=a1l e;obtain⟨p,vs,h1,h3,h4,h5⟩:=R.bor i _ e';exact⟨e',p,vs,h1,h3,h4,h5⟩
 ·cases h
def Rel.writeB{i:Nat}{o:OK}{p:Addr}{xs ys:List PyData}{vs vs':List V}(R:Rel K c O ρ σ H)(hO:O i=some p)(hH:H p=some (.lst vs))(e:ρ[i]? = some (some (okL o xs)))(h:a0a K H (live c O) ys vs') :
  Rel K c O (ρ.set i (some (okL o ys))) σ (upd H p (.lst vs'))/\Pers K (live c O) H (live c O) (upd H p (.lst vs')):=by
 cases o with
 | o=>exact R.write hO hH (.inl e) (.inl ⟨ys,e,rfl,h⟩)
 | b=>exact R.write hO hH (.inr (.inl e)) (.inr (.inl ⟨ys,e,rfl,h⟩))
def b4g(i:Nat)(de:TDE):TDE:=fun ρ Q=>need (ownB ρ i) fun _=>de ρ fun x ρ1=>fz ρ1 x fun y ρ2=>need (ownB ρ2 i) fun o=>o.2.length <= 1000000/\Q (.d .none) (ρ2.set i (some (okL o.1 (o.2 ++ [y]))))
def c5q{i:Nat}{t:TE}{de:TDE}(h:AdE K t de):AdE K (tBM K "list" b4d (tVar i) (a3g t tNil)) (b4g i de):=by
 intro c O ρ σ H Qd Q R q k;obtain⟨hz6,e,q⟩:=ne (q);obtain⟨o,xs⟩:=hz6;obtain⟨e0,p,vs,hO,hσ,hH,hA⟩:=a7j R e;refine⟨.ref p,hσ,.inl ⟨rfl,vs,SqL.of hH⟩,?_⟩;refine h c O ρ σ H _ _ R q fun x ρ1 O1 v H1 h1 R1 P1 a1=>?_;obtain⟨y,ρ2,O2,hz19,R2,P2,a2⟩:=R1.fz a1 h1;obtain⟨hz23,e2,hn25⟩:=ne (hz19);obtain⟨hz,h2⟩:=hn25;obtain⟨o2,xs2⟩:=hz23;obtain⟨e3,p2,vs2,hO2,hσ2,hH2,hA2⟩:=a7j R2 e2;rw [hσ] at hσ2;cases hσ2;refine⟨p,vs2,v,rfl,rfl,hH2,by rw [hA2.length];exact mil hz,?_⟩;obtain⟨R3,P3⟩:=R2.writeB hO2 hH2 e3 (hA2.snoc a2);exact k _ _ _ _ _ h2 R3 ((P1.trans P2).trans P3) b7k
def b0c(i:Nat)(di de:TDE):TDS:=fun D ρ=>de ρ fun x ρ1=>fz ρ1 x fun y ρ2=>need (ownB ρ2 i) fun _=>di ρ2 fun z ρ3=>need (a1p ρ3 z) fun dz=>need (asI dz) fun n=>need (ownB ρ3 i) fun o=>need (ixN o.2.length n) fun j=>D.nx (ρ3.set i (some (okL o.1 (o.2.set j y))))
 where asI:PyData->Option Int
  | .int i=>some i
  | _=>none
def c8p{i:Nat}{ti te:TE}{di de:TDE}(hi:AdE K ti di)(h:AdE K te de):AdS K (tAsg te (gSub (tVar i) ti d1p)) (b0c i di de):=fun c O ρ σ H D Dd R E q =>
 h c O ρ σ H _ _ R q fun x ρ1 O1 v H1 h1 R1 P1 a1=>by
  obtain⟨y,ρ2,O2,hz4,R2,P2,a2⟩:=R1.fz a1 h1;obtain⟨hz15,e,h2⟩:=ne (hz4);obtain⟨o,xs⟩:=hz15;obtain⟨e0,p,vs,hO,hσ,hH,hA⟩:=a7j R2 e;refine⟨.ref p,hσ,?_⟩;refine hi c O2 ρ2 σ H1 _ _ R2 h2 fun z ρ3 O3 w H3 h3 R3 P3 a3=>?_;obtain⟨dz,e1,hn24⟩:=ne (h3);obtain⟨n,e2,hn27⟩:=ne (hn24);obtain⟨hz22,e4,hn29⟩:=ne (hn27);obtain⟨j,e5,h4⟩:=ne (hn29);obtain⟨o4,xs4⟩:=hz22;obtain⟨e6,p4,vs4,hO4,hσ4,hH4,hA4⟩:=a7j R3 e4;rw [hσ] at hσ4;cases hσ4;have a4:=R3.top a3 e1;cases dz with
  | int n' =>
   cases e2
   refine⟨p,vs4,n,j,rfl,a4.int,hH4,by rw [hA4.length];exact e5,?_⟩;obtain⟨R5,P5⟩:=R3.writeB hO4 hH4 e6 (hA4.set j (P3 _ _ a2));exact E.nx _ _ _ _ R5 (((P1.trans P2).trans P3).trans P5) h4
  | _=>cases e2
abbrev TDI:=Rho->(List PyData->Rho->Prop)->Prop
def b0d(K:W.Frag)(S:Addr->Prop)(H:Hp)(J:It)(xs:List PyData):Prop:=∀ (S':Addr->Prop) (H':Hp),Pers K S H S' H' ->
 (∀ (i:Nat) (x:PyData),xs[i]? = some x->J.go i H'/\∀ v H'',J.yld i H' v H''->Same H' H''/\AtD K H'' S' x v)/\J.stop xs.length H'
def AdI(K:W.Frag)(t:TI)(di:TDI):Prop:=∀ (c:Rc) (O:Own) (ρ:Rho) (σ:St) (H:Hp) (Qd:List PyData->Rho->Prop) (Q:It->Hp->Prop),Rel K c O ρ σ H->di ρ Qd ->
 (∀ xs ρ' O' J H',Qd xs ρ'->Rel K c O' ρ' σ H'->Pers K (live c O) H (live c O') H'->b0d K (live c O') H' J xs->Q J H')->t σ H Q
def DI(X:Cx)(tg iter:Expr)(di:TDI):Prop:=∃ t,PI X tg iter t/\AdI X.K t di
def c2u{a:Addr}{vs:List V}{xs:List PyData}(h1:SqT K H a vs)(h2:a0a K H S xs vs):b0d K S H (Itt K a) xs:=fun S' H' P=>by
 obtain⟨b,ws,e,h3,h4⟩:=a2g (P _ _ (a1q h1 h2));cases e;refine⟨fun i x e=>?_,⟨ws,h3,by rw [h4.length];exact le_refl _⟩⟩;obtain⟨w,e1,e2⟩:=h4.get e;refine⟨⟨ws,w,h3,e1⟩,fun v H'' y=>?_⟩;obtain⟨rfl,y⟩:=y;have e3:=y ws h3;rw [e1] at e3;cases e3;exact⟨Same.refl _,e2⟩
def c2v{a:Addr}{vs:List V}{xs:List PyData}(hS:S a)(h1:H a=some (.lst vs))(h2:a0a K H S xs vs):b0d K S H (Itl K a) xs:=fun S' H' P=>by
 obtain⟨b,ws,e,_,h3,h4⟩:=a2u (P _ _ (a2c hS h1 h2));cases e;refine⟨fun i x e=>?_,⟨ws,SqL.of h3,by rw [h4.length];exact le_refl _⟩⟩;obtain⟨w,e1,e2⟩:=h4.get e;refine⟨⟨ws,w,SqL.of h3,e1⟩,fun v H'' y=>?_⟩;obtain⟨rfl,y⟩:=y;have e3:=y ws (SqL.of h3);rw [e1] at e3;cases e3;exact⟨Same.refl _,e2⟩
def c2w(de:TDE):TDI:=fun ρ Q=>de ρ fun x ρ1=>fz ρ1 x fun y ρ2=>need (seqD y) fun xs=>Q xs ρ2
def d8l{t:TE}{de:TDE}(h:AdE K t de):AdI K (iDat K t) (c2w de):=fun c O ρ σ H Qd Q R q k =>
 h c O ρ σ H _ _ R q fun x ρ1 O1 v H1 h1 R1 P1 a1=>by
  obtain⟨y,ρ2,O2,hz3,R2,P2,a2⟩:=R1.fz a1 h1;obtain⟨xs,e,h2⟩:=ne (hz3);cases y with
  | list ys =>
   cases e
   obtain⟨a,vs,rfl,hS,h3,h4⟩:=a2u a2;exact .inr ⟨a,rfl,⟨vs,SqL.of h3⟩,k _ _ _ _ _ h2 R2 (P1.trans P2) (c2v hS h3 h4)⟩
  | tuple ys =>
   cases e
   obtain⟨a,vs,rfl,h3,h4⟩:=a2g a2;exact .inl ⟨a,rfl,⟨vs,h3⟩,k _ _ _ _ _ h2 R2 (P1.trans P2) (c2u h3 h4)⟩
  | _=>cases e
noncomputable def rngD(lo:Int)(n:Nat):List PyData:=(List.range n).map fun i=>.int (lo + (i:Nat))
def c2x{lo:Int}{n:Nat}:b0d K S H (Itr lo n) (rngD lo n):=fun S' H' P=>by
 have hl:(rngD lo n).length=n:=by simp [rngD]
 refine⟨fun i x e=>?_,by rw [hl];exact le_refl _⟩;have hi:i < n:=by rw [← hl];exact(List.getElem?_eq_some_iff.mp e).1
 have ex:x=.int (lo + (i:Nat)):=by
  simp only [rngD,getElem?_map,List.getElem?_range hi,map_some] at e;exact(Option.some.inj e).symm
 subst ex;refine⟨hi,fun v H'' y=>?_⟩;obtain⟨rfl,rfl⟩:=y;exact⟨Same.refl _,a1o _⟩
noncomputable def asI:PyData->Option Int
 | .int i=>some i
 | _=>none
def c5r{d:PyData}{v:V}{i:Int}(h:AtT K H S d v)(e:asI d=some i):v=.int i:=by
 cases d with
 | int i'=>cases e;exact h.int
 | _=>cases e
def sm62(i:Int):Prop:=-(2 ^ 62) <= i/\i < 2 ^ 62
def b7n(de:TDE):TDI:=fun ρ Q=>de ρ fun x ρ1=>need (a1p ρ1 x) fun d=>need (asI d) fun j=>sm62 j/\Q (rngD 0 j.toNat) ρ1
def d3w{t:TE}{de:TDE}(h:AdE K t de):AdI K (d1j (a3g t tNil)) (b7n de):=fun c O ρ σ H Qd Q R q k =>
 h c O ρ σ H _ _ R q fun x ρ1 O1 v H1 h1 R1 P1 a1=>by
  obtain⟨d,e1,hn2⟩:=ne (h1);obtain⟨j,e2,hn14⟩:=ne (hn2);obtain⟨hj,h2⟩:=hn14;have ev:=c5r (R1.top a1 e1) e2;exact⟨j,by rw [ev],hj.1,hj.2,k _ _ _ _ _ h2 R1 P1 c2x⟩
def a2s(g:TDG)(b:TDS)(D:DEnds):List PyData->Rho->Prop
 | [],ρ=>D.nx ρ
 | x :: r,ρ=>g x ρ fun ρ1=>b { D with nx:=a2s g b D r,ct:=a2s g b D r,bk:=D.nx } ρ1
def dFor(di:TDI)(g:TDG)(b:TDS):TDS:=fun D ρ=>di ρ fun xs ρ1=>a2s g b D xs ρ1
def d8m{ti:TI}{tg:TG}{tb:TS}{di:TDI}{dg:TDG}{db:TDS}(hi:AdI K ti di)(hg:AdG K tg dg)(hb:AdS K tb db):AdS K (tFor ti tg tb) (dFor di dg db):=fun c O ρ σ H D Dd R E q =>
 hi c O ρ σ H _ _ R q fun xs ρ1 O1 J H1 h1 R1 P1 I1=>by
  refine⟨fun i m σ' H'=>m=xs.length - i/\i <= xs.length/\∃ O' ρ',Rel K c O' ρ' σ' H'/\Pers K (live c O1) H1 (live c O') H'/\a2s dg db Dd (xs.drop i) ρ',⟨xs.length,by simp,zero_le _,O1,ρ1,R1,.refl,by rw [drop_zero];exact h1⟩,?_⟩;rintro i m σ2 H2 ⟨rfl,hle,O2,ρ2,R2,P2,h2⟩;obtain⟨it,stop⟩:=I1 _ _ P2;by_cases hlt:i < xs.length
  ·rw [List.drop_eq_getElem_cons hlt] at h2
   obtain⟨go,yld⟩:=it i xs[i] (getElem?_eq_getElem hlt);have h2':dg xs[i] ρ2 fun ρ1=>db { Dd with nx:=a2s dg db Dd (xs.drop (i + 1)),ct:=a2s dg db Dd (xs.drop (i + 1)),bk:=Dd.nx } ρ1:=h2;refine .inr ⟨go,fun σ' H'=>∃ O' ρ',Rel K c O' ρ' σ' H'/\Pers K (live c O1) H1 (live c O') H'/\a2s dg db Dd (xs.drop (i + 1)) ρ',fun σ' H' hq8=>by obtain⟨O',ρ',R',P',q'⟩:=hq8;exact⟨xs.length - (i + 1),'o',rfl,hlt,O',ρ',R',P',q'⟩,fun v H3 y=>?_⟩;obtain⟨s3,a3⟩:=yld v H3 y;refine hg c O2 ρ2 σ2 H3 xs[i] v _ _ (R2.grow s3) a3 h2' fun O4 ρ4 σ4 R4 P4 h4=>?_;have P5:Pers K (live c O1) H1 (live c O4) H3:=(P2.trans (.same s3)).trans P4;exact hb c O4 ρ4 σ4 H3 _ { Dd with nx:=a2s dg db Dd (xs.drop (i + 1)),ct:=a2s dg db Dd (xs.drop (i + 1)),bk:=Dd.nx } R4 ⟨fun O6 ρ6 σ6 H6 R6 P6 q6=>⟨O6,ρ6,R6,P5.trans P6,q6⟩,E.rt,fun O6 ρ6 σ6 H6 R6 P6=>E.nx _ _ _ _ R6 ((P1.trans P5).trans P6),fun O6 ρ6 σ6 H6 R6 P6 q6=>⟨O6,ρ6,R6,P5.trans P6,q6⟩,E.mb,E.oa⟩ h4
  ·have e:i=xs.length:=by omega
   subst e;rw [List.drop_eq_nil_of_le 'b'] at h2;exact .inl ⟨stop,E.nx _ _ _ _ R2 (P1.trans P2) h2⟩
end
end
section
noncomputable def a6s:L->L->Option L
 | .own _,.bor xs=>some (.own xs)
 | .bor _,.bor xs=>some (.bor xs)
 | .tape _,.tape k=>some (.tape k)
 | _,_=>none
noncomputable def lend:L->L
 | .own xs=>.bor xs
 | l=>l
noncomputable def isOw:L->Bool
 | .own _=>true
 | .bor _=>true
 | .tape _=>true
 | _=>false
abbrev Lent:=Nat->Option Nat
section
variable{K:W.Frag}{c:Rc}{O:Own}{ρ:Rho}{σ:St}{H H':Hp}{S S':Addr->Prop}
def Rel.ow{i:Nat}{l:L}(R:Rel K c O ρ σ H)(h:ρ[i]? = some (some l))(ho:isOw l=true):∃ p,O i=some p/\σ[i]? = some (some (.ref p)):=by
 cases l with
 | own xs=>obtain⟨p,vs,h1,_,h3,_⟩:=R.own i xs h;exact⟨p,h1,h3⟩
 | bor xs=>obtain⟨p,vs,h1,h3,_⟩:=R.bor i xs h;exact⟨p,h1,h3⟩
 | tape k=>obtain⟨p,h1,h3,_⟩:=R.tap i k h;exact⟨p,h1,h3⟩
 | _=>cases ho
noncomputable def Holds(K:W.Frag)(c:Rc)(S:Addr->Prop)(H:Hp)(p:Addr):L->Prop
 | .own xs=>∃ vs,H p=some (.lst vs)/\a0a K H S xs vs
 | .bor xs=>∃ vs,H p=some (.lst vs)/\a0a K H S xs vs
 | .tape k=>H p=some (.lst [.ref c.sa,.int k])
 | _=>False
def Rel.holds{i:Nat}{l:L}(R:Rel K c O ρ σ H)(h:ρ[i]? = some (some l))(ho:isOw l=true):∃ p,O i=some p/\σ[i]? = some (some (.ref p))/\Holds K c (live c O) H p l/\(∀ xs,l=.own xs->a8a c p):=by
 cases l with
 | own xs=>obtain⟨p,vs,h1,h2,h3,h4,h5⟩:=R.own i xs h;exact⟨p,h1,h3,⟨vs,h4,h5⟩,fun _ _=>h2⟩
 | bor xs=>obtain⟨p,vs,h1,h3,h4,h5⟩:=R.bor i xs h;exact⟨p,h1,h3,⟨vs,h4,h5⟩,fun _ z=>nomatch z⟩
 | tape k=>obtain⟨p,h1,h3,h4⟩:=R.tap i k h;exact⟨p,h1,h3,h4,fun _ z=>nomatch z⟩
 | _=>cases ho
mutual
def AtD.inH(hs:∀ a,S a->H a ≠ none->S' a):∀ (d:PyData) (v:V),AtD K H S d v->AtD K H S' d v
 | .none,_,h=>by unfold AtD at h ⊢;exact h
 | .bool _,_,h=>by unfold AtD at h ⊢;exact h
 | .int _,_,h=>by unfold AtD at h ⊢;exact h
 | .str _,_,h=>by unfold AtD at h ⊢;exact h
 | .list ds,v,h=>by
  obtain⟨a,xs,e1,s,q,r⟩:=a2u h;subst e1;exact a2c (hs a s (by rw [q];exact fun z=>nomatch z)) q (a0a.inH hs ds xs r)
 | .tuple ds,v,h=>by
  obtain⟨a,xs,e1,q,r⟩:=a2g h;subst e1;exact a1q q (a0a.inH hs ds xs r)
 | .dict kvs,v,h=>by
  obtain⟨a,ν,e1,s,q,e2⟩:=b1a h;subst e1;exact b5h (hs a s (by rw [q];exact fun z=>nomatch z)) q (a0m.inH hs kvs ν e2)
def a0a.inH(hs:∀ a,S a->H a ≠ none->S' a):∀ (ds:List PyData) (vs:List V),a0a K H S ds vs->a0a K H S' ds vs
 | [],_,h=>by rw [h.unnil];exact .nil
 | d :: ds,vs,h=>by
  obtain⟨v,r,rfl,h1,h2⟩:=h.uncons;exact .cons (AtD.inH hs d v h1) (a0a.inH hs ds r h2)
def a0m.inH(hs:∀ a,S a->H a ≠ none->S' a):∀ (kvs:List (PyData × PyData)) (κ:List (Key × V)),a0m K H S kvs κ->a0m K H S' kvs κ
 | [],_,h=>by rw [h.unnil];exact .nil
 | (x,d) :: r,κ,h=>by
  obtain⟨k,v,t,rfl,rfl,h1,h2⟩:=h.uncons;exact .cons (AtD.inH hs d v h1) (a0m.inH hs r t h2)
end
noncomputable def a1a(O:Own)(ρ:Rho)(f:Lent):Own:=fun j=>(f j).bind fun i=>match ρ[i]?.join with
 | some l=>if isOw l then O i else none
 | none=>none
noncomputable def Rc.in(c:Rc)(O Oc:Own)(P:Addr->Prop)(b:Bool)(H:Hp):Rc:={ A:=fun p=>(∃ j,Oc j=some p) ∨ (b=true/\H p=none),H0:=H,S:=live c O,P:=P,M:=fun p=>∃ j,Oc j=some p,B:=fun p=>∃ j,Oc j=some p,lent:=Oc,sa:=c.sa,ns:=c.ns }
def a1u{f:Lent}{j:Nat}{p:Addr}(h:a1a O ρ f j=some p):∃ i l,f j=some i/\ρ[i]? = some (some l)/\isOw l=true/\O i=some p:=by
 unfold a1a at h;cases e:f j with
 | none=>rw [e] at h;cases h
 | some i =>
  rw [e] at h;have h':(match ρ[i]?.join with | some l=>if isOw l then O i else none | none=>none)=some p:=h;split at h'
  ·rename_i l el
   split at h'
   ·rename_i ho
    exact⟨i,l,rfl,a1l el,ho,h'⟩
   ·cases h'
  ·cases h'
def b2k{f:Lent}{j i:Nat}{l:L}(e:f j=some i)(h:ρ[i]? = some (some l))(ho:isOw l=true):a1a O ρ f j=O i:=by
 unfold a1a;rw [e];show(match ρ[i]?.join with | some l=>if isOw l then O i else none | none=>none)=O i;rw [h];show(if isOw l then O i else none)=O i;rw [if_pos ho]
structure Begins(K:W.Frag)(c:Rc)(O:Own)(ρ:Rho)(σ:St)(H:Hp)(f:Lent)(ρi:Rho)(σi:St):Prop where
 io:∀ (j:Nat) (l:L),ρi[j]? = some (some l)->isOw l=true->∃ i l0,f j=some i/\ρ[i]? = some (some l0)/\isOw l0=true/\l=lend l0/\σi[j]? = σ[i]?
 dat:∀ (j:Nat) (x:PyData),ρi[j]? = some (some (.d x))->∃ v,σi[j]? = some (some v)/\AtD K H (live c O) x v
 scr:∀ j:Nat,ρi[j]? = some (some .scr)->σi[j]? = some (some (.ref c.sa))
 inj:∀ j k i,f j=some i->f k=some i->j=k
 len:σi.length=ρi.length
def Rel.begin{b:Bool}{f:Lent}{ρi:Rho}{σi:St}{P:Addr->Prop}{H':Hp}(R:Rel K c O ρ σ H)(B:Begins K c O ρ σ H f ρi σi)(hs:Same H H')(hP:∀ p,P p->H p=none/\H' p ≠ none) :
  Rel K (c.in O (a1a O ρ f) P b H') (a1a O ρ f) ρi σi H'/\Pers K (live c O) H (live (c.in O (a1a O ρ f) P b H') (a1a O ρ f)) H':=by
 have hl:∀ a,live c O a->H a ≠ none->live (c.in O (a1a O ρ f) P b H') (a1a O ρ f) a:=fun a h n=>⟨h,fun z=>n (hP a z).1,fun j e=>by
  obtain⟨i,l,_,_,_,e2⟩:=a1u e;exact h.2.2 i e2⟩
 have P1:Pers K (live c O) H (live (c.in O (a1a O ρ f) P b H') (a1a O ρ f)) H':=fun d v h =>
  AtD.mono hs.keep _ _ (AtD.inH hl d v h)
 refine⟨⟨fun j x e=>?_,fun j xs e=>?_,fun j xs e=>?_,fun j k e=>?_,fun j e=>B.scr j e,fun j k p e1 e2=>?_,fun j p e=>?_,fun p hp=>hp.elim .inl fun z=>.inr z.2,fun p hp=>?_,fun b o _ q=>q,fun b n=>n,fun p h=>?_,fun p h=>?_,fun j p e l h1 h2=>e,?_,B.len⟩,P1⟩
 ·obtain⟨v,h1,h2⟩:=B.dat j x e
  exact⟨v,h1,P1 _ _ h2⟩
 ·obtain⟨i,l0,_,h2,h3,h4,_⟩:=B.io j _ e rfl
  cases l0<;>cases h4
 ·obtain⟨i,l0,h1,h2,h3,h4,h5⟩:=B.io j _ e rfl
  obtain⟨p,e1,e2,e3,_⟩:=R.holds h2 h3;have eO:a1a O ρ f j=some p:=(b2k h1 h2 h3).trans e1;cases l0 with
  | own ys=>cases h4;obtain⟨vs,e4,e5⟩:=e3;exact⟨p,vs,eO,by rw [h5];exact e2,hs _ _ e4,P1.all e5⟩
  | bor ys=>cases h4;obtain⟨vs,e4,e5⟩:=e3;exact⟨p,vs,eO,by rw [h5];exact e2,hs _ _ e4,P1.all e5⟩
  | _=>cases h4
 ·obtain⟨i,l0,h1,h2,h3,h4,h5⟩:=B.io j _ e rfl
  obtain⟨p,e1,e2,e3,_⟩:=R.holds h2 h3;have eO:a1a O ρ f j=some p:=(b2k h1 h2 h3).trans e1;cases l0 with
  | tape k0=>cases h4;exact⟨p,eO,by rw [h5];exact e2,hs _ _ e3⟩
  | _=>cases h4
 ·obtain⟨i1,_,f1,_,_,o1⟩:=a1u e1
  obtain⟨i2,_,f2,_,_,o2⟩:=a1u e2;have:=R.inj i1 i2 p o1 o2;subst this;exact B.inj j k i1 f1 f2
 ·obtain⟨i1,_,f1,_,_,o1⟩:=a1u e
  obtain⟨_,vs,h⟩:=R.has i1 p o1;exact⟨.inl ⟨j,e⟩,vs,hs _ _ h⟩
 ·have hp':H p=none:=hs.free hp
  exact R.liveNew hp'
 ·obtain⟨j,e⟩:=h
  obtain⟨i1,_,f1,_,_,o1⟩:=a1u e;obtain⟨_,vs,h⟩:=R.has i1 p o1;exact⟨vs,hs _ _ h⟩
 ·rcases h with h | ⟨j,e⟩
  ·exact(hP p h).2
  ·obtain⟨i1,_,f1,_,_,o1⟩:=a1u e
   obtain⟨_,vs,h⟩:=R.has i1 p o1;rw [hs _ _ h];exact fun z=>nomatch z
 ·exact R.sc.keep (S:=Any) hs.keep
end
end
section
noncomputable def a5g(ρi:Rho)(l0:L)(j:Nat):Option L:=(ρi[j]?.join).bind (a6s l0)
noncomputable def a4g(ρi:Rho)(j i:Nat)(ρ:Rho):Rho:=match ρ[i]?.join with
 | some l0=>if isOw l0 then ρ.set i (a5g ρi l0 j) else ρ
 | none=>ρ
noncomputable def fills(ρi:Rho):List (Nat × Nat)->Rho->Rho
 | [],ρ=>ρ
 | (j,i) :: r,ρ=>fills ρi r (a4g ρi j i ρ)
def b7o{ρi ρ:Rho}{j i k:Nat}(h:k ≠ i):(a4g ρi j i ρ)[k]? = ρ[k]?:=by
 unfold a4g;split
 ·split
  ·exact getElem?_set_ne (Ne.symm h)
  ·rfl
 ·rfl
def c8q{ρi ρ:Rho}{j i:Nat}{l0:L}(h:ρ[i]? = some (some l0))(ho:isOw l0=true):(a4g ρi j i ρ)[i]? = some (a5g ρi l0 j):=by
 have hi:i < ρ.length:=(List.getElem?_eq_some_iff.mp h).1;unfold a4g;rw [h];show(if isOw l0 then ρ.set i (a5g ρi l0 j) else ρ)[i]? = _;rw [if_pos ho,getElem?_set_self hi]
def c8r{ρi ρ:Rho}{j i:Nat}(h:∀ l0,ρ[i]? = some (some l0)->isOw l0=false):a4g ρi j i ρ=ρ:=by
 unfold a4g;split
 ·rename_i l0 e
  rw [h l0 (a1l e)];rfl
 ·rfl
def c5s{ρi ρ:Rho}{j i:Nat}:(a4g ρi j i ρ).length=ρ.length:=by
 unfold a4g;split
 ·split
  ·rw [length_set]
  ·rfl
 ·rfl
def b5j{ρi:Rho}:∀ {fl:List (Nat × Nat)} {ρ:Rho},(fills ρi fl ρ).length=ρ.length
 | [],_=>rfl
 | (j,i) :: r,ρ=>by unfold fills;rw [b5j,c5s]
def a6d{ρi:Rho}:∀ {fl:List (Nat × Nat)} {ρ:Rho} {k:Nat},(∀ j,(j,k) ∈ fl->∀ l0,ρ[k]? = some (some l0)->isOw l0=false)->(fills ρi fl ρ)[k]? = ρ[k]?
 | [],_,_,_=>rfl
 | (j,i) :: r,ρ,k,h=>by
  unfold fills;by_cases hk:k=i
  ·subst hk
   have e:=c8r (ρi:=ρi) (j:=j) (h j mem_cons_self);rw [e];exact a6d fun j' m=>h j' (mem_cons_of_mem _ m)
  ·have e:=b7o (ρi:=ρi) (ρ:=ρ) (j:=j) hk
   rw [a6d (ρ:=a4g ρi j i ρ) (fun j' m l0 q=>h j' (mem_cons_of_mem _ m) l0 (by rw [← e];exact q)),e]
def b7p{ρi:Rho}:∀ {fl:List (Nat × Nat)} {ρ:Rho} {j i:Nat} {l0:L},(fl.map (·.2)).Nodup->(j,i) ∈ fl->ρ[i]? = some (some l0)->isOw l0=true->(fills ρi fl ρ)[i]? = some (a5g ρi l0 j)
 | (j',i') :: r,ρ,j,i,l0,nd,m,h,ho=>by
  rw [map_cons,nodup_cons] at nd;unfold fills;rcases mem_cons.mp m with e | m2
  ·cases e
   rw [a6d fun j2 m2=>absurd (mem_map.mpr ⟨(j2,_),m2,rfl⟩) nd.1];exact c8q h ho
  ·have ne:i ≠ i':=by
    rintro rfl;exact nd.1 (mem_map.mpr ⟨(j,_),m2,rfl⟩)
   exact b7p nd.2 m2 (by rw [b7o ne];exact h) ho
section
variable{K:W.Frag}{c:Rc}{O:Own}{ρ:Rho}{σ:St}{H H':Hp}{S S':Addr->Prop}
def b7q{l:L}(h:isIO l=true):isOw l=true:=by cases l<;>first | rfl | cases h
def Rel.finish{P':Addr->Prop}{fl:List (Nat × Nat)}{f:Lent}{ρi:Rho}{Oi:Own}{ci:Rc}{σi:St}(R:Rel K c O ρ σ H)(nd:(fl.map (·.2)).Nodup)(hf:∀ j i,(j,i) ∈ fl->f j=some i)(hf':∀ j i,f j=some i->(j,i) ∈ fl)
  (Ri:Rel K ci Oi ρi σi H') (hln:∀ j,ci.lent j=a1a O ρ f j) (hsa:ci.sa=c.sa) (hns:ci.ns=c.ns)
  (fr:∀ b o,(∀ j,a1a O ρ f j ≠ some b)->H b=some o->H' b=some o) (hk:∀ j p,a1a O ρ f j=some p->∃ vs,H' p=some (.lst vs))
  (hP:Pers K (live ci Oi) H' (live { c with P:=P' } O) H') (hp:Pers K (live c O) H (live { c with P:=P' } O) H')
  (hP':∀ p,P' p->c.P p ∨ (H' p ≠ none/\∀ i,O i ≠ some p)):Rel K { c with P:=P' } O (fills ρi fl ρ) σ H':=by
 -- a slot is lent, or it is as it was
 have cases_:∀ i:Nat,(∃ j l0,(j,i) ∈ fl/\ρ[i]? = some (some l0)/\isOw l0=true/\(fills ρi fl ρ)[i]? = some (a5g ρi l0 j)) ∨ ((fills ρi fl ρ)[i]? = ρ[i]? /\ ∀ p,O i=some p->(∃ l,ρ[i]? = some (some l)/\isOw l=true)->∀ j,a1a O ρ f j ≠ some p):=fun i=>by
  by_cases h:∃ j l0,(j,i) ∈ fl/\ρ[i]? = some (some l0)/\isOw l0=true
  ·obtain⟨j,l0,h1,h2,h3⟩:=h
   exact .inl ⟨j,l0,h1,h2,h3,b7p nd h1 h2 h3⟩
  ·refine .inr ⟨a6d fun j m l0 q=>?_,fun p hO ⟨l,e1,e2⟩ j z=>?_⟩
   ·cases q2:isOw l0 with
    | false=>rfl
    | true=>exact absurd ⟨j,l0,m,q,q2⟩ h
   ·obtain⟨i2,l2,g1,g2,g3,g4⟩:=a1u z
    have:=R.inj i2 i p g4 hO;subst this;exact h ⟨j,l2,hf' j _ g1,g2,g3⟩
 -- what a lent slot has now
 have lent_:∀ {i j:Nat} {l0 l:L},(j,i) ∈ fl->ρ[i]? = some (some l0)->isOw l0=true->a5g ρi l0 j=some l->∃ p l',O i=some p/\σ[i]? = some (some (.ref p))/\isIO l'=true/\a6s l0 l'=some l/\Holds K c (live { c with P:=P' } O) H' p l'/\(∀ xs,l0=.own xs->a8a c p):=fun{i j l0 l} m h2 h3 e=>by
  obtain⟨p,e1,e2,e3,e4⟩:=R.holds h2 h3;unfold a5g at e;cases el:ρi[j]?.join with
  | none=>rw [el] at e;cases e
  | some l' =>
   rw [el] at e;have e':a6s l0 l'=some l:=e;have hio:isIO l'=true:=by cases l0<;>cases l'<;>first | rfl | cases e'
   have el':=a1l el;have elent:ci.lent j=some p:=(hln j).trans ((b2k (hf j i m) h2 h3).trans e1);have eO:=Ri.lnt j p elent l' el' hio;obtain⟨p',g1,_,g3,_⟩:=Ri.holds el' (b7q hio);rw [eO] at g1;cases g1;refine⟨p,l',e1,e2,hio,e',?_,e4⟩;cases l' with
   | bor xs=>obtain⟨vs,q1,q2⟩:=g3;exact⟨vs,q1,hP.all q2⟩
   | tape k=>show H' p=_;rw [← hsa];exact g3
   | _=>cases hio
 have ok':∀ i p,O i=some p->a8a c p->a8a { c with P:=P' } p:=fun i p e h=>⟨h.1,h.2.1,fun z=>(hP' p z).elim h.2.2 fun w=>w.2 i e⟩;have stay:∀ i p o,O i=some p->(∃ l,ρ[i]? = some (some l)/\isOw l=true)->(∀ p,O i=some p->(∃ l,ρ[i]? = some (some l)/\isOw l=true)->∀ j,a1a O ρ f j ≠ some p)->H p=some o->H' p=some o:=fun i p o e l n q=>fr p o (n p e l) q;refine⟨fun i x e=>?_,fun i xs e=>?_,fun i xs e=>?_,fun i k e=>?_,fun i e=>?_,R.inj,fun i p e=>⟨(R.has' i p e).1,?_⟩,R.am,R.frs,fun b o n q=>?_,fun b n=>?_,fun p h=>?_,fun p h=>?_,fun i p e l h1 h2=>?_,?_,?_⟩
 ·rcases cases_ i with⟨j,l0,m,h2,h3,h4⟩ | ⟨h1,_⟩
  ·rw [h4] at e
   obtain⟨p,l',_,_,hio,hl,_⟩:=lent_ m h2 h3 (Option.some.inj e);cases l'<;>first | (cases hio;done) | (cases l0<;>cases hl)
  ·rw [h1] at e
   obtain⟨v,e1,e2⟩:=R.dat i x e;exact⟨v,e1,hp _ _ e2⟩
 ·rcases cases_ i with⟨j,l0,m,h2,h3,h4⟩ | ⟨h1,h2⟩
  ·rw [h4] at e
   obtain⟨p,l',g1,g2,hio,hl,g3,g4⟩:=lent_ m h2 h3 (Option.some.inj e);cases l' with
   | bor ys =>
    cases l0 with
    | own zs=>cases hl;obtain⟨vs,q1,q2⟩:=g3;exact⟨p,vs,g1,ok' i p g1 (g4 _ rfl),g2,q1,q2⟩
    | _=>cases hl
   | tape k=>cases l0<;>cases hl
   | _=>cases hio
  ·rw [h1] at e
   obtain⟨p,vs,g1,g2,g3,g4,g5⟩:=R.own i xs e;exact⟨p,vs,g1,ok' i p g1 g2,g3,stay i p _ g1 ⟨_,e,rfl⟩ h2 g4,hp.all g5⟩
 ·rcases cases_ i with⟨j,l0,m,h2,h3,h4⟩ | ⟨h1,h2⟩
  ·rw [h4] at e
   obtain⟨p,l',g1,g2,hio,hl,g3,g4⟩:=lent_ m h2 h3 (Option.some.inj e);cases l' with
   | bor ys =>
    cases l0<;>cases hl<;>(obtain⟨vs,q1,q2⟩:=g3;exact⟨p,vs,g1,g2,q1,q2⟩)
   | tape k=>cases l0<;>cases hl
   | _=>cases hio
  ·rw [h1] at e
   obtain⟨p,vs,g1,g3,g4,g5⟩:=R.bor i xs e;exact⟨p,vs,g1,g3,stay i p _ g1 ⟨_,e,rfl⟩ h2 g4,hp.all g5⟩
 ·rcases cases_ i with⟨j,l0,m,h2,h3,h4⟩ | ⟨h1,h2⟩
  ·rw [h4] at e
   obtain⟨p,l',g1,g2,hio,hl,g3,g4⟩:=lent_ m h2 h3 (Option.some.inj e);cases l' with
   | bor ys=>cases l0<;>cases hl
   | tape k2=>cases l0<;>cases hl<;>exact⟨p,g1,g2,g3⟩
   | _=>cases hio
  ·rw [h1] at e
   obtain⟨p,g1,g3,g4⟩:=R.tap i k e;exact⟨p,g1,g3,stay i p _ g1 ⟨_,e,rfl⟩ h2 g4⟩
 ·rcases cases_ i with⟨j,l0,m,h2,h3,h4⟩ | ⟨h1,h2⟩
  ·rw [h4] at e
   obtain⟨p,l',g1,g2,hio,hl,g3,g4⟩:=lent_ m h2 h3 (Option.some.inj e);cases l'<;>first | (cases hio;done) | (cases l0<;>cases hl)
  ·rw [h1] at e;exact R.scr i e
 ·obtain⟨_,vs,q⟩:=R.has i p e
  by_cases hlt:∃ j,a1a O ρ f j=some p
  ·obtain⟨j,hj⟩:=hlt;exact hk j p hj
  ·exact⟨vs,fr p _ (fun j z=>hlt ⟨j,z⟩) q⟩
 ·refine fr b o (fun j z=>?_) (R.same b o n q)
  obtain⟨i,l,_,_,_,hO⟩:=a1u z;rcases (R.has i b hO).1 with w | w
  ·exact n w
  ·rw [w] at q;cases q
 ·have n':=R.kept b n
  by_cases hlt:∃ j,a1a O ρ f j=some b
  ·obtain⟨j,hj⟩:=hlt
   obtain⟨vs,q⟩:=hk j b hj;rw [q];exact fun z=>nomatch z
  ·cases q:H b with
   | none=>exact absurd q n'
   | some o=>rw [fr b o (fun j z=>hlt ⟨j,z⟩) q];exact fun z=>nomatch z
 ·obtain⟨vs,q⟩:=R.ml p h
  by_cases hlt:∃ j,a1a O ρ f j=some p
  ·obtain⟨j,hj⟩:=hlt;exact hk j p hj
  ·exact⟨vs,fr p _ (fun j z=>hlt ⟨j,z⟩) q⟩
 ·have fin:∀ q,(c.P q ∨ c.B q)->H' q ≠ none:=fun q hq=>by
   have n':=R.pin q hq;by_cases hlt:∃ j,a1a O ρ f j=some q
   ·obtain⟨j,hj⟩:=hlt
    obtain⟨vs,q⟩:=hk j q hj;rw [q];exact fun z=>nomatch z
   ·cases q2:H q with
    | none=>exact absurd q2 n'
    | some o=>rw [fr q o (fun j z=>hlt ⟨j,z⟩) q2];exact fun z=>nomatch z
  rcases h with h | h
  ·rcases hP' p h with w | w
   ·exact fin p (.inl w)
   ·exact w.1
  ·exact fin p (.inr h)
 ·rcases cases_ i with⟨j,l0,m,h3,h4,h5⟩ | ⟨h3,h4⟩
  ·rw [h5] at h1
   obtain⟨p',l',g1,g2,hio,hl,g3,g4⟩:=lent_ m h3 h4 (Option.some.inj h1);cases l0 with
   | own zs=>cases l'<;>cases hl;cases h2
   | bor zs=>exact R.lnt i p e _ h3 rfl
   | tape k=>exact R.lnt i p e _ h3 rfl
   | _=>cases h4
  ·rw [h3] at h1;exact R.lnt i p e l h1 h2
 ·have:=Ri.sc
  rw [hsa,hns] at this;exact this
 ·rw [b5j];exact R.len
end
end
section
abbrev DSp:=List L->(RV->Rho->Prop)->Prop
noncomputable def mask:List L->Rho->Rho
 | [],_=>[]
 | l :: ls,ρ=>(if isIO l then ρ.head?.join else none) :: mask ls ρ.tail
noncomputable def a7s(N:List Str)(ls:List L):Rho:=ls.map some ++ List.replicate (N.length - ls.length) none
def spD(K:W.Frag)(ds:DSp):Sp:=fun vs H Q _=>∃ (c:Rc) (O:Own) (ls:List L) (Qd:RV->Rho->Prop),c.H0=H/\(∀ p,¬ c.P p)/\(∀ p,c.M p->c.B p)/\(∀ p,c.H0 p=none->c.A p)/\(∀ i,c.lent i=O i)/\Rel K c O (ls.map some) (vs.map some) H/\ds ls Qd /\
 ∀ r O' ρ' σ' v H',Qd r (mask ls ρ')->b1e K c O' ρ' σ' H' r v->Q v H'
section
variable{K:W.Frag}{c:Rc}{O:Own}{ρ:Rho}{σ:St}{H H':Hp}{S S':Addr->Prop}
def Rel.more{n:Nat}(R:Rel K c O ρ σ H):Rel K c O (ρ ++ List.replicate n none) (σ ++ List.replicate n none) H:=by
 have at_:∀ {i:Nat} {l:L},(ρ ++ List.replicate n none)[i]? = some (some l)->ρ[i]? = some (some l):=fun{i l} e=>by
  by_cases hi:i < ρ.length
  ·rwa [List.getElem?_append_left hi] at e
  ·rw [getElem?_append_right 'o',List.getElem?_replicate] at e
   split at e<;>cases e
 have st:∀ {i:Nat} {v:V},σ[i]? = some (some v)->(σ ++ List.replicate n none)[i]? = some (some v):=fun{i v} e=>by
  rw [List.getElem?_append_left (List.getElem?_eq_some_iff.mp e).1];exact e
 refine⟨fun i x e=>?_,fun i xs e=>?_,fun i xs e=>?_,fun i k e=>?_,fun i e=>st (R.scr i (at_ e)),R.inj,R.has',R.am,R.frs,R.same,R.kept,R.ml,R.pin,fun i p e l h1 h2=>R.lnt i p e l (at_ h1) h2,R.sc,?_⟩
 ·obtain⟨v,h1,h2⟩:=R.dat i x (at_ e);exact⟨v,st h1,h2⟩
 ·obtain⟨p,vs,h1,h2,h3,h4⟩:=R.own i xs (at_ e);exact⟨p,vs,h1,h2,st h3,h4⟩
 ·obtain⟨p,vs,h1,h3,h4⟩:=R.bor i xs (at_ e);exact⟨p,vs,h1,st h3,h4⟩
 ·obtain⟨p,h1,h3,h4⟩:=R.tap i k (at_ e);exact⟨p,h1,st h3,h4⟩
 ·rw [length_append,length_append,R.len,length_replicate,length_replicate]
end
section
variable{P:Program}{w:World}{K:W.Frag}{mg:Str->Option Value}{base:Heap}
def Fun.dok{x qual:Str}{st:Stmt}{f:Addr}{fd:FuncData}{N ps:List Str}{k:Nat}{ds:DSp}(F:Fun K x qual st f fd)(S:FnScope N ps (a0h st))
  (hbody:∀ (cdv:Value) (A:Around) (outer:List Env) (s:Shared) (H:Hp) (E:XK),Room k (A.deeper (envOfC qual (a0h st) s.heap.objs.size f cdv)) ->
   ∀ (ls:List L) (Qd:RV->Rho->Prop),ds ls Qd->ls.length=ps.length/\∃ dt,DSs (cxOf CX0 P w K mg base N qual (a0h st) f cdv A outer s H E).nox (a2n st) dt/\dt { nx:=fun ρ=>Qd (.d .none) (mask ls ρ),rt:=fun r ρ=>Qd r (mask ls ρ) } (a7s N ls)) (len:∀ ls Qd,ds ls Qd->ls.length=ps.length):FnOk P w K mg base CX0 (k + 1) f fd ps (spD K ds):=by
 refine F.ok S (fun vs H Q E h=>?_) (fun cdv A outer s H vs Q E hr h=>?_)
 ·obtain⟨c,O,ls,Qd,_,_,_,_,_,R,h1,_⟩:=h
  have:=R.len;rw [length_map,length_map] at this;rw [this];exact len ls Qd h1
 ·obtain⟨c,O,ls,Qd,h0,hP,hM,hA,hL,R,h1,fin⟩:=h
  obtain⟨hl,dt,⟨t,p,a⟩,q⟩:=hbody cdv A outer s H E hr ls Qd h1;have hlv:vs.length=ls.length:=by have:=R.len;rwa [length_map,length_map] at this
  refine⟨t,p,a c O (a7s N ls) (start N vs) H _ { nx:=fun ρ=>Qd (.d .none) (mask ls ρ),rt:=fun r ρ=>Qd r (mask ls ρ) } ?_ ⟨fun O1 ρ1 σ1 H1 R1 _ q1=>?_,fun r O1 ρ1 σ1 H1 v h q1=>?_,fun _ _ _ _ _ _ z=>(show False from z).elim,fun _ _ _ _ _ _ z=>(show False from z).elim,hM,hA⟩ q⟩
  ·unfold a7s start
   rw [hlv];exact R.more
  ·exact fin (.d .none) O1 ρ1 σ1 .non H1 q1 ⟨R1,a5r⟩
  ·exact fin r O1 ρ1 σ1 v H1 q1 h
end
def fzL(ρ:Rho)(x:DV)(Q:L->Rho->Prop):Prop:=match x with
 | .d y=>Q (.d y) ρ
 | .sl i=>match ρ[i]?.join with
  | some (.d y)=>Q (.d y) ρ
  | some (.own xs)=>Q (.d (.list xs)) (ρ.set i (some (.d (.list xs))))
  | some .scr=>Q .scr ρ
  | _=>False
noncomputable def ioAt(ρ:Rho)(i:Nat):Option L:=match ρ[i]?.join with
 | some l=>if isOw l then some (lend l) else none
 | none=>none
noncomputable def pass:List Bool->List DV->Rho->(List L->Rho->Prop)->Prop
 | [],[],ρ,Q=>Q [] ρ
 | false :: fs,x :: xs,ρ,Q=>fzL ρ x fun l ρ1=>pass fs xs ρ1 fun ls ρ2=>Q (l :: ls) ρ2
 | true :: fs,.sl i :: xs,ρ,Q=>pass fs xs ρ fun ls ρ2=>need (ioAt ρ2 i) fun l=>Q (l :: ls) ρ2
 | _,_,_,_=>False
noncomputable def a1m:List Bool->List DV->Lent
 | true :: _,.sl i :: _,0=>some i
 | _ :: fs,_ :: xs,j + 1=>a1m fs xs j
 | _,_,_=>none
noncomputable def flOf:Nat->List Bool->List DV->List (Nat × Nat)
 | j,true :: fs,.sl i :: xs=>(j,i) :: flOf (j + 1) fs xs
 | j,true :: fs,.d _ :: xs=>flOf (j + 1) fs xs
 | j,false :: fs,_ :: xs=>flOf (j + 1) fs xs
 | _,_,_=>[]
def a9b{fs:List Bool}:∀ {xs:List DV} {j0 j i:Nat},(j,i) ∈ flOf j0 fs xs ↔ ∃ k,j=j0 + k/\a1m fs xs k=some i:=by
 induction fs with
 | nil =>
  intro xs j0 j i;have e1:flOf j0 [] xs=[]:=by cases xs<;>rfl
  have e2:∀ k,a1m [] xs k=none:=fun k=>by cases xs<;>cases k<;>rfl
  rw [e1];exact⟨fun h=>absurd h (not_mem_nil),fun hq8=>by obtain⟨k,_,h⟩:=hq8;rw [e2] at h;cases h⟩
 | cons f fs ih =>
  intro xs j0 j i;cases xs with
  | nil =>
   have e1:flOf j0 (f :: fs) []=[]:=by cases f<;>rfl
   have e2:∀ k,a1m (f :: fs) [] k=none:=fun k=>by cases f<;>cases k<;>rfl
   rw [e1];exact⟨fun h=>absurd h (not_mem_nil),fun hq8=>by obtain⟨k,_,h⟩:=hq8;rw [e2] at h;cases h⟩
  | cons x xs =>
   have step:(∃ k,j=j0 + 1 + k/\a1m fs xs k=some i)->∃ k,j=j0 + k/\a1m (f :: fs) (x :: xs) k=some i:=fun hq8=>by obtain⟨k,e1,e2⟩:=hq8;exact⟨k + 1,'o',by cases f<;>cases x<;>exact e2⟩
   have back:∀ k,j=j0 + (k + 1)->a1m (f :: fs) (x :: xs) (k + 1)=some i->∃ k,j=j0 + 1 + k/\a1m fs xs k=some i:=fun k e1 e2=>⟨k,'o',by cases f<;>cases x<;>exact e2⟩;cases f with
   | false =>
    have e:flOf j0 (false :: fs) (x :: xs)=flOf (j0 + 1) fs xs:=by cases x<;>rfl
    rw [e,ih];refine⟨step,fun hq8=>?_⟩;obtain⟨k,e1,e2⟩:=hq8;cases k with
    | zero=>cases x<;>cases e2
    | succ k=>exact back k e1 e2
   | true =>
    cases x with
    | d y =>
     show(j,i) ∈ flOf (j0 + 1) fs xs ↔ _;rw [ih];refine⟨step,fun hq8=>?_⟩;obtain⟨k,e1,e2⟩:=hq8;cases k with
     | zero=>cases e2
     | succ k=>exact back k e1 e2
    | sl i0 =>
     show(j,i) ∈ (j0,i0) :: flOf (j0 + 1) fs xs ↔ _;rw [mem_cons,ih];constructor
     ·rintro(e | h)
      ·cases e;exact⟨0,rfl,rfl⟩
      ·exact step h
     ·rintro⟨k,e1,e2⟩
      cases k with
      | zero =>
       have e3:some i0=some i:=e2;cases e3;exact .inl (by rw [e1];rfl)
      | succ k=>exact .inr (back k e1 e2)
inductive Args (K:W.Frag) (S:Addr->Prop) (sa:Addr) (ρ:Rho) (σ:St) (H:Hp):List Bool->List DV->List L->List V->Prop where
 | nil:Args K S sa ρ σ H [] [] [] []
 | dat {fs xs ls vs x y v}:AtD K H S y v->Args K S sa ρ σ H fs xs ls vs->Args K S sa ρ σ H (false :: fs) (x :: xs) (.d y :: ls) (v :: vs)
 | scr {fs xs ls vs x}:Args K S sa ρ σ H fs xs ls vs->Args K S sa ρ σ H (false :: fs) (x :: xs) (.scr :: ls) (.ref sa :: vs)
 | io {fs xs ls vs v} {i:Nat} {l0:L}:ρ[i]? = some (some l0)->isOw l0=true->σ[i]? = some (some v)->Args K S sa ρ σ H fs xs ls vs->Args K S sa ρ σ H (true :: fs) (.sl i :: xs) (lend l0 :: ls) (v :: vs)
section
variable{K:W.Frag}{c:Rc}{O:Own}{ρ:Rho}{σ:St}{H H':Hp}{S S':Addr->Prop}
def Rel.fzL{x:DV}{v:V}{Q:L->Rho->Prop}(R:Rel K c O ρ σ H)(a:AtV K (live c O) σ H x v)(h:fzL ρ x Q):∃ l ρ' O',Q l ρ'/\Rel K c O' ρ' σ H/\Pers K (live c O) H (live c O') H/\((∃ y,l=.d y/\AtD K H (live c O') y v) ∨ (l=.scr/\v=.ref c.sa)):=by
 cases x with
 | d y=>exact⟨.d y,ρ,O,h,R,.refl,.inl ⟨y,rfl,a⟩⟩
 | sl i =>
  have a':σ[i]? = some (some v):=a;simp only [L2.fzL] at h;split at h
  ·rename_i y e
   obtain⟨w,h1,h2⟩:=R.dat i y (a1l e);rw [a'] at h1;cases h1;exact⟨.d y,ρ,O,h,R,.refl,.inl ⟨y,rfl,h2⟩⟩
  ·rename_i xs e
   have e':=a1l e;obtain⟨R',P⟩:=R.freeze e';have hi:i < ρ.length:=(List.getElem?_eq_some_iff.mp e').1;obtain⟨w,h1,h2⟩:=R'.dat i (.list xs) (by rw [getElem?_set_self hi]);rw [a'] at h1;cases h1;exact⟨_,_,_,h,R',P,.inl ⟨_,rfl,h2⟩⟩
  ·rename_i e
   have:=R.scr i (a1l e);rw [a'] at this;cases this;exact⟨_,ρ,O,h,R,.refl,.inr ⟨rfl,rfl⟩⟩
  ·exact h.elim
def d3x{fs:List Bool}:∀ {xs:List DV} {vs:List V} {ρ:Rho} {O:Own} {Q:List L->Rho->Prop},Rel K c O ρ σ H->AtVs K (live c O) σ H xs vs->pass fs xs ρ Q ->
  ∃ ls ρ' O',Q ls ρ'/\Rel K c O' ρ' σ H/\Pers K (live c O) H (live c O') H/\Args K (live c O') c.sa ρ' σ H fs xs ls vs:=by
 induction fs with
 | nil =>
  intro xs vs ρ O Q R a h;cases xs with
  | nil=>cases a;exact⟨[],ρ,O,h,R,.refl,.nil⟩
  | cons _ _=>exact(show False from h).elim
 | cons f fs ih =>
  intro xs vs ρ O Q R a h;cases xs with
  | nil=>cases f<;>exact(show False from h).elim
  | cons x xs =>
   cases a with
   | @cons _ _ v vs a as =>
   cases f with
   | false =>
    have h':L2.fzL ρ x fun l ρ1=>pass fs xs ρ1 fun ls ρ2=>Q (l :: ls) ρ2:=h;obtain⟨l,ρ1,O1,h1,R1,P1,a1⟩:=R.fzL a h';obtain⟨ls,ρ2,O2,h2,R2,P2,a2⟩:=ih R1 (AtVs.pers as P1) h1;refine⟨l :: ls,ρ2,O2,h2,R2,P1.trans P2,?_⟩;rcases a1 with⟨y,rfl,a1⟩ | ⟨rfl,rfl⟩
    ·exact .dat (P2 _ _ a1) a2
    ·exact .scr a2
   | true =>
    cases x with
    | d y=>exact(show False from h).elim
    | sl i =>
     have h':pass fs xs ρ fun ls ρ2=>need (ioAt ρ2 i) fun l=>Q (l :: ls) ρ2:=h;obtain⟨ls,ρ2,O2,hz1,R2,P2,a2⟩:=ih R as h';obtain⟨l,e,h2⟩:=ne (hz1);refine⟨l :: ls,ρ2,O2,h2,R2,P2,?_⟩;unfold ioAt at e;split at e
     ·rename_i l0 el
      split at e
      ·rename_i ho
       cases e
       exact .io (a1l el) ho a a2
      ·cases e
     ·cases e
def Args.begins{fs:List Bool}{xs:List DV}{ls:List L}{vs:List V}(a:Args K (live c O) c.sa ρ σ H fs xs ls vs)(inj:∀ j k i,a1m fs xs j=some i->a1m fs xs k=some i->j=k) :
  Begins K c O ρ σ H (a1m fs xs) (ls.map some) (vs.map some):=by
 refine⟨?_,?_,?_,inj,?_⟩
 ·clear inj
  induction a with
  | nil=>intro j l e;simp at e
  | dat h _ ih =>
   intro j l e ho;cases j with
   | zero=>cases e;cases ho
   | succ j=>obtain⟨i,l0,h1,h2⟩:=ih j l (by simpa using e) ho;exact⟨i,l0,h1,by simpa using h2⟩
  | scr _ ih =>
   intro j l e ho;cases j with
   | zero=>cases e;cases ho
   | succ j=>obtain⟨i,l0,h1,h2⟩:=ih j l (by simpa using e) ho;exact⟨i,l0,h1,by simpa using h2⟩
  | @io fs xs ls vs v i l0 h1 h2 h3 _ ih =>
   intro j l e ho;cases j with
   | zero=>cases e;exact⟨i,l0,rfl,h1,h2,rfl,by simpa using h3.symm⟩
   | succ j=>obtain⟨i,l0,h1,h2⟩:=ih j l (by simpa using e) ho;exact⟨i,l0,h1,by simpa using h2⟩
 ·clear inj
  induction a with
  | nil=>intro j x e;simp at e
  | dat h _ ih =>
   intro j x e;cases j with
   | zero=>cases e;exact⟨_,rfl,h⟩
   | succ j=>obtain⟨v,h1,h2⟩:=ih j x (by simpa using e);exact⟨v,by simpa using h1,h2⟩
  | scr _ ih =>
   intro j x e;cases j with
   | zero=>cases e
   | succ j=>obtain⟨v,h1,h2⟩:=ih j x (by simpa using e);exact⟨v,by simpa using h1,h2⟩
  | @io fs xs ls vs v i l0 h1 h2 h3 _ ih =>
   intro j x e;cases j with
   | zero=>cases l0<;>first | (cases h2;done) | cases e
   | succ j=>obtain⟨v,h1,h2⟩:=ih j x (by simpa using e);exact⟨v,by simpa using h1,h2⟩
 ·clear inj
  induction a with
  | nil=>intro j e;simp at e
  | dat h _ ih =>
   intro j e;cases j with
   | zero=>cases e
   | succ j=>have:=ih j (by simpa using e);simpa using this
  | scr _ ih =>
   intro j e;cases j with
   | zero=>rfl
   | succ j=>have:=ih j (by simpa using e);simpa using this
  | @io fs xs ls vs v i l0 h1 h2 h3 _ ih =>
   intro j e;cases j with
   | zero=>cases l0<;>first | (cases h2;done) | cases e
   | succ j=>have:=ih j (by simpa using e);simpa using this
 ·clear inj
  rw [length_map,length_map];induction a with
  | nil=>rfl
  | dat _ _ ih=>simp [ih]
  | scr _ ih=>simp [ih]
  | io _ _ _ _ ih=>simp [ih]
def Args.mask{fs:List Bool}{xs:List DV}{ls:List L}{vs:List V}(a:Args K (live c O) c.sa ρ σ H fs xs ls vs):∀ (ρ':Rho) {j i:Nat},a1m fs xs j=some i->(L2.mask ls ρ')[j]?.join=ρ'[j]?.join:=by
 have hd:∀ ρ':Rho,ρ'.head?.join=ρ'[0]?.join:=fun ρ'=>by cases ρ'<;>rfl
 have tl:∀ (ρ':Rho) (j:Nat),ρ'.tail[j]? = ρ'[j + 1]?:=fun ρ' j=>by cases ρ'<;>simp
 induction a with
 | nil=>intro ρ' j i e;cases e
 | dat h _ ih =>
  intro ρ' j i e;cases j with
  | zero=>cases e
  | succ j =>
   have:=ih ρ'.tail (j:=j) (i:=i) e;rw [tl] at this;rw [← this];simp [L2.mask]
 | scr _ ih =>
  intro ρ' j i e;cases j with
  | zero=>cases e
  | succ j =>
   have:=ih ρ'.tail (j:=j) (i:=i) e;rw [tl] at this;rw [← this];simp [L2.mask]
 | @io fs xs ls vs v i0 l0 h1 h2 h3 _ ih =>
  intro ρ' j i e;cases j with
  | zero =>
   have hio:isIO (lend l0)=true:=by cases l0<;>first | rfl | cases h2
   simp only [L2.mask,hio,if_true,List.getElem?_cons_zero];show ρ'.head?.join=_;exact hd ρ'
  | succ j =>
   have:=ih ρ'.tail (j:=j) (i:=i) e;rw [tl] at this;rw [← this];simp [L2.mask]
end
def b1v{ρi ρj:Rho}:∀ {fl:List (Nat × Nat)} {ρ:Rho},(∀ j i,(j,i) ∈ fl->ρi[j]?.join=ρj[j]?.join)->fills ρi fl ρ=fills ρj fl ρ
 | [],_,_=>rfl
 | (j,i) :: r,ρ,h=>by
  have e:a4g ρi j i ρ=a4g ρj j i ρ:=by
   unfold a4g a5g;rw [h j i mem_cons_self]
  unfold fills;rw [e];exact b1v fun j' i' m=>h j' i' (mem_cons_of_mem _ m)
def dCall(fs:List Bool)(sp:DSp)(da:TDA)(ρ:Rho)(Q:RV->Rho->Prop):Prop:=da ρ fun xs ρ1=>pass fs xs ρ1 fun ls ρ2=>((flOf 0 fs xs).map (·.2)).Nodup/\sp ls fun r outs=>Q r (fills outs (flOf 0 fs xs) ρ2)
def b7r(fs:List Bool)(sp:DSp)(da:TDA):TDE:=fun ρ Q=>dCall fs sp da ρ fun r ρ1=>match r with
 | .d x=>Q (.d x) ρ1
 | .new xs=>Q (.d (.list xs)) ρ1
section
variable{K:W.Frag}{c:Rc}{O:Own}{ρ:Rho}{σ:St}{H H':Hp}{S S':Addr->Prop}
def c5t{fs:List Bool}{xs:List DV}(nd:((flOf 0 fs xs).map (·.2)).Nodup):∀ j k i,a1m fs xs j=some i->a1m fs xs k=some i->j=k:=fun j k i e1 e2=>by
 have m1:(j,i) ∈ flOf 0 fs xs:=a9b.mpr ⟨j,'o',e1⟩;have m2:(k,i) ∈ flOf 0 fs xs:=a9b.mpr ⟨k,'o',e2⟩;exact congrArg Prod.fst (key _ nd m1 m2 rfl)
where
 key:∀ (l:List (Nat × Nat)) {a b:Nat × Nat},(l.map (·.2)).Nodup->a ∈ l->b ∈ l->a.2=b.2->a=b:=fun l=>by
  induction l with
  | nil=>intro a b _ h;cases h
  | cons x l ih =>
   intro a b nd ha hb e;rw [map_cons,nodup_cons] at nd;rcases mem_cons.mp ha with ea | ha2<;>rcases mem_cons.mp hb with eb | hb2
   ·rw [ea,eb]
   ·exact absurd (mem_map.mpr ⟨b,hb2,by rw [← e,ea]⟩) nd.1
   ·exact absurd (mem_map.mpr ⟨a,ha2,by rw [e,eb]⟩) nd.1
   ·exact ih nd.2 ha2 hb2 e
def c2y{fs:List Bool}{sp:DSp}{ta:TA}{da:TDA}(ha:∀ (Qa:List DV->Rho->Prop) (Qv:List V->Hp->Prop),da ρ Qa->(∀ xs ρ1 O1 vs H1,Qa xs ρ1->Rel K c O1 ρ1 σ H1->Pers K (live c O) H (live c O1) H1->AtVs K (live c O1) σ H1 xs vs->Qv vs H1)->ta σ H Qv)
  {Qd:RV->Rho->Prop} {Q:VK} (h:dCall fs sp da ρ Qd)
  (k:∀ r ρ' O' v H',Qd r ρ'->b1e K c O' ρ' σ H' r v->Pers K (live c O) H (match r with | .d _=>live c O' | .new _=>fun a=>live c O' a/\v ≠ .ref a) H'->Q v H'):b0v (spD K sp) [] E0 ta σ H Q:=by
 refine ha _ _ h fun xs ρ1 O1 vs H1 h1 R1 P1 a1=>?_;obtain⟨ls,ρ2,O2,⟨nd,h2⟩,R2,P2,as⟩:=d3x R1 a1 h1;have inj:=c5t nd;obtain⟨Ri,Pi⟩:=R2.begin (b:=true) (P:=fun _=>False) (H':=H1) (as.begins inj) (Same.refl _) (fun p z=>z.elim);rw [append_nil];have hf:∀ j i,(j,i) ∈ flOf 0 fs xs->a1m fs xs j=some i:=fun j i m=>by
  obtain⟨k,e1,e2⟩:=a9b.mp m;have:j=k:=by omega
  subst this;exact e2
 have hf':∀ j i,a1m fs xs j=some i->(j,i) ∈ flOf 0 fs xs:=fun j i e=>a9b.mpr ⟨j,'o',e⟩;refine⟨c.in O2 (a1a O2 ρ2 (a1m fs xs)) (fun _=>False) true H1,a1a O2 ρ2 (a1m fs xs),ls,_,rfl,fun p z=>z,fun p z=>z,fun p z=>.inr ⟨rfl,z⟩,fun i=>rfl,Ri,h2,fun r O' ρ' σ' v H' q ok=>?_⟩;have ef:fills (mask ls ρ') (flOf 0 fs xs) ρ2=fills ρ' (flOf 0 fs xs) ρ2:=b1v fun j i m=>as.mask ρ' (hf j i m);rw [ef] at q;have P12:=P1.trans P2;have lentM:∀ {b:Addr},(∃ j,a1a O2 ρ2 (a1m fs xs) j=some b)->∃ vs,H1 b=some (.lst vs):=fun hq8=>by
  obtain⟨j,e⟩:=hq8;obtain⟨i,_,_,_,_,hO⟩:=a1u e;exact(R2.has i _ hO).2
 have hsame:∀ {ci:Rc},Rel K ci O' ρ' σ' H'->ci.H0=H1->(∀ p,ci.M p->∃ j,a1a O2 ρ2 (a1m fs xs) j=some p)->(∀ b o,(∀ j,a1a O2 ρ2 (a1m fs xs) j ≠ some b)->H1 b=some o->H' b=some o):=fun{ci} Rf h0 hM b o n q=>by
  refine Rf.same b o (fun z=>?_) (by rw [h0];exact q);obtain⟨j,e⟩:=hM b z;exact n j e
 have keep:(∀ b o,(∀ j,a1a O2 ρ2 (a1m fs xs) j ≠ some b)->H1 b=some o->H' b=some o)->Keep (live c O2) H1 H':=fun fr =>
  ⟨fun b ws e=>fr b _ (fun j z=>by obtain⟨vs,w⟩:=lentM ⟨j,z⟩;rw [e] at w;cases w) e,fun b o u e=>fr b _ (fun j z=>by obtain⟨vs,w⟩:=lentM ⟨j,z⟩;rw [e] at w;cases w) e,
   fun b ws hl e=>fr b _ (fun j z=>by obtain⟨i,_,_,_,_,hO⟩:=a1u z;exact hl.2.2 i hO) e⟩
 cases r with
 | d x =>
  obtain⟨Rf,ax⟩:=ok;have fr:=hsame Rf rfl (fun p z=>z);have hl:∀ a,live (c.in O2 (a1a O2 ρ2 (a1m fs xs)) (fun _=>False) true H1) O' a->live c O2 a:=fun a z=>z.1;have hp:Pers K (live c O2) H1 (live c O2) H':=.of (keep fr) fun _ z=>z;have hP:Pers K (live (c.in O2 (a1a O2 ρ2 (a1m fs xs)) (fun _=>False) true H1) O') H' (live c O2) H':=.of (Keep.refl _ _) hl;have Rn:=R2.finish (P':=c.P) nd hf hf' Rf (fun _=>rfl) rfl rfl fr (fun j p e=>Rf.ml p ⟨j,e⟩) hP hp (fun p z=>.inl z);exact k (.d x) _ O2 v H' q ⟨Rn,hP _ _ ax⟩ (P12.trans hp)
 | new ys =>
  obtain⟨p,ws,rfl,Rf,ff,hH,ax⟩:=ok;have fr:=hsame Rf rfl (fun p z=>z);have h1p:H1 p=none:=ff.1;have hl:∀ a,live ((c.in O2 (a1a O2 ρ2 (a1m fs xs)) (fun _=>False) true H1).add p) O' a->live (c.add p) O2 a:=fun a z=>by
   have z1:live c O2 a:=z.1;exact a8z z1 fun e=>z.2.1 (.inr e)
  have hp:Pers K (live c O2) H1 (live (c.add p) O2) H':=fun d u h=>by
   refine AtD.mono (S:=live (c.add p) O2) ((keep fr).less fun b z=>(a3i z).1) _ _ (AtD.less h1p (fun a z n=>a8z z n) _ _ h)
  have hP:Pers K (live ((c.in O2 (a1a O2 ρ2 (a1m fs xs)) (fun _=>False) true H1).add p) O') H' (live (c.add p) O2) H':=.of (Keep.refl _ _) hl;have fp:=b2j R2 h1p;have Rn:Rel K (c.add p) O2 (fills ρ' (flOf 0 fs xs) ρ2) σ H':=R2.finish (P':=fun a=>c.P a ∨ a=p) nd hf hf' Rf (fun _=>rfl) rfl rfl fr (fun j q e=>Rf.ml q ⟨j,e⟩) hP hp (fun q z=>z.elim .inl fun e=>.inr (by subst e;exact⟨by rw [hH];exact(fun z=>nomatch z),fp.2.2.2⟩));refine k (.new ys) _ O2 _ H' q ⟨p,ws,rfl,Rn,fp,hH,hP.all ax⟩ ((P12.trans hp).trans (.of (Keep.refl _ _) fun a z=>⟨(a3i z).1,fun e=>(a3i z).2 (by cases e;rfl)⟩))
def c5u{fs:List Bool}{sp:DSp}{ta:TA}{da:TDA}(ha:AdA K ta da)(R:Rel K c O ρ σ H){Qd:RV->Rho->Prop}{Q:VK}(h:dCall fs sp da ρ Qd)
  (k:∀ r ρ' O' v H',Qd r ρ'->b1e K c O' ρ' σ H' r v->Pers K (live c O) H (match r with | .d _=>live c O' | .new _=>fun a=>live c O' a/\v ≠ .ref a) H'->Q v H'):b0v (spD K sp) [] E0 ta σ H Q:=
 c2y (fun Qa Qv q k'=>ha c O ρ σ H Qa Qv R q k') h k
def c8s{fs:List Bool}{sp:DSp}{ta:TA}{da:TDA}(ha:AdA K ta da):AdE K (b0v (spD K sp) [] E0 ta) (b7r fs sp da):=fun c O ρ σ H Qd Q R h k =>
 c5u ha R h fun r ρ' O' v H' q ok P=>by
  cases r with
  | d x=>exact k _ _ _ _ _ q ok.1 P ok.2
  | new xs =>
   obtain⟨p,ws,rfl,Rn,fp,hH,ax⟩:=ok;obtain⟨R2,P2⟩:=Rn.unadd;exact k _ _ _ _ _ q R2 (P.trans (.of (Keep.refl _ _) fun a z=>z.1)) (a2c ⟨Rn.frs p fp.1,fp.2.2.1,fp.2.2.2⟩ hH (P2.all ax))
end
section
variable{X:Cx}{k:Nat}{f:Addr}{fd:FuncData}{ps:List Str}{sp:DSp}{x:Str}{st:Stmt}{p pos:Pos}{e:Expr}{es:List Expr}{da:TDA}
def a0y(fs:List Bool)(d:Def X.K X.mg x st ps f fd)(g:FnOk X.prog X.w X.K X.mg X.base CX0 k f fd ps (spD X.K sp))(hr:Room k X.A)(hg:Gl X x)(ha:DA X (e :: es) da) (hdb:(x == ("__debug__" : Str))=false:=by decide)
  (he:starEach (e :: es) X.env=(false,eval e X.env) :: starEach es X.env:=by rfl) (hpl:(backTo pos (starEach es X.env)).any (·.1)=false:=by rfl):DE X (.Call (.Name x p) (e :: es) [] pos) (b7r fs sp da):=by
 obtain⟨t,pt,at_⟩:=ha;exact⟨_,a4v d g hr hg pt hdb he hpl,c8s at_⟩
end
end
section
noncomputable def capR(n:Nat)(cap:List 'm')(ρ:Rho):Rho:=List.replicate n none ++ cap.map fun p=>(ρ[p.2]?.join).map lend
noncomputable def flC:Nat->List 'm'->List (Nat × Nat)
 | _,[]=>[]
 | j,p :: r=>(j,p.2) :: flC (j + 1) r
noncomputable def a6t(n:Nat)(cap:List 'm'):Lent:=fun j=>if j < n then none else(cap[j - n]?).map (·.2)
def c0x:∀ {cap:List 'm'} {n j i:Nat},(j,i) ∈ flC n cap ↔ n <= j/\(cap[j - n]?).map (·.2)=some i:=by
 intro cap;induction cap with
 | nil=>intro n j i;simp [flC]
 | cons p r ih =>
  intro n j i;unfold flC;rw [mem_cons,ih];constructor
  ·rintro(e | ⟨h1,h2⟩)
   ·cases e;simp
   ·refine⟨'o',?_⟩
    have:j - n=(j - (n + 1)) + 1:=by omega
    rw [this,List.getElem?_cons_succ];exact h2
  ·rintro⟨h1,h2⟩
   by_cases e:j=n
   ·subst e
    simp at h2
    exact .inl (by rw [h2])
   ·refine .inr ⟨'o',?_⟩
    have:j - n=(j - (n + 1)) + 1:=by omega
    rw [this,List.getElem?_cons_succ] at h2;exact h2
def c0y:∀ {cap:List 'm'} {n:Nat},(flC n cap).map (·.2)=cap.map (·.2)
 | [],_=>rfl
 | p :: r,n=>by unfold flC;rw [map_cons,map_cons,c0y]
def a1n(g:TDG)(tt:TDT)(te:TDE)(Q:List PyData->Rho->Prop):List PyData->Rho->List PyData->Prop
 | [],ρ,acc=>Q acc ρ
 | x :: r,ρ,acc=>g x ρ fun ρ1=>tt ρ1 fun b ρ2=>if b=true then te ρ2 fun y ρ3=>fz ρ3 y fun z ρ4=>a1n g tt te Q r ρ4 (acc ++ [z]) else a1n g tt te Q r ρ2 acc
def b6l(n:Nat)(cap:List 'm')(di:TDI)(g:TDG)(tt:TDT)(te:TDE):TDF:=fun ρ Q=>di ρ fun xs ρ1=>xs.length <= 1000000/\(cap.map (·.2)).Nodup/\a1n g tt te (fun acc ρ'=>Q acc (fills ρ' (flC n cap) ρ1)) xs (capR n cap ρ1) []
section
variable{K:W.Frag}{c:Rc}{O:Own}{ρ:Rho}{σ:St}{H H':Hp}{S S':Addr->Prop}
def c5v{l:L}:isOw (lend l)=isOw l:=by cases l<;>rfl
def c2z{n:Nat}{cap:List 'm'}{own:List Str}(hn:own.length=n)(R:Rel K c O ρ σ H)(nd:(cap.map (·.2)).Nodup):Begins K c O ρ σ H (a6t n cap) (capR n cap ρ) (a6a own cap σ):=by
 have at_:∀ {j:Nat} {l:L},(capR n cap ρ)[j]? = some (some l)->n <= j/\∃ p l0,cap[j - n]? = some p/\ρ[p.2]? = some (some l0)/\l=lend l0:=fun{j l} e=>by
  unfold capR at e;by_cases hj:j < n
  ·rw [List.getElem?_append_left (by simpa using hj),List.getElem?_replicate,if_pos hj] at e;cases e
  ·rw [getElem?_append_right (by simpa using Nat.le_of_not_lt hj),length_replicate,getElem?_map] at e
   cases q:cap[j - n]? with
   | none=>rw [q] at e;cases e
   | some p =>
    rw [q] at e;have e':(ρ[p.2]?.join).map lend=some l:=Option.some.inj e;cases q2:ρ[p.2]?.join with
    | none=>rw [q2] at e';cases e'
    | some l0=>rw [q2] at e';cases e';exact⟨'o',p,l0,rfl,a1l q2,rfl⟩
 have st:∀ {j:Nat} {p:Str × Nat},n <= j->cap[j - n]? = some p->(a6a own cap σ)[j]? = some (σ[p.2]?).join:=fun{j p} h1 h2=>by
  unfold a6a;rw [getElem?_append_right (by simp;omega),length_replicate,hn,getElem?_map,h2];rfl
 refine⟨fun j l e ho=>?_,fun j x e=>?_,fun j e=>?_,fun j k i e1 e2=>?_,?_⟩
 ·obtain⟨h1,p,l0,h2,h3,h4⟩:=at_ e
  have ho':isOw l0=true:=by rw [h4,c5v] at ho;exact ho
  obtain⟨q,_,hq⟩:=R.ow h3 ho';refine⟨p.2,l0,?_,h3,ho',h4,?_⟩
  ·unfold a6t;rw [if_neg 'o',h2];rfl
  ·rw [st h1 h2,hq];rfl
 ·obtain⟨h1,p,l0,h2,h3,h4⟩:=at_ e
  cases l0 with
  | d y =>
   cases h4
   obtain⟨v,e1,e2⟩:=R.dat _ _ h3;exact⟨v,by rw [st h1 h2,e1];rfl,e2⟩
  | _=>cases h4
 ·obtain⟨h1,p,l0,h2,h3,h4⟩:=at_ e
  cases l0 with
  | scr=>rw [st h1 h2,R.scr _ h3];rfl
  | _=>cases h4
 ·unfold a6t at e1 e2
  split at e1
  ·cases e1
  ·split at e2
   ·cases e2
   ·rename_i h1 h2
    rw [← getElem?_map] at e1 e2;obtain⟨a1,b1⟩:=List.getElem?_eq_some_iff.mp e1;obtain⟨a2,b2⟩:=List.getElem?_eq_some_iff.mp e2;have:=(List.getElem_inj nd).mp (b1.trans b2.symm);omega
 ·unfold a6a capR;simp [hn]
def c0z{n:Nat}{own:List Str}{cap:List 'm'}{wi:TI}{g:TG}{tt:TT}{te:TE}{di:TDI}{dg:TDG}{dt:TDT}{de:TDE}(hn:own.length=n)(hi:AdI K wi di)(hg:AdG K g dg)(ht:AdT K tt dt)(he:AdE K te de) :
  AdF K (b3f own cap wi g tt te) (b6l n cap di dg dt de):=by
 intro c O ρ σ H Qd Q R h k;refine hi c O ρ σ H _ _ R h fun xs ρ1 O1 J H1 h1 R1 P1 I1 D hD=>?_;obtain⟨hz,nd,hloop⟩:=h1;have B:=c2z (own:=own) hn R1 nd;generalize hOc:a1a O1 ρ1 (a6t n cap)=Oc;have s0:=a0f hD (.lst []);obtain⟨R2,P2⟩:=R1.begin (b:=false) (P:=fun a=>a=D) B s0 (fun p e=>by subst e;exact⟨hD,by rw [a0d];exact fun z=>nomatch z⟩);rw [hOc] at R2 P2;have lentM:∀ {b:Addr},(∃ j,Oc j=some b)->∃ vs,H1 b=some (.lst vs):=fun hq8=>by
  obtain⟨j,e⟩:=hq8;rw [← hOc] at e;obtain⟨i,_,_,_,_,hO⟩:=a1u e;exact(R1.has i _ hO).2
 have nD:∀ j,Oc j ≠ some D:=fun j e=>by
  obtain⟨vs,q⟩:=lentM ⟨j,e⟩;rw [hD] at q;cases q
 -- what holds between two turns
 let Jn:St->Hp->Own->Rho->List PyData->List V->Prop:=fun σ' H' O' ρ' acc ys=>Rel K (c.in O1 Oc (fun a=>a=D) false H') O' ρ' σ' H'/\H' D=some (.lst ys)/\a0a K H' (live (c.in O1 Oc (fun a=>a=D) false H') O') acc ys /\
  (∀ b o,(∀ j,Oc j ≠ some b)->b ≠ D->H1 b=some o->H' b=some o)/\Pers K (live c O1) H1 (live (c.in O1 Oc (fun a=>a=D) false H') O') H'
 refine⟨fun i m σ' H'=>m=xs.length - i/\i <= xs.length/\∃ O' ρ' acc ys,Jn σ' H' O' ρ' acc ys/\acc.length <= i/\a1n dg dt de (fun acc ρ'=>Qd acc (fills ρ' (flC n cap) ρ1)) (xs.drop i) ρ' acc,⟨xs.length,by simp,zero_le _,Oc,_,[],[],⟨R2,a0d,.nil,fun b o _ nb q=>by rw [a0b nb];exact q,P2⟩,le_refl _,by rw [drop_zero];exact hloop⟩,?_⟩;rintro i m σ' H' ⟨rfl,hle,O',ρ',acc,ys,⟨R3,hDy,hacc,fr3,P3⟩,hal,q3⟩;obtain⟨it,stop⟩:=I1 _ _ P3;by_cases hlt:i < xs.length
 ·rw [List.drop_eq_getElem_cons hlt] at q3
  obtain⟨go,yld⟩:=it i xs[i] (getElem?_eq_getElem hlt);have q3':dg xs[i] ρ' fun ρ1'=>dt ρ1' fun b ρ2=>if b=true then de ρ2 fun y ρ3=>fz ρ3 y fun z ρ4=>a1n dg dt de (fun acc ρ'=>Qd acc (fills ρ' (flC n cap) ρ1)) (xs.drop (i + 1)) ρ4 (acc ++ [z]) else a1n dg dt de (fun acc ρ'=>Qd acc (fills ρ' (flC n cap) ρ1)) (xs.drop (i + 1)) ρ2 acc:=q3
  -- to the next turn, at a heap that differs from H4 at D alone
  have next:∀ (σ4:St) (H4 H5:Hp) (O4:Own) (ρ4:Rho) (acc':List PyData) (ys':List V),Rel K (c.in O1 Oc (fun a=>a=D) false H') O4 ρ4 σ4 H4->Pers K (live (c.in O1 Oc (fun a=>a=D) false H') O') H' (live (c.in O1 Oc (fun a=>a=D) false H') O4) H4 ->
    H5 D=some (.lst ys')->(∀ b,b ≠ D->H5 b=H4 b)->a0a K H4 (live (c.in O1 Oc (fun a=>a=D) false H') O4) acc' ys'->Jn σ4 H5 O4 ρ4 acc' ys':=fun σ4 H4 H5 O4 ρ4 acc' ys' R4 P4 h5 ne a4=>by
   have h4D:H4 D ≠ none:=R4.kept D (by show H' D ≠ none;rw [hDy];exact fun z=>nomatch z);have kp:Keep (live (c.in O1 Oc (fun a=>a=D) false H') O4) H4 H5:=by
    have hDl:∃ zs,H4 D=some (.lst zs):=⟨ys,R4.same D _ (fun hq8=>by obtain⟨j,e⟩:=hq8;exact nD j e) hDy⟩;obtain⟨zs,hDl⟩:=hDl;exact⟨fun b ws e=>by rw [ne b (b2v e hDl (by intro z;cases z))];exact e,fun b o u e=>by rw [ne b (b2v e hDl (by intro z;cases z))];exact e,fun b ws hl e=>by rw [ne b (fun z=>hl.2.1 z)];exact e⟩
   have hl:∀ a,live (c.in O1 Oc (fun a=>a=D) false H') O4 a->live (c.in O1 Oc (fun a=>a=D) false H5) O4 a:=fun a z=>z;have P5:Pers K (live (c.in O1 Oc (fun a=>a=D) false H') O4) H4 (live (c.in O1 Oc (fun a=>a=D) false H5) O4) H5:=.of kp hl;have inM:∀ i p,O4 i=some p->∃ j,Oc j=some p:=fun i p e=>by
    rcases (R4.has' i p e).1 with z | z
    ·exact z
    ·exact absurd z.1 Bool.false_ne_true
   refine⟨R4.to (fun _=>rfl) (fun _ _ _ z=>z) rfl rfl P5 (fun i p vs e q=>?_) (fun i p e _=>.inl (inM i p e)) (fun p z=>z.elim .inl fun w=>absurd w.1 Bool.false_ne_true) (fun p z=>?_) (fun b o _ z=>z) (fun b z=>z) (fun p z=>?_) (fun p z=>?_) (fun _=>rfl) (R4.sc.keep kp),h5,P5.all a4,fun b o n1 n2 q=>?_,(P3.trans P4).trans P5⟩
   ·obtain⟨j,ej⟩:=inM i p e
    rw [ne p (fun z=>nD j (by rw [← z];exact ej))];exact q
   ·have z':H5 p=none:=z
    have np:p ≠ D:=by rintro rfl;rw [h5] at z';cases z'
    rw [ne p np] at z';exact R4.frs p (R4.free0 z')
   ·obtain⟨j,ej⟩:=z
    obtain⟨vs,q⟩:=R4.ml p ⟨j,ej⟩;exact⟨vs,by rw [ne p (fun w=>nD j (by rw [← w];exact ej))];exact q⟩
   ·rcases z with z | ⟨j,ej⟩
    ·rw [show p=D from z,h5];exact fun w=>nomatch w
    ·obtain⟨vs,q⟩:=R4.ml p ⟨j,ej⟩
     rw [ne p (fun w=>nD j (by rw [← w];exact ej)),q];exact fun w=>nomatch w
   ·rw [ne b n2]
    exact R4.same b o (fun hq8=>by obtain⟨j,e⟩:=hq8;exact n1 j e) (fr3 b o n1 n2 q)
  refine .inr ⟨go,fun σ'' H''=>∃ O'' ρ'' acc' ys',Jn σ'' H'' O'' ρ'' acc' ys'/\acc'.length <= i + 1/\a1n dg dt de (fun acc ρ'=>Qd acc (fills ρ' (flC n cap) ρ1)) (xs.drop (i + 1)) ρ'' acc',fun σ'' H'' hq8=>by obtain⟨O'',ρ'',acc',ys',a1,a2,a3⟩:=hq8;exact⟨xs.length - (i + 1),'o',rfl,hlt,O'',ρ'',acc',ys',a1,a2,a3⟩,fun v H4 y=>?_⟩;obtain⟨s4,a4⟩:=yld v H4 y;refine hg _ O' ρ' σ' H4 xs[i] v _ _ (R3.grow s4) a4 q3' fun O5 ρ5 σ5 R5 P5 q5=>?_;refine ht _ O5 ρ5 σ5 H4 _ _ R5 q5 fun b ρ6 O6 H6 q6 R6 P6=>?_;have P06:=((Pers.same s4).trans P5).trans P6;have dAt:∀ {O9:Own} {ρ9:Rho} {σ9:St} {H9:Hp},Rel K (c.in O1 Oc (fun a=>a=D) false H') O9 ρ9 σ9 H9->H9 D=some (.lst ys):=fun Rx=>Rx.same D _ (fun hq8=>by obtain⟨j,e⟩:=hq8;exact nD j e) hDy;cases b with
  | false =>
   rw [if_neg Bool.false_ne_true] at q6 ⊢;exact⟨O6,ρ6,acc,ys,next σ5 H6 H6 O6 ρ6 acc ys R6 P06 (dAt R6) 'i' (P06.all hacc),'o',q6⟩
  | true =>
   rw [if_pos rfl] at q6 ⊢;refine he _ O6 ρ6 σ5 H6 _ _ R6 q6 fun y ρ7 O7 u H7 q7 R7 P7 a7=>?_;obtain⟨z,ρ8,O8,q8,R8,P8,a8⟩:=R7.fz a7 q7;have P08:=(P06.trans P7).trans P8;have accl:ys.length=acc.length:=hacc.length;refine⟨ys,dAt R8,by rw [accl];exact mil 'o',O8,ρ8,acc ++ [z],ys ++ [u],next σ5 H7 _ O8 ρ8 _ _ R8 P08 a0d (fun b nb=>a0b nb) ((P08.all hacc).snoc a8),by rw [length_append,List.length_singleton];omega,q8⟩
 ·have e:i=xs.length:=by omega
  subst e;rw [List.drop_eq_nil_of_le 'b'] at q3;refine .inl ⟨stop,?_⟩;have fr:∀ b o,(∀ j,a1a O1 ρ1 (a6t n cap) j ≠ some b)->H1 b=some o->H' b=some o:=fun b o n1 q=>fr3 b o (by rw [← hOc];exact n1) (a0u q hD) q;have fp:=b2j R1 hD;have hl:∀ a,live (c.in O1 Oc (fun a=>a=D) false H') O' a->live (c.add D) O1 a:=fun a z=>a8z z.1 z.2.1;have hP:Pers K (live (c.in O1 Oc (fun a=>a=D) false H') O') H' (live (c.add D) O1) H':=.of (Keep.refl _ _) hl;have hp:Pers K (live c O1) H1 (live (c.add D) O1) H':=P3.trans hP;have hf:∀ j i,(j,i) ∈ flC n cap->a6t n cap j=some i:=fun j i m=>by
   obtain⟨h1,h2⟩:=c0x.mp m;unfold a6t;rw [if_neg 'o'];exact h2
  have hf':∀ j i,a6t n cap j=some i->(j,i) ∈ flC n cap:=fun j i e=>by
   unfold a6t at e;split at e
   ·cases e
   ·exact c0x.mpr ⟨'o',e⟩
  have Rn:Rel K (c.add D) O1 (fills ρ' (flC n cap) ρ1) σ H':=R1.finish (P':=fun a=>c.P a ∨ a=D) (by rw [c0y];exact nd) hf hf' R3 (fun j=>by rw [hOc];rfl) rfl rfl fr (fun j p e=>R3.ml p ⟨j,by rw [← hOc];exact e⟩) hP hp (fun q z=>z.elim .inl fun e=>.inr (by subst e;exact⟨by rw [hDy];exact(fun z=>nomatch z),fp.2.2.2⟩));exact k _ _ O1 D ys H' q3 Rn (P1.trans hp) fp hDy (hP.all hacc)
end
end
section
def DG(X:Cx)(target:Expr)(dg:TDG):Prop:=∃ g,PG X target g/\AdG X.K g dg
def DGs(X:Cx)(ts:List Expr)(dg:TDGs):Prop:=∃ g,PGs X ts g/\AdGs X.K g dg
def DIf(X:Cx)(ifs:List Expr)(dt:TDT):Prop:=∃ t,PIf X ifs t/\AdT X.K t dt
section
variable{X:Cx}{st:Stmt}{rest:List Stmt}{e tg iter a b c:Expr}{es ifs:List Expr}{de da db dc:TDE}{df:TDF}{dt du:TDS}{dg:TDG}{dgs:TDGs}{di:TDI}{dtt:TDT}{daa:TDA}{pos:Pos}
def a8o:DSs X [] b6i:=⟨_,a4e,d3s⟩
def a0r(h1:DS X st dt)(h2:DSs X rest du):DSs X (st :: rest) (dSeq dt du):=by obtain⟨_,p,a⟩:=h1;obtain⟨_,p',a'⟩:=h2;exact⟨_,a0o p p',d8g a a'⟩
def a1b(h1:DS X st dt):DSs X [st] dt:=by obtain⟨_,p,a⟩:=h1;exact⟨_,a0z p,a⟩
def b4h(he:DE X e de)(hs:swapsWith e none pos.line X.env=pure false:=by rfl):DS X (.Expr e pos) (c2r de):=by obtain⟨_,p,a⟩:=he;exact⟨_,a7g p hs,d3t a⟩
def a4a(he:DE X e de):DS X (.Return (some e) pos) (dRet de):=by obtain⟨_,p,a⟩:=he;exact⟨_,a3l p,d8h a⟩
def b5k(i:Nat){x:Str}{p:Pos}(hN:X.N[i]? = some x:=by rfl)(hv:Vis X.env.scope x:=by first | exact Or.inl rfl | exact Or.inr 'e' | exact Or.inr (Or.inr rfl)) (hd:(x == ("__debug__" : Str))=false:=by decide)
  (hcd:(x == ("__classdict__" : Str))=false:=by decide):DS X (.Return (some (.Name x p)) pos) (c0v i):=⟨_,a3l (a8g hN hv hd hcd),c5p⟩
def b3i{c:Expr}{a b:List Stmt}(hc:DT X c dtt)(ha:DSs X a dt)(hb:DSs X b du):DS X (.If c a b pos) (dIf dtt dt du):=by obtain⟨_,p,a⟩:=hc;obtain⟨_,p',a'⟩:=ha;obtain⟨_,p2,a2⟩:=hb;exact⟨_,a6p p p' p2,ad_if a a' a2⟩
def a2h{i:Nat}{x:Str}{pos':Pos}(hN:X.N.Nodup)(hi:X.N[i]? = some x)(hx:Loc X.env.scope x)(he:DE X e de)(hs:swapsWith e (some (.Name x pos')) pos.line X.env=pure false:=by rfl)(hf:X.fn x=true ∨ X.env.scope.names.lookup x=some .local:=by first | exact .inl rfl | exact .inr rfl) :
  DS X (.Assign [.Name x pos'] e pos) (dSet i de):=by obtain⟨_,p,a⟩:=he;exact⟨_,a1z hN hi hx p hs hf,d8i a⟩
def b1f{i:Nat}{x:Str}{pos':Pos}(hN:X.N.Nodup)(hi:X.N[i]? = some x)(hx:Loc X.env.scope x)(he:DF X e df)(hs:swapsWith e (some (.Name x pos')) pos.line X.env=pure false:=by rfl)(hf:X.fn x=true ∨ X.env.scope.names.lookup x=some .local:=by first | exact .inl rfl | exact .inr rfl) :
  DS X (.Assign [.Name x pos'] e pos) (b6j i df):=by obtain⟨_,p,a⟩:=he;exact⟨_,a1z hN hi hx p hs hf,c0w a⟩
def a1g{i:Nat}{x:Str}(hN:X.N.Nodup)(hi:X.N[i]? = some x)(hx:Loc X.env.scope x)(hf:X.fn x=true ∨ X.env.scope.names.lookup x=some .local:=by first | exact .inl rfl | exact .inr rfl | assumption):DG X (.Name x pos) (b7l i):=⟨_,a2b hN hi hx hf,d3u⟩
def d3y:DGs X [] b6k:=⟨_,b0u,d8j⟩
def b7s(h1:DG X e dg)(h2:DGs X es dgs)(hs:(assignEach (e :: es) X.env).map (·.2)=assign e X.env :: (assignEach es X.env).map (·.2):=by rfl):DGs X (e :: es) (b7m dg dgs):=by obtain⟨_,p,a⟩:=h1;obtain⟨_,p',a'⟩:=h2;exact⟨_,a4u p p' hs,d3v a a'⟩
def d8n{k n:Nat}(hc:X.calm=true)(h:DGs X es dgs)(hn:(assignEach es X.env).length=n:=by rfl)(hst:(assignEach es X.env).findIdx? (·.1)=none:=by rfl):DG X (.Tuple es k pos) (c2t n dgs):=by obtain⟨_,p,a⟩:=h;exact⟨_,b2w hc p hn hst,d8k a⟩
def c8t(i:Nat){x:Str}{b:Expr}{p p2:Pos}(hN:X.N[i]? = some x)(hb:DE X b db)(he:DE X e de)(hv:Vis X.env.scope x:=by first | exact Or.inl rfl | exact Or.inr 'e' | exact Or.inr (Or.inr rfl)) (hd:(x == ("__debug__" : Str))=false:=by decide)
  (hcd:(x == ("__classdict__" : Str))=false:=by decide) (ha:∀ v,assign (.Subscript (.Name x p) b p2) X.env v=(do
   let ov ← holding [v] (eval (.Name x p) X.env)
   let iv ← holding [v,ov] (eval b X.env)
   standAt p2
   holding [v,ov,iv] (setItem ov iv v)
   release [v,ov,iv] []):=by intro _;rfl)
  (hs:swapsWithSole [.Subscript (.Name x p) b p2] e pos.line X.env=pure false:=by rfl) (hw:swappedStores [.Subscript (.Name x p) b p2] e X.env=pure none:=by rfl)
  (h1:(assignEach [.Subscript (.Name x p) b p2] X.env).map (·.2)=[assign (.Subscript (.Name x p) b p2) X.env]:=by rfl):DS X (.Assign [.Subscript (.Name x p) b p2] e pos) (b0c i db de):=by
 obtain⟨ti,pi,ai⟩:=hb;obtain⟨te,pe,ae⟩:=he;exact⟨_,b6s pe (b6r (a8g hN hv hd hcd) pi set_list ha) hs hw h1,c8p ai ae⟩
def b5l(i:Nat){x:Str}{p p2:Pos}(hN:X.N[i]? = some x)(he:DE X e de)(hv:Vis X.env.scope x:=by first | exact Or.inl rfl | exact Or.inr 'e' | exact Or.inr (Or.inr rfl)) (hd:(x == ("__debug__" : Str))=false:=by decide)
  (hcd:(x == ("__classdict__" : Str))=false:=by decide) (hs:starEach [e] X.env=[(false,eval e X.env)]:=by rfl)
  (hbase:attributeBase (.Name x p) "append" X.env (eval (.Name x p) X.env)=eval (.Name x p) X.env:=by rfl)
  (hfew:((backTo pos (starEach [e] X.env)).all (fun x=>!x.1) && (backToKw pos (keywordEach [] X.env)).all (fun x=>x.1.isSome)
   && decide (([e]:List Expr).length + ([]:List Keyword).length + (if ([]:List Keyword).isEmpty then 0 else 1) < 30))=true:=by rfl)
  (hline:(p2.endLine == pos.line)=true:=by rfl):DE X (.Call (.Attribute (.Name x p) "append" p2) [e] [] pos) (b4g i de):=by
 obtain⟨te,pe,ae⟩:=he;exact⟨_,a8t PySem.F.plainAttrs_list PySem.F.slot_list_append PySem.F.type_list_append a3u (a8g hN hv hd hcd) (a0e pe a0j hs) hbase hfew hline hs rfl,c5q ae⟩
def a5h{body:List Stmt}(hp:PassesOwn (model X.prog X.w) X.A X.env X.xe)(hc:X.calm=true)(hi:DI X tg iter di)(hg:DG X tg dg)(hb:DSs X body dt)(hs:∀ x,foldedSetIterable iter X.env x=pure x:=by intro _;rfl):DS X (.For tg iter body [] pos) (dFor di dg dt):=
 by obtain⟨_,p,a⟩:=hi;obtain⟨_,p',a'⟩:=hg;obtain⟨_,p2,a2⟩:=hb;exact⟨_,a6h hp hc p p' p2 hs,d8m a a' a2⟩
def a4b(h:DE X e de):DI X tg e (c2w de):=by obtain⟨_,p,a⟩:=h;exact⟨_,c5l p,d8l a⟩
def a3e{p:Pos} (hg:Gl X "range") (hm:X.mg "range" = none) (ha:DE X a da) (hs:starEach [a] X.env=[(false,eval a X.env)]:=by rfl):DI X tg (.Call (.Name "range" p) [a] [] pos) (b7n da):=
 by obtain⟨_,p,a⟩:=ha;exact⟨_,c4m hg hm (a0e p a0j hs) hs,d3w a⟩
def a7k:DIf X [] (fun ρ Q=>Q true ρ):=⟨_,a8k,fun c O ρ σ H Qd Q R h k=>k _ _ _ _ h R .refl⟩
def b1g(h:DT X e dtt):DIf X [e] dtt:=by obtain⟨_,p,a⟩:=h;exact⟨_,c0q p,a⟩
end
def upE(K:W.Frag)(dt:TDE):TE:=fun σ H Q=>∃ c O ρ Qd,Rel K c O ρ σ H/\dt ρ Qd/\(∀ x ρ' O' v H',Qd x ρ'->Rel K c O' ρ' σ H'->Pers K (live c O) H (live c O') H'->AtV K (live c O') σ H' x v->Q v H')
def upT(K:W.Frag)(dt:TDT):TT:=fun σ H Q=>∃ c O ρ Qd,Rel K c O ρ σ H/\dt ρ Qd/\(∀ b ρ' O' H',Qd b ρ'->Rel K c O' ρ' σ H'->Pers K (live c O) H (live c O') H'->Q b H')
def upG(K:W.Frag)(dg:TDG):TG:=fun v σ H Q=>∃ c O ρ x Qd,Rel K c O ρ σ H/\AtD K H (live c O) x v/\dg x ρ Qd/\(∀ O' ρ' σ' ,Rel K c O' ρ' σ' H->Pers K (live c O) H (live c O') H->Qd ρ'->Q σ' H)
def c5w{K:W.Frag}{dt:TDE}:AdE K (upE K dt) dt:=fun c O ρ σ H Qd Q R h k=>⟨c,O,ρ,Qd,R,h,k⟩
def c5x{K:W.Frag}{dt:TDT}:AdT K (upT K dt) dt:=fun c O ρ σ H Qd Q R h k=>⟨c,O,ρ,Qd,R,h,k⟩
def c5y{K:W.Frag}{dg:TDG}:AdG K (upG K dg) dg:=fun c O ρ σ H x v Qd Q R a h k=>⟨c,O,ρ,x,Qd,R,a,h,k⟩
def DE.up{X:Cx}{e:Expr}{de:TDE}(h:DE X e de):PE X e (upE X.K de):=fun pins s σ H Q I q=>by
 obtain⟨t,p,a⟩:=h;obtain⟨c,O,ρ,Qd,R,q,k⟩:=q;exact p pins s σ H Q I (a c O ρ σ H Qd Q R q k)
def DIf.up{X:Cx}{e:List Expr}{de:TDT}(h:DIf X e de):PIf X e (upT X.K de):=fun pins s σ H Q I q=>by
 obtain⟨t,p,a⟩:=h;obtain⟨c,O,ρ,Qd,R,q,k⟩:=q;exact p pins s σ H Q I (a c O ρ σ H Qd Q R q k)
def DG.up{X:Cx}{e:Expr}{dg:TDG}(h:DG X e dg):PG X e (upG X.K dg):=fun pins s σ H v u Q I r q=>by
 obtain⟨t,p,a⟩:=h;obtain⟨c,O,ρ,x,Qd,R,ax,q,k⟩:=q;exact p pins s σ H v u Q I r (a c O ρ σ H x v Qd Q R ax q k)
section
variable{X:Cx}{elt tg iter:Expr}{ifs:List Expr}{scope:Scope}{pos:Pos}{own:List Str}{cap:List 'm'}{di:TDI}{dg:TDG}{dt:TDT}{de:TDE}
def a7l(own:List Str)(cap:List 'm')(hc:X.calm=true)(hok:a4s X scope own cap=true)(hnd:(scope.names.map (·.1)).Nodup)(hi:DI X tg iter di)
  (hg:∀ fp s2 H2,DG (cxC X scope own cap fp s2 H2) tg dg) (ht:∀ fp s2 H2,DIf (cxC X scope own cap fp s2 H2) ifs dt) (he:∀ fp s2 H2,DE (cxC X scope own cap fp s2 H2) elt de)
  (hs:∀ x,foldedSetIterable iter X.env x=pure x:=by intro _;rfl):DF X (.ListComp elt [⟨tg,iter,ifs,0⟩] scope pos) (b6l own.length cap di dg dt de):=by
 obtain⟨ti,pi,ai⟩:=hi;exact⟨_,a7h hc hok hnd pi (fun a b c=>(hg a b c).up) (fun a b c=>(ht a b c).up) (fun a b c=>(he a b c).up) hs,c0z rfl ai c5y c5x c5w⟩
def b1h{i:Nat}{y:Str}{py spos:Pos}(hN:X.N.Nodup)(hi':X.N[i]? = some y)(hy:X.env.scope.names.lookup y=some .local)
  (own:List Str) (cap:List 'm') (hc:X.calm=true) (hok:a4s X scope own cap=true) (hnd:(scope.names.map (·.1)).Nodup) (hi:DI X tg iter di)
  (hg:∀ fp s2 H2,DG (cxC X scope own cap fp s2 H2) tg dg) (ht:∀ fp s2 H2,DIf (cxC X scope own cap fp s2 H2) ifs dt) (he:∀ fp s2 H2,DE (cxC X scope own cap fp s2 H2) elt de)
  (hsw:swapsWith (.ListComp elt [⟨tg,iter,ifs,0⟩] scope pos) (some (.Name y py)) spos.line X.env=pure true:=by rfl)
  (hs:∀ x,foldedSetIterable iter X.env x=pure x:=by intro _;rfl):DS X (.Assign [.Name y py] (.ListComp elt [⟨tg,iter,ifs,0⟩] scope pos) spos) (b6j i (b6l own.length cap di dg dt de)):=by
 obtain⟨ti,pi,ai⟩:=hi;exact⟨_,d3m hN hi' hy hc hok hnd pi (fun a b c=>(hg a b c).up) (fun a b c=>(ht a b c).up) (fun a b c=>(he a b c).up) hsw hs,c0w (c0z rfl ai c5y c5x c5w)⟩
end
end
section
noncomputable def fEqA(neg:Bool):F2:=fun x y=>if (a1c x && a1c y && scal (toV x) (toV y))=true then some (.bool (if neg then !decide (toV x=toV y) else decide (toV x=toV y))) else fEq neg x y
section
variable{K:W.Frag}
def b7t:AdR K (fun x y H Q=>rEq x y H Q ∨ rEqD K false x y H Q) (fEqA false):=by
 intro S H x y dx dy z Q f hx hy e k;unfold fEqA at e;split at e
 ·rename_i hc
  rw [and_eq_true,and_eq_true] at hc;cases e;obtain⟨e1,_⟩:=a7i (hx.at fun ds z=>by subst z;exact absurd hc.1.1 (by simp [a1c])) hc.1.1;obtain⟨e2,_⟩:=a7i (hy.at fun ds z=>by subst z;exact absurd hc.1.2 (by simp [a1c])) hc.1.2;rw [e1,e2];exact .inl ⟨hc.2,k _ _ (Same.refl _) (a3w _)⟩
 ·exact .inr (d1t S H x y dx dy z Q f hx hy e k)
def c5z:AdR K (fun x y H Q=>rNe x y H Q ∨ rEqD K true x y H Q) (fEqA true):=by
 intro S H x y dx dy z Q f hx hy e k;unfold fEqA at e;split at e
 ·rename_i hc
  rw [and_eq_true,and_eq_true] at hc;cases e;obtain⟨e1,_⟩:=a7i (hx.at fun ds z=>by subst z;exact absurd hc.1.1 (by simp [a1c])) hc.1.1;obtain⟨e2,_⟩:=a7i (hy.at fun ds z=>by subst z;exact absurd hc.1.2 (by simp [a1c])) hc.1.2;rw [e1,e2];exact .inl ⟨hc.2,k _ _ (Same.refl _) (a3w _)⟩
 ·exact .inr (d1t S H x y dx dy z Q f hx hy e k)
def b7u{X:Cx}(hu:X.A.units + 64 < cLine):OpR X (compareOp .Eq) (fun x y H Q=>rEq x y H Q ∨ rEqD X.K false x y H Q):=d1k.or (d7u hu)
def c6a{X:Cx}(hu:X.A.units + 64 < cLine):OpR X (compareOp .NotEq) (fun x y H Q=>rNe x y H Q ∨ rEqD X.K true x y H Q):=d1l.or (d7v hu)
end
def c8u{neg:Bool}{x y:Str}:fEqA neg (.str x) (.str y)=some (.bool (if neg then !decide (x=y) else decide (x=y))):=by
 have e:decide (V.str x=V.str y)=decide (x=y):=by simp
 unfold fEqA;rw [if_pos (show(a1c (.str x) && a1c (.str y) && scal (toV (.str x)) (toV (.str y)))=true from rfl)];show some (PyData.bool (if neg=true then !decide (V.str x=V.str y) else decide (V.str x=V.str y)))=_;rw [e]
def c8v{neg:Bool}{x y:Int}:fEqA neg (.int x) (.int y)=some (.bool (if neg then !decide (x=y) else decide (x=y))):=by
 have e:decide (V.int x=V.int y)=decide (x=y):=by simp
 unfold fEqA;rw [if_pos (show(a1c (.int x) && a1c (.int y) && scal (toV (.int x)) (toV (.int y)))=true from rfl)];show some (PyData.bool (if neg=true then !decide (V.int x=V.int y) else decide (V.int x=V.int y)))=_;rw [e]
def c6b{neg:Bool}{x y:Bool}:fEqA neg (.bool x) (.bool y)=some (.bool (if neg then !decide (x=y) else decide (x=y))):=by
 have e:decide (V.bl x=V.bl y)=decide (x=y):=by simp
 unfold fEqA;rw [if_pos (show(a1c (.bool x) && a1c (.bool y) && scal (toV (.bool x)) (toV (.bool y)))=true from rfl)];show some (PyData.bool (if neg=true then !decide (V.bl x=V.bl y) else decide (V.bl x=V.bl y)))=_;rw [e]
def c8w{neg:Bool}{x y:PyData}(h:(a1c x && a1c y)=false)(hx:SeqAt.shaped x=true)(hy:SeqAt.shaped y=true):fEqA neg x y=some (.bool (if neg then !PyData.eqv x y else PyData.eqv x y)):=by
 unfold fEqA fEq;rw [h,Bool.false_and,if_neg Bool.false_ne_true,if_pos ⟨hx,hy⟩]
theorem fIx_l{xs:List PyData}{i:Int}:fIx (.list xs) (.int i)=atI xs i:=rfl
theorem fIx_t{xs:List PyData}{i:Int}:fIx (.tuple xs) (.int i)=atI xs i:=rfl
theorem d8o{i j:Int}:fAdd (.int i) (.int j)=some (.int (i + j)):=rfl
theorem d8p{i j:Int}:fSub (.int i) (.int j)=some (.int (i - j)):=rfl
theorem d8q{p:Int->Int->Bool}{i j:Int}:fCmp p (.int i) (.int j)=some (.bool (p i j)):=rfl
theorem d8r{xs:List PyData}:fLen [.list xs]=some (.int xs.length):=rfl
theorem d8s{xs:List PyData}:fLen [.tuple xs]=some (.int xs.length):=rfl
theorem c8x{xs:List PyData}:b3h [.list xs]=some (.tuple xs):=rfl
theorem c8y{xs:List PyData}:b3h [.tuple xs]=some (.tuple xs):=rfl
def d1u{neg:Bool}{x:PyData}{xs:List PyData}(h:(a1c x && xs.all a1c)=true):fIn neg x (.tuple xs)=some (.bool (if neg then !inF x xs else inF x xs)):=by
 show(if a1c x && xs.all a1c then some (PyData.bool (if neg then !inF x xs else inF x xs)) else none)=_;rw [if_pos h]
def d8t{neg:Bool}{x:PyData}{xs:List PyData}(h:(a1c x && xs.all a1c)=true):fIn neg x (.list xs)=some (.bool (if neg then !inF x xs else inF x xs)):=by
 show(if a1c x && xs.all a1c then some (PyData.bool (if neg then !inF x xs else inF x xs)) else none)=_;rw [if_pos h]
def d8u{xs ys:List PyData}(h:xs.length + ys.length <= sizeLine):fAdd (.list xs) (.list ys)=some (.list (xs ++ ys)):=by
 show(if xs.length + ys.length <= sizeLine then some (PyData.list (xs ++ ys)) else none)=_;rw [if_pos h]
def c6c{xs ys:List PyData}(h:xs.length + ys.length <= sizeLine):fAdd (.tuple xs) (.tuple ys)=some (.tuple (xs ++ ys)):=by
 show(if xs.length + ys.length <= sizeLine then some (PyData.tuple (xs ++ ys)) else none)=_;rw [if_pos h]
def d8v{i j:Int}(h:0 < j):fMod (.int i) (.int j)=some (.int (i % j)):=by
 show(if 0 < j then some (PyData.int (i % j)) else none)=_;rw [if_pos h]
def c1a{xs:List PyData}{i:Int}{k:PyData->Prop}(h0:0 <= i)(h1:i < xs.length)(h:∀ d,d ∈ xs->xs[i.toNat]? = some d->k d):need (atI xs i) k:=by
 obtain⟨x,e1,e2,e3⟩:=c5m h0 h1;exact d3o e1 (h x e2 e3)
def b5m{α:Type}{xs r:List α}{i:Nat}{x:α}(h:xs.drop i=x :: r):xs[i]? = some x/\xs.drop (i + 1)=r:=by
 have hi:i < xs.length:=by
  by_cases h':i < xs.length
  ·exact h'
  ·rw [List.drop_eq_nil_of_le 'o'] at h;cases h
 rw [List.drop_eq_getElem_cons hi] at h;injection h with h1 h2
 exact⟨by rw [getElem?_eq_getElem hi,h1],h2⟩
def b7v{α:Type}{xs:List α}{i:Nat}(hi:i <= xs.length)(h:xs.drop i=[]):i=xs.length:=by
 have:=congrArg List.length h;simp at this;omega
def a2y{g:TDG}{b:TDS}{D:DEnds}{xs:List PyData}{ρ:Rho}(Pv:Nat->Rho->Prop)(h0:Pv 0 ρ)
  (hs:∀ (i:Nat) (x:PyData) (ρ:Rho) (N:Rho->Prop),xs[i]? = some x->Pv i ρ->(∀ ρ',Pv (i + 1) ρ'->N ρ')->g x ρ fun ρ1=>b { D with nx:=N,ct:=N,bk:=D.nx } ρ1)
  (hd:∀ ρ,Pv xs.length ρ->D.nx ρ):a2s g b D xs ρ:=by
 have key:∀ (r:List PyData) (i:Nat),i <= xs.length->xs.drop i=r->∀ ρ,Pv i ρ->a2s g b D r ρ:=fun r=>by
  induction r with
  | nil =>
   intro i hi e ρ p;rw [b7v hi e] at p;exact hd ρ p
  | cons x r ih =>
   intro i hi e ρ p;obtain⟨e1,e2⟩:=b5m e;have hlt:i < xs.length:=(List.getElem?_eq_some_iff.mp e1).1;exact hs i x ρ _ e1 p fun ρ' p'=>ih (i + 1) hlt e2 ρ' p'
 exact key xs 0 (zero_le _) 'c' ρ h0
def a7t{g:TDG}{tt:TDT}{te:TDE}{Q:List PyData->Rho->Prop}{xs:List PyData}{ρ:Rho}(Pv:Nat->Rho->List PyData->Prop)(h0:Pv 0 ρ [])
  (hs:∀ (i:Nat) (x:PyData) (ρ:Rho) (acc:List PyData) (N:Rho->List PyData->Prop),xs[i]? = some x->Pv i ρ acc->(∀ ρ' acc',Pv (i + 1) ρ' acc'->N ρ' acc') ->
   g x ρ fun ρ1=>tt ρ1 fun b ρ2=>if b=true then te ρ2 fun y ρ3=>fz ρ3 y fun z ρ4=>N ρ4 (acc ++ [z]) else N ρ2 acc)
  (hd:∀ ρ acc,Pv xs.length ρ acc->Q acc ρ):a1n g tt te Q xs ρ []:=by
 have key:∀ (r:List PyData) (i:Nat),i <= xs.length->xs.drop i=r->∀ ρ acc,Pv i ρ acc->a1n g tt te Q r ρ acc:=fun r=>by
  induction r with
  | nil =>
   intro i hi e ρ acc p;rw [b7v hi e] at p;exact hd ρ acc p
  | cons x r ih =>
   intro i hi e ρ acc p;obtain⟨e1,e2⟩:=b5m e;have hlt:i < xs.length:=(List.getElem?_eq_some_iff.mp e1).1;exact hs i x ρ acc _ e1 p fun ρ' acc' p'=>ih (i + 1) hlt e2 ρ' acc' p'
 exact key xs 0 (zero_le _) 'c' ρ [] h0
end
end L2
section
namespace L2
open PySem PySem.Spec PyProof.Rows
def later(u:TDS)(D:DEnds)(ρ:Rho):Prop:=u D ρ
def c1b{u:TDS}{D:DEnds}{ρ:Rho}(h:u D ρ):later u D ρ:=h
section
variable{t u b:TDS}{c tt:TDT}{D:DEnds}{ρ ρi:Rho}{i j n:Nat}{da db dc de te:TDE}{df:TDF}{daa:TDA}{f f':F2}{fl:F2L}{fc:FC}{fcl:FCL}{T:String}{dg g:TDG}{dgs:TDGs}{di:TDI}{x:PyData}{y:DV}{xs:List PyData}{ys:List DV}{fs:List Bool}{sp:DSp}
 {Q:DV->Rho->Prop} {QF:List PyData->Rho->Prop} {QB:Bool->Rho->Prop} {QA:List DV->Rho->Prop} {QR:RV->Rho->Prop} {QD:PyData->Rho->Prop} {N:Rho->Prop} {QL:L->Rho->Prop} {QLs:List L->Rho->Prop}
theorem d8w:dSeq t u D ρ=t { D with nx:=later u D } ρ:=rfl
theorem d3z:b6i D ρ=D.nx ρ:=rfl
theorem dIf_a:dIf c t u D ρ=c ρ fun b ρ1=>if b=true then t D ρ1 else u D ρ1:=rfl
theorem d4a:c2r de D ρ=de ρ fun _ ρ1=>D.nx ρ1:=rfl
theorem d8x:dRet de D ρ=de ρ fun x ρ1=>fz ρ1 x fun y ρ2=>D.rt (.d y) ρ2:=rfl
noncomputable def d8y:Option L->Option (List PyData)
 | some (.own xs)=>some xs
 | _=>none
theorem c8z:d8y (some (.own xs))=some xs:=rfl
theorem d8z:dSet i de D ρ=de ρ fun x ρ1=>fz ρ1 x fun y ρ2=>i < ρ2.length/\D.nx (ρ2.set i (some (.d y))):=rfl
theorem d4b:b6j i df D ρ=df ρ fun xs ρ1=>i < ρ1.length/\D.nx (ρ1.set i (some (.own xs))):=rfl
theorem d9a:dFor di dg b D ρ=di ρ fun xs ρ1=>a2s dg b D xs ρ1:=rfl
theorem d9b:dVar i ρ Q=((ρ[i]?.join).isSome=true/\Q (.sl i) ρ):=rfl
theorem dC_a:dC x ρ Q=Q (.d x) ρ:=rfl
theorem dOp_a:dOp f da db ρ Q=da ρ fun x ρ1=>db ρ1 fun y ρ2=>need (a1p ρ2 x) fun dx=>need (a1p ρ2 y) fun dy=>need (f dx dy) fun z=>Q (.d z) ρ2:=rfl
theorem d9c:dOpF fl da db ρ QF=da ρ fun x ρ1=>db ρ1 fun y ρ2=>need (a1p ρ2 x) fun dx=>need (a1p ρ2 y) fun dy=>need (fl dx dy) fun z=>QF z ρ2:=rfl
theorem dCB_a:dCB fc daa ρ Q=daa ρ fun xs ρ1=>need (a3x ρ1 xs) fun ds=>need (fc ds) fun z=>Q (.d z) ρ1:=rfl
theorem d9d:dTup daa ρ Q=daa ρ fun xs ρ1=>fzs ρ1 xs fun ys ρ2=>ys.length <= 1000000/\Q (.d (.tuple ys)) ρ2:=rfl
theorem d9e:dLst daa ρ QF=daa ρ fun xs ρ1=>fzs ρ1 xs fun ys ρ2=>ys.length <= 1000000/\QF ys ρ2:=rfl
theorem dFz_a:dFz df ρ Q=df ρ fun xs ρ1=>Q (.d (.list xs)) ρ1:=rfl
theorem d9f:dNil ρ QA=QA [] ρ:=rfl
theorem d4c:c2q de daa ρ QA=de ρ fun x ρ1=>daa ρ1 fun xs ρ2=>QA (x :: xs) ρ2:=rfl
theorem dB_a:dB de ρ QB=de ρ fun x ρ1=>need (a1p ρ1 x) fun d=>need (asB d) fun b=>QB b ρ1:=rfl
theorem dOr_a{v w:TDT}:dOr v w ρ QB=v ρ fun b ρ1=>if b=true then QB true ρ1 else w ρ1 QB:=rfl
noncomputable def a6u:Option L->Option (OK × List PyData)
 | some (.own xs)=>some (.o,xs)
 | some (.bor xs)=>some (.b,xs)
 | _=>none
theorem d9g:ownB ρ i=a6u (ρ[i]?.join):=rfl
theorem d4d:a6u (some (.own xs))=some (.o,xs):=rfl
theorem d4e:a6u (some (.bor xs))=some (.b,xs):=rfl
theorem okL_o:okL .o xs=.own xs:=rfl
theorem okL_b:okL .b xs=.bor xs:=rfl
theorem c6d:b4g i de ρ Q=need (a6u (ρ[i]?.join)) fun _=>de ρ fun x ρ1=>fz ρ1 x fun y ρ2=>need (a6u (ρ2[i]?.join)) fun o=>o.2.length <= 1000000/\Q (.d .none) (ρ2.set i (some (okL o.1 (o.2 ++ [y])))):=rfl
theorem c9a:b0c i di' de D ρ=de ρ fun x ρ1=>fz ρ1 x fun y ρ2=>need (a6u (ρ2[i]?.join)) fun _=>di' ρ2 fun z ρ3=>need (a1p ρ3 z) fun dz=>need (b0c.asI dz) fun n=>need (a6u (ρ3[i]?.join)) fun o=>need (ixN o.2.length n) fun j=>D.nx (ρ3.set i (some (okL o.1 (o.2.set j y)))):=rfl
theorem d9h{n:Int}:b0c.asI (.int n)=some n:=rfl
theorem asI_i{n:Int}:asI (.int n)=some n:=rfl
theorem c9b:b7l i x ρ N=(i < ρ.length/\N (ρ.set i (some (.d x)))):=rfl
theorem d4f:c2t n dgs (.tuple xs) ρ N=(xs.length=n/\dgs xs ρ N):=rfl
theorem c9c:b7m dg dgs (x :: xs) ρ N=dg x ρ fun ρ1=>dgs xs ρ1 N:=rfl
def d4g:b6k [] ρ N=N ρ:=by unfold b6k;simp
theorem d4h:c2w de ρ QF=de ρ fun x ρ1=>fz ρ1 x fun y ρ2=>need (seqD y) fun xs=>QF xs ρ2:=rfl
theorem c9d:b7n de ρ QF=de ρ fun x ρ1=>need (a1p ρ1 x) fun d=>need (asI d) fun j=>sm62 j/\QF (rngD 0 j.toNat) ρ1:=rfl
theorem c9e:b7r fs sp daa ρ Q=daa ρ fun xs ρ1=>pass fs xs ρ1 fun ls ρ2=>((flOf 0 fs xs).map (·.2)).Nodup/\sp ls fun r outs=>match r with
 | .d x=>Q (.d x) (fills outs (flOf 0 fs xs) ρ2)
 | .new ys=>Q (.d (.list ys)) (fills outs (flOf 0 fs xs) ρ2):=rfl
theorem d9i:pass [] [] ρ QLs=QLs [] ρ:=rfl
def d9j:pass (false :: fs) (y :: ys) ρ QLs=fzL ρ y fun l ρ1=>pass fs ys ρ1 fun ls ρ2=>QLs (l :: ls) ρ2:=by cases y<;>rfl
noncomputable def ioJ:Option L->Option L
 | some l=>if isOw l then some (lend l) else none
 | none=>none
theorem d9k:pass (true :: fs) (.sl i :: ys) ρ QLs=pass fs ys ρ fun ls ρ2=>need (ioJ (ρ2[i]?.join)) fun l=>QLs (l :: ls) ρ2:=rfl
theorem ioJ_o:ioJ (some (.own xs))=some (.bor xs):=rfl
theorem ioJ_b:ioJ (some (.bor xs))=some (.bor xs):=rfl
theorem ioJ_t:ioJ (some (.tape n))=some (.tape n):=rfl
def fzJ(l:Option L)(ρ:Rho)(i:Nat)(Q:PyData->Rho->Prop):Prop:=match l with
 | some (.d y)=>Q y ρ
 | some (.own xs)=>Q (.list xs) (ρ.set i (some (.d (.list xs))))
 | _=>False
theorem fz_d:fz ρ (.d x) QD=QD x ρ:=rfl
theorem fz_sl:fz ρ (.sl i) QD=fzJ (ρ[i]?.join) ρ i QD:=rfl
theorem fzJ_d:fzJ (some (.d x)) ρ i QD=QD x ρ:=rfl
theorem fzJ_o:fzJ (some (.own xs)) ρ i QD=QD (.list xs) (ρ.set i (some (.d (.list xs)))):=rfl
def fzLJ(l:Option L)(ρ:Rho)(i:Nat)(Q:L->Rho->Prop):Prop:=match l with
 | some (.d y)=>Q (.d y) ρ
 | some (.own xs)=>Q (.d (.list xs)) (ρ.set i (some (.d (.list xs))))
 | some .scr=>Q .scr ρ
 | _=>False
theorem fzL_d:fzL ρ (.d x) QL=QL (.d x) ρ:=rfl
theorem d9l:fzL ρ (.sl i) QL=fzLJ (ρ[i]?.join) ρ i QL:=rfl
theorem d9m:fzLJ (some (.d x)) ρ i QL=QL (.d x) ρ:=rfl
theorem d9n:fzLJ (some (.own xs)) ρ i QL=QL (.d (.list xs)) (ρ.set i (some (.d (.list xs)))):=rfl
theorem d9o:fzLJ (some .scr) ρ i QL=QL .scr ρ:=rfl
theorem fzs_n:fzs ρ [] QF=QF [] ρ:=rfl
theorem fzs_c:fzs ρ (y :: ys) QF=fz ρ y fun z ρ1=>fzs ρ1 ys fun zs ρ2=>QF (z :: zs) ρ2:=rfl
def d9p:flOf n [] ys=[]:=by cases ys<;>rfl
def d9q:flOf n (false :: fs) (y :: ys)=flOf (n + 1) fs ys:=by cases y<;>rfl
theorem d9r:flOf n (true :: fs) (.sl i :: ys)=(n,i) :: flOf (n + 1) fs ys:=rfl
noncomputable def a7u(l:Option L)(ρi:Rho)(j i:Nat)(ρ:Rho):Rho:=match l with
 | some l0=>if isOw l0 then ρ.set i (a5g ρi l0 j) else ρ
 | none=>ρ
theorem d4i:fills ρi [] ρ=ρ:=rfl
theorem d4j{r:List (Nat × Nat)}:fills ρi ((j,i) :: r) ρ=fills ρi r (a7u (ρ[i]?.join) ρi j i ρ):=rfl
theorem c9f:a7u (some (.own xs)) ρi j i ρ=ρ.set i ((ρi[j]?.join).bind (a6s (.own xs))):=rfl
theorem c9g:a7u (some (.bor xs)) ρi j i ρ=ρ.set i ((ρi[j]?.join).bind (a6s (.bor xs))):=rfl
theorem c9h:a7u (some (.tape n)) ρi j i ρ=ρ.set i ((ρi[j]?.join).bind (a6s (.tape n))):=rfl
theorem c9i:a7u (some (.d x)) ρi j i ρ=ρ:=rfl
theorem c9j:a7u (some .scr) ρi j i ρ=ρ:=rfl
theorem c9k:a7u none ρi j i ρ=ρ:=rfl
theorem d4k:a6s (.own xs) (.bor x')=some (.own x'):=rfl
theorem d4l:a6s (.bor xs) (.bor x')=some (.bor x'):=rfl
theorem d4m{m:Nat}:a6s (.tape n) (.tape m)=some (.tape m):=rfl
theorem d9s:lend (.own xs)=.bor xs:=rfl
theorem d9t:lend (.bor xs)=.bor xs:=rfl
theorem d9u:lend (.tape n)=.tape n:=rfl
theorem d9v:lend (.d x)=.d x:=rfl
theorem d9w:lend .scr=.scr:=rfl
theorem d4n{cap:List 'm'}:b6l n cap di g tt te ρ QF=di ρ fun xs ρ1=>xs.length <= 1000000/\(cap.map (·.2)).Nodup/\a1n g tt te (fun acc ρ'=>QF acc (fills ρ' (flC n cap) ρ1)) xs (capR n cap ρ1) []:=rfl
theorem flC_n:flC n []=[]:=rfl
theorem flC_c{p:Str × Nat}{r:List 'm'}:flC n (p :: r)=(n,p.2) :: flC (n + 1) r:=rfl
theorem d9x{cap:List 'm'}:capR n cap ρ=List.replicate n none ++ cap.map fun p=>(ρ[p.2]?.join).map lend:=rfl
theorem d4o:a1p ρ (.d x)=some x:=rfl
theorem c9l:a1p ρ (.sl i)=(ρ[i]?.join).bind a8l:=rfl
theorem c9m:a8l (.d x)=some x:=rfl
theorem c9n:a8l (.own xs)=some (.list xs):=rfl
theorem c9o:a8l (.bor xs)=some (.list xs):=rfl
theorem c9p:a3x ρ []=some []:=rfl
theorem c9q:a3x ρ (y :: ys)=(a1p ρ y).bind fun z=>(a3x ρ ys).map (z :: ·):=rfl
theorem asB_b{b:Bool}:asB (.bool b)=some b:=rfl
theorem tru_b{b:Bool}:tru (.bool b)=some b:=rfl
theorem tru_n:tru .none=some false:=rfl
theorem tru_i{i:Int}:tru (.int i)=some (i != 0):=rfl
theorem tru_l:tru (.list xs)=some (!xs.isEmpty):=rfl
theorem tru_t:tru (.tuple xs)=some (!xs.isEmpty):=rfl
theorem d9y:seqD (.list xs)=some xs:=rfl
theorem d9z:seqD (.tuple xs)=some xs:=rfl
theorem e0a:mask [] ρ=[]:=rfl
theorem e0b{ls:List L}{l:Option L}:mask (.d x :: ls) (l :: ρ)=none :: mask ls ρ:=rfl
theorem e0c{ls:List L}{l:Option L}:mask (.scr :: ls) (l :: ρ)=none :: mask ls ρ:=rfl
theorem e0d{ls:List L}{l:Option L}:mask (.tape n :: ls) (l :: ρ)=l :: mask ls ρ:=rfl
theorem e0e{ls:List L}{l:Option L}:mask (.bor xs :: ls) (l :: ρ)=l :: mask ls ρ:=rfl
end
end L2
namespace L2
open PySem
def a7v{g:TDG}{tt:TDT}{te:TDE}{Q:List PyData->Rho->Prop}{xs:List PyData}{ρ:Rho}(Sh:Rho->Prop)(fm:PyData->Option PyData)(h0:Sh ρ)
  (hs:∀ (x:PyData) (ρ:Rho) (N:Rho->Option PyData->Prop),x ∈ xs->Sh ρ->(∀ ρ',Sh ρ'->N ρ' (fm x))->g x ρ fun ρ1=>tt ρ1 fun b ρ2=>if b=true then te ρ2 fun y ρ3=>fz ρ3 y fun z ρ4=>N ρ4 (some z) else N ρ2 none)
  (hd:∀ ρ,Sh ρ->Q (xs.filterMap fm) ρ):a1n g tt te Q xs ρ []:=by
 have key:∀ (r:List PyData) (acc:List PyData) (ρ:Rho),(∀ x ∈ r,x ∈ xs)->Sh ρ->(∀ ρ,Sh ρ->Q (acc ++ r.filterMap fm) ρ)->a1n g tt te Q r ρ acc:=fun r=>by
  induction r with
  | nil=>intro acc ρ _ h hq;have:=hq ρ h;show Q acc ρ;simpa using this
  | cons x r ih =>
   intro acc ρ hm h hq;have step:=hs x ρ (fun ρ' o=>match o with | some z=>a1n g tt te Q r ρ' (acc ++ [z]) | none=>a1n g tt te Q r ρ' acc) (hm x mem_cons_self) h fun ρ' h'=>?_
   ·exact step
   ·cases e:fm x with
    | none =>
     refine ih acc ρ' (fun y hy=>hm y (mem_cons_of_mem _ hy)) h' fun ρ2 h2=>?_;have:=hq ρ2 h2
     rwa [List.filterMap_cons_none e] at this
    | some z =>
     refine ih (acc ++ [z]) ρ' (fun y hy=>hm y (mem_cons_of_mem _ hy)) h' fun ρ2 h2=>?_;have:=hq ρ2 h2;rw [List.filterMap_cons_some e] at this;simpa using this
 exact key xs [] ρ (fun _ h=>h) h0 fun ρ h=>by simpa using hd ρ h
def a3b{c A B:Prop}[Decidable c](h1:c->A)(h2:¬ c->B):if decide c=true then A else B:=by
 by_cases h:c
 ·rw [if_pos (decide_eq_true h)];exact h1 h
 ·rw [if_neg (by simpa using h)];exact h2 h
end L2
namespace L2
end L2
end
section
namespace L2
open PySem PySem.Spec PyProof.Rows
abbrev TDO:=Rho->(Option Int->Rho->Prop)->Prop
section
variable{K:W.Frag}{c:Rc}{O:Own}{ρ:Rho}{σ:St}{H H':Hp}{S S':Addr->Prop}
abbrev FSl:=PyData->Option Int->Option Int->Option PyData
noncomputable def a3s:List PyData->Option 'g'
 | []=>some []
 | .int i :: r=>(a3s r).map (i :: ·)
 | _ :: _=>none
def ints_map:∀ {ds:List PyData} {ns:List Int},a3s ds=some ns->ds=ns.map .int
 | [],ns,h=>by cases h;rfl
 | d :: r,ns,h=>by
  cases d with
  | int i =>
   have h':(a3s r).map (i :: ·)=some ns:=h;cases q:a3s r with
   | none=>rw [q] at h';cases h'
   | some ms=>rw [q] at h';cases h';rw [ints_map q];rfl
  | _=>cases h
def ints_of(ns:List Int):a3s (ns.map .int)=some ns:=by
 induction ns with
 | nil=>rfl
 | cons n r ih=>show(a3s (r.map .int)).map (n :: ·)=_;rw [ih];rfl
def diRev(de:TDE):TDI:=fun ρ Q=>de ρ fun x ρ1=>need (a1p ρ1 x) fun d=>need (asT d) fun xs=>Q xs.reverse ρ1
 where asT:PyData->Option (List PyData)
  | .tuple xs=>some xs
  | _=>none
noncomputable def downD(hi:Int)(n:Nat):List PyData:=(List.range n).map fun i=>.int (hi - (i:Nat))
def sm60(i:Int):Prop:=-(2 ^ 60) <= i/\i < 2 ^ 60
def e0f(da:TDA):TDI:=fun ρ Q=>da ρ fun xs ρ1=>need (a3x ρ1 xs) fun ds=>need (three ds) fun p=>(sm60 p.1/\sm60 p.2)/\Q (downD p.1 (p.1 - p.2).toNat) ρ1
 where three:List PyData->Option (Int × Int)
  | [.int i,.int j,.int (-1)]=>some (i,j)
  | _=>none
def d4p{i:Int}:AtV K S σ H (.d (.int i)) (.int i):=(a1o i:AtD K H S (.int i) (.int i))
def dNeg(de:TDE):TDE:=fun ρ Q=>de ρ fun x ρ1=>need (a1p ρ1 x) fun d=>need (asI d) fun i=>Q (.d (.int (-i))) ρ1
def e0g{t:TE}{de:TDE}(h:AdE K t de):AdE K (tUn (rU fun i=>.int (-i)) t) (dNeg de):=fun c O ρ σ H Qd Q R q k =>
 h c O ρ σ H _ _ R q fun x ρ1 O1 v H1 h1 R1 P1 a1=>by
  obtain⟨d,e1,hn1⟩:=ne (h1);obtain⟨i,e2,h2⟩:=ne (hn1);exact⟨i,c5r (R1.top a1 e1) e2,k _ _ _ _ _ h2 R1 P1 d4p⟩
end
section
variable{X:Cx}{e a b:Expr}{de da db:TDE}{lo hi:Option Expr}{dl dh:TDO}{tg:Expr}{pos p2:Pos}
def c6e(h:DE X a da):DE X (.UnaryOp .USub a pos) (dNeg da):=by obtain⟨_,p,a⟩:=h;exact⟨_,b6f b2z p,e0g a⟩
end
section
variable{ρ:Rho}{de:TDE}{daa:TDA}{dl dh:TDO}{f:FSl}{tab:List (Str × PyData)}{Q:DV->Rho->Prop}{QF:List PyData->Rho->Prop}{QO:Option Int->Rho->Prop}{xs:List PyData}{x:Str}{i j:Int}
theorem asT_t:diRev.asT (.tuple xs)=some xs:=rfl
theorem d4q:e0f.three [.int i,.int j,.int (-1)]=some (i,j):=rfl
theorem e0h:dNeg de ρ Q=de ρ fun x ρ1=>need (a1p ρ1 x) fun d=>need (asI d) fun i=>Q (.d (.int (-i))) ρ1:=rfl
end
end L2
namespace L2
open PySem
end L2
end
section
namespace L2
open PySem PySem.Spec PyProof.Rows
section
variable{α:Type}{a b c d e:α}{l:List α}{x y:Str}{i j:Int}{r:List PyData}
def atI_0:atI (a :: l) 0=some a:=a1j (j:=0) rfl
def atI_1:atI (a :: b :: l) 1=some b:=a1j (j:=1) rfl
def atI_2:atI (a :: b :: c :: l) 2=some c:=a1j (j:=2) rfl
def atI_3:atI (a :: b :: c :: d :: l) 3=some d:=a1j (j:=3) rfl
def atI_4:atI (a :: b :: c :: d :: e :: l) 4=some e:=a1j (j:=4) rfl
theorem d4r:a1c (.str x)=true:=rfl
theorem d4s:a1c (.int i)=true:=rfl
theorem d4t{z:PyData}:inF z []=false:=rfl
def inF_s:inF (.str x) (.str y :: r)=(decide (y=x) || inF (.str x) r):=by
 show((y == x) || inF (.str x) r)=_;congr 1
def inF_i:inF (.int i) (.int j :: r)=(decide (j=i) || inF (.int i) r):=by
 show((j == i) || inF (.int i) r)=_;congr 1
end
end L2
namespace L2
open PySem PySem.Spec PyProof.Rows
def b6m(K:W.Frag):Sp:=fun vs H Q _=>∃ (a:Addr) (ns:List Int),vs=[.ref a]/\SqL K H a (ns.map V.int)/\Only H/\ns.length <= 63/\∀ H',Q (.bl true) H'
section
variable{P:Program}{w:World}{K:W.Frag}{mg:Str->Option Value}{base:Heap}
def d4u{H:Hp}{a p:Addr}{ns:List Int}{n:Nat}(hO:Only H)(hS:SqL K H a (ns.map V.int))(hl:ns.length <= 63)(hp:H p=none) :
  Rel K { H0:=upd H p (.lst [.ref a,.int 0]),S:=fun b=>b ≠ p,P:=fun _=>False,M:=fun b=>b=p,A:=fun b=>b=p ∨ upd H p (.lst [.ref a,.int 0]) b=none,B:=fun b=>b=p,lent:=fun i=>if i=1 then some p else none,sa:=a,ns:=ns }
   (fun i=>if i=1 then some p else none) (some .scr :: some (.tape 0) :: List.replicate n none) (some (.ref a) :: some (.ref p) :: List.replicate n none) (upd H p (.lst [.ref a,.int 0])):=by
 have at_:∀ {i:Nat} {l:L},(some L.scr :: some (L.tape 0) :: List.replicate n none:Rho)[i]? = some (some l)->(i=0/\l=.scr) ∨ (i=1/\l=.tape 0):=fun{i l} e=>by
  match i,e with
  | 0,e=>cases e;exact .inl ⟨rfl,rfl⟩
  | 1,e=>cases e;exact .inr ⟨rfl,rfl⟩
  | i + 2,e =>
   rw [List.getElem?_cons_succ,List.getElem?_cons_succ,List.getElem?_replicate] at e;split at e<;>cases e
 have own:∀ {i:Nat} {q:Addr},(if i=1 then some p else none)=some q->i=1/\q=p:=fun{i q} e=>by
  split at e
  ·cases e;exact⟨by assumption,rfl⟩
  ·cases e
 have sc:Scr K H a (ns.map V.int):=by
  refine⟨by simpa using hl,?_⟩;rcases hS with(h | h) | h
  ·rcases hO a with z | ⟨o,xs,z⟩<;>rw [h] at z<;>cases z
  ·exact .inl h
  ·exact .inr h
 refine⟨fun i x e=>?_,fun i x e=>?_,fun i x e=>?_,fun i k e=>?_,fun i e=>?_,fun i j q e1 e2=>?_,fun i q e=>?_,fun q h=>?_,fun q h=>?_,fun b o _ h=>h,fun b h=>h,fun q h=>?_,fun q h=>?_,fun i q e l h1 h2=>e,sc.keep (S:=Any) (a0f hp _).keep,by simp⟩
 ·rcases at_ e with⟨_,z⟩ | ⟨_,z⟩<;>cases z
 ·rcases at_ e with⟨_,z⟩ | ⟨_,z⟩<;>cases z
 ·rcases at_ e with⟨_,z⟩ | ⟨_,z⟩<;>cases z
 ·rcases at_ e with⟨_,z⟩ | ⟨rfl,z⟩
  ·cases z
  ·cases z;exact⟨p,if_pos rfl,rfl,a0d⟩
 ·rcases at_ e with⟨rfl,_⟩ | ⟨_,z⟩
  ·rfl
  ·cases z
 ·rw [(own e1).1,(own e2).1]
 ·rw [(own e).2];exact⟨.inl rfl,_,a0d⟩
 ·rcases h with h | h
  ·exact .inl h
  ·exact .inr h
 ·rintro rfl
  have h':upd H q (.lst [.ref a,.int 0]) q=none:=h;rw [a0d] at h';cases h'
 ·have h':q=p:=h
  subst h';exact⟨_,a0d⟩
 ·rcases h with h | h
  ·exact h.elim
  ·have h':q=p:=h
   subst h';rw [a0d];exact fun z=>nomatch z
def Fun.law{st:Stmt}{f:Addr}{fd:FuncData}{N':List Str}{k:Nat} (F:Fun K "law" "law" st f fd) (S:FnScope ("_law_script" :: "_law_tape" :: N') ["_law_script"] (a0h st))
  (hbody:∀ (cdv:Value) (A:Around) (outer:List Env) (s:Shared) (H:Hp) (E:XK),Room k (A.deeper (envOfC "law" (a0h st) s.heap.objs.size f cdv)) ->
   ∃ (st0:Stmt) (rest:List Stmt),a2n st=st0 :: rest/\PS (cxOf CX0 P w K mg base ("_law_script" :: "_law_tape" :: N') "law" (a0h st) f cdv A outer s H E).nox st0 (tAsg (tLst (a3g (tVar 0) (a3g (tC (.int 0)) tNil))) (a2r 1)) /\
    ∃ dt,DSs (cxOf CX0 P w K mg base ("_law_script" :: "_law_tape" :: N') "law" (a0h st) f cdv A outer s H E).nox rest dt/\dt { nx:=fun _=>False,rt:=fun r _=>r=.d (.bool true) } (some .scr :: some (.tape 0) :: List.replicate N'.length none)) :
  FnOk P w K mg base CX0 (k + 1) f fd ["_law_script"] (b6m K):=by
 refine F.ok S (fun vs H Q E h=>?_) (fun cdv A outer s H vs Q E hr h=>?_)
 ·obtain⟨a,ns,rfl,_⟩:=h;rfl
 obtain⟨a,ns,rfl,hS,hO,hl,q⟩:=h;obtain⟨st0,rest,eb,p0,dt,⟨t,pt,at_⟩,hd⟩:=hbody cdv A outer s H E hr;rw [eb];refine⟨_,a0o p0 pt,⟨.ref a,rfl,by show 2 <= sizeLine;decide,fun p hp=>?_⟩⟩;have e:(start ("_law_script" :: "_law_tape" :: N') [.ref a]).set 1 (some (.ref p))=some (.ref a) :: some (.ref p) :: List.replicate N'.length none:=by
  unfold start;simp [replicate_succ]
 show t _ ((start ("_law_script" :: "_law_tape" :: N') [.ref a]).set 1 (some (.ref p))) (upd H p (.lst [.ref a,.int 0]));rw [e];refine at_ _ _ _ _ _ _ _ (d4u hO hS hl hp) ⟨fun _ _ _ _ _ _ z=>(show False from z).elim,fun r O1 ρ1 σ1 H1 v h z=>?_,fun _ _ _ _ _ _ z=>(show False from z).elim,fun _ _ _ _ _ _ z=>(show False from z).elim,fun _ z=>z,fun _ z=>.inr z⟩ hd;have z':r=.d (.bool true):=z;subst z';have ev:=b0z h.2;subst ev;exact q H1
end
end L2
end
namespace L2
open PySem PySem.Spec PyProof.Rows
section
def ItX(b:Bool)(h:Heap)(it a:Addr)(k:Nat):Prop:=match b with | true=>h.IsListIter it a k | false=>h.IsTupleIter it a k
def SqX(b:Bool)(h:Heap)(a:Addr)(xs:Array Value):Prop:=match b with | true=>h.IsList a xs | false=>h.IsTuple a xs
section
variable{prog:Program}{w:World}{A:Around}{E:Value->Shared->Prop}{s:Shared}
def c9r{it t:Addr}{i:Nat}{items:Array Value}{x:Value}{Q:Value->Shared->Prop}(hit:s.heap.IsTupleIter it t i)(ht:s.heap.IsTuple t items)(hx:items[i]? = some x)
  (hQ:∀ h',h'.IsTupleIter it t (i + 1)->Heap.SameBut it s.heap h'->Q x { s with heap:=h' }):wpAny (model prog w) A (Builtin.SmallTypes.nextOf (.ref it)) Q E s:=by
 obtain⟨oi,gi,ci,di⟩:=id hit;obtain⟨ot,gt,_,nt,dt⟩:=ht;unfold Builtin.SmallTypes.nextOf;refine wpAny_bind (wpAny_callSpecial?_slot (name:=Str.ofString "__next__") hit.typeIs F.slot_tuple_iterator_next (wpAny_call_entry F.slot_tuple_iterator_next hit.typeIs F.entry_tuple_iterator_next ?_ (F.args_tuple_iterator_next_1 _)));refine wpAny_bind (m:=field (.ref it) 0) (wpAny_field gi di (x:=.ref t) rfl ?_);show wpAny (model prog w) _ (if (Value.ref t == Value.none)=true then _ else _) _ E s;rw [if_neg (show ¬ ((Value.ref t == Value.none)=true) from nofun)];refine wpAny_bind (m:=field (.ref it) 1) (wpAny_field gi di (x:=.int i 0) rfl (wpAny_bind (m:=seqItems? (.ref t)) (wpAny_seqItems gt dt ?_)));simp only [hx,toNat_natCast];exact wpAny_bind (wpAny_setField gi di 'c' (wpAny_pure ⟨x,rfl,wpAny_pure (hQ _ ⟨_,get?_update_self _ gi (Obj.isFreed_of_fields (Obj.data_mapFields di _)),(Obj.cls_mapFields ..).trans ci,by rw [Obj.data_mapFields di];simp [rawInt]⟩ (Heap.SameBut.update ..))⟩))
def d4v{it t:Addr}{i:Nat}{items:Array Value}{Q:Value->Shared->Prop}(hh:A.handled=none)(hit:s.heap.IsTupleIter it t i)(ht:s.heap.IsTuple t items)(hx:items[i]? = none)
  (hE:∀ h' e,Heap.ExtBut it s.heap h'->(∃ o,h'.get? e=some o/\o.cls=.type "StopIteration")->E (.ref e) { s with heap:=h' }):wpAny (model prog w) A (Builtin.SmallTypes.nextOf (.ref it)) Q E s:=by
 obtain⟨oi,gi,ci,di⟩:=id hit;obtain⟨ot,gt,_,nt,dt⟩:=ht;unfold Builtin.SmallTypes.nextOf;refine wpAny_bind (wpAny_callSpecial?_slot (name:=Str.ofString "__next__") hit.typeIs F.slot_tuple_iterator_next (wpAny_call_entry F.slot_tuple_iterator_next hit.typeIs F.entry_tuple_iterator_next ?_ (F.args_tuple_iterator_next_1 _)));refine wpAny_bind (m:=field (.ref it) 0) (wpAny_field gi di (x:=.ref t) rfl ?_);show wpAny (model prog w) _ (if (Value.ref t == Value.none)=true then _ else _) _ E s;rw [if_neg (show ¬ ((Value.ref t == Value.none)=true) from nofun)];refine wpAny_bind (m:=field (.ref it) 1) (wpAny_field gi di (x:=.int i 0) rfl (wpAny_bind (m:=seqItems? (.ref t)) (wpAny_seqItems gt dt ?_)));simp only [hx,toNat_natCast];refine wpAny_bind (wpAny_rule (wpAny_bind (wpAny_setField gi di 'c' (wpAny_bind (m:=newExc (.type "StopIteration") []) ?_))));simp only [newTuple,newExc];refine wpAny_bind (wpAny_newObj_type (wpAny_bind (m:=firstArgMember _ _) (wpAny_of_eq (a:=Value.none) (by first | rfl | (simp only [firstArgMember];rfl)) (wpAny_newObj_type ?_ (by size_fits)))) (by size_fits));simp only [raiseNew];refine wpAny_bind (wpAny_handled ?_);rw [show A.in1.handled=none from hh];exact wpAny_bind (wpAny_pure (wpAny_throw (hE _ _ (((Heap.SameBut.update ..).extBut.push _).push _) ⟨_,get?_push_size _ rfl,rfl⟩)))
end
section
variable{X:Cx}{pins:List 'a'}{σ:List (Option V)}{H H':Hp}{s:Shared}{h':Heap}
def Inv.turnedL{t':Nat}{ch:List Addr}(I:Inv X pins σ H s)(k:∀ b o,b ∉ ch->s.heap.get? b=some o->h'.get? b=some o)(hf:∀ b ∈ ch,FpOk X pins H b):Inv X pins σ H { s with heap:=h',toks:=t' }:=by
 have nit:∀ b u,H b=some u->b ∉ ch:=fun b u e z=>by have:=(hf b z).1;rw [e] at this;cases this
 have nl:X.env.locals ∉ ch:=fun z=>(hf _ z).2.1 rfl;refine I.step (g':=s.gens) (d':=s.drawn) (ch:=ch) (fun b hb=>⟨(hf b hb).2.2.2.1,(hf b hb).2.1,(hf b hb).2.2.2.2.1,(hf b hb).2.2.2.2.2⟩) (fun b o _ _ hc e _=>k b o hc e) (fun b o _ _ hc e _=>⟨o.slots,k b o hc e⟩) (fun _ _ _ _ n=>n)
  (fun b o hc e=>⟨o,k b o hc e⟩) (fun _ _ e=>e) (fun _ _ _ e=>e) (fun b ps e=>⟨#[],by rw [e];simp⟩) (fun m hm=>?_) (fun b u e=>?_) I.bare
 ·obtain⟨o,es,ep,ho,r⟩:=hm
  exact⟨o,es,ep,k _ o nl ho,r⟩
 ·refine(I.hok b u e).stay (fun c v hc q=>k c v ?_ q) (fun _ q=>q) fun _ _ q=>q
  rcases hc with z | z
  ·rw [z];exact nit b u e
  ·exact nit c _ z
def SqB(b:Bool)(K:W.Frag)(H:Hp)(a:Addr)(xs:List V):Prop:=match b with | true=>SqL K H a xs | false=>SqT K H a xs
end
def ZSt(b:Bool)(z TI TO i1 i2 a1 a2:Addr)(i:Nat)(h:Heap):Prop:=IsZip h z TI TO .none/\IsPair h TI (.ref i1) (.ref i2)/\(∃ p q,IsPair h TO p q)/\ItX b h i1 a1 i/\ItX b h i2 a2 i
end
section
section
variable{K:W.Frag}{S:Addr->Prop}{H:Hp}
def SqS(b:Bool)(K:W.Frag)(S:Addr->Prop)(H:Hp)(a:Addr)(vs:List V):Prop:=match b with | true=>S a/\H a=some (.lst vs) | false=>SqT K H a vs
end
end
section
section
variable{K:W.Frag}{c:Rc}{O:Own}{ρ:Rho}{σ:St}{H H':Hp}
def Same.out{p:Addr}{o:HO}(e:Same H H')(hp:H p=none):Same H (upd H' p o):=fun b u h=>by
 have nb:b ≠ p:=fun z=>by rw [z,hp] at h;cases h
 rw [a0b nb];exact e b u h
def a0a.same{S:Addr->Prop}{ds:List PyData}{vs:List V}(e:Same H H')(h:a0a K H S ds vs):a0a K H' S ds vs:=a0a.mono e.keep ds vs h
end
end
section
def b0e:bootBuiltins "enumerate" = some (.type "enumerate"):=by decide +kernel
noncomputable def Ite(K:W.Frag)(a:Addr):It:=
 ⟨fun i H=>∃ xs x,SqL K H a xs/\xs[i]? = some x,fun i H v H'=>∃ T x,v=.ref T/\H T=none/\H'=upd H T (.tup [.int i,x])/\∀ xs,SqL K H a xs->xs[i]? = some x,fun i H=>∃ xs,SqL K H a xs/\xs.length <= i⟩
def ESt(e it a:Addr)(i:Nat)(h:Heap):Prop:=(∃ old,IsEnum h e it i old)/\h.IsListIter it a i
def c6f{P:Program}{w:World}{K:W.Frag}{elts:List Expr}{kk:Nat}{tp:Pos}{e it a:Addr}(ne:e ≠ it):Turn P w K (.Tuple elts kk tp) (Ite K a) [e,it] e (ESt e it a) where
 mem:=by simp
 obj:=fun i h st c hc=>by
  obtain⟨⟨old,x1⟩,x2⟩:=st;have hc:c=e ∨ c=it:=by simpa using hc
  rcases hc with rfl | rfl
  ·exact⟨_,x1,fun v y=>by cases (show Data.fields _=Data.cell v from y)⟩
  ·obtain⟨o,g,_,d⟩:=x2
   exact⟨o,g,fun v y=>by rw [d] at y;cases y⟩
 keep:=fun i h h' st k=>by
  obtain⟨⟨old,x1⟩,x2⟩:=st;exact⟨⟨old,k e 'c' _ x1⟩,x2.at fun o g=>k it 'c' o g⟩
 item:=by
  intro X hP hw hK hc i pins s σ H E I hf st hg;subst hP hw hK;obtain⟨xs,x,hq,hx⟩:=hg;obtain⟨⟨old,x1⟩,x2⟩:=id st;obtain⟨its,rv,p,_⟩:=I.list hq;obtain⟨u,hu,ru⟩:=rv.get hx;have lt:∀ c ∈ [e,it],c < s.heap.objs.size:=fun c hc=>by
   have hc:c=e ∨ c=it:=by simpa using hc
   rcases hc with rfl | rfl
   ·exact lt_size x1
   ·obtain⟨o,g,_⟩:=x2;exact lt_size g
  refine wpAny_pyNext_enum_item x1 x2 p.isList (x:=u) (by simpa using hu) ne fun h1 j1 j2 j3 j4 j5=>⟨_,rfl,wpAny_letOwnedTupleGo_enum j1 fun h2 e2 s2=>?_⟩;have up:∀ c o,c ≠ e->h1.get? c=some o->h2.get? c=some o:=fun c o d g=>s2.extBut _ _ d g;have I1:Inv X pins σ (upd H s.heap.objs.size (.tup [.int i,x])) { s with heap:=s.heap.push { cls:=.type "tuple",data:=.seq [Value.int i s.toks,u].toArray } }:=
   I.laid (t':=s.toks) (fun b o e=>get?_push_of_some _ e) 'b' (show a1h X.prog X.w _ _ _ (.tup [.int i,x]) from⟨by show 2 <= sizeLine;decide,[Value.int i s.toks,u],.cons ⟨_,rfl⟩ (.cons ru .nil),a3k.new _ _⟩)
  have fpn:∀ c ∈ [e,it],(upd H s.heap.objs.size (.tup [.int i,x])) c=none:=fun c hc=>by rw [a0b (ne_of_lt (lt c hc))];exact(hf c hc).1
  have I2:Inv X pins σ (upd H s.heap.objs.size (.tup [.int i,x])) { s with heap:=h2,toks:=s.toks + 1 }:=by
   refine Inv.turnedL (s:={ s with heap:=s.heap.push { cls:=.type "tuple",data:=.seq [Value.int i s.toks,u].toArray } }) (t':=s.toks + 1) (ch:=[e,it]) I1 (fun c o hc g=>?_) fun c hc=>⟨fpn c hc,(hf c hc).2⟩;have g:(s.heap.push { cls:=.type "tuple",data:=.seq [Value.int i s.toks,u].toArray }).get? c=some o:=g;have hc:c ≠ e/\c ≠ it:=by simpa using hc
   refine up c o hc.1 ?_;rcases Heap.get?_push_cases g with⟨rfl,rfl⟩ | g'
   ·exact j3
   ·exact j5 c o hc.1 hc.2 g'
  exact⟨.ref s.heap.objs.size,_,I2,rfl,⟨_,x,rfl,I.hok.fresh 'b',rfl,fun zs hz=>by rw [I.list_inj hz hq];exact hx⟩,⟨⟨_,by simpa using e2⟩,j2.at fun o g=>up _ _ (Ne.symm ne) g⟩,fpn⟩
 done:=by
  intro X hP hw hK hc i pins s σ H E I hf st hg;subst hP hw hK;obtain⟨xs,hq,hx⟩:=hg;obtain⟨⟨old,x1⟩,x2⟩:=id st;obtain⟨its,rv,p,_⟩:=I.list hq;have hl:=rv.length;refine wpAny_pyNext_enum_end (I.ok.hd hc) x1 x2 p.isList (by simp;omega) fun h1 j=>⟨rfl,?_⟩;exact I.turnedL (t':=s.toks) (ch:=[e,it]) (fun c o hc g=>j c o (fun z=>hc (by simp [z])) g) hf
 self:=fun _ _ _ _ _ st h=>by obtain⟨⟨old,x1⟩,_⟩:=st;exact wpAny_pyIter_enum x1 h
section
variable{X:Cx}
def c3a(K:W.Frag)(ta:TE):TI:=fun σ H R=>ta σ H fun x H1=>∃ a xs,x=.ref a/\SqL K H1 a xs/\R (Ite K a) H1
def b4i{l:Expr}{tl:TE}{p pos tp:Pos}{elts:List Expr}{kk:Nat} (hg:Gl X "enumerate") (hm:X.mg "enumerate" = none) (hl:PE X l tl) (hs:starEach [l] X.env=[(false,eval l X.env)]:=by rfl) :
  PI X (.Tuple elts kk tp) (.Call (.Name "enumerate" p) [l] [] pos) (c3a X.K tl):=by
 intro pins s σ H R I h;refine Call_ (a4k I hg hm b0e (PyProof.Rows.callWith_type1 (thn ((a0e (t:=tNil) hl a0j hs) pos pins s σ H (fun vs H1=>∃ a xs,vs=[.ref a]/\SqL X.K H1 a xs/\R (Ite X.K a) H1) I ?_) fun us s1 ⟨vs,H1,I1,r1,q1⟩=>?_) hs rfl))
 ·show tl σ H fun x H1=>∃ a xs,[x]=[V.ref a]/\SqL X.K H1 a xs/\R (Ite X.K a) H1
  simpa [c3a] using h
 ·obtain⟨a,xs,rfl,hq,q⟩:=q1
  obtain⟨u,rfl,ru⟩:=r1.one;cases ru;obtain⟨its,rv,pl,hz⟩:=I1.list hq;refine call_enumerate_list pl.isList fun h' j1 j2 j3 j4=>wpAny_pyIter_enum j1 ⟨s1.heap.objs.size + 1,[s1.heap.objs.size + 1,s1.heap.objs.size],_,_,H1,rfl,I1.kept (t':=s1.toks) j4,c6f (Nat.succ_ne_self _),⟨⟨_,j1⟩,j2⟩,fun c hc=>?_,q⟩;have hc:c=s1.heap.objs.size + 1 ∨ c=s1.heap.objs.size:=by simpa using hc
  have ge:s1.heap.objs.size <= c:=by rcases hc with rfl | rfl;exact le_succ _;exact le_refl _
  exact I1.fpOk ge (I1.hok.fresh ge)
end
section
variable{K:W.Frag}{S:Addr->Prop}{H:Hp}
noncomputable def a9c(xs:List PyData):List PyData:=xs.zipIdx.map fun p=>.tuple [.int (p.2:Int),p.1]
def b0f(xs:List PyData):(a9c xs).length=xs.length:=by unfold a9c;rw [length_map,List.length_zipIdx]
def b5n{xs:List PyData}{i:Nat}:(a9c xs)[i]? = (xs[i]?).map fun x=>.tuple [.int (i:Int),x]:=by
 unfold a9c;rw [getElem?_map,List.getElem?_zipIdx];cases xs[i]?<;>simp
end
end
section
section
variable{κ:Type}[DecidableEq κ]
noncomputable def valV(kvs:List (κ × V))(k:κ):Option V:=(kvs.find? fun kv=>decide (kv.1=k)).map (·.2)
noncomputable def putK(kvs:List (κ × V))(k:κ)(v:V):List (κ × V):=
 if (kvs.any fun kv=>decide (kv.1=k))=true then kvs.map (fun kv=>if kv.1=k then(kv.1,v) else kv) else kvs ++ [(k,v)]
noncomputable def dropK(kvs:List (κ × V))(k:κ):List (κ × V):=kvs.filter fun kv=>decide (kv.1 ≠ k)
def a9d{p:κ × V}{r:List (κ × V)}{k:κ}(e:p.1=k):valV (p :: r) k=some p.2:=by simp [valV,find?_cons,e]
def a9e{p:κ × V}{r:List (κ × V)}{k:κ}(e:¬ p.1=k):valV (p :: r) k=valV r k:=by simp [valV,find?_cons,e]
def b2l(k:κ):∀ kvs:List (κ × V),(kvs.any fun kv=>decide (kv.1=k))=(valV kvs k).isSome
 | []=>rfl
 | p :: r=>by
  rw [any_cons];by_cases e:p.1=k
  ·simp only [a9d e,decide_eq_true e,Bool.true_or,Option.isSome_some]
  ·rw [a9e e,decide_eq_false e,Bool.false_or];exact b2l k r
def b1w(kvs:List (κ × V))(k:κ)(v:V):(putK kvs k v).length <= kvs.length + 1:=by
 unfold putK;split
 ·rw [length_map];omega
 ·rw [length_append,length_cons,List.length_nil];omega
def c9s{kvs:List (κ × V)}{k:κ}(v:V)(h:valV kvs k=none):putK kvs k v=kvs ++ [(k,v)]:=by
 unfold putK;rw [b2l,h];exact if_neg 'd'
def RelO.isSome_eq{o:Option V}{u:Option Value}(r:RelO o u):o.isSome=u.isSome:=by
 cases o with
 | none=>cases u with
  | none=>rfl
  | some _=>exact(show False from r).elim
 | some _=>cases u with
  | none=>exact(show False from r).elim
  | some _=>rfl
def KV.val{kvs:List (κ × V)}{vs:List (κ × Value)}(r:KV kvs vs)(k:κ):RelO (valV kvs k) (valueAt vs k):=by
 unfold KV at r;induction r with
 | nil=>exact True.intro
 | @cons p q ps qs h t ih =>
  obtain⟨h1,h2⟩:=h;by_cases e:p.1=k
  ·have e':q.1=k:=h1.symm.trans e
   have b:valueAt (q :: qs) k=some q.2:=by simp [valueAt,find?_cons,e']
   rw [a9d e,b];exact h2
  ·have e':¬ q.1=k:=fun z=>e (h1.trans z)
   have b:valueAt (q :: qs) k=valueAt qs k:=by simp [valueAt,find?_cons,e']
   rw [a9e e,b];exact ih
def KV.any{kvs:List (κ × V)}{vs:List (κ × Value)}(r:KV kvs vs)(k:κ):(kvs.any fun kv=>decide (kv.1=k))=vs.any fun kv=>decide (kv.1=k):=by
 unfold KV at r;induction r with
 | nil=>rfl
 | cons h t ih=>rw [any_cons,any_cons,ih,h.1]
def KV.repl{kvs:List (κ × V)}{vs:List (κ × Value)}(r:KV kvs vs)(k:κ){y:V}{u:Value}(ry:RelV y u) :
  KV (kvs.map fun kv=>if kv.1=k then(kv.1,y) else kv) (vs.map fun kv=>if kv.1=k then(kv.1,u) else kv):=by
 unfold KV at r ⊢;induction r with
 | nil=>exact .nil
 | @cons p q ps qs h t ih =>
  rw [map_cons,map_cons];refine .cons ?_ ih;obtain⟨h1,h2⟩:=h;by_cases e:p.1=k
  ·rw [if_pos e,if_pos (h1.symm.trans e)];exact⟨h1,ry⟩
  ·rw [if_neg e,if_neg (fun z=>e (h1.trans z))];exact⟨h1,h2⟩
def KV.put{kvs:List (κ × V)}{vs:List (κ × Value)}(r:KV kvs vs)(k:κ){y:V}{u:Value}(ry:RelV y u):KV (putK kvs k y) (stored vs k u):=by
 unfold putK stored;rw [r.any k];by_cases e:(vs.any fun kv=>decide (kv.1=k))=true
 ·rw [if_pos e,if_pos e];exact r.repl k ry
 ·rw [if_neg e,if_neg e];exact Paired.snoc r ⟨rfl,ry⟩
def KV.length{kvs:List (κ × V)}{vs:List (κ × Value)}(r:KV kvs vs):kvs.length=vs.length:=Paired.length r
end
def c3b{P:Program}{w:World}{k:Key}{u:Value}(r:RelV (kV k) u):(a1f P w).is k u=true:=by
 cases k with
 | inl i=>obtain⟨t,e⟩:=(show ∃ t,u=Value.int i t from r);subst e;exact b9k P w i t
 | inr x=>obtain⟨t,e⟩:=(show ∃ t,u=Value.str x t from r);subst e;exact b1s P w x t
def b5o{P:Program}{w:World}:∀ {ks:List Key} {us:List Value},Vals (ks.map kV) us->ItemsAre (a1f P w) ks us
 | [],_,r=>by rw [map_nil] at r;cases r;exact .nil
 | k :: ks,_,r=>by
  rw [map_cons] at r;cases r with
  | cons h t=>exact .cons (c3b h) (b5o t)
abbrev KT(H:Hp):List (List Key × V)->List (List Key × Addr × Value)->Prop:=Paired fun p q=>p.1=q.1/\H q.2.1=some (.tup (p.1.map kV))/\RelV p.2 q.2.2
def KT.val{H:Hp}{kvs:List (List Key × V)}{xs:List (List Key × Addr × Value)}(r:KT H kvs xs)(k:List Key):RelO (valV kvs k) ((atKey xs k).map (·.2)):=by
 induction r with
 | nil=>exact True.intro
 | @cons p q ps qs h t ih =>
  obtain⟨h1,_,h2⟩:=h;by_cases e:p.1=k
  ·have e':q.1=k:=h1.symm.trans e
   have b:atKey (q :: qs) k=some q.2:=by simp [atKey,find?_cons,e']
   rw [a9d e,b];exact h2
  ·have e':¬ q.1=k:=fun z=>e (h1.trans z)
   have b:atKey (q :: qs) k=atKey qs k:=by simp [atKey,find?_cons,e']
   rw [a9e e,b];exact ih
def KT.repl{H:Hp}{kvs:List (List Key × V)}{xs:List (List Key × Addr × Value)}(r:KT H kvs xs)(k:List Key){y:V}{u:Value}(ry:RelV y u) :
  KT H (kvs.map fun kv=>if kv.1=k then(kv.1,y) else kv) (xs.map (putAt k u)):=by
 induction r with
 | nil=>exact .nil
 | @cons p q ps qs h t ih =>
  rw [map_cons,map_cons];refine .cons ?_ ih;obtain⟨h1,h2,h3⟩:=h;unfold putAt;by_cases e:p.1=k
  ·rw [if_pos e,if_pos (h1.symm.trans e)];exact⟨h1,h2,ry⟩
  ·rw [if_neg e,if_neg (fun z=>e (h1.trans z))];exact⟨h1,h2,h3⟩
def KT.put{H:Hp}{kvs:List (List Key × V)}{xs:List (List Key × Addr × Value)}(r:KT H kvs xs)(k:List Key){b:Addr}{y:V}{u:Value}(hb:H b=some (.tup (k.map kV)))(ry:RelV y u) :
  KT H (putK kvs k y) (storedH xs k b u):=by
 have e:(kvs.any fun kv=>decide (kv.1=k))=(atKey xs k).isSome:=by
  rw [b2l,(r.val k).isSome_eq,Option.isSome_map]
 unfold putK storedH;rw [e];by_cases q:(atKey xs k).isSome=true
 ·rw [if_pos q,if_pos q];exact r.repl k ry
 ·rw [if_neg q,if_neg q];exact Paired.snoc r ⟨rfl,hb,ry⟩
def KT.keeps{H H':Hp}{kvs:List (List Key × V)}{xs:List (List Key × Addr × Value)}(r:KT H kvs xs)(ht:∀ b ys,H b=some (.tup ys)->H' b=some (.tup ys)):KT H' kvs xs:=
 Paired.mapP r fun _ _ z=>⟨z.1,ht _ _ z.2.1,z.2.2⟩
section
variable{P:Program}{w:World}{H:Hp}{h:Heap}{a:Addr}
def d1v{u:HO}(ok:HOk P w H h)(e:Rd H a u):a1h P w H h a u:=e.ok ok
def c3c{kvs:List (Key × V)}(ok:HOk P w H h)(e:Rd H a (.dK kvs)):kvs.length <= sizeLine/\(a == sysModules)=false/\∃ vs,KV kvs vs/\h.DictOf (a1f P w) a vs:=
 show a1h P w H h a (.dK kvs) from d1v ok e
def dk_of{kvs:List (Key × V)}(ok:HOk P w H h)(e:H a=some (.dK kvs)):kvs.length <= sizeLine/\(a == sysModules)=false/\∃ vs,KV kvs vs/\h.DictOf (a1f P w) a vs:=c3c ok (.inl e)
def b7w{ks:List Key}(ok:HOk P w H h)(e:H a=some (.tup (ks.map kV))):(tupleKind (a1f P w)).is h ks a:=by
 obtain⟨_,its,r,o,h1,h2,n,h3⟩:=(show a1h P w H h a (.tup (ks.map kV)) from ok a _ e);exact⟨o,its.toArray,n,h1,h2.1,h3,by simpa using b5o r⟩
def c3d{kvs:List (List Key × V)}(ok:HOk P w H h)(e:Rd H a (.dT kvs)):kvs.length <= sizeLine/\(a == sysModules)=false /\
  ∃ xs,KT H kvs xs/\h.DictOfH (tupleKind (a1f P w)) a xs:=by
 obtain⟨z,y,xs,r,o,es,ep,h1,h2,h3,h4,h5⟩:=(show a1h P w H h a (.dT kvs) from d1v ok e);refine⟨z,y,xs,r,o,es,ep,h1,h2,h3,h4,fun x hx=>?_,h5⟩;have all:∀ {l:List (List Key × V)} {m:List (List Key × Addr × Value)},KT H l m->∀ x ∈ m,(tupleKind (a1f P w)).is h x.1 x.2.1:=by
  intro l m q;induction q with
  | nil=>intro x hx;exact nomatch hx
  | @cons p q ps qs hq t ih =>
   intro x hx;rcases mem_cons.mp hx with e | hx
   ·subst e
    exact b7w ok (by rw [← hq.1];exact hq.2.1)
   ·exact ih x hx
 exact all r x hx
def dt_of{kvs:List (List Key × V)}(ok:HOk P w H h)(e:H a=some (.dT kvs)):kvs.length <= sizeLine/\(a == sysModules)=false /\
  ∃ xs,KT H kvs xs/\h.DictOfH (tupleKind (a1f P w)) a xs:=c3d ok (.inl e)
end
def DGet(H:Hp)(a:Addr)(y:V)(r:Option V):Prop:=
 (∃ kvs k,Rd H a (.dK kvs)/\y=kV k/\r=valV kvs k) ∨ ∃ kvs k b,Rd H a (.dT kvs)/\y=.ref b/\H b=some (.tup (k.map kV))/\r=valV kvs k
def DPut(H:Hp)(a:Addr)(y v:V)(H':Hp):Prop:=
 (∃ kvs k,H a=some (.dK kvs)/\y=kV k/\kvs.length < sizeLine/\H'=upd H a (.dK (putK kvs k v))) ∨
 ∃ kvs k b,H a=some (.dT kvs)/\y=.ref b/\H b=some (.tup (k.map kV))/\kvs.length < sizeLine/\H'=upd H a (.dT (putK kvs k v))
def DGet.k{H:Hp}{a:Addr}{kvs:List (Key × V)}{k:Key}(e:H a=some (.dK kvs)):DGet H a (kV k) (valV kvs k):=.inl ⟨kvs,k,.inl e,rfl,rfl⟩
def DPut.k{H:Hp}{a:Addr}{kvs:List (Key × V)}{k:Key}{v:V}(e:H a=some (.dK kvs))(hl:kvs.length < sizeLine):DPut H a (kV k) v (upd H a (.dK (putK kvs k v))):=.inl ⟨kvs,k,e,rfl,hl,rfl⟩
section
variable{X:Cx}{pins:List 'a'}{σ:St}{H:Hp}{s:Shared}{a:Addr}{y v:V}{u r:Value}{o:Option V}{A:Around}{E:Value->Shared->Prop}
def Inv.big(I:Inv X pins σ H s):sysModules < s.heap.objs.size:=by
 have h:mainGlobals < s.heap.objs.size:=(I.mod.glob.keeps I.bk).lt;exact lt_trans 'd' h
def c6g{Q:Value->Shared->Prop}(hu:A.units + 1 < cLine)(I:Inv X pins σ H s)(g:DGet H a y (some v))(ry:RelV y u)(h:∀ w' s',Inv X pins σ H s'->RelV v w'->Q w' s') :
  wpAny (model X.prog X.w) A (getItem (.ref a) u) Q E s:=by
 rcases g with⟨kvs,k,e,ey,l⟩ | ⟨kvs,k,b,e,ey,eb,l⟩
 ·subst ey
  obtain⟨z,hd,vs,rel,dd⟩:=c3c I.hok e;obtain⟨w',hw,rw'⟩:=RelO.some_of (v:=v) (o:=valueAt vs k) (by rw [l];exact rel.val k);exact wpAny_getItem_of (c3b ry) dd.mapOf hw (h w' _ (I.tok _) rw')
 ·subst ey
  cases (show u=Value.ref b from ry)
  obtain⟨z,hd,xs,rel,dd⟩:=c3d I.hok e;obtain⟨w',hw,rw'⟩:=RelO.some_of (v:=v) (o:=(atKey xs k).map (·.2)) (by rw [l];exact rel.val k);obtain⟨p,hp,hp2⟩:=map_eq_some_iff.mp hw;refine wpAny_getItem_heap (tupleKind_room_in1 hu) (b7w I.hok eb) dd hp ?_;rw [hp2];exact h w' _ (I.tok _) rw'
def a8p{h':Heap}{t':Nat}{ob:HO}(I:Inv X pins σ H s)(mu:Mut (H a))(hs:Heap.SameBut a s.heap h')(he:∃ q,h'.get? a=some q)(new:a1h X.prog X.w (upd H a ob) h' a ob) :
  Inv X pins σ (upd H a ob) { s with heap:=h',toks:=t' }:=
 I.write (x:=a) (e:=a) mu (.inl rfl) (fun b q hb z=>(hs.2 b hb).trans z) he new
def e0i{P:Program}{w:World}{H':Hp}{h':Heap}{kvs:List (Key × V)}{vs:List (Key × Value)}(z:kvs.length <= sizeLine)(hd:(a == sysModules)=false)(rel:KV kvs vs)(dd:h'.DictOf (a1f P w) a vs) :
  a1h P w H' h' a (.dK kvs):=⟨z,hd,vs,rel,dd⟩
def c6h{H':Hp}{Q:Unit->Shared->Prop}(hu:A.units + 1 < cLine)(I:Inv X pins σ H s)(g:DPut H a y v H')(ry:RelV y u)(rv:RelV v r)(h:∀ s',Inv X pins σ H' s'->Q () s') :
  wpAny (model X.prog X.w) A (setItem (.ref a) u r) Q E s:=by
 rcases g with⟨kvs,k,e,ey,l,eH⟩ | ⟨kvs,k,b,e,ey,eb,l,eH⟩
 ·subst ey eH
  obtain⟨z,hd,vs,rel,dd⟩:=dk_of I.hok e;have hz:vs.length <= sizeLine:=by rw [← rel.length];exact z
  have hl:(putK kvs k v).length <= sizeLine:=by have:=b1w kvs k v;omega
  refine wpAny_setItem_pairs (hsz:=hz) (c3b ry) dd fun h' dd' hs=>h _ ?_;have he:∃ q,h'.get? a=some q:=by obtain⟨q,_,_,hq,_⟩:=dd';exact⟨q,hq⟩
  exact a8p I (by rw [e];exact True.intro) hs he (e0i hl hd (rel.put k rv) dd')
 ·subst ey eH
  cases (show u=Value.ref b from ry)
  obtain⟨z,hd,xs,rel,dd⟩:=dt_of I.hok e;have hz:xs.length <= sizeLine:=by rw [← Paired.length rel];exact z
  have hl:(putK kvs k v).length <= sizeLine:=by have:=b1w kvs k v;omega
  refine wpAny_setItem_heap (hsz:=hz) (tupleKind_room_in1 hu) (b7w I.hok eb) dd fun h' dd' hs=>h _ ?_;obtain⟨q,es,ep,hq,h2,h3,h4,_,h5⟩:=dd';refine a8p I (by rw [e];exact True.intro) hs ⟨q,hq⟩ ⟨hl,hd,_,(rel.put k eb rv).keeps fun c ys ec=>?_,q,es,ep,hq,h2,h3,h4,h5⟩;rw [a0b (b2v ec e (fun z=>nomatch z))];exact ec
end
def NoSl(i:Expr):Prop:=∀ ov iv,subscripted i false ov iv=operate [ov,iv] (getItem ov iv)
def d4w{prog:Program}{w:World}{A:Around}{E:Value->Shared->Prop}{s:Shared}{env:Env}{value slice:Expr}{pos:Pos}{T id:String}{Q:Value->Shared->Prop}
  (hl:typeLookup (.type T) "__getitem__" = pure (some (.builtin id))) (hs:NoSl slice)
  (h:wpAny (model prog w) A (eval value env) (fun o s₁=>wpAny (model prog w) A (eval slice env) (fun i s₂=>s₂.TypeIs o T/\wpAny (model prog w) A (getItem o i) Q E s₂) E s₁) E s) :
  wpAny (model prog w) A (eval (.Subscript value slice pos) env) Q E s:=by
 refine Subscript_ (wpAny_mono h (fun o s₁ h₁=>wpAny_mono h₁ (fun i s₂ h₂=>?_) fun _ _ x=>x) fun _ _ x=>x);obtain⟨hT,h₂⟩:=h₂;unfold subscriptTail;refine wpAny_bind ?_;rw [getitemInPython_of_ne hT.not_modules];refine wpAny_bind (wpAny_specialOf hT hl ?_);have fin:wpAny (model prog w) A (subscripted slice false o i) (fun r s₃=>wpAny (model prog w) A (letTemporaryGo value o r >>= fun _=>pure r) Q E s₃) E s₂:=by
  rw [hs o i];exact wpAny_operating (wpAny_mono h₂ (fun r s₃ h₃=>wpAny_bind (wpAny_letTemporaryGo (wpAny_pure h₃))) fun _ _ x=>x)
 first
  | exact wpAny_pure (wpAny_bind fin)
  | exact wpAny_bind (wpAny_pure (wpAny_bind fin))
  | exact wpAny_bind fin
def b9q{X:Cx}{pins:List 'a'}{σ:St}{H:Hp}{s:Shared}{a:Addr}{y:V}{o:Option V}(I:Inv X pins σ H s)(g:DGet H a y o):s.TypeIs (.ref a) "dict":=by
 rcases g with⟨kvs,k,e,_,_⟩ | ⟨kvs,k,b,e,_,_,_⟩
 ·obtain⟨_,_,vs,_,dd⟩:=c3c I.hok e
  exact dd.typeIs
 ·obtain⟨_,_,xs,_,dd⟩:=c3d I.hok e
  exact dd.typeIs
def tDGet(td ty:TE):TE:=fun σ H Q=>td σ H fun x H1=>ty σ H1 fun y H2=>∃ a v,x=.ref a/\DGet H2 a y (some v)/\Q v H2
def sDPut(td ty tv:TE):TS:=fun D σ H=>tv σ H fun v H1=>td σ H1 fun x H2=>ty σ H2 fun y H3=>∃ a H4,x=.ref a/\DPut H3 a y v H4/\D.nx σ H4
section
variable{X:Cx}{o i e value:Expr}{pos pos' tpos:Pos}{td ty tv:TE}
def d4x(hu:X.A.units + 1 < cLine)(ho:PE X o td)(hi:PE X i ty)(hs:NoSl i):PE X (.Subscript o i pos) (tDGet td ty):=by
 intro pins s σ H Q I h;refine d4w PySem.F.slot_dict_getitem.lookup hs (thn (ho pins s σ H _ I h) fun u s1 ⟨x,H1,I1,rx,q1⟩=>thn (hi pins s1 σ H1 _ I1 q1) fun iv s2 hq9=>?_);obtain⟨y,H2,I2,ry,a,v,ex,g,q2⟩:=hq9;subst ex;obtain rfl:u=Value.ref a:=rx;exact⟨b9q I2 g,c6g hu I2 g ry fun w' s3 I3 rw'=>⟨v,H2,I3,rw',q2⟩⟩
def d4y(hu:X.A.units + 1 < cLine)(ho:PE X o td)(hi:PE X i ty)(hv:PE X value tv)(hs:swapsWith value (some (.Subscript o i pos')) pos.line X.env=pure false) :
  PS X (.Assign [.Subscript o i pos'] value pos) (sDPut td ty tv):=by
 intro pins s σ H D I h;refine wpAny_Assign_Subscript (thn (hv pins s σ H _ I h) fun r s1 ⟨v,H1,I1,rv,q1⟩=>thn (ho pins s1 σ H1 _ I1 q1) fun u s2 ⟨x,H2,I2,rx,q2⟩=>thn (hi pins s2 σ H2 _ I2 q2) fun iv s3 hq8=>?_) hs;obtain⟨y,H3,I3,ry,a,H4,ex,g,q3⟩:=hq8;subst ex;obtain rfl:u=Value.ref a:=rx;exact c6h hu I3 g ry rv fun s4 I4=>⟨σ,H4,I4,q3⟩
end
def c9t{P:Program}{w:World}{H:Hp}(h:Heap)(hb:sysModules < h.objs.size):a1h P w H (h.push { cls:=.type "dict",data:=.dict #[] }) h.objs.size (.dK []):=
 ⟨zero_le _,beq_eq_false_iff_ne.mpr (Ne.symm (ne_of_lt hb)),[],.nil,Heap.DictOf.new h⟩
def e0j:TE:=fun _ H Q=>∀ p,H p=none->Q (.ref p) (upd H p (.dK []))
section
variable{X:Cx}{pos:Pos}
def c9u:PE X (.Dict [] [] pos) e0j:=fun pins s σ H Q I h =>
 wpAny_Dict_empty ⟨.ref s.heap.objs.size,_,I.laid (a:=s.heap.objs.size) (o:=.dK []) (t':=s.toks) (fun _ _ q=>get?_push_of_some _ q) 'b' (c9t s.heap I.big),rfl,h _ (I.hok.fresh 'b')⟩
end
end
section
section
variable{K:W.Frag}{H:Hp}{S:Addr->Prop}
def AtT.dict{H:Hp}{S:Addr->Prop}{kvs:List (PyData × PyData)}{v:V}(h:AtT K H S (.dict kvs) v):∃ (a:Addr) (κ:List (Key × V)),v=.ref a/\S a/\H a=some (.dK κ)/\a0m K H S kvs κ:=b1a (h.at fun _ z=>nomatch z)
end
end
section
noncomputable def Rc.reb(c:Rc)(O:Own)(p:Addr)(H:Hp):Rc:={ c with H0:=H,P:=fun a=>c.P a ∨ a=p,M:=fun a=>∃ j,O j=some a,A:=fun a=>∃ j,O j=some a }
structure Pin(K:W.Frag)(c:Rc)(p:Addr)(ν:List (Str × Int))(i:Nat)(O:Own)(ρ:Rho)(σ:St)(H:Hp):Prop where
 rel:Rel K (c.reb O p H) O ρ σ H
 at_:H p=some (.dK (ν.map kvE))
 slot:σ[i]? = some (some (.ref p))
 nul:ρ[i]? = some none
 bA:∀ j q,O j=some q->c.A q
 bS:∀ b o,¬ c.M b->c.H0 b=some o->H b=some o
 bK:∀ b,c.H0 b ≠ none->H b ≠ none
 bM:∀ q,c.M q->∃ vs,H q=some (.lst vs)
 am:∀ q,c.A q->c.M q ∨ c.H0 q=none
 frs:∀ q,c.H0 q=none->c.S q
 fr0:c.H0 p=none
 np:¬ c.P p
section
variable{K:W.Frag}{c:Rc}{O O1:Own}{ρ ρ1:Rho}{σ σ1:St}{H H1 H2:Hp}{p:Addr}{ν μ:List (Str × Int)}{i:Nat}
def Rel.poke{v:V}(R:Rel K c O ρ σ H)(hn:ρ[i]? = some none):Rel K c O ρ (σ.set i (some v)) H:=by
 have st:∀ {j:Nat} {l:L},ρ[j]? = some (some l)->(σ.set i (some v))[j]? = σ[j]?:=fun{j l} e=>by
  refine getElem?_set_ne fun z=>?_;subst z;rw [hn] at e;cases e
 exact⟨fun j x e=>let ⟨u,h1,h2⟩:=R.dat j x e;⟨u,by rw [st e];exact h1,h2⟩,fun j xs e=>let ⟨q,vs,h1,h2,h3,h4⟩:=R.own j xs e;⟨q,vs,h1,h2,by rw [st e];exact h3,h4⟩,
  fun j xs e=>let ⟨q,vs,h1,h3,h4⟩:=R.bor j xs e;⟨q,vs,h1,by rw [st e];exact h3,h4⟩,fun j k e=>let ⟨q,h1,h3,h4⟩:=R.tap j k e;⟨q,h1,by rw [st e];exact h3,h4⟩,fun j e=>by rw [st e];exact R.scr j e,
  R.inj,R.has',R.am,R.frs,R.same,R.kept,R.ml,R.pin,R.lnt,R.sc,by rw [length_set];exact R.len⟩
end
end
section
def b3j:entryFor table "dict.update.loop" = some Builtin.«dict.update.loop»:=entryFor_of_tree (by kernel_rfl)
def a6v:plainId "dict.update.loop" = true:=by decide +kernel
end
section
def NotSq(o:HO):Prop:=(∀ xs,o ≠ .lst xs)/\(∀ xs,o ≠ .tup xs)/\∀ a u,o ≠ .frz a u
structure PinG(K:W.Frag)(c:Rc)(p:Addr)(o:HO)(O:Own)(ρ:Rho)(σ:St)(H:Hp):Prop where
 rel:Rel K (c.reb O p H) O ρ σ H
 at_:H p=some o
 nsq:NotSq o
 bA:∀ j q,O j=some q->c.A q
 bS:∀ b o,¬ c.M b->c.H0 b=some o->H b=some o
 bK:∀ b,c.H0 b ≠ none->H b ≠ none
 bM:∀ q,c.M q->∃ vs,H q=some (.lst vs)
 am:∀ q,c.A q->c.M q ∨ c.H0 q=none
 frs:∀ q,c.H0 q=none->c.S q
 fr0:c.H0 p=none
 np:¬ c.P p
end
section
section
variable{X:Cx}
def b0g:bootBuiltins "sorted" = some (.builtin "sorted"):=by decide +kernel
end
end
section
section
variable{prog:Program}{w:World}{A:Around}{E:Value->Shared->Prop}{s:Shared}
def IsZ2(h:Heap)(z TI TO T:Addr)(b:Bool):Prop:=h.get? z=some { cls:=.type "zip",dict:=none,data:=.fields #[rawInt T,.bool b,.bool false,.ref TI,.ref TO],slots:=#[] }
def ZF(h:Heap)(z TI TO:Addr):Prop:=(IsZip h z TI TO .none/\∃ p q,IsPair h TO p q) ∨ ∃ T b o,IsZ2 h z TI TO T b/\h.get? T=some o
def ZW(h:Heap)(z TI TO i1 i2 l1 l2:Addr)(k:Nat):Prop:=ZF h z TI TO/\IsPair h TI (.ref i1) (.ref i2)/\ItX true h i1 l1 k/\ItX false h i2 l2 k
end
end
end L2
section
namespace L2
open PySem
noncomputable def a5t:PyData->Bool
 | .none=>true
 | _=>false
noncomputable def fIsN:F2:=fun x y=>match y with
 | .none=>some (.bool (a5t x))
 | _=>none
theorem e0k{x:PyData}:fIsN x .none=some (.bool (a5t x)):=rfl
theorem c6i:a5t .none=true:=rfl
theorem c6j{i:Int}:a5t (.int i)=false:=rfl
theorem c6k{xs:List PyData}:a5t (.tuple xs)=false:=rfl
section
variable{K:W.Frag}{H:Hp}{S:Addr->Prop}
def c6l{d:PyData}{v:V}(h:AtT K H S d v):decide (v=.non)=a5t d:=by
 cases d with
 | none=>rw [h.none];rfl
 | bool b=>rw [h.bool];rfl
 | int i=>rw [h.int];rfl
 | str x=>rw [h.str];rfl
 | list xs=>obtain⟨a,ws,rfl,_,_⟩:=h.list;rfl
 | tuple xs=>obtain⟨a,ws,rfl,_,_⟩:=h.tup;rfl
 | dict kvs=>obtain⟨a,ν,rfl,_⟩:=h.dict;rfl
def e0l:AdR K (fun x y H Q=>y=.non/\Q (.bl (decide (x=.non))) H) fIsN:=by
 intro S H x y dx dy z Q f hx hy e k;unfold fIsN at e;split at e<;>cases e;rw [hy.none,c6l hx];exact⟨rfl,k _ _ (Same.refl _) (a3w _)⟩
end
end L2
end
namespace L2
open PySem PySem.Spec PyProof.Rows
section
noncomputable def b0h(kvs more:List (Key × V)):List (Key × V):=more.foldl (fun acc kv=>putK acc kv.1 kv.2) kvs
end
end L2
section
namespace Sx
open PySem PySem.Spec PyProof.Rows
def c3e{α:Type}{le:α->α->Prop}(anti:∀ a b,le a b->le b a->a=b):∀ {a b:List α},a.Perm b->a.Pairwise le->b.Pairwise le->a=b
 | [],b,h,_,_=>h.nil_eq
 | x :: r,[],h,_,_=>absurd h.length_eq 'c'
 | x :: r,y :: t,h,ha,hb=>by
  have e:x=y:=by
   have hx:x ∈ y :: t:=h.mem_iff.mp mem_cons_self;have hy:y ∈ x :: r:=h.mem_iff.mpr mem_cons_self;rcases mem_cons.mp hx with q | q
   ·exact q
   ·rcases mem_cons.mp hy with q2 | q2
    ·exact q2.symm
    ·exact anti x y (List.rel_of_pairwise_cons ha q2) (List.rel_of_pairwise_cons hb q)
  subst e;rw [c3e anti (List.Perm.cons_inv h) (List.pairwise_cons.mp ha).2 (List.pairwise_cons.mp hb).2]
noncomputable def srtI(ns:List Int):List Int:=ns.mergeSort (fun a b=>decide (a <= b))
def a3f(ns:List Int):(srtI ns).Perm ns:=List.mergeSort_perm ns _
def d4z(ns:List Int):(srtI ns).Pairwise (· <= ·):=by
 have h:=List.pairwise_mergeSort (le:=fun a b:Int=>decide (a <= b)) (fun a b c h1 h2=>by simp at *;omega) (fun a b=>by simp;omega) ns;exact h.imp fun h=>by simpa using h
def d5a{a ns:List Int}(h:a.Perm ns)(hp:a.Pairwise (· <= ·)):a=srtI ns:=
 c3e (fun a b h1 h2=>Int.le_antisymm h1 h2) (h.trans (a3f ns).symm) hp (d4z ns)
def leS(a b:Str):Prop:=a.cps.toList <= b.cps.toList
instance (a b:Str):Decidable (leS a b):=by unfold leS;infer_instance
section
variable{prog:Program}{w:World}{A:Around}{E:Value->Shared->Prop}{s:Shared}{S:Addr}
def decI:∀ k v,(intKind prog w).is k v=true->numOf v=k:=fun k v h=>by
 obtain⟨t,rfl⟩:=Value.isInt_shape h;rfl
def c6m{ns:List Int}(hh:A.handled=none)(hS:SetV (intKind prog w) numOf s.heap S ns)(h64:ns.length < 64){Q:Value->Shared->Prop}
  (h:∀ (s':Shared) (L:Addr) (out:List Value) (e:Nat),IntsAre out (srtI ns)->s'.heap.get? L=some (seqObj "list" out.toArray e)->(∀ b o,s.heap.get? b=some o->s'.heap.get? b=some o)->S < L->s'.gens=s.gens->s'.os=s.os->Q (.ref L) s') :
  wpAny (model prog w) A (call (.builtin "sorted") [.ref S]) Q E s:=by
 obtain⟨es,ep,t,ho,F⟩:=hS;refine Calls.call_function_entry kind_sorted plain_sorted entry_sorted (args_sorted1 _) ?_;unfold Builtin.«sorted»;have z0:es.size=ns.length:=by have:=F.pm.length_eq;simpa using this
 refine wpAny_bind (m:=checkCount "sorted" 1 1 _) (wpAny_pure (wpAny_bind (c5g (by simp [hh]) ho F.ft F.ok F.ld 'o' fun s' out op kp eg eo=>?_)));have ol:out.length=ns.length:=by rw [op.length_eq,length_map,length_toList,z0]
 have hv:∀ v ∈ out,∃ n t,v=.int n t:=fun v hv=>by
  obtain⟨e,he,rfl⟩:=mem_map.mp (op.mem_iff.mp hv);obtain⟨⟨k,hk,_⟩,_⟩:=F.el e he;obtain⟨t,q⟩:=Value.isInt_shape hk;exact⟨k,t,q⟩
 have hI:=intsAre_map out hv;have hpm:(out.map numOf).Perm ns:=(op.map numOf).trans (by rw [map_map];exact F.pm);refine wpAny_bind (wpAny_newList ?_ (by rw [ol,sizeLine_eq];omega));have hoL:(s'.heap.push (seqObj "list" out.toArray 0)).get? s'.heap.objs.size=some (seqObj "list" out.toArray 0):=get?_push_size _ rfl;refine wpAny_bind (wpAny_holding (wpAny_call_entry slot_list_sort ⟨_,hoL,rfl⟩ entry_list_sort (list_sort_tree hoL hI 'o' fun out' ns' a1 a2 a3=>⟨_,rfl,?_⟩) (args_list_sort _)));obtain⟨e,he⟩:=sortedHeap_at (out:=out') hoL;have eq:=d5a (a2.trans hpm) a3;subst eq;refine wpAny_pure ⟨_,rfl,h _ s'.heap.objs.size out'.toList e a1 he (fun b o q=>?_) (lt_size (kp _ _ ho)) eg eo⟩;have q':=kp b o q;have lt:=lt_size q';show(sortedHeap _ _ _ _).get? b=some o;rw [sortedHeap_old (ne_of_lt lt) (by rw [size_push];exact lt_succ_of_lt lt)];exact get?_push_of_some _ q'
end
end Sx
end
namespace L2
open PySem PySem.Spec PyProof.Rows
section
def e0m:bootBuiltins "set" = some (.type "set"):=by decide +kernel
section
variable{X:Cx}{pins:List 'a'}{σ:List (Option V)}{H:Hp}{s:Shared}
def Inv.dr(I:Inv X pins σ H s)(d:Drawn):Inv X pins σ H { s with drawn:=d }:=⟨I.ok,I.os,I.bare,I.base,I.loc,I.cell,I.free,I.freeC,I.pin,I.hok,I.len⟩
def c1c(X:Cx)(r:List V->Hp->VK->Prop):Prop:=∀ (pins:List 'a') (s:Shared) (σ:St) (H:Hp) (xs:List V) (us:List Value) (Q:VK),Inv X pins σ H s->Vals xs us->r xs H Q ->
 wpAny (model X.prog X.w) X.A (call (.type "set") us) (fun u s1=>wpAny (model X.prog X.w) X.A (call (.builtin "sorted") [u]) (EP X pins σ Q) X.xe s1) X.xe s
def c3f{r:List V->Hp->VK->Prop}{a:Expr}{ta:TA}{p p2 pos pos2:Pos}(hr:c1c X r) (hg:Gl X "set") (hm:X.mg "set" = none) (hg2:Gl X "sorted") (hm2:X.mg "sorted" = none) (ha:PA X [a] ta) (hs:starEach [a] X.env=(false,eval a X.env) :: starEach [] X.env:=by rfl) (hs2:(backTo pos (starEach [] X.env)).any (·.1)=false:=by rfl)
  (hs3:starEach [.Call (.Name "set" p) [a] [] pos] X.env=[(false,eval (.Call (.Name "set" p) [a] [] pos) X.env)]:=by rfl) :
  PE X (.Call (.Name "sorted" p2) [.Call (.Name "set" p) [a] [] pos] [] pos2) (tCB r ta):=by
 intro pins s σ H Q I h;refine Call_ (a4k I hg2 hm2 b0g (PyProof.Rows.callWith_builtin1 ?_ hs3 (by rfl)));rw [hs3];show wpAny _ _ (spliced ((false,eval (.Call (.Name "set" p) [a] [] pos) X.env) :: [])) _ _ s;refine Calls.spliced_cons (Call_ (a4k I hg hm e0m (PyProof.Rows.callWith_type1 (thn (ha pos pins s σ H _ I h) fun us s1 hq8=>?_) hs hs2)));obtain⟨vs,H1,I1,r1,q1⟩:=hq8;exact thn (hr pins s1 σ H1 vs us Q I1 r1 q1) fun u s2 h2=>Calls.spliced_nil h2
def b0i:∀ {us:List Value} {ns:List Int},IntsAre us ns->Vals (ns.map V.int) us
 | _,_,.nil=>.nil
 | _,_,.cons _ _ h=>.cons ⟨_,rfl⟩ (b0i h)
noncomputable def d1w(K:W.Frag):List V->Hp->VK->Prop:=fun xs H Q=>∃ v S,∃ ns:List Int,xs=[v]/\(AtD K H S (.list (ns.map .int)) v ∨ AtD K H S (.tuple (ns.map .int)) v)/\ns.length < 64/\∀ p,H p=none->Q (.ref p) (upd H p (.lst ((Sx.srtI (Sx.uniq ns)).map V.int)))
def c9v(hc:X.calm=true):c1c X (d1w X.K):=by
 intro pins s σ H xs us Q I rs h;obtain⟨v,S,ns,rfl,hd,hn,q⟩:=h;obtain⟨u,rfl,r⟩:=vals1 rs;obtain⟨a,its,e,rv,hq⟩:∃ a its,v=.ref a/\Vals (ns.map V.int) its/\(s.heap.IsList a its.toArray ∨ s.heap.IsTuple a its.toArray):=by
  rcases hd with hd | hd
  ·obtain⟨a,ys,rfl,_,hq,t⟩:=a2u hd
   have ey:=ints_of_all t;subst ey;obtain⟨its,rv,pl,hz⟩:=I.list (SqL.of hq);exact⟨a,its,rfl,rv,.inl pl.isList⟩
  ·obtain⟨a,ys,rfl,hq,t⟩:=a2g hd
   have ey:=ints_of_all t;subst ey;obtain⟨its,rv,pl,hz⟩:=I.tuple hq;exact⟨a,its,rfl,rv,.inr pl⟩
 subst e;cases r;have hl:its.length=ns.length:=by rw [← rv.length,length_map]
 refine Sx.call_v (knd:=intKind X.prog X.w) (ks:=ns) Sx.decI (I.ok.hd hc) hq (by rw [size_toArray];omega) (by rw [size_toArray,hl]) (fun i w hw=>?_) fun h1 tk sv kp=>?_
 ·rw [List.getElem?_toArray] at hw
  have hi:i < its.length:=(List.getElem?_eq_some_iff.mp hw).1;have hi2:i < ns.length:=by omega
  obtain⟨u,e1,⟨t,ht⟩⟩:=rv.get (i:=i) (x:=V.int ns[i]) (by rw [getElem?_map,getElem?_eq_getElem hi2];rfl);subst ht;rw [hw] at e1;cases e1;exact⟨ns[i],getElem?_eq_getElem hi2,by simp [intKind,Value.isInt],rfl⟩
 ·have hu:=Sx.b0w ns
  refine Sx.c6m (I.ok.hd hc) sv 'o' fun s2 L out e a1 he kp2 hlt eg eo=>?_;have hle:((Sx.srtI (Sx.uniq ns)).map V.int).length <= sizeLine:=by
   rw [length_map,(Sx.a3f _).length_eq,sizeLine_eq];omega
  have I2:=(I.laid (a:=L) (o:=.lst ((Sx.srtI (Sx.uniq ns)).map V.int)) (t':=s2.toks) (h':=s2.heap) (fun b o x=>kp2 _ _ (kp _ _ x)) (le_of_lt hlt) ⟨hle,out,e,b0i a1,he⟩).dr s2.drawn;have es:({ s with heap:=s2.heap,toks:=s2.toks,drawn:=s2.drawn }:Shared)=s2:=by
   cases s2;dsimp only at eg eo;subst eg eo;rfl
  rw [es] at I2;exact⟨.ref _,_,I2,rfl,q _ (I.hok.fresh (le_of_lt hlt))⟩
end
noncomputable def b6n:FC:=fun ds=>match ds with
 | [.list xs]=>(a3s xs).bind fun ns=>if ns.length < 64 then some (.list ((Sx.srtI (Sx.uniq ns)).map .int)) else none
 | [.tuple xs]=>(a3s xs).bind fun ns=>if ns.length < 64 then some (.list ((Sx.srtI (Sx.uniq ns)).map .int)) else none
 | _=>none
section
variable{K:W.Frag}{H:Hp}{S:Addr->Prop}
def a8b:∀ {ns:List Int},a0a K H S (ns.map .int) (ns.map V.int)
 | []=>by unfold a0a;rfl
 | x :: r=>by
  show a0a K H S (.int x :: r.map .int) (.int x :: r.map V.int);unfold a0a;exact⟨_,_,rfl,a1o _,a8b⟩
def d5b:AdC K (d1w K) b6n:=by
 intro S H vs ds z Q f h e k;unfold b6n at e;split at e
 ·rename_i xs
  cases q1:a3s xs with
  | none=>rw [q1] at e;cases e
  | some ns =>
   rw [q1,bind_some] at e;split at e
   ·rename_i hl
    cases e
    obtain⟨v,rfl,h1⟩:=h.one;have e1:=ints_map q1;subst e1;exact⟨v,Any,ns,rfl,.inl h1.any,hl,fun p hp=>k _ _ (a0f hp _) (a2c (f p hp) a0d a8b)⟩
   ·cases e
 ·rename_i xs
  cases q1:a3s xs with
  | none=>rw [q1] at e;cases e
  | some ns =>
   rw [q1,bind_some] at e;split at e
   ·rename_i hl
    cases e
    obtain⟨v,rfl,h1⟩:=h.one;have e1:=ints_map q1;subst e1;exact⟨v,Any,ns,rfl,.inr h1.any,hl,fun p hp=>k _ _ (a0f hp _) (a2c (f p hp) a0d a8b)⟩
   ·cases e
 ·cases e
end
section
variable{X:Cx}{a:Expr}{daa:TDA}{p p2 pos pos2:Pos}
def d5c(hc:X.calm=true) (hg:Gl X "set") (hm:X.mg "set" = none) (hg2:Gl X "sorted") (hm2:X.mg "sorted" = none) (ha:DA X [a] daa) (hs:starEach [a] X.env=(false,eval a X.env) :: starEach [] X.env:=by rfl) (hs2:(backTo pos (starEach [] X.env)).any (·.1)=false:=by rfl)
  (hs3:starEach [.Call (.Name "set" p) [a] [] pos] X.env=[(false,eval (.Call (.Name "set" p) [a] [] pos) X.env)]:=by rfl) :
  DE X (.Call (.Name "sorted" p2) [.Call (.Name "set" p) [a] [] pos] [] pos2) (dCB b6n daa):=by
 obtain⟨ta,pa,aa⟩:=ha;exact⟨_,c3f (c9v hc) hg hm hg2 hm2 pa hs hs2 hs3,b6h d5b aa⟩
end
end
end L2
section
namespace Sx
open PySem PySem.W PyProof.Rows
noncomputable def AllP{α:Type}(n:Nat)(P:α->Prop):KasT α->Prop
 | .ret a=>P a
 | .ask i j k=>i < n/\j < n/\∀ b,AllP n P (k b)
def a5b{α β:Type}{n:Nat}{P:α->Prop}{R:β->Prop}{f:α->KasT β}(h:∀ a,P a->AllP n R (f a)):∀ t:KasT α,AllP n P t->AllP n R (t.bind f)
 | .ret a,q=>h a q
 | .ask i j k,q=>⟨q.1,q.2.1,fun b=>a5b h (k b) (q.2.2 b)⟩
abbrev PN(n:Nat)(p:Array Nat):Prop:=p.Perm (List.toArray (List.range n))
def a4n{n:Nat}(hn:0 < n){p:Array Nat}(h:PN n p)(i:Nat):p.getD i 0 < n:=by
 rw [getD_eq_getD_getElem?];cases e:p[i]? with
 | none=>exact hn
 | some x =>
  have hm:x ∈ p.toList:=by
   rw [← getElem?_toList] at e;exact mem_of_getElem? e
  have:=(Array.perm_iff_toList_perm.mp h).mem_iff.mp hm;simpa using this
def b0j{n:Nat}{p:Array Nat}(h:PN n p)(i j:Nat):PN n (kas_rev p i j):=(mirror_perm _ _ _ _).trans h
section
variable{n:Nat}(hn:0 < n)
include hn
def b4j{p:Array Nat}(h:PN n p):∀ f m,AllP n (fun _=>True) (kas_asc p f m)
 | 0,m=>trivial
 | f + 1,m=>⟨a4n hn h _,a4n hn h _,fun b=>by
  cases b with
  | true=>exact trivial
  | false=>exact b4j h f (m + 1)⟩
def a9f:∀ f {p:Array Nat} m q,PN n p->AllP n (fun r=>PN n r.1) (kas_desc f p m q)
 | 0,p,m,q,h=>h
 | f + 1,p,m,q,h=>⟨a4n hn h _,a4n hn h _,fun b=>by
  cases b with
  | true =>
   show AllP n _ (if q > 0 then _ else _);split
   ·exact a9f f _ _ (b0j h _ _)
   ·exact a9f f _ _ h
  | false =>
   refine⟨a4n hn h _,a4n hn h _,fun b=>?_⟩;cases b with
   | true=>exact h
   | false=>exact a9f f _ _ h⟩
def b5p{p:Array Nat}(h:PN n p)(m r:Nat):AllP n (fun x=>PN n x.2) (kas_tail3 m r p):=by
 refine a5b (P:=fun _=>True) (fun a _=>?_) _ (b4j hn (b0j h _ _) _ _);exact b0j h _ _
def b0k{p:Array Nat}(h:PN n p)(m r:Nat):AllP n (fun x=>PN n x.2) (kas_descPart m r p):=by
 refine a5b (fun x hx=>?_) _ (a9f hn _ _ _ h);show AllP n _ (if x.2.2 > 0 then _ else _);split
 ·exact b5p hn (b0j hx _ _) _ _
 ·exact b5p hn hx _ _
def c6n{p:Array Nat}(h:PN n p)(r:Nat):AllP n (fun x=>PN n x.2) (kas_count r p):=by
 refine a5b (fun m _=>?_) _ (b4j hn h _ _);show AllP n _ (if (m == r)=true then _ else if m > 1 then _ else _);split
 ·exact h
 ·split
  ·refine⟨a4n hn h _,a4n hn h _,fun b=>?_⟩
   cases b with
   | true=>exact h
   | false=>exact b0k hn (b0j h _ _) _ _
  ·exact b0k hn h _ _
def b0l{p:Array Nat}(h:PN n p)(k:Nat):∀ f l r,AllP n (fun _=>True) (kas_place p k f l r)
 | 0,l,r=>trivial
 | f + 1,l,r=>by
  show AllP n _ (if l ≥ r then _ else _);split
  ·exact trivial
  ·refine⟨a4n hn h _,a4n hn h _,fun b=>?_⟩
   cases b with
   | true=>exact b0l h k f _ _
   | false=>exact b0l h k f _ _
def c1d:∀ f {p:Array Nat} k,PN n p->AllP n (fun x=>PN n x) (kas_bin f p k)
 | 0,p,k,h=>h
 | f + 1,p,k,h=>a5b (fun l _=>c1d f _ ((bubble_perm _ _ _).trans h)) _ (b0l hn h _ _ _ _)
def c9w:AllP n (fun p=>PN n p) (kas_sort n):=by
 refine a5b (fun r hr=>?_) _ (c6n hn (Array.Perm.refl _) n);show AllP n _ (if r.1 < n then _ else _);split
 ·exact c1d hn _ _ hr
 ·exact hr
end
def TupAt(h:Heap)(v:Value)(t:List Int):Prop:=∃ a o xs n,v=.ref a/\h.get? a=some o/\o.cls=.type "tuple" /\ o.data=.seq xs n/\IntsAre xs.toList t/\t ≠ []
section
variable{prog:Program}{w:World}{A:Around}{E:Value->Shared->Prop}{s:Shared}
def c1e{b fin:Bool}{Q:Bool->Shared->Prop}(q:∀ c,Q c s):∀ (xs ys:List Value) (i:Nat),(∀ v ∈ xs,∃ n t,v=.int n t)->(∀ v ∈ ys,∃ n t,v=.int n t)->KatLex prog w A b fin Q (xs.zip ys) i s
 | [],ys,i,_,_=>by rw [List.zip_nil_left];exact kat_nil (q _)
 | x :: r,[],i,_,_=>by rw [List.zip_nil_right];exact kat_nil (q _)
 | x :: r,y :: t,i,hx,hy=>by
  obtain⟨n,u,rfl⟩:=hx _ mem_cons_self;obtain⟨m,u',rfl⟩:=hy _ mem_cons_self;rw [List.zip_cons_cons];refine kat_cons (wpAny_eqBool_int ?_);cases (n == m) with
  | true=>exact kat_yes (c1e q r t (i + 1) (fun v hv=>hx v (mem_cons_of_mem _ hv)) fun v hv=>hy v (mem_cons_of_mem _ hv))
  | false =>
   refine kat_no ?_;cases (b && i == 0) with
   | true=>exact oneLt_int (q _)
   | false=>exact kat_one _ _ (wpAny_lt_int (q _))
def e0n{b:Bool}{u v:Value}{t t':List Int}{Q:Bool->Shared->Prop}(hu:TupAt s.heap u t)(hv:TupAt s.heap v t')(q:∀ c,Q c s):wpAny (model prog w) A (keyLt' (tuples' b) u v) Q E s:=by
 obtain⟨a,o,xs,n,rfl,ho,_,hd,hI,_⟩:=hu;obtain⟨a',o',xs',n',rfl,ho',_,hd',hI',_⟩:=hv;exact kat_lt ho hd ho' hd' (c1e q _ _ 0 hI.all hI'.all)
def b2m:∀ {vs:List Value} {h:Heap},(∀ v ∈ vs,∃ t,TupAt h v t)->∃ fs,KatTups h vs fs/\fs.length=vs.length/\∀ v ∈ fs,∃ n t,v=.int n t
 | [],h,_=>⟨[],KatTups.nil,rfl,fun v hv=>absurd hv not_mem_nil⟩
 | v :: r,h,H=>by
  obtain⟨fs,k,hl,hf⟩:=b2m (vs:=r) (h:=h) fun v hv=>H v (mem_cons_of_mem _ hv);obtain⟨t,a,o,xs,n,rfl,ho,hc,hd,hI,hne⟩:=H v mem_cons_self;obtain⟨f,fr,e⟩:∃ f fr,xs.toList=f :: fr:=by
   cases q:xs.toList with
   | nil=>rw [q] at hI;cases hI;exact absurd rfl hne
   | cons f fr=>exact⟨f,fr,rfl⟩
  have e0:xs[0]? = some f:=by rw [← getElem?_toList,e];rfl
  refine⟨f :: fs,KatTups.cons ho hc hd e0 k,by rw [length_cons,length_cons,hl],fun v hv=>?_⟩;rcases mem_cons.mp hv with rfl | hv
  ·exact hI.all _ (by rw [e];exact mem_cons_self)
  ·exact hf v hv
end
end Sx
end
section
namespace L2
open PySem PySem.Spec PyProof.Rows
abbrev encT(t:List Int):PyData:=.tuple (t.map .int)
section
variable{prog:Program}{w:World}{A:Around}{E:Value->Shared->Prop}{s:Shared}
def b1x{h h':Heap}{v:Value}{t:List Int}(x:Sx.TupAt h v t)(k:∀ b o,h.get? b=some o->h'.get? b=some o):Sx.TupAt h' v t:=by
 obtain⟨a,o,xs,n,e,ho,r⟩:=x;exact⟨a,o,xs,n,e,k _ _ ho,r⟩
end
section
variable{X:Cx}
def a9q:∀ {ns:List Int} {us:List Value},Vals (ns.map V.int) us->IntsAre us ns
 | [],us,h=>by rw [Vals.zero h];exact .nil
 | x :: r,us,h=>by
  cases h with
  | cons h1 h2 =>
   obtain⟨t,rfl⟩:=h1;exact .cons _ _ (a9q h2)
noncomputable def a6l(d:PyData):Bool:=PyData.layable0 d && d.intsShort 13 && d.showable
noncomputable def d1x(K:W.Frag):List V->Hp->VK->Prop:=fun xs H Q=>∃ v S,∃ ds:List PyData,xs=[v]/\AtD K H S (.tuple ds) v/\a6l (.tuple ds)=true/\Q (.str (PyData.tuple ds).shown) H
def c6o(hg:X.A.guards=some [])(hu:X.A.units + 80 < cLine):a1r X (.builtin "repr") (d1x X.K):=by
 intro pins s σ H xs us Q I rs h;obtain⟨v,S,ds,rfl,hd,hk,q⟩:=h;obtain⟨u,rfl,r⟩:=vals1 rs;obtain⟨as,rd⟩:=AtD.reads I _ v u hd r;obtain⟨a,ys,rfl,hq,t⟩:=a2g hd;cases r;unfold a6l at hk;simp only [and_eq_true] at hk;obtain⟨⟨h1,h2⟩,h3⟩:=hk;have hl:=h1;unfold PyData.layable0 at h1;simp only [and_eq_true,decide_eq_true_eq] at h1;have hz:=shown_le13 hl h2;refine repr_of_reads' rd h3 (PyData.noDict_hsm (PyData.hasDict_of_canLay _ h1.1.1)) hg 'o' (fun _ _ e=>e) (fun h' u tk hk=>?_) (by rw [sizeLine_eq];omega);exact⟨.str _,H,I.kept hk,⟨_,rfl⟩,q⟩
end
section
variable{K:W.Frag}
def b7x{H:Hp}{S S':Addr->Prop}:∀ {tss:List 'g'} {xs:List V},a0a K H S (tss.map encT) xs->a0a K H S' (tss.map encT) xs
 | [],xs,h=>by rw [h.unnil];unfold a0a;rfl
 | t :: r,xs,h=>by
  obtain⟨y,yr,e,hd,tl⟩:=a0a.uncons (ds:=r.map encT) (d:=encT t) h;subst e;obtain⟨a,ys,rfl,hq,tt⟩:=a2g hd;have ey:=ints_of_all tt;subst ey;show a0a K H S' (encT t :: r.map encT) _;unfold a0a;refine⟨_,_,rfl,?_,b7x tl⟩;unfold AtD;exact⟨a,_,rfl,hq,a8b⟩
end
def d5d{ns:List Int}(h:ns.length < 64):b6n [.list (ns.map .int)]=some (.list ((Sx.srtI (Sx.uniq ns)).map .int)):=by
 show((a3s (ns.map .int)).bind fun ns=>if ns.length < 64 then _ else _)=_;rw [ints_of,bind_some,if_pos h]
end L2
namespace Sn
instance stands:Nonempty Unit:=⟨()⟩
end Sn
end
namespace L2
open PySem PySem.Spec PyProof.Rows
section
noncomputable def rngV(n:Nat):List V:=(List.range n).map fun i=>V.int (0 + (i:Nat))
section
variable{X:Cx}
def c6p{acc:Array Value}{n:Nat}(h:ItemsOf (fun i v=>∃ t,v=.int (0 + (i:Nat) * 1) t) acc n):Vals (rngV n) acc.toList:=by
 have key:∀ (m k:Nat) (l:List Value),l.length=m->(∀ (i:Nat) (v:Value),l[i]? = some v->∃ t,v=Value.int (((k + i:Nat):Int)) t)->Vals ((List.range' k m).map fun i=>V.int (0 + (i:Nat))) l:=by
  intro m;induction m with
  | zero =>
   intro k l hl _;have e:l=[]:=eq_nil_of_length_eq_zero hl;subst e;exact .nil
  | succ m ih =>
   intro k l hl hv;cases l with
   | nil=>cases hl
   | cons x r =>
    rw [List.range'_succ,map_cons];obtain⟨t,ht⟩:=hv 0 x rfl;refine .cons ⟨t,by rw [ht];simp⟩ (ih (k + 1) r (by simpa using hl) fun i v hi=>?_);obtain⟨t,ht⟩:=hv (i + 1) v (by simpa using hi);exact⟨t,by rw [ht];congr 1;omega⟩
 unfold rngV;rw [List.range_eq_range'];refine key n 0 acc.toList (by rw [length_toList];exact h.1) fun i v hi=>?_;obtain⟨t,ht⟩:=h.2 i v (by rw [← getElem?_toList];exact hi);exact⟨t,by rw [ht];congr 1;omega⟩
end
def c6q{K:W.Frag}{H:Hp}{S:Addr->Prop}(n:Nat):a0a K H S (rngD 0 n) (rngV n):=by
 unfold rngD rngV;generalize List.range n=l;induction l with
 | nil=>unfold a0a;rfl
 | cons x r ih =>
  rw [map_cons,map_cons];unfold a0a;exact⟨_,_,rfl,a1o _,ih⟩
end
section
noncomputable def asSt:PyData->Option Str
 | .str x=>some x
 | _=>none
theorem e0o{x:Str}:asSt (.str x)=some x:=rfl
end
section
noncomputable def asKey:PyData->Option Key
 | .int i=>some (.inl i)
 | .str x=>some (.inr x)
 | _=>none
structure PinK(K:W.Frag)(c:Rc)(p:Addr)(ν:List (Key × V))(i:Nat)(O:Own)(ρ:Rho)(σ:St)(H:Hp):Prop where
 rel:Rel K (c.reb O p H) O ρ σ H
 at_:H p=some (.dK ν)
 slot:σ[i]? = some (some (.ref p))
 nul:ρ[i]? = some none
 bA:∀ j q,O j=some q->c.A q
 bS:∀ b o,¬ c.M b->c.H0 b=some o->H b=some o
 bK:∀ b,c.H0 b ≠ none->H b ≠ none
 bM:∀ q,c.M q->∃ vs,H q=some (.lst vs)
 am:∀ q,c.A q->c.M q ∨ c.H0 q=none
 frs:∀ q,c.H0 q=none->c.S q
 fr0:c.H0 p=none
 np:¬ c.P p
end
section
noncomputable def kD(q:Key × PyData):PyData × PyData:=(keyD q.1,q.2)
noncomputable def putA(ν:List (Key × PyData))(k:Key)(d:PyData):List (Key × PyData):=if (ν.any fun q=>decide (q.1=k))=true then ν.map (fun q=>if q.1=k then(q.1,d) else q) else ν ++ [(k,d)]
abbrev TDP:=DEnds->Rho->List (Key × PyData)->Prop
def AdP(K:W.Frag)(i:Nat)(u:TS)(du:TDP):Prop:=∀ (c:Rc) (O0:Own) (H0:Hp) (O:Own) (ρ:Rho) (σ:St) (H:Hp) (D:Ends) (Dd:DEnds) (p:Addr) (κ:List (Key × V)) (ν:List (Key × PyData)),
 PinK K c p κ i O ρ σ H->a0m K H (live (c.reb O p H) O) (ν.map kD) κ->EndsOk K c (live c O0) H0 D Dd->Pers K (live c O0) H0 (live (c.reb O p H) O) H->du Dd ρ ν->u D σ H
noncomputable def getA:List (PyData × PyData)->Key->Option PyData
 | [],_=>none
 | q :: r,k=>if asKey q.1=some k then some q.2 else getA r k
end
section
section
variable{fs:List Bool}{y:PyData}{i n:Nat}{ys:List DV}{ρ:Rho}{QLs:List L->Rho->Prop}
theorem d5e:pass (false :: fs) (.d y :: ys) ρ QLs=fzL ρ (.d y) fun l ρ1=>pass fs ys ρ1 fun ls ρ2=>QLs (l :: ls) ρ2:=rfl
theorem d5f:pass (false :: fs) (.sl i :: ys) ρ QLs=fzL ρ (.sl i) fun l ρ1=>pass fs ys ρ1 fun ls ρ2=>QLs (l :: ls) ρ2:=rfl
theorem d5g:flOf n [] []=[]:=rfl
theorem d5h:flOf n (false :: fs) (.d y :: ys)=flOf (n + 1) fs ys:=rfl
theorem d5i:flOf n (false :: fs) (.sl i :: ys)=flOf (n + 1) fs ys:=rfl
end
end
section
noncomputable def strK:List (PyData × PyData)->Option (List Str)
 | []=>some []
 | (.str x,_) :: r=>(strK r).map (x :: ·)
 | _ :: _=>none
end
end L2
section
namespace Sx
open PySem PySem.W PyProof.Rows
section
variable(lt:Nat->Nat->Bool)
noncomputable def Ev{α:Type}:KasT α->α
 | .ret a=>a
 | .ask i j k=>Ev (k (lt i j))
def a7m{α β:Type}(f:α->KasT β):∀ t:KasT α,Ev lt (t.bind f)=Ev lt (f (Ev lt t))
 | .ret _=>rfl
 | .ask i j k=>a7m f (k (lt i j))
def c6r{α:Type}{n:Nat}{P:α->Prop}:∀ t:KasT α,AllP n P t->P (Ev lt t)
 | .ret _,h=>h
 | .ask i j k,h=>c6r (k (lt i j)) (h.2.2 _)
def d1y{α:Type}{n:Nat}{P:α->Prop}{cmp:Nat->Nat->(Bool->Shared->Prop)->Shared->Prop}{Q:α->Shared->Prop}{s:Shared}(hc:∀ i j (C:Bool->Shared->Prop),i < n->j < n->C (lt i j) s->cmp i j C s):∀ t:KasT α,AllP n P t->Q (Ev lt t) s->t.kasWp cmp Q s
 | .ret a,_,q=>q
 | .ask i j k,h,q=>hc i j _ h.1 h.2.1 (d1y hc (k (lt i j)) (h.2.2 _) q)
structure Ord:Prop where
 asym:∀ x y,lt x y=true->lt y x=false
 trans:∀ x y z,lt y x=false->lt z y=false->lt z x=false
abbrev g(p:Array Nat)(i:Nat):Nat:=p.getD i 0
def As(p:Array Nat)(b:Nat):Prop:=∀ i,1 <= i->i < b->lt (g p i) (g p (i - 1))=false
def Ds(p:Array Nat)(b:Nat):Prop:=∀ i,1 <= i->i < b->lt (g p (i - 1)) (g p i)=false
def Eq'(p:Array Nat)(n q:Nat):Prop:=∀ i,n - (q + 1) <= i->i + 1 < n->lt (g p (i + 1)) (g p i)=false
def So(p:Array Nat)(b:Nat):Prop:=∀ i j,i <= j->j < b->lt (g p j) (g p i)=false
variable{lt}
def Ord.refl(O:Ord lt)(x:Nat):lt x x=false:=by
 cases h:lt x x with
 | false=>rfl
 | true=>have:=O.asym x x h;rw [h] at this;exact this
def Ord.lt_le(O:Ord lt){x y z:Nat}(h1:lt x y=true)(h2:lt z y=false):lt x z=true:=by
 cases h:lt x z with
 | true=>rfl
 | false=>have:=O.trans y z x h2 h;rw [h1] at this;cases this
def So.of(O:Ord lt){p:Array Nat}{b:Nat}(h:As lt p b):So lt p b:=by
 intro i j hij hj;induction j with
 | zero =>
  have e:i=0:=by omega
  subst e;exact O.refl _
 | succ j ih =>
  by_cases e:i=j + 1
  ·subst e;exact O.refl _
  ·exact O.trans _ _ _ (ih 'o' 'o') (h (j + 1) 'o' hj)
def Ds.all(O:Ord lt){p:Array Nat}{b:Nat}(h:Ds lt p b):∀ i j,i <= j->j < b->lt (g p i) (g p j)=false:=by
 intro i j hij hj;induction j with
 | zero =>
  have e:i=0:=by omega
  subst e;exact O.refl _
 | succ j ih =>
  by_cases e:i=j + 1
  ·subst e;exact O.refl _
  ·exact O.trans _ _ _ (h (j + 1) 'o' hj) (ih 'o' 'o')
def a8c{p:Array Nat}{i j:Nat}(hj:j <= p.size)(k:Nat):g (kas_rev p i j) k=if i <= k/\k < j then g p (i + j - 1 - k) else g p k:=by
 unfold g;rw [getD_eq_getD_getElem?,getD_eq_getD_getElem?,getD_eq_getD_getElem?];unfold kas_rev;rw [getElem?_mirror hj _ 'o'];by_cases h:i <= k/\k < j
 ·rw [if_pos h]
  by_cases h2:(i <= k/\k < i + (j - i) / 2) ∨ (j - (j - i) / 2 <= k/\k < j)
  ·rw [if_pos h2]
  ·rw [if_neg h2,show i + j - 1 - k=k by omega]
 ·rw [if_neg h,if_neg 'o']
def c1f(O:Ord lt){p:Array Nat}{n q:Nat}(hs:n <= p.size)(hq:q + 1 <= n)(d:Ds lt p n)(e:Eq' lt p n q):Ds lt (kas_rev p (n - (q + 1)) n) n:=by
 intro i h1 h2;rw [a8c hs,a8c hs];by_cases c1:n - (q + 1) <= i - 1
 ·rw [if_pos ⟨'o','o'⟩,if_pos ⟨'o',h2⟩]
  have:=e (n - (q + 1) + n - 1 - i) 'o' 'o';rw [show n - (q + 1) + n - 1 - (i - 1)=n - (q + 1) + n - 1 - i + 1 by omega];exact this
 ·rw [if_neg 'o']
  by_cases c2:n - (q + 1) <= i
  ·rw [if_pos ⟨c2,h2⟩]
   exact d.all O _ _ 'o' 'o'
  ·rw [if_neg 'o']
   exact d i h1 h2
def a4x(p:Array Nat)(i j:Nat):(kas_rev p i j).size=p.size:=kas_rev_size i j
def c6s(p:Array Nat):∀ f m,m <= Ev lt (kas_asc p f m)/\Ev lt (kas_asc p f m) <= m + f/\(∀ i,m <= i->i < Ev lt (kas_asc p f m)->lt (g p i) (g p (i - 1))=false)/\(Ev lt (kas_asc p f m) < m + f->lt (g p (Ev lt (kas_asc p f m))) (g p (Ev lt (kas_asc p f m) - 1))=true):=by
 intro f;induction f with
 | zero=>intro m;exact⟨le_refl _,le_refl _,fun i h1 h2=>absurd h2 (not_lt.mpr h1),fun h=>absurd h (lt_irrefl _)⟩
 | succ f ih =>
  intro m;have e:Ev lt (kas_asc p (f + 1) m)=Ev lt (if lt (g p m) (g p (m - 1))=true then .ret m else kas_asc p f (m + 1)):=rfl;rw [e];cases h:lt (g p m) (g p (m - 1)) with
  | true =>
   rw [if_pos rfl];exact⟨le_refl _,Nat.le_add_right _ _,fun i h1 h2=>absurd h2 (not_lt.mpr h1),fun _=>h⟩
  | false =>
   rw [if_neg Bool.false_ne_true];obtain⟨a,b,c,d⟩:=ih (m + 1);refine⟨'o','o',fun i h1 h2=>?_,fun h2=>d 'o'⟩;by_cases e:i=m
   ·subst e;exact h
   ·exact c i 'o' h2
def d5j(O:Ord lt):∀ f (p:Array Nat) n q,n + f <= p.size->q + 1 <= n->Ds lt p n->Eq' lt p n q ->
  (Ev lt (kas_desc f p n q)).1.size=p.size/\n <= (Ev lt (kas_desc f p n q)).2.1/\(Ev lt (kas_desc f p n q)).2.1 <= n + f/\(Ev lt (kas_desc f p n q)).2.2 + 1 <= (Ev lt (kas_desc f p n q)).2.1/\Ds lt (Ev lt (kas_desc f p n q)).1 (Ev lt (kas_desc f p n q)).2.1/\Eq' lt (Ev lt (kas_desc f p n q)).1 (Ev lt (kas_desc f p n q)).2.1 (Ev lt (kas_desc f p n q)).2.2:=by
 intro f;induction f with
 | zero=>intro p n q _ h2 h3 h4;exact⟨rfl,le_refl _,le_refl _,h2,h3,h4⟩
 | succ f ih =>
  intro p n q h1 h2 h3 h4;have e:Ev lt (kas_desc (f + 1) p n q)=Ev lt (if lt (g p n) (g p (n - 1))=true then(if q > 0 then kas_desc f (kas_rev p (n - (q + 1)) n) (n + 1) 0 else kas_desc f p (n + 1) 0) else .ask (g p (n - 1)) (g p n) fun d=>if d=true then .ret (p,n,q) else kas_desc f p (n + 1) (q + 1)):=rfl;rw [e];have e0:∀ p':Array Nat,Eq' lt p' (n + 1) 0:=fun p' i a b=>by omega
  cases h:lt (g p n) (g p (n - 1)) with
  | true =>
   rw [if_pos rfl];by_cases hq:q > 0
   ·rw [if_pos hq]
    have dr:Ds lt (kas_rev p (n - (q + 1)) n) (n + 1):=fun i a b=>by
     by_cases c:i < n
     ·exact c1f O 'o' h2 h3 h4 i a c
     ·have ei:i=n:=by omega
      subst ei;rw [a8c 'o',a8c 'o',if_pos ⟨'o','o'⟩,if_neg 'o'];have h5:=h3.all O (i - (q + 1)) (i - 1) 'o' 'o';rw [show i - (q + 1) + i - 1 - (i - 1)=i - (q + 1) by omega];exact O.trans _ _ _ (O.asym _ _ h) h5
    have:=ih (kas_rev p (n - (q + 1)) n) (n + 1) 0 (by rw [a4x];omega) 'o' dr (e0 _);rw [a4x] at this;exact⟨this.1,'o','o',this.2.2.2.1,this.2.2.2.2⟩
   ·rw [if_neg hq]
    have dr:Ds lt p (n + 1):=fun i a b=>by
     by_cases c:i < n
     ·exact h3 i a c
     ·have ei:i=n:=by omega
      subst ei;exact O.asym _ _ h
    have:=ih p (n + 1) 0 'o' 'o' dr (e0 _);exact⟨this.1,'o','o',this.2.2.2.1,this.2.2.2.2⟩
  | false =>
   rw [if_neg Bool.false_ne_true];have e1:Ev lt (.ask (g p (n - 1)) (g p n) fun d=>if d=true then .ret (p,n,q) else kas_desc f p (n + 1) (q + 1))=Ev lt (if lt (g p (n - 1)) (g p n)=true then .ret (p,n,q) else kas_desc f p (n + 1) (q + 1)):=rfl;rw [e1];cases h5:lt (g p (n - 1)) (g p n) with
   | true =>
    rw [if_pos rfl];exact⟨rfl,le_refl _,Nat.le_add_right _ _,h2,h3,h4⟩
   | false =>
    rw [if_neg Bool.false_ne_true];have dr:Ds lt p (n + 1):=fun i a b=>by
     by_cases c:i < n
     ·exact h3 i a c
     ·have ei:i=n:=by omega
      subst ei;exact h5
    have er:Eq' lt p (n + 1) (q + 1):=fun i a b=>by
     by_cases c:i + 1 < n
     ·exact h4 i 'o' c
     ·have ei:i=n - 1:=by omega
      subst ei;rw [show n - 1 + 1=n by omega];exact h
    have:=ih p (n + 1) (q + 1) 'o' 'o' dr er;exact⟨this.1,'o','o',this.2.2.2.1,this.2.2.2.2⟩
def b7y{p:Array Nat}{n r:Nat}(h1:1 <= n)(h2:n <= r)(hs:r <= p.size)(d:Ds lt p n):As lt (Ev lt (kas_tail3 n r p)).2 (Ev lt (kas_tail3 n r p)).1/\(Ev lt (kas_tail3 n r p)).2.size=p.size/\(Ev lt (kas_tail3 n r p)).1 <= r:=by
 have e:Ev lt (kas_tail3 n r p)=(Ev lt (kas_asc (kas_rev p 0 n) (r - n) n),kas_rev p 0 n):=a7m lt _ _;rw [e];obtain⟨a,b,c,_⟩:=c6s (lt:=lt) (kas_rev p 0 n) (r - n) n;refine⟨fun i h3 h4=>?_,a4x _ _ _,by show _ <= r;omega⟩;by_cases hi:i < n
 ·show lt (g (kas_rev p 0 n) i) (g (kas_rev p 0 n) (i - 1))=false
  rw [a8c 'o',a8c 'o',if_pos ⟨'o','o'⟩,if_pos ⟨'o','o'⟩];have:=d (0 + n - 1 - (i - 1)) 'o' 'o';rw [show 0 + n - 1 - (i - 1) - 1=0 + n - 1 - i by omega] at this;exact this
 ·exact c i 'o' h4
def b1y(O:Ord lt){p:Array Nat}{n r:Nat}(h1:1 <= n)(h2:n + 1 <= r)(hs:r <= p.size)(d:Ds lt p (n + 1)):As lt (Ev lt (kas_descPart n r p)).2 (Ev lt (kas_descPart n r p)).1/\(Ev lt (kas_descPart n r p)).2.size=p.size/\(Ev lt (kas_descPart n r p)).1 <= r:=by
 have e:Ev lt (kas_descPart n r p)=Ev lt ((fun x:Array Nat × Nat × Nat=>if x.2.2 > 0 then kas_tail3 x.2.1 r (kas_rev x.1 (x.2.1 - (x.2.2 + 1)) x.2.1) else kas_tail3 x.2.1 r x.1) (Ev lt (kas_desc (r - (n + 1)) p (n + 1) 0))):=a7m lt _ _;rw [e];obtain⟨a1,a2,a3,a4,a5,a6⟩:=d5j O (r - (n + 1)) p (n + 1) 0 'o' 'o' d (fun i a b=>by omega);generalize Ev lt (kas_desc (r - (n + 1)) p (n + 1) 0)=x at a1 a2 a3 a4 a5 a6;obtain⟨p',n',q'⟩:=x
 dsimp only at a1 a2 a3 a4 a5 a6 ⊢
 by_cases hq:q' > 0
 ·rw [if_pos hq]
  have:=b7y (lt:=lt) (r:=r) 'o' 'o' (by rw [a4x];omega) (c1f O 'o' a4 a5 a6);rw [a4x,a1] at this;exact this
 ·rw [if_neg hq]
  have:=b7y (lt:=lt) (r:=r) (p:=p') (n:=n') 'o' 'o' 'o' a5;rw [a1] at this;exact this
def c9x(O:Ord lt){p:Array Nat}{r:Nat}(h1:1 <= r)(hs:r <= p.size):As lt (Ev lt (kas_count r p)).2 (Ev lt (kas_count r p)).1/\(Ev lt (kas_count r p)).2.size=p.size/\(Ev lt (kas_count r p)).1 <= r:=by
 have e:Ev lt (kas_count r p)=Ev lt ((fun n:Nat=>if (n == r)=true then .ret (n,p) else if n > 1 then .ask (g p 0) (g p (n - 1)) fun c=>if c=true then .ret (n,p) else kas_descPart n r (kas_rev p 0 n) else kas_descPart n r p) (Ev lt (kas_asc p (r - 1) 1))):=a7m lt _ _;rw [e];obtain⟨a,b,c,d⟩:=c6s (lt:=lt) p (r - 1) 1;generalize Ev lt (kas_asc p (r - 1) 1)=n at a b c d;have ap:As lt p n:=fun i h3 h4=>c i h3 h4
 dsimp only
 by_cases e1:(n == r)=true
 ·rw [if_pos e1]
  exact⟨ap,rfl,by show n <= r;omega⟩
 ·rw [if_neg e1]
  have hn:n < r:=by
   have:n ≠ r:=by simpa using e1
   omega
  have hd:=d 'o';by_cases e2:n > 1
  ·rw [if_pos e2]
   have e3:Ev lt (.ask (g p 0) (g p (n - 1)) fun c=>if c=true then .ret (n,p) else kas_descPart n r (kas_rev p 0 n))=Ev lt (if lt (g p 0) (g p (n - 1))=true then .ret (n,p) else kas_descPart n r (kas_rev p 0 n)):=rfl;rw [e3];cases h:lt (g p 0) (g p (n - 1)) with
   | true=>rw [if_pos rfl];exact⟨ap,rfl,by show n <= r;omega⟩
   | false =>
    rw [if_neg Bool.false_ne_true];have so:=So.of O ap;have dr:Ds lt (kas_rev p 0 n) (n + 1):=fun i h3 h4=>by
     rw [a8c 'o',a8c 'o',if_pos ⟨'o','o'⟩];by_cases ci:i < n
     ·rw [if_pos ⟨'o',ci⟩]
      exact so _ _ 'o' 'o'
     ·have ei:i=n:=by omega
      subst ei;rw [if_neg 'o',show 0 + i - 1 - (i - 1)=0 by omega];exact O.trans _ _ _ (O.asym _ _ hd) h
    have:=b1y O (p:=kas_rev p 0 n) (n:=n) (r:=r) 'o' 'o' (by rw [a4x];exact hs) dr;rw [a4x] at this;exact this
  ·rw [if_neg e2]
   have en:n=1:=by omega
   subst en;exact b1y O 'b' 'o' hs fun i h3 h4=>by
    have ei:i=1:=by omega
    subst ei;exact O.asym _ _ hd
def c9y(O:Ord lt){p:Array Nat}{k:Nat}(so:So lt p k):∀ f l r,r - l <= f->l <= r->r <= k->(∀ i,i < l->lt (g p k) (g p i)=false)->(∀ i,r <= i->i < k->lt (g p k) (g p i)=true) ->
  Ev lt (kas_place p k f l r) <= k/\(∀ i,i < Ev lt (kas_place p k f l r)->lt (g p k) (g p i)=false)/\∀ i,Ev lt (kas_place p k f l r) <= i->i < k->lt (g p k) (g p i)=true:=by
 intro f;induction f with
 | zero =>
  intro l r hf h0 hr h1 h2;have e:l=r:=by omega
  subst e;exact⟨hr,h1,h2⟩
 | succ f ih =>
  intro l r hf h0 hr h1 h2;have e:Ev lt (kas_place p k (f + 1) l r)=Ev lt (if l ≥ r then .ret l else .ask (g p k) (g p ((l + r) / 2)) fun c=>if c=true then kas_place p k f l ((l + r) / 2) else kas_place p k f ((l + r) / 2 + 1) r):=rfl;rw [e];by_cases hl:l ≥ r
  ·rw [if_pos hl]
   have e:l=r:=by omega
   subst e;exact⟨hr,h1,h2⟩
  ·rw [if_neg hl]
   have e3:Ev lt (.ask (g p k) (g p ((l + r) / 2)) fun c=>if c=true then kas_place p k f l ((l + r) / 2) else kas_place p k f ((l + r) / 2 + 1) r)=Ev lt (if lt (g p k) (g p ((l + r) / 2))=true then kas_place p k f l ((l + r) / 2) else kas_place p k f ((l + r) / 2 + 1) r):=rfl;rw [e3];cases h:lt (g p k) (g p ((l + r) / 2)) with
   | true =>
    rw [if_pos rfl];exact ih l ((l + r) / 2) 'o' 'o' 'o' h1 fun i a b=>O.lt_le h (so _ _ a b)
   | false =>
    rw [if_neg Bool.false_ne_true];exact ih ((l + r) / 2 + 1) r 'o' 'o' hr (fun i a=>O.trans _ _ _ (so i ((l + r) / 2) 'o' 'o') h) h2
def d1z{p:Array Nat}{k d:Nat}(hk:k < p.size)(hd:d <= k)(i:Nat):g (bubble p k d) i=if i=k - d then g p k else if k - d < i/\i <= k then g p (i - 1) else g p i:=by
 unfold g;rw [getD_eq_getD_getElem?,getD_eq_getD_getElem?,getD_eq_getD_getElem?,getD_eq_getD_getElem?,getElem?_bubble hk d hd];split
 ·rfl
 ·split<;>rfl
def e0p(O:Ord lt):∀ f (p:Array Nat) k,k + f <= p.size->So lt p k->So lt (Ev lt (kas_bin f p k)) (k + f):=by
 intro f;induction f with
 | zero=>intro p k _ so;exact so
 | succ f ih =>
  intro p k hs so;have e:Ev lt (kas_bin (f + 1) p k)=Ev lt (kas_bin f (bubble p k (k - Ev lt (kas_place p k k 0 k))) (k + 1)):=a7m lt _ _;rw [e];obtain⟨a,b,c⟩:=c9y O so k 0 k 'o' (zero_le _) 'b' (fun i h=>absurd h (Nat.not_lt_zero _)) (fun i h1 h2=>absurd h2 (not_lt.mpr h1));generalize Ev lt (kas_place p k k 0 k)=l at a b c;rw [show k + (f + 1)=(k + 1) + f by omega];refine ih _ _ (by rw [bubble_size];omega) ?_;intro i j hij hj;have hk:k < p.size:=by omega
  rw [d1z hk 'o',d1z hk 'o',show k - (k - l)=l by omega];by_cases ej:j=l
  ·rw [if_pos ej]
   by_cases ei:i=l
   ·rw [if_pos ei];exact O.refl _
   ·rw [if_neg ei,if_neg 'o']
    exact b i 'o'
  ·rw [if_neg ej]
   by_cases cj:l < j/\j <= k
   ·rw [if_pos cj]
    by_cases ei:i=l
    ·rw [if_pos ei]
     exact O.asym _ _ (c (j - 1) 'o' 'o')
    ·rw [if_neg ei]
     by_cases ci:l < i/\i <= k
     ·rw [if_pos ci];exact so _ _ 'o' 'o'
     ·rw [if_neg ci];exact so _ _ 'o' 'o'
   ·rw [if_neg cj,if_neg 'o',if_neg 'o']
    exact so _ _ hij 'o'
def d5k(O:Ord lt){n:Nat}(hn:1 <= n):So lt (Ev lt (kas_sort n)) n:=by
 have e:Ev lt (kas_sort n)=Ev lt ((fun r:Nat × Array Nat=>if r.1 < n then kas_bin (n - max r.1 1) r.2 (max r.1 1) else .ret r.2) (Ev lt (kas_count n (List.toArray (List.range n))))):=a7m lt _ _;rw [e];have hz:(List.toArray (List.range n)).size=n:=by simp
 obtain⟨a,b,c⟩:=c9x O (p:=List.toArray (List.range n)) hn (by rw [hz];exact le_refl _);generalize Ev lt (kas_count n (List.toArray (List.range n)))=x at a b c;obtain⟨m,p⟩:=x
 dsimp only at a b c ⊢
 rw [hz] at b;by_cases h:m < n
 ·rw [if_pos h]
  have so1:So lt p (max m 1):=by
   intro i j hij hj;by_cases hm:j < m
   ·exact So.of O a i j hij hm
   ·have e1:j=0:=by omega
    have e2:i=0:=by omega
    subst e1 e2;exact O.refl _
  have:=e0p O (n - max m 1) p (max m 1) 'o' so1;rw [show max m 1 + (n - max m 1)=n by omega] at this;exact this
 ·rw [if_neg h]
  exact fun i j hij hj=>So.of O a i j hij 'o'
end
end Sx
end
section
namespace Sx
open PySem PySem.W PyProof.Rows
noncomputable def srtT(tss:List 'g'):List 'g':=tss.mergeSort (fun a b=>decide (a <= b))
def b5q(tss:List 'g'):(srtT tss).Perm tss:=List.mergeSort_perm tss _
def c1g(tss:List 'g'):(srtT tss).Pairwise (· <= ·):=by
 have h:=List.pairwise_mergeSort (le:=fun a b:List Int=>decide (a <= b)) (fun a b c h1 h2=>by
  simp only [decide_eq_true_eq] at *;exact List.le_trans h1 h2) (fun a b=>by
  rcases List.le_total a b with h | h<;>simp [h]) tss
 exact h.imp fun h=>by simpa using h
def b4k{a tss:List 'g'}(h:a.Perm tss)(hp:a.Pairwise (· <= ·)):a=srtT tss:=
 c3e (fun a b h1 h2=>List.le_antisymm h1 h2) (h.trans (b5q tss).symm) hp (c1g tss)
noncomputable def ltOf(tss:List 'g')(i j:Nat):Bool:=decide (tss.getD i [] < tss.getD j [])
def e0q(tss:List 'g'):Ord (ltOf tss) where
 asym:=fun x y h=>by
  unfold ltOf at *;rw [decide_eq_true_eq] at h;rw [decide_eq_false_iff_not];exact List.lt_asymm h
 trans:=fun x y z h1 h2=>by
  unfold ltOf at *;rw [decide_eq_false_iff_not,List.not_lt] at *;exact List.le_trans h1 h2
section
variable{prog:Program}{w:World}{A:Around}{E:Value->Shared->Prop}{s:Shared}
def c1h{b:Bool}{Q:Bool->Shared->Prop}:∀ (xs ys:List Value) (t t':List Int) (i:Nat) (fin:Bool),IntsAre xs t->IntsAre ys t'->fin=decide (xs.length < ys.length)->Q (decide (t < t')) s->KatLex prog w A b fin Q (xs.zip ys) i s
 | [],ys,t,t',i,fin,h1,h2,hf,q=>by
  rw [List.zip_nil_left];cases h1;have e:fin=decide ([] < t'):=by
   rw [hf];cases h2<;>simp
  rw [e];exact kat_nil q
 | x :: r,[],t,t',i,fin,h1,h2,hf,q=>by
  rw [List.zip_nil_right];cases h2;have e:fin=decide (t < []):=by
   rw [hf];cases h1<;>simp
  rw [e];exact kat_nil q
 | x :: r,y :: u,t,t',i,fin,h1,h2,hf,q=>by
  cases h1 with
  | cons n tk h1 =>
   cases h2 with
   | cons m tk' h2 =>
    rw [List.zip_cons_cons];refine kat_cons (wpAny_eqBool_int ?_);cases hn:(n == m) with
    | true =>
     have e:n=m:=by simpa using hn
     subst e;refine kat_yes (c1h r u _ _ (i + 1) fin h1 h2 (by rw [hf];simp) ?_);rename_i ts us;have e2:decide (n :: ts < n :: us)=decide (ts < us):=by rw [Bool.eq_iff_iff];simp [List.cons_lt_cons_iff]
     rw [e2] at q;exact q
    | false =>
     have e:n ≠ m:=by simpa using hn
     rename_i ts us;have e2:decide (n :: ts < m :: us)=decide (n < m):=by rw [Bool.eq_iff_iff];simp [List.cons_lt_cons_iff,e]
     rw [e2] at q;refine kat_no ?_;cases (b && i == 0) with
     | true=>exact oneLt_int q
     | false=>exact kat_one _ _ (wpAny_lt_int q)
def d5l{b:Bool}{u v:Value}{t t':List Int}{Q:Bool->Shared->Prop}(hu:TupAt s.heap u t)(hv:TupAt s.heap v t')(q:Q (decide (t < t')) s):wpAny (model prog w) A (keyLt' (tuples' b) u v) Q E s:=by
 obtain⟨a,o,xs,n,rfl,ho,_,hd,hI,_⟩:=hu;obtain⟨a',o',xs',n',rfl,ho',_,hd',hI',_⟩:=hv;exact kat_lt ho hd ho' hd' (c1h _ _ t t' 0 _ hI hI' 'c' q)
def b5r{a:Addr}{vs:List Value}{n:Nat}{tss:List 'g'}{P:PySem.Fin->Shared->Prop} (ho:s.heap.get? a=some (seqObj "list" vs.toArray n)) (h64:vs.length < 64) (hl:tss.length=vs.length)
  (ht:∀ i,i < vs.length->TupAt ((((s.heap.update a (Obj.mapSeq fun _=>#[])).push (seqObj "tuple" vs.toArray 0)).push (seqObj "list" #[] 0))) (vs.getD i Value.none) (tss.getD i []))
  (h:∀ is:List Nat,is.Perm (List.range vs.length)->is.map (fun i=>tss.getD i [])=srtT tss->P (.done (.ret .none)) { s with heap:=sortedHeap s.heap a vs (is.map fun i=>vs.getD i Value.none).toArray }) :
  wpAny (model prog w) A (Builtin.«list.sort» ⟨[.ref a],[]⟩) P E s:=by
 rw [list_sort_plain];have ha:a < s.heap.objs.size:=lt_size ho;have hb:vs.toArray.size <= sizeLine:=by rw [size_toArray,sizeLine_eq];omega
 have rgm:∀ {β:Type} (l:List β) (d:β),(List.range l.length).map (fun i=>l.getD i d)=l:=fun l d=>by
  apply List.ext_getElem
  ·simp
  ·intro i h1 h2;simp at h1;simp [h1]
 refine wpAny_bind (listItems_at ho rfl (wpAny_bind (listUpdate_at ho rfl ?_ hb (zero_le _))));obtain⟨e1,ho1⟩:∃ e1,(s.heap.update a (Obj.mapSeq fun _=>#[])).get? a=some (seqObj "list" #[] e1):=⟨_,get?_update_seq ho (fun _=>#[])⟩;refine wpAny_bind (seqEpoch_at ho1 rfl (wpAny_bind (wpAny_newTuple ?_ (by show vs.length <= _;rw [sizeLine_eq];omega))));refine wpAny_bind (wpAny_newList (wpAny_holding ?_) (zero_le _));have ho6:(((s.heap.update a (Obj.mapSeq fun _=>#[])).push (seqObj "tuple" vs.toArray 0)).push (seqObj "list" #[] 0)).get? a=some (seqObj "list" #[] e1):=get?_push_of_some _ (get?_push_of_some _ ho1);show wpAny (model prog w) A _ P E { s with heap:=((s.heap.update a (Obj.mapSeq fun _=>#[])).push (seqObj "tuple" vs.toArray 0)).push (seqObj "list" #[] 0) }
 dsimp only
 by_cases h2:vs.toArray.size < 2
 ·rw [if_pos h2,if_pos h2]
  refine wpAny_bind (wpAny_pure ?_);rw [StateT.run_pure];refine wpAny_bind (wpAny_pure ?_)
  dsimp only
  have es:(arrOf (SortSt.mk' general' (vs.toArray.zip vs.toArray) #[] 7 none)).map (·.2)=vs.toArray:=by
   show(vs.toArray.zip vs.toArray).map (·.2)=_;apply Array.toList_inj.mp;rw [Array.toList_map,Array.toList_zip,List.map_snd_zip 'b']
  rw [es];refine wpAny_bind (seqEpoch_at ho6 rfl (wpAny_bind (listUpdate_at ho6 rfl ?_ (zero_le _) (le_trans hb 'n'))));simp only [bne_self_eq_false,false_eq_true,if_false];have hv:vs.length < 2:=by rw [size_toArray] at h2;exact h2
  have pwt:tss.Pairwise (· <= ·):=by
   match tss,(show tss.length < 2 by omega) with
   | [],_=>exact List.Pairwise.nil
   | [x],_=>exact pairwise_singleton _ _
  have:=h (List.range vs.length) (List.Perm.refl _) (by rw [← hl,rgm];exact b4k (List.Perm.refl _) pwt);rw [rgm] at this;exact wpAny_pure this
 ·rw [if_neg h2,if_neg h2]
  have h2':2 <= vs.length:=by rw [size_toArray] at h2;omega
  obtain⟨fs,k1,k2,k3⟩:=b2m (vs:=vs) (h:=(((s.heap.update a (Obj.mapSeq fun _=>#[])).push (seqObj "tuple" vs.toArray 0)).push (seqObj "list" #[] 0))) fun v hv=>by
   obtain⟨i,hi,e⟩:=getElem_of_mem hv;have:=ht i hi;rw [show vs.getD i Value.none=v by rw [getD_eq_getElem?_getD,getElem?_eq_getElem hi];exact e] at this;exact⟨_,this⟩
  refine wpAny_bind (kat_kind (T:=.type "int") k1 'o' (fun v hv=>?_) 'd' ?_)
  ·obtain⟨n,t,rfl⟩:=k3 v hv
   exact .now
  have an:=c9w (n:=vs.length) 'o';have pn:=c6r (ltOf tss) _ an;have so:=d5k (e0q tss) (n:=vs.length) 'o';refine wpAny_bind (wpAny_mono (kat_run (Q:=fun st' s'=>s'={ s with heap:=((s.heap.update a (Obj.mapSeq fun _=>#[])).push (seqObj "tuple" vs.toArray 0)).push (seqObj "list" #[] 0) }/\failedOf st'=none/\arrOf st'=(Ev (ltOf tss) (kas_sort vs.length)).map (kas_item (vs.toArray.zip vs.toArray))) (G:=fun p s'=>p=Ev (ltOf tss) (kas_sort vs.length)/\s'={ s with heap:=((s.heap.update a (Obj.mapSeq fun _=>#[])).push (seqObj "tuple" vs.toArray 0)).push (seqObj "list" #[] 0) })
   rfl h2' h64 (fun p st' s' a1 a2 a3 a4=>⟨a4.2,a3,by rw [a2,a4.1]⟩) (d1y (ltOf tss) (fun i j C hi hj hC=>?_) _ an ⟨rfl,rfl⟩)) ?_ fun _ _ e=>e)
  ·unfold kas_ask
   exact d5l (ht i hi) (ht j hj) hC
  generalize Ev (ltOf tss) (kas_sort vs.length)=p at pn so;rintro⟨⟨⟩,st'⟩ s' ⟨rfl,hf,har⟩
  dsimp only
  have hout:=kat_snds rfl har;rw [hout];have pnl:p.toList.Perm (List.range vs.length):=Array.perm_iff_toList_perm.mp pn;have psz:p.toList.length=vs.length:=by rw [pnl.length_eq,length_range]
  have hsrt:p.toList.map (fun i=>tss.getD i [])=srtT tss:=by
   refine b4k ?_ ?_
   ·have:=pnl.map (fun i=>tss.getD i [])
    rw [← hl,rgm] at this;exact this
   ·rw [List.pairwise_iff_getElem]
    intro i j hi hj hij;rw [length_map] at hi hj;rw [List.getElem_map,List.getElem_map];have:=so i j (le_of_lt hij) 'o';unfold ltOf g at this;rw [decide_eq_false_iff_not,List.not_lt] at this;have gi:∀ k,k < p.toList.length->p.getD k 0=p.toList[k]!:=fun k hk=>by
     rw [getD_eq_getD_getElem?];simp at hk;simp [hk]
    have e1:p.getD i 0=p.toList[i]:=by rw [getD_eq_getD_getElem?,← getElem?_toList,getElem?_eq_getElem hi];rfl
    have e2:p.getD j 0=p.toList[j]:=by rw [getD_eq_getD_getElem?,← getElem?_toList,getElem?_eq_getElem hj];rfl
    rw [e1,e2] at this;exact this
  refine wpAny_bind (seqEpoch_at ho6 rfl (wpAny_bind (listUpdate_at ho6 rfl ?_ (zero_le _) (by
   show(List.toArray _).size <= _;rw [size_toArray,length_map,psz,sizeLine_eq];omega))))
  rw [hf];simp only [bne_self_eq_false,false_eq_true,if_false];exact wpAny_pure (h _ pnl hsrt)
end
end Sx
end
namespace L2
open PySem PySem.Spec PyProof.Rows
section
section
variable{prog:Program}{w:World}{A:Around}{E:Value->Shared->Prop}{s:Shared}
def b7z{l:Addr}{vs:List Value}{tss:List 'g'}{Q:Value->Shared->Prop}(hl:s.heap.IsList l vs.toArray)(hn:tss.length=vs.length)(ht:∀ i,i < vs.length->Sx.TupAt s.heap (vs.getD i Value.none) (tss.getD i []))(h64:vs.length < 64)
  (h:∀ is:List Nat,is.Perm (List.range vs.length)->is.map (fun i=>tss.getD i [])=Sx.srtT tss->Q (.ref (s.heap.objs.size + 1)) { s with heap:=sortedAll s.heap vs (is.map fun i=>vs.getD i Value.none).toArray }):wpAny (model prog w) A (call (.builtin "sorted") [.ref l]) Q E s:=by
 refine Calls.call_function_entry kind_sorted plain_sorted entry_sorted (args_sorted1 _) ?_;unfold Builtin.«sorted»;refine wpAny_bind (m:=checkCount "sorted" 1 1 _) (wpAny_pure (wpAny_bind (collect_list hl ?_ (by rw [sizeLine_eq];omega))));refine wpAny_bind (wpAny_newList ?_ (by rw [sizeLine_eq];omega));have hz:((s.heap.push (seqObj "list" #[] 0)).update s.heap.objs.size (Obj.mapSeq (· ++ vs.toArray))).objs.size=s.heap.objs.size + 1:=by rw [Heap.size_update,size_push']
 have oL:(((s.heap.push (seqObj "list" #[] 0)).update s.heap.objs.size (Obj.mapSeq (· ++ vs.toArray))).push (seqObj "list" vs.toArray 0)).get? (s.heap.objs.size + 1)=some (seqObj "list" vs.toArray 0):=by rw [← hz];exact get?_push_size _ rfl
 show wpAny _ _ _ _ _ { s with heap:=(((s.heap.push (seqObj "list" #[] 0)).update s.heap.objs.size (Obj.mapSeq (· ++ vs.toArray))).push (seqObj "list" vs.toArray 0)) };rw [hz];have keep:∀ b o,s.heap.get? b=some o->(((((((s.heap.push (seqObj "list" #[] 0)).update s.heap.objs.size (Obj.mapSeq (· ++ vs.toArray))).push (seqObj "list" vs.toArray 0)).update (s.heap.objs.size + 1) (Obj.mapSeq fun _=>#[])).push (seqObj "tuple" vs.toArray 0)).push (seqObj "list" #[] 0))).get? b=some o:=fun b o q=>by
  have hlt:b < s.heap.objs.size:=lt_size q;refine get?_push_of_some _ (get?_push_of_some _ ?_);rw [Heap.get?_update_ne _ _ _ _ (ne_of_lt (lt_succ_of_lt hlt))];refine get?_push_of_some _ ?_;rw [Heap.get?_update_ne _ _ _ _ (ne_of_lt hlt)];exact get?_push_of_some _ q
 refine wpAny_bind (wpAny_holding (wpAny_call_entry slot_list_sort ⟨_,oL,rfl⟩ entry_list_sort (Sx.b5r oL h64 hn (fun i hi=>b1x (ht i hi) keep) fun is hp he=>⟨_,rfl,?_⟩) (args_list_sort _)));exact wpAny_pure ⟨_,rfl,h is hp he⟩
end
section
variable{K:W.Frag}{H:Hp}{S:Addr->Prop}
def a9g{tss:List 'g'}{xs:List V}(h:a0a K H S (tss.map encT) xs):∀ is:List Nat,(∀ i ∈ is,i < tss.length)->a0a K H S ((is.map fun i=>tss.getD i []).map encT) (is.map fun i=>xs.getD i .non)
 | [],_=>by unfold a0a;rfl
 | i :: r,hi=>by
  have h1:=hi i mem_cons_self;obtain⟨v,e1,hd⟩:=h.get (i:=i) (d:=encT (tss.getD i [])) (by rw [getElem?_map,getD_eq_getElem?_getD,getElem?_eq_getElem h1];rfl);rw [map_cons,map_cons,map_cons];unfold a0a;refine⟨_,_,rfl,?_,a9g h r fun j hj=>hi j (mem_cons_of_mem _ hj)⟩;have ex:xs.getD i V.non=v:=by rw [getD_eq_getElem?_getD,e1];rfl
  rw [ex];exact hd
def b0m{xs:List V}{us:List Value}(h:Vals xs us):∀ is:List Nat,(∀ i ∈ is,i < xs.length)->Vals (is.map fun i=>xs.getD i .non) (is.map fun i=>us.getD i Value.none)
 | [],_=>.nil
 | i :: r,hi=>by
  have h1:=hi i mem_cons_self;obtain⟨u,e1,hr⟩:=h.get (i:=i) (x:=xs[i]) (getElem?_eq_getElem h1);rw [map_cons,map_cons];refine .cons ?_ (b0m h r fun j hj=>hi j (mem_cons_of_mem _ hj));rw [getD_eq_getElem?_getD,getD_eq_getElem?_getD,getElem?_eq_getElem h1,e1];exact hr
noncomputable def d2a(K:W.Frag):List V->Hp->VK->Prop:=fun xs H Q=>∃ v S,∃ tss:List 'g',xs=[v]/\AtD K H S (.list (tss.map encT)) v/\(∀ t ∈ tss,t ≠ [])/\tss.length < 64/\∀ (p:Addr) (xs':List V),H p=none->a0a K H S ((Sx.srtT tss).map encT) xs'->Q (.ref p) (upd H p (.lst xs'))
end
section
variable{X:Cx}
def b8a{pins:List 'a'}{σ:List (Option V)}{H:Hp}{s:Shared}{S:Addr->Prop}(I:Inv X pins σ H s){tss:List 'g'}{xs:List V}{its:List Value}(hne:∀ t ∈ tss,t ≠ [])(h:a0a X.K H S (tss.map encT) xs)(v:Vals xs its):∀ i,i < its.length->Sx.TupAt s.heap (its.getD i Value.none) (tss.getD i []):=fun i hi=>by
 have hl:its.length=tss.length:=by rw [← v.length,h.length,length_map]
 have hi2:i < tss.length:=by omega
 have ht:tss.getD i []=tss[i]:=by rw [getD_eq_getElem?_getD,getElem?_eq_getElem hi2];rfl
 obtain⟨x,e1,hd⟩:=h.get (i:=i) (d:=encT tss[i]) (by rw [getElem?_map,getElem?_eq_getElem hi2];rfl);obtain⟨u,e2,r⟩:=v.get e1;rw [ht,getD_eq_getElem?_getD,e2];obtain⟨a,ys,rfl,hq,tt⟩:=a2g hd;have ey:=ints_of_all tt;subst ey;obtain⟨its',rv,pl,hz⟩:=I.tuple hq;cases r;obtain⟨o,ho,hc,n,hdt⟩:=pl;exact⟨a,o,its'.toArray,n,rfl,ho,hc,hdt,a9q rv,hne _ (getElem_mem hi2)⟩
def c6t:a1r X (.builtin "sorted") (d2a X.K):=by
 intro pins s σ H xs us Q I rs h;obtain⟨v,S,tss,rfl,hd,hne,hn,q⟩:=h;obtain⟨u,rfl,r⟩:=vals1 rs;obtain⟨a,ys,rfl,_,hq,t⟩:=a2u hd;cases r;obtain⟨its,rv,pl,hz⟩:=I.list (SqL.of hq);have hl:its.length=tss.length:=by rw [← rv.length,t.length,length_map]
 refine b7z pl.isList hl.symm (b8a I hne t rv) 'o' fun is hp he=>?_;have hin:∀ i ∈ is,i < its.length:=fun i hi=>mem_range.mp (hp.mem_iff.mp hi);have a1:=a9g t is (fun i hi=>by have:=hin i hi;omega);rw [he] at a1;have v1:=b0m rv is (fun i hi=>by have:=hin i hi;rw [rv.length];exact this);obtain⟨e,hoe⟩:=sortedAll_at s.heap its (is.map fun i=>its.getD i Value.none).toArray;have hle:(is.map fun i=>ys.getD i V.non).length <= sizeLine:=by
  rw [length_map,hp.length_eq,length_range,sizeLine_eq];omega
 exact⟨.ref _,_,I.laid (a:=s.heap.objs.size + 1) (o:=.lst (is.map fun i=>ys.getD i V.non)) (t':=s.toks) (fun b o e=>sortedAll_old e) 'n' ⟨hle,_,e,v1,hoe⟩,rfl,q _ _ (I.hok.fresh 'n') a1⟩
end
noncomputable def a9h:List PyData->Option (List 'g')
 | []=>some []
 | .tuple xs :: r=>(a3s xs).bind fun t=>(a9h r).map (t :: ·)
 | _ :: _=>none
def b8b:∀ tss:List 'g',a9h (tss.map encT)=some tss
 | []=>rfl
 | t :: r=>by
  show(a3s (t.map .int)).bind (fun t=>(a9h (r.map encT)).map (t :: ·))=_;rw [ints_of,bind_some,b8b r];rfl
def b5s:∀ {xs:List PyData} {tss:List 'g'},a9h xs=some tss->xs=tss.map encT
 | [],tss,h=>by cases h;rfl
 | .tuple xs :: r,tss,h=>by
  have h':(a3s xs).bind (fun t=>(a9h r).map (t :: ·))=some tss:=h;obtain⟨t,h1,h2⟩:=Option.bind_eq_some_iff.mp h';obtain⟨qs,h3,rfl⟩:=map_eq_some_iff.mp h2;rw [b5s h3,ints_map h1];rfl
noncomputable def c3g:FC:=fun ds=>match ds with
 | [.list xs]=>(a9h xs).bind fun tss=>if (tss.all fun t=>!t.isEmpty)=true/\tss.length < 64 then some (.list ((Sx.srtT tss).map encT)) else none
 | _=>none
def c9z{tss:List 'g'}(h:∀ t ∈ tss,t ≠ [])(h2:tss.length < 64):c3g [.list (tss.map encT)]=some (.list ((Sx.srtT tss).map encT)):=by
 show(a9h (tss.map encT)).bind _=_;rw [b8b,bind_some,if_pos ⟨all_eq_true.mpr fun t ht=>by
  have:=h t ht;cases t with
  | nil=>exact absurd rfl this
  | cons _ _=>rfl,h2⟩]
def d5m{K:W.Frag}:AdC K (d2a K) c3g:=by
 intro S H vs ds z Q f h e k;unfold c3g at e;split at e
 ·rename_i xs
  obtain⟨tss,q1,e2⟩:=Option.bind_eq_some_iff.mp e;split at e2
  ·rename_i hc
   cases e2
   obtain⟨v,rfl,h1⟩:=h.one;have e1:=b5s q1;subst e1;refine⟨v,Any,tss,rfl,h1.any,fun t ht hn=>?_,hc.2,fun p xs' hp ha=>k _ _ (a0f hp _) (a2c (f p hp) a0d ((b7x ha).same (a0f hp _)))⟩;have:=all_eq_true.mp hc.1 t ht;rw [hn] at this;cases this
  ·cases e2
 ·cases e
end
end L2
section
namespace Sx
open PySem
noncomputable def lp(mask:Nat)(q:Nat × Nat):Nat × Nat:=SetTable.leap mask q.1 q.2
noncomputable def lps(mask:Nat):Nat->Nat × Nat->Nat × Nat
 | 0,q=>q
 | n + 1,q=>lps mask n (lp mask q)
end Sx
end
section
namespace Sx
open PySem
section
variable{prog:Program}{w:World}{K:Type}[DecidableEq K]{knd:KeyKind prog w K}{dec:Value->K}
variable{A:Around}{E:Value->Shared->Prop}{s:Shared}
end
end Sx
end
section
namespace Sx
open PySem
section
variable{prog:Program}{w:World}{K:Type}[DecidableEq K]{knd:KeyKind prog w K}{dec:Value->K}
variable{A:Around}{E:Value->Shared->Prop}{s:Shared}
end
end Sx
end
section
namespace Sx
open PySem
section
variable{prog:Program}{w:World}{K:Type}[DecidableEq K]{knd:KeyKind prog w K}{dec:Value->K}
variable{A:Around}{E:Value->Shared->Prop}{s:Shared}
end
end Sx
end
section
namespace Sx
open PySem
section
variable{prog:Program}{w:World}{K:Type}[DecidableEq K]{knd:KeyKind prog w K}{dec:Value->K}
variable{A:Around}{E:Value->Shared->Prop}{s:Shared}
end
end Sx
end
namespace L2
open PySem PySem.Spec PyProof.Rows
section
def d0a:typeLookup (.type "tuple") "keys" = pure none:=am_miss_of_fast (by kernel_rfl)
def c3h{prog:Program}{w:World}{A:Around}{E:Value->Shared->Prop}{s:Shared}{a:Addr}{xs:Array Value}{k:Nat}{sl:Array (Option Value)}{Q:Option Value->Shared->Prop}
  (hx:s.heap.get? a=some ⟨.type "tuple",none,.seq xs k,sl⟩) (hA:A.handled=none)
  (h:∀ h' tk,(∀ b o,s.heap.get? b=some o->h'.get? b=some o)->Q none { s with heap:=h',toks:=tk }):wpAny (model prog w) A (getAttr? (.ref a) "keys") Q E s:=by
 obtain⟨hp,g,d,tk,os⟩:=s;have hT:∀ tk',(⟨hp,g,d,tk',os⟩:Shared).TypeIs (.ref a) "tuple":=fun _=>⟨_,hx,rfl⟩;have f1:=sub_AttributeError;have f3:=F.slot_tuple_getattribute.lookup;have f4:=F.slot_tuple_getattribute.bind (.ref a);have f5:=am_tuple_getattr_none;unfold getAttr? getAttrBy? getAttrBy
 repeat (any_goals (first
  | assumption
  | exact hT _
  | ((with_reducible show wpAny _ _ (call (Value.builtin "tuple.__getattribute__") _ _) _ _ _);refine call_meets F.slot_tuple_getattribute (hT _) am_entry_tuple_getattribute (F.args_tuple_getattribute_2 _ _) (meets_getattribute_miss_tuple a xs k sl "keys" _ d0a rfl 'd') ⟨hx,hA,fun h' tk' e hx'=>?_⟩)
  | wp_step))
 obtain⟨t',u',he⟩:=hx'.there;show wpAny _ _ (getattributeRaised _ _ _ _ _ _ _) _ _ _;unfold getattributeRaised
 repeat (any_goals (first | assumption | wp_step))
 exact h h' tk' hx'.of.keeps
noncomputable def kS(q:Str × V):Key × V:=(Sum.inr q.1,q.2)
noncomputable def foldQ(ps:List (Str × V)):List (Key × V):=b0h [] (ps.map kS)
def c3i(ps:List (Str × V))(p:Str × V):foldQ (ps ++ [p])=putK (foldQ ps) (Sum.inr p.1) p.2:=by
 unfold foldQ b0h;rw [map_append,List.foldl_append];rfl
def d5n(ν:List (Key × V))(k:Key)(v:V):(putK ν k v).length <= ν.length + 1:=by
 unfold putK;split
 ·rw [length_map];exact le_succ _
 ·rw [length_append,List.length_singleton];exact le_refl _
def b8c(ps:List (Str × V)):(foldQ ps).length <= ps.length:=by
 have go:∀ (ps ν:List (Key × V)),(b0h ν ps).length <= ν.length + ps.length:=by
  intro ps;induction ps with
  | nil=>intro ν;exact le_refl _
  | cons p r ih =>
   intro ν;have h1:=ih (putK ν p.1 p.2);have h2:=d5n ν p.1 p.2;have e:b0h ν (p :: r)=b0h (putK ν p.1 p.2) r:=rfl;rw [e,length_cons];omega
 have h:=go (ps.map kS) [];rw [List.length_nil,Nat.zero_add,length_map] at h;exact h
def e0r(ps:List (Str × V))(D:Addr)(wr:List Addr)(items:Array Value)(h:Heap):Prop:=∀ (i:Nat) (v:Value),items[i]? = some v->∃ (a:Addr) (o:Obj) (c:Nat) (p:Str × V) (t:Tok) (u:Value),ps[i]? = some p/\v=.ref a/\a ≠ D/\a ∉ wr/\h.get? a=some o/\o.cls=.type "tuple" /\ o.data=.seq #[.str p.1 t,u] c/\RelV p.2 u
section
variable{prog:Program}{w:World}{A:Around}{R:Result->Shared->Prop}{I:Addr}{fp wr:List Addr}{G:Array GenState->Array GenState->Prop}{St:Nat->Shared->Prop}{items:Array Value}{ps:List (Str × V)}
def b9r(W:WalksS prog w A.in1 I fp wr G items.size (fun i v=>items[i]? = some v) St)(D:Addr)(hDf:D ∉ fp)(hl:items.size <= 1000) :
  ∀ (m i:Nat) (s:Shared) (vs:List (Key × Value)),items.size - i=m->i <= items.size->St i s->e0r ps D wr items s.heap->s.heap.DictOf (a1f prog w) D vs->KV (foldQ (ps.take i)) vs ->
   (∀ s' vs',Moved (D :: wr) G s s'->s'.heap.DictOf (a1f prog w) D vs'->KV (foldQ (ps.take items.size)) vs'->R (.ok (.ret .none)) s') ->
   codeAny (model prog w) A (.builtin "dict.update.loop" ⟨[.ref D,.ref I,rawInt ((i:Nat):Int),.none],[]⟩) R s:=by
 have hDw:D ∉ wr:=fun h=>hDf (W.sub _ h);have up:∀ b ∈ wr,b ∈ D :: wr:=fun b hb=>mem_cons_of_mem _ hb;intro m;induction m with
 | zero =>
  intro i s vs hm hi st tp dd kv fin;have hin:i=items.size:=by omega
  subst hin;refine codeAny_builtin b3j ?_;rw [Around.under_plainId a6v _];show wpAny _ A.in1 (pyNext (.ref I) >>= _) _ _ s;refine wpAny_bind (W.done s _ _ st fun s' mv=>?_);refine wpAny_bind (wpAny_pure (wpAny_pure (fin s' vs (mv.mono up) ?_ kv)));obtain⟨o,es,ep,ho,rest⟩:=dd;exact⟨o,es,ep,mv.heap D _ hDw ho,rest⟩
 | succ m ih =>
  intro i s vs hm hi st tp dd kv fin;have hlt:i < items.size:=by omega
  refine codeAny_builtin b3j ?_;rw [Around.under_plainId a6v _];show wpAny _ A.in1 (pyNext (.ref I) >>= _) _ _ s;refine wpAny_bind (W.item i s _ _ hlt st fun v s' hv st' mv=>?_);obtain⟨a,o,c,p,t,u,hp,rfl,haD,haw,ho,hc,hd,ru⟩:=tp i v hv;have ho':=mv.heap a _ haw ho;have dd':s'.heap.DictOf (a1f prog w) D vs:=by
   obtain⟨o,es,ep,ho,rest⟩:=dd;exact⟨o,es,ep,mv.heap D _ hDw ho,rest⟩
  have hvl:vs.length <= 1000:=by
   rw [← kv.length];have h1:=b8c (ps.take i);have h2:=List.length_take_le i ps;omega
  refine wpAny_bind (wpAny_holding (wpAny_bind (wpAny_tryCatch ?_)));unfold Builtin.Dict.pairItems;refine wpAny_bind (wpAny_typeOf (T:="tuple") ⟨o,ho',hc⟩ ?_);rw [if_pos (show(Value.type "tuple" == Value.type "list" || Value.type "tuple" == Value.type "tuple")=true by decide)];unfold seqItems?
  refine wpAny_bind (wpAny_bind (wpAny_load ho' ?_));rw [hd];refine wpAny_pure (wpAny_pure ?_);show wpAny _ A.in1 (holding [Value.str p.1 t,u] (dictSet D (.str p.1 t) u)) _ _ s';refine wpAny_holding (wpAny_dictSet_pairs (knd:=a1f prog w) (k:=Sum.inr p.1) (b1s prog w p.1 t) dd' (fun h' dd2 hs=>?_) (le_trans hvl (by rw [sizeLine_eq];decide)));have kv2:KV (foldQ (ps.take (i + 1))) (stored vs (Sum.inr p.1) u):=by
   rw [take_add_one,hp,toList_some,c3i];exact kv.put (Sum.inr p.1) ru
  refine wpAny_pure ⟨plainId_quiet a6v _,ih (i + 1) _ _ 'o' hlt (W.frame _ s' _ _ st' 'n' fun b hb o e=>?_) (fun j v hv=>?_) dd2 kv2 fun s2 vs2 mv2 dd3 kv3=>?_⟩
  ·rw [hs.2 b (fun h:b=D=>hDf (by rw [← h];exact hb))];exact e
  ·obtain⟨a,o,c,p,t,u,hp,e,haD,haw,ho,hc,hd,ru⟩:=tp j v hv
   exact⟨a,o,c,p,t,u,hp,e,haD,haw,(hs.2 a haD).trans (mv.heap a _ haw ho),hc,hd,ru⟩
  ·refine fin s2 vs2 (Moved.trans W.gtrans ((mv.mono up).then_heap 'n' fun b o hb e=>?_) mv2) dd3 kv3
   rw [hs.2 b (fun h:b=D=>hb (by rw [h];exact mem_cons_self))];exact e
end
section
variable{prog:Program}{w:World}{A:Around}{E:Value->Shared->Prop}{s:Shared}
def b9s{l:Addr}{items:Array Value}{n:Nat}{sl:Array (Option Value)}{ps:List (Str × V)}{Q:Value->Shared->Prop}(hh:A.handled=none) (hl:s.heap.get? l=some ⟨.type "tuple",none,.seq items n,sl⟩) (hsz:items.size <= 1000) (hps:ps.length=items.size)
  (tp:∀ (i:Nat) (v:Value),items[i]? = some v->∃ (a:Addr) (o:Obj) (c:Nat) (p:Str × V) (t:Tok) (u:Value),ps[i]? = some p/\v=.ref a/\s.heap.get? a=some o/\o.cls=.type "tuple" /\ o.data=.seq #[.str p.1 t,u] c/\RelV p.2 u)
  (h:∀ h' tk vs,h'.DictOf (a1f prog w) s.heap.objs.size vs->KV (foldQ ps) vs->(∀ b o,s.heap.get? b=some o->h'.get? b=some o)->Q (.ref s.heap.objs.size) { s with heap:=h',toks:=tk }) :
  wpAny (model prog w) A (call (.type "dict") [.ref l]) Q E s:=by
 refine callType_codes (Q₁:=fun obj s₁=>obj=.ref s.heap.objs.size/\s₁={ s with heap:=s.heap.push { cls:=.type "dict",data:=.dict #[] } }) F.kt_called_dict (F.kt_typeCall_dict_1 _) F.entry_dict_init (kt_code_dict_new _ ⟨rfl,rfl⟩) ?_;rintro obj s₁ ⟨rfl,rfl⟩;have dn:(s.heap.push { cls:=.type "dict",data:=.dict #[] }).DictOf (a1f prog w) s.heap.objs.size []:=Heap.DictOf.new s.heap;have hl1:(s.heap.push { cls:=.type "dict",data:=.dict #[] }).get? l=some ⟨.type "tuple",none,.seq items n,sl⟩:=get?_push_of_some _ hl;refine⟨dn.typeIs,F.args_dict_init_2 _ _,?_⟩;unfold Builtin.«dict.__init__» Builtin.Dict.selfAndRest;refine wpAny_bind (wpAny_bind (wpAny_notOrdered_dict dn.typeIs (wpAny_pure ?_)));show wpAny _ _ (Builtin.Dict.updateFrom "dict.__init__" s.heap.objs.size (.ref l) [] .none) _ _ _;unfold Builtin.Dict.updateFrom;refine wpAny_bind (wpAny_typeOf (T:="tuple") ⟨_,hl1,rfl⟩ ?_);rw [if_pos (show(Value.type "tuple" != Value.type "dict")=true by decide)];refine wpAny_bind (c3h hl1 (by simp [hh]) fun h2 tk2 k2=>?_);rw [if_pos (show(Option.isNone (none:Option Value))=true from rfl)];refine wpAny_bind (wpAny_rule ?_);have hl2:h2.IsTuple l items:=⟨_,k2 _ _ hl1,rfl,n,rfl⟩;refine wpAny_bind (wpAny_pyIter_tuple hl2 ?_);have hlS:l < s.heap.objs.size:=lt_size hl;have hN2:s.heap.objs.size < h2.objs.size:=by
  obtain⟨o,_,_,ho,_⟩:=dn;exact lt_size (k2 _ _ ho)
 have old:∀ b o,s.heap.get? b=some o->(h2.push { cls:=.type "tuple_iterator",data:=.fields #[.ref l,.int 0 0] }).get? b=some o:=fun b o e=>get?_push_of_some _ (k2 _ _ (get?_push_of_some _ e));have hneI:l ≠ h2.objs.size:=ne_of_lt (lt_trans hlS hN2);have hDf:s.heap.objs.size ∉ [h2.objs.size,l]:=by
  simp only [mem_cons,not_mem_nil,or_false,not_or];exact⟨ne_of_lt hN2,ne_of_gt hlS⟩
 refine wpAny_pure ⟨plainId_quiet a6v _,?_⟩;refine b9r (ps:=ps) (items:=items) ((Walks.tuple (by simp [hh]) h2.objs.size l hneI items).toS) s.heap.objs.size hDf hsz items.size 0 _ [] 'o' (zero_le _) ⟨⟨_,get?_push_size _ rfl,rfl,rfl⟩,hl2.push _⟩ (fun i v hv=>?_) ?_ .nil fun s' vs' mv dd kv=>?_
 ·obtain⟨a,o,c,p,t,u,h1,h2',h3,h4,h5,h6⟩:=tp i v hv
  have ha:=lt_size h3;refine⟨a,o,c,p,t,u,h1,h2',ne_of_lt ha,?_,old _ _ h3,h4,h5,h6⟩;rw [mem_singleton];exact ne_of_lt (lt_trans ha hN2)
 ·obtain⟨o,es,ep,ho,rest⟩:=dn
  exact⟨o,es,ep,get?_push_of_some _ (k2 _ _ ho),rest⟩
 ·obtain⟨h',g',d',tk',os'⟩:=s'
  have eg:g'=s.gens:=mv.gens;have ed:d'=s.drawn:=mv.drawn;have eo:os'=s.os:=mv.os;subst eg;subst ed;subst eo;rw [← hps,take_length] at kv;refine⟨rfl,h h' tk' vs' dd kv fun b o e=>?_⟩;have hb:=lt_size e;refine mv.heap b o ?_ (old b o e);simp only [mem_cons,not_mem_nil,or_false,not_or];exact⟨ne_of_lt hb,ne_of_lt (lt_trans hb hN2)⟩
end
noncomputable def e0s(K:W.Frag):List V->Hp->VK->Prop:=fun xs H Q=>∃ a ys,∃ ps:List (Str × V),xs=[.ref a]/\SqT K H a ys/\ys.length=ps.length/\(∀ (i:Nat) y,ys[i]? = some y->∃ b p,ps[i]? = some p/\y=.ref b/\SqT K H b [.str p.1,p.2])/\ps.length <= 1000/\∀ p,H p=none->Q (.ref p) (upd H p (.dK (foldQ ps)))
def c3j{X:Cx}(hc:X.calm=true):a1r X (.type "dict") (e0s X.K):=by
 intro pins s σ H xs us Q I rs h;obtain⟨a,ys,ps,rfl,hq,ly,hps,hz,q⟩:=h;obtain⟨u,rfl,r⟩:=vals1 rs;cases r;obtain⟨its,rv,⟨o,e,⟨hcl,hdi⟩,n,hda⟩,_⟩:=I.tupleP hq;obtain⟨oc,od,oa,os⟩:=o;simp only at hcl hdi hda;subst hcl hdi hda;have li:its.length=ps.length:=by rw [← rv.length,ly]
 refine b9s (ps:=ps) (I.ok.hd hc) e (by rw [size_toArray];omega) (by rw [size_toArray];omega) (fun i v hv=>?_) fun h' tk vs dd kv keep=>?_
 ·rw [List.getElem?_toArray] at hv
  have hi:i < ys.length:=by
   have:=(List.getElem?_eq_some_iff.mp hv).1;omega
  have hy:ys[i]? = some ys[i]:=getElem?_eq_getElem hi;obtain⟨b,p,e1,e2,sq⟩:=hps i _ hy;obtain⟨v',hv',rv'⟩:=Vals.get rv hy;rw [hv] at hv';cases hv';rw [e2] at rv';cases rv';obtain⟨jts,rj,⟨o,eo,hcl,c,hdo⟩,_⟩:=I.tuple sq;obtain⟨w1,w2,rfl,⟨t1,e3⟩,r2⟩:=Vals.two rj;subst e3;exact⟨b,o,c,p,t1,w2,e1,rfl,eo,hcl,hdo,r2⟩
 ·have hle:(foldQ ps).length <= sizeLine:=by
   rw [sizeLine_eq];have:=b8c ps;omega
  exact⟨.ref _,_,I.laid (a:=s.heap.objs.size) (o:=.dK (foldQ ps)) (t':=tk) keep 'b' ⟨hle,beq_eq_false_iff_ne.mpr (Ne.symm (ne_of_lt I.big)),vs,kv,dd⟩,rfl,q _ (I.hok.fresh 'b')⟩
noncomputable def kQ(p:Str × PyData):Key × PyData:=(Sum.inr p.1,p.2)
noncomputable def pairQ(p:Str × PyData):PyData:=.tuple [.str p.1,p.2]
section
variable{K:W.Frag}{H:Hp}{S:Addr->Prop}
def pairs_at:∀ {ps:List (Str × PyData)} {ys:List V},a0a K H S (ps.map pairQ) ys->∃ qs:List (Str × V),ys.length=qs.length/\qs.length=ps.length/\(∀ (i:Nat) y,ys[i]? = some y->∃ b p,qs[i]? = some p/\y=.ref b/\SqT K H b [.str p.1,p.2])/\a0m K H S ((ps.map kQ).map kD) (qs.map kS)
 | [],ys,h=>by
  cases h.unnil
  exact⟨[],rfl,rfl,fun i y e=>by simp at e,.nil⟩
 | p :: r,ys,h=>by
  obtain⟨y,t,rfl,h1,h2⟩:=h.uncons;obtain⟨qs,e1,e2,e3,e4⟩:=pairs_at h2;obtain⟨b,zs,rfl,sq,az⟩:=a2g h1;obtain⟨z1,zr,rfl,a1,a2⟩:=az.uncons;obtain⟨z2,zr2,rfl,a3,a4⟩:=a2.uncons;cases a4.unnil;cases b3g a1;refine⟨(p.1,z2) :: qs,by rw [length_cons,length_cons,e1],by rw [length_cons,length_cons,e2],fun i y e=>?_,.cons (k:=Sum.inr p.1) a3 e4⟩;cases i with
  | zero=>cases e;exact⟨b,(p.1,z2),rfl,rfl,sq⟩
  | succ i=>exact e3 i y e
end
end
end L2
section
namespace Sx
open PySem PySem.W PyProof.Rows
end Sx
namespace L2
open PySem PySem.Spec PyProof.Rows
end L2
end
namespace L2
open PySem PySem.Spec PyProof.Rows
section
mutual
noncomputable def ndD:PyData->Bool
 | .dict _=>false
 | .list ds=>ndA ds
 | .tuple ds=>ndA ds
 | _=>true
noncomputable def ndA:List PyData->Bool
 | []=>true
 | d :: r=>ndD d && ndA r
end
section
variable{K:W.Frag}{H H':Hp}{S S':Addr->Prop}{ok:Bool}
mutual
def AtD.carry(hl:∀ a xs,S a->H a=some (.lst xs)->S' a/\H' a=some (.lst xs))(hd:ok=true->∀ a κ,S a->H a=some (.dK κ)->S' a/\H' a=some (.dK κ))(ht:∀ a xs,SqT K H a xs->SqT K H' a xs) :
  ∀ (d:PyData) (v:V),ok=true ∨ ndD d=true->AtD K H S d v->AtD K H' S' d v
 | .none,_,_,h=>by unfold AtD at h ⊢;exact h
 | .bool _,_,_,h=>by unfold AtD at h ⊢;exact h
 | .int _,_,_,h=>by unfold AtD at h ⊢;exact h
 | .str _,_,_,h=>by unfold AtD at h ⊢;exact h
 | .list ds,v,n,h=>by
  unfold AtD at h ⊢;obtain⟨a,xs,e1,s,q,r⟩:=h;obtain⟨s',q'⟩:=hl a xs s q;exact⟨a,xs,e1,s',q',a0a.carry hl hd ht ds xs (n.imp id fun z=>by unfold ndD at z;exact z) r⟩
 | .tuple ds,v,n,h=>by
  unfold AtD at h ⊢;obtain⟨a,xs,e1,q,r⟩:=h;exact⟨a,xs,e1,ht a xs q,a0a.carry hl hd ht ds xs (n.imp id fun z=>by unfold ndD at z;exact z) r⟩
 | .dict kvs,v,n,h=>by
  unfold AtD at h ⊢;obtain⟨a,ν,e1,s,q,e2⟩:=h;have o:ok=true:=n.elim id fun z=>by unfold ndD at z;cases z
  obtain⟨s',q'⟩:=hd o a ν s q;exact⟨a,ν,e1,s',q',a0m.carry o hl hd ht kvs ν e2⟩
def a0a.carry(hl:∀ a xs,S a->H a=some (.lst xs)->S' a/\H' a=some (.lst xs))(hd:ok=true->∀ a κ,S a->H a=some (.dK κ)->S' a/\H' a=some (.dK κ))(ht:∀ a xs,SqT K H a xs->SqT K H' a xs) :
  ∀ (ds:List PyData) (vs:List V),ok=true ∨ ndA ds=true->a0a K H S ds vs->a0a K H' S' ds vs
 | [],_,_,h=>by unfold a0a at h ⊢;exact h
 | d :: ds,vs,n,h=>by
  unfold a0a at h ⊢;obtain⟨v,r,e1,h1,h2⟩:=h;have n1:ok=true ∨ ndD d=true:=n.imp id fun z=>by unfold ndA at z;rw [and_eq_true] at z;exact z.1
  have n2:ok=true ∨ ndA ds=true:=n.imp id fun z=>by unfold ndA at z;rw [and_eq_true] at z;exact z.2
  exact⟨v,r,e1,AtD.carry hl hd ht d v n1 h1,a0a.carry hl hd ht ds r n2 h2⟩
def a0m.carry(o:ok=true)(hl:∀ a xs,S a->H a=some (.lst xs)->S' a/\H' a=some (.lst xs))(hd:ok=true->∀ a κ,S a->H a=some (.dK κ)->S' a/\H' a=some (.dK κ))(ht:∀ a xs,SqT K H a xs->SqT K H' a xs) :
  ∀ (kvs:List (PyData × PyData)) (κ:List (Key × V)),a0m K H S kvs κ->a0m K H' S' kvs κ
 | [],_,h=>by unfold a0m at h ⊢;exact h
 | (x,d) :: r,κ,h=>by
  unfold a0m at h ⊢;obtain⟨k,v,t,e1,e2,h1,h2⟩:=h;exact⟨k,v,t,e1,e2,AtD.carry hl hd ht d v (.inl o) h1,a0m.carry o hl hd ht r t h2⟩
end
end
noncomputable def Rc.rebA(c:Rc)(O:Own)(H:Hp):Rc:={ c with H0:=H,M:=fun a=>∃ j,O j=some a,A:=fun a=>(∃ j,O j=some a) ∨ H a=none }
noncomputable def ndL:Option L->Bool
 | some (.d x)=>ndD x
 | some (.own xs)=>ndA xs
 | some (.bor xs)=>ndA xs
 | _=>true
structure EndsI(K:W.Frag)(c:Rc)(i:Nat)(s0:Option (Option V))(S0:Addr->Prop)(H0:Hp)(D:Ends)(Dd:DEnds):Prop where
 nx:∀ O ρ σ H,Rel K c O ρ σ H->Pers K S0 H0 (live c O) H->σ[i]? = s0->Dd.nx ρ->D.nx σ H
 rt:∀ r O ρ σ H v,b1e K c O ρ σ H r v->Dd.rt r ρ->D.rt v H
 bk:∀ O ρ σ H,Rel K c O ρ σ H->Pers K S0 H0 (live c O) H->σ[i]? = s0->Dd.bk ρ->D.bk σ H
 ct:∀ O ρ σ H,Rel K c O ρ σ H->Pers K S0 H0 (live c O) H->σ[i]? = s0->Dd.ct ρ->D.ct σ H
 oa:∀ p,c.H0 p=none->c.A p
abbrev TPt:=(Rho->List (Key × PyData)->Prop)->Rho->List (Key × PyData)->Prop
def AdPt(K:W.Frag)(i:Nat)(t:TS)(dt:TPt):Prop:=∀ (u:TS) (du:TDP),AdP K i u du->AdP K i (tSeq t u) (fun D ρ ν=>dt (du D) ρ ν)
end
end L2
section
namespace Sx
open PySem
section
variable{prog:Program}{w:World}{A:Around}{E:Value->Shared->Prop}{s:Shared}
def b9t{Q:List Value->Shared->Prop}{r:Addr}{a b c:Int}{t u v:Tok}{n:Nat}(hh:A.handled=none)(hr:IsRange s.heap r a b c t u v)(hsm:Builtin.Range.small a b c=true)(hn:Builtin.Range.rangeSize a b c=n)(hlen:n <= 2 ^ 24)
  (hQ:∀ (h':Heap) (tk:Nat) (acc:Array Value),(∀ x o,s.heap.get? x=some o->h'.get? x=some o)->ItemsOf (fun i v=>∃ t,v=.int (a + i * c) t) acc n->Q acc.toList { s with heap:=h',toks:=tk }):wpAny (model prog w) A (collect (.ref r)) Q E s:=by
 unfold collect;refine wpAny_bind (wpAny_runValue (codeAny_builtin F.entry_proto_collect ?_));rw [Around.under_plainId F.plain_proto_collect _];show wpAny _ A.in1 (newList [] >>= fun z=>again (.builtin "list.__iadd__" ⟨[z,.ref r],[]⟩)) _ _ s;refine wpAny_bind (wpAny_newObj_type (wpAny_pure ⟨plainId_quiet F.plain_list_iadd _,codeAny_builtin F.entry_list_iadd ?_⟩));rw [Around.under_plainId F.plain_list_iadd _];show wpAny _ A.in1 (Builtin.List.listExtendWith (.ref s.heap.objs.size) (.ref r) (.ref s.heap.objs.size)) _ _ _;have key:=wpAny_extend_range (prog:=prog) (w:=w) (A:=A) (s:={ s with heap:=s.heap.push { cls:=.type "list",data:=.seq ([]:List Value).toArray } }) (R:=fun z s'=>z=.ok (.ret (.ref s.heap.objs.size))/\∃ h' tk acc k',s'={ s with heap:=h',toks:=tk }/\(∀ x o,s.heap.get? x=some o->h'.get? x=some o)/\h'.get? s.heap.objs.size=some { cls:=.type "list",dict:=none,data:=.seq acc k',slots:=#[] }/\ItemsOf (fun i v=>∃ t,v=.int (a + i * c) t) acc n)
  hh (get?_push_of_some _ hr) hsm hn hlen s.heap.objs.size (.ref s.heap.objs.size) 0 (get?_push_size _ rfl) fun h' tk acc k' kp hS hacc=>⟨rfl,h',tk,acc,k',rfl,fun x o e=>kp x o (ne_of_lt (lt_size e)) (get?_push_of_some _ e),hS,hacc⟩
 have fin':∀ (z:Result) (s':Shared),(z=.ok (.ret (.ref s.heap.objs.size))/\∃ h' tk acc k',s'={ s with heap:=h',toks:=tk }/\(∀ x o,s.heap.get? x=some o->h'.get? x=some o)/\h'.get? s.heap.objs.size=some { cls:=.type "list",dict:=none,data:=.seq acc k',slots:=#[] }/\ItemsOf (fun i v=>∃ t,v=.int (a + i * c) t) acc n) ->
   z=.ok (.ret (.ref s.heap.objs.size))/\wpAny (model prog w) A (load s.heap.objs.size >>= fun o=>match o.data with | Data.seq xs _=>pure xs.toList | _=>unsupported "internal:collect") Q E s':=fun z s' hq8=>by
  obtain⟨hz,h',tk,acc,k',he,kp,hS,hacc⟩:=hq8;subst he;exact⟨hz,wpAny_bind (wpAny_load hS (wpAny_pure (hQ h' tk acc kp hacc)))⟩
 refine wpAny_mono key (fun fin s' h=>?_) (fun e s' h=>absurd h.1 'c');cases fin with
 | done f =>
  obtain⟨e,h2⟩:=fin' _ _ h;cases e;exact h2
 | again k' =>
  refine⟨h.1,codeAny_mono h.2 fun z s'' hz=>?_⟩;obtain⟨e,h2⟩:=fin' _ _ hz;subst e;exact h2
def b5y{r:Addr}{a b c:Int}{t u v:Tok}{n:Nat}(hsm:Builtin.Range.small a b c=true)(hn:Builtin.Range.rangeSize a b c=n)(hlen:n <= 2 ^ 24) :
  Meets (Builtin.«tuple.__new__» ⟨[.type "tuple",.ref r],[]⟩) (fun A R s=>A.handled=none/\IsRange s.heap r a b c t u v/\∀ (h':Heap) (tk:Nat) (acc:Array Value),(∀ x o,s.heap.get? x=some o->h'.get? x=some o)->ItemsOf (fun i v=>∃ t,v=.int (a + i * c) t) acc n->R (.ok (.ret (.ref h'.objs.size))) { s with heap:=h'.push { cls:=.type "tuple",data:=.seq acc },toks:=tk }):=
 .of_wp fun prog w A R s h=>by
  obtain⟨hh,hr,h⟩:=h;have hsub:=sub_tuple_self;have hinit:=init_tuple_lookup;have hmh:=madeHere_tuple;have hT:s.TypeIs (.ref r) "range":=⟨_,hr,rfl⟩;have hh1:A.in1.handled=none:=hh
  wp_walk using wpAny_typeOf hT,b9t hh1 hr hsm hn hlen
  intro h' tk acc hk hacc;show wpAny _ _ (Builtin.Tuple.tupleExact acc.toList.toArray >>= fun v=>ret v) _ _ _;unfold Builtin.Tuple.tupleExact;refine wpAny_bind (wpAny_newObj_type (wpAny_pure ⟨_,rfl,?_⟩) (show acc.toList.toArray.size <= sizeLine by simp only [Array.toArray_toList];rw [hacc.1,sizeLine_eq];omega));rw [show acc.toList.toArray=acc by simp];exact h h' tk acc hk hacc
def b8d{Q:Value->Shared->Prop}{r:Addr}{a b c:Int}{t u v:Tok}{n:Nat}(hh:A.handled=none)(hr:IsRange s.heap r a b c t u v)(hsm:Builtin.Range.small a b c=true)(hn:Builtin.Range.rangeSize a b c=n)(hlen:n <= 2 ^ 24)
  (h:∀ (h':Heap) (tk:Nat) (acc:Array Value),(∀ x o,s.heap.get? x=some o->h'.get? x=some o)->ItemsOf (fun i v=>∃ t,v=.int (a + i * c) t) acc n->Q (.ref h'.objs.size) { s with heap:=h'.push { cls:=.type "tuple",data:=.seq acc },toks:=tk }):wpAny (model prog w) A (call (.type "tuple") [.ref r]) Q E s:=
 callType_new F.called_tuple 'd' (F.typeCall_tuple_1 _) (F.newCall_tuple_1 _) (fun obj=>F.args_object_init_2 obj _) F.entry_tuple_new (b5y (t:=t) (u:=u) (v:=v) hsm hn hlen) ⟨hh,hr,fun h' tk acc hk hacc=>⟨⟨_,get?_push_size _ rfl,rfl⟩,h h' tk acc hk hacc⟩⟩
end
end Sx
namespace L2
open PySem PySem.Spec PyProof.Rows
noncomputable def d2b:List V->Hp->VK->Prop:=fun xs H Q=>∃ j:Int,xs=[.int j]/\0 <= j/\j <= 1000000/\∀ p,H p=none->Q (.ref p) (upd H p (.tup (rngV j.toNat)))
section
variable{X:Cx}
def b9u{a:Expr}{ta:TA}{p p2 pos pos2:Pos}(hc:X.calm=true) (hg:Gl X "range") (hm:X.mg "range" = none) (hg2:Gl X "tuple") (hm2:X.mg "tuple" = none) (ha:PA X [a] ta) (hs:starEach [a] X.env=(false,eval a X.env) :: starEach [] X.env:=by rfl) (hs2:(backTo pos (starEach [] X.env)).any (·.1)=false:=by rfl)
  (hs3:starEach [.Call (.Name "range" p) [a] [] pos] X.env=[(false,eval (.Call (.Name "range" p) [a] [] pos) X.env)]:=by rfl) :
  PE X (.Call (.Name "tuple" p2) [.Call (.Name "range" p) [a] [] pos] [] pos2) (tCB d2b ta):=by
 intro pins s σ H Q I h;refine Call_ (a4k I hg2 hm2 a1k (PyProof.Rows.callWith_type1 ?_ hs3 (by rfl)));rw [hs3];show wpAny _ _ (spliced ((false,eval (.Call (.Name "range" p) [a] [] pos) X.env) :: [])) _ _ s;refine Calls.spliced_cons (Call_ (a4k I hg hm boot_range (PyProof.Rows.callWith_type1 (thn (ha pos pins s σ H _ I h) fun us s1 hq8=>?_) hs hs2)));obtain⟨vs,H1,I1,r1,q1⟩:=hq8;obtain⟨j,rfl,h0,h1,q⟩:=q1;obtain⟨u,rfl,t,rfl⟩:=vals1 r1;refine call_range_1 (Calls.spliced_nil ?_);have e2:Builtin.Range.rangeSize 0 j 1=((j.toNat:Nat):Int):=by rw [rangeSize_one];split<;>omega
 refine Sx.b8d (n:=j.toNat) (I1.ok.hd hc) (IsRange.new ..) (small_one 'o' 'o' 'o' 'o') e2 (by show j.toNat <= 16777216;omega) fun h' tk acc kp hacc=>?_;have hle:(rngV j.toNat).length <= sizeLine:=by unfold rngV;rw [length_map,length_range,sizeLine_eq];omega
 have I2:Inv X pins σ H1 { s1 with heap:=h',toks:=tk }:=I1.kept (t':=tk) fun b o x=>kp _ _ (get?_push_of_some _ x);have I3:=I2.laid (o:=.tup (rngV j.toNat)) (a:=h'.objs.size) (h':=h'.push { cls:=.type "tuple",data:=.seq acc }) (t':=tk) (fun b o e=>get?_push_of_some _ e) 'b' (show a1h X.prog X.w _ _ _ (.tup (rngV j.toNat)) from⟨hle,acc.toList,c6p hacc,by simpa using a3k.new _ _⟩);exact⟨.ref _,_,I3,rfl,q _ (I2.hok.fresh 'b')⟩
end
noncomputable def b6o:FC:=fun ds=>match ds with
 | [.int j]=>if 0 <= j/\j <= 1000000 then some (.tuple (rngD 0 j.toNat)) else none
 | _=>none
def d5o{j:Int}(h0:0 <= j)(h1:j <= 1000000):b6o [.int j]=some (.tuple (rngD 0 j.toNat)):=if_pos ⟨h0,h1⟩
def d5p{K:W.Frag}:AdC K d2b b6o:=by
 intro S H vs ds z Q f h e k;unfold b6o at e;split at e
 ·rename_i j
  split at e
  ·rename_i hx
   cases e
   obtain⟨v,rfl,h1⟩:=h.one;have ev:=h1.int;subst ev;exact⟨j,rfl,hx.1,hx.2,fun p hp=>k _ _ (a0f hp _) (a1q (SqT.of a0d) (c6q _))⟩
  ·cases e
 ·cases e
def d5q{X:Cx}{a:Expr}{daa:TDA}{p p2 pos pos2:Pos}(hc:X.calm=true) (hg:Gl X "range") (hm:X.mg "range" = none) (hg2:Gl X "tuple") (hm2:X.mg "tuple" = none) (ha:DA X [a] daa) (hs:starEach [a] X.env=(false,eval a X.env) :: starEach [] X.env:=by rfl) (hs2:(backTo pos (starEach [] X.env)).any (·.1)=false:=by rfl)
  (hs3:starEach [.Call (.Name "range" p) [a] [] pos] X.env=[(false,eval (.Call (.Name "range" p) [a] [] pos) X.env)]:=by rfl) :
  DE X (.Call (.Name "tuple" p2) [.Call (.Name "range" p) [a] [] pos] [] pos2) (dCB b6o daa):=by
 obtain⟨ta,pa,aa⟩:=ha;exact⟨_,b9u hc hg hm hg2 hm2 pa hs hs2 hs3,b6h d5p aa⟩
end L2
end
namespace L2
open PySem PySem.Spec PyProof.Rows
section
def b8e{K:W.Frag}{a:Addr}{xs:List V}{g:TG}{tb:TS}{D:Ends}{σ:St}{H:Hp}(Pv:Nat->St->Hp->Prop)(h0:Pv 0 σ H)(hl:∀ i σ H,i <= xs.length->Pv i σ H->SqL K H a xs)
  (hs:∀ i x σ H T,xs[i]? = some x->Pv i σ H->H T=none->g (.ref T) σ (upd H T (.tup [.int i,x])) fun σ2 H2=>tb { D with nx:=Pv (i + 1),ct:=Pv (i + 1),bk:=D.nx } σ2 H2) (hd:∀ σ H,Pv xs.length σ H->D.nx σ H) :
  ∃ W:Nat->Nat->St->Hp->Prop,(∃ m,W 0 m σ H)/\∀ i m σ H,W i m σ H ->
   ((Ite K a).stop i H/\D.nx σ H) ∨ ((Ite K a).go i H/\∃ N:St->Hp->Prop,(∀ σ' H',N σ' H'->∃ m',m' < m/\W (i + 1) m' σ' H')/\∀ x H',(Ite K a).yld i H x H'->g x σ H' fun σ2 H2=>tb { D with nx:=N,ct:=N,bk:=D.nx } σ2 H2):=by
 refine⟨fun i m σ H=>m=xs.length - i/\i <= xs.length/\Pv i σ H,⟨xs.length,by simp,zero_le _,h0⟩,?_⟩;rintro i m σ H ⟨rfl,hi,p⟩;have q:=hl i σ H hi p;by_cases hlt:i < xs.length
 ·refine .inr ⟨⟨xs,xs[i],q,by simp [hlt]⟩,Pv (i + 1),fun σ' H' p'=>⟨xs.length - (i + 1),'o',rfl,hlt,p'⟩,fun x H' y=>?_⟩
  obtain⟨T,x',rfl,hT,rfl,y⟩:=y;exact hs i x' σ H T (y xs q) p hT
 ·have e:i=xs.length:=by omega
  subst e;exact .inl ⟨⟨xs,q,le_refl _⟩,hd σ H p⟩
noncomputable def e0t(L:List (Int × List Nat))(m:Int)(i:Nat):List (Int × List Nat):=if (L.any fun t=>decide (t.1=m))=true then L.map (fun t=>if t.1=m then(t.1,t.2 ++ [i]) else t) else L ++ [(m,[i])]
noncomputable def grpN(ms:List Int):Nat->List (Int × List Nat)
 | 0=>[]
 | n + 1=>match ms[n]? with
  | some m=>e0t (grpN ms n) m n
  | none=>grpN ms n
noncomputable def nV(ps:List Nat):List V:=ps.map fun(c:Nat)=>V.int (c:Int)
abbrev TG3:=List (Int × Addr × List Nat)
noncomputable def kT3(T:TG3):List (Key × V):=T.map fun t=>(Sum.inl t.1,V.ref t.2.1)
structure PB(H:Hp)(p:Addr)(ms:List Int)(i:Nat)(T:TG3)(H':Hp):Prop where
 eq:(T.map fun t=>(t.1,t.2.2))=grpN ms i
 dk:H' p=some (.dK (kT3 T))
 at_:∀ t ∈ T,H' t.2.1=some (.lst (nV t.2.2))/\H t.2.1=none/\t.2.1 ≠ p
 nq:(T.map (·.2.1)).Nodup
 nm:(T.map (·.1)).Nodup
 len:T.length <= i
 pl:∀ t ∈ T,t.2.2 ≠ []/\t.2.2.length <= i
 same:Same H H'
noncomputable def bump(m:Int)(i:Nat)(u:Int × Addr × List Nat):Int × Addr × List Nat:=if u.1=m then(u.1,u.2.1,u.2.2 ++ [i]) else u
def a4y{α β:Type}{f:α->β}:∀ {l:List α} {a b:α},(l.map f).Nodup->a ∈ l->b ∈ l->f a=f b->a=b
 | x :: l,a,b,h,ha,hb,e=>by
  rw [map_cons,nodup_cons] at h;rcases mem_cons.mp ha with ea | ha'<;>rcases mem_cons.mp hb with eb | hb'
  ·rw [ea,eb]
  ·rw [ea] at e;exact absurd (e ▸ mem_map.mpr ⟨b,hb',rfl⟩) h.1
  ·rw [eb] at e;exact absurd (e ▸ mem_map.mpr ⟨a,ha',rfl⟩) h.1
  ·exact a4y h.2 ha' hb' e
end
section
noncomputable def rTup(K:W.Frag):List V->Hp->VK->Prop:=fun xs H Q=>∃ p ys,xs=[.ref p]/\((SqL K H p ys/\∀ l,H l=none->Q (.ref l) (upd H l (.tup ys))) ∨ (SqT K H p ys/\Q (.ref p) H))
def b4l(ps:List Nat)(i:Nat):nV ps ++ [V.int (i:Int)]=nV (ps ++ [i]):=by unfold nV;rw [map_append];rfl
end
end L2
section
namespace PySem
open Sem (wp)
open AutoSeq1 (wpAny_loadPart')
def d0b(l:Addr)(items:Array Value)(n:Nat)(dct:Option Addr)(sl:Array (Option Value)):Meets (Builtin.«enumerate.__new__» ⟨[.type "enumerate",.ref l],[]⟩) (fun _ R s=>s.heap.get? l=some { cls:=.type "tuple",dict:=dct,data:=.seq items n,slots:=sl }/\R (.ok (.ret (.ref (s.heap.push { cls:=.type "tuple_iterator",data:=.fields #[.ref l,.int 0 0] }).objs.size))) { s with heap:=(s.heap.push { cls:=.type "tuple_iterator",data:=.fields #[.ref l,.int 0 0] }).push { cls:=.type "enumerate",data:=.fields #[.none,.bool false,.ref s.heap.objs.size,rawInt 0,.none,.none] } }):=
 .of_wp fun prog w A R s h=>by
  obtain⟨hp,g,d,tk,os⟩:=s;obtain⟨hl,h⟩:=h;have hsub:=sub_enumerate;have hL:Heap.IsTuple (Shared.heap ⟨hp,g,d,tk,os⟩) l items:=⟨_,hl,rfl,n,rfl⟩
  wp_walk using wpAny_loadPart' hl
  refine wpAny_stack_any fun st=>wpAny_pure ?_;split
  ·rename_i c _ _ _ _ _
   cases (c == Value.type "enumerate")<;>(wp_walk using wpAny_loadPart' hl,wpAny_pyIter_tuple hL;exact⟨_,rfl,h⟩)
  ·wp_walk using wpAny_loadPart' hl,wpAny_pyIter_tuple hL
   exact⟨_,rfl,h⟩
def c3k{prog:Program}{w:World}{A:Around}{E:Value->Shared->Prop}{s:Shared}{l:Addr}{items:Array Value}{Q:Value->Shared->Prop}(hL:s.heap.IsTuple l items)(h:∀ h',IsEnum h' (s.heap.objs.size + 1) s.heap.objs.size 0 .none->h'.IsTupleIter s.heap.objs.size l 0->(∀ b o,s.heap.get? b=some o->h'.get? b=some o)->Q (.ref (s.heap.objs.size + 1)) { s with heap:=h' }):wpAny (model prog w) A (call (.type "enumerate") [.ref l]) Q E s:=by
 obtain⟨⟨c,dct,dt,sl⟩,hl,hc,n,hd⟩:=hL;have hc:c=.type "tuple":=hc;have hd:dt=.seq items n:=hd;subst hc;subst hd;refine callType_new F.called_enumerate 'd' (F.typeCall_enumerate_1 _) (F.newCall_enumerate_1 _) (fun obj=>F.args_object_init_2 obj _) F.entry_enumerate_new (d0b l items n dct sl) ⟨hl,?_⟩;have hz:(s.heap.push { cls:=.type "tuple_iterator",data:=.fields #[.ref l,.int 0 0] }).objs.size=s.heap.objs.size + 1:=size_push ..;show _/\_;rw [hz];have he:IsEnum ((s.heap.push { cls:=.type "tuple_iterator",data:=.fields #[.ref l,.int 0 0] }).push { cls:=.type "enumerate",data:=.fields #[.none,.bool false,.ref s.heap.objs.size,rawInt 0,.none,.none] }) (s.heap.objs.size + 1) s.heap.objs.size 0 .none:=by
  have:=get?_push_size (s.heap.push { cls:=.type "tuple_iterator",data:=.fields #[.ref l,.int 0 0] }) (o:={ cls:=.type "enumerate",data:=.fields #[.none,.bool false,.ref s.heap.objs.size,rawInt 0,.none,.none] }) rfl;rw [hz] at this;exact this
 exact⟨⟨_,he,rfl⟩,h _ he ⟨_,get?_push_of_some _ (get?_push_size _ rfl),rfl,rfl⟩ fun b o x=>get?_push_of_some _ (get?_push_of_some _ x)⟩
end PySem
namespace L2
open PySem PySem.Spec PyProof.Rows
def b5t{prog:Program}{w:World}{A:Around}(hh:A.handled=none)(it l:Addr)(hne:l ≠ it)(items:Array Value):Draws prog w A it [it,l] items.size (fun i v=>items[i]? = some v) (fun i h=>h.IsTupleIter it l i/\h.IsTuple l items) where
 live:=fun _ _ st=>by obtain⟨⟨o,ho,_⟩,_⟩:=st;exact⟨o,ho⟩
 frame:=fun _ _ _ st hk=>by
  obtain⟨⟨o,g,r⟩,⟨o2,g2,r2⟩⟩:=st;exact⟨⟨o,hk it 'c' o g,r⟩,⟨o2,hk l 'c' o2 g2,r2⟩⟩
 item:=fun i s Q E hi st hQ=>by
  refine c9r st.1 st.2 (x:=items[i]) (by simp [hi]) fun h' hit' hs'=>?_;obtain⟨o2,g2,r2⟩:=st.2;exact hQ _ h' s.toks (by simp [hi]) ⟨hit',⟨o2,hs'.extBut _ _ hne g2,r2⟩⟩ hs'
 done:=fun s Q E st hE=>d4v hh st.1 st.2 'c' hE
noncomputable def IteT(K:W.Frag)(a:Addr):It:=
 ⟨fun i H=>∃ xs x,SqT K H a xs/\xs[i]? = some x,fun i H v H'=>∃ T x,v=.ref T/\H T=none/\H'=upd H T (.tup [.int i,x])/\∀ xs,SqT K H a xs->xs[i]? = some x,fun i H=>∃ xs,SqT K H a xs/\xs.length=i⟩
def EStT(e it a:Addr)(i:Nat)(h:Heap):Prop:=(∃ old,IsEnum h e it i old)/\h.IsTupleIter it a i
def c3l{P:Program}{w:World}{K:W.Frag}{elts:List Expr}{kk:Nat}{tp:Pos}{e it a:Addr}(ne:e ≠ it):Turn P w K (.Tuple elts kk tp) (IteT K a) [e,it] e (EStT e it a) where
 mem:=by simp
 obj:=fun i h st c hc=>by
  obtain⟨⟨old,x1⟩,x2⟩:=st;have hc:c=e ∨ c=it:=by simpa using hc
  rcases hc with rfl | rfl
  ·exact⟨_,x1,fun v y=>by cases (show Data.fields _=Data.cell v from y)⟩
  ·obtain⟨o,g,_,d⟩:=x2
   exact⟨o,g,fun v y=>by rw [d] at y;cases y⟩
 keep:=fun i h h' st k=>by
  obtain⟨⟨old,x1⟩,⟨o,g,r⟩⟩:=st;exact⟨⟨old,k e 'c' _ x1⟩,⟨o,k it 'c' o g,r⟩⟩
 item:=by
  intro X hP hw hK hc i pins s σ H E I hf st hg;subst hP hw hK;obtain⟨xs,x,hq,hx⟩:=hg;obtain⟨⟨old,x1⟩,x2⟩:=id st;obtain⟨its,rv,⟨ot,gt,ct,nt,dt⟩,_⟩:=I.tuple hq;obtain⟨u,hu,ru⟩:=rv.get hx;have hai:a ≠ it:=fun z=>by
   obtain⟨o,g,c,_⟩:=x2;rw [← z,gt] at g;cases g;rw [ct] at c;exact absurd c 'd'
  have hae:e ≠ a:=fun z=>by
   have g:s.heap.get? e=_:=x1;rw [z,gt] at g;cases g;exact absurd (show Value.type "enumerate" = Value.type "tuple" from ct) 'd'
  have lt:∀ c ∈ [e,it],c < s.heap.objs.size:=fun c hc=>by
   have hc:c=e ∨ c=it:=by simpa using hc
   rcases hc with rfl | rfl
   ·exact lt_size x1
   ·obtain⟨o,g,_⟩:=x2;exact lt_size g
  have hsz:i < its.toArray.size:=by
   have:=(List.getElem?_eq_some_iff.mp hu).1;simpa using this
  refine wpAny_pyNext_enum_itemD (b5t (A:=X.A.in1) (I.ok.hd hc) it a hai its.toArray) x1 ⟨x2,⟨ot,gt,ct,nt,dt⟩⟩ hsz ne (by simp [ne,hae]) fun y h1 tk hy j1 j2 j3 j4 j5=>⟨_,rfl,wpAny_letOwnedTupleGo_enum j1 fun h2 e2 s2=>?_⟩;have ey:y=u:=by
   have hy':its[i]? = some y:=by simpa using hy
   rw [hu] at hy';exact(Option.some.inj hy').symm
  subst ey;have up:∀ c o,c ≠ e->h1.get? c=some o->h2.get? c=some o:=fun c o d g=>s2.extBut _ _ d g;have I1:Inv X pins σ (upd H s.heap.objs.size (.tup [.int i,x])) { s with heap:=s.heap.push { cls:=.type "tuple",data:=.seq [Value.int i tk,y].toArray } }:=
   I.laid (t':=s.toks) (fun b o e=>get?_push_of_some _ e) 'b' (show a1h X.prog X.w _ _ _ (.tup [.int i,x]) from⟨by show 2 <= sizeLine;decide,[Value.int i tk,y],.cons ⟨_,rfl⟩ (.cons ru .nil),a3k.new _ _⟩)
  have fpn:∀ c ∈ [e,it],(upd H s.heap.objs.size (.tup [.int i,x])) c=none:=fun c hc=>by rw [a0b (ne_of_lt (lt c hc))];exact(hf c hc).1
  have I2:Inv X pins σ (upd H s.heap.objs.size (.tup [.int i,x])) { s with heap:=h2,toks:=tk + 1 }:=by
   refine Inv.turnedL (s:={ s with heap:=s.heap.push { cls:=.type "tuple",data:=.seq [Value.int i tk,y].toArray } }) (t':=tk + 1) (ch:=[e,it]) I1 (fun c o hc g=>?_) fun c hc=>⟨fpn c hc,(hf c hc).2⟩;have g:(s.heap.push { cls:=.type "tuple",data:=.seq [Value.int i tk,y].toArray }).get? c=some o:=g;have hc:c ≠ e/\c ≠ it:=by simpa using hc
   refine up c o hc.1 ?_;rcases Heap.get?_push_cases g with⟨rfl,rfl⟩ | g'
   ·exact j3
   ·exact j5 c o hc.1 hc.2 g'
  refine⟨.ref s.heap.objs.size,_,I2,rfl,⟨_,x,rfl,I.hok.fresh 'b',rfl,fun zs hz=>by rw [I.tuple_inj hz hq];exact hx⟩,⟨⟨_,by simpa using e2⟩,?_⟩,fpn⟩;obtain⟨o,g,r⟩:=j2.1;exact⟨o,up _ _ (Ne.symm ne) g,r⟩
 done:=by
  intro X hP hw hK hc i pins s σ H E I hf st hg;subst hP hw hK;obtain⟨xs,hq,hx⟩:=hg;obtain⟨⟨old,x1⟩,x2⟩:=id st;obtain⟨its,rv,⟨ot,gt,ct,nt,dt⟩,_⟩:=I.tuple hq;have hai:a ≠ it:=fun z=>by
   obtain⟨o,g,c,_⟩:=x2;rw [← z,gt] at g;cases g;rw [ct] at c;exact absurd c 'd'
  have hl:=rv.length;have en:i=its.toArray.size:=by rw [size_toArray,← hl,hx]
  subst en;refine wpAny_pyNext_enum_endD (b5t (A:=X.A.in1) (I.ok.hd hc) it a hai its.toArray) x1 ⟨x2,⟨ot,gt,ct,nt,dt⟩⟩ fun h1 j=>⟨rfl,?_⟩;exact I.turnedL (t':=s.toks) (ch:=[e,it]) (fun c o hc g=>j c o (fun z=>hc (by simp [z])) g) hf
 self:=fun _ _ _ _ _ st h=>by obtain⟨⟨old,x1⟩,_⟩:=st;exact wpAny_pyIter_enum x1 h
section
variable{X:Cx}
def b8f(K:W.Frag)(ta:TE):TI:=fun σ H R=>ta σ H fun x H1=>∃ a xs,x=.ref a/\SqT K H1 a xs/\R (IteT K a) H1
def d0c{l:Expr}{tl:TE}{p pos tp:Pos}{elts:List Expr}{kk:Nat} (hg:Gl X "enumerate") (hm:X.mg "enumerate" = none) (hl:PE X l tl) (hs:starEach [l] X.env=[(false,eval l X.env)]:=by rfl) :
  PI X (.Tuple elts kk tp) (.Call (.Name "enumerate" p) [l] [] pos) (b8f X.K tl):=by
 intro pins s σ H R I h;refine Call_ (a4k I hg hm b0e (PyProof.Rows.callWith_type1 (thn ((a0e (t:=tNil) hl a0j hs) pos pins s σ H (fun vs H1=>∃ a xs,vs=[.ref a]/\SqT X.K H1 a xs/\R (IteT X.K a) H1) I ?_) fun us s1 ⟨vs,H1,I1,r1,q1⟩=>?_) hs rfl))
 ·show tl σ H fun x H1=>∃ a xs,[x]=[V.ref a]/\SqT X.K H1 a xs/\R (IteT X.K a) H1
  simpa [b8f] using h
 ·obtain⟨a,xs,rfl,hq,q⟩:=q1
  obtain⟨u,rfl,ru⟩:=r1.one;cases ru;obtain⟨its,rv,⟨ot,gt,ct,nt,dt⟩,hz⟩:=I1.tuple hq;refine c3k ⟨ot,gt,ct,nt,dt⟩ fun h' j1 j2 j4=>wpAny_pyIter_enum j1 ⟨s1.heap.objs.size + 1,[s1.heap.objs.size + 1,s1.heap.objs.size],_,_,H1,rfl,I1.kept (t':=s1.toks) j4,c3l (Nat.succ_ne_self _),⟨⟨_,j1⟩,j2⟩,fun c hc=>?_,q⟩;have hc:c=s1.heap.objs.size + 1 ∨ c=s1.heap.objs.size:=by simpa using hc
  have ge:s1.heap.objs.size <= c:=by rcases hc with rfl | rfl;exact le_succ _;exact le_refl _
  exact I1.fpOk ge (I1.hok.fresh ge)
end
section
variable{K:W.Frag}{S:Addr->Prop}{H:Hp}
def b8g{a:Addr}{vs:List V}{xs:List PyData}(h1:SqT K H a vs)(h2:a0a K H S xs vs):b0d K S H (IteT K a) (a9c xs):=fun S' H' P=>by
 obtain⟨b,ws,e,h3,h4⟩:=a2g (P _ _ (a1q h1 h2));cases e;refine⟨fun i x e=>?_,⟨ws,h3,by rw [b0f,h4.length]⟩⟩;rw [b5n] at e;obtain⟨y,ey,rfl⟩:=map_eq_some_iff.mp e;obtain⟨w,e1,e2⟩:=h4.get ey;refine⟨⟨ws,w,h3,e1⟩,fun v H'' q=>?_⟩;obtain⟨T,x',rfl,hT,rfl,k⟩:=q;have q1:=k _ h3;rw [e1] at q1;cases q1;exact⟨a0f hT _,a8x hT (.cons (a1o _) (.cons e2 .nil))⟩
def b4m(de:TDE):TDI:=fun ρ Q=>de ρ fun x ρ1=>fz ρ1 x fun y ρ2=>need (match y with | .tuple xs=>some xs | _=>none) fun xs=>Q (a9c xs) ρ2
def d0d{t:TE}{de:TDE}(h:AdE K t de):AdI K (b8f K t) (b4m de):=fun c O ρ σ H Qd Q R q k =>
 h c O ρ σ H _ _ R q fun x ρ1 O1 v H1 h1 R1 P1 a1=>by
  obtain⟨y,ρ2,O2,hz1,R2,P2,a2⟩:=R1.fz a1 h1;obtain⟨xs,e,h2⟩:=ne (hz1);cases y with
  | tuple ys =>
   cases e
   obtain⟨a,vs,rfl,h3,h4⟩:=a2g a2;exact⟨a,vs,rfl,h3,k _ _ _ _ _ h2 R2 (P1.trans P2) (b8g h3 h4)⟩
  | _=>cases e
end
def d0e{X:Cx}{l:Expr}{de:TDE}{p pos tp:Pos}{elts:List Expr}{kk:Nat} (hg:Gl X "enumerate") (hm:X.mg "enumerate" = none) (hl:DE X l de) (hs:starEach [l] X.env=[(false,eval l X.env)]:=by rfl) :
  DI X (.Tuple elts kk tp) (.Call (.Name "enumerate" p) [l] [] pos) (b4m de):=by obtain⟨_,p,a⟩:=hl;exact⟨_,d0c hg hm p hs,d0d a⟩
theorem c6u{de:TDE}{ρ:Rho}{Q:List PyData->Rho->Prop}:b4m de ρ Q=de ρ fun x ρ1=>fz ρ1 x fun y ρ2=>need (match y with | .tuple xs=>some xs | _=>none) fun xs=>Q (a9c xs) ρ2:=rfl
end L2
end
namespace L2
open PySem PySem.Spec PyProof.Rows
section
noncomputable def e0u(K:W.Frag):List V->Hp->VK->Prop:=fun xs H Q=>d1x K xs H Q ∨ (xs=[.non]/\Q (.str "None") H)
def c3m{X:Cx}(hg:X.A.guards=some [])(hu:X.A.units + 80 < cLine):a1r X (.builtin "repr") (e0u X.K):=by
 intro pins s σ H xs us Q I rs h;rcases h with h | ⟨rfl,q⟩
 ·exact c6o hg hu pins s σ H xs us Q I rs h
 ·obtain⟨u,rfl,r⟩:=vals1 rs
  cases (show u=.none from r)
  exact call_repr_gives (typeIs_none s) F.slot_NoneType_repr F.entry_NoneType_repr (F.args_NoneType_repr_1 _) gives_none_repr ⟨.str _,H,I.tok _,⟨_,rfl⟩,q⟩
end
section
open AutoSeq1 (wpAny_loadPart')
section
variable{X:Cx}
def c3n(l b:Addr)(items items2:Array Value)(n n2:Nat)(dd:Option Addr)(sl:Array (Option Value))(hs0:¬ (!items.isEmpty && Builtin.List.listTooLong (items.size + items2.size))=true)(hs1:items.size <= sizeLine)(hs2:items.size + items2.size <= sizeLine + 1) :
  Meets (Builtin.«list.extend» ⟨[.ref l,.ref b],[]⟩) (fun _ R s=>s.heap.get? l=some ⟨.type "list",none,.seq items n,#[]⟩/\s.heap.get? b=some ⟨.type "list",dd,.seq items2 n2,sl⟩/\R (.ok (.ret Value.none)) { s with heap:=s.heap.update l (Obj.mapSeq fun x=>x ++ items2),toks:=s.toks }):=
 .of_wp fun prog w A R s h=>by
  obtain⟨hp,g,d,tk,os⟩:=s;obtain⟨hl,hb,h⟩:=h;have room:(items ++ items2).size <= sizeLine + 1:=le_trans (le_of_eq Array.size_append) hs2
  wp_walk using (wpAny_updateSeq hl rfl (hz:=hs1) (_hz':=room)),wpAny_loadPart' hl,wpAny_loadPart' hb
  exact⟨_,rfl,h⟩
noncomputable def d2c(K:W.Frag):V->List V->Hp->VK->Prop:=fun x vs H Q=>∃ l b xs zs,x=.ref l/\vs=[.ref b]/\H l=some (.lst xs)/\SqL K H b zs/\xs.length + zs.length <= 1000000/\Q .non (upd H l (.lst (xs ++ zs)))
def d5r:MtM X "list.extend" (d2c X.K):=by
 intro pins s σ H x vs v us Q I rx rv h;obtain⟨l,b,xs,zs,rfl,rfl,hH,hB,hz,q⟩:=h;cases rx;obtain⟨u,rfl,ru⟩:=rv.one;cases ru;obtain⟨z,its,n,r,hl,e⟩:=I.lstM hH;obtain⟨its2,r2,pl,z2⟩:=I.list hB;obtain⟨⟨oc,od,oa,os⟩,ho,hc,n2,hd⟩:=pl.isList;simp only at hc hd;subst hc hd;have hl2:=r2.length;have hsl:=sizeLine_eq;have hsz:its.toArray.size + its2.toArray.size <= sizeLine:=by rw [size_toArray,size_toArray];omega
 have hlong:¬ (!its.toArray.isEmpty && Builtin.List.listTooLong (its.toArray.size + its2.toArray.size))=true:=by
  rw [b6z hsz,Bool.and_false];exact Bool.false_ne_true
 refine call_meets F.slot_list_extend ⟨_,e,rfl⟩ F.entry_list_extend (F.args_list_extend_2 _ _) (c3n l b its.toArray its2.toArray n n2 od os hlong (by rw [size_toArray];omega) 'o') ⟨e,ho,?_⟩;refine⟨.non,_,I.lset (its':=its ++ its2) hH e 'c' (r.append r2) ?_,rfl,q⟩;rw [length_append];omega
end
section
variable{K:W.Frag}
def c3o(i:Nat)(de:TDE):TDE:=fun ρ Q=>need (ownB ρ i) fun _=>de ρ fun x ρ1=>need (a1p ρ1 x) fun dx=>∃ ys,dx=.list ys/\need (ownB ρ1 i) fun o=>o.2.length + ys.length <= 1000000/\Q (.d .none) (ρ1.set i (some (okL o.1 (o.2 ++ ys))))
def d5s{i:Nat}{t:TE}{de:TDE}(h:AdE K t de):AdE K (tBM K "list" (d2c K) (tVar i) (a3g t tNil)) (c3o i de):=by
 intro c O ρ σ H Qd Q R q k;obtain⟨hz1,e,q⟩:=ne (q);obtain⟨o,xs⟩:=hz1;obtain⟨e0,p,vs,hO,hσ,hH,hA⟩:=a7j R e;refine⟨.ref p,hσ,.inl ⟨rfl,vs,SqL.of hH⟩,?_⟩;refine h c O ρ σ H _ _ R q fun x ρ1 O1 v H1 h1 R1 P1 a1=>?_;obtain⟨dx,e1,hn3⟩:=ne (h1);obtain⟨ys,rfl,hn4⟩:=hn3;obtain⟨hz2,e2,hn5⟩:=ne hn4;obtain⟨hz,h2⟩:=hn5;obtain⟨o2,xs2⟩:=hz2;obtain⟨b,zs,rfl,s1,s2⟩:=(R1.top a1 e1).list;obtain⟨e3,p2,vs2,hO2,hσ2,hH2,hA2⟩:=a7j R1 e2;rw [hσ] at hσ2;cases hσ2;refine⟨p,b,vs2,zs,rfl,rfl,hH2,SqL.of s1,by rw [hA2.length,s2.length];exact hz,?_⟩;obtain⟨R3,P3⟩:=R1.writeB hO2 hH2 e3 (hA2.append s2);exact k _ _ _ _ _ h2 R3 (P1.trans P3) b7k
end
section
variable{X:Cx}{e:Expr}{de:TDE}{pos:Pos}
def d5t(i:Nat){x:Str}{p apos:Pos}(hN:X.N[i]? = some x)(he:DE X e de)(hv:Vis X.env.scope x:=by first | exact Or.inl rfl | exact Or.inr 'e' | exact Or.inr (Or.inr rfl)) (hd:(x == ("__debug__" : Str))=false:=by decide)
  (hcd:(x == ("__classdict__" : Str))=false:=by decide) (hs:starEach [e] X.env=[(false,eval e X.env)]:=by rfl)
  (hbase:attributeBase (.Name x p) "extend" X.env (eval (.Name x p) X.env)=eval (.Name x p) X.env:=by rfl)
  (hfew:((backTo pos (starEach [e] X.env)).all (fun x=>!x.1) && (backToKw pos (keywordEach [] X.env)).all (fun x=>x.1.isSome)
   && decide (([e]:List Expr).length + ([]:List Keyword).length + (if ([]:List Keyword).isEmpty then 0 else 1) < 30))=true:=by rfl)
  (hline:(apos.endLine == pos.line)=true:=by rfl):DE X (.Call (.Attribute (.Name x p) "extend" apos) [e] [] pos) (c3o i de):=by
 obtain⟨te,pe,ae⟩:=he;exact⟨_,a8t PySem.F.plainAttrs_list PySem.F.slot_list_extend PySem.F.type_list_extend d5r (a8g hN hv hd hcd) (a0e pe a0j hs) hbase hfew hline hs rfl,d5s ae⟩
theorem d5u{i:Nat}{ρ:Rho}{Q:DV->Rho->Prop}{d1:TDE}:c3o i d1 ρ Q=need (a6u (ρ[i]?.join)) fun _=>d1 ρ fun x ρ1=>need (a1p ρ1 x) fun dx=>∃ ys,dx=.list ys/\need (a6u (ρ1[i]?.join)) fun o=>o.2.length + ys.length <= 1000000/\Q (.d .none) (ρ1.set i (some (okL o.1 (o.2 ++ ys)))):=rfl
end
end
section
section
variable{X:Cx}
open Classical in
end
end
end L2
section
namespace Kd
open PySem PyProof.Rows
noncomputable def TK(h:Heap):Nat->PyData->Value->Prop
 | _,.int i,v=>∃ t,v=.int i t
 | _,.str x,v=>∃ t,v=.str x t
 | n + 1,.tuple ds,v=>∃ a o items m,v=.ref a/\h.get? a=some o/\o.cls=.type "tuple" /\ o.data=.seq items m/\Paired (TK h n) ds items.toList
 | _,_,_=>False
noncomputable def kh(w:World):Nat->PyData->Int
 | _,.int i=>hashInt i
 | _,.str x=>hashStr w x
 | n + 1,.tuple ds=>reduceHash (Builtin.Tuple.tupleHashOf (ds.map (kh w n)))
 | _,_=>0
noncomputable def kr:Nat->PyData->Nat
 | _,.int _=>1
 | _,.str _=>1
 | n + 1,.tuple ds=>(ds.map (kr n)).sum + 1
 | _,_=>0
def pinj{α β:Type}{F:α->β->Prop}(h:∀ x y v,F x v->F y v->x=y):∀ {xs ys:List α} {vs:List β},Paired F xs vs->Paired F ys vs->xs=ys
 | _,_,_,.nil,.nil=>rfl
 | _,_,_,.cons a b,.cons c d=>by rw [h _ _ _ a c,pinj h b d]
def TK.inj{h:Heap}:∀ (n:Nat) (x y:PyData) (v:Value),TK h n x v->TK h n y v->x=y:=fun n=>by
 induction n with
 | zero =>
  intro x y v hx hy;cases x<;>cases y<;>simp only [TK] at hx hy<;>(obtain⟨t,rfl⟩:=hx;obtain⟨u,e⟩:=hy;cases e<;>rfl)
 | succ n ih =>
  intro x y v hx hy;have hne:∀ (zs:List PyData) (i:Int) (t:Tok),¬ TK h (n + 1) (.tuple zs) (.int i t):=fun zs i t z=>by
   simp only [TK] at z;obtain⟨a,o,its,m,e,_⟩:=z;cases e
  have hns:∀ (zs:List PyData) (i:Str) (t:Tok),¬ TK h (n + 1) (.tuple zs) (.str i t):=fun zs i t z=>by
   simp only [TK] at z;obtain⟨a,o,its,m,e,_⟩:=z;cases e
  cases x with
  | int i =>
   have hx':∃ t,v=.int i t:=by simpa only [TK] using hx
   obtain⟨t,rfl⟩:=hx';cases y with
   | int j =>
    have hy':∃ t',Value.int i t=.int j t':=by simpa only [TK] using hy
    obtain⟨_,e⟩:=hy';cases e;rfl
   | str j =>
    have hy':∃ t',Value.int i t=.str j t':=by simpa only [TK] using hy
    obtain⟨_,e⟩:=hy';cases e
   | tuple zs=>exact(hne _ _ _ hy).elim
   | none=>simp only [TK] at hy
   | bool _=>simp only [TK] at hy
   | list _=>simp only [TK] at hy
   | dict _=>simp only [TK] at hy
  | str i =>
   have hx':∃ t,v=.str i t:=by simpa only [TK] using hx
   obtain⟨t,rfl⟩:=hx';cases y with
   | int j =>
    have hy':∃ t',Value.str i t=.int j t':=by simpa only [TK] using hy
    obtain⟨_,e⟩:=hy';cases e
   | str j =>
    have hy':∃ t',Value.str i t=.str j t':=by simpa only [TK] using hy
    obtain⟨_,e⟩:=hy';cases e;rfl
   | tuple zs=>exact(hns _ _ _ hy).elim
   | none=>simp only [TK] at hy
   | bool _=>simp only [TK] at hy
   | list _=>simp only [TK] at hy
   | dict _=>simp only [TK] at hy
  | tuple xs =>
   cases y with
   | int j =>
    have hy':∃ t',v=.int j t':=by simpa only [TK] using hy
    obtain⟨_,e⟩:=hy';subst e;exact(hne _ _ _ hx).elim
   | str j =>
    have hy':∃ t',v=.str j t':=by simpa only [TK] using hy
    obtain⟨_,e⟩:=hy';subst e;exact(hns _ _ _ hx).elim
   | tuple ys =>
    simp only [TK] at hx hy;obtain⟨a,o,its,m,rfl,h1,h2,h3,h4⟩:=hx;obtain⟨a',o',its',m',e,h1',h2',h3',h4'⟩:=hy;cases e;rw [h1] at h1';cases h1';rw [h3] at h3';cases h3';rw [pinj ih h4 h4']
   | none=>simp only [TK] at hy
   | bool _=>simp only [TK] at hy
   | list _=>simp only [TK] at hy
   | dict _=>simp only [TK] at hy
  | none=>simp only [TK] at hx
  | bool _=>simp only [TK] at hx
  | list _=>simp only [TK] at hx
  | dict _=>simp only [TK] at hx
def TK.keeps{h h':Heap} (k:∀ b o its m,h.get? b=some o->o.cls=.type "tuple" -> o.data=.seq its m->h'.get? b=some o):∀ (n:Nat) (x:PyData) (v:Value),TK h n x v->TK h' n x v:=fun n=>by
 induction n with
 | zero=>intro x v hx;cases x<;>simp only [TK] at hx ⊢<;>exact hx
 | succ n ih =>
  intro x v hx;cases x<;>simp only [TK] at hx ⊢<;>first | exact hx | skip;obtain⟨a,o,its,m,e,h1,h2,h3,h4⟩:=hx;exact⟨a,o,its,m,e,k _ _ _ _ h1 h2 h3,h2,h3,L2.Paired.mapP h4 ih⟩
def TK.reads{h:Heap}:∀ (n:Nat) (x:PyData) (v:Value),TK h n x v->∃ as,Reads h v x as:=fun n=>by
 have all:∀ m:Nat,(∀ x v,TK h m x v->∃ as,Reads h v x as)->∀ (xs:List PyData) (vs:List Value),Paired (TK h m) xs vs->∃ as,ReadsAll h vs xs as:=fun m ih xs vs p=>by
  induction p with
  | nil=>exact⟨_,.nil⟩
  | cons r t it =>
   obtain⟨as,e⟩:=ih _ _ r;obtain⟨bs,e2⟩:=it;exact⟨_,.cons e e2⟩
 induction n with
 | zero =>
  intro x v hx;cases x<;>simp only [TK] at hx<;>obtain⟨t,rfl⟩:=hx
  ·exact⟨_,.int _ _⟩
  ·exact⟨_,.str _ _⟩
 | succ n ih =>
  intro x v hx;cases x<;>simp only [TK] at hx
  ·obtain⟨t,rfl⟩:=hx;exact⟨_,.int _ _⟩
  ·obtain⟨t,rfl⟩:=hx;exact⟨_,.str _ _⟩
  ·obtain⟨a,o,its,m,rfl,h1,h2,h3,h4⟩:=hx
   obtain⟨as,e⟩:=all n ih _ _ h4;exact⟨_,.tuple h1 h2 h3 e⟩
def TK.deep{h:Heap}:∀ (n:Nat) (x:PyData) (v:Value),TK h n x v->x.depth <= n:=fun n=>by
 have all:∀ m:Nat,(∀ x v,TK h m x v->x.depth <= m)->∀ (xs:List PyData) (vs:List Value),Paired (TK h m) xs vs->PyData.depthAll xs <= m:=fun m ih xs vs p=>by
  induction p with
  | nil=>simp [PyData.depthAll]
  | cons r t it =>
   have:=ih _ _ r;simp only [PyData.depthAll];omega
 induction n with
 | zero=>intro x v hx;cases x<;>simp only [TK] at hx<;>simp [PyData.depth]
 | succ n ih =>
  intro x v hx;cases x<;>simp only [TK] at hx
  ·simp [PyData.depth]
  ·simp [PyData.depth]
  ·obtain⟨a,o,its,m,_,_,_,_,h4⟩:=hx
   have:=all n ih _ _ h4;simp only [PyData.depth];omega
section
variable{prog:Program}{w:World}{E:Value->Shared->Prop}
def d5v:∀ (n:Nat) (x:PyData) (v:Value) (A:Around) (s:Shared) (Q:Int->Shared->Prop),TK s.heap n x v->A.units + n < cLine->Q (kh w n x) { s with toks:=s.toks + kr n x }->wpAny (model prog w) A (pyHash v) Q E s:=fun n=>by
 induction n with
 | zero =>
  intro x v A s Q hx hu h;cases x<;>simp only [TK] at hx<;>obtain⟨t,rfl⟩:=hx
  ·exact wpAny_pyHash_int (by simpa only [kh,kr] using h)
  ·exact wpAny_pyHash_str (by simpa only [kh,kr] using h)
 | succ n ih =>
  intro x v A s Q hx hu h;cases x<;>simp only [TK] at hx
  ·obtain⟨t,rfl⟩:=hx;exact wpAny_pyHash_int (by simpa only [kh,kr] using h)
  ·obtain⟨t,rfl⟩:=hx;exact wpAny_pyHash_str (by simpa only [kh,kr] using h)
  rename_i ds;obtain⟨a,o,items,m,rfl,ho,hc,hd,hi⟩:=hx;have hT:s.TypeIs (.ref a) "tuple":=⟨o,ho,hc⟩;unfold pyHash
  first | unfold pyHashByItsType | skip
  first | refine wpAny_bind (wpAny_cRoomFor_or (.inr 'o') ?_) | skip
  refine wpAny_bind (wpAny_specialOf hT F.slot_tuple_hash.lookup ?_);show wpAny _ _ (if (some (Value.builtin "tuple.__hash__") == some Value.none)=true then _ else _) Q E s;rw [if_neg (by rw [beq_builtin_none];exact Bool.false_ne_true)];refine wpAny_bind (wpAny_specialOf hT F.slot_tuple_hash.lookup ?_);show wpAny _ _ (callSpecialIfBoundUnlessNone? (.ref a) "__hash__" _ >>= _) Q E s;refine wpAny_bind (wpAny_callSpecialIfBoundUnlessNone?_slot hT F.slot_tuple_hash (wpAny_call_entry F.slot_tuple_hash hT F.entry_tuple_hash ?_ (F.args_tuple_hash_1 _)));show wpAny _ _ (Builtin.Tuple.tupleItemsOf (.ref a) >>= _) _ _ s;refine wpAny_bind (wpAny_tupleItemsOf ho hd ?_);refine wpAny_bind ?_;rw [← Array.forIn_toList];refine wpAny_forIn_list _
   (fun rest (b:Array Int) s'=>∃ done left,ds=done ++ left/\Paired (TK s.heap n) left rest/\b.toList=done.map (kh w n)/\s'={ s with toks:=s.toks + (done.map (kr n)).sum })
   _ ?_ ?_ _ _ ⟨[],ds,rfl,hi,rfl,rfl⟩
  ·rintro y rest b s' ⟨done,left,rfl,hl,hb,rfl⟩
   cases hl with
   | cons h1 hl' =>
    rename_i k ks';refine wpAny_bind (ih k y _ { s with toks:=s.toks + (done.map (kr n)).sum } _ h1 ?_ ?_)
    ·show A.units + 1 + n < cLine
     omega
    ·exact wpAny_pure ⟨done ++ [k],ks',by simp,hl',by simp [hb],by simp [Nat.add_assoc]⟩
  ·rintro b s' ⟨done,left,rfl,hl,hb,rfl⟩
   cases hl
   rw [append_nil] at h;show wpAny _ _ (retInt (Builtin.Tuple.tupleHashOf b.toList)) _ _ _;rw [hb];refine wpAny_ret_mkInt ?_;have h':Q (reduceHash (Builtin.Tuple.tupleHashOf (done.map (kh w n)))) { s with toks:=s.toks + ((done.map (kr n)).sum + 1) }:=by simpa only [kh,kr] using h
   unfold reduceHash at h';show wpAny _ _ (if (decide (-(2:Int) ^ 63 <= Builtin.Tuple.tupleHashOf (done.map (kh w n))) && decide (Builtin.Tuple.tupleHashOf (done.map (kh w n)) < 2 ^ 63))=true then _ else _) Q E _;by_cases hr:(decide (-(2:Int) ^ 63 <= Builtin.Tuple.tupleHashOf (done.map (kh w n))) && decide (Builtin.Tuple.tupleHashOf (done.map (kh w n)) < 2 ^ 63))=true
   ·rw [if_pos hr] at h' ⊢
    exact wpAny_pure (by simpa [Nat.add_assoc] using h')
   ·rw [if_neg hr] at h' ⊢
    exact wpAny_bind (wpAny_rule (wpAny_pure (by simpa [Nat.add_assoc] using h')))
end
end Kd
end
section
namespace Kd
open PySem PyProof.Rows
def c1i{h h':Heap}:∀ (n:Nat) (x y:PyData) (v u:Value),TK h n x v->TK h' n y u->(PyData.eqv x y=true ↔ x=y):=fun n=>by
 have all:∀ m:Nat,(∀ x y v u,TK h m x v->TK h' m y u->(PyData.eqv x y=true ↔ x=y))->∀ (xs ys:List PyData) (vs us:List Value),Paired (TK h m) xs vs->Paired (TK h' m) ys us->(PyData.eqvAll xs ys=true ↔ xs=ys):=fun m ih xs ys vs us p q=>by
  induction p generalizing ys us with
  | nil=>cases q<;>simp [PyData.eqvAll]
  | cons r t it =>
   cases q with
   | nil=>simp [PyData.eqvAll]
   | cons r' t' =>
    simp only [PyData.eqvAll,and_eq_true,List.cons.injEq];rw [ih _ _ _ _ r r',it _ _ t']
 induction n with
 | zero=>intro x y v u hx hy;cases x<;>cases y<;>simp only [TK] at hx hy<;>simp [PyData.eqv]
 | succ n ih =>
  intro x y v u hx hy;cases x<;>cases y<;>simp only [TK] at hx hy<;>first | (simp [PyData.eqv];done) | skip;obtain⟨a,o,its,m,_,_,_,_,h4⟩:=hx;obtain⟨a',o',its',m',_,_,_,_,h4'⟩:=hy;simp only [PyData.eqv,PyData.tuple.injEq];exact all n ih _ _ _ _ h4 h4'
section
variable{prog:Program}{w:World}{E:Value->Shared->Prop}
def d0f:∀ (n:Nat) (f:Nat) (x:PyData) (v:Value) (A:Around) (s:Shared) (Q:Bool->Shared->Prop),n <= f->TK s.heap n x v->Q true s->wpAny (model prog w) A (eqIsQuiet f v) Q E s:=fun n=>by
 induction n with
 | zero =>
  intro f x v A s Q hf hx h;cases x<;>simp only [TK] at hx<;>obtain⟨t,rfl⟩:=hx<;>rw [eqIsQuiet_byValue _ (by rfl)]<;>exact wpAny_pure h
 | succ n ih =>
  intro f x v A s Q hf hx h;cases x<;>simp only [TK] at hx
  ·obtain⟨t,rfl⟩:=hx;rw [eqIsQuiet_byValue _ (by rfl)];exact wpAny_pure h
  ·obtain⟨t,rfl⟩:=hx;rw [eqIsQuiet_byValue _ (by rfl)];exact wpAny_pure h
  obtain⟨a,o,items,m,rfl,ho,hc,hd,hi⟩:=hx;have hT:s.TypeIs (.ref a) "tuple":=⟨o,ho,hc⟩;obtain⟨g,rfl⟩:∃ g,f=g + 1:=⟨f - 1,'o'⟩;unfold eqIsQuiet;refine wpAny_bind (wpAny_specialOf hT F.slot_tuple_eq.lookup ?_);show wpAny _ _ (isInstance (.ref a) (.type "tuple") >>= _) _ _ s;refine wpAny_bind (wpAny_isInstance hT isSubtype_tuple_tuple ?_);simp only [Bool.not_true,false_eq_true,if_false];refine wpAny_bind (wpAny_seqItems ho hd (wpAny_bind ?_));show wpAny _ _ (forIn items _ _) _ _ s;rw [← Array.forIn_toList];refine wpAny_forIn_list _ (fun rest r s'=>r.1=none/\s'=s/\∃ ds,Paired (TK s.heap n) ds rest) _ ?_ ?_ _ _ ⟨rfl,rfl,_,hi⟩
  ·rintro y rest r s' ⟨hr,rfl,ds,hp⟩
   cases hp with
   | cons r1 t1 =>
    refine wpAny_bind (ih g _ y A s' _ 'o' r1 ?_);simp only [Bool.not_true,false_eq_true,if_false];exact wpAny_pure ⟨rfl,rfl,_,t1⟩
  ·rintro⟨r1,r2⟩ s' ⟨hr,rfl,_⟩
   simp only at hr;subst hr;exact wpAny_pure h
end
noncomputable instance:DecidableEq PyData:=fun a b=>Classical.propDecidable (a=b)
def isK(h:Heap)(d:PyData)(a:Addr):Prop:=d.canLay0=true/\TK h 8 d (.ref a)
noncomputable def a1i(prog:Program)(w:World):HeapKind prog w PyData where
 is:=isK
 hash:=kh w 8
 draws:=kr 8
 room:=fun A=>A.units + 64 < cLine
 inj:=fun hx hy=>TK.inj 8 _ _ _ hx.2 hy.2
 keeps:=fun{h h' k a d o es ep} x ho hd hs=>⟨x.1,TK.keeps (fun b o' its m e c s=>by
  by_cases hb:b=d
  ·rw [hb,ho] at e
   cases e
   rw [hd] at s;cases s
  ·exact(hs.2 b hb).trans e) 8 _ _ x.2⟩
 pyHash:=fun hu hk h=>d5v 8 _ _ _ _ _ hk.2 'o' h
 eqBool:=fun{A E s x y a b Q} hu hx hy h=>by
  obtain⟨as,ra⟩:=TK.reads 8 _ _ hx.2;obtain⟨bs,rb⟩:=TK.reads 8 _ _ hy.2;have dx:=TK.deep 8 _ _ hx.2;refine SeqAt.eqBoolOverData prog w A E s _ _ _ _ as bs Q ra rb hx.1 hy.1 'o' ?_;have e:PyData.eqv x y=decide (x=y):=by
   by_cases c:x=y
   ·rw [decide_eq_true c];exact(c1i 8 _ _ _ _ hx.2 hy.2).mpr c
   ·rw [decide_eq_false c];exact Bool.eq_false_iff.mpr fun z=>c ((c1i 8 _ _ _ _ hx.2 hy.2).mp z)
  rw [e];exact h
 quiet:=fun hk h=>d0f 8 8 _ _ _ _ _ 'b' hk.2 h
end Kd
end
section
namespace L2
open PySem PySem.Spec PyProof.Rows Kd
noncomputable def kd:Nat->PyData->Bool
 | _,.int _=>true
 | _,.str _=>true
 | n + 1,.tuple ds=>ds.all (kd n)
 | _,_=>false
section
variable{X:Cx}{pins:List 'a'}{σ:St}{H:Hp}{s:Shared}{S:Addr->Prop}
def e0v(I:Inv X pins σ H s):∀ (n:Nat) (d:PyData) (v:V) (u:Value),kd n d=true->AtD X.K H S d v->RelV v u->TK s.heap n d u:=fun n=>by
 have all:∀ m:Nat,(∀ d v u,kd m d=true->AtD X.K H S d v->RelV v u->TK s.heap m d u)->∀ (ds:List PyData) (vs:List V) (us:List Value),ds.all (kd m)=true->a0a X.K H S ds vs->Vals vs us->Paired (TK s.heap m) ds us:=fun m ih ds=>by
  induction ds with
  | nil =>
   intro vs us _ ha hv;unfold a0a at ha;subst ha;cases hv;exact .nil
  | cons d ds it =>
   intro vs us hk ha hv;obtain⟨v,r,rfl,h1,h2⟩:=ha.uncons;rw [all_cons,and_eq_true] at hk;cases hv with
   | cons r1 t1=>exact .cons (ih _ _ _ hk.1 h1 r1) (it _ _ hk.2 h2 t1)
 induction n with
 | zero =>
  intro d v u hk ha ru;cases d<;>simp only [kd] at hk<;>first | cases hk | skip
  ·unfold AtD at ha;subst ha;simp only [TK];exact ru
  ·unfold AtD at ha;subst ha;simp only [TK];exact ru
 | succ n ih =>
  intro d v u hk ha ru;cases d<;>simp only [kd] at hk<;>first | cases hk | skip
  ·unfold AtD at ha;subst ha;simp only [TK];exact ru
  ·unfold AtD at ha;subst ha;simp only [TK];exact ru
  ·unfold AtD at ha
   obtain⟨a,xs,rfl,hs,hx⟩:=ha;cases (show u=Value.ref a from ru);obtain⟨its,rs,⟨o,e,hc,m,hd⟩,_⟩:=I.tupleP hs;simp only [TK];exact⟨a,o,its.toArray,m,rfl,e,hc.1,hd,by simpa using all n ih _ _ _ hk hx rs⟩
end
abbrev KX:=PyData × Addr × V
def KF(p:KX)(q:PyData × Addr × Value):Prop:=p.1=q.1/\p.2.1=q.2.1/\RelV p.2.2 q.2.2
noncomputable def valX(xs:List KX)(k:PyData):Option V:=(xs.find? fun x=>decide (x.1=k)).map (·.2.2)
noncomputable def putX(xs:List KX)(k:PyData)(a:Addr)(v:V):List KX:=if (valX xs k).isSome then xs.map (fun x=>if x.1=k then(x.1,x.2.1,v) else x) else xs ++ [(k,a,v)]
def b3k{xs:List KX}{us:List (PyData × Addr × Value)}(r:Paired KF xs us)(k:PyData):RelO (valX xs k) ((atKey us k).map (·.2)):=by
 unfold valX atKey;induction r with
 | nil=>exact True.intro
 | cons h t ih =>
  rename_i p q ps qs;obtain⟨h1,h2,h3⟩:=h;rw [find?_cons,find?_cons,← h1];by_cases c:p.1=k
  ·rw [decide_eq_true c];exact h3
  ·rw [decide_eq_false c];exact ih
def c1j{xs:List KX}{us:List (PyData × Addr × Value)}(r:Paired KF xs us)(k:PyData):(valX xs k).isSome=(atKey us k).isSome:=by
 have:=b3k r k;cases e:valX xs k with
 | none =>
  rw [e] at this;have z:=this.none_of;cases f:atKey us k with
  | none=>rfl
  | some p=>rw [f] at z;cases z
 | some v =>
  rw [e] at this;obtain⟨u,z,_⟩:=this.some_of;cases f:atKey us k with
  | none=>rw [f] at z;cases z
  | some p=>rfl
def e0w{xs:List KX}{us:List (PyData × Addr × Value)}(r:Paired KF xs us)(k:PyData)(a:Addr){v:V}{u:Value}(rv:RelV v u):Paired KF (putX xs k a v) (storedH us k a u):=by
 unfold putX storedH;rw [c1j r k];by_cases c:(atKey us k).isSome=true
 ·rw [if_pos c,if_pos c]
  clear c;induction r with
  | nil=>exact .nil
  | cons h t ih =>
   obtain⟨h1,h2,h3⟩:=h;rw [map_cons,map_cons];refine .cons ?_ ih;unfold putAt;rw [← h1];split
   ·exact⟨rfl,h2,rv⟩
   ·exact⟨h1,h2,h3⟩
 ·rw [if_neg c,if_neg c]
  clear c;induction r with
  | nil=>exact .cons ⟨rfl,rfl,rv⟩ .nil
  | cons h t ih=>exact .cons h ih
def dxq(P:Program)(w:World)(d:Addr)(xs:List KX)(h:Heap):Prop:=(d == sysModules)=false/\xs.length <= sizeLine/\∃ us,Paired KF xs us /\
 ∃ o es ep,h.get? d=some o/\o.ExactDict/\o.data=.dict es ep/\es.toList=us.map (entryOfKey (a1i P w))/\(us.map (·.1)).Nodup
def b8h{P:Program}{w:World}{H:Hp}{h:Heap}{d:Addr}{xs:List KX}(e:dxq P w d xs h):a1h P w H h d (.ext (dxq P w d xs)):=
 ⟨e,let ⟨_,_,_,_,o,_,_,q,_⟩:=e;⟨o,q⟩,fun _ _ ⟨a,b,us,r,o,es,ep,q,z⟩ k=>⟨a,b,us,r,o,es,ep,k o q,z⟩⟩
def KOk(K:W.Frag)(H:Hp)(d:PyData)(a:Addr):Prop:=kd 8 d=true/\d.canLay0=true/\∃ S,AtD K H S d (.ref a)
section
variable{X:Cx}{pins:List 'a'}{σ:St}{H:Hp}{s:Shared}{d b:Addr}{xs:List KX}{k:PyData}{v:V}{r:Value}{A:Around}{E:Value->Shared->Prop}
def KOk.is(I:Inv X pins σ H s)(h:KOk X.K H k b):isK s.heap k b:=by obtain⟨h1,h2,_,h3⟩:=h;exact⟨h2,e0v I 8 _ _ _ h1 h3 rfl⟩
def b6p(I:Inv X pins σ H s)(e:H d=some (.ext (dxq X.prog X.w d xs)))(ks:∀ x ∈ xs,KOk X.K H x.1 x.2.1):∃ us,Paired KF xs us/\s.heap.DictOfH (a1i X.prog X.w) d us/\(d == sysModules)=false/\xs.length <= sizeLine:=by
 obtain⟨a1,a2,us,r,o,es,ep,q,z1,z2,z3,z4⟩:=(show dxq X.prog X.w d xs s.heap from(I.hok d _ e).1);refine⟨us,r,⟨o,es,ep,q,z1,z2,z3,?_,z4⟩,a1,a2⟩;clear z3 z4 a2 e;induction r with
 | nil=>intro x hx;cases hx
 | cons h t ih =>
  intro x hx;rcases mem_cons.mp hx with rfl | hx
  ·have:=(ks _ (mem_cons_self ..)).is I
   rw [h.1,h.2.1] at this;exact this
  ·exact ih (fun y hy=>ks y (mem_cons_of_mem _ hy)) x hx
def dx_in{Q:Value->Shared->Prop}(hu:A.units + 80 < cLine)(I:Inv X pins σ H s)(e:H d=some (.ext (dxq X.prog X.w d xs)))(ks:∀ x ∈ xs,KOk X.K H x.1 x.2.1)(hk:KOk X.K H k b)(h:∀ s',Inv X pins σ H s'->Q (.bool (valX xs k).isSome) s') :
  wpAny (model X.prog X.w) A (compareOp .In (.ref b) (.ref d)) Q E s:=by
 obtain⟨us,rel,dd,hd,_⟩:=b6p I e ks;refine wpAny_in_heap (knd:=a1i X.prog X.w) (show A.in1.units + 64 < cLine by rw [Around.in1_units];omega) (hk.is I) hd dd ?_;rw [← c1j rel k];exact h _ (I.tok _)
def e0x{Q:Unit->Shared->Prop}(hu:A.units + 80 < cLine)(I:Inv X pins σ H s)(e:H d=some (.ext (dxq X.prog X.w d xs)))(ks:∀ x ∈ xs,KOk X.K H x.1 x.2.1)(hk:KOk X.K H k b)(hl:xs.length < sizeLine)(rv:RelV v r)(h:∀ s',Inv X pins σ (upd H d (.ext (dxq X.prog X.w d (putX xs k b v)))) s'->Q () s') :
  wpAny (model X.prog X.w) A (setItem (.ref d) (.ref b) r) Q E s:=by
 obtain⟨us,rel,dd,hd,hz⟩:=b6p I e ks;have hz':us.length <= sizeLine:=by rw [← Paired.length rel];exact hz
 refine wpAny_setItem_heap (knd:=a1i X.prog X.w) (hsz:=hz') (show A.in1.units + 64 < cLine by rw [Around.in1_units];omega) (hk.is I) dd fun h' dd' hs=>h _ ?_;obtain⟨q,es,ep,hq,h2,h3,h4,_,h5⟩:=dd';refine a8p I (by rw [e];exact True.intro) hs ⟨q,hq⟩ (b8h ⟨hd,?_,_,e0w rel k b rv,q,es,ep,hq,h2,h3,h4,h5⟩);unfold putX;split
 ·rw [length_map];exact hz
 ·rw [length_append];show xs.length + 1 <= _;omega
end
end L2
end
section
namespace L2
open PySem PySem.Spec PyProof.Rows Kd
def DX(P:Program)(w:World)(K:W.Frag)(H:Hp)(d:Addr)(xs:List KX):Prop:=H d=some (.ext (dxq P w d xs))/\∀ x ∈ xs,KOk K H x.1 x.2.1
section
variable{X:Cx}
def rInDX(P:Program)(w:World)(K:W.Frag):R2:=fun x y H Q=>∃ b d xs k,x=.ref b/\y=.ref d/\DX P w K H d xs/\KOk K H k b/\Q (.bl (valX xs k).isSome) H
def d5w(hu:X.A.units + 80 < cLine):OpR X (compareOp .In) (rInDX X.prog X.w X.K):=by
 intro pins s σ H x y v u Q I rx ry h;obtain⟨b,d,xs,k,rfl,rfl,⟨e,ks⟩,hk,q⟩:=h;cases rx;cases ry;exact dx_in hu I e ks hk fun s' I'=>⟨.bl _,H,I',rfl,q⟩
def d2d(P:Program)(w:World)(K:W.Frag):R2:=fun x y H Q=>∃ d b xs k z,x=.ref d/\y=.ref b/\DX P w K H d xs/\KOk K H k b/\valX xs k=some z/\Q z H
def d2e(hu:X.A.units + 80 < cLine):IxR X (d2d X.prog X.w X.K):=by
 intro value slice pins s σ H x y v u Q I rx ry h hs;obtain⟨d,b,xs,k,z,rfl,rfl,⟨e,ks⟩,hk,l,q⟩:=h;cases rx;cases ry;obtain⟨us,rel,dd,hd,_⟩:=b6p I e ks;obtain⟨w',hw,rw'⟩:=RelO.some_of (v:=z) (o:=(atKey us k).map (·.2)) (by rw [← l];exact b3k rel k);obtain⟨p,hp,hp2⟩:=map_eq_some_iff.mp hw;have fin:∀ tk,EP X pins σ Q w' { s with toks:=tk }:=fun tk=>⟨z,H,I.tok _,rw',q⟩;refine subscriptTail_builtinR (x:=w') dd.typeIs PySem.F.slot_dict_getitem.lookup (wpAny_getItem_heap (knd:=a1i X.prog X.w) (show X.A.in1.units + 64 < cLine by rw [Around.in1_units];omega) (hk.is I) dd hp ?_) hs;rw [hp2];exact⟨rfl,fin _⟩
noncomputable def e0y(P:Program)(w:World)(K:W.Frag):TSet:=fun o i v H Q=>∃ d b xs k,o=.ref d/\i=.ref b/\DX P w K H d xs/\KOk K H k b/\xs.length < sizeLine/\Q (upd H d (.ext (dxq P w d (putX xs k b v))))
def e0z(hu:X.A.units + 80 < cLine):PSet X (e0y X.prog X.w X.K):=by
 intro pins s σ H o i v ov iv u Q I ro ri rv h;obtain⟨d,b,xs,k,rfl,rfl,⟨e,ks⟩,hk,hl,q⟩:=h;cases ro;cases ri;exact e0x hu I e ks hk hl rv fun s' I'=>⟨_,I',q⟩
end
section
variable{K:W.Frag}{H:Hp}{S:Addr->Prop}{sa:Addr}{ns:List Int}
noncomputable def RcA(H:Hp)(S:Addr->Prop)(sa:Addr)(ns:List Int):Rc:={ H0:=H,S:=fun a=>S a ∨ H a=none,P:=fun _=>False,M:=fun _=>False,A:=fun p=>H p=none,B:=fun _=>False,lent:=fun _=>none,sa:=sa,ns:=ns }
def b8i(sc:Scr K H sa (ns.map V.int)){ds:List PyData}{vs:List V}(h:a0a K H S ds vs):Rel K (RcA H S sa ns) (fun _=>none) ((ds.map L.d).map some) (vs.map some) H:=by
 have hat:∀ (i:Nat) (x:PyData),ds[i]? = some x->∃ v,vs[i]? = some v/\AtD K H (live (RcA H S sa ns) fun _=>none) x v:=fun i x e=>by
  obtain⟨v,e1,e2⟩:=h.get e;exact⟨v,e1,AtD.more (fun a z=>⟨.inl z,fun z=>z,fun i z=>nomatch z⟩) _ _ e2⟩
 have no:∀ (i:Nat) (l:L),((ds.map L.d).map some)[i]? = some (some l)->∃ x,l=.d x/\ds[i]? = some x:=fun i l e=>by
  rw [getElem?_map,getElem?_map] at e;cases q:ds[i]? with
  | none=>rw [q] at e;cases e
  | some x=>rw [q] at e;cases e;exact⟨x,rfl,rfl⟩
 refine⟨fun i x e=>?_,fun i xs e=>?_,fun i xs e=>?_,fun i k e=>?_,fun i e=>?_,(fun i j p e=>nomatch e),(fun i p e=>nomatch e),fun p z=>.inr z,fun p z=>.inr z,fun b o _ e=>e,fun b z=>z,fun p z=>z.elim,fun p z=>z.elim (fun z=>z.elim) fun z=>z.elim,(fun i p e=>nomatch e),sc,?_⟩
 ·obtain⟨y,e1,e2⟩:=no i _ e
  cases e1
  obtain⟨v,h1,h2⟩:=hat i x e2;exact⟨v,by rw [getElem?_map,h1];rfl,h2⟩
 ·obtain⟨_,e1,_⟩:=no i _ e;cases e1
 ·obtain⟨_,e1,_⟩:=no i _ e;cases e1
 ·obtain⟨_,e1,_⟩:=no i _ e;cases e1
 ·obtain⟨_,e1,_⟩:=no i _ e;cases e1
 ·rw [length_map,length_map,length_map,h.length]
noncomputable def Ret(K:W.Frag)(H:Hp)(S:Addr->Prop)(H':Hp):RV->V->Prop
 | .d x,v=>AtD K H' (fun a=>S a ∨ H a=none) x v
 | .new xs,v=>∃ p vs,v=.ref p/\H p=none/\H' p=some (.lst vs)/\a0a K H' (fun a=>(S a ∨ H a=none)/\a ≠ p) xs vs
def b1i{sp:DSp}{ds:List PyData}{vs:List V}{Q:VK}{E:XK}{Qd:RV->Rho->Prop}(sc:Scr K H sa (ns.map V.int))(h:a0a K H S ds vs)(hs:sp (ds.map L.d) Qd)
  (hq:∀ r v H' ρ',Qd r ρ'->Same H H'->Ret K H S H' r v->Q v H'):spD K sp vs H Q E:=by
 refine⟨RcA H S sa ns,fun _=>none,ds.map L.d,Qd,rfl,fun p z=>z,fun p z=>z.elim,fun p z=>z,fun _=>rfl,b8i sc h,hs,fun r O' ρ' σ' v H' q ro=>?_⟩;cases r with
 | d x=>exact hq _ v H' _ q (fun b o e=>ro.1.same b o (fun z=>z) e) (AtD.more (fun a z=>z.1) _ _ ro.2)
 | new xs =>
  obtain⟨p,vs,rfl,R',fr,hp,ha⟩:=ro;refine hq _ _ H' _ q (fun b o e=>R'.same b o (fun z=>z) e) ⟨p,vs,rfl,?_,hp,?_⟩
  ·exact fr.1
  ·exact a0a.more (fun a z=>⟨z.1,(a3i z).2⟩) _ _ ha
end
end L2
end
section
namespace Kd
open PySem PyProof.Rows
end Kd
end
section
namespace Sx
open PySem
noncomputable def adv(mask:Nat)(p:SetTable.Probe):SetTable.Probe:=
 if p.more > 0 then{ p with j:=p.j + 1,more:=p.more - 1 } else
 { p with j:=(SetTable.leap mask p.i p.perturb).1,more:=SetTable.runEnd mask (SetTable.leap mask p.i p.perturb).1 - (SetTable.leap mask p.i p.perturb).1,i:=(SetTable.leap mask p.i p.perturb).1,perturb:=(SetTable.leap mask p.i p.perturb).2 }
noncomputable def sta(mask:Nat)(h:Int):SetTable.Probe:={ j:=SetTable.bits h % (mask + 1),more:=SetTable.runEnd mask (SetTable.bits h % (mask + 1)) - SetTable.bits h % (mask + 1),i:=SetTable.bits h % (mask + 1),perturb:=SetTable.bits h,dummy:=none }
noncomputable def pth(mask:Nat)(h:Int):Nat->SetTable.Probe
 | 0=>sta mask h
 | n + 1=>adv mask (pth mask h n)
end Sx
end
section
namespace Sx
open PySem
def Way(mask:Nat)(place:List Nat)(hs:List Int):Prop:=place.length=hs.length/\∀ j h,(j,h) ∈ place.zip hs->∃ n,(pth mask h n).j=j/\∀ m,m < n->(pth mask h m).j ∈ place
end Sx
end
section
namespace Sx
open PySem Kd
section
variable{prog:Program}{w:World}{A:Around}{E:Value->Shared->Prop}{s:Shared}
structure Tb(w:World)(h:Heap)(es:Array 'j')(t:SetTable)(dat:Nat->PyData)(adr:Nat->Addr):Prop where
 el:∀ i,i < es.size->es[i]? = some (kh w 8 (dat i),.ref (adr i))/\isK h (dat i) (adr i)
 ok:TOk t
 ft:t.fits es.size=true
 odd:t.gaveWay=false
 way:Way t.mask t.place.toList (es.toList.map (·.1))
end
end Sx
end
section
namespace Sx
open PySem Kd
noncomputable def stk(mask:Nat)(q:Nat × Nat):SetTable.Probe:={ j:=q.1,more:=SetTable.runEnd mask q.1 - q.1,i:=q.1,perturb:=q.2,dummy:=none }
noncomputable def advs(mask:Nat):Nat->SetTable.Probe->SetTable.Probe
 | 0,p=>p
 | n + 1,p=>adv mask (advs mask n p)
end Sx
end
section
namespace Sx
open PySem Kd
end Sx
end
section
namespace Sx
open PySem Kd
end Sx
end
section
namespace Sx
open PySem Kd
end Sx
end
section
namespace Sx
open PySem Kd
abbrev Ring(mask:Nat):Prop:=∀ i < mask + 1,∀ j < mask + 1,∃ n < mask + 1,(lps mask n (i,0)).1=j
end Sx
end
section
namespace Sx
open PySem Kd
section
variable{prog:Program}{w:World}{h:Heap}{es:Array 'j'}{t:SetTable}{kv:List (PyData × Addr)}
abbrev kvE(w:World)(p:PyData × Addr):Int × Value:=(kh w 8 p.1,Value.ref p.2)
structure TS(w:World)(h:Heap)(es:Array 'j')(t:SetTable)(kv:List (PyData × Addr)):Prop where
 el:es.toList=kv.map (kvE w)
 is:∀ p ∈ kv,isK h p.1 p.2
 nd:(kv.map (·.1)).Nodup
 ok:TOk t
 ft:t.fits es.size=true
 way:Way t.mask t.place.toList (es.toList.map (·.1))
 mks:(t.mask=7/\es.size <= 4) ∨ (t.mask=31/\es.size <= 18) ∨ (t.mask=127/\es.size <= 76)
 ld:t.led = !w.params.followText "set-order"
def SetT(w:World)(h:Heap)(a:Addr)(kv:List (PyData × Addr)):Prop:=∃ es ep t,h.get? a=some (setO es ep t)/\TS w h es t kv
noncomputable def datOf(kv:List (PyData × Addr))(i:Nat):PyData:=(kv.getD i (.none,0)).1
noncomputable def adrOf(kv:List (PyData × Addr))(i:Nat):Addr:=(kv.getD i (.none,0)).2
end
end Sx
end
section
namespace Sx
open PySem Kd
end Sx
end
section
namespace Sx
open PySem Kd
end Sx
end
section
namespace Sx
open PySem PySem.W PyProof.Rows Kd L2
noncomputable def dT:PyData->List Int
 | .tuple xs=>xs.map fun x=>match x with | .int n=>n | _=>0
 | _=>[]
def b8j(t:List Int):dT (encT t)=t:=by
 show(t.map PyData.int).map _=t;rw [map_map];exact List.map_id'' (fun _=>rfl) t
end Sx
end
namespace L2
open PySem PySem.Spec PyProof.Rows
end L2
section
namespace Kd
open PySem PyProof.Rows
def RD(h:Heap)(d:Addr)(es:Array DictEntry)(ep:Nat):Prop:=∃ o,h.get? d=some o/\o.ExactDict/\o.data=.dict es ep
section
variable{prog:Program}{w:World}{A:Around}{E:Value->Shared->Prop}{s:Shared}{d it:Addr}{es:Array DictEntry}{ep i:Nat}
def RD.type(x:RD s.heap d es ep):s.TypeIs (.ref d) "dict":=by obtain⟨o,ho,hc,_⟩:=x;exact⟨o,ho,hc.1⟩
end
end Kd
end
section
namespace L2
open PySem PySem.Spec PyProof.Rows Kd
def a2e(t:List Int):a0l (encT t)=true:=by
 have:∀ t:List Int,a0q (t.map .int)=true:=fun t=>by
  induction t with
  | nil=>rfl
  | cons n r ih=>show(a0l (.int n) && a0q (r.map .int))=true;rw [ih];rfl
 show a0q (t.map .int)=true;exact this t
def c3p{xs:List KX}{us:List (PyData × Addr × Value)}(r:Paired KF xs us):xs.map (·.2.1)=us.map (·.2.1):=by
 induction r with
 | nil=>rfl
 | cons h t ih=>rw [map_cons,map_cons,ih,h.2.1]
end L2
end
section
namespace Kd
open PySem PySem.Spec PyProof.Rows L2
section
variable{prog:Program}{w:World}{A:Around}{E:Value->Shared->Prop}{s:Shared}{d a:Addr}{xs:List (PyData × Addr × Value)}{k:PyData}
def d0g{dflt:Value}{Q:Value->Shared->Prop}(hu:A.units + 64 < cLine)(hkey:isK s.heap k a)(hm:s.heap.DictOfH (a1i prog w) d xs)(hsz:xs.length <= sizeLine)
  (h1:∀ p tk,atKey xs k=some p->Q p.2 { s with toks:=tk }) (h2:∀ h' tk,atKey xs k=none->h'.DictOfH (a1i prog w) d (xs ++ [(k,a,dflt)])->Heap.SameBut d s.heap h'->Q dflt { s with heap:=h',toks:=tk }) :
  wpAny (model prog w) A (dictSetDefault d (.ref a) dflt) Q E s:=by
 obtain⟨o,es,ep,ho,hc,hd,he,his,hn⟩:=hm;unfold dictSetDefault
 try with_reducible refine wpAny_holding ?_
 refine wpAny_bind ((a1i prog w).pyHash hu hkey (wpAny_bind (wpAny_dictFind_heap (knd:=a1i prog w) (s:={ s with toks:=s.toks + (a1i prog w).draws k }) hu hkey ho hd he his hn ?_ ?_)))
 ·intro hno
  have hnot:k ∉ xs.map (·.1):=not_mem_keys_of_get hno;refine wpAny_bind (wpAny_rule (wpAny_bind (wpAny_updateDictKeys (hz:=by have e:=size_of_entries he;omega) (s:={ s with toks:=s.toks + (a1i prog w).draws k }) ho hd (wpAny_pure (h2 _ _ (atKey_none_of_get hno) ⟨_,_,ep + 1,get?_update_self _ ho (Obj.isFreed_of_dict (Obj.data_mapDictKeys hd _)),hc.mapDictKeys _,Obj.data_mapDictKeys hd _,by simp [he,entryOfKey,a1i],fun x hx=>?_,?_⟩ (Heap.SameBut.update ..))))))
  ·rcases mem_append.mp hx with hx | hx
   ·exact(a1i prog w).keeps (his x hx) ho hd (Heap.SameBut.update ..)
   ·rw [mem_singleton.mp hx];exact(a1i prog w).keeps hkey ho hd (Heap.SameBut.update ..)
  ·rw [map_append,nodup_append]
   exact⟨hn,by simp,fun x hx y hy e=>hnot (by
    have hy':y=k:=by simpa using hy
    rw [← hy',← e];exact hx)⟩
 ·intro j p hj
  refine wpAny_bind (wpAny_dictEntries (s:={ s with toks:=s.toks + (a1i prog w).draws k }) ho hd ?_);rw [entry_at he j,hj];exact wpAny_bind (wpAny_rule (wpAny_pure (h1 p _ (atKey_of_get hn hj))))
def b5z(d a:Addr)(hd:(d == sysModules)=false)(dflt:Value):MeetsIn prog w (Builtin.«dict.setdefault» ⟨[.ref d,.ref a,dflt],[]⟩) (fun A R s=>A.in1.units + 64 < cLine/\∃ k xs,isK s.heap k a/\s.heap.DictOfH (a1i prog w) d xs/\xs.length <= sizeLine /\
  (∀ p tk,atKey xs k=some p->R (.ok (.ret p.2)) { s with toks:=tk })/\(∀ h' tk,atKey xs k=none->h'.DictOfH (a1i prog w) d (xs ++ [(k,a,dflt)])->Heap.SameBut d s.heap h'->R (.ok (.ret dflt)) { s with heap:=h',toks:=tk })):=
 .of_wp fun A R s hq8=>by
  obtain⟨hu,k,xs,hk,hm,hz,h1,h2⟩:=hq8;unfold Builtin.«dict.setdefault» Builtin.Dict.keyAndDefault;refine wpAny_bind (wpAny_bind (wpAny_notOrdered_dict hm.typeIs (show wpAny _ _ (pure (d,Value.ref a,some dflt)) _ _ s from wpAny_pure ?_)));show wpAny _ _ (if (d == sysModules)=true then _ else(dictSetDefault d (.ref a) dflt >>= _)) _ _ s;rw [if_neg (by rw [hd];exact Bool.false_ne_true)];exact wpAny_bind (d0g hu hk hm hz (fun p tk e=>wpAny_pure ⟨_,rfl,h1 p tk e⟩) fun h' tk e hm' hs'=>wpAny_pure ⟨_,rfl,h2 h' tk e hm' hs'⟩)
end
end Kd
namespace L2
open PySem PySem.Spec PyProof.Rows Kd
noncomputable def b8k(P:Program)(w:World)(K:W.Frag):V->List V->Hp->VK->Prop:=fun x vs H Q=>∃ d b ks k v,x=.ref d/\vs=[.ref b,v]/\DX P w K H d ks/\KOk K H k b/\ks.length < sizeLine /\
 (∀ z,valX ks k=some z->Q z H)/\(valX ks k=none->Q v (upd H d (.ext (dxq P w d (ks ++ [(k,b,v)])))))
def d5x{xs:List KX}{us:List (PyData × Addr × Value)}(r:Paired KF xs us){p:KX}{q:PyData × Addr × Value}(h:KF p q):Paired KF (xs ++ [p]) (us ++ [q]):=by
 induction r with
 | nil=>exact .cons h .nil
 | cons h' t ih=>exact .cons h' ih
section
variable{X:Cx}
def c3q(hu:X.A.units + 80 < cLine):MtM X "dict.setdefault" (b8k X.prog X.w X.K):=by
 intro pins s σ H x vs v us Q I rx rv h;obtain⟨d,b,ks,k,v0,rfl,rfl,⟨e,hko⟩,hk,hl,q1,q2⟩:=h;cases rx;obtain⟨u,r,rfl,ru,rr⟩:=Vals.two rv;cases ru;obtain⟨ws,rel,dd,hd,hz⟩:=b6p I e hko;have wl:ws.length <= sizeLine:=by have:=congrArg List.length (c3p rel);rw [length_map,length_map] at this;omega
 refine call_meetsIn PySem.F.slot_dict_setdefault dd.typeIs PySem.F.entry_dict_setdefault (PySem.F.args_dict_setdefault_3 _ _ _) (b5z d b hd r) ⟨by rw [Around.in1_units];omega,k,ws,hk.is I,dd,wl,fun p tk hp=>?_,fun h' tk hn dd' hs=>?_⟩
 ·have kv:=b3k rel k
  rw [hp] at kv;cases e':valX ks k with
  | none=>rw [e'] at kv;cases kv
  | some y=>rw [e'] at kv;exact⟨y,H,I.tok _,kv,q1 y e'⟩
 ·have hn':valX ks k=none:=by
   have kv:=b3k rel k;rw [hn] at kv;cases e':valX ks k with
   | none=>rfl
   | some y=>rw [e'] at kv;cases kv
  obtain⟨q,es,ep,hq,h2,h3,h4,h5,h6⟩:=dd';refine⟨v0,_,a8p I (by rw [e];exact True.intro) hs ⟨q,hq⟩ (b8h ⟨hd,?_,_,d5x rel ⟨rfl,rfl,rr⟩,q,es,ep,hq,h2,h3,h4,h6⟩),rr,q2 hn'⟩;rw [length_append];exact hl
end
end L2
end
section
namespace Kd
open PySem PySem.Spec PyProof.Rows L2
section
variable{prog:Program}{w:World}{A:Around}{E:Value->Shared->Prop}{s:Shared}{d it:Addr}{es:Array DictEntry}{ep i:Nat}
def b4n:Builtin.Dict_items.ownsTuple "dict_valueiterator" = false:=by decide
def d0h(d:Addr)(hd:(d == sysModules)=false):MeetsIn prog w (Builtin.«dict.values» ⟨[.ref d],[]⟩) (fun _ R s=>(∃ es ep,RD s.heap d es ep)/\R (.ok (.ret (.ref s.heap.objs.size))) { s with heap:=s.heap.push { cls:=.type "dict_values",data:=.fields #[.ref d] } }):=
 .of_wp fun A R s ⟨⟨es,ep,x⟩,h⟩=>by
  refine wpAny_bind ?_;unfold Builtin.Dict.noArgs;refine(wpAny_bind (wpAny_notOrdered_dict x.type (show wpAny _ _ (pure d) _ _ s from wpAny_pure ?_)));show wpAny _ _ (Builtin.Dict.showsAll d >>= _) _ _ s;unfold Builtin.Dict.showsAll;rw [if_neg (by rw [hd];exact Bool.false_ne_true)];exact wpAny_bind (wpAny_pure (wpAny_bind (wpAny_newObj_type (wpAny_pure ⟨_,rfl,h⟩))))
def d5y{v:Addr}{Q:Value->Shared->Prop}(hv:s.heap.IsValuesView v d)(x:RD s.heap d es ep) (q:Q (.ref s.heap.objs.size) { s with heap:=s.heap.push { cls:=.type "dict_valueiterator",data:=.fields #[.ref d,.int 0 0,.int es.size 0,.int ep 0] } }):wpAny (model prog w) A (pyIter (.ref v)) Q E s:=by
 obtain⟨ov,hov,hcv,hdv⟩:=id hv;obtain⟨o,ho,hc,hdat⟩:=id x;refine wpAny_pyIter_slot hv.typeIs PySem.F.slot_dict_values_iter (wpAny_call_entry PySem.F.slot_dict_values_iter hv.typeIs PySem.F.entry_dict_values_iter ?_ (PySem.F.args_dict_values_iter_1 _));unfold Builtin.«dict_values.__iter__» Builtin.Dict_items.dictOf;refine wpAny_bind (wpAny_pure (wpAny_bind (wpAny_bind (wpAny_field hov hdv (x:=.ref d) rfl (wpAny_pure (wpAny_bind ?_))))));unfold Builtin.Dict_items.newIterator;refine wpAny_bind (wpAny_dictEntries ho hdat (wpAny_bind (wpAny_dictEpoch ho hdat ?_)));simp only [b4n,false_eq_true,if_false];exact wpAny_newObj_type (wpAny_pure ⟨_,rfl,"dict_valueiterator",_,⟨_,get?_push_size _ rfl,rfl⟩,PySem.F.slot_dict_valueiterator_next.lookup,by simpa [rawInt] using q⟩)
def d5z{Q:Option Value->Shared->Prop}(hit:s.heap.IsValIter it d i es.size ep)(x:RD s.heap d es ep)(hlt:i < es.size)
  (q:∀ h',h'.IsValIter it d (i + 1) es.size ep->Heap.SameBut it s.heap h'->Q (some es[i].val) { s with heap:=h' }):wpAny (model prog w) A (pyNext (.ref it)) Q E s:=by
 obtain⟨o,ho,hc,hd⟩:=id hit;obtain⟨od,hod,hcd,hdd⟩:=id x;unfold pyNext;refine wpAny_bind (wpAny_attempt (wpAny_callSpecial?_slot (name:=Str.ofString "__next__") hit.typeIs PySem.F.slot_dict_valueiterator_next (wpAny_call_entry PySem.F.slot_dict_valueiterator_next hit.typeIs PySem.F.entry_dict_valueiterator_next ?_ (PySem.F.args_dict_valueiterator_next_1 _))));refine wpAny_bind (wpAny_pure (wpAny_bind (wpAny_bind (wpAny_bind (wpAny_typeNameOfWhole_valiter hit.typeIs (wpAny_pure (wpAny_bind (wpAny_fieldsOf ho hd ?_))))))));simp only [b4n,false_eq_true,if_false];show wpAny _ _ (if (Value.ref d == Value.none)=true then _ else _) _ _ s;rw [if_neg (show ¬ ((Value.ref d == Value.none)=true) from Bool.false_ne_true)];refine wpAny_bind (wpAny_pure (wpAny_bind (wpAny_dictEntries hod hdd ?_)));rw [if_neg 'c'];refine wpAny_bind (wpAny_pure (wpAny_bind (wpAny_dictEpoch hod hdd ?_)));rw [if_neg 'c'];refine wpAny_pure ?_;simp only [show ¬ ((i:Int) < 0) from by omega,if_false,toNat_natCast,Array.getElem?_eq_getElem hlt];refine wpAny_bind (wpAny_bind (wpAny_typeNameOfWhole_valiter hit.typeIs (wpAny_pure (wpAny_bind (wpAny_isOneOf_valiter hit.typeIs ?_)))));show wpAny _ _ (setField (.ref it) 1 (rawInt ((i:Int) + 1)) >>= _) _ _ s;refine wpAny_bind (wpAny_setField ho hd 'c' ?_);have it2:(s.heap.update it (Obj.mapFields (·.setIfInBounds 1 (rawInt ((i:Int) + 1))))).IsValIter it d (i + 1) es.size ep:=⟨_,get?_update_self _ ho (Obj.isFreed_of_fields (Obj.data_mapFields hd _)),(Obj.cls_mapFields ..).trans hc,by rw [Obj.data_mapFields hd];simp [rawInt]⟩;refine wpAny_bind (wpAny_holding (wpAny_bind (wpAny_isOneOf_valiter (s:={ s with heap:=s.heap.update it (Obj.mapFields (·.setIfInBounds 1 (rawInt ((i:Int) + 1)))) }) it2.typeIs ?_)));rw [if_neg 'd'];refine wpAny_bind (wpAny_isOneOf_valiter (s:={ s with heap:=s.heap.update it (Obj.mapFields (·.setIfInBounds 1 (rawInt ((i:Int) + 1)))) }) it2.typeIs ?_);show wpAny _ _ (pure es[i].val) _ _ _;exact wpAny_pure (wpAny_pure ⟨_,rfl,wpAny_pure (q _ it2 (Heap.SameBut.update ..))⟩)
def e1a{Q:Option Value->Shared->Prop}(hh:A.handled=none)(hit:s.heap.IsValIter it d i es.size ep)(x:RD s.heap d es ep)(hge:es.size <= i)(q:∀ h',Heap.ExtBut it s.heap h'->Q none { s with heap:=h' }):wpAny (model prog w) A (pyNext (.ref it)) Q E s:=by
 obtain⟨o,ho,hc,hd⟩:=id hit;obtain⟨od,hod,hcd,hdd⟩:=id x;unfold pyNext;refine wpAny_bind (wpAny_attempt (wpAny_callSpecial?_slot (name:=Str.ofString "__next__") hit.typeIs PySem.F.slot_dict_valueiterator_next (wpAny_call_entry PySem.F.slot_dict_valueiterator_next hit.typeIs PySem.F.entry_dict_valueiterator_next ?_ (PySem.F.args_dict_valueiterator_next_1 _))));refine wpAny_bind (wpAny_pure (wpAny_bind (wpAny_bind (wpAny_bind (wpAny_typeNameOfWhole_valiter hit.typeIs (wpAny_pure (wpAny_bind (wpAny_fieldsOf ho hd ?_))))))));simp only [b4n,false_eq_true,if_false];show wpAny _ _ (if (Value.ref d == Value.none)=true then _ else _) _ _ s;rw [if_neg (show ¬ ((Value.ref d == Value.none)=true) from Bool.false_ne_true)];refine wpAny_bind (wpAny_pure (wpAny_bind (wpAny_dictEntries hod hdd ?_)));rw [if_neg 'c'];refine wpAny_bind (wpAny_pure (wpAny_bind (wpAny_dictEpoch hod hdd ?_)));rw [if_neg 'c'];refine wpAny_pure ?_;simp only [show ¬ ((i:Int) < 0) from by omega,if_false,toNat_natCast,getElem?_eq_none hge];refine wpAny_bind (wpAny_bind (wpAny_typeNameOfWhole_valiter hit.typeIs (wpAny_pure ?_)));show wpAny _ _ (setField (.ref it) 0 .none >>= _) _ _ s;refine wpAny_bind (wpAny_setField ho hd 'c' ?_);show wpAny _ _ (newExc (.type "StopIteration") [] >>= _) _ _ _;refine wpAny_bind ?_;simp only [newExc,newTuple];refine wpAny_bind (wpAny_newObj_type (wpAny_bind (m:=firstArgMember _ _) (wpAny_of_eq (a:=Value.none) (by first | rfl | (simp only [firstArgMember];rfl)) (wpAny_newObj_type ?_ (by size_fits)))) (by size_fits));simp only [raiseNew];refine wpAny_bind (wpAny_handled ?_);rw [show A.in1.handled=none from hh];refine wpAny_bind (wpAny_pure (wpAny_throw ?_));refine wpAny_bind (wpAny_isInstance (T:="StopIteration") (b:=true) ⟨_,get?_push_size _ rfl,rfl⟩ isSubtype_stop ?_);exact wpAny_pure (q _ (((Heap.SameBut.update ..).extBut.push _).push _))
end
end Kd
end
section
namespace L2
open PySem PySem.Spec PyProof.Rows Kd
def fzq(d:Addr)(o:Obj)(h:Heap):Prop:=h.get? d=some o
noncomputable def Itvx(d:Addr)(o:Obj)(vs:List V):It:=⟨fun i H=>i < vs.length/\H d=some (.ext (fzq d o)),fun i H x H'=>H'=H/\vs[i]? = some x,fun i H=>vs.length <= i/\H d=some (.ext (fzq d o))⟩
def c3r{P:Program}{w:World}{K:W.Frag}{tg:Expr}(d it:Addr)(o:Obj)(vs:List V)(es:Array DictEntry)(ep:Nat)(hv:Vals vs (es.toList.map (·.val)))(hd:∀ h:Heap,h.get? d=some o->RD h d es ep) :
  Turn P w K tg (Itvx d o vs) [it] it (fun i h=>h.IsValIter it d i es.size ep) where
 mem:=by simp
 obj:=fun i h st b hb=>by
  have e:b=it:=by simpa using hb
  subst e;obtain⟨o,e,c,dd⟩:=st;exact⟨o,e,fun v z=>by rw [dd] at z;cases z⟩
 keep:=fun i h h' st k=>by
  obtain⟨o,e,r⟩:=st;exact⟨o,k it 'c' o e,r⟩
 item:=by
  intro X hP hw hK hc i pins s σ H E I hf st hg;subst hP hw hK;have hl:vs.length=es.size:=by have:=hv.length;simpa using this
  have hg1:i < vs.length:=hg.1;have hi:i < es.size:=by omega
  obtain⟨x,hx⟩:∃ x,vs[i]? = some x:=⟨_,getElem?_eq_getElem hg.1⟩;obtain⟨u',hu',ru⟩:=hv.get hx;rw [getElem?_map,getElem?_toList,Array.getElem?_eq_getElem hi] at hu';cases hu';obtain⟨f0,f1,f2,f3,f4,f5⟩:=hf it 'c';have hod:s.heap.get? d=some o:=(I.hok d _ hg.2).1;refine d5z st (hd _ hod) hi fun h' st' sb=>?_;have I1:Inv X pins σ H { s with heap:=h' }:=I.turned (t':=s.toks) (fun b o hb e=>(sb.2 b hb).trans e) f0 f1 f3 f4 f5;obtain⟨o,e,c,d'⟩:=id st';exact⟨_,rfl,b6e (s:={ s with heap:=h' }) e c d' 'd' ⟨x,H,I1,ru,⟨rfl,hx⟩,st',fun b hb=>(hf b hb).1⟩⟩
 done:=by
  intro X hP hw hK hc i pins s σ H E I hf st hg;subst hP hw hK;have hl:vs.length=es.size:=by have:=hv.length;simpa using this
  obtain⟨f0,f1,f2,f3,f4,f5⟩:=hf it 'c';have hod:s.heap.get? d=some o:=(I.hok d _ hg.2).1;have hg1:vs.length <= i:=hg.1;exact e1a (I.ok.hd hc) st (hd _ hod) 'o' fun h' eb=>⟨rfl,I.turned (t':=s.toks) (fun b o hb e=>eb b o hb e) f0 f1 f3 f4 f5⟩
 self:=fun _ _ _ _ _ st h=>wpAny_pyIter_valiter st h
def b3l:∀ {xs:List KX} {us:List (PyData × Addr × Value)},Paired KF xs us->Vals (xs.map (·.2.2)) (us.map (·.2.2))
 | _,_,.nil=>.nil
 | _,_,.cons h t=>.cons h.2.2 (b3l t)
def c6v(P:Program)(w:World)(K:W.Frag)(td:TE):TI:=fun σ H R=>td σ H fun x H1=>∃ d ks,x=.ref d/\DX P w K H1 d ks/\∀ o,R (Itvx d o (ks.map (·.2.2))) (upd H1 d (.ext (fzq d o)))
def d0i{X:Cx}{tg o:Expr}{td:TE}{apos cpos:Pos}(ho:PE X o td)
  (hbase:attributeBase o "values" X.env (eval o X.env)=eval o X.env:=by rfl) (hline:(apos.endLine == cpos.line)=true:=by rfl):PI X tg (.Call (.Attribute o "values" apos) [] [] cpos) (c6v X.prog X.w X.K td):=by
 intro pins s σ H R I h;refine wpAny_Call_method0_late hbase hline (thn (ho pins s σ H _ I h) fun v s1 ⟨x,H1,I1,r1,d,ks,ex,⟨hd,hko⟩,q⟩=>?_);subst ex;cases r1;obtain⟨lo,hz,us,rel,ob,es,ep,hob,hx,hdat,he,nd⟩:=(show dxq X.prog X.w d ks s1.heap from(I1.hok d _ hd).1);have rd:∀ h:Heap,h.get? d=some ob->RD h d es ep:=fun h e=>⟨ob,e,hx,hdat⟩;have hv:Vals (ks.map (·.2.2)) (es.toList.map (·.val)):=by
  rw [he,map_map];exact b3l rel
 have h1:s1.TypeIs (.ref d) "dict":=⟨ob,hob,hx.1⟩;refine⟨"dict","dict.values",PySem.F.plainAttrs_dict,PySem.F.slot_dict_values,PySem.F.type_dict_values,h1,fun a e=>by cases e;exact⟨ob,hob,hx.2.1⟩,Calls.callWith_builtin rfl (PySem.evalArgs_none ?_)⟩;refine call_meetsIn PySem.F.slot_dict_values h1 PySem.F.entry_dict_values (PySem.F.args_dict_values_1 _) (d0h d lo) ⟨⟨es,ep,rd _ hob⟩,?_⟩;have I2:Inv X pins σ H1 { s1 with heap:=s1.heap.push { cls:=.type "dict_values",data:=.fields #[.ref d] } }:=I1.kept (t':=s1.toks) fun b o e=>get?_push_of_some _ e;have hob2:(s1.heap.push { cls:=.type "dict_values",data:=.fields #[.ref d] }).get? d=some ob:=get?_push_of_some _ hob;refine d5y (s:={ s1 with heap:=s1.heap.push { cls:=.type "dict_values",data:=.fields #[.ref d] } }) ⟨_,get?_push_size _ rfl,rfl,rfl⟩ (rd _ hob2) ?_;have I3:Inv X pins σ H1 { s1 with heap:=(s1.heap.push { cls:=.type "dict_values",data:=.fields #[.ref d] }).push { cls:=.type "dict_valueiterator",data:=.fields #[.ref d,.int 0 0,.int es.size 0,.int ep 0] } }:=I2.kept (t':=s1.toks) fun b o e=>get?_push_of_some _ e;have hob3:=get?_push_of_some { cls:=.type "dict_valueiterator",data:=.fields #[.ref d,.int 0 0,.int es.size 0,.int ep 0] } hob2;have I4:=a8p (ob:=.ext (fzq d ob)) (t':=s1.toks) I3 (by rw [hd];exact True.intro) (Heap.SameBut.refl d _) ⟨ob,hob3⟩ ⟨hob3,⟨ob,hob3⟩,fun _ _ e k=>k _ e⟩;refine⟨(s1.heap.push { cls:=.type "dict_values",data:=.fields #[.ref d] }).objs.size,[(s1.heap.push { cls:=.type "dict_values",data:=.fields #[.ref d] }).objs.size],_,Itvx d ob (ks.map (·.2.2)),_,rfl,I4,c3r d _ ob _ es ep hv rd,⟨_,get?_push_size _ rfl,rfl,rfl⟩,fun b hb=>?_,q ob⟩;have e:b=(s1.heap.push { cls:=.type "dict_values",data:=.fields #[.ref d] }).objs.size:=by simpa using hb
 subst e;have hn:=I2.hok.fresh (le_refl (s1.heap.push { cls:=.type "dict_values",data:=.fields #[.ref d] }).objs.size);exact I2.fpOk 'b' (by rw [a0b (fun z=>by rw [z,hd] at hn;cases hn)];exact hn)
end L2
end
namespace L2
open PySem PySem.Spec PyProof.Rows
section
def AdQ(K:W.Frag)(i:Nat)(t:TS)(dt:TPt):Prop:=∀ (c:Rc) (O:Own) (ρ:Rho) (σ:St) (H:Hp) (D:Ends) (p:Addr) (κ:List (Key × V)) (ν:List (Key × PyData)) (N:Rho->List (Key × PyData)->Prop),
 PinK K c p κ i O ρ σ H->a0m K H (live (c.reb O p H) O) (ν.map kD) κ->(∀ q,c.H0 q=none->c.A q)->dt N ρ ν ->
 (∀ (O':Own) (ρ':Rho) (σ':St) (H':Hp) (κ':List (Key × V)) (ν':List (Key × PyData)),PinK K c p κ' i O' ρ' σ' H'->a0m K H' (live (c.reb O' p H') O') (ν'.map kD) κ'->Pers K (live (c.reb O p H) O) H (live (c.reb O' p H') O') H'->N ρ' ν'->D.nx σ' H')->t D σ H
end
end L2
section
namespace L2
open PySem PySem.Spec PyProof.Rows Kd
def Room.units80{k:Nat}{A:Around}(r:Room k A):A.units + 80 < cLine:=by have:=r.un;omega
structure PinX(K:W.Frag)(c:Rc)(p:Addr)(φ:Heap->Prop)(i:Nat)(O:Own)(ρ:Rho)(σ:St)(H:Hp):Prop where
 rel:Rel K (c.reb O p H) O ρ σ H
 at_:H p=some (.ext φ)
 slot:σ[i]? = some (some (.ref p))
 nul:ρ[i]? = some none
 bA:∀ j q,O j=some q->c.A q
 bS:∀ b o,¬ c.M b->c.H0 b=some o->H b=some o
 bK:∀ b,c.H0 b ≠ none->H b ≠ none
 bM:∀ q,c.M q->∃ vs,H q=some (.lst vs)
 am:∀ q,c.A q->c.M q ∨ c.H0 q=none
 frs:∀ q,c.H0 q=none->c.S q
 fr0:c.H0 p=none
 np:¬ c.P p
def b8l(t:List Int):kd 8 (encT t)=true:=by
 show(t.map PyData.int).all (kd 7)=true;refine all_eq_true.mpr fun d hd=>?_;obtain⟨n,_,rfl⟩:=mem_map.mp hd;rfl
structure KeysOk(K:W.Frag)(H:Hp)(ks:List KX)(tss:List 'g'):Prop where
 e:ks.map (·.1)=tss.map encT
 k:∀ x ∈ ks,KOk K H x.1 x.2.1
abbrev TPx:=(Rho->List 'g'->Prop)->Rho->List 'g'->Prop
section
variable{P:Program}{w:World}{K:W.Frag}{i:Nat}
def c6w(P:Program)(w:World):TE:=fun _ H Q=>∀ p,H p=none->Q (.ref p) (upd H p (.ext (dxq P w p [])))
end
section
variable{X:Cx}{i:Nat}{st:Stmt}{kE vE tg iter:Expr}{body:List Stmt}{x:Str}{dk dv:TDE}{db dt:TPx}{di:TDI}{dg:TDG}{pos p1 p2 p3 p4 p5 p6 p7 p8 p9:Pos}
def b2n:PE X (.Dict [] [] pos) (c6w X.prog X.w):=fun pins s σ H Q I h =>
 wpAny_Dict_empty ⟨.ref s.heap.objs.size,_,I.laid (a:=s.heap.objs.size) (o:=.ext (dxq X.prog X.w s.heap.objs.size [])) (t':=s.toks) (fun _ _ q=>get?_push_of_some _ q) 'b'
  (b8h ⟨beq_eq_false_iff_ne.mpr (Ne.symm (ne_of_lt I.big)),zero_le _,[],.nil,_,_,_,get?_push_size _ rfl,⟨rfl,rfl,rfl⟩,rfl,rfl,List.Pairwise.nil⟩),rfl,h _ (I.hok.fresh 'b')⟩
end
end L2
end
section
namespace L2
open PySem PySem.Spec PyProof.Rows Kd
def tBMX(P:Program)(w:World)(K:W.Frag)(r:V->List V->Hp->VK->Prop)(to:TE)(t:TA):TE:=fun σ H Q=>to σ H fun x H1=>(∃ d ks,x=.ref d/\DX P w K H1 d ks)/\t σ H1 fun xs H2=>r x xs H2 Q
def e1b{X:Cx}{o e:Expr}{es:List Expr}{to:TE}{t:TA}{name:Str}{apos cpos:Pos}{id:String}{r:V->List V->Hp->VK->Prop} (slot:Slot "dict" name id) (hty:typeOf (.builtin id)=pure (.type "method_descriptor")) (hm:MtR X id r) (ho:PE X o to) (ha:PA X (e :: es) t)
  (hbase:attributeBase o name X.env (eval o X.env)=eval o X.env:=by rfl)
  (hfew:((backTo cpos (starEach (e :: es) X.env)).all (fun x=>!x.1) && (backToKw cpos (keywordEach [] X.env)).all (fun x=>x.1.isSome)
   && decide ((e :: es).length + ([]:List Keyword).length + (if ([]:List Keyword).isEmpty then 0 else 1) < 30))=true:=by rfl)
  (hline:(apos.endLine == cpos.line)=true:=by rfl) (hs:starEach (e :: es) X.env=(false,eval e X.env) :: starEach es X.env:=by rfl) (hplain:(backTo cpos (starEach es X.env)).any (·.1)=false:=by rfl) :
  PE X (.Call (.Attribute o name apos) (e :: es) [] cpos) (tBMX X.prog X.w X.K r to t):=by
 intro pins s σ H Q I h;refine wpAny_Call_method_late hbase hfew hline rfl (thn (ho pins s σ H _ I h) fun v s1 ⟨x,H1,I1,r1,⟨d,ks,ex,hd,_⟩,q1⟩=>?_);subst ex;cases (show v=.ref d from r1);obtain⟨_,_,_,_,ob,_,_,hob,hx,_⟩:=(show dxq X.prog X.w d ks s1.heap from(I1.hok d _ hd).1);refine⟨"dict",id,PySem.F.plainAttrs_dict,slot,hty,⟨ob,hob,hx.1⟩,fun a e=>by cases e;exact⟨ob,hob,hx.2.1⟩,?_⟩;have hA:=ha cpos pins s1 σ H1 _ I1 q1;rw [hs] at hA ⊢;refine Calls.callWith_builtin (by show(false || (backTo cpos (starEach es X.env)).any (·.1))=false;rw [hplain]<;>rfl) (Calls.evalArgs_plain ?_);exact thn hA fun us s2 hq8=>by obtain⟨vs,H2,I2,r2,q2⟩:=hq8;exact hm pins s2 σ H2 (.ref d) vs _ us Q I2 rfl r2 q2
def KOk.keep{K:W.Frag}{H H':Hp}{t:List Int}{a:Addr}(h:KOk K H (encT t) a)(k:Keep (fun _=>False) H H'):KOk K H' (encT t) a:=
 by obtain⟨h1,h2,_,h3⟩:=h;exact⟨h1,h2,fun _=>False,AtD.mono k _ _ (AtD.tups _ _ (a2e t) h3)⟩
noncomputable def gAdX(L:List (List Int × List Nat))(m:List Int)(i:Nat):List (List Int × List Nat):=if (L.any fun t=>decide (t.1=m))=true then L.map (fun t=>if t.1=m then(t.1,t.2 ++ [i]) else t) else L ++ [(m,[i])]
noncomputable def gNX(ms:List 'g'):Nat->List (List Int × List Nat)
 | 0=>[]
 | n + 1=>match ms[n]? with
  | some m=>gAdX (gNX ms n) m n
  | none=>gNX ms n
noncomputable def gDX(ms:List 'g'):List 'g':=(gNX ms ms.length).map fun t=>t.2.map fun(c:Nat)=>(c:Int)
abbrev TGX:=List (List Int × Addr × Addr × List Nat)
noncomputable def kTX(T:TGX):List KX:=T.map fun t=>(encT t.1,t.2.1,V.ref t.2.2.1)
structure PBX(P:Program)(w:World)(K:W.Frag)(H:Hp)(p:Addr)(ms:List 'g')(i:Nat)(T:TGX)(H':Hp):Prop where
 eq:(T.map fun t=>(t.1,t.2.2.2))=gNX ms i
 dk:H' p=some (.ext (dxq P w p (kTX T)))
 ky:∀ t ∈ T,KOk K H' (encT t.1) t.2.1
 at_:∀ t ∈ T,H' t.2.2.1=some (.lst (nV t.2.2.2))/\H t.2.2.1=none/\t.2.2.1 ≠ p
 nq:(T.map (·.2.2.1)).Nodup
 nm:(T.map (·.1)).Nodup
 len:T.length <= i
 pl:∀ t ∈ T,t.2.2.2 ≠ []/\t.2.2.2.length <= i
 same:Same H H'
def d0j{a b:List Int}(h:encT a=encT b):a=b:=by
 have:=congrArg Sx.dT h
 rwa [Sx.b8j,Sx.b8j] at this
def gfX{T:TGX}{m:List Int}:(∀ v,valX (kTX T) (encT m)=some v->∃ t ∈ T,t.1=m/\v=.ref t.2.2.1)/\(valX (kTX T) (encT m)=none->∀ t ∈ T,t.1 ≠ m):=by
 unfold valX kTX;refine⟨fun v h=>?_,fun h t ht e=>?_⟩
 ·obtain⟨x,hx,e⟩:=map_eq_some_iff.mp h
  obtain⟨t,ht,rfl⟩:=mem_map.mp (List.mem_of_find?_eq_some hx);have hp:=List.find?_some hx;exact⟨t,ht,d0j (of_decide_eq_true hp),e.symm⟩
 ·rw [Option.map_eq_none_iff,List.find?_eq_none] at h
  exact h _ (mem_map.mpr ⟨t,ht,rfl⟩) (decide_eq_true (by rw [e]))
noncomputable def a1d(m:List Int)(i:Nat)(u:List Int × Addr × Addr × List Nat):List Int × Addr × Addr × List Nat:=if u.1=m then(u.1,u.2.1,u.2.2.1,u.2.2.2 ++ [i]) else u
def a1w(m:List Int)(i:Nat)(u:List Int × Addr × Addr × List Nat):(a1d m i u).1=u.1/\(a1d m i u).2.1=u.2.1/\(a1d m i u).2.2.1=u.2.2.1:=by
 unfold a1d;split<;>exact⟨rfl,rfl,rfl⟩
section
variable{P:Program}{w:World}{K:W.Frag}{H H' H1:Hp}{p:Addr}{ms:List 'g'}{i:Nat}{T:TGX}{m:List Int}
def PBX.dx(B:PBX P w K H p ms i T H')(s:Same H' H1):DX P w K H1 p (kTX T):=⟨s _ _ B.dk,fun x hx=>by
 obtain⟨t,ht,rfl⟩:=mem_map.mp hx;exact(B.ky t ht).keep s.keep⟩
def PBX.old(B:PBX P w K H p ms i T H')(hm:ms[i]? = some m)(s:Same H' H1){t:List Int × Addr × Addr × List Nat}(ht:t ∈ T)(et:t.1=m):PBX P w K H p ms (i + 1) (T.map (a1d m i)) (upd H1 t.2.2.1 (.lst (nV (t.2.2.2 ++ [i])))):=by
 have k1:(T.map (a1d m i)).map (·.2.2.1)=T.map (·.2.2.1):=by rw [map_map];exact map_congr_left fun u _=>(a1w m i u).2.2
 have k2:(T.map (a1d m i)).map (·.1)=T.map (·.1):=by rw [map_map];exact map_congr_left fun u _=>(a1w m i u).1
 have k3:kTX (T.map (a1d m i))=kTX T:=by
  unfold kTX;rw [map_map];exact map_congr_left fun u _=>by show(encT (a1d m i u).1,(a1d m i u).2.1,V.ref (a1d m i u).2.2.1)=_;rw [(a1w m i u).1,(a1w m i u).2.1,(a1w m i u).2.2]
 have hl:=s _ _ (B.at_ t ht).1;have kp:Keep (fun _=>False) H' (upd H1 t.2.2.1 (.lst (nV (t.2.2.2 ++ [i])))):=⟨fun c ys h=>by rw [a0b (fun z=>by rw [z,(B.at_ t ht).1] at h;cases h)];exact s _ _ h,fun c o u h=>by rw [a0b (fun z=>by rw [z,(B.at_ t ht).1] at h;cases h)];exact s _ _ h,fun _ _ z=>z.elim⟩;refine⟨?_,?_,fun u hu=>?_,fun u hu=>?_,by rw [k1];exact B.nq,by rw [k2];exact B.nm,by rw [length_map];exact Nat.le_succ_of_le B.len,fun u hu=>?_,fun b o h=>?_⟩
 ·show _=(match ms[i]? with | some m=>gAdX (gNX ms i) m i | none=>gNX ms i)
  rw [hm];show _=gAdX (gNX ms i) m i;unfold gAdX;rw [← B.eq,if_pos (by rw [List.any_eq_true];exact⟨(t.1,t.2.2.2),mem_map.mpr ⟨t,ht,rfl⟩,decide_eq_true et⟩),map_map,map_map];refine map_congr_left fun u _=>?_;show((a1d m i u).1,(a1d m i u).2.2.2)=if u.1=m then(u.1,u.2.2.2 ++ [i]) else(u.1,u.2.2.2)
  unfold a1d;split<;>rfl
 ·rw [a0b (Ne.symm (B.at_ t ht).2.2),k3];exact s _ _ B.dk
 ·obtain⟨u0,hu0,rfl⟩:=mem_map.mp hu
  rw [(a1w m i u0).1,(a1w m i u0).2.1];exact(B.ky u0 hu0).keep kp
 ·obtain⟨u0,hu0,rfl⟩:=mem_map.mp hu
  obtain⟨a1,a2,a3⟩:=B.at_ u0 hu0;rw [(a1w m i u0).2.2];refine⟨?_,a2,a3⟩;by_cases e:u0.1=m
  ·have eu:u0=t:=a4y B.nm hu0 ht (e.trans et.symm)
   subst eu;rw [a0d];unfold a1d;rw [if_pos e]
  ·have nq:u0.2.2.1 ≠ t.2.2.1:=fun z=>e (by rw [a4y B.nq hu0 ht z];exact et)
   rw [a0b nq];unfold a1d;rw [if_neg e];exact s _ _ a1
 ·obtain⟨u0,hu0,rfl⟩:=mem_map.mp hu
  obtain⟨b1,b2⟩:=B.pl u0 hu0;unfold a1d;split
  ·exact⟨by simp,by simp;omega⟩
  ·exact⟨b1,'o'⟩
 ·rw [a0b (fun z=>by rw [z,(B.at_ t ht).2.1] at h;cases h)];exact s _ _ (B.same _ _ h)
def PBX.new(B:PBX P w K H p ms i T H')(hp:H p=none)(hm:ms[i]? = some m)(s:Same H' H1){q b:Addr}(hb:KOk K H1 (encT m) b)(hq:H1 q=none)(hn:valX (kTX T) (encT m)=none) :
  PBX P w K H p ms (i + 1) (T ++ [(m,b,q,[i])]) (upd (upd (upd H1 q (.lst [])) p (.ext (dxq P w p (kTX T ++ [(encT m,b,.ref q)])))) q (.lst (nV [i]))):=by
 have nn:=gfX.2 hn;have hq':H' q=none:=by cases e:H' q with | none=>rfl | some o=>(rw [s _ _ e] at hq;cases hq)
 have hq0:H q=none:=by cases e:H q with | none=>rfl | some o=>(rw [B.same _ _ e] at hq';cases hq')
 have qp:q ≠ p:=fun z=>by rw [z,B.dk] at hq';cases hq'
 have nqt:∀ t ∈ T,t.2.2.1 ≠ q:=fun t ht z=>by have:=(B.at_ t ht).1;rw [z,hq'] at this;cases this
 have hpx:=s _ _ B.dk;have kp:Keep (fun _=>False) H1 (upd (upd (upd H1 q (.lst [])) p (.ext (dxq P w p (kTX T ++ [(encT m,b,.ref q)])))) q (.lst (nV [i]))):=by
  have st:∀ c o,H1 c=some o->(∀ φ,o ≠ .ext φ)->upd (upd (upd H1 q (.lst [])) p (.ext (dxq P w p (kTX T ++ [(encT m,b,.ref q)])))) q (.lst (nV [i])) c=some o:=fun c o h n=>by
   have n1:c ≠ q:=fun z=>by rw [z,hq] at h;cases h
   have n2:c ≠ p:=fun z=>by rw [z,hpx] at h;cases h;exact n _ rfl
   rw [a0b n1,a0b n2,a0b n1];exact h
  exact⟨fun c ys h=>st _ _ h (fun _ z=>nomatch z),fun c o u h=>st _ _ h (fun _ z=>nomatch z),fun _ _ z=>z.elim⟩
 have kp':Keep (fun _=>False) H' H1:=s.keep;refine⟨?_,?_,fun u hu=>?_,fun u hu=>?_,?_,?_,by simp;exact B.len,fun u hu=>?_,fun c o h=>?_⟩
 ·show _=(match ms[i]? with | some m=>gAdX (gNX ms i) m i | none=>gNX ms i)
  rw [hm];show _=gAdX (gNX ms i) m i;unfold gAdX;rw [← B.eq,if_neg,map_append]
  ·rfl
  ·rw [List.any_eq_true]
   rintro⟨x,hx,e⟩;obtain⟨t,ht,rfl⟩:=mem_map.mp hx;exact nn t ht (of_decide_eq_true e)
 ·rw [a0b (Ne.symm qp),a0d]
  unfold kTX;rw [map_append];rfl
 ·rcases mem_append.mp hu with h | h
  ·exact((B.ky u h).keep kp').keep kp
  ·cases mem_singleton.mp h
   exact hb.keep kp
 ·rcases mem_append.mp hu with h | h
  ·obtain⟨a1,a2,a3⟩:=B.at_ u h
   exact⟨by rw [a0b (nqt u h),a0b a3,a0b (nqt u h)];exact s _ _ a1,a2,a3⟩
  ·cases mem_singleton.mp h
   exact⟨a0d,hq0,qp⟩
 ·rw [map_append,nodup_append]
  refine⟨B.nq,by simp,fun x hx y hy z=>?_⟩;obtain⟨t,ht,rfl⟩:=mem_map.mp hx;have:y=q:=by simpa using hy
  exact nqt t ht (z.trans this)
 ·rw [map_append,nodup_append]
  refine⟨B.nm,by simp,fun x hx y hy z=>?_⟩;obtain⟨t,ht,rfl⟩:=mem_map.mp hx;have:y=m:=by simpa using hy
  exact nn t ht (z.trans this)
 ·rcases mem_append.mp hu with h | h
  ·obtain⟨b1,b2⟩:=B.pl u h
   exact⟨b1,'o'⟩
  ·cases mem_singleton.mp h
   exact⟨by simp,by simp⟩
 ·have n1:c ≠ q:=fun z=>by rw [z,hq0] at h;cases h
  have n2:c ≠ p:=fun z=>by rw [z,hp] at h;cases h
  rw [a0b n1,a0b n2,a0b n1];exact s _ _ (B.same _ _ h)
def c3s{d:Addr}{o:Obj}{vs:List V}{σ:St}{H:Hp}{go:V->St->Hp->(St->Hp->Prop)->Prop}{done:St->Hp->Prop}(Pv:Nat->St->Hp->Prop)(h0:Pv 0 σ H)(hl:∀ i σ H,i <= vs.length->Pv i σ H->H d=some (.ext (fzq d o)))
  (hs:∀ i x σ H,vs[i]? = some x->Pv i σ H->go x σ H (Pv (i + 1))) (hd:∀ σ H,Pv vs.length σ H->done σ H):b1c (Itvx d o vs) σ H go done:=by
 refine⟨fun i m σ H=>m=vs.length - i/\i <= vs.length/\Pv i σ H,⟨vs.length,by simp,zero_le _,h0⟩,?_⟩;rintro i m σ H ⟨rfl,hi,p⟩;have q:=hl i σ H hi p;by_cases hlt:i < vs.length
 ·refine .inr ⟨⟨hlt,q⟩,Pv (i + 1),fun σ' H' p'=>⟨vs.length - (i + 1),'o',rfl,hlt,p'⟩,fun x H' y=>?_⟩
  obtain⟨rfl,y⟩:=y;exact hs i x σ _ y p
 ·have e:i=vs.length:=by omega
  subst e;exact .inl ⟨⟨le_refl _,q⟩,hd σ H p⟩
end
end L2
end
section
namespace Sx
open PySem PySem.W PyProof.Rows
def pvId(n:String):Lean.Syntax:=let f:=Lean.mkPrivateNameCore `PySem.Builtin.List.W1All (`PySem.Builtin ++ n.toName);Lean.Syntax.ident .none n.toSubstring f [.decl f []]
local macro_rules | `(tactic| walk_at "pv gallop") => `(tactic| delta $(⟨pvId "gallop"⟩))
local macro_rules | `(tactic| walk_at "pv setMin") => `(tactic| delta $(⟨pvId "setMinGallop"⟩))
def IP(s:Shared)(md:Option 'l')(x:Keyed):Prop:=match md with
 | none=>∃ a t,x=(.int a t,.int a t)
 | some m=>∃ v t,x=(v,v)/\v ∈ m.2/\TupAt s.heap v t
noncomputable def kdm:Option 'l'->SortKind
 | none=>oneType'
 | some m=>tuples' m.1
def IPs(s:Shared)(md:Option 'l')(xs:Array Keyed):Prop:=∀ x ∈ xs,IP s md x
structure Sf(s:Shared)(md:Option 'l')(n:Nat)(p:Array 'h')(st:SortSt):Prop where
 k:kindOf st=kdm md
 z:(arrOf st).size=n
 ip:IPs s md (arrOf st)
 f:failedOf st=none
 p:pendingOf st=p
section
variable{prog:Program}{w:World}{A:Around}{E:Value->Shared->Prop}{s:Shared}{md:Option 'l'}{st:SortSt}
def s_lt{x y:Keyed}{Q:Option Bool->SortSt->Prop}(hx:IP s md x)(hy:IP s md y)(hk:kindOf st=kdm md)(h:∀ b,Q (some b) st):wpS (model prog w) A E s ((sortPriv% PySem.Builtin.lt) x y) Q st:=by
 show wpS _ _ _ _ (lt' _ _) _ _;rw [lt'_eq];refine wpS_bind (wpS_get ?_);rw [hk];cases md with
 | none =>
  obtain⟨a,t,rfl⟩:=hx;obtain⟨b,u,rfl⟩:=hy;show wpS _ _ _ _ (liftM (keyLt' oneType' _ _).attempt >>= _) _ _;rw [keyLt'_oneType];exact wpS_bind (wpS_lift (wpAny_attempt (oneLt_int ⟨rfl,wpS_pure (h _)⟩)))
 | some b =>
  obtain⟨v,t,rfl,_,hv⟩:=hx;obtain⟨v',t',rfl,_,hv'⟩:=hy;exact wpS_bind (wpS_lift (wpAny_attempt (e0n hv hv' fun c=>⟨rfl,wpS_pure (h _)⟩)))
def a0k{xs:Array Keyed}{i:Nat}{Q:Keyed->SortSt->Prop}(hi:i < xs.size)(hx:IPs s md xs)(h:∀ x,IP s md x->Q x st):wpS (model prog w) A E s ((sortPriv% PySem.Builtin.elem) xs i) Q st:=by
 show wpS _ _ _ _ (elem' _ _) _ _;rw [elem'_eq,getElem?_pos xs i hi];exact wpS_pure (h _ (hx _ (Array.getElem_mem hi)))
def a4c{n:Nat}{p:Array 'h'}{i j:Nat}{Q:Option Bool->SortSt->Prop}(F:Sf s md n p st)(hi:i < n)(hj:j < n)(h:∀ b,Q (some b) st):wpS (model prog w) A E s (ltAt' i j) Q st:=by
 rw [ltAt'_eq];refine wpS_bind (wpS_get ?_);exact wpS_bind (a0k (by rw [F.z];exact hi) F.ip fun x hx=>wpS_bind (a0k (by rw [F.z];exact hj) F.ip fun y hy=>s_lt hx hy F.k h))
def Sf.rev{n:Nat}{p:Array 'h'}(F:Sf s md n p st){xs:Array Keyed}(hp:xs.Perm (arrOf st)):Sf s md n p (setArr st xs):=
 ⟨F.k,hp.size_eq.trans F.z,fun x hx=>F.ip x (hp.mem_iff.mp hx),F.f,F.p⟩
def a6w{n:Nat}{p:Array 'h'}{i j:Nat}{Q:Unit->SortSt->Prop}(F:Sf s md n p st)(h:∀ st',Sf s md n p st'->Q () st'):wpS (model prog w) A E s (reverseSlice' i j) Q st:=by
 rw [reverseSlice'_eq];exact wpS_modify (h _ (F.rev (mirror_perm ..)))
def e1c{n:Nat}{p:Array 'h'}{i j:Nat}{Q:Unit->SortSt->Prop}(F:Sf s md n p st)(h:∀ st',Sf s md n p st'->Q () st'):wpS (model prog w) A E s (moveDown' i j) Q st:=by
 rw [moveDown'_eq];exact wpS_modify (h _ (F.rev (bubble_perm ..)))
def b8m{l:Bool}{key:Keyed}{arr:Array Keyed}{j:Nat}{Q:Option Bool->SortSt->Prop}(hkey:IP s md key)(harr:IPs s md arr)(hk:kindOf st=kdm md)(hi:j < arr.size)(h:∀ b,Q (some b) st) :
  wpS (model prog w) A E s (do
   let x ← (sortPriv% PySem.Builtin.elem) arr j
   if l=true then(sortPriv% PySem.Builtin.lt) x key else do
    let r ← (sortPriv% PySem.Builtin.lt) key x
    pure (Option.map (fun x=>!x) r)) Q st:=by
 refine wpS_bind (a0k hi harr fun x hx=>?_);cases l with
 | true=>rw [if_pos rfl];exact s_lt hx hkey hk h
 | false=>rw [if_neg Bool.false_ne_true];exact wpS_bind (s_lt hkey hx hk fun b=>wpS_pure (h _))
def a1v{l:Bool}{key:Keyed}{arr:Array Keyed}{base n hint:Nat}{Q:Option Nat->SortSt->Prop}(hkey:IP s md key)(harr:IPs s md arr)(hk:kindOf st=kdm md)(hb:base + n <= arr.size)(hh:hint < n)(h:∀ k,k <= n->Q (some k) st) :
  wpS (model prog w) A E s ((sortPriv% PySem.Builtin.gallop) l key arr base n hint) Q st:=by
 walk_at "pv gallop"
 dsimp only
 refine wpS_bind (b8m hkey harr hk 'o' fun right=>?_);have B:∀ i (Q':Option Bool->SortSt->Prop),i < n->(∀ b,Q' (some b) st)->wpS (model prog w) A E s (do
   let x ← (sortPriv% PySem.Builtin.elem) arr (base + i)
   if l=true then(sortPriv% PySem.Builtin.lt) x key else do
    let r ← (sortPriv% PySem.Builtin.lt) key x
    pure (Option.map (fun x=>!x) r)) Q' st:=fun i Q' hi h'=>b8m hkey harr hk 'o' h'
 cases right with
 | true =>
  dsimp only
  rw [if_pos rfl];refine wpS_bind (wpS_mono (wpS_forRange (I:=fun _ c st'=>st'=st/\c.1=none) (Q:=fun c st'=>st'=st/\c.1=none) ?_ (fun _ _ h=>h) ⟨rfl,rfl⟩) ?_)
  ·rintro x ⟨r,a,o⟩ st' _ _ ⟨rfl,e⟩
   cases e
   dsimp only
   by_cases c:o ≥ n - hint
   ·rw [if_pos c];exact wpS_pure ⟨rfl,rfl⟩
   ·rw [if_neg c]
    refine wpS_bind (B _ _ 'o' fun b=>?_);cases b with
    | true=>exact wpS_pure ⟨rfl,rfl⟩
    | false=>exact wpS_pure ⟨rfl,rfl⟩
  ·rintro⟨r,a,o⟩ st' ⟨e',e⟩
   cases e
   cases e'
   dsimp only
   refine wpS_bind (wpS_mono (wpS_forRange (I:=fun _ c st'=>st'=st/\c.1=none/\c.2.2 <= n) (Q:=fun c st'=>st'=st/\c.1=none/\c.2.2 <= n) ?_ (fun _ _ h=>h) ⟨rfl,rfl,by dsimp only;omega⟩) ?_)
   ·rintro x ⟨r,l,u⟩ st' _ _ ⟨rfl,e,q⟩
    cases e
    dsimp only at q ⊢
    by_cases c:l ≥ u
    ·rw [if_pos c];exact wpS_pure ⟨rfl,rfl,q⟩
    ·rw [if_neg c]
     refine wpS_bind (B _ _ 'o' fun b=>?_);cases b with
     | true=>exact wpS_pure ⟨rfl,rfl,q⟩
     | false=>exact wpS_pure ⟨rfl,rfl,by dsimp only;omega⟩
   ·rintro⟨r,l,u⟩ st' ⟨rfl,e,q⟩
    cases e
    exact wpS_pure (h _ q)
 | false =>
  dsimp only
  rw [if_neg Bool.false_ne_true];refine wpS_bind (wpS_mono (wpS_forRange (I:=fun _ c st'=>st'=st/\c.1=none) (Q:=fun c st'=>st'=st/\c.1=none) ?_ (fun _ _ h=>h) ⟨rfl,rfl⟩) ?_)
  ·rintro x ⟨r,a,o⟩ st' _ _ ⟨rfl,e⟩
   cases e
   dsimp only
   by_cases c:o ≥ hint + 1
   ·rw [if_pos c];exact wpS_pure ⟨rfl,rfl⟩
   ·rw [if_neg c]
    refine wpS_bind (B _ _ 'o' fun b=>?_);cases b with
    | true=>exact wpS_pure ⟨rfl,rfl⟩
    | false=>exact wpS_pure ⟨rfl,rfl⟩
  ·rintro⟨r,a,o⟩ st' ⟨e',e⟩
   cases e
   cases e'
   dsimp only
   refine wpS_bind (wpS_mono (wpS_forRange (I:=fun _ c st'=>st'=st/\c.1=none/\c.2.2 <= n) (Q:=fun c st'=>st'=st/\c.1=none/\c.2.2 <= n) ?_ (fun _ _ h=>h) ⟨rfl,rfl,by dsimp only;omega⟩) ?_)
   ·rintro x ⟨r,l,u⟩ st' _ _ ⟨rfl,e,q⟩
    cases e
    dsimp only at q ⊢
    by_cases c:l ≥ u
    ·rw [if_pos c];exact wpS_pure ⟨rfl,rfl,q⟩
    ·rw [if_neg c]
     refine wpS_bind (B _ _ 'o' fun b=>?_);cases b with
     | true=>exact wpS_pure ⟨rfl,rfl,q⟩
     | false=>exact wpS_pure ⟨rfl,rfl,by dsimp only;omega⟩
   ·rintro⟨r,l,u⟩ st' ⟨rfl,e,q⟩
    cases e
    exact wpS_pure (h _ q)
def a5u{n:Nat}{p:Array 'h'}{g:Nat}{Q:Unit->SortSt->Prop}(F:Sf s md n p st)(h:∀ st',Sf s md n p st'->Q () st'):wpS (model prog w) A E s ((sortPriv% PySem.Builtin.setMinGallop) g) Q st:=by
 walk_at "pv setMin";exact wpS_modify (h _ ⟨F.k,F.z,F.ip,F.f,F.p⟩)
end
end Sx
end
section
namespace Sx
open PySem PySem.W PyProof.Rows
local macro_rules | `(tactic| walk_at "pv mergeLo") => `(tactic| delta $(⟨pvId "mergeLo"⟩))
local macro_rules | `(tactic| walk_at "pv mergeHi") => `(tactic| delta $(⟨pvId "mergeHi"⟩))
section
variable{prog:Program}{w:World}{A:Around}{E:Value->Shared->Prop}{s:Shared}{md:Option 'l'}{st:SortSt}{N:Nat}{pd:Array 'h'}
def d6a{lo nrem:Nat}{Q:Option Nat->SortSt->Prop}(F:Sf s md N pd st)(h1:1 <= nrem)(hz:lo + nrem <= N)(h:∀ m st',1 <= m->m <= nrem->Sf s md N pd st'->Q (some m) st'):wpS (model prog w) A E s (countRun' lo nrem) Q st:=by
 rw [countRun'_eq]
 dsimp only
 refine wpS_bind (wpS_mono (wpS_forRange (I:=fun i c st'=>c.1=none/\1 <= c.2/\c.2 <= i/\Sf s md N pd st') (Q:=fun c st'=>c.1=none/\1 <= c.2/\c.2 <= nrem/\Sf s md N pd st') ?_ (fun c st' h=>⟨h.1,h.2.1,by have:=h.2.2.1;omega,h.2.2.2⟩) ⟨rfl,le_refl _,le_refl _,F⟩) ?_)
 ·rintro i ⟨r,n⟩ st' hi1 hi2 ⟨e,q1,q2,F'⟩
  cases e
  dsimp only at q1 q2 ⊢
  refine wpS_bind (a4c F' 'o' 'o' fun b=>?_);cases b with
  | true=>exact wpS_pure ⟨rfl,q1,by dsimp only;omega,F'⟩
  | false=>exact wpS_pure ⟨rfl,by dsimp only;omega,by dsimp only;omega,F'⟩
 ·rintro⟨r,n⟩ st' ⟨e,q1,q2,F'⟩
  cases e
  dsimp only at q1 q2 ⊢
  by_cases c:(n == nrem)=true
  ·rw [if_pos c];exact wpS_pure (h _ _ q1 q2 F')
  rw [if_neg c];have c':n + 1 <= nrem:=by
   have:n ≠ nrem:=fun e=>c (by rw [e];exact beq_self_eq_true _);omega
  by_cases c2:n > 1
  ·rw [if_pos c2]
   refine wpS_bind (a4c F' 'o' 'o' fun b=>?_);cases b with
   | true=>exact wpS_pure (h _ _ q1 q2 F')
   | false =>
    refine wpS_bind (a6w F' fun st3 F3=>?_);refine wpS_bind (wpS_lift (wpAny_rule ⟨rfl,?_⟩));refine wpS_bind (wpS_mono (wpS_forRange (I:=fun i c st'=>c.1=none/\1 <= c.2.1/\c.2.1 <= i/\Sf s md N pd st') (Q:=fun c st'=>c.1=none/\1 <= c.2.1/\c.2.1 <= nrem/\Sf s md N pd st') ?_ (fun c st' h=>⟨h.1,h.2.1,by have:=h.2.2.1;omega,h.2.2.2⟩) ⟨rfl,le_add_left ..,le_refl _,F3⟩) ?_)
    ·rintro i ⟨r,k,m⟩ st4 hi1 hi2 ⟨e,q1,q2,F4⟩
     cases e
     dsimp only at q1 q2 ⊢
     refine wpS_bind (a4c F4 'o' 'o' fun b=>?_);cases b with
     | true =>
      dsimp only
      rw [if_pos rfl];by_cases c3:m > 0
      ·rw [if_pos c3]
       exact wpS_bind (a6w F4 fun st5 F5=>wpS_pure ⟨rfl,le_add_left ..,succ_le_succ q2,F5⟩)
      ·rw [if_neg c3]
       exact wpS_pure ⟨rfl,le_add_left ..,succ_le_succ q2,F4⟩
     | false =>
      dsimp only
      rw [if_neg Bool.false_ne_true];refine wpS_bind (a4c F4 'o' 'o' fun b=>?_);cases b with
      | true=>exact wpS_pure ⟨rfl,q1,by dsimp only;omega,F4⟩
      | false=>exact wpS_pure ⟨rfl,le_add_left ..,succ_le_succ q2,F4⟩
    ·rintro⟨r,k,m⟩ st4 ⟨e,q1,q2,F4⟩
     cases e
     dsimp only at q1 q2 ⊢
     by_cases c3:m > 0
     ·rw [if_pos c3]
      refine wpS_bind (a6w F4 fun st5 F5=>?_);refine wpS_bind (a6w F5 fun st6 F6=>?_);refine wpS_bind (wpS_mono (wpS_forRange (I:=fun i c st'=>c.1=none/\1 <= c.2/\c.2 <= i/\Sf s md N pd st') (Q:=fun c st'=>c.1=none/\1 <= c.2/\c.2 <= nrem/\Sf s md N pd st') ?_ (fun c st' h=>⟨h.1,h.2.1,by have:=h.2.2.1;omega,h.2.2.2⟩) ⟨rfl,q1,le_refl _,F6⟩) ?_)
      ·rintro i ⟨r,n⟩ st' hi1 hi2 ⟨e,q1,q2,F'⟩
       cases e
       dsimp only at q1 q2 ⊢
       refine wpS_bind (a4c F' 'o' 'o' fun b=>?_);cases b with
       | true=>exact wpS_pure ⟨rfl,q1,by dsimp only;omega,F'⟩
       | false=>exact wpS_pure ⟨rfl,le_add_left ..,succ_le_succ q2,F'⟩
      ·rintro⟨r,n⟩ st' ⟨e,q1,q2,F'⟩
       cases e
       exact wpS_pure (h _ _ q1 q2 F')
     ·rw [if_neg c3]
      have F5:=F4;refine wpS_bind (a6w F5 fun st6 F6=>?_);refine wpS_bind (wpS_mono (wpS_forRange (I:=fun i c st'=>c.1=none/\1 <= c.2/\c.2 <= i/\Sf s md N pd st') (Q:=fun c st'=>c.1=none/\1 <= c.2/\c.2 <= nrem/\Sf s md N pd st') ?_ (fun c st' h=>⟨h.1,h.2.1,by have:=h.2.2.1;omega,h.2.2.2⟩) ⟨rfl,q1,le_refl _,F6⟩) ?_)
      ·rintro i ⟨r,n⟩ st' hi1 hi2 ⟨e,q1,q2,F'⟩
       cases e
       dsimp only at q1 q2 ⊢
       refine wpS_bind (a4c F' 'o' 'o' fun b=>?_);cases b with
       | true=>exact wpS_pure ⟨rfl,q1,by dsimp only;omega,F'⟩
       | false=>exact wpS_pure ⟨rfl,le_add_left ..,succ_le_succ q2,F'⟩
      ·rintro⟨r,n⟩ st' ⟨e,q1,q2,F'⟩
       cases e
       exact wpS_pure (h _ _ q1 q2 F')
  ·rw [if_neg c2]
   have F3:=F';refine wpS_bind (wpS_lift (wpAny_rule ⟨rfl,?_⟩));refine wpS_bind (wpS_mono (wpS_forRange (I:=fun i c st'=>c.1=none/\1 <= c.2.1/\c.2.1 <= i/\Sf s md N pd st') (Q:=fun c st'=>c.1=none/\1 <= c.2.1/\c.2.1 <= nrem/\Sf s md N pd st') ?_ (fun c st' h=>⟨h.1,h.2.1,by have:=h.2.2.1;omega,h.2.2.2⟩) ⟨rfl,le_add_left ..,le_refl _,F3⟩) ?_)
   ·rintro i ⟨r,k,m⟩ st4 hi1 hi2 ⟨e,q1,q2,F4⟩
    cases e
    dsimp only at q1 q2 ⊢
    refine wpS_bind (a4c F4 'o' 'o' fun b=>?_);cases b with
    | true =>
     dsimp only
     rw [if_pos rfl];by_cases c3:m > 0
     ·rw [if_pos c3]
      exact wpS_bind (a6w F4 fun st5 F5=>wpS_pure ⟨rfl,le_add_left ..,succ_le_succ q2,F5⟩)
     ·rw [if_neg c3]
      exact wpS_pure ⟨rfl,le_add_left ..,succ_le_succ q2,F4⟩
    | false =>
     dsimp only
     rw [if_neg Bool.false_ne_true];refine wpS_bind (a4c F4 'o' 'o' fun b=>?_);cases b with
     | true=>exact wpS_pure ⟨rfl,q1,by dsimp only;omega,F4⟩
     | false=>exact wpS_pure ⟨rfl,le_add_left ..,succ_le_succ q2,F4⟩
   ·rintro⟨r,k,m⟩ st4 ⟨e,q1,q2,F4⟩
    cases e
    dsimp only at q1 q2 ⊢
    by_cases c3:m > 0
    ·rw [if_pos c3]
     refine wpS_bind (a6w F4 fun st5 F5=>?_);refine wpS_bind (a6w F5 fun st6 F6=>?_);refine wpS_bind (wpS_mono (wpS_forRange (I:=fun i c st'=>c.1=none/\1 <= c.2/\c.2 <= i/\Sf s md N pd st') (Q:=fun c st'=>c.1=none/\1 <= c.2/\c.2 <= nrem/\Sf s md N pd st') ?_ (fun c st' h=>⟨h.1,h.2.1,by have:=h.2.2.1;omega,h.2.2.2⟩) ⟨rfl,q1,le_refl _,F6⟩) ?_)
     ·rintro i ⟨r,n⟩ st' hi1 hi2 ⟨e,q1,q2,F'⟩
      cases e
      dsimp only at q1 q2 ⊢
      refine wpS_bind (a4c F' 'o' 'o' fun b=>?_);cases b with
      | true=>exact wpS_pure ⟨rfl,q1,by dsimp only;omega,F'⟩
      | false=>exact wpS_pure ⟨rfl,le_add_left ..,succ_le_succ q2,F'⟩
     ·rintro⟨r,n⟩ st' ⟨e,q1,q2,F'⟩
      cases e
      exact wpS_pure (h _ _ q1 q2 F')
    ·rw [if_neg c3]
     have F5:=F4;refine wpS_bind (a6w F5 fun st6 F6=>?_);refine wpS_bind (wpS_mono (wpS_forRange (I:=fun i c st'=>c.1=none/\1 <= c.2/\c.2 <= i/\Sf s md N pd st') (Q:=fun c st'=>c.1=none/\1 <= c.2/\c.2 <= nrem/\Sf s md N pd st') ?_ (fun c st' h=>⟨h.1,h.2.1,by have:=h.2.2.1;omega,h.2.2.2⟩) ⟨rfl,q1,le_refl _,F6⟩) ?_)
     ·rintro i ⟨r,n⟩ st' hi1 hi2 ⟨e,q1,q2,F'⟩
      cases e
      dsimp only at q1 q2 ⊢
      refine wpS_bind (a4c F' 'o' 'o' fun b=>?_);cases b with
      | true=>exact wpS_pure ⟨rfl,q1,by dsimp only;omega,F'⟩
      | false=>exact wpS_pure ⟨rfl,le_add_left ..,succ_le_succ q2,F'⟩
     ·rintro⟨r,n⟩ st' ⟨e,q1,q2,F'⟩
      cases e
      exact wpS_pure (h _ _ q1 q2 F')
def s_bin{lo n ok:Nat}{Q:Bool->SortSt->Prop}(F:Sf s md N pd st)(hz:lo + n <= N)(h:∀ st',Sf s md N pd st'->Q true st'):wpS (model prog w) A E s (binarySort' lo n ok) Q st:=by
 rw [binarySort'_eq]
 dsimp only
 refine wpS_bind (wpS_mono (wpS_forRange (I:=fun i c st'=>c.1=none/\Sf s md N pd st') (Q:=fun c st'=>c.1=none/\Sf s md N pd st') ?_ (fun c st' h=>h) ⟨rfl,F⟩) ?_)
 ·rintro k ⟨r,u⟩ st' hi1 hi2 ⟨e,F'⟩
  cases e
  refine wpS_bind (wpS_mono (wpS_forRange (I:=fun i c st'=>c.1=none/\c.2.2 <= k/\Sf s md N pd st') (Q:=fun c st'=>c.1=none/\Sf s md N pd st') ?_ (fun c st' h=>⟨h.1,h.2.2⟩) ⟨rfl,le_refl _,F'⟩) ?_)
  ·rintro i ⟨r,l,u⟩ st' _ _ ⟨e,q,F'⟩
   cases e
   dsimp only at q ⊢
   by_cases c:l ≥ u
   ·rw [if_pos c];exact wpS_pure ⟨rfl,F'⟩
   ·rw [if_neg c]
    refine wpS_bind (a4c F' 'o' 'o' fun b=>?_);cases b with
    | true=>exact wpS_pure ⟨rfl,by dsimp only;omega,F'⟩
    | false=>exact wpS_pure ⟨rfl,q,F'⟩
  ·rintro⟨r,l,u⟩ st' ⟨e,F'⟩
   cases e
   exact wpS_bind (e1c F' fun st'' F''=>wpS_pure ⟨rfl,F''⟩)
 ·rintro⟨r,u⟩ st' ⟨e,F'⟩
  cases e
  exact wpS_pure (h _ F')
end
end Sx
end
section
namespace Sx
open PySem PySem.W PyProof.Rows
local macro_rules | `(tactic| walk_at "pv mergeLo") => `(tactic| delta $(⟨pvId "mergeLo"⟩))
local macro_rules | `(tactic| walk_at "pv mergeHi") => `(tactic| delta $(⟨pvId "mergeHi"⟩))
def IPs.push{s:Shared}{md:Option 'l'}{xs:Array Keyed}{x:Keyed}(h:IPs s md xs)(hx:IP s md x):IPs s md (xs.push x):=fun y hy=>(Array.mem_push.mp hy).elim (h y) (fun e=>e ▸ hx)
def IPs.app{s:Shared}{md:Option 'l'}{xs ys:Array Keyed}(h:IPs s md xs)(h2:IPs s md ys):IPs s md (xs ++ ys):=fun y hy=>(Array.mem_append.mp hy).elim (h y) (h2 y)
def IPs.ext{s:Shared}{md:Option 'l'}{xs:Array Keyed}{i j:Nat}(h:IPs s md xs):IPs s md (xs.extract i j):=fun y hy=>by
 rw [← mem_toList_iff,Array.toList_extract] at hy;exact h y (mem_toList_iff.mp (List.mem_of_mem_drop (List.mem_of_mem_take (by rw [List.extract_eq_take_drop] at hy;exact hy))))
def IPs.rev{s:Shared}{md:Option 'l'}{xs:Array Keyed}(h:IPs s md xs):IPs s md xs.reverse:=fun y hy=>h y (Array.mem_reverse.mp hy)
def IPs.one{s:Shared}{md:Option 'l'}{x:Keyed}(h:IP s md x):IPs s md #[x]:=fun y hy=>by
 rw [Array.mem_singleton.mp hy];exact h
section
variable{prog:Program}{w:World}{A:Around}{E:Value->Shared->Prop}{s:Shared}{md:Option 'l'}{st:SortSt}{N:Nat}{pd:Array 'h'}
def nbeq{a b:Nat}(h:¬ (a == b)=true):a ≠ b:=fun e=>h (by rw [e];exact beq_self_eq_true _)
def c6x{a b:Array Keyed}{Q:Array Keyed->SortSt->Prop}(ha:IPs s md a)(hb:IPs s md b)(h1:1 <= a.size)(h2:1 <= b.size)(F:Sf s md N pd st)(h:∀ out st',IPs s md out->Sf s md N pd st'->Q out st') :
  wpS (model prog w) A E s ((sortPriv% PySem.Builtin.mergeLo) a b) Q st:=by
 walk_at "pv mergeLo";refine wpS_bind (wpS_lift (wpAny_rule ⟨rfl,?_⟩))
 dsimp only
 refine wpS_bind (a0k 'o' hb fun x0 hx0=>?_);by_cases c1:(1 == b.size)=true
 ·rw [if_pos c1]
  exact wpS_pure (h _ _ (((IPs.one hx0).app ha.ext).app hb.ext) F)
 rw [if_neg c1];have c1:=nbeq c1;by_cases c2:(0 + 1 == a.size)=true
 ·rw [if_pos c2]
  exact wpS_pure (h _ _ (((IPs.one hx0).app hb.ext).app ha.ext) F)
 rw [if_neg c2];have c2:=nbeq c2;refine wpS_bind (wpS_get ?_);refine wpS_bind (wpS_mono (wpS_forRange (I:=fun i c st'=>Sf s md N pd st'/\IPs s md c.2.1/\c.1=none/\c.2.2.1 + 1 < a.size/\c.2.2.2.1 < b.size/\i + 1 <= c.2.2.1 + c.2.2.2.1) (Q:=fun c st'=>Sf s md N pd st'/\∃ r,c.1=some r/\IPs s md r) ?_ ?_ ⟨F,IPs.one hx0,rfl,by dsimp only;omega,by dsimp only;omega,le_refl _⟩) ?_)
 ·rintro i ⟨r,out,ia,ib,mg⟩ st1 _ hi ⟨F1,ho,e,b1,b2,b3⟩
  cases e
  dsimp only at ho b1 b2 b3 ⊢
  refine wpS_bind (wpS_mono (wpS_forRange (I:=fun j c st'=>Sf s md N pd st'/\IPs s md c.2.1/\c.1=none/\c.2.2.1 + 1 < a.size/\c.2.2.2.1 < b.size/\i + 1 + j <= c.2.2.1 + c.2.2.2.1) (Q:=fun c st'=>Sf s md N pd st'/\((∃ r,c.1=some r/\IPs s md r) ∨ (c.1=none/\IPs s md c.2.1/\c.2.2.1 + 1 < a.size/\c.2.2.2.1 < b.size/\i + 2 <= c.2.2.1 + c.2.2.2.1))) ?_ ?_ ⟨F1,ho,rfl,b1,b2,b3⟩) ?_)
  ·rintro j ⟨r,out,ia,ib,ac,bc⟩ st2 _ hj ⟨F2,ho,e,b1,b2,b3⟩
   cases e
   dsimp only at ho b1 b2 b3 ⊢
   refine wpS_bind (a0k b2 hb fun x hx=>wpS_bind (a0k 'o' ha fun y hy=>wpS_bind (s_lt hx hy F2.k fun bw=>?_)));cases bw with
   | true =>
    dsimp only
    rw [if_pos rfl];refine wpS_bind (a0k b2 hb fun z hz=>?_);by_cases d1:(ib + 1 == b.size)=true
    ·rw [if_pos d1]
     exact wpS_pure ⟨F2,.inl ⟨_,rfl,((ho.push hz).app ha.ext).app hb.ext⟩⟩
    rw [if_neg d1];have d1:=nbeq d1;by_cases d2:bc + 1 ≥ mg
    ·rw [if_pos d2];exact wpS_pure ⟨F2,.inr ⟨rfl,ho.push hz,b1,by dsimp only;omega,by dsimp only;omega⟩⟩
    ·rw [if_neg d2];exact wpS_pure ⟨F2,ho.push hz,rfl,b1,by dsimp only;omega,by dsimp only;omega⟩
   | false =>
    dsimp only
    rw [if_neg Bool.false_ne_true];refine wpS_bind (a0k 'o' ha fun z hz=>?_);by_cases d1:(ia + 1 + 1 == a.size)=true
    ·rw [if_pos d1]
     exact wpS_pure ⟨F2,.inl ⟨_,rfl,((ho.push hz).app hb.ext).app ha.ext⟩⟩
    rw [if_neg d1];have d1:=nbeq d1;by_cases d2:ac + 1 ≥ mg
    ·rw [if_pos d2];exact wpS_pure ⟨F2,.inr ⟨rfl,ho.push hz,by dsimp only;omega,b2,by dsimp only;omega⟩⟩
    ·rw [if_neg d2];exact wpS_pure ⟨F2,ho.push hz,rfl,by dsimp only;omega,b2,by dsimp only;omega⟩
  ·rintro⟨r,out,ia,ib,ac,bc⟩ st2 ⟨F2,ho,e,b1,b2,b3⟩
   exact⟨F2,.inr ⟨e,ho,b1,b2,'o'⟩⟩
  ·rintro⟨r,out,ia,ib,ac,bc⟩ st2 ⟨F2,⟨r',e,hr⟩ | ⟨e,ho,b1,b2,b3⟩⟩
   ·cases e
    exact wpS_pure ⟨F2,_,rfl,hr⟩
   cases e
   dsimp only at ho b1 b2 b3 ⊢
   refine wpS_bind (wpS_lift (wpAny_rule ⟨rfl,?_⟩));refine wpS_bind (wpS_mono (wpS_forRange (I:=fun j c st'=>Sf s md N pd st'/\IPs s md c.2.1/\c.1=none/\c.2.2.1 + 1 < a.size/\c.2.2.2.1 < b.size/\i + 2 <= c.2.2.1 + c.2.2.2.1) (Q:=fun c st'=>Sf s md N pd st'/\((∃ r,c.1=some r/\IPs s md r) ∨ (c.1=none/\IPs s md c.2.1/\c.2.2.1 + 1 < a.size/\c.2.2.2.1 < b.size/\i + 2 <= c.2.2.1 + c.2.2.2.1))) ?_ ?_ ⟨F2,ho,rfl,b1,b2,b3⟩) ?_)
   ·rintro j ⟨r,out,ia,ib,mg,ac,bc⟩ st3 _ hj ⟨F3,ho,e,b1,b2,b3⟩
    cases e
    dsimp only at ho b1 b2 b3 ⊢
    by_cases d0:mg > 1
    ·rw [if_pos d0]
     refine wpS_bind (a5u F3 fun st4 F4=>?_);refine wpS_bind (a0k b2 hb fun x hx=>wpS_bind (a1v hx ha F4.k 'o' 'o' fun k hk=>?_))
     dsimp only
     by_cases d1:k > 0
     ·rw [if_pos d1]
      by_cases d2:(ia + k + 1 == a.size)=true
      ·rw [if_pos d2]
       exact wpS_pure ⟨F4,.inl ⟨_,rfl,((ho.app ha.ext).app hb.ext).app ha.ext⟩⟩
      rw [if_neg d2];have d2:=nbeq d2;by_cases d3:(ia + k == a.size)=true
      ·rw [if_pos d3]
       exact wpS_pure ⟨F4,.inl ⟨_,rfl,((ho.app ha.ext).app ha.ext).app hb.ext⟩⟩
      rw [if_neg d3];have d3:=nbeq d3;have ho':=ho.app (ha.ext (i:=ia) (j:=ia + k));have b1':ia + k + 1 < a.size:=by omega
      refine wpS_bind (a0k b2 hb fun z hz=>?_);by_cases d4:(ib + 1 == b.size)=true
      ·rw [if_pos d4]
       exact wpS_pure ⟨F4,.inl ⟨_,rfl,((ho'.push hz).app ha.ext).app hb.ext⟩⟩
      rw [if_neg d4];have d4:=nbeq d4;refine wpS_bind (a0k 'o' ha fun y hy=>wpS_bind (a1v hy hb F4.k 'o' 'o' fun k2 hk2=>?_))
      dsimp only
      by_cases d5:k2 > 0
      ·rw [if_pos d5]
       by_cases d6:(ib + 1 + k2 == b.size)=true
       ·rw [if_pos d6]
        exact wpS_pure ⟨F4,.inl ⟨_,rfl,(((ho'.push hz).app hb.ext).app ha.ext).app hb.ext⟩⟩
       rw [if_neg d6];have d6:=nbeq d6;have ho2:=(ho'.push hz).app (hb.ext (i:=ib + 1) (j:=ib + 1 + k2));have b2':ib + 1 + k2 < b.size:=by omega
       refine wpS_bind (a0k 'o' ha fun q hq=>?_);split
       ·exact wpS_pure ⟨F4,.inl ⟨_,rfl,((ho2.push hq).app hb.ext).app ha.ext⟩⟩
       rename_i d7;have d7:=nbeq d7;split
       ·exact wpS_pure ⟨F4,.inr ⟨rfl,ho2.push hq,by dsimp only;omega,b2',by dsimp only;omega⟩⟩
       ·exact wpS_pure ⟨F4,ho2.push hq,rfl,by dsimp only;omega,b2',by dsimp only;omega⟩
      ·rw [if_neg d5]
       have ho2:=ho'.push hz;have b2':ib + 1 < b.size:=by omega
       refine wpS_bind (a0k 'o' ha fun q hq=>?_);split
       ·exact wpS_pure ⟨F4,.inl ⟨_,rfl,((ho2.push hq).app hb.ext).app ha.ext⟩⟩
       rename_i d7;have d7:=nbeq d7;split
       ·exact wpS_pure ⟨F4,.inr ⟨rfl,ho2.push hq,by dsimp only;omega,b2',by dsimp only;omega⟩⟩
       ·exact wpS_pure ⟨F4,ho2.push hq,rfl,by dsimp only;omega,b2',by dsimp only;omega⟩
     ·rw [if_neg d1]
      have ho':=ho;have b1':=b1;refine wpS_bind (a0k b2 hb fun z hz=>?_);by_cases d4:(ib + 1 == b.size)=true
      ·rw [if_pos d4]
       exact wpS_pure ⟨F4,.inl ⟨_,rfl,((ho'.push hz).app ha.ext).app hb.ext⟩⟩
      rw [if_neg d4];have d4:=nbeq d4;refine wpS_bind (a0k 'o' ha fun y hy=>wpS_bind (a1v hy hb F4.k 'o' 'o' fun k2 hk2=>?_))
      dsimp only
      by_cases d5:k2 > 0
      ·rw [if_pos d5]
       by_cases d6:(ib + 1 + k2 == b.size)=true
       ·rw [if_pos d6]
        exact wpS_pure ⟨F4,.inl ⟨_,rfl,(((ho'.push hz).app hb.ext).app ha.ext).app hb.ext⟩⟩
       rw [if_neg d6];have d6:=nbeq d6;have ho2:=(ho'.push hz).app (hb.ext (i:=ib + 1) (j:=ib + 1 + k2));have b2':ib + 1 + k2 < b.size:=by omega
       refine wpS_bind (a0k 'o' ha fun q hq=>?_);split
       ·exact wpS_pure ⟨F4,.inl ⟨_,rfl,((ho2.push hq).app hb.ext).app ha.ext⟩⟩
       rename_i d7;have d7:=nbeq d7;split
       ·exact wpS_pure ⟨F4,.inr ⟨rfl,ho2.push hq,by dsimp only;omega,b2',by dsimp only;omega⟩⟩
       ·exact wpS_pure ⟨F4,ho2.push hq,rfl,by dsimp only;omega,b2',by dsimp only;omega⟩
      ·rw [if_neg d5]
       have ho2:=ho'.push hz;have b2':ib + 1 < b.size:=by omega
       refine wpS_bind (a0k 'o' ha fun q hq=>?_);split
       ·exact wpS_pure ⟨F4,.inl ⟨_,rfl,((ho2.push hq).app hb.ext).app ha.ext⟩⟩
       rename_i d7;have d7:=nbeq d7;split
       ·exact wpS_pure ⟨F4,.inr ⟨rfl,ho2.push hq,by dsimp only;omega,b2',by dsimp only;omega⟩⟩
       ·exact wpS_pure ⟨F4,ho2.push hq,rfl,by dsimp only;omega,b2',by dsimp only;omega⟩
    ·rw [if_neg d0]
     refine wpS_bind (a5u F3 fun st4 F4=>?_);refine wpS_bind (a0k b2 hb fun x hx=>wpS_bind (a1v hx ha F4.k 'o' 'o' fun k hk=>?_))
     dsimp only
     by_cases d1:k > 0
     ·rw [if_pos d1]
      by_cases d2:(ia + k + 1 == a.size)=true
      ·rw [if_pos d2]
       exact wpS_pure ⟨F4,.inl ⟨_,rfl,((ho.app ha.ext).app hb.ext).app ha.ext⟩⟩
      rw [if_neg d2];have d2:=nbeq d2;by_cases d3:(ia + k == a.size)=true
      ·rw [if_pos d3]
       exact wpS_pure ⟨F4,.inl ⟨_,rfl,((ho.app ha.ext).app ha.ext).app hb.ext⟩⟩
      rw [if_neg d3];have d3:=nbeq d3;have ho':=ho.app (ha.ext (i:=ia) (j:=ia + k));have b1':ia + k + 1 < a.size:=by omega
      refine wpS_bind (a0k b2 hb fun z hz=>?_);by_cases d4:(ib + 1 == b.size)=true
      ·rw [if_pos d4]
       exact wpS_pure ⟨F4,.inl ⟨_,rfl,((ho'.push hz).app ha.ext).app hb.ext⟩⟩
      rw [if_neg d4];have d4:=nbeq d4;refine wpS_bind (a0k 'o' ha fun y hy=>wpS_bind (a1v hy hb F4.k 'o' 'o' fun k2 hk2=>?_))
      dsimp only
      by_cases d5:k2 > 0
      ·rw [if_pos d5]
       by_cases d6:(ib + 1 + k2 == b.size)=true
       ·rw [if_pos d6]
        exact wpS_pure ⟨F4,.inl ⟨_,rfl,(((ho'.push hz).app hb.ext).app ha.ext).app hb.ext⟩⟩
       rw [if_neg d6];have d6:=nbeq d6;have ho2:=(ho'.push hz).app (hb.ext (i:=ib + 1) (j:=ib + 1 + k2));have b2':ib + 1 + k2 < b.size:=by omega
       refine wpS_bind (a0k 'o' ha fun q hq=>?_);split
       ·exact wpS_pure ⟨F4,.inl ⟨_,rfl,((ho2.push hq).app hb.ext).app ha.ext⟩⟩
       rename_i d7;have d7:=nbeq d7;split
       ·exact wpS_pure ⟨F4,.inr ⟨rfl,ho2.push hq,by dsimp only;omega,b2',by dsimp only;omega⟩⟩
       ·exact wpS_pure ⟨F4,ho2.push hq,rfl,by dsimp only;omega,b2',by dsimp only;omega⟩
      ·rw [if_neg d5]
       have ho2:=ho'.push hz;have b2':ib + 1 < b.size:=by omega
       refine wpS_bind (a0k 'o' ha fun q hq=>?_);split
       ·exact wpS_pure ⟨F4,.inl ⟨_,rfl,((ho2.push hq).app hb.ext).app ha.ext⟩⟩
       rename_i d7;have d7:=nbeq d7;split
       ·exact wpS_pure ⟨F4,.inr ⟨rfl,ho2.push hq,by dsimp only;omega,b2',by dsimp only;omega⟩⟩
       ·exact wpS_pure ⟨F4,ho2.push hq,rfl,by dsimp only;omega,b2',by dsimp only;omega⟩
     ·rw [if_neg d1]
      have ho':=ho;have b1':=b1;refine wpS_bind (a0k b2 hb fun z hz=>?_);by_cases d4:(ib + 1 == b.size)=true
      ·rw [if_pos d4]
       exact wpS_pure ⟨F4,.inl ⟨_,rfl,((ho'.push hz).app ha.ext).app hb.ext⟩⟩
      rw [if_neg d4];have d4:=nbeq d4;refine wpS_bind (a0k 'o' ha fun y hy=>wpS_bind (a1v hy hb F4.k 'o' 'o' fun k2 hk2=>?_))
      dsimp only
      by_cases d5:k2 > 0
      ·rw [if_pos d5]
       by_cases d6:(ib + 1 + k2 == b.size)=true
       ·rw [if_pos d6]
        exact wpS_pure ⟨F4,.inl ⟨_,rfl,(((ho'.push hz).app hb.ext).app ha.ext).app hb.ext⟩⟩
       rw [if_neg d6];have d6:=nbeq d6;have ho2:=(ho'.push hz).app (hb.ext (i:=ib + 1) (j:=ib + 1 + k2));have b2':ib + 1 + k2 < b.size:=by omega
       refine wpS_bind (a0k 'o' ha fun q hq=>?_);split
       ·exact wpS_pure ⟨F4,.inl ⟨_,rfl,((ho2.push hq).app hb.ext).app ha.ext⟩⟩
       rename_i d7;have d7:=nbeq d7;split
       ·exact wpS_pure ⟨F4,.inr ⟨rfl,ho2.push hq,by dsimp only;omega,b2',by dsimp only;omega⟩⟩
       ·exact wpS_pure ⟨F4,ho2.push hq,rfl,by dsimp only;omega,b2',by dsimp only;omega⟩
      ·rw [if_neg d5]
       have ho2:=ho'.push hz;have b2':ib + 1 < b.size:=by omega
       refine wpS_bind (a0k 'o' ha fun q hq=>?_);split
       ·exact wpS_pure ⟨F4,.inl ⟨_,rfl,((ho2.push hq).app hb.ext).app ha.ext⟩⟩
       rename_i d7;have d7:=nbeq d7;split
       ·exact wpS_pure ⟨F4,.inr ⟨rfl,ho2.push hq,by dsimp only;omega,b2',by dsimp only;omega⟩⟩
       ·exact wpS_pure ⟨F4,ho2.push hq,rfl,by dsimp only;omega,b2',by dsimp only;omega⟩
   ·rintro⟨r,out,ia,ib,mg,ac,bc⟩ st3 ⟨F3,ho,e,b1,b2,b3⟩
    exact⟨F3,.inr ⟨e,ho,b1,b2,b3⟩⟩
   ·rintro⟨r,out,ia,ib,mg,ac,bc⟩ st3 ⟨F3,⟨r',e,hr⟩ | ⟨e,ho,b1,b2,b3⟩⟩
    ·cases e
     exact wpS_pure ⟨F3,_,rfl,hr⟩
    cases e
    exact wpS_bind (a5u F3 fun st4 F4=>wpS_pure ⟨F4,ho,rfl,b1,b2,by dsimp only at b3 ⊢;omega⟩)
 ·rintro⟨r,out,ia,ib,mg⟩ st1 ⟨F1,ho,e,b1,b2,b3⟩
  exfalso
  dsimp only at b1 b2 b3
  omega
 ·rintro⟨r,out,ia,ib,mg⟩ st1 ⟨F1,r',e,hr⟩
  cases e
  exact wpS_pure (h _ _ hr F1)
end
end Sx
end
section
namespace Sx
open PySem PySem.W PyProof.Rows
local macro_rules | `(tactic| walk_at "pv mergeHi") => `(tactic| delta $(⟨pvId "mergeHi"⟩))
section
variable{prog:Program}{w:World}{A:Around}{E:Value->Shared->Prop}{s:Shared}{md:Option 'l'}{st:SortSt}{N:Nat}{pd:Array 'h'}
def c6y{a b:Array Keyed}{Q:Array Keyed->SortSt->Prop}(ha:IPs s md a)(hb:IPs s md b)(h1:1 <= a.size)(h2:1 <= b.size)(F:Sf s md N pd st)(h:∀ out st',IPs s md out->Sf s md N pd st'->Q out st') :
  wpS (model prog w) A E s ((sortPriv% PySem.Builtin.mergeHi) a b) Q st:=by
 walk_at "pv mergeHi";refine wpS_bind (wpS_lift (wpAny_rule ⟨rfl,?_⟩))
 dsimp only
 refine wpS_bind (a0k 'o' ha fun x0 hx0=>?_);by_cases c1:(a.size - 1 == 0)=true
 ·rw [if_pos c1]
  exact wpS_pure (h _ _ ((ha.ext.app hb.ext).app (IPs.one hx0).rev) F)
 rw [if_neg c1];have c1:=nbeq c1;by_cases c2:(b.size == 1)=true
 ·rw [if_pos c2]
  exact wpS_pure (h _ _ ((hb.ext.app ha.ext).app (IPs.one hx0).rev) F)
 rw [if_neg c2];have c2:=nbeq c2;refine wpS_bind (wpS_get ?_);refine wpS_bind (wpS_mono (wpS_forRange (I:=fun i c st'=>Sf s md N pd st'/\IPs s md c.2.2.2.1/\c.1=none/\(1 <= c.2.1/\c.2.1 <= a.size)/\(2 <= c.2.2.1/\c.2.2.1 <= b.size)/\i + 1 + c.2.1 + c.2.2.1 <= a.size + b.size) (Q:=fun c st'=>Sf s md N pd st'/\∃ r,c.1=some r/\IPs s md r) ?_ ?_ ⟨F,IPs.one hx0,rfl,by dsimp only;omega,by dsimp only;omega,by dsimp only;omega⟩) ?_)
 ·rintro i ⟨r,na,nb,out,mg⟩ st1 _ hi ⟨F1,ho,e,b1,b2,b3⟩
  cases e
  dsimp only at ho b1 b2 b3 ⊢
  refine wpS_bind (wpS_mono (wpS_forRange (I:=fun j c st'=>Sf s md N pd st'/\IPs s md c.2.2.2.1/\c.1=none/\(1 <= c.2.1/\c.2.1 <= a.size)/\(2 <= c.2.2.1/\c.2.2.1 <= b.size)/\i + 1 + j + c.2.1 + c.2.2.1 <= a.size + b.size) (Q:=fun c st'=>Sf s md N pd st'/\((∃ r,c.1=some r/\IPs s md r) ∨ (c.1=none/\IPs s md c.2.2.2.1/\(1 <= c.2.1/\c.2.1 <= a.size)/\(2 <= c.2.2.1/\c.2.2.1 <= b.size)/\i + 2 + c.2.1 + c.2.2.1 <= a.size + b.size))) ?_ ?_ ⟨F1,ho,rfl,b1,b2,b3⟩) ?_)
  ·rintro j ⟨r,na,nb,out,ac,bc⟩ st2 _ hj ⟨F2,ho,e,b1,b2,b3⟩
   cases e
   dsimp only at ho b1 b2 b3 ⊢
   refine wpS_bind (a0k 'o' hb fun x hx=>wpS_bind (a0k 'o' ha fun y hy=>wpS_bind (s_lt hx hy F2.k fun bw=>?_)));cases bw with
   | true =>
    dsimp only
    rw [if_pos rfl];refine wpS_bind (a0k 'o' ha fun z hz=>?_);by_cases d1:(na - 1 == 0)=true
    ·rw [if_pos d1]
     exact wpS_pure ⟨F2,.inl ⟨_,rfl,(ha.ext.app hb.ext).app (ho.push hz).rev⟩⟩
    rw [if_neg d1];have d1:=nbeq d1;by_cases d2:ac + 1 ≥ mg
    ·rw [if_pos d2];exact wpS_pure ⟨F2,.inr ⟨rfl,ho.push hz,by dsimp only;omega,b2,by dsimp only;omega⟩⟩
    ·rw [if_neg d2];exact wpS_pure ⟨F2,ho.push hz,rfl,by dsimp only;omega,b2,by dsimp only;omega⟩
   | false =>
    dsimp only
    rw [if_neg Bool.false_ne_true];refine wpS_bind (a0k 'o' hb fun z hz=>?_);by_cases d1:(nb - 1 == 1)=true
    ·rw [if_pos d1]
     exact wpS_pure ⟨F2,.inl ⟨_,rfl,(hb.ext.app ha.ext).app (ho.push hz).rev⟩⟩
    rw [if_neg d1];have d1:=nbeq d1;by_cases d2:bc + 1 ≥ mg
    ·rw [if_pos d2];exact wpS_pure ⟨F2,.inr ⟨rfl,ho.push hz,b1,by dsimp only;omega,by dsimp only;omega⟩⟩
    ·rw [if_neg d2];exact wpS_pure ⟨F2,ho.push hz,rfl,b1,by dsimp only;omega,by dsimp only;omega⟩
  ·rintro⟨r,na,nb,out,ac,bc⟩ st2 ⟨F2,ho,e,b1,b2,b3⟩
   exact⟨F2,.inr ⟨e,ho,b1,b2,'o'⟩⟩
  ·rintro⟨r,na,nb,out,ac,bc⟩ st2 ⟨F2,⟨r',e,hr⟩ | ⟨e,ho,b1,b2,b3⟩⟩
   ·cases e
    exact wpS_pure ⟨F2,_,rfl,hr⟩
   cases e
   dsimp only at ho b1 b2 b3 ⊢
   refine wpS_bind (wpS_lift (wpAny_rule ⟨rfl,?_⟩));refine wpS_bind (wpS_mono (wpS_forRange (I:=fun j c st'=>Sf s md N pd st'/\IPs s md c.2.2.2.1/\c.1=none/\(1 <= c.2.1/\c.2.1 <= a.size)/\(2 <= c.2.2.1/\c.2.2.1 <= b.size)/\i + 2 + c.2.1 + c.2.2.1 <= a.size + b.size) (Q:=fun c st'=>Sf s md N pd st'/\((∃ r,c.1=some r/\IPs s md r) ∨ (c.1=none/\IPs s md c.2.2.2.1/\(1 <= c.2.1/\c.2.1 <= a.size)/\(2 <= c.2.2.1/\c.2.2.1 <= b.size)/\i + 2 + c.2.1 + c.2.2.1 <= a.size + b.size))) ?_ ?_ ⟨F2,ho,rfl,b1,b2,b3⟩) ?_)
   ·rintro j ⟨r,na,nb,out,mg,ac,bc⟩ st3 _ hj ⟨F3,ho,e,b1,b2,b3⟩
    cases e
    dsimp only at ho b1 b2 b3 ⊢
    by_cases d0:mg > 1
    ·rw [if_pos d0]
     refine wpS_bind (a5u F3 fun st4 F4=>?_);refine wpS_bind (a0k 'o' hb fun x hx=>wpS_bind (a1v hx ha F4.k 'o' 'o' fun k hk=>?_))
     dsimp only
     by_cases d1:na - k > 0
     ·rw [if_pos d1]
      by_cases d2:(k == 0)=true
      ·rw [if_pos d2]
       exact wpS_pure ⟨F4,.inl ⟨_,rfl,(ha.ext.app hb.ext).app (ho.app ha.ext.rev).rev⟩⟩
      rw [if_neg d2];have d2:=nbeq d2;have ho':=ho.app (ha.ext (i:=k) (j:=na)).rev;have b1':1 <= k/\k <= a.size:=by omega
      refine wpS_bind (a0k 'o' hb fun z hz=>?_);by_cases d4:(nb - 1 == 1)=true
      ·rw [if_pos d4]
       exact wpS_pure ⟨F4,.inl ⟨_,rfl,(hb.ext.app ha.ext).app (ho'.push hz).rev⟩⟩
      rw [if_neg d4];have d4:=nbeq d4;refine wpS_bind (a0k 'o' ha fun y hy=>wpS_bind (a1v hy hb F4.k 'o' 'o' fun k2 hk2=>?_))
      dsimp only
      by_cases d5:nb - 1 - k2 > 0
      ·rw [if_pos d5]
       by_cases d6:(k2 == 1)=true
       ·rw [if_pos d6]
        exact wpS_pure ⟨F4,.inl ⟨_,rfl,(hb.ext.app ha.ext).app ((ho'.push hz).app hb.ext.rev).rev⟩⟩
       rw [if_neg d6];have d6:=nbeq d6;by_cases d8:(k2 == 0)=true
       ·rw [if_pos d8]
        exact wpS_pure ⟨F4,.inl ⟨_,rfl,(ha.ext.app hb.ext).app ((ho'.push hz).app hb.ext.rev).rev⟩⟩
       rw [if_neg d8];have d8:=nbeq d8;have ho2:=(ho'.push hz).app (hb.ext (i:=k2) (j:=nb - 1)).rev;have b2':2 <= k2/\k2 <= b.size:=by omega
       refine wpS_bind (a0k 'o' ha fun q hq=>?_);split
       ·exact wpS_pure ⟨F4,.inl ⟨_,rfl,(ha.ext.app hb.ext).app (ho2.push hq).rev⟩⟩
       rename_i d7;have d7:=nbeq d7;split
       ·exact wpS_pure ⟨F4,.inr ⟨rfl,ho2.push hq,by dsimp only;omega,b2',by dsimp only;omega⟩⟩
       ·exact wpS_pure ⟨F4,ho2.push hq,rfl,by dsimp only;omega,b2',by dsimp only;omega⟩
      ·rw [if_neg d5]
       have ho2:=ho'.push hz;have b2':2 <= nb - 1/\nb - 1 <= b.size:=by omega
       refine wpS_bind (a0k 'o' ha fun q hq=>?_);split
       ·exact wpS_pure ⟨F4,.inl ⟨_,rfl,(ha.ext.app hb.ext).app (ho2.push hq).rev⟩⟩
       rename_i d7;have d7:=nbeq d7;split
       ·exact wpS_pure ⟨F4,.inr ⟨rfl,ho2.push hq,by dsimp only;omega,b2',by dsimp only;omega⟩⟩
       ·exact wpS_pure ⟨F4,ho2.push hq,rfl,by dsimp only;omega,b2',by dsimp only;omega⟩
     ·rw [if_neg d1]
      have ho':=ho;have b1':=b1;refine wpS_bind (a0k 'o' hb fun z hz=>?_);by_cases d4:(nb - 1 == 1)=true
      ·rw [if_pos d4]
       exact wpS_pure ⟨F4,.inl ⟨_,rfl,(hb.ext.app ha.ext).app (ho'.push hz).rev⟩⟩
      rw [if_neg d4];have d4:=nbeq d4;refine wpS_bind (a0k 'o' ha fun y hy=>wpS_bind (a1v hy hb F4.k 'o' 'o' fun k2 hk2=>?_))
      dsimp only
      by_cases d5:nb - 1 - k2 > 0
      ·rw [if_pos d5]
       by_cases d6:(k2 == 1)=true
       ·rw [if_pos d6]
        exact wpS_pure ⟨F4,.inl ⟨_,rfl,(hb.ext.app ha.ext).app ((ho'.push hz).app hb.ext.rev).rev⟩⟩
       rw [if_neg d6];have d6:=nbeq d6;by_cases d8:(k2 == 0)=true
       ·rw [if_pos d8]
        exact wpS_pure ⟨F4,.inl ⟨_,rfl,(ha.ext.app hb.ext).app ((ho'.push hz).app hb.ext.rev).rev⟩⟩
       rw [if_neg d8];have d8:=nbeq d8;have ho2:=(ho'.push hz).app (hb.ext (i:=k2) (j:=nb - 1)).rev;have b2':2 <= k2/\k2 <= b.size:=by omega
       refine wpS_bind (a0k 'o' ha fun q hq=>?_);split
       ·exact wpS_pure ⟨F4,.inl ⟨_,rfl,(ha.ext.app hb.ext).app (ho2.push hq).rev⟩⟩
       rename_i d7;have d7:=nbeq d7;split
       ·exact wpS_pure ⟨F4,.inr ⟨rfl,ho2.push hq,by dsimp only;omega,b2',by dsimp only;omega⟩⟩
       ·exact wpS_pure ⟨F4,ho2.push hq,rfl,by dsimp only;omega,b2',by dsimp only;omega⟩
      ·rw [if_neg d5]
       have ho2:=ho'.push hz;have b2':2 <= nb - 1/\nb - 1 <= b.size:=by omega
       refine wpS_bind (a0k 'o' ha fun q hq=>?_);split
       ·exact wpS_pure ⟨F4,.inl ⟨_,rfl,(ha.ext.app hb.ext).app (ho2.push hq).rev⟩⟩
       rename_i d7;have d7:=nbeq d7;split
       ·exact wpS_pure ⟨F4,.inr ⟨rfl,ho2.push hq,by dsimp only;omega,b2',by dsimp only;omega⟩⟩
       ·exact wpS_pure ⟨F4,ho2.push hq,rfl,by dsimp only;omega,b2',by dsimp only;omega⟩
    ·rw [if_neg d0]
     refine wpS_bind (a5u F3 fun st4 F4=>?_);refine wpS_bind (a0k 'o' hb fun x hx=>wpS_bind (a1v hx ha F4.k 'o' 'o' fun k hk=>?_))
     dsimp only
     by_cases d1:na - k > 0
     ·rw [if_pos d1]
      by_cases d2:(k == 0)=true
      ·rw [if_pos d2]
       exact wpS_pure ⟨F4,.inl ⟨_,rfl,(ha.ext.app hb.ext).app (ho.app ha.ext.rev).rev⟩⟩
      rw [if_neg d2];have d2:=nbeq d2;have ho':=ho.app (ha.ext (i:=k) (j:=na)).rev;have b1':1 <= k/\k <= a.size:=by omega
      refine wpS_bind (a0k 'o' hb fun z hz=>?_);by_cases d4:(nb - 1 == 1)=true
      ·rw [if_pos d4]
       exact wpS_pure ⟨F4,.inl ⟨_,rfl,(hb.ext.app ha.ext).app (ho'.push hz).rev⟩⟩
      rw [if_neg d4];have d4:=nbeq d4;refine wpS_bind (a0k 'o' ha fun y hy=>wpS_bind (a1v hy hb F4.k 'o' 'o' fun k2 hk2=>?_))
      dsimp only
      by_cases d5:nb - 1 - k2 > 0
      ·rw [if_pos d5]
       by_cases d6:(k2 == 1)=true
       ·rw [if_pos d6]
        exact wpS_pure ⟨F4,.inl ⟨_,rfl,(hb.ext.app ha.ext).app ((ho'.push hz).app hb.ext.rev).rev⟩⟩
       rw [if_neg d6];have d6:=nbeq d6;by_cases d8:(k2 == 0)=true
       ·rw [if_pos d8]
        exact wpS_pure ⟨F4,.inl ⟨_,rfl,(ha.ext.app hb.ext).app ((ho'.push hz).app hb.ext.rev).rev⟩⟩
       rw [if_neg d8];have d8:=nbeq d8;have ho2:=(ho'.push hz).app (hb.ext (i:=k2) (j:=nb - 1)).rev;have b2':2 <= k2/\k2 <= b.size:=by omega
       refine wpS_bind (a0k 'o' ha fun q hq=>?_);split
       ·exact wpS_pure ⟨F4,.inl ⟨_,rfl,(ha.ext.app hb.ext).app (ho2.push hq).rev⟩⟩
       rename_i d7;have d7:=nbeq d7;split
       ·exact wpS_pure ⟨F4,.inr ⟨rfl,ho2.push hq,by dsimp only;omega,b2',by dsimp only;omega⟩⟩
       ·exact wpS_pure ⟨F4,ho2.push hq,rfl,by dsimp only;omega,b2',by dsimp only;omega⟩
      ·rw [if_neg d5]
       have ho2:=ho'.push hz;have b2':2 <= nb - 1/\nb - 1 <= b.size:=by omega
       refine wpS_bind (a0k 'o' ha fun q hq=>?_);split
       ·exact wpS_pure ⟨F4,.inl ⟨_,rfl,(ha.ext.app hb.ext).app (ho2.push hq).rev⟩⟩
       rename_i d7;have d7:=nbeq d7;split
       ·exact wpS_pure ⟨F4,.inr ⟨rfl,ho2.push hq,by dsimp only;omega,b2',by dsimp only;omega⟩⟩
       ·exact wpS_pure ⟨F4,ho2.push hq,rfl,by dsimp only;omega,b2',by dsimp only;omega⟩
     ·rw [if_neg d1]
      have ho':=ho;have b1':=b1;refine wpS_bind (a0k 'o' hb fun z hz=>?_);by_cases d4:(nb - 1 == 1)=true
      ·rw [if_pos d4]
       exact wpS_pure ⟨F4,.inl ⟨_,rfl,(hb.ext.app ha.ext).app (ho'.push hz).rev⟩⟩
      rw [if_neg d4];have d4:=nbeq d4;refine wpS_bind (a0k 'o' ha fun y hy=>wpS_bind (a1v hy hb F4.k 'o' 'o' fun k2 hk2=>?_))
      dsimp only
      by_cases d5:nb - 1 - k2 > 0
      ·rw [if_pos d5]
       by_cases d6:(k2 == 1)=true
       ·rw [if_pos d6]
        exact wpS_pure ⟨F4,.inl ⟨_,rfl,(hb.ext.app ha.ext).app ((ho'.push hz).app hb.ext.rev).rev⟩⟩
       rw [if_neg d6];have d6:=nbeq d6;by_cases d8:(k2 == 0)=true
       ·rw [if_pos d8]
        exact wpS_pure ⟨F4,.inl ⟨_,rfl,(ha.ext.app hb.ext).app ((ho'.push hz).app hb.ext.rev).rev⟩⟩
       rw [if_neg d8];have d8:=nbeq d8;have ho2:=(ho'.push hz).app (hb.ext (i:=k2) (j:=nb - 1)).rev;have b2':2 <= k2/\k2 <= b.size:=by omega
       refine wpS_bind (a0k 'o' ha fun q hq=>?_);split
       ·exact wpS_pure ⟨F4,.inl ⟨_,rfl,(ha.ext.app hb.ext).app (ho2.push hq).rev⟩⟩
       rename_i d7;have d7:=nbeq d7;split
       ·exact wpS_pure ⟨F4,.inr ⟨rfl,ho2.push hq,by dsimp only;omega,b2',by dsimp only;omega⟩⟩
       ·exact wpS_pure ⟨F4,ho2.push hq,rfl,by dsimp only;omega,b2',by dsimp only;omega⟩
      ·rw [if_neg d5]
       have ho2:=ho'.push hz;have b2':2 <= nb - 1/\nb - 1 <= b.size:=by omega
       refine wpS_bind (a0k 'o' ha fun q hq=>?_);split
       ·exact wpS_pure ⟨F4,.inl ⟨_,rfl,(ha.ext.app hb.ext).app (ho2.push hq).rev⟩⟩
       rename_i d7;have d7:=nbeq d7;split
       ·exact wpS_pure ⟨F4,.inr ⟨rfl,ho2.push hq,by dsimp only;omega,b2',by dsimp only;omega⟩⟩
       ·exact wpS_pure ⟨F4,ho2.push hq,rfl,by dsimp only;omega,b2',by dsimp only;omega⟩
   ·rintro⟨r,na,nb,out,mg,ac,bc⟩ st3 ⟨F3,ho,e,b1,b2,b3⟩
    exact⟨F3,.inr ⟨e,ho,b1,b2,b3⟩⟩
   ·rintro⟨r,na,nb,out,mg,ac,bc⟩ st3 ⟨F3,⟨r',e,hr⟩ | ⟨e,ho,b1,b2,b3⟩⟩
    ·cases e
     exact wpS_pure ⟨F3,_,rfl,hr⟩
    cases e
    exact wpS_bind (a5u F3 fun st4 F4=>wpS_pure ⟨F4,ho,rfl,b1,b2,by dsimp only at b3 ⊢;omega⟩)
 ·rintro⟨r,na,nb,out,mg⟩ st1 ⟨F1,ho,e,b1,b2,b3⟩
  exfalso
  dsimp only at b1 b2 b3
  omega
 ·rintro⟨r,na,nb,out,mg⟩ st1 ⟨F1,r',e,hr⟩
  cases e
  exact wpS_pure (h _ _ hr F1)
end
end Sx
end
section
namespace Sx
open PySem PySem.W PyProof.Rows
local macro_rules | `(tactic| walk_at "pv mergeAt") => `(tactic| delta $(⟨pvId "mergeAt"⟩))
noncomputable def Ch:Nat->List 'h'->Nat->Prop
 | a,[],e=>a=e
 | a,x :: r,e=>x.1=a/\1 <= x.2.1/\Ch (a + x.2.1) r e
def Ch.le:∀ {l:List 'h'} {a e:Nat},Ch a l e->a <= e
 | [],a,e,h=>le_of_eq h
 | x :: r,a,e,h=>le_trans (Nat.le_add_right _ _) h.2.2.le
def Ch.two:∀ {l:List 'h'} {a e i:Nat},Ch a l e->i + 1 < l.length->∃ sa na p nb q,l[i]? = some (sa,na,p)/\l[i + 1]? = some (sa + na,nb,q)/\1 <= na/\1 <= nb/\sa + na + nb <= e/\Ch a ((l.set i (sa,na + nb,p)).eraseIdx (i + 1)) e
 | [],_,_,_,_,h=>absurd h (Nat.not_lt_zero _)
 | [x],_,_,i,_,h=>by simp at h
 | (s1,n1,p1) :: (s2,n2,p2) :: r,a,e,0,h,_=>by
  obtain⟨h1,h2,h3,h4,h5⟩:=h
  dsimp only at h1 h2 h3 h4 h5
  subst h1;subst h3;refine⟨s1,n1,p1,n2,p2,rfl,rfl,h2,h4,h5.le,rfl,le_trans h2 (Nat.le_add_right _ _),?_⟩;show Ch (s1 + (n1 + n2)) r e;rw [← Nat.add_assoc];exact h5
 | (s1,n1,p1) :: y :: r,a,e,i + 1,h,hl=>by
  obtain⟨sa,na,p,nb,q,e1,e2,m1,m2,m3,m4⟩:=Ch.two (l:=y :: r) (i:=i) h.2.2 (by simpa using hl);exact⟨sa,na,p,nb,q,e1,e2,m1,m2,m3,h.1,h.2.1,m4⟩
def Ch.mod{f:Nat × Nat × Nat->Nat × Nat × Nat}(hf:∀ x,(f x).1=x.1/\(f x).2.1=x.2.1):∀ {l:List 'h'} {a e i:Nat},Ch a l e->Ch a (l.modify i f) e
 | [],a,e,i,h=>by rw [List.modify_nil];exact h
 | x :: r,a,e,0,h=>by
  rw [List.modify_zero_cons];refine⟨(hf x).1.trans h.1,by rw [(hf x).2];exact h.2.1,by rw [(hf x).2];exact h.2.2⟩
 | x :: r,a,e,i + 1,h=>by
  rw [List.modify_succ_cons];exact⟨h.1,h.2.1,h.2.2.mod hf⟩
def Ch.snoc{n p:Nat}(hn:1 <= n):∀ {l:List 'h'} {a e:Nat},Ch a l e->Ch a (l ++ [(e,n,p)]) (e + n)
 | [],a,e,h=>⟨h.symm,hn,congrArg (· + n) h⟩
 | x :: r,a,e,h=>⟨h.1,h.2.1,h.2.2.snoc hn⟩
section
variable{prog:Program}{w:World}{A:Around}{E:Value->Shared->Prop}{s:Shared}{md:Option 'l'}{st:SortSt}{N:Nat}{pd:Array 'h'}
def d6b{σ:Type}{M:Model}{t st:σ}{Q:PUnit->σ->Prop}(h:Q ⟨⟩ t):wpS M A E s (set t:StateT σ Sem PUnit) Q st:=by
 unfold wpS;rw [StateT.run_set];exact wpAny_pure ⟨rfl,h⟩
def b8n{f:Nat->Nat}:∀ (l:List (Keyed × Nat)) (a:Array Keyed),(∀ x ∈ l,IP s md x.1)->IPs s md a->(l.foldl (fun a x=>a.setIfInBounds (f x.2) x.1) a).size=a.size/\IPs s md (l.foldl (fun a x=>a.setIfInBounds (f x.2) x.1) a)
 | [],a,_,h=>⟨rfl,h⟩
 | x :: l,a,hl,h=>by
  obtain⟨e1,e2⟩:=b8n (f:=f) l (a.setIfInBounds (f x.2) x.1) (fun y hy=>hl y (.tail _ hy)) (fun y hy=>by
   rcases Array.mem_or_eq_of_mem_setIfInBounds hy with h1 | h1
   ·exact h y h1
   ·rw [h1];exact hl x (.head _))
  exact⟨e1.trans Array.size_setIfInBounds,e2⟩
def b0n{i e:Nat}{Q:Bool->SortSt->Prop}(F:Sf s md N pd st)(hc:Ch 0 pd.toList e)(he:e <= N)(hi:i + 1 < pd.size)(h:∀ st' pd',Ch 0 pd'.toList e->Sf s md N pd' st'->Q true st') :
  wpS (model prog w) A E s (mergeAt' i) Q st:=by
 delta mergeAt'
 walk_at "pv mergeAt";refine wpS_bind (wpS_get ?_);obtain⟨sa,na,p,nb,q,e1,e2,m1,m2,m3,m4⟩:=hc.two (i:=i) (by simpa using hi);have e1':(pendingOf st)[i]? = some (sa,na,p):=by rw [F.p,← getElem?_toList];exact e1
 have e2':(pendingOf st)[i + 1]? = some (sa + na,nb,q):=by rw [F.p,← getElem?_toList];exact e2
 rw [e1',e2']
 dsimp only
 refine wpS_bind (d6b ?_);have hz:((sortPriv% PySem.Builtin.SortState.a) st).size=N:=F.z;have F1:Sf s md N ((pd.setIfInBounds i (sa,na + nb,p)).eraseIdxIfInBounds (i + 1)) (setPending st (((pendingOf st).setIfInBounds i (sa,na + nb,p)).eraseIdxIfInBounds (i + 1))):=⟨F.k,F.z,F.ip,F.f,by show Array.eraseIdxIfInBounds (Array.setIfInBounds (pendingOf st) _ _) _=_;rw [F.p]⟩;have C1:Ch 0 ((pd.setIfInBounds i (sa,na + nb,p)).eraseIdxIfInBounds (i + 1)).toList e:=by
  rw [Array.toList_eraseIdxIfInBounds,Array.toList_setIfInBounds];exact m4
 refine wpS_bind (a0k 'o' F.ip fun x hx=>wpS_bind (a1v hx F.ip F1.k 'o' 'o' fun k hk=>?_))
 dsimp only
 by_cases d1:(na - k == 0)=true
 ·rw [if_pos d1];exact wpS_pure (h _ _ C1 F1)
 rw [if_neg d1];have d1:=nbeq d1;refine wpS_bind (a0k 'o' F.ip fun y hy=>wpS_bind (a1v hy F.ip F1.k 'o' 'o' fun k2 hk2=>?_))
 dsimp only
 by_cases d2:(k2 == 0)=true
 ·rw [if_pos d2];exact wpS_pure (h _ _ C1 F1)
 rw [if_neg d2];have d2:=nbeq d2;have W:∀ (out:Array Keyed) (st':SortSt),IPs s md out->Sf s md N ((pd.setIfInBounds i (sa,na + nb,p)).eraseIdxIfInBounds (i + 1)) st'->Sf s md N ((pd.setIfInBounds i (sa,na + nb,p)).eraseIdxIfInBounds (i + 1)) (setArr st' (out.toList.zipIdx.foldl (fun a x=>a.setIfInBounds (sa + k + x.2) x.1) (arrOf st'))):=fun out st' ho F'=>by
  obtain⟨g1,g2⟩:=b8n (f:=fun j=>sa + k + j) out.toList.zipIdx (arrOf st') (fun x hx=>ho _ (mem_toList_iff.mp (List.fst_mem_of_mem_zipIdx hx))) F'.ip;exact⟨F'.k,g1.trans F'.z,g2,F'.f,F'.p⟩
 have s1:1 <= ((arrOf st).extract (sa + k) (sa + na)).size:=by rw [Array.size_extract,F.z];omega
 have s2:1 <= ((arrOf st).extract (sa + na) (sa + na + k2)).size:=by rw [Array.size_extract,F.z];omega
 by_cases d3:na - k <= k2
 ·rw [if_pos d3]
  refine wpS_bind (c6x F.ip.ext F.ip.ext s1 s2 F1 fun out st' ho F'=>wpS_bind (wpS_modify (wpS_bind (wpS_get ?_))));refine wpS_pure ?_;have e:(failedOf st').isNone=true:=by rw [F'.f];rfl
  show Q (failedOf st').isNone _;rw [e];exact h _ _ C1 (W out st' ho F')
 ·rw [if_neg d3]
  refine wpS_bind (c6y F.ip.ext F.ip.ext s1 s2 F1 fun out st' ho F'=>wpS_bind (wpS_modify (wpS_bind (wpS_get ?_))));refine wpS_pure ?_;have e:(failedOf st').isNone=true:=by rw [F'.f];rfl
  show Q (failedOf st').isNone _;rw [e];exact h _ _ C1 (W out st' ho F')
def d6c{p:Prop}[Decidable p]{a n:Nat}(h:a + 1 < n):(if p then a - 1 else a) + 1 < n:=by split<;>omega
def e1d{Q:Unit->SortSt->Prop}(F:Sf s md N #[] st)(h2:2 <= N)(h:∀ st' pd',Sf s md N pd' st'->Q () st'):wpS (model prog w) A E s sortRuns' Q st:=by
 rw [sortRuns'_eq];refine wpS_bind (wpS_get ?_)
 dsimp only
 rw [F.z];refine wpS_bind (wpS_mono (wpS_forRange (I:=fun _ (c:Option Unit × Nat) st'=>c.1=none/\c.2 <= N/\∃ pd:Array 'h',Ch 0 pd.toList c.2/\Sf s md N pd st') (Q:=fun c st'=>c.1=none/\c.2 <= N/\∃ pd:Array 'h',Ch 0 pd.toList c.2/\Sf s md N pd st') ?_ (fun _ _ h=>h) ⟨rfl,zero_le _,#[],(show(0:Nat)=0 from rfl),F⟩) ?_)
 ·rintro i ⟨r,lo⟩ st1 _ _ ⟨e,hl,pd,C,F1⟩
  cases e
  dsimp only at hl C ⊢
  by_cases c1:lo ≥ N
  ·rw [if_pos c1];exact wpS_pure ⟨rfl,hl,pd,C,F1⟩
  rw [if_neg c1];refine wpS_bind (d6a F1 'o' 'o' fun m st2 hm1 hm2 F2=>?_)
  dsimp only
  by_cases c2:m < minRun' N N 0
  ·rw [if_pos c2]
   refine wpS_bind (wpS_lift (wpAny_rule ⟨rfl,?_⟩));refine wpS_bind (s_bin F2 'o' fun st3 F3=>?_);rw [if_neg 'd'];have hn1:1 <= min (N - lo) (minRun' N N 0):=by omega
   have hn2:lo + min (N - lo) (minRun' N N 0) <= N:=by omega
   generalize min (N - lo) (minRun' N N 0)=n at hn1 hn2 ⊢;refine wpS_bind (wpS_get ?_);rw [F3.p];cases hb:pd.back? with
   | none =>
    dsimp only
    refine wpS_bind (wpS_modify (wpS_pure ⟨rfl,hn2,pd.push (lo,n,0),?_,⟨F3.k,F3.z,F3.ip,F3.f,?_⟩⟩))
    ·rw [toList_push];exact C.snoc hn1
    ·show Array.push (pendingOf _) _=_;rw [F3.p]
   | some b =>
    obtain⟨s1,n1,b3⟩:=b
    dsimp only
    refine wpS_bind (wpS_mono (wpS_forRange (I:=fun _ c st'=>c.1=none/\∃ pd:Array 'h',Ch 0 pd.toList lo/\Sf s md N pd st') (Q:=fun c st'=>c.1=none/\∃ pd:Array 'h',Ch 0 pd.toList lo/\Sf s md N pd st') ?_ (fun _ _ h=>h) ⟨rfl,pd,C,F3⟩) ?_)
    ·rintro i ⟨r,u⟩ st1 _ _ ⟨e,pd,C,F1⟩
     cases e
     refine wpS_bind (wpS_get ?_);rw [F1.p];by_cases d1:pd.size > 1
     ·rw [if_pos d1,getElem?_pos pd (pd.size - 2) 'o']
      dsimp only
      split
      ·exact wpS_pure ⟨rfl,pd,C,F1⟩
      ·refine wpS_bind (b0n F1 C hl 'o' fun st2 pd2 C2 F2=>?_)
       rw [if_neg 'd'];exact wpS_pure ⟨rfl,pd2,C2,F2⟩
     ·rw [if_neg d1]
      exact wpS_pure ⟨rfl,pd,C,F1⟩
    ·rintro⟨r,u⟩ st4 ⟨e,pd,C,F4⟩
     cases e
     dsimp only
     refine wpS_bind (wpS_modify (wpS_bind (wpS_modify (wpS_pure ⟨rfl,hn2,(pd.modify (pd.size - 1) fun x=>(x.1,x.2.1,power' N (2 * s1 + n1) (2 * s1 + n1 + n1 + n) N)).push (lo,n,0),?_,⟨F4.k,F4.z,F4.ip,F4.f,?_⟩⟩))));rotate_left
     ·show((pendingOf st4).modify ((pendingOf st4).size - 1) _).push _=_;rw [F4.p]
     ·rw [toList_push,Array.toList_modify];exact(C.mod (f:=fun x=>(x.1,x.2.1,power' N (2 * s1 + n1) (2 * s1 + n1 + n1 + n) N)) (fun x=>⟨rfl,rfl⟩)).snoc hn1
  ·rw [if_neg c2]
   have F3:=F2;have hn1:=hm1;have hn2:lo + m <= N:=by omega
   generalize hmn:m=n at hn1 hn2 ⊢;refine wpS_bind (wpS_get ?_);rw [F3.p];cases hb:pd.back? with
   | none =>
    dsimp only
    refine wpS_bind (wpS_modify (wpS_pure ⟨rfl,hn2,pd.push (lo,n,0),?_,⟨F3.k,F3.z,F3.ip,F3.f,?_⟩⟩))
    ·rw [toList_push];exact C.snoc hn1
    ·show Array.push (pendingOf _) _=_;rw [F3.p]
   | some b =>
    obtain⟨s1,n1,b3⟩:=b
    dsimp only
    refine wpS_bind (wpS_mono (wpS_forRange (I:=fun _ c st'=>c.1=none/\∃ pd:Array 'h',Ch 0 pd.toList lo/\Sf s md N pd st') (Q:=fun c st'=>c.1=none/\∃ pd:Array 'h',Ch 0 pd.toList lo/\Sf s md N pd st') ?_ (fun _ _ h=>h) ⟨rfl,pd,C,F3⟩) ?_)
    ·rintro i ⟨r,u⟩ st1 _ _ ⟨e,pd,C,F1⟩
     cases e
     refine wpS_bind (wpS_get ?_);rw [F1.p];by_cases d1:pd.size > 1
     ·rw [if_pos d1,getElem?_pos pd (pd.size - 2) 'o']
      dsimp only
      split
      ·exact wpS_pure ⟨rfl,pd,C,F1⟩
      ·refine wpS_bind (b0n F1 C hl 'o' fun st2 pd2 C2 F2=>?_)
       rw [if_neg 'd'];exact wpS_pure ⟨rfl,pd2,C2,F2⟩
     ·rw [if_neg d1]
      exact wpS_pure ⟨rfl,pd,C,F1⟩
    ·rintro⟨r,u⟩ st4 ⟨e,pd,C,F4⟩
     cases e
     dsimp only
     refine wpS_bind (wpS_modify (wpS_bind (wpS_modify (wpS_pure ⟨rfl,hn2,(pd.modify (pd.size - 1) fun x=>(x.1,x.2.1,power' N (2 * s1 + n1) (2 * s1 + n1 + n1 + n) N)).push (lo,n,0),?_,⟨F4.k,F4.z,F4.ip,F4.f,?_⟩⟩))));rotate_left
     ·show((pendingOf st4).modify ((pendingOf st4).size - 1) _).push _=_;rw [F4.p]
     ·rw [toList_push,Array.toList_modify];exact(C.mod (f:=fun x=>(x.1,x.2.1,power' N (2 * s1 + n1) (2 * s1 + n1 + n1 + n) N)) (fun x=>⟨rfl,rfl⟩)).snoc hn1
 ·rintro⟨r,lo⟩ st1 ⟨e,hl,pd,C,F1⟩
  cases e
  dsimp only at hl C ⊢
  refine wpS_bind (wpS_mono (wpS_forRange (I:=fun _ c st'=>c.1=none/\∃ pd:Array 'h',Ch 0 pd.toList lo/\Sf s md N pd st') (Q:=fun c st'=>c.1=none/\∃ pd:Array 'h',Ch 0 pd.toList lo/\Sf s md N pd st') ?_ (fun _ _ h=>h) ⟨rfl,pd,C,F1⟩) ?_)
  ·rintro i ⟨r,u⟩ st1 _ _ ⟨e,pd,C,F1⟩
   cases e
   refine wpS_bind (wpS_get ?_);by_cases c1:(pendingOf st1).size <= 1
   ·rw [if_pos c1];exact wpS_pure ⟨rfl,pd,C,F1⟩
   rw [if_neg c1];rw [F1.p] at c1 ⊢;refine wpS_bind (b0n F1 C hl (d6c 'o') fun st2 pd2 C2 F2=>?_);rw [if_neg 'd'];exact wpS_pure ⟨rfl,pd2,C2,F2⟩
  ·rintro⟨r,u⟩ st1 ⟨e,pd,C,F1⟩
   cases e
   exact wpS_pure (h _ _ F1)
end
end Sx
end
section
namespace Sx
open PySem PySem.W PyProof.Rows
end Sx
end
section
namespace Sx
open PySem PySem.W PyProof.Rows
def c6z{vs:List Value}:∀ {out:List Value},(∀ v ∈ out,v ∈ vs)->∃ is:List Nat,is.length=out.length/\(∀ i ∈ is,i < vs.length)/\is.map (fun i=>vs.getD i Value.none)=out
 | [],_=>⟨[],rfl,fun i hi=>absurd hi not_mem_nil,rfl⟩
 | v :: r,h=>by
  obtain⟨is,h1,h2,h3⟩:=c6z (out:=r) fun v hv=>h v (mem_cons_of_mem _ hv);obtain⟨i,hi,e⟩:=getElem_of_mem (h v mem_cons_self);refine⟨i :: is,by rw [length_cons,length_cons,h1],fun j hj=>?_,?_⟩
  ·rcases mem_cons.mp hj with rfl | hj
   ·exact hi
   ·exact h2 j hj
  ·rw [map_cons,h3,getD_eq_getElem?_getD,getElem?_eq_getElem hi]
   exact congrArg (· :: r) e
section
variable{prog:Program}{w:World}{A:Around}{E:Value->Shared->Prop}{s:Shared}
def c7a{a:Addr}{vs:List Value}{n:Nat}{tss:List 'g'}{P:PySem.Fin->Shared->Prop} (ho:s.heap.get? a=some (seqObj "list" vs.toArray n)) (hz:vs.length <= 4096) (hl:tss.length=vs.length)
  (ht:∀ i,i < vs.length->TupAt ((((s.heap.update a (Obj.mapSeq fun _=>#[])).push (seqObj "tuple" vs.toArray 0)).push (seqObj "list" #[] 0))) (vs.getD i Value.none) (tss.getD i []))
  (h:∀ is:List Nat,is.length=vs.length->(∀ i ∈ is,i < vs.length)->(vs.length < 64->is.map (fun i=>tss.getD i [])=srtT tss)->P (.done (.ret .none)) { s with heap:=sortedHeap s.heap a vs (is.map fun i=>vs.getD i Value.none).toArray }) :
  wpAny (model prog w) A (Builtin.«list.sort» ⟨[.ref a],[]⟩) P E s:=by
 by_cases h64:vs.length < 64
 ·exact b5r ho h64 hl ht fun is hp he=>h is (by rw [hp.length_eq,length_range]) (fun i hi=>mem_range.mp (hp.mem_iff.mp hi)) fun _=>he
 rw [list_sort_plain];have ha:a < s.heap.objs.size:=lt_size ho;have hb:vs.toArray.size <= sizeLine:=by rw [size_toArray,sizeLine_eq];omega
 refine wpAny_bind (listItems_at ho rfl (wpAny_bind (listUpdate_at ho rfl ?_ hb (zero_le _))));obtain⟨e1,ho1⟩:∃ e1,(s.heap.update a (Obj.mapSeq fun _=>#[])).get? a=some (seqObj "list" #[] e1):=⟨_,get?_update_seq ho (fun _=>#[])⟩;refine wpAny_bind (seqEpoch_at ho1 rfl (wpAny_bind (wpAny_newTuple ?_ (by show vs.length <= _;rw [sizeLine_eq];omega))));refine wpAny_bind (wpAny_newList (wpAny_holding ?_) (zero_le _));have ho6:(((s.heap.update a (Obj.mapSeq fun _=>#[])).push (seqObj "tuple" vs.toArray 0)).push (seqObj "list" #[] 0)).get? a=some (seqObj "list" #[] e1):=get?_push_of_some _ (get?_push_of_some _ ho1);show wpAny (model prog w) A _ P E { s with heap:=((s.heap.update a (Obj.mapSeq fun _=>#[])).push (seqObj "tuple" vs.toArray 0)).push (seqObj "list" #[] 0) }
 dsimp only
 have hn2:¬ vs.toArray.size < 2:=by rw [size_toArray];omega
 rw [if_neg hn2,if_neg hn2];have hv:∀ v ∈ vs,∃ t,TupAt (((s.heap.update a (Obj.mapSeq fun _=>#[])).push (seqObj "tuple" vs.toArray 0)).push (seqObj "list" #[] 0)) v t:=fun v hv=>by
  obtain⟨i,hi,e⟩:=getElem_of_mem hv;have:=ht i hi;rw [show vs.getD i Value.none=v by rw [getD_eq_getElem?_getD,getElem?_eq_getElem hi];exact e] at this;exact⟨_,this⟩
 obtain⟨fs,k1,k2,k3⟩:=b2m hv;refine wpAny_bind (kat_kind (T:=.type "int") k1 'o' (fun v hv=>?_) 'd' ?_)
 ·obtain⟨n,t,rfl⟩:=k3 v hv
  exact .now
 refine wpAny_bind (wpAny_mono (e1d (s:={ s with heap:=((s.heap.update a (Obj.mapSeq fun _=>#[])).push (seqObj "tuple" vs.toArray 0)).push (seqObj "list" #[] 0) }) (md:=some (Value.type "int" != Value.type "tuple",vs)) (N:=vs.length) (st:=SortSt.mk' (tuples' (Value.type "int" != Value.type "tuple")) (vs.toArray.zip vs.toArray) #[] 7 none)
  (Q:=fun _ st'=>∃ pd,Sf { s with heap:=((s.heap.update a (Obj.mapSeq fun _=>#[])).push (seqObj "tuple" vs.toArray 0)).push (seqObj "list" #[] 0) } (some (Value.type "int" != Value.type "tuple",vs)) vs.length pd st') ⟨rfl,pairsOf_size _,fun x hx=>?_,rfl,rfl⟩ 'o' fun st' pd F=>⟨pd,F⟩) ?_ fun _ _ e=>e)
 ·have h1:x ∈ vs.zip vs:=by rw [← pairsOf_toList];exact mem_toList_iff.mpr hx
  obtain⟨e,m⟩:=mem_zip_self h1;obtain⟨x1,x2⟩:=x
  dsimp only at e m
  subst e;obtain⟨t,g⟩:=hv _ m;exact⟨_,t,rfl,m,g⟩
 rintro⟨⟨⟩,st'⟩ s' ⟨rfl,pd,F⟩
 dsimp only
 have fz:=F.z;obtain⟨is,i1,i2,i3⟩:=c6z (vs:=vs) (out:=((arrOf st').map (·.2)).toList) fun v hv=>by
  rw [Array.toList_map] at hv;obtain⟨x,hx,e⟩:=mem_map.mp hv;obtain⟨v',t,e2,m,_⟩:=F.ip x (mem_toList_iff.mp hx);rw [← e,e2];exact m
 refine wpAny_bind (seqEpoch_at ho6 rfl ?_);refine wpAny_bind (listUpdate_at ho6 rfl ?_ (hsz2:=by rw [Array.size_map];refine le_trans (le_of_eq F.z) ?_;rw [sizeLine_eq];omega));rw [F.f];simp only [bne_self_eq_false,false_eq_true,if_false];have hh:=h is (by rw [i1,length_toList,Array.size_map];exact fz) i2 fun q=>absurd q h64;rw [i3,Array.toArray_toList] at hh;exact wpAny_pure hh
end
end Sx
namespace L2
open PySem PySem.Spec PyProof.Rows
section
variable{prog:Program}{w:World}{A:Around}{E:Value->Shared->Prop}{s:Shared}
def b8o{l:Addr}{vs:List Value}{tss:List 'g'}{Q:Value->Shared->Prop}(hl:s.heap.IsList l vs.toArray)(hn:tss.length=vs.length)(ht:∀ i,i < vs.length->Sx.TupAt s.heap (vs.getD i Value.none) (tss.getD i []))(h64:vs.length <= 4096)
  (h:∀ is:List Nat,is.length=vs.length->(∀ i ∈ is,i < vs.length)->(vs.length < 64->is.map (fun i=>tss.getD i [])=Sx.srtT tss)->Q (.ref (s.heap.objs.size + 1)) { s with heap:=sortedAll s.heap vs (is.map fun i=>vs.getD i Value.none).toArray }):wpAny (model prog w) A (call (.builtin "sorted") [.ref l]) Q E s:=by
 refine Calls.call_function_entry kind_sorted plain_sorted entry_sorted (args_sorted1 _) ?_;unfold Builtin.«sorted»;refine wpAny_bind (m:=checkCount "sorted" 1 1 _) (wpAny_pure (wpAny_bind (collect_list hl ?_ (by rw [sizeLine_eq];omega))));refine wpAny_bind (wpAny_newList ?_ (by rw [sizeLine_eq];omega));have hz:((s.heap.push (seqObj "list" #[] 0)).update s.heap.objs.size (Obj.mapSeq (· ++ vs.toArray))).objs.size=s.heap.objs.size + 1:=by rw [Heap.size_update,size_push']
 have oL:(((s.heap.push (seqObj "list" #[] 0)).update s.heap.objs.size (Obj.mapSeq (· ++ vs.toArray))).push (seqObj "list" vs.toArray 0)).get? (s.heap.objs.size + 1)=some (seqObj "list" vs.toArray 0):=by rw [← hz];exact get?_push_size _ rfl
 show wpAny _ _ _ _ _ { s with heap:=(((s.heap.push (seqObj "list" #[] 0)).update s.heap.objs.size (Obj.mapSeq (· ++ vs.toArray))).push (seqObj "list" vs.toArray 0)) };rw [hz];have keep:∀ b o,s.heap.get? b=some o->(((((((s.heap.push (seqObj "list" #[] 0)).update s.heap.objs.size (Obj.mapSeq (· ++ vs.toArray))).push (seqObj "list" vs.toArray 0)).update (s.heap.objs.size + 1) (Obj.mapSeq fun _=>#[])).push (seqObj "tuple" vs.toArray 0)).push (seqObj "list" #[] 0))).get? b=some o:=fun b o q=>by
  have hlt:b < s.heap.objs.size:=lt_size q;refine get?_push_of_some _ (get?_push_of_some _ ?_);rw [Heap.get?_update_ne _ _ _ _ (ne_of_lt (lt_succ_of_lt hlt))];refine get?_push_of_some _ ?_;rw [Heap.get?_update_ne _ _ _ _ (ne_of_lt hlt)];exact get?_push_of_some _ q
 refine wpAny_bind (wpAny_holding (wpAny_call_entry slot_list_sort ⟨_,oL,rfl⟩ entry_list_sort (Sx.c7a oL h64 hn (fun i hi=>b1x (ht i hi) keep) fun is hp hr he=>⟨_,rfl,?_⟩) (args_list_sort _)));exact wpAny_pure ⟨_,rfl,h is hp hr he⟩
end
section
variable{X:Cx}
noncomputable def d2f(K:W.Frag):List V->Hp->VK->Prop:=fun xs H Q=>∃ v S,∃ tss:List 'g',xs=[v]/\AtD K H S (.list (tss.map encT)) v/\(∀ t ∈ tss,t ≠ [])/\tss.length <= 4096/\∀ (p:Addr) (xs':List V) (tss':List 'g'),H p=none->tss'.length=tss.length->(∀ t ∈ tss',t ∈ tss)->(tss.length < 64->tss'=Sx.srtT tss)->a0a K H S (tss'.map encT) xs'->Q (.ref p) (upd H p (.lst xs'))
def c7b:a1r X (.builtin "sorted") (d2f X.K):=by
 intro pins s σ H xs us Q I rs h;obtain⟨v,S,tss,rfl,hd,hne,hn,q⟩:=h;obtain⟨u,rfl,r⟩:=vals1 rs;obtain⟨a,ys,rfl,_,hq,t⟩:=a2u hd;cases r;obtain⟨its,rv,pl,hz⟩:=I.list (SqL.of hq);have hl:its.length=tss.length:=by rw [← rv.length,t.length,length_map]
 refine b8o pl.isList hl.symm (b8a I hne t rv) 'o' fun is hp hin he=>?_;have a1:=a9g t is (fun i hi=>by have:=hin i hi;omega);have v1:=b0m rv is (fun i hi=>by have:=hin i hi;rw [rv.length];exact this);obtain⟨e,hoe⟩:=sortedAll_at s.heap its (is.map fun i=>its.getD i Value.none).toArray;have hle:(is.map fun i=>ys.getD i V.non).length <= sizeLine:=by
  rw [length_map,hp,sizeLine_eq];omega
 refine⟨.ref _,_,I.laid (a:=s.heap.objs.size + 1) (o:=.lst (is.map fun i=>ys.getD i V.non)) (t':=s.toks) (fun b o e=>sortedAll_old e) 'n' ⟨hle,_,e,v1,hoe⟩,rfl,q _ _ (is.map fun i=>tss.getD i []) (I.hok.fresh 'n') (by rw [length_map,hp,hl]) (fun t ht=>?_) (fun h64=>he 'o') a1⟩;obtain⟨i,hi,rfl⟩:=mem_map.mp ht;have:=hin i hi;rw [getD_eq_getElem?_getD,getElem?_eq_getElem (show i < tss.length by omega)];exact getElem_mem _
end
end L2
end
section
namespace L2
open PySem PySem.Spec PyProof.Rows Kd
def b5u:TDS:=fun D ρ=>∃ ms:List 'g',ρ[0]? = some (some (.d (.list (ms.map encT))))/\ms.length <= 600/\(∀ m ∈ ms,(encT m).canLay0=true)/\ρ.length=4/\∀ tss',(ms.length < 64->tss'=Sx.srtT (gDX ms))->(∀ t ∈ tss',t ∈ gDX ms)->tss'.length=(gDX ms).length->D.rt (.d (.tuple (tss'.map encT))) ρ
abbrev c7c(P:Program)(w:World)(K:W.Frag):TS:=tSeq (tAsg (c6w P w) (a2r 1)) (tSeq (tFor (c3a K (tVar 0)) (gTup K 2 (b0t (a2r 2) (b0t (a2r 3) gNil))) (c1q (tBM K "list" b4d (tBMX P w K (b8k P w K) (tVar 1) (a3g (tVar 3) (a3g (tLst tNil) tNil))) (a3g (tVar 2) tNil))))
 (tRet (tCB (rTup K) (a3g (tCB (d2f K) (a3g (b3f ["part"] [] (c6v P w K (tVar 1)) (a2r 0) tYes (tCB (rTup K) (a3g (tVar 0) tNil))) tNil)) tNil))))
def b9v{P:Program}{w:World}{K:W.Frag}:AdS K (c7c P w K) b5u:=by
 intro c O ρ σ H D Dd R E h;obtain⟨ms,e0,hl,hcl,hρ,q⟩:=h;obtain⟨v0,s0,a0⟩:=R.dat 0 _ e0;obtain⟨a,xs,rfl,sa,ha,hA⟩:=a2u a0;have lx:=hA.length;rw [length_map] at lx;have hσ:σ.length=4:=by rw [R.len];exact hρ
 obtain⟨x0,x1,x2,x3,eσ⟩:∃ x0 x1 x2 x3,σ=[x0,x1,x2,x3]:=by
  rcases σ with _ | ⟨x0,_ | ⟨x1,_ | ⟨x2,_ | ⟨x3,_ | ⟨_,_⟩⟩⟩⟩⟩<;>simp at hσ
  exact⟨x0,x1,x2,x3,rfl⟩
 have ex0:x0=some (.ref a):=by rw [eσ] at s0;exact Option.some.inj s0
 subst ex0;rw [eσ];refine fun p hp=>?_;refine⟨_,rfl,a,xs,rfl,SqL.of (by rw [a0b (a0u ha hp)];exact ha),?_⟩;refine b8e (xs:=xs) (fun i σ' H'=>∃ u2 u3 T,σ'=[some (.ref a),some (.ref p),u2,u3]/\PBX P w K H p ms i T H') ?_ (fun i σ' H' _ h=>by obtain⟨_,_,_,_,B⟩:=h;exact SqL.of (B.same _ _ ha)) ?_ ?_
 ·exact⟨_,_,[],rfl,⟨rfl,a0d,fun t ht=>(by cases ht),fun t ht=>(by cases ht),.nil,.nil,le_refl _,fun t ht=>(by cases ht),a0f hp _⟩⟩
 ·rintro i x σ' H' T0 hx ⟨u2,u3,T,rfl,B⟩ hT0
  have hi:i < ms.length:=by have:=(List.getElem?_eq_some_iff.mp hx).1;omega
  have hm:ms[i]? = some ms[i]:=getElem?_eq_getElem hi;obtain⟨m,hmm⟩:∃ m,m=ms[i]:=⟨_,rfl⟩;rw [← hmm] at hm;obtain⟨x',ex,ax⟩:=hA.get (i:=i) (d:=encT m) (by rw [getElem?_map,hm];rfl);rw [hx] at ex;cases ex;have ax0:=ax;unfold AtD at ax;obtain⟨b,bs,rfl,_,_⟩:=ax;have s1:Same H' (upd H' T0 (.tup [.int i,.ref b])):=a0f hT0 _;have kb:∀ H2,Same H' H2->KOk K H2 (encT m) b:=fun H2 s=>⟨b8l m,hcl m (mem_of_getElem? hm),_,AtD.mono (S:=fun _=>False) (Same.keep (H:=H) fun c o h=>s _ _ (B.same _ _ h)) _ _ (AtD.tups _ _ (a2e m) ax0)⟩;refine⟨T0,_,rfl,SqT.of a0d,rfl,_,_,rfl,_,_,rfl,rfl,?_⟩;refine⟨_,rfl,⟨p,_,rfl,B.dx s1⟩,_,rfl,(show(0:Nat) <= sizeLine by decide),fun q' hq'=>?_⟩;have s2:Same H' (upd (upd H' T0 (.tup [.int i,.ref b])) q' (.lst [])):=fun b o hb=>a0f hq' _ _ _ (s1 _ _ hb);refine⟨p,b,kTX T,encT m,.ref q',rfl,rfl,B.dx s2,kb _ s2,?_,fun v hv=>?_,fun hn=>?_⟩
  ·unfold kTX
   rw [length_map];exact a9x (by have:=B.len;omega)
  ·obtain⟨t,ht,et,rfl⟩:=gfX.1 v hv
   obtain⟨b1,b2⟩:=B.pl t ht;refine⟨.inl ⟨rfl,_,SqL.of (s2 _ _ (B.at_ t ht).1)⟩,_,rfl,t.2.2.1,_,_,rfl,rfl,s2 _ _ (B.at_ t ht).1,?_,?_⟩
   ·unfold nV
    rw [length_map];exact a9x 'o'
   ·refine⟨_,_,T.map (a1d m i),rfl,?_⟩
    rw [b4l];exact B.old hm s2 ht et
  ·have qp:q' ≠ p:=fun z=>by rw [z,s1 _ _ B.dk] at hq';cases hq'
   have e1:upd (upd (upd H' T0 (.tup [.int i,.ref b])) q' (.lst [])) p (.ext (dxq P w p (kTX T ++ [(encT m,b,.ref q')]))) q'=some (.lst []):=by rw [a0b qp,a0d]
   exact⟨.inl ⟨rfl,_,SqL.of e1⟩,_,rfl,q',_,_,rfl,rfl,e1,(show(0:Nat) < sizeLine by decide),_,_,_,rfl,B.new hp hm s1 (kb _ s1) hq' hn⟩
 ·rintro σ' H' ⟨u2,u3,T,rfl,B⟩
  rw [lx] at B;have lk:((kTX T).map (·.2.2)).length=T.length:=by unfold kTX;rw [length_map,length_map]
  refine⟨_,rfl,p,kTX T,rfl,B.dx (fun _ _ h=>h),fun o D0 hD0=>a6i (c3s (fun j σ2 H2=>∃ u ws,σ2=[u]/\H2 p=some (.ext (fzq p o))/\(∀ b o',b ≠ p->H' b=some o'->H2 b=some o')/\H2 D0=some (.lst ws)/\a0a K H2 (fun _=>False) ((T.take j).map fun t=>encT (t.2.2.2.map fun(c:Nat)=>(c:Int))) ws) ?_ (fun j σ2 H2 _ h=>by obtain⟨_,_,_,h,_⟩:=h;exact h) ?_ ?_)⟩
  ·have dp:p ≠ D0:=fun z=>by rw [← z,a0d] at hD0;cases hD0
   exact⟨none,[],rfl,by rw [a0b dp,a0d],fun b o' hb h=>by rw [a0b (fun z=>by rw [z,← a0b (H:=H') (o:=.ext (fzq p o)) (Ne.symm dp),hD0] at h;cases h),a0b hb];exact h,a0d,.nil⟩
  ·rintro j x σ2 H2 hx ⟨u,ws,rfl,hf,hs,hD,hw⟩
   unfold kTX at hx;rw [map_map,getElem?_map] at hx;obtain⟨t,ht,rfl⟩:=map_eq_some_iff.mp hx;have htm:=mem_of_getElem? ht;have hj:j < T.length:=(List.getElem?_eq_some_iff.mp ht).1;obtain⟨b1,b2⟩:=B.pl t htm
   dsimp only [a2r,tYes]
   rw [if_pos rfl];refine⟨_,rfl,t.2.2.1,nV t.2.2.2,rfl,.inl ⟨SqL.of (hs _ _ (B.at_ t htm).2.2 (B.at_ t htm).1),fun l hl'=>⟨ws,?_,?_,_,_,rfl,?_,?_,a0d,?_⟩⟩⟩
   ·rw [a0b (a0u hD hl')];exact hD
   ·rw [hw.length,length_map]
    have h1:=List.length_take_le j T;have h2:=B.len;exact a9x 'o'
   ·have dp:p ≠ D0:=fun z=>by rw [z,hD] at hf;cases hf
    rw [a0b dp,a0b (a0u hf hl')];exact hf
   ·intro b o' hb h
    have n1:b ≠ D0:=fun z=>by
     have dp:p ≠ D0:=fun z=>by rw [z,hD] at hf;cases hf
     rw [z,← a0b (H:=H') (o:=.ext (fzq p o)) (Ne.symm dp),hD0] at h;cases h
    rw [a0b n1,a0b (a0u (hs _ _ hb h) hl')];exact hs _ _ hb h
   ·have dl:D0 ≠ l:=a0u hD hl'
    have hDl:upd H2 l (.tup (nV t.2.2.2)) D0=some (.lst ws):=by rw [a0b dl];exact hD
    have kp:Keep (fun _=>False) H2 (upd (upd H2 l (.tup (nV t.2.2.2))) D0 (.lst (ws ++ [.ref l]))):=by
     refine((a0f hl' (.tup (nV t.2.2.2))).keep).trans ⟨fun b xs h=>?_,fun b c u h=>?_,fun b u s _=>s.elim⟩
     ·rw [a0b (fun z=>by rw [z,hDl] at h;cases h)];exact h
     ·rw [a0b (fun z=>by rw [z,hDl] at h;cases h)];exact h
    rw [take_add_one,ht,toList_some,map_append];refine(a0a.mono kp _ _ hw).snoc ?_;show AtD _ _ _ (.tuple ((t.2.2.2.map fun(c:Nat)=>(c:Int)).map .int)) _;have en:nV t.2.2.2=(t.2.2.2.map fun(c:Nat)=>(c:Int)).map V.int:=by unfold nV;rw [map_map];rfl
    refine a1q (SqT.of (xs:=nV t.2.2.2) (by rw [a0b (Ne.symm dl),a0d])) ?_;rw [en];exact a0a.ints _
  ·rintro σ2 H2 ⟨u,ws,rfl,hf,hs,hD,hw⟩
   rw [lk,take_length] at hw;have hD0H:H D0=none:=by
    have dp:p ≠ D0:=fun z=>by rw [z,hD] at hf;cases hf
    cases e:H D0 with
    | none=>rfl
    | some o'=>(rw [a0b (Ne.symm dp),B.same _ _ e] at hD0;cases hD0)
   have egrp:(T.map fun t=>encT (t.2.2.2.map fun(c:Nat)=>(c:Int)))=(gDX ms).map encT:=by
    unfold gDX;rw [← B.eq,map_map,map_map];rfl
   rw [egrp] at hw;have lg:(gDX ms).length=T.length:=by
    unfold gDX;rw [← B.eq,length_map,length_map]
   refine⟨.ref D0,live c O,gDX ms,rfl,a2c (R.frsLive D0 hD0H) hD (a0a.more (fun _ z=>z.elim) _ _ hw),fun g hg=>?_,by rw [lg];have:=B.len;omega,fun p2 xs' tss' hp2 z1 z2 z3 hA'=>?_⟩
   ·unfold gDX at hg
    rw [← B.eq,map_map] at hg;obtain⟨t,ht,rfl⟩:=mem_map.mp hg;intro z;exact(B.pl t ht).1 (List.map_eq_nil_iff.mp z)
   ·refine⟨p2,xs',rfl,.inl ⟨SqL.of a0d,fun l3 hl3=>?_⟩⟩
    have sA:Same H H2:=fun b o' h=>hs b o' (fun z=>by rw [z,hp] at h;cases h) (B.same _ _ h);have sB:Same H2 (upd (upd H2 p2 (.lst xs')) l3 (.tup xs')):=fun b o' h=>a0f hl3 _ _ _ (a0f hp2 _ _ _ h);exact E.rt (.d (.tuple (tss'.map encT))) O ρ σ _ _ ⟨R.grow (fun b o' h=>sB _ _ (sA _ _ h)),a1q (SqT.of a0d) (a0a.mono sB.keep _ _ hA')⟩ (q tss' (fun z=>z3 (by rw [lg];have:=B.len;omega)) z2 z1)
end L2
end
namespace L2
open PySem PySem.Spec PyProof.Rows
section
theorem c7d{xs:List PyData}:a5t (.list xs)=false:=rfl
end
section
section
open PySem.SeqAt PySem.MeetsSeq
variable{A:Around}{s:Shared}
end
section
variable{X:Cx}
open Classical in
end
section
variable{X:Cx}
open Classical in
end
section
variable{K:W.Frag}
variable{X:Cx}{e1:Expr}{daa:TDA}{pos:Pos}
variable{d1:TDE}{da:TDA}{ρ:Rho}{Q:DV->Rho->Prop}
end
end
section
section
open PySem.SeqAt PySem.MeetsSeq
variable{A:Around}{s:Shared}
end
end
section
def a1h.there{P:Program}{w:World}{H:Hp}{h:Heap}{a:Addr}{o:HO}(x:a1h P w H h a o):∃ u,h.get? a=some u:=by
 cases o with
 | lst xs=>obtain⟨_,_,_,_,e⟩:=x;exact⟨_,e⟩
 | tup xs=>obtain⟨_,_,_,o,e,_⟩:=x;exact⟨_,e⟩
 | dK kvs=>obtain⟨_,_,_,_,o,_,_,e,_⟩:=x;exact⟨_,e⟩
 | dT kvs=>obtain⟨_,_,_,_,o,_,_,e,_⟩:=x;exact⟨_,e⟩
 | set S n=>obtain⟨o,_,_,_,e,_⟩:=x;exact⟨_,e⟩
 | ins C dx fs=>obtain⟨_,_,_,e,_⟩:=x;exact⟨_,e⟩
 | own y=>obtain⟨_,e⟩:=x;exact⟨_,e⟩
 | xd fs=>obtain⟨_,⟨_,_,_,e,_⟩,_⟩:=x;exact⟨_,e⟩
 | rng lo hi=>obtain⟨_,_,_,e⟩:=x;exact⟨_,e⟩
 | frz ob u=>obtain⟨e,_⟩:=x;exact⟨_,e⟩
 | tbl ps=>exact⟨_,show h.get? a=some _ from x⟩
 | met f y=>exact⟨_,show h.get? a=some _ from x⟩
 | ext φ=>obtain⟨_,z,_⟩:=x;exact z
def Cov(l:List Env)(H:Hp)(h0 B h:Heap):Prop:=∀ b o,h.get? b=some o->(H b ≠ none ∨ ∃ o',h0.get? b=some o')->b ∉ frs l->B.get? b=some o
noncomputable def CX1(P:Program)(w:World):CXT:=fun outer H s E e s'=>∃ (a C:Addr) (t:Value) (B:Heap) (H':Hp),e=.ref a/\s'.os=s.os/\AllBare s'.gens/\Un (frs outer) [] H H' s.heap s'.heap/\HOk P w H' s'.heap/\H' a=none /\
 Heap.FlyingW B outer a (.ref C) t s'.heap/\Cov outer H' s.heap B s'.heap/\E (.ref C) none H'
section
variable{X:Cx}{pins:List 'a'}{σ:St}{H H':Hp}{s s':Shared}{h1 B:Heap}
def a9i(I:Inv X pins σ H s)(un:Un (frs X.stack) [] H H' s.heap s'.heap)(hok:HOk X.prog X.w H' s'.heap)(cov:Cov X.stack H' s.heap B s'.heap)(bt:B.StaysIn h1)(up:s'.heap.UpToSlots h1) :
  Un (frs X.stack) [] H H' s.heap h1/\HOk X.prog X.w H' h1/\Cov X.stack H' s.heap B h1:=by
 have nf:∀ b o,s'.heap.get? b=some o->b ∈ frs X.stack->∀ vs,o.data ≠ .fields vs:=fun b o e hb=>by
  obtain⟨_,o2,ho2,hd⟩:=I.stack.mem hb;obtain⟨sl,e2⟩:=un.slot b o2 ho2 (I.stkFree b hb) hb 'c';rw [e] at e2;cases e2;exact hd
 have fr:∀ b,H' b ≠ none->b ∉ frs X.stack:=fun b n hb=>by
  obtain⟨_,o2,ho2,_⟩:=I.stack.mem hb;exact n (un.free b o2 ho2 (I.stkFree b hb) 'c')
 have inB:∀ b o,s'.heap.get? b=some o->(H' b ≠ none ∨ ∃ o',s.heap.get? b=some o')->b ∉ frs X.stack->h1.get? b=some o:=fun b o e c n=>bt b o (cov b o e c n);refine⟨⟨fun b o e n hb _=>inB b o (un.keep b o e n hb 'c') (.inr ⟨o,e⟩) hb,fun b o e n hb _=>?_,un.free,fun b o e _=>?_,un.tups,un.frzs,un.tbls⟩,fun a o q=>?_,fun b o e c n=>?_⟩
 ·obtain⟨sl,e1⟩:=un.slot b o e n hb 'c'
  obtain⟨sl',e2⟩:=up b _ e1 (nf b _ e1 hb);exact⟨sl',e2⟩
 ·obtain⟨o1,e1⟩:=un.there b o e 'c'
  by_cases hb:b ∈ frs X.stack
  ·obtain⟨sl',e2⟩:=up b _ e1 (nf b _ e1 hb)
   exact⟨_,e2⟩
  ·exact⟨o1,inB b o1 e1 (.inr ⟨o,e⟩) hb⟩
 ·refine(hok a o q).stay (fun b u hb e=>?_) (fun _ z=>z) fun _ _ z=>z
  have hn:H' b ≠ none:=by
   rcases hb with rfl | hb
   ·rw [q];exact fun z=>nomatch z
   ·rw [hb];exact fun z=>nomatch z
  exact inB b u e (.inl hn) (fr b hn)
 ·have:∃ u,s'.heap.get? b=some u:=by
   rcases c with c | ⟨o',c⟩
   ·cases q:H' b with
    | none=>exact absurd q c
    | some ho=>exact(hok b ho q).there
   ·exact un.there b o' c 'c'
  obtain⟨u,hu⟩:=this;have hB:=cov b u hu c n;have:=bt b u hB;rw [e] at this;cases this;exact hB
def c1k{a C:Addr}{t:Value}{E:XK}(J:Inv X pins σ H' { s' with heap:=h1 })(hst:X.stack=X.env :: X.outer)(hex:X.ex=[])(fl:Heap.FlyingW B X.outer a (.ref C) t h1)(cov:Cov X.stack H' X.s₀.heap B h1)(ha:H' a=none)(hE:E (.ref C) none H') :
  CX1 X.prog X.w X.outer X.H₀ X.s₀ E (.ref a) { s' with heap:=h1 }:=by
 have hb:=J.base;rw [hex] at hb;refine⟨a,C,t,B,H',rfl,J.os,J.bare,hb,J.hok,ha,fl,fun b o e c n=>cov b o e c fun hm=>?_,hE⟩;rcases mem_cons.mp (J.stkSub b hm) with z | z
 ·rcases c with c | ⟨o',c⟩
  ·exact c (by rw [z];exact J.free)
  ·have hlt:=lt_of_lt_of_le (lt_size c) J.ok.above
   rw [z] at hlt;exact absurd hlt (lt_irrefl _)
 ·exact n z
def d0k{E:XK}{e:Value}{Ex:Value->Shared->Prop}(I:Inv X pins σ H s)(hst:X.stack=X.env :: X.outer)(hf:X.env.frame=some X.env.locals)(hex:X.ex=[])(c:CX1 X.prog X.w X.stack H s E e s') :
  wpAny (model X.prog X.w) X.A (leaving X.env e) (fun _ s''=>CX1 X.prog X.w X.outer X.H₀ X.s₀ E e s'') Ex s':=by
 obtain⟨a,C,t,B,H',rfl,os,bare,un,hok,ha,fl,cov,hE⟩:=c;have hfr:X.A.frames=some (X.env :: X.outer):=by rw [← hst];exact I.ok.frames
 have fl0:=fl;rw [hst] at fl0;refine wpAny_leaves_onW hfr hf fl0 fun h1 fl1 up=>?_;obtain⟨un1,hok1,cov1⟩:=a9i I un hok cov fl1.1 up;have J:Inv X pins σ H' { s' with heap:=h1 }:=I.call' (s':={ s' with heap:=h1 }) os un1 hok1 bare (fun b z=>absurd z 'c');refine c1k (s':=s') J hst hex fl1 (fun b o e c n=>cov1 b o e ?_ n) ha hE;rcases c with c | ⟨o',c⟩
 ·exact .inl c
 ·exact .inr (I.base.there b o' c (by rw [hex];simp))
def leave_new{E:XK}{e C:Addr}{h2:Heap}{Ex:Value->Shared->Prop}{vs:List Value}(I:Inv X pins σ H s)(hst:X.stack=X.env :: X.outer)(hf:X.env.frame=some X.env.locals)(hex:X.ex=[])(m:Heap.MadeExcOf s.heap h2 e (.ref C) vs)(hE:E (.ref C) none H) :
  wpAny (model X.prog X.w) X.A (leaving X.env (.ref e)) (fun _ s''=>CX1 X.prog X.w X.outer X.H₀ X.s₀ E (.ref e) s'') Ex { s with heap:=h2 }:=by
 have hfr:X.A.frames=some (X.env :: X.outer):=by rw [← hst];exact I.ok.frames
 have hst2:=I.stack;have he:H e=none:=by
  cases q:H e with
  | none=>rfl
  | some o =>
   obtain⟨u,hu⟩:=(I.hok e o q).there;rw [m.new] at hu;cases hu
 have hfs:s.heap.FunFrames (PySem.W.hideAll s.heap (frs X.stack)) (X.env :: X.outer):=by
  rw [hst] at hst2 ⊢;exact PySem.W.funFrames_hide hst2 fun env he b hb=>List.mem_filterMap.mpr ⟨env,he,hb⟩
 refine wpAny_leaves_madeW (base:=PySem.W.hideAll s.heap (frs X.stack)) (h:=s.heap) hfr hf (fun b o q=>PySem.W.of_hideAll _ q) hfs m fun h1 t fl tup tn up=>?_;have cov:Cov X.stack H s.heap (PySem.W.hideAll s.heap (frs X.stack)) s.heap:=fun b o e _ n=>PySem.W.hideAll_get _ e n;have up2:s.heap.UpToSlots h1:=(Heap.UpToSlots.of_keeps m.keeps).trans up;obtain⟨un1,hok1,cov1⟩:=a9i (s':=s) I Un.refl I.hok cov fl.1 up2;have J:Inv X pins σ H { s with heap:=h1 }:=I.call' (s':={ s with heap:=h1 }) rfl un1 hok1 I.bare (fun b z=>absurd z 'c');refine c1k (s':=s) J hst hex fl (fun b o e c n=>cov1 b o e ?_ n) he hE;rcases c with c | ⟨o',c⟩
 ·exact .inl c
 ·exact .inr (I.base.there b o' c (by rw [hex];simp))
end
end
section
abbrev veM:List Value:=[.type "ValueError",.type "Exception",.type "BaseException",.type "object"]
def d6d{K:W.Frag}{h:Heap}{C:Addr}{bB:List Value}{newId:String}(X:K.In h)(q:PySem.W.excIn K C bB newId=true) :
  ∃ bm N nm qn bs hd sn sub ab col dd k0 k1 k2 k3 k5 mN,h.get? C=some (excClassObj nm qn C N bs bm hd sn sub ab col dd k0 k1 k2 k3 k5 newId)/\h.Ns N mN/\mN "__init__" = none/\OwnTail h bB bm:=by
 unfold PySem.W.excIn at q;split at q
 ·rename_i dd cd sl ho
  split at q
  ·rename_i C' bm k0 k1 k2 k3 n k5 hm hs
   simp only [and_eq_true,beq_iff_eq,Bool.not_eq_true'] at q;obtain⟨⟨⟨⟨⟨rfl,rfl⟩,hdel⟩,ht⟩,hok⟩,hni⟩:=q;obtain⟨nm,bs,mro,ns,qn,hd,sn,sub,ab,col,del⟩:=cd
   dsimp only at hm hdel hok hni
   subst hm hdel;have e:sl = #[k0,k1,k2,k3,some (.builtin n),k5]:=by
    cases sl
    simp only at hs;rw [hs]
   subst e;exact⟨bm,ns,nm,qn,bs,hd,sn,sub,ab,col,dd,k0,k1,k2,k3,k5,_,X _ _ ho,.of_isNs (PySem.W.isNs_of_in X hok),PySem.W.nsMap_none_of_in X hok hni,PySem.W.tail_of_in X ht⟩
  ·cases q
 ·cases q
section
variable{X:Cx}{x:Str}{C:Addr}{E:XK}{np cpos pos:Pos}
structure Out(X:Cx)(E:XK):Prop where
 st:X.stack=X.env :: X.outer
 fr:X.env.frame=some X.env.locals
 ex:X.ex=[]
 xe:∀ e s',wpAny (model X.prog X.w) X.A (leaving X.env e) (fun _ s''=>CX1 X.prog X.w X.outer X.H₀ X.s₀ E e s'') (fun e' s''=>CX1 X.prog X.w X.outer X.H₀ X.s₀ E e' s'') s'->X.xe e s'
def c7e{P:Program}{w:World}{K:W.Frag}{mg:Str->Option Value}{base:Heap}{N:List Str}{qual:Str}{scope:Scope}{f:Addr}{cd:Value}{A:Around}{outer:List Env}{s:Shared}{H:Hp} :
  Out (cxOf (CX1 P w) P w K mg base N qual scope f cd A outer s H E) E:=⟨rfl,rfl,rfl,fun _ _ h=>h⟩
def pass1(O:Out X E):a8i (CX1 X.prog X.w) X E:=fun pins σ H s e s' I c=>O.xe e s' (d0k I O.st O.fr O.ex c)
def c7f(E:XK)(C:Addr):TS:=fun _ _ H=>E (.ref C) none H
def d0l(O:Out X E)(hc:X.calm=true)(hg:Gl X x)(hm:X.mg x=some (.ref C)) (q:PySem.W.excIn X.K C veM "ValueError.__new__" = true) (hd:(x == ("__debug__" : Str))=false:=by decide):PS X (.Raise (some (.Call (.Name x np) [] [] cpos)) none pos) (c7f E C):=by
 intro pins s σ H D I h;obtain⟨bm,N,nm,qn,bs,hdc,sn,sub,ab,col,dd,k0,k1,k2,k3,k5,mN,hC,hN,hni,T⟩:=d6d I.kIn q;refine wpAny_Raise_call_subT (nm:=nm) (q:=qn) (N:=N) (bs:=bs) (hdct:=hdc) (sn:=sn) (sub:=sub) (ab:=ab) (col:=col) (dd:=dd) (k0:=k0) (k1:=k1) (k2:=k2) (k3:=k3) (k5:=k5) PySem.F.excBase_ValueError (T.hasType 'd') (I.ok.hd hc) rfl hni (a7f I hg hm ⟨rfl,?_⟩ hd);refine wpAny_pure ⟨rfl,zero_le _,hC,hN,T,fun h' e m=>O.xe _ _ (leave_new I O.st O.fr O.ex m h)⟩
end
section
variable{P:Program}{w:World}{K:W.Frag}{mg:Str->Option Value}{base:Heap}
def Fun.okX{x qual:Str}{st:Stmt}{f:Addr}{fd:FuncData}{N ps:List Str}{k:Nat}{sp:Sp}(F:Fun K x qual st f fd)(S:FnScope N ps (a0h st))(len:∀ vs H Q E,sp vs H Q E->vs.length=ps.length)
  (hbody:∀ (cdv:Value) (A:Around) (outer:List Env) (s:Shared) (H:Hp) (vs:List V) (Q:VK) (E:XK),Room k (A.deeper (envOfC qual (a0h st) s.heap.objs.size f cdv))->sp vs H Q E ->
   ∃ t,PSs (cxOf (CX1 P w) P w K mg base N qual (a0h st) f cdv A outer s H E) (a2n st) t/\t { nx:=fun _ H'=>Q .non H',rt:=Q } (start N vs) H):FnOk P w K mg base (CX1 P w) (k + 1) f fd ps sp:=by
 obtain⟨oc,od,kV,doc,pm,an,cdv,ct,osl,rfl,lk,hcd⟩:=F.ex;exact d1n lk hcd S len fun A outer s H vs Q E hr hsp=>hbody cdv A outer s H vs Q E hr hsp
end
end
section
def exq(a C:Addr)(h:Heap):Prop:=∃ o,h.get? a=some o/\o.cls=.ref C
noncomputable def markX(X:Cx)(v:Value):Cx:={ X with A:=X.A.mark (some v),calm:=false,xe:=fun _ _=>False }
structure XCls(K:W.Frag)(C:Addr)(bm:List Value):Prop where
 obj:∃ nm qn N bs hd sn sub ab col dd k0 k1 k2 k3 k5 newId,K.lookup C=some (excClassObj nm qn C N bs bm hd sn sub ab col dd k0 k1 k2 k3 k5 newId)
 base:bm.contains (.type "BaseException")=true
def d6e{M:Model}{A:Around}{E:Value->Shared->Prop}{K:W.Frag}{s:Shared}{C Wk e:Addr}{bm bw:List Value}{oe:Obj}{Q:Bool->Shared->Prop}(X:K.In s.heap)(c:XCls K C bm)(cw:XCls K Wk bw)(he:s.heap.get? e=some oe)(hcls:oe.cls=.ref C)
  (hs:(Value.ref C :: bm).contains (.ref Wk)=true) (hq:Q true s):wpAny M A (excMatches (.ref e) (.ref Wk)) Q E s:=by
 obtain⟨hp,g,d,tk,os⟩:=s;obtain⟨nm,qn,N,bs,hd,sn,sub,ab,col,dd,k0,k1,k2,k3,k5,newId,l⟩:=c.obj;obtain⟨nm',qn',N',bs',hd',sn',sub',ab',col',dd',k0',k1',k2',k3',k5',newId',l'⟩:=cw.obj;have hC:=X _ _ l;have hW:=X _ _ l';have hcB:(Value.ref Wk :: bw).contains (.type "BaseException")=true:=by rw [List.contains_cons,cw.base,Bool.or_true]
 have f:=tc_notTuple;unfold excMatches
 repeat (first | (with_reducible refine wpAny_loadPart_at he ?_;rw [hcls]) | with_reducible refine wpAny_loadPart_at hW ?_ | (with_reducible refine wpAny_isSubtype_exc hW ?_;rw [hcB]) | (with_reducible refine wpAny_isSubtype_exc hC ?_;rw [hs]) | wp_step)
 exact hq
section
variable{X:Cx}{pins:List 'a'}{σ:St}{H H':Hp}{s s':Shared}{h1 B:Heap}
def Inv.mark(I:Inv X pins σ H s)(v:Value):Inv (markX X v) pins σ H s:=
 ⟨⟨I.ok.mod,I.ok.kind,I.ok.glob,I.ok.blt,I.ok.above,I.ok.inj,I.ok.has,I.ok.cab,fun h=>(nomatch h),I.ok.frames,I.ok.stk,I.ok.exf,I.ok.bs,I.ok.bsz,I.ok.noex,I.ok.exfs,I.ok.funs,I.ok.frf⟩,I.os,I.bare,I.base,I.loc,I.cell,I.free,I.freeC,I.pin,I.hok,I.len⟩
def Inv.unmark{v:Value}(hd:X.calm=true->X.A.handled=none)(I:Inv (markX X v) pins σ H s):Inv X pins σ H s:=
 ⟨⟨I.ok.mod,I.ok.kind,I.ok.glob,I.ok.blt,I.ok.above,I.ok.inj,I.ok.has,I.ok.cab,hd,I.ok.frames,I.ok.stk,I.ok.exf,I.ok.bs,I.ok.bsz,I.ok.noex,I.ok.exfs,I.ok.funs,I.ok.frf⟩,I.os,I.bare,I.base,I.loc,I.cell,I.free,I.freeC,I.pin,I.hok,I.len⟩
def Inv.track{a:Addr}{o:HO}(I:Inv X pins σ H s)(ha:H a=none)(h0:X.s₀.heap.get? a=none)(hl:a ≠ X.env.locals)(hc:∀ x c,X.env.cells.lookup x=some c->c ≠ a)(hp:∀ p ∈ X.pn ++ pins,p.1 ≠ a)(new:a1h X.prog X.w (upd H a o) s.heap a o):Inv X pins σ (upd H a o) s:=by
 have nn:∀ b u,H b=some u->b ≠ a:=fun b u e z=>by rw [z,ha] at e;cases e
 refine⟨I.ok,I.os,I.bare,⟨I.base.keep,I.base.slot,fun b ob e n hx=>?_,I.base.there,fun b xs e=>?_,fun b ob u e=>?_,fun b ps e=>?_⟩,I.loc,I.cell,?_,fun x c e=>?_,fun p hp'=>?_,fun b u e=>?_,I.len⟩
 ·rw [a0b (fun z=>by rw [z,h0] at e;cases e)];exact I.base.free b ob e n hx
 ·have q:=I.base.tups b xs e
  rw [a0b (nn b _ q)];exact q
 ·have q:=I.base.frzs b ob u e
  rw [a0b (nn b _ q)];exact q
 ·obtain⟨m,q⟩:=I.base.tbls b ps e
  exact⟨m,by rw [a0b (nn b _ q)];exact q⟩
 ·rw [a0b (Ne.symm hl)];exact I.free
 ·rw [a0b (hc x c e)];exact I.freeC x c e
 ·obtain⟨q1,q2,q3⟩:=I.pin p hp'
  exact⟨q1,by rw [a0b (hp p hp')];exact q2,q3⟩
 ·by_cases hb:b=a
  ·subst hb
   rw [a0d] at e;cases e;exact new
  ·rw [a0b hb] at e
   exact(I.hok b u e).stay (fun _ _ _ q=>q) (fun c q=>by rw [a0b (nn c _ q)];exact q) fun c xs q=>by rw [a0b (nn c _ q)];exact q
def d6f{M:Model}{A:Around}{E:Value->Shared->Prop}{j:Nat}{n:Str}{pos:Pos}{Q:Unit->Shared->Prop}(I:Inv X pins σ H s)(hN:X.N.Nodup)(hj:X.N[j]? = some n)(hk:X.env.kindOf n=some .local)
  (h:∀ s',Inv X pins (σ.set j none) H s'->Q () s'):wpAny M A (do bindName X.env n .none;unbindBehindTheSuite X.env n pos) Q E s:=by
 obtain⟨m,hn,hl⟩:=I.loc;have hcls:(X.env.scope.kind == .class || (X.env.scope.kind == .module && X.env.locals != X.env.globals))=false:=by rw [I.ok.kind];rfl
 refine wpAny_nameGoes_keeps hk hn hcls fun h' v hn' hs=>?_;have neL:∀ b o,X.s₀.heap.get? b=some o->b ≠ X.env.locals:=fun b o e=>ne_of_lt (lt_of_lt_of_le (lt_size e) I.ok.above);refine h _ ⟨I.ok,I.os,I.bare,⟨fun b o e n hb hx=>(hs.2 b (neL b o e)).trans (I.base.keep b o e n hb hx),fun b o e n hb hx=>?_,I.base.free,fun b o e hx=>?_,I.base.tups,I.base.frzs,I.base.tbls⟩,⟨_,hn',fun i y v' e1 e2 e3=>?_⟩,fun y c e=>?_,I.free,I.freeC,fun p hp=>?_,fun b ob e=>?_,by simpa using I.len⟩
 ·obtain⟨sl,e1⟩:=I.base.slot b o e n hb hx
  exact⟨sl,(hs.2 b (neL b o e)).trans e1⟩
 ·obtain⟨o',e1⟩:=I.base.there b o e hx
  exact⟨o',(hs.2 b (neL b o e)).trans e1⟩
 ·have hij:i ≠ j:=fun z=>by
   subst z;rw [List.getElem?_set] at e2;rw [if_pos rfl] at e2;split at e2<;>cases e2
  rw [getElem?_set_ne (Ne.symm hij)] at e2;obtain⟨u',r',q⟩:=hl i y v' e1 e2 e3;refine⟨u',r',?_⟩;rcases q with⟨k,e⟩ | ⟨k,c,e,z⟩
  ·refine .inl ⟨k,?_⟩
   have:y ≠ n:=fun e=>hij (b2c hN e1 (e ▸ hj));simp [this,e]
  ·exact .inr ⟨k,c,e,z.sameBut hs (I.cne y c e)⟩
 ·obtain⟨w',z⟩:=I.cell y c e
  exact⟨w',z.sameBut hs (I.cne y c e)⟩
 ·obtain⟨e,n,ne,nf,d⟩:=I.pin p hp
  exact⟨(hs.2 p.1 ne).trans e,n,ne,nf,d⟩
 ·refine(I.hok b ob e).stay (fun c w' hc q=>(hs.2 c ?_).trans q) (fun _ q=>q) fun _ _ q=>q
  rintro rfl;rcases hc with rfl | hc
  ·rw [I.free] at e;cases e
  ·rw [I.free] at hc;cases hc
end
def PEx(X:Cx)(e:Expr)(t:TE)(E:XK):Prop:=∀ (pins:List 'a') (s:Shared) (σ:St) (H:Hp) (Q:VK),Inv X pins σ H s->t σ H Q ->
 wpAny (model X.prog X.w) X.A (eval e X.env) (EP X pins σ Q) (fun x s'=>∃ H1 s1,Inv X pins σ H1 s1/\CX1 X.prog X.w X.stack H1 s1 E x s') s
section
variable{X:Cx}{k:Nat}{f:Addr}{fd:FuncData}{ps:List Str}{sp:Sp}{E:XK}{x:Str}{p pos:Pos}{e:Expr}{es:List Expr}{t:TA}
def b8p(hx:∀ e s,X.xe e s->False)(F:FnOk X.prog X.w X.K X.mg X.base (CX1 X.prog X.w) k f fd ps sp)(hr:Room k X.A)(hg:Gl X x)(hm:X.mg x=some (.ref f))(hk:PySem.W.keepIn X.K (.ref f)=true)(hb:Binds X.K fd ps [])(ha:PA X (e :: es) t)
  (hdb:(x == ("__debug__" : Str))=false:=by decide) (he:starEach (e :: es) X.env=(false,eval e X.env) :: starEach es X.env:=by rfl) (hpl:(backTo pos (starEach es X.env)).any (·.1)=false:=by rfl) :
  PEx X (.Call (.Name x p) (e :: es) [] pos) (b0v sp [] E t) E:=by
 intro pins s σ H Q I h;refine wpAny_Call_Name_kw (a7f I hg hm ?_ hdb);refine PySem.W.callWith_K (h₀:=X.base) I.ok.mod.kin hk (wpAny_mono (ha pos pins s σ H _ I h) (fun us s1 ⟨vs,H1,I1,r,q⟩=>⟨I1.kIn,?_⟩) fun e s z=>(hx e s z).elim) he hpl;have r2:Vals (vs ++ []) (us ++ []):=r.append .nil;have hl:(us ++ []).length=ps.length:=by rw [← r2.length];exact F.len _ _ _ _ q
 refine wpAny_call (codeAny_mono (F.run X.A X.stack s1 H1 ⟨us,[]⟩ (us ++ []) (vs ++ []) Q E hr I1.env0 (hb s1 us I1.kIn hl) r2 q) fun r s' hq=>?_);cases r with
 | error e=>exact⟨H1,s1,I1,hq⟩
 | ok fl =>
  cases fl with
  | ret u=>exact I1.after hq
  | next=>exact False.elim hq
  | brk=>exact False.elim hq
  | cont=>exact False.elim hq
end
section
variable{X:Cx}{e:Expr}{te:XK->TE}{wx n:Str}{Wk:Addr}{bw:List Value}{j:Nat}{b₀:Stmt}{suite:List Stmt}{th:TS}{p2 np hp tp:Pos}
def XH(K:W.Frag)(Wk:Addr)(j:Nat)(th:TS)(D:Ends)(σ:St):XK:=fun cls _ H2=>∃ C bm,cls=.ref C/\XCls K C bm/\(Value.ref C :: bm).contains (.ref Wk)=true /\
 ∀ a,H2 a=none->th { nx:=fun σ' H'=>D.nx (σ'.set j none) H',rt:=fun _ _=>False } (σ.set j (some (.ref a))) (upd H2 a (.ext (exq a C)))
def c7g{pins:List 'a'}{σ:St}{H1:Hp}{s1 s':Shared}{D:Ends}{v:Value}(I:Inv X pins σ H1 s1)(c:CX1 X.prog X.w X.stack H1 s1 (XH X.K Wk j th D σ) v s')
  (hst:X.stack=X.env :: X.outer) (hf:X.env.frame=some X.env.locals) (hex:X.ex=[]) (hN:X.N.Nodup) (hj:X.N[j]? = some n) (hk:X.env.kindOf n=some .local) (hlo:Loc X.env.scope n) (hg:Gl X wx) (hm:X.mg wx=some (.ref Wk)) (cw:XCls X.K Wk bw) (hh:∀ a,PSs (markX X (.ref a)) (b₀ :: suite) th)
  (hd:(wx == ("__debug__" : Str))=false:=by decide) (hfn:X.fn n=true ∨ X.env.scope.names.lookup n=some .local:=by first | exact .inl rfl | exact .inr rfl | assumption) :
  wpAny (model X.prog X.w) X.A (noteFrame v X.env) (fun _ s₂=>wpAny (model X.prog X.w) X.A (setFlight v none) (fun _ s₃=>wpAny (model X.prog X.w) X.A (handleBy v X.env [.ExceptHandler (some (.Name wx np)) (some n) (b₀ :: suite) hp]) (SP X pins D) X.xe s₃) X.xe s₂) X.xe s':=by
 obtain⟨a,C,t,B,H',rfl,os,bare,un,hok,ha,fl,cov,hE⟩:=c;have hfr:X.A.frames=some (X.env :: X.outer):=by rw [← hst];exact I.ok.frames
 have fl0:=fl;rw [hst] at fl0;refine wpAny_looks_onW hfr hf fl0 fun h4 held4 up4=>?_;refine wpAny_landsW held4 fun h5 fl5 up5=>?_;obtain⟨un5,hok5,cov5⟩:=a9i I un hok cov fl5.1 (up4.trans up5);have I5:Inv X pins σ H' { s' with heap:=h5 }:=I.call' (s':={ s' with heap:=h5 }) os un5 hok5 bare (fun b z=>absurd z 'c');obtain⟨ob,hob,hobc⟩:=fl5.there;obtain⟨C',bm,ec,cc,hsub,hth⟩:=hE;cases ec;refine wpAny_handleBy_cons (codeAny_handlers_test (a7f (X:=markX X (.ref a)) (I5.mark _) hg hm ?_ hd)) (by intro q;cases q);refine d6e I5.kIn cc cw hob hobc hsub ?_;refine codeAny_handlers_suite_as (lands_againW fl5 fun h6 fl6 up6=>?_);obtain⟨un6,hok6,cov6⟩:=a9i I un hok cov fl6.1 ((up4.trans up5).trans up6);have I6:Inv X pins σ H' { s' with heap:=h6 }:=I.call' (s':={ s' with heap:=h6 }) os un6 hok6 bare (fun b z=>absurd z 'c');obtain⟨o6,v6,he6,hc6,hd6,_⟩:=fl6.first
 -- the exception was not there ahead of the call
 have hna:s1.heap.get? a=none:=by
  cases q:s1.heap.get? a with
  | none=>rfl
  | some o1 =>
   have hnf:a ∉ frs X.stack:=fun hb=>by
    rw [hst] at hb;obtain⟨_,o2,ho2,hd2⟩:=fl6.2.2.1.mem hb;rw [he6] at ho2;cases ho2;exact hd2 _ hd6
   have:=cov6 a o6 he6 (.inr ⟨o1,q⟩) hnf;rw [fl6.2.1] at this;cases this
 have I7:Inv X pins σ (upd H' a (.ext (exq a C))) { s' with heap:=h6 }:=by
  refine I6.track ha ?_ ?_ (fun x c e z=>?_) (fun p hp z=>?_) ⟨⟨o6,he6,hc6⟩,⟨o6,he6⟩,fun g1 g2 ⟨o,e,q⟩ k=>⟨o,k o e,q⟩⟩
  ·cases q:X.s₀.heap.get? a with
   | none=>rfl
   | some o0 =>
    obtain⟨o',e'⟩:=I.base.there a o0 q (by rw [hex];simp);rw [hna] at e';cases e'
  ·rintro rfl
   obtain⟨_,⟨_,_,_,e,_⟩,_⟩:=I.loc;rw [hna] at e;cases e
  ·obtain⟨_,_,e',_⟩:=I.cell x c e
   rw [z,hna] at e';cases e'
  ·obtain⟨e',_⟩:=I.pin p hp
   rw [z,hna] at e';cases e'
 refine a8r (X:=markX X (.ref a)) (I7.mark _) hN hj hlo (v:=V.ref a) rfl (fun s7 I8=>?_) hfn;refine wpAny_mono (hh a pins s7 _ _ _ I8 (hth a ha)) (fun fl s8 q=>?_) fun _ _ z=>z.elim;cases fl with
 | next =>
  obtain⟨σ8,H8,I9,q9⟩:=q;exact d6f (I9.unmark I.ok.hd) hN hj hk fun s9 I10=>⟨_,_,I10,q9⟩
 | ret u=>obtain⟨_,_,_,_,_,z⟩:=q;exact z.elim
 | brk=>obtain⟨_,_,_,z⟩:=q;exact z.elim
 | cont=>obtain⟨_,_,_,z⟩:=q;exact z.elim
def tTryS(te:XK->TE)(i:Nat)(K:W.Frag)(Wk:Addr)(j:Nat)(th:TS):TS:=fun D σ H=>te (XH K Wk j th D σ) σ H fun v H2=>D.nx (σ.set i (some v)) H2
def d6g{i:Nat}{y:Str}{py:Pos}(hx:∀ e s,X.xe e s->False)(he:∀ E,PEx X e (te E) E)(hi:X.N[i]? = some y)(hy:Loc X.env.scope y)
  (hst:X.stack=X.env :: X.outer) (hf:X.env.frame=some X.env.locals) (hex:X.ex=[]) (hN:X.N.Nodup) (hj:X.N[j]? = some n) (hk:X.env.kindOf n=some .local) (hlo:Loc X.env.scope n) (hg:Gl X wx) (hm:X.mg wx=some (.ref Wk)) (cw:XCls X.K Wk bw) (hh:∀ a,PSs (markX X (.ref a)) (b₀ :: suite) th)
  (hs:swapsWith e (some (.Name y py)) p2.line X.env=pure false:=by rfl) (hd:(wx == ("__debug__" : Str))=false:=by decide) (hfn:X.fn n=true ∨ X.env.scope.names.lookup n=some .local:=by first | exact .inl rfl | exact .inr rfl | assumption) (hfy:X.fn y=true ∨ X.env.scope.names.lookup y=some .local:=by first | exact .inl rfl | exact .inr rfl | assumption) :
  PS X (.Try [.Assign [.Name y py] e p2] [.ExceptHandler (some (.Name wx np)) (some n) (b₀ :: suite) hp] [] [] tp) (tTryS te i X.K Wk j th):=by
 intro pins s σ H D I h;refine wpAny_Try_except (wpAny_execs_cons (wpAny_Assign_Name (wpAny_mono (he _ pins s σ H _ I h) (fun v s1 ⟨x,H1,I1,r1,q1⟩=>?_) fun x s' z=>?_) hs))
 ·exact a8r I1 hN hi hy r1 (fun s2 I2=>wpAny_execs_nil (wpAny_execs_nil ⟨_,H1,I2,q1⟩)) hfy
 ·obtain⟨H1,s1,I1,c⟩:=z
  exact c7g I1 c hst hf hex hN hj hk hlo hg hm cw hh hd hfn
end
end
end L2
section
namespace L2
open PySem PySem.Spec PySem.Calls PyProof.Rows PySem.W PySem.Builtin PySem.Builtin.ObjectAttr PySem.Builtin.Getset_descriptor
structure XFacts(K:Frag)(C:Addr):Prop where
 ga:findIn K (.ref C) "__getattribute__" = some (some (.builtin "BaseException.__getattribute__"))
 hk:findIn K (.ref C) "__getattr__" = some none
 cl:findIn K (.ref C) "__class__" = some (some (.builtin "object.__class__"))
 gt:specialIn K (.builtin "object.__class__") "__get__" = some (some (.builtin "getset_descriptor.__get__"))
 tk:takesIn K (.builtin "object.__class__")=some true
 ob:mroIn K C (.type "object")=some true
 be:mroIn K C (.type "BaseException")=some true
def b0o{a C:Addr}{M:Model}{h:Heap}(p:exq a C h):Looks M h (typeOf (.ref a)) (.ref C):=by
 obtain⟨o,h1,h2⟩:=p;exact h2 ▸ (Looks.ld h1).andThen .now
section
variable{prog:Program}{w:World}{A:Around}{E:Value->Shared->Prop}{K:Frag}{a C:Addr}{s:Shared}
def b9w{R:Result->Shared->Prop}{tp:Value}(X:K.In s.heap)(p:exq a C s.heap)(F:XFacts K C)(h:R (.ok (.ret (.ref C))) s):codeAny (model prog w) A (.call (.builtin "getset_descriptor.__get__") ⟨[.builtin "object.__class__",.ref a,tp],[]⟩) R s:=by
 obtain⟨hh,g,dr,t,os⟩:=s;have L0:=b0o (M:=model prog w) p;have L1:=looks_mroIn (M:=model prog w) X F.ob;refine codeAny_call_builtin KF.slot_gs.plain KF.entry_gs (KF.slot_gs.check _ _ _ _ _ _ _ _ KF.type_class (KF.args_gs _ _ _) ?_);unfold Builtin.«getset_descriptor.__get__» descrGet;rw [dga_obj];refine wpAny_bind (wpAny_pure ?_);unfold descrGetter descrCheckInstance descrNameAndClass isInstance;simp only [KF.owner_class]
 repeat lk
 refine⟨Code.quiet_builtin _ 'k',codeAny_builtin KF.entry_class ?_⟩;unfold Builtin.«object.__class__» shownTypeOf
 repeat lk
 exact h
def c7h{nameV:Value}{Q:Unit->Shared->Prop}{M:Model}(X:K.In s.heap)(p:exq a C s.heap)(F:XFacts K C)(h:Q () s):wpAny M A (checkBuiltinCall "BaseException.__getattribute__" ⟨[.ref a,nameV],[]⟩) Q E s:=by
 have hk:builtinKind "BaseException.__getattribute__" = some .slot:=by decide +kernel
 have hsplit:splitId "BaseException.__getattribute__" = some ("BaseException","__getattribute__"):=by decide +kernel
 have ha:=PySem.F.args_bexc_ga (.ref a) nameV;obtain⟨hh,g,dr,t,os⟩:=s;have L0:=b0o (M:=M) p;have L1:=looks_mroIn (M:=M) X F.be;simp only [checkBuiltinCall,hk,hsplit];refine wpAny_bind ?_;unfold isInstance;refine wpAny_bind (L0.at (L1.at ?_))
 repeat (any_goals (first | assumption | wp_step))
def d0m(X:K.In s.heap)(F:XFacts K C):Looks (model prog w) s.heap (find (.ref a) (.ref C) "__class__") (.bind (.builtin "getset_descriptor.__get__") (.builtin "object.__class__")):=by
 have L1:=looks_findIn (M:=model prog w) X F.cl;have L2:=looks_specialIn (M:=model prog w) X F.gt;have L3:=looks_takesIn (M:=model prog w) X F.tk;unfold find;refine L1.andThen (Looks.andThen (show Looks _ _ (getOf (some _)) _ from L2) ?_);refine Looks.andThen (a:=some (.builtin "getset_descriptor.__get__",.builtin "object.__class__")) (L3.andThen .now) (Looks.tag .now)
def c7i{tk:Tok}{Q:PySem.Fin->Shared->Prop}(X:K.In s.heap)(p:exq a C s.heap)(F:XFacts K C)(h:Q (.done (.ret (.ref C))) s) :
  wpAny (model prog w) A (Builtin.«object.__getattribute__» ⟨[.ref a,.str "__class__" tk],[]⟩) Q E s:=by
 have L0:=b0o (M:=model prog w) p;have L1:=d0m (prog:=prog) (w:=w) (a:=a) X F;unfold Builtin.«object.__getattribute__»;refine wpAny_bind (wpAny_pure (wpAny_bind (wpAny_pure (wpAny_bind (L0.at (wpAny_bind (L1.at ?_)))))));show wpAny _ _ (holding [_] (call (.builtin "getset_descriptor.__get__") [.builtin "object.__class__",.ref a,.ref C]) >>= ret) _ _ _;exact wpAny_bind (wpAny_holding (wpAny_call (b9w X p F (wpAny_pure h))))
def c7j{Q:Option Value->Shared->Prop}(X:K.In s.heap)(p:exq a C s.heap)(F:XFacts K C)(h:Q (some (.ref C)) { s with toks:=s.toks + 1 }):wpAny (model prog w) A (getAttr? (.ref a) "__class__") Q E s:=by
 have L0:=b0o (M:=model prog w) p;have L1:=looks_findIn (M:=model prog w) X F.ga;have L2:=looks_findIn (M:=model prog w) X F.hk;unfold getAttr? getAttrBy? getAttrBy;refine wpAny_bind (wpAny_mkText (wpAny_bind (wpAny_attempt (wpAny_holding (wpAny_bind (L0.at (wpAny_bind (L1.at ?_))))))));show wpAny _ _ (getAttrByItsOwn _ _ _ _ _ _) _ _ _;unfold getAttrByItsOwn;refine wpAny_bind ((show Looks _ _ (hookBefore (.ref C)) _ from L2).at (wpAny_bind (wpAny_attempt (wpAny_holding ?_))));show wpAny _ _ (boundAndCalled _ _ _) _ _ _;unfold boundAndCalled;rw [PySem.F.attrBase_ValueError.ga.bind (.ref a)];refine wpAny_bind (wpAny_pure (wpAny_call ?_));refine codeAny_call_builtin PySem.F.attrBase_ValueError.ga.plain PySem.F.entry_bexc_ga (c7h (s:={ s with toks:=s.toks + 1 }) X p F (c7i (s:={ s with toks:=s.toks + 1 }) X p F ?_));exact wpAny_pure (wpAny_pure h)
def d0n{o:Obj}(l:K.lookup C=some o)(hcl:∃ cd,o.data=.cls cd)(F:XFacts K C):KitX K (.ref a) (.ref C) (exq a C) where
 ty:=fun _ _ _ p=>b0o p
 it:=fun _ _ X _=>by
  intro A' Q' E' s' k q;obtain⟨cd,hd⟩:=hcl;unfold isType loadHead;refine wpAny_bind (wpAny_loadPart (k _ _ (X _ _ l)) ?_);rw [hd];exact wpAny_pure q
 ne:=fun h tp dd its n sl X htp=>by
  refine Bool.eq_false_iff.mpr fun q=>?_;have e:C=tp:=Value.ref.inj (beq_iff_eq.mp q);subst e;have z:=(X _ _ l).symm.trans htp;cases z;obtain⟨cd,hd⟩:=hcl;cases hd
 ca:=fun X p k=>c7j X p F k
end
end L2
end
namespace L2
open PySem PySem.Spec PyProof.Rows
section
abbrev DSpX:=List L->(RV->Rho->Prop)->(Addr->Prop)->Prop
def spX(K:W.Frag)(ds:DSpX):Sp:=fun vs H Q E=>∃ (c:Rc) (O:Own) (ls:List L) (Qd:RV->Rho->Prop) (Xd:Addr->Prop),c.H0=H/\(∀ p,¬ c.P p)/\(∀ p,c.M p->c.B p)/\(∀ p,c.H0 p=none->c.A p)/\(∀ i,c.lent i=O i)/\Rel K c O (ls.map some) (vs.map some) H/\ds ls Qd Xd /\
 (∀ r O' ρ' σ' v H',Qd r (mask ls ρ')->b1e K c O' ρ' σ' H' r v->Q v H')/\∀ C O' ρ' σ' H',Xd C->Rel K c O' ρ' σ' H'->E (.ref C) none H'
def AdSx(K:W.Frag)(c:Rc)(t:TS)(dt:TDS):Prop:=∀ (O:Own) (ρ:Rho) (σ:St) (H:Hp) (D:Ends) (Dd:DEnds),Rel K c O ρ σ H->EndsOk K c (live c O) H D Dd->dt Dd ρ->t D σ H
def DSx(X:Cx)(c:Rc)(st:Stmt)(dt:TDS):Prop:=∃ t,PS X st t/\AdSx X.K c t dt
def DSsx(X:Cx)(c:Rc)(st:List Stmt)(dt:TDS):Prop:=∃ t,PSs X st t/\AdSx X.K c t dt
section
variable{X:Cx}{c:Rc}{st:Stmt}{rest:List Stmt}{dt du:TDS}
def PS.nox{t:TS}(h:PS X.nox st t):PS X st t:=fun pins s σ H D I hw =>
 wpAny_mono (h pins s σ H D (I.wish _) hw) (fun _ _ q=>q.unwish) fun _ _ z=>False.elim z
def b3m(h:DS X.nox st dt):DSx X c st dt:=by obtain⟨_,p,a⟩:=h;exact⟨_,p.nox,fun O ρ σ H D Dd R E q=>a c O ρ σ H D Dd R E q⟩
def c1l{st:List Stmt}(h:DSs X.nox st dt):DSsx X c st dt:=by obtain⟨_,p,a⟩:=h;exact⟨_,p.nox,fun O ρ σ H D Dd R E q=>a c O ρ σ H D Dd R E q⟩
def a5c(h1:DSx X c st dt)(h2:DSsx X c rest du):DSsx X c (st :: rest) (dSeq dt du):=let ⟨_,p,a⟩:=h1;let ⟨u,p',a'⟩:=h2
 ⟨_,a0o p p',fun O ρ σ H D Dd R E q=>a O ρ σ H { D with nx:=u D } { Dd with nx:=du Dd } R ⟨fun O1 ρ1 σ1 H1 R1 P1 q1=>a' O1 ρ1 σ1 H1 D Dd R1 (E.later P1) q1,E.rt,E.bk,E.ct,E.mb,E.oa⟩ q⟩
def d0o(h1:DSx X c st dt):DSsx X c [st] dt:=by obtain⟨_,p,a⟩:=h1;exact⟨_,a0z p,a⟩
def d0p:DSsx X c [] b6i:=⟨_,a4e,fun O ρ σ H D Dd R E h=>E.nx O ρ σ H R .refl h⟩
def e1e{e:Expr}{a b:List Stmt}{dtt:TDT}{pos:Pos}(hc:DT X.nox e dtt)(ha:DSsx X c a dt)(hb:DSsx X c b du):DSx X c (.If e a b pos) (dIf dtt dt du):=let ⟨_,p,k⟩:=hc;let ⟨_,p',a'⟩:=ha;let ⟨_,p2,a2⟩:=hb
 ⟨_,a6p p.nox p' p2,fun O ρ σ H D Dd R E q=>k c O ρ σ H _ _ R q fun b ρ1 O1 H1 h1 R1 P1=>by
  cases b with
  | true=>rw [if_pos rfl] at h1 ⊢;exact a' O1 ρ1 σ H1 D Dd R1 (E.later P1) h1
  | false=>rw [if_neg Bool.false_ne_true] at h1 ⊢;exact a2 O1 ρ1 σ H1 D Dd R1 (E.later P1) h1⟩
def e1f(Xd:Addr->Prop)(C:Addr):TDS:=fun _ _=>Xd C
def c7k{E:XK}{C:Addr}{Xd:Addr->Prop}(h:PS X st (c7f E C))(hE:∀ C O' ρ' σ' H',Xd C->Rel X.K c O' ρ' σ' H'->E (.ref C) none H'):DSx X c st (e1f Xd C):=⟨_,h,fun O ρ σ H D Dd R _ q=>hE C O ρ σ H q R⟩
end
section
variable{P:Program}{w:World}{K:W.Frag}{mg:Str->Option Value}{base:Heap}
def Fun.dokX{x qual:Str}{st:Stmt}{f:Addr}{fd:FuncData}{N ps:List Str}{k:Nat}{ds:DSpX}(F:Fun K x qual st f fd)(S:FnScope N ps (a0h st))
  (hbody:∀ (cdv:Value) (A:Around) (outer:List Env) (s:Shared) (H:Hp) (E:XK),Room k (A.deeper (envOfC qual (a0h st) s.heap.objs.size f cdv)) ->
   ∀ (c:Rc) (ls:List L) (Qd:RV->Rho->Prop) (Xd:Addr->Prop),(∀ C O' ρ' σ' H',Xd C->Rel K c O' ρ' σ' H'->E (.ref C) none H')->ds ls Qd Xd->ls.length=ps.length/\∃ dt,DSsx (cxOf (CX1 P w) P w K mg base N qual (a0h st) f cdv A outer s H E) c (a2n st) dt/\dt { nx:=fun ρ=>Qd (.d .none) (mask ls ρ),rt:=fun r ρ=>Qd r (mask ls ρ) } (a7s N ls)) (len:∀ ls Qd Xd,ds ls Qd Xd->ls.length=ps.length):FnOk P w K mg base (CX1 P w) (k + 1) f fd ps (spX K ds):=by
 refine F.okX S (fun vs H Q E h=>?_) (fun cdv A outer s H vs Q E hr h=>?_)
 ·obtain⟨c,O,ls,Qd,Xd,_,_,_,_,_,R,h1,_⟩:=h
  have:=R.len;rw [length_map,length_map] at this;rw [this];exact len ls Qd Xd h1
 ·obtain⟨c,O,ls,Qd,Xd,h0,hP,hM,hA,hL,R,h1,fin,hE⟩:=h
  obtain⟨hl,dt,⟨t,p,a⟩,q⟩:=hbody cdv A outer s H E hr c ls Qd Xd hE h1;have hlv:vs.length=ls.length:=by have:=R.len;rwa [length_map,length_map] at this
  refine⟨t,p,a O (a7s N ls) (start N vs) H _ { nx:=fun ρ=>Qd (.d .none) (mask ls ρ),rt:=fun r ρ=>Qd r (mask ls ρ) } ?_ ⟨fun O1 ρ1 σ1 H1 R1 _ q1=>?_,fun r O1 ρ1 σ1 H1 v h q1=>?_,fun _ _ _ _ _ _ z=>(show False from z).elim,fun _ _ _ _ _ _ z=>(show False from z).elim,hM,hA⟩ q⟩
  ·unfold a7s start
   rw [hlv];exact R.more
  ·exact fin (.d .none) O1 ρ1 σ1 .non H1 q1 ⟨R1,a5r⟩
  ·exact fin r O1 ρ1 σ1 v H1 q1 h
end
end
section
structure XOk(K:W.Frag)(C:Addr):Prop where
 at_:∃ o cd,K.lookup C=some o/\o.data=.cls cd
 fa:XFacts K C
noncomputable def rIsX(K:W.Frag):List V->Hp->VK->Prop:=fun xs H Q=>∃ a C b,H a=some (.ext (exq a C))/\XOk K C/\Q (.bl b) H /\
 ((∃ D,xs=[.ref a,.ref D]/\PySem.W.kitOne K (.ref C) (.ref D)=some b) ∨ (∃ T,xs=[.ref a,.ty T]/\PySem.W.kitOne K (.ref C) (.type T)=some b) ∨
  ∃ (tp:Addr) (ds:List Addr),xs=[.ref a,.ref tp]/\H tp=some (.tup (ds.map V.ref))/\PySem.W.kitAny K (.ref C) (ds.map Value.ref)=some b)
def b3n:∀ {ds:List Addr} {us:List Value},Vals (ds.map V.ref) us->us=ds.map Value.ref
 | [],_,h=>by cases h;rfl
 | d :: ds,_,h=>by
  cases h with
  | cons r t=>rw [b3n t,show _=Value.ref d from r];rfl
def b2o{X:Cx}:a1r X (.builtin "isinstance") (rIsX X.K):=by
 intro pins s σ H xs us Q I rs h;obtain⟨a,C,b,ha,⟨⟨o,cd,l,hd⟩,F⟩,q,h⟩:=h;have p:exq a C s.heap:=(I.hok a _ ha).1;have Z:PySem.W.KitX X.K (.ref a) (.ref C) (exq a C):=d0n l ⟨cd,hd⟩ F;have fin:∀ tk,EP X pins σ Q (.bool b) { s with toks:=tk }:=fun tk=>⟨.bl b,H,I.tok _,rfl,q⟩;rcases h with⟨D,rfl,e⟩ | ⟨T,rfl,e⟩ | ⟨tp,ds,rfl,ht,e⟩
 ·obtain⟨u,u2,rfl,r1,r2⟩:=rs.two
  cases r1;cases r2
  exact PySem.W.kia_one Z I.kIn p e (fun z=>nomatch z) fin
 ·obtain⟨u,u2,rfl,r1,r2⟩:=rs.two
  cases r1;cases r2
  exact PySem.W.kia_one Z I.kIn p e (fun z=>nomatch z) fin
 ·obtain⟨u,u2,rfl,r1,r2⟩:=rs.two
  cases r1;cases r2
  obtain⟨_,its,rv,⟨ot,e1,⟨hc,hdi⟩,n,hda⟩⟩:=I.hok tp _ ht;have ei:=b3n rv;subst ei;obtain⟨oc,odi,oda,osl⟩:=ot;cases hc;cases hdi;cases hda;exact PySem.W.kia_tup Z I.kIn p e1 e (fun z=>nomatch z) fin
section
variable{K:W.Frag}{c:Rc}{O:Own}{ρ:Rho}{σ:St}{H:Hp}
noncomputable def Rc.ask(c:Rc)(O:Own)(H:Hp):Rc:={ H0:=H,S:=fun a=>live c O a ∨ H a=none,P:=fun _=>False,M:=fun _=>False,A:=fun p=>H p=none,B:=fun _=>False,lent:=fun _=>none,sa:=c.sa,ns:=c.ns }
end
end
section
section
variable{X:Cx}
def PI.nox{tg e:Expr}{t:TI}(h:PI X.nox tg e t):PI X tg e t:=fun pins s σ H R I hw =>
 wpAny_mono (h pins s σ H R (I.wish _) hw) (fun _ _ q=>wpAny_mono q (fun _ _ z=>by
  obtain⟨it,fp,tn,J,H',e1,I1,T,t0,fo,r⟩:=z;exact⟨it,fp,tn,J,H',e1,I1.unwish,T,t0,fun b hb=>⟨(fo b hb).1,(fo b hb).2⟩,r⟩) fun _ _ z=>False.elim z) fun _ _ z=>False.elim z
def PG.nox{tg:Expr}{t:TG}(h:PG X.nox tg t):PG X tg t:=fun pins s σ H v u Q I r hw =>
 wpAny_mono (h pins s σ H v u Q (I.wish _) r hw) (fun _ _ q=>by obtain⟨σ',H',I1,q⟩:=q;exact⟨σ',H',I1.unwish,q⟩) fun _ _ z=>False.elim z
end
section
variable{K:W.Frag}
def d0q{c:Rc}{ti:TI}{tg:TG}{tb:TS}{di:TDI}{dg:TDG}{db:TDS}(hi:AdI K ti di)(hg:AdG K tg dg)(hb:AdSx K c tb db):AdSx K c (tFor ti tg tb) (dFor di dg db):=fun O ρ σ H D Dd R E q =>
 hi c O ρ σ H _ _ R q fun xs ρ1 O1 J H1 h1 R1 P1 I1=>by
  refine⟨fun i m σ' H'=>m=xs.length - i/\i <= xs.length/\∃ O' ρ',Rel K c O' ρ' σ' H'/\Pers K (live c O1) H1 (live c O') H'/\a2s dg db Dd (xs.drop i) ρ',⟨xs.length,by simp,zero_le _,O1,ρ1,R1,.refl,by rw [drop_zero];exact h1⟩,?_⟩;rintro i m σ2 H2 ⟨rfl,hle,O2,ρ2,R2,P2,h2⟩;obtain⟨it,stop⟩:=I1 _ _ P2;by_cases hlt:i < xs.length
  ·rw [List.drop_eq_getElem_cons hlt] at h2
   obtain⟨go,yld⟩:=it i xs[i] (getElem?_eq_getElem hlt);have h2':dg xs[i] ρ2 fun ρ1=>db { Dd with nx:=a2s dg db Dd (xs.drop (i + 1)),ct:=a2s dg db Dd (xs.drop (i + 1)),bk:=Dd.nx } ρ1:=h2;refine .inr ⟨go,fun σ' H'=>∃ O' ρ',Rel K c O' ρ' σ' H'/\Pers K (live c O1) H1 (live c O') H'/\a2s dg db Dd (xs.drop (i + 1)) ρ',fun σ' H' hq8=>by obtain⟨O',ρ',R',P',q'⟩:=hq8;exact⟨xs.length - (i + 1),'o',rfl,hlt,O',ρ',R',P',q'⟩,fun v H3 y=>?_⟩;obtain⟨s3,a3⟩:=yld v H3 y;refine hg c O2 ρ2 σ2 H3 xs[i] v _ _ (R2.grow s3) a3 h2' fun O4 ρ4 σ4 R4 P4 h4=>?_;have P5:Pers K (live c O1) H1 (live c O4) H3:=(P2.trans (.same s3)).trans P4;exact hb O4 ρ4 σ4 H3 _ { Dd with nx:=a2s dg db Dd (xs.drop (i + 1)),ct:=a2s dg db Dd (xs.drop (i + 1)),bk:=Dd.nx } R4 ⟨fun O6 ρ6 σ6 H6 R6 P6 q6=>⟨O6,ρ6,R6,P5.trans P6,q6⟩,E.rt,fun O6 ρ6 σ6 H6 R6 P6=>E.nx _ _ _ _ R6 ((P1.trans P5).trans P6),fun O6 ρ6 σ6 H6 R6 P6 q6=>⟨O6,ρ6,R6,P5.trans P6,q6⟩,E.mb,E.oa⟩ h4
  ·have e:i=xs.length:=by omega
   subst e;rw [List.drop_eq_nil_of_le 'b'] at h2;exact .inl ⟨stop,E.nx _ _ _ _ R2 (P1.trans P2) h2⟩
end
section
variable{X:Cx}{c:Rc}{dt:TDS}{pos:Pos}
def d6h{tg iter:Expr}{body:List Stmt}{di:TDI}{dg:TDG}(hp:PassesOwn (model X.prog X.w) X.A X.env X.xe)(hc:X.calm=true)(hi:DI X.nox tg iter di)(hg:DG X.nox tg dg)(hb:DSsx X c body dt)(hs:∀ x,foldedSetIterable iter X.env x=pure x:=by intro _;rfl):DSx X c (.For tg iter body [] pos) (dFor di dg dt):=by
 obtain⟨_,p,a⟩:=hi;obtain⟨_,p',a'⟩:=hg;obtain⟨_,p2,a2⟩:=hb;exact⟨_,a6h hp hc p.nox p'.nox p2 hs,d0q a a' a2⟩
end
end
section
section
variable{X:Cx}{a b c:Expr}{ta tb:TE}{tc:TT}{E:XK}{pos:Pos}
def d6i(hx:∀ e s,X.xe e s->False)(hc:PT X c tc)(ha:PEx X a ta E)(hb:PEx X b tb E):PEx X (.IfExp c a b pos) (tIf tc ta tb) E:=by
 intro pins s σ H Q I h;refine wpAny_IfExp (wpAny_mono (hc pins s σ H _ I h) (fun d s1 h1=>?_) fun e s z=>(hx e s z).elim);obtain⟨H1,I1,q1⟩:=h1;cases d with
 | true=>rw [if_pos rfl] at q1 ⊢;exact ha pins s1 σ H1 Q I1 q1
 | false=>rw [if_neg Bool.false_ne_true] at q1 ⊢;exact hb pins s1 σ H1 Q I1 q1
def e1g{r:R2}(hx:∀ e s,X.xe e s->False)(hr:IxR X r)(ha:PEx X a ta E)(hb:PE X b tb)(hs:b4b b):PEx X (.Subscript a b pos) (tOp r ta tb) E:=by
 intro pins s σ H Q I h;refine Subscript_ (wpAny_mono (ha pins s σ H _ I h) (fun v s1 h1=>?_) fun e s z=>z);obtain⟨x,H1,I1,r1,q1⟩:=h1;refine wpAny_mono (hb pins s1 σ H1 _ I1 q1) (fun u s2 h2=>?_) fun e s z=>(hx e s z).elim;obtain⟨y,H2,I2,r2,q2⟩:=h2;exact wpAny_mono (hr a b pins s2 σ H2 x y v u Q I2 r1 r2 q2 (hs _ _)) (fun _ _ z=>z) fun e s z=>(hx e s z).elim
end
end
end L2
section
namespace K31
open PySem L2 Sn
variable{P:Program}{w:World}{K:W.Frag}{mg:Str->Option Value}{base:Heap}{n:Nat}
abbrev FU(K:W.Frag)(x:Str)(st:Stmt)(f:Addr)(fd:FuncData):=Fun K x x st f fd
abbrev FO(P:Program)(w:World)(K:W.Frag)(mg:Str->Option Value)(base:Heap)(n:Nat)(f:Addr)(fd:FuncData)(ps:List Str)(s:DSp):=FnOk P w K mg base CX0 n f fd ps (spD K s)
open Lean in
def c3t (p : Bool) : MacroM (TSyntaxArray `Lean.Parser.Tactic.simpLemma) := (("e0k c6i c6j c6k c7d ↓itT ↓itF ↓c6u ↓c9a ↓d9c ↓e0h mapC mapN c8z d4d d4e ↓d5u ↓d5e ↓d5f d5g d5h d5i e0o ↓d8w ↓d3z ↓dIf_a ↓d4a ↓d8x ↓d8z ↓d4b ↓d9a ↓d9b ↓dC_a ↓dOp_a ↓dCB_a ↓d9d ↓d9e ↓dFz_a ↓d9f ↓d4c ↓dB_a ↓dOr_a ↓c6d ↓c9b ↓d4f ↓c9c ↓d4h ↓c9d ↓c9e ↓d9i ↓d9k ↓fz_d ↓fz_sl ↓fzL_d ↓d9l ↓fzs_n ↓fzs_c ↓d4n asT_t d4r d4s d4t List.all_cons List.all_nil d4q d9g okL_o okL_b d9h asI_i ioJ_o ioJ_b ioJ_t fzJ_d fzJ_o d9m d9n d9o d9r d4i d4j c9f c9g c9h c9i c9j c9k d4k d4l d4m d9s d9t d9u d9v d9w flC_n flC_c d9x d4o c9l c9m c9n c9o c9p c9q asB_b tru_b tru_n tru_i tru_l tru_t d9y d9z e0a e0b e0c e0d e0e b0b c5n d8o d8p d8q d8r d8s c8x c8y fIx_l fIx_t List.getElem?_cons_zero List.getElem?_cons_succ List.getElem?_nil List.set_cons_zero List.set_cons_succ Option.join_some Option.join_none Option.bind_some Option.bind_none Option.map_some Option.map_none Option.isSome_some List.length_cons List.length_nil List.cons_append List.nil_append a7s Nat.reduceAdd Nat.reduceSub Bool.not_true Bool.not_false" ++ (if p then " ↓d4g ↓d9j atI_0 atI_1 atI_2 atI_3 atI_4 d1u d8t inF_s inF_i Bool.and_self Bool.and_true Bool.or_false Bool.or_true Bool.true_or Bool.false_or d9p d9q c8u c8v c6b List.map_cons List.map_nil List.replicate if_true if_false Bool.false_eq_true true_and and_true List.nodup_cons List.nodup_nil List.not_mem_nil not_false_eq_true List.mem_cons Nat.reduceLeDiff Nat.reduceLT reduceCtorEq Nat.zero_add Nat.reduceEqDiff false_or or_false" else "")).splitOn " ").toArray.mapM fun s => if s.startsWith "↓" then `(Parser.Tactic.simpLemma| ↓$(mkIdent (s.drop 1).toName):ident) else `(Parser.Tactic.simpLemma| $(mkIdent s.toName):ident)
local macro_rules | `(tactic| walk_at "p1") => do let a ← c3t true; `(tactic| simp only [$[$a:simpLemma],*])
local macro_rules | `(tactic| walk_at "d1") => do let a ← c3t false; `(tactic| first | dsimp only [$[$a:simpLemma],*] | walk_at "p1")
local macro_rules | `(tactic| lia) => `(tactic| (repeat first | (with_reducible refine c1b ?_) | walk_at "d1"))
local macro_rules | `(tactic| walk_at "k1") => do let a ← c3t true; `(tactic| simp +decide only [$[$a:simpLemma],*])
local macro_rules | `(tactic| walk_at "dk") => `(tactic| (repeat first | (with_reducible refine c1b ?_) | walk_at "k1"))
local macro_rules | `(term| 'p') => `((a0c a0n a0g))
local macro_rules | `(term| 'q') => `((fun ls Qd hq8=>by obtain⟨_,_,_,e,_⟩:=hq8;rw [e];rfl))
noncomputable def top(i:Nat):Stmt:=PySem.Challenge.pw_worldsay_k31_ways.main.body.getD i (.Pass ⟨0,0,0,0⟩)
structure Bl(mg:Str->Option Value):Prop where
 len_:mg "len" = none
 range_:mg "range" = none
 tuple_:mg "tuple" = none
 bool_:mg "bool" = none
 isinstance_:mg "isinstance" = none
 reversed_:mg "reversed" = none
 max_:mg "max" = none
 zip_:mg "zip" = none
 list_:mg "list" = none
 str_:mg "str" = none
 enumerate_:mg "enumerate" = none
 dict_:mg "dict" = none
 sum_:mg "sum" = none
 int_:mg "int" = none
 min_:mg "min" = none
 sorted_:mg "sorted" = none
 all_:mg "all" = none
 set_:mg "set" = none
 repr_:mg "repr" = none
def c7l(K:W.Frag):Sp:=fun vs H Q _=>∃ (v:Addr) (ns:List Int) (k:Int),vs=[.ref v,.int k]/\SqL K H v (ns.map V.int)/\0 <= k/\∀ c:Int,(ns=[]->c=0)->Q (.int c) H
def spBy(K:W.Frag):Sp:=fun vs H Q _=>∃ (v:Addr) (ns:List Int) (k many:Int),vs=[.ref v,.int k,.int many]/\SqL K H v (ns.map V.int)/\ns.length <= 63/\0 <= k/\k <= 1000000/\0 < many/\∀ r:Int,0 <= r->r < many->Q (.int r) H
def c7m:DSp:=fun ls Q=>∃ (k:Nat) (many:Int),ls=[.tape k,.d (.int many)]/\0 < many/\k < 1000000/\∀ r:Int,0 <= r->r < many->Q (.d (.int r)) [some (.tape (k + 1)),none]
abbrev a3p:Stmt:=top 21
def b4o:FnScope ["_law_script","_law_k"] ["_law_script","_law_k"] (a0h a3p):='f'
def c3u{f:Addr}{fd:FuncData} (F:FU K "_law_cell_at" a3p f fd) (B:Bl mg):FnOk P w K mg base CX0 1 f fd ["_law_script","_law_k"] (c7l K):=by
 refine F.ok b4o (fun vs H Q E h=>?_) (fun cdv A outer s H vs Q E hr h=>?_)
 ·obtain⟨v,ns,k,rfl,_⟩:=h
  rfl
 obtain⟨v,ns,k,rfl,hv,hk,q⟩:=h;refine⟨_,(a0o (a6p (a4f a8s (a2o a3t rfl B.len_ a3n (a0e (pv 0) a0j)) a0t (a2a _))
  (a0z (a3l (a2i a5n (pv 0) (a2k a7p (pv 1) (a2o a3t rfl B.len_ a3n (a0e (pv 0) a0j))) 'i')))
  a4e)
  (a0z (a3l a0t))),?_⟩
 have hl:(ns.map V.int).length=ns.length:=length_map _;refine⟨_,rfl,v,_,rfl,.inl hv,_,_,rfl,rfl,_,rfl,?_⟩;rw [hl];refine ite2 (fun c=>?_) (fun c=>?_)
 ·have c':(0:Int) < (ns.length:Int):=of_decide_eq_true c
  refine⟨_,rfl,_,rfl,_,rfl,v,_,rfl,.inl hv,_,_,rfl,rfl,?_,?_⟩
  ·rw [hl];exact c'
  ·rw [hl]
   have m0:0 <= k % (ns.length:Int):=emod_nonneg _ 'o';have m1:k % (ns.length:Int) < (ns.length:Int):=Int.emod_lt_of_pos _ c';obtain⟨d,e1,e2,_⟩:=c5m (xs:=ns.map V.int) m0 (by rw [hl];exact m1);obtain⟨n,_,rfl⟩:=mem_map.mp e2;exact⟨v,_,_,_,rfl,rfl,hv,e1,q n fun e=>by rw [e] at c';exact absurd c' 'd'⟩
 ·exact q 0 fun _=>rfl
abbrev a9j:Stmt:=top 22
def a6m:FnScope ["_law_script","_law_k","_law_many","_law_cell","_law_part","_law_seed"] ["_law_script","_law_k","_law_many"] (a0h a9j):='f'
def ok_by{f f1:Addr}{fd fd1:FuncData} (F:FU K "_law_by" a9j f fd) (B:Bl mg) (a2t:Def K mg "_law_cell_at" a3p ["_law_script","_law_k"] f1 fd1):FnOk P w K mg base CX0 2 f fd ["_law_script","_law_k","_law_many"] (spBy K):=by
 have b6a:FnOk P w K mg base CX0 1 f1 fd1 ["_law_script","_law_k"] (c7l K):=c3u a2t.fn B;refine F.ok a6m (fun vs H Q E h=>?_) (fun cdv A outer s H vs Q E hr h=>?_)
 ·obtain⟨v,ns,k,many,rfl,_⟩:=h
  rfl
 obtain⟨v,ns,k,many,rfl,hv,hl,hk,hk2,hm,q⟩:=h;refine⟨_,(a0o (a1z (i:=3) a6m.nd rfl 'e' (a4v a2t b6a hr rfl (a0e (pv 0) (a0e (pv 1) a0j))))
  (a0o (a1z (i:=4) a6m.nd rfl 'e' a0t)
  (a0o (a6p (a4f op_ge (pv 3) (a2k d7b a0t a0t) (a2a _))
  (a0z (a1z (i:=4) a6m.nd rfl 'e' (a2k d7c (pv 3) (a2k a9u a0t (a2k d2u (pv 1) (a2o a3t rfl B.len_ a3n (a0e (pv 0) a0j)))))))
  a4e)
  (a0o (a6p (a4f a8s (pv 4) a0t (a2a _))
  (a0z (a3l (a2k a7p (pv 4) (pv 2))))
  a4e)
  (a0o (a1z (i:=5) a6m.nd rfl 'e' (a2k b2y (a2k b2y (a2k a7p (pv 3) a0t) (a2k a9u (a2k a9u a0t (pv 1)) (pv 1))) a0t))
  (a0z (a3l (a2k a7p (a2k a7p (a2k a9u (a2k a7p (a2k a9u (pv 5) a0t) a0t) a0t) a0t) (pv 2))))))))),?_⟩
 have hln:(ns.map V.int).length=ns.length:=length_map _;refine⟨_,rfl,_,rfl,v,ns,k,rfl,hv,hk,fun c hc=>?_⟩;have e64:(2:Int) ^ 64=18446744073709551616:=by decide
 refine⟨_,rfl,_,_,rfl,rfl,⟨'d','d','d'⟩,_,_,rfl,rfl,_,rfl,?_⟩;refine ite2 (fun c1=>?_) (fun c1=>?_)
 ·have c1':(10:Int) ^ (18:Int).toNat <= c:=of_decide_eq_true c1
  have hne:0 < ns.length:=by
   cases ns with
   | nil=>rw [hc rfl] at c1';exact absurd c1' 'd'
   | cons _ _=>exact Nat.succ_pos _
  have hd0:0 <= k / (ns.length:Int):=Int.ediv_nonneg hk 'o';refine⟨_,rfl,_,rfl,_,rfl,v,_,rfl,.inl hv,_,_,rfl,rfl,?_,_,_,rfl,rfl,.inl ⟨'d','d'⟩,_,_,rfl,rfl,?_,?_⟩
  ·rw [hln];exact⟨'o','o'⟩
  ·rw [hln];show(0:Int) <= 20 * (k / (ns.length:Int));omega
  refine⟨_,rfl,_,_,rfl,rfl,_,rfl,?_⟩;refine ite2 (fun c2=>?_) (fun c2=>?_)
  ·exact⟨_,rfl,_,rfl,_,_,rfl,rfl,hm,q _ (emod_nonneg _ 'o') (Int.emod_lt_of_pos _ hm)⟩
  ·refine⟨_,rfl,_,_,rfl,rfl,(by show(0:Int) < 1000003;decide),_,rfl,_,_,rfl,rfl,.inl ⟨'d','d'⟩,_,rfl,_,_,rfl,rfl,.inr ⟨'o','o'⟩,_,_,rfl,rfl,_,_,rfl,rfl,?_⟩
   refine⟨_,rfl,_,_,rfl,rfl,.inr ⟨'d','d'⟩,_,_,rfl,rfl,(by show(0:Int) < 999983;decide),_,_,rfl,rfl,.inr ⟨'d','d'⟩,_,_,rfl,rfl,(by show(0:Int) < 524287;decide),_,rfl,_,_,rfl,rfl,hm,?_⟩;exact q _ (emod_nonneg _ 'o') (Int.emod_lt_of_pos _ hm)
 ·refine⟨_,rfl,_,_,rfl,rfl,_,rfl,?_⟩
  refine ite2 (fun c2=>?_) (fun c2=>?_)
  ·exact⟨_,rfl,_,rfl,_,_,rfl,rfl,hm,q _ (emod_nonneg _ 'o') (Int.emod_lt_of_pos _ hm)⟩
  ·refine⟨_,rfl,_,_,rfl,rfl,(by show(0:Int) < 1000003;decide),_,rfl,_,_,rfl,rfl,.inl ⟨'d','d'⟩,_,rfl,_,_,rfl,rfl,.inr ⟨'o','o'⟩,_,_,rfl,rfl,_,_,rfl,rfl,?_⟩
   refine⟨_,rfl,_,_,rfl,rfl,.inr ⟨'d','d'⟩,_,_,rfl,rfl,(by show(0:Int) < 999983;decide),_,_,rfl,rfl,.inr ⟨'d','d'⟩,_,_,rfl,rfl,(by show(0:Int) < 524287;decide),_,rfl,_,_,rfl,rfl,hm,?_⟩;exact q _ (emod_nonneg _ 'o') (Int.emod_lt_of_pos _ hm)
abbrev a6x:Stmt:=top 23
def b9x:FnScope ["_law_tape","_law_many"] ["_law_tape","_law_many"] (a0h a6x):='f'
def d6j{f f1 f2:Addr}{fd fd1 fd2:FuncData} (F:FU K "_law_next" a6x f fd) (B:Bl mg) (a2t:Def K mg "_law_cell_at" a3p ["_law_script","_law_k"] f1 fd1)
  (a9k:Def K mg "_law_by" a9j ["_law_script","_law_k","_law_many"] f2 fd2):FO P w K mg base 3 f fd ["_law_tape","_law_many"] c7m:=by
 have d0r:FnOk P w K mg base CX0 2 f2 fd2 ["_law_script","_law_k","_law_many"] (spBy K):=ok_by a9k.fn B a2t;refine F.ok b9x (fun vs H Q E h=>?_) (fun cdv A outer s H vs Q E hr h=>?_)
 ·obtain⟨c,O,ls,Qd,_,_,_,_,_,R,⟨k,many,rfl,_⟩,_⟩:=h
  have:=R.len;rw [length_map] at this;exact this
 obtain⟨c,O,ls,Qd,_,_,_,_,_,R,⟨k,many,rfl,hm,hk2,q⟩,fin⟩:=h;obtain⟨t,hO,hσ0,ht⟩:=R.tap 0 k rfl;obtain⟨v1,hσ1,a1⟩:=R.dat 1 _ rfl;have e1:=b0a a1;subst e1;have hvs:vs=[.ref t,.int many]:=by
  have hl:=R.len;rw [length_map] at hl
  match vs,hl with
  | [x,y],_ =>
   have e0:x=.ref t:=by simpa using hσ0
   have e1:y=.int many:=by simpa using hσ1
   rw [e0,e1]
 subst hvs;have hs:=R.sc;have hl:c.ns.length <= 63:=by simpa using hs.1
 refine⟨_,(a0o (b6s (a2k b2y (a2i a5n (pv 0) a0t 'i') a0t) (b6r (pv 0) a0t set_list))
  (a0z (a3l (a4v a9k d0r hr rfl (a0e (a2i a5n (pv 0) a0t 'i') (a0e (a2i a5n (pv 0) a0t 'i') (a0e (pv 1) a0j))))))),?_⟩
 have ht':(upd H t (.lst ([V.ref c.sa,V.int k].set 1 (.int ((k:Int) + 1))))) t=some (.lst [.ref c.sa,.int ((k:Int) + 1)]):=a0d;obtain⟨R2,P2⟩:=R.write (l:=.tape (k + 1)) (xs:=[]) (vs':=[.ref c.sa,.int ((k + 1:Nat):Int)]) hO ht (.inr (.inr ⟨k,rfl⟩)) (.inr (.inr ⟨k,k + 1,rfl,rfl,rfl⟩));have ek:((k + 1:Nat):Int)=(k:Int) + 1:=by omega
 rw [ek] at R2;refine⟨_,rfl,t,_,1,_,rfl,rfl,SqL.of ht,rfl,_,_,rfl,rfl,_,rfl,t,_,1,1,rfl,rfl,ht,rfl,?_⟩;refine⟨_,rfl,t,_,0,_,rfl,rfl,SqL.of ht',rfl,_,rfl,t,_,1,_,rfl,rfl,SqL.of ht',rfl,_,rfl,?_⟩;refine⟨_,c.ns,_,_,rfl,R2.sc.seq,hl,'o','o',hm,fun r h0 h1=>?_⟩;exact fin (.d (.int r)) O [some (.tape (k + 1)),some (.d (.int many))] _ _ _ (q r h0 h1) ⟨R2,a1o r⟩
abbrev b1j(P:Program)(w:World)(K:W.Frag)(mg:Str->Option Value)(base:Heap)(n:Nat)(f:Addr)(fd:FuncData):Prop:=FO P w K mg base n f fd ["_law_tape","_law_many"] c7m
abbrev b1k(K:W.Frag)(mg:Str->Option Value)(f:Addr)(fd:FuncData):Prop:=Def K mg "_law_next" a6x ["_law_tape","_law_many"] f fd
def rngI{m:Nat}{a:Nat}{u:PyData}(h:(rngD 0 m)[a]? = some u):a < m/\u=.int (a:Int):=by
 have ha:a < m:=by
  have:=(List.getElem?_eq_some_iff.mp h).1;simpa [rngD] using this
 refine⟨ha,?_⟩;simp only [rngD,getElem?_map,List.getElem?_range ha,map_some] at h;have:=(Option.some.inj h).symm;rw [this];congr 1;omega
def a3q{m:Nat}:(rngD 0 m).length=m:=by simp [rngD]
def InR(m:Nat)(ns:List Int):Prop:=(∀ x ∈ ns,0 <= x/\x < (m:Int))/\ns.length <= m/\ns.Pairwise (· < ·)
noncomputable def pt(ls:List Int)(v:Int):List Int:=((List.range ls.length).filter fun p=>decide (ls.getD p 0=v)).map fun p:Nat=>(p:Int)
def d2g(ls:List Int)(v:Int):InR ls.length (pt ls v):=by
 unfold pt;refine⟨fun x hx=>?_,?_,?_⟩
 ·obtain⟨p,hp,rfl⟩:=mem_map.mp hx
  have:=mem_range.mp (mem_filter.mp hp).1;omega
 ·rw [length_map]
  exact le_trans (List.length_filter_le ..) (by rw [length_range];exact le_refl _)
 ·exact pairwise_map.mpr ((List.pairwise_lt_range.filter _).imp fun h=>by omega)
def c7n{ls:List Int}{p:Nat}(h:p < ls.length):(p:Int) ∈ pt ls (ls.getD p 0):=by
 unfold pt;exact mem_map.mpr ⟨p,mem_filter.mpr ⟨mem_range.mpr h,by simp⟩,rfl⟩
def d2h{ls:List Int}{v:Int}(h:v ∈ ls):pt ls v ≠ []:=by
 obtain⟨i,hi,e⟩:=getElem_of_mem h;have hm:=c7n hi;have e2:ls.getD i 0=v:=by rw [getD_eq_getElem?_getD,getElem?_eq_getElem hi];exact e
 rw [e2] at hm;exact List.ne_nil_of_mem hm
structure Parts(m:Nat)(tss:List 'g'):Prop where
 ne:∀ t ∈ tss,t ≠ []
 inr:∀ t ∈ tss,InR m t
 len:tss.length <= m
 cov:∀ p:Nat,p < m->∃ t ∈ tss,(p:Int) ∈ t
 srt:Sx.srtT tss=tss
 nd:tss.flatten.Nodup
def a9s{ls:List Int}{v x:Int}(h:x ∈ pt ls v):ls.getD x.toNat 0=v:=by
 unfold pt at h;obtain⟨p,hp,rfl⟩:=mem_map.mp h;simpa using (mem_filter.mp hp).2
def e1h{ls vs:List Int}(h:vs.Nodup):((vs.map (pt ls)).flatten).Nodup:=by
 refine List.pairwise_flatten.mpr ⟨fun l hl=>?_,pairwise_map.mpr (h.imp fun hne x hx y hy e=>?_)⟩
 ·obtain⟨v,_,rfl⟩:=mem_map.mp hl
  exact(d2g ls v).2.2.imp fun h=>Int.ne_of_lt h
 ·subst e
  exact hne ((a9s hx).symm.trans (a9s hy))
def c7o(a:List 'g'):Sx.srtT (Sx.srtT a)=Sx.srtT a:=(Sx.b4k (List.Perm.refl _) (Sx.c1g a)).symm
def d0s{ls:List Int}{tss:List 'g'}(h0:tss=Sx.srtT ((Sx.srtI (Sx.uniq ls)).map (pt ls))):Parts ls.length tss:=by
 have h:tss.Perm ((Sx.srtI (Sx.uniq ls)).map (pt ls)):=by rw [h0];exact Sx.b5q _
 have mem:∀ v,v ∈ Sx.srtI (Sx.uniq ls) ↔ v ∈ ls:=fun v=>(Sx.a3f _).mem_iff.trans Sx.b7a;refine⟨fun t ht=>?_,fun t ht=>?_,?_,fun p hp=>?_,by rw [h0];exact c7o _,h.flatten.nodup_iff.mpr (e1h ((Sx.a3f _).nodup_iff.mpr (Sx.c2i ls)))⟩
 ·obtain⟨v,hv,rfl⟩:=mem_map.mp (h.mem_iff.mp ht)
  exact d2h ((mem v).mp hv)
 ·obtain⟨v,hv,rfl⟩:=mem_map.mp (h.mem_iff.mp ht)
  exact d2g ls v
 ·rw [h.length_eq,length_map,(Sx.a3f _).length_eq]
  exact Sx.b0w ls
 ·refine⟨pt ls (ls.getD p 0),h.mem_iff.mpr (mem_map.mpr ⟨_,(mem _).mpr ?_,rfl⟩),c7n hp⟩
  rw [getD_eq_getElem?_getD,getElem?_eq_getElem hp];exact getElem_mem hp
def e1i{ls:List Int}{v:Int}:(rngD 0 ls.length).filterMap (fun x=>match x with | .int p=>if ls.getD p.toNat 0=v then some (PyData.int p) else none | _=>none)=(pt ls v).map .int:=by
 unfold pt rngD;generalize List.range ls.length=r;induction r with
 | nil=>rfl
 | cons p r ih =>
  rw [map_cons,List.filterMap_cons];have e:(0 + (p:Int)).toNat=p:=by omega
  have e2:(0 + (p:Int))=(p:Int):=by omega
  simp only [e2,toNat_natCast];rw [List.filter_cons];by_cases c:ls.getD p 0=v
  ·rw [if_pos c,if_pos (by simpa using c),map_cons,map_cons,← ih]
  ·rw [if_neg c,if_neg (by simpa using c),← ih]
def b3o:DSp:=fun ls Q=>∃ (k m:Nat) (few:Int),ls=[.tape k,.d (.int (m:Int)),.d (.int few)]/\0 < few/\m <= 20/\k + m < 900000/\∀ (ns:List Int) (k':Nat),k' <= k + m->InR m ns->Q (.d (encT ns)) [some (.tape k'),none,none]
def b4p:DSp:=fun ls Q=>∃ (k m:Nat),ls=[.tape k,.d (.int (m:Int))]/\m <= 20/\k + m + 1 < 900000/\∀ (tss:List 'g') (k':Nat),k' <= k + m + 1->Parts m tss->Q (.d (.tuple (tss.map encT))) [some (.tape k'),none]
abbrev a5i:Stmt:=top 24
def b9y:FnScope ["_law_tape","_law_many","_law_few"] ["_law_tape","_law_many","_law_few"] (a0h a5i):='f'
def d6k{f f1:Addr}{fd fd1:FuncData} (F:FU K "_law_some" a5i f fd) (B:Bl mg) (a0s:b1k K mg f1 fd1) (a1e:b1j P w K mg base n f1 fd1):FO P w K mg base (n + 1) f fd ["_law_tape","_law_many","_law_few"] b3o:=by
 refine F.dok b9y (fun cdv A outer s H E hr ls Qd h=>?_) 'q';obtain⟨k,m,few,rfl,hf,hm,hk,q⟩:=h;refine⟨rfl,?_⟩;refine⟨_,(a1b (a4a (a3y a0v a4w rfl B.tuple_ a1k (a0c (a5f (a7l ["_law_p"] [("_law_tape",0),("_law_few",2)] rfl (by rfl) 'k' (a3e rfl B.range_ (dv 1)) (fun _ _ _=>(a1g (i:=0) (show(["_law_p","_law_tape","_law_few"]:List Str).Nodup by decide +kernel) rfl 'e')) (fun _ _ _=>(b1g (a3z (b7u hr.units) b7t (a0y [true,false] a0s a1e hr rfl (a0c (dv 1) (a0c (dv 2) a0g))) a0n (a2a _)))) (fun _ _ _=>(dv 0)))) a0g)))),?_⟩;lia;refine⟨⟨'o','o'⟩,?_⟩;rw [show((m:Int)).toNat=m by omega];refine⟨by rw [a3q];omega,?_⟩;refine a7t (fun i ρ acc=>∃ (v0:Option L) (k':Nat) (ns:List Int),ρ=[v0,some (.tape k'),some (.d (.int few))]/\acc=ns.map .int/\ns.length <= i/\((∀ x ∈ ns,0 <= x/\x < (i:Int))/\ns.Pairwise (· < ·))/\k' <= k + i/\i <= m) ⟨none,k,[],rfl,rfl,by simp,⟨fun x hx=>by simp at hx,List.Pairwise.nil⟩,'o','o'⟩ ?_ ?_
 ·rintro i x ρ acc N hx ⟨v0,k',ns,rfl,rfl,hl,⟨hb,hup⟩,hk',hi⟩ hN
  obtain⟨hi2,rfl⟩:=rngI hx;lia;refine⟨k',few,rfl,hf,'o',fun r h0 h1=>?_⟩;lia;refine a3b (fun c=>?_) (fun c=>?_)
  ·lia
   refine hN _ _ ⟨_,k' + 1,ns ++ [(i:Int)],rfl,by simp,by simp;omega,⟨fun x hx=>?_,?_⟩,'o','o'⟩
   ·rcases mem_append.mp hx with h | h
    ·have:=hb x h;omega
    ·rw [mem_singleton.mp h];omega
   ·refine List.pairwise_append.mpr ⟨hup,pairwise_singleton _ _,fun a ha b hb2=>?_⟩
    rw [mem_singleton.mp hb2];exact(hb a ha).2
  ·exact hN _ _ ⟨_,k' + 1,ns,rfl,rfl,'o',⟨fun x hx=>by have:=hb x hx;omega,hup⟩,'o','o'⟩
 ·rintro ρ acc ⟨v0,k',ns,rfl,rfl,hl,⟨hb,hup⟩,hk',hi⟩
  rw [a3q] at hl hk' hb;lia;exact q _ _ 'o' ⟨hb,hl,hup⟩
abbrev a6e:Stmt:=top 25
def a7w:FnScope ["_law_tape","_law_many","_law_kinds","_law_labels"] ["_law_tape","_law_many"] (a0h a6e):='f'
def d0t{f f1:Addr}{fd fd1:FuncData} (F:FU K "_law_parts" a6e f fd) (B:Bl mg) (a0s:b1k K mg f1 fd1) (a1e:b1j P w K mg base n f1 fd1):FO P w K mg base (n + 1) f fd ["_law_tape","_law_many"] b4p:=by
 refine F.dok a7w (fun cdv A outer s H E hr ls Qd h=>?_) (fun ls Qd hq8=>by obtain⟨_,_,e,_⟩:=hq8;rw [e];rfl);obtain⟨k,m,rfl,hm,hk,q⟩:=h;refine⟨rfl,?_⟩;refine⟨_,(a0r (a2h (i:=2) a7w.nd rfl (Or.inr rfl) (a5d a2v a5e a0n (a0y [true,false] a0s a1e hr rfl (a0c (dv 0) 'p'))))
  (a0r (a2h (i:=3) a7w.nd rfl (Or.inr rfl) (a5f (a7l ["_law_p"] [("_law_tape",0),("_law_kinds",2)] rfl (by rfl) 'k' (a3e rfl B.range_ (dv 1)) (fun _ _ _=>(a1g (i:=0) (show(["_law_p","_law_tape","_law_kinds"]:List Str).Nodup by decide +kernel) rfl 'e')) (fun _ _ _=>a7k) (fun _ _ _=>(a0y [true,false] a0s a1e hr rfl (a0c (dv 1) (a0c (dv 2) a0g)))))))
  (a1b (a4a (a3y a0v a4w rfl B.tuple_ a1k (a0c (a2p c6t d5m rfl B.sorted_ b0g (a0c (a5f (a7l ["_law_one"] [("_law_many",1),("_law_labels",3)] rfl (by rfl) 'k' (a4b (d5c rfl rfl B.set_ rfl B.sorted_ (a0c (dv 3) a0g))) (fun _ _ _=>(a1g (i:=0) (show(["_law_one","_law_many","_law_labels"]:List Str).Nodup by decide +kernel) rfl (Or.inr rfl))) (fun _ _ _=>a7k) (fun _ _ _=>(a3y a0v a4w rfl B.tuple_ a1k (a0c (a5f (a7l ["_law_p"] [("_law_labels",2),("_law_one",0)] rfl (by rfl) 'k' (a3e rfl B.range_ (dv 1)) (fun _ _ _=>(a1g (i:=0) (show(["_law_p","_law_labels","_law_one"]:List Str).Nodup by decide +kernel) rfl 'e')) (fun _ _ _=>(b1g (a3z (b7u hr.units) b7t (a6b a4l a6c (dv 1) (dv 0) 'i') (dv 2) (a2a _)))) (fun _ _ _=>(dv 0)))) a0g))))) a0g)) a0g)))))),?_⟩
 lia;refine⟨k,4,rfl,'d','o',fun r h0 h1=>?_⟩;lia;refine⟨⟨'o','o'⟩,?_⟩;rw [show((m:Int)).toNat=m by omega];refine⟨by rw [a3q];omega,?_⟩;refine a7t (fun i ρ acc=>∃ (v0:Option L) (k':Nat) (ns:List Int),ρ=[v0,some (.tape k'),some (.d (.int (1 + r)))]/\acc=ns.map .int/\ns.length=i/\k' <= k + 1 + i/\i <= m) ⟨none,k + 1,[],rfl,rfl,by simp,'o','o'⟩ ?_ ?_
 ·rintro i x ρ acc N hx ⟨v0,k',ns,rfl,rfl,hl,hk',hi⟩ hN
  obtain⟨hi2,rfl⟩:=rngI hx;lia;refine⟨k',1 + r,rfl,'o','o',fun r2 h2 h3=>?_⟩;lia;exact hN _ _ ⟨_,k' + 1,ns ++ [r2],rfl,by simp,by simp;omega,'o','o'⟩
 ·rintro ρ acc ⟨v0,k',ls,rfl,rfl,hl,hk',hi⟩
  rw [a3q] at hl hk';subst hl;lia;have hu:=Sx.b0w ls;rw [d5d 'o',b0b];lia;refine⟨by rw [length_map,(Sx.a3f _).length_eq];omega,?_⟩;refine L2.a7v (fun ρ=>∃ v0:Option L,ρ=[v0,some (.d (.int (ls.length:Int))),some (.d (.list (ls.map .int)))]) (fun x=>match x with | .int v=>some (encT (pt ls v)) | _=>none) ⟨_,rfl⟩ ?_ ?_
  ·rintro x ρ N hx ⟨v0,rfl⟩ hN
   obtain⟨v,hv,rfl⟩:=mem_map.mp hx;lia;refine⟨⟨'o','o'⟩,?_⟩;rw [show((ls.length:Int)).toNat=ls.length by omega];refine⟨by rw [a3q];omega,?_⟩;refine L2.a7v (fun ρ=>∃ v0:Option L,ρ=[v0,some (.d (.list (ls.map .int))),some (.d (.int v))]) (fun x=>match x with | .int p=>if ls.getD p.toNat 0=v then some (PyData.int p) else none | _=>none) ⟨_,rfl⟩ ?_ ?_
   ·rintro y ρ N2 hy ⟨v0,rfl⟩ hN2
    obtain⟨a,ha⟩:=List.getElem?_of_mem hy;obtain⟨ha2,rfl⟩:=rngI ha;lia;refine c1a 'o' (by rw [length_map];omega) fun d hd hdi=>?_;rw [show((a:Int)).toNat=a by omega,getElem?_map,getElem?_eq_getElem ha2] at hdi;cases hdi;lia;have eg:ls.getD a 0=ls[a]:=by rw [getD_eq_getElem?_getD,getElem?_eq_getElem ha2];rfl
    simp only [toNat_natCast,eg] at hN2;refine a3b (fun c=>?_) (fun c=>?_)
    ·lia
     simp only [if_pos c] at hN2;exact hN2 _ ⟨_,rfl⟩
    ·simp only [if_neg c] at hN2
     exact hN2 _ ⟨_,rfl⟩
   ·rintro ρ ⟨v0,rfl⟩
    rw [e1i];lia;exact hN _ ⟨_,rfl⟩
  ·rintro ρ _
   have ef:((Sx.srtI (Sx.uniq ls)).map PyData.int).filterMap (fun x=>match x with | .int v=>some (encT (pt ls v)) | _=>none)=((Sx.srtI (Sx.uniq ls)).map (pt ls)).map encT:=by
    rw [List.filterMap_map,map_map];exact congrFun (List.filterMap_eq_map (f:=fun v=>encT (pt ls v))) _
   rw [ef];rw [c9z (fun t ht=>?_) ?_,b0b]
   ·lia
    exact q _ _ 'o' (d0s rfl)
   ·rw [length_map,(Sx.a3f _).length_eq];omega
   ·obtain⟨v,hv,rfl⟩:=mem_map.mp ht
    exact d2h (Sx.b7a.mp ((Sx.a3f _).mem_iff.mp hv))
structure Wd where
 many:Nat
 facts:List (Str × List Int)
 moves:List 'g'
 sights:List (Str × List 'g')
abbrev encF(f:Str × List Int):PyData:=.tuple [.str f.1,encT f.2]
abbrev encS(s:Str × List 'g'):PyData:=.tuple [.str s.1,.tuple (s.2.map encT)]
abbrev Wd.enc(W:Wd):PyData:=.tuple [.tuple (W.facts.map encF),.tuple (W.moves.map encT),.tuple (W.sights.map encS)]
structure Good(W:Wd):Prop where
 m1:1 <= W.many
 m2:W.many <= 9
 mv:W.moves.length=W.many
 mr:∀ t ∈ W.moves,InR W.many t
 fn:(W.facts.map (·.1)).Sublist (["p","pq","q"]:List Str)
 fr:∀ f ∈ W.facts,InR W.many f.2
 sn:(W.sights.map (·.1)).Sublist (["a","ab","b"]:List Str)
 sr:∀ s ∈ W.sights,Parts W.many s.2
def b4q:DSp:=fun ls Q=>∃ (k most:Nat),ls=[.tape k,.d (.int (most:Int))]/\1 <= most/\most <= 9/\k + 200 < 900000/\∀ (W:Wd) (k':Nat),k' <= k + 150->Good W->W.many <= most->Q (.d W.enc) [some (.tape k'),none]
def sub_snoc{ss:List Str}{xs:List Str}{i:Nat}{x:Str}(h:ss.Sublist (xs.take i))(e:xs[i]? = some x):(ss ++ [x]).Sublist (xs.take (i + 1)):=by
 rw [take_add_one,e];exact h.append (List.Sublist.refl _)
def b8q{ss:List Str}{xs:List Str}{i:Nat}(h:ss.Sublist (xs.take i)):ss.Sublist (xs.take (i + 1)):=
 h.trans (List.take_sublist_take_left (le_succ i))
def str3{a b c:Str}{i:Nat}{x:PyData}(h:([.str a,.str b,.str c]:List PyData)[i]? = some x):∃ z,([a,b,c]:List Str)[i]? = some z/\x=.str z/\i < 3:=by
 match i,h with
 | 0,h=>cases h;exact⟨a,rfl,rfl,'o'⟩
 | 1,h=>cases h;exact⟨b,rfl,rfl,'o'⟩
 | 2,h=>cases h;exact⟨c,rfl,rfl,'o'⟩
 | i + 3,h=>simp at h
abbrev a6f:Stmt:=top 26
def a3c:FnScope ["_law_tape","_law_most","_law_many","_law_few","_law_moves","_law_facts","_law_sights"] ["_law_tape","_law_most"] (a0h a6f):='f'
def d0u{f f1 f2 f3:Addr}{fd fd1 fd2 fd3:FuncData} (F:FU K "_law_world" a6f f fd) (B:Bl mg) (a0s:b1k K mg f1 fd1) (a1e:b1j P w K mg base n f1 fd1)
  (a3j:Def K mg "_law_some" a5i ["_law_tape","_law_many","_law_few"] f2 fd2) (a6y:FO P w K mg base n f2 fd2 ["_law_tape","_law_many","_law_few"] b3o)
  (a8e:Def K mg "_law_parts" a6e ["_law_tape","_law_many"] f3 fd3) (b9z:FO P w K mg base n f3 fd3 ["_law_tape","_law_many"] b4p):FO P w K mg base (n + 1) f fd ["_law_tape","_law_most"] b4q:=by
 refine F.dok a3c (fun cdv A outer s H E hr ls Qd h=>?_) (fun ls Qd hq8=>by obtain⟨_,_,e,_⟩:=hq8;rw [e];rfl);obtain⟨k,most,rfl,hm1,hm2,hk,q⟩:=h;refine⟨rfl,?_⟩;refine⟨_,(a0r (a2h (i:=2) a3c.nd rfl (Or.inr rfl) (a5d a2v a5e a0n (a0y [true,false] a0s a1e hr rfl (a0c (dv 0) (a0c (dv 1) a0g)))))
  (a0r (a2h (i:=3) a3c.nd rfl (Or.inr rfl) (a5d a2v a5e a0n (a0y [true,false] a0s a1e hr rfl (a0c (dv 0) 'p'))))
  (a0r (a2h (i:=4) a3c.nd rfl 'e' (a3y a0v a4w rfl B.tuple_ a1k (a0c (a5f (a7l ["_law_p"] [("_law_tape",0),("_law_many",2),("_law_few",3)] rfl (by rfl) 'k' (a3e rfl B.range_ (dv 2)) (fun _ _ _=>(a1g (i:=0) (show(["_law_p","_law_tape","_law_many","_law_few"]:List Str).Nodup by decide +kernel) rfl 'e')) (fun _ _ _=>a7k) (fun _ _ _=>(a0y [true,false,false] a3j a6y hr rfl (a0c (dv 1) (a0c (dv 2) (a0c (dv 3) a0g))))))) a0g)))
  (a0r (b1h (i:=5) a3c.nd rfl rfl ["_law_name"] [("_law_tape",0),("_law_many",2)] rfl (by rfl) 'k' (a4b (a5f (a6k (a0c a8m (a0c a8m (a0c a8m a0g)))))) (fun _ _ _=>(a1g (i:=0) (show(["_law_name","_law_tape","_law_many"]:List Str).Nodup by decide +kernel) rfl 'e')) (fun _ _ _=>(b1g (a3z a8s (a8n _) (a0y [true,false] a0s a1e hr rfl (a0c (dv 1) 'p')) a0n (a2a _)))) (fun _ _ _=>(a3a (a0c (dv 0) (a0c (a0y [true,false,false] a3j a6y hr rfl (a0c (dv 1) (a0c (dv 2) 'p'))) a0g)))))
  (a0r (b1h (i:=6) a3c.nd rfl rfl ["_law_hand"] [("_law_tape",0),("_law_many",2)] rfl (by rfl) 'k' (a4b (a5f (a6k (a0c a8m (a0c a8m (a0c a8m a0g)))))) (fun _ _ _=>(a1g (i:=0) (show(["_law_hand","_law_tape","_law_many"]:List Str).Nodup by decide +kernel) rfl 'e')) (fun _ _ _=>(b1g (a3z a8s (a8n _) (a0y [true,false] a0s a1e hr rfl (a0c (dv 1) 'p')) a0n (a2a _)))) (fun _ _ _=>(a3a (a0c (dv 0) (a0c (a0y [true,false] a8e b9z hr rfl (a0c (dv 1) (a0c (dv 2) a0g))) a0g)))))
  (a1b (a4a (a3a (a0c (a3y a0v a4w rfl B.tuple_ a1k (a0c (dv 5) a0g)) (a0c (dv 4) (a0c (a3y a0v a4w rfl B.tuple_ a1k (a0c (dv 6) a0g)) a0g))))))))))),?_⟩
 lia;refine⟨k,most,rfl,'o','o',fun r h0 h1=>?_⟩;obtain⟨m,rfl,hma,hmb⟩:∃ m:Nat,r=(m:Int) - 1/\1 <= m/\m <= most:=⟨r.toNat + 1,'o','o','o'⟩;lia;rw [show(1:Int) + ((m:Int) - 1)=(m:Int) by omega];refine⟨k + 1,3,rfl,'d','o',fun r2 h2 h3=>?_⟩;lia;refine⟨⟨'o','o'⟩,?_⟩;rw [show((m:Int)).toNat=m by omega];refine⟨by rw [a3q];omega,?_⟩;refine a7t (fun i ρ acc=>∃ (v0:Option L) (k':Nat) (tss:List 'g'),ρ=[v0,some (.tape k'),some (.d (.int (m:Int))),some (.d (.int (2 + r2)))]/\acc=tss.map encT/\tss.length=i/\(∀ t ∈ tss,InR m t)/\k' <= k + 2 + 9 * i/\i <= m) ⟨none,k + 2,[],rfl,rfl,rfl,fun x hx=>by simp at hx,'o','o'⟩ ?_ ?_
 ·rintro i x ρ acc N hx ⟨v0,k',tss,rfl,rfl,hl,hb,hk',hi⟩ hN
  obtain⟨hi2,rfl⟩:=rngI hx;lia;refine⟨k',m,2 + r2,rfl,'o','o','o',fun ns k2 hk2 hns=>?_⟩;lia;refine hN _ _ ⟨_,k2,tss ++ [ns],rfl,by simp,by simp;omega,fun t ht=>?_,'o','o'⟩;rcases mem_append.mp ht with h | h
  ·exact hb t h
  ·rw [mem_singleton.mp h];exact hns
 rintro ρ acc ⟨v0,k1,mvs,rfl,rfl,hmv,hmr,hk1,_⟩;rw [a3q] at hmv hk1;lia;refine a7t (fun i ρ acc=>∃ (v0:Option L) (k':Nat) (fs:List (Str × List Int)),ρ=[v0,some (.tape k'),some (.d (.int (m:Int)))]/\acc=fs.map encF/\(fs.map (·.1)).Sublist ((["p","pq","q"]:List Str).take i)/\(∀ f ∈ fs,InR m f.2)/\k' <= k + 83 + 10 * i/\i <= 3) ⟨none,k1,[],rfl,rfl,by simp,fun x hx=>by simp at hx,'o','o'⟩ ?_ ?_
 ·rintro i x ρ acc N hx ⟨v0,k',fs,rfl,rfl,hl,hb,hk',hi⟩ hN
  obtain⟨z,hz,rfl,hi3⟩:=str3 hx;lia;refine⟨k',5,rfl,'d','o',fun r4 h4 h5=>?_⟩;lia;refine a3b (fun c=>?_) (fun c=>?_)
  ·lia
   refine⟨k' + 1,m,2,rfl,'o','o','o',fun ns k2 hk2 hns=>?_⟩;lia;refine hN _ _ ⟨_,k2,fs ++ [(z,ns)],rfl,by simp,by rw [map_append];exact sub_snoc hl hz,fun t ht=>?_,'o','o'⟩;rcases mem_append.mp ht with h | h
   ·exact hb t h
   ·rw [mem_singleton.mp h];exact hns
  ·exact hN _ _ ⟨_,k' + 1,fs,rfl,rfl,b8q hl,hb,'o','o'⟩
 rintro ρ acc ⟨v0,k2,fs,rfl,rfl,hfn,hfr,hk2,_⟩;lia;refine a7t (fun i ρ acc=>∃ (v0:Option L) (k':Nat) (ss:List (Str × List 'g')),ρ=[v0,some (.tape k'),some (.d (.int (m:Int)))]/\acc=ss.map encS/\(ss.map (·.1)).Sublist ((["a","ab","b"]:List Str).take i)/\(∀ f ∈ ss,Parts m f.2)/\k' <= k + 113 + 11 * i/\i <= 3) ⟨none,k2,[],rfl,rfl,by simp,fun x hx=>by simp at hx,by simp at hk2;omega,'o'⟩ ?_ ?_
 ·rintro i x ρ acc N hx ⟨v0,k',ss,rfl,rfl,hl,hb,hk',hi⟩ hN
  obtain⟨z,hz,rfl,hi3⟩:=str3 hx;lia;refine⟨k',5,rfl,'d','o',fun r4 h4 h5=>?_⟩;lia;refine a3b (fun c=>?_) (fun c=>?_)
  ·lia
   refine⟨k' + 1,m,rfl,'o','o',fun tss k3 hk3 hps=>?_⟩;lia;refine hN _ _ ⟨_,k3,ss ++ [(z,tss)],rfl,by simp,by rw [map_append];exact sub_snoc hl hz,fun t ht=>?_,'o','o'⟩;rcases mem_append.mp ht with h | h
   ·exact hb t h
   ·rw [mem_singleton.mp h];exact hps
  ·exact hN _ _ ⟨_,k' + 1,ss,rfl,rfl,b8q hl,hb,'o','o'⟩
 rintro ρ acc ⟨v0,k3,ss,rfl,rfl,hsn,hsr,hk3,_⟩;lia;exact q ⟨m,fs,mvs,ss⟩ k3 (by simp at hk3;omega) ⟨hma,by show m <= 9;omega,hmv,hmr,hfn,hfr,hsn,hsr⟩ hmb
def b8r(p:Int):∀ t:List Int,inF (.int p) (t.map .int)=decide (p ∈ t)
 | []=>by simp [inF]
 | x :: r=>by
  have ih:=b8r p r;unfold inF at ih ⊢;rw [map_cons,any_cons,ih];by_cases e:x=p
  ·subst e;simp [eqF]
  ·have e2:(x == p)=false:=by simpa using e
   have e3:¬ p=x:=fun h=>e h.symm;simp [eqF,e2,e3]
def b5v:∀ t:List Int,(t.map PyData.int).all a1c=true
 | []=>rfl
 | x :: r=>by rw [map_cons,all_cons,b5v r];rfl
def d0v{p:Int}{t:List Int}:fIn false (.int p) (.tuple (t.map .int))=some (.bool (decide (p ∈ t))):=by
 rw [d1u (by rw [b5v];rfl),b8r];rfl
def d0w{p:Int}{t:List Int}:fIn false (.int p) (encT t)=some (.bool (decide (p ∈ t))):=d0v
def a3r{α:Type}{o:Option α}{x:α}{Q:α->Prop}(e:o=some x)(h:Q x):need o Q:=by rw [e];exact h
noncomputable def nxt(W:Wd)(ts:List 'g'):List 'g':=ts.flatMap fun t=>(W.moves.getD (t.getLastD 0).toNat []).map fun p=>t ++ [p]
noncomputable def lays(W:Wd)(fs:List Int):Nat->List 'g'
 | 0=>fs.map fun p=>[p]
 | d + 1=>nxt W (lays W fs d)
noncomputable def a0i(W:Wd)(fs:List Int):Nat->List 'g'
 | 0=>lays W fs 0
 | d + 1=>a0i W fs d ++ lays W fs (d + 1)
structure WOk(W:Wd)(t:List Int):Prop where
 ne:t ≠ []
 rg:∀ x ∈ t,0 <= x/\x < (W.many:Int)
def WOk.last{W:Wd}{t:List Int}(h:WOk W t):t.getLastD 0 ∈ t:=by
 have:=h.ne;rw [List.getLastD_eq_getLast?,List.getLast?_eq_some_getLast this];exact List.getLast_mem this
structure GM(W:Wd):Prop where
 mv:W.moves.length=W.many
 m2:W.many <= 20
 mr:∀ t ∈ W.moves,InR W.many t
def Good.gm{W:Wd}(G:Good W):GM W:=⟨G.mv,by have:=G.m2;omega,G.mr⟩
def e1j{W:Wd}(G:GM W){ts:List 'g'}(h:∀ t ∈ ts,WOk W t):∀ t ∈ nxt W ts,WOk W t:=fun t ht=>by
 obtain⟨u,hu,ht⟩:=List.mem_flatMap.mp ht;obtain⟨p,hp,rfl⟩:=mem_map.mp ht;have hl:=(h u hu).rg _ (h u hu).last;have hi:(u.getLastD 0).toNat < W.moves.length:=by rw [G.mv];omega
 rw [getD_eq_getElem?_getD,getElem?_eq_getElem hi] at hp;have mr:=G.mr _ (getElem_mem hi);refine⟨by simp,fun x hx=>?_⟩;rcases mem_append.mp hx with hx | hx
 ·exact(h u hu).rg x hx
 ·rw [mem_singleton.mp hx];exact mr.1 p hp
def a4h{W:Wd}(G:GM W){fs:List Int}(h:∀ x ∈ fs,0 <= x/\x < (W.many:Int)):∀ d,∀ t ∈ lays W fs d,WOk W t/\t.length=d + 1
 | 0=>fun t ht=>by
  obtain⟨p,hp,rfl⟩:=mem_map.mp ht;exact⟨⟨by simp,fun x hx=>by rw [mem_singleton.mp hx];exact h p hp⟩,rfl⟩
 | d + 1=>fun t ht=>by
  have ih:=a4h G h d;refine⟨e1j G (fun t ht=>(ih t ht).1) t ht,?_⟩;obtain⟨u,hu,ht⟩:=List.mem_flatMap.mp ht;obtain⟨p,hp,rfl⟩:=mem_map.mp ht;rw [length_append,(ih u hu).2];rfl
def b8s{W:Wd}{fs:List Int}:∀ {d:Nat} {t:List Int},t ∈ a0i W fs d ↔ ∃ i,i <= d/\t ∈ lays W fs i
 | 0,t=>by
  refine⟨fun h=>⟨0,le_refl _,h⟩,fun hq8=>?_⟩;obtain⟨i,hi,h⟩:=hq8;have e:i=0:=by omega
  rw [e] at h;exact h
 | d + 1,t=>by
  show t ∈ a0i W fs d ++ lays W fs (d + 1) ↔ _;rw [mem_append,b8s];constructor
  ·rintro(⟨i,hi,h⟩ | h)
   ·exact⟨i,'o',h⟩
   ·exact⟨d + 1,le_refl _,h⟩
  ·rintro⟨i,hi,h⟩
   by_cases c:i=d + 1
   ·subst c;exact .inr h
   ·exact .inl ⟨i,'o',h⟩
def a7n{W:Wd}(G:GM W){fs:List Int}(h:∀ x ∈ fs,0 <= x/\x < (W.many:Int)){d:Nat}{t:List Int}(ht:t ∈ a0i W fs d):WOk W t/\t.length <= d + 1:=by
 obtain⟨i,hi,ht⟩:=b8s.mp ht;obtain⟨a,b⟩:=a4h G h i t ht;exact⟨a,'o'⟩
def b1l{W:Wd}{fs:List Int}{i:Nat}:∀ {d:Nat},i <= d->(a0i W fs i).length <= (a0i W fs d).length
 | 0,h=>by
  have e:i=0:=by omega
  rw [e];exact le_refl _
 | d + 1,h=>by
  by_cases c:i=d + 1
  ·subst c;exact le_refl _
  ·refine le_trans (b1l (d:=d) 'o') ?_
   show _ <= (a0i W fs d ++ lays W fs (d + 1)).length;rw [length_append];omega
def d6l{W:Wd}{fs:List Int}{d:Nat}:(lays W fs d).length <= (a0i W fs d).length:=by
 cases d with
 | zero=>exact le_refl _
 | succ d=>show _ <= (a0i W fs d ++ lays W fs (d + 1)).length;rw [length_append];omega
def b0p{t:List Int}(h:t ≠ []):atI (t.map PyData.int) (-1)=some (.int (t.getLastD 0)):=by
 have hl:0 < t.length:=List.length_pos_iff.mpr h;unfold atI ixN;rw [if_neg 'o',length_map,if_pos 'o',bind_some,getElem?_map,List.getLastD_eq_getLast?,List.getLast?_eq_getElem?];rw [show(-1 + (t.length:Int)).toNat=t.length - 1 by omega];rw [getElem?_eq_getElem 'o'];rfl
noncomputable def wpre(W:Wd)(fs:List Int):Nat->List 'g'
 | 0=>[]
 | i + 1=>a0i W fs i
noncomputable def lpre(W:Wd)(fs:List Int):Nat->List 'g'
 | 0=>lays W fs 0
 | i + 1=>lays W fs i
def b2p:DSp:=fun ls Q=>∃ (W:Wd) (ts:List 'g') (most:Nat),ls=[.d (.tuple (W.moves.map encT)),.d (.list (ts.map encT)),.d (.int (most:Int))]/\GM W/\(∀ t ∈ ts,WOk W t/\t.length <= 20)/\most <= 200/\Q (.d (.list (((nxt W ts).take (most + 1)).map encT))) [none,none,none]
noncomputable def b1m(TM:Addr):DSpX:=fun ls Q Xd=>∃ (W:Wd) (fs:List Int) (d:Nat),ls=[.d W.enc,.d (encT fs),.d (.int (d:Int))]/\GM W/\(∀ x ∈ fs,0 <= x/\x < (W.many:Int))/\fs.length <= 20/\d <= 12/\((a0i W fs d).length <= 200->Q (.new ((a0i W fs d).map encT)) [none,none,none])/\(200 < (a0i W fs d).length->Xd TM)
def d2i{α:Type}{A:List α}{x:α}{m:Nat}:(A ++ [x]).take (m + 1)=if (A.take (m + 1)).length <= m then A.take (m + 1) ++ [x] else A.take (m + 1):=by
 rw [length_take];by_cases c:A.length <= m
 ·rw [if_pos 'o',List.take_of_length_le (by rw [length_append];simp;omega),List.take_of_length_le 'o']
 ·rw [if_neg 'o',List.take_append_of_le_length 'o']
set_option hygiene false in
local macro_rules | `(tactic| walk_at "wf") => `(tactic| (
 lia;refine⟨W,lays W fs i,200 - (a0i W fs i).length,by rw [length_map,show(200:Int) - ((wpre W fs (i + 1)).length:Int)=((200 - (a0i W fs i).length:Nat):Int) by show(200:Int) - ((a0i W fs i).length:Int)=_;omega];rfl,G,ok,'o',?_⟩;lia;refine a3b (fun c=>?_) (fun c=>?_)
 ·rw [length_map,length_map,length_take] at c
  have c':(200:Int) < ((a0i W fs i).length:Nat) + ((min (200 - (a0i W fs i).length + 1) (lays W fs (i + 1)).length:Nat):Int):=c;exact qX 'o'
 ·rw [length_map,length_map,length_take] at c
  have c':¬ (200:Int) < ((a0i W fs i).length:Nat) + ((min (200 - (a0i W fs i).length + 1) (lays W fs (i + 1)).length:Nat):Int):=c;rw [show(nxt W (lays W fs i)).take (200 - (a0i W fs i).length + 1)=lays W fs (i + 1) from List.take_of_length_le (by show(lays W fs (i + 1)).length <= _;omega)];lia;refine⟨_,rfl,by rw [length_map,length_map];omega,hN _ ⟨_,some (.d (.int ((i + 1:Nat):Int))),?_,.inr rfl,by show(a0i W fs (i + 1)).length <= 200;omega⟩⟩;rw [← map_append];rfl))
abbrev a4t:Stmt:=top 17
def a4i:FnScope ["moves","ways","most","told","way","point"] ["moves","ways","most"] (a0h a4t):='f'
def c7p{f:Addr}{fd:FuncData} (F:FU K "longer_ways" a4t f fd) (B:Bl mg):FO P w K mg base (n + 1) f fd ["moves","ways","most"] b2p:=by
 refine F.dok a4i (fun cdv A outer s H E hr ls Qd h=>?_) 'q';obtain⟨W,ts,most,rfl,G,ht,hm2,q⟩:=h;refine⟨rfl,?_⟩;refine⟨_,(a0r (b1f (i:=3) a4i.nd rfl 'e' (a6k a0g))
  (a0r (a5h PassesOwn.never rfl (a4b (dv 1)) (a1g (i:=4) a4i.nd rfl 'e')
  (a1b (a5h PassesOwn.never rfl (a4b (a6b a4l a6c (dv 0) (a6b a4l a6c (dv 4) (c6e a0n) 'i') 'i')) (a1g (i:=5) a4i.nd rfl 'e')
  (a1b (b3i (a3z op_le (a8n _) (a2p a2m a6j rfl B.len_ a3n (a0c (dv 3) a0g)) (dv 2) (a2a _))
  (a1b (b4h (b5l 3 rfl (a5d a2v a5e (dv 4) (a3a (a0c (dv 5) a0g))))))
  a8o)))))
  (a1b (a4a (dv 3))))),?_⟩
 lia;have mv:=G.mv;have m9:=G.m2;refine a2y (fun i ρ=>∃ v4 v5:Option L,ρ=[some (.d (.tuple (W.moves.map encT))),some (.d (.list (ts.map encT))),some (.d (.int (most:Int))),some (.own (((nxt W (ts.take i)).take (most + 1)).map encT)),v4,v5]) ⟨_,_,rfl⟩ ?_ ?_
 ·rintro i x ρ N hx ⟨v4,v5,rfl⟩ hN
  rw [getElem?_map] at hx;obtain⟨t,ht0,rfl⟩:=map_eq_some_iff.mp hx;obtain⟨hw,hl⟩:=ht t (mem_of_getElem? ht0);have lr:=hw.rg _ hw.last;have hi:(t.getLastD 0).toNat < W.moves.length:=by rw [mv];omega
  have e1:nxt W (ts.take (i + 1))=nxt W (ts.take i) ++ (W.moves.getD (t.getLastD 0).toNat []).map fun p=>t ++ [p]:=by
   unfold nxt;rw [take_add_one,ht0,toList_some,List.flatMap_append];simp
  lia;refine a3r (b0p hw.ne) ?_;lia;obtain⟨mvs,hmv⟩:∃ mvs,W.moves.getD (t.getLastD 0).toNat []=mvs:=⟨_,rfl⟩;rw [hmv] at e1;refine a3r (x:=encT mvs) ?_ ?_
  ·obtain⟨Y,hY⟩:∃ Y:Nat,t.getLastD 0=(Y:Int):=⟨(t.getLastD 0).toNat,'o'⟩
   rw [hY] at hi hmv ⊢;rw [toNat_natCast] at hi hmv;refine a1j ?_;rw [getElem?_map,← hmv,getD_eq_getElem?_getD,getElem?_eq_getElem hi];rfl
  lia;refine a2y (fun j ρ=>∃ v5:Option L,ρ=[some (.d (.tuple (W.moves.map encT))),some (.d (.list (ts.map encT))),some (.d (.int (most:Int))),some (.own (((nxt W (ts.take i) ++ (mvs.take j).map fun p=>t ++ [p]).take (most + 1)).map encT)),some (.d (encT t)),v5]) ⟨v5,by simp⟩ ?_ ?_
  ·rintro j x ρ N2 hx ⟨v5,rfl⟩ hN2
   rw [getElem?_map] at hx;obtain⟨p,hp,rfl⟩:=map_eq_some_iff.mp hx;have hj:j < mvs.length:=(List.getElem?_eq_some_iff.mp hp).1;have e2:nxt W (ts.take i) ++ (mvs.take (j + 1)).map (fun p=>t ++ [p])=(nxt W (ts.take i) ++ (mvs.take j).map fun p=>t ++ [p]) ++ [t ++ [p]]:=by
    rw [take_add_one,hp,toList_some,map_append,append_assoc];rfl
   lia;refine a3b (fun c=>?_) (fun c=>?_)
   ·lia
    rw [c6c (by rw [length_map,sizeLine_eq];simp;omega)];lia;rw [length_map] at c;refine⟨by rw [length_map];omega,?_⟩;refine hN2 _ ⟨some (.d (.int p)),?_⟩;rw [e2,d2i,if_pos 'o',map_append];simp
   ·rw [length_map] at c
    refine hN2 _ ⟨some (.d (.int p)),?_⟩;rw [e2,d2i,if_neg 'o']
  ·rintro ρ ⟨v5,rfl⟩
   rw [length_map,take_length];exact hN _ ⟨_,v5,by rw [e1]⟩
 ·rintro ρ ⟨v4,v5,rfl⟩
  rw [length_map,take_length];lia;exact q
abbrev a4o:Stmt:=top 16
def a3d:FnScope ["world","firsts","days","moves","ways","latest","day"] ["world","firsts","days"] (a0h a4o):='f'
def d0x{f f1 TM:Addr}{fd fd1:FuncData} (F:FU K "ways_from" a4o f fd) (B:Bl mg) (m_TooMany:mg "TooMany" = some (.ref TM)) (x_TooMany:W.excIn K TM veM "ValueError.__new__" = true) (m_MOST_WAYS:∃ t,mg "MOST_WAYS" = some (.int 200 t)) (d_longer_ways:Def K mg "longer_ways" a4t ["moves","ways","most"] f1 fd1) (g_longer_ways:FO P w K mg base n f1 fd1 ["moves","ways","most"] b2p):FnOk P w K mg base (CX1 P w) (n + 1) f fd ["world","firsts","days"] (spX K (b1m TM)):=by
 refine F.dokX a3d (fun cdv A outer s H E hr c0 ls Qd Xd hE h=>?_) (fun ls Qd Xd h=>by obtain⟨_,_,_,e,_⟩:=h;rw [e];rfl);obtain⟨W,fs,d,rfl,G,hf,f60,hd,q,qX⟩:=h;refine⟨rfl,?_⟩;refine⟨_,(a5c (b3m (a2h (i:=3) a3d.nd rfl 'e' (a6b a4l a6c (dv 0) a0n 'i')))
  (a5c (b3m (b1f (i:=4) a3d.nd rfl 'e' (a6k a0g)))
  (a5c (b3m (b1h (i:=5) a3d.nd rfl rfl ["point"] [] rfl (by rfl) 'k' (a4b (dv 1)) (fun _ _ _=>(a1g (i:=0) (show(["point"]:List Str).Nodup by decide +kernel) rfl 'e')) (fun _ _ _=>a7k) (fun _ _ _=>(a3a (a0c (dv 0) a0g)))))
  (a5c (d6h PassesOwn.leaving rfl (a3e rfl B.range_ (a5d a2v a5e (dv 2) a0n)) (a1g (i:=6) a3d.nd rfl 'e')
  (a5c (b3m (b3i (a3z a8s (a8n _) (dv 6) a0n (a2a _))
  (a1b (a2h (i:=5) a3d.nd rfl 'e' (a0y [false,false,false] d_longer_ways g_longer_ways hr rfl (a0c (dv 3) (a0c (dv 5) (a0c (a5d d7a d7y (c0r rfl m_MOST_WAYS) (a2p a2m a6j rfl B.len_ a3n (a0c (dv 4) a0g))) a0g))))))
  a8o))
  (a5c (e1e (a3z a8s (a8n _) (a5d a2v a5e (a2p a2m a6j rfl B.len_ a3n (a0c (dv 4) a0g)) (a2p a2m a6j rfl B.len_ a3n (a0c (dv 5) a0g))) (c0r rfl m_MOST_WAYS) (a2a _))
  (d0o (c7k (d0l c7e rfl rfl m_TooMany x_TooMany) hE))
  d0p)
  (c1l (a1b (b4h (d5t 4 rfl (dv 5))))))))
  (c1l (a1b (b5k 4))))))),?_⟩
 lia;refine⟨by rw [length_map];omega,?_⟩;refine L2.a7v (fun ρ=>∃ v0:Option L,ρ=[v0]) (fun x=>match x with | .int p=>some (encT [p]) | _=>none) ⟨_,rfl⟩ ?_ ?_
 ·rintro x ρ N hx ⟨v0,rfl⟩ hN
  obtain⟨p,hp,rfl⟩:=mem_map.mp hx;lia;exact hN _ ⟨_,rfl⟩
 rintro ρ ⟨v0,rfl⟩;have el:(fs.map PyData.int).filterMap (fun x=>match x with | .int p=>some (encT [p]) | _=>none)=(lays W fs 0).map encT:=by
  show _=(fs.map fun p=>[p]).map encT;rw [List.filterMap_map,map_map];exact congrFun (List.filterMap_eq_map (f:=fun p=>encT [p])) _
 rw [el];lia;refine⟨⟨'o','o'⟩,?_⟩;rw [show((d:Int) + 1).toNat=d + 1 by omega];refine a2y (fun i ρ=>∃ (l5:L) (v6:Option L),ρ=[some (.d W.enc),some (.d (encT fs)),some (.d (.int (d:Int))),some (.d (.tuple (W.moves.map encT))),some (.own ((wpre W fs i).map encT)),some l5,v6]/\(l5=.own ((lpre W fs i).map encT) ∨ l5=.d (.list ((lpre W fs i).map encT)))/\(wpre W fs i).length <= 200) ⟨_,none,rfl,.inl rfl,zero_le _⟩ ?_ ?_
 ·rintro i x ρ N hx ⟨l5,v6,rfl,h5,hp⟩ hN
  obtain⟨hi,rfl⟩:=rngI hx;have b1:=b1l (W:=W) (fs:=fs) (show i <= d by omega);cases i with
  | zero =>
   have b2:(lays W fs 0).length=fs.length:=length_map ..;rcases h5 with rfl | rfl
   ·walk_at "dk"
    refine a3b (fun c=>?_) (fun c=>?_)
    ·rw [length_map,length_map] at c
     have c':(200:Int) < (0:Nat) + ((lays W fs 0).length:Nat):=c;omega
    ·lia
     exact⟨_,rfl,by rw [length_map,length_map];show 0 + (lays W fs 0).length <= _;omega,hN _ ⟨_,_,rfl,.inl rfl,by show(lays W fs 0).length <= 200;omega⟩⟩
   ·walk_at "dk"
    refine a3b (fun c=>?_) (fun c=>?_)
    ·rw [length_map,length_map] at c
     have c':(200:Int) < (0:Nat) + ((lays W fs 0).length:Nat):=c;omega
    ·lia
     exact⟨_,rfl,by rw [length_map,length_map];show 0 + (lays W fs 0).length <= _;omega,hN _ ⟨_,_,rfl,.inr rfl,by show(lays W fs 0).length <= 200;omega⟩⟩
  | succ i =>
   have b2:(a0i W fs (i + 1)).length=(a0i W fs i).length + (lays W fs (i + 1)).length:=by
    show(a0i W fs i ++ lays W fs (i + 1)).length=_;rw [length_append]
   have ok:∀ t ∈ lays W fs i,WOk W t/\t.length <= 20:=fun t ht=>⟨(a4h G hf i t ht).1,by rw [(a4h G hf i t ht).2];omega⟩;have hp:(a0i W fs i).length <= 200:=hp;have b4:=b1l (W:=W) (fs:=fs) (show i + 1 <= d by omega);lia;refine a3b (fun c=>?_) (fun c=>absurd 'o' c);rcases h5 with rfl | rfl<;>walk_at "wf"
 ·rintro ρ ⟨l5,v6,rfl,_,hp⟩
  rw [a3q] at hp ⊢;lia;exact q hp
noncomputable def wres(W:Wd)(fs:List Int)(d:Nat):PyData:=if (a0i W fs d).length <= 200 then .list ((a0i W fs d).map encT) else .none
def c1m{W:Wd}(G:GM W):∀ {ts:List 'g'},(∀ t ∈ ts,WOk W t)->(nxt W ts).length <= 20 * ts.length
 | [],_=>le_refl _
 | t :: r,h=>by
  have hw:=h t (mem_cons_self ..);have lr:=hw.rg _ hw.last;have ih:=c1m G (ts:=r) fun u hu=>h u (mem_cons_of_mem _ hu);have hi:(t.getLastD 0).toNat < W.moves.length:=by rw [G.mv];omega
  have ml:=(G.mr _ (getElem_mem hi)).2.1;have m9:=G.m2;have e:nxt W (t :: r)=((W.moves.getD (t.getLastD 0).toNat []).map fun p=>t ++ [p]) ++ nxt W r:=by unfold nxt;rw [List.flatMap_cons]
  rw [e,length_append,length_map,length_cons,getD_eq_getElem?_getD,getElem?_eq_getElem hi];show(W.moves[(t.getLastD 0).toNat]).length + _ <= _;omega
def d2j:∀ a b:List Int,PyData.eqvAll (a.map .int) (b.map .int)=decide (a=b)
 | [],[]=>rfl
 | [],b :: bs=>rfl
 | a :: as,[]=>rfl
 | a :: as,b :: bs=>by
  rw [map_cons,map_cons,PyData.eqvAll,d2j as bs,PyData.eqv];by_cases h1:a=b
  ·by_cases h2:as=bs
   ·simp [h1,h2]
   ·simp [h1,h2]
  ·have:(a == b)=false:=by simpa using h1
   simp [this,h1]
def b3p:∀ ns:List Int,PyData.canLayAll0 (ns.map .int)=true
 | []=>rfl
 | n :: r=>by rw [map_cons,PyData.canLayAll0,b3p r];rfl
def d2k:∀ ns:List Int,PyData.depthAll (ns.map .int)=0
 | []=>rfl
 | n :: r=>by rw [map_cons,PyData.depthAll,d2k r];rfl
def d2l(t:List Int):SeqAt.shaped (encT t)=true:=by
 unfold SeqAt.shaped;rw [PyData.canLay0,b3p,PyData.depth,d2k];rfl
def eq_TT{neg:Bool}{a b:List Int}:fEqA neg (encT a) (encT b)=some (.bool (if neg then !decide (a=b) else decide (a=b))):=by
 rw [c8w rfl (d2l a) (d2l b),PyData.eqv,d2j]
def b4r:DSp:=fun ls Q=>∃ (W:Wd) (fs:List Int) (d:Nat),ls=[.d W.enc,.d (encT fs),.d (.int (d:Int))]/\GM W/\(∀ x ∈ fs,0 <= x/\x < (W.many:Int))/\fs.length <= 20/\d <= 12/\Q (.d (wres W fs d)) [none,none,none]
def b2q:DSp:=fun ls Q=>∃ (W:Wd) (k:Nat),ls=[.tape k,.d W.enc]/\Good W/\k < 800000/\∀ (fs:List Int) (k':Nat),k' <= k + 10->InR W.many fs->fs ≠ []->Q (.d (encT fs)) [some (.tape k'),none]
abbrev a6z:Stmt:=top 28
def a2f:FnScope ["_law_world_here","_law_firsts_here","_law_days","_law_ways_here","_law_last","_law_day","_law_longer","_law_way","_law_p"] ["_law_world_here","_law_firsts_here","_law_days"] (a0h a6z):='f'
def d0y{f:Addr}{fd:FuncData} (F:FU K "_law_ways" a6z f fd) (B:Bl mg):FO P w K mg base (n + 1) f fd ["_law_world_here","_law_firsts_here","_law_days"] b4r:=by
 refine F.dok a2f (fun cdv A outer s H E hr ls Qd h=>?_) 'q';obtain⟨W,fs,d,rfl,G,hf,hfl,hd,q⟩:=h;refine⟨rfl,?_⟩;have mv:=G.mv;have m9:=G.m2;refine⟨_,(a0r (b1h (i:=3) a2f.nd rfl rfl ["_law_p"] [] rfl (by rfl) 'k' (a4b (dv 1)) (fun _ _ _=>(a1g (i:=0) (show(["_law_p"]:List Str).Nodup by decide +kernel) rfl 'e')) (fun _ _ _=>a7k) (fun _ _ _=>(a3a (a0c (dv 0) a0g))))
  (a0r (a2h (i:=4) a2f.nd rfl 'e' (dv 3))
  (a0r (a5h PassesOwn.never rfl (a3e rfl B.range_ (dv 2)) (a1g (i:=5) a2f.nd rfl 'e')
  (a0r (b1f (i:=6) a2f.nd rfl 'e' (a6k a0g))
  (a0r (a5h PassesOwn.never rfl (a4b (dv 4)) (a1g (i:=7) a2f.nd rfl 'e')
  (a1b (a5h PassesOwn.never rfl (a4b (a6b a4l a6c (a6b a4l a6c (dv 0) a0n 'i') (a6b a4l a6c (dv 7) (c6e a0n) 'i') 'i')) (a1g (i:=8) a2f.nd rfl 'e')
  (a1b (b4h (b5l 6 rfl (a5d a2v a5e (dv 7) (a3a (a0c (dv 8) a0g)))))))))
  (a0r (a2h (i:=3) a2f.nd rfl 'e' (a5d a2v a5e (dv 3) (dv 6)))
  (a0r (a2h (i:=4) a2f.nd rfl 'e' (dv 6))
  (a1b (b3i (a3z a8s (a8n _) (a2p a2m a6j rfl B.len_ a3n (a0c (dv 3) a0g)) a0n (a2a _))
  (a1b (a4a c5o))
  a8o)))))))
  (a1b (a4a (dv 3)))))),?_⟩
 lia;refine⟨by rw [length_map];omega,?_⟩;refine L2.a7v (fun ρ=>∃ v0:Option L,ρ=[v0]) (fun x=>match x with | .int p=>some (encT [p]) | _=>none) ⟨_,rfl⟩ ?_ ?_
 ·rintro x ρ N hx ⟨v0,rfl⟩ hN
  obtain⟨p,hp,rfl⟩:=mem_map.mp hx;lia;exact hN _ ⟨_,rfl⟩
 rintro ρ ⟨v0,rfl⟩;have el:(fs.map PyData.int).filterMap (fun x=>match x with | .int p=>some (encT [p]) | _=>none)=(lays W fs 0).map encT:=by
  show _=(fs.map fun p=>[p]).map encT;rw [List.filterMap_map,map_map];exact congrFun (List.filterMap_eq_map (f:=fun p=>encT [p])) _
 rw [el];lia;refine⟨⟨'o','o'⟩,?_⟩;rw [toNat_natCast];refine a2y (fun i ρ=>∃ v5 v6 v7 v8:Option L,ρ=[some (.d W.enc),some (.d (encT fs)),some (.d (.int (d:Int))),some (.d (.list ((a0i W fs i).map encT))),some (.d (.list ((lays W fs i).map encT))),v5,v6,v7,v8]/\(a0i W fs i).length <= 200) ⟨none,none,none,none,rfl,by show(fs.map _).length <= 200;rw [length_map];omega⟩ ?_ ?_
 ·rintro i x ρ N hx ⟨v5,v6,v7,v8,rfl,hw⟩ hN
  obtain⟨hi,rfl⟩:=rngI hx;have ok:∀ t ∈ lays W fs i,WOk W t/\t.length <= 20:=fun t ht=>⟨(a4h G hf i t ht).1,by rw [(a4h G hf i t ht).2];omega⟩;have ll:=d6l (W:=W) (fs:=fs) (d:=i);have nl:=c1m G (ts:=lays W fs i) fun t ht=>(ok t ht).1;lia;refine a2y (fun a ρ=>∃ v7 v8:Option L,ρ=[some (.d W.enc),some (.d (encT fs)),some (.d (.int (d:Int))),some (.d (.list ((a0i W fs i).map encT))),some (.d (.list ((lays W fs i).map encT))),some (.d (.int (i:Int))),some (.own ((nxt W ((lays W fs i).take a)).map encT)),v7,v8]) ⟨_,_,rfl⟩ ?_ ?_
  ·rintro a x ρ N2 hx ⟨v7,v8,rfl⟩ hN2
   rw [getElem?_map] at hx;obtain⟨t,ht0,rfl⟩:=map_eq_some_iff.mp hx;obtain⟨tw,tl⟩:=ok t (mem_of_getElem? ht0);have lr:=tw.rg _ tw.last;have hi2:(t.getLastD 0).toNat < W.moves.length:=by rw [mv];omega
   have e1:nxt W ((lays W fs i).take (a + 1))=nxt W ((lays W fs i).take a) ++ (W.moves.getD (t.getLastD 0).toNat []).map fun p=>t ++ [p]:=by
    unfold nxt;rw [take_add_one,ht0,toList_some,List.flatMap_append];simp
   have tot:(nxt W ((lays W fs i).take (a + 1))).length <= (nxt W (lays W fs i)).length:=by
    have e:nxt W (lays W fs i)=nxt W ((lays W fs i).take (a + 1)) ++ nxt W ((lays W fs i).drop (a + 1)):=by
     unfold nxt;rw [← List.flatMap_append,List.take_append_drop]
    rw [e,length_append];omega
   lia;refine a3r (b0p tw.ne) ?_;lia;obtain⟨mvs,hmv⟩:∃ mvs,W.moves.getD (t.getLastD 0).toNat []=mvs:=⟨_,rfl⟩;rw [hmv] at e1;refine a3r (x:=encT mvs) ?_ ?_
   ·obtain⟨Y,hY⟩:∃ Y:Nat,t.getLastD 0=(Y:Int):=⟨(t.getLastD 0).toNat,'o'⟩
    rw [hY] at hi2 hmv ⊢;rw [toNat_natCast] at hi2 hmv;refine a1j ?_;rw [getElem?_map,← hmv,getD_eq_getElem?_getD,getElem?_eq_getElem hi2];rfl
   lia;refine a2y (fun j ρ=>∃ v8:Option L,ρ=[some (.d W.enc),some (.d (encT fs)),some (.d (.int (d:Int))),some (.d (.list ((a0i W fs i).map encT))),some (.d (.list ((lays W fs i).map encT))),some (.d (.int (i:Int))),some (.own ((nxt W ((lays W fs i).take a) ++ (mvs.take j).map fun p=>t ++ [p]).map encT)),some (.d (encT t)),v8]) ⟨v8,by simp⟩ ?_ ?_
   ·rintro j x ρ N3 hx ⟨v8,rfl⟩ hN3
    rw [getElem?_map] at hx;obtain⟨p,hp,rfl⟩:=map_eq_some_iff.mp hx;have hj:j < mvs.length:=(List.getElem?_eq_some_iff.mp hp).1;have lt:(nxt W ((lays W fs i).take a)).length + j < (nxt W (lays W fs i)).length:=by
     rw [e1,length_append,length_map] at tot;omega
    lia;rw [c6c (by rw [length_map,sizeLine_eq];simp;omega)];lia;refine⟨by rw [length_map,length_append,length_map,length_take];omega,?_⟩;refine hN3 _ ⟨some (.d (.int p)),?_⟩;have e2:(nxt W ((lays W fs i).take a) ++ (mvs.take (j + 1)).map fun p=>t ++ [p]).map encT=(nxt W ((lays W fs i).take a) ++ (mvs.take j).map fun p=>t ++ [p]).map encT ++ [PyData.tuple (t.map PyData.int ++ [PyData.int p])]:=by
     rw [take_add_one,hp,toList_some,map_append,map_append,map_append,map_append,append_assoc];simp
    rw [e2]
   ·rintro ρ ⟨v8,rfl⟩
    rw [length_map,take_length];exact hN2 _ ⟨_,v8,by rw [e1]⟩
  ·rintro ρ ⟨v7,v8,rfl⟩
   rw [length_map,take_length];lia;rw [d8u (by rw [length_map,length_map,sizeLine_eq];omega)];lia;have ew:(a0i W fs i).map encT ++ (nxt W (lays W fs i)).map encT=(a0i W fs (i + 1)).map encT:=by rw [← map_append];rfl
   rw [ew];refine a3b (fun c=>?_) (fun c=>?_)
   ·lia
    rw [length_map] at c;have:=b1l (W:=W) (fs:=fs) (show i + 1 <= d by omega);unfold wres at q;rw [if_neg 'o'] at q;exact q
   ·rw [length_map] at c
    exact hN _ ⟨_,_,v7,v8,rfl,'o'⟩
 ·rintro ρ ⟨v5,v6,v7,v8,rfl,hw⟩
  rw [a3q] at hw ⊢;lia;unfold wres at q;rw [if_pos hw] at q;exact q
abbrev a5j:Stmt:=top 29
def a9r:FnScope ["_law_tape","_law_world_here","_law_firsts_here"] ["_law_tape","_law_world_here"] (a0h a5j):='f'
def c7q{f f1 f2:Addr}{fd fd1 fd2:FuncData} (F:FU K "_law_firsts" a5j f fd) (B:Bl mg) (a0s:b1k K mg f1 fd1) (a1e:b1j P w K mg base n f1 fd1)
  (a3j:Def K mg "_law_some" a5i ["_law_tape","_law_many","_law_few"] f2 fd2) (a6y:FO P w K mg base n f2 fd2 ["_law_tape","_law_many","_law_few"] b3o):FO P w K mg base (n + 1) f fd ["_law_tape","_law_world_here"] b2q:=by
 refine F.dok a9r (fun cdv A outer s H E hr ls Qd h=>?_) (fun ls Qd hq8=>by obtain⟨_,_,e,_⟩:=hq8;rw [e];rfl);obtain⟨W,k,rfl,G,hk,q⟩:=h;refine⟨rfl,?_⟩;have mv:=G.mv;have m1:=G.m1;have m9:=G.m2;refine⟨_,(a0r (a2h (i:=2) a9r.nd rfl 'e' (a0y [true,false,false] a3j a6y hr rfl (a0c (dv 0) (a0c (a2p a2m a6j rfl B.len_ a3n (a0c (a6b a4l a6c (dv 1) a0n 'i') a0g)) 'p'))))
  (a0r (b3i (a3z (b7u hr.units) b7t (dv 2) (a3a a0g) (a2a _))
  (a1b (a4a (a3a (a0c (a0y [true,false] a0s a1e hr rfl (a0c (dv 0) (a0c (a2p a2m a6j rfl B.len_ a3n (a0c (a6b a4l a6c (dv 1) a0n 'i') a0g)) a0g))) a0g))))
  a8o)
  (a1b (a4a (dv 2))))),?_⟩
 lia;refine⟨k,W.many,2,by rw [length_map,mv],'d','o','o',fun fs k' hk' hi=>?_⟩;lia;rw [show(PyData.tuple [])=encT [] from rfl,eq_TT];lia;refine a3b (fun c=>?_) (fun c=>?_)
 ·refine⟨k',(W.many:Int),by rw [length_map,mv],'o','o',fun r h0 h1=>?_⟩
  lia;exact q [r] (k' + 1) 'o' ⟨fun x hx=>by rw [mem_singleton.mp hx];exact⟨h0,h1⟩,by show 1 <= _;omega,pairwise_singleton _ _⟩ 'c'
 ·lia
  exact q fs k' 'o' hi c
def d6m{n:Nat}{z:Int}(h0:0 <= z)(h1:z < (n:Int)):ixN n z=some z.toNat:=by unfold ixN;rw [if_pos h0,if_pos h1]
noncomputable def mkAt(tss:List 'g')(p:Nat):Nat:=tss.findIdx fun t=>decide ((p:Int) ∈ t)
noncomputable def mks(m:Nat)(tss:List 'g'):List Int:=(List.range m).map fun p=>(mkAt tss p:Int)
def b4s:DSp:=fun ls Q=>∃ (tss:List 'g') (m:Nat),ls=[.d (.tuple (tss.map encT)),.d (.int (m:Int))]/\m <= 20/\Parts m tss/\Q (.new ((mks m tss).map .int)) [none,none]
def Parts.dis{m:Nat}{tss:List 'g'}(h:Parts m tss){i j:Nat}{x:Int}(hi:i < tss.length)(hj:j < tss.length)(h1:x ∈ tss[i])(h2:x ∈ tss[j]):i=j:=by
 have hd:=(List.pairwise_flatten.mp h.nd).2;rw [List.pairwise_iff_getElem] at hd;rcases Nat.lt_trichotomy i j with c | c | c
 ·exact absurd rfl (hd i j hi hj c x h1 x h2)
 ·exact c
 ·exact absurd rfl (hd j i hj hi c x h2 x h1)
def Parts.mkAt_eq{m:Nat}{tss:List 'g'}(h:Parts m tss){i p:Nat}(hi:i < tss.length)(h1:(p:Int) ∈ tss[i]):mkAt tss p=i:=by
 unfold mkAt;have hex:∃ t ∈ tss,decide ((p:Int) ∈ t)=true:=⟨tss[i],getElem_mem hi,decide_eq_true h1⟩;have hlt:(tss.findIdx fun t=>decide ((p:Int) ∈ t)) < tss.length:=List.findIdx_lt_length_of_exists hex;have h2:=List.findIdx_getElem (w:=hlt);exact h.dis hlt hi (by simpa using h2) h1
abbrev a9l:Stmt:=top 12
def a4p:FnScope ["parts","many","marks","number","part","point"] ["parts","many"] (a0h a9l):='f'
def d0z{f:Addr}{fd:FuncData} (F:FU K "marks_of" a9l f fd) (B:Bl mg):FO P w K mg base (n + 1) f fd ["parts","many"] b4s:=by
 refine F.dok a4p (fun cdv A outer s H E hr ls Qd h=>?_) (fun ls Qd h=>by obtain⟨_,_,e,_⟩:=h;rw [e];rfl);obtain⟨tss,m,rfl,hm,hp,q⟩:=h;refine⟨rfl,?_⟩;refine⟨_,(a0r (b1f (i:=2) a4p.nd rfl 'e' (df_op d7l d8e (a5f (a6k 'p')) (dv 1)))
  (a0r (a5h PassesOwn.never rfl (d0e rfl B.enumerate_ (dv 0)) (d8n (n:=2) rfl (b7s (a1g (i:=3) a4p.nd rfl 'e') (b7s (a1g (i:=4) a4p.nd rfl 'e') d3y)))
  (a1b (a5h PassesOwn.never rfl (a4b (dv 4)) (a1g (i:=5) a4p.nd rfl 'e')
  (a1b (c8t 2 rfl (dv 5) (dv 3))))))
  (a1b (b5k 2)))),?_⟩
 lia;refine a3r (x:=List.replicate m (.int 0)) ?_ ?_
 ·show @ite _ (-(2 ^ 63) <= (m:Int)/\(m:Int) < 2 ^ 63/\[PyData.int 0].length * (m:Int).toNat <= sizeLine) (Classical.propDecidable _) (some (List.replicate (m:Int).toNat [PyData.int 0]).flatten) none=_
  rw [if_pos ⟨'o','o',by rw [sizeLine_eq];show 1 * _ <= _;omega⟩,show((m:Int)).toNat=m by omega];simp
 lia;refine a2y (fun i ρ=>∃ (v3 v4 v5:Option L) (ms:List Int),ρ=[some (.d (.tuple (tss.map encT))),some (.d (.int (m:Int))),some (.own (ms.map .int)),v3,v4,v5]/\ms.length=m/\i <= tss.length/\∀ (k p:Nat) (hk:k < tss.length),k < i->(p:Int) ∈ tss[k]->ms.getD p 0=(k:Int)) ⟨none,none,none,List.replicate m 0,by rw [List.map_replicate],by simp,'o',fun k p hk h=>absurd h 'o'⟩ ?_ ?_
 ·rintro i x ρ N hx ⟨v3,v4,v5,ms,rfl,hl,hi,hms⟩ hN
  rw [b5n,getElem?_map] at hx;obtain⟨d,hd,rfl⟩:=map_eq_some_iff.mp hx;obtain⟨t,ht,rfl⟩:=map_eq_some_iff.mp hd;obtain⟨hi2,et⟩:=List.getElem?_eq_some_iff.mp ht;have hr:=hp.inr t (mem_of_getElem? ht);lia;refine a2y (fun j ρ=>∃ (v5:Option L) (ms:List Int),ρ=[some (.d (.tuple (tss.map encT))),some (.d (.int (m:Int))),some (.own (ms.map .int)),some (.d (.int (i:Int))),some (.d (encT t)),v5]/\ms.length=m/\(∀ (k p:Nat) (hk:k < tss.length),k < i->(p:Int) ∈ tss[k]->ms.getD p 0=(k:Int))/\∀ p:Nat,(p:Int) ∈ t.take j->ms.getD p 0=(i:Int)) ⟨v5,ms,rfl,hl,hms,fun p hp=>by simp at hp⟩ ?_ ?_
  ·rintro j y ρ N2 hy ⟨v5,ms,rfl,hl,hms,hmi⟩ hN2
   rw [getElem?_map] at hy;obtain⟨z,hz,rfl⟩:=map_eq_some_iff.mp hy;have hzm:=mem_of_getElem? hz;have hzb:=hr.1 z hzm;lia;refine a3r (x:=z.toNat) (by rw [length_map,hl];exact d6m hzb.1 hzb.2) ?_;rw [← List.map_set];refine hN2 _ ⟨_,ms.set z.toNat (i:Int),rfl,by rw [length_set];exact hl,fun k p hk hki hpk=>?_,fun p hpt=>?_⟩
   ·have hne:p ≠ z.toNat:=fun e=>by
     have ez:(p:Int)=z:=by omega
     rw [ez] at hpk;have:=hp.dis hk hi2 hpk (by rw [et];exact hzm);omega
    rw [getD_eq_getElem?_getD,getElem?_set_ne (Ne.symm hne),← getD_eq_getElem?_getD];exact hms k p hk hki hpk
   ·by_cases e:p=z.toNat
    ·subst e
     rw [getD_eq_getElem?_getD,getElem?_set_self 'o'];rfl
    ·rw [getD_eq_getElem?_getD,getElem?_set_ne (Ne.symm e),← getD_eq_getElem?_getD]
     rw [take_add_one,hz,toList_some,mem_append,mem_singleton] at hpt;rcases hpt with hpt | hpt
     ·exact hmi p hpt
     ·exact absurd (show p=z.toNat by omega) e
  ·rintro ρ ⟨v5,ms,rfl,hl,hms,hmi⟩
   refine hN _ ⟨_,_,v5,ms,rfl,hl,'o',fun k p hk hlt hm=>?_⟩;rw [length_map,take_length] at hmi;rcases Nat.lt_or_ge k i with c | c
   ·exact hms k p hk c hm
   ·have ek:k=i:=by omega
    subst ek;rw [et] at hm;exact hmi p hm
 ·rintro ρ ⟨v3,v4,v5,ms,rfl,hl,hi,hms⟩
  rw [b0f,length_map] at hms;lia;have em:ms=mks m tss:=by
   show ms=(List.range m).map fun p=>(mkAt tss p:Int);apply List.ext_getElem
   ·simp [hl]
   ·intro p h1 h2
    obtain⟨t,ht,hpt⟩:=hp.cov p 'o';obtain⟨k,hk,ek⟩:=getElem_of_mem ht;have hm2:(p:Int) ∈ tss[k]:=by rw [ek];exact hpt
    have:=hms k p hk hk hm2;rw [getD_eq_getElem?_getD,getElem?_eq_getElem h1] at this;rw [List.getElem_map,List.getElem_range,hp.mkAt_eq hk hm2];exact this
  rw [em];exact q
structure Lg(dp wt:Nat)(d:PyData):Prop where
 can:d.canLay0=true
 sho:d.intsShort 13=true
 shw:d.showable=true
 dep:d.depth <= dp
 wgt:d.weight <= wt
def Lg.up{dp wt dp' wt':Nat}{d:PyData}(h:Lg dp wt d)(h1:dp <= dp')(h2:wt <= wt'):Lg dp' wt' d:=⟨h.can,h.sho,h.shw,le_trans h.dep h1,le_trans h.wgt h2⟩
def b8t{dp wt:Nat}:∀ {xs:List PyData},(∀ x ∈ xs,Lg dp wt x)->PyData.canLayAll0 xs=true/\PyData.intsShortAll 13 xs=true/\PyData.showableAll xs=true/\PyData.depthAll xs <= dp/\PyData.weightAll xs <= xs.length * (wt + 1)
 | [],_=>⟨rfl,rfl,rfl,zero_le _,zero_le _⟩
 | x :: r,h=>by
  have hx:=h x mem_cons_self;obtain⟨a,b,c,d,e⟩:=b8t (xs:=r) fun y hy=>h y (mem_cons_of_mem _ hy);refine⟨by rw [PyData.canLayAll0,hx.can,a];rfl,by rw [PyData.intsShortAll,hx.sho,b];rfl,by rw [PyData.showableAll,hx.shw,c];rfl,by rw [PyData.depthAll];exact Nat.max_le.mpr ⟨hx.dep,d⟩,?_⟩;rw [PyData.weightAll,length_cons,Nat.add_mul];have:=hx.wgt;omega
def e1k{dp wt n:Nat}{xs:List PyData}(h:∀ x ∈ xs,Lg dp wt x)(hl:xs.length <= n):Lg (dp + 1) (n * (wt + 1)) (.tuple xs):=by
 obtain⟨a,b,c,d,e⟩:=b8t h;refine⟨by rw [PyData.canLay0];exact a,by rw [PyData.intsShort];exact b,by rw [PyData.showable];exact c,by rw [PyData.depth];omega,?_⟩;rw [PyData.weight];exact le_trans e (Nat.mul_le_mul_right _ hl)
def b4t:DSp:=fun ls Q=>∃ k:Nat,ls=[.tape k]/\k < 800000/\∀ (W:Wd) (k':Nat),k' <= k + 200->Good W->Q (.d W.enc) [some (.tape k')]
abbrev a2z:Stmt:=top 27
def b0q:FnScope ["_law_tape"] ["_law_tape"] (a0h a2z):='f'
def d1a{f f1 f2:Addr}{fd fd1 fd2:FuncData} (F:FU K "_law_drawn_world" a2z f fd) (B:Bl mg) (a0s:b1k K mg f1 fd1) (a1e:b1j P w K mg base n f1 fd1)
  (a8f:Def K mg "_law_world" a6f ["_law_tape","_law_most"] f2 fd2) (c0a:FO P w K mg base n f2 fd2 ["_law_tape","_law_most"] b4q):FO P w K mg base (n + 1) f fd ["_law_tape"] b4t:=by
 refine F.dok b0q (fun cdv A outer s H E hr ls Qd h=>?_) (fun ls Qd hq8=>by obtain⟨_,e,_⟩:=hq8;rw [e];rfl);obtain⟨k,rfl,hk,q⟩:=h;refine⟨rfl,?_⟩;refine⟨_,(a1b (a4a (a0y [true,false] a8f c0a hr rfl (a0c (dv 0) (a0c (a6b a4l a6c (a5f (a6k (a0c a0n (a0c a0n (a0c a0n (a0c a0n (a0c a0n (a0c a0n (a0c a0n 'p'))))))))) (a0y [true,false] a0s a1e hr rfl (a0c (dv 0) 'p')) 'i') a0g))))),?_⟩;lia;refine⟨k,8,rfl,'d','o',fun r h0 h1=>?_⟩;lia;refine c1a h0 (by simpa using h1) fun d hd _=>?_;lia;obtain⟨m,rfl,hm1,hm2⟩:∃ m:Nat,d=.int (m:Int)/\1 <= m/\m <= 9:=by
  simp only [mem_cons,not_mem_nil,or_false] at hd;rcases hd with rfl | rfl | rfl | rfl | rfl | rfl | rfl | rfl
  ·exact⟨4,rfl,'o','o'⟩
  all_goals first | exact⟨6,rfl,'o','o'⟩ | exact⟨9,rfl,'o','o'⟩
 refine⟨k + 1,m,rfl,hm1,hm2,'o',fun W k' hk' G _=>?_⟩;lia;exact q W k' 'o' G
def a9m:DSp:=fun ls Q=>∃ ms:List 'g',ls=[.d (.list (ms.map encT))]/\ms.length <= 600/\(∀ m ∈ ms,(encT m).canLay0=true)/\∀ tss',(ms.length < 64->tss'=Sx.srtT (gDX ms))->(∀ t ∈ tss',t ∈ gDX ms)->tss'.length=(gDX ms).length->Q (.d (.tuple (tss'.map encT))) [none]
abbrev a7a:Stmt:=top 13
def a6g:FnScope ["marks","parts","point","mark"] ["marks"] (a0h a7a):='f'
def b8u{f:Addr}{fd:FuncData} (F:FU K "parts_by" a7a f fd) (B:Bl mg):FO P w K mg base (n + 1) f fd ["marks"] a9m:=by
 refine F.dok a6g (fun cdv A outer s H E hr ls Qd h=>?_) (fun ls Qd h=>by obtain⟨_,e,_⟩:=h;rw [e];rfl);obtain⟨ms,rfl,hl,hc,q⟩:=h;refine⟨rfl,b5u,⟨_,a0o (a1z (i:=1) a6g.nd rfl 'e' b2n) (a0o (a6h PassesOwn.never rfl (b4i rfl B.enumerate_ (pv 0)) (b2w rfl (a4u (a2b (i:=2) a6g.nd rfl 'e') (a4u (a2b (i:=3) a6g.nd rfl 'e') b0u)))
  (a0z (a7g (a8t PySem.F.plainAttrs_list PySem.F.slot_list_append PySem.F.type_list_append a3u (e1b PySem.F.slot_dict_setdefault PySem.F.type_dict_setdefault (c3q hr.units80) (pv 1) (a0e (pv 3) (a0e (a8h a0j) a0j))) (a0e (pv 2) a0j)))))
  (a0z (a3l (a2l a0v rfl B.tuple_ a1k (a0e (a2o c7b rfl B.sorted_ b0g (a0e (a7h (own:=["part"]) (cap:=[]) rfl (by rfl) 'k' (d0i (pv 1)) (fun _ _ _=>a2b (i:=0) (show(["part"]:List Str).Nodup by decide +kernel) rfl 'e') (fun _ _ _=>a8k) (fun _ _ _=>a2l a0v rfl B.tuple_ a1k (a0e (pv 0) a0j))) a0j)) a0j))))),b9v⟩,?_⟩
 exact⟨ms,rfl,hl,hc,rfl,q⟩
section
variable{K:W.Frag}{a:Addr}{xs:List V}{g:TG}{tb:TS}{D:Ends}{σ:St}{H:Hp}
abbrev c3v(J:It)(g:TG)(tb:TS)(D:Ends)(σ:St)(H:Hp):Prop:=∃ W:Nat->Nat->St->Hp->Prop,(∃ m,W 0 m σ H)/\∀ i m σ H,W i m σ H ->
   (J.stop i H/\D.nx σ H) ∨ (J.go i H/\∃ N:St->Hp->Prop,(∀ σ' H',N σ' H'->∃ m',m' < m/\W (i + 1) m' σ' H')/\∀ x H',J.yld i H x H'->g x σ H' fun σ2 H2=>tb { D with nx:=N,ct:=N,bk:=D.nx } σ2 H2)
def d2m{J:It}{n:Nat}(Pv:Nat->St->Hp->Prop)(h0:Pv 0 σ H)(h1:∀ i σ H,i < n->Pv i σ H->J.go i H)(h2:∀ σ H,Pv n σ H->J.stop n H)
  (hs:∀ i x σ H H',i < n->Pv i σ H->J.yld i H x H'->g x σ H' fun σ2 H2=>tb { D with nx:=Pv (i + 1),ct:=Pv (i + 1),bk:=D.nx } σ2 H2) (hd:∀ σ H,Pv n σ H->D.nx σ H):c3v J g tb D σ H:=by
 refine⟨fun i m σ H=>m=n - i/\i <= n/\Pv i σ H,⟨n,by simp,zero_le _,h0⟩,?_⟩;rintro i m σ H ⟨rfl,hi,p⟩;by_cases hlt:i < n
 ·exact .inr ⟨h1 i σ H hlt p,Pv (i + 1),fun σ' H' p'=>⟨n - (i + 1),'o',rfl,hlt,p'⟩,fun x H' y=>hs i x σ H H' hlt p y⟩
 ·have e:i=n:=by omega
  subst e;exact .inl ⟨h2 σ H p,hd σ H p⟩
def b3z(Pv:Nat->St->Hp->Prop)(h0:Pv 0 σ H)(hl:∀ i σ H,Pv i σ H->SqT K H a xs)
  (hs:∀ i x σ H,xs[i]? = some x->Pv i σ H->g x σ H fun σ2 H2=>tb { D with nx:=Pv (i + 1),ct:=Pv (i + 1),bk:=D.nx } σ2 H2) (hd:∀ σ H,Pv xs.length σ H->D.nx σ H):c3v (Itt K a) g tb D σ H:=
 d2m Pv h0 (fun i σ H h p=>⟨xs,xs[i],hl i σ H p,getElem?_eq_getElem h⟩) (fun σ H p=>⟨xs,hl _ σ H p,le_refl _⟩) (fun i x σ H H' h p y=>by obtain⟨rfl,y⟩:=y;exact hs i x σ _ (y xs (hl i σ _ p)) p) hd
def d6n(Pv:Nat->St->Hp->Prop)(h0:Pv 0 σ H)(hl:∀ i σ H,Pv i σ H->SqL K H a xs)
  (hs:∀ i x σ H,xs[i]? = some x->Pv i σ H->g x σ H fun σ2 H2=>tb { D with nx:=Pv (i + 1),ct:=Pv (i + 1),bk:=D.nx } σ2 H2) (hd:∀ σ H,Pv xs.length σ H->D.nx σ H):c3v (Itl K a) g tb D σ H:=
 d2m Pv h0 (fun i σ H h p=>⟨xs,xs[i],hl i σ H p,getElem?_eq_getElem h⟩) (fun σ H p=>⟨xs,hl _ σ H p,le_refl _⟩) (fun i x σ H H' h p y=>by obtain⟨rfl,y⟩:=y;exact hs i x σ _ (y xs (hl i σ _ p)) p) hd
end
section
variable{H':Hp}{p:Addr}{o:HO}
def b2r{o0:HO}(hp:H' p=some o0)(nt:∀ ys,o0 ≠ .tup ys)(nf:∀ a b,o0 ≠ .frz a b):Keep (fun _=>False) H' (upd H' p o):=
 ⟨fun c ys h=>by rw [a0b (fun z=>by rw [z,hp] at h;cases h;exact nt _ rfl)];exact h,fun c a b h=>by rw [a0b (fun z=>by rw [z,hp] at h;cases h;exact nf _ _ rfl)];exact h,fun _ _ z=>z.elim⟩
end
def b7g{K:W.Frag}{a:Addr}{xs:List V}{σ:St}{H:Hp}{go:V->St->Hp->(St->Hp->Prop)->Prop}{done:St->Hp->Prop}(Pv:Nat->St->Hp->Prop)(h0:Pv 0 σ H)(hl:∀ i σ H,Pv i σ H->SqT K H a xs)
  (hs:∀ i x σ H,xs[i]? = some x->Pv i σ H->go x σ H (Pv (i + 1))) (hd:∀ σ H,Pv xs.length σ H->done σ H):b1c (Itt K a) σ H go done:=by
 refine⟨fun i m σ H=>m=xs.length - i/\i <= xs.length/\Pv i σ H,⟨xs.length,by simp,zero_le _,h0⟩,?_⟩;rintro i m σ H ⟨rfl,hi,p⟩;have q:=hl i σ H p;by_cases hlt:i < xs.length
 ·refine .inr ⟨⟨xs,xs[i],q,by simp [hlt]⟩,Pv (i + 1),fun σ' H' p'=>⟨xs.length - (i + 1),'o',rfl,hlt,p'⟩,fun x H' y=>?_⟩
  obtain⟨rfl,y⟩:=y;exact hs i x σ _ (y xs q) p
 ·have e:i=xs.length:=by omega
  subst e;exact .inl ⟨⟨xs,q,le_refl _⟩,hd σ H p⟩
def b2s{X:Cx}{K':W.Frag}{e:Expr}(t:W.Frag->TE)(h:PE X e (t X.K))(hk:X.K=K'):PE X e (t K'):=hk ▸ h
noncomputable def isB(ts:List 'g')(t:List Int)(n:Nat):Bool:=decide ((ts[n]?).map List.dropLast=some t)
noncomputable def bck(ts:List 'g')(m:Nat)(t:List Int):List Nat:=(List.range m).filter (isB ts t)
noncomputable def cI(ps:List Nat):List Int:=ps.map fun(c:Nat)=>(c:Int)
noncomputable def a5k(ts:List 'g'):List 'g':=ts.map fun t=>cI (bck ts ts.length t)
def c1n{ts:List 'g'}{m:Nat}{t u:List Int}(h:ts[m]? = some u):bck ts (m + 1) t=if u.dropLast=t then bck ts m t ++ [m] else bck ts m t:=by
 unfold bck;rw [List.range_succ,List.filter_append,List.filter_cons];have e:isB ts t m=decide (u.dropLast=t):=by unfold isB;rw [h];simp
 rw [e];by_cases c:u.dropLast=t
 ·rw [if_pos c,if_pos (decide_eq_true c)];rfl
 ·rw [if_neg c,if_neg (by simpa using c),List.filter_nil,append_nil]
structure MB(P:Program)(w:World)(K:W.Frag)(H:Hp)(p:Addr)(T:TGX)(H':Hp):Prop where
 dk:H' p=some (.ext (dxq P w p (kTX T)))
 ky:∀ t ∈ T,KOk K H' (encT t.1) t.2.1
 at_:∀ t ∈ T,H' t.2.2.1=some (.lst (nV t.2.2.2))/\H t.2.2.1=none/\t.2.2.1 ≠ p
 nq:(T.map (·.2.2.1)).Nodup
 nm:(T.map (·.1)).Nodup
 same:Same H H'
section
variable{P:Program}{w:World}{K:W.Frag}{H H' H1:Hp}{p q b:Addr}{T:TGX}{m:List Int}
def MB.dx(B:MB P w K H p T H')(s:Same H' H1):DX P w K H1 p (kTX T):=⟨s _ _ B.dk,fun x hx=>by
 obtain⟨t,ht,rfl⟩:=mem_map.mp hx;exact(B.ky t ht).keep s.keep⟩
def MB.up(B:MB P w K H p T H')(s:Same H' H1):MB P w K H p T H1:=⟨s _ _ B.dk,fun t ht=>(B.ky t ht).keep s.keep,fun t ht=>⟨s _ _ (B.at_ t ht).1,(B.at_ t ht).2⟩,B.nq,B.nm,fun c o h=>s _ _ (B.same _ _ h)⟩
def MB.app(B:MB P w K H p T H'){i:Nat}{t:List Int × Addr × Addr × List Nat}(ht:t ∈ T)(et:t.1=m):MB P w K H p (T.map (a1d m i)) (upd H' t.2.2.1 (.lst (nV (t.2.2.2 ++ [i])))):=by
 have k1:(T.map (a1d m i)).map (·.2.2.1)=T.map (·.2.2.1):=by rw [map_map];exact map_congr_left fun u _=>(a1w m i u).2.2
 have k2:(T.map (a1d m i)).map (·.1)=T.map (·.1):=by rw [map_map];exact map_congr_left fun u _=>(a1w m i u).1
 have k3:kTX (T.map (a1d m i))=kTX T:=by
  unfold kTX;rw [map_map];exact map_congr_left fun u _=>by show(encT (a1d m i u).1,(a1d m i u).2.1,V.ref (a1d m i u).2.2.1)=_;rw [(a1w m i u).1,(a1w m i u).2.1,(a1w m i u).2.2]
 have hl:=(B.at_ t ht).1;have kp:Keep (fun _=>False) H' (upd H' t.2.2.1 (.lst (nV (t.2.2.2 ++ [i])))):=⟨fun c ys h=>by rw [a0b (fun z=>by rw [z,hl] at h;cases h)];exact h,fun c o u h=>by rw [a0b (fun z=>by rw [z,hl] at h;cases h)];exact h,fun _ _ z=>z.elim⟩;refine⟨by rw [a0b (Ne.symm (B.at_ t ht).2.2),k3];exact B.dk,fun u hu=>?_,fun u hu=>?_,by rw [k1];exact B.nq,by rw [k2];exact B.nm,fun c o h=>?_⟩
 ·obtain⟨u0,hu0,rfl⟩:=mem_map.mp hu
  rw [(a1w m i u0).1,(a1w m i u0).2.1];exact(B.ky u0 hu0).keep kp
 ·obtain⟨u0,hu0,rfl⟩:=mem_map.mp hu
  obtain⟨a1,a2,a3⟩:=B.at_ u0 hu0;rw [(a1w m i u0).2.2];refine⟨?_,a2,a3⟩;by_cases e:u0.1=m
  ·have eu:u0=t:=a4y B.nm hu0 ht (e.trans et.symm)
   subst eu;rw [a0d];unfold a1d;rw [if_pos e]
  ·have nq:u0.2.2.1 ≠ t.2.2.1:=fun z=>e (by rw [a4y B.nq hu0 ht z];exact et)
   rw [a0b nq];unfold a1d;rw [if_neg e];exact a1
 ·rw [a0b (fun z=>by rw [z,(B.at_ t ht).2.1] at h;cases h)];exact B.same _ _ h
def MB.new(B:MB P w K H p T H')(hp:H p=none)(hb:KOk K H' (encT m) b)(hq:H' q=none)(hn:valX (kTX T) (encT m)=none) :
  MB P w K H p (T ++ [(m,b,q,[])]) (upd (upd H' q (.lst [])) p (.ext (dxq P w p (kTX T ++ [(encT m,b,.ref q)])))):=by
 have nn:=gfX.2 hn;have hq0:H q=none:=by cases e:H q with | none=>rfl | some o=>(rw [B.same _ _ e] at hq;cases hq)
 have qp:q ≠ p:=fun z=>by rw [z,B.dk] at hq;cases hq
 have nqt:∀ t ∈ T,t.2.2.1 ≠ q:=fun t ht z=>by have:=(B.at_ t ht).1;rw [z,hq] at this;cases this
 have kp:Keep (fun _=>False) H' (upd (upd H' q (.lst [])) p (.ext (dxq P w p (kTX T ++ [(encT m,b,.ref q)])))):=by
  have st:∀ c o,H' c=some o->(∀ φ,o ≠ .ext φ)->upd (upd H' q (.lst [])) p (.ext (dxq P w p (kTX T ++ [(encT m,b,.ref q)]))) c=some o:=fun c o h n=>by
   have n1:c ≠ q:=fun z=>by rw [z,hq] at h;cases h
   have n2:c ≠ p:=fun z=>by rw [z,B.dk] at h;cases h;exact n _ rfl
   rw [a0b n2,a0b n1];exact h
  exact⟨fun c ys h=>st _ _ h (fun _ z=>nomatch z),fun c o u h=>st _ _ h (fun _ z=>nomatch z),fun _ _ z=>z.elim⟩
 refine⟨?_,fun u hu=>?_,fun u hu=>?_,?_,?_,fun c o h=>?_⟩
 ·rw [a0d]
  unfold kTX;rw [map_append];rfl
 ·rcases mem_append.mp hu with h | h
  ·exact(B.ky u h).keep kp
  ·cases mem_singleton.mp h
   exact hb.keep kp
 ·rcases mem_append.mp hu with h | h
  ·obtain⟨a1,a2,a3⟩:=B.at_ u h
   exact⟨by rw [a0b a3,a0b (nqt u h)];exact a1,a2,a3⟩
  ·cases mem_singleton.mp h
   exact⟨by rw [a0b qp,a0d];rfl,hq0,qp⟩
 ·rw [map_append,nodup_append]
  refine⟨B.nq,by simp,fun x hx y hy z=>?_⟩;obtain⟨t,ht,rfl⟩:=mem_map.mp hx;have:y=q:=by simpa using hy
  exact nqt t ht (z.trans this)
 ·rw [map_append,nodup_append]
  refine⟨B.nm,by simp,fun x hx y hy z=>?_⟩;obtain⟨t,ht,rfl⟩:=mem_map.mp hx;have:y=m:=by simpa using hy
  exact nn t ht (z.trans this)
 ·have n1:c ≠ q:=fun z=>by rw [z,hq0] at h;cases h
  have n2:c ≠ p:=fun z=>by rw [z,hp] at h;cases h
  rw [a0b n2,a0b n1];exact B.same _ _ h
end
def b8v{t:List Int}:cutV (t.map V.int) none (some (-1))=t.dropLast.map V.int:=by
 unfold cutV;show((t.map V.int).drop 0).take (((if (-1:Int) < 0 then((-1:Int) + ((t.map V.int).length:Int)).toNat else min (-1:Int).toNat (t.map V.int).length):Nat) - 0)=_;rw [if_pos 'd',drop_zero,length_map,Nat.sub_zero,show((-1:Int) + (t.length:Int)).toNat=t.length - 1 by omega,List.dropLast_eq_take,List.map_take]
def b5w{t:List Int}(h:t ≠ []):¬ (HT.sIx (t.map V.int).length 0 none=0/\HT.sIx (t.map V.int).length (t.map V.int).length (some (-1))=(t.map V.int).length):=fun hq8=>by
 obtain⟨_,e⟩:=hq8;have hl:0 < t.length:=List.length_pos_iff.mpr h;rw [length_map] at e;have e2:((-1:Int) + (t.length:Int)).toNat=t.length:=e;omega
def b4u:DSp:=fun ls Q=>∃ ts:List 'g',ls=[.d (.list (ts.map encT))]/\ts.length <= 200/\ts.Nodup/\(∀ t ∈ ts,t ≠ [])/\Q (.d (.tuple ((a5k ts).map encT))) [none]
abbrev a2w:Stmt:=top 19
def a2q:FnScope ["ways","moves","way","number"] ["ways"] (a0h a2w):='f'
def d1b{f:Addr}{fd:FuncData} (F:FU K "moves_of_ways" a2w f fd) (B:Bl mg):FO P w K mg base (n + 1) f fd ["ways"] b4u:=by
 refine F.ok a2q (fun vs H Q E h=>?_) (fun cdv A outer s H vs Q E hr h=>?_)
 ·obtain⟨c,O,ls,Qd,h0,hP,hM,hA,hL,R,⟨ts,rfl,_⟩,fin⟩:=h
  have:=R.len;simpa using this
 obtain⟨c,O,ls,Qd,h0,hP,hM,hA,hL,R,⟨ts,rfl,hz,nd,hne,qd⟩,fin⟩:=h;have hl2:vs.length=1:=by simpa using R.len
 obtain⟨v0,rfl⟩:∃ v0,vs=[v0]:=by
  rcases vs with _ | ⟨a,_ | ⟨_,_⟩⟩<;>simp at hl2
  exact⟨a,rfl⟩
 obtain⟨w0,e0,a0⟩:=R.dat 0 _ rfl;obtain rfl:v0=w0:=Option.some.inj (Option.some.inj e0);obtain⟨wy,xs,rfl,_,hwy,axs⟩:=a2u a0;have lx:=axs.length;rw [length_map] at lx;have hu:(cxOf CX0 P w K mg base ["ways","moves","way","number"] "moves_of_ways" (a0h a2w) f cdv A outer s H E).nox.A.units + 80 < cLine:=by have:=hr.un;show(A.deeper _).units + 80 < cLine;omega
 have elt:∀ (i:Nat) x,xs[i]? = some x->∃ t b,ts[i]? = some t/\x=.ref b/\(∀ H',Same H H'->SqT K H' b (t.map V.int))/\∀ H',Same H H'->KOk K H' (encT t) b:=fun i x hx=>by
  have hi:i < ts.length:=by have:=(List.getElem?_eq_some_iff.mp hx).1;omega
  have ht:ts[i]? = some ts[i]:=getElem?_eq_getElem hi;obtain⟨x',ex,ax⟩:=axs.get (i:=i) (d:=encT ts[i]) (by rw [getElem?_map,ht];rfl);rw [hx] at ex;cases ex;have ax0:=ax;unfold AtD at ax;obtain⟨b,bs,rfl,sq,ab⟩:=ax;have eb:=ints_of_all ab;subst eb;exact⟨ts[i],b,ht,rfl,fun H' s=>(Same.keep (S:=Any) s).seqT sq,fun H' s=>⟨b8l _,by rw [PyData.canLay0];exact b3p _,fun _=>False,AtD.mono (S:=fun _=>False) s.keep _ _ (AtD.tups _ _ (a2e _) ax0)⟩⟩
 refine⟨_,(a0o (a1z (i:=1) a2q.nd rfl (Or.inr rfl) b2n)
  (a0o (a6h PassesOwn.never rfl (b3y (pv 0)) (a2b (i:=2) a2q.nd rfl 'e')
  (a0z (b6s (a8h a0j) (b6r (pv 1) (pv 2) (e0z hu)))))
  (a0o (a6h PassesOwn.never rfl (b4i rfl B.enumerate_ (pv 0)) (b2w rfl (a4u (a2b (i:=3) a2q.nd rfl 'e') (a4u (a2b (i:=2) a2q.nd rfl 'e') b0u)))
  (a0z (a6p (a4f (d5w hu) (b6w c4t (pv 2) c0m (c0n (b6f b2z a0t))) (pv 1) (by rfl))
  (a0z (a7g (a8t PySem.F.plainAttrs_list PySem.F.slot_list_append PySem.F.type_list_append a3u (a2i (d2e hu) (pv 1) (b6w c4t (pv 2) c0m (c0n (b6f b2z a0t))) 'i') (a0e (pv 3) a0j))))
  a4e)))
  (a0z (a3l (a2l a0v rfl B.tuple_ a1k (a0e (a7h (own:=["way"]) (cap:=[("moves",1)]) rfl (by rfl) 'k' (b3y (pv 0)) (fun _ _ _=>(a2b (i:=0) (show(["way","moves"]:List Str).Nodup by decide +kernel) rfl 'e')) (fun _ _ _=>a8k) (fun _ _ _=>b2s (K':=K) (fun K=>tCB (rTup K) (a3g (tOp (d2d P w K) (tVar 1) (tVar 0)) tNil)) (a2l a0v rfl B.tuple_ a1k (a0e (a2i (d2e hu) (pv 1) (pv 0) 'i') a0j)) rfl)) a0j))))))),?_⟩
 intro p hp;refine⟨_,rfl,wy,rfl,⟨_,SqL.of (by rw [a0b (a0u hwy hp)];exact hwy)⟩,?_⟩;refine d6n (xs:=xs) (fun i σ' H'=>∃ u2 T,σ'=[some (.ref wy),some (.ref p),u2,none]/\MB P w K H p T H'/\(T.map fun t=>(t.1,t.2.2.2))=(ts.take i).map fun t=>(t,[])) ⟨none,[],rfl,⟨a0d,(fun t ht=>nomatch ht),(fun t ht=>nomatch ht),.nil,.nil,a0f hp _⟩,rfl⟩ (fun i σ' H' h=>by obtain⟨_,_,_,M,_⟩:=h;exact SqL.of (M.same _ _ hwy)) ?_ ?_
 ·rintro i x σ' H1 hx ⟨u2,T,rfl,M,eT⟩
  obtain⟨t,b,ht,rfl,sq,ko⟩:=elt i x hx;have fs:T.map (·.1)=ts.take i:=by
   have:=congrArg (List.map Prod.fst) eT;rw [map_map,map_map] at this;exact this.trans (map_id _)
  have tn:t ∉ ts.take i:=fun hm=>by
   have h1:=nd.sublist (List.take_sublist (i + 1) ts);rw [take_add_one,ht,toList_some,nodup_append] at h1;exact h1.2.2 t hm t (mem_singleton.mpr rfl) rfl
  have hn:valX (kTX T) (encT t)=none:=by
   cases e:valX (kTX T) (encT t) with
   | none=>rfl
   | some v =>
    obtain⟨u,hu,eu,_⟩:=gfX.1 v e;exact absurd (by rw [← fs,← eu];exact List.mem_map_of_mem hu) tn
  have lT:T.length <= 200:=by
   have:=congrArg List.length fs;rw [length_map,length_take] at this;omega
  refine⟨(show(0:Nat) <= sizeLine by decide),fun q hq=>⟨_,rfl,_,rfl,p,b,kTX T,encT t,rfl,rfl,M.dx (a0f hq _),ko _ (fun c o h=>a0f hq _ _ _ (M.same _ _ h)),by unfold kTX;rw [length_map,sizeLine_eq];omega,?_⟩⟩;have px:putX (kTX T) (encT t) b (.ref q)=kTX T ++ [(encT t,b,.ref q)]:=by unfold putX;rw [hn];rfl
  rw [px];refine⟨_,_,rfl,M.new hp (ko _ M.same) hq hn,?_⟩;rw [take_add_one,ht,toList_some,map_append,map_append,eT];rfl
 ·rintro σ' H1 ⟨u2,T,rfl,M,eT⟩
  rw [lx,take_length] at eT;refine⟨_,rfl,wy,xs,rfl,SqL.of (M.same _ _ hwy),?_⟩;refine b8e (xs:=xs) (fun i σ' H'=>∃ u2 u3 T,σ'=[some (.ref wy),some (.ref p),u2,u3]/\MB P w K H p T H'/\(T.map fun t=>(t.1,t.2.2.2))=ts.map fun t=>(t,bck ts i t)) ⟨u2,none,T,rfl,M,eT⟩ (fun i σ' H' _ h=>by obtain⟨_,_,_,_,M,_⟩:=h;exact SqL.of (M.same _ _ hwy)) ?_ ?_
  ·rintro i x σ' H2 T0 hx ⟨u2,u3,T,rfl,M,eT⟩ hT0
   obtain⟨t,b,ht,rfl,sq,ko⟩:=elt i x hx;have tne:=hne t (mem_of_getElem? ht);refine⟨T0,_,rfl,SqT.of a0d,rfl,_,_,rfl,_,_,rfl,rfl,?_⟩;have s1:Same H2 (upd H2 T0 (.tup [.int i,.ref b])):=a0f hT0 _;have sq1:=sq _ (fun c o h=>s1 _ _ (M.same _ _ h));refine⟨_,rfl,1,rfl,-1,rfl,b,t.map V.int,rfl,sq1,b5w tne,fun c1 hc1=>?_⟩;rw [b8v];have s2:Same H2 (upd (upd H2 T0 (.tup [.int i,.ref b])) c1 (.tup (t.dropLast.map V.int))):=fun c o h=>a0f hc1 _ _ _ (s1 _ _ h);have k1:∀ (H5:Hp) c,H5 c=some (.tup (t.dropLast.map V.int))->KOk K H5 (encT t.dropLast) c:=fun H5 c h=>⟨b8l _,by rw [PyData.canLay0];exact b3p _,Any,a1q (SqT.of h) (a0a.ints _)⟩;refine⟨_,rfl,c1,p,kTX T,encT t.dropLast,rfl,rfl,M.dx s2,k1 _ _ a0d,_,rfl,?_⟩;cases e:valX (kTX T) (encT t.dropLast) with
   | none =>
    refine iteF ⟨_,_,T,rfl,M.up s2,?_⟩;rw [eT];refine map_congr_left fun u hu=>?_;rw [c1n ht,if_neg];intro z;have nn:=gfX.2 e;have fs:T.map (·.1)=ts:=by
     have:=congrArg (List.map Prod.fst) eT;rw [map_map,map_map] at this;exact this.trans (map_id _)
    rw [← fs] at hu;obtain⟨u0,hu0,e0⟩:=mem_map.mp hu;exact nn u0 hu0 (e0.trans z.symm)
   | some v =>
    obtain⟨u,hu,eu,rfl⟩:=gfX.1 v e;refine iteT ?_;have M2:=M.up s2;have sq2:=sq _ (fun c o h=>s2 _ _ (M.same _ _ h));refine⟨_,rfl,_,rfl,1,rfl,-1,rfl,b,t.map V.int,rfl,sq2,b5w tne,fun c2 hc2=>?_⟩;rw [b8v];have s3:=a0f hc2 (.tup (t.dropLast.map V.int));have M3:=M2.up s3;obtain⟨b1,b2,b3⟩:=M3.at_ u hu;have ul:u.2.2.2.length <= i:=by
     have hm:(u.1,u.2.2.2) ∈ ts.map fun t=>(t,bck ts i t):=by rw [← eT];exact mem_map.mpr ⟨u,hu,rfl⟩
     obtain⟨t',_,e'⟩:=mem_map.mp hm;have:u.2.2.2=bck ts i t':=(congrArg Prod.snd e').symm;rw [this];unfold bck;have:=List.length_filter_le (isB ts t') (List.range i)
     rwa [length_range] at this
    have il:i < 200:=by have:=(List.getElem?_eq_some_iff.mp ht).1;omega
    refine⟨p,c2,kTX T,encT t.dropLast,_,rfl,rfl,M3.dx (fun _ _ h=>h),k1 _ _ a0d,e,.inl ⟨rfl,_,SqL.of b1⟩,_,rfl,u.2.2.1,_,_,rfl,rfl,b1,by unfold nV;rw [length_map,sizeLine_eq];omega,?_⟩;rw [b4l];refine⟨_,_,_,rfl,M3.app (i:=i) hu eu,?_⟩;rw [map_map];have e3:(T.map ((fun t=>(t.1,t.2.2.2)) ∘ a1d t.dropLast i))=(T.map fun t=>(t.1,t.2.2.2)).map fun q=>if q.1=t.dropLast then(q.1,q.2 ++ [i]) else q:=by
     rw [map_map];refine map_congr_left fun u0 _=>?_;show((a1d t.dropLast i u0).1,(a1d t.dropLast i u0).2.2.2)=if u0.1=t.dropLast then(u0.1,u0.2.2.2 ++ [i]) else(u0.1,u0.2.2.2)
     unfold a1d;split<;>rfl
    rw [e3,eT,map_map];refine map_congr_left fun u0 _=>?_;show(if u0=t.dropLast then(u0,bck ts i u0 ++ [i]) else(u0,bck ts i u0))=(u0,bck ts (i + 1) u0);rw [c1n ht];by_cases c:u0=t.dropLast
    ·rw [if_pos c,if_pos c.symm]
    ·rw [if_neg c,if_neg (Ne.symm c)]
  ·rintro σ' H2 ⟨u2,u3,T,rfl,M,eT⟩
   rw [lx] at eT;have fs:T.map (·.1)=ts:=by
    have:=congrArg (List.map Prod.fst) eT;rw [map_map,map_map] at this;exact this.trans (map_id _)
   refine⟨_,rfl,wy,rfl,⟨_,SqL.of (M.same _ _ hwy)⟩,fun D0 hD0=>a6i (b5i (xs:=xs) (fun j σ2 H3=>∃ u ws,σ2=[u,some (.ref p)]/\Same H2 H3/\H3 D0=some (.lst ws)/\a0a K H3 (fun _=>False) (((a5k ts).take j).map encT) ws) ⟨none,[],rfl,a0f hD0 _,a0d,.nil⟩ (fun j σ2 H3 _ h=>by obtain⟨_,_,_,s,_⟩:=h;exact SqL.of (s _ _ (M.same _ _ hwy))) ?_ ?_)⟩
   ·rintro j x σ2 H3 hx ⟨u,ws,rfl,s23,hD,hw⟩
    obtain⟨t,b,ht,rfl,sq,ko⟩:=elt j x hx
    dsimp only [a2r,tYes]
    rw [if_pos rfl];have M3:=M.up s23;have tm:t ∈ T.map (·.1):=by rw [fs];exact mem_of_getElem? ht
    obtain⟨u0,hu0,e0⟩:=mem_map.mp tm;have ev:valX (kTX T) (encT t)=some (.ref u0.2.2.1):=by
     cases e:valX (kTX T) (encT t) with
     | none=>exact absurd e0 (gfX.2 e u0 hu0)
     | some v =>
      obtain⟨u1,hu1,e1,rfl⟩:=gfX.1 v e;rw [a4y M.nm hu1 hu0 (e1.trans e0.symm)]
    have jl:j < ts.length:=(List.getElem?_eq_some_iff.mp ht).1;obtain⟨a1,a2,a3⟩:=M3.at_ u0 hu0;refine⟨_,rfl,_,rfl,p,b,kTX T,encT t,_,rfl,rfl,M3.dx (fun _ _ h=>h),ko _ M3.same,ev,u0.2.2.1,_,rfl,.inl ⟨SqL.of a1,fun l hl=>⟨ws,by rw [a0b (a0u hD hl)];exact hD,?_,_,_,rfl,fun c o h=>?_,a0d,?_⟩⟩⟩
    ·rw [hw.length,length_map,length_take]
     unfold a5k;rw [length_map,sizeLine_eq];omega
    ·rw [a0b (fun z=>by rw [z,hD0] at h;cases h)]
     exact a0f hl _ _ _ (s23 _ _ h)
    ·have dl:D0 ≠ l:=a0u hD hl
     have hDl:upd H3 l (.tup (nV u0.2.2.2)) D0=some (.lst ws):=by rw [a0b dl];exact hD
     have kp:Keep (fun _=>False) H3 (upd (upd H3 l (.tup (nV u0.2.2.2))) D0 (.lst (ws ++ [.ref l]))):=(Same.keep (S:=fun _=>False) (a0f hl _)).trans (b2r hDl (fun _ z=>nomatch z) (fun _ _ z=>nomatch z));have em:(a5k ts)[j]? = some (cI u0.2.2.2):=by
      unfold a5k;rw [getElem?_map,ht];have hm:(u0.1,u0.2.2.2) ∈ ts.map fun t=>(t,bck ts ts.length t):=by rw [← eT];exact mem_map.mpr ⟨u0,hu0,rfl⟩
      obtain⟨t',_,e'⟩:=mem_map.mp hm;have e1:t'=t:=(congrArg Prod.fst e').trans e0;have e2:bck ts ts.length t'=u0.2.2.2:=congrArg Prod.snd e';rw [← e2,e1];rfl
     rw [take_add_one,em,toList_some,map_append];refine(a0a.mono kp _ _ hw).snoc ?_;show AtD _ _ _ (.tuple ((cI u0.2.2.2).map .int)) _;refine a1q (SqT.of (xs:=nV u0.2.2.2) (by rw [a0b (Ne.symm dl),a0d])) ?_;have en:nV u0.2.2.2=(cI u0.2.2.2).map V.int:=by unfold nV cI;rw [map_map];rfl
     rw [en];exact a0a.ints _
   ·rintro σ2 H3 ⟨u,ws,rfl,s23,hD,hw⟩
    have lm:(a5k ts).length=ts.length:=by unfold a5k;rw [length_map]
    rw [lx,← lm,take_length] at hw;refine⟨D0,_,rfl,.inl ⟨SqL.of hD,fun l hl=>?_⟩⟩;have sl:=a0f hl (.tup ws);have sH:Same H (upd H3 l (.tup ws)):=fun c o h=>sl _ _ (s23 _ _ (M.same _ _ h));exact fin (.d _) O _ _ _ _ qd ⟨R.grow sH,a1q (SqT.of a0d) (a0a.more (fun _ z=>z.elim) _ _ (a0a.mono sl.keep _ _ hw))⟩
structure Led where
 many:Nat
 ok:PyData->Prop
 ld:PyData->Nat->PyData
 key:∀ st,ok st->kd 8 st=true/\st.canLay0=true/\a0l st=true
 out:∀ st p,ok st->p < many->a0l (ld st p)=true
structure GOk(P:Program)(w:World)(K:W.Frag)(C:Addr)(wd:PyData)(L:Led)(H:Hp)(S:Addr->Prop)(g ds:Addr)(xs:List KX):Prop where
 ins:∃ dx fs vw,H g=some (.ins C dx fs)/\fs.lookup ("world" : Str)=some vw/\fs.lookup ("many" : Str)=some (.int L.many)/\fs.lookup ("steps" : Str)=some (.ref ds)/\fs.lookup ("leads" : Str)=none/\AtD K H Any wd vw
 dx:DX P w K H ds xs
 val:∀ x ∈ xs,L.ok x.1/\∃ p vs,x.2.2=.ref p/\S p/\H p=some (.lst vs)/\a0a K H Any ((List.range L.many).map fun q=>L.ld x.1 q) vs
 sg:S g
 sd:S ds
structure GTx(K:W.Frag)(C:Addr):Prop where
 cl:Cls K C
 n1:a2j K C "world"
 n2:a2j K C "many"
 n3:a2j K C "steps"
 n4:a2j K C "marks"
 n5:a2j K C "facts"
def a5v:∀ {ds:List PyData},(∀ d ∈ ds,a0l d=true)->a0q ds=true
 | [],_=>rfl
 | d :: ds,h=>by
  unfold a0q;rw [h d (mem_cons_self ..),a5v fun x hx=>h x (mem_cons_of_mem _ hx)];rfl
abbrev a7o:Stmt:=inClass (top 11) 0
def b8w:FnScope ["self","world","pair"] ["self","world"] (a0h a7o):='f'
def b8x(many:Nat)(okP:PyData->Prop)(mk:PyData->List PyData):DSp:=fun ls Q=>∃ parts,ls=[.d parts,.d (.int many)]/\okP parts/\Q (.new (mk parts)) [none,none]
noncomputable def pairF(p:Str × PyData):PyData:=.tuple [.str p.1,p.2]
noncomputable def wdOf(fa si:List (Str × PyData))(mo:List PyData):PyData:=.tuple [.tuple (fa.map pairF),.tuple mo,.tuple (si.map pairF)]
def MkF(K:W.Frag)(H:Hp)(S:Addr->Prop)(p:Key × V)(q:Str × List PyData):Prop:=p.1=.inr q.1/\a0q q.2=true/\∃ a vs,p.2=.ref a/\S a/\H a=some (.lst vs)/\a0a K H Any q.2 vs
def GMk(K:W.Frag)(C:Addr)(H:Hp)(S:Addr->Prop)(g:Addr)(ms:List (Str × List PyData)):Prop:=∃ dx fs dm kvs,H g=some (.ins C dx fs)/\fs.lookup ("marks" : Str)=some (.ref dm)/\S dm/\H dm=some (.dK kvs)/\Paired (MkF K H S) kvs ms
def GFa(K:W.Frag)(C:Addr)(H:Hp)(S:Addr->Prop)(g:Addr)(fa:List (Str × PyData)):Prop:=∃ dx fs df,∃ ps:List (Str × V),H g=some (.ins C dx fs)/\fs.lookup ("facts" : Str)=some (.ref df)/\S df/\H df=some (.dK (foldQ ps))/\Paired (fun(p:Str × V) (q:Str × PyData)=>p.1=q.1/\AtD K H Any q.2 p.2) ps fa
def b4v(P:Program)(w:World)(K:W.Frag)(C:Addr)(L:Led)(okP:PyData->Prop)(mk:PyData->List PyData):Sp:=fun vs H Q _=>∃ (g dx:Addr) (vw:V) (fa si:List (Str × PyData)) (mo:List PyData) (sa:Addr) (ns:List Int),vs=[.ref g,vw]/\H g=some (.ins C dx [])/\AtD K H Any (wdOf fa si mo) vw/\a0l (wdOf fa si mo)=true/\L.many=mo.length /\
 (si.map (·.1)).Nodup/\(∀ s ∈ si,okP s.2/\a0q (mk s.2)=true)/\L2.Scr K H sa (ns.map V.int)/\fa.length <= 1000/\si.length <= 1000 /\
 ∀ H' S ds,GOk P w K C (wdOf fa si mo) L H' S g ds []->GMk K C H' S g (si.map fun s=>(s.1,mk s.2))->GFa K C H' S g fa->(∀ a,S a->a=g ∨ H a=none)->(∀ c o,H c=some o->c ≠ g->H' c=some o)->Q .non H'
def pairs_at{K:W.Frag}{H:Hp}:∀ {fa:List (Str × PyData)} {ys:List V},a0a K H Any (fa.map pairF) ys->∃ ps:List (Str × V),ys.length=ps.length/\(∀ (i:Nat) y,ys[i]? = some y->∃ b p,ps[i]? = some p/\y=.ref b/\SqT K H b [.str p.1,p.2])/\Paired (fun(p:Str × V) (q:Str × PyData)=>p.1=q.1/\AtD K H Any q.2 p.2) ps fa
 | [],ys,h=>by
  rw [h.unnil];exact⟨[],rfl,(fun i y e=>by simp at e),.nil⟩
 | q :: fa,ys,h=>by
  rw [map_cons] at h;obtain⟨v,r,rfl,h1,h2⟩:=h.uncons;obtain⟨ps,l1,l2,l3⟩:=pairs_at h2;unfold pairF AtD at h1;obtain⟨b,xs,rfl,sq,ha⟩:=h1;obtain⟨x1,r1,rfl,a1,a2⟩:=ha.uncons;obtain⟨x2,r2,rfl,b1,b2⟩:=a2.uncons;have e0:=b2.unnil;subst e0;unfold AtD at a1;subst a1;refine⟨(q.1,x2) :: ps,by simp [l1],fun i y e=>?_,.cons ⟨rfl,b1⟩ l3⟩;cases i with
  | zero=>simp at e;subst e;exact⟨b,_,rfl,rfl,sq⟩
  | succ i=>exact l2 i y (by simpa using e)
def b2t:∀ {ds:List PyData} {d:PyData},a0q ds=true->d ∈ ds->a0l d=true
 | x :: ds,d,h,hm=>by
  unfold a0q at h;rw [and_eq_true] at h;rcases mem_cons.mp hm with rfl | hm
  ·exact h.1
  ·exact b2t h.2 hm
def a9n{α:Type}:∀ {l:List α} {i:Nat} {a:α},l[i]? = some a->l.take (i + 1)=l.take i ++ [a]
 | x :: l,0,a,h=>by simp at h;subst h;simp
 | x :: l,i + 1,a,h=>by
  rw [List.take_succ_cons,List.take_succ_cons,a9n (l:=l) (i:=i) (by simpa using h)];rfl
def b1z{α β:Type}{F:α->β->Prop}{a:α}{b:β}:∀ {xs:List α} {ys:List β},Paired F xs ys->F a b->Paired F (xs ++ [a]) (ys ++ [b])
 | _,_,.nil,h=>.cons h .nil
 | _,_,.cons r t,h=>.cons r (b1z t h)
def b3q{α β:Type}{F:α->β->Prop}:∀ {xs:List α} {ys:List β} {x:α},Paired F xs ys->x ∈ xs->∃ y ∈ ys,F x y
 | _,_,_,.nil,h=>nomatch h
 | _,_,_,.cons r t,h=>by
  rcases mem_cons.mp h with rfl | h
  ·exact⟨_,mem_cons_self ..,r⟩
  ·obtain⟨y,hy,f⟩:=b3q t h
   exact⟨y,mem_cons_of_mem _ hy,f⟩
def b3r{α β:Type}{F G:α->β->Prop}:∀ {xs:List α} {ys:List β},Paired F xs ys->(∀ x y,y ∈ ys->F x y->G x y)->Paired G xs ys
 | _,_,.nil,_=>.nil
 | _,_,.cons r t,h=>.cons (h _ _ (mem_cons_self ..) r) (b3r t fun x y hy=>h x y (mem_cons_of_mem _ hy))
def c3w{α β:Type}{f:α->β}{l:List α}{i:Nat}{s:α}(nd:(l.map f).Nodup)(h:l[i]? = some s):∀ s' ∈ l.take i,f s' ≠ f s:=fun s' hs' e=>by
 have h1:((l.take (i + 1)).map f).Nodup:=nd.sublist ((List.take_sublist _ _).map f);rw [a9n h,map_append,nodup_append] at h1;exact h1.2.2 (f s') (mem_map.mpr ⟨s',hs',rfl⟩) (f s) 'c' e
def a7x{f:Str}{v:V}{n:Nat}{fs:List (Str × V)}(h:fs.length < n):(putF f v fs).length < n + 1:=by
 have:=a8d f v fs;omega
def e1l{α:Type}{a b c:α}:atI [a,b,c] (1:Int)=some b:=a1j (j:=1) rfl
def c7r{α:Type}{a b c:α}:atI [a,b,c] (0:Int)=some a:=a1j (j:=0) rfl
def c7s{α:Type}{a b c:α}:atI [a,b,c] (2:Int)=some c:=a1j (j:=2) rfl
section
variable{P:Program}{w:World}{K:W.Frag}{mg:Str->Option Value}{base:Heap}{n:Nat}{C:Addr}{wd:PyData}{L:Led}{okP:PyData->Prop}{mk:PyData->List PyData}
def d1c{f f1:Addr}{fd fd1:FuncData}{s_marks:Stmt} (F:Fun K "__init__" "Ground.__init__" a7o f fd) (B:Bl mg) (T:GTx K C) (d_marks:Def K mg "marks_of" s_marks ["parts","many"] f1 fd1) (g_marks:FO P w K mg base n f1 fd1 ["parts","many"] (b8x L.many okP mk)) :
  FnOk P w K mg base CX0 (n + 1) f fd ["self","world"] (b4v P w K C L okP mk):=by
 refine F.ok b8w (fun vs H Q E h=>?_) (fun cdv A outer s H vs Q E hr h=>?_)
 ·obtain⟨g,dx,vw,fa,si,mo,sa,ns,rfl,_⟩:=h
  rfl
 obtain⟨g,dx,vw,fa,si,mo,sa,ns,rfl,hg,hw,tw,hm,nd,hsi,sc,l1,l2,q⟩:=h;refine⟨_,(a0o (a9w (pv 0) (pv 1) rfl)
  (a0o (a9w (pv 0) (a2o c5k rfl B.len_ a3n (a0e (a2i a3o (pv 1) a0t 'i') a0j)) rfl)
  (a0o (a9w (pv 0) c9u rfl)
  (a0o (a6h PassesOwn.never rfl (c5l (a2i a3o (pv 1) a0t 'i')) (a2b (i:=2) b8w.nd rfl 'e')
   (a0z (d4y (d1r hr) (b6u (pv 0) (by rfl)) (a2i a3o (pv 2) a0t 'i') (a4v d_marks g_marks hr rfl (a0e (a2i a3o (pv 2) a0t 'i') (a0e (b6u (pv 0) (by rfl)) a0j))) rfl)))
  (a0o (a9w (pv 0) (a2l (c3j rfl) rfl B.dict_ d3n (a0e (a2i a3o (pv 1) a0t 'i') a0j)) rfl)
  (a0z (a9w (pv 0) b2n rfl))))))),?_⟩
 have hw0:=hw;unfold wdOf AtD at hw;obtain⟨aw,xs,rfl,sq,ha⟩:=hw;obtain⟨v0,r0,rfl,a0,ha⟩:=ha.uncons;obtain⟨v1,r1,rfl,a1,ha⟩:=ha.uncons;obtain⟨v2,r2,rfl,a2,ha⟩:=ha.uncons;have e0:=ha.unnil;subst e0;have nt:∀ c o,H c=some o->(∀ x y z,o ≠ .ins x y z)->c ≠ g:=fun c o h n z=>by rw [z,hg] at h;cases h;exact n _ _ _ rfl
 have kp:∀ H',(∀ c o,H c=some o->c ≠ g->H' c=some o)->Keep (fun _=>False) H H':=fun H' f=>⟨fun c ys h=>f _ _ h (nt c _ h (fun _ _ _ z=>nomatch z)),fun c o u h=>f _ _ h (nt c _ h (fun _ _ _ z=>nomatch z)),fun _ _ z=>z.elim⟩;have tw':a0l (.tuple (fa.map pairF))=true/\a0l (.tuple mo)=true/\a0l (.tuple (si.map pairF))=true:=by
  unfold wdOf at tw;simpa [a0l,a0q] using tw
 have mv:∀ H',(∀ c o,H c=some o->c ≠ g->H' c=some o)->∀ d v,a0l d=true->AtD K H Any d v->AtD K H' Any d v:=fun H' f d v td h=>AtD.tups _ _ td (AtD.mono (kp H' f) _ _ (AtD.tups (S':=fun _=>False) _ _ td h));refine⟨_,rfl,_,rfl,g,C,dx,[],rfl,hg,T.cl,T.n1,'d',?_⟩;have f1:∀ fs,∀ c o,H c=some o->c ≠ g->upd H g (.ins C dx fs) c=some o:=fun fs c o h n=>by rw [a0b n];exact h
 -- many
 refine⟨_,rfl,Any,_,_,.tuple mo,.inl (mv _ (f1 _) _ _ tw hw0),rfl,e1l,fun u1 hu1=>?_⟩;refine⟨u1,Any,mo,rfl,.inl hu1,?_⟩;refine⟨_,rfl,g,C,dx,_,rfl,a0d,T.cl,T.n2,lt_of_lt_of_le (a7x (n:=1) 'd') 'd',?_⟩;rw [d2p]
 -- marks
 intro dm hdm;have gdm:dm ≠ g:=fun z=>by rw [z,a0d] at hdm;cases hdm
 have hdm0:H dm=none:=by rw [a0b gdm] at hdm;exact hdm
 refine⟨_,rfl,g,C,dx,_,rfl,by rw [a0b (Ne.symm gdm),a0d],T.cl,T.n4,lt_of_lt_of_le (a7x (n:=2) (a7x (n:=1) 'd')) 'd',?_⟩;rw [← hm];obtain⟨fs3,hfs3⟩:∃ fs,fs=putF "marks" (.ref dm) (putF "many" (.int (L.many:Int)) (putF "world" (.ref aw) [])):=⟨_,rfl⟩;rw [← hfs3];have lw:fs3.lookup ("world" : Str)=some (.ref aw):=by rw [hfs3,a0p,a0p,a0p];rfl
 have lm:fs3.lookup ("many" : Str)=some (.int (L.many:Int)):=by rw [hfs3,a0p,a0p];rfl
 have lk:fs3.lookup ("marks" : Str)=some (.ref dm):=by rw [hfs3,a0p];rfl
 have l3:fs3.length < 4:=by rw [hfs3];exact a7x (a7x (a7x 'd'))
 obtain⟨H3,hH3⟩:∃ H3,H3=upd (upd (upd H g (.ins C dx (putF "many" (.int (L.many:Int)) (putF "world" (.ref aw) [])))) dm (.dK [])) g (.ins C dx fs3):=⟨_,rfl⟩;rw [← hH3];have g3:H3 g=some (.ins C dx fs3):=by rw [hH3];exact a0d
 have d3:H3 dm=some (.dK []):=by rw [hH3,a0b gdm];exact a0d
 have f3:∀ c o,H c=some o->c ≠ g->H3 c=some o:=fun c o h n=>by
  have nd:c ≠ dm:=fun z=>by rw [z,hdm0] at h;cases h
  rw [hH3,a0b n,a0b nd,a0b n];exact h
 -- the sights
 refine⟨_,rfl,Any,_,_,.tuple (si.map pairF),.inl (mv _ f3 _ _ tw hw0),rfl,c7s,fun u2 hu2=>?_⟩;have hu2':=hu2;unfold AtD at hu2';obtain⟨b2,ys,rfl,sq2,at2⟩:=hu2';have ly:=at2.length;rw [length_map] at ly
 -- what stays through the loop
 have m3:∀ H',(∀ c o,H3 c=some o->c ≠ dm->H' c=some o)->Keep (fun _=>False) H3 H':=fun H' f=>⟨fun c zs h=>f _ _ h (fun z=>by rw [z,d3] at h;cases h),fun c o u h=>f _ _ h (fun z=>by rw [z,d3] at h;cases h),fun _ _ z=>z.elim⟩;refine .inl ⟨b2,rfl,⟨ys,sq2⟩,fun i m σ' H'=>m + i=si.length/\(∃ s2,σ'=[some (.ref g),some (.ref aw),s2])/\(∀ c o,H3 c=some o->c ≠ dm->H' c=some o)/\∃ kvs,H' dm=some (.dK kvs)/\kvs.length=i/\Paired (MkF K H' (fun a=>H a=none)) kvs ((si.take i).map fun s=>(s.1,mk s.2)),⟨si.length,rfl,⟨none,rfl⟩,fun c o h _=>h,[],d3,rfl,.nil⟩,?_⟩;rintro i m σ' H' ⟨hi,⟨s2,rfl⟩,fr,kvs,hk,lkv,pk⟩;have sq':SqT K H' b2 ys:=(m3 H' fr).seqT sq2;by_cases hin:i=si.length
 ·refine .inl ⟨⟨ys,sq','o'⟩,?_⟩
  have gh:H' g=some (.ins C dx fs3):=fr _ _ g3 (Ne.symm gdm);have fh:∀ c o,H c=some o->c ≠ g->H' c=some o:=fun c o h n=>fr _ _ (f3 _ _ h n) (fun z=>by rw [z,hdm0] at h;cases h);refine⟨_,rfl,Any,_,_,.tuple (fa.map pairF),.inl (mv _ fh _ _ tw hw0),rfl,c7r,fun u0 hu0=>?_⟩;unfold AtD at hu0;obtain⟨b0,zs,rfl,sq0,at0⟩:=hu0;obtain⟨ps,p1,p2,p3⟩:=pairs_at at0;have lz:=at0.length;rw [length_map] at lz;refine⟨b0,zs,ps,rfl,sq0,p1,p2,'o',fun df hdf=>?_⟩;have dfg:df ≠ g:=fun z=>by rw [z,gh] at hdf;cases hdf
  have dfm:df ≠ dm:=fun z=>by rw [z,hk] at hdf;cases hdf
  refine⟨_,rfl,g,C,dx,fs3,rfl,by rw [a0b (Ne.symm dfg)];exact gh,T.cl,T.n5,'o',?_⟩;intro ds hds;have dsg:ds ≠ g:=fun z=>by rw [z,a0d] at hds;cases hds
  rw [a0b dsg] at hds;have dsf:ds ≠ df:=fun z=>by rw [z,a0d] at hds;cases hds
  rw [a0b dsf] at hds;have dsm:ds ≠ dm:=fun z=>by rw [z,hk] at hds;cases hds
  have l4:=a7x (f:="facts") (v:=.ref df) l3;refine⟨_,rfl,g,C,dx,_,rfl,by rw [a0b (Ne.symm dsg),a0d],T.cl,T.n3,'o',?_⟩;obtain⟨fs5,hfs5⟩:∃ fs,fs=putF "steps" (.ref ds) (putF "facts" (.ref df) fs3):=⟨_,rfl⟩;rw [← hfs5];have y1:fs5.lookup ("world" : Str)=some (.ref aw):=by rw [hfs5,a0p,a0p];exact lw
  have y2:fs5.lookup ("many" : Str)=some (.int (L.many:Int)):=by rw [hfs5,a0p,a0p];exact lm
  have y3:fs5.lookup ("marks" : Str)=some (.ref dm):=by rw [hfs5,a0p,a0p];exact lk
  have y4:fs5.lookup ("facts" : Str)=some (.ref df):=by rw [hfs5,a0p,a0p];rfl
  have y5:fs5.lookup ("steps" : Str)=some (.ref ds):=by rw [hfs5,a0p];rfl
  have y6:fs5.lookup ("leads" : Str)=none:=by rw [hfs5,a0p,a0p,hfs3,a0p,a0p,a0p];rfl
  obtain⟨Hf,hHf⟩:∃ Hf,Hf=upd (upd (upd (upd H' df (.dK (foldQ ps))) g (.ins C dx (putF "facts" (.ref df) fs3))) ds (.ext (dxq P w ds []))) g (.ins C dx fs5):=⟨_,rfl⟩;have z1:Hf g=some (.ins C dx fs5):=by rw [hHf];exact a0d
  have z2:Hf ds=some (.ext (dxq P w ds [])):=by rw [hHf,a0b dsg];exact a0d
  have z3:Hf df=some (.dK (foldQ ps)):=by rw [hHf,a0b dfg,a0b (Ne.symm dsf),a0b dfg];exact a0d
  have z4:∀ c o,H' c=some o->c ≠ g->Hf c=some o:=fun c o h n=>by
   have n1:c ≠ ds:=fun z=>by rw [z,hds] at h;cases h
   have n2:c ≠ df:=fun z=>by rw [z,hdf] at h;cases h
   rw [hHf,a0b n,a0b n1,a0b n,a0b n2];exact h
  have z5:∀ c o,H c=some o->c ≠ g->Hf c=some o:=fun c o h n=>z4 _ _ (fh _ _ h n) n;have kf:Keep (fun _=>False) H' Hf:=⟨fun c ws h=>z4 _ _ h (fun z=>by rw [z,gh] at h;cases h),fun c o u h=>z4 _ _ h (fun z=>by rw [z,gh] at h;cases h),fun _ _ z=>z.elim⟩;have nn:∀ a,H' a=none->H a=none:=fun a h=>by
   cases e:H a with
   | none=>rfl
   | some o =>
    have n1:a ≠ g:=fun z=>by rw [z,gh] at h;cases h
    rw [fh _ _ e n1] at h;cases h
  have tf:∀ f ∈ fa,a0l f.2=true:=fun f hf=>by
   have:=b2t (show a0q (fa.map pairF)=true from by simpa [a0l] using tw'.1) (mem_map.mpr ⟨f,hf,rfl⟩);unfold pairF at this;simpa [a0l,a0q] using this
  have key:=q Hf (fun a=>a=g ∨ H a=none) ds ⟨⟨dx,fs5,_,z1,y1,y2,y5,y6,mv _ z5 _ _ tw hw0⟩,⟨z2,fun x hx=>nomatch hx⟩,(fun x hx=>nomatch hx),.inl rfl,.inr (nn _ hds)⟩
   ⟨dx,fs5,dm,kvs,z1,y3,.inr hdm0,z4 _ _ hk gdm,?_⟩ ⟨dx,fs5,df,ps,z1,y4,.inr (nn _ hdf),z3,?_⟩ (fun a h=>h) z5
  ·rw [hHf] at key
   exact key
  ·subst hin
   rw [take_length] at pk;refine Paired.mapP pk fun p' q' hpq=>?_;obtain⟨h1,h2,a,vs',h3,h4,h5,h6⟩:=hpq;exact⟨h1,h2,a,vs',h3,.inr h4,z4 _ _ h5 (fun z=>by rw [z,gh] at h5;cases h5),a0a.tups _ _ h2 (a0a.mono kf _ _ (a0a.tups (S':=fun _=>False) _ _ h2 h6))⟩
  ·exact b3r p3 fun p' q' hq' hpq=>⟨hpq.1,AtD.tups _ _ (tf q' hq') (AtD.mono kf _ _ (AtD.tups (S':=fun _=>False) _ _ (tf q' hq') hpq.2))⟩
 ·have his:i < si.length:=by omega
  have hyi:ys[i]? = some ys[i]:=getElem?_eq_getElem 'o';refine .inr ⟨⟨ys,_,sq',hyi⟩,fun σ' H'=>(∃ s2,σ'=[some (.ref g),some (.ref aw),s2])/\(∀ c o,H3 c=some o->c ≠ dm->H' c=some o)/\∃ kvs,H' dm=some (.dK kvs)/\kvs.length=i + 1/\Paired (MkF K H' (fun a=>H a=none)) kvs ((si.take (i + 1)).map fun s=>(s.1,mk s.2)),fun σ' H' h=>⟨m - 1,'o','o',h⟩,?_⟩;rintro y _ ⟨rfl,hy⟩;have ey:=hy ys sq';rw [hyi] at ey;cases ey;rename_i Hc;have hs0:si[i]? = some si[i]:=getElem?_eq_getElem his;obtain⟨s,hs⟩:∃ s,s=si[i]:=⟨_,rfl⟩;rw [← hs] at hs0;have sm:s ∈ si:=mem_of_getElem? hs0;have tp:a0l (pairF s)=true:=b2t (show a0q (si.map pairF)=true from by simpa [a0l] using tw'.2.2) (mem_map.mpr ⟨s,sm,rfl⟩);have ts:a0l s.2=true:=by
   unfold pairF at tp;simpa [a0l,a0q] using tp
  obtain⟨yv,ey,ap⟩:=at2.get (i:=i) (d:=pairF s) (by rw [getElem?_map,hs0];rfl);rw [hyi] at ey;cases ey;have mvc:∀ H',Keep (fun _=>False) H3 H'->∀ d v,a0l d=true->AtD K H3 Any d v->AtD K H' Any d v:=fun H' k d v td h=>AtD.tups _ _ td (AtD.mono k _ _ (AtD.tups (S':=fun _=>False) _ _ td h));have kc:=m3 Hc fr;have gc:Hc g=some (.ins C dx fs3):=fr _ _ g3 (Ne.symm gdm);have apc:=mvc Hc kc _ _ tp ap;refine⟨_,rfl,Any,[.str s.1,s.2],_,s.2,.inl apc,rfl,a1j (j:=1) rfl,fun u1 hu1=>?_⟩;refine⟨_,rfl,g,C,dx,fs3,_,rfl,gc,T.cl,T.n2,lm,?_⟩;have scc:L2.Scr K Hc sa (ns.map V.int):=⟨sc.1,sc.2.elim (fun hq8=>by obtain⟨o,h⟩:=hq8;exact .inl ⟨o,fr _ _ (f3 _ _ h (nt _ _ h (fun _ _ _ z=>nomatch z))) (fun z=>by rw [z,hdm0] at h;cases h)⟩) .inr⟩;refine b1i (E:=E0) (S:=fun _=>False) (ds:=[s.2,.int (L.many:Int)]) (Qd:=fun r _=>r=.new (mk s.2)) scc (.cons (AtD.tups _ _ ts hu1) (.cons (a1o _) (by unfold a0a;rfl))) ⟨s.2,rfl,(hsi s sm).1,rfl⟩ (fun r v H4 ρ' hr4 e4 ret=>?_);subst hr4;obtain⟨pn,vs,rfl,hpn,hp4,at4⟩:=ret;refine⟨_,rfl,g,C,dx,fs3,_,rfl,e4 _ _ gc,T.cl,T.n4,lk,?_⟩;have ap4:=AtD.mono (Same.keep e4) _ _ apc;refine⟨_,rfl,Any,[.str s.1,s.2],_,.str s.1,.inl ap4,rfl,a1j (j:=0) rfl,fun u0 hu0=>?_⟩;unfold AtD at hu0;subst hu0;have hk4:=e4 _ _ hk;refine⟨dm,_,rfl,DPut.k (k:=.inr s.1) hk4 (by rw [sizeLine_eq];omega),?_⟩;have nk:valV kvs (.inr s.1)=none:=by
   unfold valV;rw [Option.map_eq_none_iff,List.find?_eq_none];intro p' hp' hc;obtain⟨q',hq',hf⟩:=b3q pk hp';obtain⟨s',hs',rfl⟩:=mem_map.mp hq';have e1:p'.1=.inr s.1:=of_decide_eq_true hc;rw [hf.1] at e1;exact c3w (f:=fun s:Str × PyData=>s.1) nd hs0 s' hs' (Sum.inr.inj e1)
  rw [c9s _ nk];have pdm:pn ≠ dm:=fun z=>by rw [z,hk] at hpn;cases hpn
  have pH:H pn=none:=by
   cases e:H pn with
   | none=>rfl
   | some o =>
    have n1:pn ≠ g:=fun z=>by rw [z,gc] at hpn;cases hpn
    rw [fr _ _ (f3 _ _ e n1) pdm] at hpn;cases hpn
  have k5:Keep (fun _=>False) H4 (upd H4 dm (.dK (kvs ++ [(.inr s.1,.ref pn)]))):=⟨fun c zs h=>by rw [a0b (fun z=>by rw [z,hk4] at h;cases h)];exact h,fun c o u h=>by rw [a0b (fun z=>by rw [z,hk4] at h;cases h)];exact h,fun _ _ z=>z.elim⟩;have tA:∀ (ds:List PyData) (vs:List V) (S0:Addr->Prop),a0q ds=true->a0a K H4 S0 ds vs->a0a K (upd H4 dm (.dK (kvs ++ [(.inr s.1,.ref pn)]))) Any ds vs:=fun ds vs S0 td h=>a0a.tups _ _ td (a0a.mono k5 _ _ (a0a.tups (S':=fun _=>False) _ _ td h));refine⟨⟨_,rfl⟩,fun c o h n=>by rw [a0b n];exact e4 _ _ (fr _ _ h n),_,a0d,by rw [length_append,lkv];rfl,?_⟩;rw [a9n hs0,map_append];refine b1z (Paired.mapP pk fun p' q' hpq=>?_) ⟨rfl,(hsi s sm).2,pn,vs,rfl,pH,by rw [a0b pdm];exact hp4,tA _ _ _ (hsi s sm).2 at4⟩;obtain⟨h1,h2,a,vs',h3,h4,h5,h6⟩:=hpq;exact⟨h1,h2,a,vs',h3,h4,by rw [a0b (fun z=>by rw [z,hk] at h5;cases h5)];exact e4 _ _ h5,tA _ _ _ h2 (a0a.mono (Same.keep e4) _ _ h6)⟩
end
def b3s{xs:List (Str × PyData)}(h:∀ x ∈ xs,a0l x.2=true):a0l (.tuple (xs.map fun x=>PyData.tuple [.str x.1,x.2]))=true:=by
 unfold a0l;refine a5v fun d hd=>?_;obtain⟨x,hx,rfl⟩:=mem_map.mp hd;show a0q [.str x.1,x.2]=true;rw [a0q,a0q,h x hx];rfl
def b1n(ts:List 'g'):a0l (.tuple (ts.map encT))=true:=by
 unfold a0l;refine a5v fun d hd=>?_;obtain⟨x,_,rfl⟩:=mem_map.mp hd;exact a2e x
noncomputable def faOf(W:Wd):List (Str × PyData):=W.facts.map fun f=>(f.1,encT f.2)
noncomputable def siOf(W:Wd):List (Str × PyData):=W.sights.map fun s=>(s.1,.tuple (s.2.map encT))
def b8y(W:Wd):W.enc=wdOf (faOf W) (siOf W) (W.moves.map encT):=by
 unfold wdOf faOf siOf;rw [map_map,map_map];rfl
def a8q(W:Wd):a0l W.enc=true:=by
 have h1:a0l (.tuple (W.facts.map encF))=true:=by
  have:=b3s (xs:=faOf W) fun x hx=>by obtain⟨f,_,rfl⟩:=mem_map.mp hx;exact a2e _
  unfold faOf at this
  rwa [map_map] at this
 have h2:a0l (.tuple (W.sights.map encS))=true:=by
  have:=b3s (xs:=siOf W) fun x hx=>by obtain⟨f,_,rfl⟩:=mem_map.mp hx;exact b1n _
  unfold siOf at this
  rwa [map_map] at this
 show a0q [_,_,_]=true;rw [a0q,a0q,a0q,h1,h2,b1n];rfl
structure TxtF(K:W.Frag)(mg:Str->Option Value)(C:Addr):Prop where
 cl:Cls K C
 n1:a2j K C "world"
 n2:a2j K C "many"
 n3:a2j K C "steps"
 n4:a2j K C "marks"
 n5:a2j K C "facts"
 mgC:mg "Ground" = some (.ref C)
def TxtF.gtx{K:W.Frag}{mg:Str->Option Value}{C:Addr}(T:TxtF K mg C):GTx K C:=⟨T.cl,T.n1,T.n2,T.n3,T.n4,T.n5⟩
noncomputable def ledW(W:Wd):Led:=⟨W.many,fun _=>False,fun _ _=>.none,(fun _ h=>h.elim),fun _ _ h=>h.elim⟩
noncomputable def tsOf:PyData->List 'g'
 | .tuple ds=>ds.map Sx.dT
 | _=>[]
def d2n(tss:List 'g'):tsOf (.tuple (tss.map encT))=tss:=by
 show(tss.map encT).map Sx.dT=tss;rw [map_map];exact(map_congr_left fun t _=>Sx.b8j t).trans (map_id _)
def okPW(W:Wd)(parts:PyData):Prop:=∃ tss,parts=.tuple (tss.map encT)/\Parts W.many tss
noncomputable def mkW(W:Wd)(parts:PyData):List PyData:=(mks W.many (tsOf parts)).map .int
def c7t:∀ ns:List Int,a0q (ns.map .int)=true
 | []=>rfl
 | n :: r=>by rw [map_cons,a0q,c7t r];rfl
def d6o{P:Program}{w:World}{K:W.Frag}{mg:Str->Option Value}{base:Heap}{n:Nat}{f:Addr}{fd:FuncData}{W:Wd}(G:Good W) (g:FO P w K mg base n f fd ["parts","many"] b4s):FnOk P w K mg base CX0 n f fd ["parts","many"] (spD K (b8x (ledW W).many (okPW W) (mkW W))):=
 g.imp fun vs H Q E h=>by
  obtain⟨c,O,ls,Qd,h0,hP,hM,hA,hL,R,⟨parts,rfl,⟨tss,rfl,hp⟩,q⟩,fin⟩:=h;have m9:=G.m2;exact⟨c,O,_,Qd,h0,hP,hM,hA,hL,R,⟨tss,W.many,rfl,'o',hp,by unfold mkW at q;rwa [d2n] at q⟩,fin⟩
def c0b{W:Wd}(G:Good W):((siOf W).map (·.1)).Nodup:=by
 unfold siOf;rw [map_map];exact(show(["a","ab","b"]:List Str).Nodup by decide +kernel).sublist G.sn
def c1o{K:W.Frag}{H:Hp}{S:Addr->Prop}{W:Wd}(z:Str):∀ {ss:List (Str × List 'g')} {kvs:List (Key × V)},Paired (MkF K H S) kvs ((ss.map fun s=>(s.1,PyData.tuple (s.2.map encT))).map fun s=>(s.1,mkW W s.2)) ->
  match ss.find? (fun f=>decide (f.1=z)) with
  | some s=>∃ a,valV kvs (.inr z)=some (.ref a)/\H a=some (.lst ((mks W.many s.2).map V.int))
  | none=>valV kvs (.inr z)=none
 | [],kvs,h=>by cases h;rfl
 | s :: ss,kvs,h=>by
  rw [map_cons,map_cons] at h;cases h with
  | cons r t =>
   rename_i p ps;have ih:=c1o z t;obtain⟨h1,h2,a,vs,h3,h4,h5,h6⟩:=r;rw [find?_cons];by_cases c:s.1=z
   ·rw [decide_eq_true c]
    have ev:valV (p :: ps) (.inr z)=some p.2:=a9d (h1.trans (congrArg Sum.inr c));refine⟨a,by rw [ev,h3],?_⟩;rw [h5];unfold mkW at h6;rw [d2n] at h6;rw [ints_of_all h6]
   ·rw [decide_eq_false c]
    have ev:valV (p :: ps) (.inr z)=valV ps (.inr z):=a9e (fun e=>c (Sum.inr.inj (h1.symm.trans e)));rw [ev];exact ih
noncomputable def a4q(ts:List 'g')(ps:List Int)(i:Nat):Bool:=match ts[i]? with
 | some t=>decide (t.getLastD 0 ∈ ps)
 | none=>false
noncomputable def c3x(ts:List 'g')(ps:List Int)(m:Nat):List Int:=cI ((List.range m).filter (a4q ts ps))
noncomputable def factR(ts:List 'g')(f:Str × List Int):PyData:=encF (f.1,c3x ts f.2 ts.length)
noncomputable def mksT(tss:List 'g')(t:List Int):List Int:=t.map fun p=>(mkAt tss p.toNat:Int)
def c7u{X:Cx}{K':W.Frag}{es:List Expr}(t:W.Frag->TT)(h:PIf X es (t X.K))(hk:X.K=K'):PIf X es (t K'):=hk ▸ h
def d1d{X:Cx}{K':W.Frag}{e:Expr}(t:W.Frag->TG)(h:PG X e (t X.K))(hk:X.K=K'):PG X e (t K'):=hk ▸ h
def c7v{K:W.Frag}{a:Addr}{xs:List V}{σ:St}{H:Hp}{go:V->St->Hp->(St->Hp->Prop)->Prop}{done:St->Hp->Prop}(Pv:Nat->St->Hp->Prop)(h0:Pv 0 σ H)(hl:∀ i σ H,Pv i σ H->SqL K H a xs)
  (hs:∀ i x σ H T,xs[i]? = some x->Pv i σ H->H T=none->go (.ref T) σ (upd H T (.tup [.int i,x])) (Pv (i + 1))) (hd:∀ σ H,Pv xs.length σ H->done σ H):b1c (Ite K a) σ H go done:=by
 refine⟨fun i m σ H=>m=xs.length - i/\i <= xs.length/\Pv i σ H,⟨xs.length,by simp,zero_le _,h0⟩,?_⟩;rintro i m σ H ⟨rfl,hi,p⟩;have q:=hl i σ H p;by_cases hlt:i < xs.length
 ·refine .inr ⟨⟨xs,xs[i],q,by simp [hlt]⟩,Pv (i + 1),fun σ' H' p'=>⟨xs.length - (i + 1),'o',rfl,hlt,p'⟩,fun x H' y=>?_⟩
  obtain⟨T,x',rfl,hT,rfl,y⟩:=y;exact hs i x' σ H T (y xs q) p hT
 ·have e:i=xs.length:=by omega
  subst e;exact .inl ⟨⟨xs,q,le_refl _⟩,hd σ H p⟩
def d6p{W:Wd}(G:GM W){fs:List Int}(hf:∀ x ∈ fs,0 <= x/\x < (W.many:Int))(nd:fs.Nodup):∀ d,(a0i W fs d).Nodup:=by
 have ln:∀ d,(lays W fs d).Nodup:=fun d=>by
  induction d with
  | zero=>exact pairwise_map.mpr (nd.imp fun h e=>h (by simpa using e))
  | succ d ih =>
   show(nxt W (lays W fs d)).Nodup;unfold nxt;refine List.pairwise_flatMap.mpr ⟨fun t ht=>?_,ih.imp_of_mem fun{a b} ha hb hne x hx y hy e=>?_⟩
   ·have hw:=(a4h G hf d t ht).1
    have lr:=hw.rg _ hw.last;have hi:(t.getLastD 0).toNat < W.moves.length:=by rw [G.mv];omega
    rw [getD_eq_getElem?_getD,getElem?_eq_getElem hi];exact pairwise_map.mpr ((G.mr _ (getElem_mem hi)).2.2.imp fun h e=>by
     have:=List.append_cancel_left e;simp at this;omega)
   ·obtain⟨p,_,rfl⟩:=mem_map.mp hx
    obtain⟨q,_,e2⟩:=mem_map.mp hy;have:=congrArg List.dropLast (e.trans e2.symm);rw [List.dropLast_concat,List.dropLast_concat] at this;exact hne this
 intro d;induction d with
 | zero=>exact ln 0
 | succ d ih =>
  refine nodup_append.mpr ⟨ih,ln (d + 1),fun a ha b hb e=>?_⟩;have h1:=(a7n G hf ha).2;have h2:=(a4h G hf (d + 1) b hb).2;rw [e] at h1;omega
def b8z{K:W.Frag}{H:Hp}{S:Addr->Prop}{sa:Addr}{ns:List Int}{sp:DSpX}{ds:List PyData}{vs:List V}{Q:VK}{E:XK}{Qd:RV->Rho->Prop}{Xd:Addr->Prop}(sc:L2.Scr K H sa (ns.map V.int))(h:a0a K H S ds vs)(hs:sp (ds.map L.d) Qd Xd)
  (hq:∀ r v H' ρ',Qd r ρ'->Same H H'->Ret K H S H' r v->Q v H') (hx:∀ C H',Xd C->Same H H'->E (.ref C) none H'):spX K sp vs H Q E:=by
 refine⟨RcA H S sa ns,fun _=>none,ds.map L.d,Qd,Xd,rfl,fun p z=>z,fun p z=>z.elim,fun p z=>z,fun _=>rfl,b8i sc h,hs,fun r O' ρ' σ' v H' q ro=>?_,fun C O' ρ' σ' H' q R'=>hx C H' q fun b o e=>R'.same b o (fun z=>z) e⟩;cases r with
 | d x=>exact hq _ v H' _ q (fun b o e=>ro.1.same b o (fun z=>z) e) (AtD.more (fun a z=>z.1) _ _ ro.2)
 | new xs =>
  obtain⟨p,vs,rfl,R',fr,hp,ha⟩:=ro;refine hq _ _ H' _ q (fun b o e=>R'.same b o (fun z=>z) e) ⟨p,vs,rfl,?_,hp,?_⟩
  ·exact fr.1
  ·exact a0a.more (fun a z=>⟨z.1,(a3i z).2⟩) _ _ ha
def b9a(K:W.Frag)(TM:Addr):Sp:=fun vs H Q E=>∃ (W:Wd) (fs:List Int) (d:Nat) (v0 v1:V) (sa:Addr) (ns:List Int),vs=[v0,v1,.int (d:Int)]/\AtD K H Any W.enc v0/\AtD K H Any (encT fs) v1/\Good W/\(∀ x ∈ fs,0 <= x/\x < (W.many:Int))/\fs.Nodup/\fs.length <= 20/\d <= 12/\L2.Scr K H sa (ns.map V.int) /\
 ((a0i W fs d).length <= 200->∀ r vx wy refs H',Same H H'->H' r=some (.tup [vx,.ref wy])->H wy=none->H' wy=some (.lst refs)->a0a K H' (fun _=>False) ((a0i W fs d).map encT) refs->Q (.ref r) H')/\(200 < (a0i W fs d).length->∀ H',Same H H'->E (.ref TM) none H')
abbrev a5l:Stmt:=top 18
def a1y:FnScope ["world","firsts","days","ways","ground","facts","pair","sights","marks"] ["world","firsts","days"] (a0h a5l):='f'
section
variable{P:Program}{w:World}{K:W.Frag}{mg:Str->Option Value}{base:Heap}{n:Nat}{C:Addr}
def b6b{f f1 f2 f3 f4 TM:Addr}{fd fd1 fd2 fd3 fd4:FuncData} (F:FU K "remembered" a5l f fd) (B:Bl mg) (T:TxtF K mg C) (M:Mk K C f1) (b_init:Binds K fd1 ["self","world"] []) (g_init:∀ W,Good W->FnOk P w K mg base CX0 n f1 fd1 ["self","world"] (b4v P w K C (ledW W) (okPW W) (mkW W)))
  (d_ways_from:Def K mg "ways_from" a4o ["world","firsts","days"] f2 fd2) (g_ways_from:FnOk P w K mg base (CX1 P w) (n + 1) f2 fd2 ["world","firsts","days"] (spX K (b1m TM)))
  (d_parts_by:Def K mg "parts_by" a7a ["marks"] f3 fd3) (g_parts_by:FO P w K mg base (n + 1) f3 fd3 ["marks"] a9m)
  (d_moves_of_ways:Def K mg "moves_of_ways" a2w ["ways"] f4 fd4) (g_moves_of_ways:FO P w K mg base (n + 1) f4 fd4 ["ways"] b4u) :
  FnOk P w K mg base (CX1 P w) (n + 2) f fd ["world","firsts","days"] (b9a K TM):=by
 refine F.okX a1y (fun vs H Q E h=>?_) (fun cdv A outer s H vs Q E hr h=>?_)
 ·obtain⟨W,fs,d,v0,v1,sa,ns,rfl,_⟩:=h
  rfl
 obtain⟨W,fs,d,v0,v1,sa,ns,rfl,a0,a1,gW,hf,fnd,fl,hd,sc,q,qX⟩:=h;have m9:=gW.m2;obtain⟨ts,hts⟩:∃ ts,ts=a0i W fs d:=⟨_,rfl⟩;refine⟨_,(a0o (a1z (i:=3) a1y.nd rfl 'e' (c0k g_ways_from hr rfl d_ways_from.gl d_ways_from.fn.kp d_ways_from.bd .nil (pass1 c7e) (a0e (pv 0) (a0e (pv 1) (a0e (pv 2) a0j)))))
  (a0o (a1z (i:=4) a1y.nd rfl 'e' (d3a M (g_init W gW) hr rfl T.mgC b_init .nil d1q (a0e (pv 0) a0j)))
  (a0o (a1z (i:=5) a1y.nd rfl 'e' (a8h a0j))
  (a0o (a6h PassesOwn.leaving rfl (b6t (a2i a3o (pv 0) a0t 'i')) (a2b (i:=6) a1y.nd rfl (Or.inr rfl))
  (a0z (a7g (a8t PySem.F.plainAttrs_list PySem.F.slot_list_append PySem.F.type_list_append a3u (pv 5) (a0e (a7r (a0e (a2i a3o (pv 6) a0t 'i') (a0e (a2l a0v rfl B.tuple_ a1k (a0e (a7h (own:=["number","way"]) (cap:=[("pair",6)]) rfl (by rfl) 'k' (b4i rfl B.enumerate_ (pv 3))
   (fun _ _ _=>d1d (K':=K) (fun K=>gTup K 2 (b0t (a2r 0) (b0t (a2r 1) gNil))) (b2w rfl (a4u (a2b (i:=0) (show(["number","way","pair"]:List Str).Nodup by decide +kernel) rfl 'e') (a4u (a2b (i:=1) (show(["number","way","pair"]:List Str).Nodup by decide +kernel) rfl 'e') b0u))) rfl)
   (fun _ _ _=>c7u (K':=K) (fun K=>d1m (tOp (b7j K false) (tOp (rIxD K) (tVar 1) (tUn (rU fun i=>V.int (-i)) (tC (V.int 1)))) (tOp (rIxD K) (tVar 2) (tC (V.int 1))))) (c0q (a4f c8o (a2i a3o (pv 1) (b6f b2z a0t) 'i') (a2i a3o (pv 2) a0t 'i') (by rfl))) rfl)
   (fun _ _ _=>(pv 0))) a0j)) a0j))) a0j)))))
  (a0o (a1z (i:=7) a1y.nd rfl 'e' (a8h a0j))
  (a0o (a6h PassesOwn.leaving rfl (b6t (a2i a3o (pv 0) a0t 'i')) (a2b (i:=6) a1y.nd rfl (Or.inr rfl))
  (a0o (a1z (i:=8) a1y.nd rfl (Or.inr rfl) (d4x (d1r hr) (b6u (pv 4) (by rfl)) (a2i a3o (pv 6) a0t 'i') 'i'))
  (a0z (a7g (a8t PySem.F.plainAttrs_list PySem.F.slot_list_append PySem.F.type_list_append a3u (pv 7) (a0e (a7r (a0e (a2i a3o (pv 6) a0t 'i') (a0e (a4v d_parts_by g_parts_by hr rfl (a0e (a7h (own:=["way"]) (cap:=[("marks",8)]) rfl (by rfl) 'k' (b3y (pv 3)) (fun _ _ _=>(a2b (i:=0) (show(["way","marks"]:List Str).Nodup by decide +kernel) rfl 'e')) (fun _ _ _=>a8k)
   (fun _ _ _=>b2s (K':=K) (fun K2=>tCB (rTup K2) (a3g (b3f ["point"] [("marks",1)] (iTup K2 (tVar 0)) (a2r 0) tYes (tOp (rIxL K) (tVar 1) (tVar 0))) tNil)) (a2l a0v rfl B.tuple_ a1k (a0e (a7h (own:=["point"]) (cap:=[("marks",1)]) rfl (by rfl) 'k' (b6t (pv 0)) (fun _ _ _=>(a2b (i:=0) (show(["point","marks"]:List Str).Nodup by decide +kernel) rfl 'e')) (fun _ _ _=>a8k) (fun _ _ _=>b2s (K':=K) (fun K=>tOp (rIxL K) (tVar 1) (tVar 0)) (a2i a5n (pv 1) (pv 0) 'i') rfl)) a0j)) rfl)) a0j)) a0j))) a0j))))))
  (a0z (a3l (a7r (a0e (a7r (a0e (a2l a0v rfl B.tuple_ a1k (a0e (pv 5) a0j)) (a0e (a4v d_moves_of_ways g_moves_of_ways hr rfl (a0e (pv 3) a0j)) (a0e (a2l a0v rfl B.tuple_ a1k (a0e (pv 7) a0j)) a0j)))) (a0e (pv 3) a0j))))))))))),?_⟩
 refine⟨_,rfl,_,rfl,_,rfl,?_⟩;refine b8z (S:=fun _=>False) (ds:=[W.enc,encT fs,.int (d:Int)]) (Qd:=fun r _=>r=.new (ts.map encT)/\ts.length <= 200) (Xd:=fun C=>C=TM/\200 < ts.length) sc (.cons (AtD.tups _ _ (a8q W) a0) (.cons (AtD.tups _ _ (a2e fs) a1) (.cons (a1o _) (by unfold a0a;rfl)))) ⟨W,fs,d,rfl,gW.gm,hf,fl,hd,fun z=>⟨by rw [hts],by rw [hts];exact z⟩,fun z=>⟨rfl,by rw [hts];exact z⟩⟩ (fun r v H1 ρ' hr1 s1 ret=>?_) (fun C H1 hC s1=>by obtain⟨rfl,hC⟩:=hC;rw [hts] at hC;exact qX hC H1 s1);obtain⟨rfl,lt60⟩:=hr1;obtain⟨wy,refs,rfl,hwy0,hwy1,aw0⟩:=ret;have aw1:a0a K H1 (fun _=>False) (ts.map encT) refs:=a0a.tups _ _ (a5v fun x hx=>by obtain⟨t,_,rfl⟩:=mem_map.mp hx;exact a2e t) aw0;have lr:=aw1.length;rw [length_map] at lr;have wok:∀ t ∈ ts,WOk W t/\t.length <= 13:=fun t ht=>by
  rw [hts] at ht;have:=a7n gW.gm hf ht;exact⟨this.1,'o'⟩
 have elt:∀ (i:Nat) x,refs[i]? = some x->∃ t b,ts[i]? = some t/\x=.ref b/\∀ H',Same H1 H'->SqT K H' b (t.map V.int)/\AtD K H' Any (encT t) (.ref b):=fun i x hx=>by
  have hi:i < ts.length:=by have:=(List.getElem?_eq_some_iff.mp hx).1;omega
  have ht:ts[i]? = some ts[i]:=getElem?_eq_getElem hi;obtain⟨x',ex,ax⟩:=aw1.get (i:=i) (d:=encT ts[i]) (by rw [getElem?_map,ht];rfl);rw [hx] at ex;cases ex;have ax0:=ax;unfold AtD at ax;obtain⟨b,bs,rfl,sq,ab⟩:=ax;have eb:=ints_of_all ab;subst eb;exact⟨ts[i],b,ht,rfl,fun H' s=>⟨(Same.keep (S:=Any) s).seqT sq,AtD.tups _ _ (a2e _) (AtD.mono s.keep _ _ ax0)⟩⟩
 have a0':AtD K H1 Any W.enc v0:=AtD.mono s1.keep _ _ a0;refine⟨_,rfl,fun g dx hg hdx ne=>?_⟩;have sm0:Same H1 (upd (upd H1 dx (.own g)) g (.ins C dx [])):=fun b o h=>by rw [a0b (a0u h hg),a0b (a0u h hdx)];exact h
 have a0w:AtD K (upd (upd H1 dx (.own g)) g (.ins C dx [])) Any (wdOf (faOf W) (siOf W) (W.moves.map encT)) v0:=by rw [← b8y];exact AtD.mono sm0.keep _ _ a0'
 refine⟨g,dx,v0,faOf W,siOf W,W.moves.map encT,sa,ns,rfl,a0d,a0w,by rw [← b8y];exact a8q W,by rw [length_map];exact gW.mv.symm,c0b gW,fun s hs=>?_,sc.keep (S:=Any) (Same.keep fun b o h=>sm0 _ _ (s1 _ _ h)),?_,?_,fun H2 S ds G MK _ hS fr=>⟨rfl,?_⟩⟩
 ·obtain⟨q,hq,rfl⟩:=mem_map.mp hs
  exact⟨⟨_,rfl,gW.sr q hq⟩,c7t _⟩
 ·have:=gW.fn.length_le
  unfold faOf;rw [length_map];simp at this;omega
 ·have:=gW.sn.length_le
  unfold siOf;rw [length_map];simp at this;omega
 rw [← b8y] at G;obtain⟨dx',fs',vw,i1,i2,i3,i4,i0,i5⟩:=G.ins;obtain⟨dx2,fs2,dm,kvs,j1,j2,_,j4,j5⟩:=MK;rw [i1] at j1;cases j1;have s12:Same H1 H2:=fun b o h=>fr _ _ (sm0 _ _ h) (a0u h hg);have a2:AtD K H2 Any W.enc v0:=AtD.mono s12.keep _ _ a0';have wdt:=a8q W;have mvD:∀ {H3 H4:Hp} {d:PyData} {v:V},Keep (fun _=>False) H3 H4->a0l d=true->AtD K H3 Any d v->AtD K H4 Any d v:=fun k td h=>AtD.tups _ _ td (AtD.mono k _ _ (AtD.tups (S':=fun _=>False) _ _ td h));refine⟨(show(0:Nat) <= sizeLine by decide),fun fa hfa=>?_⟩
 -- the facts
 refine⟨_,rfl,Any,_,_,.tuple (W.facts.map encF),.inl (mvD (Same.keep (a0f hfa _)) wdt a2),rfl,c7r,fun u hu=>?_⟩;unfold AtD at hu;obtain⟨f0,ps,rfl,sqf,apf⟩:=hu;have lps:=apf.length;rw [length_map] at lps;have fl3:W.facts.length <= 3:=by have:=gW.fn.length_le;simpa using this
 refine⟨f0,rfl,⟨_,sqf⟩,?_⟩;have kpF:∀ H',Same H2 H'->Keep (fun _=>False) (upd H2 fa (.lst [])) H':=fun H' s=>⟨fun c ys h=>by
   have n1:c ≠ fa:=fun z=>by rw [z,a0d] at h;cases h
   rw [a0b n1] at h;exact s _ _ h,fun c a b h=>by
   have n1:c ≠ fa:=fun z=>by rw [z,a0d] at h;cases h
   rw [a0b n1] at h;exact s _ _ h,fun _ _ z=>z.elim⟩
 refine b3z (xs:=ps) (fun i σ' H'=>∃ u6,σ'=[some v0,some v1,some (.int (d:Int)),some (.ref wy),some (.ref g),some (.ref fa),u6,none,none]/\Same H2 H'/\∃ ws,H' fa=some (.lst ws)/\a0a K H' (fun _=>False) ((W.facts.take i).map (factR ts)) ws) ⟨none,rfl,a0f hfa _,[],a0d,.nil⟩ (fun i σ' H' h=>by obtain⟨_,_,s,_⟩:=h;exact(kpF H' s).seqT sqf) ?_ ?_
 ·rintro i x σ' H3 hx ⟨u6,rfl,s23,ws,fa3,aws⟩
  have hi:i < W.facts.length:=by have:=(List.getElem?_eq_some_iff.mp hx).1;omega
  obtain⟨f,hf0⟩:∃ f,W.facts[i]? = some f:=⟨_,getElem?_eq_getElem hi⟩;obtain⟨x',ex,ax⟩:=apf.get (i:=i) (d:=encF f) (by rw [getElem?_map,hf0];rfl);rw [hx] at ex;cases ex;have tf:a0l (encF f)=true:=by
   show a0q [.str f.1,encT f.2]=true;rw [a0q,a0q,a2e];rfl
  have ax3:=mvD (kpF H3 s23) tf ax;have s13:Same H1 H3:=fun b o h=>s23 _ _ (s12 _ _ h);have wy3:=s13 _ _ hwy1;refine⟨_,rfl,.inl ⟨rfl,_,SqL.of fa3⟩,_,rfl,Any,[.str f.1,encT f.2],_,.str f.1,.inl ax3,rfl,a1j (j:=0) rfl,fun u hu=>?_⟩;have eu:u=.str f.1:=by unfold AtD at hu;exact hu
  subst eu;refine⟨_,rfl,wy,refs,rfl,SqL.of wy3,fun D0 hD0=>a6i (c7v (xs:=refs) (fun j σ2 H4=>∃ u0 u1,σ2=[u0,u1,some x]/\Same H3 H4/\H4 D0=some (.lst (nV ((List.range j).filter (a4q ts f.2))))) ⟨none,none,rfl,a0f hD0 _,a0d⟩ (fun j σ2 H4 h=>by obtain⟨_,_,_,s,_⟩:=h;exact SqL.of (s _ _ wy3)) ?_ ?_)⟩
  ·rintro j y σ2 H4 T0 hy ⟨u0,u1,rfl,s34,hD4⟩ hT0
   obtain⟨t,b,ht,rfl,prop⟩:=elt j y hy;have hw0:=(wok t (mem_of_getElem? ht)).1;have s45:Same H4 (upd H4 T0 (.tup [.int j,.ref b])):=a0f hT0 _;have s15:Same H1 (upd H4 T0 (.tup [.int j,.ref b])):=fun c o h=>s45 _ _ (s34 _ _ (s13 _ _ h));refine⟨T0,_,rfl,SqT.of a0d,rfl,_,_,rfl,_,_,rfl,rfl,?_⟩;refine⟨_,rfl,1,rfl,Any,t.map .int,-1,.int (t.getLastD 0),.inl (prop _ s15).2,rfl,b0p hw0.ne,fun u1 hu1=>?_⟩;refine⟨_,rfl,Any,[.str f.1,encT f.2],1,encT f.2,.inl (AtD.mono (Same.keep fun c o h=>s45 _ _ (s34 _ _ h)) _ _ ax3),rfl,a1j (j:=1) rfl,fun u2 hu2=>?_⟩;refine ad_in Any _ _ _ _ _ _ _ (fun _ _=>trivial) hu1.top hu2.top (d0w (p:=t.getLastD 0) (t:=f.2)) fun v H5 s55 hv=>?_;unfold AtD at hv;subst hv;refine⟨_,rfl,?_⟩;have s35:Same H3 H5:=fun c o h=>s55 _ _ (s45 _ _ (s34 _ _ h));have hD5:=s55 _ _ (s45 _ _ hD4);have eL:a4q ts f.2 j=decide (t.getLastD 0 ∈ f.2):=by unfold a4q;rw [ht]
   have jl:j < ts.length:=(List.getElem?_eq_some_iff.mp ht).1;rw [List.range_succ,List.filter_append,List.filter_cons,eL,List.filter_nil];by_cases cm:t.getLastD 0 ∈ f.2
   ·rw [decide_eq_true cm]
    refine iteT ⟨_,rfl,_,hD5,?_,_,_,rfl,fun c o h=>?_,?_⟩
    ·unfold nV
     rw [length_map,sizeLine_eq];have:=List.length_filter_le (a4q ts f.2) (List.range j);rw [length_range] at this;omega
    ·rw [a0b (fun z=>by rw [z,hD0] at h;cases h)];exact s35 _ _ h
    ·rw [a0d,if_pos rfl,b4l]
   ·rw [decide_eq_false cm]
    refine iteF ⟨_,_,rfl,s35,?_⟩;rw [if_neg Bool.false_ne_true,append_nil];exact hD5
  ·rintro σ2 H4 ⟨u0,u1,rfl,s34,hD4⟩
   rw [lr] at hD4;refine⟨D0,_,rfl,.inl ⟨SqL.of hD4,fun l hl=>?_⟩⟩;refine⟨(show(2:Nat) <= sizeLine by decide),fun pr hpr=>?_⟩;have sl:=a0f hl (.tup (nV ((List.range ts.length).filter (a4q ts f.2))));have sp:=a0f hpr (.tup [.str f.1,.ref l]);have s3p:Same H3 (upd (upd H4 l (.tup (nV ((List.range ts.length).filter (a4q ts f.2))))) pr (.tup [.str f.1,.ref l])):=fun c o h=>sp _ _ (sl _ _ (s34 _ _ h));have fap:=s3p _ _ fa3;have lw:=aws.length;rw [length_map,length_take] at lw;refine⟨fa,_,_,rfl,rfl,fap,by rw [lw,sizeLine_eq];omega,_,rfl,fun c o h=>?_,_,a0d,?_⟩
   ·rw [a0b (fun z=>by rw [z,hfa] at h;cases h)];exact s3p _ _ (s23 _ _ h)
   ·have kp:Keep (fun _=>False) H3 (upd (upd (upd H4 l (.tup (nV ((List.range ts.length).filter (a4q ts f.2))))) pr (.tup [.str f.1,.ref l])) fa (.lst (ws ++ [.ref pr]))):=(Same.keep (S:=fun _=>False) s3p).trans (b2r fap (fun _ z=>nomatch z) (fun _ _ z=>nomatch z))
    rw [take_add_one,hf0,toList_some,map_append];refine(a0a.mono kp _ _ aws).snoc ?_;have prn:pr ≠ fa:=fun z=>by rw [z] at hpr;rw [sl _ _ (s34 _ _ fa3)] at hpr;cases hpr
    have ln:l ≠ fa:=fun z=>by rw [z] at hl;rw [s34 _ _ fa3] at hl;cases hl
    have lpr:l ≠ pr:=fun z=>by rw [← z,a0d] at hpr;cases hpr
    refine a1q (SqT.of (xs:=[.str f.1,.ref l]) (by rw [a0b prn,a0d])) (.cons (by unfold AtD;rfl) (.cons ?_ (by unfold a0a;rfl)));refine a1q (SqT.of (xs:=nV ((List.range ts.length).filter (a4q ts f.2))) (by rw [a0b ln,a0b lpr,a0d])) ?_;have en:nV ((List.range ts.length).filter (a4q ts f.2))=(c3x ts f.2 ts.length).map V.int:=by unfold nV c3x cI;rw [map_map];rfl
    rw [en];exact a0a.ints _
 rintro σ' H3 ⟨u6,rfl,s23,ws,fa3,aws⟩;rw [lps,take_length] at aws
 -- the sights
 refine⟨(show(0:Nat) <= sizeLine by decide),fun si hsi=>?_⟩;have a3:AtD K H3 Any W.enc v0:=mvD s23.keep wdt a2;refine⟨_,rfl,Any,_,_,.tuple (W.sights.map encS),.inl (mvD (Same.keep (a0f hsi _)) wdt a3),rfl,c7s,fun u hu=>?_⟩;unfold AtD at hu;obtain⟨s0,qs,rfl,sqs,aps⟩:=hu;have lqs:=aps.length;rw [length_map] at lqs;have sl3:W.sights.length <= 3:=by have:=gW.sn.length_le;simpa using this
 refine⟨s0,rfl,⟨_,sqs⟩,?_⟩;have kpS:∀ H',Same H3 H'->Keep (fun _=>False) (upd H3 si (.lst [])) H':=fun H' s=>⟨fun c ys h=>by
   have n1:c ≠ si:=fun z=>by rw [z,a0d] at h;cases h
   rw [a0b n1] at h;exact s _ _ h,fun c a b h=>by
   have n1:c ≠ si:=fun z=>by rw [z,a0d] at h;cases h
   rw [a0b n1] at h;exact s _ _ h,fun _ _ z=>z.elim⟩
 refine b3z (xs:=qs) (fun i σ' H'=>∃ u6 u8,σ'=[some v0,some v1,some (.int (d:Int)),some (.ref wy),some (.ref g),some (.ref fa),u6,some (.ref si),u8]/\Same H3 H'/\∃ ws,H' si=some (.lst ws)/\ws.length=i) ⟨u6,none,rfl,a0f hsi _,[],a0d,rfl⟩ (fun i σ' H' h=>by obtain⟨_,_,_,s,_⟩:=h;exact(kpS H' s).seqT sqs) ?_ ?_
 ·rintro i x σ' H4 hx ⟨u6,u8,rfl,s34,ws2,si4,aw2⟩
  have hi:i < W.sights.length:=by have:=(List.getElem?_eq_some_iff.mp hx).1;omega
  obtain⟨s,hs0⟩:∃ s,W.sights[i]? = some s:=⟨_,getElem?_eq_getElem hi⟩;obtain⟨x',ex,ax⟩:=aps.get (i:=i) (d:=encS s) (by rw [getElem?_map,hs0];rfl);rw [hx] at ex;cases ex;have tS:a0l (encS s)=true:=by
   show a0q [.str s.1,.tuple (s.2.map encT)]=true;rw [a0q,a0q,b1n];rfl
  have ax4:=mvD (kpS H4 s34) tS ax;have s24:Same H2 H4:=fun b o h=>s34 _ _ (s23 _ _ h);have s14:Same H1 H4:=fun b o h=>s24 _ _ (s12 _ _ h);have wy4:=s14 _ _ hwy1;have ps0:=gW.sr s (mem_of_getElem? hs0);have fnd:W.sights.find? (fun f=>decide (f.1=s.1))=some s:=by
   have nn:(W.sights.map (·.1)).Nodup:=(show(["a","ab","b"]:List Str).Nodup by decide +kernel).sublist gW.sn;cases e:W.sights.find? (fun f=>decide (f.1=s.1)) with
   | none =>
    rw [List.find?_eq_none] at e;exact absurd (decide_eq_true rfl) (e s (mem_of_getElem? hs0))
   | some s' =>
    have h1:=of_decide_eq_true (List.find?_some (p:=fun f:Str × List 'g'=>decide (f.1=s.1)) e);rw [a4y nn (List.mem_of_find?_eq_some e) (mem_of_getElem? hs0) h1]
  have lk:=c1o s.1 j5;rw [fnd] at lk;obtain⟨a,la,ha⟩:=lk;refine⟨_,rfl,g,C,dx',fs',_,rfl,s24 _ _ i1,T.cl,T.n4,j2,_,rfl,Any,[.str s.1,.tuple (s.2.map encT)],_,.str s.1,.inl ax4,rfl,a1j (j:=0) rfl,fun u hu=>?_⟩;have eu:u=.str s.1:=by unfold AtD at hu;exact hu
  subst eu;refine⟨dm,.ref a,rfl,by rw [← la];exact DGet.k (k:=.inr s.1) (s24 _ _ j4),?_⟩;refine⟨_,rfl,.inl ⟨rfl,_,SqL.of si4⟩,_,rfl,Any,[.str s.1,.tuple (s.2.map encT)],_,.str s.1,.inl ax4,rfl,a1j (j:=0) rfl,fun u hu=>?_⟩;have eu:u=.str s.1:=by unfold AtD at hu;exact hu
  subst eu;have a4:=s24 _ _ ha;refine⟨_,rfl,wy,rfl,⟨_,SqL.of wy4⟩,fun D0 hD0=>a6i (b5i (xs:=refs) (fun j σ2 H5=>∃ u0 vs,σ2=[u0,some (.ref a)]/\Same H4 H5/\H5 D0=some (.lst vs)/\a0a K H5 (fun _=>False) (((ts.take j).map (mksT s.2)).map encT) vs) ⟨none,[],rfl,a0f hD0 _,a0d,.nil⟩ (fun j σ2 H5 _ h=>by obtain⟨_,_,_,s,_⟩:=h;exact SqL.of (s _ _ wy4)) ?_ ?_)⟩
  ·rintro j y σ2 H5 hy ⟨u0,vs,rfl,s45,hD5,av⟩
   obtain⟨t,b,ht,rfl,prop⟩:=elt j y hy;obtain⟨tw,tl⟩:=wok t (mem_of_getElem? ht);have s15:Same H1 H5:=fun c o h=>s45 _ _ (s14 _ _ h)
   dsimp only [a2r,tYes]
   rw [if_pos rfl];have jl:j < ts.length:=(List.getElem?_eq_some_iff.mp ht).1;refine⟨_,rfl,b,rfl,⟨_,(prop _ s15).1⟩,fun D1 hD1=>a6i (b7g (xs:=t.map V.int) (fun m σ3 H6=>∃ u0,σ3=[u0,some (.ref a)]/\Same H5 H6/\H6 D1=some (.lst ((mksT s.2 (t.take m)).map V.int))) ⟨none,rfl,a0f hD1 _,a0d⟩ (fun m σ3 H6 h=>by obtain⟨_,_,s,_⟩:=h;exact(Same.keep (S:=Any) s).seqT (prop _ s15).1) ?_ ?_)⟩
   ·rintro m z σ3 H6 hz ⟨u0,rfl,s56,hD6⟩
    rw [getElem?_map] at hz;obtain⟨pt,hpt,rfl⟩:=map_eq_some_iff.mp hz;have pr:=tw.rg pt (mem_of_getElem? hpt);obtain⟨Y,rfl⟩:∃ Y:Nat,pt=(Y:Int):=⟨pt.toNat,'o'⟩
    dsimp only [a2r,tYes]
    rw [if_pos rfl];refine⟨_,rfl,_,rfl,a,_,(Y:Int),V.int (mkAt s.2 Y:Int),rfl,rfl,SqL.of (s56 _ _ (s45 _ _ a4)),a1j (j:=Y) ?_,_,hD6,?_,_,rfl,fun c o h=>?_,?_⟩
    ·unfold mks
     rw [map_map,getElem?_map,List.getElem?_range 'o'];rfl
    ·unfold mksT
     rw [length_map,length_map,length_take,sizeLine_eq];omega
    ·rw [a0b (fun z=>by rw [z,hD1] at h;cases h)];exact s56 _ _ h
    ·rw [a0d,take_add_one,hpt,toList_some]
     unfold mksT;rw [map_append,map_append];rfl
   ·rintro σ3 H6 ⟨u0,rfl,s56,hD6⟩
    rw [length_map,take_length] at hD6;refine⟨D1,_,rfl,.inl ⟨SqL.of hD6,fun l hl=>?_⟩⟩;have sl:=a0f hl (.tup ((mksT s.2 t).map V.int));have D06:=sl _ _ (s56 _ _ hD5);have lv:=av.length;rw [length_map,length_map,length_take] at lv;refine⟨vs,D06,by rw [lv,sizeLine_eq];omega,_,_,rfl,fun c o h=>?_,a0d,?_⟩
    ·rw [a0b (fun z=>by rw [z,hD0] at h;cases h)];exact sl _ _ (s56 _ _ (s45 _ _ h))
    ·have kp:Keep (fun _=>False) H5 (upd (upd H6 l (.tup ((mksT s.2 t).map V.int))) D0 (.lst (vs ++ [.ref l]))):=(Same.keep (S:=fun _=>False) (fun c o h=>sl _ _ (s56 _ _ h))).trans (b2r D06 (fun _ z=>nomatch z) (fun _ _ z=>nomatch z))
     rw [take_add_one,ht,toList_some,map_append,map_append];refine(a0a.mono kp _ _ av).snoc ?_;have ln:l ≠ D0:=fun z=>by rw [z] at hl;rw [s56 _ _ hD5] at hl;cases hl
     exact a1q (SqT.of (xs:=(mksT s.2 t).map V.int) (by rw [a0b ln,a0d])) (a0a.ints _)
  ·rintro σ2 H5 ⟨u0,vs,rfl,s45,hD5,av⟩
   rw [lr,take_length] at av;have s15:Same H H5:=fun c o h=>s45 _ _ (s14 _ _ (s1 _ _ h));refine b1i (E:=E0) (S:=fun a=>a=D0) (ds:=[.list ((ts.map (mksT s.2)).map encT)]) (Qd:=fun _ _=>True) (sc.keep (S:=Any) s15.keep) (.cons (a2c rfl hD5 (a0a.more (fun _ z=>z.elim) _ _ av)) (by unfold a0a;rfl)) ⟨_,rfl,by rw [length_map];omega,fun m _=>by rw [PyData.canLay0];exact b3p m,fun _ _ _ _=>trivial⟩ (fun r v H6 ρ' hr6 s56 ret=>?_);refine⟨(show(2:Nat) <= sizeLine by decide),fun pr hpr=>?_⟩;have sp:=a0f hpr (.tup [.str s.1,v]);have s4p:Same H4 (upd H6 pr (.tup [.str s.1,v])):=fun c o h=>sp _ _ (s56 _ _ (s45 _ _ h));have sip:=s4p _ _ si4;refine⟨si,_,_,rfl,rfl,sip,by rw [aw2,sizeLine_eq];omega,_,_,rfl,fun c o h=>?_,_,a0d,by rw [length_append,aw2];rfl⟩;rw [a0b (fun z=>by rw [z,hsi] at h;cases h)];exact s4p _ _ (s34 _ _ h)
 rintro σ' H4 ⟨u6,u8,rfl,s34,ws2,si4,aw2⟩;rw [lqs] at aw2;have fa4:=s34 _ _ fa3;have s14:Same H1 H4:=fun b o h=>s34 _ _ (s23 _ _ (s12 _ _ h));refine⟨_,rfl,fa,_,rfl,.inl ⟨SqL.of fa4,fun l1 hl1=>?_⟩⟩;have t1:=a0f hl1 (.tup ws);have s15:Same H1 (upd H4 l1 (.tup ws)):=fun b o h=>t1 _ _ (s14 _ _ h);refine⟨_,rfl,?_⟩;refine b1i (E:=E0) (S:=fun a=>a=wy) (ds:=[.list (ts.map encT)]) (Qd:=fun r _=>r=.d (.tuple ((a5k ts).map encT))) (sc.keep (S:=Any) (Same.keep fun b o h=>s15 _ _ (s1 _ _ h))) (.cons (a2c rfl (s15 _ _ hwy1) (a0a.more (fun _ z=>z.elim) _ _ (a0a.mono s15.keep _ _ aw1))) (by unfold a0a;rfl)) ⟨_,rfl,lt60,by rw [hts];exact d6p gW.gm hf fnd d,fun t ht=>(wok t ht).1.ne,rfl⟩ (fun r v H5 ρ' hr5 s45 ret=>?_);subst hr5;have ret':AtD K H5 (fun _=>False) (.tuple ((a5k ts).map encT)) v:=AtD.tups _ _ (b1n _) ret;have si5:=s45 _ _ (t1 _ _ si4);refine⟨_,rfl,si,_,rfl,.inl ⟨SqL.of si5,fun l2 hl2=>?_⟩⟩;have t2:=a0f hl2 (.tup ws2);refine⟨(show(3:Nat) <= sizeLine by decide),fun x hx=>?_⟩;have t3:=a0f hx (.tup [.ref l1,v,.ref l2]);refine⟨_,rfl,(show(2:Nat) <= sizeLine by decide),fun r hr=>?_⟩;have t4:=a0f hr (.tup [.ref x,.ref wy]);have c4:∀ c o,H4 c=some o->upd (upd (upd H5 l2 (.tup ws2)) x (.tup [.ref l1,v,.ref l2])) r (.tup [.ref x,.ref wy]) c=some o:=fun c o h=>t4 _ _ (t3 _ _ (t2 _ _ (s45 _ _ (t1 _ _ h))));rw [hts] at aw1;exact q (by rw [← hts];exact lt60) r _ wy refs _ (fun c o h=>c4 _ _ (s14 _ _ (s1 _ _ h))) a0d hwy0 (c4 _ _ (s14 _ _ hwy1)) (a0a.mono (Same.keep fun c o h=>c4 _ _ (s14 _ _ h)) _ _ aw1)
end
structure Ex31(K:W.Frag)(mg:Str->Option Value)(TM:Addr):Prop where
 ex:∃ (WE d1 d2 d3 d4 d5 d6:Addr) (bN bW:List Value),mg "TooMany" = some (.ref TM)/\mg "WorldError" = some (.ref WE)/\mg "NoChange" = some (.ref d1)/\mg "NoLine" = some (.ref d2)/\mg "NoPaper" = some (.ref d3)/\mg "NoPoint" = some (.ref d4)/\mg "NoText" = some (.ref d5)/\mg "NoTruth" = some (.ref d6)/\mg "ValueError" = none /\
  XCls K TM bN/\XCls K WE bW/\(Value.ref TM :: bN).contains (.ref WE)=true/\XOk K TM/\W.kitOne K (.ref TM) (.type "ValueError")=some true/\W.kitAny K (.ref TM) [.ref d1,.ref d2,.ref d3,.ref d4,.ref d5,.ref d6]=some false
def bt_VE:bootBuiltins "ValueError" = some (.type "ValueError"):=by decide +kernel
def b9b:DSp:=fun ls Q=>∃ (W:Wd) (fs:List Int) (d:Nat) (y:Int),ls=[.d W.enc,.d (encT fs),.d (.int (d:Int)),.d (.int y)]/\GM W/\(y ≠ 0->Good W/\fs.Nodup)/\(∀ x ∈ fs,0 <= x/\x < (W.many:Int))/\fs.length <= 20/\d <= 12/\((a0i W fs d).length <= 200->Q (.new ((a0i W fs d).map encT)) [none,none,none,none])/\(200 < (a0i W fs d).length->Q (.d .none) [none,none,none,none])
def c7w{X:Cx}{K':W.Frag}{a:Expr}{ta:TE}(hk:X.K=K')(ha:PE X a ta)(he:∀ whole,isTrue a X.env whole=(do let v ← whole;standAt a.pos;holding [v] (truthy v))):PT X a (fun σ H Q=>ta σ H fun x H'=>∃ k,TruV K' x H' k/\Q k H'):=hk ▸ c8b ha he
def usS{α:Type}{us:List α}{n:Nat}(h:us.length=n + 1):∃ a r,us=a :: r/\r.length=n:=by
 cases us with
 | nil=>cases h
 | cons a r=>exact⟨a,r,rfl,Nat.succ.inj h⟩
def iteDT{p A B:Prop}[Decidable p](h:p)(a:A):if decide p=true then A else B:=by rw [decide_eq_true h];exact iteT a
def iteDF{p A B:Prop}[Decidable p](h:¬ p)(b:B):if decide p=true then A else B:=by rw [decide_eq_false h];exact iteF b
abbrev a7b:Stmt:=top 30
def a4r:FnScope ["_law_world_here","_law_firsts_here","_law_days","_law_way","_law_told_here","e","_law_others"] ["_law_world_here","_law_firsts_here","_law_days","_law_way"] (a0h a7b):='f'
def d6q{f f1 f2 TM:Addr}{fd fd1 fd2:FuncData} (F:FU K "_law_told" a7b f fd) (B:Bl mg) (xx:Ex31 K mg TM) (d_ways_from:Def K mg "ways_from" a4o ["world","firsts","days"] f1 fd1) (g_ways_from:FnOk P w K mg base (CX1 P w) n f1 fd1 ["world","firsts","days"] (spX K (b1m TM)))
  (d_remembered:Def K mg "remembered" a5l ["world","firsts","days"] f2 fd2) (g_remembered:FnOk P w K mg base (CX1 P w) n f2 fd2 ["world","firsts","days"] (b9a K TM)):FO P w K mg base (n + 1) f fd ["_law_world_here","_law_firsts_here","_law_days","_law_way"] b9b:=by
 obtain⟨WE,d1,d2,d3,d4,d5,d6,bN,bW,mN,mW,m1,m2,m3,m4,m5,m6,mV,cN,cW,sub,xo,i2,i3⟩:=xx.ex;refine F.ok a4r (fun vs H Q E h=>?_) (fun cdv A outer s H vs Q E hr h=>?_)
 ·obtain⟨c,O,ls,Qd,_,_,_,_,_,R,⟨W,fs,d,y,rfl,_⟩,_⟩:=h
  have:=R.len;rw [length_map] at this;exact this
 obtain⟨c,O,ls,Qd,h0,hP,hM,hA,hL,R,⟨W,fs,d,y,rfl,G,hG,hf,fl,hd,q,qN⟩,fin⟩:=h;have hlv:vs.length=4:=by
  have:=R.len;rw [length_map] at this;exact this
 obtain⟨v0,v1,v2,v3,rfl⟩:∃ v0 v1 v2 v3,vs=[v0,v1,v2,v3]:=by
  obtain⟨v0,r0,rfl,h0⟩:=usS hlv;obtain⟨v1,r1,rfl,h1⟩:=usS h0;obtain⟨v2,r2,rfl,h2⟩:=usS h1;obtain⟨v3,r3,rfl,h3⟩:=usS h2;have:r3=[]:=List.length_eq_zero_iff.mp h3;subst this;exact⟨_,_,_,_,rfl⟩
 obtain⟨u0,e0,a0⟩:=R.dat 0 _ rfl;cases e0;obtain⟨u1,e1,a1⟩:=R.dat 1 _ rfl;cases e1;obtain⟨u2,e2,a2⟩:=R.dat 2 _ rfl;cases e2;obtain⟨u3,e3,a3⟩:=R.dat 3 _ rfl;cases e3;have ev2:v2=.int (d:Int):=by unfold AtD at a2;exact a2
 subst ev2;have ev3:v3=.int y:=by unfold AtD at a3;exact a3
 subst ev3;have hnew:∀ H',Same H H'->∀ wy refs,H wy=none->H' wy=some (.lst refs)->a0a K H' (fun _=>False) ((a0i W fs d).map encT) refs->(a0i W fs d).length <= 200->Q (.ref wy) H':=fun H' s wy refs h1 h2 h3 h4=>by
  have L:=(R.lay (o:=.lst refs) h1).1;have s2:Same (upd H wy (.lst refs)) H':=fun b o e=>by
   by_cases hb:b=wy
   ·subst hb
    rw [a0d] at e;cases e;exact h2
   ·rw [a0b hb] at e;exact s _ _ e
  have f0:=R.free0 h1;exact fin (.new ((a0i W fs d).map encT)) O _ _ _ H' (q h4) ⟨wy,refs,rfl,L.grow s2,⟨f0,fun z=>R.pin wy (.inr z) h1,fun z=>R.pin wy (.inl z) h1,fun j z=>by obtain⟨_,vs,e⟩:=R.has j wy z;rw [h1] at e;cases e⟩,h2,a0a.more (fun _ z=>z.elim) _ _ h3⟩
 have hE:∀ H',Same H H'->200 < (a0i W fs d).length->True:=fun _ _ _=>trivial;refine⟨_,a0o (a1z (i:=4) a4r.nd rfl 'e' c4k)
  (a0o (d6g (i:=4) (j:=5) (fun _ _ z=>z) (fun E=>d6i (fun _ _ z=>z) (a4f d1k (pv 3) a0t (a2a _)) (b8p (fun _ _ z=>z) g_ways_from hr rfl d_ways_from.gl d_ways_from.fn.kp d_ways_from.bd (a0e (pv 0) (a0e (pv 1) (a0e (pv 2) a0j))))
    (e1g (fun _ _ z=>z) b6x (b8p (fun _ _ z=>z) g_remembered hr rfl d_remembered.gl d_remembered.fn.kp d_remembered.bd (a0e (pv 0) (a0e (pv 1) (a0e (pv 2) a0j)))) a0t 'i')) rfl 'e'
   rfl rfl rfl a4r.nd rfl rfl 'e' rfl mW cW (fun a =>
    a0o (a1z (i:=6) a4r.nd rfl 'e' (a2o (r:=rIsX K) b2o rfl B.isinstance_ a6n (a0e (pv 5) (a0e (a7r (a0e (a4z (v:=.ref d1) rfl m1 rfl) (a0e (a4z (v:=.ref d2) rfl m2 rfl) (a0e (a4z (v:=.ref d3) rfl m3 rfl) (a0e (a4z (v:=.ref d4) rfl m4 rfl) (a0e (a4z (v:=.ref d5) rfl m5 rfl) (a0e (a4z (v:=.ref d6) rfl m6 rfl) a0j))))))) a0j))))
    (a0z (a6p (PW.pt (c4l (L2.a9s (a2o (r:=rIsX K) b2o rfl B.isinstance_ a6n (a0e (pv 5) (a0e (a4z (v:=.ref TM) rfl mN rfl) a0j))))
      (c4l (L2.a9s (a2o (r:=rIsX K) b2o rfl B.isinstance_ a6n (a0e (pv 5) (a0e (pe_ty rfl mV bt_VE) a0j))))
      (d2t (d6z (c7w (K':=K) rfl (pv 6) (fun _=>rfl)))))))
     (a0z (a1z (i:=4) a4r.nd rfl 'e' b6q)) a4e))))
  (a0z (a3l (pv 4)))),?_⟩
 refine⟨_,rfl,rfl,_,rfl,?_⟩;by_cases hy:y=0
 ·refine iteDT (by rw [hy]) ?_
  refine⟨_,rfl,_,rfl,_,rfl,?_⟩;refine b8z (S:=fun _=>False) (ds:=[W.enc,encT fs,.int (d:Int)]) (Qd:=fun r _=>r=.new ((a0i W fs d).map encT)/\(a0i W fs d).length <= 200) (Xd:=fun C=>C=TM/\200 < (a0i W fs d).length) R.sc (.cons (AtD.tups _ _ (a8q W) a0) (.cons (AtD.tups _ _ (a2e fs) a1) (.cons (a1o _) (by unfold a0a;rfl)))) ⟨W,fs,d,rfl,G,hf,fl,hd,fun z=>⟨rfl,z⟩,fun z=>⟨rfl,z⟩⟩ (fun r v H' ρ' hr1 s1 ret=>?_) (fun C H' hC e=>?_)
  ·obtain⟨rfl,hl⟩:=hr1
   obtain⟨wy,refs,rfl,hwy0,hwy1,aw0⟩:=ret;refine⟨_,rfl,?_⟩;exact hnew H' s1 wy refs hwy0 hwy1 (a0a.tups _ _ (a5v fun x hx=>by obtain⟨t,_,rfl⟩:=mem_map.mp hx;exact a2e t) aw0) hl
  ·obtain⟨rfl,hC⟩:=hC
   refine⟨_,bN,rfl,cN,sub,fun a ha=>?_⟩;have ea:=fun C0=>a0f ha (.ext (exq a C0));refine⟨.ref a,rfl,by show 6 <= sizeLine;rw [sizeLine_eq];omega,fun p' hp'=>?_⟩;have np:a ≠ p':=fun z=>by subst z;rw [a0d] at hp';cases hp'
   have ep:=a0f hp' (.tup [V.ref d1,V.ref d2,V.ref d3,V.ref d4,V.ref d5,V.ref d6]);have hxa:=ep _ _ a0d;refine⟨a,_,false,hxa,xo,?_,.inr (.inr ⟨p',[d1,d2,d3,d4,d5,d6],rfl,a0d,i3⟩)⟩;refine⟨.ref a,rfl,a,_,true,hxa,xo,⟨true,rfl,iteT ?_⟩,.inl ⟨_,rfl,if_pos 'c'⟩⟩;refine⟨.ref a,rfl,a,_,true,hxa,xo,⟨true,rfl,iteT ?_⟩,.inr (.inl ⟨"ValueError",rfl,i2⟩)⟩;refine⟨.bl false,rfl,false,rfl,iteT ?_⟩;refine⟨_,rfl,?_⟩;exact fin (.d .none) O _ _ _ _ (qN hC) ⟨R.grow ((e.trans (ea _)).trans ep),a5r⟩
 ·refine iteDF (fun z=>hy (V.int.inj z)) ?_
  refine⟨_,rfl,_,rfl,_,rfl,?_⟩;refine⟨W,fs,d,v0,v1,c.sa,c.ns,rfl,AtD.more (fun _ _=>trivial) _ _ a0,AtD.more (fun _ _=>trivial) _ _ a1,(hG hy).1,hf,(hG hy).2,fl,hd,R.sc,fun hl r vx wy refs H' s1 hr hwy0 hwy1 aw=>?_,fun hC H' e=>?_⟩
  ·refine⟨r,_,1,_,rfl,rfl,SqT.of hr,a1j (j:=1) rfl,_,rfl,?_⟩
   exact hnew H' s1 wy refs hwy0 hwy1 aw hl
  ·skip
   refine⟨_,bN,rfl,cN,sub,fun a ha=>?_⟩;have ea:=fun C0=>a0f ha (.ext (exq a C0));refine⟨.ref a,rfl,by show 6 <= sizeLine;rw [sizeLine_eq];omega,fun p' hp'=>?_⟩;have np:a ≠ p':=fun z=>by subst z;rw [a0d] at hp';cases hp'
   have ep:=a0f hp' (.tup [V.ref d1,V.ref d2,V.ref d3,V.ref d4,V.ref d5,V.ref d6]);have hxa:=ep _ _ a0d;refine⟨a,_,false,hxa,xo,?_,.inr (.inr ⟨p',[d1,d2,d3,d4,d5,d6],rfl,a0d,i3⟩)⟩;refine⟨.ref a,rfl,a,_,true,hxa,xo,⟨true,rfl,iteT ?_⟩,.inl ⟨_,rfl,if_pos 'c'⟩⟩;refine⟨.ref a,rfl,a,_,true,hxa,xo,⟨true,rfl,iteT ?_⟩,.inr (.inl ⟨"ValueError",rfl,i2⟩)⟩;refine⟨.bl false,rfl,false,rfl,iteT ?_⟩;refine⟨_,rfl,?_⟩;exact fin (.d .none) O _ _ _ _ (qN hC) ⟨R.grow ((e.trans (ea _)).trans ep),a5r⟩
noncomputable def c7x(K:W.Frag):List V->Hp->VK->Prop:=fun xs H Q=>∃ v S,∃ d:PyData,xs=[v]/\AtD K H S d v/\(∃ ds,d=.tuple ds ∨ d=.list ds)/\a6l d=true/\Q (.str d.shown) H
def c3y{X:Cx}(hg:X.A.guards=some [])(hu:X.A.units + 80 < cLine):a1r X (.builtin "repr") (c7x X.K):=by
 intro pins s σ H xs us Q I rs h;obtain⟨v,S,d,rfl,hd,⟨ds,hds⟩,hk,q⟩:=h;obtain⟨u,rfl,r⟩:=vals1 rs;obtain⟨as,rd⟩:=AtD.reads I _ v u hd r;obtain⟨a,rfl⟩:∃ a,v=.ref a:=by
  rcases hds with rfl | rfl
  ·obtain⟨a,_,e,_⟩:=a2g hd;exact⟨a,e⟩
  ·obtain⟨a,_,e,_⟩:=a2u hd;exact⟨a,e⟩
 cases r
 unfold a6l at hk;simp only [and_eq_true] at hk;obtain⟨⟨h1,h2⟩,h3⟩:=hk;have hl:=h1;unfold PyData.layable0 at h1;simp only [and_eq_true,decide_eq_true_eq] at h1;have hz:=PyProof.Rows.shown_le13 hl h2;refine repr_of_reads' rd h3 (PyData.noDict_hsm (PyData.hasDict_of_canLay _ h1.1.1)) hg 'o' (fun _ _ e=>e) (fun h' u tk hk=>?_) (by rw [sizeLine_eq];omega);exact⟨.str _,H,I.kept hk,⟨_,rfl⟩,q⟩
noncomputable def c7y(K:W.Frag):List V->Hp->VK->Prop:=fun xs H Q=>c7x K xs H Q ∨ (xs=[.non]/\Q (.str "None") H)
def a7c{X:Cx}(hg:X.A.guards=some [])(hu:X.A.units + 80 < cLine):a1r X (.builtin "repr") (c7y X.K):=by
 intro pins s σ H xs us Q I rs h;rcases h with h | h
 ·exact c3y hg hu pins s σ H xs us Q I rs h
 ·exact c3m hg hu pins s σ H xs us Q I rs (.inr h)
noncomputable def b9c:FC:=fun ds=>match ds with
 | [.list xs]=>if a6l (.list xs)=true then some (.str (PyData.list xs).shown) else none
 | _=>none
def b9d{K:W.Frag}:AdC K (c7y K) b9c:=by
 intro S H vs ds z Q f h e k;unfold b9c at e;split at e
 ·rename_i xs
  split at e
  ·rename_i hx
   cases e
   obtain⟨v,rfl,h1⟩:=h.one;exact .inl ⟨v,Any,.list xs,rfl,h1.any,⟨_,.inr rfl⟩,hx,k _ _ (Same.refl _) (b0y _)⟩
  ·cases e
 ·cases e
def neF{x y:V}{A B:Prop}(h:x=y)(hb:B):if (!decide (x=y))=true then A else B:=by rw [decide_eq_true h];exact iteF hb
def d6r{x:Int}(h0:0 <= x)(h1:x < 60):Lg 0 8 (.int x):=by
 have key:∀ n:Fin 60,(PyData.intsShort 13 (.int (n.val:Int)) && PyData.showable (.int (n.val:Int)) && decide (PyData.weight (.int (n.val:Int)) <= 8))=true:=by decide +kernel
 have k:=key ⟨x.toNat,'o'⟩;have e:((x.toNat:Nat):Int)=x:=by omega
 simp only [e,and_eq_true,decide_eq_true_eq] at k;exact⟨rfl,k.1.1,k.1.2,le_refl _,k.2⟩
def e1m{dp wt n:Nat}{xs:List PyData}(h:∀ x ∈ xs,Lg dp wt x)(hl:xs.length <= n):Lg (dp + 1) (n * (wt + 1)) (.list xs):=by
 obtain⟨a,b,c,d,e⟩:=b8t h;refine⟨by rw [PyData.canLay0];exact a,by rw [PyData.intsShort];exact b,by rw [PyData.showable];exact c,by rw [PyData.depth];omega,?_⟩;rw [PyData.weight];exact le_trans e (Nat.mul_le_mul_right _ hl)
def e1n{dp wt:Nat}{d:PyData}(h:Lg dp wt d)(h1:dp <= 64)(h2:wt <= 1000000):a6l d=true:=by
 unfold a6l PyData.layable0;have e:(2:Nat) ^ 20=1048576:=by decide
 have hd:=h.dep;have hw:=h.wgt;rw [h.can,h.sho,h.shw,decide_eq_true (show d.depth <= 64 by omega),decide_eq_true (show d.weight <= 2 ^ 20 by omega)];rfl
def lg_T6{m k:Nat}{t:List Int}(h:∀ x ∈ t,0 <= x/\x < (m:Int))(hm:m <= 60)(hl:t.length <= k):Lg 1 (k * 9) (encT t):=by
 refine e1k (fun x hx=>?_) (by rw [length_map];exact hl);obtain⟨y,hy,rfl⟩:=mem_map.mp hx;have:=h y hy;exact d6r this.1 'o'
def b9e{W:Wd}(G:GM W){ts:List 'g'}(ok:∀ t ∈ ts,WOk W t/\t.length <= 13)(hl:ts.length <= 200):a6l (.list (ts.map encT))=true:=by
 refine e1n (e1m (dp:=1) (wt:=117) (n:=200) (fun x hx=>?_) (by rw [length_map];exact hl)) 'o' 'o';obtain⟨t,ht,rfl⟩:=mem_map.mp hx;have m9:=G.m2;exact lg_T6 (m:=W.many) (k:=13) (ok t ht).1.rg 'o' (ok t ht).2
noncomputable def a2x:Wd:=⟨20,[],(List.range 20).map fun i=>[((i + 1) % 20:Nat)],[]⟩
def c1p:GM a2x:=⟨rfl,le_refl _,fun t ht=>by
 obtain⟨i,hi,rfl⟩:=mem_map.mp ht;refine⟨fun x hx=>?_,by show 1 <= 20;omega,pairwise_singleton _ _⟩;rw [mem_singleton.mp hx];show(0:Int) <= (((i + 1) % 20:Nat):Int)/\(((i + 1) % 20:Nat):Int) < ((20:Nat):Int);omega⟩
def b9f:∀ {ts:List 'g'},(∀ t ∈ ts,WOk a2x t)->(nxt a2x ts).length=ts.length
 | [],_=>rfl
 | t :: r,h=>by
  have hw:=h t (mem_cons_self ..);have lr:=hw.rg _ hw.last;have lr2:t.getLastD 0 < ((20:Nat):Int):=lr.2;have ih:=b9f (ts:=r) fun u hu=>h u (mem_cons_of_mem _ hu);have e:nxt a2x (t :: r)=((a2x.moves.getD (t.getLastD 0).toNat []).map fun p=>t ++ [p]) ++ nxt a2x r:=by unfold nxt;rw [List.flatMap_cons]
  have e2:a2x.moves.getD (t.getLastD 0).toNat []=[((((t.getLastD 0).toNat + 1) % 20:Nat):Int)]:=by
   unfold a2x;rw [getD_eq_getElem?_getD,getElem?_map,List.getElem?_range 'o'];rfl
  rw [e,length_append,length_map,ih,e2];show 1 + r.length=r.length + 1;omega
noncomputable def every:List Int:=(List.range 20).map fun i:Nat=>(i:Int)
def b9g:∀ x ∈ every,0 <= x/\x < (a2x.many:Int):=fun x hx=>by
 obtain⟨i,hi,rfl⟩:=mem_map.mp hx;have:=mem_range.mp hi;show(0:Int) <= (i:Int)/\(i:Int) < ((20:Nat):Int);omega
def b5x:∀ d,(lays a2x every d).length=20
 | 0=>rfl
 | d + 1=>by
  show(nxt a2x (lays a2x every d)).length=20;rw [b9f fun t ht=>(a4h c1p b9g d t ht).1,b5x d]
def b0r:∀ d,(a0i a2x every d).length=20 * (d + 1)
 | 0=>rfl
 | d + 1=>by
  show(a0i a2x every d ++ lays a2x every (d + 1)).length=_;rw [length_append,b0r d,b5x];omega
def neT{x y:V}{A B:Prop}(h:x ≠ y)(a:A):if (!decide (x=y))=true then A else B:=by rw [decide_eq_false h];exact iteT a
noncomputable def rgF:PyData->Option PyData
 | .int p=>some (.tuple [.int ((p + 1) % 20)])
 | _=>none
theorem e1o:(rngD 0 (Int.toNat 20)).filterMap rgF=a2x.moves.map encT:=by rfl
def d6s:∃ (RW:Wd) (ev:List Int),GM RW/\(∀ x ∈ ev,0 <= x/\x < (RW.many:Int))/\ev.length <= 20/\(a0i RW ev 9).length=200/\(a0i RW ev 10).length=220/\PyData.tuple [.tuple [],.tuple ((rngD 0 (Int.toNat 20)).filterMap rgF),.tuple []]=RW.enc/\PyData.tuple (rngD 0 (Int.toNat 20))=encT ev:=
 ⟨a2x,every,c1p,b9g,le_refl 20,(b0r 9).trans 'd',(b0r 10).trans 'd',by rw [e1o];rfl,rfl⟩
def d2o:TDS:=fun D ρ=>∃ (W:Wd) (fs:List Int) (d k:Nat) (y:Int) (v8 v9:Option L),ρ=[some .scr,some (.tape k),some (.d W.enc),some (.d (encT fs)),some (.d (.int (d:Int))),some (.d (wres W fs d)),some (.d (.int y)),none,v8,v9]/\Good W/\(∀ x ∈ fs,0 <= x/\x < (W.many:Int))/\fs.Nodup/\fs.length <= 20/\d <= 12/\D.nx ρ
def turnW{X:Cx}{st:List Stmt}(h:DSs X st d2o):DSs X st d2o:=h
abbrev a7d:Stmt:=top 31
def a4d:FnScope ["_law_script","_law_tape","_law_world_here","_law_firsts_here","_law_days","_law_due","_law_way","_law_found","_law_ring","_law_every"] ["_law_script"] (a0h a7d):='f'
def e1p{f f1 f2 f3 f4 f5:Addr}{fd fd1 fd2 fd3 fd4 fd5:FuncData} (F:FU K "law" a7d f fd) (B:Bl mg) (a0s:b1k K mg f1 fd1) (a1e:b1j P w K mg base n f1 fd1)
  (a4j:Def K mg "_law_drawn_world" a2z ["_law_tape"] f2 fd2) (b1p:FO P w K mg base n f2 fd2 ["_law_tape"] b4t)
  (a7y:Def K mg "_law_firsts" a5j ["_law_tape","_law_world_here"] f3 fd3) (b9h:FO P w K mg base n f3 fd3 ["_law_tape","_law_world_here"] b2q)
  (a7e:Def K mg "_law_ways" a6z ["_law_world_here","_law_firsts_here","_law_days"] f4 fd4) (b3t:FO P w K mg base n f4 fd4 ["_law_world_here","_law_firsts_here","_law_days"] b4r)
  (a5m:Def K mg "_law_told" a7b ["_law_world_here","_law_firsts_here","_law_days","_law_way"] f5 fd5) (a9o:FO P w K mg base n f5 fd5 ["_law_world_here","_law_firsts_here","_law_days","_law_way"] b9b):FnOk P w K mg base CX0 (n + 1) f fd ["_law_script"] (b6m K):=by
 refine F.law a4d (fun cdv A outer s H E hr=>?_);refine⟨_,_,rfl,a1z (i:=1) a4d.nd rfl 'e' (a8h (a0e (pv 0) (a0e a0t a0j))),_,(a0r (a2h (i:=2) a4d.nd rfl 'e' (a0y [true] a4j b1p hr rfl (a0c (dv 1) a0g)))
  (a0r (a2h (i:=3) a4d.nd rfl 'e' (a0y [true,false] a7y b9h hr rfl (a0c (dv 1) (a0c (dv 2) a0g))))
  (a0r (a5h PassesOwn.never rfl (a4b (a5f (a6k (a0c a0n (a0c a0n (a0c a0n (a0c a0n (a0c (a0y [true,false] a0s a1e hr rfl (a0c (dv 1) 'p')) 'p')))))))) (a1g (i:=4) a4d.nd rfl 'e')
  (a0r (a2h (i:=5) a4d.nd rfl 'e' (a0y [false,false,false] a7e b3t hr rfl (a0c (dv 2) (a0c (dv 3) (a0c (dv 4) a0g)))))
  (a1b (a5h PassesOwn.never rfl (a3e rfl B.range_ a0n) (a1g (i:=6) a4d.nd rfl 'e')
  (turnW ⟨_,(a0o (a1z (i:=7) a4d.nd rfl 'e' (a4v a5m a9o hr rfl (a0e (pv 2) (a0e (pv 3) (a0e (pv 4) (a0e (pv 6) a0j))))))
  (a0o (a6p (a4f d1l (a2o (a7c hr.gd hr.units80) rfl B.repr_ b0x (a0e (pv 7) a0j)) (a2o (a7c hr.gd hr.units80) rfl B.repr_ b0x (a0e (pv 5) a0j)) (a2a _))
  (a0z (a3l d1h)) a4e)
  (a0z (a6p (a4f d2v (pv 7) b6q (a2a _)) (a0z (a7g (a8t PySem.F.plainAttrs_list PySem.F.slot_list_append PySem.F.type_list_append a3u (pv 7) (a0e (a7r a0j) a0j)))) a4e)))),?blk⟩)))))
  (a0r (a2h (i:=8) a4d.nd rfl 'e' (a3a (a0c (a3a a0g) (a0c (a3y a0v a4w rfl B.tuple_ a1k (a0c (a5f (a7l ["_law_p"] [] rfl (by rfl) 'k' (a3e rfl B.range_ a0n) (fun _ _ _=>(a1g (i:=0) (show(["_law_p"]:List Str).Nodup by decide +kernel) rfl 'e')) (fun _ _ _=>a7k) (fun _ _ _=>(a3a (a0c (a5d a7p d7z (a5d a2v a5e (dv 0) a0n) a0n) a0g))))) a0g)) (a0c (a3a a0g) a0g)))))
  (a0r (a2h (i:=9) a4d.nd rfl 'e' (d5q rfl rfl B.range_ rfl B.tuple_ 'p'))
  (a0r (a2h (i:=5) a4d.nd rfl 'e' (a0y [false,false,false] a7e b3t hr rfl (a0c (dv 8) (a0c (dv 9) 'p'))))
  (a0r (b3i (DW.toT (dw_or (a3z (c6a hr.units) c5z (a2p a2m a6j rfl B.len_ a3n (a0c (dv 5) a0g)) a0n (a2a _)) (d8f (a3z (c6a hr.units) c5z (a2p (a7c hr.gd hr.units80) b9d rfl B.repr_ b0x (a0c (a0y [false,false,false,false] a5m a9o hr rfl (a0c (dv 8) (a0c (dv 9) (a0c a0n 'p')))) a0g)) (a2p (a7c hr.gd hr.units80) b9d rfl B.repr_ b0x (a0c (dv 5) a0g)) (a2a _)))))
  (a1b (a4a de_bl))
  a8o)
  (a1b (a4a (d7x d7d e0l (a0y [false,false,false,false] a5m a9o hr rfl (a0c (dv 8) (a0c (dv 9) (a0c a0n 'p')))) c5o (a2a _))))))))))),?_⟩
 case blk =>
  intro c O ρ σ H D Dd R E h;obtain⟨W,fs,d,k,y,v8,v9,rfl,G,hf,fnd,fl,hd,q⟩:=h;have hσ:σ.length=10:=R.len;obtain⟨x0,x1,x2,x3,x4,x5,x6,x7,x8,x9,rfl⟩:∃ x0 x1 x2 x3 x4 x5 x6 x7 x8 x9,σ=[x0,x1,x2,x3,x4,x5,x6,x7,x8,x9]:=by
   obtain⟨x0,r0,rfl,h0⟩:=usS hσ;obtain⟨x1,r1,rfl,h1⟩:=usS h0;obtain⟨x2,r2,rfl,h2⟩:=usS h1;obtain⟨x3,r3,rfl,h3⟩:=usS h2;obtain⟨x4,r4,rfl,h4⟩:=usS h3;obtain⟨x5,r5,rfl,h5⟩:=usS h4;obtain⟨x6,r6,rfl,h6⟩:=usS h5;obtain⟨x7,r7,rfl,h7⟩:=usS h6;obtain⟨x8,r8,rfl,h8⟩:=usS h7;obtain⟨x9,r9,rfl,h9⟩:=usS h8;have:r9=[]:=List.length_eq_zero_iff.mp h9;subst this;exact⟨_,_,_,_,_,_,_,_,_,_,rfl⟩
  obtain⟨v2,e2,a2⟩:=R.dat 2 _ rfl;obtain rfl:x2=some v2:=Option.some.inj e2;obtain⟨v3,e3,a3⟩:=R.dat 3 _ rfl;obtain rfl:x3=some v3:=Option.some.inj e3;obtain⟨v4,e4,a4⟩:=R.dat 4 _ rfl;obtain rfl:x4=some v4:=Option.some.inj e4;obtain⟨v5,e5,a5⟩:=R.dat 5 _ rfl;obtain rfl:x5=some v5:=Option.some.inj e5;obtain⟨v6,e6,a6⟩:=R.dat 6 _ rfl;obtain rfl:x6=some v6:=Option.some.inj e6;have wok:∀ t ∈ a0i W fs d,WOk W t/\t.length <= 13:=fun t ht=>⟨(a7n G.gm hf ht).1,by have:=(a7n G.gm hf ht).2;omega⟩;refine⟨_,rfl,_,rfl,_,rfl,_,rfl,?_⟩;refine b1i (E:=E0) (S:=fun _=>False) (ds:=[W.enc,encT fs,.int (d:Int),.int y]) (Qd:=fun r _=>(r=.new ((a0i W fs d).map encT)/\(a0i W fs d).length <= 200) ∨ (r=.d .none/\200 < (a0i W fs d).length)) R.sc (.cons (AtD.tups _ _ (a8q W) a2) (.cons (AtD.tups _ _ (a2e fs) a3) (.cons (AtD.tups _ _ rfl a4) (.cons (AtD.tups _ _ rfl a6) (by unfold a0a;rfl))))) ⟨W,fs,d,y,rfl,G.gm,fun _=>⟨G,fnd⟩,hf,fl,hd,fun z=>.inl ⟨rfl,z⟩,fun z=>.inr ⟨rfl,z⟩⟩ (fun r v H1 ρ' hr1 sH ret=>?_);have a5':AtD K H1 Any (wres W fs d) v5:=AtD.mono sH.keep _ _ (AtD.more (fun _ _=>trivial) _ _ a5);rcases hr1 with⟨rfl,hl⟩ | ⟨rfl,hl⟩
  ·obtain⟨wy,refs,rfl,hwy0,hwy1,aw0⟩:=ret
   have aw:a0a K H1 (fun _=>False) ((a0i W fs d).map encT) refs:=a0a.tups _ _ (a5v fun x hx=>by obtain⟨t,_,rfl⟩:=mem_map.mp hx;exact a2e t) aw0;rw [show wres W fs d=.list ((a0i W fs d).map encT) from if_pos hl] at a5';have rp:=b9e G.gm wok hl;have aw':AtD K H1 Any (.list ((a0i W fs d).map encT)) (.ref wy):=a2c trivial hwy1 (a0a.more (fun _ z=>z.elim) _ _ aw);have lw:=aw.length;rw [length_map] at lw;refine⟨_,rfl,.inl ⟨_,_,_,rfl,aw',⟨_,.inr rfl⟩,rp,_,rfl,.inl ⟨_,_,_,rfl,a5',⟨_,.inr rfl⟩,rp,rfl,_,rfl,neF rfl ?_⟩⟩⟩;refine⟨_,rfl,rfl,_,rfl,neT (fun z=>nomatch z) ?_⟩;refine⟨_,rfl,.inl ⟨rfl,_,SqL.of hwy1⟩,(show(0:Nat) <= sizeLine by decide),fun e0 he0=>⟨wy,_,_,rfl,rfl,(a0f he0 _) _ _ hwy1,by rw [lw,sizeLine_eq];omega,?_⟩⟩;have s8:Same H (upd (upd H1 e0 (.tup [])) wy (.lst (refs ++ [.ref e0]))):=(sH.trans (a0f he0 _)).out hwy0;exact E.nx O _ _ _ ((R.grow s8).poke rfl) (Pers.of s8.keep fun _ z=>z) q
  ·have ev:v=.non:=by unfold Ret at ret;unfold AtD at ret;exact ret
   rw [show wres W fs d=.none from if_neg 'o'] at a5';have e5':v5=.non:=by unfold AtD at a5';exact a5'
   subst ev;subst e5';refine⟨_,rfl,.inr ⟨rfl,_,rfl,.inr ⟨rfl,rfl,_,rfl,neF rfl ?_⟩⟩⟩;refine⟨_,rfl,rfl,_,rfl,neF rfl ?_⟩;exact E.nx O _ _ _ ((R.grow sH).poke rfl) (Pers.of sH.keep fun _ z=>z) q
 lia;refine⟨0,rfl,'o',fun W k0 hk0 G=>?_⟩;have m9:=G.m2;lia;refine⟨W,k0,rfl,G,'o',fun fs k1 hk1 hi hne=>?_⟩;have hf:=hi.1;have fnd:fs.Nodup:=hi.2.2.imp fun h=>by omega
 have fl:fs.length <= 20:=by have:=hi.2.1;omega
 lia;refine⟨k1,13,rfl,'o','o',fun m0 hm0 hm1=>?_⟩;obtain⟨m,rfl⟩:∃ m:Nat,m0=(m:Int):=⟨m0.toNat,'o'⟩;lia;refine a2y (fun i ρ=>∃ v4 v5 v6:Option L,ρ=[some .scr,some (.tape (k1 + 1)),some (.d W.enc),some (.d (encT fs)),v4,v5,v6,none,none,none]) ⟨none,none,none,rfl⟩ ?_ ?_
 ·rintro i u ρ N hu ⟨v4,v5,v6,rfl⟩ hN
  obtain⟨d,hd,rfl⟩:∃ d:Nat,d <= 12/\u=.int (d:Int):=by
   have:=mem_of_getElem? hu;simp only [mem_cons,not_mem_nil,or_false] at this;rcases this with rfl | rfl | rfl | rfl | rfl | rfl
   ·exact⟨0,'o',rfl⟩
   ·exact⟨1,'o',rfl⟩
   ·exact⟨2,'o',rfl⟩
   ·exact⟨3,'o',rfl⟩
   ·exact⟨m,'o',rfl⟩
   ·exact⟨12,'o',rfl⟩
  lia;refine⟨W,fs,d,rfl,G.gm,hf,fl,hd,?_⟩;lia;refine⟨⟨'d','d'⟩,?_⟩;refine a2y (fun j ρ=>∃ v6:Option L,ρ=[some .scr,some (.tape (k1 + 1)),some (.d W.enc),some (.d (encT fs)),some (.d (.int (d:Int))),some (.d (wres W fs d)),v6,none,none,none]) ⟨v6,rfl⟩ ?_ ?_
  ·rintro j u ρ N2 hu2 ⟨v6,rfl⟩ hN2
   obtain⟨hj,rfl⟩:=rngI hu2;lia;exact⟨W,fs,d,_,_,none,none,rfl,G,hf,fnd,fl,hd,hN2 _ ⟨_,rfl⟩⟩
  ·rintro ρ ⟨v6,rfl⟩
   exact hN _ ⟨_,_,_,rfl⟩
 rintro ρ ⟨v4,v5,v6,rfl⟩;lia;refine⟨⟨'d','d'⟩,by rw [a3q];decide,?_⟩;refine L2.a7v (fun ρ=>∃ v0:Option L,ρ=[v0]) rgF ⟨_,rfl⟩ ?_ ?_
 ·rintro x ρ N hx ⟨v0,rfl⟩ hN
  obtain⟨a,ha⟩:=List.getElem?_of_mem hx;obtain⟨ha2,rfl⟩:=rngI ha;lia;refine a3r (d8v 'd') ?_;exact hN _ ⟨_,rfl⟩
 rintro ρ ⟨v0,rfl⟩;obtain⟨RW,ev,gm,ein,evl,l9,l10,henc,hev⟩:=d6s;rw [henc];have rp:=b9e gm (ts:=a0i RW ev 9) (fun t ht=>⟨(a7n gm ein ht).1,by have:=(a7n gm ein ht).2;omega⟩) 'o';lia;refine a3r (d5o 'd' 'd') ?_;rw [hev];lia;refine⟨RW,ev,9,rfl,gm,ein,evl,'o',?_⟩;rw [show wres RW ev 9=.list ((a0i RW ev 9).map encT) from if_pos 'o'];lia;rw [length_map,l9];walk_at "dk";refine⟨RW,ev,9,0,rfl,gm,fun z=>absurd rfl z,ein,evl,'o',fun _=>?_,fun z=>absurd z 'o'⟩;lia;have er:b9c [.list ((a0i RW ev 9).map encT)]=some (.str (PyData.list ((a0i RW ev 9).map encT)).shown):=if_pos rp;refine a3r er ?_;refine a3r er ?_;walk_at "dk";refine⟨RW,ev,10,0,rfl,gm,fun z=>absurd rfl z,ein,evl,'o',fun z=>absurd z 'o',fun _=>?_⟩;walk_at "dk"
def Lies(K:W.Frag)(x:Str)(st:Stmt)(ps:List Str):Prop:=∃ f fd,Fun K x x st f fd/\W.nsIn K mainGlobals x=some (some (.ref f))/\Binds K fd ps []
abbrev fnX(x:Str)(st:Stmt)(kV dc pm:Value)(an:Option Addr)(cd ct:Value):FuncData:=W.fnOf x x (a5a st) (a2n st) (a0h st) .none kV dc pm an cd ct
def b2u{K:W.Frag}{x:Str}{st:Stmt}{ps:List Str}{f:Addr}{od an:Option Addr}{sl:Array (Option Value)}{oc kV dc pm cd ct:Value}
  (a:W.nsIn K mainGlobals x=some (some (.ref f))) (l:K.lookup f=some ⟨oc,od,.func (fnX x st kV dc pm an cd ct),sl⟩) (c:W.codeIn K cd x=true) (k:W.keepIn K (.ref f)=true) (hp:ps.length=1)
  (b:∀ (kV dc pm:Value) (an:Option Addr) (cd ct a0:Value),bindArgs (fnX x st kV dc pm an cd ct) ⟨[a0],[]⟩=pure (ps.zip [a0])):Lies K x st ps:=⟨f,_,a4m l c k,a,(a4m l c k).binds fun kV dc pm an cd ct us hl=>by
  rw [hp] at hl;obtain⟨a0,u0,rfl,h0⟩:=usS hl;obtain rfl:=eq_nil_of_length_eq_zero h0;exact b kV dc pm an cd ct a0⟩
def a5w{K:W.Frag}{x:Str}{st:Stmt}{ps:List Str}{f:Addr}{od an:Option Addr}{sl:Array (Option Value)}{oc kV dc pm cd ct:Value}
  (a:W.nsIn K mainGlobals x=some (some (.ref f))) (l:K.lookup f=some ⟨oc,od,.func (fnX x st kV dc pm an cd ct),sl⟩) (c:W.codeIn K cd x=true) (k:W.keepIn K (.ref f)=true) (hp:ps.length=2)
  (b:∀ (kV dc pm:Value) (an:Option Addr) (cd ct a0 a1:Value),bindArgs (fnX x st kV dc pm an cd ct) ⟨[a0,a1],[]⟩=pure (ps.zip [a0,a1])):Lies K x st ps:=⟨f,_,a4m l c k,a,(a4m l c k).binds fun kV dc pm an cd ct us hl=>by
  rw [hp] at hl;obtain⟨a0,u0,rfl,h0⟩:=usS hl;obtain⟨a1,u1,rfl,h1⟩:=usS h0;obtain rfl:=eq_nil_of_length_eq_zero h1;exact b kV dc pm an cd ct a0 a1⟩
def a5x{K:W.Frag}{x:Str}{st:Stmt}{ps:List Str}{f:Addr}{od an:Option Addr}{sl:Array (Option Value)}{oc kV dc pm cd ct:Value}
  (a:W.nsIn K mainGlobals x=some (some (.ref f))) (l:K.lookup f=some ⟨oc,od,.func (fnX x st kV dc pm an cd ct),sl⟩) (c:W.codeIn K cd x=true) (k:W.keepIn K (.ref f)=true) (hp:ps.length=3)
  (b:∀ (kV dc pm:Value) (an:Option Addr) (cd ct a0 a1 a2:Value),bindArgs (fnX x st kV dc pm an cd ct) ⟨[a0,a1,a2],[]⟩=pure (ps.zip [a0,a1,a2])):Lies K x st ps:=⟨f,_,a4m l c k,a,(a4m l c k).binds fun kV dc pm an cd ct us hl=>by
  rw [hp] at hl;obtain⟨a0,u0,rfl,h0⟩:=usS hl;obtain⟨a1,u1,rfl,h1⟩:=usS h0;obtain⟨a2,u2,rfl,h2⟩:=usS h1;obtain rfl:=eq_nil_of_length_eq_zero h2;exact b kV dc pm an cd ct a0 a1 a2⟩
def d1e{K:W.Frag}{x:Str}{st:Stmt}{ps:List Str}{f:Addr}{od an:Option Addr}{sl:Array (Option Value)}{oc kV dc pm cd ct:Value}
  (a:W.nsIn K mainGlobals x=some (some (.ref f))) (l:K.lookup f=some ⟨oc,od,.func (fnX x st kV dc pm an cd ct),sl⟩) (c:W.codeIn K cd x=true) (k:W.keepIn K (.ref f)=true) (hp:ps.length=4)
  (b:∀ (kV dc pm:Value) (an:Option Addr) (cd ct a0 a1 a2 a3:Value),bindArgs (fnX x st kV dc pm an cd ct) ⟨[a0,a1,a2,a3],[]⟩=pure (ps.zip [a0,a1,a2,a3])):Lies K x st ps:=⟨f,_,a4m l c k,a,(a4m l c k).binds fun kV dc pm an cd ct us hl=>by
  rw [hp] at hl;obtain⟨a0,u0,rfl,h0⟩:=usS hl;obtain⟨a1,u1,rfl,h1⟩:=usS h0;obtain⟨a2,u2,rfl,h2⟩:=usS h1;obtain⟨a3,u3,rfl,h3⟩:=usS h2;obtain rfl:=eq_nil_of_length_eq_zero h3;exact b kV dc pm an cd ct a0 a1 a2 a3⟩
def e1q{P:Program}{w:World}{K:W.Frag}{h:Heap}{mg:Str->Option Value}{fa:Addr}(X:K.In h)(G:h.Ns mainGlobals mg) (hfa:mg "law" = some (.ref fa))
  (h_marks_of:Lies K "marks_of" a9l ["parts","many"])
  (h_parts_by:Lies K "parts_by" a7a ["marks"])
  (h_ways_from:Lies K "ways_from" a4o ["world","firsts","days"])
  (h_longer_ways:Lies K "longer_ways" a4t ["moves","ways","most"])
  (h_remembered:Lies K "remembered" a5l ["world","firsts","days"])
  (h_moves_of_ways:Lies K "moves_of_ways" a2w ["ways"])
  (h_law_cell_at:Lies K "_law_cell_at" a3p ["_law_script","_law_k"])
  (h_law_by:Lies K "_law_by" a9j ["_law_script","_law_k","_law_many"])
  (h_law_next:Lies K "_law_next" a6x ["_law_tape","_law_many"])
  (h_law_some:Lies K "_law_some" a5i ["_law_tape","_law_many","_law_few"])
  (h_law_parts:Lies K "_law_parts" a6e ["_law_tape","_law_many"])
  (h_law_world:Lies K "_law_world" a6f ["_law_tape","_law_most"])
  (h_law_drawn_world:Lies K "_law_drawn_world" a2z ["_law_tape"])
  (h_law_ways:Lies K "_law_ways" a6z ["_law_world_here","_law_firsts_here","_law_days"])
  (h_law_firsts:Lies K "_law_firsts" a5j ["_law_tape","_law_world_here"])
  (h_law_told:Lies K "_law_told" a7b ["_law_world_here","_law_firsts_here","_law_days","_law_way"])
  {f_law:Addr} {od_law an_law:Option Addr} {sl_law:Array (Option Value)} {oc_law kV_law dc_law pm_law cd_law ct_law:Value}
  (a_law:W.nsIn K mainGlobals "law" = some (some (.ref f_law))) (l_law:K.lookup f_law=some ⟨oc_law,od_law,.func (W.fnOf "law" "law" (a5a a7d) (a2n a7d) (a0h a7d) .none kV_law dc_law pm_law an_law cd_law ct_law),sl_law⟩) (c_law:W.codeIn K cd_law "law" = true) (k_law:W.keepIn K (.ref f_law)=true)
  {C_Ground:Addr} (aC_Ground:W.nsIn K mainGlobals "Ground" = some (some (.ref C_Ground)))
  {f_ginit:Addr} {od_ginit an_ginit:Option Addr} {sl_ginit:Array (Option Value)} {oc_ginit kV_ginit dc_ginit pm_ginit cd_ginit ct_ginit:Value}
  (a_ginit:W.findIn K (.ref C_Ground) "__init__" = some (some (.ref f_ginit))) (i_ginit:W.isFn K (.ref f_ginit)=true) (l_ginit:K.lookup f_ginit=some ⟨oc_ginit,od_ginit,.func (W.fnOf "__init__" "Ground.__init__" (a5a a7o) (a2n a7o) (a0h a7o) .none kV_ginit dc_ginit pm_ginit an_ginit cd_ginit ct_ginit),sl_ginit⟩) (c_ginit:W.codeIn K cd_ginit "Ground.__init__" = true) (k_ginit:W.keepIn K (.ref f_ginit)=true)
  (pg_Ground:W.plainGet K C_Ground Str.empty=true) (hd_Ground:W.hasDictIn K C_Ground=true) (po_Ground:W.plainOver K C_Ground=true) (sa_Ground:W.findIn K (.ref C_Ground) "__setattr__" = some (some (.builtin "object.__setattr__"))) (mk_Ground:W.makesIn K C_Ground=true) (kc_Ground:W.keepIn K (.ref C_Ground)=true)
  (n_world:W.findIn K (.ref C_Ground) "world" = some none)
  (n_many:W.findIn K (.ref C_Ground) "many" = some none)
  (n_steps:W.findIn K (.ref C_Ground) "steps" = some none)
  (n_marks:W.findIn K (.ref C_Ground) "marks" = some none)
  (n_facts:W.findIn K (.ref C_Ground) "facts" = some none)
  (z_len:W.nsIn K mainGlobals "len" = some none)
  (z_range:W.nsIn K mainGlobals "range" = some none)
  (z_tuple:W.nsIn K mainGlobals "tuple" = some none)
  (z_bool:W.nsIn K mainGlobals "bool" = some none)
  (z_isinstance:W.nsIn K mainGlobals "isinstance" = some none)
  (z_reversed:W.nsIn K mainGlobals "reversed" = some none)
  (z_max:W.nsIn K mainGlobals "max" = some none)
  (z_zip:W.nsIn K mainGlobals "zip" = some none)
  (z_list:W.nsIn K mainGlobals "list" = some none)
  (z_str:W.nsIn K mainGlobals "str" = some none)
  (z_enumerate:W.nsIn K mainGlobals "enumerate" = some none)
  (z_dict:W.nsIn K mainGlobals "dict" = some none)
  (z_sum:W.nsIn K mainGlobals "sum" = some none)
  (z_int:W.nsIn K mainGlobals "int" = some none)
  (z_min:W.nsIn K mainGlobals "min" = some none)
  (z_sorted:W.nsIn K mainGlobals "sorted" = some none)
  (z_all:W.nsIn K mainGlobals "all" = some none)
  (z_set:W.nsIn K mainGlobals "set" = some none)
  (z_repr:W.nsIn K mainGlobals "repr" = some none)
  {C_TooMany:Addr} (aC_TooMany:W.nsIn K mainGlobals "TooMany" = some (some (.ref C_TooMany)))
  {C_WorldError:Addr} (aC_WorldError:W.nsIn K mainGlobals "WorldError" = some (some (.ref C_WorldError)))
  {C_NoChange:Addr} (aC_NoChange:W.nsIn K mainGlobals "NoChange" = some (some (.ref C_NoChange)))
  {C_NoLine:Addr} (aC_NoLine:W.nsIn K mainGlobals "NoLine" = some (some (.ref C_NoLine)))
  {C_NoPaper:Addr} (aC_NoPaper:W.nsIn K mainGlobals "NoPaper" = some (some (.ref C_NoPaper)))
  {C_NoPoint:Addr} (aC_NoPoint:W.nsIn K mainGlobals "NoPoint" = some (some (.ref C_NoPoint)))
  {C_NoText:Addr} (aC_NoText:W.nsIn K mainGlobals "NoText" = some (some (.ref C_NoText)))
  {C_NoTruth:Addr} (aC_NoTruth:W.nsIn K mainGlobals "NoTruth" = some (some (.ref C_NoTruth)))
  {nm_TooMany qn_TooMany:Str} {N_TooMany:Addr} {bs_TooMany sub_TooMany:List Value} {hd_TooMany ab_TooMany:Bool} {sn_TooMany:List Str} {col_TooMany:Option Bool} {dd_TooMany:Option Addr} {k0_TooMany k1_TooMany k2_TooMany k3_TooMany k5_TooMany:Option Value} {ni_TooMany:String} (lC_TooMany:K.lookup C_TooMany=some (excClassObj nm_TooMany qn_TooMany C_TooMany N_TooMany bs_TooMany [.ref C_WorldError,.type "ValueError",.type "Exception",.type "BaseException",.type "object"] hd_TooMany sn_TooMany sub_TooMany ab_TooMany col_TooMany dd_TooMany k0_TooMany k1_TooMany k2_TooMany k3_TooMany k5_TooMany ni_TooMany))
  {nm_WorldError qn_WorldError:Str} {N_WorldError:Addr} {bs_WorldError sub_WorldError:List Value} {hd_WorldError ab_WorldError:Bool} {sn_WorldError:List Str} {col_WorldError:Option Bool} {dd_WorldError:Option Addr} {k0_WorldError k1_WorldError k2_WorldError k3_WorldError k5_WorldError:Option Value} {ni_WorldError:String} (lC_WorldError:K.lookup C_WorldError=some (excClassObj nm_WorldError qn_WorldError C_WorldError N_WorldError bs_WorldError [.type "ValueError",.type "Exception",.type "BaseException",.type "object"] hd_WorldError sn_WorldError sub_WorldError ab_WorldError col_WorldError dd_WorldError k0_WorldError k1_WorldError k2_WorldError k3_WorldError k5_WorldError ni_WorldError))
  (z_ValueError:W.nsIn K mainGlobals "ValueError" = some none)
  (xe_TooMany:W.excIn K C_TooMany veM "ValueError.__new__" = true)
  (fa_TooMany:W.findIn K (.ref C_TooMany) "__getattribute__" = some (some (.builtin "BaseException.__getattribute__"))) (fb_TooMany:W.findIn K (.ref C_TooMany) "__getattr__" = some none) (fc_TooMany:W.findIn K (.ref C_TooMany) "__class__" = some (some (.builtin "object.__class__"))) (fd_TooMany:W.specialIn K (.builtin "object.__class__") "__get__" = some (some (.builtin "getset_descriptor.__get__"))) (fe_TooMany:W.takesIn K (.builtin "object.__class__")=some true) (ff_TooMany:W.mroIn K C_TooMany (.type "object")=some true) (fg_TooMany:W.mroIn K C_TooMany (.type "BaseException")=some true)
  (kv_TooMany:W.kitOne K (.ref C_TooMany) (.type "ValueError")=some true) (ko_TooMany:W.kitAny K (.ref C_TooMany) [.ref C_NoChange,.ref C_NoLine,.ref C_NoPaper,.ref C_NoPoint,.ref C_NoText,.ref C_NoTruth]=some false)
  {tk_MOST_WAYS:Tok} (a_MOST_WAYS:W.nsIn K mainGlobals "MOST_WAYS" = some (some (.int 200 tk_MOST_WAYS)))
  : ∃ fd:FuncData,(∀ (s:Shared) (v:Value),BindsTo s fd ⟨[v],[]⟩ [("_law_script",v)])/\∀ base:Heap,K.In base->base.Ns mainGlobals mg->FnOk P w K mg base CX0 40 fa fd ["_law_script"] (b6m K):=by
 have e:=hfa.symm.trans (W.mg_of X G a_law);cases e;obtain⟨f_marks_of,_,F_marks_of,a_marks_of,b_marks_of⟩:=h_marks_of;have d_marks_of:Def K mg _ _ _ _ _:=⟨F_marks_of,b_marks_of,W.mg_of X G a_marks_of⟩;obtain⟨f_parts_by,_,F_parts_by,a_parts_by,b_parts_by⟩:=h_parts_by
 have d_parts_by:Def K mg _ _ _ _ _:=⟨F_parts_by,b_parts_by,W.mg_of X G a_parts_by⟩;obtain⟨f_ways_from,_,F_ways_from,a_ways_from,b_ways_from⟩:=h_ways_from
 have d_ways_from:Def K mg _ _ _ _ _:=⟨F_ways_from,b_ways_from,W.mg_of X G a_ways_from⟩;obtain⟨f_longer_ways,_,F_longer_ways,a_longer_ways,b_longer_ways⟩:=h_longer_ways;have d_longer_ways:Def K mg _ _ _ _ _:=⟨F_longer_ways,b_longer_ways,W.mg_of X G a_longer_ways⟩;obtain⟨f_remembered,_,F_remembered,a_remembered,b_remembered⟩:=h_remembered;have d_remembered:Def K mg _ _ _ _ _:=⟨F_remembered,b_remembered,W.mg_of X G a_remembered⟩;obtain⟨f_moves_of_ways,_,F_moves_of_ways,a_moves_of_ways,b_moves_of_ways⟩:=h_moves_of_ways;have d_moves_of_ways:Def K mg _ _ _ _ _:=⟨F_moves_of_ways,b_moves_of_ways,W.mg_of X G a_moves_of_ways⟩;obtain⟨d6t,_,b6c,b6d,b_law_cell_at⟩:=h_law_cell_at;have a2t:Def K mg _ _ _ _ _:=⟨b6c,b_law_cell_at,W.mg_of X G b6d⟩;obtain⟨e1r,_,d1f,d1g,b_law_by⟩:=h_law_by
 have a9k:Def K mg _ _ _ _ _:=⟨d1f,b_law_by,W.mg_of X G d1g⟩;obtain⟨c3z,_,b3u,c4a,b_law_next⟩:=h_law_next;have a0s:Def K mg _ _ _ _ _:=⟨b3u,b_law_next,W.mg_of X G c4a⟩;obtain⟨c4b,_,b3v,c4c,b_law_some⟩:=h_law_some;have a3j:Def K mg _ _ _ _ _:=⟨b3v,b_law_some,W.mg_of X G c4c⟩;obtain⟨c0c,_,b2a,c0d,b_law_parts⟩:=h_law_parts;have a8e:Def K mg _ _ _ _ _:=⟨b2a,b_law_parts,W.mg_of X G c0d⟩;obtain⟨c0e,_,b2b,c0f,b_law_world⟩:=h_law_world;have a8f:Def K mg _ _ _ _ _:=⟨b2b,b_law_world,W.mg_of X G c0f⟩;obtain⟨b1q,_,a6o,b1r,b_law_drawn_world⟩:=h_law_drawn_world;have a4j:Def K mg _ _ _ _ _:=⟨a6o,b_law_drawn_world,W.mg_of X G b1r⟩;obtain⟨c4d,_,b3w,c4e,b_law_ways⟩:=h_law_ways;have a7e:Def K mg _ _ _ _ _:=⟨b3w,b_law_ways,W.mg_of X G c4e⟩;obtain⟨b9i,_,b0s,b9j,b_law_firsts⟩:=h_law_firsts;have a7y:Def K mg _ _ _ _ _:=⟨b0s,b_law_firsts,W.mg_of X G b9j⟩;obtain⟨c4f,_,b3x,c4g,b_law_told⟩:=h_law_told;have a5m:Def K mg _ _ _ _ _:=⟨b3x,b_law_told,W.mg_of X G c4g⟩;have F_law:=a4m (st:=a7d) l_law c_law k_law;have F_ginit:=a4m (st:=a7o) l_ginit c_ginit k_ginit;have b_ginit:=F_ginit.binds (ps:=["self","world"]) fun _ _ _ _ _ _ us hl=>match us,hl with | [_,_],_=>rfl
 have T_Ground:TxtF K mg C_Ground:=⟨⟨pg_Ground,hd_Ground,po_Ground,sa_Ground⟩,n_world,n_many,n_steps,n_marks,n_facts,W.mg_of X G aC_Ground⟩;have M_Ground:Mk K C_Ground f_ginit:=⟨mk_Ground,a_ginit,i_ginit,kc_Ground⟩;have B:Bl mg:=⟨W.mg_none_of X G z_len,W.mg_none_of X G z_range,W.mg_none_of X G z_tuple,W.mg_none_of X G z_bool,W.mg_none_of X G z_isinstance,W.mg_none_of X G z_reversed,W.mg_none_of X G z_max,W.mg_none_of X G z_zip,W.mg_none_of X G z_list,W.mg_none_of X G z_str,W.mg_none_of X G z_enumerate,W.mg_none_of X G z_dict,W.mg_none_of X G z_sum,W.mg_none_of X G z_int,W.mg_none_of X G z_min,W.mg_none_of X G z_sorted,W.mg_none_of X G z_all,W.mg_none_of X G z_set,W.mg_none_of X G z_repr⟩;have m_TooMany:mg "TooMany" = some (.ref C_TooMany):=W.mg_of X G aC_TooMany;have m_WorldError:mg "WorldError" = some (.ref C_WorldError):=W.mg_of X G aC_WorldError;have m_NoChange:mg "NoChange" = some (.ref C_NoChange):=W.mg_of X G aC_NoChange;have m_NoLine:mg "NoLine" = some (.ref C_NoLine):=W.mg_of X G aC_NoLine;have m_NoPaper:mg "NoPaper" = some (.ref C_NoPaper):=W.mg_of X G aC_NoPaper;have m_NoPoint:mg "NoPoint" = some (.ref C_NoPoint):=W.mg_of X G aC_NoPoint;have m_NoText:mg "NoText" = some (.ref C_NoText):=W.mg_of X G aC_NoText;have m_NoTruth:mg "NoTruth" = some (.ref C_NoTruth):=W.mg_of X G aC_NoTruth;have c_TooMany:XCls K C_TooMany [.ref C_WorldError,.type "ValueError",.type "Exception",.type "BaseException",.type "object"]:=⟨⟨_,_,_,_,_,_,_,_,_,_,_,_,_,_,_,_,lC_TooMany⟩,rfl⟩;have c_WorldError:XCls K C_WorldError [.type "ValueError",.type "Exception",.type "BaseException",.type "object"]:=⟨⟨_,_,_,_,_,_,_,_,_,_,_,_,_,_,_,_,lC_WorldError⟩,rfl⟩;have z_VE:=W.mg_none_of X G z_ValueError;have x_TooMany:=xe_TooMany;have o_TooMany:XOk K C_TooMany:=⟨⟨_,_,lC_TooMany,rfl⟩,⟨fa_TooMany,fb_TooMany,fc_TooMany,fd_TooMany,fe_TooMany,ff_TooMany,fg_TooMany⟩⟩;have m_MOST_WAYS:∃ t,mg "MOST_WAYS" = some (.int 200 t):=⟨_,W.mg_of X G a_MOST_WAYS⟩;refine⟨W.fnOf "law" "law" (a5a a7d) (a2n a7d) (a0h a7d) .none kV_law dc_law pm_law an_law cd_law ct_law,fun s v=>.of_eq rfl,fun base _ _=>?_⟩
 have gn:FnOk P w K mg base CX0 3 c3z _ _ _:=d6j b3u B a2t a9k;have gS:FnOk P w K mg base CX0 4 c4b _ _ (spD K b3o):=d6k b3v B a0s gn;have gP:FnOk P w K mg base CX0 4 c0c _ _ (spD K b4p):=d0t b2a B a0s gn;have gW:FnOk P w K mg base CX0 5 c0e _ _ (spD K b4q):=d0u b2b B a0s (gn.mono (by decide:3 <= 4)) a3j gS a8e gP;have gD:FnOk P w K mg base CX0 6 b1q _ _ (spD K b4t):=d1a a6o B a0s (gn.mono (by decide:3 <= 5)) a8f gW;have gF:FnOk P w K mg base CX0 5 b9i _ _ (spD K b2q):=c7q b0s B a0s (gn.mono (by decide:3 <= 4)) a3j gS;have gV:FnOk P w K mg base CX0 1 c4d _ _ (spD K b4r):=d0y b3w B;have gM:FnOk P w K mg base CX0 1 f_marks_of _ _ (spD K b4s):=d0z F_marks_of B;have gX:FnOk P w K mg base CX0 1 f_parts_by _ _ (spD K a9m):=b8u F_parts_by B;have gT:∀ W,Good W->FnOk P w K mg base CX0 3 f_ginit _ _ (b4v P w K C_Ground (ledW W) (okPW W) (mkW W)):=fun W G=>(d1c F_ginit B T_Ground.gtx d_marks_of (d6o G gM)).mono (by decide:2 <= 3);have gO:FnOk P w K mg base CX0 1 f_longer_ways _ _ (spD K b2p):=c7p F_longer_ways B;have gE:FnOk P w K mg base (CX1 P w) 2 f_ways_from _ _ (spX K (b1m C_TooMany)):=d0x F_ways_from B m_TooMany x_TooMany m_MOST_WAYS d_longer_ways gO;have gB:FnOk P w K mg base CX0 1 f_moves_of_ways _ _ (spD K b4u):=d1b F_moves_of_ways B;have gA:FnOk P w K mg base (CX1 P w) 5 f_remembered _ _ (b9a K C_TooMany):=b6b F_remembered B T_Ground M_Ground b_ginit gT d_ways_from (gE.mono (by decide:2 <= 4)) d_parts_by (gX.mono (by decide:1 <= 4)) d_moves_of_ways (gB.mono (by decide:1 <= 4));have xx:Ex31 K mg C_TooMany:=⟨_,_,_,_,_,_,_,_,_,m_TooMany,m_WorldError,m_NoChange,m_NoLine,m_NoPaper,m_NoPoint,m_NoText,m_NoTruth,z_VE,c_TooMany,c_WorldError,by simp,o_TooMany,kv_TooMany,ko_TooMany⟩;have gU:FnOk P w K mg base CX0 6 c4f _ _ (spD K b9b):=d6q b3x B xx d_ways_from (gE.mono (by decide:2 <= 5)) d_remembered gA;exact e1p F_law B a0s (gn.mono (by decide:3 <= 39)) a4j (gD.mono (by decide:6 <= 39)) a7y (gF.mono (by decide:5 <= 39)) a7e (gV.mono (by decide:1 <= 39)) a5m (gU.mono (by decide:6 <= 39))
end K31
namespace PySem.W.Fast
def tw8128833449917820254:=()
def tw4380055224142563591:=()
def tw16279807489048707646:=()
def tw1381760477938461478:=()
def tw4350204468932775714:=()
def tw15641368516711568770:=PySem.Challenge.pw_worldsay_k31_ways
theorem te15641368516711568770:PySem.Challenge.pw_worldsay_k31_ways=tw15641368516711568770:=rfl
def tw3670328403180073811:=()
def tw11974946177727962595:=()
def tw2269591915059922164:=()
def tw2233277850011641857:=()
def tw17853719171006580063:=()
def tw8721366808458234852:=()
def tw9310766355779549244:=()
def tw13939295632741956251:=()
def tw17245513751516996486:=()
def tw9907656266880945665:=()
def tw14093069290522527016:=()
def tw12806418465340729043:=()
def tw2558569204088871751:=()
def tw6314509085992505965:=()
def tw118484333867355840:=()
def tw4940744990833020025:=()
def tw769107598770448449:=()
def tw6356090378101148422:=()
def tw4378250476964669653:=()
def tw15433529951068558715:=()
def tw1138930616427940685:=()
def tw11466947155638273030:=()
def tw5077535848433185864:=()
def tw7829204107594309230:=()
def tw3447340507323355353:=()
def tw4370064386449201465:=()
def tw10169175733344370973:=()
def tw2931690305676458183:=()
def tw11630964007179608279:=()
def tw9997542643177307715:=()
def tw16101656452016981969:=()
def tw4959337019760662028:=()
def tw11257744083699515967:=()
def tw643608059159532832:=()
def tw10548551959165967927:=()
def tw7115381761784387267:=()
def tw2763295402005316539:=()
def tw15732277885038757352:=()
def tw12889253640030136466:=()
def tw10709686620145757072:=()
def tw10546637945027815880:=()
def tw152822732606860855:=()
def tw3403232469745152236:=()
def tw109003491699160405:=()
def tw2384998071110827652:=()
def tw12245099028264966323:=()
def tw7143195217919026171:=()
def tw11328109180976658470:=()
def tw13323313583632621170:=()
def tw8484418714231344134:=()
def tw14296245433471419109:=()
def tw8366657776294642219:=()
def tw9961112989899710572:=()
def tw852232556022041904:=()
end PySem.W.Fast
open PySem PySem.W PyProof.Rows
set_option maxRecDepth 100000 in
set_option maxHeartbeats 0 in
theorem PySem.Challenge.cw_worldsay_k31_ways_holds : PySem.Challenge.rw_worldsay_k31_ways.Holds := by
 w_on;o_law;k_head;(case hw=>w_witness2)
 k_fill
 refine L2.d3e (l:=PySem.Challenge.rw_worldsay_k31_ways) (n:=63) (k:=40) (x:="_law_script") (CX:=fun _=>L2.CX0) (sp:=fun w=>L2.b6m (_:PySem.W.Frag)) rfl (by decide) rfl ⟨rfl,by decide,by decide,rfl⟩ (fun w h Y=>PySem.W.kIn_of Y) ?F (fun w H a ns hl hO hS=>⟨a,ns,rfl,hS,hO,hl,fun _=>rfl⟩) (fun _ _ _ _ _ z=>z)
 case F =>
  intro w mg fa h KX G hmg
  refine' K31.e1q KX G hmg ?h_marks_of ?h_parts_by ?h_ways_from ?h_longer_ways ?h_remembered ?h_moves_of_ways ?h_law_cell_at ?h_law_by ?h_law_next ?h_law_some ?h_law_parts ?h_law_world ?h_law_drawn_world ?h_law_ways ?h_law_firsts ?h_law_told ?a_law ?l_law ?c_law ?k_law ?aC_Ground ?a_ginit ?i_ginit ?l_ginit ?c_ginit ?k_ginit ?pg_Ground ?hd_Ground ?po_Ground ?sa_Ground ?mk_Ground ?kc_Ground ?n_world ?n_many ?n_steps ?n_marks ?n_facts ?z_len ?z_range ?z_tuple ?z_bool ?z_isinstance ?z_reversed ?z_max ?z_zip ?z_list ?z_str ?z_enumerate ?z_dict ?z_sum ?z_int ?z_min ?z_sorted ?z_all ?z_set ?z_repr ?aC_TooMany ?aC_WorldError ?aC_NoChange ?aC_NoLine ?aC_NoPaper ?aC_NoPoint ?aC_NoText ?aC_NoTruth ?lC_TooMany ?lC_WorldError ?z_ValueError ?xe_TooMany ?fa_TooMany ?fb_TooMany ?fc_TooMany ?fd_TooMany ?fe_TooMany ?ff_TooMany ?fg_TooMany ?kv_TooMany ?ko_TooMany ?a_MOST_WAYS
  (case h_marks_of=>refine' K31.a5w ?h_marks_ofa ?h_marks_ofl ?h_marks_ofc ?h_marks_ofk rfl (fun _ _ _ _ _ _ _ _  => rfl);(case h_marks_ofa=>k_is);(case h_marks_ofl=>k_is);(case h_marks_ofc=>k_is);(case h_marks_ofk=>k_is))
  (case h_parts_by=>refine' K31.b2u ?h_parts_bya ?h_parts_byl ?h_parts_byc ?h_parts_byk rfl (fun _ _ _ _ _ _ _  => rfl);(case h_parts_bya=>k_is);(case h_parts_byl=>k_is);(case h_parts_byc=>k_is);(case h_parts_byk=>k_is))
  (case h_ways_from=>refine' K31.a5x ?h_ways_froma ?h_ways_froml ?h_ways_fromc ?h_ways_fromk rfl (fun _ _ _ _ _ _ _ _ _  => rfl);(case h_ways_froma=>k_is);(case h_ways_froml=>k_is);(case h_ways_fromc=>k_is);(case h_ways_fromk=>k_is))
  (case h_longer_ways=>refine' K31.a5x ?h_longer_waysa ?h_longer_waysl ?h_longer_waysc ?h_longer_waysk rfl (fun _ _ _ _ _ _ _ _ _  => rfl);(case h_longer_waysa=>k_is);(case h_longer_waysl=>k_is);(case h_longer_waysc=>k_is);(case h_longer_waysk=>k_is))
  (case h_remembered=>refine' K31.a5x ?h_remembereda ?h_rememberedl ?h_rememberedc ?h_rememberedk rfl (fun _ _ _ _ _ _ _ _ _  => rfl);(case h_remembereda=>k_is);(case h_rememberedl=>k_is);(case h_rememberedc=>k_is);(case h_rememberedk=>k_is))
  (case h_moves_of_ways=>refine' K31.b2u ?h_moves_of_waysa ?h_moves_of_waysl ?h_moves_of_waysc ?h_moves_of_waysk rfl (fun _ _ _ _ _ _ _  => rfl);(case h_moves_of_waysa=>k_is);(case h_moves_of_waysl=>k_is);(case h_moves_of_waysc=>k_is);(case h_moves_of_waysk=>k_is))
  (case h_law_cell_at=>refine' K31.a5w ?h_law_cell_ata ?h_law_cell_atl ?h_law_cell_atc ?h_law_cell_atk rfl (fun _ _ _ _ _ _ _ _  => rfl);(case h_law_cell_ata=>k_is);(case h_law_cell_atl=>k_is);(case h_law_cell_atc=>k_is);(case h_law_cell_atk=>k_is))
  (case h_law_by=>refine' K31.a5x ?h_law_bya ?h_law_byl ?h_law_byc ?h_law_byk rfl (fun _ _ _ _ _ _ _ _ _  => rfl);(case h_law_bya=>k_is);(case h_law_byl=>k_is);(case h_law_byc=>k_is);(case h_law_byk=>k_is))
  (case h_law_next=>refine' K31.a5w ?h_law_nexta ?h_law_nextl ?h_law_nextc ?h_law_nextk rfl (fun _ _ _ _ _ _ _ _  => rfl);(case h_law_nexta=>k_is);(case h_law_nextl=>k_is);(case h_law_nextc=>k_is);(case h_law_nextk=>k_is))
  (case h_law_some=>refine' K31.a5x ?h_law_somea ?h_law_somel ?h_law_somec ?h_law_somek rfl (fun _ _ _ _ _ _ _ _ _  => rfl);(case h_law_somea=>k_is);(case h_law_somel=>k_is);(case h_law_somec=>k_is);(case h_law_somek=>k_is))
  (case h_law_parts=>refine' K31.a5w ?h_law_partsa ?h_law_partsl ?h_law_partsc ?h_law_partsk rfl (fun _ _ _ _ _ _ _ _  => rfl);(case h_law_partsa=>k_is);(case h_law_partsl=>k_is);(case h_law_partsc=>k_is);(case h_law_partsk=>k_is))
  (case h_law_world=>refine' K31.a5w ?h_law_worlda ?h_law_worldl ?h_law_worldc ?h_law_worldk rfl (fun _ _ _ _ _ _ _ _  => rfl);(case h_law_worlda=>k_is);(case h_law_worldl=>k_is);(case h_law_worldc=>k_is);(case h_law_worldk=>k_is))
  (case h_law_drawn_world=>refine' K31.b2u ?h_law_drawn_worlda ?h_law_drawn_worldl ?h_law_drawn_worldc ?h_law_drawn_worldk rfl (fun _ _ _ _ _ _ _  => rfl);(case h_law_drawn_worlda=>k_is);(case h_law_drawn_worldl=>k_is);(case h_law_drawn_worldc=>k_is);(case h_law_drawn_worldk=>k_is))
  (case h_law_ways=>refine' K31.a5x ?h_law_waysa ?h_law_waysl ?h_law_waysc ?h_law_waysk rfl (fun _ _ _ _ _ _ _ _ _  => rfl);(case h_law_waysa=>k_is);(case h_law_waysl=>k_is);(case h_law_waysc=>k_is);(case h_law_waysk=>k_is))
  (case h_law_firsts=>refine' K31.a5w ?h_law_firstsa ?h_law_firstsl ?h_law_firstsc ?h_law_firstsk rfl (fun _ _ _ _ _ _ _ _  => rfl);(case h_law_firstsa=>k_is);(case h_law_firstsl=>k_is);(case h_law_firstsc=>k_is);(case h_law_firstsk=>k_is))
  (case h_law_told=>refine' K31.d1e ?h_law_tolda ?h_law_toldl ?h_law_toldc ?h_law_toldk rfl (fun _ _ _ _ _ _ _ _ _ _  => rfl);(case h_law_tolda=>k_is);(case h_law_toldl=>k_is);(case h_law_toldc=>k_is);(case h_law_toldk=>k_is))
  (case a_law=>k_is)
  (case l_law=>k_is)
  (case c_law=>k_is)
  (case k_law=>k_is)
  (case aC_Ground=>k_is)
  (case a_ginit=>k_is)
  (case i_ginit=>k_is)
  (case l_ginit=>k_is)
  (case c_ginit=>k_is)
  (case k_ginit=>k_is)
  (case pg_Ground=>k_is)
  (case hd_Ground=>k_is)
  (case po_Ground=>k_is)
  (case sa_Ground=>k_is)
  (case mk_Ground=>k_is)
  (case kc_Ground=>k_is)
  (case n_world=>k_is)
  (case n_many=>k_is)
  (case n_steps=>k_is)
  (case n_marks=>k_is)
  (case n_facts=>k_is)
  (case z_len=>k_is)
  (case z_range=>k_is)
  (case z_tuple=>k_is)
  (case z_bool=>k_is)
  (case z_isinstance=>k_is)
  (case z_reversed=>k_is)
  (case z_max=>k_is)
  (case z_zip=>k_is)
  (case z_list=>k_is)
  (case z_str=>k_is)
  (case z_enumerate=>k_is)
  (case z_dict=>k_is)
  (case z_sum=>k_is)
  (case z_int=>k_is)
  (case z_min=>k_is)
  (case z_sorted=>k_is)
  (case z_all=>k_is)
  (case z_set=>k_is)
  (case z_repr=>k_is)
  (case aC_TooMany=>k_is)
  (case aC_WorldError=>k_is)
  (case aC_NoChange=>k_is)
  (case aC_NoLine=>k_is)
  (case aC_NoPaper=>k_is)
  (case aC_NoPoint=>k_is)
  (case aC_NoText=>k_is)
  (case aC_NoTruth=>k_is)
  (case lC_TooMany=>k_is)
  (case lC_WorldError=>k_is)
  (case z_ValueError=>k_is)
  (case xe_TooMany=>k_exc)
  (case fa_TooMany=>k_is)
  (case fb_TooMany=>k_is)
  (case fc_TooMany=>k_is)
  (case fd_TooMany=>k_is)
  (case fe_TooMany=>k_is)
  (case ff_TooMany=>k_is)
  (case fg_TooMany=>k_is)
  (case kv_TooMany=>kit_is)
  (case ko_TooMany=>kit_is)
  (case a_MOST_WAYS=>k_is)
end
end
