import PyProof.Rows.All
import Wide.All
import OpenK.AllK
import Wide.FinOn
import Lean
import PyProof.EqAt
import PyProof.EqKinds
import PyProof.TupleCall
import PyProof.SetKind
import PyProof.SetNew
import PyProof.SetRoads
import PyProof.CollectIter
import PyProof.WalksMore
import PyProof.MakeMany
import PyProof.ZipIter
import PyProof.EnumMake
import PyProof.EnumFor
import KE.KDictOf
import KE.KEqDict
import PyProof.Rows.SortWalk
import PyProof.Rows.SortStr
import PyProof.ConsumeWalk
import KE.KItemsList
import PyProof.StrCalls
import PyProof.StrCaseBound
import PyProof.SetScanFacts
import KE.KSortTup
import PyProof.Rows.SortShellK
import PyProof.ReprRoads
import PyProof.ReprLen
import PyProof.ListRange
import PyProof.StrWalks
import PyProof.StrBlockI
import PyProof.SliceStr2
import PyProof.StrLawsIn
import KE.KDictList
import KE.KDictSum
import PyProof.FactsAll.set
import KE.KDictLaws
import PyProof.DictValues
import PyProof.DictWalks
import PyProof.TupleOfSeq
import PyProof.Draws
import PyProof.CallFns
import OpenK.KOwn
import PyProof.NsDelKeeps
import KE.KIsAll
import PyProof.ExcArgsOwn
import PyProof.Ascii
import PySem.Challenge.RW_worldsay_k46_changes_refused
open List (all_cons all_eq_true all_map any_cons any_eq_true any_map append_assoc append_nil drop_eq_getElem_cons drop_eq_nil_of_le drop_zero eq_nil_of_length_eq_zero filterMap_cons find?_cons flatten_cons getD_eq_getElem?_getD getElem?_append_right getElem?_eq_getElem getElem?_map getElem?_set_ne getElem?_set_self getElem?_toArray getElem_mem getElem_of_mem length_append length_cons length_drop length_map length_range length_replicate length_set length_take lookup_cons map_append map_congr_left map_cons map_map map_nil mem_append mem_append_right mem_cons mem_cons_of_mem mem_cons_self mem_filter mem_map mem_of_getElem? mem_range mem_singleton nodup_append nodup_cons not_mem_nil pairwise_cons pairwise_lt_range pairwise_map pairwise_singleton replicate_succ size_toArray take_add_one take_length)
open PySem.Heap (get?_push_of_some get?_push_size get?_update_self lt_size size_push)
open Option (bind_eq_some_iff bind_some isSome_map map_eq_some_iff map_some toList_some)
open Bool (and_eq_true)
open Array (getD_eq_getD_getElem? getElem?_eq_none getElem?_toList length_toList)
open Nat (le_of_lt le_refl le_succ le_trans lt_irrefl lt_of_lt_of_le lt_succ_of_lt lt_succ_self lt_trans ne_of_gt ne_of_lt not_lt zero_le)
open Int (emod_nonneg toNat_natCast)
set_option Elab.async false
set_option linter.all false
set_option maxRecDepth 100000
set_option maxHeartbeats 4000000
noncomputable section
local macro_rules | `(term| 'k') => `(by decide +kernel)
local macro_rules | `(term| 'o') => `(by omega)
local macro_rules | `(term| 'd') => `(by decide)
local macro_rules | `(term| 'a') => `(⟨rfl,rfl,rfl,'k',rfl,'k','k'⟩)
local macro_rules | `(term| 'b') => `((fun _ _=>rfl))
local macro_rules | `(term| 'c') => `((PySem.Addr × PySem.Obj))
local macro_rules | `(term| 'e') => `((le_refl _))
local macro_rules | `(term| 'f') => `((Or.inl rfl))
local macro_rules | `(term| 'g') => `((by simp))
local macro_rules | `(term| 'h') => `((List Int))
local macro_rules | `(term| 'i') => `((PySem.PyData × PySem.PyData))
local macro_rules | `(term| 'j') => `((PySem.Str × PySem.PyData))
local macro_rules | `(term| 'l') => `((fun ls Qd hq8=>by obtain⟨_,_,e,_⟩:=hq8;rw [e];rfl))
local macro_rules | `(term| 'm') => `(⟨(fun z h=>nomatch h),(fun z h=>nomatch h),fun z h=>nomatch h⟩)
local macro_rules | `(term| 'n') => `((fun ls Qd h=>by obtain⟨_,_,e,_⟩:=h;rw [e];rfl))
local macro_rules | `(term| 'p') => `((fun z=>nomatch z))
local macro_rules | `(term| 'q') => `((PySem.Str × Nat))
local macro_rules | `(term| 'r') => `((Int × PySem.Value))
section
namespace L2
open PySem PySem.Spec PyProof.Rows
abbrev Key:=Sum Int Str
noncomputable def qa7e:Key->Value->Bool
 | .inl k,v=>Value.isInt k v
 | .inr x,v=>Value.isStrOf x v
noncomputable def keyH(w:World):Key->Int
 | .inl k=>hashInt k
 | .inr x=>hashStr w x
def qa1x:∀ {k:Key} {v:Value},qa7e k v=true->(∃ i t,k=Sum.inl i/\v=Value.int i t) ∨ (∃ x t,k=Sum.inr x/\v=Value.str x t)
 | .inl i,v,h=>by
  obtain⟨t,e⟩:=Value.isInt_shape (k:=i) (v:=v) h;exact .inl ⟨i,t,rfl,e⟩
 | .inr x,v,h=>by
  obtain⟨t,e⟩:=Value.isStrOf_shape (x:=x) (v:=v) h;exact .inr ⟨x,t,rfl,e⟩
def qc5b(i:Int)(t:Tok):qa7e (.inl i) (.int i t)=true:=by simp [qa7e,Value.isInt]
def qc5c(x:Str)(t:Tok):qa7e (.inr x) (.str x t)=true:=by simp [qa7e,Value.isStrOf]
def key_ll(a b:Int):decide ((Sum.inl a:Key)=Sum.inl b)=(a == b):=by
 by_cases e:a=b
 ·subst e;simp
 ·have h:¬ (Sum.inl a:Key)=Sum.inl b:=fun q=>e (Sum.inl.inj q)
  rw [decide_eq_false h];exact(beq_eq_false_iff_ne.mpr e).symm
def key_rr(a b:Str):decide ((Sum.inr a:Key)=Sum.inr b)=decide (a=b):=by
 by_cases e:a=b
 ·subst e;simp
 ·have h:¬ (Sum.inr a:Key)=Sum.inr b:=fun q=>e (Sum.inr.inj q)
  rw [decide_eq_false h,decide_eq_false e]
def key_lr(a:Int)(b:Str):decide ((Sum.inl a:Key)=Sum.inr b)=false:=decide_eq_false (fun q=>nomatch q)
def key_rl(a:Str)(b:Int):decide ((Sum.inr a:Key)=Sum.inl b)=false:=decide_eq_false (fun q=>nomatch q)
noncomputable def qa0z(prog:Program)(w:World):PySem.KeyKind prog w Key where
 is:=qa7e
 hash:=keyH w
 inj:=fun v a b ha hb=>by
  rcases qa1x ha with⟨i,t,rfl,rfl⟩ | ⟨x,t,rfl,rfl⟩
  ·rcases qa1x hb with⟨j,u,rfl,e⟩ | ⟨y,u,rfl,e⟩
   ·injection e with e1 _;rw [e1]
   ·exact nomatch e
  ·rcases qa1x hb with⟨j,u,rfl,e⟩ | ⟨y,u,rfl,e⟩
   ·exact nomatch e
   ·injection e with e1 _;rw [e1]
 byValue:=fun k v h=>by
  rcases qa1x h with⟨i,t,rfl,rfl⟩ | ⟨x,t,rfl,rfl⟩<;>rfl
 pyHash:=fun hv h=>by
  rcases qa1x hv with⟨i,t,rfl,rfl⟩ | ⟨x,t,rfl,rfl⟩
  ·exact wpAny_pyHash_int h
  ·exact wpAny_pyHash_str h
 eqBool:=fun hu hv h=>by
  rcases qa1x hu with⟨i,t,rfl,rfl⟩ | ⟨x,t,rfl,rfl⟩
  ·rcases qa1x hv with⟨j,u,rfl,rfl⟩ | ⟨y,u,rfl,rfl⟩
   ·rw [key_ll] at h;exact wpAny_eqBool_int h
   ·rw [key_lr] at h;exact SeqAt.EqAt.int_str i t y u _ _ _ _ h
  ·rcases qa1x hv with⟨j,u,rfl,rfl⟩ | ⟨y,u,rfl,rfl⟩
   ·rw [key_rl] at h;exact SeqAt.EqAt.str_int x t j u _ _ _ _ h
   ·rw [key_rr] at h;exact wpAny_eqBool_str h
 «strs»:=fun k x t v h=>by
  rcases qa1x h with⟨i,u,rfl,e⟩ | ⟨y,u,rfl,e⟩
  ·exact nomatch e
  ·injection e with e1 _
   subst e1;cases v<;>rfl
def qc0c(prog:Program)(w:World)(i:Int)(t:Tok):(qa0z prog w).is (.inl i) (.int i t)=true:=qc5b i t
def qb2b(prog:Program)(w:World)(x:Str)(t:Tok):(qa0z prog w).is (.inr x) (.str x t)=true:=qc5c x t
end L2
namespace L2
open PySem PySem.Spec PyProof.Rows
inductive V where
 | non | bl (b:Bool) | int (i:Int) | str (x:Str) | byt (b:Array UInt8) | flt (b:UInt64) | ref (a:Addr) | ty (n:String)
 deriving DecidableEq
noncomputable def RelV:V->Value->Prop
 | .non,u=>u=Value.none
 | .bl b,u=>u=Value.bool b
 | .int i,u=>∃ t,u=Value.int i t
 | .str x,u=>∃ t,u=Value.str x t
 | .byt b,u=>∃ t,u=Value.bytes b t
 | .flt b,u=>∃ t,u=Value.float b t
 | .ref a,u=>u=Value.ref a
 | .ty n,u=>u=Value.type n
abbrev Vals:List V->List Value->Prop:=Paired RelV
def Vals.length{xs:List V}{us:List Value}(r:Vals xs us):xs.length=us.length:=Paired.length r
def Vals.get:∀ {xs:List V} {us:List Value} {i:Nat} {x:V},Vals xs us->xs[i]? = some x->∃ u,us[i]? = some u/\RelV x u
 | _,_,_,_,.nil,e=>by simp at e
 | _,_,0,_,.cons r _,e=>by simp at e;subst e;exact⟨_,rfl,r⟩
 | _,_,i + 1,x,.cons _ t,e=>by
  obtain⟨u,h1,h2⟩:=Vals.get (i:=i) (x:=x) t (by simpa using e);exact⟨u,by simpa using h1,h2⟩
def Vals.set{x:V}{u:Value}(r:RelV x u):∀ {xs:List V} {us:List Value} (i:Nat),Vals xs us->Vals (xs.set i x) (us.set i u)
 | _,_,_,.nil=>.nil
 | _,_,0,.cons _ t=>.cons r t
 | _,_,i + 1,.cons q t=>.cons q (Vals.set r i t)
def Vals.append:∀ {xs ys:List V} {us ws:List Value},Vals xs us->Vals ys ws->Vals (xs ++ ys) (us ++ ws)
 | _,_,_,_,.nil,s=>s
 | _,_,_,_,.cons r t,s=>.cons r (Vals.append t s)
def Vals.take:∀ {xs:List V} {us:List Value} (n:Nat),Vals xs us->Vals (xs.take n) (us.take n)
 | _,_,0,_=>.nil
 | _,_,_ + 1,.nil=>.nil
 | _,_,n + 1,.cons r t=>.cons r (Vals.take n t)
def Vals.drop:∀ {xs:List V} {us:List Value} (n:Nat),Vals xs us->Vals (xs.drop n) (us.drop n)
 | _,_,0,r=>r
 | _,_,_ + 1,.nil=>.nil
 | _,_,n + 1,.cons _ t=>Vals.drop n t
noncomputable def RelO:Option V->Option Value->Prop
 | some v,some u=>RelV v u
 | none,none=>True
 | _,_=>False
noncomputable def KV{κ:Type}:List (κ × V)->List (κ × Value)->Prop:=Paired fun(p:κ × V) (q:κ × Value)=>p.1=q.1/\RelV p.2 q.2
noncomputable def kV:Key->V
 | .inl i=>.int i
 | .inr x=>.str x
inductive HO where
 /-- a list -/
 | lst (xs:List V)
 /-- a tuple (never changes) -/
 | tup (xs:List V)
 /-- a dict whose keys are ints and texts; one whose keys are tuples of ints and texts (the empty one is both) -/
 | dK (kvs:List (Key × V)) | dT (kvs:List (List Key × V))
 /-- a set of ints: its members, its size -/
 | set (S:Int->Bool) (n:Nat)
 /-- an instance of the class at C, its dict at dx, its attributes -/
 | ins (C dx:Addr) (fs:List (Str × V))
 /-- the dict of the instance at x -/
 | own (x:Addr)
 /-- the dict of an exception -/
 | xd (fs:List (Str × V))
 /-- a bound method, f of x -/
 | met (f x:Addr)
 /-- a range object lo, lo + 1, .. below hi -/
 | rng (lo hi:Int)
 /-- a thing that is known to the object (the script; a dict while a loop walks it): read, never written while it is so -/
 | frz (o:Obj) (u:HO)
 /-- a code object's table -/
 | tbl (ps:Array Value)
 /-- any other thing, by what is true of its one object (a def of one's own: SetO a S n := HO.ext fun h => ..) -/
 | ext (φ:Heap->Prop)
abbrev Hp:=Addr->Option HO
noncomputable def upd(H:Hp)(a:Addr)(o:HO):Hp:=fun b=>if b=a then some o else H b
def qa0h{H:Hp}{a:Addr}{o:HO}:upd H a o a=some o:=by unfold upd;rw [if_pos rfl]
def qa0f{H:Hp}{a b:Addr}{o:HO}(h:b ≠ a):upd H a o b=H b:=by unfold upd;rw [if_neg h]
def qa7f{H:Hp}{a b:Addr}{o u:HO}(h:H a=some o)(h':H b=some u)(d:o ≠ u):a ≠ b:=by
 intro e;subst e;rw [h] at h';exact d (Option.some.inj h')
def qa1q{H:Hp}{a b:Addr}{o:HO}(h:H a=some o)(h':H b=none):a ≠ b:=by
 intro e;subst e;rw [h] at h';cases h'
def qa3y(h:Heap)(a:Addr)(items:Array Value):Prop:=∃ o,h.get? a=some o/\(o.cls=.type "tuple" /\ o.dict=none)/\∃ n,o.data=.seq items n
def qa3y.tup{h:Heap}{a:Addr}{items:Array Value}(x:qa3y h a items):IsTup h a items:=by obtain⟨o,e,c,n,d⟩:=x;exact⟨o,e,c.1,n,d⟩
def qa3y.new(h:Heap)(xs:Array Value):qa3y (h.push { cls:=.type "tuple",data:=.seq xs }) h.objs.size xs:=⟨_,get?_push_size _ rfl,⟨rfl,rfl⟩,_,rfl⟩
section
variable(P:Program)(w:World)
noncomputable def qa1j(H:Hp)(h:Heap)(a:Addr):HO->Prop
 | .lst xs=>xs.length <= sizeLine/\∃ (its:List Value) (n:Nat),Vals xs its/\h.get? a=some { cls:=.type "list",data:=.seq its.toArray n }
 | .tup xs=>xs.length <= sizeLine/\∃ its:List Value,Vals xs its/\qa3y h a its.toArray
 | .dK kvs=>kvs.length <= sizeLine/\(a == sysModules)=false/\∃ vs,KV kvs vs/\h.DictOf (qa0z P w) a vs
 | .dT kvs=>kvs.length <= sizeLine/\(a == sysModules)=false/\∃ xs:List (List Key × Addr × Value),
   Paired (fun(p:List Key × V) (q:List Key × Addr × Value)=>p.1=q.1/\H q.2.1=some (.tup (p.1.map kV))/\RelV p.2 q.2.2) kvs xs /\
   ∃ o es ep,h.get? a=some o/\o.ExactDict/\o.data=.dict es ep/\es.toList=xs.map (entryOfKey (tupleKind (qa0z P w)))/\(xs.map (·.1)).Nodup
 | .set S n=>h.SetOf (intKind P w) a S n
 | .ins C dx fs=>H dx=some (.own a)/\fs.length <= 1000/\dx ≠ a/\h.get? a=some (PySem.W.instObj C dx) /\
   ∃ mA,h.Ns1 dx mA/\(∀ f,RelO (fs.lookup f) (mA f))/\PySem.Within mA (fs.map (·.1))
 | .own _=>∃ o,h.get? a=some o
 | .xd fs=>∃ mA,h.Ns1 a mA/\∀ f,RelO (fs.lookup f) (mA f)
 | .rng lo hi=>∃ t u v,h.get? a=some { cls:=.type "range",data:=.fields #[.int lo t,.int hi u,.int 1 v] }
 | .frz o u=>h.get? a=some o/\qa1j H h a u
 | .tbl ps=>h.get? a=some { cls:=.none,data:=.fields ps }
 | .met f x=>h.get? a=some (PySem.W.methodObj (.ref f) (.ref x))
 | .ext φ=>φ h/\(∃ o,h.get? a=some o)/\∀ h1 h2:Heap,φ h1->(∀ o,h1.get? a=some o->h2.get? a=some o)->φ h2
def HOk(H:Hp)(h:Heap):Prop:=∀ a o,H a=some o->qa1j P w H h a o
end
section
variable{P:Program}{w:World}{H H':Hp}{h h':Heap}{a:Addr}{o:HO}
def qa1j.lt(x:qa1j P w H h a o):a < h.objs.size:=by
 cases o with
 | lst xs=>obtain⟨_,_,_,_,e⟩:=x;exact lt_size e
 | tup xs=>obtain⟨_,_,_,p⟩:=x;exact p.tup.lt
 | dK kvs=>obtain⟨_,_,_,_,o,_,_,e,_⟩:=x;exact lt_size e
 | dT kvs=>obtain⟨_,_,_,_,o,_,_,e,_⟩:=x;exact lt_size e
 | set S n=>obtain⟨o,_,_,_,e,_⟩:=x;exact lt_size e
 | ins C dx fs=>obtain⟨_,_,_,e,_⟩:=x;exact lt_size e
 | own y=>obtain⟨_,e⟩:=x;exact lt_size e
 | xd fs=>obtain⟨_,⟨_,_,_,e,_⟩,_⟩:=x;exact lt_size e
 | rng lo hi=>obtain⟨_,_,_,e⟩:=x;exact lt_size e
 | frz ob u=>obtain⟨e,_⟩:=x;exact lt_size e
 | tbl ps=>exact lt_size (show h.get? a=some _ from x)
 | met f y=>exact lt_size (show h.get? a=some _ from x)
 | ext φ=>obtain⟨_,⟨_,e⟩,_⟩:=x;exact lt_size e
def Paired.mapP{α β:Type}{F G:α->β->Prop}:∀ {l₁:List α} {l₂:List β},Paired F l₁ l₂->(∀ a b,F a b->G a b)->Paired G l₁ l₂
 | _,_,.nil,_=>.nil
 | _,_,.cons r t,f=>.cons (f _ _ r) (Paired.mapP t f)
def Paired.imp'{α β:Type}{F G:α->β->Prop}(f:∀ a b,F a b->G a b){l₁:List α}{l₂:List β}(r:Paired F l₁ l₂):Paired G l₁ l₂:=Paired.mapP r f
def qa1j.stay(x:qa1j P w H h a o)(k:∀ b u,(b=a ∨ H b=some (.own a))->h.get? b=some u->h'.get? b=some u)
  (ho:∀ b,H b=some (.own a)->H' b=some (.own a)) (ht:∀ b xs,H b=some (.tup xs)->H' b=some (.tup xs)):qa1j P w H' h' a o:=by
 induction o with
 | lst xs=>obtain⟨z,its,n,r,e⟩:=x;exact⟨z,its,n,r,k _ _ (.inl rfl) e⟩
 | tup xs=>obtain⟨z,its,r,ob,e,c⟩:=x;exact⟨z,its,r,ob,k _ _ (.inl rfl) e,c⟩
 | dK kvs=>obtain⟨z,y,vs,r,ob,es,ep,e,c⟩:=x;exact⟨z,y,vs,r,ob,es,ep,k _ _ (.inl rfl) e,c⟩
 | dT kvs =>
  obtain⟨z,y,xs,r,ob,es,ep,e,c⟩:=x;exact⟨z,y,xs,Paired.mapP r fun p q z=>⟨z.1,ht _ _ z.2.1,z.2.2⟩,ob,es,ep,k _ _ (.inl rfl) e,c⟩
 | set S n=>obtain⟨ob,es,ep,t,e,c⟩:=x;exact⟨ob,es,ep,t,k _ _ (.inl rfl) e,c⟩
 | ins C dx fs =>
  obtain⟨d,z,ne,e,mA,⟨od,es,ep,e2,c⟩,r⟩:=x;exact⟨ho _ d,z,ne,k _ _ (.inl rfl) e,mA,⟨od,es,ep,k _ _ (.inr d) e2,c⟩,r⟩
 | own y=>obtain⟨ob,e⟩:=x;exact⟨ob,k _ _ (.inl rfl) e⟩
 | xd fs=>obtain⟨mA,⟨od,es,ep,e,c⟩,r⟩:=x;exact⟨mA,⟨od,es,ep,k _ _ (.inl rfl) e,c⟩,r⟩
 | rng lo hi=>obtain⟨t,u,v,e⟩:=x;exact⟨t,u,v,k _ _ (.inl rfl) e⟩
 | frz ob u ih=>obtain⟨e,q⟩:=x;exact⟨k _ _ (.inl rfl) e,ih q⟩
 | tbl ps =>
  have e:h.get? a=some { cls:=.none,data:=.fields ps }:=x;show h'.get? a=some { cls:=.none,data:=.fields ps };exact k a _ (.inl rfl) e
 | met f y =>
  have e:h.get? a=some (PySem.W.methodObj (.ref f) (.ref y)):=x;show h'.get? a=some (PySem.W.methodObj (.ref f) (.ref y));exact k a _ (.inl rfl) e
 | ext φ=>obtain⟨p,⟨o,e⟩,st⟩:=x;exact⟨st _ _ p fun o q=>k _ _ (.inl rfl) q,⟨o,k _ _ (.inl rfl) e⟩,st⟩
def HOk.lt(x:HOk P w H h)(e:H a=some o):a < h.objs.size:=(x a o e).lt
def HOk.fresh(x:HOk P w H h)(e:h.objs.size <= a):H a=none:=by
 cases q:H a with
 | none=>rfl
 | some u=>exact absurd (lt_of_lt_of_le (x.lt q) e) (lt_irrefl _)
def HOk.kept(x:HOk P w H h)(k:∀ b u,h.get? b=some u->h'.get? b=some u):HOk P w H h':=fun a o e =>
 (x a o e).stay (fun b u _ q=>k b u q) (fun _ q=>q) fun _ _ q=>q
def HOk.laid(x:HOk P w H h)(k:∀ b u,h.get? b=some u->h'.get? b=some u)(hp:h.objs.size <= a)(new:qa1j P w (upd H a o) h' a o):HOk P w (upd H a o) h':=fun b u e=>by
 have hn:=x.fresh hp;by_cases hb:b=a
 ·subst hb;rw [qa0h] at e;cases e;exact new
 ·rw [qa0f hb] at e
  exact(x b u e).stay (fun c v _ q=>k c v q) (fun c q=>by rw [qa0f (qa1q q hn)];exact q) fun c xs q=>by rw [qa0f (qa1q q hn)];exact q
end
def Rd(H:Hp)(a:Addr)(u:HO):Prop:=H a=some u ∨ ∃ o,H a=some (.frz o u)
def Rd.ok{P:Program}{w:World}{H:Hp}{h:Heap}{a:Addr}{u:HO}(r:Rd H a u)(x:HOk P w H h):qa1j P w H h a u:=by
 rcases r with r | ⟨o,r⟩
 ·exact x a u r
 ·obtain⟨_,q⟩:=x a _ r
  exact q
noncomputable def Mut:Option HO->Prop
 | some (.lst _)=>True
 | some (.dK _)=>True
 | some (.dT _)=>True
 | some (.set _ _)=>True
 | some (.ins _ _ _)=>True
 | some (.ext _)=>True
 | _=>False
section
variable{P:Program}{w:World}{H:Hp}{h h':Heap}{x e:Addr}{o':HO}
def HOk.write(ok:HOk P w H h)(mu:Mut (H x))(he:e=x ∨ H e=some (.own x))(k:∀ b u,b ≠ e->h.get? b=some u->h'.get? b=some u)(heo:∃ u,h'.get? e=some u)
  (new:qa1j P w (upd H x o') h' x o'):HOk P w (upd H x o') h':=fun b u q=>by
 have nown:∀ c y,H c=some (.own y)->c ≠ x:=fun c y r z=>by subst z;rw [r] at mu;exact mu
 have ntup:∀ c xs,H c=some (.tup xs)->c ≠ x:=fun c xs r z=>by subst z;rw [r] at mu;exact mu
 by_cases hb:b=x
 ·subst hb;rw [qa0h] at q;cases q;exact new
 ·rw [qa0f hb] at q
  by_cases hbe:b=e
  ·have q':H b=some (.own x):=by
    rcases he with z | z
    ·exact absurd (hbe.trans z) hb
    ·rw [hbe];exact z
   rw [q] at q';cases q';obtain⟨v,hv⟩:=heo;exact⟨v,by rw [hbe];exact hv⟩
  ·refine(ok b u q).stay (fun c v hc r=>k c v ?_ r) (fun c r=>by rw [qa0f (nown c b r)];exact r) fun c xs r=>by rw [qa0f (ntup c xs r)];exact r
   rcases hc with rfl | hc
   ·exact hbe
   ·rintro rfl
    rcases he with z | z
    ·exact nown c b hc z
    ·rw [hc] at z;cases z;exact hb rfl
end
structure Un(fs ex:List Addr)(H H':Hp)(h h':Heap):Prop where
 keep:∀ b o,h.get? b=some o->H b=none->b ∉ fs->b ∉ ex->h'.get? b=some o
 slot:∀ b o,h.get? b=some o->H b=none->b ∈ fs->b ∉ ex->∃ sl,h'.get? b=some { o with slots:=sl }
 free:∀ b o,h.get? b=some o->H b=none->b ∉ ex->H' b=none
 there:∀ b o,h.get? b=some o->b ∉ ex->∃ o',h'.get? b=some o'
 tups:∀ b xs,H b=some (.tup xs)->H' b=some (.tup xs)
 frzs:∀ b o u,H b=some (.frz o u)->H' b=some (.frz o u)
 tbls:∀ b ps,H b=some (.tbl ps)->∃ more,H' b=some (.tbl (ps ++ more))
section
variable{fs fs' ex ex':List Addr}{H H1 H2:Hp}{h h1 h2 h':Heap}{a x e:Addr}{o:HO}
def Un.any(u:Un fs ex H H1 h h1){b:Addr}{ob:Obj}(q:h.get? b=some ob)(n:H b=none)(hx:b ∉ ex):∃ sl,h1.get? b=some { ob with slots:=sl }:=by
 by_cases hb:b ∈ fs
 ·exact u.slot b ob q n hb hx
 ·exact⟨ob.slots,u.keep b ob q n hb hx⟩
def Un.kept(k:∀ b u,h.get? b=some u->h'.get? b=some u):Un fs ex H H h h':=
 ⟨fun b ob q _ _ _=>k b ob q,fun b ob q _ _ _=>⟨ob.slots,k b ob q⟩,fun _ _ _ n _=>n,fun b ob q _=>⟨ob,k b ob q⟩,fun _ _ q=>q,fun _ _ _ q=>q,fun _ ps q=>⟨#[],by rw [q];simp⟩⟩
def Un.refl:Un fs ex H H h h:=Un.kept fun _ _ q=>q
def Un.laid(k:∀ b u,h.get? b=some u->h'.get? b=some u)(hp:h.objs.size <= a)(hn:H a=none):Un fs ex H (upd H a o) h h' where
 keep:=fun b u q _ _ _=>k b u q
 slot:=fun b u q _ _ _=>⟨u.slots,k b u q⟩
 free:=fun b u q n _=>by rw [qa0f (ne_of_lt (lt_of_lt_of_le (lt_size q) hp))];exact n
 there:=fun b u q _=>⟨u,k b u q⟩
 tups:=fun b xs q=>by rw [qa0f (qa1q q hn)];exact q
 frzs:=fun b u xs q=>by rw [qa0f (qa1q q hn)];exact q
 tbls:=fun b ps q=>⟨#[],by rw [qa0f (qa1q q hn),q];simp⟩
def Un.write(mu:Mut (H x))(he:e=x ∨ H e=some (.own x))(k:∀ b u,b ≠ e->h.get? b=some u->h'.get? b=some u)(heo:∃ u,h'.get? e=some u):Un fs ex H (upd H x o) h h':=by
 have hx:∀ b,H b=none->b ≠ x:=fun b n z=>by subst z;rw [n] at mu;exact mu
 have hb:∀ b,H b=none->b ≠ e:=fun b n z=>by
  subst z;rcases he with r | r
  ·exact hx b n r
  ·rw [n] at r;cases r
 have hm:∀ b u,H b=some u->¬ Mut (some u)->b ≠ x:=fun b u q nm z=>by subst z;rw [q] at mu;exact nm mu
 refine⟨fun b u q n _ _=>k b u (hb b n) q,fun b u q n _ _=>⟨u.slots,k b u (hb b n) q⟩,fun b u q n _=>by rw [qa0f (hx b n)];exact n,fun b u q _=>?_,
  fun b xs q=>by rw [qa0f (hm b _ q fun z=>z)];exact q,fun b u xs q=>by rw [qa0f (hm b _ q fun z=>z)];exact q,fun b ps q=>⟨#[],by rw [qa0f (hm b _ q fun z=>z),q];simp⟩⟩
 by_cases hbe:b=e
 ·subst hbe;exact heo
 ·exact⟨u,k b u hbe q⟩
end
noncomputable def trk(h:Heap)(H:Hp):List Addr:=(List.range h.objs.size).filter fun a=>(H a).isSome
noncomputable def hidT(h:Heap)(H:Hp):Heap:=PySem.W.hideAll h (trk h H)
def qc5d(h:Heap)(H:Hp):(hidT h H).objs.size=h.objs.size:=PySem.W.hideAll_size _ _
def qc7r{h:Heap}{H:Hp}{b:Addr}{o:Obj}(e:h.get? b=some o)(n:H b=none):(hidT h H).get? b=some o:=
 PySem.W.hideAll_get _ e fun hm=>by
  have q:(H b).isSome=true:=(mem_filter.mp hm).2;rw [n] at q;simp at q
def of_hidT{h:Heap}{H:Hp}{b:Addr}{o:Obj}(e:(hidT h H).get? b=some o):h.get? b=some o/\H b=none:=by
 have e':h.get? b=some o:=PySem.W.of_hideAll (trk h H) e;refine⟨e',?_⟩;cases q:H b with
 | none=>rfl
 | some x =>
  have hm:b ∈ trk h H:=mem_filter.mpr ⟨mem_range.mpr (lt_size e'),by simp [q]⟩;have z:(hidT h H).get? b=none:=PySem.W.hideAll_none (trk h H) hm;rw [z] at e;cases e
noncomputable def allNews(g h:Heap)(L:Addr):List 'c':=(List.range h.objs.size).filterMap fun a=>if a=L ∨ (g.get? a).isSome=true then none else(h.get? a).map fun o=>(a,o)
noncomputable def rest(g h:Heap)(L d:Addr):List 'c':=(allNews g h L).filter fun p=>decide (p.1 ≠ d)
end L2
namespace L2
open PySem PySem.Spec PyProof.Rows
structure Mod(K:W.Frag)(mg:Str->Option Value)(base:Heap):Prop where
 kin:K.In base
 glob:base.Ns mainGlobals mg
 blt:∃ mb,base.Ns builtinsNs mb/\∀ x:Str,x ≠ "__name__" -> mb x=bootBuiltins x
 nolimit:base.NoLimit
structure Cx where
 prog:Program
 w:World
 K:W.Frag
 mg:Str->Option Value
 base:Heap
 A:Around
 N:List Str
 s₀:Shared
 H₀:Hp
 env:Env
 outer:List Env
 stack:List Env
 ex:List Addr
 fn:Str->Bool
 calm:Bool
 pn:List 'c'
 xe:Value->Shared->Prop
noncomputable def frs(l:List Env):List Addr:=l.filterMap (·.frame)
abbrev Cx.fs(X:Cx):List Addr:=frs X.outer
def Vis(sc:Scope)(x:Str):Prop:=sc.names.lookup x=some .local ∨ sc.names.lookup x=some .cell ∨ sc.names.lookup x=some .free
def Loc(sc:Scope)(x:Str):Prop:=sc.names.lookup x=some .local ∨ sc.names.lookup x=some .cell
def Look(env:Env)(h:Heap)(m:Str->Option Value)(x:Str)(u:Value):Prop:=
 (env.kindOf x=some .local/\m x=some u) ∨ ((env.kindOf x=some .cell ∨ env.kindOf x=some .free)/\∃ c,env.cells.lookup x=some c/\h.IsCell c (some u))
structure Cx.Ok(X:Cx):Prop where
 mod:Mod X.K X.mg X.base
 kind:X.env.scope.kind=.function
 glob:X.env.globals=mainGlobals
 blt:X.env.builtins=builtinsNs
 above:X.s₀.heap.objs.size <= X.env.locals
 inj:∀ x y c,X.env.cells.lookup x=some c->X.env.cells.lookup y=some c->x=y
 has:∀ x,(X.env.kindOf x=some .cell ∨ X.env.kindOf x=some .free)->∃ c,X.env.cells.lookup x=some c
 cab:∀ x c,X.fn x=true->X.env.cells.lookup x=some c->X.s₀.heap.objs.size <= c
 hd:X.calm=true->X.A.handled=none
 frames:X.A.frames=some X.stack
 stk:X.stack=X.outer ∨ (X.stack=X.env :: X.outer/\X.env.frame=some X.env.locals)
 exf:∀ b ∈ X.ex,b ≠ X.env.locals/\∀ x c,X.env.cells.lookup x=some c->c ≠ b
 bs:∀ b o,X.base.get? b=some o->X.s₀.heap.get? b=some o/\X.H₀ b=none
 bsz:X.base.objs.size <= X.s₀.heap.objs.size
 noex:∀ b o,X.base.get? b=some o->b ∉ X.ex
 exfs:∀ b ∈ X.ex,b ∉ X.fs
 funs:X.s₀.heap.FunFrames X.base X.outer
 frf:∀ b ∈ X.fs,X.H₀ b=none
structure Inv(X:Cx)(pins:List 'c')(σ:List (Option V))(H:Hp)(s:Shared):Prop where
 ok:X.Ok
 os:s.os=X.s₀.os
 bare:AllBare s.gens
 base:Un X.fs X.ex X.H₀ H X.s₀.heap s.heap
 loc:∃ m,s.heap.Ns X.env.locals m/\∀ (i:Nat) (x:Str) (v:V),X.N[i]? = some x->σ[i]? = some (some v)->Vis X.env.scope x->∃ u,RelV v u/\Look X.env s.heap m x u
 cell:∀ x c,X.env.cells.lookup x=some c->∃ v,s.heap.IsCell c v
 free:H X.env.locals=none
 freeC:∀ x c,X.env.cells.lookup x=some c->H c=none
 pin:∀ p ∈ X.pn ++ pins,s.heap.get? p.1=some p.2/\H p.1=none/\p.1 ≠ X.env.locals/\p.1 ∉ X.fs/\∀ v,p.2.data ≠ .cell v
 hok:HOk X.prog X.w H s.heap
 len:σ.length=X.N.length
section
variable{X:Cx}{pins:List 'c'}{σ:List (Option V)}{H H':Hp}{s:Shared}{h':Heap}
def Cx.Ok.nofr(ok:X.Ok){b:Addr}{o:Obj}(e:X.base.get? b=some o):b ∉ X.fs:=fun hb=>by
 have:=(ok.funs.mem hb).1;rw [e] at this;cases this
def Inv.bs(I:Inv X pins σ H s):∀ b o,X.base.get? b=some o->s.heap.get? b=some o/\H b=none:=fun b o e =>
 ⟨I.base.keep b o (I.ok.bs b o e).1 (I.ok.bs b o e).2 (I.ok.nofr e) (I.ok.noex b o e),I.base.free b o (I.ok.bs b o e).1 (I.ok.bs b o e).2 (I.ok.noex b o e)⟩
def Inv.bk(I:Inv X pins σ H s):∀ b o,X.base.get? b=some o->s.heap.get? b=some o:=fun b o e=>(I.bs b o e).1
def Inv.mod(I:Inv X pins σ H s):Mod X.K X.mg X.base:=I.ok.mod
def Inv.kIn(I:Inv X pins σ H s):X.K.In s.heap:=I.ok.mod.kin.keeps I.bk
def Inv.lt(I:Inv X pins σ H s):X.env.locals < s.heap.objs.size:=by obtain⟨_,hn,_⟩:=I.loc;exact hn.lt
def Inv.sz(I:Inv X pins σ H s):X.s₀.heap.objs.size <= s.heap.objs.size:=le_trans I.ok.above (le_of_lt I.lt)
def Inv.nofs(I:Inv X pins σ H s){a:Addr}(h:s.heap.objs.size <= a):a ∉ X.fs:=fun hb=>by
 obtain⟨_,o,ho,_⟩:=I.ok.funs.mem hb;exact absurd (lt_of_lt_of_le (lt_size ho) (le_trans I.sz h)) (lt_irrefl _)
def Inv.cne(I:Inv X pins σ H s):∀ x c,X.env.cells.lookup x=some c->c ≠ X.env.locals:=fun x c e z=>by
 obtain⟨v,o,ho,hd⟩:=I.cell x c e;obtain⟨m,⟨o',es,ep,ho',hd',_⟩,_⟩:=I.loc;rw [z,ho'] at ho;cases ho;rw [hd'] at hd;cases hd
def Inv.funs(I:Inv X pins σ H s):s.heap.FunFrames X.base X.outer:=by
 have all:∀ (l:List Env),(∀ b ∈ frs l,b ∈ X.fs)->X.s₀.heap.FunFrames X.base l->s.heap.FunFrames X.base l:=by
  intro l;induction l with
  | nil=>intro _ _;trivial
  | cons env r ih =>
   intro hs hl;obtain⟨hk,⟨L,o,hf,hn,ho,hd⟩,hr⟩:=hl;have hL:L ∈ X.fs:=hs L (by unfold frs;rw [filterMap_cons,hf];exact mem_cons_self);obtain⟨sl,e⟩:=I.base.slot L o ho (I.ok.frf L hL) hL fun z=>I.ok.exfs L z hL;exact⟨hk,⟨L,_,hf,hn,e,hd⟩,ih (fun b hb=>hs b (by unfold frs;rw [filterMap_cons,hf];exact mem_cons_of_mem _ hb)) hr⟩
 exact all X.outer (fun _ hb=>hb) I.ok.funs
def Inv.stack(I:Inv X pins σ H s):s.heap.FunFrames X.base X.stack:=by
 rcases I.ok.stk with e | ⟨e,hf⟩
 ·rw [e];exact I.funs
 ·rw [e]
  obtain⟨m,hn,_⟩:=I.loc;refine .cons (by rw [I.ok.kind];decide) hf hn ?_ I.funs;exact Heap.get?_none_of_le (le_trans I.ok.bsz I.ok.above)
def Inv.stkSub(I:Inv X pins σ H s):∀ b ∈ frs X.stack,b ∈ X.env.locals :: X.fs:=fun b hb=>by
 rcases I.ok.stk with e | ⟨e,hf⟩
 ·rw [e] at hb;exact mem_cons_of_mem _ hb
 ·rw [e] at hb
  unfold frs at hb;rw [filterMap_cons,hf] at hb;exact hb
def Inv.stkFree(I:Inv X pins σ H s):∀ b ∈ frs X.stack,H b=none:=fun b hb=>by
 rcases mem_cons.mp (I.stkSub b hb) with e | hb
 ·rw [e];exact I.free
 ·obtain⟨_,o,ho,_⟩:=I.ok.funs.mem hb
  exact I.base.free b o ho (I.ok.frf b hb) fun z=>I.ok.exfs b z hb
def Inv.step{g':Array GenState}{t':Nat}{d':Drawn}{ch:List Addr}(I:Inv X pins σ H s)
  (hch:∀ b ∈ ch,(b ∈ X.ex ∨ X.s₀.heap.objs.size <= b)/\b ≠ X.env.locals/\(∀ x c,X.env.cells.lookup x=some c->c ≠ b)/\∀ p ∈ X.pn ++ pins,p.1 ≠ b)
  (keep:∀ b o,b ≠ X.env.locals->b ∉ X.fs->b ∉ ch->s.heap.get? b=some o->H b=none->h'.get? b=some o)
  (slot:∀ b o,b ≠ X.env.locals->b ∈ X.fs->b ∉ ch->s.heap.get? b=some o->H b=none->∃ sl,h'.get? b=some { o with slots:=sl }) (free:∀ b o,b ∉ ch->s.heap.get? b=some o->H b=none->H' b=none)
  (there:∀ b o,b ∉ ch->s.heap.get? b=some o->∃ o',h'.get? b=some o')
  (tups:∀ b xs,H b=some (.tup xs)->H' b=some (.tup xs)) (frzs:∀ b o u,H b=some (.frz o u)->H' b=some (.frz o u)) (tbls:∀ b ps,H b=some (.tbl ps)->∃ more,H' b=some (.tbl (ps ++ more)))
  (ns:∀ m,s.heap.Ns X.env.locals m->h'.Ns X.env.locals m) (hok:HOk X.prog X.w H' h') (hg:AllBare g') :
  Inv X pins σ H' { s with heap:=h',gens:=g',drawn:=d',toks:=t' }:=by
 have neL:∀ b o,X.s₀.heap.get? b=some o->b ≠ X.env.locals:=fun b o e=>ne_of_lt (lt_of_lt_of_le (lt_size e) I.ok.above);have neC:∀ b o,X.s₀.heap.get? b=some o->b ∉ X.ex->b ∉ ch:=fun b o e hx hb=>by
  rcases (hch b hb).1 with z | z
  ·exact hx z
  ·exact absurd (lt_of_lt_of_le (lt_size e) z) (lt_irrefl _)
 have cellK:∀ x c,X.env.cells.lookup x=some c->∀ v,s.heap.IsCell c v->h'.IsCell c v:=fun x c e v hq8=>by
  obtain⟨o,ho,hd⟩:=hq8;have nch:c ∉ ch:=fun z=>(hch c z).2.2.1 x c e rfl;by_cases hc:c ∈ X.fs
  ·obtain⟨sl,q⟩:=slot c o (I.cne x c e) hc nch ho (I.freeC x c e)
   exact⟨_,q,hd⟩
  ·exact⟨o,keep c o (I.cne x c e) hc nch ho (I.freeC x c e),hd⟩
 refine⟨I.ok,I.os,hg,⟨fun b o e n hb hx=>?_,fun b o e n hb hx=>?_,fun b o e n hx=>?_,fun b o e hx=>?_,fun b xs e=>tups b xs (I.base.tups b xs e),fun b o xs e=>frzs b o xs (I.base.frzs b o xs e),fun b ps e=>?_⟩,?_,fun x c e=>?_,?_,fun x c e=>?_,fun p hp=>?_,hok,I.len⟩
 ·exact keep b o (neL b o e) hb (neC b o e hx) (I.base.keep b o e n hb hx) (I.base.free b o e n hx)
 ·obtain⟨sl,e1⟩:=I.base.slot b o e n hb hx
  obtain⟨sl',e2⟩:=slot b _ (neL b o e) hb (neC b o e hx) e1 (I.base.free b o e n hx);exact⟨sl',e2⟩
 ·obtain⟨o',e1⟩:=I.base.there b o e hx
  exact free b o' (neC b o e hx) e1 (I.base.free b o e n hx)
 ·obtain⟨o',e1⟩:=I.base.there b o e hx
  exact there b o' (neC b o e hx) e1
 ·obtain⟨m1,e1⟩:=I.base.tbls b ps e
  obtain⟨m2,e2⟩:=tbls b _ e1;exact⟨m1 ++ m2,by rw [e2,Array.append_assoc]⟩
 ·obtain⟨m,hn,hl⟩:=I.loc
  refine⟨m,ns m hn,fun i x v e1 e2 e3=>?_⟩;obtain⟨u,r,l⟩:=hl i x v e1 e2 e3;refine⟨u,r,?_⟩;rcases l with l | ⟨k,c,e,z⟩
  ·exact .inl l
  ·exact .inr ⟨k,c,e,cellK x c e _ z⟩
 ·obtain⟨v,z⟩:=I.cell x c e
  exact⟨v,cellK x c e v z⟩
 ·obtain⟨m,⟨o,_,_,ho,_⟩,_⟩:=I.loc
  exact free _ o (fun z=>(hch _ z).2.1 rfl) ho I.free
 ·obtain⟨v,o,ho,hd⟩:=I.cell x c e
  exact free c o (fun z=>(hch c z).2.2.1 x c e rfl) ho (I.freeC x c e)
 ·obtain⟨e,n,ne,nf,d⟩:=I.pin p hp
  have nch:p.1 ∉ ch:=fun z=>(hch p.1 z).2.2.2 p hp rfl;exact⟨keep p.1 p.2 ne nf nch e n,free p.1 p.2 nch e n,ne,nf,d⟩
def Inv.un{t':Nat}(I:Inv X pins σ H s)(u:Un X.fs [] H H' s.heap h')(hok:HOk X.prog X.w H' h'):Inv X pins σ H' { s with heap:=h',toks:=t' }:=by
 obtain⟨m,⟨o,es,ep,ho,r⟩,_⟩:=id I.loc;obtain⟨sl,hL⟩:=u.any ho I.free 'g';exact I.step (g':=s.gens) (d':=s.drawn) (ch:=[]) (fun _ z=>nomatch z) (fun b o _ hb _ e n=>u.keep b o e n hb 'g') (fun b o _ hb _ e n=>u.slot b o e n hb 'g') (fun b o _ e n=>u.free b o e n 'g') (fun b o _ e=>u.there b o e 'g') u.tups u.frzs u.tbls (fun m' hm=>by
  obtain⟨o',es',ep',ho',r'⟩:=hm;rw [ho] at ho';cases ho';exact⟨_,es',ep',hL,r'⟩) hok I.bare
def Inv.call{g':Array GenState}{t':Nat}{d':Drawn}{ch:List Addr}(I:Inv X pins σ H s)(u:Un (frs X.stack) ch H H' s.heap h')(hok:HOk X.prog X.w H' h')(hg:AllBare g')
  (hch:∀ b ∈ ch,(b ∈ X.ex ∨ X.s₀.heap.objs.size <= b)/\b ≠ X.env.locals/\(∀ x c,X.env.cells.lookup x=some c->c ≠ b)/\∀ p ∈ X.pn ++ pins,p.1 ≠ b) :
  Inv X pins σ H' { s with heap:=h',gens:=g',drawn:=d',toks:=t' }:=by
 obtain⟨m,⟨o,es,ep,ho,r⟩,_⟩:=id I.loc;obtain⟨sl,hL⟩:=u.any ho I.free fun z=>(hch _ z).2.1 rfl;exact I.step (ch:=ch) hch (fun b o hL hb hc e n=>u.keep b o e n (fun z=>(mem_cons.mp (I.stkSub b z)).elim hL hb) hc) (fun b o _ _ hc e n=>u.any e n hc) (fun b o hc e n=>u.free b o e n hc) (fun b o hc e=>u.there b o e hc) u.tups u.frzs u.tbls (fun m' hm=>by
  obtain⟨o',es',ep',ho',r'⟩:=hm;rw [ho] at ho';cases ho';exact⟨_,es',ep',hL,r'⟩) hok hg
def Inv.turned{t':Nat}{it:Addr}(I:Inv X pins σ H s)(k:∀ b o,b ≠ it->s.heap.get? b=some o->h'.get? b=some o)(hn:H it=none)(hL:it ≠ X.env.locals)
  (h1:it ∈ X.ex ∨ X.s₀.heap.objs.size <= it) (h2:∀ x c,X.env.cells.lookup x=some c->c ≠ it) (h3:∀ p ∈ X.pn ++ pins,p.1 ≠ it):Inv X pins σ H { s with heap:=h',toks:=t' }:=by
 have nit:∀ b u,H b=some u->b ≠ it:=fun b u e z=>by rw [z,hn] at e;cases e
 refine I.step (g':=s.gens) (d':=s.drawn) (ch:=[it]) (fun b hb=>?_) (fun b o _ _ hc e _=>k b o (fun z=>hc (by simp [z])) e) (fun b o _ _ hc e _=>⟨o.slots,k b o (fun z=>hc (by simp [z])) e⟩) (fun _ _ _ _ n=>n)
  (fun b o hc e=>⟨o,k b o (fun z=>hc (by simp [z])) e⟩) (fun _ _ e=>e) (fun _ _ _ e=>e) (fun b ps e=>⟨#[],by rw [e];simp⟩) (fun m hm=>?_) (fun b u e=>?_) I.bare
 ·have e:b=it:=by simpa using hb
  subst e;exact⟨h1,hL,h2,h3⟩
 ·obtain⟨o,es,ep,ho,r⟩:=hm
  exact⟨o,es,ep,k _ o (Ne.symm hL) ho,r⟩
 ·refine(I.hok b u e).stay (fun c v hc q=>k c v ?_ q) (fun _ q=>q) fun _ _ q=>q
  rcases hc with z | z
  ·rw [z];exact nit b u e
  ·exact nit c _ z
def Inv.tok(I:Inv X pins σ H s)(t:Nat):Inv X pins σ H { s with toks:=t }:=I.un (h':=s.heap) (t':=t) Un.refl I.hok
def Inv.kept{t':Nat}(I:Inv X pins σ H s)(k:∀ b u,s.heap.get? b=some u->h'.get? b=some u):Inv X pins σ H { s with heap:=h',toks:=t' }:=I.un (Un.kept k) (I.hok.kept k)
def Inv.laid{a:Addr}{o:HO}{t':Nat}(I:Inv X pins σ H s)(k:∀ b u,s.heap.get? b=some u->h'.get? b=some u)(hp:s.heap.objs.size <= a)(new:qa1j X.prog X.w (upd H a o) h' a o) :
  Inv X pins σ (upd H a o) { s with heap:=h',toks:=t' }:=I.un (Un.laid k hp (I.hok.fresh hp)) (I.hok.laid k hp new)
def Inv.write{x e:Addr}{o:HO}{t':Nat}(I:Inv X pins σ H s)(mu:Mut (H x))(he:e=x ∨ H e=some (.own x))(k:∀ b u,b ≠ e->s.heap.get? b=some u->h'.get? b=some u)(heo:∃ u,h'.get? e=some u)
  (new:qa1j X.prog X.w (upd H x o) h' x o):Inv X pins σ (upd H x o) { s with heap:=h',toks:=t' }:=I.un (Un.write mu he k heo) (I.hok.write mu he k heo new)
def Inv.pins_of{pins':List 'c'}(I:Inv X pins σ H s)(h:∀ p ∈ pins',s.heap.get? p.1=some p.2/\H p.1=none/\p.1 ≠ X.env.locals/\p.1 ∉ X.fs/\∀ v,p.2.data ≠ .cell v):Inv X pins' σ H s:=
 ⟨I.ok,I.os,I.bare,I.base,I.loc,I.cell,I.free,I.freeC,fun p hp=>(mem_append.mp hp).elim (fun z=>I.pin p (List.mem_append_left _ z)) (h p),I.hok,I.len⟩
def qb2j{N:List Str}(hN:N.Nodup){i j:Nat}{x:Str}(a:N[i]? = some x)(b:N[j]? = some x):i=j:=by
 obtain⟨h1,e1⟩:=List.getElem?_eq_some_iff.mp a;obtain⟨h2,e2⟩:=List.getElem?_eq_some_iff.mp b;exact(List.getElem_inj hN).mp (e1.trans e2.symm)
def qb5s{M:Model}{A:Around}{E:Value->Shared->Prop}{i:Nat}{x:Str}{v:V}{u:Value}{Q:Unit->Shared->Prop}(I:Inv X pins σ H s)(hN:X.N.Nodup)(hi:X.N[i]? = some x)(hx:Loc X.env.scope x)(r:RelV v u)
  (h:∀ s',Inv X pins (σ.set i (some v)) H s'->(∃ a,Heap.SameBut a s.heap s'.heap/\(a=X.env.locals ∨ X.env.cells.lookup x=some a))->Q () s') (hf:X.fn x=true ∨ X.env.scope.names.lookup x=some .local:=by first | exact .inl rfl | exact .inr rfl | assumption):wpAny M A (storeName X.env x u) Q E s:=by
 obtain⟨m,hn,hl⟩:=id I.loc;have hcls:(X.env.scope.kind == .class || (X.env.scope.kind == .module && X.env.locals != X.env.globals))=false:=by rw [I.ok.kind];rfl
 have hiσ:i < σ.length:=by rw [I.len];exact(List.getElem?_eq_some_iff.mp hi).1
 have cne:=I.cne;have tracked:∀ {a:Addr} {h':Heap},(∃ o,s.heap.get? a=some o/\H a=none)->Heap.SameBut a s.heap h'->HOk X.prog X.w H h':=fun{a h'} ha hs b ob e=>by
  obtain⟨_,_,hfree⟩:=ha;refine(I.hok b ob e).stay (fun c w' hc q=>(hs.2 c ?_).trans q) (fun _ q=>q) fun _ _ q=>q;rintro rfl;rcases hc with rfl | hc
  ·rw [hfree] at e;cases e
  ·rw [hfree] at hc;cases hc
 rcases hx with hk | hk
 ·refine wpAny_storeName_local hk hn (fun h' hn' hs=>?_) hcls
  obtain⟨oL,_,_,hoL,_⟩:=id hn;refine h _ ⟨I.ok,I.os,I.bare,⟨fun b o e n hb hx=>?_,fun b o e n hb hx=>?_,I.base.free,fun b o e hx=>?_,I.base.tups,I.base.frzs,I.base.tbls⟩,⟨_,hn',fun j y v' e1 e2 e3=>?_⟩,fun y c e=>?_,I.free,I.freeC,fun p hp=>?_,tracked ⟨oL,hoL,I.free⟩ hs,by simpa using I.len⟩ ⟨_,hs,.inl rfl⟩
  ·exact(hs.2 b (ne_of_lt (lt_of_lt_of_le (lt_size e) I.ok.above))).trans (I.base.keep b o e n hb hx)
  ·obtain⟨sl,e1⟩:=I.base.slot b o e n hb hx
   exact⟨sl,(hs.2 b (ne_of_lt (lt_of_lt_of_le (lt_size e) I.ok.above))).trans e1⟩
  ·obtain⟨o',e1⟩:=I.base.there b o e hx
   exact⟨o',(hs.2 b (ne_of_lt (lt_of_lt_of_le (lt_size e) I.ok.above))).trans e1⟩
  ·by_cases hj:j=i
   ·subst hj
    rw [hi] at e1;cases e1;rw [getElem?_set_self hiσ] at e2;cases e2;exact⟨u,r,.inl ⟨hk,by simp⟩⟩
   ·rw [getElem?_set_ne (Ne.symm hj)] at e2
    obtain⟨u',r',q⟩:=hl j y v' e1 e2 e3;refine⟨u',r',?_⟩;rcases q with⟨k,e⟩ | ⟨k,c,e,z⟩
    ·refine .inl ⟨k,?_⟩
     have:y ≠ x:=fun e=>hj (qb2j hN e1 (e ▸ hi));simp [this,e]
    ·exact .inr ⟨k,c,e,z.sameBut hs (cne y c e)⟩
  ·obtain⟨w',z⟩:=I.cell y c e
   exact⟨w',z.sameBut hs (cne y c e)⟩
  ·obtain⟨e,n,ne,nf,d⟩:=I.pin p hp
   exact⟨(hs.2 p.1 ne).trans e,n,ne,nf,d⟩
 ·have hfn:X.fn x=true:=by
   rcases hf with z | z
   ·exact z
   ·rw [z] at hk;cases hk
  obtain⟨c,hc⟩:=I.ok.has x (.inl hk);obtain⟨w',z⟩:=I.cell x c hc;refine wpAny_storeName_cell I.ok.kind hk hc z (fun h' hc' hs=>?_);obtain⟨oc,hoc,hocd⟩:=id z;refine h { s with heap:=h' } ⟨I.ok,I.os,I.bare,⟨fun b o e n hb hx=>?_,fun b o e n hb hx=>?_,I.base.free,fun b o e hx=>?_,I.base.tups,I.base.frzs,I.base.tbls⟩,⟨m,hn.sameBut hs (Ne.symm (cne x c hc)),fun j y v' e1 e2 e3=>?_⟩,fun y c' e=>?_,I.free,I.freeC,fun p hp=>?_,tracked ⟨oc,hoc,I.freeC x c hc⟩ hs,by simpa using I.len⟩ ⟨c,hs,.inr hc⟩
  ·exact(hs.2 b (ne_of_lt (lt_of_lt_of_le (lt_size e) (I.ok.cab x c hfn hc)))).trans (I.base.keep b o e n hb hx)
  ·obtain⟨sl,e1⟩:=I.base.slot b o e n hb hx
   exact⟨sl,(hs.2 b (ne_of_lt (lt_of_lt_of_le (lt_size e) (I.ok.cab x c hfn hc)))).trans e1⟩
  ·obtain⟨o',e1⟩:=I.base.there b o e hx
   exact⟨o',(hs.2 b (ne_of_lt (lt_of_lt_of_le (lt_size e) (I.ok.cab x c hfn hc)))).trans e1⟩
  ·by_cases hj:j=i
   ·subst hj
    rw [hi] at e1;cases e1;rw [getElem?_set_self hiσ] at e2;cases e2;exact⟨u,r,.inr ⟨.inl hk,c,hc,hc'⟩⟩
   ·rw [getElem?_set_ne (Ne.symm hj)] at e2
    obtain⟨u',r',q⟩:=hl j y v' e1 e2 e3;refine⟨u',r',?_⟩;rcases q with q | ⟨k,c',e,z'⟩
    ·exact .inl q
    ·refine .inr ⟨k,c',e,z'.sameBut hs ?_⟩
     rintro rfl;exact hj (qb2j hN e1 (I.ok.inj _ _ _ e hc ▸ hi))
  ·by_cases hcc:c'=c
   ·subst hcc;exact⟨_,hc'⟩
   ·obtain⟨w2,z2⟩:=I.cell y c' e
    exact⟨w2,z2.sameBut hs hcc⟩
  ·obtain⟨e,n,ne,nf,d⟩:=I.pin p hp
   refine⟨(hs.2 p.1 ?_).trans e,n,ne,nf,d⟩;intro q;rw [q,hoc] at e;have q':oc=p.2:=Option.some.inj e;exact d w' (by rw [← q'];exact hocd)
def qb2k{M:Model}{A:Around}{E:Value->Shared->Prop}{i:Nat}{x:Str}{v:V}{u:Value}{Q:Unit->Shared->Prop}(I:Inv X pins σ H s)(hN:X.N.Nodup)(hi:X.N[i]? = some x)(hx:Loc X.env.scope x)(r:RelV v u)
  (h:∀ s',Inv X pins (σ.set i (some v)) H s'->Q () s') (hf:X.fn x=true ∨ X.env.scope.names.lookup x=some .local:=by first | exact .inl rfl | exact .inr rfl | assumption):wpAny M A (storeName X.env x u) Q E s:=
 qb5s I hN hi hx r (fun s' I' _=>h s' I') hf
def Inv.call'{s':Shared}{ch:List Addr}(I:Inv X pins σ H s)(ho:s'.os=s.os)(u:Un (frs X.stack) ch H H' s.heap s'.heap)(hok:HOk X.prog X.w H' s'.heap)(hg:AllBare s'.gens)
  (hch:∀ b ∈ ch,(b ∈ X.ex ∨ X.s₀.heap.objs.size <= b)/\b ≠ X.env.locals/\(∀ x c,X.env.cells.lookup x=some c->c ≠ b)/\∀ p ∈ X.pn ++ pins,p.1 ≠ b):Inv X pins σ H' s':=by
 obtain⟨h',g',d',t',o'⟩:=s';have e:o'=s.os:=ho;subst e;exact I.call (g':=g') (t':=t') (d':=d') u hok hg hch
end
abbrev XK:=Value->Option Addr->Hp->Prop
abbrev St:=List (Option V)
abbrev VK:=V->Hp->Prop
abbrev TE:=St->Hp->VK->Prop
abbrev TT:=St->Hp->(Bool->Hp->Prop)->Prop
abbrev TA:=St->Hp->(List V->Hp->Prop)->Prop
structure Ends where
 nx:St->Hp->Prop
 rt:VK
 bk:St->Hp->Prop:=fun _ _=>False
 ct:St->Hp->Prop:=fun _ _=>False
abbrev TS:=Ends->St->Hp->Prop
def EP(X:Cx)(pins:List 'c')(σ:St)(Q:VK)(u:Value)(s':Shared):Prop:=∃ v H',Inv X pins σ H' s'/\RelV v u/\Q v H'
def TP(X:Cx)(pins:List 'c')(σ:St)(Q:Bool->Hp->Prop)(b:Bool)(s':Shared):Prop:=∃ H',Inv X pins σ H' s'/\Q b H'
def AP(X:Cx)(pins:List 'c')(σ:St)(Q:List V->Hp->Prop)(us:List Value)(s':Shared):Prop:=∃ vs H',Inv X pins σ H' s'/\Vals vs us/\Q vs H'
def SP(X:Cx)(pins:List 'c')(D:Ends)(f:Flow)(s':Shared):Prop:=
 match f with
 | .next=>∃ σ' H',Inv X pins σ' H' s'/\D.nx σ' H'
 | .brk=>∃ σ' H',Inv X pins σ' H' s'/\D.bk σ' H'
 | .cont=>∃ σ' H',Inv X pins σ' H' s'/\D.ct σ' H'
 | .ret u=>∃ v σ' H',Inv X pins σ' H' s'/\RelV v u/\D.rt v H'
def PE(X:Cx)(e:Expr)(t:TE):Prop:=
 ∀ (pins:List 'c') (s:Shared) (σ:St) (H:Hp) (Q:VK),Inv X pins σ H s->t σ H Q->wpAny (model X.prog X.w) X.A (eval e X.env) (EP X pins σ Q) X.xe s
def PT(X:Cx)(e:Expr)(t:TT):Prop:=
 ∀ (pins:List 'c') (s:Shared) (σ:St) (H:Hp) (Q:Bool->Hp->Prop),Inv X pins σ H s->t σ H Q->wpAny (model X.prog X.w) X.A (isTrue e X.env (eval e X.env)) (TP X pins σ Q) X.xe s
def PW(X:Cx)(e:Expr)(t:TT):Prop:=
 ∀ (whole:Sem Value) (pins:List 'c') (s:Shared) (σ:St) (H:Hp) (Q:Bool->Hp->Prop),Inv X pins σ H s->t σ H Q->wpAny (model X.prog X.w) X.A (isTrue e X.env whole) (TP X pins σ Q) X.xe s
def PW.pt{X:Cx}{e:Expr}{t:TT}(h:PW X e t):PT X e t:=h _
def PA(X:Cx)(es:List Expr)(t:TA):Prop:=
 ∀ (pos:Pos) (pins:List 'c') (s:Shared) (σ:St) (H:Hp) (Q:List V->Hp->Prop),Inv X pins σ H s->t σ H Q->wpAny (model X.prog X.w) X.A (spliced (backTo pos (starEach es X.env))) (AP X pins σ Q) X.xe s
def PS(X:Cx)(st:Stmt)(t:TS):Prop:=
 ∀ (pins:List 'c') (s:Shared) (σ:St) (H:Hp) (D:Ends),Inv X pins σ H s->t D σ H->wpAny (model X.prog X.w) X.A (exec st X.env) (SP X pins D) X.xe s
def PSs(X:Cx)(st:List Stmt)(t:TS):Prop:=
 ∀ (pins:List 'c') (s:Shared) (σ:St) (H:Hp) (D:Ends),Inv X pins σ H s->t D σ H->wpAny (model X.prog X.w) X.A (execs st X.env) (SP X pins D) X.xe s
def thn{α:Type}{t:Sem α}{Q Q':α->Shared->Prop}{M:Model}{A:Around}{E:Value->Shared->Prop}{s:Shared}(h:wpAny M A t Q E s)(hQ:∀ a s,Q a s->Q' a s):wpAny M A t Q' E s:=wpAny_mono h hQ fun _ _ x=>x
end L2
namespace L2
open PySem PySem.Spec PyProof.Rows
section
variable{X:Cx}
def tVar(i:Nat):TE:=fun σ H Q=>∃ v,σ[i]? = some (some v)/\Q v H
def tC(v:V):TE:=fun _ H Q=>Q v H
def qa9d{i:Nat}{x:Str}{pos:Pos}(hN:X.N[i]? = some x)(hv:Vis X.env.scope x) (hd:(x == ("__debug__" : Str))=false:=by decide) (hcd:(x == ("__classdict__" : Str))=false:=by decide):PE X (.Name x pos) (tVar i):=by
 intro pins s σ H Q I h;obtain⟨v,e,h⟩:=h;obtain⟨m,hn,hl⟩:=I.loc;obtain⟨u,r,l⟩:=hl i x v hN e hv;have fin:EP X pins σ Q u s:=⟨v,H,I,r,h⟩;rcases l with⟨hk,hm⟩ | ⟨hk,c,hc,hcell⟩
 ·exact wpAny_Name (wpAny_loadName_local I.ok.kind hk hn hm fin) hd
 ·rcases hk with hk | hk
  ·exact wpAny_Name (wpAny_loadName_cell I.ok.kind hk hc hcell fin) hd
  ·exact wpAny_Name (wpAny_loadName_free I.ok.kind hk hc hcell fin hcd) hd
def qa1y{i j pos}:PE X (.Constant (.int i) j pos) (tC (.int i)):=fun _ _ _ H _ I h=>wpAny_Constant_int ⟨.int i,H,I.tok _,⟨_,rfl⟩,h⟩
def pe_bl{b j pos}:PE X (.Constant (.bool b) j pos) (tC (.bl b)):=fun _ _ _ H _ I h=>Constant_bool ⟨.bl b,H,I,rfl,h⟩
def pe_non{j pos}:PE X (.Constant .none j pos) (tC .non):=fun _ _ _ H _ I h=>Constant_none ⟨.non,H,I,rfl,h⟩
def qb0s{x j pos}:PE X (.Constant (.str x) j pos) (tC (.str x)):=fun _ _ _ H _ I h=>Calls.Constant_str ⟨.str x,H,I.tok _,⟨_,rfl⟩,h⟩
def Gl(X:Cx)(x:Str):Prop:=X.env.kindOf x=some .globalImplicit
def qa9e{E:Value->Shared->Prop}{pins:List 'c'}{s:Shared}{σ:St}{H:Hp}{x:Str}{u:Value}{pos:Pos}{Q:Value->Shared->Prop}(I:Inv X pins σ H s)(hg:Gl X x)(hm:X.mg x=some u)(h:Q u s)
  (hd:(x == ("__debug__" : Str))=false:=by decide):wpAny (model X.prog X.w) X.A (eval (.Name x pos) X.env) Q E s:=
 Calls.Name_function_global I.ok.kind hg (Calls.loadGlobal_global (by rw [I.ok.glob];exact I.mod.glob.keeps I.bk) hm h) hd
def qa6v{E:Value->Shared->Prop}{pins:List 'c'}{s:Shared}{σ:St}{H:Hp}{x:Str}{u:Value}{pos:Pos}{Q:Value->Shared->Prop}(I:Inv X pins σ H s)(hg:Gl X x)(hm:X.mg x=none)(hv:bootBuiltins x=some u)(h:Q u s)
  (hn:x ≠ "__name__":=by decide) (hd:(x == ("__debug__" : Str))=false:=by decide):wpAny (model X.prog X.w) X.A (eval (.Name x pos) X.env) Q E s:=by
 obtain⟨mb,h1,h2⟩:=I.mod.blt;exact Calls.Name_function_global I.ok.kind hg (Calls.loadGlobal_builtin (by rw [I.ok.glob];exact I.mod.glob.keeps I.bk) hm (by rw [I.ok.blt];exact h1.keeps I.bk) ((h2 x hn).trans hv) h) hd
def qa4e{x:Str}{v:V}{u:Value}{pos:Pos}(hg:Gl X x)(hm:X.mg x=some u)(r:RelV v u) (hd:(x == ("__debug__" : Str))=false:=by decide):PE X (.Name x pos) (tC v):=
 fun _ _ _ H _ I h=>qa9e I hg hm ⟨v,H,I,r,h⟩ hd
def pe_bltn{x:Str}{v:V}{u:Value}{pos:Pos}(hg:Gl X x)(hm:X.mg x=none)(hv:bootBuiltins x=some u)(r:RelV v u) (hn:x ≠ "__name__":=by decide) (hd:(x == ("__debug__" : Str))=false:=by decide):PE X (.Name x pos) (tC v):=
 fun _ _ _ H _ I h=>qa6v I hg hm hv ⟨v,H,I,r,h⟩ hn hd
variable{a b:Expr}{ta tb:TE}{pos:Pos}
def tB(t:TE):TT:=fun σ H Q=>t σ H fun x H1=>∃ c,x=.bl c/\Q c H1
def qa7y{e:Expr}{t:TE}(h:PE X e t)(he:∀ whole,isTrue e X.env whole=(do let v ← whole;standAt e.pos;holding [v] (truthy v)):=by intro _;rfl):PT X e (tB t):=by
 intro pins s σ H Q I hw;refine isTrue_plain (thn (h pins s σ H _ I hw) fun v s1 hq8=>?_) (he _);obtain⟨x,H1,I1,r1,q1⟩:=hq8;obtain⟨d,rfl,q⟩:=q1;cases r1;exact wpAny_truthy_bool ⟨H1,I1,q⟩
variable{tA tB':TT}{rest:List Expr}
def tAnd(t u:TT):TT:=fun σ H Q=>t σ H fun c H1=>if c=true then u σ H1 Q else Q false H1
def tOr(t u:TT):TT:=fun σ H Q=>t σ H fun c H1=>if c=true then Q true H1 else u σ H1 Q
def tNot(t:TT):TT:=fun σ H Q=>t σ H fun c H1=>Q (!c) H1
def pw_and1(ha:PT X a tA):PW X (.BoolOp .And [a] pos) tA:=by
 intro wh pins s σ H Q I h;refine isTrue_and (thn (ha pins s σ H Q I h) fun c s1 e=>?_);cases c with
 | true=>exact isTrue_and_nil e
 | false=>exact e
def pw_or1(ha:PT X a tA):PW X (.BoolOp .Or [a] pos) tA:=by
 intro wh pins s σ H Q I h;refine isTrue_or (thn (ha pins s σ H Q I h) fun c s1 e=>?_);cases c with
 | false=>exact isTrue_or_nil e
 | true=>exact e
def pw_and(ha:PT X a tA)(hb:PW X (.BoolOp .And (b :: rest) pos) tB'):PW X (.BoolOp .And (a :: b :: rest) pos) (tAnd tA tB'):=by
 intro wh pins s σ H Q I h;refine isTrue_and (thn (ha pins s σ H _ I h) fun c s1 hq9=>?_);obtain⟨H1,I1,q1⟩:=hq9;cases c with
 | true=>exact hb wh pins s1 σ H1 Q I1 q1
 | false=>exact⟨H1,I1,q1⟩
def pw_or(ha:PT X a tA)(hb:PW X (.BoolOp .Or (b :: rest) pos) tB'):PW X (.BoolOp .Or (a :: b :: rest) pos) (tOr tA tB'):=by
 intro wh pins s σ H Q I h;refine isTrue_or (thn (ha pins s σ H _ I h) fun c s1 hq9=>?_);obtain⟨H1,I1,q1⟩:=hq9;cases c with
 | true=>exact⟨H1,I1,q1⟩
 | false=>exact hb wh pins s1 σ H1 Q I1 q1
def pt_not(ha:PT X a tA):PT X (.UnaryOp .Not a pos) (tNot tA):=by
 intro pins s σ H Q I h;exact isTrue_not (ha pins s σ H (fun c H1=>Q (!c) H1) I h)
def tAndV(ta tb:TE):TE:=fun σ H Q=>ta σ H fun x H1=>∃ c,x=.bl c/\if c=true then tb σ H1 Q else Q (.bl false) H1
def tOrV(ta tb:TE):TE:=fun σ H Q=>ta σ H fun x H1=>∃ c,x=.bl c/\if c=true then Q (.bl true) H1 else tb σ H1 Q
def tNotV(ta:TE):TE:=fun σ H Q=>ta σ H fun x H1=>∃ c,x=.bl c/\Q (.bl (!c)) H1
def pe_one{op}{t:TE}(h:PE X a t):PE X (.BoolOp op [a] pos) t:=fun pins s σ H Q I hw=>BoolOp_one (h pins s σ H Q I hw)
def pe_and(ha:PE X a ta)(hb:PE X (.BoolOp .And (b :: rest) pos) tb):PE X (.BoolOp .And (a :: b :: rest) pos) (tAndV ta tb):=by
 intro pins s σ H Q I h;refine BoolOp_and (thn (ha pins s σ H _ I h) fun v s1 hq9=>?_);obtain⟨x,H1,I1,r1,q1⟩:=hq9;obtain⟨c,rfl,q1⟩:=q1;cases r1;refine wpAny_truthy_bool ?_;cases c with
 | true=>exact hb pins s1 σ H1 Q I1 q1
 | false=>exact⟨.bl false,H1,I1,rfl,q1⟩
def pe_or(ha:PE X a ta)(hb:PE X (.BoolOp .Or (b :: rest) pos) tb):PE X (.BoolOp .Or (a :: b :: rest) pos) (tOrV ta tb):=by
 intro pins s σ H Q I h;refine BoolOp_or (thn (ha pins s σ H _ I h) fun v s1 hq9=>?_);obtain⟨x,H1,I1,r1,q1⟩:=hq9;obtain⟨c,rfl,q1⟩:=q1;cases r1;refine wpAny_truthy_bool ?_;cases c with
 | false=>exact hb pins s1 σ H1 Q I1 q1
 | true=>exact⟨.bl true,H1,I1,rfl,q1⟩
def pe_not(ha:PE X a ta):PE X (.UnaryOp .Not a pos) (tNotV ta):=by
 intro pins s σ H Q I h;refine UnaryOp_ (thn (ha pins s σ H _ I h) fun v s1 hq9=>?_);obtain⟨x,H1,I1,r1,q1⟩:=hq9;obtain⟨c,rfl,q1⟩:=q1;cases r1;exact not_of (wpAny_truthy_bool ⟨.bl (!c),H1,I1,rfl,q1⟩)
def tIf(t:TT)(ta tb:TE):TE:=fun σ H Q=>t σ H fun c H1=>if c=true then ta σ H1 Q else tb σ H1 Q
def qc7s{c:Expr}(hc:PT X c tA)(ha:PE X a ta)(hb:PE X b tb):PE X (.IfExp c a b pos) (tIf tA ta tb):=by
 intro pins s σ H Q I h;refine wpAny_IfExp (thn (hc pins s σ H _ I h) fun d s1 hq9=>?_);obtain⟨H1,I1,q1⟩:=hq9;cases d with
 | true=>exact ha pins s1 σ H1 Q I1 q1
 | false=>exact hb pins s1 σ H1 Q I1 q1
end
end L2
namespace L2
open PySem PySem.Spec PyProof.Rows
def SqL(K:W.Frag)(H:Hp)(a:Addr)(xs:List V):Prop:=
 Rd H a (.lst xs) ∨
  ∃ (o:Obj) (its:Array Value) (n:Nat),K.lookup a=some o/\o.cls=.type "list" /\ o.dict=none/\o.data=.seq its n/\its.size <= sizeLine/\Vals xs its.toList
def SqT(K:W.Frag)(H:Hp)(a:Addr)(xs:List V):Prop:=
 Rd H a (.tup xs) ∨
  ∃ (o:Obj) (its:Array Value) (n:Nat),K.lookup a=some o/\(o.cls=.type "tuple" /\ o.dict=none)/\o.data=.seq its n/\its.size <= sizeLine/\Vals xs its.toList
noncomputable def absV:Value->Option V
 | .none=>some .non
 | .bool b=>some (.bl b)
 | .int i _=>some (.int i)
 | .str x _=>some (.str x)
 | .bytes b _=>some (.byt b)
 | .float b _=>some (.flt b)
 | .ref a=>some (.ref a)
 | .type n=>some (.ty n)
 | _=>none
def RelV.abs{x:V}{u:Value}(r:RelV x u):absV u=some x:=by
 cases x with
 | non=>cases r;rfl
 | bl _=>cases r;rfl
 | int _=>obtain⟨t,rfl⟩:=r;rfl
 | str _=>obtain⟨t,rfl⟩:=r;rfl
 | byt _=>obtain⟨t,rfl⟩:=r;rfl
 | flt _=>obtain⟨t,rfl⟩:=r;rfl
 | ref _=>cases r;rfl
 | ty _=>cases r;rfl
def RelV.inj{x y:V}{u:Value}(r:RelV x u)(q:RelV y u):x=y:=Option.some.inj (r.abs.symm.trans q.abs)
def Vals.inj:∀ {xs ys:List V} {us:List Value},Vals xs us->Vals ys us->xs=ys
 | _,_,_,.nil,.nil=>rfl
 | _,_,_,.cons r t,.cons r' t'=>by rw [r.inj r',Vals.inj t t']
section
variable{X:Cx}{pins:List 'c'}{σ:St}{H:Hp}{s:Shared}{a:Addr}{xs ys:List V}
def SqL.of{K:W.Frag}(h:H a=some (.lst xs)):SqL K H a xs:=.inl (.inl h)
def SqT.of{K:W.Frag}(h:H a=some (.tup xs)):SqT K H a xs:=.inl (.inl h)
def Inv.list(I:Inv X pins σ H s)(h:SqL X.K H a xs):∃ its:List Value,Vals xs its/\PlainL s.heap a its.toArray/\xs.length <= sizeLine:=by
 rcases h with h | ⟨o,its,n,hk,hc,hd,hs,hz,r⟩
 ·obtain⟨z,its,n,r,e⟩:=h.ok I.hok
  exact⟨its,r,⟨_,n,e,rfl,rfl,rfl⟩,z⟩
 ·refine⟨its.toList,r,⟨o,n,I.kIn a o hk,hc,hd,by simpa using hs⟩,?_⟩
  have e:=r.length;simp only [length_toList] at e;omega
def Inv.tupleP(I:Inv X pins σ H s)(h:SqT X.K H a xs):∃ its:List Value,Vals xs its/\qa3y s.heap a its.toArray/\xs.length <= sizeLine:=by
 rcases h with h | ⟨o,its,n,hk,hc,hs,hz,r⟩
 ·obtain⟨z,its,r,p⟩:=h.ok I.hok
  exact⟨its,r,p,z⟩
 ·refine⟨its.toList,r,⟨o,I.kIn a o hk,hc,n,by simpa using hs⟩,?_⟩
  have e:=r.length;simp only [length_toList] at e;omega
def Inv.tuple(I:Inv X pins σ H s)(h:SqT X.K H a xs):∃ its:List Value,Vals xs its/\IsTup s.heap a its.toArray/\xs.length <= sizeLine:=by obtain⟨its,r,p,z⟩:=I.tupleP h;exact⟨its,r,p.tup,z⟩
def Inv.list_inj(I:Inv X pins σ H s)(h:SqL X.K H a xs)(h':SqL X.K H a ys):xs=ys:=by
 obtain⟨its,r,⟨o,n,e,_,_,d⟩,_⟩:=I.list h;obtain⟨its',r',⟨o',n',e',_,_,d'⟩,_⟩:=I.list h';rw [e] at e';cases e';rw [d] at d';injection d' with d1 _
 have:its=its':=by simpa using congrArg Array.toList d1
 subst this;exact r.inj r'
def Inv.tuple_inj(I:Inv X pins σ H s)(h:SqT X.K H a xs)(h':SqT X.K H a ys):xs=ys:=by
 obtain⟨its,r,⟨o,e,_,n,d⟩,_⟩:=I.tuple h;obtain⟨its',r',⟨o',e',_,n',d'⟩,_⟩:=I.tuple h';rw [e] at e';cases e';rw [d] at d';injection d' with d1 _
 have:its=its':=by simpa using congrArg Array.toList d1
 subst this;exact r.inj r'
end
abbrev Cx.wish(X:Cx)(E:Value->Shared->Prop):Cx:={ X with xe:=E }
abbrev Cx.nox(X:Cx):Cx:=X.wish fun _ _=>False
def Cx.Ok.wish{X:Cx}(ok:X.Ok)(E:Value->Shared->Prop):(X.wish E).Ok:=
 ⟨ok.mod,ok.kind,ok.glob,ok.blt,ok.above,ok.inj,ok.has,ok.cab,ok.hd,ok.frames,ok.stk,ok.exf,ok.bs,ok.bsz,ok.noex,ok.exfs,ok.funs,ok.frf⟩
def Cx.Ok.unwish{X:Cx}{E:Value->Shared->Prop}(ok:(X.wish E).Ok):X.Ok:=
 ⟨ok.mod,ok.kind,ok.glob,ok.blt,ok.above,ok.inj,ok.has,ok.cab,ok.hd,ok.frames,ok.stk,ok.exf,ok.bs,ok.bsz,ok.noex,ok.exfs,ok.funs,ok.frf⟩
section
variable{X:Cx}{pins:List 'c'}{σ:St}{H:Hp}{s:Shared}{E:Value->Shared->Prop}
def Inv.wish(I:Inv X pins σ H s)(E:Value->Shared->Prop):Inv (X.wish E) pins σ H s:=⟨I.ok.wish E,I.os,I.bare,I.base,I.loc,I.cell,I.free,I.freeC,I.pin,I.hok,I.len⟩
def Inv.unwish(I:Inv (X.wish E) pins σ H s):Inv X pins σ H s:=⟨I.ok.unwish,I.os,I.bare,I.base,I.loc,I.cell,I.free,I.freeC,I.pin,I.hok,I.len⟩
def SP.unwish{D:Ends}{f:Flow}{s':Shared}(h:SP (X.wish E) pins D f s'):SP X pins D f s':=by
 cases f with
 | next=>obtain⟨σ',H',I,q⟩:=h;exact⟨σ',H',I.unwish,q⟩
 | brk=>obtain⟨σ',H',I,q⟩:=h;exact⟨σ',H',I.unwish,q⟩
 | cont=>obtain⟨σ',H',I,q⟩:=h;exact⟨σ',H',I.unwish,q⟩
 | ret u=>obtain⟨v,σ',H',I,r,q⟩:=h;exact⟨v,σ',H',I.unwish,r,q⟩
def PT.nox{e:Expr}{t:TT}(h:PT X.nox e t):PT X e t:=fun pins s σ H Q I hw =>
 wpAny_mono (h pins s σ H Q (I.wish _) hw) (fun _ _ hq8=>by obtain⟨H',I',q⟩:=hq8;exact⟨H',I'.unwish,q⟩) fun _ _ z=>False.elim z
def PSs.nox{st:List Stmt}{t:TS}(h:PSs X.nox st t):PSs X st t:=fun pins s σ H D I hw =>
 wpAny_mono (h pins s σ H D (I.wish _) hw) (fun _ _ q=>q.unwish) fun _ _ z=>False.elim z
end
section
variable{X:Cx}{st:Stmt}{rest:List Stmt}{t u:TS}{e:Expr}{te:TE}{pos:Pos}
def tNext:TS:=fun D σ H=>D.nx σ H
def tSeq(t u:TS):TS:=fun D σ H=>t { D with nx:=u D } σ H
def qa5t:PSs X [] tNext:=fun _ _ σ H _ I h=>wpAny_execs_nil ⟨σ,H,I,h⟩
def qa1k(h1:PS X st t)(h2:PSs X rest u):PSs X (st :: rest) (tSeq t u):=by
 intro pins s σ H D I h;refine wpAny_execs_cons (thn (h1 pins s σ H { D with nx:=u D } I h) fun f s1 q=>?_);cases f with
 | next =>
  obtain⟨σ',H',I',q⟩:=q;exact h2 pins s1 σ' H' D I' q
 | ret v=>exact q
 | brk=>exact q
 | cont=>exact q
def qa2j(h1:PS X st t):PSs X [st] t:=by
 intro pins s σ H D I h;refine wpAny_execs_cons (thn (h1 pins s σ H D I h) fun f s1 q=>?_);cases f with
 | next=>exact wpAny_execs_nil q
 | ret v=>exact q
 | brk=>exact q
 | cont=>exact q
def Inv.quiet{pins:List 'c'}{σ:St}{H:Hp}{s:Shared}(I:Inv X pins σ H s):interactive X.env=false:=by simp [interactive,I.ok.kind]
def tDrop(te:TE):TS:=fun D σ H=>te σ H fun _ H1=>D.nx σ H1
def qc1e(he:PE X e te)(hs:swapsWith e none pos.line X.env=pure false:=by rfl):PS X (.Expr e pos) (tDrop te):=by
 intro pins s σ H D I h;exact wpAny_Expr_any (thn (he pins s σ H _ I h) fun v s1 hq8=>by obtain⟨x,H1,I1,r1,q1⟩:=hq8;exact⟨σ,H1,I1,q1⟩) I.quiet hs
def tRet(te:TE):TS:=fun D σ H=>te σ H D.rt
def qa6w(he:PE X e te):PS X (.Return (some e) pos) (tRet te):=by
 intro pins s σ H D I h;exact wpAny_Return_some (thn (he pins s σ H _ I h) fun v s1 hq8=>by obtain⟨x,H1,I1,r1,q1⟩:=hq8;exact⟨x,σ,H1,I1,r1,q1⟩)
def tIfS(c:TT)(t u:TS):TS:=fun D σ H=>c σ H fun b H1=>if b=true then t D σ H1 else u D σ H1
def qa9v{c:Expr}{a b:List Stmt}{tc:TT}(hc:PT X c tc)(ha:PSs X a t)(hb:PSs X b u):PS X (.If c a b pos) (tIfS tc t u):=by
 intro pins s σ H D I h;refine wpAny_If (thn (hc pins s σ H _ I h) fun d s1 hq9=>?_);obtain⟨H1,I1,q1⟩:=hq9;cases d with
 | true=>exact ha pins s1 σ H1 D I1 q1
 | false=>exact hb pins s1 σ H1 D I1 q1
end
abbrev TG:=V->St->Hp->(St->Hp->Prop)->Prop
abbrev TGs:=List V->St->Hp->(St->Hp->Prop)->Prop
def PG(X:Cx)(target:Expr)(t:TG):Prop:=
 ∀ (pins:List 'c') (s:Shared) (σ:St) (H:Hp) (v:V) (u:Value) (Q:St->Hp->Prop),Inv X pins σ H s->RelV v u->t v σ H Q ->
  wpAny (model X.prog X.w) X.A (assign target X.env u) (fun _ s'=>∃ σ' H',Inv X pins σ' H' s'/\Q σ' H') X.xe s
def PGs(X:Cx)(ts:List Expr)(t:TGs):Prop:=
 ∀ (pins:List 'c') (s:Shared) (σ:St) (H:Hp) (vs:List V) (us:List Value) (Q:St->Hp->Prop),Inv X pins σ H s->Vals vs us->t vs σ H Q ->
  wpAny (model X.prog X.w) X.A (assignInOrder ((assignEach ts X.env).map (·.2)) us) (fun _ s'=>∃ σ' H',Inv X pins σ' H' s'/\Q σ' H') X.xe s
abbrev TSet:=V->V->V->Hp->(Hp->Prop)->Prop
def PSet(X:Cx)(t:TSet):Prop:=
 ∀ (pins:List 'c') (s:Shared) (σ:St) (H:Hp) (o i v:V) (ov iv u:Value) (Q:Hp->Prop),Inv X pins σ H s->RelV o ov->RelV i iv->RelV v u->t o i v H Q ->
  wpAny (model X.prog X.w) X.A (setItem ov iv u) (fun _ s'=>∃ H',Inv X pins σ H' s'/\Q H') X.xe s
section
variable{X:Cx}{pos:Pos}
noncomputable def qa3b(i:Nat):TG:=fun v σ H Q=>Q (σ.set i (some v)) H
def qa9f{i:Nat}{x:Str}(hN:X.N.Nodup)(hi:X.N[i]? = some x)(hx:Loc X.env.scope x)(hf:X.fn x=true ∨ X.env.scope.names.lookup x=some .local:=by first | exact .inl rfl | exact .inr rfl | assumption):PG X (.Name x pos) (qa3b i):=by
 intro pins s σ H v u Q I r h;exact wpAny_assign_Name (qb2k I hN hi hx r (fun s' I'=>⟨_,H,I',h⟩) hf)
noncomputable def gNil:TGs:=fun vs σ H Q=>vs=[]/\Q σ H
noncomputable def gCons(t:TG)(u:TGs):TGs:=fun vs σ H Q=>∃ v r,vs=v :: r/\t v σ H fun σ' H'=>u r σ' H' Q
def qc1f:PGs X [] gNil:=by
 intro pins s σ H vs us Q I r h;obtain⟨e,h⟩:=h;subst e;cases r;exact assignInOrder_nil ⟨σ,H,I,h⟩
def qb2l{e:Expr}{es:List Expr}{t:TG}{u:TGs}(h1:PG X e t)(h2:PGs X es u)
  (hs:(assignEach (e :: es) X.env).map (·.2)=assign e X.env :: (assignEach es X.env).map (·.2):=by rfl):PGs X (e :: es) (gCons t u):=by
 intro pins s σ H vs us Q I r h;obtain⟨v,vr,e1,h⟩:=h;subst e1;cases r with
 | cons r rr =>
  rw [hs];refine assignInOrder_cons (thn (h1 pins s σ H _ _ _ I r h) fun _ s1 hq9=>?_);obtain⟨σ1,H1,I1,q1⟩:=hq9;exact h2 pins s1 σ1 H1 _ _ Q I1 rr q1
noncomputable def gTup(K:W.Frag)(n:Nat)(t:TGs):TG:=fun v σ H Q=>∃ a xs,v=.ref a/\SqT K H a xs/\xs.length=n/\t xs σ H Q
def pg_tup{es:List Expr}{k:Nat}{t:TGs}{n:Nat}(hc:X.calm=true)(h:PGs X es t)
  (hn:(assignEach es X.env).length=n:=by rfl) (hst:(assignEach es X.env).findIdx? (·.1)=none:=by rfl):PG X (.Tuple es k pos) (gTup X.K n t):=by
 intro pins s σ H v u Q I r hw;obtain⟨a,xs,e1,hq,hl,hw⟩:=hw;subst e1;cases r;obtain⟨its,rv,ht,hz⟩:=I.tuple hq;refine assign_Tuple_tuple (I.ok.hd hc) ht (by simp [hn,← hl,rv.length]) hst fun h' hx=>?_;have I1:Inv X pins σ H { s with heap:=h' }:=I.kept (t':=s.toks) fun b o e=>hx b o (ne_of_lt (lt_size e)) e;exact h pins _ σ H xs _ Q I1 (by simpa using rv) hw
def gSub(to ti:TE)(t:TSet):TG:=fun v σ H Q=>to σ H fun o H1=>ti σ H1 fun i H2=>t o i v H2 fun H3=>Q σ H3
def pg_sub{o i:Expr}{to ti:TE}{t:TSet}(ho:PE X o to)(hi:PE X i ti)(hs:PSet X t)
  (ha:∀ v,assign (.Subscript o i pos) X.env v=(do
   let ov ← holding [v] (eval o X.env)
   let iv ← holding [v,ov] (eval i X.env)
   standAt pos
   holding [v,ov,iv] (setItem ov iv v)
   release [v,ov,iv] []):=by intro _;rfl):PG X (.Subscript o i pos) (gSub to ti t):=by
 intro pins s σ H v u Q I r h;rw [ha];refine wpAny_bind (wpAny_holding (thn (ho pins s σ H _ I h) fun ov s1 hq9=>?_));obtain⟨x,H1,I1,r1,q1⟩:=hq9;refine wpAny_bind (wpAny_holding (thn (hi pins s1 σ H1 _ I1 q1) fun iv s2 hq9=>?_));obtain⟨y,H2,I2,r2,q2⟩:=hq9;refine wpAny_bind (wpAny_standAt (wpAny_bind (wpAny_holding (thn (hs pins s2 σ H2 x y v ov iv u _ I2 r1 r2 r q2) fun _ s3 hq9=>?_))));obtain⟨H3,I3,q3⟩:=hq9;exact wpAny_release ⟨σ,H3,I3,q3⟩
def tAsg(te:TE)(g:TG):TS:=fun D σ H=>te σ H fun x H1=>g x σ H1 D.nx
def ps_asg{tg e:Expr}{te:TE}{g:TG}(he:PE X e te)(hg:PG X tg g)(hs:swapsWithSole [tg] e pos.line X.env=pure false:=by rfl)(hw:swappedStores [tg] e X.env=pure none:=by rfl)
  (h1:(assignEach [tg] X.env).map (·.2)=[assign tg X.env]:=by rfl):PS X (.Assign [tg] e pos) (tAsg te g):=by
 intro pins s σ H D I h;refine wpAny_Assign_stores (thn (he pins s σ H _ I h) fun v s1 hq8=>?_) hs hw;obtain⟨x,H1,I1,r1,q1⟩:=hq8;rw [h1];exact thn (hg pins s1 σ H1 x v _ I1 r1 q1) fun _ s2 q=>q
def qa3c{i:Nat}{x:Str}{e:Expr}{te:TE}{pos':Pos}(hN:X.N.Nodup)(hi:X.N[i]? = some x)(hx:Loc X.env.scope x)(he:PE X e te)(hs:swapsWith e (some (.Name x pos')) pos.line X.env=pure false:=by rfl)(hf:X.fn x=true ∨ X.env.scope.names.lookup x=some .local:=by first | exact .inl rfl | exact .inr rfl | assumption) :
  PS X (.Assign [.Name x pos'] e pos) (tAsg te (qa3b i)):=by
 intro pins s σ H D I h;refine wpAny_Assign_Name (thn (he pins s σ H _ I h) fun v s1 hq8=>?_) hs;obtain⟨y,H1,I1,r1,q1⟩:=hq8;exact qb2k I1 hN hi hx r1 (fun s2 I2=>⟨_,H1,I2,q1⟩) hf
end
structure It where
 go:Nat->Hp->Prop
 yld:Nat->Hp->V->Hp->Prop
 stop:Nat->Hp->Prop
def FpOk(X:Cx)(pins:List 'c')(H:Hp)(b:Addr):Prop:=
 H b=none/\b ≠ X.env.locals/\b ∉ X.fs/\(b ∈ X.ex ∨ X.s₀.heap.objs.size <= b)/\(∀ x c,X.env.cells.lookup x=some c->c ≠ b)/\∀ p ∈ X.pn ++ pins,p.1 ≠ b
def Inv.fpOk{X:Cx}{pins:List 'c'}{σ:St}{H H':Hp}{s:Shared}{b:Addr}(I:Inv X pins σ H s)(hb:s.heap.objs.size <= b)(hn:H' b=none):FpOk X pins H' b:=by
 refine⟨hn,ne_of_gt (lt_of_lt_of_le I.lt hb),I.nofs hb,.inr (le_trans I.sz hb),fun x c e z=>?_,fun p hp z=>?_⟩
 ·obtain⟨v,q⟩:=I.cell x c e
  exact absurd (lt_of_lt_of_le q.lt (by rw [z];exact hb)) (lt_irrefl _)
 ·exact absurd (lt_of_lt_of_le (lt_size (I.pin p hp).1) (by rw [z];exact hb)) (lt_irrefl _)
structure Turn(P:Program)(w:World)(K:W.Frag)(tg:Expr)(J:It)(fp:List Addr)(it:Addr)(tn:Nat->Heap->Prop):Prop where
 mem:it ∈ fp
 obj:∀ i h,tn i h->∀ b ∈ fp,∃ o,h.get? b=some o/\∀ v,o.data ≠ .cell v
 keep:∀ i h h',tn i h->(∀ b ∈ fp,∀ o,h.get? b=some o->h'.get? b=some o)->tn i h'
 item:∀ (X:Cx),X.prog=P->X.w=w->X.K=K->X.calm=true->∀ (i:Nat) (pins:List 'c') (s:Shared) (σ:St) (H:Hp) (E:Value->Shared->Prop),Inv X pins σ H s->(∀ b ∈ fp,FpOk X pins H b)->tn i s.heap->J.go i H ->
  wpAny (model P w) X.A (pyNext (.ref it)) (fun r s1=>∃ u,r=some u /\
   wpAny (model P w) X.A (letOwnedTupleGo tg (.ref it) u) (fun _ s2=>∃ x H',Inv X pins σ H' s2/\RelV x u/\J.yld i H x H'/\tn (i + 1) s2.heap/\∀ b ∈ fp,H' b=none) E s1) E s
 done:∀ (X:Cx),X.prog=P->X.w=w->X.K=K->X.calm=true->∀ (i:Nat) (pins:List 'c') (s:Shared) (σ:St) (H:Hp) (E:Value->Shared->Prop),Inv X pins σ H s->(∀ b ∈ fp,FpOk X pins H b)->tn i s.heap->J.stop i H ->
  wpAny (model P w) X.A (pyNext (.ref it)) (fun r s1=>r=none/\Inv X pins σ H s1) E s
 self:∀ (A:Around) (i:Nat) (s:Shared) (Q:Value->Shared->Prop) (E:Value->Shared->Prop),tn i s.heap->Q (.ref it) s->wpAny (model P w) A (pyIter (.ref it)) Q E s
abbrev TI:=St->Hp->(It->Hp->Prop)->Prop
def PIE(X:Cx)(pins:List 'c')(σ:St)(tg:Expr)(R:It->Hp->Prop)(itv:Value)(s2:Shared):Prop:=
 ∃ (it:Addr) (fp:List Addr) (tn:Nat->Heap->Prop) (J:It) (H':Hp),itv=.ref it/\Inv X pins σ H' s2/\Turn X.prog X.w X.K tg J fp it tn/\tn 0 s2.heap/\(∀ b ∈ fp,FpOk X pins H' b)/\R J H'
def PI(X:Cx)(tg iter:Expr)(wi:TI):Prop:=
 ∀ (pins:List 'c') (s:Shared) (σ:St) (H:Hp) (R:It->Hp->Prop),Inv X pins σ H s->wi σ H R ->
  wpAny (model X.prog X.w) X.A (eval iter X.env) (fun v s1=>wpAny (model X.prog X.w) X.A (pyIter v) (PIE X pins σ tg R) X.xe s1) X.xe s
def go_of{M:Model}{A:Around}{E:Value->Shared->Prop}{s:Shared}{tg:Expr}{it:Addr}{u:Value}{o:Obj}{n:String}{vs:Array Value}{Q:Unit->Shared->Prop}(ho:s.heap.get? it=some o)(hc:o.cls=.type n)(hd:o.data=.fields vs)
  (hn:["enumerate","zip","dict_itemiterator","dict_reverseitemiterator","odict_iterator","itertools.zip_longest","itertools.pairwise"].contains n=false) (hQ:Q () s):wpAny M A (letOwnedTupleGo tg (.ref it) u) Q E s:=by
 unfold letOwnedTupleGo;cases tg<;>first
  | exact wpAny_pure hQ
  | (cases u<;>first
    | exact wpAny_pure hQ
    | (
      refine wpAny_bind (wpAny_load ho ?_);rw [hc,hd];show wpAny M A (if (["enumerate","zip","dict_itemiterator","dict_reverseitemiterator","odict_iterator","itertools.zip_longest","itertools.pairwise"].contains n && vs[0]? == some (rawInt _))=true then _ else _) Q E s;rw [if_neg (by intro h;rw [hn,Bool.false_and] at h;cases h)];exact wpAny_pure hQ))
noncomputable def Itl(K:W.Frag)(a:Addr):It:=
 ⟨fun i H=>∃ xs x,SqL K H a xs/\xs[i]? = some x,fun i H x H'=>H'=H/\∀ xs,SqL K H a xs->xs[i]? = some x,fun i H=>∃ xs,SqL K H a xs/\xs.length <= i⟩
noncomputable def Itt(K:W.Frag)(a:Addr):It:=
 ⟨fun i H=>∃ xs x,SqT K H a xs/\xs[i]? = some x,fun i H x H'=>H'=H/\∀ xs,SqT K H a xs->xs[i]? = some x,fun i H=>∃ xs,SqT K H a xs/\xs.length <= i⟩
noncomputable def Itr(lo:Int)(n:Nat):It:=⟨fun i _=>i < n,fun i H x H'=>H'=H/\x=.int (lo + i),fun i _=>n <= i⟩
def qc5e{P:Program}{w:World}{K:W.Frag}{tg:Expr}(a it:Addr):Turn P w K tg (Itl K a) [it] it (fun i h=>h.IsListIter it a i) where
 mem:=by simp
 obj:=fun i h st b hb=>by
  have e:b=it:=by simpa using hb
  subst e;obtain⟨o,e,c,d⟩:=st;exact⟨o,e,fun v z=>by rw [d] at z;cases z⟩
 keep:=fun i h h' st k=>st.at fun o e=>k it 'g' o e
 item:=by
  intro X hP hw hK hc i pins s σ H E I hf st hg;subst hP hw hK;obtain⟨xs,x,hq,hx⟩:=hg;obtain⟨its,rv,p,hz⟩:=I.list hq;obtain⟨u,hu,ru⟩:=rv.get hx;obtain⟨f0,f1,f2,f3,f4,f5⟩:=hf it 'g';refine wpAny_pyNext_list_item st p.isList (x:=u) (by simpa using hu) fun h' st' sb=>?_;have I1:Inv X pins σ H { s with heap:=h' }:=I.turned (t':=s.toks) (fun b o hb e=>(sb.2 b hb).trans e) f0 f1 f3 f4 f5;obtain⟨o,e,c,d⟩:=id st';exact⟨u,rfl,go_of (s:={ s with heap:=h' }) e c d 'd' ⟨x,H,I1,ru,⟨rfl,fun ys hy=>by rw [I.list_inj hy hq];exact hx⟩,st',fun b hb=>(hf b hb).1⟩⟩
 done:=by
  intro X hP hw hK hc i pins s σ H E I hf st hg;subst hP hw hK;obtain⟨xs,hq,hx⟩:=hg;obtain⟨its,rv,p,hz⟩:=I.list hq;obtain⟨f0,f1,f2,f3,f4,f5⟩:=hf it 'g';have hl:=rv.length;exact wpAny_pyNext_list_end (I.ok.hd hc) st p.isList (by simp;omega) fun h' eb=>⟨rfl,I.turned (t':=s.toks) (fun b o hb e=>eb b o hb e) f0 f1 f3 f4 f5⟩
 self:=fun _ _ _ _ _ st h=>wpAny_pyIter_listiter st h
def qc3b{P:Program}{w:World}{K:W.Frag}{tg:Expr}(a it:Addr):Turn P w K tg (Itt K a) [it] it (fun i h=>h.IsTupleIter it a i) where
 mem:=by simp
 obj:=fun i h st b hb=>by
  have e:b=it:=by simpa using hb
  subst e;obtain⟨o,e,c,d⟩:=st;exact⟨o,e,fun v z=>by rw [d] at z;cases z⟩
 keep:=fun i h h' st k=>st.at fun o e=>k it 'g' o e
 item:=by
  intro X hP hw hK hc i pins s σ H E I hf st hg;subst hP hw hK;obtain⟨xs,x,hq,hx⟩:=hg;obtain⟨its,rv,p,hz⟩:=I.tuple hq;obtain⟨u,hu,ru⟩:=rv.get hx;obtain⟨f0,f1,f2,f3,f4,f5⟩:=hf it 'g';refine wpAny_pyNext_tuple_item st (show s.heap.IsTuple a its.toArray from p) (x:=u) (by simpa using hu) fun h' st' sb=>?_;have I1:Inv X pins σ H { s with heap:=h' }:=I.turned (t':=s.toks) (fun b o hb e=>(sb.2 b hb).trans e) f0 f1 f3 f4 f5;obtain⟨o,e,c,d⟩:=id st';exact⟨u,rfl,go_of (s:={ s with heap:=h' }) e c d 'd' ⟨x,H,I1,ru,⟨rfl,fun ys hy=>by rw [I.tuple_inj hy hq];exact hx⟩,st',fun b hb=>(hf b hb).1⟩⟩
 done:=by
  intro X hP hw hK hc i pins s σ H E I hf st hg;subst hP hw hK;obtain⟨xs,hq,hx⟩:=hg;obtain⟨its,rv,p,hz⟩:=I.tuple hq;obtain⟨f0,f1,f2,f3,f4,f5⟩:=hf it 'g';have hl:=rv.length;exact wpAny_pyNext_tuple_end (I.ok.hd hc) st (show s.heap.IsTuple a its.toArray from p) (by simp;omega) fun h' eb=>⟨rfl,I.turned (t':=s.toks) (fun b o hb e=>eb b o hb e) f0 f1 f3 f4 f5⟩
 self:=fun _ _ _ _ _ st h=>wpAny_pyIter_tupleiter st h
def qc3c{P:Program}{w:World}{K:W.Frag}{tg:Expr}(it:Addr)(lo:Int)(n:Nat):Turn P w K tg (Itr lo n) [it] it (fun i h=>IsRangeIter h it (lo + (i:Nat) * 1) ((n:Int) - (i:Nat)) 1) where
 mem:=by simp
 obj:=fun i h st b hb=>by
  have e:b=it:=by simpa using hb
  subst e;exact⟨_,st,fun v z=>by
   have z':Data.fields _=Data.cell v:=z;cases z'⟩
 keep:=fun i h h' st k=>k it 'g' _ st
 item:=by
  intro X hP hw hK hc i pins s σ H E I hf st hg;subst hP hw hK;obtain⟨f0,f1,f2,f3,f4,f5⟩:=hf it 'g';have W:=Walks.range (prog:=X.prog) (w:=X.w) (I.ok.hd hc) it lo 1 n;refine W.item i s _ _ hg st fun v h' tk hv st' kk=>?_;obtain⟨t,rfl⟩:=hv;have I1:Inv X pins σ H { s with heap:=h',toks:=tk }:=I.turned (fun b o hb e=>kk b o (by simpa using hb) e) f0 f1 f3 f4 f5;refine⟨_,rfl,go_of (s:={ s with heap:=h',toks:=tk }) (n:="range_iterator") st' rfl rfl 'd' ⟨.int (lo + i),H,I1,⟨t,?_⟩,⟨rfl,rfl⟩,st',fun b hb=>(hf b hb).1⟩⟩;rw [Int.mul_one]
 done:=by
  intro X hP hw hK hc i pins s σ H E I hf st hg;subst hP hw hK;obtain⟨f0,f1,f2,f3,f4,f5⟩:=hf it 'g';exact wpAny_pyNext_range_end (I.ok.hd hc) st (by have:n <= i:=hg;omega) fun h' eb=>⟨rfl,I.turned (t':=s.toks) (fun b o hb e=>eb b o hb e) f0 f1 f3 f4 f5⟩
 self:=fun _ _ _ _ _ st h=>wpAny_pyIter_rangeiter st h
end L2
namespace L2
open PySem PySem.Spec PyProof.Rows
section
variable{X:Cx}{tg:Expr}
def qc7t{pins:List 'c'}{σ:St}{H:Hp}{s:Shared}{R:It->Hp->Prop}{E:Value->Shared->Prop}{lo hi:Int}{t u v:Tok}{tk:Nat}(I:Inv X pins σ H s)(h1:-(2 ^ 62) <= lo)(h2:lo < 2 ^ 62)(h3:-(2 ^ 62) <= hi)(h4:hi < 2 ^ 62)
  (q:R (Itr lo (hi - lo).toNat) H):wpAny (model X.prog X.w) X.A (pyIter (.ref s.heap.objs.size)) (PIE X pins σ tg R) E { s with heap:=s.heap.push { cls:=.type "range",data:=.fields #[.int lo t,.int hi u,.int 1 v] },toks:=tk }:=by
 refine wpAny_pyIter_range (IsRange.new ..) (small_one h1 h2 h3 h4) ?_;have I1:Inv X pins σ H { s with heap:=s.heap.push { cls:=.type "range",data:=.fields #[.int lo t,.int hi u,.int 1 v] },toks:=tk }:=I.kept fun b o e=>get?_push_of_some _ e;refine⟨(s.heap.push { cls:=.type "range",data:=.fields #[.int lo t,.int hi u,.int 1 v] }).objs.size,[(s.heap.push { cls:=.type "range",data:=.fields #[.int lo t,.int hi u,.int 1 v] }).objs.size],_,_,H,rfl,
  I1.kept (t':=tk) fun b o e=>get?_push_of_some _ e,qc3c _ lo (hi - lo).toNat,?_,fun b hb=>?_,q⟩
 ·have e1:lo + ((0:Nat):Int) * 1=lo:=by simp
  have e2:(((hi - lo).toNat:Nat):Int) - ((0:Nat):Int)=Builtin.Range.rangeSize lo hi 1:=by rw [rangeSize_one];split<;>omega
  show IsRangeIter _ _ (lo + ((0:Nat):Int) * 1) ((((hi - lo).toNat:Nat):Int) - ((0:Nat):Int)) 1;rw [e1,e2];exact get?_push_size _ rfl
 ·have e:b=(s.heap.push { cls:=.type "range",data:=.fields #[.int lo t,.int hi u,.int 1 v] }).objs.size:=by simpa using hb
  subst e;exact I1.fpOk 'e' (I1.hok.fresh 'e')
def iRng1(ta:TA):TI:=fun σ H R=>ta σ H fun vs H1=>∃ j:Int,vs=[.int j] /\ -(2 ^ 62) <= j/\j < 2 ^ 62/\R (Itr 0 j.toNat) H1
def qc5f{a:Expr}{ta:TA}{p pos:Pos} (hg:Gl X "range") (hm:X.mg "range" = none) (ha:PA X [a] ta) (hs:starEach [a] X.env=[(false,eval a X.env)]:=by rfl):PI X tg (.Call (.Name "range" p) [a] [] pos) (iRng1 ta):=by
 intro pins s σ H R I h;refine Call_ (qa6v I hg hm boot_range (PyProof.Rows.callWith_type1 (thn (ha pos pins s σ H _ I h) fun us s1 hq8=>?_) hs rfl));obtain⟨vs,H1,I1,r1,q1⟩:=hq8;obtain⟨j,e,q1,q2,q⟩:=q1;subst e;cases r1 with
 | cons r rr =>
  cases rr
  obtain⟨t,rfl⟩:=r;exact call_range_1 (qc7t I1 'o' 'o' q1 q2 (by simpa using q))
def tFor(wi:TI)(g:TG)(tb:TS):TS:=fun D σ H=>wi σ H fun J H1=>∃ W:Nat->Nat->St->Hp->Prop,(∃ m,W 0 m σ H1)/\∀ i m σ H,W i m σ H ->
 (J.stop i H/\D.nx σ H) ∨ (J.go i H/\∃ N:St->Hp->Prop,(∀ σ' H',N σ' H'->∃ m',m' < m/\W (i + 1) m' σ' H')/\∀ x H',J.yld i H x H'->g x σ H' fun σ2 H2=>tb { D with nx:=N,ct:=N,bk:=D.nx } σ2 H2)
noncomputable def qb0t(fp:List Addr)(h:Heap):List 'c':=fp.filterMap fun b=>(h.get? b).map fun o=>(b,o)
def qa7g{fp:List Addr}{h:Heap}{b:Addr}{o:Obj}(hb:b ∈ fp)(e:h.get? b=some o):(b,o) ∈ qb0t fp h:=List.mem_filterMap.mpr ⟨b,hb,by rw [e];rfl⟩
def qc5g{fp:List Addr}{h:Heap}{p:Addr × Obj}(hp:p ∈ qb0t fp h):p.1 ∈ fp/\h.get? p.1=some p.2:=by
 obtain⟨b,hb,e⟩:=List.mem_filterMap.mp hp;cases q:h.get? b with
 | none=>rw [q] at e;cases e
 | some o =>
  rw [q] at e;have e':(b,o)=p:=Option.some.inj e;subst e';exact⟨hb,q⟩
def Inv.pinned{pins:List 'c'}{σ:St}{H:Hp}{s:Shared}{fp:List Addr}(I:Inv X pins σ H s)(hf:∀ b ∈ fp,FpOk X pins H b)(ho:∀ b ∈ fp,∃ o,s.heap.get? b=some o/\∀ v,o.data ≠ .cell v):Inv X (pins ++ qb0t fp s.heap) σ H s:=
 I.pins_of fun p hp=>(mem_append.mp hp).elim (fun z=>I.pin p (mem_append_right _ z)) fun z=>by
  obtain⟨hb,e⟩:=qc5g z;obtain⟨f0,f1,f2,_⟩:=hf p.1 hb;obtain⟨o,e',d⟩:=ho p.1 hb;rw [e] at e';cases e';exact⟨e,f0,f1,f2,d⟩
def Inv.unpinned{pins pl:List 'c'}{σ:St}{H:Hp}{s:Shared}(I:Inv X (pins ++ pl) σ H s):Inv X pins σ H s:=I.pins_of fun p hp=>I.pin p (mem_append_right _ (List.mem_append_left _ hp))
def qb7b{iter:Expr}{body:List Stmt}{wi:TI}{g:TG}{tb:TS}{pos:Pos}(hp:PassesOwn (model X.prog X.w) X.A X.env X.xe)(hc:X.calm=true)(hi:PI X tg iter wi)(hg:PG X tg g)(hb:PSs X body tb)
  (hs:∀ x,foldedSetIterable iter X.env x=pure x:=by intro _;rfl):PS X (.For tg iter body [] pos) (tFor wi g tb):=by
 intro pins s σ H D I h;refine wpAny_For (thn (hi pins s σ H _ I h) fun v s1 h1=>thn h1 fun itv s2 h2=>?_) hs;obtain⟨it,fp,tn,J,H2,e,I2,T,st2,f2,W,⟨m0,w0⟩,turn⟩:=h2;subst e
 -- what stays true of the iterator's objects through the loop
 have stat:∀ {H':Hp},(∀ b ∈ fp,H' b=none)->∀ b ∈ fp,FpOk X pins H' b:=fun hn b hb=>⟨hn b hb,(f2 b hb).2⟩;refine codeAny_forLoop_any (fun n s'=>∃ i σ' H',Inv X pins σ' H' s'/\tn i s'.heap/\(∀ b ∈ fp,H' b=none)/\W i n σ' H') ?_ m0 ⟨0,σ,H2,I2,st2,fun b hb=>(f2 b hb).1,w0⟩;rintro n s3 ⟨i,σ3,H3,I3,st3,fr3,w3⟩;rcases turn i n σ3 H3 w3 with⟨stop,qn⟩ | ⟨go,N,hN,step⟩
 ·refine wpAny_passesOwn hp (thn (T.done X rfl rfl rfl hc i pins s3 σ3 H3 X.xe I3 (stat fr3) st3 stop) fun r s4 hq9=>?_)
  obtain⟨hr,I4⟩:=hq9;subst hr;exact wpAny_execs_nil ⟨σ3,H3,I4,qn⟩
 ·refine wpAny_passesOwn hp (thn (T.item X rfl rfl rfl hc i pins s3 σ3 H3 X.xe I3 (stat fr3) st3 go) fun r s4 hq9=>?_)
  obtain⟨u,hr,h4⟩:=hq9;subst hr;refine wpAny_passesOwn hp (thn h4 fun _ s5 hq9=>?_);obtain⟨x,H5,I5,r5,y5,st5,fr5⟩:=hq9;have I5':=I5.pinned (stat fr5) (T.obj _ _ st5);refine wpAny_passesOwn hp (thn (hg _ s5 σ3 H5 x u _ I5' r5 (step x H5 y5)) fun _ s6 hq9=>?_);obtain⟨σ6,H6,I6,q6⟩:=hq9;refine wpAny_passesOwn hp (thn (hb _ s6 σ6 H6 _ I6 q6) fun f s7 q7=>?_);have again:∀ {σ7:St} {H7:Hp},Inv X (pins ++ qb0t fp s5.heap) σ7 H7 s7->N σ7 H7->∃ m,m < n/\∃ i σ' H',Inv X pins σ' H' s7/\tn i s7.heap/\(∀ b ∈ fp,H' b=none)/\W i m σ' H':=fun{σ7 H7} I7 n7=>by
   obtain⟨m',hm,w7⟩:=hN σ7 H7 n7;refine⟨m',hm,i + 1,σ7,H7,I7.unpinned,T.keep _ _ _ st5 fun b hb o e=>(I7.pin (b,o) (mem_append_right _ (mem_append_right _ (qa7g hb e)))).1,fun b hb=>?_,w7⟩;obtain⟨o,e,d⟩:=T.obj _ _ st5 b hb;exact(I7.pin (b,o) (mem_append_right _ (mem_append_right _ (qa7g hb e)))).2.1
  cases f with
  | next=>obtain⟨σ7,H7,I7,n7⟩:=q7;exact again I7 n7
  | cont=>obtain⟨σ7,H7,I7,n7⟩:=q7;exact again I7 n7
  | brk=>obtain⟨σ7,H7,I7,q7⟩:=q7;exact⟨σ7,H7,I7.unpinned,q7⟩
  | ret v=>obtain⟨x7,σ7,H7,I7,r7,q7⟩:=q7;exact⟨x7,σ7,H7,I7.unpinned,r7,q7⟩
end
end L2
namespace L2
open PySem PySem.Spec PyProof.Rows
abbrev R2:=V->V->Hp->VK->Prop
def OpR(X:Cx)(f:Value->Value->Sem Value)(r:R2):Prop:=
 ∀ (pins:List 'c') (s:Shared) (σ:St) (H:Hp) (x y:V) (v u:Value) (Q:VK),Inv X pins σ H s->RelV x v->RelV y u->r x y H Q ->
  wpAny (model X.prog X.w) X.A (f v u) (EP X pins σ Q) X.xe s
def UnR(X:Cx)(f:Value->Sem Value)(r:V->Hp->VK->Prop):Prop:=
 ∀ (pins:List 'c') (s:Shared) (σ:St) (H:Hp) (x:V) (v:Value) (Q:VK),Inv X pins σ H s->RelV x v->r x H Q ->
  wpAny (model X.prog X.w) X.A (f v) (EP X pins σ Q) X.xe s
def qa1z(X:Cx)(f:Value)(r:List V->Hp->VK->Prop):Prop:=
 ∀ (pins:List 'c') (s:Shared) (σ:St) (H:Hp) (xs:List V) (us:List Value) (Q:VK),Inv X pins σ H s->Vals xs us->r xs H Q ->
  wpAny (model X.prog X.w) X.A (call f us) (EP X pins σ Q) X.xe s
def tOp(r:R2)(ta tb:TE):TE:=fun σ H Q=>ta σ H fun x H1=>tb σ H1 fun y H2=>r x y H2 Q
def tUn(r:V->Hp->VK->Prop)(ta:TE):TE:=fun σ H Q=>ta σ H fun x H1=>r x H1 Q
def rI(C:Int->Int->Prop)(g:Int->Int->V):R2:=fun x y H Q=>∃ i j,x=.int i/\y=.int j/\C i j/\Q (g i j) H
def rI0(g:Int->Int->V):R2:=fun x y H Q=>∃ i j,x=.int i/\y=.int j/\Q (g i j) H
noncomputable def rU(g:Int->V):V->Hp->VK->Prop:=fun x H Q=>∃ i,x=.int i/\Q (g i) H
section
variable{X:Cx}{a b c:Expr}{ta tb tc:TE}{pos:Pos}
def binT(ha:PE X a ta)(hb:PE X b tb){pins:List 'c'}{s:Shared}{σ:St}{H:Hp}{R:V->V->Hp->Prop}(I:Inv X pins σ H s)
  (h:ta σ H fun x H1=>tb σ H1 fun y H2=>R x y H2) {Q:Value->Shared->Prop} {f:Value->Value->Sem Value}
  (hf:∀ v u s2 x y H2,Inv X pins σ H2 s2->RelV x v->RelV y u->R x y H2->wpAny (model X.prog X.w) X.A (f v u) Q X.xe s2) :
  wpAny (model X.prog X.w) X.A (eval a X.env) (fun v s₁=>wpAny (model X.prog X.w) X.A (eval b X.env) (fun u s₂=>wpAny (model X.prog X.w) X.A (f v u) Q X.xe s₂) X.xe s₁) X.xe s:=by
 refine thn (ha pins s σ H _ I h) fun v s1 hq9=>?_;obtain⟨x,H1,I1,r1,q1⟩:=hq9;refine thn (hb pins s1 σ H1 _ I1 q1) fun u s2 hq9=>?_;obtain⟨y,H2,I2,r2,q2⟩:=hq9;exact hf v u s2 x y H2 I2 r1 r2 q2
def qa2t{op:Operator}{r:R2}(ho:OpR X (binaryOp op) r)(ha:PE X a ta)(hb:PE X b tb):PE X (.BinOp a op b pos) (tOp r ta tb):=by
 intro pins s σ H Q I h;exact wpAny_BinOp (binT ha hb I h fun v u s2 x y H2 I2 rx ry q=>ho pins s2 σ H2 x y v u Q I2 rx ry q)
def pe_un{op:UnaryOp}{r:V->Hp->VK->Prop}(ho:UnR X (unaryOp op) r)(ha:PE X a ta):PE X (.UnaryOp op a pos) (tUn r ta):=by
 intro pins s σ H Q I h;exact UnaryOp_ (thn (ha pins s σ H _ I h) fun v s1 hq8=>by obtain⟨x,H1,I1,r1,q1⟩:=hq8;exact ho pins s1 σ H1 x v Q I1 r1 q1)
def opI{f:Value->Value->Sem Value}{C:Int->Int->Prop}{g:Int->Int->Int}
  (rule:∀ (i j:Int) (t u:Tok) (s:Shared) (Q:Value->Shared->Prop) (E:Value->Shared->Prop),C i j->Q (.int (g i j) s.toks) { s with toks:=s.toks + 1 }->wpAny (model X.prog X.w) X.A (f (.int i t) (.int j u)) Q E s) :
  OpR X f (rI C fun i j=>.int (g i j)):=by
 intro pins s σ H x y v u Q I rx ry h;obtain⟨i,j,rfl,rfl,hc,q⟩:=h;obtain⟨t,rfl⟩:=rx;obtain⟨t',rfl⟩:=ry;exact rule i j t t' s _ _ hc ⟨.int (g i j),H,I.tok _,⟨_,rfl⟩,q⟩
def opI0{f:Value->Value->Sem Value}{g:Int->Int->Int}
  (rule:∀ (i j:Int) (t u:Tok) (s:Shared) (Q:Value->Shared->Prop) (E:Value->Shared->Prop),Q (.int (g i j) s.toks) { s with toks:=s.toks + 1 }->wpAny (model X.prog X.w) X.A (f (.int i t) (.int j u)) Q E s) :
  OpR X f (rI0 fun i j=>.int (g i j)):=by
 intro pins s σ H x y v u Q I rx ry h;obtain⟨i,j,rfl,rfl,q⟩:=h;obtain⟨t,rfl⟩:=rx;obtain⟨t',rfl⟩:=ry;exact rule i j t t' s _ _ ⟨.int (g i j),H,I.tok _,⟨_,rfl⟩,q⟩
def opB0{f:Value->Value->Sem Value}{g:Int->Int->Bool}
  (rule:∀ (i j:Int) (t u:Tok) (s:Shared) (Q:Value->Shared->Prop) (E:Value->Shared->Prop),Q (.bool (g i j)) s->wpAny (model X.prog X.w) X.A (f (.int i t) (.int j u)) Q E s) :
  OpR X f (rI0 fun i j=>.bl (g i j)):=by
 intro pins s σ H x y v u Q I rx ry h;obtain⟨i,j,rfl,rfl,q⟩:=h;obtain⟨t,rfl⟩:=rx;obtain⟨t',rfl⟩:=ry;exact rule i j t t' s _ _ ⟨.bl (g i j),H,I,rfl,q⟩
def CDiv(i j:Int):Prop:=0 < j/\j < 1073741824
def CPow(i j:Int):Prop:=0 <= j/\j <= 1000000/\i.natAbs < 2 ^ 64
def CMul(i j:Int):Prop:=(-(2 ^ 64) < i/\i < 2 ^ 64) ∨ (-(2 ^ 64) < j/\j < 2 ^ 64)
def CMul.ok{i j:Int}(h:CMul i j):IntMulOk i j:=by
 rcases h with⟨h1,h2⟩ | ⟨h1,h2⟩
 ·exact .of_left (intBits_le_64 h1 h2)
 ·exact .of_right (intBits_le_64 h1 h2)
def qc3d(k:Nat):(0:Int) <= 2 ^ k:=by
 rw [two_pow_cast];exact Int.natCast_nonneg _
def qb3e:OpR X (binaryOp .Add) (rI0 fun i j=>.int (i + j)):=opI0 fun _ _ _ _ _ _ _ q=>add_int q
def qb0u:OpR X (binaryOp .Mult) (rI CMul fun i j=>.int (i * j)):=opI fun _ _ _ _ _ _ _ hc q=>mul_int q hc.ok
def op_fdiv:OpR X (binaryOp .FloorDiv) (rI CDiv fun i j=>.int (i / j)):=opI fun i j _ _ _ _ _ hc q=>by
 have h1:(0:Int) < j:=hc.1;have h2:j < 1073741824:=hc.2;exact floordiv_int 'o' (by rw [Int.fdiv_eq_ediv_of_nonneg i 'o'];exact q) (.inl (PyProof.noPylong_small 'o'))
def qa9g:OpR X (binaryOp .Mod) (rI (fun _ j=>0 < j) fun i j=>.int (i % j)):=opI fun i j _ _ _ _ _ hc q=>by
 have h1:(0:Int) < j:=hc;exact mod_int' 'o' (by rw [Int.fmod_eq_emod_of_nonneg i 'o'];exact q)
def op_pow:OpR X (binaryOp .Pow) (rI CPow fun i j=>.int (i ^ j.toNat)):=opI fun _ _ _ _ _ _ _ hc q=>pow_int_small hc.1 hc.2.1 hc.2.2 q
def op_shr:OpR X (binaryOp .RShift) (rI (fun _ j=>0 <= j) fun i j=>.int (i / 2 ^ j.toNat)):=opI fun i j _ _ _ _ _ hc q =>
 rshift_int hc (by rw [Int.fdiv_eq_ediv_of_nonneg i (qc3d _)];exact q)
def unI{f:Value->Sem Value}{g:Int->Int}
  (rule:∀ (i:Int) (t:Tok) (s:Shared) (Q:Value->Shared->Prop) (E:Value->Shared->Prop),Q (.int (g i) s.toks) { s with toks:=s.toks + 1 }->wpAny (model X.prog X.w) X.A (f (.int i t)) Q E s) :
  UnR X f (rU fun i=>.int (g i)):=by
 intro pins s σ H x v Q I rx h;obtain⟨i,rfl,q⟩:=h;obtain⟨t,rfl⟩:=rx;exact rule i t s _ _ ⟨.int (g i),H,I.tok _,⟨_,rfl⟩,q⟩
def un_neg:UnR X (unaryOp .USub) (rU fun i=>.int (-i)):=unI fun _ _ _ _ _ q=>neg_int q
end
noncomputable def scal:V->V->Bool
 | .non,.non=>true | .non,.int _=>true | .int _,.non=>true | .non,.bl _=>true | .bl _,.non=>true | .non,.str _=>true | .str _,.non=>true
 | .int _,.int _=>true | .bl _,.bl _=>true | .str _,.str _=>true | .byt _,.byt _=>true
 | .int _,.str _=>true | .str _,.int _=>true | .bl _,.str _=>true | .str _,.bl _=>true
 | _,_=>false
def rEq:R2:=fun x y H Q=>scal x y=true/\Q (.bl (decide (x=y))) H
def rNe:R2:=fun x y H Q=>scal x y=true/\Q (.bl (!decide (x=y))) H
def qc1g{i j:Int}:decide (V.int i=V.int j)=(i == j):=by
 rw [Bool.eq_iff_iff];simp
def dec_bl{i j:Bool}:decide (V.bl i=V.bl j)=(i == j):=by
 rw [Bool.eq_iff_iff];simp
def qc1h{i j:Str}:decide (V.str i=V.str j)=(i == j):=by
 rw [Bool.eq_iff_iff];simp
def qc1i{i j:Array UInt8}:decide (V.byt i=V.byt j)=(i.toList == j.toList):=by
 rw [Bool.eq_iff_iff];cases i;cases j;simp
section
variable{X:Cx}{a b c:Expr}{ta tb tc:TE}{pos:Pos}
def qa1e{pins:List 'c'}{σ:St}{H:Hp}{s:Shared}{Q:VK}{k k':Bool}(I:Inv X pins σ H s)(q:Q (.bl k) H)(e:k=k'):EP X pins σ Q (.bool k') s:=by
 subst e;exact⟨.bl k,H,I,rfl,q⟩
def op_eq:OpR X (compareOp .Eq) rEq:=by
 intro pins s σ H x y v u Q I rx ry h;obtain⟨hs,q⟩:=h;cases x with
 | non =>
  cases rx
  cases y with
  | non=>cases ry;exact PySem.EqNone.eq_none_none (qa1e I q 'g')
  | bl j=>cases ry;exact PySem.EqNone.eq_none_bool (qa1e I q 'g')
  | int j=>obtain⟨t',rfl⟩:=ry;exact PySem.EqNone.eq_none_int (qa1e I q 'g')
  | str j=>obtain⟨t',rfl⟩:=ry;exact PySem.EqNone.eq_none_str (qa1e I q 'g')
  | _=>exact absurd (show false=true from hs) Bool.false_ne_true
 | bl i =>
  cases rx
  cases y with
  | non=>cases ry;exact PySem.EqNone.eq_bool_none (qa1e I q 'g')
  | bl j=>cases ry;exact eq_bool (qa1e I q dec_bl)
  | str j=>obtain⟨t',rfl⟩:=ry;exact PySem.EqMixed.eq_bool_str (qa1e I q 'g')
  | _=>exact absurd (show false=true from hs) Bool.false_ne_true
 | int i =>
  obtain⟨t,rfl⟩:=rx;cases y with
  | non=>cases ry;exact PySem.EqNone.eq_int_none (qa1e I q 'g')
  | int j=>obtain⟨t',rfl⟩:=ry;exact eq_int (qa1e I q qc1g)
  | str j=>obtain⟨t',rfl⟩:=ry;exact PySem.EqMixed.eq_int_str (qa1e I q 'g')
  | _=>exact absurd (show false=true from hs) Bool.false_ne_true
 | str i =>
  obtain⟨t,rfl⟩:=rx;cases y with
  | non=>cases ry;exact PySem.EqNone.eq_str_none (qa1e I q 'g')
  | bl j=>cases ry;exact PySem.EqMixed.eq_str_bool (qa1e I q 'g')
  | int j=>obtain⟨t',rfl⟩:=ry;exact PySem.EqMixed.eq_str_int (qa1e I q 'g')
  | str j=>obtain⟨t',rfl⟩:=ry;exact eq_str (qa1e I q qc1h)
  | _=>exact absurd (show false=true from hs) Bool.false_ne_true
 | byt i =>
  obtain⟨t,rfl⟩:=rx;cases y with
  | byt j=>obtain⟨t',rfl⟩:=ry;exact PySem.W.eq_bytes (qa1e I q qc1i)
  | _=>exact absurd (show false=true from hs) Bool.false_ne_true
 | _=>cases y<;>exact absurd (show false=true from hs) Bool.false_ne_true
def op_ne:OpR X (compareOp .NotEq) rNe:=by
 intro pins s σ H x y v u Q I rx ry h;obtain⟨hs,q⟩:=h;cases x with
 | non =>
  cases rx
  cases y with
  | non=>cases ry;exact PySem.EqNone.ne_none_none (qa1e I q 'g')
  | bl j=>cases ry;exact PySem.EqNone.ne_none_bool (qa1e I q 'g')
  | int j=>obtain⟨t',rfl⟩:=ry;exact PySem.EqNone.ne_none_int (qa1e I q 'g')
  | str j=>obtain⟨t',rfl⟩:=ry;exact PySem.EqNone.ne_none_str (qa1e I q 'g')
  | _=>exact absurd (show false=true from hs) Bool.false_ne_true
 | bl i =>
  cases rx
  cases y with
  | non=>cases ry;exact PySem.EqNone.ne_bool_none (qa1e I q 'g')
  | bl j=>cases ry;exact ne_bool (qa1e I q (congrArg not dec_bl))
  | str j=>obtain⟨t',rfl⟩:=ry;exact PySem.EqMixed.ne_bool_str (qa1e I q 'g')
  | _=>exact absurd (show false=true from hs) Bool.false_ne_true
 | int i =>
  obtain⟨t,rfl⟩:=rx;cases y with
  | non=>cases ry;exact PySem.EqNone.ne_int_none (qa1e I q 'g')
  | int j=>obtain⟨t',rfl⟩:=ry;exact ne_int (qa1e I q (congrArg not qc1g))
  | str j=>obtain⟨t',rfl⟩:=ry;exact PySem.EqMixed.ne_int_str (qa1e I q 'g')
  | _=>exact absurd (show false=true from hs) Bool.false_ne_true
 | str i =>
  obtain⟨t,rfl⟩:=rx;cases y with
  | non=>cases ry;exact PySem.EqNone.ne_str_none (qa1e I q 'g')
  | bl j=>cases ry;exact PySem.EqMixed.ne_str_bool (qa1e I q 'g')
  | int j=>obtain⟨t',rfl⟩:=ry;exact PySem.EqMixed.ne_str_int (qa1e I q 'g')
  | str j=>obtain⟨t',rfl⟩:=ry;exact ne_str (qa1e I q (congrArg not qc1h))
  | _=>exact absurd (show false=true from hs) Bool.false_ne_true
 | byt i =>
  obtain⟨t,rfl⟩:=rx;cases y with
  | byt j=>obtain⟨t',rfl⟩:=ry;exact PySem.W.ne_bytes (qa1e I q (congrArg not qc1i))
  | _=>exact absurd (show false=true from hs) Bool.false_ne_true
 | _=>cases y<;>exact absurd (show false=true from hs) Bool.false_ne_true
def op_lt:OpR X (compareOp .Lt) (rI0 fun i j=>.bl (decide (i < j))):=opB0 fun _ _ _ _ _ _ _ q=>lt_int q
def op_le:OpR X (compareOp .LtE) (rI0 fun i j=>.bl (decide (i <= j))):=opB0 fun _ _ _ _ _ _ _ q=>le_int q
def op_gt:OpR X (compareOp .Gt) (rI0 fun i j=>.bl (decide (j < i))):=opB0 fun _ _ _ _ _ _ _ q=>gt_int q
def op_ge:OpR X (compareOp .GtE) (rI0 fun i j=>.bl (decide (j <= i))):=opB0 fun _ _ _ _ _ _ _ q=>ge_int q
def qc5h:OpR X (compareOp .In) (fun x y H Q=>∃ i j,x=.str i/\y=.str j/\Q (.bl (!(Builtin.Str.occurrences j i 0 j.length 1).isEmpty)) H):=by
 intro pins s σ H x y v u Q I rx ry h;obtain⟨i,j,rfl,rfl,q⟩:=h;obtain⟨t,rfl⟩:=rx;obtain⟨t',rfl⟩:=ry;exact in_str (qa1e I q rfl)
def OpR.or{f:Value->Value->Sem Value}{r r':R2}(h:OpR X f r)(h':OpR X f r'):OpR X f (fun x y H Q=>r x y H Q ∨ r' x y H Q):=by
 intro pins s σ H x y v u Q I rx ry q;rcases q with q | q
 ·exact h pins s σ H x y v u Q I rx ry q
 ·exact h' pins s σ H x y v u Q I rx ry q
def qa0x(b:Expr){op:CmpOp}(h:op ≠ .In:=by decide)(h2:op ≠ .NotIn:=by decide):behindInMarks op b=false:=by
 have e1:(op == CmpOp.In)=false:=by cases op<;>first | rfl | exact absurd rfl h
 have e2:(op == CmpOp.NotIn)=false:=by cases op<;>first | rfl | exact absurd rfl h2
 cases b<;>simp [behindInMarks,e1,e2]
def pe_cmpR{op:CmpOp}{r:R2}(ho:OpR X (compareOp op) r)(ha:PE X a ta)(hb:PE X b tb)(hm:behindInMarks op b=false):PE X (.Compare a [op] [b] pos) (tOp r ta tb):=by
 intro pins s σ H Q I h;exact wpAny_Compare1 (binT ha hb I h fun v u s2 x y H2 I2 rx ry q=>ho pins s2 σ H2 x y v u Q I2 rx ry q) hm
def tTest(t:TE):TT:=fun σ H Q=>t σ H fun x H'=>∃ k,x=.bl k/\Q k H'
def qb1t{op:CmpOp}{r:R2}(ho:OpR X (compareOp op) r)(ha:PE X a ta)(hb:PE X b tb)(hm:behindInMarks op b=false):PT X (.Compare a [op] [b] pos) (tTest (tOp r ta tb)):=by
 intro pins s σ H Q I h;refine wpAny_isTrue_Compare1 (thn (ha pins s σ H _ I h) fun v s1 ⟨x,H1,I1,r1,q1⟩=>thn (hb pins s1 σ H1 _ I1 q1) fun u s2 ⟨y,H2,I2,r2,q2⟩ =>
  thn (ho pins s2 σ H2 x y v u _ I2 r1 r2 q2) fun c s3 ⟨z,H3,I3,r3,k,e,q3⟩=>?_) hm
 subst e;cases r3;exact wpAny_truthy_bool ⟨H3,I3,q3⟩
def qb7c(r r':R2)(ta tb tc:TE):TE:=fun σ H Q=>ta σ H fun x H1=>tb σ H1 fun y H2=>r x y H2 fun z H3=>∃ k,z=.bl k /\
 (if k=true then tc σ H3 fun w' H4=>r' y w' H4 Q else Q (.bl false) H3)
def qc7u{op op':CmpOp}{r r':R2}(ho:OpR X (compareOp op) r)(ho':OpR X (compareOp op') r')(ha:PE X a ta)(hb:PE X b tb)(hc:PE X c tc)
  (hm:lastMarks [op,op'] [b,c]=false:=by with_unfolding_all rfl):PE X (.Compare a [op,op'] [b,c] pos) (qb7c r r' ta tb tc):=by
 intro pins s σ H Q I h;refine Compare_chain (thn (ha pins s σ H _ I h) fun v s1 ⟨x,H1,I1,r1,q1⟩=>chain_link (thn (hb pins s1 σ H1 _ I1 q1) fun u s2 ⟨y,H2,I2,r2,q2⟩ =>
  thn (ho pins s2 σ H2 x y v u _ I2 r1 r2 q2) fun d s3 ⟨z,H3,I3,r3,k,e,q3⟩=>?_)) hm
 subst e;cases r3;refine wpAny_truthy_bool ?_;cases k with
 | false=>exact ite_ff ⟨.bl false,H3,I3,rfl,q3⟩
 | true=>exact ite_tt (chain_last (thn (hc pins s3 σ H3 _ I3 q3) fun w' s4 hq8=>by obtain⟨z',H4,I4,r4,q4⟩:=hq8;exact ho' pins s4 σ H4 y z' u w' Q I4 r2 r4 q4))
def qc7v{op op':CmpOp}{r r':R2}(ho:OpR X (compareOp op) r)(ho':OpR X (compareOp op') r')(ha:PE X a ta)(hb:PE X b tb)(hc:PE X c tc)
  (hm:lastMarks [op,op'] [b,c]=false:=by with_unfolding_all rfl):PT X (.Compare a [op,op'] [b,c] pos) (tTest (qb7c r r' ta tb tc)):=by
 intro pins s σ H Q I h;refine isTrue_chain (thn (ha pins s σ H _ I h) fun v s1 ⟨x,H1,I1,r1,q1⟩=>test_link (thn (hb pins s1 σ H1 _ I1 q1) fun u s2 ⟨y,H2,I2,r2,q2⟩ =>
  thn (ho pins s2 σ H2 x y v u _ I2 r1 r2 q2) fun d s3 ⟨z,H3,I3,r3,k,e,q3⟩=>?_)) hm
 subst e;cases r3;refine wpAny_truthy_bool ?_;cases k with
 | false =>
  obtain⟨k',e',q'⟩:=q3;cases e';exact ite_ff ⟨H3,I3,q'⟩
 | true =>
  refine ite_tt (test_last (thn (hc pins s3 σ H3 _ I3 q3) fun w' s4 ⟨z',H4,I4,r4,q4⟩=>thn (ho' pins s4 σ H4 y z' u w' _ I4 r2 r4 q4) fun d' s5 hq9=>?_));obtain⟨z2,H5,I5,r5,k2,e2,q5⟩:=hq9;subst e2;cases r5;exact wpAny_truthy_bool ⟨H5,I5,q5⟩
def qa9h:(sizeLine:Nat) < 2 ^ 63:=by rw [sizeLine_eq];decide
def qc3e:OpR X (binaryOp .Add) (fun x y H Q=>∃ i j,x=.str i/\y=.str j/\i.length + j.length <= sizeLine/\Q (.str (i ++ j)) H):=by
 intro pins s σ H x y v u Q I rx ry h;obtain⟨i,j,rfl,rfl,hz,q⟩:=h;obtain⟨t,rfl⟩:=rx;obtain⟨t',rfl⟩:=ry;exact add_str (fun t' tk=>⟨.str (i ++ j),H,I.tok _,⟨_,rfl⟩,q⟩) hz
def vals1{x:V}{us:List Value}(r:Vals [x] us):∃ u,us=[u]/\RelV x u:=by
 cases r with
 | cons r1 r2=>cases r2;exact⟨_,rfl,r1⟩
end
end L2
namespace L2
open PySem PySem.Spec PyProof.Rows
structure ObjM(h:Heap)(x dx C:Addr)(mA:Str->Option Value):Prop where
 obj:h.get? x=some (PySem.W.instObj C dx)
 ns:h.Ns1 dx mA
 ne:dx ≠ x
def RelO.some_of{v:V}{o:Option Value}(r:RelO (some v) o):∃ u,o=some u/\RelV v u:=by
 cases o with
 | none=>exact(show False from r).elim
 | some u=>exact⟨u,rfl,r⟩
structure Cls(K:W.Frag)(C:Addr):Prop where
 pg:PySem.W.plainGet K C Str.empty=true
 hd:PySem.W.hasDictIn K C=true
 po:PySem.W.plainOver K C=true
 sa:PySem.W.findIn K (.ref C) "__setattr__" = some (some (.builtin "object.__setattr__"))
end L2
namespace L2
open PySem PySem.Spec PyProof.Rows
structure Room(k:Nat)(A:Around):Prop where
 hd:A.handled=none
 dp:A.depth + 3 * k + 5 < recursionLimit
 un:A.units + 16 * k + 200 < cLine
 gd:A.guards=some []
def Room.mono{j k:Nat}{A:Around}(r:Room k A)(h:j <= k):Room j A:=⟨r.hd,by have:=r.dp;omega,by have:=r.un;omega,r.gd⟩
def Room.deeper{k:Nat}{A:Around}(r:Room (k + 1) A)(env:Env):Room k (A.deeper env):=
 ⟨r.hd,by have:=r.dp;show A.depth + 1 + 3 * k + 5 < _;omega,by have:=r.un;show A.units + 3 + 16 * k + 200 < _;omega,r.gd⟩
def Room.depth{k:Nat}{A:Around}(r:Room k A):A.depth < recursionLimit:=by have:=r.dp;omega
def Room.units{k:Nat}{A:Around}(r:Room k A):A.units + 64 < cLine:=by have:=r.un;omega
def tNil:TA:=fun _ H Q=>Q [] H
def qa3w(ta:TE)(tr:TA):TA:=fun σ H Q=>ta σ H fun x H1=>tr σ H1 fun xs H2=>Q (x :: xs) H2
section
variable{X:Cx}{e:Expr}{es:List Expr}{te:TE}{t:TA}{pos:Pos}
def qa1s:PA X [] tNil:=fun _ _ _ _ H Q I h=>Calls.spliced_nil ⟨[],H,I,.nil,h⟩
def qa0s(ha:PE X e te)(hr:PA X es t)(hs:starEach (e :: es) X.env=(false,eval e X.env) :: starEach es X.env:=by rfl):PA X (e :: es) (qa3w te t):=by
 intro pos pins s σ H Q I h;rw [hs];show wpAny _ _ (spliced ((false,eval e X.env) :: backTo pos (starEach es X.env))) _ _ s;refine Calls.spliced_cons (thn (ha pins s σ H _ I h) fun u s1 hq9=>?_);obtain⟨x,H1,I1,r1,q1⟩:=hq9;exact thn (hr pos pins s1 σ H1 _ I1 q1) fun us s2 hq8=>by obtain⟨xs,H2,I2,r2,q2⟩:=hq8;exact⟨x :: xs,H2,I2,.cons r1 r2,q2⟩
def tTup(t:TA):TE:=fun σ H Q=>t σ H fun xs H1=>xs.length <= sizeLine/\∀ p,H1 p=none->Q (.ref p) (upd H1 p (.tup xs))
def tLst(t:TA):TE:=fun σ H Q=>t σ H fun xs H1=>xs.length <= sizeLine/\∀ p,H1 p=none->Q (.ref p) (upd H1 p (.lst xs))
def pe_tup{x1}(h:PA X es t):PE X (.Tuple es x1 pos) (tTup t):=by
 intro pins s σ H Q I hq;refine wpAny_Tuple_spliced (thn (h pos pins s σ H _ I hq) fun us s1 ⟨xs,H1,I1,r,z,q⟩=>⟨by rw [← r.length];exact z,?_⟩);have hf:H1 s1.heap.objs.size=none:=I1.hok.fresh 'e';refine⟨.ref s1.heap.objs.size,upd H1 s1.heap.objs.size (.tup xs),I1.laid (t':=s1.toks) (fun b u e=>get?_push_of_some _ e) 'e' ?_,rfl,q _ hf⟩;exact⟨z,us,r,⟨_,get?_push_size _ rfl,⟨rfl,rfl⟩,_,rfl⟩⟩
def qb7d(h:PA X es t):PE X (.List es pos) (tLst t):=by
 intro pins s σ H Q I hq;refine wpAny_List_spliced (thn (h pos pins s σ H _ I hq) fun us s1 ⟨xs,H1,I1,r,z,q⟩=>⟨by rw [← r.length];exact z,?_⟩);have hf:H1 s1.heap.objs.size=none:=I1.hok.fresh 'e';refine⟨.ref s1.heap.objs.size,upd H1 s1.heap.objs.size (.lst xs),I1.laid (t':=s1.toks) (fun b u e=>get?_push_of_some _ e) 'e' ?_,rfl,q _ hf⟩;exact⟨z,us,0,r,get?_push_size _ rfl⟩
end
abbrev Sp:=List V->Hp->VK->XK->Prop
abbrev CXT:=List Env->Hp->Shared->XK->Value->Shared->Prop
structure Env0(P:Program)(w:World)(K:W.Frag)(mg:Str->Option Value)(base:Heap)(A:Around)(outer:List Env)(s:Shared)(H:Hp):Prop where
 frames:A.frames=some outer
 mod:Mod K mg base
 bs:∀ b o,base.get? b=some o->s.heap.get? b=some o/\H b=none
 bsz:base.objs.size <= s.heap.objs.size
 funs:s.heap.FunFrames base outer
 frf:∀ b ∈ frs outer,H b=none
 hok:HOk P w H s.heap
 bare:AllBare s.gens
def CE(outer:List Env)(P:Program)(w:World)(H:Hp)(s:Shared)(Q:VK)(u:Value)(s':Shared):Prop:=
 ∃ v H',s'.os=s.os/\AllBare s'.gens/\Un (frs outer) [] H H' s.heap s'.heap/\HOk P w H' s'.heap/\RelV v u/\Q v H'
def CR(CX:CXT)(outer:List Env)(P:Program)(w:World)(H:Hp)(s:Shared)(Q:VK)(E:XK)(r:Result)(s':Shared):Prop:=
 match r with
 | .ok (.ret u)=>CE outer P w H s Q u s'
 | .ok _=>False
 | .error e=>CX outer H s E e s'
structure FnOk(P:Program)(w:World)(K:W.Frag)(mg:Str->Option Value)(base:Heap)(CX:CXT)(k:Nat)(f:Addr)(fd:FuncData)(ps:List Str)(sp:Sp):Prop where
 len:∀ vs H Q E,sp vs H Q E->vs.length=ps.length
 run:∀ (A:Around) (outer:List Env) (s:Shared) (H:Hp) (args:Args) (us:List Value) (vs:List V) (Q:VK) (E:XK),Room k A->Env0 P w K mg base A outer s H->BindsTo s fd args (ps.zip us)->Vals vs us->sp vs H Q E ->
  codeAny (model P w) A (.call (.ref f) args) (CR CX outer P w H s Q E) s
def FnOk.mono{P:Program}{w:World}{K:W.Frag}{mg:Str->Option Value}{base:Heap}{CX:CXT}{j k:Nat}{f:Addr}{fd:FuncData}{ps:List Str}{sp:Sp}(F:FnOk P w K mg base CX j f fd ps sp)(h:j <= k) :
  FnOk P w K mg base CX k f fd ps sp:=⟨F.len,fun A outer s H args us vs Q E hr=>F.run A outer s H args us vs Q E (hr.mono h)⟩
section
variable{X:Cx}{pins:List 'c'}{σ:St}{H:Hp}{s s':Shared}
def Inv.env0(I:Inv X pins σ H s):Env0 X.prog X.w X.K X.mg X.base X.A X.stack s H:=
 ⟨I.ok.frames,I.ok.mod,I.bs,le_trans I.ok.bsz I.sz,I.stack,I.stkFree,I.hok,I.bare⟩
def Inv.after{Q:VK}{u:Value}(I:Inv X pins σ H s)(h:CE X.stack X.prog X.w H s Q u s'):EP X pins σ Q u s':=by
 obtain⟨v,H',os,bare,un,hok,r,q⟩:=h;obtain⟨hh,g,d,t,os'⟩:=s';obtain rfl:os'=s.os:=os;exact⟨v,H',I.call (h':=hh) (g':=g) (d':=d) (t':=t) (ch:=[]) un hok bare (fun b z=>absurd z 'g'),r,q⟩
end
def tCall(sp:Sp)(dvs:List V)(E:XK)(t:TA):TE:=fun σ H Q=>t σ H fun vs H1=>sp (vs ++ dvs) H1 Q E
def Binds(K:W.Frag)(fd:FuncData)(ps:List Str)(ds:List Value):Prop:=
 ∀ (s:Shared) (us:List Value),K.In s.heap->(us ++ ds).length=ps.length->BindsTo s fd ⟨us,[]⟩ (ps.zip (us ++ ds))
def Binds.all{K:W.Frag}{fd:FuncData}{ps:List Str}(h:∀ us:List Value,us.length=ps.length->bindArgs fd ⟨us,[]⟩=pure (ps.zip us)):Binds K fd ps []:=fun s us _ hl=>by
 rw [append_nil] at hl ⊢;exact .of_eq (h us hl)
def qb7e(CX:CXT)(X:Cx)(E:XK):Prop:=∀ (pins:List 'c') (σ:St) (H:Hp) (s:Shared) (e:Value) (s':Shared),Inv X pins σ H s->CX X.stack H s E e s'->X.xe e s'
section
variable{X:Cx}{CX:CXT}{k:Nat}{f C:Addr}{fd:FuncData}{ps:List Str}{sp:Sp}{dvs:List V}{ds:List Value}{E:XK}{x m:Str}{p pos apos:Pos}{e o:Expr}{es:List Expr}{ta:TE}{t:TA}
def run_fn{pins:List 'c'}{σ:St}{H:Hp}{s:Shared}{Q:VK}{us:List Value}{vs:List V}(F:FnOk X.prog X.w X.K X.mg X.base CX k f fd ps sp)(hr:Room k X.A)(hb:Binds X.K fd ps ds)(hd:Vals dvs ds)(hx:qb7e CX X E)
  (I:Inv X pins σ H s) (r:Vals vs us) (h:sp (vs ++ dvs) H Q E):wpAny (model X.prog X.w) X.A (call (.ref f) us) (EP X pins σ Q) X.xe s:=by
 have r2:Vals (vs ++ dvs) (us ++ ds):=r.append hd;have hl:(us ++ ds).length=ps.length:=by rw [← r2.length];exact F.len _ _ _ _ h
 refine wpAny_call (codeAny_mono (F.run X.A X.stack s H ⟨us,[]⟩ (us ++ ds) (vs ++ dvs) Q E hr I.env0 (hb s us I.kIn hl) r2 h) fun r s' hq=>?_);cases r with
 | error e=>exact hx pins σ H s e s' I hq
 | ok fl =>
  cases fl with
  | ret u=>exact I.after hq
  | next=>exact False.elim hq
  | brk=>exact False.elim hq
  | cont=>exact False.elim hq
def pe_call(F:FnOk X.prog X.w X.K X.mg X.base CX k f fd ps sp)(hr:Room k X.A)(hg:Gl X x)(hm:X.mg x=some (.ref f))(hk:PySem.W.keepIn X.K (.ref f)=true)(hb:Binds X.K fd ps ds)(hd:Vals dvs ds)(hx:qb7e CX X E)
  (ha:PA X (e :: es) t) (hdb:(x == ("__debug__" : Str))=false:=by decide) (he:starEach (e :: es) X.env=(false,eval e X.env) :: starEach es X.env:=by rfl) (hpl:(backTo pos (starEach es X.env)).any (·.1)=false:=by rfl) :
  PE X (.Call (.Name x p) (e :: es) [] pos) (tCall sp dvs E t):=by
 intro pins s σ H Q I h;refine wpAny_Call_Name_kw (qa9e I hg hm ?_ hdb);refine PySem.W.callWith_K (h₀:=X.base) I.ok.mod.kin hk (thn (ha pos pins s σ H _ I h) fun us s1 ⟨vs,H1,I1,r,q⟩=>⟨I1.kIn,?_⟩) he hpl;exact run_fn F hr hb hd hx I1 r q
end
section
variable{X:Cx}{CX:CXT}{k:Nat}{f C:Addr}{fd:FuncData}{ps ks:List Str}{sp:Sp}{E:XK}{x m:Str}{p pos apos kpos:Pos}{e o:Expr}{es:List Expr}{kws:List Keyword}{te ta:TE}{t tk:TA}{nm:Option Str}
variable{g:List Value->List Value->List Value}{gV:List V->List V->List V}
end
structure FnScope(N P:List Str)(sc:Scope):Prop where
 kind:sc.kind=.function
 co:sc.isCoroutine=false
 gen:sc.isGenerator=false
 nd:N.Nodup
 pre:N.take P.length=P
 par:∀ x ∈ P,sc.names.lookup x=some .local ∨ sc.names.lookup x=some .cell
 nofree:∀ y ∈ sc.names,y.2 ≠ .free
def qb5t{kindOf:Str->Option NameKind}{x:Str}:∀ {binds:List (Str × Value)} {m:Str->Option Value},(∀ v,(x,v) ∉ binds)->bindL kindOf binds m x=m x
 | [],_,_=>rfl
 | (n,v) :: r,m,h=>by
  unfold bindL;rw [qb5t fun w hw=>h w (mem_cons_of_mem _ hw)];split
  ·have:x ≠ n:=by rintro rfl;exact h v mem_cons_self
   simp [this]
  ·rfl
def qb5u{kindOf:Str->Option NameKind}{x:Str}:∀ {binds:List (Str × Value)} {m:Str->Option Value},(∀ v,(x,v) ∉ binds)->bindC kindOf binds m x=m x
 | [],_,_=>rfl
 | (n,v) :: r,m,h=>by
  unfold bindC;rw [qb5u fun w hw=>h w (mem_cons_of_mem _ hw)];split
  ·rfl
  ·have:x ≠ n:=by rintro rfl;exact h v mem_cons_self
   simp [this]
def qb5v{kindOf:Str->Option NameKind}{x:Str}{v:Value}:∀ {P:List Str} {vs:List Value} {i:Nat} {m:Str->Option Value},P.Nodup->P[i]? = some x->vs[i]? = some v->kindOf x=some .local ->
  bindL kindOf (P.zip vs) m x=some v
 | [],_,_,_,_,h,_,_=>by simp at h
 | _ :: _,[],_,_,_,_,h,_=>by simp at h
 | p :: P,w :: vs,0,m,nd,h1,h2,hk=>by
  simp at h1 h2;subst h1;subst h2
  show bindL kindOf ((p,w) :: P.zip vs) m p=_;unfold bindL;rw [qb5t fun v hv=>(nodup_cons.mp nd).1 (List.of_mem_zip hv).1,if_pos hk];simp
 | p :: P,w :: vs,i + 1,m,nd,h1,h2,hk=>by
  show bindL kindOf ((p,w) :: P.zip vs) m x=_;unfold bindL;exact qb5v (i:=i) (nodup_cons.mp nd).2 (by simpa using h1) (by simpa using h2) hk
def qb5w{kindOf:Str->Option NameKind}{x:Str}{v:Value}:∀ {P:List Str} {vs:List Value} {i:Nat} {m:Str->Option Value},P.Nodup->P[i]? = some x->vs[i]? = some v->kindOf x ≠ some .local ->
  bindC kindOf (P.zip vs) m x=some v
 | [],_,_,_,_,h,_,_=>by simp at h
 | _ :: _,[],_,_,_,_,h,_=>by simp at h
 | p :: P,w :: vs,0,m,nd,h1,h2,hk=>by
  simp at h1 h2;subst h1;subst h2
  show bindC kindOf ((p,w) :: P.zip vs) m p=_;unfold bindC;rw [qb5u fun v hv=>(nodup_cons.mp nd).1 (List.of_mem_zip hv).1,if_neg hk];simp
 | p :: P,w :: vs,i + 1,m,nd,h1,h2,hk=>by
  show bindC kindOf ((p,w) :: P.zip vs) m x=_;unfold bindC;exact qb5w (i:=i) (nodup_cons.mp nd).2 (by simpa using h1) (by simpa using h2) hk
noncomputable def start(N:List Str)(vs:List V):St:=vs.map some ++ List.replicate (N.length - vs.length) none
noncomputable def cxOf(CX:CXT)(P:Program)(w:World)(K:W.Frag)(mg:Str->Option Value)(base:Heap)(N:List Str)(qual:Str)(scope:Scope)(f:Addr)(cd:Value)(A:Around)(outer:List Env)(s:Shared)(H:Hp)(E:XK):Cx where
 prog:=P
 w:=w
 K:=K
 mg:=mg
 base:=base
 A:=A.deeper (envOfC qual scope s.heap.objs.size f cd)
 N:=N
 s₀:=s
 H₀:=H
 env:=envOfC qual scope s.heap.objs.size f cd
 outer:=outer
 stack:=envOfC qual scope s.heap.objs.size f cd :: outer
 ex:=[]
 calm:=true
 fn:=fun _=>true
 pn:=[]
 xe:=fun e s'=>wpAny (model P w) (A.deeper (envOfC qual scope s.heap.objs.size f cd)) (leaving (envOfC qual scope s.heap.objs.size f cd) e) (fun _ s''=>CX outer H s E e s'') (fun e' s''=>CX outer H s E e' s'') s'
def qb7f{sc:Scope}{n:Nat}{x:Str}(h:sc.names.lookup x=some .cell):∃ c,(cellsFrom n sc.names []).lookup x=some c:=by
 have q:=PySem.W.cellsFrom_some sc.names n [] (.inl h);exact Option.isSome_iff_exists.mp q
def qc5i{CX:CXT}{P:Program}{w:World}{K:W.Frag}{mg:Str->Option Value}{base:Heap}{N ps:List Str}{qual:Str}{scope:Scope}{f:Addr}{cd:Value}{A:Around}{outer:List Env}{s s1:Shared}{H:Hp}{E:XK}{us:List Value}{vs:List V}
  (S:FnScope N ps scope) (hd:A.handled=none) (e0:Env0 P w K mg base A outer s H) (hl:vs.length=ps.length) (r:Vals vs us)
  (x:InCallC s s.heap.objs.size (bindL (envOfC qual scope s.heap.objs.size f cd).kindOf (ps.zip us) fun _=>none) (cellsFrom (s.heap.objs.size + 1) scope.names []) (bindC (envOfC qual scope s.heap.objs.size f cd).kindOf (ps.zip us) fun _=>none) s1) :
  Inv (cxOf CX P w K mg base N qual scope f cd A outer s H E) [] (start N vs) H s1:=by
 have hpl:ps.length <= N.length:=by have:=congrArg List.length S.pre;rw [length_take] at this;omega
 obtain⟨h1,tk,rfl,hk⟩:=x.done;have noA:∀ b:Addr,b ∉ (cxOf CX P w K mg base N qual scope f cd A outer s H E).ex:=fun b z=>absurd (show b ∈ ([]:List Addr) from z) 'g';refine⟨⟨e0.mod,S.kind,rfl,rfl,le_refl _,fun y z c h1 h2=>?_,fun y hy=>?_,fun y c _ h=>?_,fun _=>hd,Around.frames_deeper e0.frames,.inr ⟨rfl,rfl⟩,fun b z=>absurd z (noA b),e0.bs,e0.bsz,fun b _ _=>noA b,fun b z=>absurd z (noA b),e0.funs,e0.frf⟩,
  rfl,e0.bare,Un.kept hk,⟨_,x.toInCall.ns,fun i y v h1 h2 h3=>?_⟩,fun y c h=>⟨_,x.cell y c h⟩,e0.hok.fresh 'e',fun y c h=>?_,fun p hp=>absurd (show p ∈ ([]:List 'c') from hp) 'g',e0.hok.kept hk,?_⟩
 ·exact name_of_addr x.apart (PySem.mem_of_lookup h1) (PySem.mem_of_lookup h2)
 ·have hy:scope.names.lookup y=some .cell ∨ scope.names.lookup y=some .free:=hy
  rcases hy with hy | hy
  ·exact qb7f hy
  ·exact absurd rfl (S.nofree _ (PySem.mem_of_lookup hy))
 ·exact le_of_lt (x.above y c (PySem.mem_of_lookup h))
 ·have hi:i < vs.length:=by
   unfold start at h2;by_cases hi:i < vs.length
   ·exact hi
   ·rw [getElem?_append_right (by simpa using hi)] at h2
    rw [List.getElem?_replicate] at h2;split at h2<;>cases h2
  have ha:vs[i]? = some v:=by
   unfold start at h2;rw [List.getElem?_append_left (by simpa using hi),getElem?_map] at h2;cases e:vs[i]? with
   | none=>rw [e] at h2;cases h2
   | some a=>rw [e] at h2;cases h2;rfl
  obtain⟨u,hu,rv⟩:=r.get ha;have hp:ps[i]? = some y:=by
   rw [← S.pre,List.getElem?_take_of_lt 'o'];exact h1
  have ndP:ps.Nodup:=by rw [← S.pre];exact S.nd.sublist (List.take_sublist _ _)
  refine⟨u,rv,?_⟩;rcases S.par y (mem_of_getElem? hp) with k | k
  ·exact .inl ⟨k,qb5v ndP hp hu k⟩
  ·obtain⟨c,e⟩:=qb7f (n:=s.heap.objs.size + 1) k
   refine .inr ⟨.inl k,c,e,?_⟩;have q:=x.cell y c e;rw [qb5w ndP hp hu (by show scope.names.lookup y ≠ _;rw [k];decide)] at q;exact q
 ·exact e0.hok.fresh (le_of_lt (x.above y c (PySem.mem_of_lookup h)))
 ·unfold start
  show _=N.length;rw [length_append,length_map,length_replicate];omega
def fn_of{CX:CXT}{P:Program}{w:World}{K:W.Frag}{mg:Str->Option Value}{base:Heap}{k:Nat}{f:Addr}{name qual:Str}{params:Arguments}{body:List Stmt}{scope:Scope}{dV kV doc pm cdv ct oc:Value}{an od:Option Addr}
  {osl:Array (Option Value)} {N ps:List Str} {sp:Sp} (lk:K.lookup f=some ⟨oc,od,.func (PySem.W.fnOf name qual params body scope dV kV doc pm an cdv ct),osl⟩) (hcd:PySem.W.codeIn K cdv qual=true) (S:FnScope N ps scope)
  (len:∀ vs H Q E,sp vs H Q E->vs.length=ps.length)
  (hbody:∀ (A:Around) (outer:List Env) (s:Shared) (H:Hp) (vs:List V) (Q:VK) (E:XK),Room k (A.deeper (envOfC qual scope s.heap.objs.size f cdv))->sp vs H Q E ->
   ∃ t,PSs (cxOf CX P w K mg base N qual scope f cdv A outer s H E) body t/\t { nx:=fun _ H'=>Q .non H',rt:=Q } (start N vs) H) :
  FnOk P w K mg base CX (k + 1) f (PySem.W.fnOf name qual params body scope dV kV doc pm an cdv ct) ps sp:=by
 refine⟨len,fun A outer s H args us vs Q E hr e0 hb r hsp=>?_⟩;have hl:=len _ _ _ _ hsp;have KX:K.In s.heap:=e0.mod.kin.keeps fun b o e=>(e0.bs b o e).1;have lim:s.heap.NoLimit:=e0.mod.nolimit.keeps fun b o e=>(e0.bs b o e).1;have hkind:∀ y ∈ ps.zip us,scope.names.lookup y.1=some .local ∨ (scope.names.lookup y.1=some .cell/\((cellsFrom (s.heap.objs.size + 1) scope.names []).lookup y.1).isSome=true):=fun⟨n,v⟩ hy=>by
  rcases S.par n (List.of_mem_zip hy).1 with q | q
  ·exact .inl q
  ·exact .inr ⟨q,PySem.W.cellsFrom_some _ _ _ (.inl q)⟩
 refine codeAny_call_function hr.depth (KX _ _ lk) rfl S.co S.gen rfl (PySem.W.codeRec_of KX hcd) (hb _ _ _ _ ?_);refine wpAny_newFunctionEnv_cells S.kind hkind fun env he s1 x=>?_;subst he;refine⟨lim.keeps x.toInCall.keep,codeAny_func ?_⟩;obtain⟨t,ht,hq⟩:=hbody A outer s H vs Q E (hr.deeper _) hsp;have I:Inv (cxOf CX P w K mg base N qual scope f cdv A outer s H E) [] (start N vs) H s1:=qc5i S hr.hd e0 hl r x;refine wpAny_mono (ht [] s1 (start N vs) H _ I hq) (fun fl s' hs=>?_) fun e s' hs=>hs;have fin:∀ {σ':St} {H':Hp} {v:V} {u:Value},Inv (cxOf CX P w K mg base N qual scope f cdv A outer s H E) [] σ' H' s'->RelV v u->Q v H'->CE outer P w H s Q u s':=
  fun{σ' H' v u} J rv q=>⟨v,H',J.os,J.bare,J.base,J.hok,rv,q⟩
 cases fl with
 | ret u =>
  obtain⟨v,σ',H',J,rv,q⟩:=hs;exact fin J rv q
 | next =>
  obtain⟨σ',H',J,q⟩:=hs;exact fin (v:=V.non) (u:=Value.none) J rfl q
 | brk =>
  obtain⟨_,_,_,q⟩:=hs;exact False.elim q
 | cont =>
  obtain⟨_,_,_,q⟩:=hs;exact False.elim q
end L2
namespace L2
open PySem PySem.Spec PyProof.Rows
section
variable{X:Cx}{x:Str}{p pos:Pos}{e:Expr}{es:List Expr}{t:TA}{id T:String}{r:List V->Hp->VK->Prop}
def tCB(r:List V->Hp->VK->Prop)(t:TA):TE:=fun σ H Q=>t σ H fun vs H1=>r vs H1 Q
def qa3k(hc:qa1z X (.builtin id) r)(hg:Gl X x)(hm:X.mg x=none)(hv:bootBuiltins x=some (.builtin id))(ha:PA X (e :: es) t) (hn:x ≠ "__name__":=by decide) (hdb:(x == ("__debug__" : Str))=false:=by decide)
  (he:starEach (e :: es) X.env=(false,eval e X.env) :: starEach es X.env:=by rfl) (hpl:(backTo pos (starEach es X.env)).any (·.1)=false:=by rfl):PE X (.Call (.Name x p) (e :: es) [] pos) (tCB r t):=by
 intro pins s σ H Q I h;refine wpAny_Call_Name_kw (qa6v I hg hm hv ?_ hn hdb);exact PyProof.Rows.callWith_builtin1 (thn (ha pos pins s σ H _ I h) fun us s1 hq8=>by obtain⟨vs,H1,I1,r1,q1⟩:=hq8;exact hc pins s1 σ H1 vs us Q I1 r1 q1) he hpl
def qa6x(hc:qa1z X (.type T) r)(hg:Gl X x)(hm:X.mg x=none)(hv:bootBuiltins x=some (.type T))(ha:PA X (e :: es) t) (hn:x ≠ "__name__":=by decide) (hdb:(x == ("__debug__" : Str))=false:=by decide)
  (he:starEach (e :: es) X.env=(false,eval e X.env) :: starEach es X.env:=by rfl) (hpl:(backTo pos (starEach es X.env)).any (·.1)=false:=by rfl):PE X (.Call (.Name x p) (e :: es) [] pos) (tCB r t):=by
 intro pins s σ H Q I h;refine wpAny_Call_Name_kw (qa6v I hg hm hv ?_ hn hdb);exact PyProof.Rows.callWith_type1 (thn (ha pos pins s σ H _ I h) fun us s1 hq8=>by obtain⟨vs,H1,I1,r1,q1⟩:=hq8;exact hc pins s1 σ H1 vs us Q I1 r1 q1) he hpl
end
end L2
namespace HT
open PySem PyProof.Rows
section
open PySem.SeqAt
open PySem.AutoSeq1 (wpAny_loadPart')
open PySem.MeetsSeq PySem.MeetsSeq2 PySem.MeetsSeq3
end
section
variable{prog:Program}{w:World}{A:Around}{E:Value->Shared->Prop}{s:Shared}
def cat_tup{t b:Addr}{vs ws:List Value}{Q:Value->Shared->Prop}(ht:IsTup s.heap t vs.toArray)(hb:IsTup s.heap b ws.toArray)(hv:vs ≠ [])
  (h1:ws=[]->Q (.ref t) s) (h2:ws ≠ []->Q (.ref s.heap.objs.size) { s with heap:=s.heap.push { cls:=.type "tuple",data:=.seq (vs ++ ws).toArray } })
  (hsz:vs.length + ws.length <= sizeLine):wpAny (model prog w) A (binaryOp .Add (.ref t) (.ref b)) Q E s:=by
 obtain⟨⟨cls,dd,data,sl⟩,ho,hc,n,hd⟩:=id ht;obtain⟨⟨cls2,dd2,data2,sl2⟩,ho2,hc2,n2,hd2⟩:=id hb;simp only at hc hd hc2 hd2;subst hc hd hc2 hd2;have e:vs.toArray ++ ws.toArray=(vs ++ ws).toArray:=by simp
 by_cases hw:ws=[]
 ·exact concat_meets ⟨_,ho,rfl⟩ ⟨_,ho2,rfl⟩ noFill_tuple_add seq_tuple_add PySem.F.slot_tuple_add PySem.F.entry_tuple_add (PySem.F.args_tuple_add_2 _ _)
   (tuple_addW1 t b vs.toArray ws.toArray n n2 dd dd2 sl sl2 (by simpa using hv) (by simp [hw])) ⟨ho,ho2,h1 hw⟩
 ·refine concat_meets ⟨_,ho,rfl⟩ ⟨_,ho2,rfl⟩ noFill_tuple_add seq_tuple_add PySem.F.slot_tuple_add PySem.F.entry_tuple_add (PySem.F.args_tuple_add_2 _ _)
   (tuple_addW2 t b vs.toArray ws.toArray n n2 dd dd2 sl sl2 (by simpa using hv) (by simpa using hw) (by rw [size_toArray,size_toArray];exact hsz)) ⟨ho,ho2,?_⟩
  rw [e];exact h2 hw
noncomputable def sIx(n d:Nat):Option Int->Nat
 | none=>d
 | some v=>if v < 0 then(v + (n:Int)).toNat else min v.toNat n
def sIx_le(n d:Nat)(hd:d <= n)(o:Option Int):sIx n d o <= n:=by
 cases o with
 | none=>exact hd
 | some v =>
  show(if v < 0 then(v + (n:Int)).toNat else min v.toNat n) <= n;by_cases hv:v < 0
  ·rw [if_pos hv];omega
  ·rw [if_neg hv];exact Nat.min_le_right _ _
def qc1j(v:Int)(n d:Nat):(if v < 0 then max (v + (n:Int)) 0 else min v (n:Int))=((sIx n d (some v):Nat):Int):=by
 show(if v < 0 then max (v + (n:Int)) 0 else min v (n:Int))=(((if v < 0 then(v + (n:Int)).toNat else min v.toNat n):Nat):Int);by_cases hv:v < 0
 ·simp only [if_pos hv];omega
 ·simp only [if_neg hv];omega
def qc3f(lo hi:Option Int)(n:Nat):Builtin.Slice.sliceAdjust lo hi 1 (n:Int)=(((sIx n 0 lo:Nat):Int),((sIx n n hi:Nat):Int)):=by
 have h1:¬ ((1:Int) < 0):=by omega
 unfold Builtin.Slice.sliceAdjust;simp only [h1,if_false];refine Prod.ext ?_ ?_
 ·cases lo with
  | none=>rfl
  | some v=>exact qc1j v n 0
 ·cases hi with
  | none=>rfl
  | some v=>exact qc1j v n n
def qc3g(i j:Nat):Builtin.Slice.slicePlaces (i:Int) (j:Int) 1=j - i:=by
 unfold Builtin.Slice.slicePlaces;have h1:(1:Int) > 0:=by omega
 simp only [h1,if_true,Int.ediv_one];split<;>omega
def qb3f{v:Value}{o:Option Int}{Q:Option Int->Shared->Prop}(p:IsPart v o)(h:Q o s):wpAny (model prog w) A (Builtin.Slice.slicePartIndex v) Q E s:=by
 cases p with
 | none=>exact slicePart_none h
 | int i t=>exact slicePart_int h
def qb2m{sl:Addr}{vl vu:Value}{lo hi:Option Int}{n:Nat}{Q:Int × Int × Nat->Shared->Prop}(hs:s.heap.IsSliceOf sl vl vu .none)(pl:IsPart vl lo)(pu:IsPart vu hi)
  (h:Q (((sIx n 0 lo:Nat):Int),1,sIx n n hi - sIx n 0 lo) s):wpAny (model prog w) A (Builtin.Slice.sliceApplied (.ref sl) (pure (n:Int))) Q E s:=by
 obtain⟨os,hos,hcs,hds⟩:=id hs;unfold Builtin.Slice.sliceApplied Builtin.Slice.sliceFields;refine wpAny_bind (wpAny_bind (wpAny_field hos hds (x:=vl) rfl (wpAny_bind (wpAny_field hos hds (x:=vu) rfl (wpAny_bind (wpAny_field hos hds (x:=.none) rfl (wpAny_pure ?_)))))));refine wpAny_bind (slicePart_none ?_);show wpAny _ _ (if ((1:Int) == 0)=true then _ else _) _ _ s;rw [if_neg 'd'];refine wpAny_bind (qb3f pl (wpAny_bind (qb3f pu (wpAny_bind (wpAny_pure ?_)))));show wpAny _ _ (match Builtin.Slice.sliceAdjust lo hi 1 (n:Int) with | (lo,hi)=>pure (lo,(1:Int),Builtin.Slice.slicePlaces lo hi 1)) _ _ s;rw [qc3f lo hi n];show wpAny _ _ (pure (((sIx n 0 lo:Nat):Int),(1:Int),Builtin.Slice.slicePlaces ((sIx n 0 lo:Nat):Int) ((sIx n n hi:Nat):Int) 1)) _ _ s;rw [qc3g];exact wpAny_pure h
def qc7w(xs:Array Value)(i k:Nat):((List.range k).filterMap fun(m:Nat)=>xs[((i:Int) + (m:Int) * 1).toNat]?).toArray=((xs.toList.drop i).take k).toArray:=by
 have e:(fun(m:Nat)=>xs[((i:Int) + (m:Int) * 1).toNat]?)=fun m=>xs[i + m]?:=by
  funext m
  have:((i:Int) + (m:Int) * 1).toNat=i + m:=by omega
  rw [this]
 rw [e];have:=pick_run xs i k;rw [List.filterMap_map] at this;have e2:((fun x=>xs[x]?) ∘ fun x=>i + x)=fun m=>xs[i + m]?:=rfl;rw [e2] at this;rw [this]
def qb2a{t sl:Addr}{items:Array Value}{vl vu:Value}{lo hi:Option Int}{Q:Value->Shared->Prop}(ht:IsTup s.heap t items)(hs:s.heap.IsSliceOf sl vl vu .none)(pl:IsPart vl lo)(pu:IsPart vu hi)
  (hw:¬ (sIx items.size 0 lo=0/\sIx items.size items.size hi=items.size))
  (h:Q (.ref s.heap.objs.size) { s with heap:=s.heap.push { cls:=.type "tuple",data:=.seq ((items.toList.drop (sIx items.size 0 lo)).take (sIx items.size items.size hi - sIx items.size 0 lo)).toArray } })
  (hsz:items.size <= sizeLine):wpAny (model prog w) A (getItem (.ref t) (.ref sl)) Q E s:=by
 have htake:sizeOk (.seq ((items.toList.drop (sIx items.size 0 lo)).take (sIx items.size items.size hi - sIx items.size 0 lo)).toArray):=by
  show((items.toList.drop (sIx items.size 0 lo)).take (sIx items.size items.size hi - sIx items.size 0 lo)).toArray.size <= sizeLine;rw [size_toArray,length_take,length_drop,length_toList];omega
 have hj:sIx items.size items.size hi <= items.size:=sIx_le _ _ 'e' hi;obtain⟨os,hos,hcs,hds⟩:=id hs;have hTs:s.TypeIs (.ref sl) "slice":=⟨os,hos,hcs⟩;unfold getItem
 try with_reducible refine wpAny_holding ?_
 first | refine wpAny_bind (wpAny_pure ?_) | skip
 refine wpAny_bind (wpAny_sequenceKey ht.typeIs 'd' ?_);refine wpAny_bind (wpAny_callSpecial?_slot (name:=Str.ofString "__getitem__") ht.typeIs PyProof.Rows.slot_tuple_getitem
  (wpAny_call_entry PyProof.Rows.slot_tuple_getitem ht.typeIs entry_tuple_getitem ?_ (args_tuple_getitem _ _)))
 show wpAny _ _ (Builtin.Tuple.tupleItemsOf (.ref t) >>= _) _ _ s;refine wpAny_bind (tupleItemsOf_ ht ?_);refine wpAny_bind (wpAny_typeOf hTs ?_);rw [if_pos 'd'];refine wpAny_bind (qb2m hs pl pu ?_);have hno:¬ ((((sIx items.size 0 lo:Nat):Int) == 0 && (1:Int) == 1 && (sIx items.size items.size hi - sIx items.size 0 lo) == items.size)=true):=by
  intro q;rw [and_eq_true,and_eq_true] at q;have q1:((sIx items.size 0 lo:Nat):Int)=0:=eq_of_beq q.1.1;have q2:sIx items.size items.size hi - sIx items.size 0 lo=items.size:=eq_of_beq q.2;exact hw ⟨'o','o'⟩
 show wpAny _ _ (if (((sIx items.size 0 lo:Nat):Int) == 0 && (1:Int) == 1 && (sIx items.size items.size hi - sIx items.size 0 lo) == items.size)=true then _ else _) _ _ s;rw [if_neg hno,qc7w]
 first
  | exact wpAny_bind (m:=Builtin.Tuple.tupleExact _) (wpAny_newObj_type (wpAny_pure ⟨_,rfl,wpAny_pure h⟩) htake)
  | exact wpAny_bind (m:=Builtin.Tuple.tupleExact _) (wpAny_newObj_type (wpAny_bind (wpAny_pure (wpAny_pure ⟨_,rfl,wpAny_pure h⟩))) htake)
  | exact wpAny_bind (wpAny_bind (m:=Builtin.Tuple.tupleExact _) (wpAny_newObj_type (wpAny_pure (wpAny_pure ⟨_,rfl,wpAny_pure h⟩)) htake))
  | exact wpAny_bind (wpAny_bind (m:=Builtin.Tuple.tupleExact _) (wpAny_newObj_type (wpAny_pure ⟨_,rfl,wpAny_pure h⟩) htake))
end
end HT
namespace L2
open PySem PySem.Spec PyProof.Rows
abbrev TO:=St->Hp->(Option Int->Hp->Prop)->Prop
def PO(X:Cx)(e:Option Expr)(t:TO):Prop:=
 ∀ (pins:List 'c') (s:Shared) (σ:St) (H:Hp) (Q:Option Int->Hp->Prop),Inv X pins σ H s->t σ H Q ->
  wpAny (model X.prog X.w) X.A (evalPart e X.env) (fun u s'=>∃ o H',Inv X pins σ H' s'/\IsPart u o/\Q o H') X.xe s
noncomputable def qc1k:TO:=fun _ H Q=>Q none H
def tPart(t:TE):TO:=fun σ H Q=>t σ H fun x H1=>∃ i,x=.int i/\Q (some i) H1
def intsAre_of{ns:List Int}:∀ {us:List Value},Vals (ns.map V.int) us->IntsAre us ns:=by
 induction ns with
 | nil=>intro us r;rw [map_nil] at r;cases r;exact .nil
 | cons n ns ih =>
  intro us r;rw [map_cons] at r;cases r with
  | cons r1 r2 =>
   obtain⟨t,e⟩:=r1;subst e;exact .cons n t (ih r2)
section
variable{X:Cx}{e:Expr}{te:TE}{lo hi:Option Expr}{tl th:TO}{pos p2:Pos}
def po_none:PO X none qc1k:=by
 intro pins s σ H Q I h;rw [evalPart_none];exact wpAny_pure ⟨none,H,I,.none,h⟩
def po_some(h:PE X e te):PO X (some e) (tPart te):=by
 intro pins s σ H Q I hw;rw [evalPart_some];refine thn (h pins s σ H _ I hw) fun u s1 hq9=>?_;obtain⟨x,H1,I1,r1,q1⟩:=hq9;obtain⟨i,rfl,q⟩:=q1;obtain⟨t,rfl⟩:=r1;exact⟨some i,H1,I1,.int i t,q⟩
def SlR(X:Cx)(r:V->Option Int->Option Int->Hp->VK->Prop):Prop:=
 ∀ (pins:List 'c') (s:Shared) (σ:St) (H:Hp) (x:V) (v vl vu:Value) (lo hi:Option Int) (sl:Addr) (Q:VK),Inv X pins σ H s->RelV x v->s.heap.IsSliceOf sl vl vu .none->IsPart vl lo->IsPart vu hi->r x lo hi H Q ->
  ∃ T id,typeLookup (.type T) "__getitem__" = pure (some (.builtin id))/\s.TypeIs v T/\wpAny (model X.prog X.w) X.A (getItem v (.ref sl)) (EP X pins σ Q) X.xe s
def tSl(r:V->Option Int->Option Int->Hp->VK->Prop)(te:TE)(tl th:TO):TE:=fun σ H Q=>te σ H fun x H1=>tl σ H1 fun l H2=>th σ H2 fun u H3=>r x l u H3 Q
def qc7x{r:V->Option Int->Option Int->Hp->VK->Prop}(hr:SlR X r)(he:PE X e te)(hl:PO X lo tl)(hu:PO X hi th):PE X (.Subscript e (.Slice lo hi none p2) pos) (tSl r te tl th):=by
 intro pins s σ H Q I h;refine Subscript_ (thn (he pins s σ H _ I h) fun v s1 hq9=>?_);obtain⟨x,H1,I1,r1,q1⟩:=hq9;refine wpAny_Slice (thn (hl pins s1 σ H1 _ I1 q1) fun vl s2 ⟨l,H2,I2,pl,q2⟩=>thn (hu pins s2 σ H2 _ I2 q2) fun vu s3 hq9=>?_);obtain⟨u,H3,I3,pu,q3⟩:=hq9;rw [evalPart_none];refine wpAny_pure ?_;have I4:Inv X pins σ H3 { s3 with heap:=s3.heap.push { cls:=.type "slice",data:=.fields #[vl,vu,.none] } }:=I3.kept (t':=s3.toks) fun b ob q=>get?_push_of_some _ q;obtain⟨T,id,hT,ht,hg⟩:=hr pins { s3 with heap:=s3.heap.push { cls:=.type "slice",data:=.fields #[vl,vu,.none] } } σ H3 x v vl vu l u s3.heap.objs.size Q I4 r1 (Heap.IsSliceOf.new ..) pl pu q3;show wpAny (model X.prog X.w) X.A (subscriptTail e (.Slice lo hi none p2) v (.ref s3.heap.objs.size)) (EP X pins σ Q) X.xe { s3 with heap:=s3.heap.push { cls:=.type "slice",data:=.fields #[vl,vu,.none] } };exact tail_any (ops:=[.ref s3.heap.objs.size,v]) ht hT hg (by with_unfolding_all rfl)
noncomputable def cutV(xs:List V)(lo hi:Option Int):List V:=(xs.drop (HT.sIx xs.length 0 lo)).take (HT.sIx xs.length xs.length hi - HT.sIx xs.length 0 lo)
def qc0d(xs:List V)(lo hi:Option Int):(cutV xs lo hi).length <= xs.length:=by
 unfold cutV;rw [length_take,length_drop];omega
noncomputable def rSlT(K:W.Frag):V->Option Int->Option Int->Hp->VK->Prop:=fun x lo hi H Q=>∃ a xs,x=.ref a/\SqT K H a xs /\
 ¬ (HT.sIx xs.length 0 lo=0/\HT.sIx xs.length xs.length hi=xs.length)/\∀ p,H p=none->Q (.ref p) (upd H p (.tup (cutV xs lo hi)))
def qa5f:SlR X (rSlT X.K):=by
 intro pins s σ H x v vl vu lo hi sl Q I rx hs pl pu h;obtain⟨a,xs,rfl,hx,hw,q⟩:=h;cases rx;obtain⟨its,r,ht,hz⟩:=I.tuple hx;have hlen:its.toArray.size=xs.length:=by rw [size_toArray];exact r.length.symm
 refine⟨"tuple",_,PyProof.Rows.slot_tuple_getitem.lookup,ht.typeIs,?_⟩;refine HT.qb2a ht hs pl pu (by rw [hlen];exact hw) ?_ (by rw [hlen];exact hz);rw [hlen];refine⟨.ref s.heap.objs.size,_,I.laid (t':=s.toks) (o:=.tup (cutV xs lo hi)) (fun b ob q=>get?_push_of_some _ q) 'e' ?_,rfl,q _ (I.hok.fresh 'e')⟩;exact⟨le_trans (qc0d xs lo hi) hz,_,(r.drop (HT.sIx xs.length 0 lo)).take (HT.sIx xs.length xs.length hi - HT.sIx xs.length 0 lo),qa3y.new _ _⟩
def rCatT(K:W.Frag):R2:=fun x y H Q=>∃ a b xs ys,x=.ref a/\y=.ref b/\SqT K H a xs/\SqT K H b ys/\xs ≠ []/\xs.length + ys.length <= sizeLine /\
 (ys=[]->Q (.ref a) H)/\(ys ≠ []->∀ p,H p=none->Q (.ref p) (upd H p (.tup (xs ++ ys))))
def Vals.nil_iff{xs:List V}{us:List Value}(r:Vals xs us):us=[] ↔ xs=[]:=by
 cases r with
 | nil=>simp
 | cons _ _=>simp
def op_catT:OpR X (binaryOp .Add) (rCatT X.K):=by
 intro pins s σ H x y v u Q I rx ry h;obtain⟨a,b,xs,ys,rfl,rfl,ha,hb,hx,hz,q1,q2⟩:=h;cases rx;cases ry;obtain⟨its,r1,p1,_⟩:=I.tuple ha;obtain⟨its2,r2,p2,_⟩:=I.tuple hb;refine HT.cat_tup p1 p2 (fun z=>hx (r1.nil_iff.mp z)) (fun z=>⟨.ref a,H,I,rfl,q1 (r2.nil_iff.mp z)⟩) (fun z=>?_) (by rw [← r1.length,← r2.length];exact hz);refine⟨.ref s.heap.objs.size,_,I.laid (t':=s.toks) (o:=.tup (xs ++ ys)) (fun b ob q=>get?_push_of_some _ q) 'e' ?_,rfl,q2 (fun w=>z (r2.nil_iff.mpr w)) _ (I.hok.fresh 'e')⟩;exact⟨by rw [length_append];exact hz,_,r1.append r2,qa3y.new _ _⟩
end
end L2
namespace L2
open PySem PySem.Spec PyProof.Rows
noncomputable def ixN(n:Nat)(i:Int):Option Nat:=if 0 <= i then(if i < n then some i.toNat else none) else if -(n:Int) <= i then some (i + n).toNat else none
noncomputable def atI{α:Type}(xs:List α)(i:Int):Option α:=(ixN xs.length i).bind fun j=>xs[j]?
def qc1l{n:Nat}{i:Int}{j:Nat}(h:ixN n i=some j):seqIndex? i n=some j/\j < n /\ -(n:Int) <= i/\i < n:=by
 unfold ixN at h;by_cases h0:0 <= i
 ·rw [if_pos h0] at h
  by_cases h1:i < n
  ·rw [if_pos h1] at h
   have e:i.toNat=j:=Option.some.inj h;exact⟨by rw [seqIndex_of h0 h1,e],'o','o',h1⟩
  ·rw [if_neg h1] at h;cases h
 ·rw [if_neg h0] at h
  by_cases h1:-(n:Int) <= i
  ·rw [if_pos h1] at h
   have e:(i + n).toNat=j:=Option.some.inj h;exact⟨by rw [seqIndex_neg 'o' h1,e],'o',h1,'o'⟩
  ·rw [if_neg h1] at h;cases h
def qb4s{α:Type}{xs:List α}{i:Int}{v:α}(h:atI xs i=some v):∃ j,seqIndex? i xs.length=some j/\xs[j]? = some v/\j < xs.length /\ -(xs.length:Int) <= i/\i < xs.length:=by
 unfold atI at h;cases e:ixN xs.length i with
 | none=>rw [e] at h;cases h
 | some j =>
  rw [e] at h;obtain⟨h1,h2,h3,h4⟩:=qc1l e;exact⟨j,h1,h,h2,h3,h4⟩
def qa7v{α:Type}{xs:List α}{j:Nat}{v:α}(h:xs[j]? = some v):atI xs (j:Int)=some v:=by
 have hj:j < xs.length:=(List.getElem?_eq_some_iff.mp h).1;have e:ixN xs.length (j:Int)=some j:=by
  unfold ixN;rw [if_pos 'o',if_pos 'o'];simp
 unfold atI;rw [e];exact h
def qc1m(b:Expr):Prop:=∀ o i,subscripted b false o i=operate [o,i] (getItem o i)
def IxR(X:Cx)(r:R2):Prop:=
 ∀ (value slice:Expr) (pins:List 'c') (s:Shared) (σ:St) (H:Hp) (x y:V) (v u:Value) (Q:VK),Inv X pins σ H s->RelV x v->RelV y u->r x y H Q ->
  subscripted slice false v u=operate [v,u] (getItem v u)->wpAny (model X.prog X.w) X.A (subscriptTail value slice v u) (EP X pins σ Q) X.xe s
def MtR(X:Cx)(id:String)(r:V->List V->Hp->VK->Prop):Prop:=
 ∀ (pins:List 'c') (s:Shared) (σ:St) (H:Hp) (x:V) (xs:List V) (v:Value) (us:List Value) (Q:VK),Inv X pins σ H s->RelV x v->Vals xs us->r x xs H Q ->
  wpAny (model X.prog X.w) X.A (call (.builtin id) (v :: us)) (EP X pins σ Q) X.xe s
section
variable{X:Cx}{a b:Expr}{ta tb:TE}{pos:Pos}
def IxR.or{r r':R2}(h:IxR X r)(h':IxR X r'):IxR X (fun x y H Q=>r x y H Q ∨ r' x y H Q):=by
 intro value slice pins s σ H x y v u Q I rx ry q hs;rcases q with q | q
 ·exact h value slice pins s σ H x y v u Q I rx ry q hs
 ·exact h' value slice pins s σ H x y v u Q I rx ry q hs
def pe_ix{r:R2}(hr:IxR X r)(ha:PE X a ta)(hb:PE X b tb)(hs:qc1m b):PE X (.Subscript a b pos) (tOp r ta tb):=by
 intro pins s σ H Q I h;exact Subscript_ (binT ha hb I h fun v u s2 x y H2 I2 rx ry q=>hr a b pins s2 σ H2 x y v u Q I2 rx ry q (hs _ _))
def rIxL(K:W.Frag):R2:=fun x y H Q=>∃ p xs i v,x=.ref p/\y=.int i/\SqL K H p xs/\atI xs i=some v/\Q v H
def rIxT(K:W.Frag):R2:=fun x y H Q=>∃ p xs i v,x=.ref p/\y=.int i/\SqT K H p xs/\atI xs i=some v/\Q v H
def rIxS:R2:=fun x y H Q=>∃ z i c,x=.str z/\y=.int i/\z.length <= sizeLine/\atI z.cps.toList i=some c/\Q (.str ⟨#[c]⟩) H
def qa9i:IxR X (rIxL X.K):=by
 intro value slice pins s σ H x y v u Q I rx ry h hs;obtain⟨p,xs,i,z,rfl,rfl,hq,he,q⟩:=h;cases rx;obtain⟨t,rfl⟩:=ry;obtain⟨its,r,pl,hz⟩:=I.list hq;obtain⟨j,h1,h2,h3,h4,h5⟩:=qb4s he;obtain⟨w,ew,rw'⟩:=r.get h2;have hl:=r.length;have hn:=qa9h;have fin:EP X pins σ Q w s:=⟨z,H,I,rw',q⟩;by_cases h0:0 <= i
 ·have hj:i.toNat=j:=by
   rw [seqIndex_of h0 h5] at h1;exact Option.some.inj h1
  exact item_listR pl.isList h0 'o' (by rw [hj];simpa using ew) fin hs
 ·have hj:(i + (its.toArray.size:Int)).toNat=j:=by
   rw [seqIndex_neg 'o' h4] at h1;rw [size_toArray,← hl];exact Option.some.inj h1
  exact subscriptTail_builtinR (x:=w) pl.isList.typeIs slot_list_getitem.lookup
   (wpAny_getItem_list_neg (Q:=fun r s'=>r=w/\EP X pins σ Q r s') pl.isList 'o' (by rw [size_toArray]<;>omega) 'o' (by rw [hj];simpa using ew) ⟨rfl,fin⟩) hs
def ix_tup:IxR X (rIxT X.K):=by
 intro value slice pins s σ H x y v u Q I rx ry h hs;obtain⟨p,xs,i,z,rfl,rfl,hq,he,q⟩:=h;cases rx;obtain⟨t,rfl⟩:=ry;obtain⟨its,r,pl,hz⟩:=I.tuple hq;obtain⟨j,h1,h2,h3,h4,h5⟩:=qb4s he;obtain⟨w,ew,rw'⟩:=r.get h2;have hl:=r.length;have hn:=qa9h;have fin:EP X pins σ Q w s:=⟨z,H,I,rw',q⟩;exact subscriptTail_builtinR (x:=w) pl.typeIs slot_tuple_getitem.lookup
  (getItem_tuple (j:=j) (Q:=fun r s'=>r=w/\EP X pins σ Q r s') pl 'o' 'o' (by rw [size_toArray,← hl];exact h1) (by simpa using ew) ⟨rfl,fin⟩) hs
def ix_str:IxR X rIxS:=by
 intro value slice pins s σ H x y v u Q I rx ry h hs;obtain⟨z,i,c,rfl,rfl,hz,he,q⟩:=h;obtain⟨t,rfl⟩:=rx;obtain⟨t',rfl⟩:=ry;obtain⟨j,h1,h2,h3,h4,h5⟩:=qb4s he;have hl:z.cps.toList.length=z.length:=by simp [Str.length]
 rw [hl] at h1 h4 h5;have hn:=qa9h;exact tail_any (typeIs_str s z t) slot_str_getitem.lookup (getItem_str (c:=c) (by
  have e1:decide (i < -(2 ^ 63:Int))=false:=decide_eq_false 'o';have e2:decide (i ≥ 2 ^ 63)=false:=decide_eq_false 'o';rw [e1,e2,Bool.or_false]) (by rw [h1];simpa using h2) ⟨.str ⟨#[c]⟩,H,I.tok _,⟨_,rfl⟩,q⟩) hs
def rIx(K:W.Frag):R2:=fun x y H Q=>rIxL K x y H Q ∨ rIxT K x y H Q ∨ rIxS x y H Q
def qa0l:IxR X (rIx X.K):=qa9i.or (ix_tup.or ix_str)
def qc3h(its:List Value)(n j:Nat)(u:Value):Obj.mapSeq (·.setIfInBounds j u) { cls:=.type "list",data:=.seq its.toArray n }={ cls:=.type "list",data:=.seq (its.set j u).toArray n }:=by
 simp [Obj.mapSeq]
def Inv.lst{pins:List 'c'}{σ:St}{H:Hp}{s:Shared}{p:Addr}{xs:List V}(I:Inv X pins σ H s)(h:H p=some (.lst xs)) :
  ∃ (its:List Value) (n:Nat),Vals xs its/\s.heap.get? p=some { cls:=.type "list",data:=.seq its.toArray n }/\xs.length <= sizeLine:=by
 obtain⟨z,its,n,r,e⟩:=I.hok p _ h;exact⟨its,n,r,e,z⟩
def Inv.lstUpd{pins:List 'c'}{σ:St}{H:Hp}{s:Shared}{p:Addr}{xs ys:List V}{its its':List Value}{n n':Nat}{f:Obj->Obj}(I:Inv X pins σ H s)(h:H p=some (.lst xs))
  (ho:s.heap.get? p=some { cls:=.type "list",data:=.seq its.toArray n }) (hf:f { cls:=.type "list",data:=.seq its.toArray n }={ cls:=.type "list",data:=.seq its'.toArray n' }) (r:Vals ys its') (hz:ys.length <= sizeLine) (t:Nat) :
  Inv X pins σ (upd H p (.lst ys)) { s with heap:=s.heap.update p f,toks:=t }:=by
 have e:(s.heap.update p f).get? p=some { cls:=.type "list",data:=.seq its'.toArray n' }:=by
  rw [get?_update_self f ho (by rw [hf]<;>rfl),hf]
 refine I.write (x:=p) (e:=p) (by rw [h];trivial) (.inl rfl) (fun b u hb q=>(Heap.get?_update_other _ _ (Ne.symm hb)).trans q) ⟨_,e⟩ ?_;exact⟨hz,its',n',r,e⟩
noncomputable def rSetL:V->V->V->Hp->(Hp->Prop)->Prop:=fun o i v H Q=>∃ p xs k j,o=.ref p/\i=.int k/\H p=some (.lst xs)/\ixN xs.length k=some j/\Q (upd H p (.lst (xs.set j v)))
def set_list:PSet X rSetL:=by
 intro pins s σ H o i v ov iv u Q I ro ri rv h;obtain⟨p,xs,k,j,rfl,rfl,hp,hj,q⟩:=h;cases ro;obtain⟨t,rfl⟩:=ri;obtain⟨its,n,r,ho,hz⟩:=I.lst hp;obtain⟨h1,h2,h3,h4⟩:=qc1l hj;have hl:=r.length;have hn:=qa9h;have I':Inv X pins σ (upd H p (.lst (xs.set j v))) { s with heap:=s.heap.update p (Obj.mapSeq (·.setIfInBounds j u)) }:=
  I.lstUpd hp ho (qc3h its n j u) (r.set rv j) (by rw [length_set];exact hz) s.toks
 by_cases h0:0 <= k
 ·have hk:k.toNat=j:=by
   rw [seqIndex_of h0 h4] at h1;exact Option.some.inj h1
  exact PySem.W.ki_setAt ho h0 'o' (by rw [size_toArray,← hl];exact h4) (by rw [hk];exact⟨_,I',q⟩)
 ·have hk:(k + (its.toArray.size:Int)).toNat=j:=by
   rw [seqIndex_neg 'o' h3] at h1;rw [size_toArray,← hl];exact Option.some.inj h1
  exact PySem.W.ki_setBack ho 'o' (by rw [size_toArray,← hl];exact h3) 'o' (by rw [hk];exact⟨_,I',q⟩)
noncomputable def qa6h:V->Bool
 | .non=>true
 | .bl _=>true
 | .int _=>true
 | .str _=>true
 | _=>false
noncomputable def eqV:V->V->Bool
 | .non,.non=>true
 | .bl a,.bl b=>a == b
 | .bl a,.int b=>(if a then 1 else 0) == b
 | .int a,.bl b=>a == (if b then 1 else 0)
 | .int a,.int b=>a == b
 | .str a,.str b=>a == b
 | _,_=>false
def eqAt_V{A:Around}{s:Shared}{y x:V}{u v:Value}(ry:RelV y u)(rx:RelV x v)(fy:qa6h y=true)(fx:qa6h x=true):SeqAt.EqAt A s u v (eqV y x):=by
 cases y with
 | non =>
  cases ry
  cases x with
  | non=>cases rx;exact SeqAt.EqAt.same _
  | bl b=>cases rx;exact SeqAt.EqAt.none_bool b
  | int b=>obtain⟨t,rfl⟩:=rx;exact SeqAt.EqAt.none_int b t
  | str b=>obtain⟨t,rfl⟩:=rx;exact SeqAt.EqAt.none_str b t
  | _=>exact absurd (show false=true from fx) Bool.false_ne_true
 | bl a =>
  cases ry
  cases x with
  | non=>cases rx;exact SeqAt.EqAt.bool_none a
  | bl b=>cases rx;exact SeqAt.EqAt.bool_bool a b
  | int b=>obtain⟨t,rfl⟩:=rx;exact SeqAt.EqAt.bool_int a b t
  | str b=>obtain⟨t,rfl⟩:=rx;exact SeqAt.EqAt.bool_str a b t
  | _=>exact absurd (show false=true from fx) Bool.false_ne_true
 | int a =>
  obtain⟨t',rfl⟩:=ry;cases x with
  | non=>cases rx;exact SeqAt.EqAt.int_none a t'
  | bl b=>cases rx;exact SeqAt.EqAt.int_bool a t' b
  | int b=>obtain⟨t,rfl⟩:=rx;exact SeqAt.EqAt.int_int a t' b t
  | str b=>obtain⟨t,rfl⟩:=rx;exact SeqAt.EqAt.int_str a t' b t
  | _=>exact absurd (show false=true from fx) Bool.false_ne_true
 | str a =>
  obtain⟨t',rfl⟩:=ry;cases x with
  | non=>cases rx;exact SeqAt.EqAt.str_none a t'
  | bl b=>cases rx;exact SeqAt.EqAt.str_bool a t' b
  | int b=>obtain⟨t,rfl⟩:=rx;exact SeqAt.EqAt.str_int a t' b t
  | str b=>obtain⟨t,rfl⟩:=rx;exact SeqAt.EqAt.str_str a t' b t
  | _=>exact absurd (show false=true from fx) Bool.false_ne_true
 | _=>exact absurd (show false=true from fy) Bool.false_ne_true
noncomputable def eqU(x:V)(u:Value):Bool:=match u with
 | .none=>eqV .non x
 | .bool b=>eqV (.bl b) x
 | .int i _=>eqV (.int i) x
 | .str z _=>eqV (.str z) x
 | _=>false
def eqU_of{x y:V}{u:Value}(r:RelV y u)(f:qa6h y=true):eqU x u=eqV y x:=by
 cases y with
 | non=>cases r;rfl
 | bl b=>cases r;rfl
 | int i=>obtain⟨t,rfl⟩:=r;rfl
 | str z=>obtain⟨t,rfl⟩:=r;rfl
 | _=>exact absurd (show false=true from f) Bool.false_ne_true
def qa9j{x:V}:∀ {xs:List V} {us:List Value},Vals xs us->xs.all qa6h=true->us.any (eqU x)=xs.any fun y=>eqV y x
 | _,_,.nil,_=>rfl
 | y :: xs,u :: us,.cons r t,f=>by
  rw [all_cons,and_eq_true] at f;rw [any_cons,any_cons,eqU_of r f.1,qa9j t f.2]
def qa7z{A:Around}{s:Shared}{x:V}{v:Value}(rx:RelV x v)(fx:qa6h x=true):∀ {xs:List V} {us:List Value},Vals xs us->xs.all qa6h=true->∀ u ∈ us,SeqAt.EqAt A s u v (eqU x u)
 | _,_,.nil,_=>fun u hu=>by cases hu
 | y :: xs,u :: us,.cons r t,f=>fun u' hu=>by
  rw [all_cons,and_eq_true] at f;rcases mem_cons.mp hu with rfl | hu
  ·rw [eqU_of r f.1];exact eqAt_V r rx f.1 fx
  ·exact qa7z rx fx t f.2 u' hu
noncomputable def inV(x:V)(xs:List V):Bool:=xs.any fun y=>eqV y x
def rIn(K:W.Frag)(neg:Bool):R2:=fun x y H Q=>∃ p xs,y=.ref p/\(SqL K H p xs ∨ SqT K H p xs)/\qa6h x=true/\xs.all qa6h=true/\Q (.bl (if neg then !inV x xs else inV x xs)) H
def qc5j:OpR X (compareOp .In) (rIn X.K false):=by
 intro pins s σ H x y v u Q I rx ry h;obtain⟨p,xs,rfl,hq,fx,fs,q⟩:=h;cases ry;rcases hq with hq | hq
 ·obtain⟨its,r,pl,hz⟩:=I.list hq
  refine SeqAt.in_listAt (eqU x) pl.isList (fun w hw=>qa7z rx fx r fs w (by simpa using hw)) ⟨.bl _,H,I,rfl,?_⟩;rw [show its.toArray.any (eqU x)=its.any (eqU x) by simp,qa9j r fs];exact q
 ·obtain⟨its,r,pl,hz⟩:=I.tuple hq
  refine SeqAt.in_tupleAt (eqU x) pl (fun w hw=>qa7z rx fx r fs w (by simpa using hw)) ⟨.bl _,H,I,rfl,?_⟩;rw [show its.toArray.any (eqU x)=its.any (eqU x) by simp,qa9j r fs];exact q
def qb7g:OpR X (compareOp .NotIn) (rIn X.K true):=by
 intro pins s σ H x y v u Q I rx ry h;obtain⟨p,xs,rfl,hq,fx,fs,q⟩:=h;cases ry;rcases hq with hq | hq
 ·obtain⟨its,r,pl,hz⟩:=I.list hq
  refine SeqAt.notIn_listAt (eqU x) pl.isList (fun w hw=>qa7z rx fx r fs w (by simpa using hw)) ⟨.bl _,H,I,rfl,?_⟩;rw [show its.toArray.any (eqU x)=its.any (eqU x) by simp,qa9j r fs];exact q
 ·obtain⟨its,r,pl,hz⟩:=I.tuple hq
  refine SeqAt.notIn_tupleAt (eqU x) pl (fun w hw=>qa7z rx fx r fs w (by simpa using hw)) ⟨.bl _,H,I,rfl,?_⟩;rw [show its.toArray.any (eqU x)=its.any (eqU x) by simp,qa9j r fs];exact q
def qb7h:OpR X (compareOp .NotIn) (fun x y H Q=>∃ i j,x=.str i/\y=.str j/\Q (.bl (!(!(Builtin.Str.occurrences j i 0 j.length 1).isEmpty))) H):=by
 intro pins s σ H x y v u Q I rx ry h;obtain⟨i,j,rfl,rfl,q⟩:=h;obtain⟨t,rfl⟩:=rx;obtain⟨t',rfl⟩:=ry;exact notIn_str ⟨.bl _,H,I,rfl,q⟩
def qa5g:qa1z X (.builtin "len") (fun xs H Q=>∃ p ys,xs=[.ref p]/\(SqL X.K H p ys ∨ SqT X.K H p ys)/\Q (.int ys.length) H):=by
 intro pins s σ H xs us Q I r h;obtain⟨p,ys,rfl,hq,q⟩:=h;obtain⟨u,rfl,rx⟩:=vals1 r;cases rx;have hn:=qa9h;rcases hq with hq | hq
 ·obtain⟨its,r',pl,hz⟩:=I.list hq
  have hlen:=r'.length;exact Calls.call_len_list pl.isList (by simp only [size_toArray]<;>omega) ⟨.int ys.length,H,I.tok _,⟨s.toks + 1,by rw [size_toArray,hlen]⟩,q⟩
 ·obtain⟨its,r',pl,hz⟩:=I.tuple hq
  have hlen:=r'.length;exact len_tuple pl (by simp only [size_toArray]<;>omega) ⟨.int ys.length,H,I.tok _,⟨s.toks + 1,by rw [size_toArray,hlen]⟩,q⟩
def qb7i:qa1z X (.builtin "len") (fun xs H Q=>∃ z,xs=[.str z]/\z.length <= sizeLine/\Q (.int z.length) H):=by
 intro pins s σ H xs us Q I r h;obtain⟨z,rfl,hz,q⟩:=h;obtain⟨u,rfl,t,rfl⟩:=vals1 r;have hn:=qa9h;exact len_str 'o' ⟨.int z.length,H,I.tok _,⟨_,rfl⟩,q⟩
def qa1z.or{f:Value}{r r':List V->Hp->VK->Prop}(h:qa1z X f r)(h':qa1z X f r'):qa1z X f (fun xs H Q=>r xs H Q ∨ r' xs H Q):=by
 intro pins s σ H xs us Q I rs q;rcases q with q | q
 ·exact h pins s σ H xs us Q I rs q
 ·exact h' pins s σ H xs us Q I rs q
def qa8a:qa1z X (.type "list") (fun xs H Q=>∃ p ys,xs=[.ref p]/\(SqL X.K H p ys ∨ SqT X.K H p ys)/\∀ l,H l=none->Q (.ref l) (upd H l (.lst ys))):=by
 intro pins s σ H xs us Q I r h;obtain⟨p,ys,rfl,hq,q⟩:=h;obtain⟨u,rfl,rx⟩:=vals1 r;cases rx;have fin:∀ (its:List Value),Vals ys its->ys.length <= sizeLine->∀ (h':Heap) (c':Nat),(∀ b o',s.heap.get? b=some o'->h'.get? b=some o') ->
   h'.get? s.heap.objs.size=some { cls:=.type "list",dict:=none,data:=.seq its.toArray c',slots:=#[] }->EP X pins σ Q (.ref s.heap.objs.size) { s with heap:=h' }:=fun its r' hz h' c' kp e =>
  ⟨.ref s.heap.objs.size,_,I.laid (t':=s.toks) kp 'e' (show qa1j X.prog X.w _ h' _ (.lst ys) from⟨hz,its,c',r',e⟩),rfl,q _ (I.hok.fresh 'e')⟩
 rcases hq with hq | hq
 ·obtain⟨its,r',pl,hz⟩:=I.list hq
  have hlen:=r'.length;obtain⟨o,ho,hc,n,hd⟩:=pl.isList;exact call_list_seq p (.inl rfl) ho hc hd (fun h' c' kp e=>fin its r' hz h' c' kp e) (by simp only [size_toArray]<;>omega)
 ·obtain⟨its,r',pl,hz⟩:=I.tuple hq
  have hlen:=r'.length;obtain⟨o,ho,hc,n,hd⟩:=pl;exact call_list_seq p (.inr rfl) ho hc hd (fun h' c' kp e=>fin its r' hz h' c' kp e) (by simp only [size_toArray]<;>omega)
def qa0u:qa1z X (.type "tuple") (fun xs H Q=>∃ p ys,xs=[.ref p]/\((SqL X.K H p ys/\∀ l,H l=none->Q (.ref l) (upd H l (.tup ys))) ∨ (SqT X.K H p ys/\Q (.ref p) H))):=by
 intro pins s σ H xs us Q I r h;obtain⟨p,ys,rfl,h⟩:=h;obtain⟨u,rfl,rx⟩:=vals1 r;cases rx;rcases h with⟨hq,q⟩ | ⟨hq,q⟩
 ·obtain⟨its,r',pl,hz⟩:=I.list hq
  have hlen:=r'.length;refine call_tuple_list pl.isList (fun h' kp=>?_) (by simp only [size_toArray]<;>omega);have I1:Inv X pins σ H { s with heap:=h' }:=I.kept (t':=s.toks) kp;have I2:Inv X pins σ (upd H h'.objs.size (.tup ys)) { s with heap:=h'.push { cls:=.type "tuple",data:=.seq its.toArray } }:=
   I1.laid (t':=s.toks) (fun b o e=>get?_push_of_some _ e) 'e' (show qa1j X.prog X.w _ _ _ (.tup ys) from⟨hz,its,r',qa3y.new _ _⟩)
  exact⟨.ref h'.objs.size,_,I2,rfl,q _ (I1.hok.fresh 'e')⟩
 ·obtain⟨its,r',pl,hz⟩:=I.tuple hq
  exact call_tuple_same pl ⟨.ref p,H,I,rfl,q⟩
def tyV(K:W.Frag)(T:String)(x:V)(H:Hp):Prop:=match x with
 | .str _=>T = "str"
 | .int _=>T = "int"
 | .ref p=>(T = "list" /\ ∃ xs,SqL K H p xs) ∨ (T = "tuple" /\ ∃ o,K.lookup p=some o/\o.cls=.type "tuple" /\ o.dict=none) ∨
   (T = "dict" /\ ((∃ kvs,H p=some (.dK kvs)) ∨ ∃ kvs,H p=some (.dT kvs))) ∨ (T = "set" /\ ∃ S n,H p=some (.set S n))
 | _=>False
def tyV_is{pins:List 'c'}{σ:St}{H:Hp}{s:Shared}{T:String}{x:V}{v:Value}(I:Inv X pins σ H s)(r:RelV x v)(ty:tyV X.K T x H) :
  s.TypeIs v T/\∀ a,v=.ref a->∃ ob,s.heap.get? a=some ob/\ob.dict=none:=by
 cases x with
 | str z =>
  obtain⟨t,rfl⟩:=r;cases (show T = "str" from ty);exact⟨typeIs_str s z t,fun _ e=>nomatch e⟩
 | int i =>
  obtain⟨t,rfl⟩:=r;cases (show T = "int" from ty);exact⟨typeIs_int s i t,fun _ e=>nomatch e⟩
 | ref p =>
  cases r
  rcases ty with⟨rfl,xs,hq⟩ | ⟨rfl,o,hk,hc,hd⟩ | ⟨rfl,hk⟩ | ⟨rfl,S,n,hk⟩
  ·obtain⟨its,_,pl,_⟩:=I.list hq
   refine⟨pl.isList.typeIs,fun a e=>?_⟩;cases e;obtain⟨o,n,e,c,hd,_⟩:=pl;exact⟨o,e,hd⟩
  ·refine⟨⟨o,I.kIn p o hk,hc⟩,fun a e=>?_⟩
   cases e
   exact⟨o,I.kIn _ o hk,hd⟩
  ·have z:∃ o,s.heap.get? p=some o/\o.ExactDict:=by
    rcases hk with⟨kvs,hk⟩ | ⟨kvs,hk⟩
    ·obtain⟨_,_,_,_,o,_,_,e,ex,_⟩:=I.hok p _ hk
     exact⟨o,e,ex⟩
    ·obtain⟨_,_,_,_,o,_,_,e,ex,_⟩:=I.hok p _ hk
     exact⟨o,e,ex⟩
   obtain⟨o,e,ex⟩:=z;refine⟨⟨o,e,ex.1⟩,fun a e2=>?_⟩;cases e2;exact⟨o,e,ex.2.1⟩
  ·obtain⟨o,_,_,_,e,ex,_⟩:=I.hok p _ hk
   refine⟨⟨o,e,ex.1⟩,fun a e2=>?_⟩;cases e2;exact⟨o,e,ex.2.1⟩
 | _=>exact False.elim ty
def tBM(K:W.Frag)(T:String)(r:V->List V->Hp->VK->Prop)(to:TE)(t:TA):TE:=fun σ H Q=>to σ H fun x H1=>tyV K T x H1/\t σ H1 fun xs H2=>r x xs H2 Q
variable{o e:Expr}{es:List Expr}{to:TE}{t:TA}{name:Str}{apos cpos:Pos}{T id:String}{r:V->List V->Hp->VK->Prop}
def pe_bm(pa:PlainAttrs T)(slot:Slot T name id) (hty:typeOf (.builtin id)=pure (.type "method_descriptor")) (hm:MtR X id r) (ho:PE X o to) (ha:PA X (e :: es) t)
  (hbase:attributeBase o name X.env (eval o X.env)=eval o X.env:=by rfl)
  (hfew:((backTo cpos (starEach (e :: es) X.env)).all (fun x=>!x.1) && (backToKw cpos (keywordEach [] X.env)).all (fun x=>x.1.isSome)
   && decide ((e :: es).length + ([]:List Keyword).length + (if ([]:List Keyword).isEmpty then 0 else 1) < 30))=true:=by rfl)
  (hline:(apos.endLine == cpos.line)=true:=by rfl) (hs:starEach (e :: es) X.env=(false,eval e X.env) :: starEach es X.env:=by rfl) (hplain:(backTo cpos (starEach es X.env)).any (·.1)=false:=by rfl) :
  PE X (.Call (.Attribute o name apos) (e :: es) [] cpos) (tBM X.K T r to t):=by
 intro pins s σ H Q I h;refine wpAny_Call_method_late hbase hfew hline rfl (thn (ho pins s σ H _ I h) fun v s1 hq9=>?_);obtain⟨x,H1,I1,r1,ty,q1⟩:=hq9;obtain⟨h1,h2⟩:=tyV_is I1 r1 ty;refine⟨T,id,pa,slot,hty,h1,h2,?_⟩;have hA:=ha cpos pins s1 σ H1 _ I1 q1;rw [hs] at hA ⊢;refine Calls.callWith_builtin (by show(false || (backTo cpos (starEach es X.env)).any (·.1))=false;rw [hplain]<;>rfl) (Calls.evalArgs_plain ?_);exact thn hA fun us s2 hq8=>by obtain⟨vs,H2,I2,r2,q2⟩:=hq8;exact hm pins s2 σ H2 x vs v us Q I2 r1 r2 q2
end
end L2
namespace L2
open PySem PySem.Spec PyProof.Rows
def MtM(X:Cx)(id:String)(r:V->List V->Hp->VK->Prop):Prop:=
 ∀ (pins:List 'c') (s:Shared) (σ:St) (H:Hp) (x:V) (xs:List V) (v:Value) (us:List Value) (Q:VK),Inv X pins σ H s->RelV x v->Vals xs us->r x xs H Q ->
  wpAny (model X.prog X.w) X.A (call (.builtin id) (v :: us)) (EP X pins σ Q) X.xe s
def Vals.one:∀ {x:V} {us:List Value},Vals [x] us->∃ u,us=[u]/\RelV x u
 | _,_,.cons r .nil=>⟨_,rfl,r⟩
def Vals.two:∀ {x y:V} {us:List Value},Vals [x,y] us->∃ u v,us=[u,v]/\RelV x u/\RelV y v
 | _,_,_,.cons r (.cons q .nil)=>⟨_,_,rfl,r,q⟩
def Vals.zero:∀ {us:List Value},Vals [] us->us=[]
 | _,.nil=>rfl
def Vals.rep{xs:List V}{us:List Value}(h:Vals xs us):∀ k:Nat,Vals (List.replicate k xs).flatten (List.replicate k us).flatten
 | 0=>.nil
 | k + 1=>by
  rw [replicate_succ,replicate_succ,flatten_cons,flatten_cons];exact Vals.append h (Vals.rep h k)
def foldl_rep(its:List Value):∀ (k:Nat) (acc:List Value),
  List.foldl (fun x1 x2=>x1 ++ x2) acc.toArray (List.replicate k its.toArray)=(acc ++ (List.replicate k its).flatten).toArray
 | 0,acc=>by simp
 | k + 1,acc=>by
  have e:acc.toArray ++ its.toArray=(acc ++ its).toArray:=by simp
  have e2:(acc ++ its) ++ (List.replicate k its).flatten=acc ++ (List.replicate (k + 1) its).flatten:=by
   rw [replicate_succ,flatten_cons,append_assoc]
  rw [← e2,← foldl_rep its k (acc ++ its),← e,replicate_succ,List.foldl_cons]
section
variable{X:Cx}{pins:List 'c'}{σ:St}{H:Hp}{s:Shared}{l b:Addr}{xs ys zs:List V}
def Inv.lset{its its':List Value}{n:Nat}{f:Array Value->Array Value}{t':Nat}(I:Inv X pins σ H s)(hH:H l=some (.lst xs))
  (e:s.heap.get? l=some { cls:=.type "list",data:=.seq its.toArray n }) (hf:f its.toArray=its'.toArray) (hv:Vals ys its') (hz:ys.length <= sizeLine) :
  Inv X pins σ (upd H l (.lst ys)) { s with heap:=s.heap.update l (Obj.mapSeq f),toks:=t' }:=by
 have q:=PySem.IsL.update e f;rw [hf] at q;refine I.write (x:=l) (e:=l) (by rw [hH];exact trivial) (.inl rfl) (fun b' u hb hu=>(Heap.get?_update_other s.heap (Obj.mapSeq f) (Ne.symm hb)).trans hu) ⟨_,q⟩ ?_;exact⟨hz,its',_,hv,q⟩
def Inv.lnew{its:List Value}{t':Nat}(I:Inv X pins σ H s)(hv:Vals ys its)(hz:ys.length <= sizeLine) :
  Inv X pins σ (upd H s.heap.objs.size (.lst ys)) { s with heap:=s.heap.push { cls:=.type "list",data:=.seq its.toArray },toks:=t' }:=
 I.laid (fun _ _ q=>get?_push_of_some _ q) 'e' ⟨hz,its,0,hv,get?_push_size _ rfl⟩
def Inv.fresh(I:Inv X pins σ H s):H s.heap.objs.size=none:=I.hok.fresh 'e'
def Inv.lstM(I:Inv X pins σ H s)(hH:H l=some (.lst xs)):xs.length <= sizeLine/\∃ (its:List Value) (n:Nat),Vals xs its/\xs.length=its.length/\s.heap.get? l=some { cls:=.type "list",data:=.seq its.toArray n }:=by
 obtain⟨z,its,n,r,e⟩:=I.hok l _ hH;exact⟨z,its,n,r,r.length,e⟩
def qc7y{n:Nat}(h:n <= sizeLine):Builtin.List.listTooLong n=false:=by
 unfold Builtin.List.listTooLong;exact decide_eq_false 'o'
end
section
variable{X:Cx}
noncomputable def qb4t:V->List V->Hp->VK->Prop:=fun x vs H Q=>∃ l xs y,x=.ref l/\vs=[y]/\H l=some (.lst xs)/\xs.length < sizeLine/\Q .non (upd H l (.lst (xs ++ [y])))
def qb0v:MtM X "list.append" qb4t:=by
 intro pins s σ H x vs v us Q I rx rv h;obtain⟨l,xs,y,rfl,rfl,hH,hz,q⟩:=h;cases rx;obtain⟨u,rfl,ru⟩:=rv.one;obtain⟨z,its,n,r,hl,e⟩:=I.lstM hH;refine call_meets F.slot_list_append ⟨_,e,rfl⟩ F.entry_list_append (F.args_list_append_2 _ _) (PySem.list_append l its.toArray n u (by rw [size_toArray];omega)) ⟨e,?_⟩;refine⟨.non,_,I.lset (its':=its ++ [u]) hH e 'g' (r.append (.cons ru .nil)) ?_,rfl,q⟩;rw [length_append,List.length_singleton];omega
def rCat:R2:=fun x y H Q=>∃ l b xs zs,x=.ref l/\y=.ref b/\H l=some (.lst xs)/\H b=some (.lst zs)/\xs.length + zs.length <= sizeLine/\∀ p,H p=none->Q (.ref p) (upd H p (.lst (xs ++ zs)))
def op_cat:OpR X (binaryOp .Add) rCat:=by
 intro pins s σ H x y v u Q I rx ry h;obtain⟨l,b,xs,zs,rfl,rfl,hH,hB,hz,q⟩:=h;cases rx;cases ry;obtain⟨z,its,n,r,hl,e⟩:=I.lstM hH;obtain⟨z2,its2,n2,r2,hl2,e2⟩:=I.lstM hB;refine PySem.P.add_list e e2 ?_ (by rw [size_toArray,size_toArray];omega);have ea:its.toArray ++ its2.toArray=(its ++ its2).toArray:=by simp
 rw [ea];exact⟨.ref _,_,I.lnew (t':=s.toks) (r.append r2) (by rw [length_append];omega),rfl,q _ I.fresh⟩
def rRep:R2:=fun x y H Q=>∃ l k xs,x=.ref l/\y=.int k/\H l=some (.lst xs) /\ -(2 ^ 63) <= k/\k < 2 ^ 63/\xs.length * k.toNat <= sizeLine /\
 ∀ p,H p=none->Q (.ref p) (upd H p (.lst (List.replicate k.toNat xs).flatten))
def len_rep{α:Type}(xs:List α)(k:Nat):(List.replicate k xs).flatten.length=k * xs.length:=by
 induction k with
 | zero=>simp
 | succ k ih=>rw [replicate_succ,flatten_cons,length_append,ih,Nat.succ_mul,Nat.add_comm]
def op_rep:OpR X (binaryOp .Mult) rRep:=by
 intro pins s σ H x y v u Q I rx ry h;obtain⟨l,k,xs,rfl,rfl,hH,h1,h2,hz,q⟩:=h;cases rx;obtain⟨t,rfl⟩:=ry;obtain⟨z,its,n,r,hl,e⟩:=I.lstM hH;have hlen:its.toArray.size * k.toNat <= sizeLine:=by rw [size_toArray,← hl];exact hz
 have hcap:¬ its.toArray.size * k.toNat > (2 ^ 63 - 1) / 8:=by
  have:(sizeLine:Nat) <= (2 ^ 63 - 1) / 8:=by decide
  omega
 have hfit:¬ (!Builtin.List.listFitsIndex k)=true:=by
  rw [fitsIndex_both h1 h2];exact Bool.false_ne_true
 have hlong:¬ Builtin.List.listTooLong (its.toArray.size * k.toNat)=true:=by
  rw [qc7y hlen];exact Bool.false_ne_true
 have hnew:List.foldl (fun x1 x2=>x1 ++ x2) #[] (List.replicate (if its.toArray.isEmpty=true then 0 else k.toNat) its.toArray)=(List.replicate k.toNat its).flatten.toArray:=by
  have f0:∀ m:Nat,List.foldl (fun x1 x2=>x1 ++ x2) #[] (List.replicate m its.toArray)=(List.replicate m its).flatten.toArray:=fun m=>by
   have:=foldl_rep its m [];rw [List.nil_append] at this;exact this
  rw [f0];cases its with
  | nil=>simp
  | cons a r'=>rw [if_neg 'g']
 refine wpAny_binaryOp_repeat_ref (T:="list") (U:="int") 'd' ⟨_,e,rfl⟩ (fun s'=>typeIs_int s' k t) noFill_list_mul F.fills_int_mul F.slot_int_rmul repeat_list F.slot_int_index.lookup
  (call_meets F.slot_int_rmul (typeIs_int s k t) F.entry_int_rmul (F.args_int_rmul_2 _ _) (int___rmul___int_list k t l its.toArray n)
   ⟨e,rfl,⟨_,e,rfl⟩,call_meets F.slot_list_mul ⟨_,e,rfl⟩ F.entry_list_mul (F.args_list_mul_2 _ _) (AutoListH.list___mul___list_int_3 l its.toArray n k t hfit hcap hlong) ⟨e,?_⟩⟩)
 rw [hnew];exact⟨.ref _,_,I.lnew (t':=s.toks) (r.rep k.toNat) (by rw [len_rep,Nat.mul_comm];exact hz),rfl,q _ I.fresh⟩
end
section
variable{prog:Program}{w:World}{A:Around}{E:Value->Shared->Prop}{s:Shared}
set_option maxRecDepth 100000 in
end
end L2
namespace Att
open PySem PySem.W PySem.Calls PyProof.Rows
def qb3g{P:Params}{h:Heap}:∀ (ns:List Int) (vs:List Value),WellAll P h vs (ns.map WData.int)->IntsAre vs ns:=by
 intro ns;induction ns with
 | nil =>
  intro vs w;rw [map_nil] at w;cases w;exact .nil
 | cons n ns ih =>
  intro vs w;rw [map_cons] at w;cases w with
  | cons a b =>
   cases a
   exact .cons _ _ (ih _ b)
def qc5k{l:OpenLaw}{n:Nat}(hn:l.most=some n){P:Params}{h:Heap}{args:List WData}{vals:List Value}
  (hpre:l.row.toRowW.claim.pre args=true) (hwl:WellAll P h vals args) :
  ∃ a vs ns,vals=[Value.ref a]/\args=[WData.list (ns.map WData.int)]/\h.get? a=some { cls:=.type "list",data:=.seq vs.toArray }/\IntsAre vs ns/\ns.length <= n:=by
 have hsh:WShape.hasAll [] args [.list .int]=true:=(pre_splitW hpre).1;have hc:l.pre.holds [] { args:=args }=true:=(pre_splitW hpre).2;obtain⟨d,r,rfl,h1,h2⟩:=hasAllW_cons hsh;obtain rfl:=hasAllW_nil h2;obtain⟨xs,rfl,h3⟩:=hasW_list h1;obtain⟨ns,rfl⟩:=items_int h3;have hlen:ns.length <= n:=by
  unfold OpenLaw.pre at hc;have h4:(WTm.not (.lt (.lit (.int (n:Int))) (.len (.arg 0)))).holds [] { args:=[.list (ns.map .int)] }=true:=by
   have h4:=(holds_andW hc).1;rw [hn] at h4;exact h4
  have h5:=condW_of h4 (w_not (w_lt w_lit (w_len_list (w_arg rfl))));rw [length_map] at h5;refine Nat.le_of_not_lt fun q=>?_;have q':(n:Int) < ((ns.length:Nat):Int):=by omega
  first
   | (rw [decide_eq_true q'] at h5;exact absurd h5 'd')
   | (simp at h5;omega)
 cases hwl with
 | cons w1 w2 =>
  cases w2
  cases w1 with
  | list ho hall=>exact⟨_,_,ns,rfl,rfl,ho,qb3g ns _ hall,hlen⟩
def qc5l(l:OpenLaw)(args:List WData):l.row.toRowW.claim.post args (.bool true) args=true:=
 postW_of (r:=l.row.toRowW) (X:=(true == true))
  (show WShape.has [] (.bool true) .bool=true by first | rfl | decide | simp [WShape.has,WShape.arms,WShape.armsAll])
  (show(WTm.eq .res (.lit (.bool true))).value [] { args:=args,res:=some (.bool true),after:=args }=some (.bool (true == true)) from w_eq_bool (w_res rfl) w_lit) rfl
def attach_call{l:OpenLaw}{n:Nat}{q:Program}{loose:List Str}{XP:(Str->Option Value)->Heap->Prop}{YP:World->Heap->Prop}{d:DefRec}
  (hn:l.most=some n) (hdf:d.params.defaults=[])
  (call:∀ (w:World) (s₀ s₁:Shared) (mg mb:Str->Option Value) (fa:Addr) (o:Obj) (pm cd doc:Value) (a:Addr) (vs:List Value) (ns:List Int),
   Ground q loose [] XP w s₀ mg mb s₁.heap->YP w s₁.heap ->
   s₁.heap.get? fa=some o->o.data=.func (docDef d.name d.params d.body d.scope pm cd doc)->s₁.heap.CodeRec cd d.name->mg d.name=some (.ref fa) ->
   s₁.heap.get? a=some { cls:=.type "list",data:=.seq vs.toArray }->IntsAre vs ns->ns.length <= n->s₁.gens = #[] ->
   codeAny (model l.prog w) callerA (.call (.ref fa) ⟨[.ref a],[]⟩) (fun r s'=>r=.ok (.ret (.bool true))/\OldK s₁.heap s'.heap/\s'.os=s₁.os/\AllBare s'.gens) s₁) :
  WalkO q loose XP YP l.row.toRowW d [] (fun f vs=>PySem.call f vs):=by
 intro w s₀ s₁ mg mb G Y fa o pm cd doc dV kV ho hd hcd hD hmg hg args vals as hpre hlay hrd hwl hlo;obtain rfl:dV=.none:=Dflts.none hD hdf;obtain rfl:kV=.none:=Dflts.noKw hD;obtain⟨a,vs,ns,rfl,rfl,hobj,hints,hlen⟩:=qc5k hn hpre hwl;refine enter_call (codeAny_mono (call w s₀ s₁ mg mb fa o pm cd doc a vs ns G Y ho (fd_plain hd) hcd hmg hobj hints hlen hg) fun r s' hq=>?_);obtain⟨rfl,h2,h3,h4⟩:=hq;exact⟨.inl ⟨.bool true,.bool true,[],rfl,fun _=>rfl,.bool true,qc5l l _,fun _=>⟨List.Pairwise.nil,fun _ hm=>(nomatch hm)⟩⟩,h2,h3,h4⟩
end Att
namespace L2
open PySem PySem.Spec PyProof.Rows
def qb5x:∀ {vs:List Value} {ns:List Int},IntsAre vs ns->Vals (ns.map V.int) vs
 | _,_,.nil=>.nil
 | _,_,.cons n t h=>.cons ⟨t,rfl⟩ (qb5x h)
def Only(H:Hp):Prop:=∀ b,H b=none ∨ ∃ o xs,H b=some (.frz o (.lst xs))
def qc7z{P:Program}{w:World}{K:W.Frag}{mg mb:Str->Option Value}{CX:CXT}{k:Nat}{fa a:Addr}{fd:FuncData}{x:Str}{sp:Sp}{s₁:Shared}{vs:List Value}{ns:List Int}
  (KX:K.In s₁.heap) (hns:s₁.heap.Ns mainGlobals mg) (hb:s₁.heap.Ns builtinsNs mb) (hbb:∀ x:Str,x ≠ "__name__" -> mb x=bootBuiltins x) (hlim:s₁.heap.NoLimit) (hg:s₁.gens = #[])
  (ha:s₁.heap.get? a=some { cls:=.type "list",data:=.seq vs.toArray }) (hi:IntsAre vs ns) (hl:ns.length <= sizeLine) (hr:Room k callerA)
  (F:∀ base:Heap,K.In base->base.Ns mainGlobals mg->FnOk P w K mg base CX k fa fd [x] sp) (hbind:∀ (s:Shared) (u:Value),BindsTo s fd ⟨[u],[]⟩ [(x,u)])
  (hsp:∀ H:Hp,Only H->SqL K H a (ns.map V.int)->sp [.ref a] H (fun v _=>v=.bl true) fun _ _ _=>False)
  (hCX:∀ H e s',CX [] H s₁ (fun _ _ _=>False) e s'->False) :
  codeAny (model P w) callerA (.call (.ref fa) ⟨[.ref a],[]⟩) (fun r s'=>r=.ok (.ret (.bool true))/\OldK s₁.heap s'.heap/\s'.os=s₁.os/\AllBare s'.gens) s₁:=by
 have rv:=qb5x hi;have lenV:=hi.length
 -- from an abstract heap in which nothing but the script may be tracked
 have core:∀ H:Hp,Only H->SqL K H a (ns.map V.int)->HOk P w H s₁.heap->(∀ b,H b ≠ none->b=a)->(H a ≠ none->K.lookup a=none) ->
   codeAny (model P w) callerA (.call (.ref fa) ⟨[.ref a],[]⟩) (fun r s'=>r=.ok (.ret (.bool true))/\OldK s₁.heap s'.heap/\s'.os=s₁.os/\AllBare s'.gens) s₁:=by
  intro H hO hS hok hA hK;have base_of:∀ {b:Addr} {o:Obj},s₁.heap.get? b=some o->H b=none->(hidT s₁.heap H).get? b=some o:=fun e n=>qc7r e n;have noA:∀ {b:Addr} {o:Obj} {es:Array DictEntry} {ep:Nat},s₁.heap.get? b=some o->o.data=.dict es ep->H b=none:=fun{b o es ep} e d=>by
   cases q:H b with
   | none=>rfl
   | some u =>
    have e':b=a:=hA b (by rw [q];simp);subst e';rw [ha] at e;cases e;have d':Data.seq vs.toArray _=Data.dict es ep:=d;cases d'
  have nsK:∀ {b:Addr} {m:Str->Option Value},s₁.heap.Ns b m->(hidT s₁.heap H).Ns b m:=fun{b m} ⟨o,es,ep,e,d,r⟩=>⟨o,es,ep,base_of e (noA e d),d,r⟩;have hKb:K.In (hidT s₁.heap H):=fun b o e=>base_of (KX b o e) (by
   cases q:H b with
   | none=>rfl
   | some u =>
    have e':b=a:=hA b (by rw [q];simp);subst e';rw [hK (by rw [q];simp)] at e;cases e)
  have hM:Mod K mg (hidT s₁.heap H):=⟨hKb,nsK hns,⟨mb,nsK hb,hbb⟩,let ⟨mc,h1,h2⟩:=hlim;⟨mc,nsK h1,h2⟩⟩;have e0:Env0 P w K mg (hidT s₁.heap H) callerA [] s₁ H:=⟨rfl,hM,fun b o e=>of_hidT e,Nat.le_of_eq (qc5d _ _),trivial,fun b hb=>absurd (show b ∈ ([]:List Addr) from hb) 'g',hok,.of_eq hg⟩;refine codeAny_mono ((F _ hKb (nsK hns)).run callerA [] s₁ H ⟨[.ref a],[]⟩ [.ref a] [.ref a] _ _ hr e0 (hbind s₁ (.ref a)) (.cons rfl .nil) (hsp H hO hS)) fun r s' h=>?_;cases r with
  | error e=>exact(hCX H e s' h).elim
  | ok fl =>
   cases fl with
   | next=>exact False.elim h
   | brk=>exact False.elim h
   | cont=>exact False.elim h
   | ret u =>
    obtain⟨v,H',os,bare,un,hok',r',q⟩:=h;have q':v=.bl true:=q;subst q';obtain rfl:u=Value.bool true:=r';refine⟨rfl,OldK.of_keep fun b o e=>?_,os,bare⟩;cases q:H b with
    | none=>exact un.keep b o e q (by intro z;exact absurd (show b ∈ ([]:List Addr) from z) 'g') 'g'
    | some u =>
     rcases hO b with z | ⟨ob,xs,z⟩
     ·rw [q] at z;cases z
     ·have z2:=un.frzs b ob _ z
      obtain⟨e1,_⟩:=hok b _ z;obtain⟨e2,_⟩:=hok' b _ z2;rw [e] at e1;cases e1;exact e2
 cases hk:K.lookup a with
 | some o =>
  -- the script is one of the module's own objects
  have e:=KX a o hk;rw [ha] at e;cases e;refine core (fun _=>none) (fun _=>.inl rfl) (.inr ⟨_,vs.toArray,_,hk,rfl,rfl,rfl,by rw [size_toArray,lenV];exact hl,by simpa using rv⟩) (fun b u z=>by have z':(none:Option HO)=some u:=z;cases z') (fun b z=>absurd rfl z) fun z=>absurd rfl z
 | none =>
  refine core (fun b=>if b=a then some (.frz { cls:=.type "list",data:=.seq vs.toArray } (.lst (ns.map V.int))) else none) (fun b=>?_) (.inl (.inr ⟨{ cls:=.type "list",data:=.seq vs.toArray },if_pos rfl⟩)) (fun b u z=>?_) (fun b z=>?_) fun _=>hk
  ·by_cases hb:b=a
   ·exact .inr ⟨_,_,if_pos hb⟩
   ·exact .inl (if_neg hb)
  ·by_cases hb:b=a
   ·have z':=(if_pos hb).symm.trans z
    cases z'
    subst hb;exact⟨ha,by rw [length_map];exact hl,vs,_,rv,ha⟩
   ·have z':=(if_neg hb).symm.trans z
    cases z'
  ·by_cases hb:b=a
   ·exact hb
   ·exact absurd (if_neg hb) z
end L2
namespace L2
open PySem PySem.Spec PyProof.Rows
def walk_of{l:PySem.W.OpenLaw}{n k:Nat}{q:Program}{loose:List Str}{XP:(Str->Option Value)->Heap->Prop}{YP:World->Heap->Prop}{d:DefRec}{K:Params->W.Frag}{CX:World->CXT}{sp:World->Sp}{x:Str}
  (hn:l.most=some n) (hn2:n <= sizeLine) (hdf:d.params.defaults=[]) (hr:Room k callerA)
  (hY:∀ (w:World) (h:Heap),YP w h->(K w.params).In h)
  (F:∀ (w:World) (mg:Str->Option Value) (fa:Addr) (h:Heap),(K w.params).In h->h.Ns mainGlobals mg->mg d.name=some (.ref fa) ->
   ∃ fd:FuncData,(∀ (s:Shared) (u:Value),BindsTo s fd ⟨[u],[]⟩ [(x,u)]) /\
    ∀ base:Heap,(K w.params).In base->base.Ns mainGlobals mg->FnOk l.prog w (K w.params) mg base (CX w) k fa fd [x] (sp w))
  (hsp:∀ (w:World) (H:Hp) (a:Addr) (ns:List Int),ns.length <= n->Only H->SqL (K w.params) H a (ns.map V.int)->sp w [.ref a] H (fun v _=>v=.bl true) fun _ _ _=>False)
  (hCX:∀ (w:World) (H:Hp) (s:Shared) (e:Value) (s':Shared),CX w [] H s (fun _ _ _=>False) e s'->False) :
  PySem.W.WalkO q loose XP YP l.row.toRowW d [] (fun f vs=>PySem.call f vs):=by
 refine Att.attach_call hn hdf fun w s₀ s₁ mg mb fa o pm cd doc a vs ns G Y ho hd hcd hmg hobj hints hlen hg=>?_;have KX:=hY w _ Y;obtain⟨fd,hb,hF⟩:=F w mg fa _ KX G.T.g hmg;exact qc7z KX G.T.g G.T.b G.T.builtins G.T.nolimit hg hobj hints (le_trans hlen hn2) hr hF hb (fun H hO hS=>hsp w H a ns hlen hO hS) fun H e s'=>hCX w H s₁ e s'
end L2
namespace L2
open PySem PySem.Spec PyProof.Rows
noncomputable def qa5u(s:Stmt):Arguments:=match s with
 | .FunctionDef _ a _ _ _ _ _ _ _ _=>a
 | _=>{ posonlyargs:=[],args:=[],vararg:=none,kwonlyargs:=[],kw_defaults:=[],kwarg:=none,defaults:=[] }
noncomputable def qa2z(s:Stmt):List Stmt:=match s with
 | .FunctionDef _ _ b _ _ _ _ _ _ _=>b
 | _=>[]
noncomputable def qa0k(s:Stmt):Scope:=match s with
 | .FunctionDef _ _ _ _ _ _ sc _ _ _=>sc
 | _=>{ kind:=.function,names:=[],isGenerator:=false,isCoroutine:=false }
abbrev CX0:CXT:=fun _ _ _ _ _ _=>False
abbrev E0:XK:=fun _ _ _=>False
def pass0{X:Cx}:qb7e CX0 X E0:=fun _ _ _ _ _ _ _ h=>h.elim
structure Fun(K:W.Frag)(x qual:Str)(st:Stmt)(f:Addr)(fd:FuncData):Prop where
 ex:∃ (oc:Value) (od:Option Addr) (kV doc pm:Value) (an:Option Addr) (cdv ct:Value) (osl:Array (Option Value)),
  fd=PySem.W.fnOf x qual (qa5u st) (qa2z st) (qa0k st) .none kV doc pm an cdv ct/\K.lookup f=some ⟨oc,od,.func fd,osl⟩/\PySem.W.codeIn K cdv qual=true
 kp:PySem.W.keepIn K (.ref f)=true
section
variable{P:Program}{w:World}{K:W.Frag}{mg:Str->Option Value}{base:Heap}
def Fun.ok{x qual:Str}{st:Stmt}{f:Addr}{fd:FuncData}{N ps:List Str}{k:Nat}{sp:Sp}(F:Fun K x qual st f fd)(S:FnScope N ps (qa0k st))(len:∀ vs H Q E,sp vs H Q E->vs.length=ps.length)
  (hbody:∀ (cdv:Value) (A:Around) (outer:List Env) (s:Shared) (H:Hp) (vs:List V) (Q:VK) (E:XK),Room k (A.deeper (envOfC qual (qa0k st) s.heap.objs.size f cdv))->sp vs H Q E ->
   ∃ t,PSs (cxOf CX0 P w K mg base N qual (qa0k st) f cdv A outer s H E).nox (qa2z st) t/\t { nx:=fun _ H'=>Q .non H',rt:=Q } (start N vs) H):FnOk P w K mg base CX0 (k + 1) f fd ps sp:=by
 obtain⟨oc,od,kV,doc,pm,an,cdv,ct,osl,rfl,lk,hcd⟩:=F.ex;refine fn_of lk hcd S len fun A outer s H vs Q E hr hsp=>?_;obtain⟨t,h,q⟩:=hbody cdv A outer s H vs Q E hr hsp;exact⟨t,h.nox,q⟩
def Fun.binds{x qual:Str}{st:Stmt}{f:Addr}{fd:FuncData}{ps:List Str}(F:Fun K x qual st f fd)
  (h:∀ (kV doc pm:Value) (an:Option Addr) (cdv ct:Value) (us:List Value),us.length=ps.length->bindArgs (PySem.W.fnOf x qual (qa5u st) (qa2z st) (qa0k st) .none kV doc pm an cdv ct) ⟨us,[]⟩=pure (ps.zip us)):Binds K fd ps []:=by
 obtain⟨oc,od,kV,doc,pm,an,cdv,ct,osl,rfl,lk,hcd⟩:=F.ex;exact .all (h kV doc pm an cdv ct)
def qa8b{x qual:Str}{st:Stmt}{f:Addr}{oc:Value}{od an:Option Addr}{osl:Array (Option Value)}{kV doc pm cdv ct:Value}(l:K.lookup f=some ⟨oc,od,.func (PySem.W.fnOf x qual (qa5u st) (qa2z st) (qa0k st) .none kV doc pm an cdv ct),osl⟩)
  (c:PySem.W.codeIn K cdv qual=true) (k:PySem.W.keepIn K (.ref f)=true):Fun K x qual st f (PySem.W.fnOf x qual (qa5u st) (qa2z st) (qa0k st) .none kV doc pm an cdv ct):=⟨⟨oc,od,kV,doc,pm,an,cdv,ct,osl,rfl,l,c⟩,k⟩
end
def qb0w{n:Nat}(h:n <= 1000):n < sizeLine:=Nat.lt_of_le_of_lt h 'd'
section
variable{X:Cx}
def pv(i:Nat){x:Str}{pos:Pos}(hN:X.N[i]? = some x:=by rfl)(hv:Vis X.env.scope x:=by first | exact Or.inl rfl | exact Or.inr 'f' | exact Or.inr (Or.inr rfl)) (hd:(x == ("__debug__" : Str))=false:=by decide)
  (hcd:(x == ("__classdict__" : Str))=false:=by decide):PE X (.Name x pos) (tVar i):=qa9d hN hv hd hcd
end
def iteF{A B:Prop}(h:B):if false=true then A else B:=by
 rw [if_neg Bool.false_ne_true];exact h
def iteT{A B:Prop}(h:A):if true=true then A else B:=by
 rw [if_pos rfl];exact h
def ite2{c A B:Prop}[Decidable c](h1:c->A)(h2:¬ c->B):if c then A else B:=by
 by_cases h:c
 ·rw [if_pos h]
  exact h1 h
 ·rw [if_neg h]
  exact h2 h
def Same(H H':Hp):Prop:=∀ b o,H b=some o->H' b=some o
def Same.refl(H:Hp):Same H H:=fun _ _ h=>h
def Same.trans{H H1 H2:Hp}(a:Same H H1)(b:Same H1 H2):Same H H2:=fun c o h=>b c o (a c o h)
def Same.free{H H':Hp}(e:Same H H'){l:Addr}(h:H' l=Option.none):H l=Option.none:=by
 cases q:H l with
 | none=>rfl
 | some o =>
  rw [e l o q] at h;cases h
end L2
end
section
namespace Sx
open PySem
abbrev Up(xs:Array Nat):Prop:=∀ i k:Nat,i < k->∀ hk:k < xs.size,∀ hi:i < xs.size,xs[i] < xs[k]
structure Bel(xs:Array Nat)(j r:Nat):Prop where
 le:r <= xs.size
 lo:∀ i,i < r->∀ h:i < xs.size,xs[i] < j
 hi:∀ i,r <= i->∀ h:i < xs.size,j <= xs[i]
def go_bel{xs:Array Nat}(up:Up xs)(j:Nat):∀ (f lo hi:Nat),hi - lo <= f->lo <= hi->hi <= xs.size->(∀ i,i < lo->∀ h:i < xs.size,xs[i] < j)->(∀ i,hi <= i->∀ h:i < xs.size,j <= xs[i])->Bel xs j (SetTable.below.go xs j f lo hi):=by
 intro f;induction f with
 | zero =>
  intro lo hi hf h1 h2 a b;have e:lo=hi:=by omega
  subst e;exact⟨h2,a,b⟩
 | succ f ih =>
  intro lo hi hf h1 h2 a b;unfold SetTable.below.go;by_cases hlt:lo < hi
  ·rw [if_pos hlt]
   have hm:(lo + hi) / 2 < xs.size:=by omega
   have eg:xs.getD ((lo + hi) / 2) j=xs[(lo + hi) / 2]:=by
    rw [getD_eq_getD_getElem?,Array.getElem?_eq_getElem hm];rfl
   dsimp only
   rw [eg];by_cases hc:xs[(lo + hi) / 2] < j
   ·rw [if_pos hc]
    refine ih _ _ 'o' 'o' h2 (fun i hi' h=>?_) b;by_cases e:i=(lo + hi) / 2
    ·subst e;exact hc
    ·exact lt_trans (up i ((lo + hi) / 2) 'o' hm h) hc
   ·rw [if_neg hc]
    refine ih _ _ 'o' 'o' 'o' a (fun i hi' h=>?_);by_cases e:i=(lo + hi) / 2
    ·subst e;omega
    ·have:=up ((lo + hi) / 2) i 'o' h hm
     omega
  ·rw [if_neg hlt]
   have e:lo=hi:=by omega
   subst e;exact⟨h2,a,b⟩
def bel{xs:Array Nat}(up:Up xs)(j:Nat):Bel xs j (SetTable.below xs j):=
 go_bel up j xs.size 0 xs.size 'o' 'o' 'e' (fun i h=>absurd h (Nat.not_lt_zero _)) (fun i h1 h2=>absurd h2 'o')
def Bel.eq{xs:Array Nat}{j r r':Nat}(a:Bel xs j r)(b:Bel xs j r'):r=r':=by
 rcases Nat.lt_trichotomy r r' with h | h | h
 ·have h1:=a.hi r 'e' (by have:=b.le;omega)
  have h2:=b.lo r h (by have:=b.le;omega);omega
 ·exact h
 ·have h1:=b.hi r' 'e' (by have:=a.le;omega)
  have h2:=a.lo r' h (by have:=a.le;omega);omega
def qc3i{xs:Array Nat}(up:Up xs){i:Nat}(h:i < xs.size):SetTable.below xs (xs[i] + 1)=i + 1:=
 (bel up _).eq ⟨h,fun k hk hs=>by
  by_cases e:k=i
  ·subst e;omega
  ·have:=up k i 'o' h hs
   omega,fun k hk hs=>by have:=up i k 'o' hs h;omega⟩
def qc3j{xs:Array Nat}(up:Up xs):SetTable.below xs 0=0:=
 (bel up _).eq ⟨zero_le _,fun i h=>absurd h (Nat.not_lt_zero _),fun i h1 h2=>zero_le _⟩
abbrev UpL(xs:List Nat):Prop:=xs.Pairwise (· < ·)
def up_of{xs:Array Nat}(h:UpL xs.toList):Up xs:=fun i k hik hk hi=>by
 have:=List.pairwise_iff_getElem.mp h i k (by simpa using hi) (by simpa using hk) hik;simpa using this
def put_up{xs:Array Nat}(h:UpL xs.toList){j:Nat}(hj:¬ xs[SetTable.below xs j]? = some j):UpL (SetTable.insertAt xs (SetTable.below xs j) j).toList:=by
 have b:=bel (up_of h) j;generalize SetTable.below xs j=r at b hj;rw [SetTable.toList_insertAt];have h0:UpL (xs.toList.take r ++ xs.toList.drop r):=by rw [List.take_append_drop];exact h
 obtain⟨h1,h2,h3⟩:=List.pairwise_append.mp h0;have lo:∀ a ∈ xs.toList.take r,a < j:=fun a ha=>by
  obtain⟨i,hi,e⟩:=getElem_of_mem ha;rw [length_take] at hi;rw [List.getElem_take] at e;have hs:i < xs.size:=by simp at hi;omega
  have:=b.lo i 'o' hs;rw [← e];simpa using this
 have hi:∀ a ∈ xs.toList.drop r,j < a:=fun a ha=>by
  obtain⟨i,hi,e⟩:=getElem_of_mem ha;rw [length_drop] at hi;rw [List.getElem_drop] at e;have hs:r + i < xs.size:=by simp at hi;omega
  have h5:=b.hi (r + i) 'o' hs;have e':xs[r + i]=a:=by rw [← e];simp
  have hr:r < xs.size:=by omega
  have h6:=b.hi r 'e' hr;have h7:xs[r] ≠ j:=fun e=>hj (by rw [Array.getElem?_eq_getElem hr,e]);by_cases e0:i=0
  ·subst e0
   simp only [Nat.add_zero] at e';omega
  ·have:=up_of h r (r + i) 'o' hs hr
   omega
 refine List.pairwise_append.mpr ⟨h1,pairwise_cons.mpr ⟨hi,h2⟩,fun a ha c hc=>?_⟩;rcases mem_cons.mp hc with rfl | hc
 ·exact lo a ha
 ·exact h3 a ha c hc
structure TOk(t:SetTable):Prop where
 none:t.dummies = #[]
 up:UpL t.place.toList
def qc5m(f m:Nat)(l:Bool):TOk (SetTable.fresh f m l):=⟨rfl,List.Pairwise.nil⟩
def qb5y(n:Nat):UpL (List.range n):=pairwise_lt_range
def qa6i(t:SetTable)(n:Nat):TOk (t.standIn n):=⟨rfl,by
 show UpL (Array.range n).toList;rw [Array.toList_range];exact qb5y n⟩
def tok_or{t:SetTable}(h:TOk t)(n:Nat):TOk (t.orStandIn n):=by
 unfold SetTable.orStandIn;split
 ·exact h
 ·exact qa6i t n
def qc1n(j:Nat):SetTable.has #[] j=false:=by
 unfold SetTable.has;simp
def qc8a{t:SetTable}(h:TOk t)(f:Nat->Int)(hh:Int):∀ (n:Nat) (p:SetTable.Probe),p.dummy=none->∀ j d,SetTable.probe.go t f hh n p=some (.empty j d)->d=none/\t.slot j=.empty:=by
 intro n;induction n with
 | zero=>intro p hp j d e;unfold SetTable.probe.go at e;cases e
 | succ n ih =>
  intro p hp j d e;unfold SetTable.probe.go at e;have adv:∀ q:SetTable.Probe,q.dummy=none->(t.advance q).dummy=none:=fun q hq=>by
   unfold SetTable.advance;split
   ·exact hq
   ·exact hq
  split at e
  ·rename_i hs
   injection e with e
   injection e with e1 e2
   subst e1;exact⟨by rw [← e2,hp],hs⟩
  ·rename_i hs
   exfalso
   unfold SetTable.slot at hs
   dsimp only at hs
   rw [h.none,qc1n] at hs;split at hs<;>cases hs
  ·split at e
   ·injection e with e;cases e
   ·exact ih _ (adv _ hp) j d e
def qc3k{t:SetTable}(h:TOk t){hh:Int}{j:Nat}{b:Bool}(e:t.freeSlot hh=some (j,b)):t.slot j=.empty:=by
 unfold SetTable.freeSlot SetTable.probe at e;split at e
 ·rename_i j' d hp
  obtain⟨hd,hs⟩:=qc8a h _ _ _ _ rfl _ _ hp;injection e with e
  injection e with e1 e2
  subst hd;subst e1;exact hs
 ·cases e
def tok_put{t:SetTable}(h:TOk t){j:Nat}(hs:t.slot j=.empty):TOk (t.put j).1:=by
 have hj:¬ t.place[SetTable.below t.place j]? = some j:=fun e=>by
  unfold SetTable.slot at hs
  dsimp only at hs
  rw [e] at hs;simp at hs
 refine⟨?_,?_⟩
 ·unfold SetTable.put
  dsimp only
  rw [h.none,qc1n];rfl
 ·exact put_up h.up hj
def qc3l{t:SetTable}(h:TOk t)(es:Array 'r')(hh:Int)(x:Value):TOk (layNew t es hh x).2.1:=by
 unfold layNew;split
 ·rename_i slot d e
  exact tok_or (tok_put h (qc3k h e)) _
 ·exact qa6i _ _
def qc5n{t:SetTable}(h:TOk t)(b:Bool):TOk { t with plain:=b }:=⟨h.none,h.up⟩
def qc8b{mask f m:Nat}{l p:Bool}{hs:Array Int}{r:SetTable × Array Nat}(e:SetTable.laid mask f m l p hs=some r):TOk r.1:=by
 unfold SetTable.laid at e;cases ho:SetTable.layClean mask hs with
 | none=>rw [ho] at e;cases e
 | some owner =>
  rw [ho] at e;cases e;refine⟨rfl,?_⟩;show UpL (List.map (fun q:Nat × Nat=>q.1) _);have key:∀ (l:List Nat),UpL l->UpL (List.map (fun q:Nat × Nat=>q.1) (l.filterMap fun j=>(owner.getD j none).map (j,·))):=by
   intro l hl;refine pairwise_map.mpr ?_;refine List.Pairwise.filterMap _ (fun a a' haa b hb c hc=>?_) hl;cases ha:owner.getD a none with
   | none=>rw [ha] at hb;cases hb
   | some u =>
    cases ha':owner.getD a' none with
    | none=>rw [ha'] at hc;cases hc
    | some u' =>
     rw [ha] at hb;rw [ha'] at hc;cases hb;cases hc;exact haa
  exact key _ (qb5y _)
def qc5o{t:SetTable}(h:TOk t)(es:Array 'r')(n:Nat):TOk (relayAll t es n).2.1:=by
 unfold relayAll;split
 ·rename_i t' order e
  dsimp only
  split
  ·exact qc8b e
  ·exact qa6i _ _
 ·exact qa6i _ _
def qc3m(t:SetTable)(es:Array 'r')(hh:Int)(x:Value):(layNew t es hh x).2.1.led=t.led:=by
 unfold layNew;split
 ·dsimp only
  unfold SetTable.orStandIn;split<;>rfl
 ·rfl
def qc5p(t:SetTable)(es:Array 'r')(n:Nat):(relayAll t es n).2.1.led=t.led:=by
 unfold relayAll;split
 ·rename_i t' order e
  dsimp only
  split
  ·unfold SetTable.relaid SetTable.laid at e
   cases ho:SetTable.layClean (SetTable.sizeAbove n - 1) (es.map (·.1)) with
   | none=>rw [ho] at e;cases e
   | some owner=>rw [ho] at e;cases e;rfl
  ·rfl
 ·rfl
end Sx
end
section
namespace Sx
open PySem
section
variable{prog:Program}{w:World}{K:Type}[DecidableEq K](knd:KeyKind prog w K)(dec:Value->K)
structure Fc(ks:List K)(es:Array 'r')(t:SetTable):Prop where
 el:ElemsOf knd es.toList
 pm:(es.toList.map fun e=>dec e.2).Perm ks
 nd:ks.Nodup
 sz:es.size < scanBound
 ft:t.fits es.size=true
 ok:TOk t
 ld:t.led = !w.params.followText "set-order"
abbrev setO(es:Array 'r')(ep:Nat)(t:SetTable):Obj:={ cls:=.type "set",dict:=none,data:=.set es ep t,slots:=#[] }
def SetV(h:Heap)(a:Addr)(ks:List K):Prop:=∃ es ep t,h.get? a=some (setO es ep t)/\Fc knd dec ks es t
noncomputable def ins(ks:List K)(k:K):List K:=if k ∈ ks then ks else ks ++ [k]
variable{knd dec}
variable{A:Around}{E:Value->Shared->Prop}{s:Shared}
def Fc.relay{ks:List K}{es:Array 'r'}{t:SetTable}(F:Fc knd dec ks es t)(n:Nat):Fc knd dec ks (relayAll t es n).1 (relayAll t es n).2.1:=by
 have p:=relayAll_perm t es n;have z:(relayAll t es n).1.size=es.size:=by rw [← length_toList,p.length_eq,length_toList]
 exact⟨F.el.perm p,(p.map _).trans F.pm,F.nd,by rw [z];exact F.sz,relayAll_fits t es n,qc5o F.ok es n,by rw [qc5p];exact F.ld⟩
def Fc.plain{ks:List K}{es:Array 'r'}{t:SetTable}(F:Fc knd dec ks es t):Fc knd dec ks es { t with plain:=false }:=
 ⟨F.el,F.pm,F.nd,F.sz,SetTable.fits_plain_off F.ft,qc5n F.ok _,F.ld⟩
def Fc.lay{ks:List K}{es:Array 'r'}{t:SetTable}(F:Fc knd dec ks es t)(hdec:∀ k v,knd.is k v=true->dec v=k){k:K}{x:Value}(hk:knd.is k x=true)(hx:x.scannable=true)(hn:k ∉ ks)(hr:ks.length + 1 < scanBound) :
  Fc knd dec (ks ++ [k]) (layNew t es (knd.hash k) x).1 (layNew t es (knd.hash k) x).2.1:=by
 have p:=layNew_perm t es (knd.hash k) x;rw [Array.toList_push] at p;have z0:es.size=ks.length:=by have:=F.pm.length_eq;simpa using this
 have z:(layNew t es (knd.hash k) x).1.size=es.size + 1:=by rw [← length_toList,p.length_eq];simp
 refine⟨(F.el.push hk hx).perm p,?_,?_,by rw [z,z0];exact hr,layNew_fits t es _ x,qc3l F.ok es _ x,by rw [qc3m];exact F.ld⟩
 ·have p2:=p.map (fun e=>dec e.2)
  rw [map_append] at p2;have e1:List.map (fun e:Int × Value=>dec e.2) [(knd.hash k,x)]=[k]:=by simp [hdec k x hk]
  rw [e1] at p2;exact p2.trans (F.pm.append_right [k])
 ·rw [nodup_append]
  refine⟨F.nd,pairwise_singleton _ k,fun a ha b hb=>?_⟩;rw [mem_singleton] at hb;subst hb;exact fun e=>hn (e ▸ ha)
def qb5z{h:Heap}{a:Addr}{es:Array 'r'}{ep:Nat}{t:SetTable}(ho:h.get? a=some (setO es ep t))(es':Array 'r')(t':SetTable):(h.update a (Obj.putSet es' t')).get? a=some (setO es' (ep + 1) t'):=by
 have:=get?_update_self (Obj.putSet es' t') ho (by rw [putSet_of es' t' rfl];rfl);rw [putSet_of es' t' rfl] at this;exact this
def tail_v{g:Bool->Sem Unit}(hg:∀ (b:Bool) (s₁:Shared) (Q':Unit->Shared->Prop),Q' () s₁->wpAny (model prog w) A (g b) Q' E s₁){a:Addr}{es:Array 'r'}{ep:Nat}{t:SetTable}(ho:s.heap.get? a=some (setO es ep t))
  {ks:List K} {e1:Array 'r'} {t1:SetTable} (F:Fc knd dec ks e1 t1) {wd:Bool} {R:Option Bool->Shared->Prop} (h:∀ h',Heap.SameBut a s.heap h'->SetV knd dec h' a ks->R (some true) { s with heap:=h' }) :
  wpAny (model prog w) A (do
    storeSet a e1 t1
    if (!wd && t1.tooFull)=true then do
      g (relayAll t1 e1 (SetTable.grown e1.size)).2.2;storeSet a (relayAll t1 e1 (SetTable.grown e1.size)).1 (relayAll t1 e1 (SetTable.grown e1.size)).2.1
      pure (some true)
     else pure (some true)) R E s:=by
 refine wpAny_bind (wpAny_storeSet_of ho rfl ?_ (fits_of_scanBound F.sz));have o1:=qb5z ho e1 t1;have b1:=Heap.SameBut.update s.heap a (Obj.putSet e1 t1);split
 ·have F2:=F.relay (SetTable.grown e1.size)
  generalize relayAll t1 e1 (SetTable.grown e1.size)=Rl at F2 ⊢;refine wpAny_bind (hg _ _ _ (wpAny_bind (wpAny_storeSet_of o1 rfl ?_ (fits_of_scanBound F2.sz))));exact wpAny_pure (h _ (b1.trans (Heap.SameBut.update _ a _)) ⟨_,_,_,qb5z o1 _ _,F2⟩)
 ·exact wpAny_pure (h _ b1 ⟨_,_,_,o1,F⟩)
def addH_v(hdec:∀ k v,knd.is k v=true->dec v=k){a:Addr}{ks:List K}{k:K}{x:Value}{Q:Bool->Shared->Prop}(hk:knd.is k x=true)(hx:x.scannable=true)(hS:SetV knd dec s.heap a ks)(hr:ks.length + 1 < scanBound)
  (h:∀ b h',Heap.SameBut a s.heap h'->SetV knd dec h' a (ins ks k)->Q b { s with heap:=h' }):wpAny (model prog w) A (setAddHashed a x (knd.hash k)) Q E s:=by
 obtain⟨es,ep,t,ho,F⟩:=hS;unfold setAddHashed;unfold setAddHashedIn;refine wpAny_holding (wpAny_bind (wpAny_setState_of ho rfl F.ft ?_))
 dsimp only
 rw [byScan_of hx F.sz F.el];simp only [↓reduceIte];unfold setAddByScan;refine wpAny_bind (wpAny_bind (wpAny_rule (wpAny_bind (wpAny_setScan_of hk ho rfl F.ft F.el ?_))));cases hf:List.findIdx? (fun e=>knd.is k e.2) es.toList with
 | some j =>
  obtain⟨hj,hpj,_⟩:=List.findIdx?_eq_some_iff_getElem.mp hf;have hm:k ∈ ks:=F.pm.mem_iff.mp (mem_map.mpr ⟨es.toList[j],getElem_mem hj,hdec _ _ hpj⟩);refine wpAny_pure (wpAny_pure ?_);have:=h false s.heap (Heap.SameBut.refl a s.heap) (by rw [ins,if_pos hm];exact⟨es,ep,t,ho,F⟩);cases s;exact this
 | none =>
  have hn:k ∉ ks:=fun hm=>by
   obtain⟨e,he,q⟩:=mem_map.mp (F.pm.mem_iff.mpr hm);obtain⟨⟨k2,hk2,_⟩,_⟩:=F.el e he;have e2:k2=k:=(hdec _ _ hk2).symm.trans q;have:=List.findIdx?_eq_none_iff.mp hf e he;rw [← e2,hk2] at this;cases this
  have F1:=F.lay hdec hk hx hn hr;have hw:∀ (b:Bool) {s₁:Shared} {Q':Unit->Shared->Prop},Q' () s₁->wpAny (model prog w) A (match b with | true=>rule "set.scan.the-table-gave-way" | false=>pure ()) Q' E s₁:=fun b s₁ Q' hq=>by
   cases b<;>first | exact wpAny_pure hq | exact wpAny_rule hq
  have fin:∀ h',Heap.SameBut a s.heap h'->SetV knd dec h' a (ks ++ [k])->Q true { s with heap:=h' }:=fun h' b1 b2=>h true h' b1 (by rw [ins,if_neg hn];exact b2)
  dsimp only
  generalize layNew t es (knd.hash k) x=L at F1 ⊢;obtain⟨e1,t1,wd,gave⟩:=L
  dsimp only at F1 ⊢
  refine wpAny_bind (hw _ ?_);split
  ·refine wpAny_bind ?_
   rw [hashByValue_scannable 8 hx];refine wpAny_pure (tail_v (knd:=knd) (dec:=dec) ?_ ho (ks:=ks ++ [k]) ?_ ?_)
   ·intro b s₁ Q' hq;cases b<;>first | exact wpAny_pure hq | exact wpAny_rule hq
   ·split
    ·exact F1
    ·exact F1.plain
   ·intro h' hb hS';exact wpAny_pure (fin h' hb hS')
  ·refine wpAny_bind (wpAny_pure ?_);simp only [↓reduceIte]
   refine tail_v ?_ ho F1 ?_
   ·intro b s₁ Q' hq;cases b<;>first | exact wpAny_pure hq | exact wpAny_rule hq
   ·intro h' hb hS';exact wpAny_pure (fin h' hb hS')
def add_v(hdec:∀ k v,knd.is k v=true->dec v=k){a:Addr}{ks:List K}{k:K}{x:Value}{Q:Bool->Shared->Prop}(hk:knd.is k x=true)(hx:x.scannable=true)(hS:SetV knd dec s.heap a ks)(hr:ks.length + 1 < scanBound)
  (h:∀ b h',Heap.SameBut a s.heap h'->SetV knd dec h' a (ins ks k)->Q b { s with heap:=h',toks:=s.toks + 1 }):wpAny (model prog w) A (setAdd a x) Q E s:=by
 unfold setAdd;refine wpAny_holding (wpAny_bind (knd.pyHash hk ?_));exact addH_v hdec hk hx (s:={ s with toks:=s.toks + 1 }) hS hr fun b h' b1 b2=>h b h' b1 b2
end
end Sx
end
section
namespace Sx
open PySem
def qb6a:entryFor table "set.update.loop" = some Builtin.«set.update.loop»:=entryFor_of_tree (by kernel_rfl)
def qb0x:plainId "set.update.loop" = true:=by decide +kernel
section
variable{K:Type}[DecidableEq K]
noncomputable def uniq(ks:List K):List K:=ks.foldl ins []
def qc5q(ks:List K)(k:K):uniq (ks ++ [k])=ins (uniq ks) k:=by unfold uniq;rw [List.foldl_append];rfl
def ins_le(ks:List K)(k:K):(ins ks k).length <= ks.length + 1:=by
 unfold ins;split
 ·omega
 ·rw [length_append];exact le_refl _
def uniq_go(ks:List K):∀ l:List K,(ks.foldl ins l).length <= l.length + ks.length:=by
 induction ks with
 | nil=>intro l;exact le_refl _
 | cons k r ih =>
  intro l;have h1:=ih (ins l k);have h2:=ins_le l k;rw [List.foldl_cons,length_cons];omega
def qb1u(ks:List K):(uniq ks).length <= ks.length:=by
 have:=uniq_go ks [];simpa [uniq] using this
def mem_ins{ks:List K}{k j:K}:j ∈ ins ks k ↔ j ∈ ks ∨ j=k:=by
 unfold ins;split
 ·rename_i h
  exact⟨.inl,fun q=>q.elim id (fun e=>e ▸ h)⟩
 ·rw [mem_append,mem_singleton]
def qc5r{ks:List K}(h:ks.Nodup)(k:K):(ins ks k).Nodup:=by
 unfold ins;split
 ·exact h
 ·rename_i hk
  rw [nodup_append];refine⟨h,pairwise_singleton _ k,fun a ha b hb=>?_⟩;rw [mem_singleton] at hb;subst hb;exact fun e=>hk (e ▸ ha)
def mem_go(ks:List K):∀ (l:List K) (j:K),j ∈ ks.foldl ins l ↔ j ∈ l ∨ j ∈ ks:=by
 induction ks with
 | nil=>intro l j;simp
 | cons k r ih=>intro l j;rw [List.foldl_cons,ih,mem_ins,mem_cons,or_assoc]
def qb2n{ks:List K}{j:K}:j ∈ uniq ks ↔ j ∈ ks:=by unfold uniq;rw [mem_go];simp
def qc8c(ks:List K):∀ l:List K,l.Nodup->(ks.foldl ins l).Nodup:=by
 induction ks with
 | nil=>intro l h;exact h
 | cons k r ih=>intro l h;exact ih _ (qc5r h k)
def qa9w(ks:List K):(uniq ks).Nodup:=qc8c ks [] List.Pairwise.nil
end
section
variable{prog:Program}{w:World}{K:Type}[DecidableEq K]{knd:KeyKind prog w K}{dec:Value->K}{A:Around}{R:Result->Shared->Prop}{I:Addr}{fp wr:List Addr}{G:Array GenState->Array GenState->Prop}{St:Nat->Shared->Prop}{items:Array Value}{ks:List K}
def SetV.move{h h':Heap}{a:Addr}(x:SetV knd dec h a ks)(e:∀ o,h.get? a=some o->h'.get? a=some o):SetV knd dec h' a ks:=by
 obtain⟨es,ep,t,ho,F⟩:=x;exact⟨es,ep,t,e _ ho,F⟩
def qc8d(hdec:∀ k v,knd.is k v=true->dec v=k)(W:WalksS prog w A.in1 I fp wr G items.size (fun i v=>items[i]? = some v) St)(D:Addr)(hDf:D ∉ fp)(hl:items.size < 4000)(hks:∀ (i:Nat) (v:Value),items[i]? = some v->∃ k,ks[i]? = some k/\knd.is k v=true/\v.scannable=true) :
  ∀ (m i:Nat) (s:Shared),items.size - i=m->i <= items.size->St i s->SetV knd dec s.heap D (uniq (ks.take i)) ->
   (∀ s',Moved (D :: wr) G s s'->SetV knd dec s'.heap D (uniq (ks.take items.size))->R (.ok (.ret .none)) s') ->
   codeAny (model prog w) A (.builtin "set.update.loop" ⟨[.ref D,.ref I],[]⟩) R s:=by
 have hDw:D ∉ wr:=fun h=>hDf (W.sub _ h);have up:∀ b ∈ wr,b ∈ D :: wr:=fun b hb=>mem_cons_of_mem _ hb;intro m;induction m with
 | zero =>
  intro i s hm hi st sv fin;have hin:i=items.size:=by omega
  subst hin;refine codeAny_builtin qb6a ?_;rw [Around.under_plainId qb0x _];show wpAny _ A.in1 (pyNext (.ref I) >>= _) _ _ s;refine wpAny_bind (W.done s _ _ st fun s' mv=>?_);exact wpAny_pure (fin s' (mv.mono up) (sv.move fun o e=>mv.heap D _ hDw e))
 | succ m ih =>
  intro i s hm hi st sv fin;have hlt:i < items.size:=by omega
  refine codeAny_builtin qb6a ?_;rw [Around.under_plainId qb0x _];show wpAny _ A.in1 (pyNext (.ref I) >>= _) _ _ s;refine wpAny_bind (W.item i s _ _ hlt st fun v s' hv st' mv=>?_);obtain⟨k,hk,hi1,hi2⟩:=hks i v hv;have sv':=sv.move (h':=s'.heap) fun o e=>mv.heap D _ hDw e;have hsz:(uniq (ks.take i)).length + 1 < scanBound:=by
   have h1:=qb1u (ks.take i);have h2:=List.length_take_le i ks;have h3:scanBound=4096:=rfl;omega
  show wpAny _ A.in1 (holding [v] (setAdd D v) >>= _) _ _ s';refine wpAny_bind (wpAny_holding (add_v hdec hi1 hi2 sv' hsz fun b h' hs sv2=>?_));have e1:uniq (ks.take (i + 1))=ins (uniq (ks.take i)) k:=by
   rw [take_add_one,hk,toList_some,qc5q]
  refine wpAny_pure ⟨plainId_quiet qb0x _,ih (i + 1) _ 'o' hlt (W.frame _ s' _ _ st' (le_succ _) fun b hb o e=>?_) (by rw [e1];exact sv2) fun s2 mv2 sv3=>?_⟩
  ·rw [hs.2 b (fun h:b=D=>hDf (by rw [← h];exact hb))];exact e
  ·refine fin s2 (Moved.trans W.gtrans ((mv.mono up).then_heap (le_succ _) fun b o hb e=>?_) mv2) sv3
   rw [hs.2 b (fun h:b=D=>hb (by rw [h];exact mem_cons_self))];exact e
end
def tc_set(x:Value):checkTypeCall "set" ⟨[x],[]⟩=pure ():=by kernel_rfl
def nc_set(x:Value):checkBuiltinCall "set.__new__" ⟨[.type "set",x],[]⟩=pure ():=by kernel_rfl
def qb7j:isSubtype (.type "list") (.type "set")=pure false:=by rw [isSubtype_type];kernel_rfl
def qc0e:isSubtype (.type "list") (.type "frozenset")=pure false:=by rw [isSubtype_type];kernel_rfl
def qc0f:isSubtype (.type "tuple") (.type "set")=pure false:=by rw [isSubtype_type];kernel_rfl
def qc3n:isSubtype (.type "tuple") (.type "frozenset")=pure false:=by rw [isSubtype_type];kernel_rfl
section
variable{prog:Program}{w:World}{A:Around}{E:Value->Shared->Prop}{s:Shared}
abbrev newO(w:World):Obj:=setO #[] 0 (.fresh 0 0 (!w.params.followText "set-order"))
def new_v(x:Value){Q₁:Value->Shared->Prop}(h:Q₁ (.ref s.heap.objs.size) { s with heap:=s.heap.push (newO w) }) :
  codeAny (model prog w) A (.call (.builtin "set.__new__") ⟨[.type "set",x],[]⟩) (wants Q₁ E) s:=by
 refine codeAny_call_builtin F.plain_set_new F.entry_set_new (wpAny_of_eq (nc_set x) ?_);unfold Builtin.«set.__new__» Builtin.Frozenset.newClass;have hsub:=sub_set_self;obtain⟨hp,g,d,tk,os⟩:=s
 dsimp only
 wp_walk
 refine wpAny_askSetting (wpAny_pure ?_);dsimp only;simp only [newObj];exact wpAny_bind (wpAny_alloc (wpAny_pure (wpAny_pure h)))
def check_v{M:Model}{self x:Value}{Q:Unit->Shared->Prop} (hT:s.TypeIs self "set") (hQ:Q () s):wpAny M A (checkBuiltinCall "set.__init__" ⟨[self,x],[]⟩) Q E s:=by
 simp only [kind_set_init,checkBuiltinCall,split_set_init,sig_set_init];refine wpAny_bind (wpAny_isInstance hT sub_set_self ?_);simp only [Bool.false_eq_true,Bool.not_true,if_false];unfold Bind.checkArgs
 dsimp only
 refine wpAny_bind (m:=Bind.printed "set" true _ _) (PyProof.Rows.printed_name 'd' (wpAny_bind (m:=Bind.printed "*" false _ _) (PyProof.Rows.printed_star (self:=self) rfl hT fun short=>?_)));have r0:(Manifest.Receiver.self == Manifest.Receiver.none)=false:=by decide
 have n1:(if (Manifest.Receiver.self == Manifest.Receiver.none)=true then [self,x].length else [self,x].length - 1)=1:=by simp [r0]
 rw [n1,map_nil];have hc:Bind.check ⟨.positional,"set","*",.self,[⟨"iterable",.posOnly,false⟩]⟩ "set" short 1 []=pure ():=by
  simp [Bind.checkCount,Bind.check,Bind.isPositional];intro q;exact absurd q 'd'
 rw [hc];exact wpAny_pure hQ
def call_v{K:Type}[DecidableEq K]{knd:KeyKind prog w K}{dec:Value->K}{l:Addr}{items:Array Value}{ks:List K}{Q:Value->Shared->Prop}(hdec:∀ k v,knd.is k v=true->dec v=k)(hh:A.handled=none)(hq:s.heap.IsList l items ∨ s.heap.IsTuple l items)(hl:items.size < 4000)(hlen:ks.length=items.size)
  (hks:∀ (i:Nat) (v:Value),items[i]? = some v->∃ k,ks[i]? = some k/\knd.is k v=true/\v.scannable=true)
  (h:∀ h' tk,SetV knd dec h' s.heap.objs.size (uniq ks)->(∀ b o,s.heap.get? b=some o->h'.get? b=some o)->Q (.ref s.heap.objs.size) { s with heap:=h',toks:=tk }) :
  wpAny (model prog w) A (call (.type "set") [.ref l]) Q E s:=by
 obtain⟨c,tl,hmro⟩:=F.called_set.mro;have hsub:=F.called_set.sub;have hmade:=F.called_set.made;refine wpAny_call (codeAny_of_tree ?_);show wpAny _ _ (callAny (.type "set") _) _ _ _;refine wpAny_pure ⟨Code.quiet_builtin _ 'k',codeAny_builtin F.entry_type_call ?_⟩;rw [Around.under_plain (weight_type_call_type "set" [.ref l] []) rfl];have h1:=F.called_set.notType;have h2:=F.called_set.canCreate;have hct:=tc_set (.ref l)
 repeat (any_goals (first | assumption | wp_step))
 refine codeAny_mono (new_v (E:=E) (.ref l) (Q₁:=fun obj s₁=>obj=.ref s.heap.objs.size/\s₁={ s with heap:=s.heap.push (newO w) }) ⟨rfl,rfl⟩) fun r s₁ hr=>?_;cases r with
 | error e=>exact hr
 | ok fl =>
  cases fl with
  | ret obj =>
   obtain⟨rfl,rfl⟩:=hr;have hS:(s.heap.push (newO w)).get? s.heap.objs.size=some (newO w):=get?_push_size _ rfl;have sv:SetV knd dec (s.heap.push (newO w)) s.heap.objs.size ([]:List K):=⟨_,_,_,hS,⟨fun e he=>by simp at he,by simp,List.Pairwise.nil,'d',rfl,qc5m _ _ _,rfl⟩⟩;have hT:Shared.TypeIs { s with heap:=s.heap.push (newO w) } (.ref s.heap.objs.size) "set":=⟨_,hS,rfl⟩;have hli:=F.called_set.init.lookup;have hbi:=F.called_set.init.bind (.ref s.heap.objs.size)
   repeat (any_goals (first | assumption | wp_step))
   refine codeAny_mono (codeAny_call_builtin (R:=wants (fun r s₂=>r=.none/\Q (.ref s.heap.objs.size) s₂) E) F.called_set.init.plain F.entry_set_init (check_v hT ?_)) fun r₂ s₂ hr₂=>?_
   ·unfold Builtin.«set.__init__» noKeywords
    obtain⟨T,hTl,n1,n2,n3⟩:∃ T,Shared.TypeIs { s with heap:=s.heap.push (newO w) } (.ref l) T/\isSubtype (.type T) (.type "set")=pure false/\isSubtype (.type T) (.type "frozenset")=pure false/\(Value.type T == Value.type "dict")=false:=by
     rcases hq with hq | hq
     ·exact⟨"list",(hq.push _).typeIs,qb7j,qc0e,'d'⟩
     ·exact⟨"tuple",(hq.push _).typeIs,qc0f,qc3n,'d'⟩
    have hS':Heap.get? (Shared.heap { s with heap:=s.heap.push (newO w) }) s.heap.objs.size=some (newO w):=hS;have hlt:l < s.heap.objs.size:=by rcases hq with⟨o,ho,_⟩ | ⟨o,ho,_⟩<;>exact lt_size ho
    have hI:(s.heap.push (newO w)).objs.size=s.heap.objs.size + 1:=size_push ..;have PI:∀ (Q':Value->Shared->Prop) (E':Value->Shared->Prop),(∀ (o:Obj) (St:Nat->Shared->Prop),WalksS prog w A.in1.in1.in1 (s.heap.objs.size + 1) [s.heap.objs.size + 1,l] [s.heap.objs.size + 1] (fun a b=>b=a) items.size (fun i v=>items[i]? = some v) St->St 0 { s with heap:=(s.heap.push (newO w)).push o }->Q' (.ref (s.heap.objs.size + 1)) { s with heap:=(s.heap.push (newO w)).push o }) ->
      wpAny (model prog w) A.in1.in1 (pyIter (.ref l)) Q' E' { s with heap:=s.heap.push (newO w) }:=by
     intro Q' E' k;have hne:l ≠ s.heap.objs.size + 1:=ne_of_lt (lt_succ_of_lt hlt);rcases hq with hq | hq
     ·refine wpAny_pyIter_list (hq.push _) ?_
      rw [show Shared.heap { s with heap:=s.heap.push (newO w) }=s.heap.push (newO w) from rfl,hI];exact k _ _ ((Walks.list (A:=A.in1.in1.in1) (by simp [hh]) _ l hne items).toS) ⟨⟨_,by rw [← hI];exact get?_push_size _ rfl,rfl,rfl⟩,(hq.push _).push _⟩
     ·refine wpAny_pyIter_tuple (hq.push _) ?_
      rw [show Shared.heap { s with heap:=s.heap.push (newO w) }=s.heap.push (newO w) from rfl,hI];exact k _ _ ((Walks.tuple (A:=A.in1.in1.in1) (by simp [hh]) _ l hne items).toS) ⟨⟨_,by rw [← hI];exact get?_push_size _ rfl,rfl,rfl⟩,(hq.push _).push _⟩
    repeat (any_goals (first | assumption | ((with_reducible show wpAny _ _ (pyIter (Value.ref l)) _ _ _);refine PI _ _ fun o St W st=>?_) | ((with_reducible show wpAny _ _ (runValue _) _ _ _);refine wpAny_runValue ?_) | wp_step))
    have hDf:s.heap.objs.size ∉ [s.heap.objs.size + 1,l]:=by
     simp only [mem_cons,not_mem_nil,or_false,not_or];exact⟨ne_of_lt (lt_succ_self _),ne_of_gt hlt⟩
    refine qc8d hdec W s.heap.objs.size hDf hl hks items.size 0 _ 'o' (zero_le _) st (sv.move fun o e=>get?_push_of_some _ e) fun s' mv sv'=>?_;refine wpAny_pure (wpAny_pure ⟨rfl,?_⟩);rw [← hlen,take_length] at sv';have hk:=h s'.heap s'.toks sv' fun b o e=>mv.heap b o (fun hm=>?_) (get?_push_of_some _ (get?_push_of_some _ e))
    ·have eg:s'.gens=s.gens:=mv.gens
     have ed:s'.drawn=s.drawn:=mv.drawn;have eo:s'.os=s.os:=mv.os;cases s';dsimp only at eg ed eo hk;subst eg ed eo;exact hk
    ·have:=lt_size e
     rcases mem_cons.mp hm with q | q
     ·exact absurd this (by rw [q];exact lt_irrefl _)
     ·rw [mem_singleton] at q
      exact absurd this (by rw [q];exact not_lt.mpr (le_succ _))
   ·cases r₂ with
    | error e=>exact hr₂
    | ok fl₂ =>
     cases fl₂ with
     | ret r =>
      obtain⟨rfl,hq⟩:=hr₂
      repeat (any_goals (first | assumption | wp_step))
     | _=>exact hr₂.elim
  | _=>exact hr.elim
end
end Sx
end
section
namespace Sx
open PySem
def qb2o{α:Type}:∀ {l:List α} {i:Nat} {x:α},l[i]? = some x->(x :: l.eraseIdx i).Perm l
 | [],i,x,h=>by simp at h
 | a :: r,0,x,h=>by
  simp at h
  subst h;exact List.Perm.refl _
 | a :: r,i + 1,x,h=>by
  have h':r[i]? = some x:=by simpa using h
  exact(List.Perm.swap a x _).trans (List.Perm.cons a (qb2o h'))
def pick_go{α:Type}(f:Nat->Nat):∀ (n k:Nat) (l:List α) (out:Array α),l.length=n->(pickOrder.go f n k l out).toList.Perm (out.toList ++ l):=by
 intro n;induction n with
 | zero =>
  intro k l out h;have e:l=[]:=eq_nil_of_length_eq_zero h;subst e;unfold pickOrder.go;simp
 | succ n ih =>
  intro k l out h;unfold pickOrder.go;have hm:f k % l.length < l.length:=Nat.mod_lt _ 'o';have he:l[f k % l.length]? = some l[f k % l.length]:=getElem?_eq_getElem hm;rw [he]
  dsimp only
  refine(ih (k + 1) _ _ (by rw [List.length_eraseIdx_of_lt hm];omega)).trans ?_;rw [Array.toList_push,append_assoc];exact(qb2o he).append_left out.toList
def qb0y{α:Type}(f:Nat->Nat)(xs:Array α):(pickOrder f xs).toList.Perm xs.toList:=by
 have:=pick_go f xs.size 0 xs.toList #[] 'g';simpa [pickOrder] using this
section
variable{M:Model}{A:Around}{E:Value->Shared->Prop}{s:Shared}
def qc3o{src:Source}{n:Nat}{Q:Nat->Shared->Prop}(hn:n ≠ 0)(h:∀ i d,i < n->Q i { s with drawn:=d }):wpAny M A (choose src n) Q E s:=
 fun Γ p hΓ=>⟨hn,h _ _ (Nat.mod_lt _ (Nat.pos_of_ne_zero hn))⟩
def qc8e{α:Type}:∀ (n:Nat) (l:List α) (s:Shared) {Q:List α->Shared->Prop},l.length=n->(∀ o d,o.Perm l->Q o { s with drawn:=d })->wpAny M A (drawOrder n l) Q E s:=by
 intro n;induction n with
 | zero =>
  intro l s Q hl h;have e:l=[]:=eq_nil_of_length_eq_zero hl;subst e;unfold drawOrder;exact wpAny_pure (h [] s.drawn (List.Perm.refl _))
 | succ n ih =>
  intro l s Q hl h;cases l with
  | nil=>cases hl
  | cons a r =>
   unfold drawOrder;refine wpAny_bind (qc3o 'g' fun i d hi=>?_);have he:(a :: r)[i]? = some (a :: r)[i]:=getElem?_eq_getElem hi;rw [he];refine wpAny_bind (ih _ _ (by rw [List.length_eraseIdx_of_lt hi];omega) fun o d' hp=>?_);exact wpAny_pure (h _ d' ((List.Perm.cons _ hp).trans (qb2o he)))
end
abbrev itO(first:Value)(i:Nat)(S:Addr)(n ep:Nat):Obj:={ cls:=.type "set_iterator",dict:=none,data:=.fields #[first,rawInt ((i:Nat):Int),.ref S,rawInt ((n:Nat):Int),rawInt ((ep:Nat):Int)],slots:=#[] }
def slot_next:Slot "set_iterator" "__next__" "set_iterator.__next__":=
 .of (n:="__next__") (owner:="set_iterator") (by rw [typeLookup_type,builtinLookup_eq_fast];kernel_rfl) 'k' 'k' 'k' (by first | exact .inl 'k' | exact .inr 'k') (by rw [isSubtype_type];kernel_rfl)
def entry_next:entryFor table "set_iterator.__next__" = some Builtin.«set_iterator.__next__»:=entryFor_of_tree (by kernel_rfl)
def args_next(a:Value):argsOk "set_iterator.__next__" ⟨[a],[]⟩:=by unfold argsOk;kernel_rfl
def qb6b:Slot "set_iterator" "__iter__" "set_iterator.__iter__":=
 .of (n:="__iter__") (owner:="set_iterator") (by rw [typeLookup_type,builtinLookup_eq_fast];kernel_rfl) 'k' 'k' 'k' (by first | exact .inl 'k' | exact .inr 'k') (by rw [isSubtype_type];kernel_rfl)
def qc3p:entryFor table "set_iterator.__iter__" = some Builtin.«dict_keyiterator.__iter__»:=
 entryFor_alias (id':="dict_keyiterator.__iter__") (by kernel_rfl) rfl 'k' (by kernel_rfl)
def qc5s(a:Value):argsOk "set_iterator.__iter__" ⟨[a],[]⟩:=by unfold argsOk;kernel_rfl
def qb7k:entryFor table "set.__iter__" = some Builtin.«frozenset.__iter__»:=
 entryFor_alias (id':="frozenset.__iter__") (by kernel_rfl) rfl 'k' (by kernel_rfl)
section
variable{prog:Program}{w:World}{A:Around}{E:Value->Shared->Prop}{s:Shared}{I S:Addr}{es:Array 'r'}{ep i n:Nat}{t:SetTable}{first:Value}
def qa7h{Q:Bool->Shared->Prop} (h:Q (w.params.followText "set-order") s):wpAny (model prog w) A setsByText Q E s:=wpAny_bind (wpAny_askSetting (wpAny_pure h))
def qb3h(ho:s.heap.get? S=some (setO es ep t))(hf:t.fits es.size=true) (hb:w.params.followText "set-order" = true) {slot:Nat} {Q:Option (Value × Nat)->Shared->Prop} (h:Q (((pickOrder (w.params.setOrder S ep) es)[i]?).map fun e=>(e.2,slot)) s):wpAny (model prog w) A (setNext S slot i ep) Q E s:=by
 unfold setNext;refine wpAny_bind (wpAny_setState_of ho rfl hf ?_)
 dsimp only
 refine wpAny_bind (qa7h ?_);rw [hb,if_pos rfl];rw [if_neg (show ¬ ((ep != ep)=true) by simp)];refine wpAny_bind ?_;unfold setWalk;refine wpAny_bind (wpAny_setState_of ho rfl hf ?_)
 dsimp only
 refine wpAny_bind (qa7h ?_);rw [hb,if_pos rfl];exact wpAny_bind (wpAny_askSetting (wpAny_pure (wpAny_pure h)))
def qb2c(ho:s.heap.get? S=some (setO es ep t))(hf:t.fits es.size=true) (hb:w.params.followText "set-order" = false) (hl:t.led=true) (hd:(!t.plain && decide (es.size > 1))=false) {slot:Nat} {Q:Option (Value × Nat)->Shared->Prop} (h:Q (match es[SetTable.below t.place slot]?,t.place[SetTable.below t.place slot]? with | some (_,x),some j=>some (x,j + 1) | _,_=>none) s):wpAny (model prog w) A (setNext S slot i ep) Q E s:=by
 unfold setNext;refine wpAny_bind (wpAny_setState_of ho rfl hf ?_)
 dsimp only
 refine wpAny_bind (qa7h ?_);rw [hb,if_neg Bool.false_ne_true];split
 ·rename_i q
  have q':(!t.plain && decide (es.size > 1))=true:=q;rw [hd] at q';cases q'
 ·refine wpAny_bind ?_
  show wpAny _ _ (if (!t.led && !es.isEmpty)=true then _ else _) _ _ _;rw [if_neg (by rw [hl];simp)];exact wpAny_pure (wpAny_pure h)
def qb7l{f nx:Nat}{x:Value}{Q:Option Value->Shared->Prop}(hi:s.heap.get? I=some (itO (rawInt ((f:Nat):Int)) i S es.size ep))(ho:s.heap.get? S=some (setO es ep t))(hf:t.fits es.size=true)
  (hN:∀ {A':Around} {E':Value->Shared->Prop} {Q':Option (Value × Nat)->Shared->Prop},Q' (some (x,nx)) s->wpAny (model prog w) A' (setNext S f i ep) Q' E' s)
  (hQ:∀ h',h'.get? I=some (itO (rawInt ((nx:Nat):Int)) (i + 1) S es.size ep)->Heap.SameBut I s.heap h'->Q (some x) { s with heap:=h' }):wpAny (model prog w) A (pyNext (.ref I)) Q E s:=by
 have ty:s.TypeIs (.ref I) "set_iterator":=⟨_,hi,rfl⟩;unfold pyNext;refine wpAny_bind (wpAny_attempt (wpAny_callSpecial?_slot (name:=Str.ofString "__next__") ty slot_next (wpAny_call_entry slot_next ty entry_next ?_ (args_next _))));unfold Builtin.«set_iterator.__next__»;refine wpAny_bind (m:=slotArgs _ _ _) (wpAny_pure (wpAny_bind (wpAny_fieldsOf hi rfl ?_)));show wpAny _ _ (setEntries S >>= _) _ _ s;refine wpAny_bind (wpAny_setEntries_of ho rfl hf ?_);rw [if_neg (show ¬ ((((es.size:Nat):Int) != ((es.size:Nat):Int))=true) by simp)];show wpAny _ _ (setNext S (Int.toNat ((f:Nat):Int)) (Int.toNat ((i:Nat):Int)) (Int.toNat ((ep:Nat):Int)) >>= _) _ _ s;rw [toNat_natCast,toNat_natCast,toNat_natCast];refine wpAny_bind (hN ?_);refine wpAny_bind (wpAny_setField_rec hi 'g' fun h1 e1 s1=>?_);refine wpAny_bind (wpAny_setField_rec e1 'g' fun h2 e2 s2=>?_);refine wpAny_pure ⟨_,rfl,wpAny_pure (hQ h2 ?_ (s1.trans s2))⟩;rw [e2];simp [rawInt]
def qb7m{f:Nat}{Q:Option Value->Shared->Prop}(hh:A.handled=none)(hi:s.heap.get? I=some (itO (rawInt ((f:Nat):Int)) i S es.size ep))(ho:s.heap.get? S=some (setO es ep t))(hf:t.fits es.size=true)
  (hN:∀ {A':Around} {E':Value->Shared->Prop} {Q':Option (Value × Nat)->Shared->Prop},Q' none s->wpAny (model prog w) A' (setNext S f i ep) Q' E' s)
  (hQ:∀ h',Heap.ExtBut I s.heap h'->Q none { s with heap:=h' }):wpAny (model prog w) A (pyNext (.ref I)) Q E s:=by
 have ty:s.TypeIs (.ref I) "set_iterator":=⟨_,hi,rfl⟩;unfold pyNext;refine wpAny_bind (wpAny_attempt (wpAny_callSpecial?_slot (name:=Str.ofString "__next__") ty slot_next (wpAny_call_entry slot_next ty entry_next ?_ (args_next _))));unfold Builtin.«set_iterator.__next__»;refine wpAny_bind (m:=slotArgs _ _ _) (wpAny_pure (wpAny_bind (wpAny_fieldsOf hi rfl ?_)));show wpAny _ _ (setEntries S >>= _) _ _ s;refine wpAny_bind (wpAny_setEntries_of ho rfl hf ?_);rw [if_neg (show ¬ ((((es.size:Nat):Int) != ((es.size:Nat):Int))=true) by simp)];show wpAny _ _ (setNext S (Int.toNat ((f:Nat):Int)) (Int.toNat ((i:Nat):Int)) (Int.toNat ((ep:Nat):Int)) >>= _) _ _ s;rw [toNat_natCast,toNat_natCast,toNat_natCast];refine wpAny_bind (hN ?_);refine wpAny_bind (wpAny_setField hi rfl 'g' ?_);show wpAny _ _ (newExc (.type "StopIteration") [] >>= _) _ _ _;refine wpAny_bind ?_;simp only [newTuple,newExc];refine wpAny_bind (wpAny_newObj_type (wpAny_bind (m:=firstArgMember _ _) (wpAny_of_eq (a:=Value.none) (by first | rfl | (simp only [firstArgMember];rfl)) ?_)) (by size_fits));refine wpAny_newObj_type ?_ (by size_fits);simp only [raiseNew];refine wpAny_bind (wpAny_handled ?_);rw [show A.in1.handled=none from hh];refine wpAny_bind (wpAny_pure (wpAny_throw ?_));refine wpAny_bind (wpAny_isInstance (T:="StopIteration") (b:=true) ⟨_,get?_push_size _ rfl,rfl⟩ isSubtype_stop ?_);exact wpAny_pure (hQ _ (((Heap.SameBut.update ..).extBut.push _).push _))
def qc3q{P:Addr}{order:List Nat}{j c:Nat}{x:Value}{hx:Int}{Q:Option Value->Shared->Prop}(hi:s.heap.get? I=some (itO (.ref P) i S es.size ep)) (hP:s.heap.get? P=some ⟨.type "tuple",none,.seq (order.map fun(k:Nat)=>rawInt k).toArray c,#[]⟩) (ho:s.heap.get? S=some (setO es ep t)) (hf:t.fits es.size=true)
  (hj:order[i]? = some j) (he:es[j]? = some (hx,x))
  (hQ:∀ h',h'.get? I=some (itO (.ref P) (i + 1) S es.size ep)->Heap.SameBut I s.heap h'->Q (some x) { s with heap:=h' }):wpAny (model prog w) A (pyNext (.ref I)) Q E s:=by
 have ty:s.TypeIs (.ref I) "set_iterator":=⟨_,hi,rfl⟩;unfold pyNext;refine wpAny_bind (wpAny_attempt (wpAny_callSpecial?_slot (name:=Str.ofString "__next__") ty slot_next (wpAny_call_entry slot_next ty entry_next ?_ (args_next _))));unfold Builtin.«set_iterator.__next__»;refine wpAny_bind (m:=slotArgs _ _ _) (wpAny_pure (wpAny_bind (wpAny_fieldsOf hi rfl ?_)));show wpAny _ _ (setEntries S >>= _) _ _ s;refine wpAny_bind (wpAny_setEntries_of ho rfl hf ?_);rw [if_neg (show ¬ ((((es.size:Nat):Int) != ((es.size:Nat):Int))=true) by simp)];show wpAny _ _ (seqItems? (.ref P) >>= _) _ _ s;refine wpAny_bind (wpAny_seqItems hP rfl ?_);show wpAny _ _ (match (order.map fun(k:Nat)=>rawInt k).toArray[Int.toNat ((i:Nat):Int)]? with | some (.int place _)=>_ | some _=>_ | none=>_) _ _ s;rw [toNat_natCast,getElem?_toArray,getElem?_map,hj];show wpAny _ _ (setNextDrawn S (Int.toNat ((j:Nat):Int)) (Int.toNat ((ep:Nat):Int)) >>= _) _ _ s;rw [toNat_natCast,toNat_natCast];unfold setNextDrawn;refine wpAny_bind (wpAny_bind (wpAny_setState_of ho rfl hf ?_))
 dsimp only
 rw [if_neg (show ¬ ((ep != ep)=true) by simp),he];refine wpAny_pure (wpAny_bind (wpAny_setField_rec hi 'g' fun h2 e2 s2=>?_));refine wpAny_pure ⟨_,rfl,wpAny_pure (hQ h2 ?_ s2)⟩;rw [e2];simp [rawInt]
def qc3r{P:Addr}{order:List Nat}{c:Nat}{Q:Option Value->Shared->Prop}(hh:A.handled=none)(hi:s.heap.get? I=some (itO (.ref P) i S es.size ep)) (hP:s.heap.get? P=some ⟨.type "tuple",none,.seq (order.map fun(k:Nat)=>rawInt k).toArray c,#[]⟩) (ho:s.heap.get? S=some (setO es ep t)) (hf:t.fits es.size=true)
  (hj:order[i]? = none)
  (hQ:∀ h',Heap.ExtBut I s.heap h'->Q none { s with heap:=h' }):wpAny (model prog w) A (pyNext (.ref I)) Q E s:=by
 have ty:s.TypeIs (.ref I) "set_iterator":=⟨_,hi,rfl⟩;unfold pyNext;refine wpAny_bind (wpAny_attempt (wpAny_callSpecial?_slot (name:=Str.ofString "__next__") ty slot_next (wpAny_call_entry slot_next ty entry_next ?_ (args_next _))));unfold Builtin.«set_iterator.__next__»;refine wpAny_bind (m:=slotArgs _ _ _) (wpAny_pure (wpAny_bind (wpAny_fieldsOf hi rfl ?_)));show wpAny _ _ (setEntries S >>= _) _ _ s;refine wpAny_bind (wpAny_setEntries_of ho rfl hf ?_);rw [if_neg (show ¬ ((((es.size:Nat):Int) != ((es.size:Nat):Int))=true) by simp)];show wpAny _ _ (seqItems? (.ref P) >>= _) _ _ s;refine wpAny_bind (wpAny_seqItems hP rfl ?_);show wpAny _ _ (match (order.map fun(k:Nat)=>rawInt k).toArray[Int.toNat ((i:Nat):Int)]? with | some (.int place _)=>_ | some _=>_ | none=>_) _ _ s;rw [toNat_natCast,getElem?_toArray,getElem?_map,hj];refine wpAny_bind (wpAny_setField_rec hi 'g' fun h1 e1 s1=>?_);refine wpAny_bind (wpAny_setField e1 rfl 'g' ?_);show wpAny _ _ (newExc (.type "StopIteration") [] >>= _) _ _ _;refine wpAny_bind ?_;simp only [newTuple,newExc];refine wpAny_bind (wpAny_newObj_type (wpAny_bind (m:=firstArgMember _ _) (wpAny_of_eq (a:=Value.none) (by first | rfl | (simp only [firstArgMember];rfl)) ?_)) (by size_fits));refine wpAny_newObj_type ?_ (by size_fits);simp only [raiseNew];refine wpAny_bind (wpAny_handled ?_);rw [show A.in1.handled=none from hh];refine wpAny_bind (wpAny_pure (wpAny_throw ?_));refine wpAny_bind (wpAny_isInstance (T:="StopIteration") (b:=true) ⟨_,get?_push_size _ rfl,rfl⟩ isSubtype_stop ?_);exact wpAny_pure (hQ _ (((s1.trans (Heap.SameBut.update ..)).extBut.push _).push _))
def qb2p{Q:Value->Shared->Prop}(hi:s.heap.get? I=some (itO first i S n ep))(h:Q (.ref I) s):wpAny (model prog w) A (pyIter (.ref I)) Q E s:=by
 have ty:s.TypeIs (.ref I) "set_iterator":=⟨_,hi,rfl⟩;refine wpAny_pyIter_slot ty qb6b (wpAny_call_entry qb6b ty qc3p ?_ (qc5s _));show wpAny _ _ (ret (.ref I)) _ _ s;exact wpAny_pure ⟨_,rfl,"set_iterator",_,ty,slot_next.lookup,h⟩
end
end Sx
end
section
namespace Sx
open PySem
noncomputable def slotAt(pl:Array Nat):Nat->Nat
 | 0=>0
 | i + 1=>pl.getD i 0 + 1
def qb3i{pl:Array Nat}(up:Up pl){i:Nat}(h:i <= pl.size):SetTable.below pl (slotAt pl i)=i:=by
 cases i with
 | zero=>exact qc3j up
 | succ i =>
  have hi:i < pl.size:=by omega
  show SetTable.below pl (pl.getD i 0 + 1)=i + 1;rw [getD_eq_getD_getElem?,Array.getElem?_eq_getElem hi];exact qc3i up hi
section
variable{prog:Program}{w:World}{A:Around}{I S:Addr}{es:Array 'r'}{ep:Nat}{t:SetTable}
def w_text(hh:A.handled=none)(hne:S ≠ I)(hf:t.fits es.size=true) (hb:w.params.followText "set-order" = true) :
  Walks prog w A I [I,S] [I] es.size (fun i v=>((pickOrder (w.params.setOrder S ep) es).toList.map (·.2))[i]? = some v) (fun i h=>h.get? I=some (itO (rawInt (((0:Nat):Nat):Int)) i S es.size ep)/\h.get? S=some (setO es ep t)):=by
 have sz:(pickOrder (w.params.setOrder S ep) es).size=es.size:=by rw [← length_toList,(qb0y _ es).length_eq,length_toList]
 refine⟨fun b hb=>by simp at hb;simp [hb],fun i h h' st k=>⟨k I 'g' _ st.1,k S 'g' _ st.2⟩,fun i s Q E hi st hQ=>?_,fun s Q E st hQ=>?_,fun i s Q E st hQ=>qb2p st.1 hQ⟩
 ·have hlt:i < (pickOrder (w.params.setOrder S ep) es).size:=by omega
  refine qb7l (nx:=0) (x:=((pickOrder (w.params.setOrder S ep) es)[i]).2) st.1 st.2 hf (fun{A' E' Q'} q=>qb3h st.2 hf hb (by rw [Array.getElem?_eq_getElem hlt];exact q)) fun h' j1 j2=>?_;exact hQ _ h' s.toks (by rw [getElem?_map,getElem?_toList,Array.getElem?_eq_getElem hlt];rfl) ⟨j1,j2.extBut _ _ hne st.2⟩ fun b o hb e=>j2.extBut b o (fun h=>hb (by simp [h])) e
 ·refine qb7m hh st.1 st.2 hf (fun{A' E' Q'} q=>qb3h st.2 hf hb (by rw [getElem?_eq_none 'o'];exact q)) fun h' j=>?_
  exact hQ h' s.toks fun b o hb e=>j b o (fun h=>hb (by simp [h])) e
def w_place(hh:A.handled=none)(hne:S ≠ I)(hf:t.fits es.size=true)(ok:TOk t) (hb:w.params.followText "set-order" = false) (hl:t.led=true) (hd:(!t.plain && decide (es.size > 1))=false) :
  Walks prog w A I [I,S] [I] es.size (fun i v=>(es.toList.map (·.2))[i]? = some v) (fun i h=>h.get? I=some (itO (rawInt ((slotAt t.place i:Nat):Int)) i S es.size ep)/\h.get? S=some (setO es ep t)):=by
 have sz:t.place.size=es.size:=by
  unfold SetTable.fits at hf;simp at hf;exact hf.1
 have up:=up_of ok.up;refine⟨fun b hb=>by simp at hb;simp [hb],fun i h h' st k=>⟨k I 'g' _ st.1,k S 'g' _ st.2⟩,fun i s Q E hi st hQ=>?_,fun s Q E st hQ=>?_,fun i s Q E st hQ=>qb2p st.1 hQ⟩
 ·have hp:i < t.place.size:=by omega
  refine qb7l (nx:=slotAt t.place (i + 1)) (x:=(es[i]).2) st.1 st.2 hf (fun{A' E' Q'} q=>qb2c st.2 hf hb hl hd ?_) fun h' j1 j2=>?_
  ·rw [qb3i up 'o',Array.getElem?_eq_getElem hi,Array.getElem?_eq_getElem hp]
   have e:slotAt t.place (i + 1)=t.place[i] + 1:=by
    show t.place.getD i 0 + 1=_;rw [getD_eq_getD_getElem?,Array.getElem?_eq_getElem hp];rfl
   rw [e] at q;exact q
  ·exact hQ _ h' s.toks (by rw [getElem?_map,getElem?_toList,Array.getElem?_eq_getElem hi];rfl) ⟨j1,j2.extBut _ _ hne st.2⟩ fun b o hb e=>j2.extBut b o (fun h=>hb (by simp [h])) e
 ·refine qb7m hh st.1 st.2 hf (fun{A' E' Q'} q=>qb2c st.2 hf hb hl hd ?_) fun h' j=>?_
  ·rw [qb3i up 'o',getElem?_eq_none 'o']
   exact q
  ·exact hQ h' s.toks fun b o hb e=>j b o (fun h=>hb (by simp [h])) e
noncomputable def valAt(es:Array 'r')(k:Nat):Value:=((es[k]?).map (·.2)).getD .none
def qc3s(es:Array 'r'):(List.range es.size).map (valAt es)=es.toList.map (·.2):=by
 apply List.ext_getElem
 ·simp
 ·intro i h1 h2
  simp at h1
  simp [valAt,h1]
def w_drawn{P:Addr}{order:List Nat}{c:Nat}(hh:A.handled=none)(hne:S ≠ I)(hnP:P ≠ I)(hf:t.fits es.size=true)(ho:order.Perm (List.range es.size)) :
  Walks prog w A I [I,S,P] [I] es.size (fun i v=>(order.map (valAt es))[i]? = some v) (fun i h=>h.get? I=some (itO (.ref P) i S es.size ep)/\h.get? S=some (setO es ep t)/\h.get? P=some ⟨.type "tuple",none,.seq (order.map fun(k:Nat)=>rawInt k).toArray c,#[]⟩):=by
 have sz:order.length=es.size:=by rw [ho.length_eq,length_range]
 refine⟨fun b hb=>by simp at hb;simp [hb],fun i h h' st k=>⟨k I 'g' _ st.1,k S 'g' _ st.2.1,k P 'g' _ st.2.2⟩,fun i s Q E hi st hQ=>?_,fun s Q E st hQ=>?_,fun i s Q E st hQ=>qb2p st.1 hQ⟩
 ·have hp:i < order.length:=by omega
  have hj:order[i] < es.size:=by
   have:=ho.mem_iff.mp (getElem_mem hp);simpa using this
  refine qc3q (j:=order[i]) (hx:=(es[order[i]]).1) (x:=(es[order[i]]).2) st.1 st.2.2 st.2.1 hf (getElem?_eq_getElem hp) (Array.getElem?_eq_getElem hj) fun h' j1 j2=>?_;refine hQ _ h' s.toks ?_ ⟨j1,j2.extBut _ _ hne st.2.1,j2.extBut _ _ hnP st.2.2⟩ fun b o hb e=>j2.extBut b o (fun h=>hb (by simp [h])) e;rw [getElem?_map,getElem?_eq_getElem hp];simp [valAt,hj]
 ·refine qc3r hh st.1 st.2.2 st.2.1 hf (List.getElem?_eq_none 'o') fun h' j=>?_
  exact hQ h' s.toks fun b o hb e=>j b o (fun h=>hb (by simp [h])) e
end
section
variable{prog:Program}{w:World}{A:Around}{E:Value->Shared->Prop}{s:Shared}{S:Addr}{es:Array 'r'}{ep:Nat}{t:SetTable}
def qc8f(ho:s.heap.get? S=some (setO es ep t))(hf:t.fits es.size=true)(ok:TOk t) (hl:t.led = !w.params.followText "set-order") (hz:es.size <= 4096) {Q:Value->Shared->Prop}
  (h:∀ (s':Shared) (I:Addr) (fp:List Addr) (out:List Value) (St:Nat->Heap->Prop),out.Perm (es.toList.map (·.2))->out.length=es.size->I ∈ fp->(∀ b ∈ fp,b=S ∨ s.heap.objs.size <= b)->(∀ b ∈ fp,b < s'.heap.objs.size)->s.heap.objs.size <= I ->
   (∀ A':Around,A'.handled=none->Walks prog w A' I fp [I] es.size (fun i v=>out[i]? = some v) St)->St 0 s'.heap->(∀ b o,s.heap.get? b=some o->s'.heap.get? b=some o)->s'.gens=s.gens->s'.os=s.os->s'.toks=s.toks->Q (.ref I) s') :
  wpAny (model prog w) A (pyIter (.ref S)) Q E s:=by
 have ty:s.TypeIs (.ref S) "set":=⟨_,ho,rfl⟩;have hlt:=lt_size ho;refine wpAny_pyIter_slot ty F.slot_set_iter (wpAny_call_entry F.slot_set_iter ty qb7k ?_ (F.args_set_iter_1 _));unfold Builtin.«frozenset.__iter__»;refine wpAny_bind (m:=Builtin.Frozenset.slot0 _ _) (wpAny_pure (wpAny_bind (m:=Builtin.Frozenset.sizeOf S) (wpAny_bind (wpAny_setEntries_of ho rfl hf (wpAny_pure ?_)))));refine wpAny_bind (m:=setDrawn S) ?_;unfold setDrawn;refine wpAny_bind (wpAny_setState_of ho rfl hf ?_);refine wpAny_bind (qa7h ?_);show wpAny _ _ (pure (!w.params.followText "set-order" && (!t.plain && decide (es.size > 1)))) _ _ _;refine wpAny_pure ?_;have hne:S ≠ s.heap.objs.size:=ne_of_lt hlt;cases hb:w.params.followText "set-order" with
 | true =>
  rw [if_neg 'g'];refine wpAny_bind (wpAny_pure (wpAny_bind (wpAny_setEpoch_of ho rfl hf ?_)));refine wpAny_bind (wpAny_newObj_type (wpAny_pure ⟨_,rfl,"set_iterator",_,⟨_,get?_push_size _ rfl,rfl⟩,slot_next.lookup,?_⟩));refine h _ s.heap.objs.size [s.heap.objs.size,S] _ _ ((qb0y (w.params.setOrder S ep) es).map (·.2)) (by rw [length_map,(qb0y _ es).length_eq,length_toList]) 'g' (fun b hb=>?_) (fun b hb=>?_) 'e' (fun A' hA=>w_text hA hne hf hb) ⟨get?_push_size _ rfl,get?_push_of_some _ ho⟩ (fun b o e=>get?_push_of_some _ e) rfl rfl rfl
  ·simp at hb;rcases hb with rfl | rfl
   ·exact .inr 'e'
   ·exact .inl rfl
  ·show b < (s.heap.push _).objs.size
   rw [size_push];simp at hb;rcases hb with rfl | rfl
   ·exact lt_succ_self _
   ·exact lt_succ_of_lt hlt
 | false =>
  cases hd:(!t.plain && decide (es.size > 1)) with
  | false =>
   rw [if_neg 'g'];refine wpAny_bind (wpAny_pure (wpAny_bind (wpAny_setEpoch_of ho rfl hf ?_)));refine wpAny_bind (wpAny_newObj_type (wpAny_pure ⟨_,rfl,"set_iterator",_,⟨_,get?_push_size _ rfl,rfl⟩,slot_next.lookup,?_⟩));refine h _ s.heap.objs.size [s.heap.objs.size,S] _ _ (List.Perm.refl _) 'g' 'g' (fun b hb=>?_) (fun b hb=>?_) 'e' (fun A' hA=>w_place hA hne hf ok hb (by rw [hl,hb];rfl) hd) ⟨get?_push_size _ rfl,get?_push_of_some _ ho⟩ (fun b o e=>get?_push_of_some _ e) rfl rfl rfl
   ·simp at hb;rcases hb with rfl | rfl
    ·exact .inr 'e'
    ·exact .inl rfl
   ·show b < (s.heap.push _).objs.size
    rw [size_push];simp at hb;rcases hb with rfl | rfl
    ·exact lt_succ_self _
    ·exact lt_succ_of_lt hlt
  | true =>
   rw [if_pos 'g'];refine wpAny_bind (qc8e _ _ _ length_range fun o d hp=>wpAny_bind (wpAny_newTuple ?_ (by
    rw [length_map,hp.length_eq,length_range];exact le_trans hz 'd')))
   refine wpAny_bind (wpAny_setEpoch_of (get?_push_of_some _ ho) rfl hf ?_);refine wpAny_bind (wpAny_newObj_type (wpAny_pure ⟨_,rfl,"set_iterator",_,⟨_,get?_push_size _ rfl,rfl⟩,slot_next.lookup,?_⟩));have e1:∀ ob:Obj,(s.heap.push ob).objs.size=s.heap.objs.size + 1:=fun ob=>size_push ..;show Q (.ref (s.heap.push _).objs.size) _;rw [e1];refine h _ (s.heap.objs.size + 1) [s.heap.objs.size + 1,S,s.heap.objs.size] (o.map (valAt es)) _ ((hp.map _).trans (by rw [qc3s])) (by rw [length_map,hp.length_eq,length_range]) 'g' (fun b hb=>?_) (fun b hb=>?_) (le_succ _) (fun A' hA=>w_drawn hA (ne_of_lt (lt_succ_of_lt hlt)) (ne_of_lt (lt_succ_self _)) hf hp) ⟨by rw [← e1];exact get?_push_size _ rfl,get?_push_of_some _ (get?_push_of_some _ ho),get?_push_of_some _ (get?_push_size _ rfl)⟩ (fun b o e=>get?_push_of_some _ (get?_push_of_some _ e)) rfl rfl rfl
   ·simp at hb;rcases hb with rfl | rfl | rfl
    ·exact .inr (le_succ _)
    ·exact .inl rfl
    ·exact .inr 'e'
   ·show b < ((s.heap.push _).push _).objs.size
    rw [size_push,e1];simp at hb;rcases hb with rfl | rfl | rfl
    ·exact lt_succ_self _
    ·exact lt_succ_of_lt (lt_succ_of_lt hlt)
    ·exact lt_succ_of_lt (lt_succ_self _)
end
end Sx
end
section
namespace Sx
open PySem
section
variable{prog:Program}{w:World}{A:Around}{E:Value->Shared->Prop}{s:Shared}{S:Addr}{es:Array 'r'}{ep:Nat}{t:SetTable}
abbrev nilO:Obj:={ cls:=.type "list",data:=.seq ([]:List Value).toArray }
def qc5t(hh:A.handled=none)(ho:s.heap.get? S=some (setO es ep t))(hf:t.fits es.size=true)(ok:TOk t) (hl:t.led = !w.params.followText "set-order") (hz:es.size <= 4096) {Q:List Value->Shared->Prop}
  (h:∀ (s':Shared) (out:List Value),out.Perm (es.toList.map (·.2))->(∀ b o,s.heap.get? b=some o->s'.heap.get? b=some o)->s'.gens=s.gens->s'.os=s.os->Q out s') :
  wpAny (model prog w) A (collect (.ref S)) Q E s:=by
 unfold collect;refine wpAny_bind (wpAny_runValue (codeAny_builtin F.entry_proto_collect ?_));rw [Around.under_plainId F.plain_proto_collect _];show wpAny _ A.in1 (newList [] >>= fun l=>again (.builtin "list.__iadd__" ⟨[l,.ref S],[]⟩)) _ _ s;refine wpAny_bind (wpAny_newObj_type (wpAny_pure ⟨plainId_quiet F.plain_list_iadd _,codeAny_builtin F.entry_list_iadd ?_⟩));rw [Around.under_plainId F.plain_list_iadd _];show wpAny _ A.in1 (Builtin.List.listExtendWith (.ref s.heap.objs.size) (.ref S) (.ref s.heap.objs.size)) _ _ { s with heap:=s.heap.push nilO };unfold Builtin.List.listExtendWith;have hlt:=lt_size ho;have ho1:(s.heap.push nilO).get? S=some (setO es ep t):=get?_push_of_some _ ho;have hL1:(s.heap.push nilO).get? s.heap.objs.size=some nilO:=get?_push_size _ rfl;have z1:(s.heap.push nilO).objs.size=s.heap.objs.size + 1:=size_push ..;have h1:Builtin.List.listSameRef (.ref s.heap.objs.size) (.ref S)=false:=by simp [Builtin.List.listSameRef,ne_of_gt hlt]
 refine wpAny_bind (wpAny_typeOf (T:="set") ⟨_,ho1,rfl⟩ ?_);rw [if_neg (by rw [h1];decide)];refine wpAny_bind (qc8f ho1 hf ok hl hz fun s' I fp out St op ol hI f1 f2 f3 W st kp eg eo et=>?_);have ho2:=kp _ _ ho1;have hL2:=kp _ _ hL1;have hS:s'.TypeIs (.ref S) "set":=⟨_,ho2,rfl⟩;refine wpAny_bind (wpAny_holding ?_);unfold Builtin.List.listLengthHint;refine wpAny_bind (wpAny_specialOf hS F.slot_set_len.lookup ?_)
 wp_delta
 refine wpAny_bind (wpAny_isInstance (b:=true) hS sub_set_self ?_);show wpAny _ A.in1 (typeOf (Value.ref S) >>= _) _ _ _;refine wpAny_bind (wpAny_typeOf hS (wpAny_pure ?_));show wpAny _ A.in1 (rule "list.extend.makes-room" >>= fun _=>Builtin.List.listTouch (.ref s.heap.objs.size) >>= fun _=>again (.builtin "list.extend.loop" ⟨[.ref s.heap.objs.size,.ref I,.ref s.heap.objs.size],[]⟩)) _ _ _;refine wpAny_bind (wpAny_rule (wpAny_bind ?_));show wpAny _ A.in1 (updateSeq s.heap.objs.size (·.push .none) >>= fun _=>updateSeq s.heap.objs.size (·.pop)) _ _ s';refine wpAny_bind (wpAny_updateSeq hL2 rfl ?_);have hL3:=get?_update_self (Obj.mapSeq (·.push Value.none)) hL2 rfl;refine wpAny_updateSeq hL3 rfl ?_;have hL4:=get?_update_self (Obj.mapSeq (·.pop)) hL3 rfl;have nf:s.heap.objs.size ∉ fp:=fun hm=>by
  rcases f1 _ hm with q | q
  ·exact ne_of_gt hlt q
  ·rw [z1] at q;exact absurd q (Nat.not_succ_le_self _)
 have oth:∀ b o,b ≠ s.heap.objs.size->s'.heap.get? b=some o->((s'.heap.update s.heap.objs.size (Obj.mapSeq (·.push Value.none))).update s.heap.objs.size (Obj.mapSeq (·.pop))).get? b=some o:=
  fun b o hb e=>(Heap.get?_update_other _ _ (Ne.symm hb)).trans ((Heap.get?_update_other _ _ (Ne.symm hb)).trans e)
 have W1:=W A.in1.in1 (by simp [hh]);have Ws:=W1.toS;refine wpAny_pure ⟨plainId_quiet F.plain_extend_loop _,codeAny_extend_loopS (W A.in1 (by simp [hh])).toS (le_trans hz 'd') _ nf _ es.size 0 _ _ _ rfl (zero_le _)
  (Ws.frame 0 s' _ s'.toks st 'e' fun b hb o e=>oth b o (fun q=>nf (q ▸ hb)) e) hL4 (ItemsOf.nil _) fun s2 acc c mv hS2 hacc=>?_⟩
 show wpAny _ A (load s.heap.objs.size >>= _) _ _ s2;refine wpAny_bind (wpAny_load hS2 (wpAny_pure ?_));have eq:acc.toList=out:=by
  apply List.ext_getElem?
  intro j;by_cases hj:j < acc.size
  ·have q:=hacc.2 j acc[j] (Array.getElem?_eq_getElem hj)
   rw [getElem?_toList,Array.getElem?_eq_getElem hj];exact q.symm
  ·rw [getElem?_toList,getElem?_eq_none 'o',List.getElem?_eq_none (by have:=hacc.1;omega)]
 rw [eq];refine h s2 out op (fun b o e=>?_) (mv.gens.trans eg) (mv.os.trans eo);have hb:=lt_size e;refine mv.heap b o (fun hm=>?_) (oth b o (ne_of_lt hb) (kp _ _ (get?_push_of_some _ e)));rcases mem_cons.mp hm with q | q
 ·exact absurd hb (by rw [q];exact lt_irrefl _)
 ·rw [mem_singleton] at q
  rw [z1] at f3;exact absurd hb (by rw [q];exact not_lt.mpr (le_trans (le_succ _) f3))
end
end Sx
end
namespace L2
open PySem PySem.Spec PyProof.Rows
section
noncomputable def clOf(env:Env):List (Str × NameKind)->List (Str × Addr)->List (Str × Addr)
 | [],acc=>acc
 | (n,k) :: r,acc=>if k == .free then clOf env r ((n,(env.cells.lookup n).getD 0) :: acc) else clOf env r acc
def qa9x(env:Env)(f:Str × NameKind->List (Str × Addr)->Sem (ForInStep (List (Str × Addr)))) :
  ∀ (names:List (Str × NameKind)) (acc:List (Str × Addr)),
   (∀ y ∈ names,∀ c,f y c=if (y.2 == .free)=true then pure (.yield ((y.1,(env.cells.lookup y.1).getD 0) :: c)) else pure (.yield c)) ->
   (forIn names acc f:Sem _)=pure (clOf env names acc)
 | [],acc,_=>by rw [List.forIn_nil];rfl
 | (n,k) :: r,acc,h=>by
  rw [List.forIn_cons,h (n,k) mem_cons_self];have hr:∀ y ∈ r,∀ c,f y c=if (y.2 == .free)=true then pure (.yield ((y.1,(env.cells.lookup y.1).getD 0) :: c)) else pure (.yield c):=fun y hy=>h y (mem_cons_of_mem _ hy)
  unfold clOf;by_cases hk:(k == NameKind.free)=true
  ·rw [if_pos hk,if_pos hk,← qa9x env f r _ hr]
   all_goals rfl
  ·rw [if_neg hk,if_neg hk,← qa9x env f r _ hr]
   all_goals rfl
def qb0p{env:Env}{scope:Scope}(h:∀ y ∈ scope.names,y.2=.free->∃ c,env.cells.lookup y.1=some c) :
  closureFor scope env=pure (clOf env scope.names []):=by
 simp only [closureFor];rw [qa9x env _ scope.names [] (fun y hy c=>by
  obtain⟨n,k⟩:=y;by_cases hk:k=.free
  ·subst hk
   obtain⟨a,ha⟩:=h (n,.free) hy rfl;have e:cellOf env n=pure a:=by unfold cellOf;rw [ha]
   simp only [beq_self_eq_true,if_true,e,ha,Option.getD_some];rfl
  ·have hb:(k == NameKind.free)=false:=by simpa using hk
   simp only [hb,Bool.false_eq_true,if_false])]
 rfl
def qa5v(env:Env):∀ (names:List (Str × NameKind)) (acc:List (Str × Addr)),clOf env names acc=clOf env names [] ++ acc
 | [],acc=>rfl
 | (n,k) :: r,acc=>by
  unfold clOf;split
  ·rw [qa5v env r,qa5v env r [_],append_assoc];rfl
  ·exact qa5v env r acc
def qa5w{env:Env}:∀ {names:List (Str × NameKind)} {x:Str} {c:Addr},(x,c) ∈ clOf env names []->(x,NameKind.free) ∈ names/\c=(env.cells.lookup x).getD 0
 | [],x,c,h=>by cases h
 | (n,k) :: r,x,c,h=>by
  unfold clOf at h;split at h
  ·rename_i hk
   rw [qa5v] at h;rcases mem_append.mp h with h | h
   ·exact⟨mem_cons_of_mem _ (qa5w h).1,(qa5w h).2⟩
   ·have e:(x,c)=(n,(env.cells.lookup n).getD 0):=by simpa using h
    have hk':k=.free:=by simpa using hk
    cases e
    exact⟨by rw [hk'];exact mem_cons_self,rfl⟩
  ·exact⟨mem_cons_of_mem _ (qa5w h).1,(qa5w h).2⟩
def qb4u{env:Env}:∀ {names:List (Str × NameKind)} {x:Str},(x,NameKind.free) ∈ names->(x,(env.cells.lookup x).getD 0) ∈ clOf env names []
 | [],x,h=>by cases h
 | (n,k) :: r,x,h=>by
  unfold clOf;rcases mem_cons.mp h with e | h
  ·cases e
   rw [if_pos (by rfl),qa5v];exact mem_append_right _ 'g'
  ·split
   ·rw [qa5v];exact List.mem_append_left _ (qb4u h)
   ·exact qb4u h
def qa3p:∀ (names:List (Str × NameKind)) (n:Nat) (acc:List (Str × Addr)),cellsFrom n names acc=cellsFrom n names [] ++ acc
 | [],_,acc=>rfl
 | (x,k) :: r,n,acc=>by
  unfold cellsFrom;split
  ·rw [qa3p r,qa3p r _ [_],append_assoc];rfl
  ·exact qa3p r n acc
def qa2i:∀ {names:List (Str × NameKind)} {n:Nat} {x:Str} {c:Addr},(x,c) ∈ cellsFrom n names []->(x,NameKind.cell) ∈ names/\n <= c
 | [],n,x,c,h=>by cases h
 | (y,k) :: r,n,x,c,h=>by
  unfold cellsFrom at h;split at h
  ·rename_i hk
   rw [qa3p] at h;rcases mem_append.mp h with h | h
   ·have q:=qa2i h
    exact⟨mem_cons_of_mem _ q.1,'o'⟩
   ·have e:(x,c)=(y,n):=by simpa using h
    have hk':k=.cell:=by simpa using hk
    cases e
    exact⟨by rw [hk'];exact mem_cons_self,le_refl _⟩
  ·have q:=qa2i h
   exact⟨mem_cons_of_mem _ q.1,q.2⟩
def qa5x{α:Type}(x:Str):∀ (a b:List (Str × α)),(a ++ b).lookup x=(a.lookup x).or (b.lookup x)
 | [],b=>by simp
 | (k,v) :: r,b=>by
  rw [List.cons_append,lookup_cons,lookup_cons];cases x == k with
  | true=>rfl
  | false=>exact qa5x x r b
def lookup_mem{α:Type}:∀ {l:List (Str × α)} {x:Str} {v:α},(x,v) ∈ l->∃ u,l.lookup x=some u
 | (k,w) :: r,x,v,h=>by
  rw [lookup_cons];cases e:x == k with
  | true=>exact⟨w,rfl⟩
  | false =>
   rcases mem_cons.mp h with q | q
   ·cases q;simp at e
   ·exact lookup_mem q
def qa3z{α:Type}:∀ {l:List (Str × α)} {x:Str} {v:α},(l.map (·.1)).Nodup->(x,v) ∈ l->l.lookup x=some v
 | (k,w) :: r,x,v,hn,h=>by
  rw [lookup_cons];rw [map_cons,nodup_cons] at hn;rcases mem_cons.mp h with q | q
  ·cases q;simp
  ·have:(x == k)=false:=by
    refine beq_eq_false_iff_ne.mpr ?_;rintro rfl;exact hn.1 (mem_map.mpr ⟨(x,v),q,rfl⟩)
   rw [this];exact qa3z hn.2 q
def qa9k(env:Env)(x:Str):∀ (names:List (Str × NameKind)),
  (names.map fun(n,k)=>if (k == NameKind.free && env.scope.kind == .function && env.kindOf n == some .cell) then(n,NameKind.cell) else(n,k)).lookup x =
   (names.lookup x).map fun k=>if (k == NameKind.free && env.scope.kind == .function && env.kindOf x == some .cell) then NameKind.cell else k
 | []=>rfl
 | (n,k) :: r=>by
  rw [map_cons,lookup_cons];cases hx:x == n with
  | true =>
   have e:x=n:=by simpa using hx
   subst e;by_cases hc:(k == NameKind.free && env.scope.kind == .function && env.kindOf x == some .cell)=true
   ·simp only [if_pos hc,lookup_cons,hx,map_some]
   ·simp only [if_neg hc,lookup_cons,hx,map_some]
  | false =>
   have ih:=qa9k env x r;by_cases hc:(k == NameKind.free && env.scope.kind == .function && env.kindOf n == some .cell)=true
   ·simp only [if_pos hc,lookup_cons,hx];exact ih
   ·simp only [if_neg hc,lookup_cons,hx];exact ih
def qc0g{M:Model}{A:Around}{E:Value->Shared->Prop}{s:Shared}{scope:Scope}{globals:Addr}{cl:List (Str × Addr)}{qual:Str}{outer:Env}{Q:Env->Shared->Prop}
  (hQ:Q (newEnv scope s.heap.objs.size globals (cellsFrom (s.heap.objs.size + 1) scope.names cl) qual none .none (some outer) builtinsNs)
    { s with heap:=pushCells (s.heap.push { cls:=.type "dict",data:=.dict #[] }) scope.names }) :
  wpAny M A (newFunctionEnv scope globals cl [] qual none .none (some outer)) Q E s:=by
 simp only [newFunctionEnv,Option.isSome_some,if_true];refine wpAny_bind (wpAny_alloc ?_);refine wpAny_bind (wpAny_layCells _ (fun name kind cells=>by cases hkc:kind == NameKind.cell<;>simp [hkc]) _ _ _ _ ?_);rw [show({ s with heap:=s.heap.push { cls:=.type "dict",data:=.dict #[] } }:Shared).heap.objs.size=s.heap.objs.size + 1 from size_push ..];rw [List.forIn_nil];exact wpAny_bind (wpAny_pure (wpAny_pure hQ))
section
variable{prog:Program}{w:World}{A:Around}{R:Result->Shared->Prop}{s:Shared}
def qc0h{elt target iter:Expr}{ifs:List Expr}{scope:Scope}{pos:Pos}{it acc:Value}{env:Env}(I:Nat->Shared->Prop)
  (turn:∀ n s,I n s->wpAny (model prog w) A (pyNext it) (fun r s₁=>match r with
   | none=>R (.ok .next) s₁
   | some v=>wpAny (model prog w) A (letOwnedTupleGo target it v) (fun _ s₂'=>wpAny (model prog w) A (assign target env v) (fun _ s₂ =>
     wpAny (model prog w) A (forIn ifs true fun c r=>if r=true then do let ok ← isTrue c env (eval c env);pure (ForInStep.yield ok) else pure (ForInStep.yield r)) (fun ok s₃ =>
      if ok=true then wpAny (model prog w) A (eval elt env) (fun x s₄ =>
       wpAny (model prog w) A (call (.builtin "list.append") [acc,x]) (fun _ s₅=>∃ m,m < n/\I m s₅) (notedBy (model prog w) A env fun e s'=>R (.error e) s') s₄) (notedBy (model prog w) A env fun e s'=>R (.error e) s') s₃
      else ∃ m,m < n/\I m s₃) (notedBy (model prog w) A env fun e s'=>R (.error e) s') s₂) (notedBy (model prog w) A env fun e s'=>R (.error e) s') s₂') (notedBy (model prog w) A env fun e s'=>R (.error e) s') s₁) (notedBy (model prog w) A env fun e s'=>R (.error e) s') s)
  (n:Nat) (h:I n s) :
  codeAny (model prog w) A (.compLoop (.ListComp elt [⟨target,iter,ifs,0⟩] scope pos) 0 it acc env) R s:=by
 refine codeAny_loop rfl I (fun n s hI=>?_) n h;show wpAny _ A ((compTurn (.ListComp elt [⟨target,iter,ifs,0⟩] scope pos) 0 it acc env).onRaise (fun x=>do noteFrame x env;theTreesLotGoes x)) _ _ s;refine wpAny_noted ?_;rw [compTurn_list];refine wpAny_bind (wpAny_standAt (wpAny_bind (wpAny_mono (turn n s hI) (fun r s₁ h₁=>?_) fun _ _ h'=>h')));cases r with
 | none=>exact wpAny_pure h₁
 | some v =>
  refine wpAny_bind (wpAny_mono h₁ (fun _ s₂' h₂'=>?_) fun _ _ h'=>h');refine wpAny_bind (wpAny_mono h₂' (fun _ s₂ h₂=>wpAny_bind (wpAny_mono h₂ (fun ok s₃ h₃=>?_) fun _ _ h'=>h')) fun _ _ h'=>h');cases ok with
  | false=>exact wpAny_pure ⟨rfl,h₃⟩
  | true =>
   exact wpAny_bind (wpAny_bind (wpAny_mono h₃ (fun x s₄ h₄=>wpAny_bind (wpAny_mono h₄ (fun _ s₅ h₅=>wpAny_pure (wpAny_pure ⟨rfl,h₅⟩)) fun _ _ h'=>h')) fun _ _ h'=>h'))
end
def nlt{a b:Nat}(h:b <= a):¬ a < b:=not_lt.mpr h
noncomputable def cxC(X:Cx)(scope:Scope)(own:List Str)(cap:List 'q')(fp:List Addr)(s2:Shared)(H2:Hp):Cx where
 prog:=X.prog
 w:=X.w
 K:=X.K
 mg:=X.mg
 base:=X.base
 A:=X.A
 N:=own ++ cap.map (·.1)
 s₀:=s2
 H₀:=H2
 env:={ scope:=relabel scope X.env,locals:=s2.heap.objs.size + 1,globals:=X.env.globals,cells:=cellsFrom (s2.heap.objs.size + 1 + 1) scope.names (clOf X.env scope.names []),qual:=X.env.qual,func:=none,code:=X.env.code,frame:=X.env.frame,builtins:=X.env.builtins }
 outer:=X.stack
 stack:=X.stack
 ex:=fp
 fn:=fun x=>scope.names.lookup x == some .cell
 calm:=X.calm
 pn:=[]
 xe:=fun _ _=>False
noncomputable def qa6j(own:List Str)(cap:List 'q')(σ:St):St:=List.replicate own.length none ++ cap.map fun p=>(σ[p.2]?).join
noncomputable def qa4q(X:Cx)(scope:Scope)(own:List Str)(cap:List 'q'):Bool:=
 scope.kind == .function && (scope.names.all fun y=>y.2 != .free || X.env.kindOf y.1 == some .cell || X.env.kindOf y.1 == some .free) &&
 (cap.all fun p=>X.N[p.2]? == some p.1 && scope.names.lookup p.1 == some .free) && (own.all fun x=>!((cap.map (·.1)).contains x))
section
variable{X:Cx}{pins:List 'c'}{σ:St}{H2:Hp}{s2:Shared}{scope:Scope}{own:List Str}{cap:List 'q'}{fp:List Addr}
def qa9y(h:qa4q X scope own cap=true):scope.kind=.function:=by
 simp only [qa4q,and_eq_true,beq_iff_eq] at h;exact h.1.1.1
def qa9z(h:qa4q X scope own cap=true):∀ y ∈ scope.names,y.2=.free->X.env.kindOf y.1=some .cell ∨ X.env.kindOf y.1=some .free:=by
 simp only [qa4q,and_eq_true,beq_iff_eq] at h;intro y hy hf;have q:=all_eq_true.mp h.1.1.2 y hy;simp only [hf,bne_self_eq_false,Bool.false_or,Bool.or_eq_true,beq_iff_eq] at q;exact q
def qc5u(h:qa4q X scope own cap=true):∀ p ∈ cap,X.N[p.2]? = some p.1/\scope.names.lookup p.1=some .free:=by
 simp only [qa4q,and_eq_true,beq_iff_eq] at h;intro p hp;have q:=all_eq_true.mp h.1.2 p hp;simp only [and_eq_true,beq_iff_eq] at q;exact q
def qc8g(I:Inv X pins σ H2 s2)(hok:qa4q X scope own cap=true)(hnd:(scope.names.map (·.1)).Nodup)(hfp:∀ b ∈ fp,FpOk X pins H2 b)(hob:∀ b ∈ fp,∃ o,s2.heap.get? b=some o) :
  Inv (cxC X scope own cap fp s2 H2) [] (qa6j own cap σ) (upd H2 s2.heap.objs.size (.lst []))
   { s2 with heap:=pushCells ((s2.heap.push { cls:=.type "list",dict:=none,data:=.seq ([]:List Value).toArray }).push { cls:=.type "dict",data:=.dict #[] }) scope.names }:=by
 have hkind:=qa9y hok;have hfree:=qa9z hok;have hcap:=qc5u hok;have hdf:H2 s2.heap.objs.size=none:=I.fresh;generalize hh1:s2.heap.push { cls:=.type "list",dict:=none,data:=.seq ([]:List Value).toArray }=h1;have z1:h1.objs.size=s2.heap.objs.size + 1:=by rw [← hh1,size_push]
 generalize hh2:h1.push { cls:=.type "dict",data:=.dict #[] }=h2;have z2:h2.objs.size=s2.heap.objs.size + 1 + 1:=by rw [← hh2,size_push,z1]
 have k1:∀ b o,s2.heap.get? b=some o->h1.get? b=some o:=fun b o e=>by rw [← hh1];exact get?_push_of_some _ e
 have k2:∀ b o,h1.get? b=some o->h2.get? b=some o:=fun b o e=>by rw [← hh2];exact get?_push_of_some _ e
 have k3:∀ b o,h2.get? b=some o->(pushCells h2 scope.names).get? b=some o:=fun b o e=>pushCells_keeps _ _ b o e;have k:∀ b o,s2.heap.get? b=some o->(pushCells h2 scope.names).get? b=some o:=fun b o e=>k3 b o (k2 b o (k1 b o e));have hD:(pushCells h2 scope.names).get? s2.heap.objs.size=some { cls:=.type "list",dict:=none,data:=.seq ([]:List Value).toArray }:=by
  refine k3 _ _ (k2 _ _ ?_);rw [← hh1];exact get?_push_size _ rfl
 have hC:(pushCells h2 scope.names).Ns (s2.heap.objs.size + 1) fun _=>none:=by
  have q:h2.Ns h1.objs.size fun _=>none:=by rw [← hh2];exact Heap.Ns.new h1 (.type "dict")
  rw [z1] at q;exact q.keeps k3
 have own_ok:=cellsFrom_ok scope.names h2 (s2.heap.objs.size + 1 + 1) [] ⟨fun _ _ hm=>(nomatch hm),List.Pairwise.nil⟩ (by rw [z2];exact le_refl _);rw [z2] at own_ok;have ec:(cxC X scope own cap fp s2 H2).env.cells=cellsFrom (s2.heap.objs.size + 1 + 1) scope.names [] ++ clOf X.env scope.names []:=qa3p _ _ _
 -- an entry is a new cell, or one of the names around
 have split:∀ x c,(cxC X scope own cap fp s2 H2).env.cells.lookup x=some c->((x,c) ∈ cellsFrom (s2.heap.objs.size + 1 + 1) scope.names []) ∨ ((x,NameKind.free) ∈ scope.names/\X.env.cells.lookup x=some c):=fun x c e=>by
  rw [ec,qa5x] at e;cases e1:(cellsFrom (s2.heap.objs.size + 1 + 1) scope.names []).lookup x with
  | some c'=>rw [e1] at e;cases e;exact .inl (mem_of_lookup e1)
  | none =>
   rw [e1] at e;have e':(clOf X.env scope.names []).lookup x=some c:=e;obtain⟨m1,m2⟩:=qa5w (mem_of_lookup e');obtain⟨c',hc'⟩:=I.ok.has x (hfree _ m1 rfl);rw [hc'] at m2;exact .inr ⟨m1,by rw [hc',m2];rfl⟩
 have capCell:∀ x,(x,NameKind.free) ∈ scope.names->∀ c,X.env.cells.lookup x=some c->(cxC X scope own cap fp s2 H2).env.cells.lookup x=some c:=fun x hx c hc=>by
  rw [ec,qa5x];cases e1:(cellsFrom (s2.heap.objs.size + 1 + 1) scope.names []).lookup x with
  | some c' =>
   have q:=(qa2i (mem_of_lookup e1)).1;have q1:=qa3z hnd q;have q2:=qa3z hnd hx;rw [q1] at q2;cases q2
  | none =>
   obtain⟨u,hu⟩:=lookup_mem (qb4u (env:=X.env) hx);have m2:=(qa5w (mem_of_lookup hu)).2;rw [hc] at m2;show(clOf X.env scope.names []).lookup x=some c;rw [hu,m2];rfl
 have lt_of_around:∀ x c,X.env.cells.lookup x=some c->c < s2.heap.objs.size:=fun x c e=>by
  obtain⟨v,q⟩:=I.cell x c e;exact q.lt
 have kof:∀ x,(cxC X scope own cap fp s2 H2).env.kindOf x=(scope.names.lookup x).map fun k=>if (k == NameKind.free && X.env.scope.kind == .function && X.env.kindOf x == some .cell) then NameKind.cell else k:=fun x=>qa9k X.env x scope.names
 have fpLt:∀ b ∈ fp,b < s2.heap.objs.size:=fun b hb=>by obtain⟨o,e⟩:=hob b hb;exact lt_size e
 have hokH:HOk X.prog X.w (upd H2 s2.heap.objs.size (.lst [])) (pushCells h2 scope.names):=I.hok.laid k 'e' ⟨zero_le _,[],_,.nil,hD⟩;refine⟨⟨I.ok.mod,?_,I.ok.glob,I.ok.blt,le_succ _,fun x y c e1 e2=>?_,fun x hx=>?_,fun x c hf e=>?_,I.ok.hd,I.ok.frames,.inl rfl,fun b hb=>⟨?_,fun x c e=>?_⟩,I.bs,le_trans I.ok.bsz I.sz,fun b o e hb=>?_,fun b hb hb2=>?_,I.stack,I.stkFree⟩,
  rfl,I.bare,Un.laid k 'e' hdf,⟨_,hC,fun i x v e1 e2 e3=>?_⟩,fun x c e=>?_,?_,fun x c e=>?_,fun p hp=>?_,hokH,?_⟩
 ·exact hkind
 ·rcases split x c e1 with m1 | ⟨m1,q1⟩<;>rcases split y c e2 with m2 | ⟨m2,q2⟩
  ·exact name_of_addr own_ok.apart m1 m2
  ·exact absurd (lt_of_around y c q2) (nlt (by have:=(qa2i m1).2;omega))
  ·exact absurd (lt_of_around x c q1) (nlt (by have:=(qa2i m2).2;omega))
  ·exact I.ok.inj x y c q1 q2
 ·rw [kof x] at hx
  cases e1:scope.names.lookup x with
  | none=>rw [e1] at hx;rcases hx with z | z<;>cases z
  | some kx =>
   have mx:=mem_of_lookup e1;cases kx with
   | free =>
    obtain⟨c,hc⟩:=I.ok.has x (hfree _ mx rfl);exact⟨c,capCell x mx c hc⟩
   | cell =>
    have q:=PySem.W.cellsFrom_some scope.names (s2.heap.objs.size + 1 + 1) (clOf X.env scope.names []) (x:=x) (.inl e1);exact Option.isSome_iff_exists.mp q
   | _=>rw [e1] at hx;rcases hx with z | z<;>simp at z
 ·rcases split x c e with m1 | ⟨m1,q1⟩
  ·have:=(qa2i m1).2;show s2.heap.objs.size <= c;omega
  ·have q2:=qa3z hnd m1
   have hf':(scope.names.lookup x == some NameKind.cell)=true:=hf;rw [q2] at hf';simp at hf'
 ·exact ne_of_lt (lt_succ_of_lt (fpLt b hb))
 ·have h1:=fpLt b hb
  rcases split x c e with m1 | ⟨m1,q1⟩
  ·exact ne_of_gt (lt_of_lt_of_le h1 (by have:=(qa2i m1).2;omega))
  ·exact(hfp b hb).2.2.2.2.1 x c q1
 ·rcases (hfp b hb).2.2.2.1 with z | z
  ·exact I.ok.noex b o e z
  ·exact absurd (lt_of_lt_of_le (lt_size e) (le_trans I.ok.bsz z)) (lt_irrefl _)
 ·rcases mem_cons.mp (I.stkSub b hb2) with z | z
  ·exact(hfp b hb).2.1 z
  ·exact(hfp b hb).2.2.1 z
 ·-- names that are closed over
  have ei:own.length <= i:=by
   by_cases hi:i < own.length
   ·unfold qa6j at e2
    rw [List.getElem?_append_left (by simpa using hi),List.getElem?_replicate,if_pos hi] at e2;cases e2
   ·omega
  have e1':(cap.map (·.1))[i - own.length]? = some x:=by
   have:(own ++ cap.map (·.1))[i]? = some x:=e1
   rwa [getElem?_append_right ei] at this
  have e2':(cap.map fun p=>(σ[p.2]?).join)[i - own.length]? = some (some v):=by
   unfold qa6j at e2;rw [getElem?_append_right (by simpa using ei)] at e2;simpa using e2
  rw [getElem?_map] at e1' e2';cases ep:cap[i - own.length]? with
  | none=>rw [ep] at e1';cases e1'
  | some p =>
   rw [ep] at e1' e2';have hx:p.1=x:=by simpa using e1'
   have hv:(σ[p.2]?).join=some v:=by simpa using e2'
   have hσ:σ[p.2]? = some (some v):=by
    cases eσ:σ[p.2]? with
    | none=>rw [eσ] at hv;cases hv
    | some w'=>rw [eσ] at hv;simp at hv;rw [hv]
   obtain⟨hN,hl⟩:=hcap p (mem_of_getElem? ep);rw [hx] at hN hl;have mx:=mem_of_lookup hl;have hvis:Vis X.env.scope x:=by
    rcases hfree _ mx rfl with z | z
    ·exact .inr (.inl z)
    ·exact .inr (.inr z)
   obtain⟨m,_,hl'⟩:=I.loc;obtain⟨u,r,lk⟩:=hl' p.2 x v hN hσ hvis;refine⟨u,r,.inr ?_⟩;rcases lk with⟨z,_⟩ | ⟨z,c,hc,hcell⟩
   ·rcases hfree _ mx rfl with z' | z'<;>rw [z'] at z<;>cases z
   ·refine⟨?_,c,capCell x mx c hc,hcell.keeps k⟩
    rw [kof x,hl];by_cases hcc:(NameKind.free == NameKind.free && X.env.scope.kind == .function && X.env.kindOf x == some .cell)=true
    ·left;simp only [map_some,if_pos hcc]
    ·right;simp only [map_some,if_neg hcc]
 ·rcases split x c e with m1 | ⟨m1,q1⟩
  ·exact⟨_,(own_ok.empty x c m1).1⟩
  ·obtain⟨v,q⟩:=I.cell x c q1
   exact⟨v,q.keeps k⟩
 ·show upd H2 s2.heap.objs.size (.lst []) (s2.heap.objs.size + 1)=none
  rw [qa0f (Nat.succ_ne_self _)];exact I.hok.fresh (le_succ _)
 ·rcases split x c e with m1 | ⟨m1,q1⟩
  ·have hle:=(qa2i m1).2
   rw [qa0f (ne_of_gt (lt_of_lt_of_le (lt_succ_self _) 'o'))];exact I.hok.fresh 'o'
  ·rw [qa0f (ne_of_lt (lt_of_around x c q1))]
   exact I.freeC x c q1
 ·exact absurd (show p ∈ ([]:List 'c') from hp) 'g'
 ·unfold qa6j
  show _=(own ++ cap.map (·.1)).length;simp
end
def PIf(X:Cx)(ifs:List Expr)(t:TT):Prop:=
 ∀ (pins:List 'c') (s:Shared) (σ:St) (H:Hp) (Q:Bool->Hp->Prop),Inv X pins σ H s->t σ H Q ->
  wpAny (model X.prog X.w) X.A (forIn ifs true fun c r=>if r=true then do let ok ← isTrue c X.env (eval c X.env);pure (ForInStep.yield ok) else pure (ForInStep.yield r)) (TP X pins σ Q) X.xe s
def tYes:TT:=fun _ H Q=>Q true H
def qc1o{X:Cx}:PIf X [] tYes:=fun _ _ _ H _ I h=>wpAny_tests_nil ⟨H,I,h⟩
def pif_one{X:Cx}{c:Expr}{t:TT}(h:PT X c t):PIf X [c] t:=fun pins s σ H Q I hq=>wpAny_tests_one (h pins s σ H Q I hq)
def qb2q(own:List Str)(cap:List 'q')(g:TG)(tt:TT)(te:TE)(J:It)(D:Addr)(σ:St)(H1:Hp)(Z:Hp->Prop):Prop:=
 ∃ W:Nat->Nat->St->Hp->Prop,(∃ m,W 0 m (qa6j own cap σ) (upd H1 D (.lst [])))/\∀ i m σ' H',W i m σ' H' ->
  (J.stop i H'/\Z H') ∨ (J.go i H'/\∃ N:St->Hp->Prop,(∀ σ'' H'',N σ'' H''->∃ m',m' < m/\W (i + 1) m' σ'' H'')/\∀ x H'',J.yld i H' x H'' ->
   g x σ' H'' fun σ2 H2=>tt σ2 H2 fun b H3=>if b=true then te σ2 H3 fun y H4=>∃ ys,H4 D=some (.lst ys)/\ys.length < sizeLine/\N σ2 (upd H4 D (.lst (ys ++ [y]))) else N σ2 H3)
def tComp(own:List Str)(cap:List 'q')(wi:TI)(g:TG)(tt:TT)(te:TE):TE:=fun σ H Q=>wi σ H fun J H1=>∀ D,H1 D=none->qb2q own cap g tt te J D σ H1 (Q (.ref D))
def qb7n{X:Cx}{elt tg iter:Expr}{ifs:List Expr}{scope:Scope}{pos:Pos}{own:List Str}{cap:List 'q'}{g:TG}{tt:TT}{te:TE}
  (hc:X.calm=true) (hok:qa4q X scope own cap=true) (hnd:(scope.names.map (·.1)).Nodup)
  (hg:∀ fp s2 H2,PG (cxC X scope own cap fp s2 H2) tg g) (ht:∀ fp s2 H2,PIf (cxC X scope own cap fp s2 H2) ifs tt) (he:∀ fp s2 H2,PE (cxC X scope own cap fp s2 H2) elt te)
  {pins:List 'c'} {σ:St} {H1:Hp} {s2:Shared} {it:Addr} {fp:List Addr} {tn:Nat->Heap->Prop} {J:It} {Z:Hp->Prop} {RR:Result->Shared->Prop}
  (I:Inv X pins σ H1 s2) (T:Turn X.prog X.w X.K tg J fp it tn) (h0:tn 0 s2.heap) (hfp:∀ b ∈ fp,FpOk X pins H1 b)
  (hb:qb2q own cap g tt te J s2.heap.objs.size σ H1 Z)
  (hR:∀ s' H' m,(∀ h',Heap.SameBut (s2.heap.objs.size + 1) s'.heap h'->Inv X pins σ H' { s' with heap:=h' })->s'.heap.Ns (s2.heap.objs.size + 1) m->H' (s2.heap.objs.size + 1)=none->Z H'->RR (.ok .next) s') :
  wpAny (model X.prog X.w) X.A (newFunctionEnv scope X.env.globals (clOf X.env scope.names []) [] X.env.qual none .none (some X.env)) (fun cenv s₄ =>
   cenv.locals=s2.heap.objs.size + 1/\codeAny (model X.prog X.w) X.A (.compStart (.ListComp elt [⟨tg,iter,ifs,0⟩] scope pos) 0 (.ref it) (.ref s2.heap.objs.size) { cenv with scope:=relabel scope X.env }) RR s₄)
   X.xe { s2 with heap:=s2.heap.push { cls:=.type "list",dict:=none,data:=.seq ([]:List Value).toArray } }:=by
 have hob:∀ b ∈ fp,∃ o,s2.heap.get? b=some o:=fun b hb=>let ⟨o,e,_⟩:=T.obj _ _ h0 b hb;⟨o,e⟩;have I0:=qc8g (own:=own) (cap:=cap) I hok hnd hfp hob;refine qc0g ?_;have z1:(s2.heap.push { cls:=.type "list",dict:=none,data:=.seq ([]:List Value).toArray }).objs.size=s2.heap.objs.size + 1:=size_push ..
 dsimp only
 rw [z1];refine⟨rfl,?_⟩;show codeAny (model X.prog X.w) X.A (.compStart (.ListComp elt [⟨tg,iter,ifs,0⟩] scope pos) 0 (.ref it) (.ref s2.heap.objs.size) (cxC X scope own cap fp s2 H1).env) RR _;generalize hs4:({ s2 with heap:=pushCells ((s2.heap.push { cls:=.type "list",dict:=none,data:=.seq ([]:List Value).toArray }).push { cls:=.type "dict",data:=.dict #[] }) scope.names }:Shared)=s4 at I0 ⊢;have kp:∀ b o,s2.heap.get? b=some o->s4.heap.get? b=some o:=fun b o e=>by
  rw [← hs4];exact pushCells_keeps _ _ b o (get?_push_of_some _ (get?_push_of_some _ e))
 have st4:tn 0 s4.heap:=T.keep _ _ _ h0 fun b _ o e=>kp b o e;obtain⟨W,⟨m0,w0⟩,turn⟩:=hb
 -- the iterator's records are the block's own
 have stat:∀ {H':Hp},(∀ b ∈ fp,H' b=none)->∀ b ∈ fp,FpOk (cxC X scope own cap fp s2 H1) [] H' b:=fun hn b hb =>
  ⟨hn b hb,(I0.ok.exf b hb).1,I0.ok.exfs b hb,.inl hb,fun x c e=>(I0.ok.exf b hb).2 x c e,fun p hp=>absurd (show p ∈ ([]:List 'c') from hp) 'g'⟩
 have fr0:∀ b ∈ fp,upd H1 s2.heap.objs.size (.lst []) b=none:=fun b hb=>by
  obtain⟨o,e⟩:=hob b hb;rw [qa0f (ne_of_lt (lt_size e))];exact(hfp b hb).1
 have loop:codeAny (model X.prog X.w) X.A (.compLoop (.ListComp elt [⟨tg,iter,ifs,0⟩] scope pos) 0 (.ref it) (.ref s2.heap.objs.size) (cxC X scope own cap fp s2 H1).env) RR s4:=by
  refine qc0h (fun n s'=>∃ i σ' H',Inv (cxC X scope own cap fp s2 H1) [] σ' H' s'/\tn i s'.heap/\(∀ b ∈ fp,H' b=none)/\W i n σ' H') ?_ m0 ⟨0,_,_,I0,st4,fr0,w0⟩;rintro n s3 ⟨i,σ3,H3,I3,st3,fr3,w3⟩;rcases turn i n σ3 H3 w3 with⟨stop,qn⟩ | ⟨go,N,hN,step⟩
  ·refine wpAny_noRaise (thn (T.done (cxC X scope own cap fp s2 H1) rfl rfl rfl hc i [] s3 σ3 H3 _ I3 (stat fr3) st3 stop) fun r s5 hq9=>?_)
   obtain⟨hr,I5⟩:=hq9;subst hr;obtain⟨m5,hm5,_⟩:=id I5.loc;refine hR s5 H3 m5 (fun h' hs'=>?_) hm5 I5.free qn
   ·have un:Un (frs X.stack) fp H1 H3 s2.heap s5.heap:=I5.base
    have low:∀ b o,s2.heap.get? b=some o->b ≠ s2.heap.objs.size + 1:=fun b o e=>ne_of_lt (lt_succ_of_lt (lt_size e));refine I.call' (s':={ s5 with heap:=h' }) (ch:=fp) I5.os ⟨fun b o e n hb hx=>(hs'.2 b (low b o e)).trans (un.keep b o e n hb hx),fun b o e n hb hx=>?_,un.free,fun b o e hx=>?_,un.tups,un.frzs,un.tbls⟩ ?_ I5.bare fun b hb=>⟨(hfp b hb).2.2.2.1,(hfp b hb).2.1,(hfp b hb).2.2.2.2.1,(hfp b hb).2.2.2.2.2⟩
    ·obtain⟨sl,q⟩:=un.slot b o e n hb hx
     exact⟨sl,(hs'.2 b (low b o e)).trans q⟩
    ·obtain⟨o',q⟩:=un.there b o e hx
     exact⟨o',(hs'.2 b (low b o e)).trans q⟩
    ·intro b ob e
     refine(I5.hok b ob e).stay (fun c w' hc' q=>(hs'.2 c ?_).trans q) (fun _ q=>q) fun _ _ q=>q;have nC:H3 (s2.heap.objs.size + 1)=none:=I5.free;rintro rfl;rcases hc' with rfl | hc'
     ·rw [nC] at e;cases e
     ·rw [nC] at hc';cases hc'
  ·refine wpAny_noRaise (thn (T.item (cxC X scope own cap fp s2 H1) rfl rfl rfl hc i [] s3 σ3 H3 (fun _ _=>False) I3 (stat fr3) st3 go) fun r s5 hq9=>?_)
   obtain⟨u,hr,h5⟩:=hq9;subst hr;refine wpAny_noRaise (thn h5 fun _ s6 hq9=>?_);obtain⟨x,H6,I6,r6,y6,st6,fr6⟩:=hq9;have I6':=I6.pinned (stat fr6) (T.obj _ _ st6);refine wpAny_noRaise (thn (hg fp s2 H1 _ s6 σ3 H6 x u _ I6' r6 (step x H6 y6)) fun _ s7 hq9=>?_);obtain⟨σ7,H7,I7,q7⟩:=hq9;refine wpAny_noRaise (thn (ht fp s2 H1 _ s7 σ7 H7 _ I7 q7) fun ok s8 hq9=>?_);obtain⟨H8,I8,q8⟩:=hq9;have again:∀ {σ9:St} {H9:Hp} {s9:Shared},Inv (cxC X scope own cap fp s2 H1) ([] ++ qb0t fp s6.heap) σ9 H9 s9->N σ9 H9->∃ m,m < n/\∃ i σ' H',Inv (cxC X scope own cap fp s2 H1) [] σ' H' s9/\tn i s9.heap/\(∀ b ∈ fp,H' b=none)/\W i m σ' H':=fun{σ9 H9 s9} I9 n9=>by
    obtain⟨m',hm,w9⟩:=hN σ9 H9 n9;refine⟨m',hm,i + 1,σ9,H9,I9.unpinned,T.keep _ _ _ st6 fun b hb o e=>(I9.pin (b,o) (mem_append_right _ (mem_append_right _ (qa7g hb e)))).1,fun b hb=>?_,w9⟩;obtain⟨o,e,d⟩:=T.obj _ _ st6 b hb;exact(I9.pin (b,o) (mem_append_right _ (mem_append_right _ (qa7g hb e)))).2.1
   cases ok with
   | false=>exact again I8 q8
   | true =>
    rw [if_pos rfl] at q8;rw [if_pos rfl];refine wpAny_noRaise (thn (he fp s2 H1 _ s8 σ7 H8 _ I8 q8) fun y s9 hq9=>?_);obtain⟨yv,H9,I9,r9,ys,hD,hz,q9⟩:=hq9;refine wpAny_noRaise (thn (qb0v _ s9 σ7 H9 (.ref s2.heap.objs.size) [yv] (.ref s2.heap.objs.size) [y] (fun _ H'=>N σ7 H') I9 rfl (.cons r9 .nil) ⟨_,ys,yv,rfl,rfl,hD,hz,q9⟩) fun _ s10 hq9=>?_);obtain⟨_,H10,I10,_,q10⟩:=hq9;exact again I10 q10
 exact codeAny_compStart_list loop (T.self X.A 0 _ _ _ st4 loop)
def qb2d{scope:Scope}(hnd:(scope.names.map (·.1)).Nodup):∀ x ∈ scope.names,x.2=.local->scope.names.lookup x.1=some .local:=fun x hx e=>by
 obtain⟨n,k⟩:=x;have e':k=.local:=e;subst e';exact qa3z hnd hx
def qc1p{X:Cx}{elt tg iter:Expr}{ifs:List Expr}{scope:Scope}{pos:Pos}{own:List Str}{cap:List 'q'}{wi:TI}{g:TG}{tt:TT}{te:TE}
  (hc:X.calm=true) (hok:qa4q X scope own cap=true) (hnd:(scope.names.map (·.1)).Nodup) (hi:PI X tg iter wi)
  (hg:∀ fp s2 H2,PG (cxC X scope own cap fp s2 H2) tg g) (ht:∀ fp s2 H2,PIf (cxC X scope own cap fp s2 H2) ifs tt) (he:∀ fp s2 H2,PE (cxC X scope own cap fp s2 H2) elt te)
  (hs:∀ x,foldedSetIterable iter X.env x=pure x:=by intro _;rfl) :
  PE X (.ListComp elt [⟨tg,iter,ifs,0⟩] scope pos) (tComp own cap wi g tt te):=by
 intro pins s σ H Q I h;have hkind:=qa9y hok;have hclos:closureFor scope X.env=pure (clOf X.env scope.names []):=qb0p fun y hy hf=>I.ok.has y.1 (qa9z hok y hy hf);rw [eval_ListComp];refine wpAny_comprehension_free (use:=none) rfl hs hclos hkind (qb2d hnd) (thn (hi pins s σ H _ I h) fun xv s1 h1=>thn h1 fun itv s2 h2=>?_);obtain⟨it,fp,tn,J,H1,e,I2,T,st2,f2,hb⟩:=h2;subst e;refine wpAny_newObj_type (thn (qb7n (iter:=iter) (pos:=pos) (RR:=compPost (model X.prog X.w) X.A X.xe none (EP X pins σ Q) (.ref s2.heap.objs.size) (s2.heap.objs.size + 1)) hc hok hnd hg ht he I2 T st2 f2 (hb _ I2.fresh) fun s' H' m hI hm hnC z=>?_) fun cenv s4 ⟨e,q⟩=>?_)
 ·exact⟨m,hm,fun h' hs'=>⟨.ref s2.heap.objs.size,H',hI h' hs',rfl,z⟩⟩
 ·rw [← e] at q;exact q
def ps_setC{X:Cx}{i:Nat}{y:Str}{py spos:Pos}{elt tg iter:Expr}{ifs:List Expr}{scope:Scope}{pos:Pos}{own:List Str}{cap:List 'q'}{wi:TI}{g:TG}{tt:TT}{te:TE}
  (hN:X.N.Nodup) (hi':X.N[i]? = some y) (hy:X.env.scope.names.lookup y=some .local)
  (hc:X.calm=true) (hok:qa4q X scope own cap=true) (hnd:(scope.names.map (·.1)).Nodup) (hi:PI X tg iter wi)
  (hg:∀ fp s2 H2,PG (cxC X scope own cap fp s2 H2) tg g) (ht:∀ fp s2 H2,PIf (cxC X scope own cap fp s2 H2) ifs tt) (he:∀ fp s2 H2,PE (cxC X scope own cap fp s2 H2) elt te)
  (hsw:swapsWith (.ListComp elt [⟨tg,iter,ifs,0⟩] scope pos) (some (.Name y py)) spos.line X.env=pure true:=by rfl)
  (hs:∀ x,foldedSetIterable iter X.env x=pure x:=by intro _;rfl) :
  PS X (.Assign [.Name y py] (.ListComp elt [⟨tg,iter,ifs,0⟩] scope pos) spos) (tAsg (tComp own cap wi g tt te) (qa3b i)):=by
 intro pins s σ H D I h;have hkind:=qa9y hok;have hclos:closureFor scope X.env=pure (clOf X.env scope.names []):=qb0p fun y hy hf=>I.ok.has y.1 (qa9z hok y hy hf);rw [exec_Assign_Name_used _ _ _ _ hsw];refine wpAny_bind (wpAny_standAt (wpAny_bind ?_));show wpAny _ X.A (do let _ ← comprehension (.ListComp elt [⟨tg,iter,ifs,0⟩] scope pos) scope X.env _ (newList []) false (eval iter X.env) (some (assign (.Name y py) X.env))) _ _ s;refine wpAny_bind (wpAny_mono (wpAny_comprehension_free (use:=some (assign (.Name y py) X.env)) (Q:=fun _ s'=>SP X pins D .next s') rfl hs hclos hkind (qb2d hnd)
  (thn (hi pins s σ H _ I h) fun xv s1 h1=>thn h1 fun itv s2 h2=>?_)) (fun _ s' hq=>wpAny_pure (wpAny_pure hq)) fun _ _ e=>e)
 obtain⟨it,fp,tn,J,H1,e,I2,T,st2,f2,hb⟩:=h2;subst e;refine wpAny_newObj_type (thn (qb7n (iter:=iter) (pos:=pos) (RR:=compPost (model X.prog X.w) X.A X.xe (some (assign (.Name y py) X.env)) (fun _ s'=>SP X pins D .next s') (.ref s2.heap.objs.size) (s2.heap.objs.size + 1)) hc hok hnd hg ht he I2 T st2 f2 (hb _ I2.fresh) fun s' H' m hI hm hnC z=>?_) fun cenv s4 ⟨e,q⟩=>?_)
 ·show wpAny _ _ (assign (.Name y py) X.env (.ref s2.heap.objs.size)) _ _ s'
  have I':Inv X pins σ H' s':=hI s'.heap (Heap.SameBut.refl ..);refine wpAny_assign_Name (qb5s I' hN hi' (.inl hy) (v:=.ref s2.heap.objs.size) rfl (fun s'' I'' hsb=>?_) (.inr hy));obtain⟨a,hs1,ha⟩:=hsb;have nC:s2.heap.objs.size + 1 ≠ a:=by
   rintro rfl;rcases ha with ha | ha
   ·have q:=I2.lt
    rw [← ha] at q;exact absurd q (nlt (le_succ _))
   ·obtain⟨v,q⟩:=I2.cell _ _ ha
    exact absurd q.lt (nlt (le_succ _))
  refine⟨m,hm.sameBut hs1 nC,fun h' hs'=>⟨_,H',?_,z⟩⟩;obtain⟨_,f1,f2,f3,f4,f5⟩:=I2.fpOk (b:=s2.heap.objs.size + 1) (le_succ _) hnC;exact I''.turned (t':=s''.toks) (it:=s2.heap.objs.size + 1) (fun b o hb e=>(hs'.2 b hb).trans e) hnC f1 f3 f4 f5
 ·rw [← e] at q;exact q
end
section
def qa2r:bootBuiltins "len" = some (.builtin "len"):=by decide +kernel
def qa4r:bootBuiltins "isinstance" = some (.builtin "isinstance"):=by decide +kernel
def qc1q:bootBuiltins "repr" = some (.builtin "repr"):=by decide +kernel
def qb7o:bootBuiltins "int" = some (.type "int"):=by decide +kernel
def qc1r:bootBuiltins "bool" = some (.type "bool"):=by decide +kernel
def qb7p:bootBuiltins "str" = some (.type "str"):=by decide +kernel
def qb4v:bootBuiltins "list" = some (.type "list"):=by decide +kernel
def qa1i:bootBuiltins "tuple" = some (.type "tuple"):=by decide +kernel
def qc1s:bootBuiltins "dict" = some (.type "dict"):=by decide +kernel
noncomputable def kvE(p:Str × Int):Key × V:=(Sum.inr p.1,V.int p.2)
noncomputable def kvD(p:Str × Int):PyData × PyData:=(.str p.1,.int p.2)
inductive FD where
 | none
 | bool (b:Bool)
 | int (n:Int)
 | str (x:Str)
noncomputable def FD.v:FD->V
 | .none=>.non
 | .bool b=>.bl b
 | .int n=>.int n
 | .str x=>.str x
noncomputable def FD.d:FD->PyData
 | .none=>.none
 | .bool b=>.bool b
 | .int n=>.int n
 | .str x=>.str x
noncomputable def keyD:Key->PyData
 | .inl i=>.int i
 | .inr x=>.str x
noncomputable def gE(p:Key × FD):Key × V:=(p.1,p.2.v)
noncomputable def gD(p:Key × FD):PyData × PyData:=(keyD p.1,p.2.d)
noncomputable def emb(p:Str × Int):Key × FD:=(Sum.inr p.1,FD.int p.2)
def emb_E(ν:List (Str × Int)):(ν.map emb).map gE=ν.map kvE:=by rw [map_map];rfl
def emb_D(ν:List (Str × Int)):(ν.map emb).map gD=ν.map kvD:=by rw [map_map];rfl
mutual
noncomputable def AtD(K:W.Frag)(H:Hp)(S:Addr->Prop):PyData->V->Prop
 | .none,v=>v=.non
 | .bool b,v=>v=.bl b
 | .int i,v=>v=.int i
 | .str x,v=>v=.str x
 | .list ds,v=>∃ a xs,v=.ref a/\S a/\H a=some (.lst xs)/\qa0c K H S ds xs
 | .tuple ds,v=>∃ a xs,v=.ref a/\SqT K H a xs/\qa0c K H S ds xs
 | .dict kvs,v=>∃ (a:Addr) (κ:List (Key × V)),v=.ref a/\S a/\H a=some (.dK κ)/\qa0e K H S kvs κ
noncomputable def qa0c(K:W.Frag)(H:Hp)(S:Addr->Prop):List PyData->List V->Prop
 | [],vs=>vs=[]
 | d :: ds,vs=>∃ v r,vs=v :: r/\AtD K H S d v/\qa0c K H S ds r
noncomputable def qa0e(K:W.Frag)(H:Hp)(S:Addr->Prop):List 'i'->List (Key × V)->Prop
 | [],κ=>κ=[]
 | (x,d) :: r,κ=>∃ k v t,κ=(k,v) :: t/\x=keyD k/\AtD K H S d v/\qa0e K H S r t
end
abbrev Any:Addr->Prop:=fun _=>True
abbrev But(t:Addr):Addr->Prop:=fun b=>b ≠ t
def Keep(S:Addr->Prop)(H H':Hp):Prop:=(∀ b xs,H b=some (.tup xs)->H' b=some (.tup xs))/\(∀ b o u,H b=some (.frz o u)->H' b=some (.frz o u))/\∀ b o,S b->H b=some o->H' b=some o
section
variable{K:W.Frag}{H H':Hp}{S S':Addr->Prop}
def Keep.refl(S:Addr->Prop)(H:Hp):Keep S H H:=⟨fun _ _ h=>h,fun _ _ _ h=>h,fun _ _ _ h=>h⟩
def Keep.trans{H1:Hp}(a:Keep S H H1)(b:Keep S H1 H'):Keep S H H':=⟨fun c xs h=>b.1 c xs (a.1 c xs h),fun c o xs h=>b.2.1 c o xs (a.2.1 c o xs h),fun c xs s h=>b.2.2 c xs s (a.2.2 c xs s h)⟩
def Keep.less(e:Keep S H H')(h:∀ b,S' b->S b):Keep S' H H':=⟨e.1,e.2.1,fun b xs s q=>e.2.2 b xs (h b s) q⟩
def Same.keep(e:Same H H'):Keep S H H':=⟨fun b xs h=>e b _ h,fun b o xs h=>e b _ h,fun b xs _ h=>e b _ h⟩
def qc5v{p:Addr}{xs ys:List V}(h:H p=some (.lst xs)):Keep (But p) H (upd H p (.lst ys)):=
 ⟨fun b zs q=>by rw [qa0f (qa7f q h (by intro z;cases z))];exact q,fun b o zs q=>by rw [qa0f (qa7f q h (by intro z;cases z))];exact q,fun b zs hb q=>by rw [qa0f hb];exact q⟩
def Keep.seqT{a:Addr}{xs:List V}(e:Keep S H H')(h:SqT K H a xs):SqT K H' a xs:=by
 rcases h with(h | ⟨o,h⟩) | h
 ·exact .inl (.inl (e.1 _ _ h))
 ·exact .inl (.inr ⟨o,e.2.1 _ _ _ h⟩)
 ·exact .inr h
def qa0v{H:Hp}{p:Addr}(h:H p=none)(o:HO):Same H (upd H p o):=fun b u q=>by rw [qa0f (qa1q q h)];exact q
mutual
def AtD.mono(e:Keep S H H'):∀ (d:PyData) (v:V),AtD K H S d v->AtD K H' S d v
 | .none,_,h=>by unfold AtD at h ⊢;exact h
 | .bool _,_,h=>by unfold AtD at h ⊢;exact h
 | .int _,_,h=>by unfold AtD at h ⊢;exact h
 | .str _,_,h=>by unfold AtD at h ⊢;exact h
 | .list ds,v,h=>by
  unfold AtD at h ⊢;obtain⟨a,xs,e1,s,q,r⟩:=h;exact⟨a,xs,e1,s,e.2.2 _ _ s q,qa0c.mono e ds xs r⟩
 | .tuple ds,v,h=>by
  unfold AtD at h ⊢;obtain⟨a,xs,e1,q,r⟩:=h;exact⟨a,xs,e1,e.seqT q,qa0c.mono e ds xs r⟩
 | .dict kvs,v,h=>by
  unfold AtD at h ⊢;obtain⟨a,ν,e1,s,q,e2⟩:=h;exact⟨a,ν,e1,s,e.2.2 a _ s q,qa0e.mono e kvs ν e2⟩
def qa0c.mono(e:Keep S H H'):∀ (ds:List PyData) (vs:List V),qa0c K H S ds vs->qa0c K H' S ds vs
 | [],_,h=>by unfold qa0c at h ⊢;exact h
 | d :: ds,vs,h=>by
  unfold qa0c at h ⊢;obtain⟨v,r,e1,h1,h2⟩:=h;exact⟨v,r,e1,AtD.mono e d v h1,qa0c.mono e ds r h2⟩
def qa0e.mono(e:Keep S H H'):∀ (kvs:List 'i') (κ:List (Key × V)),qa0e K H S kvs κ->qa0e K H' S kvs κ
 | [],_,h=>by unfold qa0e at h ⊢;exact h
 | (x,d) :: r,κ,h=>by
  unfold qa0e at h ⊢;obtain⟨k,v,t,e1,e2,h1,h2⟩:=h;exact⟨k,v,t,e1,e2,AtD.mono e d v h1,qa0e.mono e r t h2⟩
end
mutual
def AtD.more(e:∀ b,S b->S' b):∀ (d:PyData) (v:V),AtD K H S d v->AtD K H S' d v
 | .none,_,h=>by unfold AtD at h ⊢;exact h
 | .bool _,_,h=>by unfold AtD at h ⊢;exact h
 | .int _,_,h=>by unfold AtD at h ⊢;exact h
 | .str _,_,h=>by unfold AtD at h ⊢;exact h
 | .list ds,v,h=>by
  unfold AtD at h ⊢;obtain⟨a,xs,e1,s,q,r⟩:=h;exact⟨a,xs,e1,e a s,q,qa0c.more e ds xs r⟩
 | .tuple ds,v,h=>by
  unfold AtD at h ⊢;obtain⟨a,xs,e1,q,r⟩:=h;exact⟨a,xs,e1,q,qa0c.more e ds xs r⟩
 | .dict kvs,v,h=>by
  unfold AtD at h ⊢;obtain⟨a,ν,e1,s,q,e2⟩:=h;exact⟨a,ν,e1,e a s,q,qa0e.more e kvs ν e2⟩
def qa0c.more(e:∀ b,S b->S' b):∀ (ds:List PyData) (vs:List V),qa0c K H S ds vs->qa0c K H S' ds vs
 | [],_,h=>by unfold qa0c at h ⊢;exact h
 | d :: ds,vs,h=>by
  unfold qa0c at h ⊢;obtain⟨v,r,e1,h1,h2⟩:=h;exact⟨v,r,e1,AtD.more e d v h1,qa0c.more e ds r h2⟩
def qa0e.more(e:∀ b,S b->S' b):∀ (kvs:List 'i') (κ:List (Key × V)),qa0e K H S kvs κ->qa0e K H S' kvs κ
 | [],_,h=>by unfold qa0e at h ⊢;exact h
 | (x,d) :: r,κ,h=>by
  unfold qa0e at h ⊢;obtain⟨k,v,t,e1,e2,h1,h2⟩:=h;exact⟨k,v,t,e1,e2,AtD.more e d v h1,qa0e.more e r t h2⟩
end
mutual
noncomputable def qa8c:PyData->Bool
 | .none=>true | .bool _=>true | .int _=>true | .str _=>true
 | .list _=>false
 | .tuple ds=>qb1v ds
 | .dict _=>false
noncomputable def qb1v:List PyData->Bool
 | []=>true
 | d :: ds=>qa8c d && qb1v ds
end
mutual
def AtD.tups:∀ (d:PyData) (v:V),qa8c d=true->AtD K H S d v->AtD K H S' d v
 | .none,_,_,h=>by unfold AtD at h ⊢;exact h
 | .bool _,_,_,h=>by unfold AtD at h ⊢;exact h
 | .int _,_,_,h=>by unfold AtD at h ⊢;exact h
 | .str _,_,_,h=>by unfold AtD at h ⊢;exact h
 | .list ds,v,t,h=>by unfold qa8c at t;cases t
 | .tuple ds,v,t,h=>by
  unfold qa8c at t;unfold AtD at h ⊢;obtain⟨a,xs,e1,q,r⟩:=h;exact⟨a,xs,e1,q,qa0c.tups ds xs t r⟩
 | .dict _,_,t,_=>by unfold qa8c at t;cases t
def qa0c.tups:∀ (ds:List PyData) (vs:List V),qb1v ds=true->qa0c K H S ds vs->qa0c K H S' ds vs
 | [],_,_,h=>by unfold qa0c at h ⊢;exact h
 | d :: ds,vs,t,h=>by
  unfold qb1v at t;rw [and_eq_true] at t;unfold qa0c at h ⊢;obtain⟨v,r,e1,h1,h2⟩:=h;exact⟨v,r,e1,AtD.tups d v t.1 h1,qa0c.tups ds r t.2 h2⟩
end
def qa0c.nil:qa0c K H S [] []:=by unfold qa0c;rfl
def qa0c.cons{d:PyData}{ds:List PyData}{v:V}{vs:List V}(h:AtD K H S d v)(t:qa0c K H S ds vs):qa0c K H S (d :: ds) (v :: vs):=by
 unfold qa0c;exact⟨v,vs,rfl,h,t⟩
def qa0c.uncons{d:PyData}{ds:List PyData}{vs:List V}(h:qa0c K H S (d :: ds) vs):∃ v r,vs=v :: r/\AtD K H S d v/\qa0c K H S ds r:=by
 unfold qa0c at h;exact h
def qa0c.unnil{vs:List V}(h:qa0c K H S [] vs):vs=[]:=by unfold qa0c at h;exact h
def qa0c.length:∀ {ds:List PyData} {vs:List V},qa0c K H S ds vs->vs.length=ds.length
 | [],_,h=>by rw [h.unnil];rfl
 | d :: ds,vs,h=>by
  obtain⟨v,r,e,_,t⟩:=h.uncons;rw [e,length_cons,length_cons,qa0c.length t]
def qa0c.get:∀ {ds:List PyData} {vs:List V} {i:Nat} {d:PyData},qa0c K H S ds vs->ds[i]? = some d->∃ v,vs[i]? = some v/\AtD K H S d v
 | [],_,i,d,_,e=>by simp at e
 | d' :: ds,vs,0,d,h,e=>by
  obtain⟨v,r,rfl,hd,t⟩:=h.uncons;simp at e;subst e;exact⟨v,by simp,hd⟩
 | d' :: ds,vs,i + 1,d,h,e=>by
  obtain⟨v,r,rfl,hd,t⟩:=h.uncons;obtain⟨w,e1,e2⟩:=qa0c.get (i:=i) t (by simpa using e);exact⟨w,by simpa using e1,e2⟩
def qa0c.append:∀ {ds es:List PyData} {vs ws:List V},qa0c K H S ds vs->qa0c K H S es ws->qa0c K H S (ds ++ es) (vs ++ ws)
 | [],_,_,_,h,t=>by rw [h.unnil];exact t
 | d :: ds,es,vs,ws,h,t=>by
  obtain⟨v,r,rfl,hd,q⟩:=h.uncons;exact .cons hd (qa0c.append q t)
def qa0c.snoc{ds:List PyData}{vs:List V}{d:PyData}{v:V}(h:qa0c K H S ds vs)(hd:AtD K H S d v):qa0c K H S (ds ++ [d]) (vs ++ [v]):=h.append (.cons hd .nil)
def qa0c.drop:∀ {ds:List PyData} {vs:List V} (n:Nat),qa0c K H S ds vs->qa0c K H S (ds.drop n) (vs.drop n)
 | _,_,0,h=>by simpa using h
 | [],vs,n + 1,h=>by rw [h.unnil];exact .nil
 | d :: ds,vs,n + 1,h=>by
  obtain⟨v,r,rfl,hd,q⟩:=h.uncons;exact qa0c.drop n q
def qa0c.take:∀ {ds:List PyData} {vs:List V} (n:Nat),qa0c K H S ds vs->qa0c K H S (ds.take n) (vs.take n)
 | _,_,0,h=>by simpa using qa0c.nil
 | [],vs,n + 1,h=>by rw [h.unnil];exact .nil
 | d :: ds,vs,n + 1,h=>by
  obtain⟨v,r,rfl,hd,q⟩:=h.uncons;exact .cons hd (qa0c.take n q)
def qa0c.set:∀ {ds:List PyData} {vs:List V} (i:Nat) {d:PyData} {v:V},qa0c K H S ds vs->AtD K H S d v->qa0c K H S (ds.set i d) (vs.set i v)
 | [],_,i,d,v,h,_=>by rw [h.unnil];exact .nil
 | d' :: ds,vs,0,d,v,h,hd=>by
  obtain⟨v',r,rfl,_,q⟩:=h.uncons;exact .cons hd q
 | d' :: ds,vs,i + 1,d,v,h,hd=>by
  obtain⟨v',r,rfl,h',q⟩:=h.uncons;exact .cons h' (qa0c.set i q hd)
def qa5y:AtD K H S .none .non:=by unfold AtD;rfl
def qa2d(b:Bool):AtD K H S (.bool b) (.bl b):=by unfold AtD;rfl
def qa2k(i:Int):AtD K H S (.int i) (.int i):=by unfold AtD;rfl
def qa4f(x:Str):AtD K H S (.str x) (.str x):=by unfold AtD;rfl
def qa9l{v:V}(h:AtD K H S .none v):v=.non:=by unfold AtD at h;exact h
def qa5z{b:Bool}{v:V}(h:AtD K H S (.bool b) v):v=.bl b:=by unfold AtD at h;exact h
def qa8d{i:Int}{v:V}(h:AtD K H S (.int i) v):v=.int i:=by unfold AtD at h;exact h
def qa9m{x:Str}{v:V}(h:AtD K H S (.str x) v):v=.str x:=by unfold AtD at h;exact h
def qa2w{ds:List PyData}{v:V}(h:AtD K H S (.tuple ds) v):∃ a xs,v=.ref a/\SqT K H a xs/\qa0c K H S ds xs:=by unfold AtD at h;exact h
def qa3q{ds:List PyData}{v:V}(h:AtD K H S (.list ds) v):∃ a xs,v=.ref a/\S a/\H a=some (.lst xs)/\qa0c K H S ds xs:=by unfold AtD at h;exact h
def qa3u{ds:List PyData}{a:Addr}{xs:List V}(q:SqT K H a xs)(h:qa0c K H S ds xs):AtD K H S (.tuple ds) (.ref a):=by unfold AtD;exact⟨a,xs,rfl,q,h⟩
def qa2o{ds:List PyData}{a:Addr}{xs:List V}(s:S a)(q:H a=some (.lst xs))(h:qa0c K H S ds xs):AtD K H S (.list ds) (.ref a):=by unfold AtD;exact⟨a,xs,rfl,s,q,h⟩
def qa9n{kvs:List 'i'}{v:V}(h:AtD K H S (.dict kvs) v):∃ (a:Addr) (κ:List (Key × V)),v=.ref a/\S a/\H a=some (.dK κ)/\qa0e K H S kvs κ:=by unfold AtD at h;exact h
def qa4y{kvs:List 'i'}{κ:List (Key × V)}{a:Addr}(s:S a)(q:H a=some (.dK κ))(h:qa0e K H S kvs κ):AtD K H S (.dict kvs) (.ref a):=by unfold AtD;exact⟨a,κ,rfl,s,q,h⟩
def qa0e.nil:qa0e K H S [] []:=by unfold qa0e;rfl
def qa0e.cons{k:Key}{v:V}{d:PyData}{r:List 'i'}{t:List (Key × V)}(h:AtD K H S d v)(hr:qa0e K H S r t):qa0e K H S ((keyD k,d) :: r) ((k,v) :: t):=by
 unfold qa0e;exact⟨k,v,t,rfl,rfl,h,hr⟩
def qa0e.uncons{x d:PyData}{r:List 'i'}{κ:List (Key × V)}(h:qa0e K H S ((x,d) :: r) κ):∃ k v t,κ=(k,v) :: t/\x=keyD k/\AtD K H S d v/\qa0e K H S r t:=by unfold qa0e at h;exact h
def qa0e.unnil{κ:List (Key × V)}(h:qa0e K H S [] κ):κ=[]:=by unfold qa0e at h;exact h
def qa8e{a b:Key}(h:keyD a=keyD b):a=b:=by cases a<;>cases b<;>simp_all [keyD]
def FD.at(f:FD):AtD K H S f.d f.v:=by
 cases f with
 | none=>exact qa5y
 | bool b=>exact qa2d b
 | int n=>exact qa2k n
 | str x=>exact qa4f x
def FD.un{f:FD}{v:V}(h:AtD K H S f.d v):v=f.v:=by
 cases f with
 | none=>exact qa9l h
 | bool b=>exact qa5z h
 | int n=>exact qa8d h
 | str x=>exact qa9m h
def qa0e.flat:∀ (κ:List (Key × FD)),qa0e K H S (κ.map gD) (κ.map gE)
 | []=>.nil
 | (k,f) :: r=>.cons f.at (qa0e.flat r)
def qa0e.unflat:∀ {κ:List (Key × FD)} {μ:List (Key × V)},qa0e K H S (κ.map gD) μ->μ=κ.map gE
 | [],μ,h=>h.unnil
 | (k,f) :: r,μ,h=>by
  obtain⟨k',v,t,e1,e2,h1,h2⟩:=qa0e.uncons (x:=keyD k) (d:=f.d) (r:=r.map gD) h;have e3:=qa8e e2;have e4:=FD.un h1;have e5:=qa0e.unflat h2;subst e3 e4 e5;exact e1
def qc5w{κ:List (Key × FD)}{a:Addr}(s:S a)(q:H a=some (.dK (κ.map gE))):AtD K H S (.dict (κ.map gD)) (.ref a):=qa4y s q (qa0e.flat κ)
def qc8h{ν:List (Str × Int)}{a:Addr}(s:S a)(q:H a=some (.dK (ν.map kvE))):AtD K H S (.dict (ν.map kvD)) (.ref a):=by
 rw [← emb_D];rw [← emb_E] at q;exact qc5w s q
def qa8f{ds:List PyData}{p:Addr}{xs:List V}(hp:H p=none)(h:qa0c K H S ds xs):AtD K (upd H p (.tup xs)) S (.tuple ds) (.ref p):=
 qa3u (SqT.of qa0h) (qa0c.mono (qa0v hp _).keep _ _ h)
def qc8i{ds:List PyData}{p:Addr}{xs:List V}(s:S p)(hp:H p=none)(h:qa0c K H S ds xs):AtD K (upd H p (.lst xs)) S (.list ds) (.ref p):=
 qa2o s qa0h (qa0c.mono (qa0v hp _).keep _ _ h)
def qa0c.ints(ns:List Int):qa0c K H S (ns.map .int) (ns.map V.int):=by
 induction ns with
 | nil=>exact .nil
 | cons n r ih=>exact .cons (qa2k n) ih
end
def qc5x(h:Heap){k:Key}{u:Value}(q:qa7e k u=true):Reads h u (keyD k) []:=by
 rcases qa1x q with⟨i,t,e',h'⟩ | ⟨x,t,e',h'⟩
 ·rw [e',h'];exact .int i t
 ·rw [e',h'];exact .str x t
section
variable{X:Cx}{pins:List 'c'}{σ:St}{H:Hp}{s:Shared}{S:Addr->Prop}
mutual
def AtD.reads(I:Inv X pins σ H s):∀ (d:PyData) (v:V) (u:Value),AtD X.K H S d v->RelV v u->∃ as,Reads s.heap u d as
 | .none,v,u,h,r=>by cases qa9l h;cases r;exact⟨_,.none⟩
 | .bool b,v,u,h,r=>by cases qa5z h;cases r;exact⟨_,.bool b⟩
 | .int i,v,u,h,r=>by cases qa8d h;obtain⟨t,rfl⟩:=r;exact⟨_,.int i t⟩
 | .str x,v,u,h,r=>by cases qa9m h;obtain⟨t,rfl⟩:=r;exact⟨_,.str x t⟩
 | .list ds,v,u,h,r=>by
  obtain⟨a,xs,rfl,_,q,t⟩:=qa3q h;cases r;obtain⟨its,rv,⟨o,n,e,hc,_,hd⟩,_⟩:=I.list (SqL.of q);obtain⟨as,ra⟩:=qa0c.reads I ds xs its t rv;exact⟨_,.list e hc hd (by simpa using ra)⟩
 | .tuple ds,v,u,h,r=>by
  obtain⟨a,xs,rfl,q,t⟩:=qa2w h;cases r;obtain⟨its,rv,⟨o,e,hc,n,hd⟩,_⟩:=I.tuple q;obtain⟨as,ra⟩:=qa0c.reads I ds xs its t rv;exact⟨_,.tuple e hc hd (by simpa using ra)⟩
 | .dict kvs,v,u,h,r=>by
  obtain⟨a,ν,rfl,_,q,t⟩:=qa9n h;cases r;obtain⟨_,_,vs,kv,o,es,ep,e,hc,hd,_,hp,_⟩:=(show qa1j X.prog X.w H s.heap a (.dK ν) from I.hok a _ q);obtain⟨as,bs,r1,r2⟩:=qa0e.reads I kvs ν vs es.toList t kv hp;exact⟨_,.dict e hc.1 hd r1 r2⟩
def qa0c.reads(I:Inv X pins σ H s):∀ (ds:List PyData) (vs:List V) (us:List Value),qa0c X.K H S ds vs->Vals vs us->∃ as,ReadsAll s.heap us ds as
 | [],vs,us,h,r=>by
  cases h.unnil
  cases r
  exact⟨_,.nil⟩
 | d :: ds,vs,us,h,r=>by
  obtain⟨v,vr,rfl,hd,t⟩:=h.uncons;cases r with
  | cons r1 r2 =>
   obtain⟨as,q1⟩:=AtD.reads I d v _ hd r1;obtain⟨bs,q2⟩:=qa0c.reads I ds vr _ t r2;exact⟨_,.cons q1 q2⟩
def qa0e.reads(I:Inv X pins σ H s):∀ (kvs:List 'i') (κ:List (Key × V)) (vs:List (Key × Value)) (es:List DictEntry),qa0e X.K H S kvs κ->KV κ vs->Pairs (qa0z X.prog X.w) es vs->∃ as bs,ReadsAll s.heap (es.map (·.key)) (kvs.map (·.1)) as/\ReadsAll s.heap (es.map (·.val)) (kvs.map (·.2)) bs
 | [],κ,vs,es,h,r,q=>by
  cases h.unnil
  cases r
  cases q
  exact⟨_,_,.nil,.nil⟩
 | (x,d) :: kr,κ,vs,es,h,r,q=>by
  obtain⟨k,v,t,rfl,rfl,h1,h2⟩:=h.uncons;cases r with
  | cons r1 r2 =>
   cases q with
   | cons q1 q2 q3 =>
    rename_i kv _ e _;obtain⟨kk,kv2⟩:=kv;obtain⟨e1,e2⟩:=r1;cases e1;obtain⟨a1,w1⟩:=AtD.reads I d v kv2 h1 e2;obtain⟨as,bs,c1,c2⟩:=qa0e.reads I kr t _ _ h2 r2 q3;have hk:Reads s.heap e.key (keyD k) []:=qc5x _ (show qa7e k e.key=true from q1);have g1:=ReadsAll.cons hk c1;have g2:=ReadsAll.cons w1 c2;rw [show kv2=e.val from q2.symm] at g2;exact⟨_,_,g1,g2⟩
end
end
section
variable{X:Cx}
def qc1t{K:W.Frag}{H:Hp}{S:Addr->Prop}{ds:List PyData}{xs:List V}{i:Int}{d:PyData}(h:qa0c K H S ds xs)(e:atI ds i=some d):∃ v,atI xs i=some v/\AtD K H S d v:=by
 unfold atI at e ⊢;rw [h.length];cases q:ixN ds.length i with
 | none=>rw [q] at e;cases e
 | some j =>
  rw [q] at e;obtain⟨v,e1,e2⟩:=h.get (show ds[j]? = some d from e);exact⟨v,e1,e2⟩
def rEqD(K:W.Frag)(neg:Bool):R2:=fun x y H Q=>∃ S S' d e,AtD K H S d x/\AtD K H S' e y/\SeqAt.shaped d=true/\SeqAt.shaped e=true/\Q (.bl (if neg then !PyData.eqv d e else PyData.eqv d e)) H
def op_eqD(hu:X.A.units + 64 < cLine):OpR X (compareOp .Eq) (rEqD X.K false):=by
 intro pins s σ H x y v u Q I rx ry h;obtain⟨S,S',d,e,hd,he,sd,se,q⟩:=h;obtain⟨as,ra⟩:=AtD.reads I d x v hd rx;obtain⟨bs,rb⟩:=AtD.reads I e y u he ry;exact SeqAt.compareEq_shaped ra rb sd se hu ⟨.bl _,H,I,rfl,q⟩
def op_neD(hu:X.A.units + 64 < cLine):OpR X (compareOp .NotEq) (rEqD X.K true):=by
 intro pins s σ H x y v u Q I rx ry h;obtain⟨S,S',d,e,hd,he,sd,se,q⟩:=h;obtain⟨as,ra⟩:=AtD.reads I d x v hd rx;obtain⟨bs,rb⟩:=AtD.reads I e y u he ry;exact SeqAt.compareNe_shaped ra rb sd se hu ⟨.bl _,H,I,rfl,q⟩
noncomputable def tyD:PyData->String
 | .none => "NoneType" | .bool _ => "bool" | .int _ => "int" | .str _ => "str" | .list _ => "list" | .tuple _ => "tuple" | .dict _ => "dict"
noncomputable def isD(T:String)(d:PyData):Bool:=tyD d == T || (T == "int" && tyD d == "bool")
def pe_ty{x:Str}{T:String}{pos:Pos}(hg:Gl X x)(hm:X.mg x=none)(hv:bootBuiltins x=some (.type T)) (hn:x ≠ "__name__":=by decide) (hd:(x == ("__debug__" : Str))=false:=by decide):PE X (.Name x pos) (tC (.ty T)):=
 pe_bltn hg hm hv rfl hn hd
def qc8j{pins:List 'c'}{s:Shared}{σ:St}{H:Hp}{S:Addr->Prop}{d:PyData}{v:V}{u:Value}{T:String}{Q:VK}(I:Inv X pins σ H s)(h:AtD X.K H S d v)(r:RelV v u)
  (ht:PySem.W.kitOne X.K (.type (tyD d)) (.type T)=some (isD T d)) (q:Q (.bl (isD T d)) H) :
  wpAny (model X.prog X.w) X.A (call (.builtin "isinstance") [u,.type T]) (EP X pins σ Q) X.xe s:=by
 have fin:∀ tk,EP X pins σ Q (.bool (isD T d)) { s with toks:=tk }:=fun tk=>⟨.bl _,H,I.tok tk,rfl,q⟩;cases d with
 | none=>cases qa9l h;cases r;exact PySem.W.kia_one PySem.W.kitx_none I.kIn True.intro ht 'p' fin
 | bool b=>cases qa5z h;cases r;exact PySem.W.kia_one PySem.W.kitx_bool I.kIn True.intro ht 'p' fin
 | int i=>cases qa8d h;obtain⟨t,rfl⟩:=r;exact PySem.W.kia_one PySem.W.kitx_int I.kIn True.intro ht 'p' fin
 | str x=>cases qa9m h;obtain⟨t,rfl⟩:=r;exact PySem.W.kia_one PySem.W.kitx_str I.kIn True.intro ht 'p' fin
 | list ds =>
  obtain⟨a,xs,rfl,_,hq,_⟩:=qa3q h;cases r;obtain⟨its,_,⟨o,n,e,hc,_,hd⟩,_⟩:=I.list (SqL.of hq);exact PySem.W.kia_one PySem.W.kitx_list I.kIn ⟨o,e,hc⟩ ht 'p' fin
 | tuple ds =>
  obtain⟨a,xs,rfl,hq,_⟩:=qa2w h;cases r;obtain⟨its,_,⟨o,e,hc,n,hd⟩,_⟩:=I.tuple hq;exact PySem.W.kia_one PySem.W.kitx_tuple I.kIn ⟨o,e,hc⟩ ht 'p' fin
 | dict kvs =>
  obtain⟨a,ν,rfl,_,hq,_⟩:=qa9n h;cases r;obtain⟨_,_,vs,kv,o,es,ep,e,hc,hd,_,hp,_⟩:=(show qa1j X.prog X.w H s.heap a (.dK ν) from I.hok a _ hq);exact PySem.W.kia_one PySem.W.kitx_dict I.kIn ⟨o,e,hc.1⟩ ht 'p' fin
noncomputable def qa6a(T:String):Bool:=T == "int" || T == "str" || T == "bool" || T == "list" || T == "tuple" || T == "dict"
def kit_ok(K:W.Frag)(d:PyData)(T:String)(hT:qa6a T=true):PySem.W.kitOne K (.type (tyD d)) (.type T)=some (isD T d):=by
 simp only [qa6a,Bool.or_eq_true,beq_iff_eq] at hT;rcases hT with((((rfl | rfl) | rfl) | rfl) | rfl) | rfl<;>cases d<;>rfl
def qc8k:qa1z X (.builtin "isinstance") (fun xs H Q=>∃ v S d T,xs=[v,.ty T]/\AtD X.K H S d v/\qa6a T=true/\Q (.bl (isD T d)) H):=by
 intro pins s σ H xs us Q I rs h;obtain⟨v,S,d,T,rfl,hd,hT,q⟩:=h;obtain⟨u,u2,rfl,r1,r2⟩:=rs.two;cases r2;exact qc8j I hd r1 (kit_ok X.K d T hT) q
end
section
variable{X:Cx}{tg:Expr}
def iDat(K:W.Frag)(tl:TE):TI:=fun σ H R=>tl σ H fun x H1=>(∃ a,x=.ref a/\(∃ xs,SqT K H1 a xs)/\R (Itt K a) H1) ∨ (∃ a,x=.ref a/\(∃ xs,SqL K H1 a xs)/\R (Itl K a) H1)
def pi_dat{l:Expr}{tl:TE}(hl:PE X l tl):PI X tg l (iDat X.K tl):=by
 intro pins s σ H R I h;refine thn (hl pins s σ H (fun x H1=>(∃ a,x=.ref a/\(∃ xs,SqT X.K H1 a xs)/\R (Itt X.K a) H1) ∨ (∃ a,x=.ref a/\(∃ xs,SqL X.K H1 a xs)/\R (Itl X.K a) H1)) I h) fun v s1 hq9=>?_;obtain⟨x,H1,I1,r1,q1⟩:=hq9;rcases q1 with⟨a,rfl,⟨xs,hq⟩,q⟩ | ⟨a,rfl,⟨xs,hq⟩,q⟩
 ·cases r1
  obtain⟨its,rv,p,hz⟩:=I1.tuple hq;refine wpAny_pyIter_tuple (show s1.heap.IsTuple a its.toArray from p) ?_;refine⟨s1.heap.objs.size,[s1.heap.objs.size],_,_,H1,rfl,I1.kept (t':=s1.toks) fun b o e=>get?_push_of_some _ e,qc3b a _,⟨_,get?_push_size _ rfl,rfl,rfl⟩,fun b hb=>?_,q⟩;have e:b=s1.heap.objs.size:=by simpa using hb
  subst e;exact I1.fpOk 'e' (I1.hok.fresh 'e')
 ·cases r1
  obtain⟨its,rv,p,hz⟩:=I1.list hq;refine wpAny_pyIter_list p.isList ?_;refine⟨s1.heap.objs.size,[s1.heap.objs.size],_,_,H1,rfl,I1.kept (t':=s1.toks) fun b o e=>get?_push_of_some _ e,qc5e a _,⟨_,get?_push_size _ rfl,rfl,rfl⟩,fun b hb=>?_,q⟩;have e:b=s1.heap.objs.size:=by simpa using hb
  subst e;exact I1.fpOk 'e' (I1.hok.fresh 'e')
end
def WalkD(J:It)(σ:St)(H:Hp)(go:V->St->Hp->(St->Hp->Prop)->Prop)(done:St->Hp->Prop):Prop:=
 ∃ W:Nat->Nat->St->Hp->Prop,(∃ m,W 0 m σ H)/\∀ i m σ H,W i m σ H ->
  (J.stop i H/\done σ H) ∨ (J.go i H/\∃ N:St->Hp->Prop,(∀ σ' H',N σ' H'->∃ m',m' < m/\W (i + 1) m' σ' H')/\∀ x H',J.yld i H x H'->go x σ H' N)
def qc5y{own:List Str}{cap:List 'q'}{g:TG}{tt:TT}{te:TE}{J:It}{D:Addr}{σ:St}{H1:Hp}{Z:Hp->Prop}
  (h:WalkD J (qa6j own cap σ) (upd H1 D (.lst [])) (fun x σ' H'' N=>g x σ' H'' fun σ2 H2=>tt σ2 H2 fun b H3=>if b=true then te σ2 H3 fun y H4=>∃ ys,H4 D=some (.lst ys)/\ys.length < sizeLine/\N σ2 (upd H4 D (.lst (ys ++ [y]))) else N σ2 H3) (fun _ H'=>Z H')) :
  qb2q own cap g tt te J D σ H1 Z:=h
end
end L2
section
namespace L2
open PySem PySem.Spec PyProof.Rows
structure Def(K:W.Frag)(mg:Str->Option Value)(x:Str)(st:Stmt)(ps:List Str)(f:Addr)(fd:FuncData):Prop where
 fn:Fun K x x st f fd
 bd:Binds K fd ps []
 gl:mg x=some (.ref f)
section
variable{X:Cx}{k:Nat}{f:Addr}{fd:FuncData}{ps:List Str}{sp:Sp}{x:Str}{st:Stmt}{p pos:Pos}{e:Expr}{es:List Expr}{t:TA}
def qb2r(d:Def X.K X.mg x st ps f fd)(g:FnOk X.prog X.w X.K X.mg X.base CX0 k f fd ps sp)(hr:Room k X.A)(hg:Gl X x)(ha:PA X (e :: es) t) (hdb:(x == ("__debug__" : Str))=false:=by decide)
  (he:starEach (e :: es) X.env=(false,eval e X.env) :: starEach es X.env:=by rfl) (hpl:(backTo pos (starEach es X.env)).any (·.1)=false:=by rfl):PE X (.Call (.Name x p) (e :: es) [] pos) (tCall sp [] E0 t):=
 pe_call g hr hg d.gl d.fn.kp d.bd .nil pass0 ha hdb he hpl
end
section
variable{X:Cx}
def ints_of_all{K:W.Frag}{H:Hp}{S:Addr->Prop}:∀ {ns:List Int} {xs:List V},qa0c K H S (ns.map .int) xs->xs=ns.map V.int
 | [],xs,h=>by rw [h.unnil];rfl
 | n :: r,xs,h=>by
  obtain⟨v,vr,rfl,hd,t⟩:=h.uncons;rw [qa8d hd,ints_of_all t];rfl
end
end L2
namespace L2
open PySem PySem.Spec PyProof.Rows
def Frs(S:Addr->Prop)(H:Hp):Prop:=∀ p,H p=none->S p
section
variable{K:W.Frag}{S:Addr->Prop}{σ:St}{H:Hp}{d:PyData}{ds:List PyData}{t te:TE}{ta:TA}
def atI_in{α:Type}{xs:List α}{i:Int}(h0:0 <= i)(h1:i < xs.length):∃ x,atI xs i=some x/\x ∈ xs/\xs[i.toNat]? = some x:=by
 have hk:i.toNat < xs.length:=by omega
 have ei:i=((i.toNat:Nat):Int):=by omega
 have q:atI xs ((i.toNat:Nat):Int)=some xs[i.toNat]:=qa7v (getElem?_eq_getElem hk);rw [← ei] at q;exact⟨_,q,getElem_mem hk,getElem?_eq_getElem hk⟩
end
end L2
end
namespace L2
open PySem PySem.Spec PyProof.Rows
section
inductive Ents (w:World):List DictEntry->List (Str × V)->Prop where
 | nil:Ents w [] []
 | cons {x:Str} {t:Tok} {u:Value} {v:V} {es:List DictEntry} {kvs:List (Str × V)}:RelV v u->Ents w es kvs->Ents w (⟨PyData.keyHash w.params x,.str x t,u⟩ :: es) ((x,v) :: kvs)
end
section
inductive L where
 /-- data that nobody changes any more -/
 | d (x:PyData)
 /-- a list that this name alone has -/
 | own (xs:List PyData)
 /-- a list of a caller's, lent to be changed -/
 | bor (xs:List PyData)
 /-- the tape: the script and how many draws were made -/
 | tape (k:Nat)
 /-- the script -/
 | scr
abbrev Rho:=List (Option L)
abbrev Own:=Nat->Option Addr
structure Rc where
 H0:Hp
 S:Addr->Prop
 P:Addr->Prop
 M:Addr->Prop
 A:Addr->Prop
 B:Addr->Prop
 lent:Own
 sa:Addr
 ns:List Int
noncomputable def isIO:L->Bool
 | .bor _=>true
 | .tape _=>true
 | _=>false
noncomputable def live(c:Rc)(O:Own):Addr->Prop:=fun a=>c.S a/\¬ c.P a/\∀ i,O i ≠ some a
def qb0a(c:Rc)(p:Addr):Prop:=¬ c.B p/\c.S p/\¬ c.P p
def Scr(K:W.Frag)(H:Hp)(a:Addr)(xs:List V):Prop:=xs.length <= 63 /\
 ((∃ o,H a=some (.frz o (.lst xs))) ∨ ∃ (o:Obj) (its:Array Value) (n:Nat),K.lookup a=some o/\o.cls=.type "list" /\ o.dict=none/\o.data=.seq its n/\its.size <= sizeLine/\Vals xs its.toList)
def Scr.seq{K:W.Frag}{H:Hp}{a:Addr}{xs:List V}(h:Scr K H a xs):SqL K H a xs:=by
 rcases h.2 with⟨o,h⟩ | h
 ·exact .inl (.inr ⟨o,h⟩)
 ·exact .inr h
structure Rel(K:W.Frag)(c:Rc)(O:Own)(ρ:Rho)(σ:St)(H:Hp):Prop where
 dat:∀ (i:Nat) (x:PyData),ρ[i]? = some (some (L.d x))->∃ v,σ[i]? = some (some v)/\AtD K H (live c O) x v
 own:∀ (i:Nat) (xs:List PyData),ρ[i]? = some (some (.own xs))->∃ p vs,O i=some p/\qb0a c p/\σ[i]? = some (some (.ref p))/\H p=some (.lst vs)/\qa0c K H (live c O) xs vs
 bor:∀ (i:Nat) (xs:List PyData),ρ[i]? = some (some (.bor xs))->∃ p vs,O i=some p/\σ[i]? = some (some (.ref p))/\H p=some (.lst vs)/\qa0c K H (live c O) xs vs
 tap:∀ (i k:Nat),ρ[i]? = some (some (.tape k))->∃ p,O i=some p/\σ[i]? = some (some (.ref p))/\H p=some (.lst [.ref c.sa,.int k])
 scr:∀ i:Nat,ρ[i]? = some (some .scr)->σ[i]? = some (some (.ref c.sa))
 inj:∀ i j p,O i=some p->O j=some p->i=j
 has':∀ i p,O i=some p->c.A p/\∃ vs,H p=some (.lst vs)
 am:∀ p,c.A p->c.M p ∨ c.H0 p=none
 frs:∀ p,c.H0 p=none->c.S p
 same:∀ b o,¬ c.M b->c.H0 b=some o->H b=some o
 kept:∀ b,c.H0 b ≠ none->H b ≠ none
 ml:∀ p,c.M p->∃ vs,H p=some (.lst vs)
 pin:∀ p,c.P p ∨ c.B p->H p ≠ none
 lnt:∀ (i:Nat) (p:Addr),c.lent i=some p->∀ l:L,ρ[i]? = some (some l)->isIO l=true->O i=some p
 sc:Scr K H c.sa (c.ns.map V.int)
 len:σ.length=ρ.length
def Rel.has{K:W.Frag}{c:Rc}{O:Own}{ρ:Rho}{σ:St}{H:Hp}(R:Rel K c O ρ σ H)(i:Nat)(p:Addr)(h:O i=some p):(c.M p ∨ c.H0 p=none)/\∃ vs,H p=some (.lst vs):=⟨R.am p (R.has' i p h).1,(R.has' i p h).2⟩
def Pers(K:W.Frag)(S:Addr->Prop)(H:Hp)(S':Addr->Prop)(H':Hp):Prop:=∀ d v,AtD K H S d v->AtD K H' S' d v
section
variable{K:W.Frag}{S S' S2:Addr->Prop}{H H' H2:Hp}
def Pers.refl:Pers K S H S H:=fun _ _ h=>h
def Pers.trans(a:Pers K S H S' H')(b:Pers K S' H' S2 H2):Pers K S H S2 H2:=fun d v h=>b d v (a d v h)
def Pers.all(a:Pers K S H S' H'):∀ {ds:List PyData} {vs:List V},qa0c K H S ds vs->qa0c K H' S' ds vs
 | [],_,h=>by rw [h.unnil];exact .nil
 | d :: ds,vs,h=>by
  obtain⟨v,r,rfl,h1,h2⟩:=h.uncons;exact .cons (a d v h1) (Pers.all a h2)
def Pers.kvs(a:Pers K S H S' H'):∀ {ds:List 'i'} {vs:List (Key × V)},qa0e K H S ds vs->qa0e K H' S' ds vs
 | [],_,h=>by rw [h.unnil];exact .nil
 | (x,d) :: ds,vs,h=>by
  obtain⟨k,v,r,rfl,rfl,h1,h2⟩:=h.uncons;exact .cons (a d v h1) (Pers.kvs a h2)
def Pers.of(e:Keep S H H')(m:∀ a,S a->S' a):Pers K S H S' H':=fun d v h=>AtD.more m d v (AtD.mono e d v h)
def Pers.same(e:Same H H'):Pers K S H S H':=.of e.keep fun _ h=>h
mutual
def AtD.less{p:Addr}(hp:H p=none)(hs:∀ a,S a->a ≠ p->S' a):∀ (d:PyData) (v:V),AtD K H S d v->AtD K H S' d v
 | .none,_,h=>by unfold AtD at h ⊢;exact h
 | .bool _,_,h=>by unfold AtD at h ⊢;exact h
 | .int _,_,h=>by unfold AtD at h ⊢;exact h
 | .str _,_,h=>by unfold AtD at h ⊢;exact h
 | .list ds,v,h=>by
  obtain⟨a,xs,e1,s,q,r⟩:=qa3q h;subst e1;exact qa2o (hs a s (qa1q q hp)) q (qa0c.less hp hs ds xs r)
 | .tuple ds,v,h=>by
  obtain⟨a,xs,e1,q,r⟩:=qa2w h;subst e1;exact qa3u q (qa0c.less hp hs ds xs r)
 | .dict kvs,v,h=>by
  obtain⟨a,ν,e1,s,q,e2⟩:=qa9n h;subst e1;exact qa4y (hs a s (qa1q q hp)) q (qa0e.less hp hs kvs ν e2)
def qa0c.less{p:Addr}(hp:H p=none)(hs:∀ a,S a->a ≠ p->S' a):∀ (ds:List PyData) (vs:List V),qa0c K H S ds vs->qa0c K H S' ds vs
 | [],_,h=>by rw [h.unnil];exact .nil
 | d :: ds,vs,h=>by
  obtain⟨v,r,rfl,h1,h2⟩:=h.uncons;exact .cons (AtD.less hp hs d v h1) (qa0c.less hp hs ds r h2)
def qa0e.less{p:Addr}(hp:H p=none)(hs:∀ a,S a->a ≠ p->S' a):∀ (kvs:List 'i') (κ:List (Key × V)),qa0e K H S kvs κ->qa0e K H S' kvs κ
 | [],_,h=>by rw [h.unnil];exact .nil
 | (x,d) :: r,κ,h=>by
  obtain⟨k,v,t,rfl,rfl,h1,h2⟩:=h.uncons;exact .cons (AtD.less hp hs d v h1) (qa0e.less hp hs r t h2)
end
def Pers.new{p:Addr}(hp:H p=none)(hs:∀ a,S a->a ≠ p->S' a)(o:HO):Pers K S H S' (upd H p o):=fun d v h =>
 AtD.mono (qa0v hp o).keep d v (AtD.less hp hs d v h)
end
section
variable{K:W.Frag}{c:Rc}{O:Own}{ρ:Rho}{σ:St}{H H':Hp}
def Scr.keep{a:Addr}{xs:List V}{S:Addr->Prop}(h:Scr K H a xs)(e:Keep S H H'):Scr K H' a xs:=by
 refine⟨h.1,?_⟩;rcases h.2 with⟨o,h⟩ | h
 ·exact .inl ⟨o,e.2.1 _ _ _ h⟩
 ·exact .inr h
def Rel.to{c':Rc}{O':Own}(R:Rel K c O ρ σ H)(hO:∀ i,O' i=O i)(hB:∀ i p,O i=some p->qb0a c p->qb0a c' p)(hsa:c'.sa=c.sa)(hns:c'.ns=c.ns)
  (hp:Pers K (live c O) H (live c' O') H') (ho:∀ i p vs,O i=some p->H p=some (.lst vs)->H' p=some (.lst vs))
  (hA:∀ i p,O i=some p->c.A p->c'.A p) (am:∀ p,c'.A p->c'.M p ∨ c'.H0 p=none) (frs:∀ p,c'.H0 p=none->c'.S p) (same:∀ b o,¬ c'.M b->c'.H0 b=some o->H' b=some o) (kept:∀ b,c'.H0 b ≠ none->H' b ≠ none) (ml:∀ p,c'.M p->∃ vs,H' p=some (.lst vs))
  (pin:∀ p,c'.P p ∨ c'.B p->H' p ≠ none) (hl:∀ i,c'.lent i=c.lent i) (sc:Scr K H' c.sa (c.ns.map V.int)):Rel K c' O' ρ σ H' where
 dat i x e:=by obtain⟨v,h1,h2⟩:=R.dat i x e;exact⟨v,h1,hp _ _ h2⟩
 own i xs e:=by obtain⟨p,vs,h1,h2,h3,h4,h5⟩:=R.own i xs e;exact⟨p,vs,(hO i).trans h1,hB i p h1 h2,h3,ho i p vs h1 h4,hp.all h5⟩
 bor i xs e:=by obtain⟨p,vs,h1,h3,h4,h5⟩:=R.bor i xs e;exact⟨p,vs,(hO i).trans h1,h3,ho i p vs h1 h4,hp.all h5⟩
 tap i k e:=by obtain⟨p,h1,h2,h3⟩:=R.tap i k e;exact⟨p,(hO i).trans h1,h2,by rw [hsa];exact ho i p _ h1 h3⟩
 scr i e:=by rw [hsa];exact R.scr i e
 inj i j p e1 e2:=R.inj i j p ((hO i).symm.trans e1) ((hO j).symm.trans e2)
 has' i p e:=by
  have e':=(hO i).symm.trans e;obtain⟨h0,vs,h⟩:=R.has' i p e';exact⟨hA i p e' h0,vs,ho i p vs e' h⟩
 am:=am
 frs:=frs
 same:=same
 kept:=kept
 ml:=ml
 pin:=pin
 lnt i p e l h1 h2:=(hO i).trans (R.lnt i p ((hl i).symm.trans e) l h1 h2)
 sc:=by rw [hsa,hns];exact sc
 len:=R.len
def qc8l{i:Nat}{p:Addr}(h:O i=some p):¬ live c O p:=fun z=>z.2.2 i h
def Rel.grow(R:Rel K c O ρ σ H)(e:Same H H'):Rel K c O ρ σ H':=
 R.to (fun _=>rfl) (fun _ _ _ z=>z) rfl rfl (.same e) (fun i p vs _ q=>e _ _ q) (fun _ _ _ z=>z) R.am R.frs (fun b o n q=>e _ _ (R.same b o n q))
  (fun b n z=>R.kept b n (e.free z)) (fun p h=>let ⟨vs,q⟩:=R.ml p h;⟨vs,e _ _ q⟩) (fun p h z=>R.pin p h (e.free z)) (fun _=>rfl) (R.sc.keep (S:=Any) e.keep)
def Rel.free0(R:Rel K c O ρ σ H){p:Addr}(h:H p=none):c.H0 p=none:=by
 cases q:c.H0 p with
 | none=>rfl
 | some o=>exact absurd h (R.kept p (by rw [q];exact fun z=>nomatch z))
def Rel.liveNew(R:Rel K c O ρ σ H){p:Addr}(h:H p=none):live c O p:=
 ⟨R.frs p (R.free0 h),fun z=>R.pin p (.inl z) h,fun i e=>by obtain⟨_,vs,q⟩:=R.has i p e;rw [h] at q;cases q⟩
def Rel.frsLive(R:Rel K c O ρ σ H):Frs (live c O) H:=fun _ h=>R.liveNew h
def Rel.write{i:Nat}{p:Addr}{xs:List PyData}{vs vs':List V}{l:L}(R:Rel K c O ρ σ H)(hO:O i=some p)(hH:H p=some (.lst vs))
  (hl:ρ[i]? = some (some (.own xs)) ∨ ρ[i]? = some (some (.bor xs)) ∨ ∃ k:Nat,ρ[i]? = some (some (.tape k)))
  (hl':(∃ ys,ρ[i]? = some (some (.own xs))/\l=.own ys/\qa0c K H (live c O) ys vs') ∨ (∃ ys,ρ[i]? = some (some (.bor xs))/\l=.bor ys/\qa0c K H (live c O) ys vs') ∨ (∃ k k':Nat,ρ[i]? = some (some (.tape k))/\l=.tape k'/\vs'=[.ref c.sa,.int k'])) :
  Rel K c O (ρ.set i (some l)) σ (upd H p (.lst vs'))/\Pers K (live c O) H (live c O) (upd H p (.lst vs')):=by
 have hi:i < ρ.length:=by
  rcases hl with h | h | ⟨k,h⟩<;>exact(List.getElem?_eq_some_iff.mp h).1
 have kp:Keep (live c O) H (upd H p (.lst vs')):=(qc5v hH).less fun b hb e=>by
  subst e;exact qc8l hO hb
 have P:Pers K (live c O) H (live c O) (upd H p (.lst vs')):=.of kp fun _ h=>h;have at_i:(ρ.set i (some l))[i]? = some (some l):=by rw [getElem?_set_self hi]
 have at_j:∀ j,j ≠ i->(ρ.set i (some l))[j]? = ρ[j]?:=fun j hj=>getElem?_set_ne (Ne.symm hj);have other:∀ j q,j ≠ i->O j=some q->q ≠ p:=fun j q hj e z=>hj (R.inj j i p (by rw [← z];exact e) hO);have hσ:σ[i]? = some (some (.ref p)):=by
  rcases hl with h | h | ⟨k,h⟩
  ·obtain⟨p',_,h1,_,h3,_⟩:=R.own i xs h;rw [hO] at h1;cases h1;exact h3
  ·obtain⟨p',_,h1,h3,_⟩:=R.bor i xs h;rw [hO] at h1;cases h1;exact h3
  ·obtain⟨p',h1,h3,_⟩:=R.tap i k h;rw [hO] at h1;cases h1;exact h3
 refine⟨⟨fun j x e=>?_,fun j ys e=>?_,fun j ys e=>?_,fun j k e=>?_,fun j e=>?_,R.inj,fun j q e=>?_,R.am,R.frs,fun b o n q=>?_,fun b n z=>?_,fun q h=>?_,fun q h z=>?_,fun j q e l2 h1 h2=>?_,?_,?_⟩,P⟩
 ·by_cases hj:j=i
  ·subst hj;rw [at_i] at e
   rcases hl' with⟨ys,_,rfl,_⟩ | ⟨ys,_,rfl,_⟩ | ⟨k,k',_,rfl,_⟩<;>cases e
  ·rw [at_j j hj] at e
   obtain⟨v,h1,h2⟩:=R.dat j x e;exact⟨v,h1,P _ _ h2⟩
 ·by_cases hj:j=i
  ·subst hj;rw [at_i] at e
   rcases hl' with⟨zs,h0,rfl,h⟩ | ⟨zs,_,rfl,_⟩ | ⟨k,k',_,rfl,_⟩<;>cases e
   obtain⟨p',_,h1,h2,h3,_⟩:=R.own j xs h0;rw [hO] at h1;cases h1;exact⟨p,vs',hO,h2,h3,qa0h,P.all h⟩
  ·rw [at_j j hj] at e
   obtain⟨q,ws,h1,h2,h3,h4,h5⟩:=R.own j ys e;exact⟨q,ws,h1,h2,h3,by rw [qa0f (other j q hj h1)];exact h4,P.all h5⟩
 ·by_cases hj:j=i
  ·subst hj;rw [at_i] at e
   rcases hl' with⟨zs,_,rfl,_⟩ | ⟨zs,h0,rfl,h⟩ | ⟨k,k',_,rfl,_⟩<;>cases e
   exact⟨p,vs',hO,hσ,qa0h,P.all h⟩
  ·rw [at_j j hj] at e
   obtain⟨q,ws,h1,h3,h4,h5⟩:=R.bor j ys e;exact⟨q,ws,h1,h3,by rw [qa0f (other j q hj h1)];exact h4,P.all h5⟩
 ·by_cases hj:j=i
  ·subst hj;rw [at_i] at e
   rcases hl' with⟨zs,_,rfl,_⟩ | ⟨zs,_,rfl,_⟩ | ⟨k1,k',_,rfl,h⟩<;>cases e
   exact⟨p,hO,hσ,by rw [qa0h,h]⟩
  ·rw [at_j j hj] at e
   obtain⟨q,h1,h3,h4⟩:=R.tap j k e;exact⟨q,h1,h3,by rw [qa0f (other j q hj h1)];exact h4⟩
 ·by_cases hj:j=i
  ·subst hj;rw [at_i] at e
   rcases hl' with⟨ys,_,rfl,_⟩ | ⟨ys,_,rfl,_⟩ | ⟨k,k',_,rfl,_⟩<;>cases e
  ·rw [at_j j hj] at e
   exact R.scr j e
 ·obtain⟨h1,ws,h2⟩:=R.has' j q e
  refine⟨h1,?_⟩;by_cases hq:q=p
  ·subst hq;exact⟨vs',qa0h⟩
  ·exact⟨ws,by rw [qa0f hq];exact h2⟩
 ·have hb:b ≠ p:=by
   rintro rfl;rcases (R.has i b hO).1 with z | z
   ·exact n z
   ·rw [z] at q;cases q
  rw [qa0f hb];exact R.same b o n q
 ·by_cases hb:b=p
  ·subst hb;rw [qa0h] at z;cases z
  ·rw [qa0f hb] at z;exact R.kept b n z
 ·obtain⟨ws,h2⟩:=R.ml q h
  by_cases hq:q=p
  ·subst hq;exact⟨vs',qa0h⟩
  ·exact⟨ws,by rw [qa0f hq];exact h2⟩
 ·by_cases hb:q=p
  ·subst hb;rw [qa0h] at z;cases z
  ·rw [qa0f hb] at z;exact R.pin q h z
 ·by_cases hj:j=i
  ·subst hj;rw [at_i] at h1;cases h1
   rcases hl' with⟨zs,_,rfl,_⟩ | ⟨zs,h0,rfl,_⟩ | ⟨k1,k',h0,rfl,_⟩
   ·cases h2
   ·exact R.lnt j q e _ h0 rfl
   ·exact R.lnt j q e _ h0 rfl
  ·rw [at_j j hj] at h1;exact R.lnt j q e _ h1 h2
 ·exact R.sc.keep kp
 ·rw [length_set];exact R.len
noncomputable def qa2p(O:Own)(i:Nat):Own:=fun j=>if j=i then none else O j
def qb3j{i:Nat}{a:Addr}(h:live c O a):live c (qa2p O i) a:=⟨h.1,h.2.1,fun j e=>by
 unfold qa2p at e;by_cases hj:j=i
 ·rw [if_pos hj] at e;cases e
 ·rw [if_neg hj] at e;exact h.2.2 j e⟩
def qa3l{i j:Nat}(h:j ≠ i):qa2p O i j=O j:=if_neg h
def qc3t{i:Nat}:qa2p O i i=none:=if_pos rfl
def qa3m{i j:Nat}{p:Addr}(e:qa2p O i j=some p):j ≠ i/\O j=some p:=by
 by_cases hj:j=i
 ·subst hj;rw [qc3t] at e;cases e
 ·rw [qa3l hj] at e;exact⟨hj,e⟩
def Rel.freeze{i:Nat}{xs:List PyData}(R:Rel K c O ρ σ H)(hl:ρ[i]? = some (some (.own xs))) :
  Rel K c (qa2p O i) (ρ.set i (some (.d (.list xs)))) σ H/\Pers K (live c O) H (live c (qa2p O i)) H:=by
 obtain⟨p,vs,hO,hB,hσ,hH,hA⟩:=R.own i xs hl;have hi:i < ρ.length:=(List.getElem?_eq_some_iff.mp hl).1;have P:Pers K (live c O) H (live c (qa2p O i)) H:=.of (Keep.refl _ _) fun _ h=>qb3j h;have at_i:(ρ.set i (some (.d (.list xs))))[i]? = some (some (.d (.list xs))):=by rw [getElem?_set_self hi]
 have at_j:∀ j,j ≠ i->(ρ.set i (some (.d (.list xs))))[j]? = ρ[j]?:=fun j hj=>getElem?_set_ne (Ne.symm hj);have ne:∀ {j:Nat} {l:L},(ρ.set i (some (.d (.list xs))))[j]? = some (some l)->(∀ x,l ≠ .d x)->j ≠ i/\ρ[j]? = some (some l):=fun{j l} e n=>by
  by_cases hj:j=i
  ·subst hj;rw [at_i] at e;cases e;exact absurd rfl (n _)
  ·rw [at_j j hj] at e;exact⟨hj,e⟩
 refine⟨⟨fun j x e=>?_,fun j ys e=>?_,fun j ys e=>?_,fun j k e=>?_,fun j e=>?_,fun a b q e1 e2=>R.inj a b q (qa3m e1).2 (qa3m e2).2,fun j q e=>R.has' j q (qa3m e).2,R.am,R.frs,R.same,R.kept,R.ml,R.pin,fun j q e l h1 h2=>?_,R.sc,?_⟩,P⟩
 ·by_cases hj:j=i
  ·subst hj;rw [at_i] at e;cases e
   refine⟨.ref p,hσ,qa2o ⟨hB.2.1,hB.2.2,fun k e=>?_⟩ hH (P.all hA)⟩;obtain⟨h1,h2⟩:=qa3m e;exact h1 (R.inj k j p h2 hO)
  ·rw [at_j j hj] at e
   obtain⟨v,h1,h2⟩:=R.dat j x e;exact⟨v,h1,P _ _ h2⟩
 ·obtain⟨hj,e⟩:=ne e fun _ z=>nomatch z
  obtain⟨q,ws,h1,h2,h3,h4,h5⟩:=R.own j ys e;exact⟨q,ws,(qa3l hj).trans h1,h2,h3,h4,P.all h5⟩
 ·obtain⟨hj,e⟩:=ne e fun _ z=>nomatch z
  obtain⟨q,ws,h1,h3,h4,h5⟩:=R.bor j ys e;exact⟨q,ws,(qa3l hj).trans h1,h3,h4,P.all h5⟩
 ·obtain⟨hj,e⟩:=ne e fun _ z=>nomatch z
  obtain⟨q,h1,h3,h4⟩:=R.tap j k e;exact⟨q,(qa3l hj).trans h1,h3,h4⟩
 ·obtain⟨hj,e⟩:=ne e fun _ z=>nomatch z
  exact R.scr j e
 ·obtain⟨hj,e'⟩:=ne h1 fun x z=>by subst z;cases h2
  rw [qa3l hj];exact R.lnt j q e _ e' h2
 ·rw [length_set];exact R.len
def Rel.setD{i:Nat}{x:PyData}{v:V}(R:Rel K c O ρ σ H)(hi:i < ρ.length)(h:AtD K H (live c O) x v) :
  Rel K c (qa2p O i) (ρ.set i (some (.d x))) (σ.set i (some v)) H/\Pers K (live c O) H (live c (qa2p O i)) H:=by
 have P:Pers K (live c O) H (live c (qa2p O i)) H:=.of (Keep.refl _ _) fun _ h=>qb3j h;have at_i:∀ l:Option L,(ρ.set i l)[i]? = some l:=fun l=>by rw [getElem?_set_self hi]
 have at_j:∀ (l:Option L) j,j ≠ i->(ρ.set i l)[j]? = ρ[j]?:=fun l j hj=>getElem?_set_ne (Ne.symm hj);have st_j:∀ j,j ≠ i->(σ.set i (some v))[j]? = σ[j]?:=fun j hj=>getElem?_set_ne (Ne.symm hj);have ne:∀ {j:Nat} {l:L},(ρ.set i (some (.d x)))[j]? = some (some l)->(∀ x,l ≠ .d x)->j ≠ i/\ρ[j]? = some (some l):=fun{j l} e n=>by
  by_cases hj:j=i
  ·subst hj;rw [at_i] at e;cases e;exact absurd rfl (n _)
  ·rw [at_j _ j hj] at e;exact⟨hj,e⟩
 refine⟨⟨fun j y e=>?_,fun j ys e=>?_,fun j ys e=>?_,fun j k e=>?_,fun j e=>?_,fun a b q e1 e2=>R.inj a b q (qa3m e1).2 (qa3m e2).2,fun j q e=>R.has' j q (qa3m e).2,R.am,R.frs,R.same,R.kept,R.ml,R.pin,fun j q e l h1 h2=>?_,R.sc,?_⟩,P⟩
 ·by_cases hj:j=i
  ·subst hj;rw [at_i] at e;cases e
   exact⟨v,by rw [getElem?_set_self (by rw [R.len];exact hi)],P _ _ h⟩
  ·rw [at_j _ j hj] at e
   obtain⟨v,h1,h2⟩:=R.dat j y e;exact⟨v,by rw [st_j j hj];exact h1,P _ _ h2⟩
 ·obtain⟨hj,e⟩:=ne e fun _ z=>nomatch z
  obtain⟨q,ws,h1,h2,h3,h4,h5⟩:=R.own j ys e;exact⟨q,ws,(qa3l hj).trans h1,h2,by rw [st_j j hj];exact h3,h4,P.all h5⟩
 ·obtain⟨hj,e⟩:=ne e fun _ z=>nomatch z
  obtain⟨q,ws,h1,h3,h4,h5⟩:=R.bor j ys e;exact⟨q,ws,(qa3l hj).trans h1,by rw [st_j j hj];exact h3,h4,P.all h5⟩
 ·obtain⟨hj,e⟩:=ne e fun _ z=>nomatch z
  obtain⟨q,h1,h3,h4⟩:=R.tap j k e;exact⟨q,(qa3l hj).trans h1,by rw [st_j j hj];exact h3,h4⟩
 ·obtain⟨hj,e⟩:=ne e fun _ z=>nomatch z
  rw [st_j j hj];exact R.scr j e
 ·obtain⟨hj,e'⟩:=ne h1 fun x z=>by subst z;cases h2
  rw [qa3l hj];exact R.lnt j q e _ e' h2
 ·rw [length_set,length_set];exact R.len
noncomputable def Rc.add(c:Rc)(p:Addr):Rc:={ c with P:=fun a=>c.P a ∨ a=p }
def qb0b{p a:Addr}(h:live c O a)(n:a ≠ p):live (c.add p) O a:=⟨h.1,fun z=>z.elim h.2.1 n,h.2.2⟩
def qa5h{p a:Addr}(h:live (c.add p) O a):live c O a/\a ≠ p:=⟨⟨h.1,fun z=>h.2.1 (.inl z),h.2.2⟩,fun z=>h.2.1 (.inr z)⟩
def Rel.lay{p:Addr}{o:HO}(R:Rel K c O ρ σ H)(hp:H p=none):Rel K (c.add p) O ρ σ (upd H p o)/\Pers K (live c O) H (live (c.add p) O) (upd H p o):=by
 have P:Pers K (live c O) H (live (c.add p) O) (upd H p o):=.new hp (fun a h n=>qb0b h n) o;have S:=qa0v hp o;refine⟨R.to (fun _=>rfl) (fun i q hq z=>⟨z.1,z.2.1,fun w=>w.elim z.2.2 fun e=>?_⟩) rfl rfl P (fun i q vs _ h=>S _ _ h) (fun _ _ _ z=>z) R.am R.frs (fun b ob n q=>S _ _ (R.same b ob n q))
  (fun b n z=>R.kept b n (S.free z)) (fun p h=>let ⟨vs,q⟩:=R.ml p h;⟨vs,S _ _ q⟩) (fun q h z=>?_) (fun _=>rfl) (R.sc.keep (S:=Any) S.keep),P⟩
 ·obtain⟨_,vs,h⟩:=R.has i q hq
  rw [e,hp] at h;cases h
 ·rcases h with(h | rfl) | h
  ·exact R.pin q (.inl h) (S.free z)
  ·rw [qa0h] at z;cases z
  ·exact R.pin q (.inr h) (S.free z)
def Rel.unadd{p:Addr}(R:Rel K (c.add p) O ρ σ H):Rel K c O ρ σ H/\Pers K (live (c.add p) O) H (live c O) H:=by
 have P:Pers K (live (c.add p) O) H (live c O) H:=.of (Keep.refl _ _) fun a h=>(qa5h h).1;exact⟨R.to (fun _=>rfl) (fun i q _ z=>⟨z.1,z.2.1,fun w=>z.2.2 (.inl w)⟩) rfl rfl P (fun _ _ _ _ h=>h) (fun _ _ _ z=>z) R.am R.frs R.same R.kept R.ml (fun q h=>R.pin q (h.elim (fun z=>.inl (.inl z)) .inr)) (fun _=>rfl) R.sc,P⟩
noncomputable def owned(O:Own)(i:Nat)(p:Addr):Own:=fun j=>if j=i then some p else O j
def qa6b{i j:Nat}{p:Addr}(h:j ≠ i):owned O i p j=O j:=if_neg h
def qb0c{i:Nat}{p:Addr}:owned O i p i=some p:=if_pos rfl
def Rel.setOwn{i:Nat}{p:Addr}{xs:List PyData}{vs:List V}(R:Rel K (c.add p) O ρ σ H)(hi:i < ρ.length)(h0:c.H0 p=none)(hB:¬ c.B p)(hP:¬ c.P p)(hn:∀ j,O j ≠ some p)(hAp:c.A p)(hH:H p=some (.lst vs))(hA:qa0c K H (live (c.add p) O) xs vs) :
  Rel K c (owned O i p) (ρ.set i (some (.own xs))) (σ.set i (some (.ref p))) H/\Pers K (live (c.add p) O) H (live c (owned O i p)) H:=by
 have P:Pers K (live (c.add p) O) H (live c (owned O i p)) H:=.of (Keep.refl _ _) fun a h=>by
  obtain⟨h1,h2⟩:=qa5h h;refine⟨h1.1,h1.2.1,fun j e=>?_⟩;by_cases hj:j=i
  ·subst hj;rw [qb0c] at e;cases e;exact h2 rfl
  ·rw [qa6b hj] at e;exact h1.2.2 j e
 have at_i:(ρ.set i (some (.own xs)))[i]? = some (some (.own xs)):=by rw [getElem?_set_self hi]
 have at_j:∀ j,j ≠ i->(ρ.set i (some (.own xs)))[j]? = ρ[j]?:=fun j hj=>getElem?_set_ne (Ne.symm hj);have st_j:∀ j,j ≠ i->(σ.set i (some (.ref p)))[j]? = σ[j]?:=fun j hj=>getElem?_set_ne (Ne.symm hj);have ne:∀ {j:Nat} {l:L},(ρ.set i (some (.own xs)))[j]? = some (some l)->(∀ x,l ≠ .own x)->j ≠ i/\ρ[j]? = some (some l):=fun{j l} e n=>by
  by_cases hj:j=i
  ·subst hj;rw [at_i] at e;cases e;exact absurd rfl (n _)
  ·rw [at_j j hj] at e;exact⟨hj,e⟩
 have ow:∀ {j:Nat} {q:Addr},owned O i p j=some q->(j=i/\q=p) ∨ (j ≠ i/\O j=some q):=fun{j q} e=>by
  by_cases hj:j=i
  ·subst hj;rw [qb0c] at e;cases e;exact .inl ⟨rfl,rfl⟩
  ·rw [qa6b hj] at e;exact .inr ⟨hj,e⟩
 refine⟨⟨fun j y e=>?_,fun j ys e=>?_,fun j ys e=>?_,fun j k e=>?_,fun j e=>?_,fun a b q e1 e2=>?_,fun j q e=>?_,R.am,R.frs,R.same,R.kept,R.ml,fun q h=>R.pin q (h.elim (fun z=>.inl (.inl z)) .inr),fun j q e l h1 h2=>?_,R.sc,?_⟩,P⟩
 ·obtain⟨hj,e⟩:=ne e fun _ z=>nomatch z
  obtain⟨v,h1,h2⟩:=R.dat j y e;exact⟨v,by rw [st_j j hj];exact h1,P _ _ h2⟩
 ·by_cases hj:j=i
  ·subst hj;rw [at_i] at e;cases e
   exact⟨p,vs,qb0c,⟨hB,R.frs p h0,hP⟩,by rw [getElem?_set_self (by rw [R.len];exact hi)],hH,P.all hA⟩
  ·rw [at_j j hj] at e
   obtain⟨q,ws,h1,h2,h3,h4,h5⟩:=R.own j ys e;exact⟨q,ws,(qa6b hj).trans h1,⟨h2.1,h2.2.1,fun z=>h2.2.2 (.inl z)⟩,by rw [st_j j hj];exact h3,h4,P.all h5⟩
 ·obtain⟨hj,e⟩:=ne e fun _ z=>nomatch z
  obtain⟨q,ws,h1,h3,h4,h5⟩:=R.bor j ys e;exact⟨q,ws,(qa6b hj).trans h1,by rw [st_j j hj];exact h3,h4,P.all h5⟩
 ·obtain⟨hj,e⟩:=ne e fun _ z=>nomatch z
  obtain⟨q,h1,h3,h4⟩:=R.tap j k e;exact⟨q,(qa6b hj).trans h1,by rw [st_j j hj];exact h3,h4⟩
 ·obtain⟨hj,e⟩:=ne e fun _ z=>nomatch z
  rw [st_j j hj];exact R.scr j e
 ·rcases ow e1 with⟨h1,h2⟩ | ⟨h1,h2⟩<;>rcases ow e2 with⟨h3,h4⟩ | ⟨h3,h4⟩
  ·rw [h1,h3]
  ·rw [h2] at h4;exact absurd h4 (hn b)
  ·rw [h4] at h2;exact absurd h2 (hn a)
  ·exact R.inj a b q h2 h4
 ·rcases ow e with⟨h1,h2⟩ | ⟨h1,h2⟩
  ·subst h2;exact⟨hAp,vs,hH⟩
  ·exact R.has' j q h2
 ·obtain⟨hj,e'⟩:=ne h1 fun x z=>by subst z;cases h2
  rw [qa6b hj];exact R.lnt j q e _ e' h2
 ·rw [length_set,length_set];exact R.len
def Rel.forget{i:Nat}(R:Rel K c O ρ σ H):Rel K c O (ρ.set i none) σ H:=by
 have ne:∀ {j:Nat} {l:L},(ρ.set i none)[j]? = some (some l)->ρ[j]? = some (some l):=fun{j l} e=>by
  by_cases hj:j=i
  ·subst hj
   rw [List.getElem?_set] at e;split at e
   ·split at e<;>cases e
   ·exact e
  ·rw [getElem?_set_ne (Ne.symm hj)] at e;exact e
 exact⟨fun j x e=>R.dat j x (ne e),fun j x e=>R.own j x (ne e),fun j x e=>R.bor j x (ne e),fun j x e=>R.tap j x (ne e),fun j e=>R.scr j (ne e),R.inj,R.has',R.am,R.frs,R.same,R.kept,R.ml,R.pin,fun j q e l h1 h2=>R.lnt j q e l (ne h1) h2,R.sc,by rw [length_set];exact R.len⟩
end
end
section
inductive DV where
 | d (x:PyData)
 | sl (i:Nat)
noncomputable def AtV(K:W.Frag)(S:Addr->Prop)(σ:St)(H:Hp):DV->V->Prop
 | .d x,v=>AtD K H S x v
 | .sl i,v=>σ[i]? = some (some v)
noncomputable def qa9o:L->Option PyData
 | .d x=>some x
 | .own xs=>some (.list xs)
 | .bor xs=>some (.list xs)
 | _=>none
noncomputable def qa0m(ρ:Rho):DV->Option PyData
 | .d x=>some x
 | .sl i=>(ρ[i]?.join).bind qa9o
def AtT(K:W.Frag)(H:Hp)(S:Addr->Prop)(x:PyData)(v:V):Prop:=AtD K H S x v ∨ ∃ ds a vs,x=.list ds/\v=.ref a/\H a=some (.lst vs)/\qa0c K H S ds vs
def need{α:Type}(o:Option α)(k:α->Prop):Prop:=match o with
 | some a=>k a
 | none=>False
theorem qa2l{α:Type}{a:α}{k:α->Prop}:need (some a) k=k a:=rfl
theorem qc5z{α:Type}{k:α->Prop}:need (none:Option α) k=False:=rfl
def ne{α:Type}{o:Option α}{k:α->Prop}(h:need o k):∃ a,o=some a/\k a:=by
 cases o with
 | none=>exact h.elim
 | some a=>exact⟨a,rfl,h⟩
def need_mk{α:Type}{o:Option α}{k:α->Prop}{a:α}(e:o=some a)(h:k a):need o k:=by rw [e];exact h
theorem itT{a b:Prop}:(if true=true then a else b)=a:=rfl
theorem itF{a b:Prop}:(if false=true then a else b)=b:=rfl
theorem mapC{α β:Type}{f:α->β}{a:α}{l:List α}:(a :: l).map f=f a :: l.map f:=rfl
theorem mapN{α β:Type}{f:α->β}:([]:List α).map f=[]:=rfl
abbrev TDE:=Rho->(DV->Rho->Prop)->Prop
abbrev TDF:=Rho->(List PyData->Rho->Prop)->Prop
abbrev TDT:=Rho->(Bool->Rho->Prop)->Prop
abbrev TDA:=Rho->(List DV->Rho->Prop)->Prop
def qb1w(c:Rc)(O:Own)(p:Addr):Prop:=c.H0 p=none/\¬ c.B p/\¬ c.P p/\∀ j,O j ≠ some p
def AdE(K:W.Frag)(t:TE)(dt:TDE):Prop:=∀ (c:Rc) (O:Own) (ρ:Rho) (σ:St) (H:Hp) (Qd:DV->Rho->Prop) (Q:VK),Rel K c O ρ σ H->dt ρ Qd ->
 (∀ x ρ' O' v H',Qd x ρ'->Rel K c O' ρ' σ H'->Pers K (live c O) H (live c O') H'->AtV K (live c O') σ H' x v->Q v H')->t σ H Q
def AdF(K:W.Frag)(t:TE)(dt:TDF):Prop:=∀ (c:Rc) (O:Own) (ρ:Rho) (σ:St) (H:Hp) (Qd:List PyData->Rho->Prop) (Q:VK),Rel K c O ρ σ H->dt ρ Qd ->
 (∀ xs ρ' O' p vs H',Qd xs ρ'->Rel K (c.add p) O' ρ' σ H'->Pers K (live c O) H (live (c.add p) O') H'->qb1w c O' p->H' p=some (.lst vs)->qa0c K H' (live (c.add p) O') xs vs->Q (.ref p) H')->t σ H Q
def AdT(K:W.Frag)(t:TT)(dt:TDT):Prop:=∀ (c:Rc) (O:Own) (ρ:Rho) (σ:St) (H:Hp) (Qd:Bool->Rho->Prop) (Q:Bool->Hp->Prop),Rel K c O ρ σ H->dt ρ Qd ->
 (∀ b ρ' O' H',Qd b ρ'->Rel K c O' ρ' σ H'->Pers K (live c O) H (live c O') H'->Q b H')->t σ H Q
noncomputable def AtVs(K:W.Frag)(S:Addr->Prop)(σ:St)(H:Hp):List DV->List V->Prop:=Paired (AtV K S σ H)
def AdA(K:W.Frag)(t:TA)(dt:TDA):Prop:=∀ (c:Rc) (O:Own) (ρ:Rho) (σ:St) (H:Hp) (Qd:List DV->Rho->Prop) (Q:List V->Hp->Prop),Rel K c O ρ σ H->dt ρ Qd ->
 (∀ xs ρ' O' vs H',Qd xs ρ'->Rel K c O' ρ' σ H'->Pers K (live c O) H (live c O') H'->AtVs K (live c O') σ H' xs vs->Q vs H')->t σ H Q
def DE(X:Cx)(e:Expr)(dt:TDE):Prop:=∃ t,PE X e t/\AdE X.K t dt
def DF(X:Cx)(e:Expr)(dt:TDF):Prop:=∃ t,PE X e t/\AdF X.K t dt
def DT(X:Cx)(e:Expr)(dt:TDT):Prop:=∃ t,PT X e t/\AdT X.K t dt
def DW(X:Cx)(e:Expr)(dt:TDT):Prop:=∃ t,PW X e t/\AdT X.K t dt
def DA(X:Cx)(es:List Expr)(dt:TDA):Prop:=∃ t,PA X es t/\AdA X.K t dt
section
variable{K:W.Frag}{c:Rc}{O:Own}{ρ:Rho}{σ:St}{H H':Hp}{S S':Addr->Prop}
def AtV.pers{x:DV}{v:V}(h:AtV K S σ H x v)(P:Pers K S H S' H'):AtV K S' σ H' x v:=by
 cases x with
 | d x=>exact P _ _ h
 | sl i=>exact h
def AtVs.pers{xs:List DV}{vs:List V}(h:AtVs K S σ H xs vs)(P:Pers K S H S' H'):AtVs K S' σ H' xs vs:=Paired.imp' (fun _ _ q=>q.pers P) h
def Rel.top(R:Rel K c O ρ σ H){x:DV}{v:V}{d:PyData}(h:AtV K (live c O) σ H x v)(e:qa0m ρ x=some d):AtT K H (live c O) d v:=by
 cases x with
 | d x=>cases e;exact .inl h
 | sl i =>
  have h':σ[i]? = some (some v):=h;have e':(ρ[i]?.join).bind qa9o=some d:=e;cases q:ρ[i]? with
  | none=>rw [q] at e';cases e'
  | some ol =>
   cases ol with
   | none=>rw [q] at e';cases e'
   | some l =>
    rw [q] at e';cases l with
    | d x =>
     cases e'
     obtain⟨w,h1,h2⟩:=R.dat i _ q;rw [h'] at h1;cases h1;exact .inl h2
    | own xs =>
     cases e'
     obtain⟨p,vs,_,_,h1,h2,h3⟩:=R.own i _ q;rw [h'] at h1;cases h1;exact .inr ⟨xs,p,vs,rfl,rfl,h2,h3⟩
    | bor xs =>
     cases e'
     obtain⟨p,vs,_,h1,h2,h3⟩:=R.bor i _ q;rw [h'] at h1;cases h1;exact .inr ⟨xs,p,vs,rfl,rfl,h2,h3⟩
    | tape k=>cases e'
    | scr=>cases e'
def AtT.list{ds:List PyData}{v:V}(h:AtT K H S (.list ds) v):∃ a vs,v=.ref a/\H a=some (.lst vs)/\qa0c K H S ds vs:=by
 rcases h with h | ⟨ds',a,vs,e,e2,h1,h2⟩
 ·obtain⟨a,vs,e,_,h1,h2⟩:=qa3q h
  exact⟨a,vs,e,h1,h2⟩
 ·cases e;exact⟨a,vs,e2,h1,h2⟩
def AtT.at{x:PyData}{v:V}(h:AtT K H S x v)(n:∀ ds,x ≠ .list ds):AtD K H S x v:=by
 rcases h with h | ⟨ds',a,vs,e,_⟩
 ·exact h
 ·exact absurd e (n ds')
def AtT.any{x:PyData}{v:V}(h:AtT K H S x v):AtD K H Any x v:=by
 rcases h with h | ⟨ds',a,vs,e,e2,h1,h2⟩
 ·exact AtD.more (fun _ _=>trivial) _ _ h
 ·subst e e2;exact qa2o trivial h1 (qa0c.more (fun _ _=>trivial) _ _ h2)
def dVar(i:Nat):TDE:=fun ρ Q=>(ρ[i]?.join).isSome=true/\Q (.sl i) ρ
def ad_var{i:Nat}:AdE K (tVar i) (dVar i):=by
 intro c O ρ σ H Qd Q R h k;obtain⟨h0,h⟩:=h;have ex:∃ v,σ[i]? = some (some v):=by
  cases q:ρ[i]? with
  | none=>rw [q] at h0;cases h0
  | some ol =>
   cases ol with
   | none=>rw [q] at h0;cases h0
   | some l =>
    cases l with
    | d x=>obtain⟨w,h1,_⟩:=R.dat i _ q;exact⟨w,h1⟩
    | own xs=>obtain⟨p,vs,_,_,h1,_⟩:=R.own i _ q;exact⟨_,h1⟩
    | bor xs=>obtain⟨p,vs,_,h1,_⟩:=R.bor i _ q;exact⟨_,h1⟩
    | tape k=>obtain⟨p,_,h1,_⟩:=R.tap i _ q;exact⟨_,h1⟩
    | scr=>exact⟨_,R.scr i q⟩
 obtain⟨v,hv⟩:=ex;exact⟨v,hv,k _ _ _ _ _ h R .refl hv⟩
def dC(x:PyData):TDE:=fun ρ Q=>Q (.d x) ρ
def ad_c{x:PyData}{v:V}(hx:∀ (S:Addr->Prop) H,AtD K H S x v):AdE K (tC v) (dC x):=fun c O ρ σ H Qd Q R h k=>k _ _ _ _ _ h R .refl (hx _ _)
end
section
variable{X:Cx}{a b e:Expr}{es:List Expr}{da db:TDE}{pos:Pos}
def dv(i:Nat){x:Str}(hN:X.N[i]? = some x:=by rfl)(hv:Vis X.env.scope x:=by first | exact Or.inl rfl | exact Or.inr 'f' | exact Or.inr (Or.inr rfl)) (hd:(x == ("__debug__" : Str))=false:=by decide)
  (hcd:(x == ("__classdict__" : Str))=false:=by decide):DE X (.Name x pos) (dVar i):=⟨_,qa9d hN hv hd hcd,ad_var⟩
def qa0d{i j}:DE X (.Constant (.int i) j pos) (dC (.int i)):=⟨_,qa1y,ad_c fun _ _=>qa2k i⟩
def qa0n{i j}:DE X (.Constant (.str i) j pos) (dC (.str i)):=⟨_,qb0s,ad_c fun _ _=>qa4f i⟩
def qa2u{i j}:DE X (.Constant (.bool i) j pos) (dC (.bool i)):=⟨_,pe_bl,ad_c fun _ _=>qa2d i⟩
def de_non{j}:DE X (.Constant .none j pos) (dC .none):=⟨_,pe_non,ad_c fun _ _=>qa5y⟩
def de_gint{x:Str}{i:Int}(hg:Gl X x)(hm:∃ t,X.mg x=some (.int i t)) (hd:(x == ("__debug__" : Str))=false:=by decide):DE X (.Name x pos) (dC (.int i)):=by
 obtain⟨t,hm⟩:=hm;exact⟨_,qa4e hg hm (v:=.int i) ⟨t,rfl⟩ hd,ad_c fun _ _=>qa2k i⟩
abbrev F2:=PyData->PyData->Option PyData
def AdR(K:W.Frag)(r:R2)(f:F2):Prop:=∀ (S:Addr->Prop) (H:Hp) (x y:V) (dx dy z:PyData) (Q:VK),Frs S H->AtT K H S dx x->AtT K H S dy y->f dx dy=some z ->
 (∀ v H',Same H H'->AtD K H' S z v->Q v H')->r x y H Q
def dOp(f:F2)(da db:TDE):TDE:=fun ρ Q=>da ρ fun x ρ1=>db ρ1 fun y ρ2=>need (qa0m ρ2 x) fun dx=>need (qa0m ρ2 y) fun dy=>need (f dx dy) fun z=>Q (.d z) ρ2
def ad_op{K:W.Frag}{r:R2}{f:F2}{ta tb:TE}(hr:AdR K r f)(ha:AdE K ta da)(hb:AdE K tb db):AdE K (tOp r ta tb) (dOp f da db):=by
 intro c O ρ σ H Qd Q R h k;refine ha c O ρ σ H _ _ R h fun x ρ1 O1 v H1 h1 R1 P1 a1=>?_;refine hb c O1 ρ1 σ H1 _ _ R1 h1 fun y ρ2 O2 u H2 h2 R2 P2 a2=>?_;obtain⟨dx,e1,hn1⟩:=ne (h2);obtain⟨dy,e2,hn2⟩:=ne (hn1);obtain⟨z,e3,h3⟩:=ne (hn2);refine hr (live c O2) H2 v u dx dy z Q R2.frsLive (R2.top (a1.pers P2) e1) (R2.top a2 e2) e3 fun w H3 s3 a3=>?_;exact k _ _ _ _ _ h3 (R2.grow s3) ((P1.trans P2).trans (.same s3)) a3
def qa6k{op:Operator}{r:R2}{f:F2}(ho:OpR X (binaryOp op) r)(hr:AdR X.K r f)(ha:DE X a da)(hb:DE X b db):DE X (.BinOp a op b pos) (dOp f da db):=by
 obtain⟨ta,pa,aa⟩:=ha;obtain⟨tb,pb,ab⟩:=hb;exact⟨_,qa2t ho pa pb,ad_op hr aa ab⟩
def qa8g{op:CmpOp}{r:R2}{f:F2}(ho:OpR X (compareOp op) r)(hr:AdR X.K r f)(ha:DE X a da)(hb:DE X b db)(hm:behindInMarks op b=false):DE X (.Compare a [op] [b] pos) (dOp f da db):=by
 obtain⟨ta,pa,aa⟩:=ha;obtain⟨tb,pb,ab⟩:=hb;exact⟨_,pe_cmpR ho pa pb hm,ad_op hr aa ab⟩
def qa0o{r:R2}{f:F2}(ho:IxR X r)(hr:AdR X.K r f)(ha:DE X a da)(hb:DE X b db)(hs:qc1m b):DE X (.Subscript a b pos) (dOp f da db):=by
 obtain⟨ta,pa,aa⟩:=ha;obtain⟨tb,pb,ab⟩:=hb;exact⟨_,pe_ix ho pa pb hs,ad_op hr aa ab⟩
end
section
variable{K:W.Frag}
def AtT.int{H:Hp}{S:Addr->Prop}{i:Int}{v:V}(h:AtT K H S (.int i) v):v=.int i:=qa8d (h.at fun _ z=>nomatch z)
def AtT.str{H:Hp}{S:Addr->Prop}{i:Str}{v:V}(h:AtT K H S (.str i) v):v=.str i:=qa9m (h.at fun _ z=>nomatch z)
def AtT.bool{H:Hp}{S:Addr->Prop}{i:Bool}{v:V}(h:AtT K H S (.bool i) v):v=.bl i:=qa5z (h.at fun _ z=>nomatch z)
def AtT.none{H:Hp}{S:Addr->Prop}{v:V}(h:AtT K H S .none v):v=.non:=qa9l (h.at fun _ z=>nomatch z)
def AtT.tup{H:Hp}{S:Addr->Prop}{ds:List PyData}{v:V}(h:AtT K H S (.tuple ds) v):∃ a xs,v=.ref a/\SqT K H a xs/\qa0c K H S ds xs:=qa2w (h.at fun _ z=>nomatch z)
def qa0c.eq_nil{H:Hp}{S:Addr->Prop}{ds:List PyData}(h:qa0c K H S ds []):ds=[]:=eq_nil_of_length_eq_zero h.length.symm
noncomputable def fAdd:F2
 | .int i,.int j=>some (.int (i + j))
 | .str x,.str y=>if x.length + y.length <= sizeLine then some (.str (x ++ y)) else none
 | .list xs,.list ys=>if xs.length + ys.length <= sizeLine then some (.list (xs ++ ys)) else none
 | .tuple xs,.tuple ys=>if xs.length + ys.length <= sizeLine then some (.tuple (xs ++ ys)) else none
 | _,_=>none
noncomputable def fSub:F2
 | .int i,.int j=>some (.int (i - j))
 | _,_=>none
noncomputable def fCmp(p:Int->Int->Bool):F2
 | .int i,.int j=>some (.bool (p i j))
 | _,_=>none
def qa2x(p:Int->Int->Bool):AdR K (rI0 fun i j=>.bl (p i j)) (fCmp p):=by
 intro S H x y dx dy z Q f hx hy e k;unfold fCmp at e;split at e<;>cases e;rw [hx.int,hy.int];exact⟨_,_,rfl,rfl,k _ _ (Same.refl _) (qa2d _)⟩
def rCat0(K:W.Frag):R2:=fun x y H Q=>∃ a b ys,x=.ref a/\y=.ref b/\SqT K H a []/\SqT K H b ys/\Q (.ref b) H
def op_cat0{X:Cx}:OpR X (binaryOp .Add) (rCat0 X.K):=by
 intro pins s σ H x y v u Q I rx ry h;obtain⟨a,b,ys,rfl,rfl,ha,hb,q⟩:=h;cases rx;cases ry;obtain⟨its,r1,p1,_⟩:=I.tuple ha;obtain⟨its2,r2,p2,_⟩:=I.tuple hb;cases r1;obtain⟨⟨cls,dd,data,sl⟩,ho,hc,n,hd⟩:=id p1;obtain⟨⟨cls2,dd2,data2,sl2⟩,ho2,hc2,n2,hd2⟩:=id p2;simp only at hc hd hc2 hd2;subst hc hd hc2 hd2;exact concat_meets ⟨_,ho,rfl⟩ ⟨_,ho2,rfl⟩ noFill_tuple_add seq_tuple_add PySem.F.slot_tuple_add PySem.F.entry_tuple_add (PySem.F.args_tuple_add_2 _ _)
   (tuple_addW0 a b _ its2.toArray n n2 dd dd2 sl sl2 'g') ⟨ho,ho2,⟨.ref b,H,I,rfl,q⟩⟩
def qc1u(K:W.Frag):R2:=fun x y H Q=>rI0 (fun i j=>.int (i + j)) x y H Q ∨ (∃ i j,x=.str i/\y=.str j/\i.length + j.length <= sizeLine/\Q (.str (i ++ j)) H) ∨ rCat x y H Q ∨ rCatT K x y H Q ∨ rCat0 K x y H Q
def qa2v{X:Cx}:OpR X (binaryOp .Add) (qc1u X.K):=qb3e.or (qc3e.or (op_cat.or (op_catT.or op_cat0)))
def qa4l:AdR K (qc1u K) fAdd:=by
 intro S H x y dx dy z Q f hx hy e k;unfold fAdd at e;split at e
 ·cases e
  rw [hx.int,hy.int];exact .inl ⟨_,_,rfl,rfl,k _ _ (Same.refl _) (qa2k _)⟩
 ·split at e
  ·rename_i hc
   cases e
   rw [hx.str,hy.str];exact .inr (.inl ⟨_,_,rfl,rfl,hc,k _ _ (Same.refl _) (qa4f _)⟩)
  ·cases e
 ·split at e
  ·rename_i hc
   cases e
   obtain⟨a,vs,rfl,h1,h2⟩:=hx.list;obtain⟨b,ws,rfl,h3,h4⟩:=hy.list;refine .inr (.inr (.inl ⟨a,b,vs,ws,rfl,rfl,h1,h3,by rw [h2.length,h4.length];exact hc,fun p hp=>k _ _ (qa0v hp _) (qc8i (f p hp) hp (h2.append h4))⟩))
  ·cases e
 ·split at e
  ·rename_i hc
   cases e
   obtain⟨a,vs,rfl,h1,h2⟩:=hx.tup;obtain⟨b,ws,rfl,h3,h4⟩:=hy.tup;by_cases hv:vs=[]
   ·subst hv
    obtain rfl:=h2.eq_nil;refine .inr (.inr (.inr (.inr ⟨a,b,ws,rfl,rfl,h1,h3,k _ _ (Same.refl _) ?_⟩)));exact qa3u h3 h4
   ·refine .inr (.inr (.inr (.inl ⟨a,b,vs,ws,rfl,rfl,h1,h3,hv,by rw [h2.length,h4.length];exact hc,fun ew=>k _ _ (Same.refl _) ?_,fun ew p hp=>k _ _ (qa0v hp _) (qa8f hp (h2.append h4))⟩)))
    subst ew;obtain rfl:=h4.eq_nil;rw [append_nil];exact qa3u h1 h2
  ·cases e
 ·cases e
def qa0c.rep{H:Hp}{S:Addr->Prop}{ds:List PyData}{xs:List V}(h:qa0c K H S ds xs):∀ n:Nat,qa0c K H S (List.replicate n ds).flatten (List.replicate n xs).flatten
 | 0=>.nil
 | n + 1=>by
  rw [replicate_succ,replicate_succ,flatten_cons,flatten_cons];exact h.append (qa0c.rep h n)
noncomputable def fEq(neg:Bool):F2:=fun d e=>if SeqAt.shaped d=true/\SeqAt.shaped e=true then some (.bool (if neg then !PyData.eqv d e else PyData.eqv d e)) else none
def ad_eq{neg:Bool}:AdR K (rEqD K neg) (fEq neg):=by
 intro S H x y dx dy z Q f hx hy e k;unfold fEq at e;split at e
 ·rename_i hc
  cases e
  exact⟨Any,Any,dx,dy,hx.any,hy.any,hc.1,hc.2,k _ _ (Same.refl _) (qa2d _)⟩
 ·cases e
noncomputable def fIx:F2
 | .list xs,.int i=>atI xs i
 | .tuple xs,.int i=>atI xs i
 | .str x,.int i=>if x.length <= sizeLine then(atI x.cps.toList i).map fun c=>.str ⟨#[c]⟩ else none
 | _,_=>none
def qa0p:AdR K (rIx K) fIx:=by
 intro S H x y dx dy z Q f hx hy e k;unfold fIx at e;split at e
 ·obtain⟨a,vs,rfl,h1,h2⟩:=hx.list
  rw [hy.int];obtain⟨v,e1,e2⟩:=qc1t h2 e;exact .inl ⟨a,vs,_,v,rfl,rfl,SqL.of h1,e1,k _ _ (Same.refl _) e2⟩
 ·obtain⟨a,vs,rfl,h1,h2⟩:=hx.tup
  rw [hy.int];obtain⟨v,e1,e2⟩:=qc1t h2 e;exact .inr (.inl ⟨a,vs,_,v,rfl,rfl,h1,e1,k _ _ (Same.refl _) e2⟩)
 ·split at e
  ·rename_i hc
   rw [hx.str,hy.int];cases q:atI (PySem.Str.cps _).toList _ with
   | none=>rw [q] at e;cases e
   | some cc =>
    rw [q] at e;cases e;exact .inr (.inr ⟨_,_,cc,rfl,rfl,hc,q,k _ _ (Same.refl _) (qa4f _)⟩)
  ·cases e
 ·cases e
noncomputable def qa1g:PyData->Bool
 | .none=>true | .bool _=>true | .int _=>true | .str _=>true
 | _=>false
noncomputable def seqD:PyData->Option (List PyData)
 | .list xs=>some xs
 | .tuple xs=>some xs
 | _=>none
noncomputable def eqF:PyData->PyData->Bool
 | .none,.none=>true
 | .bool a,.bool b=>a == b
 | .int a,.int b=>a == b
 | .bool a,.int b=>(if a then(1:Int) else 0) == b
 | .int a,.bool b=>a == (if b then(1:Int) else 0)
 | .str a,.str b=>a == b
 | _,_=>false
noncomputable def inF(x:PyData)(xs:List PyData):Bool:=xs.any fun y=>eqF y x
noncomputable def fIn(neg:Bool):F2:=fun x y=>match y with
 | .str z=>match x with
  | .str w=>some (.bool (if neg then !(!(Builtin.Str.occurrences z w 0 z.length 1).isEmpty) else !(Builtin.Str.occurrences z w 0 z.length 1).isEmpty))
  | _=>none
 | y=>match seqD y with
  | some xs=>if qa1g x && xs.all qa1g then some (.bool (if neg then !inF x xs else inF x xs)) else none
  | none=>none
end
end
section
section
variable{K:W.Frag}{c:Rc}{O:Own}{ρ:Rho}{σ:St}{H H':Hp}{S S':Addr->Prop}
noncomputable def toV:PyData->V
 | .bool b=>.bl b
 | .int i=>.int i
 | .str x=>.str x
 | _=>.non
def qa7w{d:PyData}{v:V}(h:AtD K H S d v)(f:qa1g d=true):v=toV d/\qa6h v=true:=by
 cases d with
 | none=>rw [qa9l h];exact⟨rfl,rfl⟩
 | bool b=>rw [qa5z h];exact⟨rfl,rfl⟩
 | int i=>rw [qa8d h];exact⟨rfl,rfl⟩
 | str x=>rw [qa9m h];exact⟨rfl,rfl⟩
 | _=>cases f
def eq_flat{x y:PyData}(fx:qa1g x=true)(fy:qa1g y=true):eqV (toV y) (toV x)=eqF y x:=by
 cases x<;>cases y<;>first | rfl | (cases fx;done) | (cases fy;done)
def qb7q{x:PyData}(fx:qa1g x=true):∀ {ds:List PyData} {vs:List V},qa0c K H S ds vs->ds.all qa1g=true->vs.all qa6h=true/\inV (toV x) vs=inF x ds
 | [],vs,h,_=>by rw [h.unnil];exact⟨rfl,rfl⟩
 | d :: ds,vs,h,f=>by
  obtain⟨v,r,rfl,h1,h2⟩:=h.uncons;rw [all_cons,and_eq_true] at f;obtain⟨e1,e2⟩:=qa7w h1 f.1;obtain⟨e3,e4⟩:=qb7q fx h2 f.2;refine⟨by rw [all_cons,e2,e3];rfl,?_⟩;show(eqV v (toV x) || inV (toV x) r)=(eqF d x || inF x ds);rw [e1,eq_flat fx f.1,e4]
def qb7r(K:W.Frag)(neg:Bool):R2:=fun x y H Q=>rIn K neg x y H Q ∨ (∃ i j,x=.str i/\y=.str j/\Q (.bl (if neg then !(!(Builtin.Str.occurrences j i 0 j.length 1).isEmpty) else !(Builtin.Str.occurrences j i 0 j.length 1).isEmpty)) H)
def qb0d{X:Cx}:OpR X (compareOp .In) (qb7r X.K false):=qc5j.or qc5h
def qb2e{X:Cx}:OpR X (compareOp .NotIn) (qb7r X.K true):=qb7g.or qb7h
def AtT.seq{x:PyData}{ds:List PyData}{v:V}(h:AtT K H S x v)(e:seqD x=some ds):∃ a vs,v=.ref a/\(SqL K H a vs ∨ SqT K H a vs)/\qa0c K H S ds vs:=by
 cases x with
 | list xs=>cases e;obtain⟨a,vs,e1,h1,h2⟩:=h.list;exact⟨a,vs,e1,.inl (SqL.of h1),h2⟩
 | tuple xs=>cases e;obtain⟨a,vs,e1,h1,h2⟩:=h.tup;exact⟨a,vs,e1,.inr h1,h2⟩
 | _=>cases e
def ad_in{neg:Bool}:AdR K (qb7r K neg) (fIn neg):=by
 intro S H x y dx dy z Q f hx hy e k;unfold fIn at e;split at e
 ·split at e
  ·cases e
   rw [hx.str,hy.str];exact .inr ⟨_,_,rfl,rfl,k _ _ (Same.refl _) (qa2d _)⟩
  ·cases e
 ·split at e
  ·rename_i xs es
   split at e
   ·rename_i hf
    cases e
    rw [and_eq_true] at hf;obtain⟨a,vs,rfl,h1,h2⟩:=hy.seq es;obtain⟨e1,e2⟩:=qa7w (hx.at fun ds z=>by subst z;exact absurd hf.1 (by simp [qa1g])) hf.1;obtain⟨e3,e4⟩:=qb7q hf.1 h2 hf.2;refine .inl ⟨a,vs,rfl,h1,e2,e3,?_⟩;rw [e1,e4];exact k _ _ (Same.refl _) (qa2d _)
   ·cases e
  ·cases e
def fz(ρ:Rho)(x:DV)(Q:PyData->Rho->Prop):Prop:=match x with
 | .d y=>Q y ρ
 | .sl i=>match ρ[i]?.join with
  | some (.d y)=>Q y ρ
  | some (.own xs)=>Q (.list xs) (ρ.set i (some (.d (.list xs))))
  | _=>False
def qa2b{i:Nat}{l:L}(h:ρ[i]?.join=some l):ρ[i]? = some (some l):=by
 cases q:ρ[i]? with
 | none=>rw [q] at h;cases h
 | some o=>rw [q] at h;cases o with
  | none=>cases h
  | some l'=>cases h;rfl
def Rel.fz{x:DV}{v:V}{Q:PyData->Rho->Prop}(R:Rel K c O ρ σ H)(a:AtV K (live c O) σ H x v)(h:fz ρ x Q):∃ y ρ' O',Q y ρ'/\Rel K c O' ρ' σ H/\Pers K (live c O) H (live c O') H/\AtD K H (live c O') y v:=by
 cases x with
 | d y=>exact⟨y,ρ,O,h,R,.refl,a⟩
 | sl i =>
  have a':σ[i]? = some (some v):=a;simp only [L2.fz] at h;split at h
  ·rename_i y e
   have e':=qa2b e;obtain⟨w,h1,h2⟩:=R.dat i y e';rw [a'] at h1;cases h1;exact⟨y,ρ,O,h,R,.refl,h2⟩
  ·rename_i xs e
   have e':=qa2b e;obtain⟨R',P⟩:=R.freeze e';have hi:i < ρ.length:=(List.getElem?_eq_some_iff.mp e').1;obtain⟨w,h1,h2⟩:=R'.dat i (.list xs) (by rw [getElem?_set_self hi]);rw [a'] at h1;cases h1;exact⟨_,_,_,h,R',P,h2⟩
  ·exact h.elim
noncomputable def fzs:Rho->List DV->(List PyData->Rho->Prop)->Prop
 | ρ,[],Q=>Q [] ρ
 | ρ,x :: xs,Q=>fz ρ x fun y ρ1=>fzs ρ1 xs fun ys ρ2=>Q (y :: ys) ρ2
def qc1v{xs:List DV}:∀ {vs:List V} {ρ:Rho} {O:Own} {Q:List PyData->Rho->Prop},Rel K c O ρ σ H->AtVs K (live c O) σ H xs vs->fzs ρ xs Q->∃ ys ρ' O',Q ys ρ'/\Rel K c O' ρ' σ H/\Pers K (live c O) H (live c O') H/\qa0c K H (live c O') ys vs:=by
 induction xs with
 | nil =>
  intro vs ρ O Q R a h;cases a;exact⟨[],ρ,O,h,R,.refl,.nil⟩
 | cons x xs ih =>
  intro vs ρ O Q R a h;cases a with
  | cons a as =>
   obtain⟨y,ρ1,O1,h1,R1,P1,a1⟩:=R.fz a h;obtain⟨ys,ρ2,O2,h2,R2,P2,a2⟩:=ih R1 (AtVs.pers as P1) h1;exact⟨y :: ys,ρ2,O2,h2,R2,P1.trans P2,.cons (P2 _ _ a1) a2⟩
def dNil:TDA:=fun ρ Q=>Q [] ρ
def dCons(de:TDE)(dr:TDA):TDA:=fun ρ Q=>de ρ fun x ρ1=>dr ρ1 fun xs ρ2=>Q (x :: xs) ρ2
def ad_nil:AdA K tNil dNil:=fun c O ρ σ H Qd Q R h k=>k _ _ _ _ _ h R .refl .nil
def ad_cons{te:TE}{ta:TA}{de:TDE}{da:TDA}(he:AdE K te de)(ha:AdA K ta da):AdA K (qa3w te ta) (dCons de da):=by
 intro c O ρ σ H Qd Q R h k;refine he c O ρ σ H _ _ R h fun x ρ1 O1 v H1 h1 R1 P1 a1=>?_;refine ha c O1 ρ1 σ H1 _ _ R1 h1 fun xs ρ2 O2 vs H2 h2 R2 P2 a2=>?_;exact k _ _ _ _ _ h2 R2 (P1.trans P2) (.cons (a1.pers P2) a2)
def dTup(da:TDA):TDE:=fun ρ Q=>da ρ fun xs ρ1=>fzs ρ1 xs fun ys ρ2=>ys.length <= 1000000/\Q (.d (.tuple ys)) ρ2
def dLst(da:TDA):TDF:=fun ρ Q=>da ρ fun xs ρ1=>fzs ρ1 xs fun ys ρ2=>ys.length <= 1000000/\Q ys ρ2
def mil{n:Nat}(h:n <= 1000000):n < sizeLine:=Nat.lt_of_le_of_lt h 'k'
def ad_tup{ta:TA}{da:TDA}(ha:AdA K ta da):AdE K (tTup ta) (dTup da):=by
 intro c O ρ σ H Qd Q R h k;refine ha c O ρ σ H _ _ R h fun xs ρ1 O1 vs H1 h1 R1 P1 a1=>?_;obtain⟨ys,ρ2,O2,⟨hz,h2⟩,R2,P2,a2⟩:=qc1v R1 a1 h1;refine⟨by rw [a2.length];exact le_of_lt (mil hz),fun p hp=>?_⟩;have s:=qa0v hp (.tup vs);exact k _ _ _ _ _ h2 (R2.grow s) ((P1.trans P2).trans (.same s)) (qa8f hp a2)
def qb2s{p:Addr}(R:Rel K c O ρ σ H)(hp:H p=none):qb1w c O p:=⟨R.free0 hp,fun z=>R.pin p (.inr z) hp,fun z=>R.pin p (.inl z) hp,fun j e=>by obtain⟨_,vs,q⟩:=R.has j p e;rw [hp] at q;cases q⟩
def Rel.newL{p:Addr}{ys:List PyData}{vs:List V}(R:Rel K c O ρ σ H)(hp:H p=none)(h:qa0c K H (live c O) ys vs) :
  Rel K (c.add p) O ρ σ (upd H p (.lst vs))/\Pers K (live c O) H (live (c.add p) O) (upd H p (.lst vs))/\qb1w c O p/\qa0c K (upd H p (.lst vs)) (live (c.add p) O) ys vs:=by
 obtain⟨R1,P1⟩:=R.lay (o:=.lst vs) hp;exact⟨R1,P1,qb2s R hp,P1.all h⟩
def ad_lst{ta:TA}{da:TDA}(ha:AdA K ta da):AdF K (tLst ta) (dLst da):=by
 intro c O ρ σ H Qd Q R h k;refine ha c O ρ σ H _ _ R h fun xs ρ1 O1 vs H1 h1 R1 P1 a1=>?_;obtain⟨ys,ρ2,O2,⟨hz,h2⟩,R2,P2,a2⟩:=qc1v R1 a1 h1;refine⟨by rw [a2.length];exact le_of_lt (mil hz),fun p hp=>?_⟩;obtain⟨R3,P3,f3,a3⟩:=R2.newL hp a2;exact k _ _ _ _ _ _ h2 R3 ((P1.trans P2).trans P3) f3 qa0h a3
def dFz(df:TDF):TDE:=fun ρ Q=>df ρ fun xs ρ1=>Q (.d (.list xs)) ρ1
def ad_fz{t:TE}{df:TDF}(h:AdF K t df):AdE K t (dFz df):=by
 intro c O ρ σ H Qd Q R h0 k;refine h c O ρ σ H _ _ R h0 fun xs ρ1 O1 p vs H1 h1 R1 P1 f1 hp a1=>?_;obtain⟨R2,P2⟩:=R1.unadd;exact k _ _ _ _ _ h1 R2 (P1.trans P2) (qa2o ⟨R1.frs p f1.1,f1.2.2.1,f1.2.2.2⟩ hp (P2.all a1))
abbrev F2L:=PyData->PyData->Option (List PyData)
def AdRF(K:W.Frag)(r:R2)(f:F2L):Prop:=∀ (S:Addr->Prop) (H:Hp) (x y:V) (dx dy:PyData) (z:List PyData) (Q:VK),AtT K H S dx x->AtT K H S dy y->f dx dy=some z ->
 (∀ p vs,H p=none->qa0c K H S z vs->Q (.ref p) (upd H p (.lst vs)))->r x y H Q
def dOpF(f:F2L)(da db:TDE):TDF:=fun ρ Q=>da ρ fun x ρ1=>db ρ1 fun y ρ2=>need (qa0m ρ2 x) fun dx=>need (qa0m ρ2 y) fun dy=>need (f dx dy) fun z=>Q z ρ2
def ad_opF{r:R2}{f:F2L}{ta tb:TE}{da db:TDE}(hr:AdRF K r f)(ha:AdE K ta da)(hb:AdE K tb db):AdF K (tOp r ta tb) (dOpF f da db):=by
 intro c O ρ σ H Qd Q R h k;refine ha c O ρ σ H _ _ R h fun x ρ1 O1 v H1 h1 R1 P1 a1=>?_;refine hb c O1 ρ1 σ H1 _ _ R1 h1 fun y ρ2 O2 u H2 h2 R2 P2 a2=>?_;obtain⟨dx,e1,hn3⟩:=ne (h2);obtain⟨dy,e2,hn4⟩:=ne (hn3);obtain⟨z,e3,h3⟩:=ne (hn4);refine hr (live c O2) H2 v u dx dy z Q (R2.top (a1.pers P2) e1) (R2.top a2 e2) e3 fun p vs hp a3=>?_;obtain⟨R3,P3,f3,a4⟩:=R2.newL hp a3;exact k _ _ _ _ _ _ h3 R3 ((P1.trans P2).trans P3) f3 qa0h a4
noncomputable def fRep:F2L
 | .list xs,.int j=>@ite _ (-(2 ^ 63) <= j/\j < 2 ^ 63/\xs.length * j.toNat <= sizeLine) (Classical.propDecidable _) (some (List.replicate j.toNat xs).flatten) none
 | _,_=>none
def ad_rep:AdRF K rRep fRep:=by
 intro S H x y dx dy z Q hx hy e k;unfold fRep at e;split at e
 ·split at e
  ·rename_i hc
   cases e
   obtain⟨a,vs,rfl,h1,h2⟩:=hx.list;rw [hy.int];exact⟨a,_,vs,rfl,rfl,h1,hc.1,hc.2.1,by rw [h2.length];exact hc.2.2,fun p hp=>k p _ hp (h2.rep _)⟩
  ·cases e
 ·cases e
noncomputable def qa1o(ρ:Rho):List DV->Option (List PyData)
 | []=>some []
 | x :: xs=>(qa0m ρ x).bind fun y=>(qa1o ρ xs).map (y :: ·)
noncomputable def AtTs(K:W.Frag)(H:Hp)(S:Addr->Prop):List PyData->List V->Prop:=Paired (AtT K H S)
def Rel.tops(R:Rel K c O ρ σ H){xs:List DV}:∀ {vs:List V} {ds:List PyData},AtVs K (live c O) σ H xs vs->qa1o ρ xs=some ds->AtTs K H (live c O) ds vs:=by
 induction xs with
 | nil =>
  intro vs ds a e;cases a;cases e;exact .nil
 | cons x xs ih =>
  intro vs ds a e;cases a with
  | cons a as =>
   unfold qa1o at e;cases q:qa0m ρ x with
   | none=>rw [q] at e;cases e
   | some y =>
    rw [q] at e;have e':(qa1o ρ xs).map (y :: ·)=some ds:=e;cases q2:qa1o ρ xs with
    | none=>rw [q2] at e';cases e'
    | some ys =>
     rw [q2] at e';cases e';exact .cons (R.top a q) (ih as q2)
abbrev FC:=List PyData->Option PyData
abbrev FCL:=List PyData->Option (List PyData)
def AdC(K:W.Frag)(r:List V->Hp->VK->Prop)(f:FC):Prop:=∀ (S:Addr->Prop) (H:Hp) (vs:List V) (ds:List PyData) (z:PyData) (Q:VK),Frs S H->AtTs K H S ds vs->f ds=some z ->
 (∀ v H',Same H H'->AtD K H' S z v->Q v H')->r vs H Q
def AdCF(K:W.Frag)(r:List V->Hp->VK->Prop)(f:FCL):Prop:=∀ (S:Addr->Prop) (H:Hp) (vs:List V) (ds:List PyData) (z:List PyData) (Q:VK),AtTs K H S ds vs->f ds=some z ->
 (∀ p ws,H p=none->qa0c K H S z ws->Q (.ref p) (upd H p (.lst ws)))->r vs H Q
def dCB(f:FC)(da:TDA):TDE:=fun ρ Q=>da ρ fun xs ρ1=>need (qa1o ρ1 xs) fun ds=>need (f ds) fun z=>Q (.d z) ρ1
def dCBF(f:FCL)(da:TDA):TDF:=fun ρ Q=>da ρ fun xs ρ1=>need (qa1o ρ1 xs) fun ds=>need (f ds) fun z=>Q z ρ1
def ad_cb{r:List V->Hp->VK->Prop}{f:FC}{ta:TA}{da:TDA}(hr:AdC K r f)(ha:AdA K ta da):AdE K (tCB r ta) (dCB f da):=by
 intro c O ρ σ H Qd Q R h k;refine ha c O ρ σ H _ _ R h fun xs ρ1 O1 vs H1 h1 R1 P1 a1=>?_;obtain⟨ds,e1,hn2⟩:=ne (h1);obtain⟨z,e2,h2⟩:=ne (hn2);refine hr (live c O1) H1 vs ds z Q R1.frsLive (R1.tops a1 e1) e2 fun v H2 s2 a2=>?_;exact k _ _ _ _ _ h2 (R1.grow s2) (P1.trans (.same s2)) a2
def ad_cbF{r:List V->Hp->VK->Prop}{f:FCL}{ta:TA}{da:TDA}(hr:AdCF K r f)(ha:AdA K ta da):AdF K (tCB r ta) (dCBF f da):=by
 intro c O ρ σ H Qd Q R h k;refine ha c O ρ σ H _ _ R h fun xs ρ1 O1 vs H1 h1 R1 P1 a1=>?_;obtain⟨ds,e1,hn1⟩:=ne (h1);obtain⟨z,e2,h2⟩:=ne (hn1);refine hr (live c O1) H1 vs ds z Q (R1.tops a1 e1) e2 fun p ws hp a2=>?_;obtain⟨R3,P3,f3,a4⟩:=R1.newL hp a2;exact k _ _ _ _ _ _ h2 R3 (P1.trans P3) f3 qa0h a4
def AtTs.one{d:PyData}{vs:List V}(h:AtTs K H S [d] vs):∃ v,vs=[v]/\AtT K H S d v:=by
 cases h with
 | cons h t=>cases t;exact⟨_,rfl,h⟩
def AtTs.two{d e:PyData}{vs:List V}(h:AtTs K H S [d,e] vs):∃ v u,vs=[v,u]/\AtT K H S d v/\AtT K H S e u:=by
 cases h with
 | cons h t=>cases t with
  | cons h' t=>cases t;exact⟨_,_,rfl,h,h'⟩
noncomputable def fLen:FC
 | [.list xs]=>some (.int xs.length)
 | [.tuple xs]=>some (.int xs.length)
 | [.str x]=>if x.length <= sizeLine then some (.int x.length) else none
 | _=>none
noncomputable def qc1w(K:W.Frag):List V->Hp->VK->Prop:=fun xs H Q=>(∃ p ys,xs=[.ref p]/\(SqL K H p ys ∨ SqT K H p ys)/\Q (.int ys.length) H) ∨ (∃ z,xs=[.str z]/\z.length <= sizeLine/\Q (.int z.length) H)
def qa1p{X:Cx}:qa1z X (.builtin "len") (qc1w X.K):=qa5g.or qb7i
def qa3g:AdC K (qc1w K) fLen:=by
 intro S H vs ds z Q f h e k;unfold fLen at e;split at e
 ·cases e
  obtain⟨v,rfl,h1⟩:=h.one;obtain⟨a,ws,rfl,h2,h3⟩:=h1.list;exact .inl ⟨a,ws,rfl,.inl (SqL.of h2),by rw [h3.length];exact k _ _ (Same.refl _) (qa2k _)⟩
 ·cases e
  obtain⟨v,rfl,h1⟩:=h.one;obtain⟨a,ws,rfl,h2,h3⟩:=h1.tup;exact .inl ⟨a,ws,rfl,.inr h2,by rw [h3.length];exact k _ _ (Same.refl _) (qa2k _)⟩
 ·split at e
  ·rename_i hc
   cases e
   obtain⟨v,rfl,h1⟩:=h.one;rw [h1.str];exact .inr ⟨_,rfl,hc,k _ _ (Same.refl _) (qa2k _)⟩
  ·cases e
 ·cases e
noncomputable def qb3k:FC
 | [.list xs]=>some (.tuple xs)
 | [.tuple xs]=>some (.tuple xs)
 | _=>none
def qa2a:AdC K (fun xs H Q=>∃ p ys,xs=[.ref p]/\((SqL K H p ys/\∀ l,H l=none->Q (.ref l) (upd H l (.tup ys))) ∨ (SqT K H p ys/\Q (.ref p) H))) qb3k:=by
 intro S H vs ds z Q f h e k;unfold qb3k at e;split at e
 ·cases e
  obtain⟨v,rfl,h1⟩:=h.one;obtain⟨a,ws,rfl,h2,h3⟩:=h1.list;exact⟨a,ws,rfl,.inl ⟨SqL.of h2,fun l hl=>k _ _ (qa0v hl _) (qa8f hl h3)⟩⟩
 ·cases e
  obtain⟨v,rfl,h1⟩:=h.one;obtain⟨a,ws,rfl,h2,h3⟩:=h1.tup;exact⟨a,ws,rfl,.inr ⟨h2,k _ _ (Same.refl _) (qa3u h2 h3)⟩⟩
 ·cases e
noncomputable def fList:FCL
 | [.list xs]=>some xs
 | [.tuple xs]=>some xs
 | _=>none
def qb4w:AdCF K (fun xs H Q=>∃ p ys,xs=[.ref p]/\(SqL K H p ys ∨ SqT K H p ys)/\∀ l,H l=none->Q (.ref l) (upd H l (.lst ys))) fList:=by
 intro S H vs ds z Q h e k;unfold fList at e;split at e
 ·cases e
  obtain⟨v,rfl,h1⟩:=h.one;obtain⟨a,ws,rfl,h2,h3⟩:=h1.list;exact⟨a,ws,rfl,.inl (SqL.of h2),fun l hl=>k _ _ hl h3⟩
 ·cases e
  obtain⟨v,rfl,h1⟩:=h.one;obtain⟨a,ws,rfl,h2,h3⟩:=h1.tup;exact⟨a,ws,rfl,.inr h2,fun l hl=>k _ _ hl h3⟩
 ·cases e
end
section
variable{X:Cx}{a b e:Expr}{es:List Expr}{da db de:TDE}{daa:TDA}{pos:Pos}
def qa0b:DA X [] dNil:=⟨_,qa1s,ad_nil⟩
def qa0a(he:DE X e de)(ha:DA X es daa)(hs:starEach (e :: es) X.env=(false,eval e X.env) :: starEach es X.env:=by rfl):DA X (e :: es) (dCons de daa):=by
 obtain⟨te,p1,a1⟩:=he;obtain⟨ta,p2,a2⟩:=ha;exact⟨_,qa0s p1 p2 hs,ad_cons a1 a2⟩
def qa0y{x1}(ha:DA X es daa):DE X (.Tuple es x1 pos) (dTup daa):=by obtain⟨t,p,a⟩:=ha;exact⟨_,pe_tup p,ad_tup a⟩
def qa1u(ha:DA X es daa):DF X (.List es pos) (dLst daa):=by obtain⟨t,p,a⟩:=ha;exact⟨_,qb7d p,ad_lst a⟩
def qa1c{df:TDF}(h:DF X e df):DE X e (dFz df):=by obtain⟨t,p,a⟩:=h;exact⟨t,p,ad_fz a⟩
def df_op{op:Operator}{r:R2}{f:F2L}(ho:OpR X (binaryOp op) r)(hr:AdRF X.K r f)(ha:DE X a da)(hb:DE X b db):DF X (.BinOp a op b pos) (dOpF f da db):=by
 obtain⟨ta,pa,aa⟩:=ha;obtain⟨tb,pb,ab⟩:=hb;exact⟨_,qa2t ho pa pb,ad_opF hr aa ab⟩
def qa1f{x:Str}{p:Pos}{id:String}{r:List V->Hp->VK->Prop}{f:FC}(hc:qa1z X (.builtin id) r)(hr:AdC X.K r f)(hg:Gl X x)(hm:X.mg x=none)(hv:bootBuiltins x=some (.builtin id))(ha:DA X (e :: es) daa) (hn:x ≠ "__name__":=by decide) (hdb:(x == ("__debug__" : Str))=false:=by decide)
  (he:starEach (e :: es) X.env=(false,eval e X.env) :: starEach es X.env:=by rfl) (hpl:(backTo pos (starEach es X.env)).any (·.1)=false:=by rfl):DE X (.Call (.Name x p) (e :: es) [] pos) (dCB f daa):=by
 obtain⟨ta,pa,aa⟩:=ha;exact⟨_,qa3k hc hg hm hv pa hn hdb he hpl,ad_cb hr aa⟩
def qa1m{x:Str}{p:Pos}{T:String}{r:List V->Hp->VK->Prop}{f:FC}(hc:qa1z X (.type T) r)(hr:AdC X.K r f)(hg:Gl X x)(hm:X.mg x=none)(hv:bootBuiltins x=some (.type T))(ha:DA X (e :: es) daa) (hn:x ≠ "__name__":=by decide) (hdb:(x == ("__debug__" : Str))=false:=by decide)
  (he:starEach (e :: es) X.env=(false,eval e X.env) :: starEach es X.env:=by rfl) (hpl:(backTo pos (starEach es X.env)).any (·.1)=false:=by rfl):DE X (.Call (.Name x p) (e :: es) [] pos) (dCB f daa):=by
 obtain⟨ta,pa,aa⟩:=ha;exact⟨_,qa6x hc hg hm hv pa hn hdb he hpl,ad_cb hr aa⟩
def qb0z{x:Str}{p:Pos}{T:String}{r:List V->Hp->VK->Prop}{f:FCL}(hc:qa1z X (.type T) r)(hr:AdCF X.K r f)(hg:Gl X x)(hm:X.mg x=none)(hv:bootBuiltins x=some (.type T))(ha:DA X (e :: es) daa) (hn:x ≠ "__name__":=by decide) (hdb:(x == ("__debug__" : Str))=false:=by decide)
  (he:starEach (e :: es) X.env=(false,eval e X.env) :: starEach es X.env:=by rfl) (hpl:(backTo pos (starEach es X.env)).any (·.1)=false:=by rfl):DF X (.Call (.Name x p) (e :: es) [] pos) (dCBF f daa):=by
 obtain⟨ta,pa,aa⟩:=ha;exact⟨_,qa6x hc hg hm hv pa hn hdb he hpl,ad_cbF hr aa⟩
end
end
section
section
variable{K:W.Frag}{c:Rc}{O:Own}{ρ:Rho}{σ:St}{H H':Hp}{S S':Addr->Prop}
noncomputable def asB:PyData->Option Bool
 | .bool b=>some b
 | _=>none
def dB(de:TDE):TDT:=fun ρ Q=>de ρ fun x ρ1=>need (qa0m ρ1 x) fun d=>need (asB d) fun b=>Q b ρ1
def ad_b{t:TE}{de:TDE}(h:AdE K t de):AdT K (fun σ H Q=>t σ H fun x H'=>∃ k,x=.bl k/\Q k H') (dB de):=by
 intro c O ρ σ H Qd Q R h0 k;refine h c O ρ σ H _ _ R h0 fun x ρ1 O1 v H1 h1 R1 P1 a1=>?_;obtain⟨d,e1,hn12⟩:=ne (h1);obtain⟨b,e2,h2⟩:=ne (hn12);have a2:=R1.top a1 e1;cases d with
 | bool b'=>cases e2;exact⟨b,a2.bool,k _ _ _ _ h2 R1 P1⟩
 | _=>cases e2
noncomputable def tru:PyData->Option Bool
 | .none=>some false
 | .bool b=>some b
 | .int i=>some (i != 0)
 | .str x=>if x.length <= sizeLine then some ((x.length:Int) != 0) else none
 | .list xs=>some (!xs.isEmpty)
 | .tuple xs=>some (!xs.isEmpty)
 | .dict _=>none
def dTru(de:TDE):TDT:=fun ρ Q=>de ρ fun x ρ1=>need (qa0m ρ1 x) fun d=>need (tru d) fun b=>Q b ρ1
def dAnd(t u:TDT):TDT:=fun ρ Q=>t ρ fun b ρ1=>if b=true then u ρ1 Q else Q false ρ1
def dOr(t u:TDT):TDT:=fun ρ Q=>t ρ fun b ρ1=>if b=true then Q true ρ1 else u ρ1 Q
def dNot(t:TDT):TDT:=fun ρ Q=>t ρ fun b ρ1=>Q (!b) ρ1
def ad_or{t u:TT}{dt du:TDT}(h:AdT K t dt)(h':AdT K u du):AdT K (tOr t u) (dOr dt du):=by
 intro c O ρ σ H Qd Q R h0 k;refine h c O ρ σ H _ _ R h0 fun b ρ1 O1 H1 h1 R1 P1=>?_;cases b with
 | true=>rw [if_pos rfl] at h1 ⊢;exact k _ _ _ _ h1 R1 P1
 | false=>rw [if_neg Bool.false_ne_true] at h1 ⊢;exact h' c O1 ρ1 σ H1 _ _ R1 h1 fun b ρ2 O2 H2 h2 R2 P2=>k _ _ _ _ h2 R2 (P1.trans P2)
def ad_not{t:TT}{dt:TDT}(h:AdT K t dt):AdT K (tNot t) (dNot dt):=by
 intro c O ρ σ H Qd Q R h0 k;exact h c O ρ σ H _ _ R h0 fun b ρ1 O1 H1 h1 R1 P1=>k _ _ _ _ h1 R1 P1
def dIfE(c:TDT)(a b:TDE):TDE:=fun ρ Q=>c ρ fun k ρ1=>if k=true then a ρ1 Q else b ρ1 Q
def ad_ifE{t:TT}{ta tb:TE}{dt:TDT}{da db:TDE}(h:AdT K t dt)(ha:AdE K ta da)(hb:AdE K tb db):AdE K (tIf t ta tb) (dIfE dt da db):=by
 intro c O ρ σ H Qd Q R h0 k;refine h c O ρ σ H _ _ R h0 fun b ρ1 O1 H1 h1 R1 P1=>?_;cases b with
 | true=>rw [if_pos rfl] at h1 ⊢;exact ha c O1 ρ1 σ H1 _ _ R1 h1 fun x ρ2 O2 v H2 h2 R2 P2 a2=>k _ _ _ _ _ h2 R2 (P1.trans P2) a2
 | false=>rw [if_neg Bool.false_ne_true] at h1 ⊢;exact hb c O1 ρ1 σ H1 _ _ R1 h1 fun x ρ2 O2 v H2 h2 R2 P2 a2=>k _ _ _ _ _ h2 R2 (P1.trans P2) a2
def qc8m:AtV K S σ H (.d .none) .non:=(qa5y:AtD K H S .none .non)
def qa8h{b:Bool}:AtV K S σ H (.d (.bool b)) (.bl b):=(qa2d b:AtD K H S (.bool b) (.bl b))
def dAndV(a b:TDE):TDE:=fun ρ Q=>a ρ fun x ρ1=>need (qa0m ρ1 x) fun d=>need (asB d) fun k=>if k=true then b ρ1 Q else Q (.d (.bool false)) ρ1
def dOrV(a b:TDE):TDE:=fun ρ Q=>a ρ fun x ρ1=>need (qa0m ρ1 x) fun d=>need (asB d) fun k=>if k=true then Q (.d (.bool true)) ρ1 else b ρ1 Q
def qb3l{d:PyData}{v:V}{b:Bool}(h:AtT K H S d v)(e:asB d=some b):v=.bl b:=by
 cases d with
 | bool b'=>cases e;exact h.bool
 | _=>cases e
def ad_andV{ta tb:TE}{da db:TDE}(ha:AdE K ta da)(hb:AdE K tb db):AdE K (tAndV ta tb) (dAndV da db):=by
 intro c O ρ σ H Qd Q R h0 k;refine ha c O ρ σ H _ _ R h0 fun x ρ1 O1 v H1 h1 R1 P1 a1=>?_;obtain⟨d,e1,hn10⟩:=ne (h1);obtain⟨b,e2,h2⟩:=ne (hn10);refine⟨b,qb3l (R1.top a1 e1) e2,?_⟩;cases b with
 | true=>rw [if_pos rfl] at h2 ⊢;exact hb c O1 ρ1 σ H1 _ _ R1 h2 fun x ρ2 O2 v H2 h2 R2 P2 a2=>k _ _ _ _ _ h2 R2 (P1.trans P2) a2
 | false=>rw [if_neg Bool.false_ne_true] at h2 ⊢;exact k _ _ _ _ _ h2 R1 P1 qa8h
def ad_orV{ta tb:TE}{da db:TDE}(ha:AdE K ta da)(hb:AdE K tb db):AdE K (tOrV ta tb) (dOrV da db):=by
 intro c O ρ σ H Qd Q R h0 k;refine ha c O ρ σ H _ _ R h0 fun x ρ1 O1 v H1 h1 R1 P1 a1=>?_;obtain⟨d,e1,hn9⟩:=ne (h1);obtain⟨b,e2,h2⟩:=ne (hn9);refine⟨b,qb3l (R1.top a1 e1) e2,?_⟩;cases b with
 | true=>rw [if_pos rfl] at h2 ⊢;exact k _ _ _ _ _ h2 R1 P1 qa8h
 | false=>rw [if_neg Bool.false_ne_true] at h2 ⊢;exact hb c O1 ρ1 σ H1 _ _ R1 h2 fun x ρ2 O2 v H2 h2 R2 P2 a2=>k _ _ _ _ _ h2 R2 (P1.trans P2) a2
def dNotV(a:TDE):TDE:=fun ρ Q=>a ρ fun x ρ1=>need (qa0m ρ1 x) fun d=>need (asB d) fun k=>Q (.d (.bool (!k))) ρ1
def ad_notV{ta:TE}{da:TDE}(ha:AdE K ta da):AdE K (tNotV ta) (dNotV da):=by
 intro c O ρ σ H Qd Q R h0 k;refine ha c O ρ σ H _ _ R h0 fun x ρ1 O1 v H1 h1 R1 P1 a1=>?_;obtain⟨d,e1,hn8⟩:=ne (h1);obtain⟨b,e2,h2⟩:=ne (hn8);exact⟨b,qb3l (R1.top a1 e1) e2,k _ _ _ _ _ h2 R1 P1 qa8h⟩
def qb3m(f f':F2)(da db dc:TDE):TDE:=fun ρ Q=>da ρ fun x ρ1=>db ρ1 fun y ρ2=>need (qa0m ρ2 x) fun dx=>need (qa0m ρ2 y) fun dy=>need (f dx dy) fun z=>need (asB z) fun k =>
 if k=true then dc ρ2 fun w ρ3=>need (qa0m ρ3 y) fun dy=>need (qa0m ρ3 w) fun dw=>need (f' dy dw) fun z'=>Q (.d z') ρ3 else Q (.d (.bool false)) ρ2
def qb7s{r r':R2}{f f':F2}{ta tb tc:TE}{da db dc:TDE}(hr:AdR K r f)(hr':AdR K r' f')(ha:AdE K ta da)(hb:AdE K tb db)(hc:AdE K tc dc):AdE K (qb7c r r' ta tb tc) (qb3m f f' da db dc):=by
 intro c O ρ σ H Qd Q R h k;refine ha c O ρ σ H _ _ R h fun x ρ1 O1 v H1 h1 R1 P1 a1=>?_;refine hb c O1 ρ1 σ H1 _ _ R1 h1 fun y ρ2 O2 u H2 h2 R2 P2 a2=>?_;obtain⟨dx,e1,hn7⟩:=ne (h2);obtain⟨dy,e2,hn17⟩:=ne (hn7);obtain⟨z,e3,hn20⟩:=ne (hn17);obtain⟨b,e4,h3⟩:=ne (hn20);refine hr (live c O2) H2 v u dx dy z _ R2.frsLive (R2.top (a1.pers P2) e1) (R2.top a2 e2) e3 fun w H3 s3 a3=>?_;have R3:=R2.grow s3;have P3:Pers K (live c O2) H2 (live c O2) H3:=.same s3;refine⟨b,qb3l (.inl a3) e4,?_⟩;cases b with
 | false=>rw [if_neg Bool.false_ne_true] at h3 ⊢;exact k _ _ _ _ _ h3 R3 ((P1.trans P2).trans P3) qa8h
 | true =>
  rw [if_pos rfl] at h3 ⊢;refine hc c O2 ρ2 σ H3 _ _ R3 h3 fun w ρ4 O4 u4 H4 h4 R4 P4 a4=>?_;obtain⟨dy',e5,hn26⟩:=ne (h4);obtain⟨dw,e6,hn28⟩:=ne (hn26);obtain⟨z',e7,h5⟩:=ne (hn28);refine hr' (live c O4) H4 u u4 dy' dw z' Q R4.frsLive (R4.top ((a2.pers P3).pers P4) e5) (R4.top a4 e6) e7 fun w5 H5 s5 a5=>?_;exact k _ _ _ _ _ h5 (R4.grow s5) ((((P1.trans P2).trans P3).trans P4).trans (.same s5)) a5
end
section
variable{X:Cx}{a b c e:Expr}{rest:List Expr}{da db dc de:TDE}{dt du:TDT}{pos:Pos}
def qa4m(h:DE X e de)(he:∀ whole,isTrue e X.env whole=(do let v ← whole;standAt e.pos;holding [v] (truthy v)):=by intro _;rfl):DT X e (dB de):=by
 obtain⟨t,p,a⟩:=h;exact⟨_,qa7y p he,ad_b a⟩
def qa1d{op:CmpOp}{r:R2}{f:F2}(ho:OpR X (compareOp op) r)(hr:AdR X.K r f)(ha:DE X a da)(hb:DE X b db)(hm:behindInMarks op b=false):DT X (.Compare a [op] [b] pos) (dB (dOp f da db)):=by
 obtain⟨ta,pa,aa⟩:=ha;obtain⟨tb,pb,ab⟩:=hb;exact⟨_,qb1t ho pa pb hm,ad_b (ad_op hr aa ab)⟩
def qb7t{op op':CmpOp}{r r':R2}{f f':F2}(ho:OpR X (compareOp op) r)(hr:AdR X.K r f)(ho':OpR X (compareOp op') r')(hr':AdR X.K r' f')(ha:DE X a da)(hb:DE X b db)(hc:DE X c dc)
  (hm:lastMarks [op,op'] [b,c]=false:=by with_unfolding_all rfl):DT X (.Compare a [op,op'] [b,c] pos) (dB (qb3m f f' da db dc)):=by
 obtain⟨ta,pa,aa⟩:=ha;obtain⟨tb,pb,ab⟩:=hb;obtain⟨tc,pc,ac⟩:=hc;exact⟨_,qc7v ho ho' pa pb pc hm,ad_b (qb7s hr hr' aa ab ac)⟩
def qb0e{op op':CmpOp}{r r':R2}{f f':F2}(ho:OpR X (compareOp op) r)(hr:AdR X.K r f)(ho':OpR X (compareOp op') r')(hr':AdR X.K r' f')(ha:DE X a da)(hb:DE X b db)(hc:DE X c dc)
  (hm:lastMarks [op,op'] [b,c]=false:=by with_unfolding_all rfl):DE X (.Compare a [op,op'] [b,c] pos) (qb3m f f' da db dc):=by
 obtain⟨ta,pa,aa⟩:=ha;obtain⟨tb,pb,ab⟩:=hb;obtain⟨tc,pc,ac⟩:=hc;exact⟨_,qc7u ho ho' pa pb pc hm,qb7s hr hr' aa ab ac⟩
def DW.toT(h:DW X e dt):DT X e dt:=by obtain⟨t,p,a⟩:=h;exact⟨t,p.pt,a⟩
def qb3n(ha:DT X a dt):DW X (.BoolOp .Or [a] pos) dt:=by obtain⟨t,p,a⟩:=ha;exact⟨t,pw_or1 p,a⟩
def dw_or(ha:DT X a dt)(hb:DW X (.BoolOp .Or (b :: rest) pos) du):DW X (.BoolOp .Or (a :: b :: rest) pos) (dOr dt du):=by obtain⟨_,p,a⟩:=ha;obtain⟨_,p',a'⟩:=hb;exact⟨_,pw_or p p',ad_or a a'⟩
def qa3r(ha:DT X a dt):DT X (.UnaryOp .Not a pos) (dNot dt):=by obtain⟨_,p,a⟩:=ha;exact⟨_,pt_not p,ad_not a⟩
def qa4n{op}(h:DE X a da):DE X (.BoolOp op [a] pos) da:=by obtain⟨t,p,a⟩:=h;exact⟨t,pe_one p,a⟩
def qa4a(ha:DE X a da)(hb:DE X (.BoolOp .And (b :: rest) pos) db):DE X (.BoolOp .And (a :: b :: rest) pos) (dAndV da db):=by obtain⟨_,p,a⟩:=ha;obtain⟨_,p',a'⟩:=hb;exact⟨_,pe_and p p',ad_andV a a'⟩
def de_or(ha:DE X a da)(hb:DE X (.BoolOp .Or (b :: rest) pos) db):DE X (.BoolOp .Or (a :: b :: rest) pos) (dOrV da db):=by obtain⟨_,p,a⟩:=ha;obtain⟨_,p',a'⟩:=hb;exact⟨_,pe_or p p',ad_orV a a'⟩
def de_not(ha:DE X a da):DE X (.UnaryOp .Not a pos) (dNotV da):=by obtain⟨_,p,a⟩:=ha;exact⟨_,pe_not p,ad_notV a⟩
def de_if(hc:DT X c dt)(ha:DE X a da)(hb:DE X b db):DE X (.IfExp c a b pos) (dIfE dt da db):=by obtain⟨_,p,a⟩:=hc;obtain⟨_,p',a'⟩:=ha;obtain⟨_,p2,a2⟩:=hb;exact⟨_,qc7s p p' p2,ad_ifE a a' a2⟩
end
inductive RV where
 | d (x:PyData)
 | new (xs:List PyData)
structure DEnds where
 nx:Rho->Prop
 rt:RV->Rho->Prop
 bk:Rho->Prop:=fun _=>False
 ct:Rho->Prop:=fun _=>False
abbrev TDS:=DEnds->Rho->Prop
noncomputable def RetOk(K:W.Frag)(c:Rc)(O:Own)(ρ:Rho)(σ:St)(H:Hp):RV->V->Prop
 | .d x,v=>Rel K c O ρ σ H/\AtD K H (live c O) x v
 | .new xs,v=>∃ p vs,v=.ref p/\Rel K (c.add p) O ρ σ H/\qb1w c O p/\H p=some (.lst vs)/\qa0c K H (live (c.add p) O) xs vs
structure EndsOk(K:W.Frag)(c:Rc)(S0:Addr->Prop)(H0:Hp)(D:Ends)(Dd:DEnds):Prop where
 nx:∀ O ρ σ H,Rel K c O ρ σ H->Pers K S0 H0 (live c O) H->Dd.nx ρ->D.nx σ H
 rt:∀ r O ρ σ H v,RetOk K c O ρ σ H r v->Dd.rt r ρ->D.rt v H
 bk:∀ O ρ σ H,Rel K c O ρ σ H->Pers K S0 H0 (live c O) H->Dd.bk ρ->D.bk σ H
 ct:∀ O ρ σ H,Rel K c O ρ σ H->Pers K S0 H0 (live c O) H->Dd.ct ρ->D.ct σ H
 mb:∀ p,c.M p->c.B p
 oa:∀ p,c.H0 p=none->c.A p
def EndsOk.later{K:W.Frag}{c:Rc}{S0 S1:Addr->Prop}{H0 H1:Hp}{D:Ends}{Dd:DEnds}(E:EndsOk K c S0 H0 D Dd)(P:Pers K S0 H0 S1 H1):EndsOk K c S1 H1 D Dd:=
 ⟨fun O ρ σ H R q=>E.nx O ρ σ H R (P.trans q),E.rt,fun O ρ σ H R q=>E.bk O ρ σ H R (P.trans q),fun O ρ σ H R q=>E.ct O ρ σ H R (P.trans q),E.mb,E.oa⟩
def AdS(K:W.Frag)(t:TS)(dt:TDS):Prop:=∀ (c:Rc) (O:Own) (ρ:Rho) (σ:St) (H:Hp) (D:Ends) (Dd:DEnds),Rel K c O ρ σ H->EndsOk K c (live c O) H D Dd->dt Dd ρ->t D σ H
def DS(X:Cx)(st:Stmt)(dt:TDS):Prop:=∃ t,PS X st t/\AdS X.K t dt
def DSs(X:Cx)(st:List Stmt)(dt:TDS):Prop:=∃ t,PSs X st t/\AdS X.K t dt
section
variable{K:W.Frag}{c:Rc}{O:Own}{ρ:Rho}{σ:St}{H H':Hp}{S S':Addr->Prop}
def dNext:TDS:=fun D ρ=>D.nx ρ
def dSeq(t u:TDS):TDS:=fun D ρ=>t { D with nx:=u D } ρ
def ad_next:AdS K tNext dNext:=fun c O ρ σ H D Dd R E h=>E.nx O ρ σ H R .refl h
def ad_seq{t u:TS}{dt du:TDS}(h:AdS K t dt)(h':AdS K u du):AdS K (tSeq t u) (dSeq dt du):=fun c O ρ σ H D Dd R E q =>
 h c O ρ σ H { D with nx:=u D } { Dd with nx:=du Dd } R ⟨fun O1 ρ1 σ1 H1 R1 P1 q1=>h' c O1 ρ1 σ1 H1 D Dd R1 (E.later P1) q1,E.rt,E.bk,E.ct,E.mb,E.oa⟩ q
def dDrop(de:TDE):TDS:=fun D ρ=>de ρ fun _ ρ1=>D.nx ρ1
def ad_drop{t:TE}{de:TDE}(h:AdE K t de):AdS K (tDrop t) (dDrop de):=fun c O ρ σ H D Dd R E q =>
 h c O ρ σ H _ _ R q fun x ρ1 O1 v H1 h1 R1 P1 a1=>E.nx O1 ρ1 σ H1 R1 P1 h1
def dRet(de:TDE):TDS:=fun D ρ=>de ρ fun x ρ1=>fz ρ1 x fun y ρ2=>D.rt (.d y) ρ2
def ad_ret{t:TE}{de:TDE}(h:AdE K t de):AdS K (tRet t) (dRet de):=fun c O ρ σ H D Dd R E q =>
 h c O ρ σ H _ _ R q fun x ρ1 O1 v H1 h1 R1 P1 a1=>by
  obtain⟨y,ρ2,O2,h2,R2,P2,a2⟩:=R1.fz a1 h1;exact E.rt (.d y) O2 ρ2 σ H1 v ⟨R2,a2⟩ h2
def dRetF(df:TDF):TDS:=fun D ρ=>df ρ fun xs ρ1=>D.rt (.new xs) ρ1
def dIf(c:TDT)(t u:TDS):TDS:=fun D ρ=>c ρ fun b ρ1=>if b=true then t D ρ1 else u D ρ1
def ad_if{tc:TT}{t u:TS}{dc:TDT}{dt du:TDS}(hc:AdT K tc dc)(h:AdS K t dt)(h':AdS K u du):AdS K (tIfS tc t u) (dIf dc dt du):=fun c O ρ σ H D Dd R E q =>
 hc c O ρ σ H _ _ R q fun b ρ1 O1 H1 h1 R1 P1=>by
  cases b with
  | true=>rw [if_pos rfl] at h1 ⊢;exact h c O1 ρ1 σ H1 D Dd R1 (E.later P1) h1
  | false=>rw [if_neg Bool.false_ne_true] at h1 ⊢;exact h' c O1 ρ1 σ H1 D Dd R1 (E.later P1) h1
def dSet(i:Nat)(de:TDE):TDS:=fun D ρ=>de ρ fun x ρ1=>fz ρ1 x fun y ρ2=>i < ρ2.length/\D.nx (ρ2.set i (some (.d y)))
def ad_set{i:Nat}{t:TE}{de:TDE}(h:AdE K t de):AdS K (tAsg t (qa3b i)) (dSet i de):=fun c O ρ σ H D Dd R E q =>
 h c O ρ σ H _ _ R q fun x ρ1 O1 v H1 h1 R1 P1 a1=>by
  obtain⟨y,ρ2,O2,⟨hi,h2⟩,R2,P2,a2⟩:=R1.fz a1 h1;obtain⟨R3,P3⟩:=R2.setD hi a2;exact E.nx _ _ _ H1 R3 ((P1.trans P2).trans P3) h2
def dSetF(i:Nat)(df:TDF):TDS:=fun D ρ=>df ρ fun xs ρ1=>i < ρ1.length/\D.nx (ρ1.set i (some (.own xs)))
def qc1x{i:Nat}{t:TE}{df:TDF}(h:AdF K t df):AdS K (tAsg t (qa3b i)) (dSetF i df):=fun c O ρ σ H D Dd R E q =>
 h c O ρ σ H _ _ R q fun xs ρ1 O1 p vs H1 h1 R1 P1 f1 hp a1=>by
  obtain⟨hi,h2⟩:=h1;obtain⟨R3,P3⟩:=R1.setOwn hi f1.1 f1.2.1 f1.2.2.1 f1.2.2.2 (E.oa _ f1.1) hp a1;exact E.nx _ _ _ H1 R3 (P1.trans P3) h2
abbrev TDG:=PyData->Rho->(Rho->Prop)->Prop
abbrev TDGs:=List PyData->Rho->(Rho->Prop)->Prop
def AdG(K:W.Frag)(g:TG)(dg:TDG):Prop:=∀ (c:Rc) (O:Own) (ρ:Rho) (σ:St) (H:Hp) (x:PyData) (v:V) (Qd:Rho->Prop) (Q:St->Hp->Prop),Rel K c O ρ σ H->AtD K H (live c O) x v->dg x ρ Qd ->
 (∀ O' ρ' σ' ,Rel K c O' ρ' σ' H->Pers K (live c O) H (live c O') H->Qd ρ'->Q σ' H)->g v σ H Q
def AdGs(K:W.Frag)(g:TGs)(dg:TDGs):Prop:=∀ (c:Rc) (O:Own) (ρ:Rho) (σ:St) (H:Hp) (x:List PyData) (v:List V) (Qd:Rho->Prop) (Q:St->Hp->Prop),Rel K c O ρ σ H->qa0c K H (live c O) x v->dg x ρ Qd ->
 (∀ O' ρ' σ' ,Rel K c O' ρ' σ' H->Pers K (live c O) H (live c O') H->Qd ρ'->Q σ' H)->g v σ H Q
def qa9p(i:Nat):TDG:=fun x ρ Q=>i < ρ.length/\Q (ρ.set i (some (.d x)))
def ag_name{i:Nat}:AdG K (qa3b i) (qa9p i):=fun c O ρ σ H x v Qd Q R a h k=>by
 obtain⟨R1,P1⟩:=R.setD h.1 a;exact k _ _ _ R1 P1 h.2
noncomputable def dgNil:TDGs:=fun xs ρ Q=>xs=[]/\Q ρ
def qb7u(t:TDG)(u:TDGs):TDGs:=fun xs ρ Q=>match xs with
 | x :: r=>t x ρ fun ρ1=>u r ρ1 Q
 | []=>False
def ag_nil:AdGs K gNil dgNil:=fun c O ρ σ H x v Qd Q R a h k=>by
 obtain⟨rfl,h⟩:=h;exact⟨a.unnil,k _ _ _ R .refl h⟩
def ag_cons{t:TG}{u:TGs}{dt:TDG}{du:TDGs}(h:AdG K t dt)(h':AdGs K u du):AdGs K (gCons t u) (qb7u dt du):=fun c O ρ σ H x v Qd Q R a q k=>by
 cases x with
 | nil=>exact(show False from q).elim
 | cons x r =>
  obtain⟨w,ws,rfl,a1,a2⟩:=a.uncons;exact⟨w,ws,rfl,h c O ρ σ H x w _ _ R a1 q fun O1 ρ1 σ1 R1 P1 q1=>h' c O1 ρ1 σ1 H r ws _ _ R1 (P1.all a2) q1 fun O2 ρ2 σ2 R2 P2 q2=>k _ _ _ R2 (P1.trans P2) q2⟩
def dgTup(n:Nat)(t:TDGs):TDG:=fun x ρ Q=>match x with
 | .tuple xs=>xs.length=n/\t xs ρ Q
 | _=>False
def ag_tup{n:Nat}{t:TGs}{dt:TDGs}(h:AdGs K t dt):AdG K (gTup K n t) (dgTup n dt):=fun c O ρ σ H x v Qd Q R a q k=>by
 cases x with
 | tuple xs =>
  obtain⟨hn,q⟩:=q;obtain⟨b,ws,rfl,h1,h2⟩:=qa2w a;exact⟨b,ws,rfl,h1,by rw [h2.length];exact hn,h c O ρ σ H xs ws _ _ R h2 q k⟩
 | _=>exact(show False from q).elim
def dAsg(de:TDE)(g:TDG):TDS:=fun D ρ=>de ρ fun x ρ1=>fz ρ1 x fun y ρ2=>g y ρ2 D.nx
inductive OK where | o | b
noncomputable def ownB(ρ:Rho)(i:Nat):Option (OK × List PyData):=match ρ[i]?.join with
 | some (.own xs)=>some (.o,xs)
 | some (.bor xs)=>some (.b,xs)
 | _=>none
noncomputable def okL:OK->List PyData->L
 | .o,xs=>.own xs
 | .b,xs=>.bor xs
def qb1x{i:Nat}{o:OK}{xs:List PyData}(R:Rel K c O ρ σ H)(h:ownB ρ i=some (o,xs)):ρ[i]? = some (some (okL o xs))/\∃ p vs,O i=some p/\σ[i]? = some (some (.ref p))/\H p=some (.lst vs)/\qa0c K H (live c O) xs vs:=by
 unfold ownB at h;split at h
 ·rename_i ys e
  cases h
  have e':=qa2b e;obtain⟨p,vs,h1,_,h3,h4,h5⟩:=R.own i _ e';exact⟨e',p,vs,h1,h3,h4,h5⟩
 ·rename_i ys e
  cases h
  have e':=qa2b e;obtain⟨p,vs,h1,h3,h4,h5⟩:=R.bor i _ e';exact⟨e',p,vs,h1,h3,h4,h5⟩
 ·cases h
def Rel.writeB{i:Nat}{o:OK}{p:Addr}{xs ys:List PyData}{vs vs':List V}(R:Rel K c O ρ σ H)(hO:O i=some p)(hH:H p=some (.lst vs))(e:ρ[i]? = some (some (okL o xs)))(h:qa0c K H (live c O) ys vs') :
  Rel K c O (ρ.set i (some (okL o ys))) σ (upd H p (.lst vs'))/\Pers K (live c O) H (live c O) (upd H p (.lst vs')):=by
 cases o with
 | o=>exact R.write hO hH (.inl e) (.inl ⟨ys,e,rfl,h⟩)
 | b=>exact R.write hO hH (.inr (.inl e)) (.inr (.inl ⟨ys,e,rfl,h⟩))
def qb4x(i:Nat)(de:TDE):TDE:=fun ρ Q=>need (ownB ρ i) fun _=>de ρ fun x ρ1=>fz ρ1 x fun y ρ2=>need (ownB ρ2 i) fun o=>o.2.length <= 1000000/\Q (.d .none) (ρ2.set i (some (okL o.1 (o.2 ++ [y]))))
def qc6a{i:Nat}{t:TE}{de:TDE}(h:AdE K t de):AdE K (tBM K "list" qb4t (tVar i) (qa3w t tNil)) (qb4x i de):=by
 intro c O ρ σ H Qd Q R q k;obtain⟨hz6,e,q⟩:=ne (q);obtain⟨o,xs⟩:=hz6;obtain⟨e0,p,vs,hO,hσ,hH,hA⟩:=qb1x R e;refine⟨.ref p,hσ,.inl ⟨rfl,vs,SqL.of hH⟩,?_⟩;refine h c O ρ σ H _ _ R q fun x ρ1 O1 v H1 h1 R1 P1 a1=>?_;obtain⟨y,ρ2,O2,hz19,R2,P2,a2⟩:=R1.fz a1 h1;obtain⟨hz23,e2,hn25⟩:=ne (hz19);obtain⟨hz,h2⟩:=hn25;obtain⟨o2,xs2⟩:=hz23;obtain⟨e3,p2,vs2,hO2,hσ2,hH2,hA2⟩:=qb1x R2 e2;rw [hσ] at hσ2;cases hσ2;refine⟨p,vs2,v,rfl,rfl,hH2,by rw [hA2.length];exact mil hz,?_⟩;obtain⟨R3,P3⟩:=R2.writeB hO2 hH2 e3 (hA2.snoc a2);exact k _ _ _ _ _ h2 R3 ((P1.trans P2).trans P3) qc8m
def dPop(i:Nat):TDE:=fun ρ Q=>need (ownB ρ i) fun o=>need o.2.getLast? fun y=>Q (.d y) (ρ.set i (some (okL o.1 o.2.dropLast)))
def qb1a(i:Nat)(di de:TDE):TDS:=fun D ρ=>de ρ fun x ρ1=>fz ρ1 x fun y ρ2=>need (ownB ρ2 i) fun _=>di ρ2 fun z ρ3=>need (qa0m ρ3 z) fun dz=>need (asI dz) fun n=>need (ownB ρ3 i) fun o=>need (ixN o.2.length n) fun j=>D.nx (ρ3.set i (some (okL o.1 (o.2.set j y))))
 where asI:PyData->Option Int
  | .int i=>some i
  | _=>none
def qc8n{i:Nat}{ti te:TE}{di de:TDE}(hi:AdE K ti di)(h:AdE K te de):AdS K (tAsg te (gSub (tVar i) ti rSetL)) (qb1a i di de):=fun c O ρ σ H D Dd R E q =>
 h c O ρ σ H _ _ R q fun x ρ1 O1 v H1 h1 R1 P1 a1=>by
  obtain⟨y,ρ2,O2,hz4,R2,P2,a2⟩:=R1.fz a1 h1;obtain⟨hz15,e,h2⟩:=ne (hz4);obtain⟨o,xs⟩:=hz15;obtain⟨e0,p,vs,hO,hσ,hH,hA⟩:=qb1x R2 e;refine⟨.ref p,hσ,?_⟩;refine hi c O2 ρ2 σ H1 _ _ R2 h2 fun z ρ3 O3 w H3 h3 R3 P3 a3=>?_;obtain⟨dz,e1,hn24⟩:=ne (h3);obtain⟨n,e2,hn27⟩:=ne (hn24);obtain⟨hz22,e4,hn29⟩:=ne (hn27);obtain⟨j,e5,h4⟩:=ne (hn29);obtain⟨o4,xs4⟩:=hz22;obtain⟨e6,p4,vs4,hO4,hσ4,hH4,hA4⟩:=qb1x R3 e4;rw [hσ] at hσ4;cases hσ4;have a4:=R3.top a3 e1;cases dz with
  | int n' =>
   cases e2
   refine⟨p,vs4,n,j,rfl,a4.int,hH4,by rw [hA4.length];exact e5,?_⟩;obtain⟨R5,P5⟩:=R3.writeB hO4 hH4 e6 (hA4.set j (P3 _ _ a2));exact E.nx _ _ _ _ R5 (((P1.trans P2).trans P3).trans P5) h4
  | _=>cases e2
abbrev TDI:=Rho->(List PyData->Rho->Prop)->Prop
def qa9q(K:W.Frag)(S:Addr->Prop)(H:Hp)(J:It)(xs:List PyData):Prop:=∀ (S':Addr->Prop) (H':Hp),Pers K S H S' H' ->
 (∀ (i:Nat) (x:PyData),xs[i]? = some x->J.go i H'/\∀ v H'',J.yld i H' v H''->Same H' H''/\AtD K H'' S' x v)/\J.stop xs.length H'
def AdI(K:W.Frag)(t:TI)(di:TDI):Prop:=∀ (c:Rc) (O:Own) (ρ:Rho) (σ:St) (H:Hp) (Qd:List PyData->Rho->Prop) (Q:It->Hp->Prop),Rel K c O ρ σ H->di ρ Qd ->
 (∀ xs ρ' O' J H',Qd xs ρ'->Rel K c O' ρ' σ H'->Pers K (live c O) H (live c O') H'->qa9q K (live c O') H' J xs->Q J H')->t σ H Q
def DI(X:Cx)(tg iter:Expr)(di:TDI):Prop:=∃ t,PI X tg iter t/\AdI X.K t di
def qc3u{a:Addr}{vs:List V}{xs:List PyData}(h1:SqT K H a vs)(h2:qa0c K H S xs vs):qa9q K S H (Itt K a) xs:=fun S' H' P=>by
 obtain⟨b,ws,e,h3,h4⟩:=qa2w (P _ _ (qa3u h1 h2));cases e;refine⟨fun i x e=>?_,⟨ws,h3,by rw [h4.length];exact le_refl _⟩⟩;obtain⟨w,e1,e2⟩:=h4.get e;refine⟨⟨ws,w,h3,e1⟩,fun v H'' y=>?_⟩;obtain⟨rfl,y⟩:=y;have e3:=y ws h3;rw [e1] at e3;cases e3;exact⟨Same.refl _,e2⟩
def qc3v{a:Addr}{vs:List V}{xs:List PyData}(hS:S a)(h1:H a=some (.lst vs))(h2:qa0c K H S xs vs):qa9q K S H (Itl K a) xs:=fun S' H' P=>by
 obtain⟨b,ws,e,_,h3,h4⟩:=qa3q (P _ _ (qa2o hS h1 h2));cases e;refine⟨fun i x e=>?_,⟨ws,SqL.of h3,by rw [h4.length];exact le_refl _⟩⟩;obtain⟨w,e1,e2⟩:=h4.get e;refine⟨⟨ws,w,SqL.of h3,e1⟩,fun v H'' y=>?_⟩;obtain⟨rfl,y⟩:=y;have e3:=y ws (SqL.of h3);rw [e1] at e3;cases e3;exact⟨Same.refl _,e2⟩
def diDat(de:TDE):TDI:=fun ρ Q=>de ρ fun x ρ1=>fz ρ1 x fun y ρ2=>need (seqD y) fun xs=>Q xs ρ2
def ai_dat{t:TE}{de:TDE}(h:AdE K t de):AdI K (iDat K t) (diDat de):=fun c O ρ σ H Qd Q R q k =>
 h c O ρ σ H _ _ R q fun x ρ1 O1 v H1 h1 R1 P1 a1=>by
  obtain⟨y,ρ2,O2,hz3,R2,P2,a2⟩:=R1.fz a1 h1;obtain⟨xs,e,h2⟩:=ne (hz3);cases y with
  | list ys =>
   cases e
   obtain⟨a,vs,rfl,hS,h3,h4⟩:=qa3q a2;exact .inr ⟨a,rfl,⟨vs,SqL.of h3⟩,k _ _ _ _ _ h2 R2 (P1.trans P2) (qc3v hS h3 h4)⟩
  | tuple ys =>
   cases e
   obtain⟨a,vs,rfl,h3,h4⟩:=qa2w a2;exact .inl ⟨a,rfl,⟨vs,h3⟩,k _ _ _ _ _ h2 R2 (P1.trans P2) (qc3u h3 h4)⟩
  | _=>cases e
noncomputable def rngD(lo:Int)(n:Nat):List PyData:=(List.range n).map fun i=>.int (lo + (i:Nat))
def qc3w{lo:Int}{n:Nat}:qa9q K S H (Itr lo n) (rngD lo n):=fun S' H' P=>by
 have hl:(rngD lo n).length=n:=by simp [rngD]
 refine⟨fun i x e=>?_,by rw [hl];exact le_refl _⟩;have hi:i < n:=by rw [← hl];exact(List.getElem?_eq_some_iff.mp e).1
 have ex:x=.int (lo + (i:Nat)):=by
  simp only [rngD,getElem?_map,List.getElem?_range hi,map_some] at e;exact(Option.some.inj e).symm
 subst ex;refine⟨hi,fun v H'' y=>?_⟩;obtain⟨rfl,rfl⟩:=y;exact⟨Same.refl _,qa2k _⟩
noncomputable def asI:PyData->Option Int
 | .int i=>some i
 | _=>none
def qb7v{d:PyData}{v:V}{i:Int}(h:AtT K H S d v)(e:asI d=some i):v=.int i:=by
 cases d with
 | int i'=>cases e;exact h.int
 | _=>cases e
def sm62(i:Int):Prop:=-(2 ^ 62) <= i/\i < 2 ^ 62
def qb7w(de:TDE):TDI:=fun ρ Q=>de ρ fun x ρ1=>need (qa0m ρ1 x) fun d=>need (asI d) fun j=>sm62 j/\Q (rngD 0 j.toNat) ρ1
def ai_rng1{t:TE}{de:TDE}(h:AdE K t de):AdI K (iRng1 (qa3w t tNil)) (qb7w de):=fun c O ρ σ H Qd Q R q k =>
 h c O ρ σ H _ _ R q fun x ρ1 O1 v H1 h1 R1 P1 a1=>by
  obtain⟨d,e1,hn2⟩:=ne (h1);obtain⟨j,e2,hn14⟩:=ne (hn2);obtain⟨hj,h2⟩:=hn14;have ev:=qb7v (R1.top a1 e1) e2;exact⟨j,by rw [ev],hj.1,hj.2,k _ _ _ _ _ h2 R1 P1 qc3w⟩
def qa4s(g:TDG)(b:TDS)(D:DEnds):List PyData->Rho->Prop
 | [],ρ=>D.nx ρ
 | x :: r,ρ=>g x ρ fun ρ1=>b { D with nx:=qa4s g b D r,ct:=qa4s g b D r,bk:=D.nx } ρ1
def dFor(di:TDI)(g:TDG)(b:TDS):TDS:=fun D ρ=>di ρ fun xs ρ1=>qa4s g b D xs ρ1
def ad_for{ti:TI}{tg:TG}{tb:TS}{di:TDI}{dg:TDG}{db:TDS}(hi:AdI K ti di)(hg:AdG K tg dg)(hb:AdS K tb db):AdS K (tFor ti tg tb) (dFor di dg db):=fun c O ρ σ H D Dd R E q =>
 hi c O ρ σ H _ _ R q fun xs ρ1 O1 J H1 h1 R1 P1 I1=>by
  refine⟨fun i m σ' H'=>m=xs.length - i/\i <= xs.length/\∃ O' ρ',Rel K c O' ρ' σ' H'/\Pers K (live c O1) H1 (live c O') H'/\qa4s dg db Dd (xs.drop i) ρ',⟨xs.length,by simp,zero_le _,O1,ρ1,R1,.refl,by rw [drop_zero];exact h1⟩,?_⟩;rintro i m σ2 H2 ⟨rfl,hle,O2,ρ2,R2,P2,h2⟩;obtain⟨it,stop⟩:=I1 _ _ P2;by_cases hlt:i < xs.length
  ·rw [drop_eq_getElem_cons hlt] at h2
   obtain⟨go,yld⟩:=it i xs[i] (getElem?_eq_getElem hlt);have h2':dg xs[i] ρ2 fun ρ1=>db { Dd with nx:=qa4s dg db Dd (xs.drop (i + 1)),ct:=qa4s dg db Dd (xs.drop (i + 1)),bk:=Dd.nx } ρ1:=h2;refine .inr ⟨go,fun σ' H'=>∃ O' ρ',Rel K c O' ρ' σ' H'/\Pers K (live c O1) H1 (live c O') H'/\qa4s dg db Dd (xs.drop (i + 1)) ρ',fun σ' H' hq8=>by obtain⟨O',ρ',R',P',q'⟩:=hq8;exact⟨xs.length - (i + 1),'o',rfl,hlt,O',ρ',R',P',q'⟩,fun v H3 y=>?_⟩;obtain⟨s3,a3⟩:=yld v H3 y;refine hg c O2 ρ2 σ2 H3 xs[i] v _ _ (R2.grow s3) a3 h2' fun O4 ρ4 σ4 R4 P4 h4=>?_;have P5:Pers K (live c O1) H1 (live c O4) H3:=(P2.trans (.same s3)).trans P4;exact hb c O4 ρ4 σ4 H3 _ { Dd with nx:=qa4s dg db Dd (xs.drop (i + 1)),ct:=qa4s dg db Dd (xs.drop (i + 1)),bk:=Dd.nx } R4 ⟨fun O6 ρ6 σ6 H6 R6 P6 q6=>⟨O6,ρ6,R6,P5.trans P6,q6⟩,E.rt,fun O6 ρ6 σ6 H6 R6 P6=>E.nx _ _ _ _ R6 ((P1.trans P5).trans P6),fun O6 ρ6 σ6 H6 R6 P6 q6=>⟨O6,ρ6,R6,P5.trans P6,q6⟩,E.mb,E.oa⟩ h4
  ·have e:i=xs.length:=by omega
   subst e;rw [drop_eq_nil_of_le 'e'] at h2;exact .inl ⟨stop,E.nx _ _ _ _ R2 (P1.trans P2) h2⟩
end
end
section
noncomputable def qa7i:L->L->Option L
 | .own _,.bor xs=>some (.own xs)
 | .bor _,.bor xs=>some (.bor xs)
 | .tape _,.tape k=>some (.tape k)
 | _,_=>none
noncomputable def lend:L->L
 | .own xs=>.bor xs
 | l=>l
noncomputable def isOw:L->Bool
 | .own _=>true
 | .bor _=>true
 | .tape _=>true
 | _=>false
abbrev Lent:=Nat->Option Nat
section
variable{K:W.Frag}{c:Rc}{O:Own}{ρ:Rho}{σ:St}{H H':Hp}{S S':Addr->Prop}
def Rel.ow{i:Nat}{l:L}(R:Rel K c O ρ σ H)(h:ρ[i]? = some (some l))(ho:isOw l=true):∃ p,O i=some p/\σ[i]? = some (some (.ref p)):=by
 cases l with
 | own xs=>obtain⟨p,vs,h1,_,h3,_⟩:=R.own i xs h;exact⟨p,h1,h3⟩
 | bor xs=>obtain⟨p,vs,h1,h3,_⟩:=R.bor i xs h;exact⟨p,h1,h3⟩
 | tape k=>obtain⟨p,h1,h3,_⟩:=R.tap i k h;exact⟨p,h1,h3⟩
 | _=>cases ho
noncomputable def Holds(K:W.Frag)(c:Rc)(S:Addr->Prop)(H:Hp)(p:Addr):L->Prop
 | .own xs=>∃ vs,H p=some (.lst vs)/\qa0c K H S xs vs
 | .bor xs=>∃ vs,H p=some (.lst vs)/\qa0c K H S xs vs
 | .tape k=>H p=some (.lst [.ref c.sa,.int k])
 | _=>False
def Rel.holds{i:Nat}{l:L}(R:Rel K c O ρ σ H)(h:ρ[i]? = some (some l))(ho:isOw l=true):∃ p,O i=some p/\σ[i]? = some (some (.ref p))/\Holds K c (live c O) H p l/\(∀ xs,l=.own xs->qb0a c p):=by
 cases l with
 | own xs=>obtain⟨p,vs,h1,h2,h3,h4,h5⟩:=R.own i xs h;exact⟨p,h1,h3,⟨vs,h4,h5⟩,fun _ _=>h2⟩
 | bor xs=>obtain⟨p,vs,h1,h3,h4,h5⟩:=R.bor i xs h;exact⟨p,h1,h3,⟨vs,h4,h5⟩,fun _ z=>nomatch z⟩
 | tape k=>obtain⟨p,h1,h3,h4⟩:=R.tap i k h;exact⟨p,h1,h3,h4,fun _ z=>nomatch z⟩
 | _=>cases ho
mutual
def AtD.inH(hs:∀ a,S a->H a ≠ none->S' a):∀ (d:PyData) (v:V),AtD K H S d v->AtD K H S' d v
 | .none,_,h=>by unfold AtD at h ⊢;exact h
 | .bool _,_,h=>by unfold AtD at h ⊢;exact h
 | .int _,_,h=>by unfold AtD at h ⊢;exact h
 | .str _,_,h=>by unfold AtD at h ⊢;exact h
 | .list ds,v,h=>by
  obtain⟨a,xs,e1,s,q,r⟩:=qa3q h;subst e1;exact qa2o (hs a s (by rw [q];exact fun z=>nomatch z)) q (qa0c.inH hs ds xs r)
 | .tuple ds,v,h=>by
  obtain⟨a,xs,e1,q,r⟩:=qa2w h;subst e1;exact qa3u q (qa0c.inH hs ds xs r)
 | .dict kvs,v,h=>by
  obtain⟨a,ν,e1,s,q,e2⟩:=qa9n h;subst e1;exact qa4y (hs a s (by rw [q];exact fun z=>nomatch z)) q (qa0e.inH hs kvs ν e2)
def qa0c.inH(hs:∀ a,S a->H a ≠ none->S' a):∀ (ds:List PyData) (vs:List V),qa0c K H S ds vs->qa0c K H S' ds vs
 | [],_,h=>by rw [h.unnil];exact .nil
 | d :: ds,vs,h=>by
  obtain⟨v,r,rfl,h1,h2⟩:=h.uncons;exact .cons (AtD.inH hs d v h1) (qa0c.inH hs ds r h2)
def qa0e.inH(hs:∀ a,S a->H a ≠ none->S' a):∀ (kvs:List 'i') (κ:List (Key × V)),qa0e K H S kvs κ->qa0e K H S' kvs κ
 | [],_,h=>by rw [h.unnil];exact .nil
 | (x,d) :: r,κ,h=>by
  obtain⟨k,v,t,rfl,rfl,h1,h2⟩:=h.uncons;exact .cons (AtD.inH hs d v h1) (qa0e.inH hs r t h2)
end
noncomputable def qa1h(O:Own)(ρ:Rho)(f:Lent):Own:=fun j=>(f j).bind fun i=>match ρ[i]?.join with
 | some l=>if isOw l then O i else none
 | none=>none
noncomputable def Rc.in(c:Rc)(O Oc:Own)(P:Addr->Prop)(b:Bool)(H:Hp):Rc:={ A:=fun p=>(∃ j,Oc j=some p) ∨ (b=true/\H p=none),H0:=H,S:=live c O,P:=P,M:=fun p=>∃ j,Oc j=some p,B:=fun p=>∃ j,Oc j=some p,lent:=Oc,sa:=c.sa,ns:=c.ns }
def qa2e{f:Lent}{j:Nat}{p:Addr}(h:qa1h O ρ f j=some p):∃ i l,f j=some i/\ρ[i]? = some (some l)/\isOw l=true/\O i=some p:=by
 unfold qa1h at h;cases e:f j with
 | none=>rw [e] at h;cases h
 | some i =>
  rw [e] at h;have h':(match ρ[i]?.join with | some l=>if isOw l then O i else none | none=>none)=some p:=h;split at h'
  ·rename_i l el
   split at h'
   ·rename_i ho
    exact⟨i,l,rfl,qa2b el,ho,h'⟩
   ·cases h'
  ·cases h'
def qb2t{f:Lent}{j i:Nat}{l:L}(e:f j=some i)(h:ρ[i]? = some (some l))(ho:isOw l=true):qa1h O ρ f j=O i:=by
 unfold qa1h;rw [e];show(match ρ[i]?.join with | some l=>if isOw l then O i else none | none=>none)=O i;rw [h];show(if isOw l then O i else none)=O i;rw [if_pos ho]
structure Begins(K:W.Frag)(c:Rc)(O:Own)(ρ:Rho)(σ:St)(H:Hp)(f:Lent)(ρi:Rho)(σi:St):Prop where
 io:∀ (j:Nat) (l:L),ρi[j]? = some (some l)->isOw l=true->∃ i l0,f j=some i/\ρ[i]? = some (some l0)/\isOw l0=true/\l=lend l0/\σi[j]? = σ[i]?
 dat:∀ (j:Nat) (x:PyData),ρi[j]? = some (some (.d x))->∃ v,σi[j]? = some (some v)/\AtD K H (live c O) x v
 scr:∀ j:Nat,ρi[j]? = some (some .scr)->σi[j]? = some (some (.ref c.sa))
 inj:∀ j k i,f j=some i->f k=some i->j=k
 len:σi.length=ρi.length
def Rel.begin{b:Bool}{f:Lent}{ρi:Rho}{σi:St}{P:Addr->Prop}{H':Hp}(R:Rel K c O ρ σ H)(B:Begins K c O ρ σ H f ρi σi)(hs:Same H H')(hP:∀ p,P p->H p=none/\H' p ≠ none) :
  Rel K (c.in O (qa1h O ρ f) P b H') (qa1h O ρ f) ρi σi H'/\Pers K (live c O) H (live (c.in O (qa1h O ρ f) P b H') (qa1h O ρ f)) H':=by
 have hl:∀ a,live c O a->H a ≠ none->live (c.in O (qa1h O ρ f) P b H') (qa1h O ρ f) a:=fun a h n=>⟨h,fun z=>n (hP a z).1,fun j e=>by
  obtain⟨i,l,_,_,_,e2⟩:=qa2e e;exact h.2.2 i e2⟩
 have P1:Pers K (live c O) H (live (c.in O (qa1h O ρ f) P b H') (qa1h O ρ f)) H':=fun d v h =>
  AtD.mono hs.keep _ _ (AtD.inH hl d v h)
 refine⟨⟨fun j x e=>?_,fun j xs e=>?_,fun j xs e=>?_,fun j k e=>?_,fun j e=>B.scr j e,fun j k p e1 e2=>?_,fun j p e=>?_,fun p hp=>hp.elim .inl fun z=>.inr z.2,fun p hp=>?_,fun b o _ q=>q,fun b n=>n,fun p h=>?_,fun p h=>?_,fun j p e l h1 h2=>e,?_,B.len⟩,P1⟩
 ·obtain⟨v,h1,h2⟩:=B.dat j x e
  exact⟨v,h1,P1 _ _ h2⟩
 ·obtain⟨i,l0,_,h2,h3,h4,_⟩:=B.io j _ e rfl
  cases l0<;>cases h4
 ·obtain⟨i,l0,h1,h2,h3,h4,h5⟩:=B.io j _ e rfl
  obtain⟨p,e1,e2,e3,_⟩:=R.holds h2 h3;have eO:qa1h O ρ f j=some p:=(qb2t h1 h2 h3).trans e1;cases l0 with
  | own ys=>cases h4;obtain⟨vs,e4,e5⟩:=e3;exact⟨p,vs,eO,by rw [h5];exact e2,hs _ _ e4,P1.all e5⟩
  | bor ys=>cases h4;obtain⟨vs,e4,e5⟩:=e3;exact⟨p,vs,eO,by rw [h5];exact e2,hs _ _ e4,P1.all e5⟩
  | _=>cases h4
 ·obtain⟨i,l0,h1,h2,h3,h4,h5⟩:=B.io j _ e rfl
  obtain⟨p,e1,e2,e3,_⟩:=R.holds h2 h3;have eO:qa1h O ρ f j=some p:=(qb2t h1 h2 h3).trans e1;cases l0 with
  | tape k0=>cases h4;exact⟨p,eO,by rw [h5];exact e2,hs _ _ e3⟩
  | _=>cases h4
 ·obtain⟨i1,_,f1,_,_,o1⟩:=qa2e e1
  obtain⟨i2,_,f2,_,_,o2⟩:=qa2e e2;have:=R.inj i1 i2 p o1 o2;subst this;exact B.inj j k i1 f1 f2
 ·obtain⟨i1,_,f1,_,_,o1⟩:=qa2e e
  obtain⟨_,vs,h⟩:=R.has i1 p o1;exact⟨.inl ⟨j,e⟩,vs,hs _ _ h⟩
 ·have hp':H p=none:=hs.free hp
  exact R.liveNew hp'
 ·obtain⟨j,e⟩:=h
  obtain⟨i1,_,f1,_,_,o1⟩:=qa2e e;obtain⟨_,vs,h⟩:=R.has i1 p o1;exact⟨vs,hs _ _ h⟩
 ·rcases h with h | ⟨j,e⟩
  ·exact(hP p h).2
  ·obtain⟨i1,_,f1,_,_,o1⟩:=qa2e e
   obtain⟨_,vs,h⟩:=R.has i1 p o1;rw [hs _ _ h];exact fun z=>nomatch z
 ·exact R.sc.keep (S:=Any) hs.keep
end
end
section
noncomputable def qa5i(ρi:Rho)(l0:L)(j:Nat):Option L:=(ρi[j]?.join).bind (qa7i l0)
noncomputable def qa4g(ρi:Rho)(j i:Nat)(ρ:Rho):Rho:=match ρ[i]?.join with
 | some l0=>if isOw l0 then ρ.set i (qa5i ρi l0 j) else ρ
 | none=>ρ
noncomputable def fills(ρi:Rho):List (Nat × Nat)->Rho->Rho
 | [],ρ=>ρ
 | (j,i) :: r,ρ=>fills ρi r (qa4g ρi j i ρ)
def qb7x{ρi ρ:Rho}{j i k:Nat}(h:k ≠ i):(qa4g ρi j i ρ)[k]? = ρ[k]?:=by
 unfold qa4g;split
 ·split
  ·exact getElem?_set_ne (Ne.symm h)
  ·rfl
 ·rfl
def qc8o{ρi ρ:Rho}{j i:Nat}{l0:L}(h:ρ[i]? = some (some l0))(ho:isOw l0=true):(qa4g ρi j i ρ)[i]? = some (qa5i ρi l0 j):=by
 have hi:i < ρ.length:=(List.getElem?_eq_some_iff.mp h).1;unfold qa4g;rw [h];show(if isOw l0 then ρ.set i (qa5i ρi l0 j) else ρ)[i]? = _;rw [if_pos ho,getElem?_set_self hi]
def qc8p{ρi ρ:Rho}{j i:Nat}(h:∀ l0,ρ[i]? = some (some l0)->isOw l0=false):qa4g ρi j i ρ=ρ:=by
 unfold qa4g;split
 ·rename_i l0 e
  rw [h l0 (qa2b e)];rfl
 ·rfl
def qc6b{ρi ρ:Rho}{j i:Nat}:(qa4g ρi j i ρ).length=ρ.length:=by
 unfold qa4g;split
 ·split
  ·rw [length_set]
  ·rfl
 ·rfl
def qb6c{ρi:Rho}:∀ {fl:List (Nat × Nat)} {ρ:Rho},(fills ρi fl ρ).length=ρ.length
 | [],_=>rfl
 | (j,i) :: r,ρ=>by unfold fills;rw [qb6c,qc6b]
def qa6l{ρi:Rho}:∀ {fl:List (Nat × Nat)} {ρ:Rho} {k:Nat},(∀ j,(j,k) ∈ fl->∀ l0,ρ[k]? = some (some l0)->isOw l0=false)->(fills ρi fl ρ)[k]? = ρ[k]?
 | [],_,_,_=>rfl
 | (j,i) :: r,ρ,k,h=>by
  unfold fills;by_cases hk:k=i
  ·subst hk
   have e:=qc8p (ρi:=ρi) (j:=j) (h j mem_cons_self);rw [e];exact qa6l fun j' m=>h j' (mem_cons_of_mem _ m)
  ·have e:=qb7x (ρi:=ρi) (ρ:=ρ) (j:=j) hk
   rw [qa6l (ρ:=qa4g ρi j i ρ) (fun j' m l0 q=>h j' (mem_cons_of_mem _ m) l0 (by rw [← e];exact q)),e]
def qb7y{ρi:Rho}:∀ {fl:List (Nat × Nat)} {ρ:Rho} {j i:Nat} {l0:L},(fl.map (·.2)).Nodup->(j,i) ∈ fl->ρ[i]? = some (some l0)->isOw l0=true->(fills ρi fl ρ)[i]? = some (qa5i ρi l0 j)
 | (j',i') :: r,ρ,j,i,l0,nd,m,h,ho=>by
  rw [map_cons,nodup_cons] at nd;unfold fills;rcases mem_cons.mp m with e | m2
  ·cases e
   rw [qa6l fun j2 m2=>absurd (mem_map.mpr ⟨(j2,_),m2,rfl⟩) nd.1];exact qc8o h ho
  ·have ne:i ≠ i':=by
    rintro rfl;exact nd.1 (mem_map.mpr ⟨(j,_),m2,rfl⟩)
   exact qb7y nd.2 m2 (by rw [qb7x ne];exact h) ho
section
variable{K:W.Frag}{c:Rc}{O:Own}{ρ:Rho}{σ:St}{H H':Hp}{S S':Addr->Prop}
def qb7z{l:L}(h:isIO l=true):isOw l=true:=by cases l<;>first | rfl | cases h
def Rel.finish{P':Addr->Prop}{fl:List (Nat × Nat)}{f:Lent}{ρi:Rho}{Oi:Own}{ci:Rc}{σi:St}(R:Rel K c O ρ σ H)(nd:(fl.map (·.2)).Nodup)(hf:∀ j i,(j,i) ∈ fl->f j=some i)(hf':∀ j i,f j=some i->(j,i) ∈ fl)
  (Ri:Rel K ci Oi ρi σi H') (hln:∀ j,ci.lent j=qa1h O ρ f j) (hsa:ci.sa=c.sa) (hns:ci.ns=c.ns)
  (fr:∀ b o,(∀ j,qa1h O ρ f j ≠ some b)->H b=some o->H' b=some o) (hk:∀ j p,qa1h O ρ f j=some p->∃ vs,H' p=some (.lst vs))
  (hP:Pers K (live ci Oi) H' (live { c with P:=P' } O) H') (hp:Pers K (live c O) H (live { c with P:=P' } O) H')
  (hP':∀ p,P' p->c.P p ∨ (H' p ≠ none/\∀ i,O i ≠ some p)):Rel K { c with P:=P' } O (fills ρi fl ρ) σ H':=by
 -- a slot is lent, or it is as it was
 have cases_:∀ i:Nat,(∃ j l0,(j,i) ∈ fl/\ρ[i]? = some (some l0)/\isOw l0=true/\(fills ρi fl ρ)[i]? = some (qa5i ρi l0 j)) ∨ ((fills ρi fl ρ)[i]? = ρ[i]? /\ ∀ p,O i=some p->(∃ l,ρ[i]? = some (some l)/\isOw l=true)->∀ j,qa1h O ρ f j ≠ some p):=fun i=>by
  by_cases h:∃ j l0,(j,i) ∈ fl/\ρ[i]? = some (some l0)/\isOw l0=true
  ·obtain⟨j,l0,h1,h2,h3⟩:=h
   exact .inl ⟨j,l0,h1,h2,h3,qb7y nd h1 h2 h3⟩
  ·refine .inr ⟨qa6l fun j m l0 q=>?_,fun p hO ⟨l,e1,e2⟩ j z=>?_⟩
   ·cases q2:isOw l0 with
    | false=>rfl
    | true=>exact absurd ⟨j,l0,m,q,q2⟩ h
   ·obtain⟨i2,l2,g1,g2,g3,g4⟩:=qa2e z
    have:=R.inj i2 i p g4 hO;subst this;exact h ⟨j,l2,hf' j _ g1,g2,g3⟩
 -- what a lent slot has now
 have lent_:∀ {i j:Nat} {l0 l:L},(j,i) ∈ fl->ρ[i]? = some (some l0)->isOw l0=true->qa5i ρi l0 j=some l->∃ p l',O i=some p/\σ[i]? = some (some (.ref p))/\isIO l'=true/\qa7i l0 l'=some l/\Holds K c (live { c with P:=P' } O) H' p l'/\(∀ xs,l0=.own xs->qb0a c p):=fun{i j l0 l} m h2 h3 e=>by
  obtain⟨p,e1,e2,e3,e4⟩:=R.holds h2 h3;unfold qa5i at e;cases el:ρi[j]?.join with
  | none=>rw [el] at e;cases e
  | some l' =>
   rw [el] at e;have e':qa7i l0 l'=some l:=e;have hio:isIO l'=true:=by cases l0<;>cases l'<;>first | rfl | cases e'
   have el':=qa2b el;have elent:ci.lent j=some p:=(hln j).trans ((qb2t (hf j i m) h2 h3).trans e1);have eO:=Ri.lnt j p elent l' el' hio;obtain⟨p',g1,_,g3,_⟩:=Ri.holds el' (qb7z hio);rw [eO] at g1;cases g1;refine⟨p,l',e1,e2,hio,e',?_,e4⟩;cases l' with
   | bor xs=>obtain⟨vs,q1,q2⟩:=g3;exact⟨vs,q1,hP.all q2⟩
   | tape k=>show H' p=_;rw [← hsa];exact g3
   | _=>cases hio
 have ok':∀ i p,O i=some p->qb0a c p->qb0a { c with P:=P' } p:=fun i p e h=>⟨h.1,h.2.1,fun z=>(hP' p z).elim h.2.2 fun w=>w.2 i e⟩;have stay:∀ i p o,O i=some p->(∃ l,ρ[i]? = some (some l)/\isOw l=true)->(∀ p,O i=some p->(∃ l,ρ[i]? = some (some l)/\isOw l=true)->∀ j,qa1h O ρ f j ≠ some p)->H p=some o->H' p=some o:=fun i p o e l n q=>fr p o (n p e l) q;refine⟨fun i x e=>?_,fun i xs e=>?_,fun i xs e=>?_,fun i k e=>?_,fun i e=>?_,R.inj,fun i p e=>⟨(R.has' i p e).1,?_⟩,R.am,R.frs,fun b o n q=>?_,fun b n=>?_,fun p h=>?_,fun p h=>?_,fun i p e l h1 h2=>?_,?_,?_⟩
 ·rcases cases_ i with⟨j,l0,m,h2,h3,h4⟩ | ⟨h1,_⟩
  ·rw [h4] at e
   obtain⟨p,l',_,_,hio,hl,_⟩:=lent_ m h2 h3 (Option.some.inj e);cases l'<;>first | (cases hio;done) | (cases l0<;>cases hl)
  ·rw [h1] at e
   obtain⟨v,e1,e2⟩:=R.dat i x e;exact⟨v,e1,hp _ _ e2⟩
 ·rcases cases_ i with⟨j,l0,m,h2,h3,h4⟩ | ⟨h1,h2⟩
  ·rw [h4] at e
   obtain⟨p,l',g1,g2,hio,hl,g3,g4⟩:=lent_ m h2 h3 (Option.some.inj e);cases l' with
   | bor ys =>
    cases l0 with
    | own zs=>cases hl;obtain⟨vs,q1,q2⟩:=g3;exact⟨p,vs,g1,ok' i p g1 (g4 _ rfl),g2,q1,q2⟩
    | _=>cases hl
   | tape k=>cases l0<;>cases hl
   | _=>cases hio
  ·rw [h1] at e
   obtain⟨p,vs,g1,g2,g3,g4,g5⟩:=R.own i xs e;exact⟨p,vs,g1,ok' i p g1 g2,g3,stay i p _ g1 ⟨_,e,rfl⟩ h2 g4,hp.all g5⟩
 ·rcases cases_ i with⟨j,l0,m,h2,h3,h4⟩ | ⟨h1,h2⟩
  ·rw [h4] at e
   obtain⟨p,l',g1,g2,hio,hl,g3,g4⟩:=lent_ m h2 h3 (Option.some.inj e);cases l' with
   | bor ys =>
    cases l0<;>cases hl<;>(obtain⟨vs,q1,q2⟩:=g3;exact⟨p,vs,g1,g2,q1,q2⟩)
   | tape k=>cases l0<;>cases hl
   | _=>cases hio
  ·rw [h1] at e
   obtain⟨p,vs,g1,g3,g4,g5⟩:=R.bor i xs e;exact⟨p,vs,g1,g3,stay i p _ g1 ⟨_,e,rfl⟩ h2 g4,hp.all g5⟩
 ·rcases cases_ i with⟨j,l0,m,h2,h3,h4⟩ | ⟨h1,h2⟩
  ·rw [h4] at e
   obtain⟨p,l',g1,g2,hio,hl,g3,g4⟩:=lent_ m h2 h3 (Option.some.inj e);cases l' with
   | bor ys=>cases l0<;>cases hl
   | tape k2=>cases l0<;>cases hl<;>exact⟨p,g1,g2,g3⟩
   | _=>cases hio
  ·rw [h1] at e
   obtain⟨p,g1,g3,g4⟩:=R.tap i k e;exact⟨p,g1,g3,stay i p _ g1 ⟨_,e,rfl⟩ h2 g4⟩
 ·rcases cases_ i with⟨j,l0,m,h2,h3,h4⟩ | ⟨h1,h2⟩
  ·rw [h4] at e
   obtain⟨p,l',g1,g2,hio,hl,g3,g4⟩:=lent_ m h2 h3 (Option.some.inj e);cases l'<;>first | (cases hio;done) | (cases l0<;>cases hl)
  ·rw [h1] at e;exact R.scr i e
 ·obtain⟨_,vs,q⟩:=R.has i p e
  by_cases hlt:∃ j,qa1h O ρ f j=some p
  ·obtain⟨j,hj⟩:=hlt;exact hk j p hj
  ·exact⟨vs,fr p _ (fun j z=>hlt ⟨j,z⟩) q⟩
 ·refine fr b o (fun j z=>?_) (R.same b o n q)
  obtain⟨i,l,_,_,_,hO⟩:=qa2e z;rcases (R.has i b hO).1 with w | w
  ·exact n w
  ·rw [w] at q;cases q
 ·have n':=R.kept b n
  by_cases hlt:∃ j,qa1h O ρ f j=some b
  ·obtain⟨j,hj⟩:=hlt
   obtain⟨vs,q⟩:=hk j b hj;rw [q];exact fun z=>nomatch z
  ·cases q:H b with
   | none=>exact absurd q n'
   | some o=>rw [fr b o (fun j z=>hlt ⟨j,z⟩) q];exact fun z=>nomatch z
 ·obtain⟨vs,q⟩:=R.ml p h
  by_cases hlt:∃ j,qa1h O ρ f j=some p
  ·obtain⟨j,hj⟩:=hlt;exact hk j p hj
  ·exact⟨vs,fr p _ (fun j z=>hlt ⟨j,z⟩) q⟩
 ·have fin:∀ q,(c.P q ∨ c.B q)->H' q ≠ none:=fun q hq=>by
   have n':=R.pin q hq;by_cases hlt:∃ j,qa1h O ρ f j=some q
   ·obtain⟨j,hj⟩:=hlt
    obtain⟨vs,q⟩:=hk j q hj;rw [q];exact fun z=>nomatch z
   ·cases q2:H q with
    | none=>exact absurd q2 n'
    | some o=>rw [fr q o (fun j z=>hlt ⟨j,z⟩) q2];exact fun z=>nomatch z
  rcases h with h | h
  ·rcases hP' p h with w | w
   ·exact fin p (.inl w)
   ·exact w.1
  ·exact fin p (.inr h)
 ·rcases cases_ i with⟨j,l0,m,h3,h4,h5⟩ | ⟨h3,h4⟩
  ·rw [h5] at h1
   obtain⟨p',l',g1,g2,hio,hl,g3,g4⟩:=lent_ m h3 h4 (Option.some.inj h1);cases l0 with
   | own zs=>cases l'<;>cases hl;cases h2
   | bor zs=>exact R.lnt i p e _ h3 rfl
   | tape k=>exact R.lnt i p e _ h3 rfl
   | _=>cases h4
  ·rw [h3] at h1;exact R.lnt i p e l h1 h2
 ·have:=Ri.sc
  rw [hsa,hns] at this;exact this
 ·rw [qb6c];exact R.len
end
end
section
abbrev DSp:=List L->(RV->Rho->Prop)->Prop
noncomputable def mask:List L->Rho->Rho
 | [],_=>[]
 | l :: ls,ρ=>(if isIO l then ρ.head?.join else none) :: mask ls ρ.tail
noncomputable def qa8i(N:List Str)(ls:List L):Rho:=ls.map some ++ List.replicate (N.length - ls.length) none
def spD(K:W.Frag)(ds:DSp):Sp:=fun vs H Q _=>∃ (c:Rc) (O:Own) (ls:List L) (Qd:RV->Rho->Prop),c.H0=H/\(∀ p,¬ c.P p)/\(∀ p,c.M p->c.B p)/\(∀ p,c.H0 p=none->c.A p)/\(∀ i,c.lent i=O i)/\Rel K c O (ls.map some) (vs.map some) H/\ds ls Qd /\
 ∀ r O' ρ' σ' v H',Qd r (mask ls ρ')->RetOk K c O' ρ' σ' H' r v->Q v H'
section
variable{K:W.Frag}{c:Rc}{O:Own}{ρ:Rho}{σ:St}{H H':Hp}{S S':Addr->Prop}
def Rel.more{n:Nat}(R:Rel K c O ρ σ H):Rel K c O (ρ ++ List.replicate n none) (σ ++ List.replicate n none) H:=by
 have at_:∀ {i:Nat} {l:L},(ρ ++ List.replicate n none)[i]? = some (some l)->ρ[i]? = some (some l):=fun{i l} e=>by
  by_cases hi:i < ρ.length
  ·rwa [List.getElem?_append_left hi] at e
  ·rw [getElem?_append_right 'o',List.getElem?_replicate] at e
   split at e<;>cases e
 have st:∀ {i:Nat} {v:V},σ[i]? = some (some v)->(σ ++ List.replicate n none)[i]? = some (some v):=fun{i v} e=>by
  rw [List.getElem?_append_left (List.getElem?_eq_some_iff.mp e).1];exact e
 refine⟨fun i x e=>?_,fun i xs e=>?_,fun i xs e=>?_,fun i k e=>?_,fun i e=>st (R.scr i (at_ e)),R.inj,R.has',R.am,R.frs,R.same,R.kept,R.ml,R.pin,fun i p e l h1 h2=>R.lnt i p e l (at_ h1) h2,R.sc,?_⟩
 ·obtain⟨v,h1,h2⟩:=R.dat i x (at_ e);exact⟨v,st h1,h2⟩
 ·obtain⟨p,vs,h1,h2,h3,h4⟩:=R.own i xs (at_ e);exact⟨p,vs,h1,h2,st h3,h4⟩
 ·obtain⟨p,vs,h1,h3,h4⟩:=R.bor i xs (at_ e);exact⟨p,vs,h1,st h3,h4⟩
 ·obtain⟨p,h1,h3,h4⟩:=R.tap i k (at_ e);exact⟨p,h1,st h3,h4⟩
 ·rw [length_append,length_append,R.len,length_replicate,length_replicate]
end
section
variable{P:Program}{w:World}{K:W.Frag}{mg:Str->Option Value}{base:Heap}
def Fun.dok{x qual:Str}{st:Stmt}{f:Addr}{fd:FuncData}{N ps:List Str}{k:Nat}{ds:DSp}(F:Fun K x qual st f fd)(S:FnScope N ps (qa0k st))
  (hbody:∀ (cdv:Value) (A:Around) (outer:List Env) (s:Shared) (H:Hp) (E:XK),Room k (A.deeper (envOfC qual (qa0k st) s.heap.objs.size f cdv)) ->
   ∀ (ls:List L) (Qd:RV->Rho->Prop),ds ls Qd->ls.length=ps.length/\∃ dt,DSs (cxOf CX0 P w K mg base N qual (qa0k st) f cdv A outer s H E).nox (qa2z st) dt/\dt { nx:=fun ρ=>Qd (.d .none) (mask ls ρ),rt:=fun r ρ=>Qd r (mask ls ρ) } (qa8i N ls)) (len:∀ ls Qd,ds ls Qd->ls.length=ps.length):FnOk P w K mg base CX0 (k + 1) f fd ps (spD K ds):=by
 refine F.ok S (fun vs H Q E h=>?_) (fun cdv A outer s H vs Q E hr h=>?_)
 ·obtain⟨c,O,ls,Qd,_,_,_,_,_,R,h1,_⟩:=h
  have:=R.len;rw [length_map,length_map] at this;rw [this];exact len ls Qd h1
 ·obtain⟨c,O,ls,Qd,h0,hP,hM,hA,hL,R,h1,fin⟩:=h
  obtain⟨hl,dt,⟨t,p,a⟩,q⟩:=hbody cdv A outer s H E hr ls Qd h1;have hlv:vs.length=ls.length:=by have:=R.len;rwa [length_map,length_map] at this
  refine⟨t,p,a c O (qa8i N ls) (start N vs) H _ { nx:=fun ρ=>Qd (.d .none) (mask ls ρ),rt:=fun r ρ=>Qd r (mask ls ρ) } ?_ ⟨fun O1 ρ1 σ1 H1 R1 _ q1=>?_,fun r O1 ρ1 σ1 H1 v h q1=>?_,fun _ _ _ _ _ _ z=>(show False from z).elim,fun _ _ _ _ _ _ z=>(show False from z).elim,hM,hA⟩ q⟩
  ·unfold qa8i start
   rw [hlv];exact R.more
  ·exact fin (.d .none) O1 ρ1 σ1 .non H1 q1 ⟨R1,qa5y⟩
  ·exact fin r O1 ρ1 σ1 v H1 q1 h
end
def fzL(ρ:Rho)(x:DV)(Q:L->Rho->Prop):Prop:=match x with
 | .d y=>Q (.d y) ρ
 | .sl i=>match ρ[i]?.join with
  | some (.d y)=>Q (.d y) ρ
  | some (.own xs)=>Q (.d (.list xs)) (ρ.set i (some (.d (.list xs))))
  | some .scr=>Q .scr ρ
  | _=>False
noncomputable def ioAt(ρ:Rho)(i:Nat):Option L:=match ρ[i]?.join with
 | some l=>if isOw l then some (lend l) else none
 | none=>none
noncomputable def pass:List Bool->List DV->Rho->(List L->Rho->Prop)->Prop
 | [],[],ρ,Q=>Q [] ρ
 | false :: fs,x :: xs,ρ,Q=>fzL ρ x fun l ρ1=>pass fs xs ρ1 fun ls ρ2=>Q (l :: ls) ρ2
 | true :: fs,.sl i :: xs,ρ,Q=>pass fs xs ρ fun ls ρ2=>need (ioAt ρ2 i) fun l=>Q (l :: ls) ρ2
 | _,_,_,_=>False
noncomputable def qa1w:List Bool->List DV->Lent
 | true :: _,.sl i :: _,0=>some i
 | _ :: fs,_ :: xs,j + 1=>qa1w fs xs j
 | _,_,_=>none
noncomputable def flOf:Nat->List Bool->List DV->List (Nat × Nat)
 | j,true :: fs,.sl i :: xs=>(j,i) :: flOf (j + 1) fs xs
 | j,true :: fs,.d _ :: xs=>flOf (j + 1) fs xs
 | j,false :: fs,_ :: xs=>flOf (j + 1) fs xs
 | _,_,_=>[]
def qb0f{fs:List Bool}:∀ {xs:List DV} {j0 j i:Nat},(j,i) ∈ flOf j0 fs xs ↔ ∃ k,j=j0 + k/\qa1w fs xs k=some i:=by
 induction fs with
 | nil =>
  intro xs j0 j i;have e1:flOf j0 [] xs=[]:=by cases xs<;>rfl
  have e2:∀ k,qa1w [] xs k=none:=fun k=>by cases xs<;>cases k<;>rfl
  rw [e1];exact⟨fun h=>absurd h (not_mem_nil),fun hq8=>by obtain⟨k,_,h⟩:=hq8;rw [e2] at h;cases h⟩
 | cons f fs ih =>
  intro xs j0 j i;cases xs with
  | nil =>
   have e1:flOf j0 (f :: fs) []=[]:=by cases f<;>rfl
   have e2:∀ k,qa1w (f :: fs) [] k=none:=fun k=>by cases f<;>cases k<;>rfl
   rw [e1];exact⟨fun h=>absurd h (not_mem_nil),fun hq8=>by obtain⟨k,_,h⟩:=hq8;rw [e2] at h;cases h⟩
  | cons x xs =>
   have step:(∃ k,j=j0 + 1 + k/\qa1w fs xs k=some i)->∃ k,j=j0 + k/\qa1w (f :: fs) (x :: xs) k=some i:=fun hq8=>by obtain⟨k,e1,e2⟩:=hq8;exact⟨k + 1,'o',by cases f<;>cases x<;>exact e2⟩
   have back:∀ k,j=j0 + (k + 1)->qa1w (f :: fs) (x :: xs) (k + 1)=some i->∃ k,j=j0 + 1 + k/\qa1w fs xs k=some i:=fun k e1 e2=>⟨k,'o',by cases f<;>cases x<;>exact e2⟩;cases f with
   | false =>
    have e:flOf j0 (false :: fs) (x :: xs)=flOf (j0 + 1) fs xs:=by cases x<;>rfl
    rw [e,ih];refine⟨step,fun hq8=>?_⟩;obtain⟨k,e1,e2⟩:=hq8;cases k with
    | zero=>cases x<;>cases e2
    | succ k=>exact back k e1 e2
   | true =>
    cases x with
    | d y =>
     show(j,i) ∈ flOf (j0 + 1) fs xs ↔ _;rw [ih];refine⟨step,fun hq8=>?_⟩;obtain⟨k,e1,e2⟩:=hq8;cases k with
     | zero=>cases e2
     | succ k=>exact back k e1 e2
    | sl i0 =>
     show(j,i) ∈ (j0,i0) :: flOf (j0 + 1) fs xs ↔ _;rw [mem_cons,ih];constructor
     ·rintro(e | h)
      ·cases e;exact⟨0,rfl,rfl⟩
      ·exact step h
     ·rintro⟨k,e1,e2⟩
      cases k with
      | zero =>
       have e3:some i0=some i:=e2;cases e3;exact .inl (by rw [e1];rfl)
      | succ k=>exact .inr (back k e1 e2)
inductive Args (K:W.Frag) (S:Addr->Prop) (sa:Addr) (ρ:Rho) (σ:St) (H:Hp):List Bool->List DV->List L->List V->Prop where
 | nil:Args K S sa ρ σ H [] [] [] []
 | dat {fs xs ls vs x y v}:AtD K H S y v->Args K S sa ρ σ H fs xs ls vs->Args K S sa ρ σ H (false :: fs) (x :: xs) (.d y :: ls) (v :: vs)
 | scr {fs xs ls vs x}:Args K S sa ρ σ H fs xs ls vs->Args K S sa ρ σ H (false :: fs) (x :: xs) (.scr :: ls) (.ref sa :: vs)
 | io {fs xs ls vs v} {i:Nat} {l0:L}:ρ[i]? = some (some l0)->isOw l0=true->σ[i]? = some (some v)->Args K S sa ρ σ H fs xs ls vs->Args K S sa ρ σ H (true :: fs) (.sl i :: xs) (lend l0 :: ls) (v :: vs)
section
variable{K:W.Frag}{c:Rc}{O:Own}{ρ:Rho}{σ:St}{H H':Hp}{S S':Addr->Prop}
def Rel.fzL{x:DV}{v:V}{Q:L->Rho->Prop}(R:Rel K c O ρ σ H)(a:AtV K (live c O) σ H x v)(h:fzL ρ x Q):∃ l ρ' O',Q l ρ'/\Rel K c O' ρ' σ H/\Pers K (live c O) H (live c O') H/\((∃ y,l=.d y/\AtD K H (live c O') y v) ∨ (l=.scr/\v=.ref c.sa)):=by
 cases x with
 | d y=>exact⟨.d y,ρ,O,h,R,.refl,.inl ⟨y,rfl,a⟩⟩
 | sl i =>
  have a':σ[i]? = some (some v):=a;simp only [L2.fzL] at h;split at h
  ·rename_i y e
   obtain⟨w,h1,h2⟩:=R.dat i y (qa2b e);rw [a'] at h1;cases h1;exact⟨.d y,ρ,O,h,R,.refl,.inl ⟨y,rfl,h2⟩⟩
  ·rename_i xs e
   have e':=qa2b e;obtain⟨R',P⟩:=R.freeze e';have hi:i < ρ.length:=(List.getElem?_eq_some_iff.mp e').1;obtain⟨w,h1,h2⟩:=R'.dat i (.list xs) (by rw [getElem?_set_self hi]);rw [a'] at h1;cases h1;exact⟨_,_,_,h,R',P,.inl ⟨_,rfl,h2⟩⟩
  ·rename_i e
   have:=R.scr i (qa2b e);rw [a'] at this;cases this;exact⟨_,ρ,O,h,R,.refl,.inr ⟨rfl,rfl⟩⟩
  ·exact h.elim
def pass_ok{fs:List Bool}:∀ {xs:List DV} {vs:List V} {ρ:Rho} {O:Own} {Q:List L->Rho->Prop},Rel K c O ρ σ H->AtVs K (live c O) σ H xs vs->pass fs xs ρ Q ->
  ∃ ls ρ' O',Q ls ρ'/\Rel K c O' ρ' σ H/\Pers K (live c O) H (live c O') H/\Args K (live c O') c.sa ρ' σ H fs xs ls vs:=by
 induction fs with
 | nil =>
  intro xs vs ρ O Q R a h;cases xs with
  | nil=>cases a;exact⟨[],ρ,O,h,R,.refl,.nil⟩
  | cons _ _=>exact(show False from h).elim
 | cons f fs ih =>
  intro xs vs ρ O Q R a h;cases xs with
  | nil=>cases f<;>exact(show False from h).elim
  | cons x xs =>
   cases a with
   | @cons _ _ v vs a as =>
   cases f with
   | false =>
    have h':L2.fzL ρ x fun l ρ1=>pass fs xs ρ1 fun ls ρ2=>Q (l :: ls) ρ2:=h;obtain⟨l,ρ1,O1,h1,R1,P1,a1⟩:=R.fzL a h';obtain⟨ls,ρ2,O2,h2,R2,P2,a2⟩:=ih R1 (AtVs.pers as P1) h1;refine⟨l :: ls,ρ2,O2,h2,R2,P1.trans P2,?_⟩;rcases a1 with⟨y,rfl,a1⟩ | ⟨rfl,rfl⟩
    ·exact .dat (P2 _ _ a1) a2
    ·exact .scr a2
   | true =>
    cases x with
    | d y=>exact(show False from h).elim
    | sl i =>
     have h':pass fs xs ρ fun ls ρ2=>need (ioAt ρ2 i) fun l=>Q (l :: ls) ρ2:=h;obtain⟨ls,ρ2,O2,hz1,R2,P2,a2⟩:=ih R as h';obtain⟨l,e,h2⟩:=ne (hz1);refine⟨l :: ls,ρ2,O2,h2,R2,P2,?_⟩;unfold ioAt at e;split at e
     ·rename_i l0 el
      split at e
      ·rename_i ho
       cases e
       exact .io (qa2b el) ho a a2
      ·cases e
     ·cases e
def Args.begins{fs:List Bool}{xs:List DV}{ls:List L}{vs:List V}(a:Args K (live c O) c.sa ρ σ H fs xs ls vs)(inj:∀ j k i,qa1w fs xs j=some i->qa1w fs xs k=some i->j=k) :
  Begins K c O ρ σ H (qa1w fs xs) (ls.map some) (vs.map some):=by
 refine⟨?_,?_,?_,inj,?_⟩
 ·clear inj
  induction a with
  | nil=>intro j l e;simp at e
  | dat h _ ih =>
   intro j l e ho;cases j with
   | zero=>cases e;cases ho
   | succ j=>obtain⟨i,l0,h1,h2⟩:=ih j l (by simpa using e) ho;exact⟨i,l0,h1,by simpa using h2⟩
  | scr _ ih =>
   intro j l e ho;cases j with
   | zero=>cases e;cases ho
   | succ j=>obtain⟨i,l0,h1,h2⟩:=ih j l (by simpa using e) ho;exact⟨i,l0,h1,by simpa using h2⟩
  | @io fs xs ls vs v i l0 h1 h2 h3 _ ih =>
   intro j l e ho;cases j with
   | zero=>cases e;exact⟨i,l0,rfl,h1,h2,rfl,by simpa using h3.symm⟩
   | succ j=>obtain⟨i,l0,h1,h2⟩:=ih j l (by simpa using e) ho;exact⟨i,l0,h1,by simpa using h2⟩
 ·clear inj
  induction a with
  | nil=>intro j x e;simp at e
  | dat h _ ih =>
   intro j x e;cases j with
   | zero=>cases e;exact⟨_,rfl,h⟩
   | succ j=>obtain⟨v,h1,h2⟩:=ih j x (by simpa using e);exact⟨v,by simpa using h1,h2⟩
  | scr _ ih =>
   intro j x e;cases j with
   | zero=>cases e
   | succ j=>obtain⟨v,h1,h2⟩:=ih j x (by simpa using e);exact⟨v,by simpa using h1,h2⟩
  | @io fs xs ls vs v i l0 h1 h2 h3 _ ih =>
   intro j x e;cases j with
   | zero=>cases l0<;>first | (cases h2;done) | cases e
   | succ j=>obtain⟨v,h1,h2⟩:=ih j x (by simpa using e);exact⟨v,by simpa using h1,h2⟩
 ·clear inj
  induction a with
  | nil=>intro j e;simp at e
  | dat h _ ih =>
   intro j e;cases j with
   | zero=>cases e
   | succ j=>have:=ih j (by simpa using e);simpa using this
  | scr _ ih =>
   intro j e;cases j with
   | zero=>rfl
   | succ j=>have:=ih j (by simpa using e);simpa using this
  | @io fs xs ls vs v i l0 h1 h2 h3 _ ih =>
   intro j e;cases j with
   | zero=>cases l0<;>first | (cases h2;done) | cases e
   | succ j=>have:=ih j (by simpa using e);simpa using this
 ·clear inj
  rw [length_map,length_map];induction a with
  | nil=>rfl
  | dat _ _ ih=>simp [ih]
  | scr _ ih=>simp [ih]
  | io _ _ _ _ ih=>simp [ih]
def Args.mask{fs:List Bool}{xs:List DV}{ls:List L}{vs:List V}(a:Args K (live c O) c.sa ρ σ H fs xs ls vs):∀ (ρ':Rho) {j i:Nat},qa1w fs xs j=some i->(L2.mask ls ρ')[j]?.join=ρ'[j]?.join:=by
 have hd:∀ ρ':Rho,ρ'.head?.join=ρ'[0]?.join:=fun ρ'=>by cases ρ'<;>rfl
 have tl:∀ (ρ':Rho) (j:Nat),ρ'.tail[j]? = ρ'[j + 1]?:=fun ρ' j=>by cases ρ'<;>simp
 induction a with
 | nil=>intro ρ' j i e;cases e
 | dat h _ ih =>
  intro ρ' j i e;cases j with
  | zero=>cases e
  | succ j =>
   have:=ih ρ'.tail (j:=j) (i:=i) e;rw [tl] at this;rw [← this];simp [L2.mask]
 | scr _ ih =>
  intro ρ' j i e;cases j with
  | zero=>cases e
  | succ j =>
   have:=ih ρ'.tail (j:=j) (i:=i) e;rw [tl] at this;rw [← this];simp [L2.mask]
 | @io fs xs ls vs v i0 l0 h1 h2 h3 _ ih =>
  intro ρ' j i e;cases j with
  | zero =>
   have hio:isIO (lend l0)=true:=by cases l0<;>first | rfl | cases h2
   simp only [L2.mask,hio,if_true,List.getElem?_cons_zero];show ρ'.head?.join=_;exact hd ρ'
  | succ j =>
   have:=ih ρ'.tail (j:=j) (i:=i) e;rw [tl] at this;rw [← this];simp [L2.mask]
end
def qb2f{ρi ρj:Rho}:∀ {fl:List (Nat × Nat)} {ρ:Rho},(∀ j i,(j,i) ∈ fl->ρi[j]?.join=ρj[j]?.join)->fills ρi fl ρ=fills ρj fl ρ
 | [],_,_=>rfl
 | (j,i) :: r,ρ,h=>by
  have e:qa4g ρi j i ρ=qa4g ρj j i ρ:=by
   unfold qa4g qa5i;rw [h j i mem_cons_self]
  unfold fills;rw [e];exact qb2f fun j' i' m=>h j' i' (mem_cons_of_mem _ m)
def dCall(fs:List Bool)(sp:DSp)(da:TDA)(ρ:Rho)(Q:RV->Rho->Prop):Prop:=da ρ fun xs ρ1=>pass fs xs ρ1 fun ls ρ2=>((flOf 0 fs xs).map (·.2)).Nodup/\sp ls fun r outs=>Q r (fills outs (flOf 0 fs xs) ρ2)
def qb3o(fs:List Bool)(sp:DSp)(da:TDA):TDE:=fun ρ Q=>dCall fs sp da ρ fun r ρ1=>match r with
 | .d x=>Q (.d x) ρ1
 | .new xs=>Q (.d (.list xs)) ρ1
section
variable{K:W.Frag}{c:Rc}{O:Own}{ρ:Rho}{σ:St}{H H':Hp}{S S':Addr->Prop}
def qc6c{fs:List Bool}{xs:List DV}(nd:((flOf 0 fs xs).map (·.2)).Nodup):∀ j k i,qa1w fs xs j=some i->qa1w fs xs k=some i->j=k:=fun j k i e1 e2=>by
 have m1:(j,i) ∈ flOf 0 fs xs:=qb0f.mpr ⟨j,'o',e1⟩;have m2:(k,i) ∈ flOf 0 fs xs:=qb0f.mpr ⟨k,'o',e2⟩;exact congrArg Prod.fst (key _ nd m1 m2 rfl)
where
 key:∀ (l:List (Nat × Nat)) {a b:Nat × Nat},(l.map (·.2)).Nodup->a ∈ l->b ∈ l->a.2=b.2->a=b:=fun l=>by
  induction l with
  | nil=>intro a b _ h;cases h
  | cons x l ih =>
   intro a b nd ha hb e;rw [map_cons,nodup_cons] at nd;rcases mem_cons.mp ha with ea | ha2<;>rcases mem_cons.mp hb with eb | hb2
   ·rw [ea,eb]
   ·exact absurd (mem_map.mpr ⟨b,hb2,by rw [← e,ea]⟩) nd.1
   ·exact absurd (mem_map.mpr ⟨a,ha2,by rw [e,eb]⟩) nd.1
   ·exact ih nd.2 ha2 hb2 e
def qc3x{fs:List Bool}{sp:DSp}{ta:TA}{da:TDA}(ha:∀ (Qa:List DV->Rho->Prop) (Qv:List V->Hp->Prop),da ρ Qa->(∀ xs ρ1 O1 vs H1,Qa xs ρ1->Rel K c O1 ρ1 σ H1->Pers K (live c O) H (live c O1) H1->AtVs K (live c O1) σ H1 xs vs->Qv vs H1)->ta σ H Qv)
  {Qd:RV->Rho->Prop} {Q:VK} (h:dCall fs sp da ρ Qd)
  (k:∀ r ρ' O' v H',Qd r ρ'->RetOk K c O' ρ' σ H' r v->Pers K (live c O) H (match r with | .d _=>live c O' | .new _=>fun a=>live c O' a/\v ≠ .ref a) H'->Q v H'):tCall (spD K sp) [] E0 ta σ H Q:=by
 refine ha _ _ h fun xs ρ1 O1 vs H1 h1 R1 P1 a1=>?_;obtain⟨ls,ρ2,O2,⟨nd,h2⟩,R2,P2,as⟩:=pass_ok R1 a1 h1;have inj:=qc6c nd;obtain⟨Ri,Pi⟩:=R2.begin (b:=true) (P:=fun _=>False) (H':=H1) (as.begins inj) (Same.refl _) (fun p z=>z.elim);rw [append_nil];have hf:∀ j i,(j,i) ∈ flOf 0 fs xs->qa1w fs xs j=some i:=fun j i m=>by
  obtain⟨k,e1,e2⟩:=qb0f.mp m;have:j=k:=by omega
  subst this;exact e2
 have hf':∀ j i,qa1w fs xs j=some i->(j,i) ∈ flOf 0 fs xs:=fun j i e=>qb0f.mpr ⟨j,'o',e⟩;refine⟨c.in O2 (qa1h O2 ρ2 (qa1w fs xs)) (fun _=>False) true H1,qa1h O2 ρ2 (qa1w fs xs),ls,_,rfl,fun p z=>z,fun p z=>z,fun p z=>.inr ⟨rfl,z⟩,fun i=>rfl,Ri,h2,fun r O' ρ' σ' v H' q ok=>?_⟩;have ef:fills (mask ls ρ') (flOf 0 fs xs) ρ2=fills ρ' (flOf 0 fs xs) ρ2:=qb2f fun j i m=>as.mask ρ' (hf j i m);rw [ef] at q;have P12:=P1.trans P2;have lentM:∀ {b:Addr},(∃ j,qa1h O2 ρ2 (qa1w fs xs) j=some b)->∃ vs,H1 b=some (.lst vs):=fun hq8=>by
  obtain⟨j,e⟩:=hq8;obtain⟨i,_,_,_,_,hO⟩:=qa2e e;exact(R2.has i _ hO).2
 have hsame:∀ {ci:Rc},Rel K ci O' ρ' σ' H'->ci.H0=H1->(∀ p,ci.M p->∃ j,qa1h O2 ρ2 (qa1w fs xs) j=some p)->(∀ b o,(∀ j,qa1h O2 ρ2 (qa1w fs xs) j ≠ some b)->H1 b=some o->H' b=some o):=fun{ci} Rf h0 hM b o n q=>by
  refine Rf.same b o (fun z=>?_) (by rw [h0];exact q);obtain⟨j,e⟩:=hM b z;exact n j e
 have keep:(∀ b o,(∀ j,qa1h O2 ρ2 (qa1w fs xs) j ≠ some b)->H1 b=some o->H' b=some o)->Keep (live c O2) H1 H':=fun fr =>
  ⟨fun b ws e=>fr b _ (fun j z=>by obtain⟨vs,w⟩:=lentM ⟨j,z⟩;rw [e] at w;cases w) e,fun b o u e=>fr b _ (fun j z=>by obtain⟨vs,w⟩:=lentM ⟨j,z⟩;rw [e] at w;cases w) e,
   fun b ws hl e=>fr b _ (fun j z=>by obtain⟨i,_,_,_,_,hO⟩:=qa2e z;exact hl.2.2 i hO) e⟩
 cases r with
 | d x =>
  obtain⟨Rf,ax⟩:=ok;have fr:=hsame Rf rfl (fun p z=>z);have hl:∀ a,live (c.in O2 (qa1h O2 ρ2 (qa1w fs xs)) (fun _=>False) true H1) O' a->live c O2 a:=fun a z=>z.1;have hp:Pers K (live c O2) H1 (live c O2) H':=.of (keep fr) fun _ z=>z;have hP:Pers K (live (c.in O2 (qa1h O2 ρ2 (qa1w fs xs)) (fun _=>False) true H1) O') H' (live c O2) H':=.of (Keep.refl _ _) hl;have Rn:=R2.finish (P':=c.P) nd hf hf' Rf (fun _=>rfl) rfl rfl fr (fun j p e=>Rf.ml p ⟨j,e⟩) hP hp (fun p z=>.inl z);exact k (.d x) _ O2 v H' q ⟨Rn,hP _ _ ax⟩ (P12.trans hp)
 | new ys =>
  obtain⟨p,ws,rfl,Rf,ff,hH,ax⟩:=ok;have fr:=hsame Rf rfl (fun p z=>z);have h1p:H1 p=none:=ff.1;have hl:∀ a,live ((c.in O2 (qa1h O2 ρ2 (qa1w fs xs)) (fun _=>False) true H1).add p) O' a->live (c.add p) O2 a:=fun a z=>by
   have z1:live c O2 a:=z.1;exact qb0b z1 fun e=>z.2.1 (.inr e)
  have hp:Pers K (live c O2) H1 (live (c.add p) O2) H':=fun d u h=>by
   refine AtD.mono (S:=live (c.add p) O2) ((keep fr).less fun b z=>(qa5h z).1) _ _ (AtD.less h1p (fun a z n=>qb0b z n) _ _ h)
  have hP:Pers K (live ((c.in O2 (qa1h O2 ρ2 (qa1w fs xs)) (fun _=>False) true H1).add p) O') H' (live (c.add p) O2) H':=.of (Keep.refl _ _) hl;have fp:=qb2s R2 h1p;have Rn:Rel K (c.add p) O2 (fills ρ' (flOf 0 fs xs) ρ2) σ H':=R2.finish (P':=fun a=>c.P a ∨ a=p) nd hf hf' Rf (fun _=>rfl) rfl rfl fr (fun j q e=>Rf.ml q ⟨j,e⟩) hP hp (fun q z=>z.elim .inl fun e=>.inr (by subst e;exact⟨by rw [hH];exact 'p',fp.2.2.2⟩));refine k (.new ys) _ O2 _ H' q ⟨p,ws,rfl,Rn,fp,hH,hP.all ax⟩ ((P12.trans hp).trans (.of (Keep.refl _ _) fun a z=>⟨(qa5h z).1,fun e=>(qa5h z).2 (by cases e;rfl)⟩))
def qc6d{fs:List Bool}{sp:DSp}{ta:TA}{da:TDA}(ha:AdA K ta da)(R:Rel K c O ρ σ H){Qd:RV->Rho->Prop}{Q:VK}(h:dCall fs sp da ρ Qd)
  (k:∀ r ρ' O' v H',Qd r ρ'->RetOk K c O' ρ' σ H' r v->Pers K (live c O) H (match r with | .d _=>live c O' | .new _=>fun a=>live c O' a/\v ≠ .ref a) H'->Q v H'):tCall (spD K sp) [] E0 ta σ H Q:=
 qc3x (fun Qa Qv q k'=>ha c O ρ σ H Qa Qv R q k') h k
def qc8q{fs:List Bool}{sp:DSp}{ta:TA}{da:TDA}(ha:AdA K ta da):AdE K (tCall (spD K sp) [] E0 ta) (qb3o fs sp da):=fun c O ρ σ H Qd Q R h k =>
 qc6d ha R h fun r ρ' O' v H' q ok P=>by
  cases r with
  | d x=>exact k _ _ _ _ _ q ok.1 P ok.2
  | new xs =>
   obtain⟨p,ws,rfl,Rn,fp,hH,ax⟩:=ok;obtain⟨R2,P2⟩:=Rn.unadd;exact k _ _ _ _ _ q R2 (P.trans (.of (Keep.refl _ _) fun a z=>z.1)) (qa2o ⟨Rn.frs p fp.1,fp.2.2.1,fp.2.2.2⟩ hH (P2.all ax))
end
section
variable{X:Cx}{k:Nat}{f:Addr}{fd:FuncData}{ps:List Str}{sp:DSp}{x:Str}{st:Stmt}{p pos:Pos}{e:Expr}{es:List Expr}{da:TDA}
def qa0i(fs:List Bool)(d:Def X.K X.mg x st ps f fd)(g:FnOk X.prog X.w X.K X.mg X.base CX0 k f fd ps (spD X.K sp))(hr:Room k X.A)(hg:Gl X x)(ha:DA X (e :: es) da) (hdb:(x == ("__debug__" : Str))=false:=by decide)
  (he:starEach (e :: es) X.env=(false,eval e X.env) :: starEach es X.env:=by rfl) (hpl:(backTo pos (starEach es X.env)).any (·.1)=false:=by rfl):DE X (.Call (.Name x p) (e :: es) [] pos) (qb3o fs sp da):=by
 obtain⟨t,pt,at_⟩:=ha;exact⟨_,qb2r d g hr hg pt hdb he hpl,qc8q at_⟩
end
end
section
noncomputable def capR(n:Nat)(cap:List 'q')(ρ:Rho):Rho:=List.replicate n none ++ cap.map fun p=>(ρ[p.2]?.join).map lend
noncomputable def flC:Nat->List 'q'->List (Nat × Nat)
 | _,[]=>[]
 | j,p :: r=>(j,p.2) :: flC (j + 1) r
noncomputable def qa7j(n:Nat)(cap:List 'q'):Lent:=fun j=>if j < n then none else(cap[j - n]?).map (·.2)
def qc1y:∀ {cap:List 'q'} {n j i:Nat},(j,i) ∈ flC n cap ↔ n <= j/\(cap[j - n]?).map (·.2)=some i:=by
 intro cap;induction cap with
 | nil=>intro n j i;simp [flC]
 | cons p r ih =>
  intro n j i;unfold flC;rw [mem_cons,ih];constructor
  ·rintro(e | ⟨h1,h2⟩)
   ·cases e;simp
   ·refine⟨'o',?_⟩
    have:j - n=(j - (n + 1)) + 1:=by omega
    rw [this,List.getElem?_cons_succ];exact h2
  ·rintro⟨h1,h2⟩
   by_cases e:j=n
   ·subst e
    simp at h2
    exact .inl (by rw [h2])
   ·refine .inr ⟨'o',?_⟩
    have:j - n=(j - (n + 1)) + 1:=by omega
    rw [this,List.getElem?_cons_succ] at h2;exact h2
def qc1z:∀ {cap:List 'q'} {n:Nat},(flC n cap).map (·.2)=cap.map (·.2)
 | [],_=>rfl
 | p :: r,n=>by unfold flC;rw [map_cons,map_cons,qc1z]
def qa1t(g:TDG)(tt:TDT)(te:TDE)(Q:List PyData->Rho->Prop):List PyData->Rho->List PyData->Prop
 | [],ρ,acc=>Q acc ρ
 | x :: r,ρ,acc=>g x ρ fun ρ1=>tt ρ1 fun b ρ2=>if b=true then te ρ2 fun y ρ3=>fz ρ3 y fun z ρ4=>qa1t g tt te Q r ρ4 (acc ++ [z]) else qa1t g tt te Q r ρ2 acc
def dComp(n:Nat)(cap:List 'q')(di:TDI)(g:TDG)(tt:TDT)(te:TDE):TDF:=fun ρ Q=>di ρ fun xs ρ1=>xs.length <= 1000000/\(cap.map (·.2)).Nodup/\qa1t g tt te (fun acc ρ'=>Q acc (fills ρ' (flC n cap) ρ1)) xs (capR n cap ρ1) []
section
variable{K:W.Frag}{c:Rc}{O:Own}{ρ:Rho}{σ:St}{H H':Hp}{S S':Addr->Prop}
def qc6e{l:L}:isOw (lend l)=isOw l:=by cases l<;>rfl
def qc3y{n:Nat}{cap:List 'q'}{own:List Str}(hn:own.length=n)(R:Rel K c O ρ σ H)(nd:(cap.map (·.2)).Nodup):Begins K c O ρ σ H (qa7j n cap) (capR n cap ρ) (qa6j own cap σ):=by
 have at_:∀ {j:Nat} {l:L},(capR n cap ρ)[j]? = some (some l)->n <= j/\∃ p l0,cap[j - n]? = some p/\ρ[p.2]? = some (some l0)/\l=lend l0:=fun{j l} e=>by
  unfold capR at e;by_cases hj:j < n
  ·rw [List.getElem?_append_left (by simpa using hj),List.getElem?_replicate,if_pos hj] at e;cases e
  ·rw [getElem?_append_right (by simpa using Nat.le_of_not_lt hj),length_replicate,getElem?_map] at e
   cases q:cap[j - n]? with
   | none=>rw [q] at e;cases e
   | some p =>
    rw [q] at e;have e':(ρ[p.2]?.join).map lend=some l:=Option.some.inj e;cases q2:ρ[p.2]?.join with
    | none=>rw [q2] at e';cases e'
    | some l0=>rw [q2] at e';cases e';exact⟨'o',p,l0,rfl,qa2b q2,rfl⟩
 have st:∀ {j:Nat} {p:Str × Nat},n <= j->cap[j - n]? = some p->(qa6j own cap σ)[j]? = some (σ[p.2]?).join:=fun{j p} h1 h2=>by
  unfold qa6j;rw [getElem?_append_right (by simp;omega),length_replicate,hn,getElem?_map,h2];rfl
 refine⟨fun j l e ho=>?_,fun j x e=>?_,fun j e=>?_,fun j k i e1 e2=>?_,?_⟩
 ·obtain⟨h1,p,l0,h2,h3,h4⟩:=at_ e
  have ho':isOw l0=true:=by rw [h4,qc6e] at ho;exact ho
  obtain⟨q,_,hq⟩:=R.ow h3 ho';refine⟨p.2,l0,?_,h3,ho',h4,?_⟩
  ·unfold qa7j;rw [if_neg 'o',h2];rfl
  ·rw [st h1 h2,hq];rfl
 ·obtain⟨h1,p,l0,h2,h3,h4⟩:=at_ e
  cases l0 with
  | d y =>
   cases h4
   obtain⟨v,e1,e2⟩:=R.dat _ _ h3;exact⟨v,by rw [st h1 h2,e1];rfl,e2⟩
  | _=>cases h4
 ·obtain⟨h1,p,l0,h2,h3,h4⟩:=at_ e
  cases l0 with
  | scr=>rw [st h1 h2,R.scr _ h3];rfl
  | _=>cases h4
 ·unfold qa7j at e1 e2
  split at e1
  ·cases e1
  ·split at e2
   ·cases e2
   ·rename_i h1 h2
    rw [← getElem?_map] at e1 e2;obtain⟨a1,b1⟩:=List.getElem?_eq_some_iff.mp e1;obtain⟨a2,b2⟩:=List.getElem?_eq_some_iff.mp e2;have:=(List.getElem_inj nd).mp (b1.trans b2.symm);omega
 ·unfold qa6j capR;simp [hn]
def qc2a{n:Nat}{own:List Str}{cap:List 'q'}{wi:TI}{g:TG}{tt:TT}{te:TE}{di:TDI}{dg:TDG}{dt:TDT}{de:TDE}(hn:own.length=n)(hi:AdI K wi di)(hg:AdG K g dg)(ht:AdT K tt dt)(he:AdE K te de) :
  AdF K (tComp own cap wi g tt te) (dComp n cap di dg dt de):=by
 intro c O ρ σ H Qd Q R h k;refine hi c O ρ σ H _ _ R h fun xs ρ1 O1 J H1 h1 R1 P1 I1 D hD=>?_;obtain⟨hz,nd,hloop⟩:=h1;have B:=qc3y (own:=own) hn R1 nd;generalize hOc:qa1h O1 ρ1 (qa7j n cap)=Oc;have s0:=qa0v hD (.lst []);obtain⟨R2,P2⟩:=R1.begin (b:=false) (P:=fun a=>a=D) B s0 (fun p e=>by subst e;exact⟨hD,by rw [qa0h];exact fun z=>nomatch z⟩);rw [hOc] at R2 P2;have lentM:∀ {b:Addr},(∃ j,Oc j=some b)->∃ vs,H1 b=some (.lst vs):=fun hq8=>by
  obtain⟨j,e⟩:=hq8;rw [← hOc] at e;obtain⟨i,_,_,_,_,hO⟩:=qa2e e;exact(R1.has i _ hO).2
 have nD:∀ j,Oc j ≠ some D:=fun j e=>by
  obtain⟨vs,q⟩:=lentM ⟨j,e⟩;rw [hD] at q;cases q
 -- what holds between two turns
 let Jn:St->Hp->Own->Rho->List PyData->List V->Prop:=fun σ' H' O' ρ' acc ys=>Rel K (c.in O1 Oc (fun a=>a=D) false H') O' ρ' σ' H'/\H' D=some (.lst ys)/\qa0c K H' (live (c.in O1 Oc (fun a=>a=D) false H') O') acc ys /\
  (∀ b o,(∀ j,Oc j ≠ some b)->b ≠ D->H1 b=some o->H' b=some o)/\Pers K (live c O1) H1 (live (c.in O1 Oc (fun a=>a=D) false H') O') H'
 refine⟨fun i m σ' H'=>m=xs.length - i/\i <= xs.length/\∃ O' ρ' acc ys,Jn σ' H' O' ρ' acc ys/\acc.length <= i/\qa1t dg dt de (fun acc ρ'=>Qd acc (fills ρ' (flC n cap) ρ1)) (xs.drop i) ρ' acc,⟨xs.length,by simp,zero_le _,Oc,_,[],[],⟨R2,qa0h,.nil,fun b o _ nb q=>by rw [qa0f nb];exact q,P2⟩,le_refl _,by rw [drop_zero];exact hloop⟩,?_⟩;rintro i m σ' H' ⟨rfl,hle,O',ρ',acc,ys,⟨R3,hDy,hacc,fr3,P3⟩,hal,q3⟩;obtain⟨it,stop⟩:=I1 _ _ P3;by_cases hlt:i < xs.length
 ·rw [drop_eq_getElem_cons hlt] at q3
  obtain⟨go,yld⟩:=it i xs[i] (getElem?_eq_getElem hlt);have q3':dg xs[i] ρ' fun ρ1'=>dt ρ1' fun b ρ2=>if b=true then de ρ2 fun y ρ3=>fz ρ3 y fun z ρ4=>qa1t dg dt de (fun acc ρ'=>Qd acc (fills ρ' (flC n cap) ρ1)) (xs.drop (i + 1)) ρ4 (acc ++ [z]) else qa1t dg dt de (fun acc ρ'=>Qd acc (fills ρ' (flC n cap) ρ1)) (xs.drop (i + 1)) ρ2 acc:=q3
  -- to the next turn, at a heap that differs from H4 at D alone
  have next:∀ (σ4:St) (H4 H5:Hp) (O4:Own) (ρ4:Rho) (acc':List PyData) (ys':List V),Rel K (c.in O1 Oc (fun a=>a=D) false H') O4 ρ4 σ4 H4->Pers K (live (c.in O1 Oc (fun a=>a=D) false H') O') H' (live (c.in O1 Oc (fun a=>a=D) false H') O4) H4 ->
    H5 D=some (.lst ys')->(∀ b,b ≠ D->H5 b=H4 b)->qa0c K H4 (live (c.in O1 Oc (fun a=>a=D) false H') O4) acc' ys'->Jn σ4 H5 O4 ρ4 acc' ys':=fun σ4 H4 H5 O4 ρ4 acc' ys' R4 P4 h5 ne a4=>by
   have h4D:H4 D ≠ none:=R4.kept D (by show H' D ≠ none;rw [hDy];exact fun z=>nomatch z);have kp:Keep (live (c.in O1 Oc (fun a=>a=D) false H') O4) H4 H5:=by
    have hDl:∃ zs,H4 D=some (.lst zs):=⟨ys,R4.same D _ (fun hq8=>by obtain⟨j,e⟩:=hq8;exact nD j e) hDy⟩;obtain⟨zs,hDl⟩:=hDl;exact⟨fun b ws e=>by rw [ne b (qa7f e hDl (by intro z;cases z))];exact e,fun b o u e=>by rw [ne b (qa7f e hDl (by intro z;cases z))];exact e,fun b ws hl e=>by rw [ne b (fun z=>hl.2.1 z)];exact e⟩
   have hl:∀ a,live (c.in O1 Oc (fun a=>a=D) false H') O4 a->live (c.in O1 Oc (fun a=>a=D) false H5) O4 a:=fun a z=>z;have P5:Pers K (live (c.in O1 Oc (fun a=>a=D) false H') O4) H4 (live (c.in O1 Oc (fun a=>a=D) false H5) O4) H5:=.of kp hl;have inM:∀ i p,O4 i=some p->∃ j,Oc j=some p:=fun i p e=>by
    rcases (R4.has' i p e).1 with z | z
    ·exact z
    ·exact absurd z.1 Bool.false_ne_true
   refine⟨R4.to (fun _=>rfl) (fun _ _ _ z=>z) rfl rfl P5 (fun i p vs e q=>?_) (fun i p e _=>.inl (inM i p e)) (fun p z=>z.elim .inl fun w=>absurd w.1 Bool.false_ne_true) (fun p z=>?_) (fun b o _ z=>z) (fun b z=>z) (fun p z=>?_) (fun p z=>?_) (fun _=>rfl) (R4.sc.keep kp),h5,P5.all a4,fun b o n1 n2 q=>?_,(P3.trans P4).trans P5⟩
   ·obtain⟨j,ej⟩:=inM i p e
    rw [ne p (fun z=>nD j (by rw [← z];exact ej))];exact q
   ·have z':H5 p=none:=z
    have np:p ≠ D:=by rintro rfl;rw [h5] at z';cases z'
    rw [ne p np] at z';exact R4.frs p (R4.free0 z')
   ·obtain⟨j,ej⟩:=z
    obtain⟨vs,q⟩:=R4.ml p ⟨j,ej⟩;exact⟨vs,by rw [ne p (fun w=>nD j (by rw [← w];exact ej))];exact q⟩
   ·rcases z with z | ⟨j,ej⟩
    ·rw [show p=D from z,h5];exact fun w=>nomatch w
    ·obtain⟨vs,q⟩:=R4.ml p ⟨j,ej⟩
     rw [ne p (fun w=>nD j (by rw [← w];exact ej)),q];exact fun w=>nomatch w
   ·rw [ne b n2]
    exact R4.same b o (fun hq8=>by obtain⟨j,e⟩:=hq8;exact n1 j e) (fr3 b o n1 n2 q)
  refine .inr ⟨go,fun σ'' H''=>∃ O'' ρ'' acc' ys',Jn σ'' H'' O'' ρ'' acc' ys'/\acc'.length <= i + 1/\qa1t dg dt de (fun acc ρ'=>Qd acc (fills ρ' (flC n cap) ρ1)) (xs.drop (i + 1)) ρ'' acc',fun σ'' H'' hq8=>by obtain⟨O'',ρ'',acc',ys',a1,a2,a3⟩:=hq8;exact⟨xs.length - (i + 1),'o',rfl,hlt,O'',ρ'',acc',ys',a1,a2,a3⟩,fun v H4 y=>?_⟩;obtain⟨s4,a4⟩:=yld v H4 y;refine hg _ O' ρ' σ' H4 xs[i] v _ _ (R3.grow s4) a4 q3' fun O5 ρ5 σ5 R5 P5 q5=>?_;refine ht _ O5 ρ5 σ5 H4 _ _ R5 q5 fun b ρ6 O6 H6 q6 R6 P6=>?_;have P06:=((Pers.same s4).trans P5).trans P6;have dAt:∀ {O9:Own} {ρ9:Rho} {σ9:St} {H9:Hp},Rel K (c.in O1 Oc (fun a=>a=D) false H') O9 ρ9 σ9 H9->H9 D=some (.lst ys):=fun Rx=>Rx.same D _ (fun hq8=>by obtain⟨j,e⟩:=hq8;exact nD j e) hDy;cases b with
  | false =>
   rw [if_neg Bool.false_ne_true] at q6 ⊢;exact⟨O6,ρ6,acc,ys,next σ5 H6 H6 O6 ρ6 acc ys R6 P06 (dAt R6) 'b' (P06.all hacc),'o',q6⟩
  | true =>
   rw [if_pos rfl] at q6 ⊢;refine he _ O6 ρ6 σ5 H6 _ _ R6 q6 fun y ρ7 O7 u H7 q7 R7 P7 a7=>?_;obtain⟨z,ρ8,O8,q8,R8,P8,a8⟩:=R7.fz a7 q7;have P08:=(P06.trans P7).trans P8;have accl:ys.length=acc.length:=hacc.length;refine⟨ys,dAt R8,by rw [accl];exact mil 'o',O8,ρ8,acc ++ [z],ys ++ [u],next σ5 H7 _ O8 ρ8 _ _ R8 P08 qa0h (fun b nb=>qa0f nb) ((P08.all hacc).snoc a8),by rw [length_append,List.length_singleton];omega,q8⟩
 ·have e:i=xs.length:=by omega
  subst e;rw [drop_eq_nil_of_le 'e'] at q3;refine .inl ⟨stop,?_⟩;have fr:∀ b o,(∀ j,qa1h O1 ρ1 (qa7j n cap) j ≠ some b)->H1 b=some o->H' b=some o:=fun b o n1 q=>fr3 b o (by rw [← hOc];exact n1) (qa1q q hD) q;have fp:=qb2s R1 hD;have hl:∀ a,live (c.in O1 Oc (fun a=>a=D) false H') O' a->live (c.add D) O1 a:=fun a z=>qb0b z.1 z.2.1;have hP:Pers K (live (c.in O1 Oc (fun a=>a=D) false H') O') H' (live (c.add D) O1) H':=.of (Keep.refl _ _) hl;have hp:Pers K (live c O1) H1 (live (c.add D) O1) H':=P3.trans hP;have hf:∀ j i,(j,i) ∈ flC n cap->qa7j n cap j=some i:=fun j i m=>by
   obtain⟨h1,h2⟩:=qc1y.mp m;unfold qa7j;rw [if_neg 'o'];exact h2
  have hf':∀ j i,qa7j n cap j=some i->(j,i) ∈ flC n cap:=fun j i e=>by
   unfold qa7j at e;split at e
   ·cases e
   ·exact qc1y.mpr ⟨'o',e⟩
  have Rn:Rel K (c.add D) O1 (fills ρ' (flC n cap) ρ1) σ H':=R1.finish (P':=fun a=>c.P a ∨ a=D) (by rw [qc1z];exact nd) hf hf' R3 (fun j=>by rw [hOc];rfl) rfl rfl fr (fun j p e=>R3.ml p ⟨j,by rw [← hOc];exact e⟩) hP hp (fun q z=>z.elim .inl fun e=>.inr (by subst e;exact⟨by rw [hDy];exact 'p',fp.2.2.2⟩));exact k _ _ O1 D ys H' q3 Rn (P1.trans hp) fp hDy (hP.all hacc)
end
end
section
def DG(X:Cx)(target:Expr)(dg:TDG):Prop:=∃ g,PG X target g/\AdG X.K g dg
def DGs(X:Cx)(ts:List Expr)(dg:TDGs):Prop:=∃ g,PGs X ts g/\AdGs X.K g dg
def DIf(X:Cx)(ifs:List Expr)(dt:TDT):Prop:=∃ t,PIf X ifs t/\AdT X.K t dt
section
variable{X:Cx}{st:Stmt}{rest:List Stmt}{e tg iter a b c:Expr}{es ifs:List Expr}{de da db dc:TDE}{df:TDF}{dt du:TDS}{dg:TDG}{dgs:TDGs}{di:TDI}{dtt:TDT}{daa:TDA}{pos:Pos}
def qa1a:DSs X [] dNext:=⟨_,qa5t,ad_next⟩
def qa0g(h1:DS X st dt)(h2:DSs X rest du):DSs X (st :: rest) (dSeq dt du):=by obtain⟨_,p,a⟩:=h1;obtain⟨_,p',a'⟩:=h2;exact⟨_,qa1k p p',ad_seq a a'⟩
def qa0j(h1:DS X st dt):DSs X [st] dt:=by obtain⟨_,p,a⟩:=h1;exact⟨_,qa2j p,a⟩
def qb4y(he:DE X e de)(hs:swapsWith e none pos.line X.env=pure false:=by rfl):DS X (.Expr e pos) (dDrop de):=by obtain⟨_,p,a⟩:=he;exact⟨_,qc1e p hs,ad_drop a⟩
def qa0q(he:DE X e de):DS X (.Return (some e) pos) (dRet de):=by obtain⟨_,p,a⟩:=he;exact⟨_,qa6w p,ad_ret a⟩
def qa1r{c:Expr}{a b:List Stmt}(hc:DT X c dtt)(ha:DSs X a dt)(hb:DSs X b du):DS X (.If c a b pos) (dIf dtt dt du):=by obtain⟨_,p,a⟩:=hc;obtain⟨_,p',a'⟩:=ha;obtain⟨_,p2,a2⟩:=hb;exact⟨_,qa9v p p' p2,ad_if a a' a2⟩
def qa1l{i:Nat}{x:Str}{pos':Pos}(hN:X.N.Nodup)(hi:X.N[i]? = some x)(hx:Loc X.env.scope x)(he:DE X e de)(hs:swapsWith e (some (.Name x pos')) pos.line X.env=pure false:=by rfl)(hf:X.fn x=true ∨ X.env.scope.names.lookup x=some .local:=by first | exact .inl rfl | exact .inr rfl) :
  DS X (.Assign [.Name x pos'] e pos) (dSet i de):=by obtain⟨_,p,a⟩:=he;exact⟨_,qa3c hN hi hx p hs hf,ad_set a⟩
def qb1y{i:Nat}{x:Str}{pos':Pos}(hN:X.N.Nodup)(hi:X.N[i]? = some x)(hx:Loc X.env.scope x)(he:DF X e df)(hs:swapsWith e (some (.Name x pos')) pos.line X.env=pure false:=by rfl)(hf:X.fn x=true ∨ X.env.scope.names.lookup x=some .local:=by first | exact .inl rfl | exact .inr rfl) :
  DS X (.Assign [.Name x pos'] e pos) (dSetF i df):=by obtain⟨_,p,a⟩:=he;exact⟨_,qa3c hN hi hx p hs hf,qc1x a⟩
def qa1b{i:Nat}{x:Str}(hN:X.N.Nodup)(hi:X.N[i]? = some x)(hx:Loc X.env.scope x)(hf:X.fn x=true ∨ X.env.scope.names.lookup x=some .local:=by first | exact .inl rfl | exact .inr rfl | assumption):DG X (.Name x pos) (qa9p i):=⟨_,qa9f hN hi hx hf,ag_name⟩
def dgs_nil:DGs X [] dgNil:=⟨_,qc1f,ag_nil⟩
def qb8a(h1:DG X e dg)(h2:DGs X es dgs)(hs:(assignEach (e :: es) X.env).map (·.2)=assign e X.env :: (assignEach es X.env).map (·.2):=by rfl):DGs X (e :: es) (qb7u dg dgs):=by obtain⟨_,p,a⟩:=h1;obtain⟨_,p',a'⟩:=h2;exact⟨_,qb2l p p' hs,ag_cons a a'⟩
def dg_tup{k n:Nat}(hc:X.calm=true)(h:DGs X es dgs)(hn:(assignEach es X.env).length=n:=by rfl)(hst:(assignEach es X.env).findIdx? (·.1)=none:=by rfl):DG X (.Tuple es k pos) (dgTup n dgs):=by obtain⟨_,p,a⟩:=h;exact⟨_,pg_tup hc p hn hst,ag_tup a⟩
def qb8b(i:Nat){x:Str}{b:Expr}{p p2:Pos}(hN:X.N[i]? = some x)(hb:DE X b db)(he:DE X e de)(hv:Vis X.env.scope x:=by first | exact Or.inl rfl | exact Or.inr 'f' | exact Or.inr (Or.inr rfl)) (hd:(x == ("__debug__" : Str))=false:=by decide)
  (hcd:(x == ("__classdict__" : Str))=false:=by decide) (ha:∀ v,assign (.Subscript (.Name x p) b p2) X.env v=(do
   let ov ← holding [v] (eval (.Name x p) X.env)
   let iv ← holding [v,ov] (eval b X.env)
   standAt p2
   holding [v,ov,iv] (setItem ov iv v)
   release [v,ov,iv] []):=by intro _;rfl)
  (hs:swapsWithSole [.Subscript (.Name x p) b p2] e pos.line X.env=pure false:=by rfl) (hw:swappedStores [.Subscript (.Name x p) b p2] e X.env=pure none:=by rfl)
  (h1:(assignEach [.Subscript (.Name x p) b p2] X.env).map (·.2)=[assign (.Subscript (.Name x p) b p2) X.env]:=by rfl):DS X (.Assign [.Subscript (.Name x p) b p2] e pos) (qb1a i db de):=by
 obtain⟨ti,pi,ai⟩:=hb;obtain⟨te,pe,ae⟩:=he;exact⟨_,ps_asg pe (pg_sub (qa9d hN hv hd hcd) pi set_list ha) hs hw h1,qc8n ai ae⟩
def qb1b(i:Nat){x:Str}{p p2:Pos}(hN:X.N[i]? = some x)(he:DE X e de)(hv:Vis X.env.scope x:=by first | exact Or.inl rfl | exact Or.inr 'f' | exact Or.inr (Or.inr rfl)) (hd:(x == ("__debug__" : Str))=false:=by decide)
  (hcd:(x == ("__classdict__" : Str))=false:=by decide) (hs:starEach [e] X.env=[(false,eval e X.env)]:=by rfl)
  (hbase:attributeBase (.Name x p) "append" X.env (eval (.Name x p) X.env)=eval (.Name x p) X.env:=by rfl)
  (hfew:((backTo pos (starEach [e] X.env)).all (fun x=>!x.1) && (backToKw pos (keywordEach [] X.env)).all (fun x=>x.1.isSome)
   && decide (([e]:List Expr).length + ([]:List Keyword).length + (if ([]:List Keyword).isEmpty then 0 else 1) < 30))=true:=by rfl)
  (hline:(p2.endLine == pos.line)=true:=by rfl):DE X (.Call (.Attribute (.Name x p) "append" p2) [e] [] pos) (qb4x i de):=by
 obtain⟨te,pe,ae⟩:=he;exact⟨_,pe_bm PySem.F.plainAttrs_list PySem.F.slot_list_append PySem.F.type_list_append qb0v (qa9d hN hv hd hcd) (qa0s pe qa1s hs) hbase hfew hline hs rfl,qc6a ae⟩
def qa6y{body:List Stmt}(hp:PassesOwn (model X.prog X.w) X.A X.env X.xe)(hc:X.calm=true)(hi:DI X tg iter di)(hg:DG X tg dg)(hb:DSs X body dt)(hs:∀ x,foldedSetIterable iter X.env x=pure x:=by intro _;rfl):DS X (.For tg iter body [] pos) (dFor di dg dt):=
 by obtain⟨_,p,a⟩:=hi;obtain⟨_,p',a'⟩:=hg;obtain⟨_,p2,a2⟩:=hb;exact⟨_,qb7b hp hc p p' p2 hs,ad_for a a' a2⟩
def qa2f(h:DE X e de):DI X tg e (diDat de):=by obtain⟨_,p,a⟩:=h;exact⟨_,pi_dat p,ai_dat a⟩
def qa4z{p:Pos} (hg:Gl X "range") (hm:X.mg "range" = none) (ha:DE X a da) (hs:starEach [a] X.env=[(false,eval a X.env)]:=by rfl):DI X tg (.Call (.Name "range" p) [a] [] pos) (qb7w da):=
 by obtain⟨_,p,a⟩:=ha;exact⟨_,qc5f hg hm (qa0s p qa1s hs) hs,ai_rng1 a⟩
def qa3h:DIf X [] (fun ρ Q=>Q true ρ):=⟨_,qc1o,fun c O ρ σ H Qd Q R h k=>k _ _ _ _ h R .refl⟩
def qa5a(h:DT X e dtt):DIf X [e] dtt:=by obtain⟨_,p,a⟩:=h;exact⟨_,pif_one p,a⟩
end
def upE(K:W.Frag)(dt:TDE):TE:=fun σ H Q=>∃ c O ρ Qd,Rel K c O ρ σ H/\dt ρ Qd/\(∀ x ρ' O' v H',Qd x ρ'->Rel K c O' ρ' σ H'->Pers K (live c O) H (live c O') H'->AtV K (live c O') σ H' x v->Q v H')
def upT(K:W.Frag)(dt:TDT):TT:=fun σ H Q=>∃ c O ρ Qd,Rel K c O ρ σ H/\dt ρ Qd/\(∀ b ρ' O' H',Qd b ρ'->Rel K c O' ρ' σ H'->Pers K (live c O) H (live c O') H'->Q b H')
def upG(K:W.Frag)(dg:TDG):TG:=fun v σ H Q=>∃ c O ρ x Qd,Rel K c O ρ σ H/\AtD K H (live c O) x v/\dg x ρ Qd/\(∀ O' ρ' σ' ,Rel K c O' ρ' σ' H->Pers K (live c O) H (live c O') H->Qd ρ'->Q σ' H)
def ad_upE{K:W.Frag}{dt:TDE}:AdE K (upE K dt) dt:=fun c O ρ σ H Qd Q R h k=>⟨c,O,ρ,Qd,R,h,k⟩
def ad_upT{K:W.Frag}{dt:TDT}:AdT K (upT K dt) dt:=fun c O ρ σ H Qd Q R h k=>⟨c,O,ρ,Qd,R,h,k⟩
def ad_upG{K:W.Frag}{dg:TDG}:AdG K (upG K dg) dg:=fun c O ρ σ H x v Qd Q R a h k=>⟨c,O,ρ,x,Qd,R,a,h,k⟩
def DE.up{X:Cx}{e:Expr}{de:TDE}(h:DE X e de):PE X e (upE X.K de):=fun pins s σ H Q I q=>by
 obtain⟨t,p,a⟩:=h;obtain⟨c,O,ρ,Qd,R,q,k⟩:=q;exact p pins s σ H Q I (a c O ρ σ H Qd Q R q k)
def DIf.up{X:Cx}{e:List Expr}{de:TDT}(h:DIf X e de):PIf X e (upT X.K de):=fun pins s σ H Q I q=>by
 obtain⟨t,p,a⟩:=h;obtain⟨c,O,ρ,Qd,R,q,k⟩:=q;exact p pins s σ H Q I (a c O ρ σ H Qd Q R q k)
def DG.up{X:Cx}{e:Expr}{dg:TDG}(h:DG X e dg):PG X e (upG X.K dg):=fun pins s σ H v u Q I r q=>by
 obtain⟨t,p,a⟩:=h;obtain⟨c,O,ρ,x,Qd,R,ax,q,k⟩:=q;exact p pins s σ H v u Q I r (a c O ρ σ H x v Qd Q R ax q k)
section
variable{X:Cx}{elt tg iter:Expr}{ifs:List Expr}{scope:Scope}{pos:Pos}{own:List Str}{cap:List 'q'}{di:TDI}{dg:TDG}{dt:TDT}{de:TDE}
def qa2c(own:List Str)(cap:List 'q')(hc:X.calm=true)(hok:qa4q X scope own cap=true)(hnd:(scope.names.map (·.1)).Nodup)(hi:DI X tg iter di)
  (hg:∀ fp s2 H2,DG (cxC X scope own cap fp s2 H2) tg dg) (ht:∀ fp s2 H2,DIf (cxC X scope own cap fp s2 H2) ifs dt) (he:∀ fp s2 H2,DE (cxC X scope own cap fp s2 H2) elt de)
  (hs:∀ x,foldedSetIterable iter X.env x=pure x:=by intro _;rfl):DF X (.ListComp elt [⟨tg,iter,ifs,0⟩] scope pos) (dComp own.length cap di dg dt de):=by
 obtain⟨ti,pi,ai⟩:=hi;exact⟨_,qc1p hc hok hnd pi (fun a b c=>(hg a b c).up) (fun a b c=>(ht a b c).up) (fun a b c=>(he a b c).up) hs,qc2a rfl ai ad_upG ad_upT ad_upE⟩
def qc2b{i:Nat}{y:Str}{py spos:Pos}(hN:X.N.Nodup)(hi':X.N[i]? = some y)(hy:X.env.scope.names.lookup y=some .local)
  (own:List Str) (cap:List 'q') (hc:X.calm=true) (hok:qa4q X scope own cap=true) (hnd:(scope.names.map (·.1)).Nodup) (hi:DI X tg iter di)
  (hg:∀ fp s2 H2,DG (cxC X scope own cap fp s2 H2) tg dg) (ht:∀ fp s2 H2,DIf (cxC X scope own cap fp s2 H2) ifs dt) (he:∀ fp s2 H2,DE (cxC X scope own cap fp s2 H2) elt de)
  (hsw:swapsWith (.ListComp elt [⟨tg,iter,ifs,0⟩] scope pos) (some (.Name y py)) spos.line X.env=pure true:=by rfl)
  (hs:∀ x,foldedSetIterable iter X.env x=pure x:=by intro _;rfl):DS X (.Assign [.Name y py] (.ListComp elt [⟨tg,iter,ifs,0⟩] scope pos) spos) (dSetF i (dComp own.length cap di dg dt de)):=by
 obtain⟨ti,pi,ai⟩:=hi;exact⟨_,ps_setC hN hi' hy hc hok hnd pi (fun a b c=>(hg a b c).up) (fun a b c=>(ht a b c).up) (fun a b c=>(he a b c).up) hsw hs,qc1x (qc2a rfl ai ad_upG ad_upT ad_upE)⟩
end
section
variable{K:W.Frag}
def dIs(T:String)(de:TDE):TDE:=fun ρ Q=>de ρ fun x ρ1=>need (qa0m ρ1 x) fun d=>Q (.d (.bool (isD T d))) ρ1
def ad_is{t:TE}{de:TDE}{T:String}(hT:qa6a T=true)(h:AdE K t de):AdE K (tCB (fun xs H Q=>∃ v S d T,xs=[v,.ty T]/\AtD K H S d v/\qa6a T=true/\Q (.bl (isD T d)) H) (qa3w t (qa3w (tC (.ty T)) tNil))) (dIs T de):=fun c O ρ σ H Qd Q R q k =>
 h c O ρ σ H _ _ R q fun x ρ1 O1 v H1 h1 R1 P1 a1=>by
  obtain⟨d,e1,h2⟩:=ne (h1);exact⟨v,Any,d,T,rfl,(R1.top a1 e1).any,hT,k _ _ _ _ _ h2 R1 P1 qa8h⟩
end
def qa5j{X:Cx}{e:Expr}{de:TDE}{x:Str}{T:String}{p p2 pos:Pos} (hg:Gl X "isinstance") (hm:X.mg "isinstance" = none) (hg2:Gl X x) (hm2:X.mg x=none) (hv:bootBuiltins x=some (.type T)) (hT:qa6a T=true) (he:DE X e de) (hn:x ≠ "__name__":=by decide) (hd:(x == ("__debug__" : Str))=false:=by decide)
  (hs:starEach [e,.Name x p2] X.env=(false,eval e X.env) :: starEach [.Name x p2] X.env:=by rfl):DE X (.Call (.Name "isinstance" p) [e,.Name x p2] [] pos) (dIs T de):=by
 obtain⟨t,pe,ae⟩:=he;exact⟨_,qa3k qc8k hg hm qa4r (qa0s pe (qa0s (pe_ty hg2 hm2 hv hn hd) qa1s) hs) 'd' 'd' hs rfl,ad_is hT ae⟩
end
section
noncomputable def fEqA(neg:Bool):F2:=fun x y=>if (qa1g x && qa1g y && scal (toV x) (toV y))=true then some (.bool (if neg then !decide (toV x=toV y) else decide (toV x=toV y))) else fEq neg x y
section
variable{K:W.Frag}
def qa2m:AdR K (fun x y H Q=>rEq x y H Q ∨ rEqD K false x y H Q) (fEqA false):=by
 intro S H x y dx dy z Q f hx hy e k;unfold fEqA at e;split at e
 ·rename_i hc
  rw [and_eq_true,and_eq_true] at hc;cases e;obtain⟨e1,_⟩:=qa7w (hx.at fun ds z=>by subst z;exact absurd hc.1.1 (by simp [qa1g])) hc.1.1;obtain⟨e2,_⟩:=qa7w (hy.at fun ds z=>by subst z;exact absurd hc.1.2 (by simp [qa1g])) hc.1.2;rw [e1,e2];exact .inl ⟨hc.2,k _ _ (Same.refl _) (qa2d _)⟩
 ·exact .inr (ad_eq S H x y dx dy z Q f hx hy e k)
def qb3p:AdR K (fun x y H Q=>rNe x y H Q ∨ rEqD K true x y H Q) (fEqA true):=by
 intro S H x y dx dy z Q f hx hy e k;unfold fEqA at e;split at e
 ·rename_i hc
  rw [and_eq_true,and_eq_true] at hc;cases e;obtain⟨e1,_⟩:=qa7w (hx.at fun ds z=>by subst z;exact absurd hc.1.1 (by simp [qa1g])) hc.1.1;obtain⟨e2,_⟩:=qa7w (hy.at fun ds z=>by subst z;exact absurd hc.1.2 (by simp [qa1g])) hc.1.2;rw [e1,e2];exact .inl ⟨hc.2,k _ _ (Same.refl _) (qa2d _)⟩
 ·exact .inr (ad_eq S H x y dx dy z Q f hx hy e k)
def qa2n{X:Cx}(hu:X.A.units + 64 < cLine):OpR X (compareOp .Eq) (fun x y H Q=>rEq x y H Q ∨ rEqD X.K false x y H Q):=op_eq.or (op_eqD hu)
def qb3q{X:Cx}(hu:X.A.units + 64 < cLine):OpR X (compareOp .NotEq) (fun x y H Q=>rNe x y H Q ∨ rEqD X.K true x y H Q):=op_ne.or (op_neD hu)
end
def qc8r{neg:Bool}{x y:Str}:fEqA neg (.str x) (.str y)=some (.bool (if neg then !decide (x=y) else decide (x=y))):=by
 have e:decide (V.str x=V.str y)=decide (x=y):=by simp
 unfold fEqA;rw [if_pos (show(qa1g (.str x) && qa1g (.str y) && scal (toV (.str x)) (toV (.str y)))=true from rfl)];show some (PyData.bool (if neg=true then !decide (V.str x=V.str y) else decide (V.str x=V.str y)))=_;rw [e]
def qc8s{neg:Bool}{x y:Int}:fEqA neg (.int x) (.int y)=some (.bool (if neg then !decide (x=y) else decide (x=y))):=by
 have e:decide (V.int x=V.int y)=decide (x=y):=by simp
 unfold fEqA;rw [if_pos (show(qa1g (.int x) && qa1g (.int y) && scal (toV (.int x)) (toV (.int y)))=true from rfl)];show some (PyData.bool (if neg=true then !decide (V.int x=V.int y) else decide (V.int x=V.int y)))=_;rw [e]
def qc6f{neg:Bool}{x y:Bool}:fEqA neg (.bool x) (.bool y)=some (.bool (if neg then !decide (x=y) else decide (x=y))):=by
 have e:decide (V.bl x=V.bl y)=decide (x=y):=by simp
 unfold fEqA;rw [if_pos (show(qa1g (.bool x) && qa1g (.bool y) && scal (toV (.bool x)) (toV (.bool y)))=true from rfl)];show some (PyData.bool (if neg=true then !decide (V.bl x=V.bl y) else decide (V.bl x=V.bl y)))=_;rw [e]
def qc8t{neg:Bool}{x y:PyData}(h:(qa1g x && qa1g y)=false)(hx:SeqAt.shaped x=true)(hy:SeqAt.shaped y=true):fEqA neg x y=some (.bool (if neg then !PyData.eqv x y else PyData.eqv x y)):=by
 unfold fEqA fEq;rw [h,Bool.false_and,if_neg Bool.false_ne_true,if_pos ⟨hx,hy⟩]
theorem fIx_l{xs:List PyData}{i:Int}:fIx (.list xs) (.int i)=atI xs i:=rfl
theorem fIx_t{xs:List PyData}{i:Int}:fIx (.tuple xs) (.int i)=atI xs i:=rfl
theorem fAdd_i{i j:Int}:fAdd (.int i) (.int j)=some (.int (i + j)):=rfl
theorem fSub_i{i j:Int}:fSub (.int i) (.int j)=some (.int (i - j)):=rfl
theorem fCmp_i{p:Int->Int->Bool}{i j:Int}:fCmp p (.int i) (.int j)=some (.bool (p i j)):=rfl
theorem fLen_l{xs:List PyData}:fLen [.list xs]=some (.int xs.length):=rfl
theorem fLen_t{xs:List PyData}:fLen [.tuple xs]=some (.int xs.length):=rfl
theorem qc8u{xs:List PyData}:qb3k [.list xs]=some (.tuple xs):=rfl
theorem qc8v{xs:List PyData}:qb3k [.tuple xs]=some (.tuple xs):=rfl
theorem fList_l{xs:List PyData}:fList [.list xs]=some xs:=rfl
theorem fList_t{xs:List PyData}:fList [.tuple xs]=some xs:=rfl
def fIn_f{neg:Bool}{x:PyData}{xs:List PyData}(h:(qa1g x && xs.all qa1g)=true):fIn neg x (.tuple xs)=some (.bool (if neg then !inF x xs else inF x xs)):=by
 show(if qa1g x && xs.all qa1g then some (PyData.bool (if neg then !inF x xs else inF x xs)) else none)=_;rw [if_pos h]
def fIn_fl{neg:Bool}{x:PyData}{xs:List PyData}(h:(qa1g x && xs.all qa1g)=true):fIn neg x (.list xs)=some (.bool (if neg then !inF x xs else inF x xs)):=by
 show(if qa1g x && xs.all qa1g then some (PyData.bool (if neg then !inF x xs else inF x xs)) else none)=_;rw [if_pos h]
def fAdd_l{xs ys:List PyData}(h:xs.length + ys.length <= sizeLine):fAdd (.list xs) (.list ys)=some (.list (xs ++ ys)):=by
 show(if xs.length + ys.length <= sizeLine then some (PyData.list (xs ++ ys)) else none)=_;rw [if_pos h]
def qb1c{xs ys:List PyData}(h:xs.length + ys.length <= sizeLine):fAdd (.tuple xs) (.tuple ys)=some (.tuple (xs ++ ys)):=by
 show(if xs.length + ys.length <= sizeLine then some (PyData.tuple (xs ++ ys)) else none)=_;rw [if_pos h]
def qa5b{xs:List PyData}{i:Int}{k:PyData->Prop}(h0:0 <= i)(h1:i < xs.length)(h:∀ d,d ∈ xs->xs[i.toNat]? = some d->k d):need (atI xs i) k:=by
 obtain⟨x,e1,e2,e3⟩:=atI_in h0 h1;exact need_mk e1 (h x e2 e3)
def qb6d{α:Type}{xs r:List α}{i:Nat}{x:α}(h:xs.drop i=x :: r):xs[i]? = some x/\xs.drop (i + 1)=r:=by
 have hi:i < xs.length:=by
  by_cases h':i < xs.length
  ·exact h'
  ·rw [drop_eq_nil_of_le 'o'] at h;cases h
 rw [drop_eq_getElem_cons hi] at h;injection h with h1 h2
 exact⟨by rw [getElem?_eq_getElem hi,h1],h2⟩
def qb8c{α:Type}{xs:List α}{i:Nat}(hi:i <= xs.length)(h:xs.drop i=[]):i=xs.length:=by
 have:=congrArg List.length h;simp at this;omega
def qa4b{g:TDG}{b:TDS}{D:DEnds}{xs:List PyData}{ρ:Rho}(Pv:Nat->Rho->Prop)(h0:Pv 0 ρ)
  (hs:∀ (i:Nat) (x:PyData) (ρ:Rho) (N:Rho->Prop),xs[i]? = some x->Pv i ρ->(∀ ρ',Pv (i + 1) ρ'->N ρ')->g x ρ fun ρ1=>b { D with nx:=N,ct:=N,bk:=D.nx } ρ1)
  (hd:∀ ρ,Pv xs.length ρ->D.nx ρ):qa4s g b D xs ρ:=by
 have key:∀ (r:List PyData) (i:Nat),i <= xs.length->xs.drop i=r->∀ ρ,Pv i ρ->qa4s g b D r ρ:=fun r=>by
  induction r with
  | nil =>
   intro i hi e ρ p;rw [qb8c hi e] at p;exact hd ρ p
  | cons x r ih =>
   intro i hi e ρ p;obtain⟨e1,e2⟩:=qb6d e;have hlt:i < xs.length:=(List.getElem?_eq_some_iff.mp e1).1;exact hs i x ρ _ e1 p fun ρ' p'=>ih (i + 1) hlt e2 ρ' p'
 exact key xs 0 (zero_le _) 'g' ρ h0
def qa8j{g:TDG}{tt:TDT}{te:TDE}{Q:List PyData->Rho->Prop}{xs:List PyData}{ρ:Rho}(Pv:Nat->Rho->List PyData->Prop)(h0:Pv 0 ρ [])
  (hs:∀ (i:Nat) (x:PyData) (ρ:Rho) (acc:List PyData) (N:Rho->List PyData->Prop),xs[i]? = some x->Pv i ρ acc->(∀ ρ' acc',Pv (i + 1) ρ' acc'->N ρ' acc') ->
   g x ρ fun ρ1=>tt ρ1 fun b ρ2=>if b=true then te ρ2 fun y ρ3=>fz ρ3 y fun z ρ4=>N ρ4 (acc ++ [z]) else N ρ2 acc)
  (hd:∀ ρ acc,Pv xs.length ρ acc->Q acc ρ):qa1t g tt te Q xs ρ []:=by
 have key:∀ (r:List PyData) (i:Nat),i <= xs.length->xs.drop i=r->∀ ρ acc,Pv i ρ acc->qa1t g tt te Q r ρ acc:=fun r=>by
  induction r with
  | nil =>
   intro i hi e ρ acc p;rw [qb8c hi e] at p;exact hd ρ acc p
  | cons x r ih =>
   intro i hi e ρ acc p;obtain⟨e1,e2⟩:=qb6d e;have hlt:i < xs.length:=(List.getElem?_eq_some_iff.mp e1).1;exact hs i x ρ acc _ e1 p fun ρ' acc' p'=>ih (i + 1) hlt e2 ρ' acc' p'
 exact key xs 0 (zero_le _) 'g' ρ [] h0
end
end L2
section
namespace L2
open PySem PySem.Spec PyProof.Rows
def later(u:TDS)(D:DEnds)(ρ:Rho):Prop:=u D ρ
def qc2c{u:TDS}{D:DEnds}{ρ:Rho}(h:u D ρ):later u D ρ:=h
section
variable{t u b:TDS}{c tt:TDT}{D:DEnds}{ρ ρi:Rho}{i j n:Nat}{da db dc de te:TDE}{df:TDF}{daa:TDA}{f f':F2}{fl:F2L}{fc:FC}{fcl:FCL}{T:String}{dg g:TDG}{dgs:TDGs}{di:TDI}{x:PyData}{y:DV}{xs:List PyData}{ys:List DV}{fs:List Bool}{sp:DSp}
 {Q:DV->Rho->Prop} {QF:List PyData->Rho->Prop} {QB:Bool->Rho->Prop} {QA:List DV->Rho->Prop} {QR:RV->Rho->Prop} {QD:PyData->Rho->Prop} {N:Rho->Prop} {QL:L->Rho->Prop} {QLs:List L->Rho->Prop}
theorem dSeq_a:dSeq t u D ρ=t { D with nx:=later u D } ρ:=rfl
theorem dNext_a:dNext D ρ=D.nx ρ:=rfl
theorem dIf_a:dIf c t u D ρ=c ρ fun b ρ1=>if b=true then t D ρ1 else u D ρ1:=rfl
theorem dDrop_a:dDrop de D ρ=de ρ fun _ ρ1=>D.nx ρ1:=rfl
theorem dRet_a:dRet de D ρ=de ρ fun x ρ1=>fz ρ1 x fun y ρ2=>D.rt (.d y) ρ2:=rfl
theorem dRetF_a:dRetF df D ρ=df ρ fun xs ρ1=>D.rt (.new xs) ρ1:=rfl
noncomputable def ownAtJ:Option L->Option (List PyData)
 | some (.own xs)=>some xs
 | _=>none
theorem qc8w:ownAtJ (some (.own xs))=some xs:=rfl
theorem dSet_a:dSet i de D ρ=de ρ fun x ρ1=>fz ρ1 x fun y ρ2=>i < ρ2.length/\D.nx (ρ2.set i (some (.d y))):=rfl
theorem dSetF_a:dSetF i df D ρ=df ρ fun xs ρ1=>i < ρ1.length/\D.nx (ρ1.set i (some (.own xs))):=rfl
theorem dAsg_a:dAsg de dg D ρ=de ρ fun x ρ1=>fz ρ1 x fun y ρ2=>dg y ρ2 D.nx:=rfl
theorem dFor_a:dFor di dg b D ρ=di ρ fun xs ρ1=>qa4s dg b D xs ρ1:=rfl
theorem dVar_a:dVar i ρ Q=((ρ[i]?.join).isSome=true/\Q (.sl i) ρ):=rfl
theorem dC_a:dC x ρ Q=Q (.d x) ρ:=rfl
theorem dOp_a:dOp f da db ρ Q=da ρ fun x ρ1=>db ρ1 fun y ρ2=>need (qa0m ρ2 x) fun dx=>need (qa0m ρ2 y) fun dy=>need (f dx dy) fun z=>Q (.d z) ρ2:=rfl
theorem dOpF_a:dOpF fl da db ρ QF=da ρ fun x ρ1=>db ρ1 fun y ρ2=>need (qa0m ρ2 x) fun dx=>need (qa0m ρ2 y) fun dy=>need (fl dx dy) fun z=>QF z ρ2:=rfl
theorem dCB_a:dCB fc daa ρ Q=daa ρ fun xs ρ1=>need (qa1o ρ1 xs) fun ds=>need (fc ds) fun z=>Q (.d z) ρ1:=rfl
theorem dCBF_a:dCBF fcl daa ρ QF=daa ρ fun xs ρ1=>need (qa1o ρ1 xs) fun ds=>need (fcl ds) fun z=>QF z ρ1:=rfl
theorem dTup_a:dTup daa ρ Q=daa ρ fun xs ρ1=>fzs ρ1 xs fun ys ρ2=>ys.length <= 1000000/\Q (.d (.tuple ys)) ρ2:=rfl
theorem dLst_a:dLst daa ρ QF=daa ρ fun xs ρ1=>fzs ρ1 xs fun ys ρ2=>ys.length <= 1000000/\QF ys ρ2:=rfl
theorem dFz_a:dFz df ρ Q=df ρ fun xs ρ1=>Q (.d (.list xs)) ρ1:=rfl
theorem dNil_a:dNil ρ QA=QA [] ρ:=rfl
theorem dCons_a:dCons de daa ρ QA=de ρ fun x ρ1=>daa ρ1 fun xs ρ2=>QA (x :: xs) ρ2:=rfl
theorem dB_a:dB de ρ QB=de ρ fun x ρ1=>need (qa0m ρ1 x) fun d=>need (asB d) fun b=>QB b ρ1:=rfl
theorem dTru_a:dTru de ρ QB=de ρ fun x ρ1=>need (qa0m ρ1 x) fun d=>need (tru d) fun b=>QB b ρ1:=rfl
theorem dAnd_a{v w:TDT}:dAnd v w ρ QB=v ρ fun b ρ1=>if b=true then w ρ1 QB else QB false ρ1:=rfl
theorem dOr_a{v w:TDT}:dOr v w ρ QB=v ρ fun b ρ1=>if b=true then QB true ρ1 else w ρ1 QB:=rfl
theorem dNot_a{v:TDT}:dNot v ρ QB=v ρ fun b ρ1=>QB (!b) ρ1:=rfl
theorem dIfE_a:dIfE c da db ρ Q=c ρ fun k ρ1=>if k=true then da ρ1 Q else db ρ1 Q:=rfl
theorem dAndV_a:dAndV da db ρ Q=da ρ fun x ρ1=>need (qa0m ρ1 x) fun d=>need (asB d) fun k=>if k=true then db ρ1 Q else Q (.d (.bool false)) ρ1:=rfl
theorem dOrV_a:dOrV da db ρ Q=da ρ fun x ρ1=>need (qa0m ρ1 x) fun d=>need (asB d) fun k=>if k=true then Q (.d (.bool true)) ρ1 else db ρ1 Q:=rfl
theorem dNotV_a:dNotV da ρ Q=da ρ fun x ρ1=>need (qa0m ρ1 x) fun d=>need (asB d) fun k=>Q (.d (.bool (!k))) ρ1:=rfl
theorem qc8x:qb3m f f' da db dc ρ Q=da ρ fun x ρ1=>db ρ1 fun y ρ2=>need (qa0m ρ2 x) fun dx=>need (qa0m ρ2 y) fun dy=>need (f dx dy) fun z=>need (asB z) fun k =>
 if k=true then dc ρ2 fun w ρ3=>need (qa0m ρ3 y) fun dy=>need (qa0m ρ3 w) fun dw=>need (f' dy dw) fun z'=>Q (.d z') ρ3 else Q (.d (.bool false)) ρ2:=rfl
theorem dIs_a:dIs T de ρ Q=de ρ fun x ρ1=>need (qa0m ρ1 x) fun d=>Q (.d (.bool (isD T d))) ρ1:=rfl
noncomputable def qa4t:Option L->Option (OK × List PyData)
 | some (.own xs)=>some (.o,xs)
 | some (.bor xs)=>some (.b,xs)
 | _=>none
theorem ownB_j:ownB ρ i=qa4t (ρ[i]?.join):=rfl
theorem ownBJ_o:qa4t (some (.own xs))=some (.o,xs):=rfl
theorem ownBJ_b:qa4t (some (.bor xs))=some (.b,xs):=rfl
theorem okL_o:okL .o xs=.own xs:=rfl
theorem okL_b:okL .b xs=.bor xs:=rfl
theorem qc6g:qb4x i de ρ Q=need (qa4t (ρ[i]?.join)) fun _=>de ρ fun x ρ1=>fz ρ1 x fun y ρ2=>need (qa4t (ρ2[i]?.join)) fun o=>o.2.length <= 1000000/\Q (.d .none) (ρ2.set i (some (okL o.1 (o.2 ++ [y])))):=rfl
theorem dPop_a:dPop i ρ Q=need (qa4t (ρ[i]?.join)) fun o=>need o.2.getLast? fun y=>Q (.d y) (ρ.set i (some (okL o.1 o.2.dropLast))):=rfl
theorem qc8y:qb1a i di' de D ρ=de ρ fun x ρ1=>fz ρ1 x fun y ρ2=>need (qa4t (ρ2[i]?.join)) fun _=>di' ρ2 fun z ρ3=>need (qa0m ρ3 z) fun dz=>need (qb1a.asI dz) fun n=>need (qa4t (ρ3[i]?.join)) fun o=>need (ixN o.2.length n) fun j=>D.nx (ρ3.set i (some (okL o.1 (o.2.set j y)))):=rfl
theorem asI2_i{n:Int}:qb1a.asI (.int n)=some n:=rfl
theorem asI_i{n:Int}:asI (.int n)=some n:=rfl
theorem qc8z:qa9p i x ρ N=(i < ρ.length/\N (ρ.set i (some (.d x)))):=rfl
theorem dgTup_a:dgTup n dgs (.tuple xs) ρ N=(xs.length=n/\dgs xs ρ N):=rfl
theorem qc9a:qb7u dg dgs (x :: xs) ρ N=dg x ρ fun ρ1=>dgs xs ρ1 N:=rfl
def dgNil_a:dgNil [] ρ N=N ρ:=by unfold dgNil;simp
theorem diDat_a:diDat de ρ QF=de ρ fun x ρ1=>fz ρ1 x fun y ρ2=>need (seqD y) fun xs=>QF xs ρ2:=rfl
theorem qc9b:qb7w de ρ QF=de ρ fun x ρ1=>need (qa0m ρ1 x) fun d=>need (asI d) fun j=>sm62 j/\QF (rngD 0 j.toNat) ρ1:=rfl
theorem qc9c:qb3o fs sp daa ρ Q=daa ρ fun xs ρ1=>pass fs xs ρ1 fun ls ρ2=>((flOf 0 fs xs).map (·.2)).Nodup/\sp ls fun r outs=>match r with
 | .d x=>Q (.d x) (fills outs (flOf 0 fs xs) ρ2)
 | .new ys=>Q (.d (.list ys)) (fills outs (flOf 0 fs xs) ρ2):=rfl
theorem pass_n:pass [] [] ρ QLs=QLs [] ρ:=rfl
def pass_f:pass (false :: fs) (y :: ys) ρ QLs=fzL ρ y fun l ρ1=>pass fs ys ρ1 fun ls ρ2=>QLs (l :: ls) ρ2:=by cases y<;>rfl
noncomputable def ioJ:Option L->Option L
 | some l=>if isOw l then some (lend l) else none
 | none=>none
theorem pass_t:pass (true :: fs) (.sl i :: ys) ρ QLs=pass fs ys ρ fun ls ρ2=>need (ioJ (ρ2[i]?.join)) fun l=>QLs (l :: ls) ρ2:=rfl
theorem ioJ_o:ioJ (some (.own xs))=some (.bor xs):=rfl
theorem ioJ_b:ioJ (some (.bor xs))=some (.bor xs):=rfl
theorem ioJ_t:ioJ (some (.tape n))=some (.tape n):=rfl
def fzJ(l:Option L)(ρ:Rho)(i:Nat)(Q:PyData->Rho->Prop):Prop:=match l with
 | some (.d y)=>Q y ρ
 | some (.own xs)=>Q (.list xs) (ρ.set i (some (.d (.list xs))))
 | _=>False
theorem fz_d:fz ρ (.d x) QD=QD x ρ:=rfl
theorem fz_sl:fz ρ (.sl i) QD=fzJ (ρ[i]?.join) ρ i QD:=rfl
theorem fzJ_d:fzJ (some (.d x)) ρ i QD=QD x ρ:=rfl
theorem fzJ_o:fzJ (some (.own xs)) ρ i QD=QD (.list xs) (ρ.set i (some (.d (.list xs)))):=rfl
def fzLJ(l:Option L)(ρ:Rho)(i:Nat)(Q:L->Rho->Prop):Prop:=match l with
 | some (.d y)=>Q (.d y) ρ
 | some (.own xs)=>Q (.d (.list xs)) (ρ.set i (some (.d (.list xs))))
 | some .scr=>Q .scr ρ
 | _=>False
theorem fzL_d:fzL ρ (.d x) QL=QL (.d x) ρ:=rfl
theorem fzL_sl:fzL ρ (.sl i) QL=fzLJ (ρ[i]?.join) ρ i QL:=rfl
theorem fzLJ_d:fzLJ (some (.d x)) ρ i QL=QL (.d x) ρ:=rfl
theorem fzLJ_o:fzLJ (some (.own xs)) ρ i QL=QL (.d (.list xs)) (ρ.set i (some (.d (.list xs)))):=rfl
theorem fzLJ_s:fzLJ (some .scr) ρ i QL=QL .scr ρ:=rfl
theorem fzs_n:fzs ρ [] QF=QF [] ρ:=rfl
theorem fzs_c:fzs ρ (y :: ys) QF=fz ρ y fun z ρ1=>fzs ρ1 ys fun zs ρ2=>QF (z :: zs) ρ2:=rfl
def flOf_n:flOf n [] ys=[]:=by cases ys<;>rfl
def flOf_f:flOf n (false :: fs) (y :: ys)=flOf (n + 1) fs ys:=by cases y<;>rfl
theorem flOf_t:flOf n (true :: fs) (.sl i :: ys)=(n,i) :: flOf (n + 1) fs ys:=rfl
noncomputable def qa8k(l:Option L)(ρi:Rho)(j i:Nat)(ρ:Rho):Rho:=match l with
 | some l0=>if isOw l0 then ρ.set i (qa5i ρi l0 j) else ρ
 | none=>ρ
theorem fills_n:fills ρi [] ρ=ρ:=rfl
theorem fills_c{r:List (Nat × Nat)}:fills ρi ((j,i) :: r) ρ=fills ρi r (qa8k (ρ[i]?.join) ρi j i ρ):=rfl
theorem qc9d:qa8k (some (.own xs)) ρi j i ρ=ρ.set i ((ρi[j]?.join).bind (qa7i (.own xs))):=rfl
theorem qc9e:qa8k (some (.bor xs)) ρi j i ρ=ρ.set i ((ρi[j]?.join).bind (qa7i (.bor xs))):=rfl
theorem qc9f:qa8k (some (.tape n)) ρi j i ρ=ρ.set i ((ρi[j]?.join).bind (qa7i (.tape n))):=rfl
theorem qc9g:qa8k (some (.d x)) ρi j i ρ=ρ:=rfl
theorem qc9h:qa8k (some .scr) ρi j i ρ=ρ:=rfl
theorem qc9i:qa8k none ρi j i ρ=ρ:=rfl
theorem relab_o:qa7i (.own xs) (.bor x')=some (.own x'):=rfl
theorem relab_b:qa7i (.bor xs) (.bor x')=some (.bor x'):=rfl
theorem relab_t{m:Nat}:qa7i (.tape n) (.tape m)=some (.tape m):=rfl
theorem lend_o:lend (.own xs)=.bor xs:=rfl
theorem lend_b:lend (.bor xs)=.bor xs:=rfl
theorem lend_t:lend (.tape n)=.tape n:=rfl
theorem lend_d:lend (.d x)=.d x:=rfl
theorem lend_s:lend .scr=.scr:=rfl
theorem dComp_a{cap:List 'q'}:dComp n cap di g tt te ρ QF=di ρ fun xs ρ1=>xs.length <= 1000000/\(cap.map (·.2)).Nodup/\qa1t g tt te (fun acc ρ'=>QF acc (fills ρ' (flC n cap) ρ1)) xs (capR n cap ρ1) []:=rfl
theorem flC_n:flC n []=[]:=rfl
theorem flC_c{p:Str × Nat}{r:List 'q'}:flC n (p :: r)=(n,p.2) :: flC (n + 1) r:=rfl
theorem capR_a{cap:List 'q'}:capR n cap ρ=List.replicate n none ++ cap.map fun p=>(ρ[p.2]?.join).map lend:=rfl
theorem deref_d:qa0m ρ (.d x)=some x:=rfl
theorem qc9j:qa0m ρ (.sl i)=(ρ[i]?.join).bind qa9o:=rfl
theorem qc9k:qa9o (.d x)=some x:=rfl
theorem qc9l:qa9o (.own xs)=some (.list xs):=rfl
theorem qc9m:qa9o (.bor xs)=some (.list xs):=rfl
theorem qc9n:qa1o ρ []=some []:=rfl
theorem qc9o:qa1o ρ (y :: ys)=(qa0m ρ y).bind fun z=>(qa1o ρ ys).map (z :: ·):=rfl
theorem asB_b{b:Bool}:asB (.bool b)=some b:=rfl
theorem tru_b{b:Bool}:tru (.bool b)=some b:=rfl
theorem tru_n:tru .none=some false:=rfl
theorem tru_i{i:Int}:tru (.int i)=some (i != 0):=rfl
theorem tru_l:tru (.list xs)=some (!xs.isEmpty):=rfl
theorem tru_t:tru (.tuple xs)=some (!xs.isEmpty):=rfl
theorem seqD_l:seqD (.list xs)=some xs:=rfl
theorem seqD_t:seqD (.tuple xs)=some xs:=rfl
theorem mask_n:mask [] ρ=[]:=rfl
theorem mask_d{ls:List L}{l:Option L}:mask (.d x :: ls) (l :: ρ)=none :: mask ls ρ:=rfl
theorem mask_s{ls:List L}{l:Option L}:mask (.scr :: ls) (l :: ρ)=none :: mask ls ρ:=rfl
theorem mask_t{ls:List L}{l:Option L}:mask (.tape n :: ls) (l :: ρ)=l :: mask ls ρ:=rfl
theorem mask_b{ls:List L}{l:Option L}:mask (.bor xs :: ls) (l :: ρ)=l :: mask ls ρ:=rfl
end
end L2
namespace L2
open PySem
def qa2g{g:TDG}{tt:TDT}{te:TDE}{Q:List PyData->Rho->Prop}{xs:List PyData}{ρ:Rho}(Sh:Rho->Prop)(fm:PyData->Option PyData)(h0:Sh ρ)
  (hs:∀ (x:PyData) (ρ:Rho) (N:Rho->Option PyData->Prop),x ∈ xs->Sh ρ->(∀ ρ',Sh ρ'->N ρ' (fm x))->g x ρ fun ρ1=>tt ρ1 fun b ρ2=>if b=true then te ρ2 fun y ρ3=>fz ρ3 y fun z ρ4=>N ρ4 (some z) else N ρ2 none)
  (hd:∀ ρ,Sh ρ->Q (xs.filterMap fm) ρ):qa1t g tt te Q xs ρ []:=by
 have key:∀ (r:List PyData) (acc:List PyData) (ρ:Rho),(∀ x ∈ r,x ∈ xs)->Sh ρ->(∀ ρ,Sh ρ->Q (acc ++ r.filterMap fm) ρ)->qa1t g tt te Q r ρ acc:=fun r=>by
  induction r with
  | nil=>intro acc ρ _ h hq;have:=hq ρ h;show Q acc ρ;simpa using this
  | cons x r ih =>
   intro acc ρ hm h hq;have step:=hs x ρ (fun ρ' o=>match o with | some z=>qa1t g tt te Q r ρ' (acc ++ [z]) | none=>qa1t g tt te Q r ρ' acc) (hm x mem_cons_self) h fun ρ' h'=>?_
   ·exact step
   ·cases e:fm x with
    | none =>
     refine ih acc ρ' (fun y hy=>hm y (mem_cons_of_mem _ hy)) h' fun ρ2 h2=>?_;have:=hq ρ2 h2
     rwa [List.filterMap_cons_none e] at this
    | some z =>
     refine ih (acc ++ [z]) ρ' (fun y hy=>hm y (mem_cons_of_mem _ hy)) h' fun ρ2 h2=>?_;have:=hq ρ2 h2;rw [List.filterMap_cons_some e] at this;simpa using this
 exact key xs [] ρ (fun _ h=>h) h0 fun ρ h=>by simpa using hd ρ h
def qa1n{c A B:Prop}[Decidable c](h1:c->A)(h2:¬ c->B):if decide c=true then A else B:=by
 by_cases h:c
 ·rw [if_pos (decide_eq_true h)];exact h1 h
 ·rw [if_neg (by simpa using h)];exact h2 h
def ite_b{b:Bool}{A B:Prop}(h1:b=true->A)(h2:b=false->B):if b=true then A else B:=by
 cases b
 ·rw [if_neg Bool.false_ne_true];exact h2 rfl
 ·rw [if_pos rfl];exact h1 rfl
end L2
namespace L2
end L2
end
section
namespace L2
open PySem PySem.Spec PyProof.Rows
abbrev TDO:=Rho->(Option Int->Rho->Prop)->Prop
section
variable{K:W.Frag}{c:Rc}{O:Own}{ρ:Rho}{σ:St}{H H':Hp}{S S':Addr->Prop}
def AdO(K:W.Frag)(t:TO)(dt:TDO):Prop:=∀ (c:Rc) (O:Own) (ρ:Rho) (σ:St) (H:Hp) (Qd:Option Int->Rho->Prop) (Q:Option Int->Hp->Prop),Rel K c O ρ σ H->dt ρ Qd ->
 (∀ o ρ' O' H',Qd o ρ'->Rel K c O' ρ' σ H'->Pers K (live c O) H (live c O') H'->Q o H')->t σ H Q
noncomputable def qb8d:TDO:=fun ρ Q=>Q none ρ
def qb8e(de:TDE):TDO:=fun ρ Q=>de ρ fun x ρ1=>need (qa0m ρ1 x) fun d=>need (asI d) fun i=>Q (some i) ρ1
def ao_none:AdO K qc1k qb8d:=fun c O ρ σ H Qd Q R h k=>k _ _ _ _ h R .refl
def ao_some{t:TE}{de:TDE}(h:AdE K t de):AdO K (tPart t) (qb8e de):=fun c O ρ σ H Qd Q R q k =>
 h c O ρ σ H _ _ R q fun x ρ1 O1 v H1 h1 R1 P1 a1=>by
  obtain⟨d,e1,hn6⟩:=ne (h1);obtain⟨i,e2,h2⟩:=ne (hn6);exact⟨i,qb7v (R1.top a1 e1) e2,k _ _ _ _ h2 R1 P1⟩
noncomputable def cutD(xs:List PyData)(lo hi:Option Int):List PyData:=(xs.drop (HT.sIx xs.length 0 lo)).take (HT.sIx xs.length xs.length hi - HT.sIx xs.length 0 lo)
def qa0c.cut{ds:List PyData}{vs:List V}(h:qa0c K H S ds vs)(lo hi:Option Int):qa0c K H S (cutD ds lo hi) (cutV vs lo hi):=by
 unfold cutD cutV;rw [h.length];exact(h.drop _).take _
abbrev FSl:=PyData->Option Int->Option Int->Option PyData
def dSl(f:FSl)(de:TDE)(dl dh:TDO):TDE:=fun ρ Q=>de ρ fun x ρ1=>dl ρ1 fun lo ρ2=>dh ρ2 fun hi ρ3=>need (qa0m ρ3 x) fun d=>need (f d lo hi) fun z=>Q (.d z) ρ3
def AdSl(K:W.Frag)(r:V->Option Int->Option Int->Hp->VK->Prop)(f:FSl):Prop:=∀ (S:Addr->Prop) (H:Hp) (x:V) (d z:PyData) (lo hi:Option Int) (Q:VK),Frs S H->AtT K H S d x->f d lo hi=some z->(∀ v H',Same H H'->AtD K H' S z v->Q v H')->r x lo hi H Q
def ad_sl{r:V->Option Int->Option Int->Hp->VK->Prop}{f:FSl}{te:TE}{tl th:TO}{de:TDE}{dl dh:TDO}(hr:AdSl K r f)(he:AdE K te de)(hl:AdO K tl dl)(hh:AdO K th dh):AdE K (tSl r te tl th) (dSl f de dl dh):=by
 intro c O ρ σ H Qd Q R h k;refine he c O ρ σ H _ _ R h fun x ρ1 O1 v H1 h1 R1 P1 a1=>?_;refine hl c O1 ρ1 σ H1 _ _ R1 h1 fun lo ρ2 O2 H2 h2 R2 P2=>?_;refine hh c O2 ρ2 σ H2 _ _ R2 h2 fun hi ρ3 O3 H3 h3 R3 P3=>?_;obtain⟨d,e1,hn5⟩:=ne (h3);obtain⟨z,e2,h4⟩:=ne (hn5);refine hr (live c O3) H3 v d z lo hi Q R3.frsLive (R3.top ((a1.pers P2).pers P3) e1) e2 fun w H4 s4 a4=>?_;exact k _ _ _ _ _ h4 (R3.grow s4) (((P1.trans P2).trans P3).trans (.same s4)) a4
noncomputable def fSlT:FSl
 | .tuple xs,lo,hi=>if HT.sIx xs.length 0 lo=0/\HT.sIx xs.length xs.length hi=xs.length then none else some (.tuple (cutD xs lo hi))
 | _,_,_=>none
def qa5k:AdSl K (rSlT K) fSlT:=by
 intro S H x d z lo hi Q f hx e k;unfold fSlT at e;split at e
 ·split at e
  ·cases e
  ·rename_i hn
   cases e
   obtain⟨a,vs,rfl,h1,h2⟩:=hx.tup;exact⟨a,vs,rfl,h1,by rw [h2.length];exact hn,fun p hp=>k _ _ (qa0v hp _) (qa8f hp (h2.cut lo hi))⟩
 ·cases e
noncomputable def fTab(tab:List 'j'):PyData->Option PyData
 | .str x=>tab.lookup x
 | _=>none
def dTab(tab:List 'j')(de:TDE):TDE:=fun ρ Q=>de ρ fun x ρ1=>need (qa0m ρ1 x) fun d=>need (fTab tab d) fun z=>Q (.d z) ρ1
noncomputable def qa2q:List PyData->Option 'h'
 | []=>some []
 | .int i :: r=>(qa2q r).map (i :: ·)
 | _ :: _=>none
def ints_map:∀ {ds:List PyData} {ns:List Int},qa2q ds=some ns->ds=ns.map .int
 | [],ns,h=>by cases h;rfl
 | d :: r,ns,h=>by
  cases d with
  | int i =>
   have h':(qa2q r).map (i :: ·)=some ns:=h;cases q:qa2q r with
   | none=>rw [q] at h';cases h'
   | some ms=>rw [q] at h';cases h';rw [ints_map q];rfl
  | _=>cases h
def ints_of(ns:List Int):qa2q (ns.map .int)=some ns:=by
 induction ns with
 | nil=>rfl
 | cons n r ih=>show(qa2q (r.map .int)).map (n :: ·)=_;rw [ih];rfl
def diRev(de:TDE):TDI:=fun ρ Q=>de ρ fun x ρ1=>need (qa0m ρ1 x) fun d=>need (asT d) fun xs=>Q xs.reverse ρ1
 where asT:PyData->Option (List PyData)
  | .tuple xs=>some xs
  | _=>none
noncomputable def downD(hi:Int)(n:Nat):List PyData:=(List.range n).map fun i=>.int (hi - (i:Nat))
def sm60(i:Int):Prop:=-(2 ^ 60) <= i/\i < 2 ^ 60
def diDown(da:TDA):TDI:=fun ρ Q=>da ρ fun xs ρ1=>need (qa1o ρ1 xs) fun ds=>need (three ds) fun p=>(sm60 p.1/\sm60 p.2)/\Q (downD p.1 (p.1 - p.2).toNat) ρ1
 where three:List PyData->Option (Int × Int)
  | [.int i,.int j,.int (-1)]=>some (i,j)
  | _=>none
def atV_int{i:Int}:AtV K S σ H (.d (.int i)) (.int i):=(qa2k i:AtD K H S (.int i) (.int i))
def dNeg(de:TDE):TDE:=fun ρ Q=>de ρ fun x ρ1=>need (qa0m ρ1 x) fun d=>need (asI d) fun i=>Q (.d (.int (-i))) ρ1
def ad_neg{t:TE}{de:TDE}(h:AdE K t de):AdE K (tUn (rU fun i=>.int (-i)) t) (dNeg de):=fun c O ρ σ H Qd Q R q k =>
 h c O ρ σ H _ _ R q fun x ρ1 O1 v H1 h1 R1 P1 a1=>by
  obtain⟨d,e1,hn1⟩:=ne (h1);obtain⟨i,e2,h2⟩:=ne (hn1);exact⟨i,qb7v (R1.top a1 e1) e2,k _ _ _ _ _ h2 R1 P1 atV_int⟩
end
section
variable{X:Cx}{e a b:Expr}{de da db:TDE}{lo hi:Option Expr}{dl dh:TDO}{tg:Expr}{pos p2:Pos}
def DO(X:Cx)(e:Option Expr)(dt:TDO):Prop:=∃ t,PO X e t/\AdO X.K t dt
def qa4h:DO X none qb8d:=⟨_,po_none,ao_none⟩
def qa4i(h:DE X e de):DO X (some e) (qb8e de):=by obtain⟨_,p,a⟩:=h;exact⟨_,po_some p,ao_some a⟩
def qa3n{r:V->Option Int->Option Int->Hp->VK->Prop}{f:FSl}(hr:SlR X r)(ha:AdSl X.K r f)(he:DE X e de)(hl:DO X lo dl)(hu:DO X hi dh):DE X (.Subscript e (.Slice lo hi none p2) pos) (dSl f de dl dh):=
 by obtain⟨_,p,a⟩:=he;obtain⟨_,p',a'⟩:=hl;obtain⟨_,p3,a3⟩:=hu;exact⟨_,qc7x hr p p' p3,ad_sl ha a a' a3⟩
def qb8f(h:DE X a da):DE X (.UnaryOp .USub a pos) (dNeg da):=by obtain⟨_,p,a⟩:=h;exact⟨_,pe_un un_neg p,ad_neg a⟩
end
section
variable{ρ:Rho}{de:TDE}{daa:TDA}{dl dh:TDO}{f:FSl}{tab:List 'j'}{Q:DV->Rho->Prop}{QF:List PyData->Rho->Prop}{QO:Option Int->Rho->Prop}{xs:List PyData}{x:Str}{i j:Int}
theorem dSl_a:dSl f de dl dh ρ Q=de ρ fun x ρ1=>dl ρ1 fun lo ρ2=>dh ρ2 fun hi ρ3=>need (qa0m ρ3 x) fun d=>need (f d lo hi) fun z=>Q (.d z) ρ3:=rfl
theorem qc9p:qb8d ρ QO=QO none ρ:=rfl
theorem qc9q:qb8e de ρ QO=de ρ fun x ρ1=>need (qa0m ρ1 x) fun d=>need (asI d) fun i=>QO (some i) ρ1:=rfl
theorem dTab_a:dTab tab de ρ Q=de ρ fun x ρ1=>need (qa0m ρ1 x) fun d=>need (fTab tab d) fun z=>Q (.d z) ρ1:=rfl
theorem fTab_s:fTab tab (.str x)=tab.lookup x:=rfl
theorem diRev_a:diRev de ρ QF=de ρ fun x ρ1=>need (qa0m ρ1 x) fun d=>need (diRev.asT d) fun xs=>QF xs.reverse ρ1:=rfl
theorem asT_t:diRev.asT (.tuple xs)=some xs:=rfl
theorem three_a:diDown.three [.int i,.int j,.int (-1)]=some (i,j):=rfl
theorem dNeg_a:dNeg de ρ Q=de ρ fun x ρ1=>need (qa0m ρ1 x) fun d=>need (asI d) fun i=>Q (.d (.int (-i))) ρ1:=rfl
end
end L2
namespace L2
open PySem
end L2
end
section
namespace L2
open PySem PySem.Spec PyProof.Rows
section
variable{α:Type}{a b c d e:α}{l:List α}{x y:Str}{i j:Int}{r:List PyData}
def atI_0:atI (a :: l) 0=some a:=qa7v (j:=0) rfl
def atI_1:atI (a :: b :: l) 1=some b:=qa7v (j:=1) rfl
def atI_2:atI (a :: b :: c :: l) 2=some c:=qa7v (j:=2) rfl
def atI_3:atI (a :: b :: c :: d :: l) 3=some d:=qa7v (j:=3) rfl
def atI_4:atI (a :: b :: c :: d :: e :: l) 4=some e:=qa7v (j:=4) rfl
theorem flatD_s:qa1g (.str x)=true:=rfl
theorem flatD_i:qa1g (.int i)=true:=rfl
theorem inF_nil{z:PyData}:inF z []=false:=rfl
def inF_s:inF (.str x) (.str y :: r)=(decide (y=x) || inF (.str x) r):=by
 show((y == x) || inF (.str x) r)=_;congr 1
def inF_i:inF (.int i) (.int j :: r)=(decide (j=i) || inF (.int i) r):=by
 show((j == i) || inF (.int i) r)=_;congr 1
end
end L2
namespace L2
open PySem PySem.Spec PyProof.Rows
def spLaw(K:W.Frag):Sp:=fun vs H Q _=>∃ (a:Addr) (ns:List Int),vs=[.ref a]/\SqL K H a (ns.map V.int)/\Only H/\ns.length <= 63/\∀ H',Q (.bl true) H'
section
variable{P:Program}{w:World}{K:W.Frag}{mg:Str->Option Value}{base:Heap}
def rel_law{H:Hp}{a p:Addr}{ns:List Int}{n:Nat}(hO:Only H)(hS:SqL K H a (ns.map V.int))(hl:ns.length <= 63)(hp:H p=none) :
  Rel K { H0:=upd H p (.lst [.ref a,.int 0]),S:=fun b=>b ≠ p,P:=fun _=>False,M:=fun b=>b=p,A:=fun b=>b=p ∨ upd H p (.lst [.ref a,.int 0]) b=none,B:=fun b=>b=p,lent:=fun i=>if i=1 then some p else none,sa:=a,ns:=ns }
   (fun i=>if i=1 then some p else none) (some .scr :: some (.tape 0) :: List.replicate n none) (some (.ref a) :: some (.ref p) :: List.replicate n none) (upd H p (.lst [.ref a,.int 0])):=by
 have at_:∀ {i:Nat} {l:L},(some L.scr :: some (L.tape 0) :: List.replicate n none:Rho)[i]? = some (some l)->(i=0/\l=.scr) ∨ (i=1/\l=.tape 0):=fun{i l} e=>by
  match i,e with
  | 0,e=>cases e;exact .inl ⟨rfl,rfl⟩
  | 1,e=>cases e;exact .inr ⟨rfl,rfl⟩
  | i + 2,e =>
   rw [List.getElem?_cons_succ,List.getElem?_cons_succ,List.getElem?_replicate] at e;split at e<;>cases e
 have own:∀ {i:Nat} {q:Addr},(if i=1 then some p else none)=some q->i=1/\q=p:=fun{i q} e=>by
  split at e
  ·cases e;exact⟨by assumption,rfl⟩
  ·cases e
 have sc:Scr K H a (ns.map V.int):=by
  refine⟨by simpa using hl,?_⟩;rcases hS with(h | h) | h
  ·rcases hO a with z | ⟨o,xs,z⟩<;>rw [h] at z<;>cases z
  ·exact .inl h
  ·exact .inr h
 refine⟨fun i x e=>?_,fun i x e=>?_,fun i x e=>?_,fun i k e=>?_,fun i e=>?_,fun i j q e1 e2=>?_,fun i q e=>?_,fun q h=>?_,fun q h=>?_,fun b o _ h=>h,fun b h=>h,fun q h=>?_,fun q h=>?_,fun i q e l h1 h2=>e,sc.keep (S:=Any) (qa0v hp _).keep,by simp⟩
 ·rcases at_ e with⟨_,z⟩ | ⟨_,z⟩<;>cases z
 ·rcases at_ e with⟨_,z⟩ | ⟨_,z⟩<;>cases z
 ·rcases at_ e with⟨_,z⟩ | ⟨_,z⟩<;>cases z
 ·rcases at_ e with⟨_,z⟩ | ⟨rfl,z⟩
  ·cases z
  ·cases z;exact⟨p,if_pos rfl,rfl,qa0h⟩
 ·rcases at_ e with⟨rfl,_⟩ | ⟨_,z⟩
  ·rfl
  ·cases z
 ·rw [(own e1).1,(own e2).1]
 ·rw [(own e).2];exact⟨.inl rfl,_,qa0h⟩
 ·rcases h with h | h
  ·exact .inl h
  ·exact .inr h
 ·rintro rfl
  have h':upd H q (.lst [.ref a,.int 0]) q=none:=h;rw [qa0h] at h';cases h'
 ·have h':q=p:=h
  subst h';exact⟨_,qa0h⟩
 ·rcases h with h | h
  ·exact h.elim
  ·have h':q=p:=h
   subst h';rw [qa0h];exact fun z=>nomatch z
def Fun.law{st:Stmt}{f:Addr}{fd:FuncData}{N':List Str}{k:Nat} (F:Fun K "law" "law" st f fd) (S:FnScope ("_law_script" :: "_law_tape" :: N') ["_law_script"] (qa0k st))
  (hbody:∀ (cdv:Value) (A:Around) (outer:List Env) (s:Shared) (H:Hp) (E:XK),Room k (A.deeper (envOfC "law" (qa0k st) s.heap.objs.size f cdv)) ->
   ∃ (st0:Stmt) (rest:List Stmt),qa2z st=st0 :: rest/\PS (cxOf CX0 P w K mg base ("_law_script" :: "_law_tape" :: N') "law" (qa0k st) f cdv A outer s H E).nox st0 (tAsg (tLst (qa3w (tVar 0) (qa3w (tC (.int 0)) tNil))) (qa3b 1)) /\
    ∃ dt,DSs (cxOf CX0 P w K mg base ("_law_script" :: "_law_tape" :: N') "law" (qa0k st) f cdv A outer s H E).nox rest dt/\dt { nx:=fun _=>False,rt:=fun r _=>r=.d (.bool true) } (some .scr :: some (.tape 0) :: List.replicate N'.length none)) :
  FnOk P w K mg base CX0 (k + 1) f fd ["_law_script"] (spLaw K):=by
 refine F.ok S (fun vs H Q E h=>?_) (fun cdv A outer s H vs Q E hr h=>?_)
 ·obtain⟨a,ns,rfl,_⟩:=h;rfl
 obtain⟨a,ns,rfl,hS,hO,hl,q⟩:=h;obtain⟨st0,rest,eb,p0,dt,⟨t,pt,at_⟩,hd⟩:=hbody cdv A outer s H E hr;rw [eb];refine⟨_,qa1k p0 pt,⟨.ref a,rfl,by show 2 <= sizeLine;decide,fun p hp=>?_⟩⟩;have e:(start ("_law_script" :: "_law_tape" :: N') [.ref a]).set 1 (some (.ref p))=some (.ref a) :: some (.ref p) :: List.replicate N'.length none:=by
  unfold start;simp [replicate_succ]
 show t _ ((start ("_law_script" :: "_law_tape" :: N') [.ref a]).set 1 (some (.ref p))) (upd H p (.lst [.ref a,.int 0]));rw [e];refine at_ _ _ _ _ _ _ _ (rel_law hO hS hl hp) ⟨fun _ _ _ _ _ _ z=>(show False from z).elim,fun r O1 ρ1 σ1 H1 v h z=>?_,fun _ _ _ _ _ _ z=>(show False from z).elim,fun _ _ _ _ _ _ z=>(show False from z).elim,fun _ z=>z,fun _ z=>.inr z⟩ hd;have z':r=.d (.bool true):=z;subst z';have ev:=qa5z h.2;subst ev;exact q H1
end
end L2
end
namespace L2
open PySem PySem.Spec PyProof.Rows
section
def ItX(b:Bool)(h:Heap)(it a:Addr)(k:Nat):Prop:=match b with | true=>h.IsListIter it a k | false=>h.IsTupleIter it a k
def SqX(b:Bool)(h:Heap)(a:Addr)(xs:Array Value):Prop:=match b with | true=>h.IsList a xs | false=>h.IsTuple a xs
section
variable{prog:Program}{w:World}{A:Around}{E:Value->Shared->Prop}{s:Shared}
def qc9r{it t:Addr}{i:Nat}{items:Array Value}{x:Value}{Q:Value->Shared->Prop}(hit:s.heap.IsTupleIter it t i)(ht:s.heap.IsTuple t items)(hx:items[i]? = some x)
  (hQ:∀ h',h'.IsTupleIter it t (i + 1)->Heap.SameBut it s.heap h'->Q x { s with heap:=h' }):wpAny (model prog w) A (Builtin.SmallTypes.nextOf (.ref it)) Q E s:=by
 obtain⟨oi,gi,ci,di⟩:=id hit;obtain⟨ot,gt,_,nt,dt⟩:=ht;unfold Builtin.SmallTypes.nextOf;refine wpAny_bind (wpAny_callSpecial?_slot (name:=Str.ofString "__next__") hit.typeIs F.slot_tuple_iterator_next (wpAny_call_entry F.slot_tuple_iterator_next hit.typeIs F.entry_tuple_iterator_next ?_ (F.args_tuple_iterator_next_1 _)));refine wpAny_bind (m:=field (.ref it) 0) (wpAny_field gi di (x:=.ref t) rfl ?_);show wpAny (model prog w) _ (if (Value.ref t == Value.none)=true then _ else _) _ E s;rw [if_neg (show ¬ ((Value.ref t == Value.none)=true) from nofun)];refine wpAny_bind (m:=field (.ref it) 1) (wpAny_field gi di (x:=.int i 0) rfl (wpAny_bind (m:=seqItems? (.ref t)) (wpAny_seqItems gt dt ?_)));simp only [hx,toNat_natCast];exact wpAny_bind (wpAny_setField gi di 'g' (wpAny_pure ⟨x,rfl,wpAny_pure (hQ _ ⟨_,get?_update_self _ gi (Obj.isFreed_of_fields (Obj.data_mapFields di _)),(Obj.cls_mapFields ..).trans ci,by rw [Obj.data_mapFields di];simp [rawInt]⟩ (Heap.SameBut.update ..))⟩))
def nxT_end{it t:Addr}{i:Nat}{items:Array Value}{Q:Value->Shared->Prop}(hh:A.handled=none)(hit:s.heap.IsTupleIter it t i)(ht:s.heap.IsTuple t items)(hx:items[i]? = none)
  (hE:∀ h' e,Heap.ExtBut it s.heap h'->(∃ o,h'.get? e=some o/\o.cls=.type "StopIteration")->E (.ref e) { s with heap:=h' }):wpAny (model prog w) A (Builtin.SmallTypes.nextOf (.ref it)) Q E s:=by
 obtain⟨oi,gi,ci,di⟩:=id hit;obtain⟨ot,gt,_,nt,dt⟩:=ht;unfold Builtin.SmallTypes.nextOf;refine wpAny_bind (wpAny_callSpecial?_slot (name:=Str.ofString "__next__") hit.typeIs F.slot_tuple_iterator_next (wpAny_call_entry F.slot_tuple_iterator_next hit.typeIs F.entry_tuple_iterator_next ?_ (F.args_tuple_iterator_next_1 _)));refine wpAny_bind (m:=field (.ref it) 0) (wpAny_field gi di (x:=.ref t) rfl ?_);show wpAny (model prog w) _ (if (Value.ref t == Value.none)=true then _ else _) _ E s;rw [if_neg (show ¬ ((Value.ref t == Value.none)=true) from nofun)];refine wpAny_bind (m:=field (.ref it) 1) (wpAny_field gi di (x:=.int i 0) rfl (wpAny_bind (m:=seqItems? (.ref t)) (wpAny_seqItems gt dt ?_)));simp only [hx,toNat_natCast];refine wpAny_bind (wpAny_rule (wpAny_bind (wpAny_setField gi di 'g' (wpAny_bind (m:=newExc (.type "StopIteration") []) ?_))));simp only [newTuple,newExc];refine wpAny_bind (wpAny_newObj_type (wpAny_bind (m:=firstArgMember _ _) (wpAny_of_eq (a:=Value.none) (by first | rfl | (simp only [firstArgMember];rfl)) (wpAny_newObj_type ?_ (by size_fits)))) (by size_fits));simp only [raiseNew];refine wpAny_bind (wpAny_handled ?_);rw [show A.in1.handled=none from hh];exact wpAny_bind (wpAny_pure (wpAny_throw (hE _ _ (((Heap.SameBut.update ..).extBut.push _).push _) ⟨_,get?_push_size _ rfl,rfl⟩)))
end
section
variable{X:Cx}{pins:List 'c'}{σ:List (Option V)}{H H':Hp}{s:Shared}{h':Heap}
def Inv.turnedL{t':Nat}{ch:List Addr}(I:Inv X pins σ H s)(k:∀ b o,b ∉ ch->s.heap.get? b=some o->h'.get? b=some o)(hf:∀ b ∈ ch,FpOk X pins H b):Inv X pins σ H { s with heap:=h',toks:=t' }:=by
 have nit:∀ b u,H b=some u->b ∉ ch:=fun b u e z=>by have:=(hf b z).1;rw [e] at this;cases this
 have nl:X.env.locals ∉ ch:=fun z=>(hf _ z).2.1 rfl;refine I.step (g':=s.gens) (d':=s.drawn) (ch:=ch) (fun b hb=>⟨(hf b hb).2.2.2.1,(hf b hb).2.1,(hf b hb).2.2.2.2.1,(hf b hb).2.2.2.2.2⟩) (fun b o _ _ hc e _=>k b o hc e) (fun b o _ _ hc e _=>⟨o.slots,k b o hc e⟩) (fun _ _ _ _ n=>n)
  (fun b o hc e=>⟨o,k b o hc e⟩) (fun _ _ e=>e) (fun _ _ _ e=>e) (fun b ps e=>⟨#[],by rw [e];simp⟩) (fun m hm=>?_) (fun b u e=>?_) I.bare
 ·obtain⟨o,es,ep,ho,r⟩:=hm
  exact⟨o,es,ep,k _ o nl ho,r⟩
 ·refine(I.hok b u e).stay (fun c v hc q=>k c v ?_ q) (fun _ q=>q) fun _ _ q=>q
  rcases hc with z | z
  ·rw [z];exact nit b u e
  ·exact nit c _ z
def SqB(b:Bool)(K:W.Frag)(H:Hp)(a:Addr)(xs:List V):Prop:=match b with | true=>SqL K H a xs | false=>SqT K H a xs
end
def ZSt(b:Bool)(z TI TO i1 i2 a1 a2:Addr)(i:Nat)(h:Heap):Prop:=IsZip h z TI TO .none/\IsPair h TI (.ref i1) (.ref i2)/\(∃ p q,IsPair h TO p q)/\ItX b h i1 a1 i/\ItX b h i2 a2 i
end
section
section
variable{K:W.Frag}{S:Addr->Prop}{H:Hp}
def SqS(b:Bool)(K:W.Frag)(S:Addr->Prop)(H:Hp)(a:Addr)(vs:List V):Prop:=match b with | true=>S a/\H a=some (.lst vs) | false=>SqT K H a vs
end
end
section
section
variable{K:W.Frag}
def dIs2(T U:String)(de:TDE):TDE:=fun ρ Q=>de ρ fun x ρ1=>need (qa0m ρ1 x) fun d=>Q (.d (.bool (isD T d || isD U d))) ρ1
end
theorem dIs2_a{T U:String}{de:TDE}{ρ:Rho}{Q:DV->Rho->Prop}:dIs2 T U de ρ Q=de ρ fun x ρ1=>need (qa0m ρ1 x) fun d=>Q (.d (.bool (isD T d || isD U d))) ρ1:=rfl
end
section
section
variable{K:W.Frag}{c:Rc}{O:Own}{ρ:Rho}{σ:St}{H H':Hp}
def qa0c.same{S:Addr->Prop}{ds:List PyData}{vs:List V}(e:Same H H')(h:qa0c K H S ds vs):qa0c K H' S ds vs:=qa0c.mono e.keep ds vs h
end
end
section
def qb1d:bootBuiltins "enumerate" = some (.type "enumerate"):=by decide +kernel
noncomputable def Ite(K:W.Frag)(a:Addr):It:=
 ⟨fun i H=>∃ xs x,SqL K H a xs/\xs[i]? = some x,fun i H v H'=>∃ T x,v=.ref T/\H T=none/\H'=upd H T (.tup [.int i,x])/\∀ xs,SqL K H a xs->xs[i]? = some x,fun i H=>∃ xs,SqL K H a xs/\xs.length <= i⟩
def ESt(e it a:Addr)(i:Nat)(h:Heap):Prop:=(∃ old,IsEnum h e it i old)/\h.IsListIter it a i
def qc6h{P:Program}{w:World}{K:W.Frag}{elts:List Expr}{kk:Nat}{tp:Pos}{e it a:Addr}(ne:e ≠ it):Turn P w K (.Tuple elts kk tp) (Ite K a) [e,it] e (ESt e it a) where
 mem:=by simp
 obj:=fun i h st c hc=>by
  obtain⟨⟨old,x1⟩,x2⟩:=st;have hc:c=e ∨ c=it:=by simpa using hc
  rcases hc with rfl | rfl
  ·exact⟨_,x1,fun v y=>by cases (show Data.fields _=Data.cell v from y)⟩
  ·obtain⟨o,g,_,d⟩:=x2
   exact⟨o,g,fun v y=>by rw [d] at y;cases y⟩
 keep:=fun i h h' st k=>by
  obtain⟨⟨old,x1⟩,x2⟩:=st;exact⟨⟨old,k e 'g' _ x1⟩,x2.at fun o g=>k it 'g' o g⟩
 item:=by
  intro X hP hw hK hc i pins s σ H E I hf st hg;subst hP hw hK;obtain⟨xs,x,hq,hx⟩:=hg;obtain⟨⟨old,x1⟩,x2⟩:=id st;obtain⟨its,rv,p,_⟩:=I.list hq;obtain⟨u,hu,ru⟩:=rv.get hx;have lt:∀ c ∈ [e,it],c < s.heap.objs.size:=fun c hc=>by
   have hc:c=e ∨ c=it:=by simpa using hc
   rcases hc with rfl | rfl
   ·exact lt_size x1
   ·obtain⟨o,g,_⟩:=x2;exact lt_size g
  refine wpAny_pyNext_enum_item x1 x2 p.isList (x:=u) (by simpa using hu) ne fun h1 j1 j2 j3 j4 j5=>⟨_,rfl,wpAny_letOwnedTupleGo_enum j1 fun h2 e2 s2=>?_⟩;have up:∀ c o,c ≠ e->h1.get? c=some o->h2.get? c=some o:=fun c o d g=>s2.extBut _ _ d g;have I1:Inv X pins σ (upd H s.heap.objs.size (.tup [.int i,x])) { s with heap:=s.heap.push { cls:=.type "tuple",data:=.seq [Value.int i s.toks,u].toArray } }:=
   I.laid (t':=s.toks) (fun b o e=>get?_push_of_some _ e) 'e' (show qa1j X.prog X.w _ _ _ (.tup [.int i,x]) from⟨by show 2 <= sizeLine;decide,[Value.int i s.toks,u],.cons ⟨_,rfl⟩ (.cons ru .nil),qa3y.new _ _⟩)
  have fpn:∀ c ∈ [e,it],(upd H s.heap.objs.size (.tup [.int i,x])) c=none:=fun c hc=>by rw [qa0f (ne_of_lt (lt c hc))];exact(hf c hc).1
  have I2:Inv X pins σ (upd H s.heap.objs.size (.tup [.int i,x])) { s with heap:=h2,toks:=s.toks + 1 }:=by
   refine Inv.turnedL (s:={ s with heap:=s.heap.push { cls:=.type "tuple",data:=.seq [Value.int i s.toks,u].toArray } }) (t':=s.toks + 1) (ch:=[e,it]) I1 (fun c o hc g=>?_) fun c hc=>⟨fpn c hc,(hf c hc).2⟩;have g:(s.heap.push { cls:=.type "tuple",data:=.seq [Value.int i s.toks,u].toArray }).get? c=some o:=g;have hc:c ≠ e/\c ≠ it:=by simpa using hc
   refine up c o hc.1 ?_;rcases Heap.get?_push_cases g with⟨rfl,rfl⟩ | g'
   ·exact j3
   ·exact j5 c o hc.1 hc.2 g'
  exact⟨.ref s.heap.objs.size,_,I2,rfl,⟨_,x,rfl,I.hok.fresh 'e',rfl,fun zs hz=>by rw [I.list_inj hz hq];exact hx⟩,⟨⟨_,by simpa using e2⟩,j2.at fun o g=>up _ _ (Ne.symm ne) g⟩,fpn⟩
 done:=by
  intro X hP hw hK hc i pins s σ H E I hf st hg;subst hP hw hK;obtain⟨xs,hq,hx⟩:=hg;obtain⟨⟨old,x1⟩,x2⟩:=id st;obtain⟨its,rv,p,_⟩:=I.list hq;have hl:=rv.length;refine wpAny_pyNext_enum_end (I.ok.hd hc) x1 x2 p.isList (by simp;omega) fun h1 j=>⟨rfl,?_⟩;exact I.turnedL (t':=s.toks) (ch:=[e,it]) (fun c o hc g=>j c o (fun z=>hc (by simp [z])) g) hf
 self:=fun _ _ _ _ _ st h=>by obtain⟨⟨old,x1⟩,_⟩:=st;exact wpAny_pyIter_enum x1 h
section
variable{X:Cx}
def iEnum(K:W.Frag)(ta:TE):TI:=fun σ H R=>ta σ H fun x H1=>∃ a xs,x=.ref a/\SqL K H1 a xs/\R (Ite K a) H1
def pi_enum{l:Expr}{tl:TE}{p pos tp:Pos}{elts:List Expr}{kk:Nat} (hg:Gl X "enumerate") (hm:X.mg "enumerate" = none) (hl:PE X l tl) (hs:starEach [l] X.env=[(false,eval l X.env)]:=by rfl) :
  PI X (.Tuple elts kk tp) (.Call (.Name "enumerate" p) [l] [] pos) (iEnum X.K tl):=by
 intro pins s σ H R I h;refine Call_ (qa6v I hg hm qb1d (PyProof.Rows.callWith_type1 (thn ((qa0s (t:=tNil) hl qa1s hs) pos pins s σ H (fun vs H1=>∃ a xs,vs=[.ref a]/\SqL X.K H1 a xs/\R (Ite X.K a) H1) I ?_) fun us s1 ⟨vs,H1,I1,r1,q1⟩=>?_) hs rfl))
 ·show tl σ H fun x H1=>∃ a xs,[x]=[V.ref a]/\SqL X.K H1 a xs/\R (Ite X.K a) H1
  simpa [iEnum] using h
 ·obtain⟨a,xs,rfl,hq,q⟩:=q1
  obtain⟨u,rfl,ru⟩:=r1.one;cases ru;obtain⟨its,rv,pl,hz⟩:=I1.list hq;refine call_enumerate_list pl.isList fun h' j1 j2 j3 j4=>wpAny_pyIter_enum j1 ⟨s1.heap.objs.size + 1,[s1.heap.objs.size + 1,s1.heap.objs.size],_,_,H1,rfl,I1.kept (t':=s1.toks) j4,qc6h (Nat.succ_ne_self _),⟨⟨_,j1⟩,j2⟩,fun c hc=>?_,q⟩;have hc:c=s1.heap.objs.size + 1 ∨ c=s1.heap.objs.size:=by simpa using hc
  have ge:s1.heap.objs.size <= c:=by rcases hc with rfl | rfl;exact le_succ _;exact le_refl _
  exact I1.fpOk ge (I1.hok.fresh ge)
end
section
variable{K:W.Frag}{S:Addr->Prop}{H:Hp}
noncomputable def qa7k(xs:List PyData):List PyData:=xs.zipIdx.map fun p=>.tuple [.int (p.2:Int),p.1]
def qb1e(xs:List PyData):(qa7k xs).length=xs.length:=by unfold qa7k;rw [length_map,List.length_zipIdx]
def qb6e{xs:List PyData}{i:Nat}:(qa7k xs)[i]? = (xs[i]?).map fun x=>.tuple [.int (i:Int),x]:=by
 unfold qa7k;rw [getElem?_map,List.getElem?_zipIdx];cases xs[i]?<;>simp
def diEnum(de:TDE):TDI:=fun ρ Q=>de ρ fun x ρ1=>fz ρ1 x fun y ρ2=>need (match y with | .list xs=>some xs | _=>none) fun xs=>Q (qa7k xs) ρ2
end
theorem qc9s{de:TDE}{ρ:Rho}{Q:List PyData->Rho->Prop}:diEnum de ρ Q=de ρ fun x ρ1=>fz ρ1 x fun y ρ2=>need (match y with | .list xs=>some xs | _=>none) fun xs=>Q (qa7k xs) ρ2:=rfl
end
section
section
variable{κ:Type}[DecidableEq κ]
noncomputable def valV(kvs:List (κ × V))(k:κ):Option V:=(kvs.find? fun kv=>decide (kv.1=k)).map (·.2)
noncomputable def putK(kvs:List (κ × V))(k:κ)(v:V):List (κ × V):=
 if (kvs.any fun kv=>decide (kv.1=k))=true then kvs.map (fun kv=>if kv.1=k then(kv.1,v) else kv) else kvs ++ [(k,v)]
noncomputable def dropK(kvs:List (κ × V))(k:κ):List (κ × V):=kvs.filter fun kv=>decide (kv.1 ≠ k)
def qa6c{p:κ × V}{r:List (κ × V)}{k:κ}(e:p.1=k):valV (p :: r) k=some p.2:=by simp [valV,find?_cons,e]
def qa6d{p:κ × V}{r:List (κ × V)}{k:κ}(e:¬ p.1=k):valV (p :: r) k=valV r k:=by simp [valV,find?_cons,e]
def qb2u(k:κ):∀ kvs:List (κ × V),(kvs.any fun kv=>decide (kv.1=k))=(valV kvs k).isSome
 | []=>rfl
 | p :: r=>by
  rw [any_cons];by_cases e:p.1=k
  ·simp only [qa6c e,decide_eq_true e,Bool.true_or,Option.isSome_some]
  ·rw [qa6d e,decide_eq_false e,Bool.false_or];exact qb2u k r
def qa9a(kvs:List (κ × V))(k:κ)(v:V):(putK kvs k v).length <= kvs.length + 1:=by
 unfold putK;split
 ·rw [length_map];omega
 ·rw [length_append,length_cons,List.length_nil];omega
def qc9t{kvs:List (κ × V)}{k:κ}(v:V)(h:valV kvs k=none):putK kvs k v=kvs ++ [(k,v)]:=by
 unfold putK;rw [qb2u,h];exact if_neg 'd'
def RelO.isSome_eq{o:Option V}{u:Option Value}(r:RelO o u):o.isSome=u.isSome:=by
 cases o with
 | none=>cases u with
  | none=>rfl
  | some _=>exact(show False from r).elim
 | some _=>cases u with
  | none=>exact(show False from r).elim
  | some _=>rfl
def RelO.getD{o:Option V}{u:Option Value}{d:V}{d':Value}(r:RelO o u)(rd:RelV d d'):RelV (o.getD d) (u.getD d'):=by
 cases o with
 | none=>cases u with
  | none=>exact rd
  | some _=>exact(show False from r).elim
 | some _=>cases u with
  | none=>exact(show False from r).elim
  | some _=>exact r
def KV.val{kvs:List (κ × V)}{vs:List (κ × Value)}(r:KV kvs vs)(k:κ):RelO (valV kvs k) (valueAt vs k):=by
 unfold KV at r;induction r with
 | nil=>exact True.intro
 | @cons p q ps qs h t ih =>
  obtain⟨h1,h2⟩:=h;by_cases e:p.1=k
  ·have e':q.1=k:=h1.symm.trans e
   have b:valueAt (q :: qs) k=some q.2:=by simp [valueAt,find?_cons,e']
   rw [qa6c e,b];exact h2
  ·have e':¬ q.1=k:=fun z=>e (h1.trans z)
   have b:valueAt (q :: qs) k=valueAt qs k:=by simp [valueAt,find?_cons,e']
   rw [qa6d e,b];exact ih
def KV.any{kvs:List (κ × V)}{vs:List (κ × Value)}(r:KV kvs vs)(k:κ):(kvs.any fun kv=>decide (kv.1=k))=vs.any fun kv=>decide (kv.1=k):=by
 unfold KV at r;induction r with
 | nil=>rfl
 | cons h t ih=>rw [any_cons,any_cons,ih,h.1]
def KV.repl{kvs:List (κ × V)}{vs:List (κ × Value)}(r:KV kvs vs)(k:κ){y:V}{u:Value}(ry:RelV y u) :
  KV (kvs.map fun kv=>if kv.1=k then(kv.1,y) else kv) (vs.map fun kv=>if kv.1=k then(kv.1,u) else kv):=by
 unfold KV at r ⊢;induction r with
 | nil=>exact .nil
 | @cons p q ps qs h t ih =>
  rw [map_cons,map_cons];refine .cons ?_ ih;obtain⟨h1,h2⟩:=h;by_cases e:p.1=k
  ·rw [if_pos e,if_pos (h1.symm.trans e)];exact⟨h1,ry⟩
  ·rw [if_neg e,if_neg (fun z=>e (h1.trans z))];exact⟨h1,h2⟩
def KV.put{kvs:List (κ × V)}{vs:List (κ × Value)}(r:KV kvs vs)(k:κ){y:V}{u:Value}(ry:RelV y u):KV (putK kvs k y) (stored vs k u):=by
 unfold putK stored;rw [r.any k];by_cases e:(vs.any fun kv=>decide (kv.1=k))=true
 ·rw [if_pos e,if_pos e];exact r.repl k ry
 ·rw [if_neg e,if_neg e];exact Paired.snoc r ⟨rfl,ry⟩
def KV.length{kvs:List (κ × V)}{vs:List (κ × Value)}(r:KV kvs vs):kvs.length=vs.length:=Paired.length r
end
def qb0g{P:Program}{w:World}{k:Key}{u:Value}(r:RelV (kV k) u):(qa0z P w).is k u=true:=by
 cases k with
 | inl i=>obtain⟨t,e⟩:=(show ∃ t,u=Value.int i t from r);subst e;exact qc0c P w i t
 | inr x=>obtain⟨t,e⟩:=(show ∃ t,u=Value.str x t from r);subst e;exact qb2b P w x t
def qb6f{P:Program}{w:World}:∀ {ks:List Key} {us:List Value},Vals (ks.map kV) us->ItemsAre (qa0z P w) ks us
 | [],_,r=>by rw [map_nil] at r;cases r;exact .nil
 | k :: ks,_,r=>by
  rw [map_cons] at r;cases r with
  | cons h t=>exact .cons (qb0g h) (qb6f t)
abbrev KT(H:Hp):List (List Key × V)->List (List Key × Addr × Value)->Prop:=Paired fun p q=>p.1=q.1/\H q.2.1=some (.tup (p.1.map kV))/\RelV p.2 q.2.2
def KT.val{H:Hp}{kvs:List (List Key × V)}{xs:List (List Key × Addr × Value)}(r:KT H kvs xs)(k:List Key):RelO (valV kvs k) ((atKey xs k).map (·.2)):=by
 induction r with
 | nil=>exact True.intro
 | @cons p q ps qs h t ih =>
  obtain⟨h1,_,h2⟩:=h;by_cases e:p.1=k
  ·have e':q.1=k:=h1.symm.trans e
   have b:atKey (q :: qs) k=some q.2:=by simp [atKey,find?_cons,e']
   rw [qa6c e,b];exact h2
  ·have e':¬ q.1=k:=fun z=>e (h1.trans z)
   have b:atKey (q :: qs) k=atKey qs k:=by simp [atKey,find?_cons,e']
   rw [qa6d e,b];exact ih
def KT.repl{H:Hp}{kvs:List (List Key × V)}{xs:List (List Key × Addr × Value)}(r:KT H kvs xs)(k:List Key){y:V}{u:Value}(ry:RelV y u) :
  KT H (kvs.map fun kv=>if kv.1=k then(kv.1,y) else kv) (xs.map (putAt k u)):=by
 induction r with
 | nil=>exact .nil
 | @cons p q ps qs h t ih =>
  rw [map_cons,map_cons];refine .cons ?_ ih;obtain⟨h1,h2,h3⟩:=h;unfold putAt;by_cases e:p.1=k
  ·rw [if_pos e,if_pos (h1.symm.trans e)];exact⟨h1,h2,ry⟩
  ·rw [if_neg e,if_neg (fun z=>e (h1.trans z))];exact⟨h1,h2,h3⟩
def KT.put{H:Hp}{kvs:List (List Key × V)}{xs:List (List Key × Addr × Value)}(r:KT H kvs xs)(k:List Key){b:Addr}{y:V}{u:Value}(hb:H b=some (.tup (k.map kV)))(ry:RelV y u) :
  KT H (putK kvs k y) (storedH xs k b u):=by
 have e:(kvs.any fun kv=>decide (kv.1=k))=(atKey xs k).isSome:=by
  rw [qb2u,(r.val k).isSome_eq,isSome_map]
 unfold putK storedH;rw [e];by_cases q:(atKey xs k).isSome=true
 ·rw [if_pos q,if_pos q];exact r.repl k ry
 ·rw [if_neg q,if_neg q];exact Paired.snoc r ⟨rfl,hb,ry⟩
def KT.keeps{H H':Hp}{kvs:List (List Key × V)}{xs:List (List Key × Addr × Value)}(r:KT H kvs xs)(ht:∀ b ys,H b=some (.tup ys)->H' b=some (.tup ys)):KT H' kvs xs:=
 Paired.mapP r fun _ _ z=>⟨z.1,ht _ _ z.2.1,z.2.2⟩
section
variable{P:Program}{w:World}{H:Hp}{h:Heap}{a:Addr}
def rd_of{u:HO}(ok:HOk P w H h)(e:Rd H a u):qa1j P w H h a u:=e.ok ok
def dk_rd{kvs:List (Key × V)}(ok:HOk P w H h)(e:Rd H a (.dK kvs)):kvs.length <= sizeLine/\(a == sysModules)=false/\∃ vs,KV kvs vs/\h.DictOf (qa0z P w) a vs:=
 show qa1j P w H h a (.dK kvs) from rd_of ok e
def dk_of{kvs:List (Key × V)}(ok:HOk P w H h)(e:H a=some (.dK kvs)):kvs.length <= sizeLine/\(a == sysModules)=false/\∃ vs,KV kvs vs/\h.DictOf (qa0z P w) a vs:=dk_rd ok (.inl e)
def qb1f{ks:List Key}(ok:HOk P w H h)(e:H a=some (.tup (ks.map kV))):(tupleKind (qa0z P w)).is h ks a:=by
 obtain⟨_,its,r,o,h1,h2,n,h3⟩:=(show qa1j P w H h a (.tup (ks.map kV)) from ok a _ e);exact⟨o,its.toArray,n,h1,h2.1,h3,by simpa using qb6f r⟩
def dt_rd{kvs:List (List Key × V)}(ok:HOk P w H h)(e:Rd H a (.dT kvs)):kvs.length <= sizeLine/\(a == sysModules)=false /\
  ∃ xs,KT H kvs xs/\h.DictOfH (tupleKind (qa0z P w)) a xs:=by
 obtain⟨z,y,xs,r,o,es,ep,h1,h2,h3,h4,h5⟩:=(show qa1j P w H h a (.dT kvs) from rd_of ok e);refine⟨z,y,xs,r,o,es,ep,h1,h2,h3,h4,fun x hx=>?_,h5⟩;have all:∀ {l:List (List Key × V)} {m:List (List Key × Addr × Value)},KT H l m->∀ x ∈ m,(tupleKind (qa0z P w)).is h x.1 x.2.1:=by
  intro l m q;induction q with
  | nil=>intro x hx;exact nomatch hx
  | @cons p q ps qs hq t ih =>
   intro x hx;rcases mem_cons.mp hx with e | hx
   ·subst e
    exact qb1f ok (by rw [← hq.1];exact hq.2.1)
   ·exact ih x hx
 exact all r x hx
def dt_of{kvs:List (List Key × V)}(ok:HOk P w H h)(e:H a=some (.dT kvs)):kvs.length <= sizeLine/\(a == sysModules)=false /\
  ∃ xs,KT H kvs xs/\h.DictOfH (tupleKind (qa0z P w)) a xs:=dt_rd ok (.inl e)
end
def DGet(H:Hp)(a:Addr)(y:V)(r:Option V):Prop:=
 (∃ kvs k,Rd H a (.dK kvs)/\y=kV k/\r=valV kvs k) ∨ ∃ kvs k b,Rd H a (.dT kvs)/\y=.ref b/\H b=some (.tup (k.map kV))/\r=valV kvs k
def DPut(H:Hp)(a:Addr)(y v:V)(H':Hp):Prop:=
 (∃ kvs k,H a=some (.dK kvs)/\y=kV k/\kvs.length < sizeLine/\H'=upd H a (.dK (putK kvs k v))) ∨
 ∃ kvs k b,H a=some (.dT kvs)/\y=.ref b/\H b=some (.tup (k.map kV))/\kvs.length < sizeLine/\H'=upd H a (.dT (putK kvs k v))
def DGet.k{H:Hp}{a:Addr}{kvs:List (Key × V)}{k:Key}(e:H a=some (.dK kvs)):DGet H a (kV k) (valV kvs k):=.inl ⟨kvs,k,.inl e,rfl,rfl⟩
def DPut.k{H:Hp}{a:Addr}{kvs:List (Key × V)}{k:Key}{v:V}(e:H a=some (.dK kvs))(hl:kvs.length < sizeLine):DPut H a (kV k) v (upd H a (.dK (putK kvs k v))):=.inl ⟨kvs,k,e,rfl,hl,rfl⟩
section
variable{X:Cx}{pins:List 'c'}{σ:St}{H:Hp}{s:Shared}{a:Addr}{y v:V}{u r:Value}{o:Option V}{A:Around}{E:Value->Shared->Prop}
def Inv.big(I:Inv X pins σ H s):sysModules < s.heap.objs.size:=by
 have h:mainGlobals < s.heap.objs.size:=(I.mod.glob.keeps I.bk).lt;exact lt_trans 'd' h
def qc6i{Q:Value->Shared->Prop}(hu:A.units + 1 < cLine)(I:Inv X pins σ H s)(g:DGet H a y (some v))(ry:RelV y u)(h:∀ w' s',Inv X pins σ H s'->RelV v w'->Q w' s') :
  wpAny (model X.prog X.w) A (getItem (.ref a) u) Q E s:=by
 rcases g with⟨kvs,k,e,ey,l⟩ | ⟨kvs,k,b,e,ey,eb,l⟩
 ·subst ey
  obtain⟨z,hd,vs,rel,dd⟩:=dk_rd I.hok e;obtain⟨w',hw,rw'⟩:=RelO.some_of (v:=v) (o:=valueAt vs k) (by rw [l];exact rel.val k);exact wpAny_getItem_of (qb0g ry) dd.mapOf hw (h w' _ (I.tok _) rw')
 ·subst ey
  cases (show u=Value.ref b from ry)
  obtain⟨z,hd,xs,rel,dd⟩:=dt_rd I.hok e;obtain⟨w',hw,rw'⟩:=RelO.some_of (v:=v) (o:=(atKey xs k).map (·.2)) (by rw [l];exact rel.val k);obtain⟨p,hp,hp2⟩:=map_eq_some_iff.mp hw;refine wpAny_getItem_heap (tupleKind_room_in1 hu) (qb1f I.hok eb) dd hp ?_;rw [hp2];exact h w' _ (I.tok _) rw'
def d_in{Q:Value->Shared->Prop}(hu:A.units + 1 < cLine)(I:Inv X pins σ H s)(g:DGet H a y o)(ry:RelV y u)(h:∀ s',Inv X pins σ H s'->Q (.bool o.isSome) s') :
  wpAny (model X.prog X.w) A (compareOp .In u (.ref a)) Q E s:=by
 rcases g with⟨kvs,k,e,ey,l⟩ | ⟨kvs,k,b,e,ey,eb,l⟩
 ·subst ey
  obtain⟨z,hd,vs,rel,dd⟩:=dk_rd I.hok e;refine wpAny_in_of (qb0g ry) hd dd.mapOf ?_;rw [← (rel.val k).isSome_eq,← l];exact h _ (I.tok _)
 ·subst ey
  cases (show u=Value.ref b from ry)
  obtain⟨z,hd,xs,rel,dd⟩:=dt_rd I.hok e;refine wpAny_in_heap (tupleKind_room_in1 hu) (qb1f I.hok eb) hd dd ?_;have q:=(rel.val k).isSome_eq;rw [isSome_map] at q;rw [← q,← l];exact h _ (I.tok _)
def d_notIn{Q:Value->Shared->Prop}(hu:A.units + 1 < cLine)(I:Inv X pins σ H s)(g:DGet H a y o)(ry:RelV y u)(h:∀ s',Inv X pins σ H s'->Q (.bool (!o.isSome)) s') :
  wpAny (model X.prog X.w) A (compareOp .NotIn u (.ref a)) Q E s:=by
 rcases g with⟨kvs,k,e,ey,l⟩ | ⟨kvs,k,b,e,ey,eb,l⟩
 ·subst ey
  obtain⟨z,hd,vs,rel,dd⟩:=dk_rd I.hok e;refine wpAny_notIn_of (qb0g ry) hd dd.mapOf ?_;rw [← (rel.val k).isSome_eq,← l];exact h _ (I.tok _)
 ·subst ey
  cases (show u=Value.ref b from ry)
  obtain⟨z,hd,xs,rel,dd⟩:=dt_rd I.hok e;refine wpAny_notIn_heap (tupleKind_room_in1 hu) (qb1f I.hok eb) hd dd ?_;have q:=(rel.val k).isSome_eq;rw [isSome_map] at q;rw [← q,← l];exact h _ (I.tok _)
def qb4z{h':Heap}{t':Nat}{ob:HO}(I:Inv X pins σ H s)(mu:Mut (H a))(hs:Heap.SameBut a s.heap h')(he:∃ q,h'.get? a=some q)(new:qa1j X.prog X.w (upd H a ob) h' a ob) :
  Inv X pins σ (upd H a ob) { s with heap:=h',toks:=t' }:=
 I.write (x:=a) (e:=a) mu (.inl rfl) (fun b q hb z=>(hs.2 b hb).trans z) he new
def dk_new{P:Program}{w:World}{H':Hp}{h':Heap}{kvs:List (Key × V)}{vs:List (Key × Value)}(z:kvs.length <= sizeLine)(hd:(a == sysModules)=false)(rel:KV kvs vs)(dd:h'.DictOf (qa0z P w) a vs) :
  qa1j P w H' h' a (.dK kvs):=⟨z,hd,vs,rel,dd⟩
def qc6j{H':Hp}{Q:Unit->Shared->Prop}(hu:A.units + 1 < cLine)(I:Inv X pins σ H s)(g:DPut H a y v H')(ry:RelV y u)(rv:RelV v r)(h:∀ s',Inv X pins σ H' s'->Q () s') :
  wpAny (model X.prog X.w) A (setItem (.ref a) u r) Q E s:=by
 rcases g with⟨kvs,k,e,ey,l,eH⟩ | ⟨kvs,k,b,e,ey,eb,l,eH⟩
 ·subst ey eH
  obtain⟨z,hd,vs,rel,dd⟩:=dk_of I.hok e;have hz:vs.length <= sizeLine:=by rw [← rel.length];exact z
  have hl:(putK kvs k v).length <= sizeLine:=by have:=qa9a kvs k v;omega
  refine wpAny_setItem_pairs (hsz:=hz) (qb0g ry) dd fun h' dd' hs=>h _ ?_;have he:∃ q,h'.get? a=some q:=by obtain⟨q,_,_,hq,_⟩:=dd';exact⟨q,hq⟩
  exact qb4z I (by rw [e];exact True.intro) hs he (dk_new hl hd (rel.put k rv) dd')
 ·subst ey eH
  cases (show u=Value.ref b from ry)
  obtain⟨z,hd,xs,rel,dd⟩:=dt_of I.hok e;have hz:xs.length <= sizeLine:=by rw [← Paired.length rel];exact z
  have hl:(putK kvs k v).length <= sizeLine:=by have:=qa9a kvs k v;omega
  refine wpAny_setItem_heap (hsz:=hz) (tupleKind_room_in1 hu) (qb1f I.hok eb) dd fun h' dd' hs=>h _ ?_;obtain⟨q,es,ep,hq,h2,h3,h4,_,h5⟩:=dd';refine qb4z I (by rw [e];exact True.intro) hs ⟨q,hq⟩ ⟨hl,hd,_,(rel.put k eb rv).keeps fun c ys ec=>?_,q,es,ep,hq,h2,h3,h4,h5⟩;rw [qa0f (qa7f ec e 'p')];exact ec
end
def NoSl(i:Expr):Prop:=∀ ov iv,subscripted i false ov iv=operate [ov,iv] (getItem ov iv)
def subD_of{prog:Program}{w:World}{A:Around}{E:Value->Shared->Prop}{s:Shared}{env:Env}{value slice:Expr}{pos:Pos}{T id:String}{Q:Value->Shared->Prop}
  (hl:typeLookup (.type T) "__getitem__" = pure (some (.builtin id))) (hs:NoSl slice)
  (h:wpAny (model prog w) A (eval value env) (fun o s₁=>wpAny (model prog w) A (eval slice env) (fun i s₂=>s₂.TypeIs o T/\wpAny (model prog w) A (getItem o i) Q E s₂) E s₁) E s) :
  wpAny (model prog w) A (eval (.Subscript value slice pos) env) Q E s:=by
 refine Subscript_ (wpAny_mono h (fun o s₁ h₁=>wpAny_mono h₁ (fun i s₂ h₂=>?_) fun _ _ x=>x) fun _ _ x=>x);obtain⟨hT,h₂⟩:=h₂;unfold subscriptTail;refine wpAny_bind ?_;rw [getitemInPython_of_ne hT.not_modules];refine wpAny_bind (wpAny_specialOf hT hl ?_);have fin:wpAny (model prog w) A (subscripted slice false o i) (fun r s₃=>wpAny (model prog w) A (letTemporaryGo value o r >>= fun _=>pure r) Q E s₃) E s₂:=by
  rw [hs o i];exact wpAny_operating (wpAny_mono h₂ (fun r s₃ h₃=>wpAny_bind (wpAny_letTemporaryGo (wpAny_pure h₃))) fun _ _ x=>x)
 first
  | exact wpAny_pure (wpAny_bind fin)
  | exact wpAny_bind (wpAny_pure (wpAny_bind fin))
  | exact wpAny_bind fin
def qc0i{X:Cx}{pins:List 'c'}{σ:St}{H:Hp}{s:Shared}{a:Addr}{y:V}{o:Option V}(I:Inv X pins σ H s)(g:DGet H a y o):s.TypeIs (.ref a) "dict":=by
 rcases g with⟨kvs,k,e,_,_⟩ | ⟨kvs,k,b,e,_,_,_⟩
 ·obtain⟨_,_,vs,_,dd⟩:=dk_rd I.hok e
  exact dd.typeIs
 ·obtain⟨_,_,xs,_,dd⟩:=dt_rd I.hok e
  exact dd.typeIs
def tDGet(td ty:TE):TE:=fun σ H Q=>td σ H fun x H1=>ty σ H1 fun y H2=>∃ a v,x=.ref a/\DGet H2 a y (some v)/\Q v H2
def qb0h(td ty tv:TE):TS:=fun D σ H=>tv σ H fun v H1=>td σ H1 fun x H2=>ty σ H2 fun y H3=>∃ a H4,x=.ref a/\DPut H3 a y v H4/\D.nx σ H4
section
variable{X:Cx}{o i e value:Expr}{pos pos' tpos:Pos}{td ty tv:TE}
def pe_dget(hu:X.A.units + 1 < cLine)(ho:PE X o td)(hi:PE X i ty)(hs:NoSl i):PE X (.Subscript o i pos) (tDGet td ty):=by
 intro pins s σ H Q I h;refine subD_of PySem.F.slot_dict_getitem.lookup hs (thn (ho pins s σ H _ I h) fun u s1 ⟨x,H1,I1,rx,q1⟩=>thn (hi pins s1 σ H1 _ I1 q1) fun iv s2 hq9=>?_);obtain⟨y,H2,I2,ry,a,v,ex,g,q2⟩:=hq9;subst ex;obtain rfl:u=Value.ref a:=rx;exact⟨qc0i I2 g,qc6i hu I2 g ry fun w' s3 I3 rw'=>⟨v,H2,I3,rw',q2⟩⟩
def qc2d(hu:X.A.units + 1 < cLine)(ho:PE X o td)(hi:PE X i ty)(hv:PE X value tv)(hs:swapsWith value (some (.Subscript o i pos')) pos.line X.env=pure false) :
  PS X (.Assign [.Subscript o i pos'] value pos) (qb0h td ty tv):=by
 intro pins s σ H D I h;refine wpAny_Assign_Subscript (thn (hv pins s σ H _ I h) fun r s1 ⟨v,H1,I1,rv,q1⟩=>thn (ho pins s1 σ H1 _ I1 q1) fun u s2 ⟨x,H2,I2,rx,q2⟩=>thn (hi pins s2 σ H2 _ I2 q2) fun iv s3 hq8=>?_) hs;obtain⟨y,H3,I3,ry,a,H4,ex,g,q3⟩:=hq8;subst ex;obtain rfl:u=Value.ref a:=rx;exact qc6j hu I3 g ry rv fun s4 I4=>⟨σ,H4,I4,q3⟩
end
def qc9u{P:Program}{w:World}{H:Hp}(h:Heap)(hb:sysModules < h.objs.size):qa1j P w H (h.push { cls:=.type "dict",data:=.dict #[] }) h.objs.size (.dK []):=
 ⟨zero_le _,beq_eq_false_iff_ne.mpr (Ne.symm (ne_of_lt hb)),[],.nil,Heap.DictOf.new h⟩
def qb1g:TE:=fun _ H Q=>∀ p,H p=none->Q (.ref p) (upd H p (.dK []))
section
variable{X:Cx}{pos:Pos}
def qb2v:PE X (.Dict [] [] pos) qb1g:=fun pins s σ H Q I h =>
 wpAny_Dict_empty ⟨.ref s.heap.objs.size,_,I.laid (a:=s.heap.objs.size) (o:=.dK []) (t':=s.toks) (fun _ _ q=>get?_push_of_some _ q) 'e' (qc9u s.heap I.big),rfl,h _ (I.hok.fresh 'e')⟩
end
end
section
section
variable{X:Cx}
noncomputable def rSum(K:W.Frag):List V->Hp->VK->Prop:=fun xs H Q=>∃ v S,∃ ns:List Int,xs=[v]/\AtD K H S (.list (ns.map .int)) v/\Q (.int ns.sum) H
def qc6k(hc:X.calm=true):qa1z X (.builtin "sum") (rSum X.K):=by
 intro pins s σ H xs us Q I rs h;obtain⟨v,S,ns,rfl,hd,q⟩:=h;obtain⟨u,rfl,r⟩:=vals1 rs;obtain⟨a,ys,rfl,_,hq,t⟩:=qa3q hd;cases r;have ey:=ints_of_all t;subst ey;obtain⟨its,rv,pl,hz⟩:=I.list (SqL.of hq);have hi:IntsAre its ns:=intsAre_of rv;obtain⟨zs,e⟩:=hi.allInts.items;have hns:ns=zs.toList.map (·.1):=by rw [← hi.numsOf,← nums_intItems,← e]
 have hl:=pl.isList;rw [e] at hl;refine sum_intListG (I.ok.hd hc) hl fun h' tk t' hk=>?_;have es:preSum (numAt zs) zs.size=ns.sum:=by
  rw [preSum_eq,List.take_of_length_le 'g',hns]
 rw [es];exact⟨.int _,H,I.kept hk,⟨t',rfl⟩,q⟩
def bt_sum:bootBuiltins "sum" = some (.builtin "sum"):=by decide +kernel
def qc6l:qa1z X (.type "int") (fun xs H Q=>∃ b:Bool,xs=[.bl b]/\Q (.int (if b then 1 else 0)) H):=by
 intro pins s σ H xs us Q I rs h;obtain⟨b,rfl,q⟩:=h;obtain⟨u,rfl,r⟩:=vals1 rs;cases r;exact call_int_bool ⟨.int _,H,I.tok _,⟨_,rfl⟩,q⟩
end
noncomputable def fSum:FC:=fun ds=>match ds with
 | [.list xs]=>(qa2q xs).map fun ns=>.int ns.sum
 | _=>none
noncomputable def fIntB:FC:=fun ds=>match ds with
 | [.bool b]=>some (.int (if b then 1 else 0))
 | _=>none
section
variable{K:W.Frag}{H:Hp}{S:Addr->Prop}
def ad_sum:AdC K (rSum K) fSum:=by
 intro S H vs ds z Q f h e k;unfold fSum at e;split at e
 ·rename_i xs
  cases q:qa2q xs with
  | none=>rw [q] at e;cases e
  | some ns =>
   rw [q] at e;cases e;obtain⟨v,rfl,h1⟩:=h.one;have ex:=ints_map q;subst ex;exact⟨v,Any,ns,rfl,h1.any,k _ _ (Same.refl _) (qa2k _)⟩
 ·cases e
def ad_intB:AdC K (fun xs H Q=>∃ b:Bool,xs=[.bl b]/\Q (.int (if b then 1 else 0)) H) fIntB:=by
 intro S H vs ds z Q f h e k;unfold fIntB at e;split at e
 ·rename_i b
  cases e
  obtain⟨v,rfl,h1⟩:=h.one;rw [h1.bool];exact⟨b,rfl,k _ _ (Same.refl _) (qa2k _)⟩
 ·cases e
def AtT.dict{H:Hp}{S:Addr->Prop}{kvs:List 'i'}{v:V}(h:AtT K H S (.dict kvs) v):∃ (a:Addr) (κ:List (Key × V)),v=.ref a/\S a/\H a=some (.dK κ)/\qa0e K H S kvs κ:=qa9n (h.at fun _ z=>nomatch z)
end
end
section
noncomputable def Rc.reb(c:Rc)(O:Own)(p:Addr)(H:Hp):Rc:={ c with H0:=H,P:=fun a=>c.P a ∨ a=p,M:=fun a=>∃ j,O j=some a,A:=fun a=>∃ j,O j=some a }
noncomputable def putS(ν:List (Str × Int))(k:Str)(n:Int):List (Str × Int):=
 if (ν.any fun q=>decide (q.1=k))=true then ν.map (fun q=>if q.1=k then(q.1,n) else q) else ν ++ [(k,n)]
structure Pin(K:W.Frag)(c:Rc)(p:Addr)(ν:List (Str × Int))(i:Nat)(O:Own)(ρ:Rho)(σ:St)(H:Hp):Prop where
 rel:Rel K (c.reb O p H) O ρ σ H
 at_:H p=some (.dK (ν.map kvE))
 slot:σ[i]? = some (some (.ref p))
 nul:ρ[i]? = some none
 bA:∀ j q,O j=some q->c.A q
 bS:∀ b o,¬ c.M b->c.H0 b=some o->H b=some o
 bK:∀ b,c.H0 b ≠ none->H b ≠ none
 bM:∀ q,c.M q->∃ vs,H q=some (.lst vs)
 am:∀ q,c.A q->c.M q ∨ c.H0 q=none
 frs:∀ q,c.H0 q=none->c.S q
 fr0:c.H0 p=none
 np:¬ c.P p
section
variable{K:W.Frag}{c:Rc}{O O1:Own}{ρ ρ1:Rho}{σ σ1:St}{H H1 H2:Hp}{p:Addr}{ν μ:List (Str × Int)}{i:Nat}
def Rel.poke{v:V}(R:Rel K c O ρ σ H)(hn:ρ[i]? = some none):Rel K c O ρ (σ.set i (some v)) H:=by
 have st:∀ {j:Nat} {l:L},ρ[j]? = some (some l)->(σ.set i (some v))[j]? = σ[j]?:=fun{j l} e=>by
  refine getElem?_set_ne fun z=>?_;subst z;rw [hn] at e;cases e
 exact⟨fun j x e=>let ⟨u,h1,h2⟩:=R.dat j x e;⟨u,by rw [st e];exact h1,h2⟩,fun j xs e=>let ⟨q,vs,h1,h2,h3,h4⟩:=R.own j xs e;⟨q,vs,h1,h2,by rw [st e];exact h3,h4⟩,
  fun j xs e=>let ⟨q,vs,h1,h3,h4⟩:=R.bor j xs e;⟨q,vs,h1,by rw [st e];exact h3,h4⟩,fun j k e=>let ⟨q,h1,h3,h4⟩:=R.tap j k e;⟨q,h1,by rw [st e];exact h3,h4⟩,fun j e=>by rw [st e];exact R.scr j e,
  R.inj,R.has',R.am,R.frs,R.same,R.kept,R.ml,R.pin,R.lnt,R.sc,by rw [length_set];exact R.len⟩
end
section
variable{K:W.Frag}
def qb3r{n:Nat}(h:n < 1000):n < sizeLine:=by rw [sizeLine_eq];omega
end
end
section
def qb3s:entryFor table "dict.update.loop" = some Builtin.«dict.update.loop»:=entryFor_of_tree (by kernel_rfl)
def qa7l:plainId "dict.update.loop" = true:=by decide +kernel
end
section
def NotSq(o:HO):Prop:=(∀ xs,o ≠ .lst xs)/\(∀ xs,o ≠ .tup xs)/\∀ a u,o ≠ .frz a u
structure PinG(K:W.Frag)(c:Rc)(p:Addr)(o:HO)(O:Own)(ρ:Rho)(σ:St)(H:Hp):Prop where
 rel:Rel K (c.reb O p H) O ρ σ H
 at_:H p=some o
 nsq:NotSq o
 bA:∀ j q,O j=some q->c.A q
 bS:∀ b o,¬ c.M b->c.H0 b=some o->H b=some o
 bK:∀ b,c.H0 b ≠ none->H b ≠ none
 bM:∀ q,c.M q->∃ vs,H q=some (.lst vs)
 am:∀ q,c.A q->c.M q ∨ c.H0 q=none
 frs:∀ q,c.H0 q=none->c.S q
 fr0:c.H0 p=none
 np:¬ c.P p
end
section
section
variable{X:Cx}
def qa5c:bootBuiltins "sorted" = some (.builtin "sorted"):=by decide +kernel
noncomputable def rGet2:V->List V->Hp->VK->Prop:=fun x vs H Q=>∃ a kvs,∃ k:Str,∃ d,x=.ref a/\vs=[.str k,d]/\H a=some (.dK kvs)/\Q ((valV kvs (Sum.inr k)).getD d) H
def mt_get2:MtM X "dict.get" rGet2:=by
 intro pins s σ H x vs v us Q I rx rv h;obtain⟨a,kvs,k,d,rfl,rfl,e,q⟩:=h;cases rx;obtain⟨u,r,rfl,ru,rr⟩:=Vals.two rv;obtain⟨_,hd,ws,rel,dd⟩:=dk_of I.hok e;have ku:RelV (kV (Sum.inr k)) u:=ru;exact call_meetsIn PySem.F.slot_dict_get dd.typeIs PySem.F.entry_dict_get (PySem.F.args_dict_get_3 _ _ _) (meets_dict_get_default (qa0z X.prog X.w) a (qb0g ku) hd r) ⟨_,dd.mapOf,_,H,I.tok _,(rel.val (Sum.inr k)).getD rr,q⟩
def qb3t:∀ {ss:List Str} {us:List Value},Vals (ss.map V.str) us->StrsAre us ss
 | [],us,h=>by rw [Vals.zero h];exact .nil
 | x :: r,us,h=>by
  cases h with
  | cons h1 h2 =>
   obtain⟨t,rfl⟩:=h1;exact .cons _ _ (qb3t h2)
def qb3u:∀ {us:List Value} {ss:List Str},StrsAre us ss->Vals (ss.map V.str) us
 | _,_,.nil=>.nil
 | _,_,.cons _ _ h=>.cons ⟨_,rfl⟩ (qb3u h)
end
end
section
section
variable{X:Cx}
def bt_all:bootBuiltins "all" = some (.builtin "all"):=by decide +kernel
end
section
variable{K:W.Frag}{H:Hp}{S:Addr->Prop}
def qb3v:∀ {ss:List Str},qa0c K H S (ss.map .str) (ss.map V.str)
 | []=>by unfold qa0c;rfl
 | x :: r=>by
  show qa0c K H S (.str x :: r.map .str) (.str x :: r.map V.str);unfold qa0c;exact⟨_,_,rfl,qa4f _,qb3v⟩
end
def AdGi(K:W.Frag)(i:Nat)(g:TG)(dg:TDG):Prop:=∀ (c:Rc) (O:Own) (ρ:Rho) (σ:St) (H:Hp) (x:PyData) (v:V) (Qd:Rho->Prop) (Q:St->Hp->Prop),Rel K c O ρ σ H->AtD K H (live c O) x v->dg x ρ Qd ->
 (∀ O' ρ' σ',Rel K c O' ρ' σ' H->Pers K (live c O) H (live c O') H->σ'[i]? = σ[i]? -> Qd ρ'->Q σ' H)->g v σ H Q
def qc9v{K:W.Frag}{i j:Nat}(hj:j ≠ i):AdGi K i (qa3b j) (qa9p j):=fun c O ρ σ H x v Qd Q R a h k=>by
 obtain⟨R1,P1⟩:=R.setD h.1 a;exact k _ _ _ R1 P1 (getElem?_set_ne hj) h.2
def DGi(X:Cx)(i:Nat)(target:Expr)(dg:TDG):Prop:=∃ g,PG X target g/\AdGi X.K i g dg
section
variable{X:Cx}{iter kE vE tg:Expr}{rest:List Stmt}{di:TDI}{dg:TDG}{dk dv:TDE}{du:TDS}{x y z:Str}{pos p1 p2 p3 p4 p5 p6 p7 p8 p9 p10 p11 p12 p13:Pos}
def qc9w{i j:Nat}(hj:j ≠ i)(hN:X.N.Nodup)(hi:X.N[j]? = some x)(hx:Loc X.env.scope x)(hf:X.fn x=true ∨ X.env.scope.names.lookup x=some .local:=by first | exact .inl rfl | exact .inr rfl):DGi X i (.Name x pos) (qa9p j):=⟨_,qa9f hN hi hx hf,qc9v hj⟩
end
end
section
section
variable{prog:Program}{w:World}{A:Around}{E:Value->Shared->Prop}{s:Shared}
def IsZ2(h:Heap)(z TI TO T:Addr)(b:Bool):Prop:=h.get? z=some { cls:=.type "zip",dict:=none,data:=.fields #[rawInt T,.bool b,.bool false,.ref TI,.ref TO],slots:=#[] }
def ZF(h:Heap)(z TI TO:Addr):Prop:=(IsZip h z TI TO .none/\∃ p q,IsPair h TO p q) ∨ ∃ T b o,IsZ2 h z TI TO T b/\h.get? T=some o
def ZW(h:Heap)(z TI TO i1 i2 l1 l2:Addr)(k:Nat):Prop:=ZF h z TI TO/\IsPair h TI (.ref i1) (.ref i2)/\ItX true h i1 l1 k/\ItX false h i2 l2 k
end
end
section
noncomputable def strsD:List PyData->Option (List Str)
 | []=>some []
 | .str x :: r=>(strsD r).map (x :: ·)
 | _ :: _=>none
end
end L2
section
namespace L2
open PySem
end L2
end
namespace L2
open PySem PySem.Spec PyProof.Rows
section
noncomputable def fSlA:FSl:=fun x lo hi=>match x with
 | .tuple xs=>some (.tuple (cutD xs lo hi))
 | _=>none
theorem fSlA_t{xs:List PyData}{lo hi:Option Int}:fSlA (.tuple xs) lo hi=some (.tuple (cutD xs lo hi)):=rfl
section
variable{K:W.Frag}{H:Hp}{S:Addr->Prop}
def dNilD:TDE:=fun ρ Q=>Q (.d (.dict [])) ρ
def ad_nilD:AdE K qb1g dNilD:=by
 intro c O ρ σ H Qd Q R h k p hp;have sm:=qa0v (H:=H) hp (.dK []);exact k _ _ _ _ _ h (R.grow sm) (.same sm) (show AtD K (upd H p (.dK [])) (live c O) (.dict []) (.ref p) from qc8h (ν:=[]) (R.frsLive p hp) qa0h)
def dExtT(i:Nat)(de:TDE):TDE:=fun ρ Q=>need (ownB ρ i) fun _=>de ρ fun x ρ1=>need (qa0m ρ1 x) fun dx=>∃ ys,dx=.tuple ys/\need (ownB ρ1 i) fun o=>o.2.length + ys.length <= 1000000/\Q (.d .none) (ρ1.set i (some (okL o.1 (o.2 ++ ys))))
def dInK(keys:List Str)(de:TDE):TDE:=fun ρ Q=>de ρ fun x ρ1=>need (qa0m ρ1 x) fun dx=>∃ z:Str,dx=.str z/\Q (.d (.bool (keys.contains z))) ρ1
end
section
variable{X:Cx}{e st:Expr}{de ds:TDE}{pos p2:Pos}
def qc2e:DE X (.Dict [] [] pos) dNilD:=⟨_,qb2v,ad_nilD⟩
end
section
variable{i:Nat}{ρ:Rho}{Q:DV->Rho->Prop}{d1 d2:TDE}{keys:List Str}
theorem dNilD_a:dNilD ρ Q=Q (.d (.dict [])) ρ:=rfl
theorem dExtT_a:dExtT i d1 ρ Q=need (qa4t (ρ[i]?.join)) fun _=>d1 ρ fun x ρ1=>need (qa0m ρ1 x) fun dx=>∃ ys,dx=.tuple ys/\need (qa4t (ρ1[i]?.join)) fun o=>o.2.length + ys.length <= 1000000/\Q (.d .none) (ρ1.set i (some (okL o.1 (o.2 ++ ys)))):=rfl
theorem dInK_a:dInK keys d1 ρ Q=d1 ρ fun x ρ1=>need (qa0m ρ1 x) fun dx=>∃ z:Str,dx=.str z/\Q (.d (.bool (keys.contains z))) ρ1:=rfl
end
end
section
noncomputable def qa9r(kvs more:List (Key × V)):List (Key × V):=more.foldl (fun acc kv=>putK acc kv.1 kv.2) kvs
end
end L2
section
namespace Sx
open PySem PySem.Spec PyProof.Rows
def pw_eq{α:Type}{le:α->α->Prop}(anti:∀ a b,le a b->le b a->a=b):∀ {a b:List α},a.Perm b->a.Pairwise le->b.Pairwise le->a=b
 | [],b,h,_,_=>h.nil_eq
 | x :: r,[],h,_,_=>absurd h.length_eq 'g'
 | x :: r,y :: t,h,ha,hb=>by
  have e:x=y:=by
   have hx:x ∈ y :: t:=h.mem_iff.mp mem_cons_self;have hy:y ∈ x :: r:=h.mem_iff.mpr mem_cons_self;rcases mem_cons.mp hx with q | q
   ·exact q
   ·rcases mem_cons.mp hy with q2 | q2
    ·exact q2.symm
    ·exact anti x y (List.rel_of_pairwise_cons ha q2) (List.rel_of_pairwise_cons hb q)
  subst e;rw [pw_eq anti (List.Perm.cons_inv h) (pairwise_cons.mp ha).2 (pairwise_cons.mp hb).2]
noncomputable def srtI(ns:List Int):List Int:=ns.mergeSort (fun a b=>decide (a <= b))
def qa3d(ns:List Int):(srtI ns).Perm ns:=List.mergeSort_perm ns _
def qc2f(ns:List Int):(srtI ns).Pairwise (· <= ·):=by
 have h:=List.pairwise_mergeSort (le:=fun a b:Int=>decide (a <= b)) (fun a b c h1 h2=>by simp at *;omega) (fun a b=>by simp;omega) ns;exact h.imp fun h=>by simpa using h
def qb5a{a ns:List Int}(h:a.Perm ns)(hp:a.Pairwise (· <= ·)):a=srtI ns:=
 pw_eq (fun a b h1 h2=>Int.le_antisymm h1 h2) (h.trans (qa3d ns).symm) hp (qc2f ns)
def leS(a b:Str):Prop:=a.cps.toList <= b.cps.toList
def leS_iff(a b:Str):ltCps b.cps.toList a.cps.toList=false ↔ leS a b:=by
 rw [ltCps_eq];simp [leS,List.not_lt]
def qb6g{a b c:Str}(h1:leS a b)(h2:leS b c):leS a c:=List.le_trans h1 h2
def qc6m(a b:Str):leS a b ∨ leS b a:=List.le_total ..
def qc9x(a b:Str)(h1:leS a b)(h2:leS b a):a=b:=by
 have e:=List.le_antisymm h1 h2;cases a;cases b;congr 1;exact Array.ext' e
def qc2g:∀ (p:Str) (l:List Str),risingS p l=true->(p :: l).Pairwise leS
 | p,[],_=>pairwise_singleton _ _
 | p,x :: r,h=>by
  have h':(!ltCps x.cps.toList p.cps.toList && risingS x r)=true:=h;rw [and_eq_true] at h';have t:=qc2g x r h'.2;have h1:leS p x:=(leS_iff p x).mp (by simpa using h'.1);refine pairwise_cons.mpr ⟨fun y hy=>?_,t⟩;rcases mem_cons.mp hy with rfl | hy
  ·exact h1
  ·exact qb6g h1 (List.rel_of_pairwise_cons t hy)
def qc3z:∀ (l:List Str),sortedS l=true->l.Pairwise leS
 | [],_=>List.Pairwise.nil
 | x :: r,h=>qc2g x r h
instance (a b:Str):Decidable (leS a b):=by unfold leS;infer_instance
noncomputable def srtS(ss:List Str):List Str:=ss.mergeSort (fun a b=>decide (leS a b))
def qb1h(ss:List Str):(srtS ss).Perm ss:=List.mergeSort_perm ss _
def srtS_pw(ss:List Str):(srtS ss).Pairwise leS:=by
 have h:=List.pairwise_mergeSort (le:=fun a b:Str=>decide (leS a b)) (fun a b c h1 h2=>by
  simp only [decide_eq_true_eq] at *;exact qb6g h1 h2) (fun a b=>by
  rcases qc6m a b with h | h<;>simp [h]) ss
 exact h.imp fun h=>by simpa using h
def srtS_eq{a ss:List Str}(h:a.Perm ss)(hp:a.Pairwise leS):a=srtS ss:=
 pw_eq qc9x (h.trans (qb1h ss).symm) hp (srtS_pw ss)
section
variable{prog:Program}{w:World}{A:Around}{E:Value->Shared->Prop}{s:Shared}{S:Addr}
def decI:∀ k v,(intKind prog w).is k v=true->numOf v=k:=fun k v h=>by
 obtain⟨t,rfl⟩:=Value.isInt_shape h;rfl
def qc6n{ns:List Int}(hh:A.handled=none)(hS:SetV (intKind prog w) numOf s.heap S ns)(h64:ns.length < 64){Q:Value->Shared->Prop}
  (h:∀ (s':Shared) (L:Addr) (out:List Value) (e:Nat),IntsAre out (srtI ns)->s'.heap.get? L=some (seqObj "list" out.toArray e)->(∀ b o,s.heap.get? b=some o->s'.heap.get? b=some o)->S < L->s'.gens=s.gens->s'.os=s.os->Q (.ref L) s') :
  wpAny (model prog w) A (call (.builtin "sorted") [.ref S]) Q E s:=by
 obtain⟨es,ep,t,ho,F⟩:=hS;refine Calls.call_function_entry kind_sorted plain_sorted entry_sorted (args_sorted1 _) ?_;unfold Builtin.«sorted»;have z0:es.size=ns.length:=by have:=F.pm.length_eq;simpa using this
 refine wpAny_bind (m:=checkCount "sorted" 1 1 _) (wpAny_pure (wpAny_bind (qc5t (by simp [hh]) ho F.ft F.ok F.ld 'o' fun s' out op kp eg eo=>?_)));have ol:out.length=ns.length:=by rw [op.length_eq,length_map,length_toList,z0]
 have hv:∀ v ∈ out,∃ n t,v=.int n t:=fun v hv=>by
  obtain⟨e,he,rfl⟩:=mem_map.mp (op.mem_iff.mp hv);obtain⟨⟨k,hk,_⟩,_⟩:=F.el e he;obtain⟨t,q⟩:=Value.isInt_shape hk;exact⟨k,t,q⟩
 have hI:=intsAre_map out hv;have hpm:(out.map numOf).Perm ns:=(op.map numOf).trans (by rw [map_map];exact F.pm);refine wpAny_bind (wpAny_newList ?_ (by rw [ol,sizeLine_eq];omega));have hoL:(s'.heap.push (seqObj "list" out.toArray 0)).get? s'.heap.objs.size=some (seqObj "list" out.toArray 0):=get?_push_size _ rfl;refine wpAny_bind (wpAny_holding (wpAny_call_entry slot_list_sort ⟨_,hoL,rfl⟩ entry_list_sort (list_sort_tree hoL hI 'o' fun out' ns' a1 a2 a3=>⟨_,rfl,?_⟩) (args_list_sort _)));obtain⟨e,he⟩:=sortedHeap_at (out:=out') hoL;have eq:=qb5a (a2.trans hpm) a3;subst eq;refine wpAny_pure ⟨_,rfl,h _ s'.heap.objs.size out'.toList e a1 he (fun b o q=>?_) (lt_size (kp _ _ ho)) eg eo⟩;have q':=kp b o q;have lt:=lt_size q';show(sortedHeap _ _ _ _).get? b=some o;rw [sortedHeap_old (ne_of_lt lt) (by rw [size_push];exact lt_succ_of_lt lt)];exact get?_push_of_some _ q'
end
end Sx
end
namespace L2
open PySem PySem.Spec PyProof.Rows
section
def bt_set:bootBuiltins "set" = some (.type "set"):=by decide +kernel
section
variable{X:Cx}{pins:List 'c'}{σ:List (Option V)}{H:Hp}{s:Shared}
def Inv.dr(I:Inv X pins σ H s)(d:Drawn):Inv X pins σ H { s with drawn:=d }:=⟨I.ok,I.os,I.bare,I.base,I.loc,I.cell,I.free,I.freeC,I.pin,I.hok,I.len⟩
def qc2h(X:Cx)(r:List V->Hp->VK->Prop):Prop:=∀ (pins:List 'c') (s:Shared) (σ:St) (H:Hp) (xs:List V) (us:List Value) (Q:VK),Inv X pins σ H s->Vals xs us->r xs H Q ->
 wpAny (model X.prog X.w) X.A (call (.type "set") us) (fun u s1=>wpAny (model X.prog X.w) X.A (call (.builtin "sorted") [u]) (EP X pins σ Q) X.xe s1) X.xe s
def qc4a{r:List V->Hp->VK->Prop}{a:Expr}{ta:TA}{p p2 pos pos2:Pos}(hr:qc2h X r) (hg:Gl X "set") (hm:X.mg "set" = none) (hg2:Gl X "sorted") (hm2:X.mg "sorted" = none) (ha:PA X [a] ta) (hs:starEach [a] X.env=(false,eval a X.env) :: starEach [] X.env:=by rfl) (hs2:(backTo pos (starEach [] X.env)).any (·.1)=false:=by rfl)
  (hs3:starEach [.Call (.Name "set" p) [a] [] pos] X.env=[(false,eval (.Call (.Name "set" p) [a] [] pos) X.env)]:=by rfl) :
  PE X (.Call (.Name "sorted" p2) [.Call (.Name "set" p) [a] [] pos] [] pos2) (tCB r ta):=by
 intro pins s σ H Q I h;refine Call_ (qa6v I hg2 hm2 qa5c (PyProof.Rows.callWith_builtin1 ?_ hs3 (by rfl)));rw [hs3];show wpAny _ _ (spliced ((false,eval (.Call (.Name "set" p) [a] [] pos) X.env) :: [])) _ _ s;refine Calls.spliced_cons (Call_ (qa6v I hg hm bt_set (PyProof.Rows.callWith_type1 (thn (ha pos pins s σ H _ I h) fun us s1 hq8=>?_) hs hs2)));obtain⟨vs,H1,I1,r1,q1⟩:=hq8;exact thn (hr pins s1 σ H1 vs us Q I1 r1 q1) fun u s2 h2=>Calls.spliced_nil h2
def qb1i:∀ {us:List Value} {ns:List Int},IntsAre us ns->Vals (ns.map V.int) us
 | _,_,.nil=>.nil
 | _,_,.cons _ _ h=>.cons ⟨_,rfl⟩ (qb1i h)
noncomputable def rSetI(K:W.Frag):List V->Hp->VK->Prop:=fun xs H Q=>∃ v S,∃ ns:List Int,xs=[v]/\(AtD K H S (.list (ns.map .int)) v ∨ AtD K H S (.tuple (ns.map .int)) v)/\ns.length < 64/\∀ p,H p=none->Q (.ref p) (upd H p (.lst ((Sx.srtI (Sx.uniq ns)).map V.int)))
def qc9y(hc:X.calm=true):qc2h X (rSetI X.K):=by
 intro pins s σ H xs us Q I rs h;obtain⟨v,S,ns,rfl,hd,hn,q⟩:=h;obtain⟨u,rfl,r⟩:=vals1 rs;obtain⟨a,its,e,rv,hq⟩:∃ a its,v=.ref a/\Vals (ns.map V.int) its/\(s.heap.IsList a its.toArray ∨ s.heap.IsTuple a its.toArray):=by
  rcases hd with hd | hd
  ·obtain⟨a,ys,rfl,_,hq,t⟩:=qa3q hd
   have ey:=ints_of_all t;subst ey;obtain⟨its,rv,pl,hz⟩:=I.list (SqL.of hq);exact⟨a,its,rfl,rv,.inl pl.isList⟩
  ·obtain⟨a,ys,rfl,hq,t⟩:=qa2w hd
   have ey:=ints_of_all t;subst ey;obtain⟨its,rv,pl,hz⟩:=I.tuple hq;exact⟨a,its,rfl,rv,.inr pl⟩
 subst e;cases r;have hl:its.length=ns.length:=by rw [← rv.length,length_map]
 refine Sx.call_v (knd:=intKind X.prog X.w) (ks:=ns) Sx.decI (I.ok.hd hc) hq (by rw [size_toArray];omega) (by rw [size_toArray,hl]) (fun i w hw=>?_) fun h1 tk sv kp=>?_
 ·rw [getElem?_toArray] at hw
  have hi:i < its.length:=(List.getElem?_eq_some_iff.mp hw).1;have hi2:i < ns.length:=by omega
  obtain⟨u,e1,⟨t,ht⟩⟩:=rv.get (i:=i) (x:=V.int ns[i]) (by rw [getElem?_map,getElem?_eq_getElem hi2];rfl);subst ht;rw [hw] at e1;cases e1;exact⟨ns[i],getElem?_eq_getElem hi2,by simp [intKind,Value.isInt],rfl⟩
 ·have hu:=Sx.qb1u ns
  refine Sx.qc6n (I.ok.hd hc) sv 'o' fun s2 L out e a1 he kp2 hlt eg eo=>?_;have hle:((Sx.srtI (Sx.uniq ns)).map V.int).length <= sizeLine:=by
   rw [length_map,(Sx.qa3d _).length_eq,sizeLine_eq];omega
  have I2:=(I.laid (a:=L) (o:=.lst ((Sx.srtI (Sx.uniq ns)).map V.int)) (t':=s2.toks) (h':=s2.heap) (fun b o x=>kp2 _ _ (kp _ _ x)) (le_of_lt hlt) ⟨hle,out,e,qb1i a1,he⟩).dr s2.drawn;have es:({ s with heap:=s2.heap,toks:=s2.toks,drawn:=s2.drawn }:Shared)=s2:=by
   cases s2;dsimp only at eg eo;subst eg eo;rfl
  rw [es] at I2;exact⟨.ref _,_,I2,rfl,q _ (I.hok.fresh (le_of_lt hlt))⟩
end
noncomputable def fSetI:FC:=fun ds=>match ds with
 | [.list xs]=>(qa2q xs).bind fun ns=>if ns.length < 64 then some (.list ((Sx.srtI (Sx.uniq ns)).map .int)) else none
 | [.tuple xs]=>(qa2q xs).bind fun ns=>if ns.length < 64 then some (.list ((Sx.srtI (Sx.uniq ns)).map .int)) else none
 | _=>none
section
variable{K:W.Frag}{H:Hp}{S:Addr->Prop}
def qa6z:∀ {ns:List Int},qa0c K H S (ns.map .int) (ns.map V.int)
 | []=>by unfold qa0c;rfl
 | x :: r=>by
  show qa0c K H S (.int x :: r.map .int) (.int x :: r.map V.int);unfold qa0c;exact⟨_,_,rfl,qa2k _,qa6z⟩
def ad_setI:AdC K (rSetI K) fSetI:=by
 intro S H vs ds z Q f h e k;unfold fSetI at e;split at e
 ·rename_i xs
  cases q1:qa2q xs with
  | none=>rw [q1] at e;cases e
  | some ns =>
   rw [q1,bind_some] at e;split at e
   ·rename_i hl
    cases e
    obtain⟨v,rfl,h1⟩:=h.one;have e1:=ints_map q1;subst e1;exact⟨v,Any,ns,rfl,.inl h1.any,hl,fun p hp=>k _ _ (qa0v hp _) (qa2o (f p hp) qa0h qa6z)⟩
   ·cases e
 ·rename_i xs
  cases q1:qa2q xs with
  | none=>rw [q1] at e;cases e
  | some ns =>
   rw [q1,bind_some] at e;split at e
   ·rename_i hl
    cases e
    obtain⟨v,rfl,h1⟩:=h.one;have e1:=ints_map q1;subst e1;exact⟨v,Any,ns,rfl,.inr h1.any,hl,fun p hp=>k _ _ (qa0v hp _) (qa2o (f p hp) qa0h qa6z)⟩
   ·cases e
 ·cases e
end
section
variable{X:Cx}{a:Expr}{daa:TDA}{p p2 pos pos2:Pos}
def qc2i(hc:X.calm=true) (hg:Gl X "set") (hm:X.mg "set" = none) (hg2:Gl X "sorted") (hm2:X.mg "sorted" = none) (ha:DA X [a] daa) (hs:starEach [a] X.env=(false,eval a X.env) :: starEach [] X.env:=by rfl) (hs2:(backTo pos (starEach [] X.env)).any (·.1)=false:=by rfl)
  (hs3:starEach [.Call (.Name "set" p) [a] [] pos] X.env=[(false,eval (.Call (.Name "set" p) [a] [] pos) X.env)]:=by rfl) :
  DE X (.Call (.Name "sorted" p2) [.Call (.Name "set" p) [a] [] pos] [] pos2) (dCB fSetI daa):=by
 obtain⟨ta,pa,aa⟩:=ha;exact⟨_,qc4a (qc9y hc) hg hm hg2 hm2 pa hs hs2 hs3,ad_cb ad_setI aa⟩
end
end
end L2
section
namespace Sx
open PySem PySem.W PyProof.Rows
noncomputable def AllP{α:Type}(n:Nat)(P:α->Prop):KasT α->Prop
 | .ret a=>P a
 | .ask i j k=>i < n/\j < n/\∀ b,AllP n P (k b)
def qa5d{α β:Type}{n:Nat}{P:α->Prop}{R:β->Prop}{f:α->KasT β}(h:∀ a,P a->AllP n R (f a)):∀ t:KasT α,AllP n P t->AllP n R (t.bind f)
 | .ret a,q=>h a q
 | .ask i j k,q=>⟨q.1,q.2.1,fun b=>qa5d h (k b) (q.2.2 b)⟩
abbrev PN(n:Nat)(p:Array Nat):Prop:=p.Perm (List.toArray (List.range n))
def qa4o{n:Nat}(hn:0 < n){p:Array Nat}(h:PN n p)(i:Nat):p.getD i 0 < n:=by
 rw [getD_eq_getD_getElem?];cases e:p[i]? with
 | none=>exact hn
 | some x =>
  have hm:x ∈ p.toList:=by
   rw [← getElem?_toList] at e;exact mem_of_getElem? e
  have:=(Array.perm_iff_toList_perm.mp h).mem_iff.mp hm;simpa using this
def qb1j{n:Nat}{p:Array Nat}(h:PN n p)(i j:Nat):PN n (kas_rev p i j):=(mirror_perm _ _ _ _).trans h
section
variable{n:Nat}(hn:0 < n)
include hn
def qb5b{p:Array Nat}(h:PN n p):∀ f m,AllP n (fun _=>True) (kas_asc p f m)
 | 0,m=>trivial
 | f + 1,m=>⟨qa4o hn h _,qa4o hn h _,fun b=>by
  cases b with
  | true=>exact trivial
  | false=>exact qb5b h f (m + 1)⟩
def qb0i:∀ f {p:Array Nat} m q,PN n p->AllP n (fun r=>PN n r.1) (kas_desc f p m q)
 | 0,p,m,q,h=>h
 | f + 1,p,m,q,h=>⟨qa4o hn h _,qa4o hn h _,fun b=>by
  cases b with
  | true =>
   show AllP n _ (if q > 0 then _ else _);split
   ·exact qb0i f _ _ (qb1j h _ _)
   ·exact qb0i f _ _ h
  | false =>
   refine⟨qa4o hn h _,qa4o hn h _,fun b=>?_⟩;cases b with
   | true=>exact h
   | false=>exact qb0i f _ _ h⟩
def qb6h{p:Array Nat}(h:PN n p)(m r:Nat):AllP n (fun x=>PN n x.2) (kas_tail3 m r p):=by
 refine qa5d (P:=fun _=>True) (fun a _=>?_) _ (qb5b hn (qb1j h _ _) _ _);exact qb1j h _ _
def qb1k{p:Array Nat}(h:PN n p)(m r:Nat):AllP n (fun x=>PN n x.2) (kas_descPart m r p):=by
 refine qa5d (fun x hx=>?_) _ (qb0i hn _ _ _ h);show AllP n _ (if x.2.2 > 0 then _ else _);split
 ·exact qb6h hn (qb1j hx _ _) _ _
 ·exact qb6h hn hx _ _
def qc6o{p:Array Nat}(h:PN n p)(r:Nat):AllP n (fun x=>PN n x.2) (kas_count r p):=by
 refine qa5d (fun m _=>?_) _ (qb5b hn h _ _);show AllP n _ (if (m == r)=true then _ else if m > 1 then _ else _);split
 ·exact h
 ·split
  ·refine⟨qa4o hn h _,qa4o hn h _,fun b=>?_⟩
   cases b with
   | true=>exact h
   | false=>exact qb1k hn (qb1j h _ _) _ _
  ·exact qb1k hn h _ _
def qb1l{p:Array Nat}(h:PN n p)(k:Nat):∀ f l r,AllP n (fun _=>True) (kas_place p k f l r)
 | 0,l,r=>trivial
 | f + 1,l,r=>by
  show AllP n _ (if l ≥ r then _ else _);split
  ·exact trivial
  ·refine⟨qa4o hn h _,qa4o hn h _,fun b=>?_⟩
   cases b with
   | true=>exact qb1l h k f _ _
   | false=>exact qb1l h k f _ _
def qc2j:∀ f {p:Array Nat} k,PN n p->AllP n (fun x=>PN n x) (kas_bin f p k)
 | 0,p,k,h=>h
 | f + 1,p,k,h=>qa5d (fun l _=>qc2j f _ ((bubble_perm _ _ _).trans h)) _ (qb1l hn h _ _ _ _)
def qc9z:AllP n (fun p=>PN n p) (kas_sort n):=by
 refine qa5d (fun r hr=>?_) _ (qc6o hn (Array.Perm.refl _) n);show AllP n _ (if r.1 < n then _ else _);split
 ·exact qc2j hn _ _ hr
 ·exact hr
end
def TupAt(h:Heap)(v:Value)(t:List Int):Prop:=∃ a o xs n,v=.ref a/\h.get? a=some o/\o.cls=.type "tuple" /\ o.data=.seq xs n/\IntsAre xs.toList t/\t ≠ []
section
variable{prog:Program}{w:World}{A:Around}{E:Value->Shared->Prop}{s:Shared}
def qb8g:∀ {vs:List Value} {h:Heap},(∀ v ∈ vs,∃ t,TupAt h v t)->∃ fs,KatTups h vs fs/\fs.length=vs.length/\∀ v ∈ fs,∃ n t,v=.int n t
 | [],h,_=>⟨[],KatTups.nil,rfl,fun v hv=>absurd hv not_mem_nil⟩
 | v :: r,h,H=>by
  obtain⟨fs,k,hl,hf⟩:=qb8g (vs:=r) (h:=h) fun v hv=>H v (mem_cons_of_mem _ hv);obtain⟨t,a,o,xs,n,rfl,ho,hc,hd,hI,hne⟩:=H v mem_cons_self;obtain⟨f,fr,e⟩:∃ f fr,xs.toList=f :: fr:=by
   cases q:xs.toList with
   | nil=>rw [q] at hI;cases hI;exact absurd rfl hne
   | cons f fr=>exact⟨f,fr,rfl⟩
  have e0:xs[0]? = some f:=by rw [← getElem?_toList,e];rfl
  refine⟨f :: fs,KatTups.cons ho hc hd e0 k,by rw [length_cons,length_cons,hl],fun v hv=>?_⟩;rcases mem_cons.mp hv with rfl | hv
  ·exact hI.all _ (by rw [e];exact mem_cons_self)
  ·exact hf v hv
end
end Sx
end
section
namespace L2
open PySem PySem.Spec PyProof.Rows
abbrev encT(t:List Int):PyData:=.tuple (t.map .int)
section
variable{prog:Program}{w:World}{A:Around}{E:Value->Shared->Prop}{s:Shared}
def qc0j{h h':Heap}{v:Value}{t:List Int}(x:Sx.TupAt h v t)(k:∀ b o,h.get? b=some o->h'.get? b=some o):Sx.TupAt h' v t:=by
 obtain⟨a,o,xs,n,e,ho,r⟩:=x;exact⟨a,o,xs,n,e,k _ _ ho,r⟩
end
section
variable{X:Cx}
def qb0q:∀ {ns:List Int} {us:List Value},Vals (ns.map V.int) us->IntsAre us ns
 | [],us,h=>by rw [Vals.zero h];exact .nil
 | x :: r,us,h=>by
  cases h with
  | cons h1 h2 =>
   obtain⟨t,rfl⟩:=h1;exact .cons _ _ (qb0q h2)
noncomputable def qa7a(d:PyData):Bool:=PyData.layable0 d && d.intsShort 13 && d.showable
noncomputable def rRepr(K:W.Frag):List V->Hp->VK->Prop:=fun xs H Q=>∃ v S,∃ ds:List PyData,xs=[v]/\AtD K H S (.tuple ds) v/\qa7a (.tuple ds)=true/\Q (.str (PyData.tuple ds).shown) H
def qc6p(hg:X.A.guards=some [])(hu:X.A.units + 80 < cLine):qa1z X (.builtin "repr") (rRepr X.K):=by
 intro pins s σ H xs us Q I rs h;obtain⟨v,S,ds,rfl,hd,hk,q⟩:=h;obtain⟨u,rfl,r⟩:=vals1 rs;obtain⟨as,rd⟩:=AtD.reads I _ v u hd r;obtain⟨a,ys,rfl,hq,t⟩:=qa2w hd;cases r;unfold qa7a at hk;simp only [and_eq_true] at hk;obtain⟨⟨h1,h2⟩,h3⟩:=hk;have hl:=h1;unfold PyData.layable0 at h1;simp only [and_eq_true,decide_eq_true_eq] at h1;have hz:=shown_le13 hl h2;refine repr_of_reads' rd h3 (PyData.noDict_hsm (PyData.hasDict_of_canLay _ h1.1.1)) hg 'o' (fun _ _ e=>e) (fun h' u tk hk=>?_) (by rw [sizeLine_eq];omega);exact⟨.str _,H,I.kept hk,⟨_,rfl⟩,q⟩
end
def dSortT(da:TDA):TDE:=fun ρ Q=>da ρ fun xs ρ1=>need (qa1o ρ1 xs) fun ds=>∃ tss:List 'h',ds=[.list (tss.map encT)]/\(∀ t ∈ tss,t ≠ [])/\tss.length < 64/\∀ tss':List 'h',tss'.Perm tss->Q (.d (.list (tss'.map encT))) ρ1
noncomputable def fRepr:FC:=fun ds=>match ds with
 | [.tuple xs]=>if qa7a (.tuple xs)=true then some (.str (PyData.tuple xs).shown) else none
 | _=>none
section
variable{K:W.Frag}
def qb8h{H:Hp}{S S':Addr->Prop}:∀ {tss:List 'h'} {xs:List V},qa0c K H S (tss.map encT) xs->qa0c K H S' (tss.map encT) xs
 | [],xs,h=>by rw [h.unnil];unfold qa0c;rfl
 | t :: r,xs,h=>by
  obtain⟨y,yr,e,hd,tl⟩:=qa0c.uncons (ds:=r.map encT) (d:=encT t) h;subst e;obtain⟨a,ys,rfl,hq,tt⟩:=qa2w hd;have ey:=ints_of_all tt;subst ey;show qa0c K H S' (encT t :: r.map encT) _;unfold qa0c;refine⟨_,_,rfl,?_,qb8h tl⟩;unfold AtD;exact⟨a,_,rfl,hq,qa6z⟩
def ad_repr:AdC K (rRepr K) fRepr:=by
 intro S H vs ds z Q f h e k;unfold fRepr at e;split at e
 ·rename_i xs
  split at e
  ·rename_i hx
   cases e
   obtain⟨v,rfl,h1⟩:=h.one;exact⟨v,Any,xs,rfl,h1.any,hx,k _ _ (Same.refl _) (qa4f _)⟩
  ·cases e
 ·cases e
end
theorem qd0a{da:TDA}{ρ:Rho}{Q:DV->Rho->Prop}:dSortT da ρ Q=(da ρ fun xs ρ1=>need (qa1o ρ1 xs) fun ds=>∃ tss:List 'h',ds=[.list (tss.map encT)]/\(∀ t ∈ tss,t ≠ [])/\tss.length < 64/\∀ tss':List 'h',tss'.Perm tss->Q (.d (.list (tss'.map encT))) ρ1):=rfl
def fSetI_l{ns:List Int}(h:ns.length < 64):fSetI [.list (ns.map .int)]=some (.list ((Sx.srtI (Sx.uniq ns)).map .int)):=by
 show((qa2q (ns.map .int)).bind fun ns=>if ns.length < 64 then _ else _)=_;rw [ints_of,bind_some,if_pos h]
def fSetI_t{ns:List Int}(h:ns.length < 64):fSetI [.tuple (ns.map .int)]=some (.list ((Sx.srtI (Sx.uniq ns)).map .int)):=by
 show((qa2q (ns.map .int)).bind fun ns=>if ns.length < 64 then _ else _)=_;rw [ints_of,bind_some,if_pos h]
def fRepr_t{xs:List PyData}(h:qa7a (.tuple xs)=true):fRepr [.tuple xs]=some (.str (PyData.tuple xs).shown):=if_pos h
section
variable{X:Cx}{e:Expr}{es:List Expr}{daa:TDA}{pos:Pos}
def Room.units2{k:Nat}{A:Around}(r:Room k A):A.units + 80 < cLine:=by have:=r.un;omega
end
end L2
namespace Sn
instance stands:Nonempty Unit:=⟨()⟩
end Sn
end
namespace L2
open PySem PySem.Spec PyProof.Rows
section
noncomputable def Its(x:Str):It:=⟨fun i _=>i < x.cps.size,fun i H y H'=>H'=H/\∃ c,x.cps[i]? = some c/\y=.str ⟨#[c]⟩,fun i _=>x.cps.size <= i⟩
def qc6q{P:Program}{w:World}{K:W.Frag}{tg:Expr}(it:Addr)(x:Str)(t:Tok):Turn P w K tg (Its x) [it] it (fun i h=>h.IsStrIter it "str_ascii_iterator" x t i) where
 mem:=by simp
 obj:=fun i h st b hb=>by
  have e:b=it:=by simpa using hb
  subst e;obtain⟨o,e,c,d⟩:=st;exact⟨o,e,fun v z=>by rw [d] at z;cases z⟩
 keep:=fun i h h' st k=>let ⟨o,ho,r⟩:=st;⟨o,k it 'g' o ho,r⟩
 item:=by
  intro X hP hw hK hc i pins s σ H E I hf st hg;subst hP hw hK;obtain⟨f0,f1,f2,f3,f4,f5⟩:=hf it 'g';refine(Walks.strAscii (prog:=X.prog) (w:=X.w) (I.ok.hd hc) it x t).item i s _ _ hg st fun v h' tk hv st' kk=>?_;obtain⟨c,u,hcu,rfl⟩:=hv;have I1:Inv X pins σ H { s with heap:=h',toks:=tk }:=I.turned (fun b o hb e=>kk b o (by simpa using hb) e) f0 f1 f3 f4 f5;obtain⟨o,e,c1,d⟩:=id st';exact⟨_,rfl,go_of (s:={ s with heap:=h',toks:=tk }) e c1 d 'd' ⟨.str ⟨#[c]⟩,H,I1,⟨u,rfl⟩,⟨rfl,c,hcu,rfl⟩,st',fun b hb=>(hf b hb).1⟩⟩
 done:=by
  intro X hP hw hK hc i pins s σ H E I hf st hg;subst hP hw hK;obtain⟨f0,f1,f2,f3,f4,f5⟩:=hf it 'g';have hn:x.cps[i]? = none:=getElem?_eq_none hg;exact wpAny_pyNext_ascii_end (I.ok.hd hc) st hn fun h' eb=>⟨rfl,I.turned (t':=s.toks) (fun b o hb e=>eb b o hb e) f0 f1 f3 f4 f5⟩
 self:=fun _ _ _ _ _ st h=>wpAny_pyIter_striter_ascii st h
def qc6r{P:Program}{w:World}{K:W.Frag}{tg:Expr}(it:Addr)(x:Str)(t:Tok):Turn P w K tg (Its x) [it] it (fun i h=>h.IsStrIter it "str_iterator" x t i) where
 mem:=by simp
 obj:=fun i h st b hb=>by
  have e:b=it:=by simpa using hb
  subst e;obtain⟨o,e,c,d⟩:=st;exact⟨o,e,fun v z=>by rw [d] at z;cases z⟩
 keep:=fun i h h' st k=>let ⟨o,ho,r⟩:=st;⟨o,k it 'g' o ho,r⟩
 item:=by
  intro X hP hw hK hc i pins s σ H E I hf st hg;subst hP hw hK;obtain⟨f0,f1,f2,f3,f4,f5⟩:=hf it 'g';refine(Walks.strWide (prog:=X.prog) (w:=X.w) (I.ok.hd hc) it x t).item i s _ _ hg st fun v h' tk hv st' kk=>?_;obtain⟨c,u,hcu,rfl⟩:=hv;have I1:Inv X pins σ H { s with heap:=h',toks:=tk }:=I.turned (fun b o hb e=>kk b o (by simpa using hb) e) f0 f1 f3 f4 f5;obtain⟨o,e,c1,d⟩:=id st';exact⟨_,rfl,go_of (s:={ s with heap:=h',toks:=tk }) e c1 d 'd' ⟨.str ⟨#[c]⟩,H,I1,⟨u,rfl⟩,⟨rfl,c,hcu,rfl⟩,st',fun b hb=>(hf b hb).1⟩⟩
 done:=by
  intro X hP hw hK hc i pins s σ H E I hf st hg;subst hP hw hK;obtain⟨f0,f1,f2,f3,f4,f5⟩:=hf it 'g';have hn:x.cps[i]? = none:=getElem?_eq_none hg;exact wpAny_pyNext_wide_end (I.ok.hd hc) st hn fun h' eb=>⟨rfl,I.turned (t':=s.toks) (fun b o hb e=>eb b o hb e) f0 f1 f3 f4 f5⟩
 self:=fun _ _ _ _ _ st h=>wpAny_pyIter_striter_wide st h
section
variable{X:Cx}{tg:Expr}
def iStr(tl:TE):TI:=fun σ H R=>tl σ H fun x H1=>∃ z,x=.str z/\R (Its z) H1
def pi_str{l:Expr}{tl:TE}(hl:PE X l tl):PI X tg l (iStr tl):=by
 intro pins s σ H R I h;refine thn (hl pins s σ H _ I h) fun v s1 hq9=>?_;obtain⟨x,H1,I1,r1,q1⟩:=hq9;obtain⟨z,rfl,q⟩:=q1;obtain⟨t,rfl⟩:=r1;have fp:∀ b ∈ [s1.heap.objs.size],FpOk X pins H1 b:=fun b hb=>by
  have e:b=s1.heap.objs.size:=by simpa using hb
  subst e;exact I1.fpOk 'e' (I1.hok.fresh 'e')
 cases ha:z.cps.all (· < 128) with
 | true=>exact wpAny_pyIter_ascii ha ⟨s1.heap.objs.size,[s1.heap.objs.size],_,_,H1,rfl,I1.kept (t':=s1.toks) fun b o e=>get?_push_of_some _ e,qc6q _ z t,⟨_,get?_push_size _ rfl,rfl,rfl⟩,fp,q⟩
 | false=>exact wpAny_pyIter_wide ha ⟨s1.heap.objs.size,[s1.heap.objs.size],_,_,H1,rfl,I1.kept (t':=s1.toks) fun b o e=>get?_push_of_some _ e,qc6r _ z t,⟨_,get?_push_size _ rfl,rfl,rfl⟩,fp,q⟩
end
abbrev signs(x:Str):List PyData:=x.cps.toList.map fun c=>.str ⟨#[c]⟩
noncomputable def asSt:PyData->Option Str
 | .str x=>some x
 | _=>none
theorem asSt_s{x:Str}:asSt (.str x)=some x:=rfl
def diStr(de:TDE):TDI:=fun ρ Q=>de ρ fun x ρ1=>need (qa0m ρ1 x) fun d=>need (asSt d) fun z=>Q (signs z) ρ1
section
variable{K:W.Frag}{H:Hp}{S:Addr->Prop}
def qc4b{z:Str}:qa9q K S H (Its z) (signs z):=fun S' H' P=>by
 refine⟨fun i x e=>?_,by simp [Its]⟩;rw [getElem?_map,getElem?_toList] at e;obtain⟨c,hc,rfl⟩:=map_eq_some_iff.mp e;refine⟨(Array.getElem?_eq_some_iff.mp hc).1,fun v H'' y=>?_⟩;obtain⟨rfl,c',hc',rfl⟩:=y;rw [hc] at hc';cases hc';exact⟨Same.refl _,qa4f _⟩
def ai_str{t:TE}{de:TDE}(h:AdE K t de):AdI K (iStr t) (diStr de):=fun c O ρ σ H Qd Q R q k =>
 h c O ρ σ H _ _ R q fun x ρ1 O1 v H1 h1 R1 P1 a1=>by
  obtain⟨d,e1,hn1⟩:=ne (h1);obtain⟨z,e2,h2⟩:=ne (hn1);cases d with
  | str z' =>
   cases e2
   exact⟨z,(R1.top a1 e1).str,k _ _ _ _ _ h2 R1 P1 qc4b⟩
  | _=>cases e2
end
def di_str{X:Cx}{tg e:Expr}{de:TDE}(h:DE X e de):DI X tg e (diStr de):=by obtain⟨_,p,a⟩:=h;exact⟨_,pi_str p,ai_str a⟩
theorem diStr_a{de:TDE}{ρ:Rho}{Q:List PyData->Rho->Prop}:diStr de ρ Q=(de ρ fun x ρ1=>need (qa0m ρ1 x) fun d=>need (asSt d) fun z=>Q (signs z) ρ1):=rfl
noncomputable def leC(x y:Str):Bool:=decide (x.cps.toList <= y.cps.toList)
def rLeS:R2:=fun x y H Q=>∃ i j,x=.str i/\y=.str j/\Q (.bl (leC i j)) H
def op_leS{X:Cx}:OpR X (compareOp .LtE) rLeS:=by
 intro pins s σ H x y v u Q I rx ry h;obtain⟨i,j,rfl,rfl,q⟩:=h;obtain⟨t,rfl⟩:=rx;obtain⟨t',rfl⟩:=ry;refine P.le_str ⟨.bl _,H,I,?_,q⟩;show Value.bool _=Value.bool (leC i j);congr 1;unfold leC;rw [Bool.eq_iff_iff];simp [List.not_lt]
noncomputable def fLeS:F2
 | .str i,.str j=>some (.bool (leC i j))
 | _,_=>none
theorem fLeS_s{x y:Str}:fLeS (.str x) (.str y)=some (.bool (leC x y)):=rfl
def ad_leS{K:W.Frag}:AdR K rLeS fLeS:=by
 intro S H x y dx dy z Q f hx hy e k;unfold fLeS at e;split at e
 ·cases e
  exact⟨_,_,hx.str,hy.str,k _ _ (Same.refl _) (qa2d _)⟩
 ·cases e
section
variable{X:Cx}
noncomputable def rAllB(K:W.Frag):List V->Hp->VK->Prop:=fun xs H Q=>∃ v S,∃ bs:List Bool,xs=[v]/\AtD K H S (.list (bs.map .bool)) v/\Q (.bl (bs.all id)) H
def bools_of_all{K:W.Frag}{H:Hp}{S:Addr->Prop}:∀ {bs:List Bool} {xs:List V},qa0c K H S (bs.map .bool) xs->xs=bs.map V.bl
 | [],xs,h=>by rw [h.unnil];rfl
 | n :: r,xs,h=>by
  obtain⟨v,vr,rfl,hd,t⟩:=h.uncons;rw [qa5z hd,bools_of_all t];rfl
def qb3w:∀ {bs:List Bool} {us:List Value},Vals (bs.map V.bl) us->us=bs.map Value.bool
 | [],us,h=>by rw [Vals.zero h];rfl
 | x :: r,us,h=>by
  cases h with
  | cons h1 h2 =>
   rw [qb3w h2,map_cons];congr 1
def qb6i(hc:X.calm=true):qa1z X (.builtin "all") (rAllB X.K):=by
 intro pins s σ H xs us Q I rs h;obtain⟨v,S,bs,rfl,hd,q⟩:=h;obtain⟨u,rfl,r⟩:=vals1 rs;obtain⟨a,ys,rfl,_,hq,t⟩:=qa3q hd;cases r;have ey:=bools_of_all t;subst ey;obtain⟨its,rv,pl,hz⟩:=I.list (SqL.of hq);have ei:=qb3w rv;subst ei;have la:a < s.heap.objs.size:=lt_size pl.isList.choose_spec.1;refine call_all_walk (wpAny_pyIter_list pl.isList ⟨s.heap.objs.size,_,_,_,_,_,fun i=>bs.getD i true,rfl,Walks.list (by simpa using I.ok.hd hc) s.heap.objs.size a (ne_of_lt la) (bs.map Value.bool).toArray,⟨⟨_,get?_push_size _ rfl,rfl,rfl⟩,pl.isList.push _⟩,fun i v s' Q' E' hP hQ=>?_,fun h' tk hk=>?_⟩)
 ·have hP:(bs.map Value.bool).toArray[i]? = some v:=hP
  rw [getElem?_toArray,getElem?_map] at hP;obtain⟨b,hb,rfl⟩:=map_eq_some_iff.mp hP;have e:bs.getD i true=b:=by rw [getD_eq_getElem?_getD,hb];rfl
  have hQ:Q' (bs.getD i true) s':=hQ;rw [e] at hQ;exact wpAny_truthy_bool hQ
 ·have e:((List.range (bs.map Value.bool).toArray.size).all fun i=>bs.getD i true)=bs.all id:=by
   rw [size_toArray,length_map,Bool.eq_iff_iff,all_eq_true,all_eq_true];constructor
   ·intro h b hb
    obtain⟨i,hi,rfl⟩:=getElem_of_mem hb;have:=h i (mem_range.mpr hi);rw [getD_eq_getElem?_getD,getElem?_eq_getElem hi] at this;exact this
   ·intro h i hi
    have hi':=mem_range.mp hi;rw [getD_eq_getElem?_getD,getElem?_eq_getElem hi'];exact h _ (getElem_mem hi')
  rw [e];refine⟨.bl _,H,I.kept fun b o e=>hk b o ?_ (get?_push_of_some _ e),rfl,q⟩;rw [mem_singleton];exact ne_of_lt (lt_size e)
end
noncomputable def qa8l:List PyData->Option (List Bool)
 | []=>some []
 | .bool b :: r=>(qa8l r).map (b :: ·)
 | _ :: _=>none
def qb6j:∀ bs:List Bool,qa8l (bs.map .bool)=some bs
 | []=>rfl
 | x :: r=>by show(qa8l (r.map .bool)).map (x :: ·)=_;rw [qb6j r];rfl
def qb3x:∀ {xs:List PyData} {bs:List Bool},qa8l xs=some bs->xs=bs.map .bool
 | [],bs,h=>by cases h;rfl
 | .bool x :: r,bs,h=>by
  have h':(qa8l r).map (x :: ·)=some bs:=h;obtain⟨qs,h1,rfl⟩:=map_eq_some_iff.mp h';rw [qb3x h1];rfl
noncomputable def fAllB:FC:=fun ds=>match ds with
 | [.list xs]=>(qa8l xs).map fun bs=>.bool (bs.all id)
 | _=>none
def qb8i(bs:List Bool):fAllB [.list (bs.map .bool)]=some (.bool (bs.all id)):=by
 show(qa8l (bs.map .bool)).map _=_;rw [qb6j];rfl
def qc2k{K:W.Frag}:AdC K (rAllB K) fAllB:=by
 intro S H vs ds z Q f h e k;unfold fAllB at e;split at e
 ·rename_i xs
  obtain⟨bs,q1,rfl⟩:=map_eq_some_iff.mp e;obtain⟨v,rfl,h1⟩:=h.one;have e1:=qb3x q1;subst e1;exact⟨v,Any,bs,rfl,h1.any,k _ _ (Same.refl _) (qa2d _)⟩
 ·cases e
end
section
def sign_in(x:Str)(c:Nat):(!(Builtin.Str.occurrences x ⟨#[c]⟩ 0 x.length 1).isEmpty)=x.cps.toList.contains c:=by
 rw [Bool.eq_iff_iff,StrLaws.found_iff,List.contains_iff_mem];constructor
 ·rintro⟨i,h1,h2⟩
  have h1':i + 1 <= x.cps.size:=h1;have e:x.cps.extract i (i + 1) = #[c]:=by
   unfold Builtin.Str.subAt at h2;exact eq_of_beq h2
  have hi:i < x.cps.size:=by omega
  have e2:x.cps[i]=c:=by
   have:(x.cps.extract i (i + 1))[0]? = some c:=by rw [e];rfl
   rw [Array.getElem?_extract] at this;simp [hi] at this;exact this.2
  rw [← e2];exact Array.mem_toList_iff.mpr (Array.getElem_mem hi)
 ·intro h
  obtain⟨i,hi,e⟩:=getElem_of_mem h;rw [length_toList] at hi;refine⟨i,(show i + 1 <= x.cps.size by omega),?_⟩;unfold Builtin.Str.subAt;have e2:x.cps.extract i (i + 1) = #[c]:=by
   apply Array.ext'
   rw [Array.toList_extract,List.extract_eq_take_drop];have ed:x.cps.toList.drop i=c :: x.cps.toList.drop (i + 1):=by rw [← e];exact drop_eq_getElem_cons (by rw [length_toList];exact hi)
   rw [ed];simp
  show(x.cps.extract i (i + 1) == #[c])=true;rw [e2];exact beq_self_eq_true _
def qd0b{neg:Bool}{x:Str}{c:Nat}:fIn neg (.str ⟨#[c]⟩) (.str x)=some (.bool (if neg then !x.cps.toList.contains c else x.cps.toList.contains c)):=by
 show some (PyData.bool (if neg then !(!(Builtin.Str.occurrences x ⟨#[c]⟩ 0 x.length 1).isEmpty) else !(Builtin.Str.occurrences x ⟨#[c]⟩ 0 x.length 1).isEmpty))=_;rw [sign_in]
end
section
noncomputable def putG(κ:List (Key × FD))(k:Key)(f:FD):List (Key × FD):=if (κ.any fun q=>decide (q.1=k))=true then κ.map (fun q=>if q.1=k then(q.1,f) else q) else κ ++ [(k,f)]
def putG_E(κ:List (Key × FD))(k:Key)(f:FD):(putG κ k f).map gE=putK (κ.map gE) k f.v:=by
 have ea:((κ.map gE).any fun kv=>decide (kv.1=k))=κ.any fun q=>decide (q.1=k):=by
  rw [any_map];rfl
 unfold putG putK;rw [ea];split
 ·rw [map_map,map_map]
  refine map_congr_left fun q _=>?_;show gE (if q.1=k then(q.1,f) else q)=if (gE q).1=k then((gE q).1,f.v) else gE q
  by_cases c:q.1=k
  ·rw [if_pos c,if_pos (show(gE q).1=k from c)];rfl
  ·rw [if_neg c,if_neg (show ¬ (gE q).1=k from c)]
 ·rw [map_append];rfl
noncomputable def qa3e:PyData->Option Key
 | .int i=>some (.inl i)
 | .str x=>some (.inr x)
 | _=>none
noncomputable def asF:PyData->Option FD
 | .none=>some .none
 | .bool b=>some (.bool b)
 | .int n=>some (.int n)
 | .str x=>some (.str x)
 | _=>none
def qb0j{K:W.Frag}{H:Hp}{S:Addr->Prop}{d:PyData}{v:V}{k:Key}(h:AtT K H S d v)(e:qa3e d=some k):v=kV k:=by
 cases d with
 | int i=>cases e;exact h.int
 | str x=>cases e;exact h.str
 | _=>cases e
def asF_at{K:W.Frag}{H:Hp}{S:Addr->Prop}{d:PyData}{v:V}{f:FD}(h:AtT K H S d v)(e:asF d=some f):v=f.v:=by
 cases d with
 | none=>cases e;exact h.none
 | bool b=>cases e;exact h.bool
 | int i=>cases e;exact h.int
 | str x=>cases e;exact h.str
 | _=>cases e
structure PinK(K:W.Frag)(c:Rc)(p:Addr)(ν:List (Key × V))(i:Nat)(O:Own)(ρ:Rho)(σ:St)(H:Hp):Prop where
 rel:Rel K (c.reb O p H) O ρ σ H
 at_:H p=some (.dK ν)
 slot:σ[i]? = some (some (.ref p))
 nul:ρ[i]? = some none
 bA:∀ j q,O j=some q->c.A q
 bS:∀ b o,¬ c.M b->c.H0 b=some o->H b=some o
 bK:∀ b,c.H0 b ≠ none->H b ≠ none
 bM:∀ q,c.M q->∃ vs,H q=some (.lst vs)
 am:∀ q,c.A q->c.M q ∨ c.H0 q=none
 frs:∀ q,c.H0 q=none->c.S q
 fr0:c.H0 p=none
 np:¬ c.P p
section
variable{K:W.Frag}{c:Rc}{O O1:Own}{ρ ρ1:Rho}{σ σ1:St}{H H1 H2:Hp}{p:Addr}{ν μ:List (Key × V)}{i:Nat}
def PinK.notO(P:PinK K c p ν i O ρ σ H)(j:Nat):O j ≠ some p:=fun e=>by
 obtain⟨_,vs,h⟩:=P.rel.has j p e;rw [P.at_] at h;cases h
def PinK.stays(P:PinK K c p ν i O ρ σ H)(R:Rel K (c.reb O p H) O1 ρ1 σ1 H1):H1 p=some (.dK ν):=R.same p _ (fun hq8=>by obtain⟨j,e⟩:=hq8;exact P.notO j e) P.at_
def PinK.step(P:PinK K c p ν i O ρ σ H)(R:Rel K (c.reb O p H) O1 ρ1 σ1 H1)(hs:σ1[i]? = some (some (.ref p)))(hn:ρ1[i]? = some none)(ne:∀ b,b ≠ p->H2 b=H1 b)(h2:H2 p=some (.dK μ)) :
  PinK K c p μ i O1 ρ1 σ1 H2/\Pers K (live (c.reb O p H) O1) H1 (live (c.reb O1 p H2) O1) H2:=by
 have h1:=P.stays R;have kp:Keep (live (c.reb O p H) O1) H1 H2:=⟨fun b ws e=>by rw [ne b (qa7f e h1 (by intro z;cases z))];exact e,fun b o u e=>by rw [ne b (qa7f e h1 (by intro z;cases z))];exact e,fun b o hl e=>by rw [ne b (fun z=>hl.2.1 (.inr z))];exact e⟩;have hp:Pers K (live (c.reb O p H) O1) H1 (live (c.reb O1 p H2) O1) H2:=.of kp fun a z=>z;have ho:∀ j q vs,O1 j=some q->H1 q=some (.lst vs)->H2 q=some (.lst vs):=fun j q vs _ e=>by rw [ne q (qa7f e h1 (by intro z;cases z))];exact e
 have nn:∀ q,H2 q=none->q ≠ p/\H1 q=none:=fun q z=>by
  have:q ≠ p:=by rintro rfl;rw [h2] at z;cases z
  exact⟨this,by rw [← ne q this];exact z⟩
 refine⟨⟨R.to (fun _=>rfl) (fun _ _ _ z=>z) rfl rfl hp ho (fun j q e _=>⟨j,e⟩) (fun q z=>.inl z) (fun q z=>R.frs q (R.free0 (nn q z).2)) (fun b o _ z=>z) (fun b z=>z) (fun q ⟨j,e⟩=>?_) (fun q z w=>R.pin q z (nn q w).2) (fun _=>rfl) (R.sc.keep kp),h2,hs,hn,fun j q e=>?_,fun b o nM e=>?_,fun b z w=>?_,fun q z=>?_,P.am,P.frs,P.fr0,P.np⟩,hp⟩
 ·obtain⟨_,vs,e'⟩:=R.has j q e
  exact⟨vs,ho j q vs e e'⟩
 ·obtain⟨j',e'⟩:=(R.has' j q e).1
  exact P.bA j' q e'
 ·have hb:b ≠ p:=by rintro rfl;rw [P.fr0] at e;cases e
  rw [ne b hb];refine R.same b o (fun hq8=>?_) (P.bS b o nM e);obtain⟨j,e'⟩:=hq8;rcases P.am b (P.bA j b e') with z | z
  ·exact nM z
  ·rw [e] at z;cases z
 ·obtain⟨_,w'⟩:=nn b w
  exact R.kept b (P.bK b z) w'
 ·have hq:∃ vs,H1 q=some (.lst vs):=by
   by_cases hj:∃ j,O j=some q
   ·exact R.ml q hj
   ·obtain⟨vs,e⟩:=P.bM q z
    exact⟨vs,R.same q _ hj e⟩
  obtain⟨vs,e⟩:=hq;exact⟨vs,by rw [ne q (qa7f e h1 (by intro z;cases z))];exact e⟩
def PinK.start(R:Rel K c O ρ σ H)(hi:i < ρ.length)(hp:H p=none) :
  PinK K c p ν i (qa2p O i) (ρ.set i none) (σ.set i (some (.ref p))) (upd H p (.dK ν))/\Pers K (live c O) H (live (c.reb (qa2p O i) p (upd H p (.dK ν))) (qa2p O i)) (upd H p (.dK ν)):=by
 obtain⟨R1,P1⟩:=R.setD (x:=.none) (v:=.non) hi qa5y;have R2:=R1.forget (i:=i);rw [List.set_set] at R2;have hn:(ρ.set i none)[i]? = some none:=getElem?_set_self hi;have R3:=R2.poke (v:=.ref p) hn;rw [List.set_set] at R3;obtain⟨R4,P4⟩:=R3.lay (o:=.dK ν) hp;have fr0:c.H0 p=none:=R.free0 hp;refine⟨⟨R4.to (fun _=>rfl) (fun _ _ _ z=>z) rfl rfl (.of (Keep.refl _ _) fun a z=>z) (fun _ _ _ _ q=>q) (fun j q e _=>⟨j,e⟩) (fun q z=>.inl z) (fun q z=>R4.frs q (R4.free0 z)) (fun b o _ z=>z) (fun b z=>z) (fun q hq8=>by obtain⟨j,e⟩:=hq8;exact(R4.has j q e).2) R4.pin (fun _=>rfl) R4.sc,
  qa0h,getElem?_set_self (by rw [R.len];exact hi),hn,fun j q e=>(R4.has' j q e).1,R4.same,R4.kept,R4.ml,R4.am,R4.frs,fr0,fun z=>R.pin p (.inl z) hp⟩,(P1.trans P4).trans (.of (Keep.refl _ _) fun a z=>z)⟩
def PinK.finish{kvs:List 'i'}(P:PinK K c p ν i O ρ σ H)(hk:qa0e K H (live (c.reb O p H) O) kvs ν):Rel K c (qa2p O i) (ρ.set i (some (.d (.dict kvs)))) σ H/\Pers K (live (c.reb O p H) O) H (live c (qa2p O i)) H:=by
 have R1:Rel K (c.add p) O ρ σ H:=P.rel.to (fun _=>rfl) (fun _ _ _ z=>z) rfl rfl (.of (Keep.refl _ _) fun a z=>z) (fun _ _ _ _ q=>q) (fun j q e _=>P.bA j q e) P.am P.frs P.bS P.bK P.bM P.rel.pin (fun _=>rfl) P.rel.sc;obtain⟨R2,P2⟩:=R1.unadd;have hi:i < ρ.length:=(List.getElem?_eq_some_iff.mp P.nul).1;obtain⟨R3,P3⟩:=R2.setD (i:=i) (x:=.dict kvs) (v:=.ref p) hi (qa4y ⟨P.frs p P.fr0,P.np,P.notO⟩ P.at_ ((Pers.trans (.of (Keep.refl _ _) fun a z=>z) P2).kvs hk));have e:σ.set i (some (.ref p))=σ:=by
  refine List.ext_getElem? fun j=>?_;by_cases hj:j=i
  ·subst hj
   rw [getElem?_set_self (List.getElem?_eq_some_iff.mp P.slot).1,P.slot]
  ·exact getElem?_set_ne (Ne.symm hj)
 rw [e] at R3;exact⟨R3,(Pers.trans (.of (Keep.refl _ _) fun a z=>z) P2).trans P3⟩
end
def qa6e(i:Nat)(dg:TDG)(dk dv:TDE)(Q:List (Key × FD)->Rho->Prop):List PyData->Rho->List (Key × FD)->Prop
 | [],ρ,ν=>Q ν ρ
 | x :: r,ρ,ν=>ν.length < 1000/\dg x ρ fun ρ0=>dv ρ0 fun y ρ1=>dk ρ1 fun z ρ2=>ρ2[i]? = some none/\need (qa0m ρ2 y) fun dy=>need (asF dy) fun n=>need (qa0m ρ2 z) fun dz=>need (qa3e dz) fun k=>qa6e i dg dk dv Q r ρ2 (putG ν k n)
def qb5c(i:Nat)(di:TDI)(dg:TDG)(dk dv:TDE)(Q:List (Key × FD)->Rho->Prop)(ρ:Rho):Prop:=i < ρ.length/\di (ρ.set i none) fun xs ρ1=>ρ1[i]? = some none/\qa6e i dg dk dv Q xs ρ1 []
section
variable{K:W.Frag}
def qc4c{i:Nat}{ti:TI}{g:TG}{dg:TDG}{tk tv:TE}{di:TDI}{dk dv:TDE}{u:TS}(hI:AdI K ti di)(hg:AdGi K i g dg)(hk:AdE K tk dk)(hv:AdE K tv dv){c:Rc}{O:Own}{ρ:Rho}{σ:St}{H:Hp}{D:Ends}{Qd:List (Key × FD)->Rho->Prop}(R:Rel K c O ρ σ H)
  (h:qb5c i di dg dk dv Qd ρ) (hu:∀ p O' ρ' σ' H' ν,PinK K c p (ν.map gE) i O' ρ' σ' H'->Pers K (live c O) H (live (c.reb O' p H') O') H'->Qd ν ρ'->u D σ' H') :
  tSeq (tAsg qb1g (qa3b i)) (tSeq (tFor ti g (qb0h (tVar i) tk tv)) u) D σ H:=by
 obtain⟨hi,h⟩:=h;intro p hp;obtain⟨P0,Q0⟩:=PinK.start (i:=i) (ν:=[]) R hi hp;show tFor ti g (qb0h (tVar i) tk tv) { D with nx:=u D } (σ.set i (some (.ref p))) (upd H p (.dK []));refine hI _ _ _ _ _ _ _ P0.rel h fun xs ρ1 O1 J H1 h1 R1 P1 I1=>?_;obtain⟨hn1,h1⟩:=h1;obtain⟨Pa,Qa⟩:=P0.step (H2:=H1) (μ:=[]) R1 P0.slot hn1 'b' (P0.stays R1);refine⟨fun a m σ' H'=>m=xs.length - a/\a <= xs.length/\∃ O' ρ' ν,PinK K c p (ν.map gE) i O' ρ' σ' H'/\Pers K (live (c.reb (qa2p O i) p (upd H p (.dK []))) O1) H1 (live (c.reb O' p H') O') H'/\qa6e i dg dk dv Qd (xs.drop a) ρ' ν,
  ⟨xs.length,by simp,zero_le _,O1,ρ1,[],Pa,Qa,by rw [drop_zero];exact h1⟩,?_⟩
 rintro a m σ2 H2 ⟨rfl,hle,O2,ρ2,ν,P2,Q2,h2⟩;obtain⟨it,stop⟩:=I1 _ _ Q2;by_cases hlt:a < xs.length
 ·rw [drop_eq_getElem_cons hlt] at h2
  obtain⟨go,yld⟩:=it a xs[a] (getElem?_eq_getElem hlt);obtain⟨hl,h2⟩:=h2;refine .inr ⟨go,fun σ' H'=>∃ O' ρ' ν,PinK K c p (ν.map gE) i O' ρ' σ' H'/\Pers K (live (c.reb (qa2p O i) p (upd H p (.dK []))) O1) H1 (live (c.reb O' p H') O') H'/\qa6e i dg dk dv Qd (xs.drop (a + 1)) ρ' ν,
   fun σ' H' hq8=>by obtain⟨O',ρ',ν',P',Q',q'⟩:=hq8;exact⟨xs.length - (a + 1),'o',rfl,hlt,O',ρ',ν',P',Q',q'⟩,fun v H3 y=>?_⟩
  obtain⟨s3,a3⟩:=yld v H3 y;refine hg _ _ _ _ _ _ _ _ _ (P2.rel.grow s3) a3 h2 fun O4 ρ4 σ4 R4 P4 e4 h4=>?_;have hs4:σ4[i]? = some (some (.ref p)):=by rw [e4];exact P2.slot
  show qb0h (tVar i) tk tv _ σ4 H3;refine hv _ _ _ _ _ _ _ R4 h4 fun y5 ρ5 O5 v5 H5 h5 R5 P5 a5=>?_;refine⟨.ref p,hs4,?_⟩;refine hk _ _ _ _ _ _ _ R5 h5 fun z6 ρ6 O6 v6 H6 h6 R6 P6 a6=>?_;obtain⟨hn6,hn1⟩:=h6;obtain⟨dy,e1,hn2⟩:=ne (hn1);obtain⟨n,e2,hn3⟩:=ne (hn2);obtain⟨dz,e3,hn4⟩:=ne (hn3);obtain⟨k,e4,h6⟩:=ne (hn4);have ev:v5=n.v:=asF_at (R6.top (a5.pers P6) e1) e2;have ek:v6=kV k:=qb0j (R6.top a6 e3) e4;subst ev ek;have h6p:=P2.stays R6;refine⟨p,_,rfl,DPut.k (k:=k) h6p (by rw [length_map];exact qb3r hl),?_⟩;rw [← putG_E];obtain⟨P7,Q7⟩:=P2.step (H2:=upd H6 p (.dK ((putG ν k n).map gE))) (μ:=(putG ν k n).map gE) R6 hs4 hn6 (fun b hb=>qa0f hb) qa0h;exact⟨O6,ρ6,_,P7,((((Q2.trans (.same s3)).trans P4).trans P5).trans P6).trans Q7,h6⟩
 ·have e:a=xs.length:=by omega
  subst e;rw [drop_eq_nil_of_le 'e'] at h2;refine .inl ⟨stop,?_⟩;exact hu p O2 ρ2 σ2 H2 ν P2 ((Q0.trans P1).trans Q2) h2
def qd0c{i:Nat}{ti:TI}{g:TG}{dg:TDG}{tk tv:TE}{di:TDI}{dk dv:TDE}{u:TS}{du:TDS}(hI:AdI K ti di)(hg:AdGi K i g dg)(hk:AdE K tk dk)(hv:AdE K tv dv)(hu:AdS K u du) :
  AdS K (tSeq (tAsg qb1g (qa3b i)) (tSeq (tFor ti g (qb0h (tVar i) tk tv)) u)) (fun D ρ=>qb5c i di dg dk dv (fun ν ρ'=>later du D (ρ'.set i (some (.d (.dict (ν.map gD)))))) ρ):=by
 intro c O ρ σ H D Dd R E h;refine qc4c hI hg hk hv R h fun p O' ρ' σ' H' ν P Q q=>?_;obtain⟨R8,P8⟩:=P.finish (qa0e.flat ν);exact hu c _ _ σ' _ D Dd R8 (E.later (Q.trans P8)) q
end
section
variable{X:Cx}{iter kE vE tg:Expr}{rest:List Stmt}{di:TDI}{dg:TDG}{dk dv:TDE}{du:TDS}{x y z:Str}{pos p1 p2 p3 p4 p5 p6 p7 p8 p9 p10 p11 p12 p13:Pos}
def qc6s{i:Nat}(hN:X.N.Nodup)(hi:X.N[i]? = some x)(hx:Loc X.env.scope x)(hc:X.calm=true)(hu:X.A.units + 64 < cLine)(hp:PassesOwn (model X.prog X.w) X.A X.env X.xe)
  (hI:DI X tg iter di) (hg:DGi X i tg dg) (hk:DE X kE dk) (hv:DE X vE dv) (hr:DSs X rest du)
  (hvs:Vis X.env.scope x:=by first | exact Or.inl rfl | exact Or.inr 'f' | exact Or.inr (Or.inr rfl)) (hd:(x == ("__debug__" : Str))=false:=by decide) (hcd:(x == ("__classdict__" : Str))=false:=by decide)
  (hf:X.fn x=true ∨ X.env.scope.names.lookup x=some .local:=by first | exact .inl rfl | exact .inr rfl)
  (hs1:swapsWith (.Dict [] [] p1) (some (.Name x p2)) p9.line X.env=pure false:=by rfl) (hs2:swapsWith vE (some (.Subscript (.Name x p4) kE p5)) p6.line X.env=pure false:=by rfl) (hs3:∀ z,foldedSetIterable iter X.env z=pure z:=by intro _;rfl) :
  DSs X (.Assign [.Name x p2] (.Dict [] [] p1) p9 :: .For tg iter [.Assign [.Subscript (.Name x p4) kE p5] vE p6] [] p13 :: rest)
   (fun D ρ=>qb5c i di dg dk dv (fun ν ρ'=>later du D (ρ'.set i (some (.d (.dict (ν.map gD)))))) ρ):=by
 obtain⟨ti,pI,aI⟩:=hI;obtain⟨g,pg,ag⟩:=hg;obtain⟨tk,pk,ak⟩:=hk;obtain⟨tv,pv',av⟩:=hv;obtain⟨u,pu,au⟩:=hr;exact⟨_,qa1k (qa3c hN hi hx qb2v hs1 hf) (qa1k (qb7b hp hc pI pg (qa2j (qc2d 'o' (qa9d hi hvs hd hcd) pk pv' hs2)) hs3) pu),qd0c aI ag ak av au⟩
end
section
variable{X:Cx}
def rInD(neg:Bool):R2:=fun x y H Q=>∃ a kvs k,y=.ref a/\H a=some (.dK kvs)/\x=kV k/\Q (.bl (if neg then !(valV kvs k).isSome else(valV kvs k).isSome)) H
def op_inD(hu:X.A.units + 64 < cLine):OpR X (compareOp .In) (rInD false):=by
 intro pins s σ H x y v u Q I rx ry h;obtain⟨a,kvs,k,rfl,ha,rfl,q⟩:=h;cases ry;exact d_in 'o' I (DGet.k ha) rx fun s' I'=>⟨.bl _,H,I',rfl,q⟩
def qc6t(hu:X.A.units + 64 < cLine):OpR X (compareOp .NotIn) (rInD true):=by
 intro pins s σ H x y v u Q I rx ry h;obtain⟨a,kvs,k,rfl,ha,rfl,q⟩:=h;cases ry;exact d_notIn 'o' I (DGet.k ha) rx fun s' I'=>⟨.bl _,H,I',rfl,q⟩
end
noncomputable def unG:List 'i'->Option (List (Key × FD))
 | []=>some []
 | (k,f) :: r=>(qa3e k).bind fun k=>(asF f).bind fun f=>(unG r).map ((k,f) :: ·)
def qb2w(k:Key):qa3e (keyD k)=some k:=by cases k<;>rfl
def asF_of(f:FD):asF f.d=some f:=by cases f<;>rfl
def unG_of:∀ κ:List (Key × FD),unG (κ.map gD)=some κ
 | []=>rfl
 | (k,f) :: r=>by
  show(qa3e (keyD k)).bind (fun k=>(asF f.d).bind fun f=>(unG (r.map gD)).map ((k,f) :: ·))=_;rw [qb2w,bind_some,asF_of,bind_some,unG_of r];rfl
def qc6u{d:PyData}{k:Key}(h:qa3e d=some k):d=keyD k:=by
 cases d<;>cases h<;>rfl
def asF_inv{d:PyData}{f:FD}(h:asF d=some f):d=f.d:=by
 cases d<;>cases h<;>rfl
def qc2l:∀ {kvs:List 'i'} {κ:List (Key × FD)},unG kvs=some κ->kvs=κ.map gD
 | [],κ,h=>by cases h;rfl
 | (k,f) :: r,κ,h=>by
  obtain⟨k',e1,h⟩:=bind_eq_some_iff.mp (show(qa3e k).bind (fun k=>(asF f).bind fun f=>(unG r).map ((k,f) :: ·))=some κ from h);obtain⟨f',e2,h⟩:=bind_eq_some_iff.mp h;obtain⟨t,e3,rfl⟩:=map_eq_some_iff.mp h;rw [qc6u e1,asF_inv e2,qc2l e3];rfl
noncomputable def fInD(neg:Bool):F2:=fun x y=>match y with
 | .dict kvs=>(qa3e x).bind fun k=>(unG kvs).map fun κ=>.bool (if neg then !(κ.any fun q=>decide (q.1=k)) else κ.any fun q=>decide (q.1=k))
 | _=>none
def qc2m{neg:Bool}{κ:List (Key × FD)}{x:PyData}{k:Key}(h:qa3e x=some k):fInD neg x (.dict (κ.map gD))=some (.bool (if neg then !(κ.any fun q=>decide (q.1=k)) else κ.any fun q=>decide (q.1=k))):=by
 show(qa3e x).bind (fun k=>(unG (κ.map gD)).map _)=_;rw [h,bind_some,unG_of];rfl
def qb8j(k:Key):∀ κ:List (Key × FD),(valV (κ.map gE) k).isSome=κ.any fun q=>decide (q.1=k)
 | []=>rfl
 | (a,f) :: r=>by
  rw [map_cons,any_cons];by_cases e:a=k
  ·rw [show valV (gE (a,f) :: List.map gE r) k=some f.v from qa6c (p:=gE (a,f)) e,decide_eq_true (show(a,f).1=k from e)];rfl
  ·rw [qa6d (p:=gE (a,f)) e,qb8j k r,decide_eq_false (show ¬ (a,f).1=k from e),Bool.false_or]
def ad_inD{K:W.Frag}{neg:Bool}:AdR K (rInD neg) (fInD neg):=by
 intro S H x y dx dy z Q f hx hy e k;unfold fInD at e;split at e
 ·rename_i kvs
  obtain⟨kk,e1,e⟩:=bind_eq_some_iff.mp e;obtain⟨κ',e2,e⟩:=map_eq_some_iff.mp e;cases e;obtain⟨a,κ,rfl,_,q,t⟩:=hy.dict;rw [qc2l e2] at t;have e3:=t.unflat;subst e3;refine⟨a,_,kk,rfl,q,qb0j hx e1,?_⟩;rw [qb8j];exact k _ _ (Same.refl _) (qa2d _)
 ·cases e
def qc6v{i:Nat}{dg:TDG}{dk dv:TDE}{Q:List (Key × FD)->Rho->Prop}{xs:List PyData}(J:Nat->Rho->List (Key × FD)->Prop)
  (hs:∀ a x ρ ν (N:Rho->List (Key × FD)->Prop),xs[a]? = some x->J a ρ ν->(∀ ρ' ν',J (a + 1) ρ' ν'->N ρ' ν')->ν.length < 1000/\dg x ρ fun ρ0=>dv ρ0 fun y ρ1=>dk ρ1 fun z ρ2=>ρ2[i]? = some none/\need (qa0m ρ2 y) fun dy=>need (asF dy) fun n=>need (qa0m ρ2 z) fun dz=>need (qa3e dz) fun k=>N ρ2 (putG ν k n))
  (hf:∀ ρ ν,J xs.length ρ ν->Q ν ρ) {ρ:Rho} {ν:List (Key × FD)} (h0:J 0 ρ ν):qa6e i dg dk dv Q xs ρ ν:=by
 have go:∀ m a,m + a=xs.length->∀ ρ ν,J a ρ ν->qa6e i dg dk dv Q (xs.drop a) ρ ν:=by
  intro m;induction m with
  | zero =>
   intro a ha ρ ν h;have:a=xs.length:=by omega
   subst this;rw [drop_eq_nil_of_le 'e'];exact hf ρ ν h
  | succ m ih =>
   intro a ha ρ ν h;have hlt:a < xs.length:=by omega
   rw [drop_eq_getElem_cons hlt];exact hs a xs[a] ρ ν (fun ρ' ν'=>qa6e i dg dk dv Q (xs.drop (a + 1)) ρ' ν') (getElem?_eq_getElem hlt) h fun ρ' ν' h'=>ih (a + 1) 'o' ρ' ν' h'
 have:=go xs.length 0 'o' ρ ν h0
 rwa [drop_zero] at this
def qd0d{ν:List (Key × FD)}{k:Key}{f:FD}:(putG ν k f).length <= ν.length + 1:=by
 unfold putG;split
 ·rw [length_map];omega
 ·rw [length_append];exact le_refl _
def qd0e{ν:List (Key × FD)}{k j:Key}{f:FD}:((putG ν k f).any fun q=>decide (q.1=j))=((ν.any fun q=>decide (q.1=j)) || decide (k=j)):=by
 unfold putG;split
 ·rename_i h
  have e:((ν.map fun q=>if q.1=k then(q.1,f) else q).any fun q=>decide (q.1=j))=ν.any fun q=>decide (q.1=j):=by
   rw [any_map];refine congrArg (List.any ν) (funext fun q=>?_);simp only [Function.comp];split<;>rfl
  rw [e];by_cases c:k=j
  ·subst c;rw [h];rfl
  ·rw [decide_eq_false c,Bool.or_false]
 ·rw [List.any_append,any_cons,List.any_nil,Bool.or_false]
end
section
noncomputable def kD(q:Key × PyData):PyData × PyData:=(keyD q.1,q.2)
noncomputable def putA(ν:List (Key × PyData))(k:Key)(d:PyData):List (Key × PyData):=if (ν.any fun q=>decide (q.1=k))=true then ν.map (fun q=>if q.1=k then(q.1,d) else q) else ν ++ [(k,d)]
noncomputable def qa8s(μ ν:List (Key × PyData)):List (Key × PyData):=ν.foldl (fun acc q=>putA acc q.1 q.2) μ
section
variable{K:W.Frag}{H:Hp}{S:Addr->Prop}
def qa0e.any_eq{k:Key}:∀ {ν:List (Key × PyData)} {κ:List (Key × V)},qa0e K H S (ν.map kD) κ->(κ.any fun q=>decide (q.1=k))=ν.any fun q=>decide (q.1=k)
 | [],κ,h=>by rw [qa0e.unnil h];rfl
 | (a,d) :: r,κ,h=>by
  obtain⟨k',v,t,rfl,e2,_,h2⟩:=qa0e.uncons (x:=keyD a) (d:=d) (r:=r.map kD) h;have e3:=qa8e e2;subst e3;rw [any_cons,any_cons,qa0e.any_eq h2]
def qa0e.repl{k:Key}{d:PyData}{v:V}(hd:AtD K H S d v):∀ {ν:List (Key × PyData)} {κ:List (Key × V)},qa0e K H S (ν.map kD) κ->qa0e K H S ((ν.map fun q=>if q.1=k then(q.1,d) else q).map kD) (κ.map fun q=>if q.1=k then(q.1,v) else q)
 | [],κ,h=>by rw [qa0e.unnil h];exact .nil
 | (a,d') :: r,κ,h=>by
  obtain⟨k',v',t,rfl,e2,h1,h2⟩:=qa0e.uncons (x:=keyD a) (d:=d') (r:=r.map kD) h;have e3:=qa8e e2;subst e3;rw [map_cons,map_cons,map_cons];by_cases c:a=k
  ·rw [if_pos c,if_pos c];exact .cons hd (qa0e.repl hd h2)
  ·rw [if_neg c,if_neg c];exact .cons h1 (qa0e.repl hd h2)
def qa0e.snoc{k:Key}{d:PyData}{v:V}(hd:AtD K H S d v):∀ {ν:List (Key × PyData)} {κ:List (Key × V)},qa0e K H S (ν.map kD) κ->qa0e K H S ((ν ++ [(k,d)]).map kD) (κ ++ [(k,v)])
 | [],κ,h=>by rw [qa0e.unnil h];exact .cons hd .nil
 | (a,d') :: r,κ,h=>by
  obtain⟨k',v',t,rfl,e2,h1,h2⟩:=qa0e.uncons (x:=keyD a) (d:=d') (r:=r.map kD) h;have e3:=qa8e e2;subst e3;exact .cons h1 (qa0e.snoc hd h2)
def qa0e.put{k:Key}{d:PyData}{v:V}{ν:List (Key × PyData)}{κ:List (Key × V)}(hd:AtD K H S d v)(h:qa0e K H S (ν.map kD) κ):qa0e K H S ((putA ν k d).map kD) (putK κ k v):=by
 unfold putA putK;rw [h.any_eq];split
 ·exact h.repl hd
 ·exact h.snoc hd
def qa0e.merge:∀ {ν μ:List (Key × PyData)} {κ κ':List (Key × V)},qa0e K H S (ν.map kD) κ->qa0e K H S (μ.map kD) κ'->qa0e K H S ((qa8s μ ν).map kD) (qa9r κ' κ)
 | [],μ,κ,κ',h,h'=>by rw [qa0e.unnil h];exact h'
 | (a,d) :: r,μ,κ,κ',h,h'=>by
  obtain⟨k',v,t,rfl,e2,h1,h2⟩:=qa0e.uncons (x:=keyD a) (d:=d) (r:=r.map kD) h;have e3:=qa8e e2;subst e3;exact qa0e.merge (ν:=r) (μ:=putA μ a d) (κ:=t) (κ':=putK κ' a v) h2 (h'.put h1)
def qa0e.len:∀ {kvs:List 'i'} {κ:List (Key × V)},qa0e K H S kvs κ->κ.length=kvs.length
 | [],κ,h=>by rw [h.unnil];rfl
 | (x,d) :: r,κ,h=>by
  obtain⟨k',v,t,rfl,_,_,h2⟩:=h.uncons;rw [length_cons,length_cons,h2.len]
end
abbrev TDP:=DEnds->Rho->List (Key × PyData)->Prop
def AdP(K:W.Frag)(i:Nat)(u:TS)(du:TDP):Prop:=∀ (c:Rc) (O0:Own) (H0:Hp) (O:Own) (ρ:Rho) (σ:St) (H:Hp) (D:Ends) (Dd:DEnds) (p:Addr) (κ:List (Key × V)) (ν:List (Key × PyData)),
 PinK K c p κ i O ρ σ H->qa0e K H (live (c.reb O p H) O) (ν.map kD) κ->EndsOk K c (live c O0) H0 D Dd->Pers K (live c O0) H0 (live (c.reb O p H) O) H->du Dd ρ ν->u D σ H
def DPs(X:Cx)(i:Nat)(st:List Stmt)(du:TDP):Prop:=∃ u,PSs X st u/\AdP X.K i u du
noncomputable def notL:PyData->Bool
 | .list _=>false
 | _=>true
section
variable{K:W.Frag}
def ad_pEnd{i:Nat}{u:TS}{du:TDS}(hu:AdS K u du):AdP K i u (fun D ρ ν=>later du D (ρ.set i (some (.d (.dict (ν.map kD)))))):=by
 intro c O0 H0 O ρ σ H D Dd p κ ν P hk E Q h;obtain⟨R8,P8⟩:=P.finish hk;exact hu c _ _ σ _ D Dd R8 (E.later (Q.trans P8)) h
end
section
variable{X:Cx}{iter kE vE tg:Expr}{rest:List Stmt}{di:TDI}{dg:TDG}{dk dv:TDE}{du:TDS}{dp:TDP}{x y z:Str}{pos p1 p2 p3 p4 p5 p6 p7 p8 p9 p13:Pos}{i:Nat}
def dps_end(h:DSs X rest du):DPs X i rest (fun D ρ ν=>later du D (ρ.set i (some (.d (.dict (ν.map kD)))))):=by
 obtain⟨u,pu,au⟩:=h;exact⟨u,pu,ad_pEnd au⟩
end
section
variable{X:Cx}
def qc4d{P:Program}{w:World}{κ:List (Key × V)}{kvs:List (Key × Value)}(hr:KV κ kvs){acc:Array Value}(h:ItemsOf (fun i v=>∃ k x,kvs[i]? = some (k,x)/\(qa0z P w).is k v=true) acc kvs.length):Vals (κ.map fun q=>kV q.1) acc.toList:=by
 have key:∀ (κ:List (Key × V)) (kvs:List (Key × Value)) (l:List Value),KV κ kvs->l.length=kvs.length->(∀ (i:Nat) (v:Value),l[i]? = some v->∃ k x,kvs[i]? = some (k,x)/\(qa0z P w).is k v=true)->Vals (κ.map fun q=>kV q.1) l:=by
  intro κ;induction κ with
  | nil =>
   intro kvs l r hl _;cases r;have e:l=[]:=eq_nil_of_length_eq_zero hl;subst e;exact .nil
  | cons q t ih =>
   intro kvs l r hl hv;cases r with
   | cons r1 r2 =>
    rename_i kv rest;cases l with
    | nil=>cases hl
    | cons v l =>
     obtain⟨k,x,e,hk⟩:=hv 0 v rfl;simp only [List.getElem?_cons_zero,Option.some.injEq] at e;subst e;have e1:q.1=k:=r1.1;refine .cons ?_ (ih rest l r2 (by simpa using hl) fun i u hu=>by simpa using hv (i + 1) u (by simpa using hu));show RelV (kV q.1) v;rw [e1];rcases qa1x (show qa7e k v=true from hk) with⟨n,tk,e2,e3⟩ | ⟨z,tk,e2,e3⟩
     ·rw [e2,e3];exact⟨tk,rfl⟩
     ·rw [e2,e3];exact⟨tk,rfl⟩
 exact key κ kvs acc.toList hr (by rw [length_toList];exact h.1) fun i v hi=>h.2 i v (by rw [← getElem?_toList];exact hi)
end
noncomputable def getA:List 'i'->Key->Option PyData
 | [],_=>none
 | q :: r,k=>if qa3e q.1=some k then some q.2 else getA r k
noncomputable def fGetA:F2:=fun x y=>match x with
 | .dict kvs=>(qa3e y).bind fun k=>getA kvs k
 | _=>none
section
variable{K:W.Frag}{H:Hp}{S:Addr->Prop}
def qa0e.get(k:Key):∀ {kvs:List 'i'} {κ:List (Key × V)},qa0e K H S kvs κ->(getA kvs k=none/\valV κ k=none) ∨ ∃ d v,getA kvs k=some d/\valV κ k=some v/\AtD K H S d v
 | [],κ,h=>by rw [h.unnil];exact .inl ⟨rfl,rfl⟩
 | (x,d) :: r,κ,h=>by
  obtain⟨a,v,t,rfl,rfl,h1,h2⟩:=h.uncons;by_cases c:a=k
  ·subst c
   exact .inr ⟨d,v,if_pos (qb2w a),qa6c rfl,h1⟩
  ·rw [qa6d (p:=(a,v)) c,show getA ((keyD a,d) :: r) k=getA r k from if_neg (by rw [qb2w];exact fun z=>c (Option.some.inj z))]
   exact qa0e.get k h2
def ad_getA{ta tb:TE}{da db:TDE}(ha:AdE K ta da)(hb:AdE K tb db):AdE K (tDGet ta tb) (dOp fGetA da db):=by
 intro c O ρ σ H Qd Q R h k;refine ha c O ρ σ H _ _ R h fun x ρ1 O1 v H1 h1 R1 P1 a1=>?_;refine hb c O1 ρ1 σ H1 _ _ R1 h1 fun y ρ2 O2 u H2 h2 R2 P2 a2=>?_;obtain⟨dx,e1,hn2⟩:=ne (h2);obtain⟨dy,e2,hn4⟩:=ne (hn2);obtain⟨z,e3,h3⟩:=ne (hn4);have t1:=R2.top (a1.pers P2) e1;have t2:=R2.top a2 e2;unfold fGetA at e3;split at e3
 ·rename_i kvs
  obtain⟨kk,e5,e3⟩:=bind_eq_some_iff.mp e3;obtain⟨a,κ,rfl,_,q,t⟩:=t1.dict;rcases t.get kk with⟨g1,g2⟩ | ⟨d,v,g1,g2,g3⟩
  ·rw [g1] at e3;cases e3
  ·rw [g1] at e3
   cases e3
   refine⟨a,v,rfl,?_,k (.d z) ρ2 O2 v H2 h3 R2 (P1.trans P2) (show AtD K H2 (live c O2) z v from g3)⟩;rw [qb0j t2 e5];have g:=DGet.k (k:=kk) q;rw [g2] at g;exact g
 ·cases e3
end
def de_getA{X:Cx}{a b:Expr}{da db:TDE}{pos:Pos}(hu:X.A.units + 64 < cLine)(ha:DE X a da)(hb:DE X b db)(hs:NoSl b):DE X (.Subscript a b pos) (dOp fGetA da db):=by
 obtain⟨ta,pa,aa⟩:=ha;obtain⟨tb,pb,ab⟩:=hb;exact⟨_,pe_dget 'o' pa pb hs,ad_getA aa ab⟩
end
section
section
variable{fs:List Bool}{y:PyData}{i n:Nat}{ys:List DV}{ρ:Rho}{QLs:List L->Rho->Prop}
theorem pass_fd:pass (false :: fs) (.d y :: ys) ρ QLs=fzL ρ (.d y) fun l ρ1=>pass fs ys ρ1 fun ls ρ2=>QLs (l :: ls) ρ2:=rfl
theorem pass_fs:pass (false :: fs) (.sl i :: ys) ρ QLs=fzL ρ (.sl i) fun l ρ1=>pass fs ys ρ1 fun ls ρ2=>QLs (l :: ls) ρ2:=rfl
theorem flOf_n0:flOf n [] []=[]:=rfl
theorem flOf_fd:flOf n (false :: fs) (.d y :: ys)=flOf (n + 1) fs ys:=rfl
theorem flOf_fs:flOf n (false :: fs) (.sl i :: ys)=flOf (n + 1) fs ys:=rfl
end
end
section
noncomputable def rSortK:List V->Hp->VK->Prop:=fun xs H Q=>∃ a κ,∃ ss:List Str,xs=[.ref a]/\H a=some (.dK κ)/\κ.map (·.1)=ss.map Sum.inr/\ss.length < 64/\∀ p,H p=none->Q (.ref p) (upd H p (.lst ((Sx.srtS ss).map V.str)))
def qd0f{κ:List (Key × V)}{ss:List Str}(h:κ.map (·.1)=ss.map Sum.inr):(κ.map fun q=>kV q.1)=ss.map V.str:=by
 have e:(κ.map fun q=>kV q.1)=(κ.map (·.1)).map kV:=by rw [map_map];rfl
 rw [e,h,map_map];rfl
def qc4e{X:Cx}(hc:X.calm=true):qa1z X (.builtin "sorted") rSortK:=by
 intro pins s σ H xs us Q I rs h;obtain⟨a,κ,ss,rfl,ha,hk,hn,q⟩:=h;obtain⟨u,rfl,rx⟩:=vals1 rs;cases rx;obtain⟨z,hd,vs,rel,dd⟩:=dk_of I.hok ha;obtain⟨ep,hat⟩:=dd.dictAt;refine Calls.call_function_entry kind_sorted plain_sorted entry_sorted (args_sorted1 _) ?_;unfold Builtin.«sorted»;refine wpAny_bind (m:=checkCount "sorted" 1 1 _) (wpAny_pure (wpAny_bind (PySem.W.kdu_collect (PySem.W.kdl_dict (knd:=qa0z X.prog X.w) (kvs:=vs) (ep:=ep) hd) (I.ok.hd hc) hat (by rw [← rel.length];exact z) fun h' tk acc kp hacc=>?_)));have hv:=qc4d rel hacc;rw [qd0f hk] at hv;have hS:StrsAre acc.toList ss:=qb3t hv;have hl:acc.toList.length=ss.length:=by rw [← hv.length,length_map]
 refine wpAny_bind (wpAny_newList ?_ (by rw [hl,sizeLine_eq];omega));have oL:(h'.push (seqObj "list" acc.toList.toArray 0)).get? h'.objs.size=some (seqObj "list" acc.toList.toArray 0):=get?_push_size _ rfl;show wpAny _ _ _ _ _ { s with heap:=h'.push (seqObj "list" acc.toList.toArray 0),toks:=tk };refine wpAny_bind (wpAny_holding (wpAny_call_entry slot_list_sort ⟨_,oL,rfl⟩ entry_list_sort (list_sort_treeK strKind_oneLt oL hS.keysOf (fun v₁ v₂ rest e=>keyKind_strs (by rw [← e];exact hS)) 'o' fun st' hp hs=>⟨_,rfl,?_⟩) (args_list_sort _)));obtain⟨ss',h1,h2,h3⟩:=sorted_out_str hS hp hs;have eq:=Sx.srtS_eq h2 (Sx.qc3z _ h3);subst eq;refine wpAny_pure ⟨_,rfl,?_⟩;obtain⟨e,he⟩:=sortedHeap_at (out:=(arrOf st').map (·.2)) oL;have hle:((Sx.srtS ss).map V.str).length <= sizeLine:=by
  rw [length_map,h2.length_eq,sizeLine_eq];omega
 have I1:Inv X pins σ H { s with heap:=h',toks:=tk }:=I.kept kp;refine⟨.ref h'.objs.size,_,I1.laid (a:=h'.objs.size) (o:=.lst ((Sx.srtS ss).map V.str)) (t':=tk) (fun b o q=>?_) 'e' ⟨hle,_,e,qb3u h1,he⟩,rfl,q _ (I1.hok.fresh 'e')⟩;have hb:b < h'.objs.size:=lt_size q;rw [sortedHeap_old (ne_of_lt hb) (by rw [size_push'];exact lt_succ_of_lt hb)];exact get?_push_of_some _ q
noncomputable def strK:List 'i'->Option (List Str)
 | []=>some []
 | (.str x,_) :: r=>(strK r).map (x :: ·)
 | _ :: _=>none
noncomputable def qb8k:FC:=fun ds=>match ds with
 | [.dict kvs]=>(strK kvs).bind fun ss=>if ss.length < 64 then some (.list ((Sx.srtS ss).map .str)) else none
 | _=>none
section
variable{K:W.Frag}{H:Hp}{S:Addr->Prop}
def qa0e.texts:∀ {kvs:List 'i'} {κ:List (Key × V)} {ss:List Str},strK kvs=some ss->qa0e K H S kvs κ->κ.map (·.1)=ss.map Sum.inr
 | [],κ,ss,e,h=>by
  unfold qa0e at h;subst h;cases e;rfl
 | (.str x,d) :: r,κ,ss,e,h=>by
  unfold qa0e at h;obtain⟨k,v,t,rfl,e1,_,h2⟩:=h;obtain⟨ss',e2,rfl⟩:=map_eq_some_iff.mp (show(strK r).map (x :: ·)=some ss from e);have e3:k=Sum.inr x:=by
   cases k with
   | inl n=>cases e1
   | inr y=>cases e1;rfl
  rw [map_cons,map_cons,qa0e.texts e2 h2,e3]
end
def qd0g{K:W.Frag}:AdC K rSortK qb8k:=by
 intro S H vs ds z Q f h e k;unfold qb8k at e;split at e
 ·rename_i kvs
  obtain⟨ss,q1,e2⟩:=bind_eq_some_iff.mp e;split at e2
  ·rename_i hl
   cases e2
   obtain⟨v,rfl,h1⟩:=h.one;obtain⟨a,κ,rfl,_,ha,hk⟩:=h1.dict;exact⟨a,κ,ss,rfl,ha,hk.texts q1,hl,fun p hp=>k _ _ (qa0v hp _) (qa2o (f p hp) qa0h qb3v)⟩
  ·cases e2
 ·cases e
end
end L2
section
namespace Sx
open PySem PySem.W PyProof.Rows
section
variable(lt:Nat->Nat->Bool)
noncomputable def Ev{α:Type}:KasT α->α
 | .ret a=>a
 | .ask i j k=>Ev (k (lt i j))
def qa7x{α β:Type}(f:α->KasT β):∀ t:KasT α,Ev lt (t.bind f)=Ev lt (f (Ev lt t))
 | .ret _=>rfl
 | .ask i j k=>qa7x f (k (lt i j))
def ev_all{α:Type}{n:Nat}{P:α->Prop}:∀ t:KasT α,AllP n P t->P (Ev lt t)
 | .ret _,h=>h
 | .ask i j k,h=>ev_all (k (lt i j)) (h.2.2 _)
def ev_wp{α:Type}{n:Nat}{P:α->Prop}{cmp:Nat->Nat->(Bool->Shared->Prop)->Shared->Prop}{Q:α->Shared->Prop}{s:Shared}(hc:∀ i j (C:Bool->Shared->Prop),i < n->j < n->C (lt i j) s->cmp i j C s):∀ t:KasT α,AllP n P t->Q (Ev lt t) s->t.kasWp cmp Q s
 | .ret a,_,q=>q
 | .ask i j k,h,q=>hc i j _ h.1 h.2.1 (ev_wp hc (k (lt i j)) (h.2.2 _) q)
structure Ord:Prop where
 asym:∀ x y,lt x y=true->lt y x=false
 trans:∀ x y z,lt y x=false->lt z y=false->lt z x=false
abbrev g(p:Array Nat)(i:Nat):Nat:=p.getD i 0
def As(p:Array Nat)(b:Nat):Prop:=∀ i,1 <= i->i < b->lt (g p i) (g p (i - 1))=false
def Ds(p:Array Nat)(b:Nat):Prop:=∀ i,1 <= i->i < b->lt (g p (i - 1)) (g p i)=false
def Eq'(p:Array Nat)(n q:Nat):Prop:=∀ i,n - (q + 1) <= i->i + 1 < n->lt (g p (i + 1)) (g p i)=false
def So(p:Array Nat)(b:Nat):Prop:=∀ i j,i <= j->j < b->lt (g p j) (g p i)=false
variable{lt}
def Ord.refl(O:Ord lt)(x:Nat):lt x x=false:=by
 cases h:lt x x with
 | false=>rfl
 | true=>have:=O.asym x x h;rw [h] at this;exact this
def Ord.lt_le(O:Ord lt){x y z:Nat}(h1:lt x y=true)(h2:lt z y=false):lt x z=true:=by
 cases h:lt x z with
 | true=>rfl
 | false=>have:=O.trans y z x h2 h;rw [h1] at this;cases this
def So.of(O:Ord lt){p:Array Nat}{b:Nat}(h:As lt p b):So lt p b:=by
 intro i j hij hj;induction j with
 | zero =>
  have e:i=0:=by omega
  subst e;exact O.refl _
 | succ j ih =>
  by_cases e:i=j + 1
  ·subst e;exact O.refl _
  ·exact O.trans _ _ _ (ih 'o' 'o') (h (j + 1) 'o' hj)
def Ds.all(O:Ord lt){p:Array Nat}{b:Nat}(h:Ds lt p b):∀ i j,i <= j->j < b->lt (g p i) (g p j)=false:=by
 intro i j hij hj;induction j with
 | zero =>
  have e:i=0:=by omega
  subst e;exact O.refl _
 | succ j ih =>
  by_cases e:i=j + 1
  ·subst e;exact O.refl _
  ·exact O.trans _ _ _ (h (j + 1) 'o' hj) (ih 'o' 'o')
def qa8t{p:Array Nat}{i j:Nat}(hj:j <= p.size)(k:Nat):g (kas_rev p i j) k=if i <= k/\k < j then g p (i + j - 1 - k) else g p k:=by
 unfold g;rw [getD_eq_getD_getElem?,getD_eq_getD_getElem?,getD_eq_getD_getElem?];unfold kas_rev;rw [getElem?_mirror hj _ 'o'];by_cases h:i <= k/\k < j
 ·rw [if_pos h]
  by_cases h2:(i <= k/\k < i + (j - i) / 2) ∨ (j - (j - i) / 2 <= k/\k < j)
  ·rw [if_pos h2]
  ·rw [if_neg h2,show i + j - 1 - k=k by omega]
 ·rw [if_neg h,if_neg 'o']
def qc2n(O:Ord lt){p:Array Nat}{n q:Nat}(hs:n <= p.size)(hq:q + 1 <= n)(d:Ds lt p n)(e:Eq' lt p n q):Ds lt (kas_rev p (n - (q + 1)) n) n:=by
 intro i h1 h2;rw [qa8t hs,qa8t hs];by_cases c1:n - (q + 1) <= i - 1
 ·rw [if_pos ⟨'o','o'⟩,if_pos ⟨'o',h2⟩]
  have:=e (n - (q + 1) + n - 1 - i) 'o' 'o';rw [show n - (q + 1) + n - 1 - (i - 1)=n - (q + 1) + n - 1 - i + 1 by omega];exact this
 ·rw [if_neg 'o']
  by_cases c2:n - (q + 1) <= i
  ·rw [if_pos ⟨c2,h2⟩]
   exact d.all O _ _ 'o' 'o'
  ·rw [if_neg 'o']
   exact d i h1 h2
def qa4w(p:Array Nat)(i j:Nat):(kas_rev p i j).size=p.size:=kas_rev_size i j
def ev_asc(p:Array Nat):∀ f m,m <= Ev lt (kas_asc p f m)/\Ev lt (kas_asc p f m) <= m + f/\(∀ i,m <= i->i < Ev lt (kas_asc p f m)->lt (g p i) (g p (i - 1))=false)/\(Ev lt (kas_asc p f m) < m + f->lt (g p (Ev lt (kas_asc p f m))) (g p (Ev lt (kas_asc p f m) - 1))=true):=by
 intro f;induction f with
 | zero=>intro m;exact⟨le_refl _,le_refl _,fun i h1 h2=>absurd h2 (not_lt.mpr h1),fun h=>absurd h (lt_irrefl _)⟩
 | succ f ih =>
  intro m;have e:Ev lt (kas_asc p (f + 1) m)=Ev lt (if lt (g p m) (g p (m - 1))=true then .ret m else kas_asc p f (m + 1)):=rfl;rw [e];cases h:lt (g p m) (g p (m - 1)) with
  | true =>
   rw [if_pos rfl];exact⟨le_refl _,Nat.le_add_right _ _,fun i h1 h2=>absurd h2 (not_lt.mpr h1),fun _=>h⟩
  | false =>
   rw [if_neg Bool.false_ne_true];obtain⟨a,b,c,d⟩:=ih (m + 1);refine⟨'o','o',fun i h1 h2=>?_,fun h2=>d 'o'⟩;by_cases e:i=m
   ·subst e;exact h
   ·exact c i 'o' h2
def ev_desc(O:Ord lt):∀ f (p:Array Nat) n q,n + f <= p.size->q + 1 <= n->Ds lt p n->Eq' lt p n q ->
  (Ev lt (kas_desc f p n q)).1.size=p.size/\n <= (Ev lt (kas_desc f p n q)).2.1/\(Ev lt (kas_desc f p n q)).2.1 <= n + f/\(Ev lt (kas_desc f p n q)).2.2 + 1 <= (Ev lt (kas_desc f p n q)).2.1/\Ds lt (Ev lt (kas_desc f p n q)).1 (Ev lt (kas_desc f p n q)).2.1/\Eq' lt (Ev lt (kas_desc f p n q)).1 (Ev lt (kas_desc f p n q)).2.1 (Ev lt (kas_desc f p n q)).2.2:=by
 intro f;induction f with
 | zero=>intro p n q _ h2 h3 h4;exact⟨rfl,le_refl _,le_refl _,h2,h3,h4⟩
 | succ f ih =>
  intro p n q h1 h2 h3 h4;have e:Ev lt (kas_desc (f + 1) p n q)=Ev lt (if lt (g p n) (g p (n - 1))=true then(if q > 0 then kas_desc f (kas_rev p (n - (q + 1)) n) (n + 1) 0 else kas_desc f p (n + 1) 0) else .ask (g p (n - 1)) (g p n) fun d=>if d=true then .ret (p,n,q) else kas_desc f p (n + 1) (q + 1)):=rfl;rw [e];have e0:∀ p':Array Nat,Eq' lt p' (n + 1) 0:=fun p' i a b=>by omega
  cases h:lt (g p n) (g p (n - 1)) with
  | true =>
   rw [if_pos rfl];by_cases hq:q > 0
   ·rw [if_pos hq]
    have dr:Ds lt (kas_rev p (n - (q + 1)) n) (n + 1):=fun i a b=>by
     by_cases c:i < n
     ·exact qc2n O 'o' h2 h3 h4 i a c
     ·have ei:i=n:=by omega
      subst ei;rw [qa8t 'o',qa8t 'o',if_pos ⟨'o','o'⟩,if_neg 'o'];have h5:=h3.all O (i - (q + 1)) (i - 1) 'o' 'o';rw [show i - (q + 1) + i - 1 - (i - 1)=i - (q + 1) by omega];exact O.trans _ _ _ (O.asym _ _ h) h5
    have:=ih (kas_rev p (n - (q + 1)) n) (n + 1) 0 (by rw [qa4w];omega) 'o' dr (e0 _);rw [qa4w] at this;exact⟨this.1,'o','o',this.2.2.2.1,this.2.2.2.2⟩
   ·rw [if_neg hq]
    have dr:Ds lt p (n + 1):=fun i a b=>by
     by_cases c:i < n
     ·exact h3 i a c
     ·have ei:i=n:=by omega
      subst ei;exact O.asym _ _ h
    have:=ih p (n + 1) 0 'o' 'o' dr (e0 _);exact⟨this.1,'o','o',this.2.2.2.1,this.2.2.2.2⟩
  | false =>
   rw [if_neg Bool.false_ne_true];have e1:Ev lt (.ask (g p (n - 1)) (g p n) fun d=>if d=true then .ret (p,n,q) else kas_desc f p (n + 1) (q + 1))=Ev lt (if lt (g p (n - 1)) (g p n)=true then .ret (p,n,q) else kas_desc f p (n + 1) (q + 1)):=rfl;rw [e1];cases h5:lt (g p (n - 1)) (g p n) with
   | true =>
    rw [if_pos rfl];exact⟨rfl,le_refl _,Nat.le_add_right _ _,h2,h3,h4⟩
   | false =>
    rw [if_neg Bool.false_ne_true];have dr:Ds lt p (n + 1):=fun i a b=>by
     by_cases c:i < n
     ·exact h3 i a c
     ·have ei:i=n:=by omega
      subst ei;exact h5
    have er:Eq' lt p (n + 1) (q + 1):=fun i a b=>by
     by_cases c:i + 1 < n
     ·exact h4 i 'o' c
     ·have ei:i=n - 1:=by omega
      subst ei;rw [show n - 1 + 1=n by omega];exact h
    have:=ih p (n + 1) (q + 1) 'o' 'o' dr er;exact⟨this.1,'o','o',this.2.2.2.1,this.2.2.2.2⟩
def qb8l{p:Array Nat}{n r:Nat}(h1:1 <= n)(h2:n <= r)(hs:r <= p.size)(d:Ds lt p n):As lt (Ev lt (kas_tail3 n r p)).2 (Ev lt (kas_tail3 n r p)).1/\(Ev lt (kas_tail3 n r p)).2.size=p.size/\(Ev lt (kas_tail3 n r p)).1 <= r:=by
 have e:Ev lt (kas_tail3 n r p)=(Ev lt (kas_asc (kas_rev p 0 n) (r - n) n),kas_rev p 0 n):=qa7x lt _ _;rw [e];obtain⟨a,b,c,_⟩:=ev_asc (lt:=lt) (kas_rev p 0 n) (r - n) n;refine⟨fun i h3 h4=>?_,qa4w _ _ _,by show _ <= r;omega⟩;by_cases hi:i < n
 ·show lt (g (kas_rev p 0 n) i) (g (kas_rev p 0 n) (i - 1))=false
  rw [qa8t 'o',qa8t 'o',if_pos ⟨'o','o'⟩,if_pos ⟨'o','o'⟩];have:=d (0 + n - 1 - (i - 1)) 'o' 'o';rw [show 0 + n - 1 - (i - 1) - 1=0 + n - 1 - i by omega] at this;exact this
 ·exact c i 'o' h4
def qb2g(O:Ord lt){p:Array Nat}{n r:Nat}(h1:1 <= n)(h2:n + 1 <= r)(hs:r <= p.size)(d:Ds lt p (n + 1)):As lt (Ev lt (kas_descPart n r p)).2 (Ev lt (kas_descPart n r p)).1/\(Ev lt (kas_descPart n r p)).2.size=p.size/\(Ev lt (kas_descPart n r p)).1 <= r:=by
 have e:Ev lt (kas_descPart n r p)=Ev lt ((fun x:Array Nat × Nat × Nat=>if x.2.2 > 0 then kas_tail3 x.2.1 r (kas_rev x.1 (x.2.1 - (x.2.2 + 1)) x.2.1) else kas_tail3 x.2.1 r x.1) (Ev lt (kas_desc (r - (n + 1)) p (n + 1) 0))):=qa7x lt _ _;rw [e];obtain⟨a1,a2,a3,a4,a5,a6⟩:=ev_desc O (r - (n + 1)) p (n + 1) 0 'o' 'o' d (fun i a b=>by omega);generalize Ev lt (kas_desc (r - (n + 1)) p (n + 1) 0)=x at a1 a2 a3 a4 a5 a6;obtain⟨p',n',q'⟩:=x
 dsimp only at a1 a2 a3 a4 a5 a6 ⊢
 by_cases hq:q' > 0
 ·rw [if_pos hq]
  have:=qb8l (lt:=lt) (r:=r) 'o' 'o' (by rw [qa4w];omega) (qc2n O 'o' a4 a5 a6);rw [qa4w,a1] at this;exact this
 ·rw [if_neg hq]
  have:=qb8l (lt:=lt) (r:=r) (p:=p') (n:=n') 'o' 'o' 'o' a5;rw [a1] at this;exact this
def qd0h(O:Ord lt){p:Array Nat}{r:Nat}(h1:1 <= r)(hs:r <= p.size):As lt (Ev lt (kas_count r p)).2 (Ev lt (kas_count r p)).1/\(Ev lt (kas_count r p)).2.size=p.size/\(Ev lt (kas_count r p)).1 <= r:=by
 have e:Ev lt (kas_count r p)=Ev lt ((fun n:Nat=>if (n == r)=true then .ret (n,p) else if n > 1 then .ask (g p 0) (g p (n - 1)) fun c=>if c=true then .ret (n,p) else kas_descPart n r (kas_rev p 0 n) else kas_descPart n r p) (Ev lt (kas_asc p (r - 1) 1))):=qa7x lt _ _;rw [e];obtain⟨a,b,c,d⟩:=ev_asc (lt:=lt) p (r - 1) 1;generalize Ev lt (kas_asc p (r - 1) 1)=n at a b c d;have ap:As lt p n:=fun i h3 h4=>c i h3 h4
 dsimp only
 by_cases e1:(n == r)=true
 ·rw [if_pos e1]
  exact⟨ap,rfl,by show n <= r;omega⟩
 ·rw [if_neg e1]
  have hn:n < r:=by
   have:n ≠ r:=by simpa using e1
   omega
  have hd:=d 'o';by_cases e2:n > 1
  ·rw [if_pos e2]
   have e3:Ev lt (.ask (g p 0) (g p (n - 1)) fun c=>if c=true then .ret (n,p) else kas_descPart n r (kas_rev p 0 n))=Ev lt (if lt (g p 0) (g p (n - 1))=true then .ret (n,p) else kas_descPart n r (kas_rev p 0 n)):=rfl;rw [e3];cases h:lt (g p 0) (g p (n - 1)) with
   | true=>rw [if_pos rfl];exact⟨ap,rfl,by show n <= r;omega⟩
   | false =>
    rw [if_neg Bool.false_ne_true];have so:=So.of O ap;have dr:Ds lt (kas_rev p 0 n) (n + 1):=fun i h3 h4=>by
     rw [qa8t 'o',qa8t 'o',if_pos ⟨'o','o'⟩];by_cases ci:i < n
     ·rw [if_pos ⟨'o',ci⟩]
      exact so _ _ 'o' 'o'
     ·have ei:i=n:=by omega
      subst ei;rw [if_neg 'o',show 0 + i - 1 - (i - 1)=0 by omega];exact O.trans _ _ _ (O.asym _ _ hd) h
    have:=qb2g O (p:=kas_rev p 0 n) (n:=n) (r:=r) 'o' 'o' (by rw [qa4w];exact hs) dr;rw [qa4w] at this;exact this
  ·rw [if_neg e2]
   have en:n=1:=by omega
   subst en;exact qb2g O 'e' 'o' hs fun i h3 h4=>by
    have ei:i=1:=by omega
    subst ei;exact O.asym _ _ hd
def qd0i(O:Ord lt){p:Array Nat}{k:Nat}(so:So lt p k):∀ f l r,r - l <= f->l <= r->r <= k->(∀ i,i < l->lt (g p k) (g p i)=false)->(∀ i,r <= i->i < k->lt (g p k) (g p i)=true) ->
  Ev lt (kas_place p k f l r) <= k/\(∀ i,i < Ev lt (kas_place p k f l r)->lt (g p k) (g p i)=false)/\∀ i,Ev lt (kas_place p k f l r) <= i->i < k->lt (g p k) (g p i)=true:=by
 intro f;induction f with
 | zero =>
  intro l r hf h0 hr h1 h2;have e:l=r:=by omega
  subst e;exact⟨hr,h1,h2⟩
 | succ f ih =>
  intro l r hf h0 hr h1 h2;have e:Ev lt (kas_place p k (f + 1) l r)=Ev lt (if l ≥ r then .ret l else .ask (g p k) (g p ((l + r) / 2)) fun c=>if c=true then kas_place p k f l ((l + r) / 2) else kas_place p k f ((l + r) / 2 + 1) r):=rfl;rw [e];by_cases hl:l ≥ r
  ·rw [if_pos hl]
   have e:l=r:=by omega
   subst e;exact⟨hr,h1,h2⟩
  ·rw [if_neg hl]
   have e3:Ev lt (.ask (g p k) (g p ((l + r) / 2)) fun c=>if c=true then kas_place p k f l ((l + r) / 2) else kas_place p k f ((l + r) / 2 + 1) r)=Ev lt (if lt (g p k) (g p ((l + r) / 2))=true then kas_place p k f l ((l + r) / 2) else kas_place p k f ((l + r) / 2 + 1) r):=rfl;rw [e3];cases h:lt (g p k) (g p ((l + r) / 2)) with
   | true =>
    rw [if_pos rfl];exact ih l ((l + r) / 2) 'o' 'o' 'o' h1 fun i a b=>O.lt_le h (so _ _ a b)
   | false =>
    rw [if_neg Bool.false_ne_true];exact ih ((l + r) / 2 + 1) r 'o' 'o' hr (fun i a=>O.trans _ _ _ (so i ((l + r) / 2) 'o' 'o') h) h2
def bub_g{p:Array Nat}{k d:Nat}(hk:k < p.size)(hd:d <= k)(i:Nat):g (bubble p k d) i=if i=k - d then g p k else if k - d < i/\i <= k then g p (i - 1) else g p i:=by
 unfold g;rw [getD_eq_getD_getElem?,getD_eq_getD_getElem?,getD_eq_getD_getElem?,getD_eq_getD_getElem?,getElem?_bubble hk d hd];split
 ·rfl
 ·split<;>rfl
def ev_bin(O:Ord lt):∀ f (p:Array Nat) k,k + f <= p.size->So lt p k->So lt (Ev lt (kas_bin f p k)) (k + f):=by
 intro f;induction f with
 | zero=>intro p k _ so;exact so
 | succ f ih =>
  intro p k hs so;have e:Ev lt (kas_bin (f + 1) p k)=Ev lt (kas_bin f (bubble p k (k - Ev lt (kas_place p k k 0 k))) (k + 1)):=qa7x lt _ _;rw [e];obtain⟨a,b,c⟩:=qd0i O so k 0 k 'o' (zero_le _) 'e' (fun i h=>absurd h (Nat.not_lt_zero _)) (fun i h1 h2=>absurd h2 (not_lt.mpr h1));generalize Ev lt (kas_place p k k 0 k)=l at a b c;rw [show k + (f + 1)=(k + 1) + f by omega];refine ih _ _ (by rw [bubble_size];omega) ?_;intro i j hij hj;have hk:k < p.size:=by omega
  rw [bub_g hk 'o',bub_g hk 'o',show k - (k - l)=l by omega];by_cases ej:j=l
  ·rw [if_pos ej]
   by_cases ei:i=l
   ·rw [if_pos ei];exact O.refl _
   ·rw [if_neg ei,if_neg 'o']
    exact b i 'o'
  ·rw [if_neg ej]
   by_cases cj:l < j/\j <= k
   ·rw [if_pos cj]
    by_cases ei:i=l
    ·rw [if_pos ei]
     exact O.asym _ _ (c (j - 1) 'o' 'o')
    ·rw [if_neg ei]
     by_cases ci:l < i/\i <= k
     ·rw [if_pos ci];exact so _ _ 'o' 'o'
     ·rw [if_neg ci];exact so _ _ 'o' 'o'
   ·rw [if_neg cj,if_neg 'o',if_neg 'o']
    exact so _ _ hij 'o'
def ev_sort(O:Ord lt){n:Nat}(hn:1 <= n):So lt (Ev lt (kas_sort n)) n:=by
 have e:Ev lt (kas_sort n)=Ev lt ((fun r:Nat × Array Nat=>if r.1 < n then kas_bin (n - max r.1 1) r.2 (max r.1 1) else .ret r.2) (Ev lt (kas_count n (List.toArray (List.range n))))):=qa7x lt _ _;rw [e];have hz:(List.toArray (List.range n)).size=n:=by simp
 obtain⟨a,b,c⟩:=qd0h O (p:=List.toArray (List.range n)) hn (by rw [hz];exact le_refl _);generalize Ev lt (kas_count n (List.toArray (List.range n)))=x at a b c;obtain⟨m,p⟩:=x
 dsimp only at a b c ⊢
 rw [hz] at b;by_cases h:m < n
 ·rw [if_pos h]
  have so1:So lt p (max m 1):=by
   intro i j hij hj;by_cases hm:j < m
   ·exact So.of O a i j hij hm
   ·have e1:j=0:=by omega
    have e2:i=0:=by omega
    subst e1 e2;exact O.refl _
  have:=ev_bin O (n - max m 1) p (max m 1) 'o' so1;rw [show max m 1 + (n - max m 1)=n by omega] at this;exact this
 ·rw [if_neg h]
  exact fun i j hij hj=>So.of O a i j hij 'o'
end
end Sx
end
section
namespace Sx
open PySem PySem.W PyProof.Rows
noncomputable def srtT(tss:List 'h'):List 'h':=tss.mergeSort (fun a b=>decide (a <= b))
def qb6k(tss:List 'h'):(srtT tss).Perm tss:=List.mergeSort_perm tss _
def qc2o(tss:List 'h'):(srtT tss).Pairwise (· <= ·):=by
 have h:=List.pairwise_mergeSort (le:=fun a b:List Int=>decide (a <= b)) (fun a b c h1 h2=>by
  simp only [decide_eq_true_eq] at *;exact List.le_trans h1 h2) (fun a b=>by
  rcases List.le_total a b with h | h<;>simp [h]) tss
 exact h.imp fun h=>by simpa using h
def qb1z{a tss:List 'h'}(h:a.Perm tss)(hp:a.Pairwise (· <= ·)):a=srtT tss:=
 pw_eq (fun a b h1 h2=>List.le_antisymm h1 h2) (h.trans (qb6k tss).symm) hp (qc2o tss)
noncomputable def ltOf(tss:List 'h')(i j:Nat):Bool:=decide (tss.getD i [] < tss.getD j [])
def ord_of(tss:List 'h'):Ord (ltOf tss) where
 asym:=fun x y h=>by
  unfold ltOf at *;rw [decide_eq_true_eq] at h;rw [decide_eq_false_iff_not];exact List.lt_asymm h
 trans:=fun x y z h1 h2=>by
  unfold ltOf at *;rw [decide_eq_false_iff_not,List.not_lt] at *;exact List.le_trans h1 h2
section
variable{prog:Program}{w:World}{A:Around}{E:Value->Shared->Prop}{s:Shared}
def qc2p{b:Bool}{Q:Bool->Shared->Prop}:∀ (xs ys:List Value) (t t':List Int) (i:Nat) (fin:Bool),IntsAre xs t->IntsAre ys t'->fin=decide (xs.length < ys.length)->Q (decide (t < t')) s->KatLex prog w A b fin Q (xs.zip ys) i s
 | [],ys,t,t',i,fin,h1,h2,hf,q=>by
  rw [List.zip_nil_left];cases h1;have e:fin=decide ([] < t'):=by
   rw [hf];cases h2<;>simp
  rw [e];exact kat_nil q
 | x :: r,[],t,t',i,fin,h1,h2,hf,q=>by
  rw [List.zip_nil_right];cases h2;have e:fin=decide (t < []):=by
   rw [hf];cases h1<;>simp
  rw [e];exact kat_nil q
 | x :: r,y :: u,t,t',i,fin,h1,h2,hf,q=>by
  cases h1 with
  | cons n tk h1 =>
   cases h2 with
   | cons m tk' h2 =>
    rw [List.zip_cons_cons];refine kat_cons (wpAny_eqBool_int ?_);cases hn:(n == m) with
    | true =>
     have e:n=m:=by simpa using hn
     subst e;refine kat_yes (qc2p r u _ _ (i + 1) fin h1 h2 (by rw [hf];simp) ?_);rename_i ts us;have e2:decide (n :: ts < n :: us)=decide (ts < us):=by rw [Bool.eq_iff_iff];simp [List.cons_lt_cons_iff]
     rw [e2] at q;exact q
    | false =>
     have e:n ≠ m:=by simpa using hn
     rename_i ts us;have e2:decide (n :: ts < m :: us)=decide (n < m):=by rw [Bool.eq_iff_iff];simp [List.cons_lt_cons_iff,e]
     rw [e2] at q;refine kat_no ?_;cases (b && i == 0) with
     | true=>exact oneLt_int q
     | false=>exact kat_one _ _ (wpAny_lt_int q)
def tup_ltS{b:Bool}{u v:Value}{t t':List Int}{Q:Bool->Shared->Prop}(hu:TupAt s.heap u t)(hv:TupAt s.heap v t')(q:Q (decide (t < t')) s):wpAny (model prog w) A (keyLt' (tuples' b) u v) Q E s:=by
 obtain⟨a,o,xs,n,rfl,ho,_,hd,hI,_⟩:=hu;obtain⟨a',o',xs',n',rfl,ho',_,hd',hI',_⟩:=hv;exact kat_lt ho hd ho' hd' (qc2p _ _ t t' 0 _ hI hI' 'g' q)
def qc6w{a:Addr}{vs:List Value}{n:Nat}{tss:List 'h'}{P:PySem.Fin->Shared->Prop} (ho:s.heap.get? a=some (seqObj "list" vs.toArray n)) (h64:vs.length < 64) (hl:tss.length=vs.length)
  (ht:∀ i,i < vs.length->TupAt ((((s.heap.update a (Obj.mapSeq fun _=>#[])).push (seqObj "tuple" vs.toArray 0)).push (seqObj "list" #[] 0))) (vs.getD i Value.none) (tss.getD i []))
  (h:∀ is:List Nat,is.Perm (List.range vs.length)->is.map (fun i=>tss.getD i [])=srtT tss->P (.done (.ret .none)) { s with heap:=sortedHeap s.heap a vs (is.map fun i=>vs.getD i Value.none).toArray }) :
  wpAny (model prog w) A (Builtin.«list.sort» ⟨[.ref a],[]⟩) P E s:=by
 rw [list_sort_plain];have ha:a < s.heap.objs.size:=lt_size ho;have hb:vs.toArray.size <= sizeLine:=by rw [size_toArray,sizeLine_eq];omega
 have rgm:∀ {β:Type} (l:List β) (d:β),(List.range l.length).map (fun i=>l.getD i d)=l:=fun l d=>by
  apply List.ext_getElem
  ·simp
  ·intro i h1 h2;simp at h1;simp [h1]
 refine wpAny_bind (listItems_at ho rfl (wpAny_bind (listUpdate_at ho rfl ?_ hb (zero_le _))));obtain⟨e1,ho1⟩:∃ e1,(s.heap.update a (Obj.mapSeq fun _=>#[])).get? a=some (seqObj "list" #[] e1):=⟨_,get?_update_seq ho (fun _=>#[])⟩;refine wpAny_bind (seqEpoch_at ho1 rfl (wpAny_bind (wpAny_newTuple ?_ (by show vs.length <= _;rw [sizeLine_eq];omega))));refine wpAny_bind (wpAny_newList (wpAny_holding ?_) (zero_le _));have ho6:(((s.heap.update a (Obj.mapSeq fun _=>#[])).push (seqObj "tuple" vs.toArray 0)).push (seqObj "list" #[] 0)).get? a=some (seqObj "list" #[] e1):=get?_push_of_some _ (get?_push_of_some _ ho1);show wpAny (model prog w) A _ P E { s with heap:=((s.heap.update a (Obj.mapSeq fun _=>#[])).push (seqObj "tuple" vs.toArray 0)).push (seqObj "list" #[] 0) }
 dsimp only
 by_cases h2:vs.toArray.size < 2
 ·rw [if_pos h2,if_pos h2]
  refine wpAny_bind (wpAny_pure ?_);rw [StateT.run_pure];refine wpAny_bind (wpAny_pure ?_)
  dsimp only
  have es:(arrOf (SortSt.mk' general' (vs.toArray.zip vs.toArray) #[] 7 none)).map (·.2)=vs.toArray:=by
   show(vs.toArray.zip vs.toArray).map (·.2)=_;apply Array.toList_inj.mp;rw [Array.toList_map,Array.toList_zip,List.map_snd_zip 'e']
  rw [es];refine wpAny_bind (seqEpoch_at ho6 rfl (wpAny_bind (listUpdate_at ho6 rfl ?_ (zero_le _) (le_trans hb (le_succ _)))));simp only [bne_self_eq_false,Bool.false_eq_true,if_false];have hv:vs.length < 2:=by rw [size_toArray] at h2;exact h2
  have pwt:tss.Pairwise (· <= ·):=by
   match tss,(show tss.length < 2 by omega) with
   | [],_=>exact List.Pairwise.nil
   | [x],_=>exact pairwise_singleton _ _
  have:=h (List.range vs.length) (List.Perm.refl _) (by rw [← hl,rgm];exact qb1z (List.Perm.refl _) pwt);rw [rgm] at this;exact wpAny_pure this
 ·rw [if_neg h2,if_neg h2]
  have h2':2 <= vs.length:=by rw [size_toArray] at h2;omega
  obtain⟨fs,k1,k2,k3⟩:=qb8g (vs:=vs) (h:=(((s.heap.update a (Obj.mapSeq fun _=>#[])).push (seqObj "tuple" vs.toArray 0)).push (seqObj "list" #[] 0))) fun v hv=>by
   obtain⟨i,hi,e⟩:=getElem_of_mem hv;have:=ht i hi;rw [show vs.getD i Value.none=v by rw [getD_eq_getElem?_getD,getElem?_eq_getElem hi];exact e] at this;exact⟨_,this⟩
  refine wpAny_bind (kat_kind (T:=.type "int") k1 'o' (fun v hv=>?_) 'd' ?_)
  ·obtain⟨n,t,rfl⟩:=k3 v hv
   exact .now
  have an:=qc9z (n:=vs.length) 'o';have pn:=ev_all (ltOf tss) _ an;have so:=ev_sort (ord_of tss) (n:=vs.length) 'o';refine wpAny_bind (wpAny_mono (kat_run (Q:=fun st' s'=>s'={ s with heap:=((s.heap.update a (Obj.mapSeq fun _=>#[])).push (seqObj "tuple" vs.toArray 0)).push (seqObj "list" #[] 0) }/\failedOf st'=none/\arrOf st'=(Ev (ltOf tss) (kas_sort vs.length)).map (kas_item (vs.toArray.zip vs.toArray))) (G:=fun p s'=>p=Ev (ltOf tss) (kas_sort vs.length)/\s'={ s with heap:=((s.heap.update a (Obj.mapSeq fun _=>#[])).push (seqObj "tuple" vs.toArray 0)).push (seqObj "list" #[] 0) })
   rfl h2' h64 (fun p st' s' a1 a2 a3 a4=>⟨a4.2,a3,by rw [a2,a4.1]⟩) (ev_wp (ltOf tss) (fun i j C hi hj hC=>?_) _ an ⟨rfl,rfl⟩)) ?_ fun _ _ e=>e)
  ·unfold kas_ask
   exact tup_ltS (ht i hi) (ht j hj) hC
  generalize Ev (ltOf tss) (kas_sort vs.length)=p at pn so;rintro⟨⟨⟩,st'⟩ s' ⟨rfl,hf,har⟩
  dsimp only
  have hout:=kat_snds rfl har;rw [hout];have pnl:p.toList.Perm (List.range vs.length):=Array.perm_iff_toList_perm.mp pn;have psz:p.toList.length=vs.length:=by rw [pnl.length_eq,length_range]
  have hsrt:p.toList.map (fun i=>tss.getD i [])=srtT tss:=by
   refine qb1z ?_ ?_
   ·have:=pnl.map (fun i=>tss.getD i [])
    rw [← hl,rgm] at this;exact this
   ·rw [List.pairwise_iff_getElem]
    intro i j hi hj hij;rw [length_map] at hi hj;rw [List.getElem_map,List.getElem_map];have:=so i j (le_of_lt hij) 'o';unfold ltOf g at this;rw [decide_eq_false_iff_not,List.not_lt] at this;have gi:∀ k,k < p.toList.length->p.getD k 0=p.toList[k]!:=fun k hk=>by
     rw [getD_eq_getD_getElem?];simp at hk;simp [hk]
    have e1:p.getD i 0=p.toList[i]:=by rw [getD_eq_getD_getElem?,← getElem?_toList,getElem?_eq_getElem hi];rfl
    have e2:p.getD j 0=p.toList[j]:=by rw [getD_eq_getD_getElem?,← getElem?_toList,getElem?_eq_getElem hj];rfl
    rw [e1,e2] at this;exact this
  refine wpAny_bind (seqEpoch_at ho6 rfl (wpAny_bind (listUpdate_at ho6 rfl ?_ (zero_le _) (by
   show(List.toArray _).size <= _;rw [size_toArray,length_map,psz,sizeLine_eq];omega))))
  rw [hf];simp only [bne_self_eq_false,Bool.false_eq_true,if_false];exact wpAny_pure (h _ pnl hsrt)
end
end Sx
end
namespace L2
open PySem PySem.Spec PyProof.Rows
section
section
variable{prog:Program}{w:World}{A:Around}{E:Value->Shared->Prop}{s:Shared}
def qb8m{l:Addr}{vs:List Value}{tss:List 'h'}{Q:Value->Shared->Prop}(hl:s.heap.IsList l vs.toArray)(hn:tss.length=vs.length)(ht:∀ i,i < vs.length->Sx.TupAt s.heap (vs.getD i Value.none) (tss.getD i []))(h64:vs.length < 64)
  (h:∀ is:List Nat,is.Perm (List.range vs.length)->is.map (fun i=>tss.getD i [])=Sx.srtT tss->Q (.ref (s.heap.objs.size + 1)) { s with heap:=sortedAll s.heap vs (is.map fun i=>vs.getD i Value.none).toArray }):wpAny (model prog w) A (call (.builtin "sorted") [.ref l]) Q E s:=by
 refine Calls.call_function_entry kind_sorted plain_sorted entry_sorted (args_sorted1 _) ?_;unfold Builtin.«sorted»;refine wpAny_bind (m:=checkCount "sorted" 1 1 _) (wpAny_pure (wpAny_bind (collect_list hl ?_ (by rw [sizeLine_eq];omega))));refine wpAny_bind (wpAny_newList ?_ (by rw [sizeLine_eq];omega));have hz:((s.heap.push (seqObj "list" #[] 0)).update s.heap.objs.size (Obj.mapSeq (· ++ vs.toArray))).objs.size=s.heap.objs.size + 1:=by rw [Heap.size_update,size_push']
 have oL:(((s.heap.push (seqObj "list" #[] 0)).update s.heap.objs.size (Obj.mapSeq (· ++ vs.toArray))).push (seqObj "list" vs.toArray 0)).get? (s.heap.objs.size + 1)=some (seqObj "list" vs.toArray 0):=by rw [← hz];exact get?_push_size _ rfl
 show wpAny _ _ _ _ _ { s with heap:=(((s.heap.push (seqObj "list" #[] 0)).update s.heap.objs.size (Obj.mapSeq (· ++ vs.toArray))).push (seqObj "list" vs.toArray 0)) };rw [hz];have keep:∀ b o,s.heap.get? b=some o->(((((((s.heap.push (seqObj "list" #[] 0)).update s.heap.objs.size (Obj.mapSeq (· ++ vs.toArray))).push (seqObj "list" vs.toArray 0)).update (s.heap.objs.size + 1) (Obj.mapSeq fun _=>#[])).push (seqObj "tuple" vs.toArray 0)).push (seqObj "list" #[] 0))).get? b=some o:=fun b o q=>by
  have hlt:b < s.heap.objs.size:=lt_size q;refine get?_push_of_some _ (get?_push_of_some _ ?_);rw [Heap.get?_update_ne _ _ _ _ (ne_of_lt (lt_succ_of_lt hlt))];refine get?_push_of_some _ ?_;rw [Heap.get?_update_ne _ _ _ _ (ne_of_lt hlt)];exact get?_push_of_some _ q
 refine wpAny_bind (wpAny_holding (wpAny_call_entry slot_list_sort ⟨_,oL,rfl⟩ entry_list_sort (Sx.qc6w oL h64 hn (fun i hi=>qc0j (ht i hi) keep) fun is hp he=>⟨_,rfl,?_⟩) (args_list_sort _)));exact wpAny_pure ⟨_,rfl,h is hp he⟩
end
section
variable{K:W.Frag}{H:Hp}{S:Addr->Prop}
def qb3y{tss:List 'h'}{xs:List V}(h:qa0c K H S (tss.map encT) xs):∀ is:List Nat,(∀ i ∈ is,i < tss.length)->qa0c K H S ((is.map fun i=>tss.getD i []).map encT) (is.map fun i=>xs.getD i .non)
 | [],_=>by unfold qa0c;rfl
 | i :: r,hi=>by
  have h1:=hi i mem_cons_self;obtain⟨v,e1,hd⟩:=h.get (i:=i) (d:=encT (tss.getD i [])) (by rw [getElem?_map,getD_eq_getElem?_getD,getElem?_eq_getElem h1];rfl);rw [map_cons,map_cons,map_cons];unfold qa0c;refine⟨_,_,rfl,?_,qb3y h r fun j hj=>hi j (mem_cons_of_mem _ hj)⟩;have ex:xs.getD i V.non=v:=by rw [getD_eq_getElem?_getD,e1];rfl
  rw [ex];exact hd
def qb6l{xs:List V}{us:List Value}(h:Vals xs us):∀ is:List Nat,(∀ i ∈ is,i < xs.length)->Vals (is.map fun i=>xs.getD i .non) (is.map fun i=>us.getD i Value.none)
 | [],_=>.nil
 | i :: r,hi=>by
  have h1:=hi i mem_cons_self;obtain⟨u,e1,hr⟩:=h.get (i:=i) (x:=xs[i]) (getElem?_eq_getElem h1);rw [map_cons,map_cons];refine .cons ?_ (qb6l h r fun j hj=>hi j (mem_cons_of_mem _ hj));rw [getD_eq_getElem?_getD,getD_eq_getElem?_getD,getElem?_eq_getElem h1,e1];exact hr
noncomputable def rSrtT(K:W.Frag):List V->Hp->VK->Prop:=fun xs H Q=>∃ v S,∃ tss:List 'h',xs=[v]/\AtD K H S (.list (tss.map encT)) v/\(∀ t ∈ tss,t ≠ [])/\tss.length < 64/\∀ (p:Addr) (xs':List V),H p=none->qa0c K H S ((Sx.srtT tss).map encT) xs'->Q (.ref p) (upd H p (.lst xs'))
end
section
variable{X:Cx}
def qd0j{pins:List 'c'}{σ:List (Option V)}{H:Hp}{s:Shared}{S:Addr->Prop}(I:Inv X pins σ H s){tss:List 'h'}{xs:List V}{its:List Value}(hne:∀ t ∈ tss,t ≠ [])(h:qa0c X.K H S (tss.map encT) xs)(v:Vals xs its):∀ i,i < its.length->Sx.TupAt s.heap (its.getD i Value.none) (tss.getD i []):=fun i hi=>by
 have hl:its.length=tss.length:=by rw [← v.length,h.length,length_map]
 have hi2:i < tss.length:=by omega
 have ht:tss.getD i []=tss[i]:=by rw [getD_eq_getElem?_getD,getElem?_eq_getElem hi2];rfl
 obtain⟨x,e1,hd⟩:=h.get (i:=i) (d:=encT tss[i]) (by rw [getElem?_map,getElem?_eq_getElem hi2];rfl);obtain⟨u,e2,r⟩:=v.get e1;rw [ht,getD_eq_getElem?_getD,e2];obtain⟨a,ys,rfl,hq,tt⟩:=qa2w hd;have ey:=ints_of_all tt;subst ey;obtain⟨its',rv,pl,hz⟩:=I.tuple hq;cases r;obtain⟨o,ho,hc,n,hdt⟩:=pl;exact⟨a,o,its'.toArray,n,rfl,ho,hc,hdt,qb0q rv,hne _ (getElem_mem hi2)⟩
def qb1m:qa1z X (.builtin "sorted") (rSrtT X.K):=by
 intro pins s σ H xs us Q I rs h;obtain⟨v,S,tss,rfl,hd,hne,hn,q⟩:=h;obtain⟨u,rfl,r⟩:=vals1 rs;obtain⟨a,ys,rfl,_,hq,t⟩:=qa3q hd;cases r;obtain⟨its,rv,pl,hz⟩:=I.list (SqL.of hq);have hl:its.length=tss.length:=by rw [← rv.length,t.length,length_map]
 refine qb8m pl.isList hl.symm (qd0j I hne t rv) 'o' fun is hp he=>?_;have hin:∀ i ∈ is,i < its.length:=fun i hi=>mem_range.mp (hp.mem_iff.mp hi);have a1:=qb3y t is (fun i hi=>by have:=hin i hi;omega);rw [he] at a1;have v1:=qb6l rv is (fun i hi=>by have:=hin i hi;rw [rv.length];exact this);obtain⟨e,hoe⟩:=sortedAll_at s.heap its (is.map fun i=>its.getD i Value.none).toArray;have hle:(is.map fun i=>ys.getD i V.non).length <= sizeLine:=by
  rw [length_map,hp.length_eq,length_range,sizeLine_eq];omega
 exact⟨.ref _,_,I.laid (a:=s.heap.objs.size + 1) (o:=.lst (is.map fun i=>ys.getD i V.non)) (t':=s.toks) (fun b o e=>sortedAll_old e) (le_succ _) ⟨hle,_,e,v1,hoe⟩,rfl,q _ _ (I.hok.fresh (le_succ _)) a1⟩
end
noncomputable def qb0k:List PyData->Option (List 'h')
 | []=>some []
 | .tuple xs :: r=>(qa2q xs).bind fun t=>(qb0k r).map (t :: ·)
 | _ :: _=>none
def qb8n:∀ tss:List 'h',qb0k (tss.map encT)=some tss
 | []=>rfl
 | t :: r=>by
  show(qa2q (t.map .int)).bind (fun t=>(qb0k (r.map encT)).map (t :: ·))=_;rw [ints_of,bind_some,qb8n r];rfl
def qb6m:∀ {xs:List PyData} {tss:List 'h'},qb0k xs=some tss->xs=tss.map encT
 | [],tss,h=>by cases h;rfl
 | .tuple xs :: r,tss,h=>by
  have h':(qa2q xs).bind (fun t=>(qb0k r).map (t :: ·))=some tss:=h;obtain⟨t,h1,h2⟩:=bind_eq_some_iff.mp h';obtain⟨qs,h3,rfl⟩:=map_eq_some_iff.mp h2;rw [qb6m h3,ints_map h1];rfl
noncomputable def fSrtT:FC:=fun ds=>match ds with
 | [.list xs]=>(qb0k xs).bind fun tss=>if (tss.all fun t=>!t.isEmpty)=true/\tss.length < 64 then some (.list ((Sx.srtT tss).map encT)) else none
 | _=>none
def qb8o{tss:List 'h'}(h:∀ t ∈ tss,t ≠ [])(h2:tss.length < 64):fSrtT [.list (tss.map encT)]=some (.list ((Sx.srtT tss).map encT)):=by
 show(qb0k (tss.map encT)).bind _=_;rw [qb8n,bind_some,if_pos ⟨all_eq_true.mpr fun t ht=>by
  have:=h t ht;cases t with
  | nil=>exact absurd rfl this
  | cons _ _=>rfl,h2⟩]
def qc2q{K:W.Frag}:AdC K (rSrtT K) fSrtT:=by
 intro S H vs ds z Q f h e k;unfold fSrtT at e;split at e
 ·rename_i xs
  obtain⟨tss,q1,e2⟩:=bind_eq_some_iff.mp e;split at e2
  ·rename_i hc
   cases e2
   obtain⟨v,rfl,h1⟩:=h.one;have e1:=qb6m q1;subst e1;refine⟨v,Any,tss,rfl,h1.any,fun t ht hn=>?_,hc.2,fun p xs' hp ha=>k _ _ (qa0v hp _) (qa2o (f p hp) qa0h ((qb8h ha).same (qa0v hp _)))⟩;have:=all_eq_true.mp hc.1 t ht;rw [hn] at this;cases this
  ·cases e2
 ·cases e
end
end L2
section
namespace Sx
open PySem
end Sx
end
section
namespace Sx
open PySem
section
variable{prog:Program}{w:World}{K:Type}[DecidableEq K]{knd:KeyKind prog w K}{dec:Value->K}
variable{A:Around}{E:Value->Shared->Prop}{s:Shared}
end
end Sx
end
section
namespace Sx
open PySem
section
variable{prog:Program}{w:World}{K:Type}[DecidableEq K]{knd:KeyKind prog w K}{dec:Value->K}
variable{A:Around}{E:Value->Shared->Prop}{s:Shared}
end
end Sx
end
section
namespace Sx
open PySem
section
variable{prog:Program}{w:World}{K:Type}[DecidableEq K]{knd:KeyKind prog w K}{dec:Value->K}
variable{A:Around}{E:Value->Shared->Prop}{s:Shared}
end
end Sx
end
section
namespace Sx
open PySem
section
variable{prog:Program}{w:World}{K:Type}[DecidableEq K]{knd:KeyKind prog w K}{dec:Value->K}
variable{A:Around}{E:Value->Shared->Prop}{s:Shared}
end
end Sx
end
namespace L2
open PySem PySem.Spec PyProof.Rows
section
noncomputable def unS(a b:List Str):List Str:=Sx.srtS (Sx.uniq (a ++ b))
noncomputable def txD:List PyData->Option (List Str)
 | [.list xs]=>strsD xs
 | [.tuple xs]=>strsD xs
 | _=>none
def dSU(da db:TDA):TDE:=fun ρ Q=>da ρ fun xs ρ1=>need (qa1o ρ1 xs) fun ds=>need (txD ds) fun a=>a.length <= 3/\db ρ1 fun ys ρ2=>need (qa1o ρ2 ys) fun es=>need (txD es) fun b=>b.length <= 3/\Q (.d (.list ((unS a b).map .str))) ρ2
end
section
def qd0k:typeLookup (.type "tuple") "keys" = pure none:=am_miss_of_fast (by kernel_rfl)
def qc4f{prog:Program}{w:World}{A:Around}{E:Value->Shared->Prop}{s:Shared}{a:Addr}{xs:Array Value}{k:Nat}{sl:Array (Option Value)}{Q:Option Value->Shared->Prop}
  (hx:s.heap.get? a=some ⟨.type "tuple",none,.seq xs k,sl⟩) (hA:A.handled=none)
  (h:∀ h' tk,(∀ b o,s.heap.get? b=some o->h'.get? b=some o)->Q none { s with heap:=h',toks:=tk }):wpAny (model prog w) A (getAttr? (.ref a) "keys") Q E s:=by
 obtain⟨hp,g,d,tk,os⟩:=s;have hT:∀ tk',(⟨hp,g,d,tk',os⟩:Shared).TypeIs (.ref a) "tuple":=fun _=>⟨_,hx,rfl⟩;have f1:=sub_AttributeError;have f3:=F.slot_tuple_getattribute.lookup;have f4:=F.slot_tuple_getattribute.bind (.ref a);have f5:=am_tuple_getattr_none;unfold getAttr? getAttrBy? getAttrBy
 repeat (any_goals (first
  | assumption
  | exact hT _
  | ((with_reducible show wpAny _ _ (call (Value.builtin "tuple.__getattribute__") _ _) _ _ _);refine call_meets F.slot_tuple_getattribute (hT _) am_entry_tuple_getattribute (F.args_tuple_getattribute_2 _ _) (meets_getattribute_miss_tuple a xs k sl "keys" _ qd0k rfl 'd') ⟨hx,hA,fun h' tk' e hx'=>?_⟩)
  | wp_step))
 obtain⟨t',u',he⟩:=hx'.there;show wpAny _ _ (getattributeRaised _ _ _ _ _ _ _) _ _ _;unfold getattributeRaised
 repeat (any_goals (first | assumption | wp_step))
 exact h h' tk' hx'.of.keeps
noncomputable def kS(q:Str × V):Key × V:=(Sum.inr q.1,q.2)
noncomputable def foldQ(ps:List (Str × V)):List (Key × V):=qa9r [] (ps.map kS)
def qc4g(ps:List (Str × V))(p:Str × V):foldQ (ps ++ [p])=putK (foldQ ps) (Sum.inr p.1) p.2:=by
 unfold foldQ qa9r;rw [map_append,List.foldl_append];rfl
def putK_le(ν:List (Key × V))(k:Key)(v:V):(putK ν k v).length <= ν.length + 1:=by
 unfold putK;split
 ·rw [length_map];exact le_succ _
 ·rw [length_append,List.length_singleton];exact le_refl _
def qb8p(ps:List (Str × V)):(foldQ ps).length <= ps.length:=by
 have go:∀ (ps ν:List (Key × V)),(qa9r ν ps).length <= ν.length + ps.length:=by
  intro ps;induction ps with
  | nil=>intro ν;exact le_refl _
  | cons p r ih =>
   intro ν;have h1:=ih (putK ν p.1 p.2);have h2:=putK_le ν p.1 p.2;have e:qa9r ν (p :: r)=qa9r (putK ν p.1 p.2) r:=rfl;rw [e,length_cons];omega
 have h:=go (ps.map kS) [];rw [List.length_nil,Nat.zero_add,length_map] at h;exact h
def PairsV(ps:List (Str × V))(D:Addr)(wr:List Addr)(items:Array Value)(h:Heap):Prop:=∀ (i:Nat) (v:Value),items[i]? = some v->∃ (a:Addr) (o:Obj) (c:Nat) (p:Str × V) (t:Tok) (u:Value),ps[i]? = some p/\v=.ref a/\a ≠ D/\a ∉ wr/\h.get? a=some o/\o.cls=.type "tuple" /\ o.data=.seq #[.str p.1 t,u] c/\RelV p.2 u
section
variable{prog:Program}{w:World}{A:Around}{R:Result->Shared->Prop}{I:Addr}{fp wr:List Addr}{G:Array GenState->Array GenState->Prop}{St:Nat->Shared->Prop}{items:Array Value}{ps:List (Str × V)}
def qc0k(W:WalksS prog w A.in1 I fp wr G items.size (fun i v=>items[i]? = some v) St)(D:Addr)(hDf:D ∉ fp)(hl:items.size <= 1000) :
  ∀ (m i:Nat) (s:Shared) (vs:List (Key × Value)),items.size - i=m->i <= items.size->St i s->PairsV ps D wr items s.heap->s.heap.DictOf (qa0z prog w) D vs->KV (foldQ (ps.take i)) vs ->
   (∀ s' vs',Moved (D :: wr) G s s'->s'.heap.DictOf (qa0z prog w) D vs'->KV (foldQ (ps.take items.size)) vs'->R (.ok (.ret .none)) s') ->
   codeAny (model prog w) A (.builtin "dict.update.loop" ⟨[.ref D,.ref I,rawInt ((i:Nat):Int),.none],[]⟩) R s:=by
 have hDw:D ∉ wr:=fun h=>hDf (W.sub _ h);have up:∀ b ∈ wr,b ∈ D :: wr:=fun b hb=>mem_cons_of_mem _ hb;intro m;induction m with
 | zero =>
  intro i s vs hm hi st tp dd kv fin;have hin:i=items.size:=by omega
  subst hin;refine codeAny_builtin qb3s ?_;rw [Around.under_plainId qa7l _];show wpAny _ A.in1 (pyNext (.ref I) >>= _) _ _ s;refine wpAny_bind (W.done s _ _ st fun s' mv=>?_);refine wpAny_bind (wpAny_pure (wpAny_pure (fin s' vs (mv.mono up) ?_ kv)));obtain⟨o,es,ep,ho,rest⟩:=dd;exact⟨o,es,ep,mv.heap D _ hDw ho,rest⟩
 | succ m ih =>
  intro i s vs hm hi st tp dd kv fin;have hlt:i < items.size:=by omega
  refine codeAny_builtin qb3s ?_;rw [Around.under_plainId qa7l _];show wpAny _ A.in1 (pyNext (.ref I) >>= _) _ _ s;refine wpAny_bind (W.item i s _ _ hlt st fun v s' hv st' mv=>?_);obtain⟨a,o,c,p,t,u,hp,rfl,haD,haw,ho,hc,hd,ru⟩:=tp i v hv;have ho':=mv.heap a _ haw ho;have dd':s'.heap.DictOf (qa0z prog w) D vs:=by
   obtain⟨o,es,ep,ho,rest⟩:=dd;exact⟨o,es,ep,mv.heap D _ hDw ho,rest⟩
  have hvl:vs.length <= 1000:=by
   rw [← kv.length];have h1:=qb8p (ps.take i);have h2:=List.length_take_le i ps;omega
  refine wpAny_bind (wpAny_holding (wpAny_bind (wpAny_tryCatch ?_)));unfold Builtin.Dict.pairItems;refine wpAny_bind (wpAny_typeOf (T:="tuple") ⟨o,ho',hc⟩ ?_);rw [if_pos (show(Value.type "tuple" == Value.type "list" || Value.type "tuple" == Value.type "tuple")=true by decide)];unfold seqItems?
  refine wpAny_bind (wpAny_bind (wpAny_load ho' ?_));rw [hd];refine wpAny_pure (wpAny_pure ?_);show wpAny _ A.in1 (holding [Value.str p.1 t,u] (dictSet D (.str p.1 t) u)) _ _ s';refine wpAny_holding (wpAny_dictSet_pairs (knd:=qa0z prog w) (k:=Sum.inr p.1) (qb2b prog w p.1 t) dd' (fun h' dd2 hs=>?_) (le_trans hvl (by rw [sizeLine_eq];decide)));have kv2:KV (foldQ (ps.take (i + 1))) (stored vs (Sum.inr p.1) u):=by
   rw [take_add_one,hp,toList_some,qc4g];exact kv.put (Sum.inr p.1) ru
  refine wpAny_pure ⟨plainId_quiet qa7l _,ih (i + 1) _ _ 'o' hlt (W.frame _ s' _ _ st' (le_succ _) fun b hb o e=>?_) (fun j v hv=>?_) dd2 kv2 fun s2 vs2 mv2 dd3 kv3=>?_⟩
  ·rw [hs.2 b (fun h:b=D=>hDf (by rw [← h];exact hb))];exact e
  ·obtain⟨a,o,c,p,t,u,hp,e,haD,haw,ho,hc,hd,ru⟩:=tp j v hv
   exact⟨a,o,c,p,t,u,hp,e,haD,haw,(hs.2 a haD).trans (mv.heap a _ haw ho),hc,hd,ru⟩
  ·refine fin s2 vs2 (Moved.trans W.gtrans ((mv.mono up).then_heap (le_succ _) fun b o hb e=>?_) mv2) dd3 kv3
   rw [hs.2 b (fun h:b=D=>hb (by rw [h];exact mem_cons_self))];exact e
end
section
variable{prog:Program}{w:World}{A:Around}{E:Value->Shared->Prop}{s:Shared}
def qc0l{l:Addr}{items:Array Value}{n:Nat}{sl:Array (Option Value)}{ps:List (Str × V)}{Q:Value->Shared->Prop}(hh:A.handled=none) (hl:s.heap.get? l=some ⟨.type "tuple",none,.seq items n,sl⟩) (hsz:items.size <= 1000) (hps:ps.length=items.size)
  (tp:∀ (i:Nat) (v:Value),items[i]? = some v->∃ (a:Addr) (o:Obj) (c:Nat) (p:Str × V) (t:Tok) (u:Value),ps[i]? = some p/\v=.ref a/\s.heap.get? a=some o/\o.cls=.type "tuple" /\ o.data=.seq #[.str p.1 t,u] c/\RelV p.2 u)
  (h:∀ h' tk vs,h'.DictOf (qa0z prog w) s.heap.objs.size vs->KV (foldQ ps) vs->(∀ b o,s.heap.get? b=some o->h'.get? b=some o)->Q (.ref s.heap.objs.size) { s with heap:=h',toks:=tk }) :
  wpAny (model prog w) A (call (.type "dict") [.ref l]) Q E s:=by
 refine callType_codes (Q₁:=fun obj s₁=>obj=.ref s.heap.objs.size/\s₁={ s with heap:=s.heap.push { cls:=.type "dict",data:=.dict #[] } }) F.kt_called_dict (F.kt_typeCall_dict_1 _) F.entry_dict_init (kt_code_dict_new _ ⟨rfl,rfl⟩) ?_;rintro obj s₁ ⟨rfl,rfl⟩;have dn:(s.heap.push { cls:=.type "dict",data:=.dict #[] }).DictOf (qa0z prog w) s.heap.objs.size []:=Heap.DictOf.new s.heap;have hl1:(s.heap.push { cls:=.type "dict",data:=.dict #[] }).get? l=some ⟨.type "tuple",none,.seq items n,sl⟩:=get?_push_of_some _ hl;refine⟨dn.typeIs,F.args_dict_init_2 _ _,?_⟩;unfold Builtin.«dict.__init__» Builtin.Dict.selfAndRest;refine wpAny_bind (wpAny_bind (wpAny_notOrdered_dict dn.typeIs (wpAny_pure ?_)));show wpAny _ _ (Builtin.Dict.updateFrom "dict.__init__" s.heap.objs.size (.ref l) [] .none) _ _ _;unfold Builtin.Dict.updateFrom;refine wpAny_bind (wpAny_typeOf (T:="tuple") ⟨_,hl1,rfl⟩ ?_);rw [if_pos (show(Value.type "tuple" != Value.type "dict")=true by decide)];refine wpAny_bind (qc4f hl1 (by simp [hh]) fun h2 tk2 k2=>?_);rw [if_pos (show(Option.isNone (none:Option Value))=true from rfl)];refine wpAny_bind (wpAny_rule ?_);have hl2:h2.IsTuple l items:=⟨_,k2 _ _ hl1,rfl,n,rfl⟩;refine wpAny_bind (wpAny_pyIter_tuple hl2 ?_);have hlS:l < s.heap.objs.size:=lt_size hl;have hN2:s.heap.objs.size < h2.objs.size:=by
  obtain⟨o,_,_,ho,_⟩:=dn;exact lt_size (k2 _ _ ho)
 have old:∀ b o,s.heap.get? b=some o->(h2.push { cls:=.type "tuple_iterator",data:=.fields #[.ref l,.int 0 0] }).get? b=some o:=fun b o e=>get?_push_of_some _ (k2 _ _ (get?_push_of_some _ e));have hneI:l ≠ h2.objs.size:=ne_of_lt (lt_trans hlS hN2);have hDf:s.heap.objs.size ∉ [h2.objs.size,l]:=by
  simp only [mem_cons,not_mem_nil,or_false,not_or];exact⟨ne_of_lt hN2,ne_of_gt hlS⟩
 refine wpAny_pure ⟨plainId_quiet qa7l _,?_⟩;refine qc0k (ps:=ps) (items:=items) ((Walks.tuple (by simp [hh]) h2.objs.size l hneI items).toS) s.heap.objs.size hDf hsz items.size 0 _ [] 'o' (zero_le _) ⟨⟨_,get?_push_size _ rfl,rfl,rfl⟩,hl2.push _⟩ (fun i v hv=>?_) ?_ .nil fun s' vs' mv dd kv=>?_
 ·obtain⟨a,o,c,p,t,u,h1,h2',h3,h4,h5,h6⟩:=tp i v hv
  have ha:=lt_size h3;refine⟨a,o,c,p,t,u,h1,h2',ne_of_lt ha,?_,old _ _ h3,h4,h5,h6⟩;rw [mem_singleton];exact ne_of_lt (lt_trans ha hN2)
 ·obtain⟨o,es,ep,ho,rest⟩:=dn
  exact⟨o,es,ep,get?_push_of_some _ (k2 _ _ ho),rest⟩
 ·obtain⟨h',g',d',tk',os'⟩:=s'
  have eg:g'=s.gens:=mv.gens;have ed:d'=s.drawn:=mv.drawn;have eo:os'=s.os:=mv.os;subst eg;subst ed;subst eo;rw [← hps,take_length] at kv;refine⟨rfl,h h' tk' vs' dd kv fun b o e=>?_⟩;have hb:=lt_size e;refine mv.heap b o ?_ (old b o e);simp only [mem_cons,not_mem_nil,or_false,not_or];exact⟨ne_of_lt hb,ne_of_lt (lt_trans hb hN2)⟩
end
noncomputable def qb3z(K:W.Frag):List V->Hp->VK->Prop:=fun xs H Q=>∃ a ys,∃ ps:List (Str × V),xs=[.ref a]/\SqT K H a ys/\ys.length=ps.length/\(∀ (i:Nat) y,ys[i]? = some y->∃ b p,ps[i]? = some p/\y=.ref b/\SqT K H b [.str p.1,p.2])/\ps.length <= 1000/\∀ p,H p=none->Q (.ref p) (upd H p (.dK (foldQ ps)))
def qb4a{X:Cx}(hc:X.calm=true):qa1z X (.type "dict") (qb3z X.K):=by
 intro pins s σ H xs us Q I rs h;obtain⟨a,ys,ps,rfl,hq,ly,hps,hz,q⟩:=h;obtain⟨u,rfl,r⟩:=vals1 rs;cases r;obtain⟨its,rv,⟨o,e,⟨hcl,hdi⟩,n,hda⟩,_⟩:=I.tupleP hq;obtain⟨oc,od,oa,os⟩:=o;simp only at hcl hdi hda;subst hcl hdi hda;have li:its.length=ps.length:=by rw [← rv.length,ly]
 refine qc0l (ps:=ps) (I.ok.hd hc) e (by rw [size_toArray];omega) (by rw [size_toArray];omega) (fun i v hv=>?_) fun h' tk vs dd kv keep=>?_
 ·rw [getElem?_toArray] at hv
  have hi:i < ys.length:=by
   have:=(List.getElem?_eq_some_iff.mp hv).1;omega
  have hy:ys[i]? = some ys[i]:=getElem?_eq_getElem hi;obtain⟨b,p,e1,e2,sq⟩:=hps i _ hy;obtain⟨v',hv',rv'⟩:=Vals.get rv hy;rw [hv] at hv';cases hv';rw [e2] at rv';cases rv';obtain⟨jts,rj,⟨o,eo,hcl,c,hdo⟩,_⟩:=I.tuple sq;obtain⟨w1,w2,rfl,⟨t1,e3⟩,r2⟩:=Vals.two rj;subst e3;exact⟨b,o,c,p,t1,w2,e1,rfl,eo,hcl,hdo,r2⟩
 ·have hle:(foldQ ps).length <= sizeLine:=by
   rw [sizeLine_eq];have:=qb8p ps;omega
  exact⟨.ref _,_,I.laid (a:=s.heap.objs.size) (o:=.dK (foldQ ps)) (t':=tk) keep 'e' ⟨hle,beq_eq_false_iff_ne.mpr (Ne.symm (ne_of_lt I.big)),vs,kv,dd⟩,rfl,q _ (I.hok.fresh 'e')⟩
noncomputable def kQ(p:Str × PyData):Key × PyData:=(Sum.inr p.1,p.2)
noncomputable def qa2y(p:Str × PyData):PyData:=.tuple [.str p.1,p.2]
noncomputable def unQ:List PyData->Option (List 'j')
 | []=>some []
 | .tuple [.str k,d] :: r=>(unQ r).map ((k,d) :: ·)
 | _ :: _=>none
def unQ_of:∀ ps:List 'j',unQ (ps.map qa2y)=some ps
 | []=>rfl
 | (k,n) :: r=>by
  show(unQ (r.map qa2y)).map _=_;rw [unQ_of r];rfl
def qc2r:∀ {xs:List PyData} {ps:List 'j'},unQ xs=some ps->xs=ps.map qa2y
 | [],ps,h=>by cases h;rfl
 | .tuple [.str k,d] :: r,ps,h=>by
  have h':(unQ r).map ((k,d) :: ·)=some ps:=h;obtain⟨qs,h1,rfl⟩:=map_eq_some_iff.mp h';rw [qc2r h1];rfl
noncomputable def dictQ(ps:List 'j'):PyData:=.dict ((qa8s [] (ps.map kQ)).map kD)
noncomputable def qb8q:FC:=fun ds=>match ds with
 | [.tuple xs]=>(unQ xs).bind fun ps=>if ps.length <= 1000 then some (dictQ ps) else none
 | _=>none
section
variable{K:W.Frag}{H:Hp}{S:Addr->Prop}
def pairs_at:∀ {ps:List 'j'} {ys:List V},qa0c K H S (ps.map qa2y) ys->∃ qs:List (Str × V),ys.length=qs.length/\qs.length=ps.length/\(∀ (i:Nat) y,ys[i]? = some y->∃ b p,qs[i]? = some p/\y=.ref b/\SqT K H b [.str p.1,p.2])/\qa0e K H S ((ps.map kQ).map kD) (qs.map kS)
 | [],ys,h=>by
  cases h.unnil
  exact⟨[],rfl,rfl,fun i y e=>by simp at e,.nil⟩
 | p :: r,ys,h=>by
  obtain⟨y,t,rfl,h1,h2⟩:=h.uncons;obtain⟨qs,e1,e2,e3,e4⟩:=pairs_at h2;obtain⟨b,zs,rfl,sq,az⟩:=qa2w h1;obtain⟨z1,zr,rfl,a1,a2⟩:=az.uncons;obtain⟨z2,zr2,rfl,a3,a4⟩:=a2.uncons;cases a4.unnil;cases qa9m a1;refine⟨(p.1,z2) :: qs,by rw [length_cons,length_cons,e1],by rw [length_cons,length_cons,e2],fun i y e=>?_,.cons (k:=Sum.inr p.1) a3 e4⟩;cases i with
  | zero=>cases e;exact⟨b,(p.1,z2),rfl,rfl,sq⟩
  | succ i=>exact e3 i y e
def qd0l:AdC K (qb3z K) qb8q:=by
 intro S H vs ds z Q f h e k;unfold qb8q at e;split at e
 ·rename_i xs
  cases q:unQ xs with
  | none=>rw [q] at e;cases e
  | some ps =>
   rw [q,bind_some] at e;split at e
   ·rename_i hz
    cases e
    obtain⟨v,rfl,h1⟩:=h.one;have ex:=qc2r q;subst ex;obtain⟨a,ys,rfl,sq,al⟩:=h1.tup;obtain⟨qs,e1,e2,e3,e4⟩:=pairs_at al;refine⟨a,ys,qs,rfl,sq,e1,e3,'o',fun p hp=>?_⟩;have sm:=qa0v (H:=H) hp (.dK (foldQ qs));exact k _ _ sm (qa4y (f p hp) qa0h (qa0e.mono sm.keep _ _ (qa0e.merge e4 .nil)))
   ·cases e
 ·cases e
noncomputable def fGetD:PyData->List PyData->Option PyData:=fun x ds=>match x,ds with
 | .dict kvs,[.str k,d]=>if notL d=true then some ((getA kvs (Sum.inr k)).getD d) else none
 | _,_=>none
def dGetD(dd:TDE)(da:TDA):TDE:=fun ρ Q=>dd ρ fun x ρ1=>need (qa0m ρ1 x) fun dx=>(∃ kvs,dx=.dict kvs)/\da ρ1 fun ys ρ2=>need (qa0m ρ2 x) fun dx2=>need (qa1o ρ2 ys) fun ds=>need (fGetD dx2 ds) fun z=>Q (.d z) ρ2
def AtT.notL{d:PyData}{v:V}(h:AtT K H S d v)(e:notL d=true):AtD K H S d v:=by
 rcases h with h | ⟨ds,a,vs,rfl,_⟩
 ·exact h
 ·cases e
def ad_getD{td:TE}{ta:TA}{dd:TDE}{da:TDA}(hd:AdE K td dd)(ha:AdA K ta da):AdE K (tBM K "dict" rGet2 td ta) (dGetD dd da):=by
 intro c O ρ σ H Qd Q R h k;refine hd c O ρ σ H _ _ R h fun x ρ1 O1 v H1 h1 R1 P1 a1=>?_;obtain⟨dx,e1,hn2⟩:=ne (h1);obtain⟨hz1,h1⟩:=hn2;obtain⟨kvs,rfl⟩:=hz1;obtain⟨a,ν,rfl,_,ea,_⟩:=(R1.top a1 e1).dict;refine⟨.inr (.inr (.inl ⟨rfl,.inl ⟨_,ea⟩⟩)),ha c O1 ρ1 σ H1 _ _ R1 h1 fun ys ρ2 O2 vs H2 h2 R2 P2 a2=>?_⟩;obtain⟨dx2,e2,hn3⟩:=ne (h2);obtain⟨ds,e3,hn4⟩:=ne (hn3);obtain⟨z,e4,h2⟩:=ne (hn4);have t1:=R2.top (a1.pers P2) e2;have t2:=R2.tops a2 e3;unfold fGetD at e4;split at e4
 ·rename_i kvs2 k' d
  split at e4
  ·rename_i nl
   cases e4
   obtain⟨a',κ,ea',_,eb,tk⟩:=t1.dict;cases ea';obtain⟨v1,v2,rfl,t3,t4⟩:=t2.two;refine⟨a,_,k',v2,rfl,by rw [t3.str],eb,?_⟩;rcases tk.get (Sum.inr k') with⟨g1,g2⟩ | ⟨d',v',g1,g2,g3⟩
   ·rw [g1] at h2
    rw [g2];exact k _ _ _ _ _ h2 R2 (P1.trans P2) (show AtD K H2 (live c O2) d v2 from t4.notL nl)
   ·rw [g1] at h2
    rw [g2];exact k _ _ _ _ _ h2 R2 (P1.trans P2) (show AtD K H2 (live c O2) d' v' from g3)
  ·cases e4
 ·cases e4
end
theorem dGetD_a{d1:TDE}{da:TDA}{ρ:Rho}{Q:DV->Rho->Prop}:dGetD d1 da ρ Q=d1 ρ fun x ρ1=>need (qa0m ρ1 x) fun dx=>(∃ kvs,dx=.dict kvs)/\da ρ1 fun ys ρ2=>need (qa0m ρ2 x) fun dx2=>need (qa1o ρ2 ys) fun ds=>need (fGetD dx2 ds) fun z=>Q (.d z) ρ2:=rfl
theorem dSU_a{da db:TDA}{ρ:Rho}{Q:DV->Rho->Prop}:dSU da db ρ Q=da ρ fun xs ρ1=>need (qa1o ρ1 xs) fun ds=>need (txD ds) fun a=>a.length <= 3/\db ρ1 fun ys ρ2=>need (qa1o ρ2 ys) fun es=>need (txD es) fun b=>b.length <= 3/\Q (.d (.list ((unS a b).map .str))) ρ2:=rfl
section
variable{X:Cx}{e1 e2:Expr}{daa:TDA}{pos:Pos}
def de_getD{o:Expr}{dd:TDE}{p2:Pos}(ho:DE X o dd)(ha:DA X [e1,e2] daa)
  (hbase:attributeBase o "get" X.env (eval o X.env)=eval o X.env:=by rfl)
  (hfew:((backTo pos (starEach [e1,e2] X.env)).all (fun x=>!x.1) && (backToKw pos (keywordEach [] X.env)).all (fun x=>x.1.isSome)
   && decide (([e1,e2]:List Expr).length + ([]:List Keyword).length + (if ([]:List Keyword).isEmpty then 0 else 1) < 30))=true:=by rfl)
  (hline:(p2.endLine == pos.line)=true:=by rfl) (hs:starEach [e1,e2] X.env=(false,eval e1 X.env) :: starEach [e2] X.env:=by rfl) (hpl:(backTo pos (starEach [e2] X.env)).any (·.1)=false:=by rfl):DE X (.Call (.Attribute o "get" p2) [e1,e2] [] pos) (dGetD dd daa):=by
 obtain⟨td,pd,ad⟩:=ho;obtain⟨ta,pa,aa⟩:=ha;exact⟨_,pe_bm PySem.F.plainAttrs_dict PySem.F.slot_dict_get PySem.F.type_dict_get mt_get2 pd pa hbase hfew hline hs hpl,ad_getD ad aa⟩
end
end
end L2
section
namespace Sx
open PySem PySem.W PyProof.Rows
end Sx
namespace L2
open PySem PySem.Spec PyProof.Rows
noncomputable def qa6m(ps:List 'j')(x:Str):PyData:=((ps.find? fun q=>decide (q.1=x)).map (·.2)).getD .none
noncomputable def srtP(ps:List 'j'):List 'j':=(Sx.srtS (ps.map (·.1))).map fun x=>(x,qa6m ps x)
end L2
end
namespace L2
open PySem PySem.Spec PyProof.Rows
section
section
variable{K:W.Frag}
def dCopyP(i:Nat)(da:TDA)(dp:TDP):TDS:=fun D ρ=>da ρ fun xs ρ1=>need (qa1o ρ1 xs) fun ds=>i < ρ1.length/\∃ ν:List (Key × PyData),ds=[.dict (ν.map kD)]/\dp D (ρ1.set i none) ν
end
theorem qd0m{i:Nat}{da:TDA}{dp:TDP}{D:DEnds}{ρ:Rho}:dCopyP i da dp D ρ=da ρ fun xs ρ1=>need (qa1o ρ1 xs) fun ds=>i < ρ1.length/\∃ ν:List (Key × PyData),ds=[.dict (ν.map kD)]/\dp D (ρ1.set i none) ν:=rfl
end
section
mutual
noncomputable def ndD:PyData->Bool
 | .dict _=>false
 | .list ds=>ndA ds
 | .tuple ds=>ndA ds
 | _=>true
noncomputable def ndA:List PyData->Bool
 | []=>true
 | d :: r=>ndD d && ndA r
end
section
variable{K:W.Frag}{H H':Hp}{S S':Addr->Prop}{ok:Bool}
mutual
def AtD.carry(hl:∀ a xs,S a->H a=some (.lst xs)->S' a/\H' a=some (.lst xs))(hd:ok=true->∀ a κ,S a->H a=some (.dK κ)->S' a/\H' a=some (.dK κ))(ht:∀ a xs,SqT K H a xs->SqT K H' a xs) :
  ∀ (d:PyData) (v:V),ok=true ∨ ndD d=true->AtD K H S d v->AtD K H' S' d v
 | .none,_,_,h=>by unfold AtD at h ⊢;exact h
 | .bool _,_,_,h=>by unfold AtD at h ⊢;exact h
 | .int _,_,_,h=>by unfold AtD at h ⊢;exact h
 | .str _,_,_,h=>by unfold AtD at h ⊢;exact h
 | .list ds,v,n,h=>by
  unfold AtD at h ⊢;obtain⟨a,xs,e1,s,q,r⟩:=h;obtain⟨s',q'⟩:=hl a xs s q;exact⟨a,xs,e1,s',q',qa0c.carry hl hd ht ds xs (n.imp id fun z=>by unfold ndD at z;exact z) r⟩
 | .tuple ds,v,n,h=>by
  unfold AtD at h ⊢;obtain⟨a,xs,e1,q,r⟩:=h;exact⟨a,xs,e1,ht a xs q,qa0c.carry hl hd ht ds xs (n.imp id fun z=>by unfold ndD at z;exact z) r⟩
 | .dict kvs,v,n,h=>by
  unfold AtD at h ⊢;obtain⟨a,ν,e1,s,q,e2⟩:=h;have o:ok=true:=n.elim id fun z=>by unfold ndD at z;cases z
  obtain⟨s',q'⟩:=hd o a ν s q;exact⟨a,ν,e1,s',q',qa0e.carry o hl hd ht kvs ν e2⟩
def qa0c.carry(hl:∀ a xs,S a->H a=some (.lst xs)->S' a/\H' a=some (.lst xs))(hd:ok=true->∀ a κ,S a->H a=some (.dK κ)->S' a/\H' a=some (.dK κ))(ht:∀ a xs,SqT K H a xs->SqT K H' a xs) :
  ∀ (ds:List PyData) (vs:List V),ok=true ∨ ndA ds=true->qa0c K H S ds vs->qa0c K H' S' ds vs
 | [],_,_,h=>by unfold qa0c at h ⊢;exact h
 | d :: ds,vs,n,h=>by
  unfold qa0c at h ⊢;obtain⟨v,r,e1,h1,h2⟩:=h;have n1:ok=true ∨ ndD d=true:=n.imp id fun z=>by unfold ndA at z;rw [and_eq_true] at z;exact z.1
  have n2:ok=true ∨ ndA ds=true:=n.imp id fun z=>by unfold ndA at z;rw [and_eq_true] at z;exact z.2
  exact⟨v,r,e1,AtD.carry hl hd ht d v n1 h1,qa0c.carry hl hd ht ds r n2 h2⟩
def qa0e.carry(o:ok=true)(hl:∀ a xs,S a->H a=some (.lst xs)->S' a/\H' a=some (.lst xs))(hd:ok=true->∀ a κ,S a->H a=some (.dK κ)->S' a/\H' a=some (.dK κ))(ht:∀ a xs,SqT K H a xs->SqT K H' a xs) :
  ∀ (kvs:List 'i') (κ:List (Key × V)),qa0e K H S kvs κ->qa0e K H' S' kvs κ
 | [],_,h=>by unfold qa0e at h ⊢;exact h
 | (x,d) :: r,κ,h=>by
  unfold qa0e at h ⊢;obtain⟨k,v,t,e1,e2,h1,h2⟩:=h;exact⟨k,v,t,e1,e2,AtD.carry hl hd ht d v (.inl o) h1,qa0e.carry o hl hd ht r t h2⟩
end
end
noncomputable def Rc.rebA(c:Rc)(O:Own)(H:Hp):Rc:={ c with H0:=H,M:=fun a=>∃ j,O j=some a,A:=fun a=>(∃ j,O j=some a) ∨ H a=none }
noncomputable def ndL:Option L->Bool
 | some (.d x)=>ndD x
 | some (.own xs)=>ndA xs
 | some (.bor xs)=>ndA xs
 | _=>true
section
variable{K:W.Frag}{c:Rc}{O O1:Own}{ρ ρ1:Rho}{σ σ1:St}{H H1 H2:Hp}{p:Addr}{κ:List (Key × V)}{ν:List (Key × PyData)}{i:Nat}
def PinK.lend(P:PinK K c p κ i O ρ σ H)(hk:qa0e K H (live (c.reb O p H) O) (ν.map kD) κ) :
  Rel K (c.rebA O H) (qa2p O i) (ρ.set i (some (.d (.dict (ν.map kD))))) σ H/\Pers K (live (c.reb O p H) O) H (live (c.rebA O H) (qa2p O i)) H:=by
 have R1:Rel K ((c.rebA O H).add p) O ρ σ H:=P.rel.to (fun _=>rfl) (fun _ _ _ z=>z) rfl rfl (.of (Keep.refl _ _) fun a z=>z) (fun _ _ _ _ q=>q) (fun j q e _=>.inl ⟨j,e⟩) (fun q z=>z) P.rel.frs (fun b o _ z=>z) (fun b z=>z) P.rel.ml P.rel.pin (fun _=>rfl) P.rel.sc;obtain⟨R2,P2⟩:=R1.unadd;have hi:i < ρ.length:=(List.getElem?_eq_some_iff.mp P.nul).1;have P12:Pers K (live (c.reb O p H) O) H (live (c.rebA O H) O) H:=Pers.trans (.of (Keep.refl _ _) fun a z=>z) P2;obtain⟨R3,P3⟩:=R2.setD (i:=i) (x:=.dict (ν.map kD)) (v:=.ref p) hi (qa4y ⟨P.frs p P.fr0,P.np,P.notO⟩ P.at_ (P12.kvs hk));have e:σ.set i (some (.ref p))=σ:=by
  refine List.ext_getElem? fun j=>?_;by_cases hj:j=i
  ·subst hj
   rw [getElem?_set_self (List.getElem?_eq_some_iff.mp P.slot).1,P.slot]
  ·exact getElem?_set_ne (Ne.symm hj)
 rw [e] at R3;exact⟨R3,P12.trans P3⟩
def PinK.stayA(P:PinK K c p κ i O ρ σ H)(R:Rel K (c.rebA O H) O1 ρ1 σ1 H1):H1 p=some (.dK κ):=R.same p _ (fun hq8=>by obtain⟨j,e⟩:=hq8;exact P.notO j e) P.at_
def PinK.back(P:PinK K c p κ i O ρ σ H)(oa:∀ q,c.H0 q=none->c.A q)(R:Rel K (c.rebA O H) O1 ρ1 σ1 H1)(hi:i < ρ1.length)(hs:σ1[i]? = some (some (.ref p)))(nd:∀ j l,j ≠ i->ρ1[j]? = some l->ndL l=true) :
  PinK K c p κ i O1 (ρ1.set i none) σ1 H1/\Pers K (live (c.reb O p H) O) H (live (c.reb O1 p H1) O1) H1:=by
 have h1:=P.stayA R;have hne:∀ {q:Addr} {vs:List V},H1 q=some (.lst vs)->q ≠ p:=fun e z=>by rw [z,h1] at e;cases e
 have mono:∀ d v,ndD d=true->AtD K H1 (live (c.rebA O H) O1) d v->AtD K H1 (live (c.reb O1 p H1) O1) d v:=fun d v n h =>
  AtD.carry (ok:=false) (fun a xs s q=>⟨⟨s.1,fun z=>z.elim s.2.1 (hne q),s.2.2⟩,q⟩) 'p' (fun a xs q=>q) d v (.inr n) h
 have monoA:∀ ds vs,ndA ds=true->qa0c K H1 (live (c.rebA O H) O1) ds vs->qa0c K H1 (live (c.reb O1 p H1) O1) ds vs:=fun d v n h =>
  qa0c.carry (ok:=false) (fun a xs s q=>⟨⟨s.1,fun z=>z.elim s.2.1 (hne q),s.2.2⟩,q⟩) 'p' (fun a xs q=>q) d v (.inr n) h
 have nei:∀ {j:Nat} {l:L},(ρ1.set i none)[j]? = some (some l)->j ≠ i/\ρ1[j]? = some (some l):=fun{j l} e=>by
  by_cases hj:j=i
  ·subst hj
   rw [getElem?_set_self hi] at e;cases e
  ·rw [getElem?_set_ne (Ne.symm hj)] at e
   exact⟨hj,e⟩
 have nown:∀ {b:Addr} {o:HO},H b=some o->(∀ j,O j ≠ some b)->H1 b=some o/\∀ j,O1 j ≠ some b:=fun{b o} e n=>by
  refine⟨R.same b o (fun hq8=>by obtain⟨j,z⟩:=hq8;exact n j z) e,fun j z=>?_⟩;rcases (R.has' j b z).1 with⟨j',z'⟩ | z'
  ·exact n j' z'
  ·rw [e] at z';cases z'
 have nt:∀ {b:Addr} {o:HO},H b=some o->(∀ vs,o ≠ .lst vs)->∀ j,O j ≠ some b:=fun{b o} e n j z=>by
  obtain⟨_,vs,q⟩:=P.rel.has' j b z;rw [e] at q;exact n vs (Option.some.inj q)
 have kp:Keep (live (c.reb O p H) O) H H1:=⟨fun b xs e=>(nown e (nt e fun _ z=>nomatch z)).1,fun b o u e=>(nown e (nt e fun _ z=>nomatch z)).1,fun b o s e=>(nown e s.2.2).1⟩;refine⟨⟨⟨fun j x e=>?_,fun j xs e=>?_,fun j xs e=>?_,fun j k e=>?_,fun j e=>?_,R.inj,fun j q e=>⟨⟨j,e⟩,(R.has' j q e).2⟩,fun q z=>.inl z,fun q z=>R.frs q (R.free0 z),fun b o _ z=>z,fun b z=>z,fun q hq8=>by obtain⟨j,e⟩:=hq8;exact(R.has' j q e).2,fun q z=>?_,fun j q e l e1 e2=>?_,R.sc,by rw [length_set];exact R.len⟩,
  h1,hs,getElem?_set_self hi,fun j q e=>?_,fun b o nM e=>?_,fun b z=>R.kept b (P.bK b z),fun q z=>?_,P.am,P.frs,P.fr0,P.np⟩,fun d v h=>?_⟩
 ·obtain⟨hj,e⟩:=nei e
  obtain⟨v,a1,a2⟩:=R.dat j x e;exact⟨v,a1,mono _ _ (nd j _ hj e) a2⟩
 ·obtain⟨hj,e⟩:=nei e
  obtain⟨q,vs,a1,a2,a3,a4,a5⟩:=R.own j xs e;exact⟨q,vs,a1,⟨a2.1,a2.2.1,fun z=>z.elim a2.2.2 (hne a4)⟩,a3,a4,monoA _ _ (nd j _ hj e) a5⟩
 ·obtain⟨hj,e⟩:=nei e
  obtain⟨q,vs,a1,a3,a4,a5⟩:=R.bor j xs e;exact⟨q,vs,a1,a3,a4,monoA _ _ (nd j _ hj e) a5⟩
 ·exact R.tap j k (nei e).2
 ·exact R.scr j (nei e).2
 ·rcases z with(z | z) | z
  ·exact R.pin q (.inl z)
  ·rw [z,h1];exact fun w=>nomatch w
  ·exact R.pin q (.inr z)
 ·exact R.lnt j q e l (nei e1).2 e2
 ·rcases (R.has' j q e).1 with⟨j',z'⟩ | z'
  ·exact P.bA j' q z'
  ·refine oa q ?_
   cases w:c.H0 q with
   | none=>rfl
   | some o=>exact absurd z' (P.bK q (by rw [w];exact fun w=>nomatch w))
 ·refine R.same b o (fun hq8=>?_) (P.bS b o nM e)
  obtain⟨j,e'⟩:=hq8;rcases P.am b (P.bA j b e') with z | z
  ·exact nM z
  ·rw [e] at z;cases z
 ·by_cases hj:∃ j,O j=some q
  ·exact R.ml q hj
  ·obtain⟨vs,e⟩:=P.bM q z
   exact⟨vs,R.same q _ hj e⟩
 ·refine AtD.carry (ok:=true) (fun a xs s q=>?_) (fun _ a xs s q=>?_) (fun a xs q=>kp.seqT q) d v (.inl rfl) h
  ·obtain⟨b1,b2⟩:=nown q s.2.2
   exact⟨⟨s.1,s.2.1,b2⟩,b1⟩
  ·obtain⟨b1,b2⟩:=nown q s.2.2
   exact⟨⟨s.1,s.2.1,b2⟩,b1⟩
end
structure EndsI(K:W.Frag)(c:Rc)(i:Nat)(s0:Option (Option V))(S0:Addr->Prop)(H0:Hp)(D:Ends)(Dd:DEnds):Prop where
 nx:∀ O ρ σ H,Rel K c O ρ σ H->Pers K S0 H0 (live c O) H->σ[i]? = s0->Dd.nx ρ->D.nx σ H
 rt:∀ r O ρ σ H v,RetOk K c O ρ σ H r v->Dd.rt r ρ->D.rt v H
 bk:∀ O ρ σ H,Rel K c O ρ σ H->Pers K S0 H0 (live c O) H->σ[i]? = s0->Dd.bk ρ->D.bk σ H
 ct:∀ O ρ σ H,Rel K c O ρ σ H->Pers K S0 H0 (live c O) H->σ[i]? = s0->Dd.ct ρ->D.ct σ H
 oa:∀ p,c.H0 p=none->c.A p
noncomputable def ndR:Nat->Rho->Bool
 | _,[]=>true
 | 0,_ :: r=>r.all ndL
 | i + 1,l :: r=>ndL l && ndR i r
def ndR_at:∀ {i:Nat} {ρ:Rho},ndR i ρ=true->∀ (j:Nat) l,j ≠ i->ρ[j]? = some l->ndL l=true
 | _,[],_,j,l,_,e=>by simp at e
 | 0,a :: r,h,j,l,n,e=>by
  cases j with
  | zero=>exact absurd rfl n
  | succ j=>exact all_eq_true.mp h l (mem_of_getElem? (by simpa using e))
 | i + 1,a :: r,h,j,l,n,e=>by
  have h':(ndL a && ndR i r)=true:=h;rw [and_eq_true] at h';cases j with
  | zero=>cases e;exact h'.1
  | succ j=>exact ndR_at h'.2 j l (fun z=>n (by rw [z])) (by simpa using e)
abbrev TPt:=(Rho->List (Key × PyData)->Prop)->Rho->List (Key × PyData)->Prop
def AdPt(K:W.Frag)(i:Nat)(t:TS)(dt:TPt):Prop:=∀ (u:TS) (du:TDP),AdP K i u du->AdP K i (tSeq t u) (fun D ρ ν=>dt (du D) ρ ν)
def DPt(X:Cx)(i:Nat)(st:Stmt)(dt:TPt):Prop:=∃ t,PS X st t/\AdPt X.K i t dt
noncomputable def dLent(i:Nat)(ρ:Rho)(ν:List (Key × PyData)):Rho:=ρ.set i (some (.d (.dict (ν.map kD))))
def pStm(i:Nat)(dt:TDS):TPt:=fun N ρ ν=>dt { nx:=fun ρ'=>i < ρ'.length/\ndR i ρ'=true/\N (ρ'.set i none) ν,rt:=fun _ _=>False } (dLent i ρ ν)
def pIf(i:Nat)(dc:TDT)(da db:TPt):TPt:=fun N ρ ν=>dc (dLent i ρ ν) fun b ρ'=>i < ρ'.length/\ndR i ρ'=true/\if b=true then da N (ρ'.set i none) ν else db N (ρ'.set i none) ν
noncomputable def pSeq(da db:TPt):TPt:=fun N ρ ν=>da (fun ρ' ν'=>db N ρ' ν') ρ ν
def pPut(i:Nat)(dk dv:TDE):TPt:=fun N ρ ν=>ν.length < 1000/\dv (dLent i ρ ν) fun y ρ1=>fz ρ1 y fun dy ρ2=>dk ρ2 fun z ρ3=>i < ρ3.length/\ndR i ρ3=true/\ndD dy=true/\need (qa0m ρ3 z) fun dz=>need (qa3e dz) fun k=>N (ρ3.set i none) (putA ν k dy)
section
variable{K:W.Frag}{i:Nat}
def adp_put{tk tv:TE}{dk dv:TDE}(hk:AdE K tk dk)(hv:AdE K tv dv):AdPt K i (qb0h (tVar i) tk tv) (pPut i dk dv):=by
 intro u du hu c O0 H0 O ρ σ H D Dd p κ ν P hk0 E Q0 q;obtain⟨hl,q⟩:=q;obtain⟨R,P1⟩:=P.lend hk0;show qb0h (tVar i) tk tv { D with nx:=u D } σ H;refine hv _ _ _ _ _ _ _ R q fun y5 ρ5 O5 v5 H5 h5 R5 P5 a5=>?_;obtain⟨dy,ρ5',O5',h5,R5',P5',ev⟩:=R5.fz a5 h5;refine⟨.ref p,P.slot,?_⟩;refine hk _ _ _ _ _ _ _ R5' h5 fun z6 ρ6 O6 v6 H6 h6 R6 P6 a6=>?_;obtain⟨hi6,hn6,hd6,hq6⟩:=h6;obtain⟨dz,e3,hn3⟩:=ne (hq6);obtain⟨k,e4,h6⟩:=ne (hn3);have ek:v6=kV k:=qb0j (R6.top a6 e3) e4;subst ek;have h6p:=P.stayA R6;have hll:κ.length < 1000:=by rw [hk0.len,length_map];exact hl
 refine⟨p,_,rfl,DPut.k (k:=k) h6p (qb3r hll),?_⟩;obtain⟨Pb,Qb⟩:=P.back E.oa R6 hi6 P.slot (ndR_at hn6);have ev6:=P6 _ _ ev;have ev7:AtD K H6 (live (c.reb O6 p H6) O6) dy v5:=AtD.carry (ok:=false) (fun a xs s q=>⟨⟨s.1,fun z=>z.elim s.2.1 (fun w=>by rw [w,h6p] at q;cases q),s.2.2⟩,q⟩) 'p' (fun a xs q=>q) dy v5 (.inr hd6) ev6;obtain⟨P7,Q7⟩:=Pb.step (H2:=upd H6 p (.dK (putK κ k v5))) (μ:=putK κ k v5) Pb.rel Pb.slot Pb.nul (fun b hb=>qa0f hb) qa0h;exact hu c O0 H0 O6 _ σ _ D Dd p _ _ P7 (((Qb.trans Q7).kvs hk0).put (Q7 _ _ ev7)) E ((Q0.trans Qb).trans Q7) h6
end
def qb8r(i:Nat)(da:TDA)(dp:TDP):TDS:=fun D ρ=>da ρ fun xs ρ1=>need (qa1o ρ1 xs) fun ds=>i < ρ1.length/\∃ ps:List 'j',ds=[.tuple (ps.map qa2y)]/\ps.length <= 1000/\dp D (ρ1.set i none) (qa8s [] (ps.map kQ))
def qc6x{K:W.Frag}{i:Nat}{ta:TA}{da:TDA}{u:TS}{du:TDP}(ha:AdA K ta da)(hu:AdP K i u du):AdS K (tSeq (tAsg (tCB (qb3z K) ta) (qa3b i)) u) (qb8r i da du):=by
 intro c O ρ σ H D Dd R E h;show tAsg (tCB (qb3z K) ta) (qa3b i) { D with nx:=u D } σ H;refine ha c O ρ σ H _ _ R h fun xs ρ1 O1 vs H1 h1 R1 P1 a1=>?_;obtain⟨ds,e1,hn1⟩:=ne (h1);obtain⟨hi,ps,rfl,hz,h1⟩:=hn1;obtain⟨v,rfl,t1⟩:=(R1.tops a1 e1).one;obtain⟨a,ys,rfl,sq,al⟩:=t1.tup;obtain⟨qs,g1,g2,g3,g4⟩:=pairs_at al;refine⟨a,ys,qs,rfl,sq,g1,g3,'o',fun p hp=>?_⟩;obtain⟨P0,Q0⟩:=PinK.start (i:=i) (ν:=foldQ qs) R1 hi hp;exact hu c O H _ _ _ _ D Dd p _ _ P0 (Q0.kvs (qa0e.merge g4 .nil)) E (P1.trans Q0) h1
section
variable{X:Cx}{i j:Nat}{st:Stmt}{e c kE vE tg iter:Expr}{a b rest body:List Stmt}{x:Str}{de dk dv:TDE}{df:TDF}{dtt:TDT}{dt du:TDS}{da db:TPt}{di:TDI}{dg:TDG}{daa:TDA}{dp:TDP}{pos pos' p1 p2 p4 p5 p6 p9:Pos}
def dpt_put(hi:X.N[i]? = some x)(hu:X.A.units + 64 < cLine)(hk:DE X kE dk)(hv:DE X vE dv)
  (hvs:Vis X.env.scope x:=by first | exact Or.inl rfl | exact Or.inr 'f' | exact Or.inr (Or.inr rfl)) (hd:(x == ("__debug__" : Str))=false:=by decide) (hcd:(x == ("__classdict__" : Str))=false:=by decide)
  (hs2:swapsWith vE (some (.Subscript (.Name x p4) kE p5)) p6.line X.env=pure false:=by rfl) :
  DPt X i (.Assign [.Subscript (.Name x p4) kE p5] vE p6) (pPut i dk dv):=by
 obtain⟨tk,pk,ak⟩:=hk;obtain⟨tv,pv',av⟩:=hv;exact⟨_,qc2d 'o' (qa9d hi hvs hd hcd) pk pv' hs2,adp_put ak av⟩
def qd0n(h1:DPt X i st da)(h2:DPs X i rest dp):DPs X i (st :: rest) (fun D ρ ν=>da (dp D) ρ ν):=by obtain⟨_,p,a⟩:=h1;obtain⟨_,p',a'⟩:=h2;exact⟨_,qa1k p p',a _ _ a'⟩
def qc6y(hN:X.N.Nodup)(hi:X.N[i]? = some x)(hx:Loc X.env.scope x)(hc:X.calm=true) (hg:Gl X "dict") (hm:X.mg "dict" = none) (ha:DA X [e] daa) (hr:DPs X i rest dp)
  (he:starEach [e] X.env=(false,eval e X.env) :: starEach [] X.env:=by rfl) (hpl:(backTo pos (starEach [] X.env)).any (·.1)=false:=by rfl)
  (hf:X.fn x=true ∨ X.env.scope.names.lookup x=some .local:=by first | exact .inl rfl | exact .inr rfl)
  (hs1:swapsWith (.Call (.Name "dict" p1) [e] [] pos) (some (.Name x p2)) p9.line X.env=pure false:=by rfl) :
  DSs X (.Assign [.Name x p2] (.Call (.Name "dict" p1) [e] [] pos) p9 :: rest) (qb8r i daa dp):=by
 obtain⟨ta,pa,aa⟩:=ha;obtain⟨u,pu,au⟩:=hr;exact⟨_,qa1k (qa3c hN hi hx (qa6x (qb4a hc) hg hm qc1s pa 'd' 'd' he hpl) hs1 hf) pu,qc6x aa au⟩
end
theorem qd0o{i:Nat}{da:TDA}{dp:TDP}{D:DEnds}{ρ:Rho}:qb8r i da dp D ρ=da ρ fun xs ρ1=>need (qa1o ρ1 xs) fun ds=>i < ρ1.length/\∃ ps:List 'j',ds=[.tuple (ps.map qa2y)]/\ps.length <= 1000/\dp D (ρ1.set i none) (qa8s [] (ps.map kQ)):=rfl
theorem pStm_a{i:Nat}{dt:TDS}{N:Rho->List (Key × PyData)->Prop}{ρ:Rho}{ν:List (Key × PyData)}:pStm i dt N ρ ν=dt { nx:=fun ρ'=>i < ρ'.length/\ndR i ρ'=true/\N (ρ'.set i none) ν,rt:=fun _ _=>False } (ρ.set i (some (.d (.dict (ν.map kD))))):=rfl
theorem pIf_a{i:Nat}{dc:TDT}{da db:TPt}{N:Rho->List (Key × PyData)->Prop}{ρ:Rho}{ν:List (Key × PyData)}:pIf i dc da db N ρ ν=dc (ρ.set i (some (.d (.dict (ν.map kD))))) fun b ρ'=>i < ρ'.length/\ndR i ρ'=true/\if b=true then da N (ρ'.set i none) ν else db N (ρ'.set i none) ν:=rfl
theorem pSeq_a{da db:TPt}{N:Rho->List (Key × PyData)->Prop}{ρ:Rho}{ν:List (Key × PyData)}:pSeq da db N ρ ν=da (fun ρ' ν'=>db N ρ' ν') ρ ν:=rfl
theorem pPut_a{i:Nat}{dk dv:TDE}{N:Rho->List (Key × PyData)->Prop}{ρ:Rho}{ν:List (Key × PyData)}:pPut i dk dv N ρ ν=(ν.length < 1000/\dv (ρ.set i (some (.d (.dict (ν.map kD))))) fun y ρ1=>fz ρ1 y fun dy ρ2=>dk ρ2 fun z ρ3=>i < ρ3.length/\ndR i ρ3=true/\ndD dy=true/\need (qa0m ρ3 z) fun dz=>need (qa3e dz) fun k=>N (ρ3.set i none) (putA ν k dy)):=rfl
end
section
noncomputable def qc2s:V->List V->Hp->VK->Prop:=fun x vs H Q=>∃ a kvs,∃ k:Key,∃ d,x=.ref a/\vs=[kV k,d]/\H a=some (.dK kvs)/\kvs.length < sizeLine /\
 (∀ v,valV kvs k=some v->Q v H)/\(valV kvs k=none->Q d (upd H a (.dK (putK kvs k d))))
section
variable{X:Cx}
def qc6z:MtM X "dict.setdefault" qc2s:=by
 intro pins s σ H x vs v us Q I rx rv h;obtain⟨a,kvs,k,d,rfl,rfl,e,hl,q1,q2⟩:=h;cases rx;obtain⟨u,r,rfl,ru,rr⟩:=Vals.two rv;obtain⟨z,hd,ws,rel,dd⟩:=dk_of I.hok e;have hz:ws.length <= sizeLine:=by rw [← rel.length];exact z
 refine call_meetsIn PySem.F.slot_dict_setdefault dd.typeIs PySem.F.entry_dict_setdefault (PySem.F.args_dict_setdefault_3 _ _ _) (kt_meets_setdefault (qa0z X.prog X.w) a (qb0g ru) hd r) ⟨ws,dd,hz,fun v hv=>?_,fun hn h' dd' hs=>?_⟩
 ·have:=rel.val k
  rw [hv] at this;cases e':valV kvs k with
  | none=>rw [e'] at this;cases this
  | some y=>rw [e'] at this;exact⟨y,H,I.tok _,this,q1 y e'⟩
 ·have hn':valV kvs k=none:=by
   have:=rel.val k;rw [hn] at this;cases e':valV kvs k with
   | none=>rfl
   | some y=>rw [e'] at this;cases this
  have hl2:(putK kvs k d).length <= sizeLine:=by have:=qa9a kvs k d;omega
  have he:∃ q,h'.get? a=some q:=by obtain⟨q,_,_,hq,_⟩:=dd';exact⟨q,hq⟩
  exact⟨d,_,qb4z I (by rw [e];exact True.intro) hs he (dk_new hl2 hd (rel.put k rr) dd'),rr,q2 hn'⟩
end
def qa1j.frzD{P:Program}{w:World}{H:Hp}{h:Heap}{d:Addr}{kvs:List (Key × V)}{o':HO}(e:H d=some (.dK kvs)):∀ {a:Addr} (o:HO),qa1j P w H h a o->qa1j P w (upd H d o') h a o
 | _,.lst _,x=>x
 | _,.tup _,x=>x
 | _,.dK _,x=>x
 | _,.dT _,⟨x1,x2,xs,x3,x4⟩=>⟨x1,x2,xs,Paired.mapP x3 (fun p q hq8=>by obtain⟨y1,y2,y3⟩:=hq8;exact⟨y1,by rw [qa0f (fun z=>by rw [z,e] at y2;cases y2)];exact y2,y3⟩),x4⟩
 | _,.set _ _,x=>x
 | _,.ins _ dx _,⟨x1,x2⟩=>⟨by rw [qa0f (fun z=>by rw [z,e] at x1;cases x1)];exact x1,x2⟩
 | _,.own _,x=>x
 | _,.xd _,x=>x
 | _,.rng _ _,x=>x
 | _,.frz _ u,⟨x1,x2⟩=>⟨x1,qa1j.frzD e u x2⟩
 | _,.tbl _,x=>x
 | _,.met _ _,x=>x
 | _,.ext _,x=>x
def Inv.frzD{X:Cx}{pins:List 'c'}{σ:St}{H:Hp}{s:Shared}{d:Addr}{o':Obj}{kvs:List (Key × V)}(I:Inv X pins σ H s)(e:H d=some (.dK kvs))(ho:s.heap.get? d=some o'):Inv X pins σ (upd H d (.frz o' (.dK kvs))) s where
 ok:=I.ok
 os:=I.os
 bare:=I.bare
 base:=⟨I.base.keep,I.base.slot,fun b o h1 h2 h3=>by
   have h':=I.base.free b o h1 h2 h3;rw [qa0f (fun z=>by rw [z,e] at h';cases h')];exact h',I.base.there,
  fun b xs h=>by
   have h':=I.base.tups b xs h;rw [qa0f (fun z=>by rw [z,e] at h';cases h')];exact h',
  fun b o u h=>by
   have h':=I.base.frzs b o u h;rw [qa0f (fun z=>by rw [z,e] at h';cases h')];exact h',
  fun b ps h=>by
   obtain⟨more,h'⟩:=I.base.tbls b ps h;exact⟨more,by rw [qa0f (fun z=>by rw [z,e] at h';cases h')];exact h'⟩⟩
 loc:=I.loc
 cell:=I.cell
 free:=by
  have h':=I.free;rw [qa0f (fun z=>by rw [z,e] at h';cases h')];exact h'
 freeC x c h:=by
  have h':=I.freeC x c h;rw [qa0f (fun z=>by rw [z,e] at h';cases h')];exact h'
 pin p hp:=by
  obtain⟨h1,h2,h3⟩:=I.pin p hp;exact⟨h1,by rw [qa0f (fun z=>by rw [z,e] at h2;cases h2)];exact h2,h3⟩
 hok a o h:=by
  by_cases z:a=d
  ·subst z
   rw [qa0h] at h;cases h;exact⟨ho,qa1j.frzD e _ (I.hok _ _ e)⟩
  ·rw [qa0f z] at h;exact qa1j.frzD e o (I.hok a o h)
 len:=I.len
noncomputable def Itvl(d:Addr)(o:Obj)(kvs:List (Key × V)):It:=⟨fun i H=>i < kvs.length/\H d=some (.frz o (.dK kvs)),fun i H x H'=>H'=H/\(kvs.map (·.2))[i]? = some x,fun i H=>kvs.length <= i/\H d=some (.frz o (.dK kvs))⟩
def KV.vals{κ:Type}:∀ {kvs:List (κ × V)} {vs:List (κ × Value)},KV kvs vs->Vals (kvs.map (·.2)) (vs.map (·.2))
 | _,_,.nil=>.nil
 | _,_,.cons h t=>.cons h.2 (KV.vals t)
def qc7a{P:Program}{w:World}{K:W.Frag}{tg:Expr}(d it:Addr)(o:Obj)(kvs:List (Key × V))(vs:List (Key × Value))(ep:Nat)(hv:Vals (kvs.map (·.2)) (vs.map (·.2)))(hd:∀ h:Heap,h.get? d=some o->h.DictAt (qa0z P w) d vs ep) :
  Turn P w K tg (Itvl d o kvs) [it] it (fun i h=>h.IsValIter it d i vs.length ep) where
 mem:=by simp
 obj:=fun i h st b hb=>by
  have e:b=it:=by simpa using hb
  subst e;obtain⟨o,e,c,dd⟩:=st;exact⟨o,e,fun v z=>by rw [dd] at z;cases z⟩
 keep:=fun i h h' st k=>by
  obtain⟨o,e,r⟩:=st;exact⟨o,k it 'g' o e,r⟩
 item:=by
  intro X hP hw hK hc i pins s σ H E I hf st hg;subst hP hw hK;have hl:=hv.length;rw [length_map,length_map] at hl;have hi:i < vs.length:=by rw [← hl];exact hg.1
  obtain⟨⟨k,u⟩,hku⟩:∃ r,vs[i]? = some r:=⟨_,getElem?_eq_getElem hi⟩;obtain⟨x,hx⟩:∃ x,(kvs.map (·.2))[i]? = some x:=⟨_,getElem?_eq_getElem (by rw [length_map];exact hg.1)⟩;obtain⟨u',hu',ru⟩:=hv.get hx;rw [getElem?_map,hku] at hu';cases hu';obtain⟨f0,f1,f2,f3,f4,f5⟩:=hf it 'g';have hod:s.heap.get? d=some o:=(I.hok d _ hg.2).1;refine wpAny_pyNext_values_item st (hd _ hod) hku fun h' st' sb=>?_;have I1:Inv X pins σ H { s with heap:=h' }:=I.turned (t':=s.toks) (fun b o hb e=>(sb.2 b hb).trans e) f0 f1 f3 f4 f5;obtain⟨o,e,c,d'⟩:=id st';exact⟨u,rfl,go_of (s:={ s with heap:=h' }) e c d' 'd' ⟨x,H,I1,ru,⟨rfl,hx⟩,st',fun b hb=>(hf b hb).1⟩⟩
 done:=by
  intro X hP hw hK hc i pins s σ H E I hf st hg;subst hP hw hK;have hl:=hv.length;rw [length_map,length_map] at hl;have hi:vs[i]? = none:=List.getElem?_eq_none (by rw [← hl];exact hg.1);obtain⟨f0,f1,f2,f3,f4,f5⟩:=hf it 'g';have hod:s.heap.get? d=some o:=(I.hok d _ hg.2).1;exact wpAny_pyNext_values_end (I.ok.hd hc) st (hd _ hod) hi fun h' eb=>⟨rfl,I.turned (t':=s.toks) (fun b o hb e=>eb b o hb e) f0 f1 f3 f4 f5⟩
 self:=fun _ _ _ _ _ st h=>wpAny_pyIter_valiter st h
def iVals(td:TE):TI:=fun σ H R=>td σ H fun x H1=>∃ d kvs,x=.ref d/\H1 d=some (.dK kvs)/\∀ o,R (Itvl d o kvs) (upd H1 d (.frz o (.dK kvs)))
def pi_vals{X:Cx}{tg o:Expr}{td:TE}{apos cpos:Pos}(ho:PE X o td)
  (hbase:attributeBase o "values" X.env (eval o X.env)=eval o X.env:=by rfl) (hline:(apos.endLine == cpos.line)=true:=by rfl):PI X tg (.Call (.Attribute o "values" apos) [] [] cpos) (iVals td):=by
 intro pins s σ H R I h;refine wpAny_Call_method0_late hbase hline (thn (ho pins s σ H _ I h) fun v s1 hq9=>?_);obtain⟨x,H1,I1,r1,d,kvs,ex,hd,q⟩:=hq9;subst ex;cases r1;obtain⟨h1,h2⟩:=tyV_is (T:="dict") I1 (show RelV (.ref d) (.ref d) from rfl) (.inr (.inr (.inl ⟨rfl,.inl ⟨_,hd⟩⟩)));obtain⟨z,hs,vs,rel,dd⟩:=dk_of I1.hok hd;refine⟨"dict","dict.values",PySem.F.plainAttrs_dict,PySem.F.slot_dict_values,PySem.F.type_dict_values,h1,h2,Calls.callWith_builtin rfl (PySem.evalArgs_none ?_)⟩;refine call_meetsIn PySem.F.slot_dict_values dd.typeIs PySem.F.entry_dict_values (PySem.F.args_dict_values_1 _) (meets_dict_values (qa0z X.prog X.w) d hs) ⟨⟨vs,dd⟩,?_⟩;obtain⟨ep,ob,es,hob,r2⟩:=dd.dictAt;have hat:∀ h:Heap,h.get? d=some ob->h.DictAt (qa0z X.prog X.w) d vs ep:=fun h e=>⟨ob,es,e,r2⟩;have I2:Inv X pins σ H1 { s1 with heap:=s1.heap.push { cls:=.type "dict_values",data:=.fields #[.ref d] } }:=I1.kept (t':=s1.toks) fun b o e=>get?_push_of_some _ e;have hob2:(s1.heap.push { cls:=.type "dict_values",data:=.fields #[.ref d] }).get? d=some ob:=get?_push_of_some _ hob;refine wpAny_pyIter_values (s:={ s1 with heap:=s1.heap.push { cls:=.type "dict_values",data:=.fields #[.ref d] } }) ⟨_,get?_push_size _ rfl,rfl,rfl⟩ (hat _ hob2) ?_;have I3:Inv X pins σ H1 { s1 with heap:=(s1.heap.push { cls:=.type "dict_values",data:=.fields #[.ref d] }).push { cls:=.type "dict_valueiterator",data:=.fields #[.ref d,.int 0 0,.int vs.length 0,.int ep 0] } }:=I2.kept (t':=s1.toks) fun b o e=>get?_push_of_some _ e;refine⟨(s1.heap.push { cls:=.type "dict_values",data:=.fields #[.ref d] }).objs.size,[(s1.heap.push { cls:=.type "dict_values",data:=.fields #[.ref d] }).objs.size],_,Itvl d ob kvs,_,rfl,I3.frzD hd (get?_push_of_some _ hob2),qc7a d _ ob kvs vs ep rel.vals hat,⟨_,get?_push_size _ rfl,rfl,rfl⟩,fun b hb=>?_,q ob⟩;have e:b=(s1.heap.push { cls:=.type "dict_values",data:=.fields #[.ref d] }).objs.size:=by simpa using hb
 subst e;have hn:=I2.hok.fresh (le_refl (s1.heap.push { cls:=.type "dict_values",data:=.fields #[.ref d] }).objs.size);exact I2.fpOk 'e' (by rw [qa0f (fun z=>by rw [z,hd] at hn;cases hn)];exact hn)
end
end L2
section
namespace Sx
open PySem
end Sx
namespace L2
open PySem PySem.Spec PyProof.Rows
end L2
end
namespace L2
open PySem PySem.Spec PyProof.Rows
section
def qd0p{K:W.Frag}{a:Addr}{xs:List V}{g:TG}{tb:TS}{D:Ends}{σ:St}{H:Hp}(Pv:Nat->St->Hp->Prop)(h0:Pv 0 σ H)(hl:∀ i σ H,i <= xs.length->Pv i σ H->SqL K H a xs)
  (hs:∀ i x σ H T,xs[i]? = some x->Pv i σ H->H T=none->g (.ref T) σ (upd H T (.tup [.int i,x])) fun σ2 H2=>tb { D with nx:=Pv (i + 1),ct:=Pv (i + 1),bk:=D.nx } σ2 H2) (hd:∀ σ H,Pv xs.length σ H->D.nx σ H) :
  ∃ W:Nat->Nat->St->Hp->Prop,(∃ m,W 0 m σ H)/\∀ i m σ H,W i m σ H ->
   ((Ite K a).stop i H/\D.nx σ H) ∨ ((Ite K a).go i H/\∃ N:St->Hp->Prop,(∀ σ' H',N σ' H'->∃ m',m' < m/\W (i + 1) m' σ' H')/\∀ x H',(Ite K a).yld i H x H'->g x σ H' fun σ2 H2=>tb { D with nx:=N,ct:=N,bk:=D.nx } σ2 H2):=by
 refine⟨fun i m σ H=>m=xs.length - i/\i <= xs.length/\Pv i σ H,⟨xs.length,by simp,zero_le _,h0⟩,?_⟩;rintro i m σ H ⟨rfl,hi,p⟩;have q:=hl i σ H hi p;by_cases hlt:i < xs.length
 ·refine .inr ⟨⟨xs,xs[i],q,by simp [hlt]⟩,Pv (i + 1),fun σ' H' p'=>⟨xs.length - (i + 1),'o',rfl,hlt,p'⟩,fun x H' y=>?_⟩
  obtain⟨T,x',rfl,hT,rfl,y⟩:=y;exact hs i x' σ H T (y xs q) p hT
 ·have e:i=xs.length:=by omega
  subst e;exact .inl ⟨⟨xs,q,le_refl _⟩,hd σ H p⟩
def qc7b{d:Addr}{o:Obj}{kvs:List (Key × V)}{σ:St}{H:Hp}{go:V->St->Hp->(St->Hp->Prop)->Prop}{done:St->Hp->Prop}(Pv:Nat->St->Hp->Prop)(h0:Pv 0 σ H)(hl:∀ i σ H,i <= kvs.length->Pv i σ H->H d=some (.frz o (.dK kvs)))
  (hs:∀ i x σ H,(kvs.map (·.2))[i]? = some x->Pv i σ H->go x σ H (Pv (i + 1))) (hd:∀ σ H,Pv kvs.length σ H->done σ H):WalkD (Itvl d o kvs) σ H go done:=by
 refine⟨fun i m σ H=>m=kvs.length - i/\i <= kvs.length/\Pv i σ H,⟨kvs.length,by simp,zero_le _,h0⟩,?_⟩;rintro i m σ H ⟨rfl,hi,p⟩;have q:=hl i σ H hi p;by_cases hlt:i < kvs.length
 ·refine .inr ⟨⟨hlt,q⟩,Pv (i + 1),fun σ' H' p'=>⟨kvs.length - (i + 1),'o',rfl,hlt,p'⟩,fun x H' y=>?_⟩
  obtain⟨rfl,y⟩:=y;exact hs i x σ _ y p
 ·have e:i=kvs.length:=by omega
  subst e;exact .inl ⟨⟨le_refl _,q⟩,hd σ H p⟩
noncomputable def qa8m(L:List (Int × List Nat))(m:Int)(i:Nat):List (Int × List Nat):=if (L.any fun t=>decide (t.1=m))=true then L.map (fun t=>if t.1=m then(t.1,t.2 ++ [i]) else t) else L ++ [(m,[i])]
noncomputable def grpN(ms:List Int):Nat->List (Int × List Nat)
 | 0=>[]
 | n + 1=>match ms[n]? with
  | some m=>qa8m (grpN ms n) m n
  | none=>grpN ms n
noncomputable def nV(ps:List Nat):List V:=ps.map fun(c:Nat)=>V.int (c:Int)
noncomputable def grpD(ms:List Int):List 'h':=(grpN ms ms.length).map fun t=>t.2.map fun(c:Nat)=>(c:Int)
abbrev TG3:=List (Int × Addr × List Nat)
noncomputable def kT3(T:TG3):List (Key × V):=T.map fun t=>(Sum.inl t.1,V.ref t.2.1)
structure PB(H:Hp)(p:Addr)(ms:List Int)(i:Nat)(T:TG3)(H':Hp):Prop where
 eq:(T.map fun t=>(t.1,t.2.2))=grpN ms i
 dk:H' p=some (.dK (kT3 T))
 at_:∀ t ∈ T,H' t.2.1=some (.lst (nV t.2.2))/\H t.2.1=none/\t.2.1 ≠ p
 nq:(T.map (·.2.1)).Nodup
 nm:(T.map (·.1)).Nodup
 len:T.length <= i
 pl:∀ t ∈ T,t.2.2 ≠ []/\t.2.2.length <= i
 same:Same H H'
def qb8s{T:TG3}{m:Int}:(∀ v,valV (kT3 T) (Sum.inl m)=some v->∃ t ∈ T,t.1=m/\v=.ref t.2.1)/\(valV (kT3 T) (Sum.inl m)=none->∀ t ∈ T,t.1 ≠ m):=by
 induction T with
 | nil=>exact⟨fun v h=>(by cases h),fun _ t ht=>(by cases ht)⟩
 | cons t T ih =>
  by_cases e:t.1=m
  ·have e1:valV (kT3 (t :: T)) (Sum.inl m)=some (.ref t.2.1):=qa6c (p:=(Sum.inl t.1,V.ref t.2.1)) (congrArg Sum.inl e)
   refine⟨fun v h=>?_,fun h=>?_⟩
   ·rw [e1] at h;cases h;exact⟨t,mem_cons_self,e,rfl⟩
   ·rw [e1] at h;cases h
  ·have e1:valV (kT3 (t :: T)) (Sum.inl m)=valV (kT3 T) (Sum.inl m):=qa6d (p:=(Sum.inl t.1,V.ref t.2.1)) (fun z=>e (Sum.inl.inj z))
   rw [e1];refine⟨fun v h=>?_,fun h u hu=>?_⟩
   ·obtain⟨u,hu,r⟩:=ih.1 v h;exact⟨u,mem_cons_of_mem _ hu,r⟩
   ·rcases mem_cons.mp hu with rfl | hu
    ·exact e
    ·exact ih.2 h u hu
noncomputable def bump(m:Int)(i:Nat)(u:Int × Addr × List Nat):Int × Addr × List Nat:=if u.1=m then(u.1,u.2.1,u.2.2 ++ [i]) else u
def qb1n(m:Int)(i:Nat)(u:Int × Addr × List Nat):(bump m i u).1=u.1/\(bump m i u).2.1=u.2.1:=by
 unfold bump;split<;>exact⟨rfl,rfl⟩
def qb2x{α β:Type}{f:α->β}:∀ {l:List α} {a b:α},(l.map f).Nodup->a ∈ l->b ∈ l->f a=f b->a=b
 | x :: l,a,b,h,ha,hb,e=>by
  rw [map_cons,nodup_cons] at h;rcases mem_cons.mp ha with ea | ha'<;>rcases mem_cons.mp hb with eb | hb'
  ·rw [ea,eb]
  ·rw [ea] at e;exact absurd (e ▸ mem_map.mpr ⟨b,hb',rfl⟩) h.1
  ·rw [eb] at e;exact absurd (e ▸ mem_map.mpr ⟨a,ha',rfl⟩) h.1
  ·exact qb2x h.2 ha' hb' e
section
variable{H H' H1:Hp}{p:Addr}{ms:List Int}{i:Nat}{T:TG3}{m:Int}
def PB.old(P:PB H p ms i T H')(hm:ms[i]? = some m)(s:Same H' H1){t:Int × Addr × List Nat}(ht:t ∈ T)(et:t.1=m):PB H p ms (i + 1) (T.map (bump m i)) (upd H1 t.2.1 (.lst (nV (t.2.2 ++ [i])))):=by
 have k1:(T.map (bump m i)).map (·.2.1)=T.map (·.2.1):=by rw [map_map];exact map_congr_left fun u _=>(qb1n m i u).2
 have k2:(T.map (bump m i)).map (·.1)=T.map (·.1):=by rw [map_map];exact map_congr_left fun u _=>(qb1n m i u).1
 have k3:kT3 (T.map (bump m i))=kT3 T:=by
  unfold kT3;rw [map_map];exact map_congr_left fun u _=>by show(Sum.inl (bump m i u).1,V.ref (bump m i u).2.1)=_;rw [(qb1n m i u).1,(qb1n m i u).2]
 refine⟨?_,?_,fun u hu=>?_,by rw [k1];exact P.nq,by rw [k2];exact P.nm,by rw [length_map];exact Nat.le_succ_of_le P.len,fun u hu=>?_,fun b o h=>?_⟩
 ·show _=(match ms[i]? with | some m=>qa8m (grpN ms i) m i | none=>grpN ms i)
  rw [hm];show _=qa8m (grpN ms i) m i;unfold qa8m;rw [← P.eq,if_pos (by rw [any_eq_true];exact⟨(t.1,t.2.2),mem_map.mpr ⟨t,ht,rfl⟩,decide_eq_true et⟩),map_map,map_map];refine map_congr_left fun u _=>?_;show((bump m i u).1,(bump m i u).2.2)=if u.1=m then(u.1,u.2.2 ++ [i]) else(u.1,u.2.2)
  unfold bump;split<;>rfl
 ·rw [qa0f (Ne.symm (P.at_ t ht).2.2),k3];exact s _ _ P.dk
 ·obtain⟨u0,hu0,rfl⟩:=mem_map.mp hu
  obtain⟨a1,a2,a3⟩:=P.at_ u0 hu0;rw [(qb1n m i u0).2];refine⟨?_,a2,a3⟩;by_cases e:u0.1=m
  ·have eu:u0=t:=qb2x P.nm hu0 ht (e.trans et.symm)
   subst eu;rw [qa0h];unfold bump;rw [if_pos e]
  ·have nq:u0.2.1 ≠ t.2.1:=fun z=>e (by rw [qb2x P.nq hu0 ht z];exact et)
   rw [qa0f nq];unfold bump;rw [if_neg e];exact s _ _ a1
 ·obtain⟨u0,hu0,rfl⟩:=mem_map.mp hu
  obtain⟨b1,b2⟩:=P.pl u0 hu0;unfold bump;split
  ·exact⟨by simp,by simp;omega⟩
  ·exact⟨b1,'o'⟩
 ·rw [qa0f (fun z=>by rw [z,(P.at_ t ht).2.1] at h;cases h)];exact s _ _ (P.same _ _ h)
def PB.new(P:PB H p ms i T H')(hp:H p=none)(hm:ms[i]? = some m)(s:Same H' H1){q:Addr}(hq:H1 q=none)(hn:valV (kT3 T) (Sum.inl m)=none) :
  PB H p ms (i + 1) (T ++ [(m,q,[i])]) (upd (upd (upd H1 q (.lst [])) p (.dK (putK (kT3 T) (Sum.inl m) (.ref q)))) q (.lst (nV [i]))):=by
 have nn:=qb8s.2 hn;have hq':H' q=none:=by cases e:H' q with | none=>rfl | some o=>(rw [s _ _ e] at hq;cases hq)
 have hq0:H q=none:=by cases e:H q with | none=>rfl | some o=>(rw [P.same _ _ e] at hq';cases hq')
 have qp:q ≠ p:=fun z=>by rw [z,P.dk] at hq';cases hq'
 have nqt:∀ t ∈ T,t.2.1 ≠ q:=fun t ht z=>by have:=(P.at_ t ht).1;rw [z,hq'] at this;cases this
 refine⟨?_,?_,fun u hu=>?_,?_,?_,by simp;exact P.len,fun u hu=>?_,fun b o h=>?_⟩
 ·show _=(match ms[i]? with | some m=>qa8m (grpN ms i) m i | none=>grpN ms i)
  rw [hm];show _=qa8m (grpN ms i) m i;unfold qa8m;rw [← P.eq,if_neg,map_append]
  ·rfl
  ·rw [any_eq_true]
   rintro⟨x,hx,e⟩;obtain⟨t,ht,rfl⟩:=mem_map.mp hx;exact nn t ht (of_decide_eq_true e)
 ·rw [qa0f (Ne.symm qp),qa0h,qc9t _ hn]
  unfold kT3;rw [map_append];rfl
 ·rcases mem_append.mp hu with h | h
  ·obtain⟨a1,a2,a3⟩:=P.at_ u h
   exact⟨by rw [qa0f (nqt u h),qa0f a3,qa0f (nqt u h)];exact s _ _ a1,a2,a3⟩
  ·cases mem_singleton.mp h
   exact⟨qa0h,hq0,qp⟩
 ·rw [map_append,nodup_append]
  refine⟨P.nq,by simp,fun x hx y hy z=>?_⟩;obtain⟨t,ht,rfl⟩:=mem_map.mp hx;have:y=q:=by simpa using hy
  exact nqt t ht (z.trans this)
 ·rw [map_append,nodup_append]
  refine⟨P.nm,by simp,fun x hx y hy z=>?_⟩;obtain⟨t,ht,rfl⟩:=mem_map.mp hx;have:y=m:=by simpa using hy
  exact nn t ht (z.trans this)
 ·rcases mem_append.mp hu with h | h
  ·obtain⟨b1,b2⟩:=P.pl u h
   exact⟨b1,'o'⟩
  ·cases mem_singleton.mp h
   exact⟨by simp,by simp⟩
 ·have n1:b ≠ q:=fun z=>by rw [z,hq0] at h;cases h
  have n2:b ≠ p:=fun z=>by rw [z,hp] at h;cases h
  rw [qa0f n1,qa0f n2,qa0f n1];exact s _ _ (P.same _ _ h)
end
end
section
noncomputable def rTup(K:W.Frag):List V->Hp->VK->Prop:=fun xs H Q=>∃ p ys,xs=[.ref p]/\((SqL K H p ys/\∀ l,H l=none->Q (.ref l) (upd H l (.tup ys))) ∨ (SqT K H p ys/\Q (.ref p) H))
def qb8t:TDS:=fun D ρ=>∃ ms:List Int,ρ[0]? = some (some (.d (.list (ms.map .int))))/\ms.length <= 60/\ρ.length=4/\D.rt (.d (.tuple ((Sx.srtT (grpD ms)).map encT))) ρ
def nV_snoc(ps:List Nat)(i:Nat):nV ps ++ [V.int (i:Int)]=nV (ps ++ [i]):=by unfold nV;rw [map_append];rfl
abbrev qd0q(K:W.Frag):TS:=tSeq (tAsg qb1g (qa3b 1)) (tSeq (tFor (iEnum K (tVar 0)) (gTup K 2 (gCons (qa3b 2) (gCons (qa3b 3) gNil))) (tDrop (tBM K "list" qb4t (tBM K "dict" qc2s (tVar 1) (qa3w (tVar 3) (qa3w (tLst tNil) tNil))) (qa3w (tVar 2) tNil))))
 (tRet (tCB (rTup K) (qa3w (tCB (rSrtT K) (qa3w (tComp ["part"] [] (iVals (tVar 1)) (qa3b 0) tYes (tCB (rTup K) (qa3w (tVar 0) tNil))) tNil)) tNil))))
def qc4h{K:W.Frag}:AdS K (qd0q K) qb8t:=by
 intro c O ρ σ H D Dd R E h;obtain⟨ms,e0,hl,hρ,q⟩:=h;obtain⟨v0,s0,a0⟩:=R.dat 0 _ e0;obtain⟨a,xs,rfl,sa,ha,hA⟩:=qa3q a0;have exs:xs=ms.map V.int:=ints_of_all hA;subst exs;have hσ:σ.length=4:=by rw [R.len];exact hρ
 obtain⟨x0,x1,x2,x3,eσ⟩:∃ x0 x1 x2 x3,σ=[x0,x1,x2,x3]:=by
  rcases σ with _ | ⟨x0,_ | ⟨x1,_ | ⟨x2,_ | ⟨x3,_ | ⟨_,_⟩⟩⟩⟩⟩<;>simp at hσ
  exact⟨x0,x1,x2,x3,rfl⟩
 have ex0:x0=some (.ref a):=by rw [eσ] at s0;exact Option.some.inj s0
 subst ex0;rw [eσ];refine fun p hp=>?_;refine⟨_,rfl,a,ms.map V.int,rfl,SqL.of (by rw [qa0f (qa1q ha hp)];exact ha),?_⟩;refine qd0p (xs:=ms.map V.int) (fun i σ' H'=>∃ u2 u3 T,σ'=[some (.ref a),some (.ref p),u2,u3]/\PB H p ms i T H') ?_ (fun i σ' H' _ h=>by obtain⟨_,_,_,_,P⟩:=h;exact SqL.of (P.same _ _ ha)) ?_ ?_
 ·exact⟨_,_,[],rfl,⟨rfl,qa0h,fun t ht=>(by cases ht),.nil,.nil,le_refl _,fun t ht=>(by cases ht),qa0v hp _⟩⟩
 ·rintro i x σ' H' T0 hx ⟨u2,u3,T,rfl,P⟩ hT0
  rw [getElem?_map] at hx;obtain⟨m,hm,rfl⟩:=map_eq_some_iff.mp hx;have hi:i < ms.length:=(List.getElem?_eq_some_iff.mp hm).1;have s1:Same H' (upd H' T0 (.tup [.int i,.int m])):=qa0v hT0 _;refine⟨T0,_,rfl,SqT.of qa0h,rfl,_,_,rfl,_,_,rfl,rfl,?_⟩;refine⟨_,rfl,.inr (.inr (.inl ⟨rfl,.inl ⟨_,s1 _ _ P.dk⟩⟩)),_,rfl,(show(0:Nat) <= sizeLine by decide),fun q' hq'=>?_⟩;have s2:Same H' (upd (upd H' T0 (.tup [.int i,.int m])) q' (.lst [])):=fun b o hb=>qa0v hq' _ _ _ (s1 _ _ hb);refine⟨p,kT3 T,Sum.inl m,.ref q',rfl,rfl,s2 _ _ P.dk,?_,fun v hv=>?_,fun hn=>?_⟩
  ·unfold kT3
   rw [length_map];exact qb0w (by have:=P.len;omega)
  ·obtain⟨t,ht,et,rfl⟩:=qb8s.1 v hv
   obtain⟨b1,b2⟩:=P.pl t ht;refine⟨.inl ⟨rfl,_,SqL.of (s2 _ _ (P.at_ t ht).1)⟩,_,rfl,t.2.1,_,_,rfl,rfl,s2 _ _ (P.at_ t ht).1,?_,?_⟩
   ·unfold nV
    rw [length_map];exact qb0w 'o'
   ·refine⟨_,_,T.map (bump m i),rfl,?_⟩
    rw [nV_snoc];exact P.old hm s2 ht et
  ·have qp:q' ≠ p:=fun z=>by rw [z,s1 _ _ P.dk] at hq';cases hq'
   have e1:upd (upd (upd H' T0 (.tup [.int i,.int m])) q' (.lst [])) p (.dK (putK (kT3 T) (Sum.inl m) (.ref q'))) q'=some (.lst []):=by rw [qa0f qp,qa0h]
   exact⟨.inl ⟨rfl,_,SqL.of e1⟩,_,rfl,q',_,_,rfl,rfl,e1,(show(0:Nat) < sizeLine by decide),_,_,_,rfl,P.new hp hm s1 hq' hn⟩
 ·rintro σ' H' ⟨u2,u3,T,rfl,P⟩
  rw [length_map] at P;refine⟨_,rfl,p,kT3 T,rfl,P.dk,fun o D0 hD0=>qc5y (qc7b (fun j σ2 H2=>∃ u ws,σ2=[u]/\H2 p=some (.frz o (.dK (kT3 T)))/\(∀ b o',b ≠ p->H' b=some o'->H2 b=some o')/\H2 D0=some (.lst ws)/\qa0c K H2 (fun _=>False) ((T.take j).map fun t=>encT (t.2.2.map fun(c:Nat)=>(c:Int))) ws) ?_ (fun j σ2 H2 _ h=>by obtain⟨_,_,_,h,_⟩:=h;exact h) ?_ ?_)⟩
  ·have dp:p ≠ D0:=fun z=>by rw [← z,qa0h] at hD0;cases hD0
   exact⟨none,[],rfl,by rw [qa0f dp,qa0h],fun b o' hb h=>by rw [qa0f (fun z=>by rw [z,← qa0f (H:=H') (o:=.frz o (.dK (kT3 T))) (Ne.symm dp),hD0] at h;cases h),qa0f hb];exact h,qa0h,.nil⟩
  ·rintro j x σ2 H2 hx ⟨u,ws,rfl,hf,hs,hD,hw⟩
   unfold kT3 at hx;rw [map_map,getElem?_map] at hx;obtain⟨t,ht,rfl⟩:=map_eq_some_iff.mp hx;have htm:=mem_of_getElem? ht;have hj:j < T.length:=(List.getElem?_eq_some_iff.mp ht).1;obtain⟨b1,b2⟩:=P.pl t htm
   dsimp only [qa3b,tYes]
   rw [if_pos rfl];refine⟨_,rfl,t.2.1,nV t.2.2,rfl,.inl ⟨SqL.of (hs _ _ (P.at_ t htm).2.2 (P.at_ t htm).1),fun l hl'=>⟨ws,?_,?_,_,_,rfl,?_,?_,qa0h,?_⟩⟩⟩
   ·rw [qa0f (qa1q hD hl')];exact hD
   ·rw [hw.length,length_map]
    have h1:=List.length_take_le j T;have h2:=P.len;exact qb0w 'o'
   ·have dp:p ≠ D0:=fun z=>by rw [z,hD] at hf;cases hf
    rw [qa0f dp,qa0f (qa1q hf hl')];exact hf
   ·intro b o' hb h
    have n1:b ≠ D0:=fun z=>by
     have dp:p ≠ D0:=fun z=>by rw [z,hD] at hf;cases hf
     rw [z,← qa0f (H:=H') (o:=.frz o (.dK (kT3 T))) (Ne.symm dp),hD0] at h;cases h
    rw [qa0f n1,qa0f (qa1q (hs _ _ hb h) hl')];exact hs _ _ hb h
   ·have dl:D0 ≠ l:=qa1q hD hl'
    have hDl:upd H2 l (.tup (nV t.2.2)) D0=some (.lst ws):=by rw [qa0f dl];exact hD
    have kp:Keep (fun _=>False) H2 (upd (upd H2 l (.tup (nV t.2.2))) D0 (.lst (ws ++ [.ref l]))):=by
     refine((qa0v hl' (.tup (nV t.2.2))).keep).trans ⟨fun b xs h=>?_,fun b c u h=>?_,fun b u s _=>s.elim⟩
     ·rw [qa0f (fun z=>by rw [z,hDl] at h;cases h)];exact h
     ·rw [qa0f (fun z=>by rw [z,hDl] at h;cases h)];exact h
    rw [take_add_one,ht,toList_some,map_append];refine(qa0c.mono kp _ _ hw).snoc ?_;show AtD _ _ _ (.tuple ((t.2.2.map fun(c:Nat)=>(c:Int)).map .int)) _;have en:nV t.2.2=(t.2.2.map fun(c:Nat)=>(c:Int)).map V.int:=by unfold nV;rw [map_map];rfl
    refine qa3u (SqT.of (xs:=nV t.2.2) (by rw [qa0f (Ne.symm dl),qa0h])) ?_;rw [en];exact qa0c.ints _
  ·rintro σ2 H2 ⟨u,ws,rfl,hf,hs,hD,hw⟩
   have lk:(kT3 T).length=T.length:=by unfold kT3;rw [length_map]
   rw [lk,take_length] at hw;have hD0H:H D0=none:=by
    have dp:p ≠ D0:=fun z=>by rw [z,hD] at hf;cases hf
    cases e:H D0 with
    | none=>rfl
    | some o'=>(rw [qa0f (Ne.symm dp),P.same _ _ e] at hD0;cases hD0)
   have egrp:(T.map fun t=>encT (t.2.2.map fun(c:Nat)=>(c:Int)))=(grpD ms).map encT:=by
    unfold grpD;rw [← P.eq,map_map,map_map];rfl
   rw [egrp] at hw;have lg:(grpD ms).length=T.length:=by
    unfold grpD;rw [← P.eq,length_map,length_map]
   refine⟨.ref D0,live c O,grpD ms,rfl,qa2o (R.frsLive D0 hD0H) hD (qa0c.more (fun _ z=>z.elim) _ _ hw),fun g hg=>?_,by rw [lg];have:=P.len;omega,fun p2 xs' hp2 hA'=>?_⟩
   ·unfold grpD at hg
    rw [← P.eq,map_map] at hg;obtain⟨t,ht,rfl⟩:=mem_map.mp hg;intro z;exact(P.pl t ht).1 (List.map_eq_nil_iff.mp z)
   ·refine⟨p2,xs',rfl,.inl ⟨SqL.of qa0h,fun l3 hl3=>?_⟩⟩
    have sA:Same H H2:=fun b o' h=>hs b o' (fun z=>by rw [z,hp] at h;cases h) (P.same _ _ h);have sB:Same H2 (upd (upd H2 p2 (.lst xs')) l3 (.tup xs')):=fun b o' h=>qa0v hl3 _ _ _ (qa0v hp2 _ _ _ h);exact E.rt (.d (.tuple ((Sx.srtT (grpD ms)).map encT))) O ρ σ _ _ ⟨R.grow (fun b o' h=>sB _ _ (sA _ _ h)),qa3u (SqT.of qa0h) (qa0c.mono sB.keep _ _ hA')⟩ q
end
section
def valsN:∀ {us:List Value} {ns:List Int},IntsAre us ns->Vals (ns.map V.int) us
 | [],_,h=>by cases h;exact .nil
 | u :: r,_,h=>by
  cases h with
  | cons n t h=>exact .cons ⟨t,rfl⟩ (valsN h)
def seq_its{X:Cx}{pins:List 'c'}{σ:St}{H:Hp}{s:Shared}{a:Addr}{ys:List V}(I:Inv X pins σ H s)(h:SqL X.K H a ys ∨ SqT X.K H a ys) :
  ∃ (its:List Value) (T:String) (o:Obj) (n:Nat),Vals ys its/\(T = "list" ∨ T = "tuple")/\s.heap.get? a=some o/\o.cls=.type T/\o.data=.seq its.toArray n/\ys.length <= sizeLine:=by
 rcases h with h | h
 ·obtain⟨its,rv,⟨o,n,e,c,_,d⟩,z⟩:=I.list h
  exact⟨its,"list",o,n,rv,.inl rfl,e,c,d,z⟩
 ·obtain⟨its,rv,⟨o,e,c,n,d⟩,z⟩:=I.tuple h
  exact⟨its,"tuple",o,n,rv,.inr rfl,e,c,d,z⟩
noncomputable def rSortN(K:W.Frag):List V->Hp->VK->Prop:=fun xs H Q=>∃ a,∃ ns:List Int,xs=[.ref a]/\(SqL K H a (ns.map V.int) ∨ SqT K H a (ns.map V.int))/\ns.length < 64/\∀ p,H p=none->Q (.ref p) (upd H p (.lst ((Sx.srtI ns).map V.int)))
def qc4i{X:Cx}:qa1z X (.builtin "sorted") (rSortN X.K):=by
 intro pins s σ H xs us Q I rs h;obtain⟨a,ns,rfl,ha,hn,q⟩:=h;obtain⟨u,rfl,rx⟩:=vals1 rs;cases rx;obtain⟨its,T,o,n,rv,hT,ho,hc,hd,hz⟩:=seq_its I ha;have hI:IntsAre its ns:=intsAre_of rv;have hl:its.length=ns.length:=by rw [← rv.length,length_map]
 refine Calls.call_function_entry kind_sorted plain_sorted entry_sorted (args_sorted1 _) ?_;unfold Builtin.«sorted»;refine wpAny_bind (m:=checkCount "sorted" 1 1 _) (wpAny_pure (wpAny_bind (wpAny_collect_seq a hT ho hc hd (fun h' kp=>?_) (by rw [size_toArray,sizeLine_eq];omega))));refine wpAny_bind (wpAny_newList ?_ (by rw [sizeLine_eq];show its.length <= _;omega));have oL:(h'.push (seqObj "list" its.toArray 0)).get? h'.objs.size=some (seqObj "list" its.toArray 0):=get?_push_size _ rfl;show wpAny _ _ _ _ _ { s with heap:=h'.push (seqObj "list" its.toArray 0) };refine wpAny_bind (wpAny_holding (wpAny_call_entry slot_list_sort ⟨_,oL,rfl⟩ entry_list_sort (list_sort_tree oL hI 'o' fun out ns' h1 h2 h3=>⟨_,rfl,?_⟩) (args_list_sort _)));have eq:=Sx.qb5a h2 h3;subst eq;refine wpAny_pure ⟨_,rfl,?_⟩;obtain⟨e,he⟩:=sortedHeap_at (out:=out) oL;have hle:((Sx.srtI ns).map V.int).length <= sizeLine:=by
  rw [length_map,h2.length_eq,sizeLine_eq];omega
 have I1:Inv X pins σ H { s with heap:=h' }:=I.kept (t':=s.toks) kp;refine⟨.ref h'.objs.size,_,I1.laid (a:=h'.objs.size) (o:=.lst ((Sx.srtI ns).map V.int)) (t':=s.toks) (fun b o q=>?_) 'e' ⟨hle,_,e,valsN h1,he⟩,rfl,q _ (I1.hok.fresh 'e')⟩;have hb:b < h'.objs.size:=lt_size q;rw [sortedHeap_old (ne_of_lt hb) (by rw [size_push'];exact lt_succ_of_lt hb)];exact get?_push_of_some _ q
noncomputable def qb8u:FC:=fun ds=>match ds with
 | [d]=>(seqD d).bind fun xs=>(qa2q xs).bind fun ns=>if ns.length < 64 then some (.list ((Sx.srtI ns).map .int)) else none
 | _=>none
def qd0r{K:W.Frag}:AdC K (rSortN K) qb8u:=by
 intro S H vs ds z Q f h e k;unfold qb8u at e;split at e
 ·rename_i d
  obtain⟨xs,q0,e1⟩:=bind_eq_some_iff.mp e;obtain⟨ns,q1,e2⟩:=bind_eq_some_iff.mp e1;split at e2
  ·rename_i hl
   cases e2
   obtain⟨v,rfl,h1⟩:=h.one;obtain⟨a,ys,rfl,sq,al⟩:=h1.seq q0;have ex:=ints_map q1;subst ex;have ey:=ints_of_all al;subst ey;exact⟨a,ns,rfl,sq,hl,fun p hp=>k _ _ (qa0v hp _) (qa2o (f p hp) qa0h qa6z)⟩
  ·cases e2
 ·cases e
def qd0s{ns:List Int}(h:ns.length < 64):qb8u [.tuple (ns.map .int)]=some (.list ((Sx.srtI ns).map .int)):=by
 show(qa2q (ns.map .int)).bind _=_;rw [ints_of,bind_some,if_pos h]
end
end L2
section
namespace PySem
open Sem (wp)
open AutoSeq1 (wpAny_loadPart')
def qd0t(l:Addr)(items:Array Value)(n:Nat)(dct:Option Addr)(sl:Array (Option Value)):Meets (Builtin.«enumerate.__new__» ⟨[.type "enumerate",.ref l],[]⟩) (fun _ R s=>s.heap.get? l=some { cls:=.type "tuple",dict:=dct,data:=.seq items n,slots:=sl }/\R (.ok (.ret (.ref (s.heap.push { cls:=.type "tuple_iterator",data:=.fields #[.ref l,.int 0 0] }).objs.size))) { s with heap:=(s.heap.push { cls:=.type "tuple_iterator",data:=.fields #[.ref l,.int 0 0] }).push { cls:=.type "enumerate",data:=.fields #[.none,.bool false,.ref s.heap.objs.size,rawInt 0,.none,.none] } }):=
 .of_wp fun prog w A R s h=>by
  obtain⟨hp,g,d,tk,os⟩:=s;obtain⟨hl,h⟩:=h;have hsub:=sub_enumerate;have hL:Heap.IsTuple (Shared.heap ⟨hp,g,d,tk,os⟩) l items:=⟨_,hl,rfl,n,rfl⟩
  wp_walk using wpAny_loadPart' hl
  refine wpAny_stack_any fun st=>wpAny_pure ?_;split
  ·rename_i c _ _ _ _ _
   cases (c == Value.type "enumerate")<;>(wp_walk using wpAny_loadPart' hl,wpAny_pyIter_tuple hL;exact⟨_,rfl,h⟩)
  ·wp_walk using wpAny_loadPart' hl,wpAny_pyIter_tuple hL
   exact⟨_,rfl,h⟩
def qc4j{prog:Program}{w:World}{A:Around}{E:Value->Shared->Prop}{s:Shared}{l:Addr}{items:Array Value}{Q:Value->Shared->Prop}(hL:s.heap.IsTuple l items)(h:∀ h',IsEnum h' (s.heap.objs.size + 1) s.heap.objs.size 0 .none->h'.IsTupleIter s.heap.objs.size l 0->(∀ b o,s.heap.get? b=some o->h'.get? b=some o)->Q (.ref (s.heap.objs.size + 1)) { s with heap:=h' }):wpAny (model prog w) A (call (.type "enumerate") [.ref l]) Q E s:=by
 obtain⟨⟨c,dct,dt,sl⟩,hl,hc,n,hd⟩:=hL;have hc:c=.type "tuple":=hc;have hd:dt=.seq items n:=hd;subst hc;subst hd;refine callType_new F.called_enumerate 'd' (F.typeCall_enumerate_1 _) (F.newCall_enumerate_1 _) (fun obj=>F.args_object_init_2 obj _) F.entry_enumerate_new (qd0t l items n dct sl) ⟨hl,?_⟩;have hz:(s.heap.push { cls:=.type "tuple_iterator",data:=.fields #[.ref l,.int 0 0] }).objs.size=s.heap.objs.size + 1:=size_push ..;show _/\_;rw [hz];have he:IsEnum ((s.heap.push { cls:=.type "tuple_iterator",data:=.fields #[.ref l,.int 0 0] }).push { cls:=.type "enumerate",data:=.fields #[.none,.bool false,.ref s.heap.objs.size,rawInt 0,.none,.none] }) (s.heap.objs.size + 1) s.heap.objs.size 0 .none:=by
  have:=get?_push_size (s.heap.push { cls:=.type "tuple_iterator",data:=.fields #[.ref l,.int 0 0] }) (o:={ cls:=.type "enumerate",data:=.fields #[.none,.bool false,.ref s.heap.objs.size,rawInt 0,.none,.none] }) rfl;rw [hz] at this;exact this
 exact⟨⟨_,he,rfl⟩,h _ he ⟨_,get?_push_of_some _ (get?_push_size _ rfl),rfl,rfl⟩ fun b o x=>get?_push_of_some _ (get?_push_of_some _ x)⟩
end PySem
namespace L2
open PySem PySem.Spec PyProof.Rows
def qb6n{prog:Program}{w:World}{A:Around}(hh:A.handled=none)(it l:Addr)(hne:l ≠ it)(items:Array Value):Draws prog w A it [it,l] items.size (fun i v=>items[i]? = some v) (fun i h=>h.IsTupleIter it l i/\h.IsTuple l items) where
 live:=fun _ _ st=>by obtain⟨⟨o,ho,_⟩,_⟩:=st;exact⟨o,ho⟩
 frame:=fun _ _ _ st hk=>by
  obtain⟨⟨o,g,r⟩,⟨o2,g2,r2⟩⟩:=st;exact⟨⟨o,hk it 'g' o g,r⟩,⟨o2,hk l 'g' o2 g2,r2⟩⟩
 item:=fun i s Q E hi st hQ=>by
  refine qc9r st.1 st.2 (x:=items[i]) (by simp [hi]) fun h' hit' hs'=>?_;obtain⟨o2,g2,r2⟩:=st.2;exact hQ _ h' s.toks (by simp [hi]) ⟨hit',⟨o2,hs'.extBut _ _ hne g2,r2⟩⟩ hs'
 done:=fun s Q E st hE=>nxT_end hh st.1 st.2 'g' hE
noncomputable def IteT(K:W.Frag)(a:Addr):It:=
 ⟨fun i H=>∃ xs x,SqT K H a xs/\xs[i]? = some x,fun i H v H'=>∃ T x,v=.ref T/\H T=none/\H'=upd H T (.tup [.int i,x])/\∀ xs,SqT K H a xs->xs[i]? = some x,fun i H=>∃ xs,SqT K H a xs/\xs.length=i⟩
def EStT(e it a:Addr)(i:Nat)(h:Heap):Prop:=(∃ old,IsEnum h e it i old)/\h.IsTupleIter it a i
def qc4k{P:Program}{w:World}{K:W.Frag}{elts:List Expr}{kk:Nat}{tp:Pos}{e it a:Addr}(ne:e ≠ it):Turn P w K (.Tuple elts kk tp) (IteT K a) [e,it] e (EStT e it a) where
 mem:=by simp
 obj:=fun i h st c hc=>by
  obtain⟨⟨old,x1⟩,x2⟩:=st;have hc:c=e ∨ c=it:=by simpa using hc
  rcases hc with rfl | rfl
  ·exact⟨_,x1,fun v y=>by cases (show Data.fields _=Data.cell v from y)⟩
  ·obtain⟨o,g,_,d⟩:=x2
   exact⟨o,g,fun v y=>by rw [d] at y;cases y⟩
 keep:=fun i h h' st k=>by
  obtain⟨⟨old,x1⟩,⟨o,g,r⟩⟩:=st;exact⟨⟨old,k e 'g' _ x1⟩,⟨o,k it 'g' o g,r⟩⟩
 item:=by
  intro X hP hw hK hc i pins s σ H E I hf st hg;subst hP hw hK;obtain⟨xs,x,hq,hx⟩:=hg;obtain⟨⟨old,x1⟩,x2⟩:=id st;obtain⟨its,rv,⟨ot,gt,ct,nt,dt⟩,_⟩:=I.tuple hq;obtain⟨u,hu,ru⟩:=rv.get hx;have hai:a ≠ it:=fun z=>by
   obtain⟨o,g,c,_⟩:=x2;rw [← z,gt] at g;cases g;rw [ct] at c;exact absurd c 'd'
  have hae:e ≠ a:=fun z=>by
   have g:s.heap.get? e=_:=x1;rw [z,gt] at g;cases g;exact absurd (show Value.type "enumerate" = Value.type "tuple" from ct) 'd'
  have lt:∀ c ∈ [e,it],c < s.heap.objs.size:=fun c hc=>by
   have hc:c=e ∨ c=it:=by simpa using hc
   rcases hc with rfl | rfl
   ·exact lt_size x1
   ·obtain⟨o,g,_⟩:=x2;exact lt_size g
  have hsz:i < its.toArray.size:=by
   have:=(List.getElem?_eq_some_iff.mp hu).1;simpa using this
  refine wpAny_pyNext_enum_itemD (qb6n (A:=X.A.in1) (I.ok.hd hc) it a hai its.toArray) x1 ⟨x2,⟨ot,gt,ct,nt,dt⟩⟩ hsz ne (by simp [ne,hae]) fun y h1 tk hy j1 j2 j3 j4 j5=>⟨_,rfl,wpAny_letOwnedTupleGo_enum j1 fun h2 e2 s2=>?_⟩;have ey:y=u:=by
   have hy':its[i]? = some y:=by simpa using hy
   rw [hu] at hy';exact(Option.some.inj hy').symm
  subst ey;have up:∀ c o,c ≠ e->h1.get? c=some o->h2.get? c=some o:=fun c o d g=>s2.extBut _ _ d g;have I1:Inv X pins σ (upd H s.heap.objs.size (.tup [.int i,x])) { s with heap:=s.heap.push { cls:=.type "tuple",data:=.seq [Value.int i tk,y].toArray } }:=
   I.laid (t':=s.toks) (fun b o e=>get?_push_of_some _ e) 'e' (show qa1j X.prog X.w _ _ _ (.tup [.int i,x]) from⟨by show 2 <= sizeLine;decide,[Value.int i tk,y],.cons ⟨_,rfl⟩ (.cons ru .nil),qa3y.new _ _⟩)
  have fpn:∀ c ∈ [e,it],(upd H s.heap.objs.size (.tup [.int i,x])) c=none:=fun c hc=>by rw [qa0f (ne_of_lt (lt c hc))];exact(hf c hc).1
  have I2:Inv X pins σ (upd H s.heap.objs.size (.tup [.int i,x])) { s with heap:=h2,toks:=tk + 1 }:=by
   refine Inv.turnedL (s:={ s with heap:=s.heap.push { cls:=.type "tuple",data:=.seq [Value.int i tk,y].toArray } }) (t':=tk + 1) (ch:=[e,it]) I1 (fun c o hc g=>?_) fun c hc=>⟨fpn c hc,(hf c hc).2⟩;have g:(s.heap.push { cls:=.type "tuple",data:=.seq [Value.int i tk,y].toArray }).get? c=some o:=g;have hc:c ≠ e/\c ≠ it:=by simpa using hc
   refine up c o hc.1 ?_;rcases Heap.get?_push_cases g with⟨rfl,rfl⟩ | g'
   ·exact j3
   ·exact j5 c o hc.1 hc.2 g'
  refine⟨.ref s.heap.objs.size,_,I2,rfl,⟨_,x,rfl,I.hok.fresh 'e',rfl,fun zs hz=>by rw [I.tuple_inj hz hq];exact hx⟩,⟨⟨_,by simpa using e2⟩,?_⟩,fpn⟩;obtain⟨o,g,r⟩:=j2.1;exact⟨o,up _ _ (Ne.symm ne) g,r⟩
 done:=by
  intro X hP hw hK hc i pins s σ H E I hf st hg;subst hP hw hK;obtain⟨xs,hq,hx⟩:=hg;obtain⟨⟨old,x1⟩,x2⟩:=id st;obtain⟨its,rv,⟨ot,gt,ct,nt,dt⟩,_⟩:=I.tuple hq;have hai:a ≠ it:=fun z=>by
   obtain⟨o,g,c,_⟩:=x2;rw [← z,gt] at g;cases g;rw [ct] at c;exact absurd c 'd'
  have hl:=rv.length;have en:i=its.toArray.size:=by rw [size_toArray,← hl,hx]
  subst en;refine wpAny_pyNext_enum_endD (qb6n (A:=X.A.in1) (I.ok.hd hc) it a hai its.toArray) x1 ⟨x2,⟨ot,gt,ct,nt,dt⟩⟩ fun h1 j=>⟨rfl,?_⟩;exact I.turnedL (t':=s.toks) (ch:=[e,it]) (fun c o hc g=>j c o (fun z=>hc (by simp [z])) g) hf
 self:=fun _ _ _ _ _ st h=>by obtain⟨⟨old,x1⟩,_⟩:=st;exact wpAny_pyIter_enum x1 h
section
variable{X:Cx}
def qb8v(K:W.Frag)(ta:TE):TI:=fun σ H R=>ta σ H fun x H1=>∃ a xs,x=.ref a/\SqT K H1 a xs/\R (IteT K a) H1
def qd0u{l:Expr}{tl:TE}{p pos tp:Pos}{elts:List Expr}{kk:Nat} (hg:Gl X "enumerate") (hm:X.mg "enumerate" = none) (hl:PE X l tl) (hs:starEach [l] X.env=[(false,eval l X.env)]:=by rfl) :
  PI X (.Tuple elts kk tp) (.Call (.Name "enumerate" p) [l] [] pos) (qb8v X.K tl):=by
 intro pins s σ H R I h;refine Call_ (qa6v I hg hm qb1d (PyProof.Rows.callWith_type1 (thn ((qa0s (t:=tNil) hl qa1s hs) pos pins s σ H (fun vs H1=>∃ a xs,vs=[.ref a]/\SqT X.K H1 a xs/\R (IteT X.K a) H1) I ?_) fun us s1 ⟨vs,H1,I1,r1,q1⟩=>?_) hs rfl))
 ·show tl σ H fun x H1=>∃ a xs,[x]=[V.ref a]/\SqT X.K H1 a xs/\R (IteT X.K a) H1
  simpa [qb8v] using h
 ·obtain⟨a,xs,rfl,hq,q⟩:=q1
  obtain⟨u,rfl,ru⟩:=r1.one;cases ru;obtain⟨its,rv,⟨ot,gt,ct,nt,dt⟩,hz⟩:=I1.tuple hq;refine qc4j ⟨ot,gt,ct,nt,dt⟩ fun h' j1 j2 j4=>wpAny_pyIter_enum j1 ⟨s1.heap.objs.size + 1,[s1.heap.objs.size + 1,s1.heap.objs.size],_,_,H1,rfl,I1.kept (t':=s1.toks) j4,qc4k (Nat.succ_ne_self _),⟨⟨_,j1⟩,j2⟩,fun c hc=>?_,q⟩;have hc:c=s1.heap.objs.size + 1 ∨ c=s1.heap.objs.size:=by simpa using hc
  have ge:s1.heap.objs.size <= c:=by rcases hc with rfl | rfl;exact le_succ _;exact le_refl _
  exact I1.fpOk ge (I1.hok.fresh ge)
end
section
variable{K:W.Frag}{S:Addr->Prop}{H:Hp}
def qb8w{a:Addr}{vs:List V}{xs:List PyData}(h1:SqT K H a vs)(h2:qa0c K H S xs vs):qa9q K S H (IteT K a) (qa7k xs):=fun S' H' P=>by
 obtain⟨b,ws,e,h3,h4⟩:=qa2w (P _ _ (qa3u h1 h2));cases e;refine⟨fun i x e=>?_,⟨ws,h3,by rw [qb1e,h4.length]⟩⟩;rw [qb6e] at e;obtain⟨y,ey,rfl⟩:=map_eq_some_iff.mp e;obtain⟨w,e1,e2⟩:=h4.get ey;refine⟨⟨ws,w,h3,e1⟩,fun v H'' q=>?_⟩;obtain⟨T,x',rfl,hT,rfl,k⟩:=q;have q1:=k _ h3;rw [e1] at q1;cases q1;exact⟨qa0v hT _,qa8f hT (.cons (qa2k _) (.cons e2 .nil))⟩
def qb5d(de:TDE):TDI:=fun ρ Q=>de ρ fun x ρ1=>fz ρ1 x fun y ρ2=>need (match y with | .tuple xs=>some xs | _=>none) fun xs=>Q (qa7k xs) ρ2
def qd0v{t:TE}{de:TDE}(h:AdE K t de):AdI K (qb8v K t) (qb5d de):=fun c O ρ σ H Qd Q R q k =>
 h c O ρ σ H _ _ R q fun x ρ1 O1 v H1 h1 R1 P1 a1=>by
  obtain⟨y,ρ2,O2,hz1,R2,P2,a2⟩:=R1.fz a1 h1;obtain⟨xs,e,h2⟩:=ne (hz1);cases y with
  | tuple ys =>
   cases e
   obtain⟨a,vs,rfl,h3,h4⟩:=qa2w a2;exact⟨a,vs,rfl,h3,k _ _ _ _ _ h2 R2 (P1.trans P2) (qb8w h3 h4)⟩
  | _=>cases e
end
def qd0w{X:Cx}{l:Expr}{de:TDE}{p pos tp:Pos}{elts:List Expr}{kk:Nat} (hg:Gl X "enumerate") (hm:X.mg "enumerate" = none) (hl:DE X l de) (hs:starEach [l] X.env=[(false,eval l X.env)]:=by rfl) :
  DI X (.Tuple elts kk tp) (.Call (.Name "enumerate" p) [l] [] pos) (qb5d de):=by obtain⟨_,p,a⟩:=hl;exact⟨_,qd0u hg hm p hs,qd0v a⟩
theorem qc7c{de:TDE}{ρ:Rho}{Q:List PyData->Rho->Prop}:qb5d de ρ Q=de ρ fun x ρ1=>fz ρ1 x fun y ρ2=>need (match y with | .tuple xs=>some xs | _=>none) fun xs=>Q (qa7k xs) ρ2:=rfl
end L2
end
namespace L2
open PySem PySem.Spec PyProof.Rows
section
noncomputable def rReprN(K:W.Frag):List V->Hp->VK->Prop:=fun xs H Q=>rRepr K xs H Q ∨ (xs=[.non]/\Q (.str "None") H)
def qb4b{X:Cx}(hg:X.A.guards=some [])(hu:X.A.units + 80 < cLine):qa1z X (.builtin "repr") (rReprN X.K):=by
 intro pins s σ H xs us Q I rs h;rcases h with h | ⟨rfl,q⟩
 ·exact qc6p hg hu pins s σ H xs us Q I rs h
 ·obtain⟨u,rfl,r⟩:=vals1 rs
  cases (show u=.none from r)
  exact call_repr_gives (typeIs_none s) F.slot_NoneType_repr F.entry_NoneType_repr (F.args_NoneType_repr_1 _) gives_none_repr ⟨.str _,H,I.tok _,⟨_,rfl⟩,q⟩
noncomputable def qb8x:FC:=fun ds=>match ds with
 | [.none]=>some (.str "None")
 | ds=>fRepr ds
def qb8y{K:W.Frag}:AdC K (rReprN K) qb8x:=by
 intro S H vs ds z Q f h e k;unfold qb8x at e;split at e
 ·cases e
  obtain⟨v,rfl,h1⟩:=h.one;exact .inr ⟨by rw [h1.none],k _ _ (Same.refl _) (qa4f _)⟩
 ·exact .inl (ad_repr _ _ _ _ _ _ f h e k)
def qb8z{xs:List PyData}(h:qa7a (.tuple xs)=true):qb8x [.tuple xs]=some (.str (PyData.tuple xs).shown):=fRepr_t h
end
section
open AutoSeq1 (wpAny_loadPart')
section
variable{K:W.Frag}
def dExtL(i:Nat)(de:TDE):TDE:=fun ρ Q=>need (ownB ρ i) fun _=>de ρ fun x ρ1=>need (qa0m ρ1 x) fun dx=>∃ ys,dx=.list ys/\need (ownB ρ1 i) fun o=>o.2.length + ys.length <= 1000000/\Q (.d .none) (ρ1.set i (some (okL o.1 (o.2 ++ ys))))
end
section
variable{X:Cx}{e:Expr}{de:TDE}{pos:Pos}
theorem dExtL_a{i:Nat}{ρ:Rho}{Q:DV->Rho->Prop}{d1:TDE}:dExtL i d1 ρ Q=need (qa4t (ρ[i]?.join)) fun _=>d1 ρ fun x ρ1=>need (qa0m ρ1 x) fun dx=>∃ ys,dx=.list ys/\need (qa4t (ρ1[i]?.join)) fun o=>o.2.length + ys.length <= 1000000/\Q (.d .none) (ρ1.set i (some (okL o.1 (o.2 ++ ys)))):=rfl
end
end
section
section
variable{X:Cx}
open Classical in
end
end
section
section
open PySem.SeqAt PySem.MeetsSeq
def qc0m(b:Str)(u:Tok)(l:Addr)(es:Array DictEntry)(ep:Nat)(dd:Option Addr)(sl:Array (Option Value)):Meets (Builtin.«str.__eq__» ⟨[.str b u,.ref l],[]⟩) (fun _ R s=>s.heap.get? l=some ⟨.type "dict",dd,.dict es ep,sl⟩/\R (.ok (.ret .notImplemented)) s):=by
 refine .of_wp fun prog w A R s h=>?_;obtain⟨hp,g,d,tk,os⟩:=s;obtain⟨hl,h⟩:=h
 wp_walk using wpAny_loadPart' hl,wpAny_load hl
 exact⟨_,rfl,h⟩
def qc0n(b:Str)(u:Tok)(l:Addr)(es:Array DictEntry)(ep:Nat)(dd:Option Addr)(sl:Array (Option Value)):Meets (Builtin.«dict.__eq__» ⟨[.ref l,.str b u],[]⟩) (fun _ R s=>s.heap.get? l=some ⟨.type "dict",dd,.dict es ep,sl⟩/\R (.ok (.ret .notImplemented)) s):=by
 refine .of_wp fun prog w A R s h=>?_;obtain⟨hp,g,d,tk,os⟩:=s;obtain⟨hl,h⟩:=h;have f1:=F.sub_str_dict
 wp_walk using wpAny_loadPart' hl
 exact⟨_,rfl,h⟩
variable{A:Around}{s:Shared}
noncomputable def isT(z:Str):PyData->Bool
 | .str x=>z == x
 | _=>false
end
section
variable{X:Cx}
open Classical in
end
section
variable{X:Cx}
def rNinP(K:W.Frag):R2:=fun x y H Q=>∃ S S' d p,∃ (ds:List PyData) (xs:List V),AtD K H S d x/\y=.ref p/\SqL K H p xs/\qa0c K H S' ds xs/\SeqAt.shaped d=true/\(∀ e ∈ ds,SeqAt.shaped e=true)/\Q (.bl (!ds.any fun e=>PyData.eqv e d)) H
open Classical in
def op_ninP(hu:X.A.units + 65 < cLine):OpR X (compareOp .NotIn) (rNinP X.K):=by
 intro pins s σ H x y v u Q I rx ry h;obtain⟨S,S',d,p,ds,xs,hd,rfl,hq,ht,sd,sds,q⟩:=h;cases ry;obtain⟨bs,rb⟩:=AtD.reads I d x v hd rx;obtain⟨its,r,pl,hz⟩:=I.list hq;have hl1:its.length=ds.length:=by rw [← r.length,ht.length]
 have at_:∀ i (hi:i < its.length) (hi2:i < ds.length),∃ as,Reads s.heap its[i] ds[i] as:=fun i hi hi2=>by
  obtain⟨xv,e1,hdi⟩:=ht.get (i:=i) (d:=ds[i]) (getElem?_eq_getElem hi2);obtain⟨uv,e2,rv⟩:=r.get e1;rw [getElem?_eq_getElem hi] at e2;cases e2;exact AtD.reads I _ _ _ hdi rv
 let f:Value->Bool:=fun w=>decide (∃ e as,Reads s.heap w e as/\e ∈ ds/\PyData.eqv e d=true)
 have fv:∀ i (hi:i < its.length) (hi2:i < ds.length),f its[i]=PyData.eqv ds[i] d:=fun i hi hi2=>by
  obtain⟨as,ra⟩:=at_ i hi hi2;cases hq:PyData.eqv ds[i] d with
  | true=>exact decide_eq_true ⟨_,as,ra,getElem_mem hi2,hq⟩
  | false =>
   refine decide_eq_false ?_;rintro⟨e,as',ra',hm,he⟩;have e1:=SeqAt.Reads.unique ds[i] _ _ _ _ (SeqAt.canLay_of_shaped (sds _ (getElem_mem hi2))) ra ra';rw [← e1,hq] at he;cases he
 refine SeqAt.notIn_listAt f pl.isList (fun w hw=>?_) ⟨.bl _,H,I,rfl,?_⟩
 ·obtain⟨i,hi,rfl⟩:=getElem_of_mem (show w ∈ its by simpa using hw)
  obtain⟨as,ra⟩:=at_ i hi 'o';have s1:=sds _ (getElem_mem (show i < ds.length by omega));rw [fv i hi 'o'];exact SeqAt.eqAt_reads _ d X.A.in1 s _ v as bs ra rb (SeqAt.canLay_of_shaped s1) (SeqAt.canLay_of_shaped sd) (SeqAt.room_of_shaped s1 (by show X.A.units + 1 + 64 < cLine;omega))
 ·have e:its.toArray.any f=ds.any fun e=>PyData.eqv e d:=by
   rw [List.any_toArray,Bool.eq_iff_iff,any_eq_true,any_eq_true];constructor
   ·rintro⟨w,hw,hf⟩
    obtain⟨i,hi,rfl⟩:=getElem_of_mem hw;rw [fv i hi 'o'] at hf;exact⟨_,getElem_mem 'o',hf⟩
   ·rintro⟨w,hw,hf⟩
    obtain⟨i,hi,rfl⟩:=getElem_of_mem hw;rw [← fv i 'o' hi] at hf;exact⟨_,getElem_mem 'o',hf⟩
  rw [e];exact q
end
noncomputable def fNinP:F2:=fun x y=>match y with
 | .list ds=>if (SeqAt.shaped x && ds.all SeqAt.shaped)=true then some (.bool (!ds.any fun e=>PyData.eqv e x)) else none
 | _=>none
def qd0x{x:PyData}{ds:List PyData}(h1:SeqAt.shaped x=true)(h2:∀ e ∈ ds,SeqAt.shaped e=true):fNinP x (.list ds)=some (.bool (!ds.any fun e=>PyData.eqv e x)):=if_pos (by rw [h1,Bool.true_and];exact all_eq_true.mpr h2)
def ad_ninP{K:W.Frag}:AdR K (rNinP K) fNinP:=by
 intro S H x y dx dy z Q f hx hy e k;unfold fNinP at e;split at e
 ·rename_i ds
  split at e
  ·rename_i hc
   cases e
   obtain⟨h1,h2⟩:=Bool.and_eq_true_iff.mp hc;obtain⟨a,vs,rfl,h3,h4⟩:=hy.list;exact⟨Any,S,dx,a,ds,vs,hx.any,rfl,SqL.of h3,h4,h1,all_eq_true.mp h2,k _ _ (Same.refl _) (qa2d _)⟩
  ·cases e
 ·cases e
section
variable{K:W.Frag}
variable{X:Cx}{e1:Expr}{daa:TDA}{pos:Pos}
variable{d1:TDE}{da:TDA}{ρ:Rho}{Q:DV->Rho->Prop}
end
end
section
section
open PySem.SeqAt PySem.MeetsSeq
variable{A:Around}{s:Shared}
def qc0o{l:Addr}{o:Obj}{es:Array DictEntry}{ep:Nat}(b:Str)(u:Tok)(ho:s.heap.get? l=some o) (hc:o.cls=.type "dict") (hd:o.data=.dict es ep) (hu:A.units < cLine):RcAt A s (.ref l) (.str b u) false:=fun prog w E Q h=>by
 obtain⟨cls,dd,data,sl⟩:=o;simp only at hc hd;subst hc hd;exact rc_eq_decline_or (k:=false) ⟨_,ho,rfl⟩ (typeIs_str s b u) 'd' F.sub_str_dict F.slot_dict_eq_refl F.slot_str_eq
  (fun _ hq=>call_meets F.slot_dict_eq_refl ⟨_,ho,rfl⟩ F.entry_dict_eq (F.args_dict_eq_2 _ _) (qc0n b u l es ep dd sl) ⟨ho,hq⟩)
  (fun _ hq=>call_meets F.slot_str_eq (typeIs_str s b u) F.entry_str_eq (F.args_str_eq_2 _ _) (qc0m b u l es ep dd sl) ⟨ho,hq⟩)
  (fun _ hq=>wpAny_of_eq (rfl:isSame (.ref l) (.str b u)=pure false) hq) (.inr hu) h
def qc4l{z:Str}{t:Tok}{d:PyData}{v:Value}{as:List Addr}(r:Reads s.heap v d as)(hu:A.units < cLine):RcAt A s v (.str z t) (isT z d):=by
 cases r with
 | none=>exact RcAt.none_str z t
 | bool y=>exact RcAt.bool_str y z t
 | int y u=>exact RcAt.int_str y u z t
 | str y u =>
  have e:isT z (.str y)=(y == z):=by show(z == y)=(y == z);rw [Bool.beq_comm]
  rw [e];exact RcAt.str_str y u z t
 | list k1 k2 k3 k4=>exact RcAt.list_str z t ⟨_,k1,k2,_,k3⟩ hu
 | tuple k1 k2 k3 k4=>exact RcAt.tuple_str z t ⟨_,k1,k2,_,k3⟩ hu
 | dict k1 k2 k3 _ _=>exact qc0o z t k1 k2 k3 hu
end
def rEqL(K:W.Frag):R2:=fun x y H Q=>∃ S z d,y=.str z/\AtD K H S d x/\Q (.bl (isT z d)) H
def qb4c{X:Cx}(hu:X.A.units + 64 < cLine):OpR X (compareOp .Eq) (rEqL X.K):=by
 intro pins s σ H x y v u Q I rx ry h;obtain⟨S,z,d,rfl,hd,q⟩:=h;obtain⟨t,rfl⟩:=ry;obtain⟨bs,rb⟩:=AtD.reads I d x v hd rx;exact qc4l rb 'o' X.prog X.w X.xe _ ⟨.bl _,H,I,rfl,q⟩
noncomputable def fEqL:F2:=fun x y=>match y with
 | .str z=>some (.bool (isT z x))
 | _=>none
theorem fEqL_s{z:Str}{d:PyData}:fEqL d (.str z)=some (.bool (isT z d)):=rfl
def qb4d{K:W.Frag}:AdR K (rEqL K) fEqL:=by
 intro S H x y dx dy z Q f hx hy e k;unfold fEqL at e;split at e
 ·cases e
  exact⟨Any,_,dx,hy.str,hx.any,k _ _ (Same.refl _) (qa2d _)⟩
 ·cases e
end
section
def qa1j.there{P:Program}{w:World}{H:Hp}{h:Heap}{a:Addr}{o:HO}(x:qa1j P w H h a o):∃ u,h.get? a=some u:=by
 cases o with
 | lst xs=>obtain⟨_,_,_,_,e⟩:=x;exact⟨_,e⟩
 | tup xs=>obtain⟨_,_,_,o,e,_⟩:=x;exact⟨_,e⟩
 | dK kvs=>obtain⟨_,_,_,_,o,_,_,e,_⟩:=x;exact⟨_,e⟩
 | dT kvs=>obtain⟨_,_,_,_,o,_,_,e,_⟩:=x;exact⟨_,e⟩
 | set S n=>obtain⟨o,_,_,_,e,_⟩:=x;exact⟨_,e⟩
 | ins C dx fs=>obtain⟨_,_,_,e,_⟩:=x;exact⟨_,e⟩
 | own y=>obtain⟨_,e⟩:=x;exact⟨_,e⟩
 | xd fs=>obtain⟨_,⟨_,_,_,e,_⟩,_⟩:=x;exact⟨_,e⟩
 | rng lo hi=>obtain⟨_,_,_,e⟩:=x;exact⟨_,e⟩
 | frz ob u=>obtain⟨e,_⟩:=x;exact⟨_,e⟩
 | tbl ps=>exact⟨_,show h.get? a=some _ from x⟩
 | met f y=>exact⟨_,show h.get? a=some _ from x⟩
 | ext φ=>obtain⟨_,z,_⟩:=x;exact z
def Cov(l:List Env)(H:Hp)(h0 B h:Heap):Prop:=∀ b o,h.get? b=some o->(H b ≠ none ∨ ∃ o',h0.get? b=some o')->b ∉ frs l->B.get? b=some o
noncomputable def CX1(P:Program)(w:World):CXT:=fun outer H s E e s'=>∃ (a C:Addr) (t:Value) (B:Heap) (H':Hp),e=.ref a/\s'.os=s.os/\AllBare s'.gens/\Un (frs outer) [] H H' s.heap s'.heap/\HOk P w H' s'.heap/\H' a=none /\
 Heap.FlyingW B outer a (.ref C) t s'.heap/\Cov outer H' s.heap B s'.heap/\E (.ref C) none H'
section
variable{X:Cx}{pins:List 'c'}{σ:St}{H H':Hp}{s s':Shared}{h1 B:Heap}
def qb2y(I:Inv X pins σ H s)(un:Un (frs X.stack) [] H H' s.heap s'.heap)(hok:HOk X.prog X.w H' s'.heap)(cov:Cov X.stack H' s.heap B s'.heap)(bt:B.StaysIn h1)(up:s'.heap.UpToSlots h1) :
  Un (frs X.stack) [] H H' s.heap h1/\HOk X.prog X.w H' h1/\Cov X.stack H' s.heap B h1:=by
 have nf:∀ b o,s'.heap.get? b=some o->b ∈ frs X.stack->∀ vs,o.data ≠ .fields vs:=fun b o e hb=>by
  obtain⟨_,o2,ho2,hd⟩:=I.stack.mem hb;obtain⟨sl,e2⟩:=un.slot b o2 ho2 (I.stkFree b hb) hb 'g';rw [e] at e2;cases e2;exact hd
 have fr:∀ b,H' b ≠ none->b ∉ frs X.stack:=fun b n hb=>by
  obtain⟨_,o2,ho2,_⟩:=I.stack.mem hb;exact n (un.free b o2 ho2 (I.stkFree b hb) 'g')
 have inB:∀ b o,s'.heap.get? b=some o->(H' b ≠ none ∨ ∃ o',s.heap.get? b=some o')->b ∉ frs X.stack->h1.get? b=some o:=fun b o e c n=>bt b o (cov b o e c n);refine⟨⟨fun b o e n hb _=>inB b o (un.keep b o e n hb 'g') (.inr ⟨o,e⟩) hb,fun b o e n hb _=>?_,un.free,fun b o e _=>?_,un.tups,un.frzs,un.tbls⟩,fun a o q=>?_,fun b o e c n=>?_⟩
 ·obtain⟨sl,e1⟩:=un.slot b o e n hb 'g'
  obtain⟨sl',e2⟩:=up b _ e1 (nf b _ e1 hb);exact⟨sl',e2⟩
 ·obtain⟨o1,e1⟩:=un.there b o e 'g'
  by_cases hb:b ∈ frs X.stack
  ·obtain⟨sl',e2⟩:=up b _ e1 (nf b _ e1 hb)
   exact⟨_,e2⟩
  ·exact⟨o1,inB b o1 e1 (.inr ⟨o,e⟩) hb⟩
 ·refine(hok a o q).stay (fun b u hb e=>?_) (fun _ z=>z) fun _ _ z=>z
  have hn:H' b ≠ none:=by
   rcases hb with rfl | hb
   ·rw [q];exact fun z=>nomatch z
   ·rw [hb];exact fun z=>nomatch z
  exact inB b u e (.inl hn) (fr b hn)
 ·have:∃ u,s'.heap.get? b=some u:=by
   rcases c with c | ⟨o',c⟩
   ·cases q:H' b with
    | none=>exact absurd q c
    | some ho=>exact(hok b ho q).there
   ·exact un.there b o' c 'g'
  obtain⟨u,hu⟩:=this;have hB:=cov b u hu c n;have:=bt b u hB;rw [e] at this;cases this;exact hB
def fly_out{a C:Addr}{t:Value}{E:XK}(J:Inv X pins σ H' { s' with heap:=h1 })(hst:X.stack=X.env :: X.outer)(hex:X.ex=[])(fl:Heap.FlyingW B X.outer a (.ref C) t h1)(cov:Cov X.stack H' X.s₀.heap B h1)(ha:H' a=none)(hE:E (.ref C) none H') :
  CX1 X.prog X.w X.outer X.H₀ X.s₀ E (.ref a) { s' with heap:=h1 }:=by
 have hb:=J.base;rw [hex] at hb;refine⟨a,C,t,B,H',rfl,J.os,J.bare,hb,J.hok,ha,fl,fun b o e c n=>cov b o e c fun hm=>?_,hE⟩;rcases mem_cons.mp (J.stkSub b hm) with z | z
 ·rcases c with c | ⟨o',c⟩
  ·exact c (by rw [z];exact J.free)
  ·have hlt:=lt_of_lt_of_le (lt_size c) J.ok.above
   rw [z] at hlt;exact absurd hlt (lt_irrefl _)
 ·exact n z
def leave_new{E:XK}{e C:Addr}{h2:Heap}{Ex:Value->Shared->Prop}{vs:List Value}(I:Inv X pins σ H s)(hst:X.stack=X.env :: X.outer)(hf:X.env.frame=some X.env.locals)(hex:X.ex=[])(m:Heap.MadeExcOf s.heap h2 e (.ref C) vs)(hE:E (.ref C) none H) :
  wpAny (model X.prog X.w) X.A (leaving X.env (.ref e)) (fun _ s''=>CX1 X.prog X.w X.outer X.H₀ X.s₀ E (.ref e) s'') Ex { s with heap:=h2 }:=by
 have hfr:X.A.frames=some (X.env :: X.outer):=by rw [← hst];exact I.ok.frames
 have hst2:=I.stack;have he:H e=none:=by
  cases q:H e with
  | none=>rfl
  | some o =>
   obtain⟨u,hu⟩:=(I.hok e o q).there;rw [m.new] at hu;cases hu
 have hfs:s.heap.FunFrames (PySem.W.hideAll s.heap (frs X.stack)) (X.env :: X.outer):=by
  rw [hst] at hst2 ⊢;exact PySem.W.funFrames_hide hst2 fun env he b hb=>List.mem_filterMap.mpr ⟨env,he,hb⟩
 refine wpAny_leaves_madeW (base:=PySem.W.hideAll s.heap (frs X.stack)) (h:=s.heap) hfr hf (fun b o q=>PySem.W.of_hideAll _ q) hfs m fun h1 t fl tup tn up=>?_;have cov:Cov X.stack H s.heap (PySem.W.hideAll s.heap (frs X.stack)) s.heap:=fun b o e _ n=>PySem.W.hideAll_get _ e n;have up2:s.heap.UpToSlots h1:=(Heap.UpToSlots.of_keeps m.keeps).trans up;obtain⟨un1,hok1,cov1⟩:=qb2y (s':=s) I Un.refl I.hok cov fl.1 up2;have J:Inv X pins σ H { s with heap:=h1 }:=I.call' (s':={ s with heap:=h1 }) rfl un1 hok1 I.bare (fun b z=>absurd z 'g');refine fly_out (s':=s) J hst hex fl (fun b o e c n=>cov1 b o e ?_ n) he hE;rcases c with c | ⟨o',c⟩
 ·exact .inl c
 ·exact .inr (I.base.there b o' c (by rw [hex];simp))
end
end
section
abbrev veM:List Value:=[.type "ValueError",.type "Exception",.type "BaseException",.type "object"]
def exc_obj{K:W.Frag}{h:Heap}{C:Addr}{bB:List Value}{newId:String}(X:K.In h)(q:PySem.W.excIn K C bB newId=true) :
  ∃ bm N nm qn bs hd sn sub ab col dd k0 k1 k2 k3 k5 mN,h.get? C=some (excClassObj nm qn C N bs bm hd sn sub ab col dd k0 k1 k2 k3 k5 newId)/\h.Ns N mN/\mN "__init__" = none/\OwnTail h bB bm:=by
 unfold PySem.W.excIn at q;split at q
 ·rename_i dd cd sl ho
  split at q
  ·rename_i C' bm k0 k1 k2 k3 n k5 hm hs
   simp only [and_eq_true,beq_iff_eq,Bool.not_eq_true'] at q;obtain⟨⟨⟨⟨⟨rfl,rfl⟩,hdel⟩,ht⟩,hok⟩,hni⟩:=q;obtain⟨nm,bs,mro,ns,qn,hd,sn,sub,ab,col,del⟩:=cd
   dsimp only at hm hdel hok hni
   subst hm hdel;have e:sl = #[k0,k1,k2,k3,some (.builtin n),k5]:=by
    cases sl
    simp only at hs;rw [hs]
   subst e;exact⟨bm,ns,nm,qn,bs,hd,sn,sub,ab,col,dd,k0,k1,k2,k3,k5,_,X _ _ ho,.of_isNs (PySem.W.isNs_of_in X hok),PySem.W.nsMap_none_of_in X hok hni,PySem.W.tail_of_in X ht⟩
  ·cases q
 ·cases q
section
variable{X:Cx}{x:Str}{C:Addr}{E:XK}{np cpos pos:Pos}
structure Out(X:Cx)(E:XK):Prop where
 st:X.stack=X.env :: X.outer
 fr:X.env.frame=some X.env.locals
 ex:X.ex=[]
 xe:∀ e s',wpAny (model X.prog X.w) X.A (leaving X.env e) (fun _ s''=>CX1 X.prog X.w X.outer X.H₀ X.s₀ E e s'') (fun e' s''=>CX1 X.prog X.w X.outer X.H₀ X.s₀ E e' s'') s'->X.xe e s'
def out_cx{P:Program}{w:World}{K:W.Frag}{mg:Str->Option Value}{base:Heap}{N:List Str}{qual:Str}{scope:Scope}{f:Addr}{cd:Value}{A:Around}{outer:List Env}{s:Shared}{H:Hp} :
  Out (cxOf (CX1 P w) P w K mg base N qual scope f cd A outer s H E) E:=⟨rfl,rfl,rfl,fun _ _ h=>h⟩
def tRaise(E:XK)(C:Addr):TS:=fun _ _ H=>E (.ref C) none H
def qd0y(O:Out X E)(hc:X.calm=true)(hg:Gl X x)(hm:X.mg x=some (.ref C)) (q:PySem.W.excIn X.K C veM "ValueError.__new__" = true) (hd:(x == ("__debug__" : Str))=false:=by decide):PS X (.Raise (some (.Call (.Name x np) [] [] cpos)) none pos) (tRaise E C):=by
 intro pins s σ H D I h;obtain⟨bm,N,nm,qn,bs,hdc,sn,sub,ab,col,dd,k0,k1,k2,k3,k5,mN,hC,hN,hni,T⟩:=exc_obj I.kIn q;refine wpAny_Raise_call_subT (nm:=nm) (q:=qn) (N:=N) (bs:=bs) (hdct:=hdc) (sn:=sn) (sub:=sub) (ab:=ab) (col:=col) (dd:=dd) (k0:=k0) (k1:=k1) (k2:=k2) (k3:=k3) (k5:=k5) PySem.F.excBase_ValueError (T.hasType 'd') (I.ok.hd hc) rfl hni (qa9e I hg hm ⟨rfl,?_⟩ hd);refine wpAny_pure ⟨rfl,zero_le _,hC,hN,T,fun h' e m=>O.xe _ _ (leave_new I O.st O.fr O.ex m h)⟩
end
section
variable{P:Program}{w:World}{K:W.Frag}{mg:Str->Option Value}{base:Heap}
def Fun.okX{x qual:Str}{st:Stmt}{f:Addr}{fd:FuncData}{N ps:List Str}{k:Nat}{sp:Sp}(F:Fun K x qual st f fd)(S:FnScope N ps (qa0k st))(len:∀ vs H Q E,sp vs H Q E->vs.length=ps.length)
  (hbody:∀ (cdv:Value) (A:Around) (outer:List Env) (s:Shared) (H:Hp) (vs:List V) (Q:VK) (E:XK),Room k (A.deeper (envOfC qual (qa0k st) s.heap.objs.size f cdv))->sp vs H Q E ->
   ∃ t,PSs (cxOf (CX1 P w) P w K mg base N qual (qa0k st) f cdv A outer s H E) (qa2z st) t/\t { nx:=fun _ H'=>Q .non H',rt:=Q } (start N vs) H):FnOk P w K mg base (CX1 P w) (k + 1) f fd ps sp:=by
 obtain⟨oc,od,kV,doc,pm,an,cdv,ct,osl,rfl,lk,hcd⟩:=F.ex;exact fn_of lk hcd S len fun A outer s H vs Q E hr hsp=>hbody cdv A outer s H vs Q E hr hsp
end
end
section
def exq(a C:Addr)(h:Heap):Prop:=∃ o,h.get? a=some o/\o.cls=.ref C
noncomputable def markX(X:Cx)(v:Value):Cx:={ X with A:=X.A.mark (some v),calm:=false,xe:=fun _ _=>False }
structure XCls(K:W.Frag)(C:Addr)(bm:List Value):Prop where
 obj:∃ nm qn N bs hd sn sub ab col dd k0 k1 k2 k3 k5 newId,K.lookup C=some (excClassObj nm qn C N bs bm hd sn sub ab col dd k0 k1 k2 k3 k5 newId)
 base:bm.contains (.type "BaseException")=true
def exm_own{M:Model}{A:Around}{E:Value->Shared->Prop}{K:W.Frag}{s:Shared}{C W e:Addr}{bm bw:List Value}{oe:Obj}{Q:Bool->Shared->Prop}(X:K.In s.heap)(c:XCls K C bm)(cw:XCls K W bw)(he:s.heap.get? e=some oe)(hcls:oe.cls=.ref C)
  (hs:(Value.ref C :: bm).contains (.ref W)=true) (hq:Q true s):wpAny M A (excMatches (.ref e) (.ref W)) Q E s:=by
 obtain⟨hp,g,d,tk,os⟩:=s;obtain⟨nm,qn,N,bs,hd,sn,sub,ab,col,dd,k0,k1,k2,k3,k5,newId,l⟩:=c.obj;obtain⟨nm',qn',N',bs',hd',sn',sub',ab',col',dd',k0',k1',k2',k3',k5',newId',l'⟩:=cw.obj;have hC:=X _ _ l;have hW:=X _ _ l';have hcB:(Value.ref W :: bw).contains (.type "BaseException")=true:=by rw [List.contains_cons,cw.base,Bool.or_true]
 have f:=tc_notTuple;unfold excMatches
 repeat (first | (with_reducible refine wpAny_loadPart_at he ?_;rw [hcls]) | with_reducible refine wpAny_loadPart_at hW ?_ | (with_reducible refine wpAny_isSubtype_exc hW ?_;rw [hcB]) | (with_reducible refine wpAny_isSubtype_exc hC ?_;rw [hs]) | wp_step)
 exact hq
section
variable{X:Cx}{pins:List 'c'}{σ:St}{H H':Hp}{s s':Shared}{h1 B:Heap}
def Inv.mark(I:Inv X pins σ H s)(v:Value):Inv (markX X v) pins σ H s:=
 ⟨⟨I.ok.mod,I.ok.kind,I.ok.glob,I.ok.blt,I.ok.above,I.ok.inj,I.ok.has,I.ok.cab,fun h=>(nomatch h),I.ok.frames,I.ok.stk,I.ok.exf,I.ok.bs,I.ok.bsz,I.ok.noex,I.ok.exfs,I.ok.funs,I.ok.frf⟩,I.os,I.bare,I.base,I.loc,I.cell,I.free,I.freeC,I.pin,I.hok,I.len⟩
def Inv.unmark{v:Value}(hd:X.calm=true->X.A.handled=none)(I:Inv (markX X v) pins σ H s):Inv X pins σ H s:=
 ⟨⟨I.ok.mod,I.ok.kind,I.ok.glob,I.ok.blt,I.ok.above,I.ok.inj,I.ok.has,I.ok.cab,hd,I.ok.frames,I.ok.stk,I.ok.exf,I.ok.bs,I.ok.bsz,I.ok.noex,I.ok.exfs,I.ok.funs,I.ok.frf⟩,I.os,I.bare,I.base,I.loc,I.cell,I.free,I.freeC,I.pin,I.hok,I.len⟩
def Inv.track{a:Addr}{o:HO}(I:Inv X pins σ H s)(ha:H a=none)(h0:X.s₀.heap.get? a=none)(hl:a ≠ X.env.locals)(hc:∀ x c,X.env.cells.lookup x=some c->c ≠ a)(hp:∀ p ∈ X.pn ++ pins,p.1 ≠ a)(new:qa1j X.prog X.w (upd H a o) s.heap a o):Inv X pins σ (upd H a o) s:=by
 have nn:∀ b u,H b=some u->b ≠ a:=fun b u e z=>by rw [z,ha] at e;cases e
 refine⟨I.ok,I.os,I.bare,⟨I.base.keep,I.base.slot,fun b ob e n hx=>?_,I.base.there,fun b xs e=>?_,fun b ob u e=>?_,fun b ps e=>?_⟩,I.loc,I.cell,?_,fun x c e=>?_,fun p hp'=>?_,fun b u e=>?_,I.len⟩
 ·rw [qa0f (fun z=>by rw [z,h0] at e;cases e)];exact I.base.free b ob e n hx
 ·have q:=I.base.tups b xs e
  rw [qa0f (nn b _ q)];exact q
 ·have q:=I.base.frzs b ob u e
  rw [qa0f (nn b _ q)];exact q
 ·obtain⟨m,q⟩:=I.base.tbls b ps e
  exact⟨m,by rw [qa0f (nn b _ q)];exact q⟩
 ·rw [qa0f (Ne.symm hl)];exact I.free
 ·rw [qa0f (hc x c e)];exact I.freeC x c e
 ·obtain⟨q1,q2,q3⟩:=I.pin p hp'
  exact⟨q1,by rw [qa0f (hp p hp')];exact q2,q3⟩
 ·by_cases hb:b=a
  ·subst hb
   rw [qa0h] at e;cases e;exact new
  ·rw [qa0f hb] at e
   exact(I.hok b u e).stay (fun _ _ _ q=>q) (fun c q=>by rw [qa0f (nn c _ q)];exact q) fun c xs q=>by rw [qa0f (nn c _ q)];exact q
def goes_ok{M:Model}{A:Around}{E:Value->Shared->Prop}{j:Nat}{n:Str}{pos:Pos}{Q:Unit->Shared->Prop}(I:Inv X pins σ H s)(hN:X.N.Nodup)(hj:X.N[j]? = some n)(hk:X.env.kindOf n=some .local)
  (h:∀ s',Inv X pins (σ.set j none) H s'->Q () s'):wpAny M A (do bindName X.env n .none;unbindBehindTheSuite X.env n pos) Q E s:=by
 obtain⟨m,hn,hl⟩:=I.loc;have hcls:(X.env.scope.kind == .class || (X.env.scope.kind == .module && X.env.locals != X.env.globals))=false:=by rw [I.ok.kind];rfl
 refine wpAny_nameGoes_keeps hk hn hcls fun h' v hn' hs=>?_;have neL:∀ b o,X.s₀.heap.get? b=some o->b ≠ X.env.locals:=fun b o e=>ne_of_lt (lt_of_lt_of_le (lt_size e) I.ok.above);refine h _ ⟨I.ok,I.os,I.bare,⟨fun b o e n hb hx=>(hs.2 b (neL b o e)).trans (I.base.keep b o e n hb hx),fun b o e n hb hx=>?_,I.base.free,fun b o e hx=>?_,I.base.tups,I.base.frzs,I.base.tbls⟩,⟨_,hn',fun i y v' e1 e2 e3=>?_⟩,fun y c e=>?_,I.free,I.freeC,fun p hp=>?_,fun b ob e=>?_,by simpa using I.len⟩
 ·obtain⟨sl,e1⟩:=I.base.slot b o e n hb hx
  exact⟨sl,(hs.2 b (neL b o e)).trans e1⟩
 ·obtain⟨o',e1⟩:=I.base.there b o e hx
  exact⟨o',(hs.2 b (neL b o e)).trans e1⟩
 ·have hij:i ≠ j:=fun z=>by
   subst z;rw [List.getElem?_set] at e2;rw [if_pos rfl] at e2;split at e2<;>cases e2
  rw [getElem?_set_ne (Ne.symm hij)] at e2;obtain⟨u',r',q⟩:=hl i y v' e1 e2 e3;refine⟨u',r',?_⟩;rcases q with⟨k,e⟩ | ⟨k,c,e,z⟩
  ·refine .inl ⟨k,?_⟩
   have:y ≠ n:=fun e=>hij (qb2j hN e1 (e ▸ hj));simp [this,e]
  ·exact .inr ⟨k,c,e,z.sameBut hs (I.cne y c e)⟩
 ·obtain⟨w',z⟩:=I.cell y c e
  exact⟨w',z.sameBut hs (I.cne y c e)⟩
 ·obtain⟨e,n,ne,nf,d⟩:=I.pin p hp
  exact⟨(hs.2 p.1 ne).trans e,n,ne,nf,d⟩
 ·refine(I.hok b ob e).stay (fun c w' hc q=>(hs.2 c ?_).trans q) (fun _ q=>q) fun _ _ q=>q
  rintro rfl;rcases hc with rfl | hc
  ·rw [I.free] at e;cases e
  ·rw [I.free] at hc;cases hc
end
def PEx(X:Cx)(e:Expr)(t:TE)(E:XK):Prop:=∀ (pins:List 'c') (s:Shared) (σ:St) (H:Hp) (Q:VK),Inv X pins σ H s->t σ H Q ->
 wpAny (model X.prog X.w) X.A (eval e X.env) (EP X pins σ Q) (fun x s'=>∃ H1 s1,Inv X pins σ H1 s1/\CX1 X.prog X.w X.stack H1 s1 E x s') s
section
variable{X:Cx}{k:Nat}{f:Addr}{fd:FuncData}{ps:List Str}{sp:Sp}{E:XK}{x:Str}{p pos:Pos}{e:Expr}{es:List Expr}{t:TA}
def qd0z(hx:∀ e s,X.xe e s->False)(F:FnOk X.prog X.w X.K X.mg X.base (CX1 X.prog X.w) k f fd ps sp)(hr:Room k X.A)(hg:Gl X x)(hm:X.mg x=some (.ref f))(hk:PySem.W.keepIn X.K (.ref f)=true)(hb:Binds X.K fd ps [])(ha:PA X (e :: es) t)
  (hdb:(x == ("__debug__" : Str))=false:=by decide) (he:starEach (e :: es) X.env=(false,eval e X.env) :: starEach es X.env:=by rfl) (hpl:(backTo pos (starEach es X.env)).any (·.1)=false:=by rfl) :
  PEx X (.Call (.Name x p) (e :: es) [] pos) (tCall sp [] E t) E:=by
 intro pins s σ H Q I h;refine wpAny_Call_Name_kw (qa9e I hg hm ?_ hdb);refine PySem.W.callWith_K (h₀:=X.base) I.ok.mod.kin hk (wpAny_mono (ha pos pins s σ H _ I h) (fun us s1 ⟨vs,H1,I1,r,q⟩=>⟨I1.kIn,?_⟩) fun e s z=>(hx e s z).elim) he hpl;have r2:Vals (vs ++ []) (us ++ []):=r.append .nil;have hl:(us ++ []).length=ps.length:=by rw [← r2.length];exact F.len _ _ _ _ q
 refine wpAny_call (codeAny_mono (F.run X.A X.stack s1 H1 ⟨us,[]⟩ (us ++ []) (vs ++ []) Q E hr I1.env0 (hb s1 us I1.kIn hl) r2 q) fun r s' hq=>?_);cases r with
 | error e=>exact⟨H1,s1,I1,hq⟩
 | ok fl =>
  cases fl with
  | ret u=>exact I1.after hq
  | next=>exact False.elim hq
  | brk=>exact False.elim hq
  | cont=>exact False.elim hq
end
section
variable{X:Cx}{e:Expr}{te:XK->TE}{wx n:Str}{Wk:Addr}{bw:List Value}{j:Nat}{b₀:Stmt}{suite:List Stmt}{th:TS}{p2 np hp tp:Pos}
def XH(K:W.Frag)(Wk:Addr)(j:Nat)(th:TS)(D:Ends)(σ:St):XK:=fun cls _ H2=>∃ C bm,cls=.ref C/\XCls K C bm/\(Value.ref C :: bm).contains (.ref Wk)=true /\
 ∀ a,H2 a=none->th { nx:=fun σ' H'=>D.nx (σ'.set j none) H',rt:=fun _ _=>False } (σ.set j (some (.ref a))) (upd H2 a (.ext (exq a C)))
def qc7d{pins:List 'c'}{σ:St}{H1:Hp}{s1 s':Shared}{D:Ends}{v:Value}(I:Inv X pins σ H1 s1)(c:CX1 X.prog X.w X.stack H1 s1 (XH X.K Wk j th D σ) v s')
  (hst:X.stack=X.env :: X.outer) (hf:X.env.frame=some X.env.locals) (hex:X.ex=[]) (hN:X.N.Nodup) (hj:X.N[j]? = some n) (hk:X.env.kindOf n=some .local) (hlo:Loc X.env.scope n) (hg:Gl X wx) (hm:X.mg wx=some (.ref Wk)) (cw:XCls X.K Wk bw) (hh:∀ a,PSs (markX X (.ref a)) (b₀ :: suite) th)
  (hd:(wx == ("__debug__" : Str))=false:=by decide) (hfn:X.fn n=true ∨ X.env.scope.names.lookup n=some .local:=by first | exact .inl rfl | exact .inr rfl | assumption) :
  wpAny (model X.prog X.w) X.A (noteFrame v X.env) (fun _ s₂=>wpAny (model X.prog X.w) X.A (setFlight v none) (fun _ s₃=>wpAny (model X.prog X.w) X.A (handleBy v X.env [.ExceptHandler (some (.Name wx np)) (some n) (b₀ :: suite) hp]) (SP X pins D) X.xe s₃) X.xe s₂) X.xe s':=by
 obtain⟨a,C,t,B,H',rfl,os,bare,un,hok,ha,fl,cov,hE⟩:=c;have hfr:X.A.frames=some (X.env :: X.outer):=by rw [← hst];exact I.ok.frames
 have fl0:=fl;rw [hst] at fl0;refine wpAny_looks_onW hfr hf fl0 fun h4 held4 up4=>?_;refine wpAny_landsW held4 fun h5 fl5 up5=>?_;obtain⟨un5,hok5,cov5⟩:=qb2y I un hok cov fl5.1 (up4.trans up5);have I5:Inv X pins σ H' { s' with heap:=h5 }:=I.call' (s':={ s' with heap:=h5 }) os un5 hok5 bare (fun b z=>absurd z 'g');obtain⟨ob,hob,hobc⟩:=fl5.there;obtain⟨C',bm,ec,cc,hsub,hth⟩:=hE;cases ec;refine wpAny_handleBy_cons (codeAny_handlers_test (qa9e (X:=markX X (.ref a)) (I5.mark _) hg hm ?_ hd)) (by intro q;cases q);refine exm_own I5.kIn cc cw hob hobc hsub ?_;refine codeAny_handlers_suite_as (lands_againW fl5 fun h6 fl6 up6=>?_);obtain⟨un6,hok6,cov6⟩:=qb2y I un hok cov fl6.1 ((up4.trans up5).trans up6);have I6:Inv X pins σ H' { s' with heap:=h6 }:=I.call' (s':={ s' with heap:=h6 }) os un6 hok6 bare (fun b z=>absurd z 'g');obtain⟨o6,v6,he6,hc6,hd6,_⟩:=fl6.first
 -- the exception was not there ahead of the call
 have hna:s1.heap.get? a=none:=by
  cases q:s1.heap.get? a with
  | none=>rfl
  | some o1 =>
   have hnf:a ∉ frs X.stack:=fun hb=>by
    rw [hst] at hb;obtain⟨_,o2,ho2,hd2⟩:=fl6.2.2.1.mem hb;rw [he6] at ho2;cases ho2;exact hd2 _ hd6
   have:=cov6 a o6 he6 (.inr ⟨o1,q⟩) hnf;rw [fl6.2.1] at this;cases this
 have I7:Inv X pins σ (upd H' a (.ext (exq a C))) { s' with heap:=h6 }:=by
  refine I6.track ha ?_ ?_ (fun x c e z=>?_) (fun p hp z=>?_) ⟨⟨o6,he6,hc6⟩,⟨o6,he6⟩,fun g1 g2 ⟨o,e,q⟩ k=>⟨o,k o e,q⟩⟩
  ·cases q:X.s₀.heap.get? a with
   | none=>rfl
   | some o0 =>
    obtain⟨o',e'⟩:=I.base.there a o0 q (by rw [hex];simp);rw [hna] at e';cases e'
  ·rintro rfl
   obtain⟨_,⟨_,_,_,e,_⟩,_⟩:=I.loc;rw [hna] at e;cases e
  ·obtain⟨_,_,e',_⟩:=I.cell x c e
   rw [z,hna] at e';cases e'
  ·obtain⟨e',_⟩:=I.pin p hp
   rw [z,hna] at e';cases e'
 refine qb2k (X:=markX X (.ref a)) (I7.mark _) hN hj hlo (v:=V.ref a) rfl (fun s7 I8=>?_) hfn;refine wpAny_mono (hh a pins s7 _ _ _ I8 (hth a ha)) (fun fl s8 q=>?_) fun _ _ z=>z.elim;cases fl with
 | next =>
  obtain⟨σ8,H8,I9,q9⟩:=q;exact goes_ok (I9.unmark I.ok.hd) hN hj hk fun s9 I10=>⟨_,_,I10,q9⟩
 | ret u=>obtain⟨_,_,_,_,_,z⟩:=q;exact z.elim
 | brk=>obtain⟨_,_,_,z⟩:=q;exact z.elim
 | cont=>obtain⟨_,_,_,z⟩:=q;exact z.elim
def tTryE(te:XK->TE)(K:W.Frag)(Wk:Addr)(j:Nat)(th:TS):TS:=fun D σ H=>te (XH K Wk j th D σ) σ H fun _ H2=>D.nx σ H2
def ps_tryE(hx:∀ e s,X.xe e s->False)(he:∀ E,PEx X e (te E) E)
  (hst:X.stack=X.env :: X.outer) (hf:X.env.frame=some X.env.locals) (hex:X.ex=[]) (hN:X.N.Nodup) (hj:X.N[j]? = some n) (hk:X.env.kindOf n=some .local) (hlo:Loc X.env.scope n) (hg:Gl X wx) (hm:X.mg wx=some (.ref Wk)) (cw:XCls X.K Wk bw) (hh:∀ a,PSs (markX X (.ref a)) (b₀ :: suite) th)
  (hs:swapsWith e none p2.line X.env=pure false:=by rfl) (hd:(wx == ("__debug__" : Str))=false:=by decide) (hfn:X.fn n=true ∨ X.env.scope.names.lookup n=some .local:=by first | exact .inl rfl | exact .inr rfl | assumption) :
  PS X (.Try [.Expr e p2] [.ExceptHandler (some (.Name wx np)) (some n) (b₀ :: suite) hp] [] [] tp) (tTryE te X.K Wk j th):=by
 intro pins s σ H D I h;refine wpAny_Try_except (wpAny_execs_cons (wpAny_Expr_any (wpAny_mono (he _ pins s σ H _ I h) (fun v s1 ⟨x,H1,I1,r1,q1⟩=>?_) fun x s' z=>?_) I.quiet hs))
 ·exact wpAny_execs_nil (wpAny_execs_nil ⟨σ,H1,I1,q1⟩)
 ·obtain⟨H1,s1,I1,c⟩:=z
  exact qc7d I1 c hst hf hex hN hj hk hlo hg hm cw hh hd hfn
end
end
end L2
section
namespace L2
open PySem PySem.Spec PySem.Calls PyProof.Rows PySem.W PySem.Builtin PySem.Builtin.ObjectAttr PySem.Builtin.Getset_descriptor
structure XFacts(K:Frag)(C:Addr):Prop where
 ga:findIn K (.ref C) "__getattribute__" = some (some (.builtin "BaseException.__getattribute__"))
 hk:findIn K (.ref C) "__getattr__" = some none
 cl:findIn K (.ref C) "__class__" = some (some (.builtin "object.__class__"))
 gt:specialIn K (.builtin "object.__class__") "__get__" = some (some (.builtin "getset_descriptor.__get__"))
 tk:takesIn K (.builtin "object.__class__")=some true
 ob:mroIn K C (.type "object")=some true
 be:mroIn K C (.type "BaseException")=some true
def qb1o{a C:Addr}{M:Model}{h:Heap}(p:exq a C h):Looks M h (typeOf (.ref a)) (.ref C):=by
 obtain⟨o,h1,h2⟩:=p;exact h2 ▸ (Looks.ld h1).andThen .now
section
variable{prog:Program}{w:World}{A:Around}{E:Value->Shared->Prop}{K:Frag}{a C:Addr}{s:Shared}
def qc0p{R:Result->Shared->Prop}{tp:Value}(X:K.In s.heap)(p:exq a C s.heap)(F:XFacts K C)(h:R (.ok (.ret (.ref C))) s):codeAny (model prog w) A (.call (.builtin "getset_descriptor.__get__") ⟨[.builtin "object.__class__",.ref a,tp],[]⟩) R s:=by
 obtain⟨hh,g,dr,t,os⟩:=s;have L0:=qb1o (M:=model prog w) p;have L1:=looks_mroIn (M:=model prog w) X F.ob;refine codeAny_call_builtin KF.slot_gs.plain KF.entry_gs (KF.slot_gs.check _ _ _ _ _ _ _ _ KF.type_class (KF.args_gs _ _ _) ?_);unfold Builtin.«getset_descriptor.__get__» descrGet;rw [dga_obj];refine wpAny_bind (wpAny_pure ?_);unfold descrGetter descrCheckInstance descrNameAndClass isInstance;simp only [KF.owner_class]
 repeat lk
 refine⟨Code.quiet_builtin _ 'k',codeAny_builtin KF.entry_class ?_⟩;unfold Builtin.«object.__class__» shownTypeOf
 repeat lk
 exact h
def qc7e{nameV:Value}{Q:Unit->Shared->Prop}{M:Model}(X:K.In s.heap)(p:exq a C s.heap)(F:XFacts K C)(h:Q () s):wpAny M A (checkBuiltinCall "BaseException.__getattribute__" ⟨[.ref a,nameV],[]⟩) Q E s:=by
 have hk:builtinKind "BaseException.__getattribute__" = some .slot:=by decide +kernel
 have hsplit:splitId "BaseException.__getattribute__" = some ("BaseException","__getattribute__"):=by decide +kernel
 have ha:=PySem.F.args_bexc_ga (.ref a) nameV;obtain⟨hh,g,dr,t,os⟩:=s;have L0:=qb1o (M:=M) p;have L1:=looks_mroIn (M:=M) X F.be;simp only [checkBuiltinCall,hk,hsplit];refine wpAny_bind ?_;unfold isInstance;refine wpAny_bind (L0.at (L1.at ?_))
 repeat (any_goals (first | assumption | wp_step))
def qd1a(X:K.In s.heap)(F:XFacts K C):Looks (model prog w) s.heap (find (.ref a) (.ref C) "__class__") (.bind (.builtin "getset_descriptor.__get__") (.builtin "object.__class__")):=by
 have L1:=looks_findIn (M:=model prog w) X F.cl;have L2:=looks_specialIn (M:=model prog w) X F.gt;have L3:=looks_takesIn (M:=model prog w) X F.tk;unfold find;refine L1.andThen (Looks.andThen (show Looks _ _ (getOf (some _)) _ from L2) ?_);refine Looks.andThen (a:=some (.builtin "getset_descriptor.__get__",.builtin "object.__class__")) (L3.andThen .now) (Looks.tag .now)
def qc7f{tk:Tok}{Q:PySem.Fin->Shared->Prop}(X:K.In s.heap)(p:exq a C s.heap)(F:XFacts K C)(h:Q (.done (.ret (.ref C))) s) :
  wpAny (model prog w) A (Builtin.«object.__getattribute__» ⟨[.ref a,.str "__class__" tk],[]⟩) Q E s:=by
 have L0:=qb1o (M:=model prog w) p;have L1:=qd1a (prog:=prog) (w:=w) (a:=a) X F;unfold Builtin.«object.__getattribute__»;refine wpAny_bind (wpAny_pure (wpAny_bind (wpAny_pure (wpAny_bind (L0.at (wpAny_bind (L1.at ?_)))))));show wpAny _ _ (holding [_] (call (.builtin "getset_descriptor.__get__") [.builtin "object.__class__",.ref a,.ref C]) >>= ret) _ _ _;exact wpAny_bind (wpAny_holding (wpAny_call (qc0p X p F (wpAny_pure h))))
def qc7g{Q:Option Value->Shared->Prop}(X:K.In s.heap)(p:exq a C s.heap)(F:XFacts K C)(h:Q (some (.ref C)) { s with toks:=s.toks + 1 }):wpAny (model prog w) A (getAttr? (.ref a) "__class__") Q E s:=by
 have L0:=qb1o (M:=model prog w) p;have L1:=looks_findIn (M:=model prog w) X F.ga;have L2:=looks_findIn (M:=model prog w) X F.hk;unfold getAttr? getAttrBy? getAttrBy;refine wpAny_bind (wpAny_mkText (wpAny_bind (wpAny_attempt (wpAny_holding (wpAny_bind (L0.at (wpAny_bind (L1.at ?_))))))));show wpAny _ _ (getAttrByItsOwn _ _ _ _ _ _) _ _ _;unfold getAttrByItsOwn;refine wpAny_bind ((show Looks _ _ (hookBefore (.ref C)) _ from L2).at (wpAny_bind (wpAny_attempt (wpAny_holding ?_))));show wpAny _ _ (boundAndCalled _ _ _) _ _ _;unfold boundAndCalled;rw [PySem.F.attrBase_ValueError.ga.bind (.ref a)];refine wpAny_bind (wpAny_pure (wpAny_call ?_));refine codeAny_call_builtin PySem.F.attrBase_ValueError.ga.plain PySem.F.entry_bexc_ga (qc7e (s:={ s with toks:=s.toks + 1 }) X p F (qc7f (s:={ s with toks:=s.toks + 1 }) X p F ?_));exact wpAny_pure (wpAny_pure h)
def qd1b{o:Obj}(l:K.lookup C=some o)(hcl:∃ cd,o.data=.cls cd)(F:XFacts K C):KitX K (.ref a) (.ref C) (exq a C) where
 ty:=fun _ _ _ p=>qb1o p
 it:=fun _ _ X _=>by
  intro A' Q' E' s' k q;obtain⟨cd,hd⟩:=hcl;unfold isType loadHead;refine wpAny_bind (wpAny_loadPart (k _ _ (X _ _ l)) ?_);rw [hd];exact wpAny_pure q
 ne:=fun h tp dd its n sl X htp=>by
  refine Bool.eq_false_iff.mpr fun q=>?_;have e:C=tp:=Value.ref.inj (beq_iff_eq.mp q);subst e;have z:=(X _ _ l).symm.trans htp;cases z;obtain⟨cd,hd⟩:=hcl;cases hd
 ca:=fun X p k=>qc7g X p F k
end
end L2
end
namespace L2
open PySem PySem.Spec PyProof.Rows
section
abbrev DSpX:=List L->(RV->Rho->Prop)->(Addr->Prop)->Prop
def spX(K:W.Frag)(ds:DSpX):Sp:=fun vs H Q E=>∃ (c:Rc) (O:Own) (ls:List L) (Qd:RV->Rho->Prop) (Xd:Addr->Prop),c.H0=H/\(∀ p,¬ c.P p)/\(∀ p,c.M p->c.B p)/\(∀ p,c.H0 p=none->c.A p)/\(∀ i,c.lent i=O i)/\Rel K c O (ls.map some) (vs.map some) H/\ds ls Qd Xd /\
 (∀ r O' ρ' σ' v H',Qd r (mask ls ρ')->RetOk K c O' ρ' σ' H' r v->Q v H')/\∀ C O' ρ' σ' H',Xd C->Rel K c O' ρ' σ' H'->E (.ref C) none H'
def AdSx(K:W.Frag)(c:Rc)(t:TS)(dt:TDS):Prop:=∀ (O:Own) (ρ:Rho) (σ:St) (H:Hp) (D:Ends) (Dd:DEnds),Rel K c O ρ σ H->EndsOk K c (live c O) H D Dd->dt Dd ρ->t D σ H
def DSx(X:Cx)(c:Rc)(st:Stmt)(dt:TDS):Prop:=∃ t,PS X st t/\AdSx X.K c t dt
def DSsx(X:Cx)(c:Rc)(st:List Stmt)(dt:TDS):Prop:=∃ t,PSs X st t/\AdSx X.K c t dt
section
variable{X:Cx}{c:Rc}{st:Stmt}{rest:List Stmt}{dt du:TDS}
def PS.nox{t:TS}(h:PS X.nox st t):PS X st t:=fun pins s σ H D I hw =>
 wpAny_mono (h pins s σ H D (I.wish _) hw) (fun _ _ q=>q.unwish) fun _ _ z=>False.elim z
def dsx_of(h:DS X.nox st dt):DSx X c st dt:=by obtain⟨_,p,a⟩:=h;exact⟨_,p.nox,fun O ρ σ H D Dd R E q=>a c O ρ σ H D Dd R E q⟩
def dssx_of{st:List Stmt}(h:DSs X.nox st dt):DSsx X c st dt:=by obtain⟨_,p,a⟩:=h;exact⟨_,p.nox,fun O ρ σ H D Dd R E q=>a c O ρ σ H D Dd R E q⟩
def qb6o(h1:DSx X c st dt)(h2:DSsx X c rest du):DSsx X c (st :: rest) (dSeq dt du):=let ⟨_,p,a⟩:=h1;let ⟨u,p',a'⟩:=h2
 ⟨_,qa1k p p',fun O ρ σ H D Dd R E q=>a O ρ σ H { D with nx:=u D } { Dd with nx:=du Dd } R ⟨fun O1 ρ1 σ1 H1 R1 P1 q1=>a' O1 ρ1 σ1 H1 D Dd R1 (E.later P1) q1,E.rt,E.bk,E.ct,E.mb,E.oa⟩ q⟩
def qd1c(h1:DSx X c st dt):DSsx X c [st] dt:=by obtain⟨_,p,a⟩:=h1;exact⟨_,qa2j p,a⟩
def qd1d:DSsx X c [] dNext:=⟨_,qa5t,fun O ρ σ H D Dd R E h=>E.nx O ρ σ H R .refl h⟩
def dsx_if{e:Expr}{a b:List Stmt}{dtt:TDT}{pos:Pos}(hc:DT X.nox e dtt)(ha:DSsx X c a dt)(hb:DSsx X c b du):DSx X c (.If e a b pos) (dIf dtt dt du):=let ⟨_,p,k⟩:=hc;let ⟨_,p',a'⟩:=ha;let ⟨_,p2,a2⟩:=hb
 ⟨_,qa9v p.nox p' p2,fun O ρ σ H D Dd R E q=>k c O ρ σ H _ _ R q fun b ρ1 O1 H1 h1 R1 P1=>by
  cases b with
  | true=>rw [if_pos rfl] at h1 ⊢;exact a' O1 ρ1 σ H1 D Dd R1 (E.later P1) h1
  | false=>rw [if_neg Bool.false_ne_true] at h1 ⊢;exact a2 O1 ρ1 σ H1 D Dd R1 (E.later P1) h1⟩
def dRaise(Xd:Addr->Prop)(C:Addr):TDS:=fun _ _=>Xd C
def qc7h{E:XK}{C:Addr}{Xd:Addr->Prop}(h:PS X st (tRaise E C))(hE:∀ C O' ρ' σ' H',Xd C->Rel X.K c O' ρ' σ' H'->E (.ref C) none H'):DSx X c st (dRaise Xd C):=⟨_,h,fun O ρ σ H D Dd R _ q=>hE C O ρ σ H q R⟩
theorem qd1e{Xd:Addr->Prop}{C:Addr}{D:DEnds}{ρ:Rho}:dRaise Xd C D ρ=Xd C:=rfl
end
section
variable{P:Program}{w:World}{K:W.Frag}{mg:Str->Option Value}{base:Heap}
def Fun.dokX{x qual:Str}{st:Stmt}{f:Addr}{fd:FuncData}{N ps:List Str}{k:Nat}{ds:DSpX}(F:Fun K x qual st f fd)(S:FnScope N ps (qa0k st))
  (hbody:∀ (cdv:Value) (A:Around) (outer:List Env) (s:Shared) (H:Hp) (E:XK),Room k (A.deeper (envOfC qual (qa0k st) s.heap.objs.size f cdv)) ->
   ∀ (c:Rc) (ls:List L) (Qd:RV->Rho->Prop) (Xd:Addr->Prop),(∀ C O' ρ' σ' H',Xd C->Rel K c O' ρ' σ' H'->E (.ref C) none H')->ds ls Qd Xd->ls.length=ps.length/\∃ dt,DSsx (cxOf (CX1 P w) P w K mg base N qual (qa0k st) f cdv A outer s H E) c (qa2z st) dt/\dt { nx:=fun ρ=>Qd (.d .none) (mask ls ρ),rt:=fun r ρ=>Qd r (mask ls ρ) } (qa8i N ls)) (len:∀ ls Qd Xd,ds ls Qd Xd->ls.length=ps.length):FnOk P w K mg base (CX1 P w) (k + 1) f fd ps (spX K ds):=by
 refine F.okX S (fun vs H Q E h=>?_) (fun cdv A outer s H vs Q E hr h=>?_)
 ·obtain⟨c,O,ls,Qd,Xd,_,_,_,_,_,R,h1,_⟩:=h
  have:=R.len;rw [length_map,length_map] at this;rw [this];exact len ls Qd Xd h1
 ·obtain⟨c,O,ls,Qd,Xd,h0,hP,hM,hA,hL,R,h1,fin,hE⟩:=h
  obtain⟨hl,dt,⟨t,p,a⟩,q⟩:=hbody cdv A outer s H E hr c ls Qd Xd hE h1;have hlv:vs.length=ls.length:=by have:=R.len;rwa [length_map,length_map] at this
  refine⟨t,p,a O (qa8i N ls) (start N vs) H _ { nx:=fun ρ=>Qd (.d .none) (mask ls ρ),rt:=fun r ρ=>Qd r (mask ls ρ) } ?_ ⟨fun O1 ρ1 σ1 H1 R1 _ q1=>?_,fun r O1 ρ1 σ1 H1 v h q1=>?_,fun _ _ _ _ _ _ z=>(show False from z).elim,fun _ _ _ _ _ _ z=>(show False from z).elim,hM,hA⟩ q⟩
  ·unfold qa8i start
   rw [hlv];exact R.more
  ·exact fin (.d .none) O1 ρ1 σ1 .non H1 q1 ⟨R1,qa5y⟩
  ·exact fin r O1 ρ1 σ1 v H1 q1 h
end
end
section
structure XOk(K:W.Frag)(C:Addr):Prop where
 at_:∃ o cd,K.lookup C=some o/\o.data=.cls cd
 fa:XFacts K C
noncomputable def rIsX(K:W.Frag):List V->Hp->VK->Prop:=fun xs H Q=>∃ a C b,H a=some (.ext (exq a C))/\XOk K C/\Q (.bl b) H /\
 ((∃ D,xs=[.ref a,.ref D]/\PySem.W.kitOne K (.ref C) (.ref D)=some b) ∨ (∃ T,xs=[.ref a,.ty T]/\PySem.W.kitOne K (.ref C) (.type T)=some b) ∨
  ∃ (tp:Addr) (ds:List Addr),xs=[.ref a,.ref tp]/\H tp=some (.tup (ds.map V.ref))/\PySem.W.kitAny K (.ref C) (ds.map Value.ref)=some b)
def qb6p:∀ {ds:List Addr} {us:List Value},Vals (ds.map V.ref) us->us=ds.map Value.ref
 | [],_,h=>by cases h;rfl
 | d :: ds,_,h=>by
  cases h with
  | cons r t=>rw [qb6p t,show _=Value.ref d from r];rfl
def qb2z{X:Cx}:qa1z X (.builtin "isinstance") (rIsX X.K):=by
 intro pins s σ H xs us Q I rs h;obtain⟨a,C,b,ha,⟨⟨o,cd,l,hd⟩,F⟩,q,h⟩:=h;have p:exq a C s.heap:=(I.hok a _ ha).1;have Z:PySem.W.KitX X.K (.ref a) (.ref C) (exq a C):=qd1b l ⟨cd,hd⟩ F;have fin:∀ tk,EP X pins σ Q (.bool b) { s with toks:=tk }:=fun tk=>⟨.bl b,H,I.tok _,rfl,q⟩;rcases h with⟨D,rfl,e⟩ | ⟨T,rfl,e⟩ | ⟨tp,ds,rfl,ht,e⟩
 ·obtain⟨u,u2,rfl,r1,r2⟩:=rs.two
  cases r1;cases r2
  exact PySem.W.kia_one Z I.kIn p e 'p' fin
 ·obtain⟨u,u2,rfl,r1,r2⟩:=rs.two
  cases r1;cases r2
  exact PySem.W.kia_one Z I.kIn p e 'p' fin
 ·obtain⟨u,u2,rfl,r1,r2⟩:=rs.two
  cases r1;cases r2
  obtain⟨_,its,rv,⟨ot,e1,⟨hc,hdi⟩,n,hda⟩⟩:=I.hok tp _ ht;have ei:=qb6p rv;subst ei;obtain⟨oc,odi,oda,osl⟩:=ot;cases hc;cases hdi;cases hda;exact PySem.W.kia_tup Z I.kIn p e1 e 'p' fin
section
variable{K:W.Frag}{c:Rc}{O:Own}{ρ:Rho}{σ:St}{H:Hp}
noncomputable def Rc.ask(c:Rc)(O:Own)(H:Hp):Rc:={ H0:=H,S:=fun a=>live c O a ∨ H a=none,P:=fun _=>False,M:=fun _=>False,A:=fun p=>H p=none,B:=fun _=>False,lent:=fun _=>none,sa:=c.sa,ns:=c.ns }
def Rel.ask(R:Rel K c O ρ σ H){ds:List PyData}{vs:List V}(h:qa0c K H (live c O) ds vs):Rel K (c.ask O H) (fun _=>none) ((ds.map L.d).map some) (vs.map some) H:=by
 have hat:∀ (i:Nat) (x:PyData),ds[i]? = some x->∃ v,vs[i]? = some v/\AtD K H (live (c.ask O H) fun _=>none) x v:=fun i x e=>by
  obtain⟨v,e1,e2⟩:=h.get e;exact⟨v,e1,AtD.more (fun a z=>⟨.inl z,fun z=>z,fun i z=>nomatch z⟩) _ _ e2⟩
 have no:∀ (i:Nat) (l:L),((ds.map L.d).map some)[i]? = some (some l)->∃ x,l=.d x/\ds[i]? = some x:=fun i l e=>by
  rw [getElem?_map,getElem?_map] at e;cases q:ds[i]? with
  | none=>rw [q] at e;cases e
  | some x=>rw [q] at e;cases e;exact⟨x,rfl,rfl⟩
 refine⟨fun i x e=>?_,fun i xs e=>?_,fun i xs e=>?_,fun i k e=>?_,fun i e=>?_,(fun i j p e=>nomatch e),(fun i p e=>nomatch e),fun p z=>.inr z,fun p z=>.inr z,fun b o _ e=>e,fun b z=>z,fun p z=>z.elim,fun p z=>z.elim (fun z=>z.elim) fun z=>z.elim,(fun i p e=>nomatch e),R.sc,?_⟩
 ·obtain⟨y,e1,e2⟩:=no i _ e
  cases e1
  obtain⟨v,h1,h2⟩:=hat i x e2;exact⟨v,by rw [getElem?_map,h1];rfl,h2⟩
 ·obtain⟨_,e1,_⟩:=no i _ e;cases e1
 ·obtain⟨_,e1,_⟩:=no i _ e;cases e1
 ·obtain⟨_,e1,_⟩:=no i _ e;cases e1
 ·obtain⟨_,e1,_⟩:=no i _ e;cases e1
 ·rw [length_map,length_map,length_map,h.length]
def spX_ask{sp:DSpX}{ds:List PyData}{vs:List V}{Q:VK}{E:XK}{Qd:RV->Rho->Prop}{Xd:Addr->Prop}(R:Rel K c O ρ σ H)(h:qa0c K H (live c O) ds vs)(hs:sp (ds.map L.d) Qd Xd)
  (hq:∀ r v H' ρ',Qd r ρ'->Same H H'->Q v H') (hx:∀ C H',Xd C->Same H H'->E (.ref C) none H'):spX K sp vs H Q E:=by
 refine⟨c.ask O H,fun _=>none,ds.map L.d,Qd,Xd,rfl,fun p z=>z,fun p z=>z,fun p z=>z,fun _=>rfl,R.ask h,hs,fun r O' ρ' σ' v H' q ro=>hq r v H' _ q ?_,fun C O' ρ' σ' H' q R'=>hx C H' q fun b o e=>R'.same b o (fun z=>z) e⟩;cases r with
 | d x=>exact fun b o e=>ro.1.same b o (fun z=>z) e
 | new xs =>
  obtain⟨p,vs,_,R',_⟩:=ro;exact fun b o e=>R'.same b o (fun z=>z) e
end
end
end L2
section
namespace K46
open PySem L2 Sn
variable{P:Program}{w:World}{K:W.Frag}{mg:Str->Option Value}{base:Heap}{n:Nat}
abbrev FU(K:W.Frag)(x:Str)(st:Stmt)(f:Addr)(fd:FuncData):=Fun K x x st f fd
abbrev FO(P:Program)(w:World)(K:W.Frag)(mg:Str->Option Value)(base:Heap)(n:Nat)(f:Addr)(fd:FuncData)(ps:List Str)(s:DSp):=FnOk P w K mg base CX0 n f fd ps (spD K s)
open Lean in
def dl46 (p : Bool) : MacroM (TSyntaxArray `Lean.Parser.Tactic.simpLemma) := (("↓qd1e fEqL_s ↓itT ↓itF ↓qd0o ↓pStm_a ↓pIf_a ↓pSeq_a ↓pPut_a ↓dExtT_a ↓qc9s ↓qc7c ↓qc8y ↓dOpF_a ↓dIs2_a ↓dSU_a ↓dNeg_a mapC mapN qc8w ownBJ_o ownBJ_b ↓qd0m ↓dGetD_a ↓qd0a ↓diRev_a ↓dExtL_a ↓pass_fd ↓pass_fs flOf_n0 flOf_fd flOf_fs ↓diStr_a asSt_s fLeS_s ↓dSeq_a ↓dNilD_a ↓dInK_a fSlA_t ↓dNext_a ↓dIf_a ↓dDrop_a ↓dRet_a ↓dRetF_a ↓dSet_a ↓dSetF_a ↓dAsg_a ↓dFor_a ↓dVar_a ↓dC_a ↓dOp_a ↓dCB_a ↓dCBF_a ↓dTup_a ↓dLst_a ↓dFz_a ↓dNil_a ↓dCons_a ↓dB_a ↓dTru_a ↓dAnd_a ↓dOr_a ↓dNot_a ↓dIfE_a ↓dAndV_a ↓dOrV_a ↓dNotV_a ↓qc8x ↓dIs_a ↓qc6g ↓dPop_a ↓qc8z ↓dgTup_a ↓qc9a ↓diDat_a ↓qc9b ↓qc9c ↓pass_n ↓pass_t ↓fz_d ↓fz_sl ↓fzL_d ↓fzL_sl ↓fzs_n ↓fzs_c ↓dComp_a ↓dSl_a ↓qc9p ↓qc9q ↓dTab_a fTab_s asT_t flatD_s flatD_i inF_nil List.all_cons List.all_nil three_a ownB_j okL_o okL_b asI2_i asI_i ioJ_o ioJ_b ioJ_t fzJ_d fzJ_o fzLJ_d fzLJ_o fzLJ_s flOf_t fills_n fills_c qc9d qc9e qc9f qc9g qc9h qc9i relab_o relab_b relab_t lend_o lend_b lend_t lend_d lend_s flC_n flC_c capR_a deref_d qc9j qc9k qc9l qc9m qc9n qc9o asB_b tru_b tru_n tru_i tru_l tru_t seqD_l seqD_t mask_n mask_d mask_s mask_t mask_b qa2l qc5z fAdd_i fSub_i fCmp_i fLen_l fLen_t qc8u qc8v fList_l fList_t fIx_l fIx_t List.getElem?_cons_zero List.getElem?_cons_succ List.getElem?_nil List.set_cons_zero List.set_cons_succ Option.join_some Option.join_none Option.bind_some Option.bind_none Option.map_some Option.map_none Option.isSome_some List.length_cons List.length_nil List.cons_append List.nil_append qa8i Nat.reduceAdd Nat.reduceSub Bool.not_true Bool.not_false" ++ (if p then " ↓dgNil_a ↓pass_f atI_0 atI_1 atI_2 atI_3 atI_4 fIn_f fIn_fl inF_s inF_i Bool.and_self Bool.and_true Bool.or_false Bool.or_true Bool.true_or Bool.false_or flOf_n flOf_f qc8r qc8s qc6f List.map_cons List.map_nil List.replicate if_true if_false Bool.false_eq_true true_and and_true List.nodup_cons List.nodup_nil List.not_mem_nil not_false_eq_true List.mem_cons Nat.reduceLeDiff Nat.reduceLT reduceCtorEq Nat.zero_add Nat.reduceEqDiff false_or or_false" else "")).splitOn " ").toArray.mapM fun s => if s.startsWith "↓" then `(Parser.Tactic.simpLemma| ↓$(mkIdent (s.drop 1).toName):ident) else `(Parser.Tactic.simpLemma| $(mkIdent s.toName):ident)
local macro_rules | `(tactic| walk_at "p1") => do let a ← dl46 true; `(tactic| simp only [$[$a:simpLemma],*])
local macro_rules | `(tactic| walk_at "d1") => do let a ← dl46 false; `(tactic| first | dsimp only [$[$a:simpLemma],*] | walk_at "p1")
local macro_rules | `(tactic| lia) => `(tactic| (repeat first | (with_reducible refine qc2c ?_) | walk_at "d1"))
local macro_rules | `(tactic| walk_at "k1") => do let a ← dl46 true; `(tactic| simp +decide only [$[$a:simpLemma],*])
local macro_rules | `(tactic| walk_at "dk") => `(tactic| (repeat first | (with_reducible refine qc2c ?_) | walk_at "k1"))
local macro_rules | `(term| 's') => `((qa0o qa0l qa0p (dv 1) qa0d 'b'))
local macro_rules | `(term| 't') => `((qa0o qa0l qa0p (dv 0) qa0d 'b'))
local macro_rules | `(term| 'u') => `((qa0a qa0d qa0b))
local macro_rules | `(term| 'v') => `((qa0a (dv 2) qa0b))
local macro_rules | `(term| 'w') => `((qa0j (qa0q qa2u)))
local macro_rules | `(term| 'x') => `((fun ls Qd hq8=>by obtain⟨_,_,_,e,_⟩:=hq8;rw [e];rfl))
local macro_rules | `(term| 'y') => `((qa0a (dv 0) qa0b))
local macro_rules | `(term| 'z') => `((qa0a qa0n (qa0a qa0n (qa0a qa0n qa0b))))
local macro_rules | `(term| 'A') => `((fun _ _ _=>qa3h))
local macro_rules | `(term| 'B') => `((qa0a (qa3n qa5f qa5k (dv 0) (qa4i qa0d) qa4h) (qa0a (dv 1) qa0b)))
local macro_rules | `(term| 'C') => `((qa0a 's' qa0b))
local macro_rules | `(term| 'D') => `((qa0a (dv 0) 'u'))
noncomputable def top(i:Nat):Stmt:=PySem.Challenge.pw_worldsay_k46_changes_refused.main.body.getD i (.Pass ⟨0,0,0,0⟩)
structure Bl(mg:Str->Option Value):Prop where
 len_:mg "len" = none
 range_:mg "range" = none
 tuple_:mg "tuple" = none
 bool_:mg "bool" = none
 isinstance_:mg "isinstance" = none
 reversed_:mg "reversed" = none
 max_:mg "max" = none
 zip_:mg "zip" = none
 list_:mg "list" = none
 str_:mg "str" = none
 enumerate_:mg "enumerate" = none
 dict_:mg "dict" = none
 sum_:mg "sum" = none
 int_:mg "int" = none
 min_:mg "min" = none
 sorted_:mg "sorted" = none
 all_:mg "all" = none
 set_:mg "set" = none
 repr_:mg "repr" = none
def spCell(K:W.Frag):Sp:=fun vs H Q _=>∃ (v:Addr) (ns:List Int) (k:Int),vs=[.ref v,.int k]/\SqL K H v (ns.map V.int)/\0 <= k/\∀ c:Int,(ns=[]->c=0)->Q (.int c) H
def spBy(K:W.Frag):Sp:=fun vs H Q _=>∃ (v:Addr) (ns:List Int) (k many:Int),vs=[.ref v,.int k,.int many]/\SqL K H v (ns.map V.int)/\ns.length <= 63/\0 <= k/\k <= 1000000/\0 < many/\∀ r:Int,0 <= r->r < many->Q (.int r) H
def spNext:DSp:=fun ls Q=>∃ (k:Nat) (many:Int),ls=[.tape k,.d (.int many)]/\0 < many/\k < 1000000/\∀ r:Int,0 <= r->r < many->Q (.d (.int r)) [some (.tape (k + 1)),none]
abbrev qa3s:Stmt:=top 31
def qb5e:FnScope ["_law_script","_law_k"] ["_law_script","_law_k"] (qa0k qa3s):='a'
def qc4m{f:Addr}{fd:FuncData} (F:FU K "_law_cell_at" qa3s f fd) (B:Bl mg):FnOk P w K mg base CX0 1 f fd ["_law_script","_law_k"] (spCell K):=by
 refine F.ok qb5e (fun vs H Q E h=>?_) (fun cdv A outer s H vs Q E hr h=>?_)
 ·obtain⟨v,ns,k,rfl,_⟩:=h
  rfl
 obtain⟨v,ns,k,rfl,hv,hk,q⟩:=h;refine⟨_,(qa1k (qa9v (qb1t op_gt (qa3k qa5g rfl B.len_ qa2r (qa0s (pv 0) qa1s)) qa1y (qa0x _))
  (qa2j (qa6w (pe_ix qa9i (pv 0) (qa2t qa9g (pv 1) (qa3k qa5g rfl B.len_ qa2r (qa0s (pv 0) qa1s))) 'b')))
  qa5t)
  (qa2j (qa6w qa1y))),?_⟩
 have hl:(ns.map V.int).length=ns.length:=length_map _;refine⟨_,rfl,v,_,rfl,.inl hv,_,_,rfl,rfl,_,rfl,?_⟩;rw [hl];refine ite2 (fun c=>?_) (fun c=>?_)
 ·have c':(0:Int) < (ns.length:Int):=of_decide_eq_true c
  refine⟨_,rfl,_,rfl,_,rfl,v,_,rfl,.inl hv,_,_,rfl,rfl,?_,?_⟩
  ·rw [hl];exact c'
  ·rw [hl]
   have m0:0 <= k % (ns.length:Int):=emod_nonneg _ 'o';have m1:k % (ns.length:Int) < (ns.length:Int):=Int.emod_lt_of_pos _ c';obtain⟨d,e1,e2,_⟩:=atI_in (xs:=ns.map V.int) m0 (by rw [hl];exact m1);obtain⟨n,_,rfl⟩:=mem_map.mp e2;exact⟨v,_,_,_,rfl,rfl,hv,e1,q n fun e=>by rw [e] at c';exact absurd c' 'd'⟩
 ·exact q 0 fun _=>rfl
abbrev qb0l:Stmt:=top 32
def qa7b:FnScope ["_law_script","_law_k","_law_many","_law_cell","_law_part","_law_seed"] ["_law_script","_law_k","_law_many"] (qa0k qb0l):='a'
def ok_by{f f1:Addr}{fd fd1:FuncData} (F:FU K "_law_by" qb0l f fd) (B:Bl mg) (qa3a:Def K mg "_law_cell_at" qa3s ["_law_script","_law_k"] f1 fd1):FnOk P w K mg base CX0 2 f fd ["_law_script","_law_k","_law_many"] (spBy K):=by
 have qb6t:FnOk P w K mg base CX0 1 f1 fd1 ["_law_script","_law_k"] (spCell K):=qc4m qa3a.fn B;refine F.ok qa7b (fun vs H Q E h=>?_) (fun cdv A outer s H vs Q E hr h=>?_)
 ·obtain⟨v,ns,k,many,rfl,_⟩:=h
  rfl
 obtain⟨v,ns,k,many,rfl,hv,hl,hk,hk2,hm,q⟩:=h;refine⟨_,(qa1k (qa3c (i:=3) qa7b.nd rfl 'f' (qb2r qa3a qb6t hr rfl (qa0s (pv 0) (qa0s (pv 1) qa1s))))
  (qa1k (qa3c (i:=4) qa7b.nd rfl 'f' qa1y)
  (qa1k (qa9v (qb1t op_ge (pv 3) (qa2t op_pow qa1y qa1y) (qa0x _))
  (qa2j (qa3c (i:=4) qa7b.nd rfl 'f' (qa2t op_shr (pv 3) (qa2t qb0u qa1y (qa2t op_fdiv (pv 1) (qa3k qa5g rfl B.len_ qa2r (qa0s (pv 0) qa1s)))))))
  qa5t)
  (qa1k (qa9v (qb1t op_gt (pv 4) qa1y (qa0x _))
  (qa2j (qa6w (qa2t qa9g (pv 4) (pv 2))))
  qa5t)
  (qa1k (qa3c (i:=5) qa7b.nd rfl 'f' (qa2t qb3e (qa2t qb3e (qa2t qa9g (pv 3) qa1y) (qa2t qb0u (qa2t qb0u qa1y (pv 1)) (pv 1))) qa1y))
  (qa2j (qa6w (qa2t qa9g (qa2t qa9g (qa2t qb0u (qa2t qa9g (qa2t qb0u (pv 5) qa1y) qa1y) qa1y) qa1y) (pv 2))))))))),?_⟩
 have hln:(ns.map V.int).length=ns.length:=length_map _;refine⟨_,rfl,_,rfl,v,ns,k,rfl,hv,hk,fun c hc=>?_⟩;have e64:(2:Int) ^ 64=18446744073709551616:=by decide
 refine⟨_,rfl,_,_,rfl,rfl,⟨'d','d','d'⟩,_,_,rfl,rfl,_,rfl,?_⟩;refine ite2 (fun c1=>?_) (fun c1=>?_)
 ·have c1':(10:Int) ^ (18:Int).toNat <= c:=of_decide_eq_true c1
  have hne:0 < ns.length:=by
   cases ns with
   | nil=>rw [hc rfl] at c1';exact absurd c1' 'd'
   | cons _ _=>exact Nat.succ_pos _
  have hd0:0 <= k / (ns.length:Int):=Int.ediv_nonneg hk 'o';refine⟨_,rfl,_,rfl,_,rfl,v,_,rfl,.inl hv,_,_,rfl,rfl,?_,_,_,rfl,rfl,.inl ⟨'d','d'⟩,_,_,rfl,rfl,?_,?_⟩
  ·rw [hln];exact⟨'o','o'⟩
  ·rw [hln];show(0:Int) <= 20 * (k / (ns.length:Int));omega
  refine⟨_,rfl,_,_,rfl,rfl,_,rfl,?_⟩;refine ite2 (fun c2=>?_) (fun c2=>?_)
  ·exact⟨_,rfl,_,rfl,_,_,rfl,rfl,hm,q _ (emod_nonneg _ 'o') (Int.emod_lt_of_pos _ hm)⟩
  ·refine⟨_,rfl,_,_,rfl,rfl,(by show(0:Int) < 1000003;decide),_,rfl,_,_,rfl,rfl,.inl ⟨'d','d'⟩,_,rfl,_,_,rfl,rfl,.inr ⟨'o','o'⟩,_,_,rfl,rfl,_,_,rfl,rfl,?_⟩
   refine⟨_,rfl,_,_,rfl,rfl,.inr ⟨'d','d'⟩,_,_,rfl,rfl,(by show(0:Int) < 999983;decide),_,_,rfl,rfl,.inr ⟨'d','d'⟩,_,_,rfl,rfl,(by show(0:Int) < 524287;decide),_,rfl,_,_,rfl,rfl,hm,?_⟩;exact q _ (emod_nonneg _ 'o') (Int.emod_lt_of_pos _ hm)
 ·refine⟨_,rfl,_,_,rfl,rfl,_,rfl,?_⟩
  refine ite2 (fun c2=>?_) (fun c2=>?_)
  ·exact⟨_,rfl,_,rfl,_,_,rfl,rfl,hm,q _ (emod_nonneg _ 'o') (Int.emod_lt_of_pos _ hm)⟩
  ·refine⟨_,rfl,_,_,rfl,rfl,(by show(0:Int) < 1000003;decide),_,rfl,_,_,rfl,rfl,.inl ⟨'d','d'⟩,_,rfl,_,_,rfl,rfl,.inr ⟨'o','o'⟩,_,_,rfl,rfl,_,_,rfl,rfl,?_⟩
   refine⟨_,rfl,_,_,rfl,rfl,.inr ⟨'d','d'⟩,_,_,rfl,rfl,(by show(0:Int) < 999983;decide),_,_,rfl,rfl,.inr ⟨'d','d'⟩,_,_,rfl,rfl,(by show(0:Int) < 524287;decide),_,rfl,_,_,rfl,rfl,hm,?_⟩;exact q _ (emod_nonneg _ 'o') (Int.emod_lt_of_pos _ hm)
abbrev qa7m:Stmt:=top 33
def qc0q:FnScope ["_law_tape","_law_many"] ["_law_tape","_law_many"] (qa0k qa7m):='a'
def ok_next{f f1 f2:Addr}{fd fd1 fd2:FuncData} (F:FU K "_law_next" qa7m f fd) (B:Bl mg) (qa3a:Def K mg "_law_cell_at" qa3s ["_law_script","_law_k"] f1 fd1)
  (qb0m:Def K mg "_law_by" qb0l ["_law_script","_law_k","_law_many"] f2 fd2):FO P w K mg base 3 f fd ["_law_tape","_law_many"] spNext:=by
 have qd1f:FnOk P w K mg base CX0 2 f2 fd2 ["_law_script","_law_k","_law_many"] (spBy K):=ok_by qb0m.fn B qa3a;refine F.ok qc0q (fun vs H Q E h=>?_) (fun cdv A outer s H vs Q E hr h=>?_)
 ·obtain⟨c,O,ls,Qd,_,_,_,_,_,R,⟨k,many,rfl,_⟩,_⟩:=h
  have:=R.len;rw [length_map] at this;exact this
 obtain⟨c,O,ls,Qd,_,_,_,_,_,R,⟨k,many,rfl,hm,hk2,q⟩,fin⟩:=h;obtain⟨t,hO,hσ0,ht⟩:=R.tap 0 k rfl;obtain⟨v1,hσ1,a1⟩:=R.dat 1 _ rfl;have e1:=qa8d a1;subst e1;have hvs:vs=[.ref t,.int many]:=by
  have hl:=R.len;rw [length_map] at hl
  match vs,hl with
  | [x,y],_ =>
   have e0:x=.ref t:=by simpa using hσ0
   have e1:y=.int many:=by simpa using hσ1
   rw [e0,e1]
 subst hvs;have hs:=R.sc;have hl:c.ns.length <= 63:=by simpa using hs.1
 refine⟨_,(qa1k (ps_asg (qa2t qb3e (pe_ix qa9i (pv 0) qa1y 'b') qa1y) (pg_sub (pv 0) qa1y set_list))
  (qa2j (qa6w (qb2r qb0m qd1f hr rfl (qa0s (pe_ix qa9i (pv 0) qa1y 'b') (qa0s (pe_ix qa9i (pv 0) qa1y 'b') (qa0s (pv 1) qa1s))))))),?_⟩
 have ht':(upd H t (.lst ([V.ref c.sa,V.int k].set 1 (.int ((k:Int) + 1))))) t=some (.lst [.ref c.sa,.int ((k:Int) + 1)]):=qa0h;obtain⟨R2,P2⟩:=R.write (l:=.tape (k + 1)) (xs:=[]) (vs':=[.ref c.sa,.int ((k + 1:Nat):Int)]) hO ht (.inr (.inr ⟨k,rfl⟩)) (.inr (.inr ⟨k,k + 1,rfl,rfl,rfl⟩));have ek:((k + 1:Nat):Int)=(k:Int) + 1:=by omega
 rw [ek] at R2;refine⟨_,rfl,t,_,1,_,rfl,rfl,SqL.of ht,rfl,_,_,rfl,rfl,_,rfl,t,_,1,1,rfl,rfl,ht,rfl,?_⟩;refine⟨_,rfl,t,_,0,_,rfl,rfl,SqL.of ht',rfl,_,rfl,t,_,1,_,rfl,rfl,SqL.of ht',rfl,_,rfl,?_⟩;refine⟨_,c.ns,_,_,rfl,R2.sc.seq,hl,'o','o',hm,fun r h0 h1=>?_⟩;exact fin (.d (.int r)) O [some (.tape (k + 1)),some (.d (.int many))] _ _ _ (q r h0 h1) ⟨R2,qa2k r⟩
abbrev GNext(P:Program)(w:World)(K:W.Frag)(mg:Str->Option Value)(base:Heap)(n:Nat)(f:Addr)(fd:FuncData):Prop:=FO P w K mg base n f fd ["_law_tape","_law_many"] spNext
abbrev DNext(K:W.Frag)(mg:Str->Option Value)(f:Addr)(fd:FuncData):Prop:=Def K mg "_law_next" qa7m ["_law_tape","_law_many"] f fd
def rngI{m:Nat}{a:Nat}{u:PyData}(h:(rngD 0 m)[a]? = some u):a < m/\u=.int (a:Int):=by
 have ha:a < m:=by
  have:=(List.getElem?_eq_some_iff.mp h).1;simpa [rngD] using this
 refine⟨ha,?_⟩;simp only [rngD,getElem?_map,List.getElem?_range ha,map_some] at h;have:=(Option.some.inj h).symm;rw [this];congr 1;omega
def qa5e{m:Nat}:(rngD 0 m).length=m:=by simp [rngD]
def InR(m:Nat)(ns:List Int):Prop:=(∀ x ∈ ns,0 <= x/\x < (m:Int))/\ns.length <= m/\ns.Pairwise (· < ·)
noncomputable def pt(ls:List Int)(v:Int):List Int:=((List.range ls.length).filter fun p=>decide (ls.getD p 0=v)).map fun p:Nat=>(p:Int)
def pt_in(ls:List Int)(v:Int):InR ls.length (pt ls v):=by
 unfold pt;refine⟨fun x hx=>?_,?_,?_⟩
 ·obtain⟨p,hp,rfl⟩:=mem_map.mp hx
  have:=mem_range.mp (mem_filter.mp hp).1;omega
 ·rw [length_map]
  exact le_trans (List.length_filter_le ..) (by rw [length_range];exact le_refl _)
 ·exact pairwise_map.mpr ((pairwise_lt_range.filter _).imp fun h=>by omega)
def pt_mem{ls:List Int}{p:Nat}(h:p < ls.length):(p:Int) ∈ pt ls (ls.getD p 0):=by
 unfold pt;exact mem_map.mpr ⟨p,mem_filter.mpr ⟨mem_range.mpr h,by simp⟩,rfl⟩
def pt_ne{ls:List Int}{v:Int}(h:v ∈ ls):pt ls v ≠ []:=by
 obtain⟨i,hi,e⟩:=getElem_of_mem h;have hm:=pt_mem hi;have e2:ls.getD i 0=v:=by rw [getD_eq_getElem?_getD,getElem?_eq_getElem hi];exact e
 rw [e2] at hm;exact List.ne_nil_of_mem hm
structure Parts(m:Nat)(tss:List 'h'):Prop where
 ne:∀ t ∈ tss,t ≠ []
 inr:∀ t ∈ tss,InR m t
 len:tss.length <= m
 cov:∀ p:Nat,p < m->∃ t ∈ tss,(p:Int) ∈ t
 srt:Sx.srtT tss=tss
 nd:tss.flatten.Nodup
def qa7y{ls:List Int}{v x:Int}(h:x ∈ pt ls v):ls.getD x.toNat 0=v:=by
 unfold pt at h;obtain⟨p,hp,rfl⟩:=mem_map.mp h;simpa using (mem_filter.mp hp).2
def pts_nd{ls vs:List Int}(h:vs.Nodup):((vs.map (pt ls)).flatten).Nodup:=by
 refine List.pairwise_flatten.mpr ⟨fun l hl=>?_,pairwise_map.mpr (h.imp fun hne x hx y hy e=>?_)⟩
 ·obtain⟨v,_,rfl⟩:=mem_map.mp hl
  exact(pt_in ls v).2.2.imp fun h=>Int.ne_of_lt h
 ·subst e
  exact hne ((qa7y hx).symm.trans (qa7y hy))
def qc7i(a:List 'h'):Sx.srtT (Sx.srtT a)=Sx.srtT a:=(Sx.qb1z (List.Perm.refl _) (Sx.qc2o a)).symm
def qd1g{ls:List Int}{tss:List 'h'}(h0:tss=Sx.srtT ((Sx.srtI (Sx.uniq ls)).map (pt ls))):Parts ls.length tss:=by
 have h:tss.Perm ((Sx.srtI (Sx.uniq ls)).map (pt ls)):=by rw [h0];exact Sx.qb6k _
 have mem:∀ v,v ∈ Sx.srtI (Sx.uniq ls) ↔ v ∈ ls:=fun v=>(Sx.qa3d _).mem_iff.trans Sx.qb2n;refine⟨fun t ht=>?_,fun t ht=>?_,?_,fun p hp=>?_,by rw [h0];exact qc7i _,h.flatten.nodup_iff.mpr (pts_nd ((Sx.qa3d _).nodup_iff.mpr (Sx.qa9w ls)))⟩
 ·obtain⟨v,hv,rfl⟩:=mem_map.mp (h.mem_iff.mp ht)
  exact pt_ne ((mem v).mp hv)
 ·obtain⟨v,hv,rfl⟩:=mem_map.mp (h.mem_iff.mp ht)
  exact pt_in ls v
 ·rw [h.length_eq,length_map,(Sx.qa3d _).length_eq]
  exact Sx.qb1u ls
 ·refine⟨pt ls (ls.getD p 0),h.mem_iff.mpr (mem_map.mpr ⟨_,(mem _).mpr ?_,rfl⟩),pt_mem hp⟩
  rw [getD_eq_getElem?_getD,getElem?_eq_getElem hp];exact getElem_mem hp
def pt_map{ls:List Int}{v:Int}:(rngD 0 ls.length).filterMap (fun x=>match x with | .int p=>if ls.getD p.toNat 0=v then some (PyData.int p) else none | _=>none)=(pt ls v).map .int:=by
 unfold pt rngD;generalize List.range ls.length=r;induction r with
 | nil=>rfl
 | cons p r ih =>
  rw [map_cons,filterMap_cons];have e:(0 + (p:Int)).toNat=p:=by omega
  have e2:(0 + (p:Int))=(p:Int):=by omega
  simp only [e2,toNat_natCast];rw [List.filter_cons];by_cases c:ls.getD p 0=v
  ·rw [if_pos c,if_pos (by simpa using c),map_cons,map_cons,← ih]
  ·rw [if_neg c,if_neg (by simpa using c),← ih]
def qb4e:DSp:=fun ls Q=>∃ (k m:Nat) (few:Int),ls=[.tape k,.d (.int (m:Int)),.d (.int few)]/\0 < few/\m <= 20/\k + m < 900000/\∀ (ns:List Int) (k':Nat),k' <= k + m->InR m ns->Q (.d (encT ns)) [some (.tape k'),none,none]
def qb5f:DSp:=fun ls Q=>∃ (k m:Nat),ls=[.tape k,.d (.int (m:Int))]/\m <= 20/\k + m + 1 < 900000/\∀ (tss:List 'h') (k':Nat),k' <= k + m + 1->Parts m tss->Q (.d (.tuple (tss.map encT))) [some (.tape k'),none]
abbrev qa5l:Stmt:=top 34
def qc0r:FnScope ["_law_tape","_law_many","_law_few"] ["_law_tape","_law_many","_law_few"] (qa0k qa5l):='a'
def ok_some{f f1:Addr}{fd fd1:FuncData} (F:FU K "_law_some" qa5l f fd) (B:Bl mg) (qa0r:DNext K mg f1 fd1) (qa0w:GNext P w K mg base n f1 fd1):FO P w K mg base (n + 1) f fd ["_law_tape","_law_many","_law_few"] qb4e:=by
 refine F.dok qc0r (fun cdv A outer s H E hr ls Qd h=>?_) 'x';obtain⟨k,m,few,rfl,hf,hm,hk,q⟩:=h;refine⟨rfl,?_⟩;refine⟨_,(qa0j (qa0q (qa1m qa0u qa2a rfl B.tuple_ qa1i (qa0a (qa1c (qa2c ["_law_p"] [("_law_tape",0),("_law_few",2)] rfl (by rfl) 'k' (qa4z rfl B.range_ (dv 1)) (fun _ _ _=>(qa1b (i:=0) (show(["_law_p","_law_tape","_law_few"]:List Str).Nodup by decide +kernel) rfl 'f')) (fun _ _ _=>(qa5a (qa1d (qa2n hr.units) qa2m (qa0i [true,false] qa0r qa0w hr rfl (qa0a (dv 1) 'v')) qa0d (qa0x _)))) (fun _ _ _=>(dv 0)))) qa0b)))),?_⟩;lia;refine⟨⟨'o','o'⟩,?_⟩;rw [show((m:Int)).toNat=m by omega];refine⟨by rw [qa5e];omega,?_⟩;refine qa8j (fun i ρ acc=>∃ (v0:Option L) (k':Nat) (ns:List Int),ρ=[v0,some (.tape k'),some (.d (.int few))]/\acc=ns.map .int/\ns.length <= i/\((∀ x ∈ ns,0 <= x/\x < (i:Int))/\ns.Pairwise (· < ·))/\k' <= k + i/\i <= m) ⟨none,k,[],rfl,rfl,by simp,⟨fun x hx=>by simp at hx,List.Pairwise.nil⟩,'o','o'⟩ ?_ ?_
 ·rintro i x ρ acc N hx ⟨v0,k',ns,rfl,rfl,hl,⟨hb,hup⟩,hk',hi⟩ hN
  obtain⟨hi2,rfl⟩:=rngI hx;lia;refine⟨k',few,rfl,hf,'o',fun r h0 h1=>?_⟩;lia;refine qa1n (fun c=>?_) (fun c=>?_)
  ·lia
   refine hN _ _ ⟨_,k' + 1,ns ++ [(i:Int)],rfl,by simp,by simp;omega,⟨fun x hx=>?_,?_⟩,'o','o'⟩
   ·rcases mem_append.mp hx with h | h
    ·have:=hb x h;omega
    ·rw [mem_singleton.mp h];omega
   ·refine List.pairwise_append.mpr ⟨hup,pairwise_singleton _ _,fun a ha b hb2=>?_⟩
    rw [mem_singleton.mp hb2];exact(hb a ha).2
  ·exact hN _ _ ⟨_,k' + 1,ns,rfl,rfl,'o',⟨fun x hx=>by have:=hb x hx;omega,hup⟩,'o','o'⟩
 ·rintro ρ acc ⟨v0,k',ns,rfl,rfl,hl,⟨hb,hup⟩,hk',hi⟩
  rw [qa5e] at hl hk' hb;lia;exact q _ _ 'o' ⟨hb,hl,hup⟩
abbrev qa6n:Stmt:=top 35
def qa8n:FnScope ["_law_tape","_law_many","_law_kinds","_law_labels"] ["_law_tape","_law_many"] (qa0k qa6n):='a'
def qd1h{f f1:Addr}{fd fd1:FuncData} (F:FU K "_law_parts" qa6n f fd) (B:Bl mg) (qa0r:DNext K mg f1 fd1) (qa0w:GNext P w K mg base n f1 fd1):FO P w K mg base (n + 1) f fd ["_law_tape","_law_many"] qb5f:=by
 refine F.dok qa8n (fun cdv A outer s H E hr ls Qd h=>?_) 'l';obtain⟨k,m,rfl,hm,hk,q⟩:=h;refine⟨rfl,?_⟩;refine⟨_,(qa0g (qa1l (i:=2) qa8n.nd rfl (Or.inr rfl) (qa6k qa2v qa4l qa0d (qa0i [true,false] qa0r qa0w hr rfl 'D')))
  (qa0g (qa1l (i:=3) qa8n.nd rfl (Or.inr rfl) (qa1c (qa2c ["_law_p"] [("_law_tape",0),("_law_kinds",2)] rfl (by rfl) 'k' (qa4z rfl B.range_ (dv 1)) (fun _ _ _=>(qa1b (i:=0) (show(["_law_p","_law_tape","_law_kinds"]:List Str).Nodup by decide +kernel) rfl 'f')) 'A' (fun _ _ _=>(qa0i [true,false] qa0r qa0w hr rfl (qa0a (dv 1) 'v'))))))
  (qa0j (qa0q (qa1m qa0u qa2a rfl B.tuple_ qa1i (qa0a (qa1f qb1m qc2q rfl B.sorted_ qa5c (qa0a (qa1c (qa2c ["_law_one"] [("_law_many",1),("_law_labels",3)] rfl (by rfl) 'k' (qa2f (qc2i rfl rfl B.set_ rfl B.sorted_ (qa0a (dv 3) qa0b))) (fun _ _ _=>(qa1b (i:=0) (show(["_law_one","_law_many","_law_labels"]:List Str).Nodup by decide +kernel) rfl (Or.inr rfl))) 'A' (fun _ _ _=>(qa1m qa0u qa2a rfl B.tuple_ qa1i (qa0a (qa1c (qa2c ["_law_p"] [("_law_labels",2),("_law_one",0)] rfl (by rfl) 'k' (qa4z rfl B.range_ (dv 1)) (fun _ _ _=>(qa1b (i:=0) (show(["_law_p","_law_labels","_law_one"]:List Str).Nodup by decide +kernel) rfl 'f')) (fun _ _ _=>(qa5a (qa1d (qa2n hr.units) qa2m (qa0o qa0l qa0p (dv 1) (dv 0) 'b') (dv 2) (qa0x _)))) (fun _ _ _=>(dv 0)))) qa0b))))) qa0b)) qa0b)))))),?_⟩
 lia;refine⟨k,4,rfl,'d','o',fun r h0 h1=>?_⟩;lia;refine⟨⟨'o','o'⟩,?_⟩;rw [show((m:Int)).toNat=m by omega];refine⟨by rw [qa5e];omega,?_⟩;refine qa8j (fun i ρ acc=>∃ (v0:Option L) (k':Nat) (ns:List Int),ρ=[v0,some (.tape k'),some (.d (.int (1 + r)))]/\acc=ns.map .int/\ns.length=i/\k' <= k + 1 + i/\i <= m) ⟨none,k + 1,[],rfl,rfl,by simp,'o','o'⟩ ?_ ?_
 ·rintro i x ρ acc N hx ⟨v0,k',ns,rfl,rfl,hl,hk',hi⟩ hN
  obtain⟨hi2,rfl⟩:=rngI hx;lia;refine⟨k',1 + r,rfl,'o','o',fun r2 h2 h3=>?_⟩;lia;exact hN _ _ ⟨_,k' + 1,ns ++ [r2],rfl,by simp,by simp;omega,'o','o'⟩
 ·rintro ρ acc ⟨v0,k',ls,rfl,rfl,hl,hk',hi⟩
  rw [qa5e] at hl hk';subst hl;lia;have hu:=Sx.qb1u ls;rw [fSetI_l 'o',qa2l];lia;refine⟨by rw [length_map,(Sx.qa3d _).length_eq];omega,?_⟩;refine L2.qa2g (fun ρ=>∃ v0:Option L,ρ=[v0,some (.d (.int (ls.length:Int))),some (.d (.list (ls.map .int)))]) (fun x=>match x with | .int v=>some (encT (pt ls v)) | _=>none) ⟨_,rfl⟩ ?_ ?_
  ·rintro x ρ N hx ⟨v0,rfl⟩ hN
   obtain⟨v,hv,rfl⟩:=mem_map.mp hx;lia;refine⟨⟨'o','o'⟩,?_⟩;rw [show((ls.length:Int)).toNat=ls.length by omega];refine⟨by rw [qa5e];omega,?_⟩;refine L2.qa2g (fun ρ=>∃ v0:Option L,ρ=[v0,some (.d (.list (ls.map .int))),some (.d (.int v))]) (fun x=>match x with | .int p=>if ls.getD p.toNat 0=v then some (PyData.int p) else none | _=>none) ⟨_,rfl⟩ ?_ ?_
   ·rintro y ρ N2 hy ⟨v0,rfl⟩ hN2
    obtain⟨a,ha⟩:=List.getElem?_of_mem hy;obtain⟨ha2,rfl⟩:=rngI ha;lia;refine qa5b 'o' (by rw [length_map];omega) fun d hd hdi=>?_;rw [show((a:Int)).toNat=a by omega,getElem?_map,getElem?_eq_getElem ha2] at hdi;cases hdi;lia;have eg:ls.getD a 0=ls[a]:=by rw [getD_eq_getElem?_getD,getElem?_eq_getElem ha2];rfl
    simp only [toNat_natCast,eg] at hN2;refine qa1n (fun c=>?_) (fun c=>?_)
    ·lia
     simp only [if_pos c] at hN2;exact hN2 _ ⟨_,rfl⟩
    ·simp only [if_neg c] at hN2
     exact hN2 _ ⟨_,rfl⟩
   ·rintro ρ ⟨v0,rfl⟩
    rw [pt_map];lia;exact hN _ ⟨_,rfl⟩
  ·rintro ρ _
   have ef:((Sx.srtI (Sx.uniq ls)).map PyData.int).filterMap (fun x=>match x with | .int v=>some (encT (pt ls v)) | _=>none)=((Sx.srtI (Sx.uniq ls)).map (pt ls)).map encT:=by
    rw [List.filterMap_map,map_map];exact congrFun (List.filterMap_eq_map (f:=fun v=>encT (pt ls v))) _
   rw [ef];rw [qb8o (fun t ht=>?_) ?_,qa2l]
   ·lia
    exact q _ _ 'o' (qd1g rfl)
   ·rw [length_map,(Sx.qa3d _).length_eq];omega
   ·obtain⟨v,hv,rfl⟩:=mem_map.mp ht
    exact pt_ne (Sx.qb2n.mp ((Sx.qa3d _).mem_iff.mp hv))
structure Wd where
 many:Nat
 facts:List (Str × List Int)
 moves:List 'h'
 sights:List (Str × List 'h')
abbrev encF(f:Str × List Int):PyData:=.tuple [.str f.1,encT f.2]
abbrev encS(s:Str × List 'h'):PyData:=.tuple [.str s.1,.tuple (s.2.map encT)]
abbrev Wd.enc(W:Wd):PyData:=.tuple [.tuple (W.facts.map encF),.tuple (W.moves.map encT),.tuple (W.sights.map encS)]
structure Good(W:Wd):Prop where
 m1:1 <= W.many
 m2:W.many <= 9
 mv:W.moves.length=W.many
 mr:∀ t ∈ W.moves,InR W.many t
 fn:(W.facts.map (·.1)).Sublist (["p","pq","q"]:List Str)
 fr:∀ f ∈ W.facts,InR W.many f.2
 sn:(W.sights.map (·.1)).Sublist (["a","ab","b"]:List Str)
 sr:∀ s ∈ W.sights,Parts W.many s.2
def qb5g:DSp:=fun ls Q=>∃ (k most:Nat),ls=[.tape k,.d (.int (most:Int))]/\1 <= most/\most <= 9/\k + 200 < 900000/\∀ (W:Wd) (k':Nat),k' <= k + 150->Good W->W.many <= most->Q (.d W.enc) [some (.tape k'),none]
def sub_snoc{ss:List Str}{xs:List Str}{i:Nat}{x:Str}(h:ss.Sublist (xs.take i))(e:xs[i]? = some x):(ss ++ [x]).Sublist (xs.take (i + 1)):=by
 rw [take_add_one,e];exact h.append (List.Sublist.refl _)
def qb9a{ss:List Str}{xs:List Str}{i:Nat}(h:ss.Sublist (xs.take i)):ss.Sublist (xs.take (i + 1)):=
 h.trans (List.take_sublist_take_left (le_succ i))
def str3{a b c:Str}{i:Nat}{x:PyData}(h:([.str a,.str b,.str c]:List PyData)[i]? = some x):∃ z,([a,b,c]:List Str)[i]? = some z/\x=.str z/\i < 3:=by
 match i,h with
 | 0,h=>cases h;exact⟨a,rfl,rfl,'o'⟩
 | 1,h=>cases h;exact⟨b,rfl,rfl,'o'⟩
 | 2,h=>cases h;exact⟨c,rfl,rfl,'o'⟩
 | i + 3,h=>simp at h
abbrev qa6o:Stmt:=top 36
def qa3i:FnScope ["_law_tape","_law_most","_law_many","_law_few","_law_moves","_law_facts","_law_sights"] ["_law_tape","_law_most"] (qa0k qa6o):='a'
def qd1i{f f1 f2 f3:Addr}{fd fd1 fd2 fd3:FuncData} (F:FU K "_law_world" qa6o f fd) (B:Bl mg) (qa0r:DNext K mg f1 fd1) (qa0w:GNext P w K mg base n f1 fd1)
  (qa3o:Def K mg "_law_some" qa5l ["_law_tape","_law_many","_law_few"] f2 fd2) (qa7n:FO P w K mg base n f2 fd2 ["_law_tape","_law_many","_law_few"] qb4e)
  (qa9b:Def K mg "_law_parts" qa6n ["_law_tape","_law_many"] f3 fd3) (qc0s:FO P w K mg base n f3 fd3 ["_law_tape","_law_many"] qb5f):FO P w K mg base (n + 1) f fd ["_law_tape","_law_most"] qb5g:=by
 refine F.dok qa3i (fun cdv A outer s H E hr ls Qd h=>?_) 'l';obtain⟨k,most,rfl,hm1,hm2,hk,q⟩:=h;refine⟨rfl,?_⟩;refine⟨_,(qa0g (qa1l (i:=2) qa3i.nd rfl (Or.inr rfl) (qa6k qa2v qa4l qa0d (qa0i [true,false] qa0r qa0w hr rfl (qa0a (dv 0) (qa0a (dv 1) qa0b)))))
  (qa0g (qa1l (i:=3) qa3i.nd rfl (Or.inr rfl) (qa6k qa2v qa4l qa0d (qa0i [true,false] qa0r qa0w hr rfl 'D')))
  (qa0g (qa1l (i:=4) qa3i.nd rfl 'f' (qa1m qa0u qa2a rfl B.tuple_ qa1i (qa0a (qa1c (qa2c ["_law_p"] [("_law_tape",0),("_law_many",2),("_law_few",3)] rfl (by rfl) 'k' (qa4z rfl B.range_ (dv 2)) (fun _ _ _=>(qa1b (i:=0) (show(["_law_p","_law_tape","_law_many","_law_few"]:List Str).Nodup by decide +kernel) rfl 'f')) 'A' (fun _ _ _=>(qa0i [true,false,false] qa3o qa7n hr rfl (qa0a (dv 1) (qa0a (dv 2) (qa0a (dv 3) qa0b))))))) qa0b)))
  (qa0g (qc2b (i:=5) qa3i.nd rfl rfl ["_law_name"] [("_law_tape",0),("_law_many",2)] rfl (by rfl) 'k' (qa2f (qa1c (qa1u 'z'))) (fun _ _ _=>(qa1b (i:=0) (show(["_law_name","_law_tape","_law_many"]:List Str).Nodup by decide +kernel) rfl 'f')) (fun _ _ _=>(qa5a (qa1d op_gt (qa2x _) (qa0i [true,false] qa0r qa0w hr rfl (qa0a (dv 1) 'u')) qa0d (qa0x _)))) (fun _ _ _=>(qa0y (qa0a (dv 0) (qa0a (qa0i [true,false,false] qa3o qa7n hr rfl (qa0a (dv 1) (qa0a (dv 2) 'u'))) qa0b)))))
  (qa0g (qc2b (i:=6) qa3i.nd rfl rfl ["_law_hand"] [("_law_tape",0),("_law_many",2)] rfl (by rfl) 'k' (qa2f (qa1c (qa1u 'z'))) (fun _ _ _=>(qa1b (i:=0) (show(["_law_hand","_law_tape","_law_many"]:List Str).Nodup by decide +kernel) rfl 'f')) (fun _ _ _=>(qa5a (qa1d op_gt (qa2x _) (qa0i [true,false] qa0r qa0w hr rfl (qa0a (dv 1) 'u')) qa0d (qa0x _)))) (fun _ _ _=>(qa0y (qa0a (dv 0) (qa0a (qa0i [true,false] qa9b qc0s hr rfl (qa0a (dv 1) 'v')) qa0b)))))
  (qa0j (qa0q (qa0y (qa0a (qa1m qa0u qa2a rfl B.tuple_ qa1i (qa0a (dv 5) qa0b)) (qa0a (dv 4) (qa0a (qa1m qa0u qa2a rfl B.tuple_ qa1i (qa0a (dv 6) qa0b)) qa0b))))))))))),?_⟩
 lia;refine⟨k,most,rfl,'o','o',fun r h0 h1=>?_⟩;obtain⟨m,rfl,hma,hmb⟩:∃ m:Nat,r=(m:Int) - 1/\1 <= m/\m <= most:=⟨r.toNat + 1,'o','o','o'⟩;lia;rw [show(1:Int) + ((m:Int) - 1)=(m:Int) by omega];refine⟨k + 1,3,rfl,'d','o',fun r2 h2 h3=>?_⟩;lia;refine⟨⟨'o','o'⟩,?_⟩;rw [show((m:Int)).toNat=m by omega];refine⟨by rw [qa5e];omega,?_⟩;refine qa8j (fun i ρ acc=>∃ (v0:Option L) (k':Nat) (tss:List 'h'),ρ=[v0,some (.tape k'),some (.d (.int (m:Int))),some (.d (.int (2 + r2)))]/\acc=tss.map encT/\tss.length=i/\(∀ t ∈ tss,InR m t)/\k' <= k + 2 + 9 * i/\i <= m) ⟨none,k + 2,[],rfl,rfl,rfl,fun x hx=>by simp at hx,'o','o'⟩ ?_ ?_
 ·rintro i x ρ acc N hx ⟨v0,k',tss,rfl,rfl,hl,hb,hk',hi⟩ hN
  obtain⟨hi2,rfl⟩:=rngI hx;lia;refine⟨k',m,2 + r2,rfl,'o','o','o',fun ns k2 hk2 hns=>?_⟩;lia;refine hN _ _ ⟨_,k2,tss ++ [ns],rfl,by simp,by simp;omega,fun t ht=>?_,'o','o'⟩;rcases mem_append.mp ht with h | h
  ·exact hb t h
  ·rw [mem_singleton.mp h];exact hns
 rintro ρ acc ⟨v0,k1,mvs,rfl,rfl,hmv,hmr,hk1,_⟩;rw [qa5e] at hmv hk1;lia;refine qa8j (fun i ρ acc=>∃ (v0:Option L) (k':Nat) (fs:List (Str × List Int)),ρ=[v0,some (.tape k'),some (.d (.int (m:Int)))]/\acc=fs.map encF/\(fs.map (·.1)).Sublist ((["p","pq","q"]:List Str).take i)/\(∀ f ∈ fs,InR m f.2)/\k' <= k + 83 + 10 * i/\i <= 3) ⟨none,k1,[],rfl,rfl,by simp,fun x hx=>by simp at hx,'o','o'⟩ ?_ ?_
 ·rintro i x ρ acc N hx ⟨v0,k',fs,rfl,rfl,hl,hb,hk',hi⟩ hN
  obtain⟨z,hz,rfl,hi3⟩:=str3 hx;lia;refine⟨k',5,rfl,'d','o',fun r4 h4 h5=>?_⟩;lia;refine qa1n (fun c=>?_) (fun c=>?_)
  ·lia
   refine⟨k' + 1,m,2,rfl,'o','o','o',fun ns k2 hk2 hns=>?_⟩;lia;refine hN _ _ ⟨_,k2,fs ++ [(z,ns)],rfl,by simp,by rw [map_append];exact sub_snoc hl hz,fun t ht=>?_,'o','o'⟩;rcases mem_append.mp ht with h | h
   ·exact hb t h
   ·rw [mem_singleton.mp h];exact hns
  ·exact hN _ _ ⟨_,k' + 1,fs,rfl,rfl,qb9a hl,hb,'o','o'⟩
 rintro ρ acc ⟨v0,k2,fs,rfl,rfl,hfn,hfr,hk2,_⟩;lia;refine qa8j (fun i ρ acc=>∃ (v0:Option L) (k':Nat) (ss:List (Str × List 'h')),ρ=[v0,some (.tape k'),some (.d (.int (m:Int)))]/\acc=ss.map encS/\(ss.map (·.1)).Sublist ((["a","ab","b"]:List Str).take i)/\(∀ f ∈ ss,Parts m f.2)/\k' <= k + 113 + 11 * i/\i <= 3) ⟨none,k2,[],rfl,rfl,by simp,fun x hx=>by simp at hx,by simp at hk2;omega,'o'⟩ ?_ ?_
 ·rintro i x ρ acc N hx ⟨v0,k',ss,rfl,rfl,hl,hb,hk',hi⟩ hN
  obtain⟨z,hz,rfl,hi3⟩:=str3 hx;lia;refine⟨k',5,rfl,'d','o',fun r4 h4 h5=>?_⟩;lia;refine qa1n (fun c=>?_) (fun c=>?_)
  ·lia
   refine⟨k' + 1,m,rfl,'o','o',fun tss k3 hk3 hps=>?_⟩;lia;refine hN _ _ ⟨_,k3,ss ++ [(z,tss)],rfl,by simp,by rw [map_append];exact sub_snoc hl hz,fun t ht=>?_,'o','o'⟩;rcases mem_append.mp ht with h | h
   ·exact hb t h
   ·rw [mem_singleton.mp h];exact hps
  ·exact hN _ _ ⟨_,k' + 1,ss,rfl,rfl,qb9a hl,hb,'o','o'⟩
 rintro ρ acc ⟨v0,k3,ss,rfl,rfl,hsn,hsr,hk3,_⟩;lia;exact q ⟨m,fs,mvs,ss⟩ k3 (by simp at hk3;omega) ⟨hma,by show m <= 9;omega,hmv,hmr,hfn,hfr,hsn,hsr⟩ hmb
def qa0t{α:Type}{o:Option α}{x:α}{Q:α->Prop}(e:o=some x)(h:Q x):need o Q:=by rw [e];exact h
def qb9b{ss:List Str}{x:Str}:x ∈ Sx.srtS ss ↔ x ∈ ss:=(Sx.qb1h ss).mem_iff
noncomputable def putS(ps:List 'j')(x:Str)(d:PyData):List 'j':=if (ps.any fun q=>decide (q.1=x))=true then ps.map (fun q=>if q.1=x then(q.1,d) else q) else ps ++ [(x,d)]
def putA_S(ps:List 'j')(x:Str)(d:PyData):putA (ps.map kQ) (Sum.inr x) d=(putS ps x d).map kQ:=by
 have ek:∀ q:Str × PyData,((kQ q).1=Sum.inr x)=(q.1=x):=fun q=>by
  show((Sum.inr q.1:Key)=Sum.inr x)=_;rw [eq_iff_iff];exact⟨fun h=>Sum.inr.inj h,fun h=>by rw [h]⟩
 unfold putA putS;rw [any_map];have ea:(ps.any ((fun q=>decide (q.1=(Sum.inr x:Key))) ∘ kQ))=ps.any fun q=>decide (q.1=x):=by
  congr 1
  funext q
  show decide ((kQ q).1=Sum.inr x)=_;simp only [ek]
 rw [ea];split
 ·rw [map_map,map_map]
  refine map_congr_left fun q _=>?_;show(if (kQ q).1=Sum.inr x then((kQ q).1,d) else kQ q)=kQ (if q.1=x then(q.1,d) else q);by_cases c:q.1=x
  ·rw [if_pos c,if_pos (by rw [ek];exact c)];rfl
  ·rw [if_neg c,if_neg (by rw [ek];exact c)]
 ·rw [map_append];rfl
def qd1j{ps:List 'j'}{x:Str}{d:PyData}(h:x ∉ ps.map (·.1)):putS ps x d=ps ++ [(x,d)]:=by
 unfold putS;rw [if_neg];intro z;obtain⟨q,hq,e⟩:=any_eq_true.mp z;exact h (mem_map.mpr ⟨q,hq,by simpa using e⟩)
def qb5h:∀ (ps acc:List 'j'),((acc ++ ps).map (·.1)).Nodup->qa8s (acc.map kQ) (ps.map kQ)=(acc ++ ps).map kQ
 | [],acc,_=>by rw [append_nil];rfl
 | q :: r,acc,hn=>by
  show qa8s (putA (acc.map kQ) (kQ q).1 (kQ q).2) (r.map kQ)=_;have hn':((acc ++ [q] ++ r).map (·.1)).Nodup:=by rw [append_assoc];exact hn
  have hx:q.1 ∉ acc.map (·.1):=by
   rw [map_append,nodup_append] at hn;exact fun z=>hn.2.2 _ z _ (by rw [map_cons];exact mem_cons_self) rfl
  rw [show putA (acc.map kQ) (kQ q).1 (kQ q).2=(putS acc q.1 q.2).map kQ from putA_S acc q.1 q.2,qd1j hx,qb5h r (acc ++ [q]) hn',append_assoc];rfl
def qd1k(ps:List 'j')(x:Str)(d:PyData):(putS ps x d).length <= ps.length + 1:=by
 unfold putS;split
 ·rw [length_map];omega
 ·rw [length_append];exact le_refl _
abbrev dicS(ps:List 'j'):PyData:=.dict ((ps.map kQ).map kD)
def strK_S:∀ ps:List 'j',strK ((ps.map kQ).map kD)=some (ps.map (·.1))
 | []=>rfl
 | q :: r=>by
  show(strK ((r.map kQ).map kD)).map (q.1 :: ·)=_;rw [strK_S r];rfl
def qd1l{ps:List 'j'}(h:ps.length < 64):qb8k [dicS ps]=some (.list ((Sx.srtS (ps.map (·.1))).map .str)):=by
 show(strK ((ps.map kQ).map kD)).bind _=_;rw [strK_S,bind_some,if_pos (by rw [length_map];exact h)]
def qb9c:∀ (ps:List 'j') (x:Str),getA ((ps.map kQ).map kD) (Sum.inr x)=(ps.find? fun q=>decide (q.1=x)).map (·.2)
 | [],x=>rfl
 | q :: r,x=>by
  show(if qa3e (.str q.1)=some (Sum.inr x) then some q.2 else getA ((r.map kQ).map kD) (Sum.inr x))=_;by_cases c:q.1=x
  ·rw [if_pos (by rw [c];rfl),List.find?_cons_of_pos (by simpa using c)];rfl
  ·rw [if_neg (show ¬ qa3e (.str q.1)=some (Sum.inr x) from fun z=>c (Sum.inr.inj (Option.some.inj z))),List.find?_cons_of_neg (by simpa using c)]
   exact qb9c r x
def getA_in{ps:List 'j'}{x:Str}(h:x ∈ ps.map (·.1)):getA ((ps.map kQ).map kD) (Sum.inr x)=some (qa6m ps x):=by
 rw [qb9c];unfold qa6m;obtain⟨q,hq,e⟩:=mem_map.mp h;cases c:ps.find? fun q=>decide (q.1=x) with
 | none=>exact absurd e (by simpa using List.find?_eq_none.mp c q hq)
 | some y=>rfl
def qb9d:DSp:=fun ls Q=>∃ (ps:List 'j') (x:Str) (d:PyData),ls=[.d (.tuple (ps.map qa2y)),.d (.str x),.d d]/\ps.length <= 10/\(ps.map (·.1)).Nodup/\ndD (.tuple (ps.map qa2y))=true/\ndD d=true/\Q (.d (.tuple ((srtP (putS ps x d)).map qa2y))) [none,none,none]
abbrev qa6p:Stmt:=top 28
def qb1p:FnScope ["pairs","name","value","told"] ["pairs","name","value"] (qa0k qa6p):='a'
def ok_with{f:Addr}{fd:FuncData} (F:FU K "with_pair" qa6p f fd) (B:Bl mg):FO P w K mg base (n + 1) f fd ["pairs","name","value"] qb9d:=by
 refine F.dok qb1p (fun cdv A outer s H E hr ls Qd h=>?_) 'x';obtain⟨ps,x,d,rfl,hl,hn,n1,n2,q⟩:=h;refine⟨rfl,?_⟩;refine⟨_,(qc6y (i:=3) qb1p.nd rfl (Or.inr rfl) rfl rfl B.dict_ 'y'
  (qd0n (dpt_put (i:=3) rfl hr.units (dv 1) (dv 2))
  (dps_end (qa0j (qa0q (qa1m qa0u qa2a rfl B.tuple_ qa1i (qa0a (qa1c (qa2c ["one"] [("told",3)] rfl (by rfl) 'k' (qa2f (qa1f (qc4e rfl) qd0g rfl B.sorted_ qa5c (qa0a (dv 3) qa0b))) (fun _ _ _=>(qa1b (i:=0) (show(["one","told"]:List Str).Nodup by decide +kernel) rfl 'f')) 'A' (fun _ _ _=>(qa0y (qa0a (dv 0) (qa0a (de_getA hr.units (dv 1) (dv 0) 'b') qa0b)))))) qa0b))))))),?_⟩
 lia;refine⟨ps,rfl,'o',?_⟩;have e0:qa8s [] (ps.map kQ)=ps.map kQ:=qb5h ps [] hn;rw [e0];lia;refine⟨by rw [length_map];omega,?_⟩;lia;refine⟨?_,n2,qa0t (x:=Sum.inr x) rfl ?_⟩
 ·show(ndD (.tuple (ps.map qa2y)) && (ndD (.str x) && (ndD d && true)))=true
  rw [n1,n2];rfl
 rw [putA_S];have hl2:=qd1k ps x d;lia;refine qa0t (qd1l 'o') ?_;lia;refine⟨by rw [length_map,(Sx.qb1h _).length_eq,length_map];omega,?_⟩;refine L2.qa2g (fun ρ=>∃ v0:Option L,ρ=[v0,some (.d (dicS (putS ps x d)))]) (fun y=>match y with | .str z=>some (qa2y (z,qa6m (putS ps x d) z)) | _=>none) ⟨_,rfl⟩ ?_ ?_
 ·rintro y ρ N hy ⟨v0,rfl⟩ hN
  obtain⟨z,hz,rfl⟩:=mem_map.mp hy;lia;refine qa0t (show fGetA (dicS (putS ps x d)) (.str z)=some (qa6m (putS ps x d) z) from getA_in (qb9b.mp hz)) ?_;lia;exact hN _ ⟨_,rfl⟩
 ·rintro ρ ⟨v0,rfl⟩
  have ef:((Sx.srtS ((putS ps x d).map (·.1))).map PyData.str).filterMap (fun y=>match y with | .str z=>some (qa2y (z,qa6m (putS ps x d) z)) | _=>none)=(srtP (putS ps x d)).map qa2y:=by
   unfold srtP;rw [List.filterMap_map,map_map];exact congrFun (List.filterMap_eq_map (f:=fun z=>qa2y (z,qa6m (putS ps x d) z))) _
  rw [ef];lia;exact q
noncomputable def pcs(Q t:List Int):List 'h':=[t.filter fun p=>decide (p ∈ Q),t.filter fun p=>!decide (p ∈ Q)]
noncomputable def ne(l:List 'h'):List 'h':=l.filter fun t=>!t.isEmpty
noncomputable def pc(P:List 'h')(Q:List Int):List 'h':=ne (P.flatMap (pcs Q))
noncomputable def cutP(P:List 'h')(Q:List Int):List 'h':=Sx.srtT (pc P Q)
def ne_app(a b:List 'h'):ne (a ++ b)=ne a ++ ne b:=List.filter_append ..
def pc_cons(t:List Int)(P:List 'h')(Q:List Int):pc (t :: P) Q=ne (pcs Q t) ++ pc P Q:=by unfold pc;rw [List.flatMap_cons,ne_app]
def pc_len(Q:List Int):∀ P:List 'h',(pc P Q).length <= 2 * P.length
 | []=>zero_le _
 | t :: P=>by
  rw [pc_cons,length_append,length_cons];have h1:=pc_len Q P;have h2:(ne (pcs Q t)).length <= 2:=List.length_filter_le ..;omega
def pc_mem{Q t:List Int}{P:List 'h'}(h:t ∈ pc P Q):t ≠ []/\∃ t0 ∈ P,t.Sublist t0:=by
 obtain⟨h1,h2⟩:=mem_filter.mp h;refine⟨fun e=>(by rw [e] at h2;cases h2),?_⟩;obtain⟨t0,ht0,h3⟩:=List.mem_flatMap.mp h1;refine⟨t0,ht0,?_⟩;unfold pcs at h3;simp only [mem_cons,not_mem_nil,or_false] at h3;rcases h3 with rfl | rfl<;>exact List.filter_sublist
noncomputable def fmI(f:Int->Bool):PyData->Option PyData
 | .int p=>if f p=true then some (PyData.int p) else none
 | _=>none
def qa9s(f:Int->Bool):∀ t:List Int,(t.map PyData.int).filterMap (fmI f)=(t.filter f).map .int
 | []=>rfl
 | x :: r=>by
  rw [map_cons,filterMap_cons,List.filter_cons];rw [show fmI f (PyData.int x)=if f x=true then some (PyData.int x) else none from rfl];by_cases c:f x=true
  ·rw [if_pos c,if_pos c,map_cons,← qa9s f r]
  ·rw [if_neg c,if_neg c,← qa9s f r]
noncomputable def fmN:PyData->Option PyData
 | .tuple []=>none
 | x=>some x
def qb5i:∀ ts:List 'h',(ts.map encT).filterMap fmN=(ne ts).map encT
 | []=>rfl
 | [] :: r=>by rw [map_cons,filterMap_cons];show List.filterMap fmN (r.map encT)=(ne r).map encT;exact qb5i r
 | (x :: t) :: r=>by
  rw [map_cons,filterMap_cons];show encT (x :: t) :: List.filterMap fmN (r.map encT)=encT (x :: t) :: (ne r).map encT;rw [qb5i r]
def inl_any{ν:List (Key × FD)}{S:List Int}(h:∀ x:Int,(ν.any fun q=>decide (q.1=.inl x))=decide (x ∈ S))(y x:Int):((putG ν (.inl y) (.bool true)).any fun q=>decide (q.1=.inl x))=decide (x ∈ S ++ [y]):=by
 rw [qd0e,h];by_cases e:y=x
 ·subst e;simp
 ·have e2:¬ ((.inl y:Key)=.inl x):=fun z=>e (Sum.inl.inj z)
  have e3:¬ x=y:=fun z=>e z.symm;rw [decide_eq_false e2,Bool.or_false];simp [e3]
def qb9e(Q:List Int):∀ P:List 'h',(P.flatMap (pcs Q)).length=2 * P.length
 | []=>rfl
 | t :: P=>by rw [List.flatMap_cons,length_append,qb9e Q P,length_cons];show 2 + _=_;omega
def qb9f:DSp:=fun ls Q=>∃ (P:List 'h') (ps:List Int),ls=[.d (.tuple (P.map encT)),.d (encT ps)]/\P.length <= 100/\(∀ t ∈ P,t.length <= 100)/\ps.length <= 100/\(pc P ps).length < 64/\Q (.d (.tuple ((cutP P ps).map encT))) [none,none]
abbrev qa6q:Stmt:=top 22
def qa4c:FnScope ["parts","points","inside","point","told","part"] ["parts","points"] (qa0k qa6q):='a'
def qb9g{f:Addr}{fd:FuncData} (F:FU K "cut_parts" qa6q f fd) (B:Bl mg):FO P w K mg base (n + 1) f fd ["parts","points"] qb9f:=by
 refine F.dok qa4c (fun cdv A outer s H E hr ls Qd h=>?_) 'l';obtain⟨P,ps,rfl,hP,ht,hps,hpc,q⟩:=h;refine⟨rfl,?_⟩;refine⟨_,(qc6s (i:=2) qa4c.nd rfl (Or.inr rfl) rfl hr.units PassesOwn.never (qa2f (dv 1)) (qc9w (j:=3) 'd' qa4c.nd rfl 'f') (dv 3) qa2u
  (qa0g (qb1y (i:=4) qa4c.nd rfl 'f' (qa1u qa0b))
  (qa0g (qa6y PassesOwn.never rfl (qa2f (dv 0)) (qa1b (i:=5) qa4c.nd rfl 'f')
  (qa0g (qb4y (qb1b 4 rfl (qa1m qa0u qa2a rfl B.tuple_ qa1i (qa0a (qa1c (qa2c ["point"] [("inside",2)] rfl (by rfl) 'k' (qa2f (dv 5)) (fun _ _ _=>(qa1b (i:=0) (show(["point","inside"]:List Str).Nodup by decide +kernel) rfl 'f')) (fun _ _ _=>(qa5a (qa1d (op_inD hr.units) ad_inD (dv 0) (dv 1) (by rfl)))) (fun _ _ _=>(dv 0)))) qa0b))))
  (qa0j (qb4y (qb1b 4 rfl (qa1m qa0u qa2a rfl B.tuple_ qa1i (qa0a (qa1c (qa2c ["point"] [("inside",2)] rfl (by rfl) 'k' (qa2f (dv 5)) (fun _ _ _=>(qa1b (i:=0) (show(["point","inside"]:List Str).Nodup by decide +kernel) rfl 'f')) (fun _ _ _=>(qa5a (qa1d (qc6t hr.units) ad_inD (dv 0) (dv 1) (by rfl)))) (fun _ _ _=>(dv 0)))) qa0b)))))))
  (qa0j (qa0q (qa1m qa0u qa2a rfl B.tuple_ qa1i (qa0a (qa1f qb1m qc2q rfl B.sorted_ qa5c (qa0a (qa1c (qa2c ["part"] [] rfl (by rfl) 'k' (qa2f (dv 4)) (fun _ _ _=>(qa1b (i:=0) (show(["part"]:List Str).Nodup by decide +kernel) rfl 'f')) (fun _ _ _=>(qa5a (qa1d op_gt (qa2x _) (qa1f qa1p qa3g rfl B.len_ qa2r 'y') qa0d (qa0x _)))) (fun _ _ _=>(dv 0)))) qa0b)) qa0b))))))),?_⟩
 refine⟨(show 2 < 6 by decide),?_⟩;lia;refine qc6v (fun a ρ ν=>∃ v3,ρ=[some (L.d (.tuple (P.map encT))),some (L.d (encT ps)),none,v3,none,none]/\(∀ x:Int,(ν.any fun q=>decide (q.1=.inl x))=decide (x ∈ ps.take a))/\ν.length <= a/\a <= ps.length) ?_ ?_ ⟨none,rfl,fun x=>by simp,le_refl _,'o'⟩
 ·rintro a x ρ ν N hx ⟨v3,rfl,hn,hl,ha⟩ hN
  rw [getElem?_map] at hx;obtain⟨y,hy,rfl⟩:=map_eq_some_iff.mp hx;have hy2:=(List.getElem?_eq_some_iff.mp hy).1;refine⟨'o',?_⟩;lia;refine hN _ _ ⟨_,rfl,fun x=>?_,le_trans qd0d 'o','o'⟩;rw [inl_any hn,take_add_one,hy];rfl
 ·rintro ρ ν ⟨v3,rfl,hn,hl,ha⟩
  rw [length_map,take_length] at hn;lia;refine qa4b (fun i ρ=>∃ v5,ρ=[some (L.d (.tuple (P.map encT))),some (L.d (encT ps)),some (L.d (.dict (ν.map gD))),v3,some (.own (((P.take i).flatMap (pcs ps)).map encT)),v5]/\i <= P.length) ⟨none,rfl,'o'⟩ ?_ ?_
  ·rintro i x ρ N hx ⟨v5,rfl,hi⟩ hN
   rw [getElem?_map] at hx;obtain⟨t,hti,rfl⟩:=map_eq_some_iff.mp hx;have hi2:=(List.getElem?_eq_some_iff.mp hti).1;have htl:=ht t (mem_of_getElem? hti);have hfl:=qb9e ps (P.take i);have hti4:(P.take i).length <= 100:=by rw [length_take];omega
   have hin:∀ p:Int,fInD false (.int p) (.dict (ν.map gD))=some (.bool (decide (p ∈ ps))):=fun p=>by rw [qc2m (k:=.inl p) rfl,hn];rfl
   have hno:∀ p:Int,fInD true (.int p) (.dict (ν.map gD))=some (.bool (!decide (p ∈ ps))):=fun p=>by rw [qc2m (k:=.inl p) rfl,hn];rfl
   lia;refine⟨by rw [length_map];omega,?_⟩;refine L2.qa2g (fun ρ=>∃ v0:Option L,ρ=[v0,some (.d (.dict (ν.map gD)))]) (fmI fun p=>decide (p ∈ ps)) ⟨_,rfl⟩ ?_ ?_
   ·rintro x ρ N2 hx ⟨v0,rfl⟩ hN2
    obtain⟨p,hp,rfl⟩:=mem_map.mp hx;lia;rw [hin];lia;rw [show fmI (fun p=>decide (p ∈ ps)) (.int p)=if decide (p ∈ ps)=true then some (PyData.int p) else none from rfl] at hN2;refine qa1n (fun c=>?_) (fun c=>?_)
    ·lia
     rw [if_pos (decide_eq_true c)] at hN2;exact hN2 _ ⟨_,rfl⟩
    ·rw [if_neg (by rw [decide_eq_false c];exact Bool.false_ne_true)] at hN2
     exact hN2 _ ⟨_,rfl⟩
   rintro ρ _;rw [qa9s];refine⟨by rw [length_map];omega,?_⟩;lia;refine⟨by rw [length_map];omega,?_⟩;refine L2.qa2g (fun ρ=>∃ v0:Option L,ρ=[v0,some (.d (.dict (ν.map gD)))]) (fmI fun p=>!decide (p ∈ ps)) ⟨_,rfl⟩ ?_ ?_
   ·rintro x ρ N2 hx ⟨v0,rfl⟩ hN2
    obtain⟨p,hp,rfl⟩:=mem_map.mp hx;lia;rw [hno];lia;rw [show fmI (fun p=>!decide (p ∈ ps)) (.int p)=if (!decide (p ∈ ps))=true then some (PyData.int p) else none from rfl] at hN2;refine ite_b (fun c=>?_) (fun c=>?_)
    ·lia
     rw [if_pos c] at hN2;exact hN2 _ ⟨_,rfl⟩
    ·rw [if_neg (by rw [c];exact Bool.false_ne_true)] at hN2
     exact hN2 _ ⟨_,rfl⟩
   rintro ρ _;rw [qa9s];refine⟨by rw [length_append,length_map];show _ + 1 <= _;omega,?_⟩;lia;refine hN _ ⟨some (.d (encT t)),?_,'o'⟩;rw [take_add_one,hti,toList_some,List.flatMap_append,map_append,append_assoc];rfl
  ·rintro ρ ⟨v5,rfl,hi⟩
   rw [length_map,take_length];have hfl:=qb9e ps P;lia;refine⟨by rw [length_map];omega,?_⟩;refine L2.qa2g (fun ρ=>∃ v0:Option L,ρ=[v0]) fmN ⟨_,rfl⟩ ?_ ?_
   ·rintro x ρ N2 hx ⟨v0,rfl⟩ hN2
    obtain⟨t,ht,rfl⟩:=mem_map.mp hx;lia;cases t with
    | nil =>
     walk_at "dk";exact hN2 _ ⟨_,rfl⟩
    | cons y r =>
     refine qa1n (fun c=>?_) (fun c=>?_)
     ·lia
      exact hN2 _ ⟨_,rfl⟩
     ·exact absurd 'g' c
   rintro ρ _;rw [qb5i];refine qa0t (qb8o (fun t ht=>(pc_mem ht).1) hpc) ?_;lia;exact q
def qb9h(p:Int):∀ t:List Int,inF (.int p) (t.map .int)=decide (p ∈ t)
 | []=>by simp [inF]
 | x :: r=>by
  have ih:=qb9h p r;unfold inF at ih ⊢;rw [map_cons,any_cons,ih];by_cases e:x=p
  ·subst e;simp [eqF]
  ·have e2:(x == p)=false:=by simpa using e
   have e3:¬ p=x:=fun h=>e h.symm;simp [eqF,e2,e3]
def qb6q:∀ t:List Int,(t.map PyData.int).all qa1g=true
 | []=>rfl
 | x :: r=>by rw [map_cons,all_cons,qb6q r];rfl
def qd1m{p:Int}{t:List Int}:fIn false (.int p) (.tuple (t.map .int))=some (.bool (decide (p ∈ t))):=by
 rw [fIn_f (by rw [qb6q];rfl),qb9h];rfl
def shaped_ints(t:List Int):SeqAt.shaped (.list (t.map .int))=true:=by
 have h1:PyData.canLayAll0 (t.map .int)=true:=by
  induction t with
  | nil=>rfl
  | cons s r ih=>simp [PyData.canLayAll0,PyData.canLay0,ih]
 have h2:PyData.depthAll (t.map .int)=0:=by
  clear h1;induction t with
  | nil=>rfl
  | cons s r ih=>simp [PyData.depthAll,PyData.depth,ih]
 simp [SeqAt.shaped,PyData.canLay0,h1,PyData.depth,h2]
def qb9i(p:Str):∀ t:List Str,inF (.str p) (t.map .str)=decide (p ∈ t)
 | []=>by simp [inF]
 | x :: r=>by
  have ih:=qb9i p r;unfold inF at ih ⊢;rw [map_cons,any_cons,ih];by_cases e:x=p
  ·subst e;simp [eqF]
  ·have e2:(x == p)=false:=by simpa using e
   have e3:¬ p=x:=fun h=>e h.symm;simp [eqF,e2,e3]
def qc2t:∀ t:List Str,(t.map PyData.str).all qa1g=true
 | []=>rfl
 | x :: r=>by rw [map_cons,all_cons,qc2t r];rfl
abbrev encH(hs:List Str):PyData:=.tuple (hs.map .str)
def fIn_hs{p:Str}{t:List Str}:fIn false (.str p) (.tuple (t.map .str))=some (.bool (decide (p ∈ t))):=by
 rw [fIn_f (by rw [qc2t];rfl),qb9i];rfl
noncomputable def cutS(hs:List Str)(ps:List Int)(s:Str × List 'h'):Str × List 'h':=if s.1 ∈ hs then(s.1,cutP s.2 ps) else s
noncomputable def Wd.cut(W:Wd)(hs:List Str)(ps:List Int):Wd:={ W with sights:=W.sights.map (cutS hs ps) }
structure CutOk(W:Wd)(ps:List Int):Prop where
 sl:W.sights.length <= 100
 pl:ps.length <= 100
 al:∀ s ∈ W.sights,s.2.length <= 100/\(∀ t ∈ s.2,t.length <= 100)/\(pc s.2 ps).length < 64
def spCut:DSp:=fun ls Q=>∃ (W:Wd) (hs:List Str) (ps:List Int),ls=[.d W.enc,.d (encH hs),.d (encT ps)]/\CutOk W ps/\Q (.d (W.cut hs ps).enc) [none,none,none]
def qb9j{W:Wd}{hs:List Str}{ps:List Int}{i:Nat}{s:Str × List 'h'}(h:W.sights[i]? = some s):((W.sights.take (i + 1)).map (cutS hs ps)).map encS=((W.sights.take i).map (cutS hs ps)).map encS ++ [encS (cutS hs ps s)]:=by
 rw [take_add_one,h,toList_some,map_append,map_append];rfl
abbrev s_cut:Stmt:=top 21
def qb4f:FnScope ["world","hands","points","sights","pair","parts"] ["world","hands","points"] (qa0k s_cut):='a'
def ok_cut{f f1:Addr}{fd fd1:FuncData} (F:FU K "cut" s_cut f fd) (B:Bl mg)
  (d_cut_parts:Def K mg "cut_parts" qa6q ["parts","points"] f1 fd1) (g_cut_parts:FO P w K mg base n f1 fd1 ["parts","points"] qb9f):FO P w K mg base (n + 1) f fd ["world","hands","points"] spCut:=by
 refine F.dok qb4f (fun cdv A outer s H E hr ls Qd h=>?_) 'x';obtain⟨W,hs,ps,rfl,ok,q⟩:=h;refine⟨rfl,?_⟩;refine⟨_,(qa0g (qb1y (i:=3) qb4f.nd rfl 'f' (qa1u qa0b))
  (qa0g (qa6y PassesOwn.never rfl (qa2f 't') (qa1b (i:=4) qb4f.nd rfl 'f')
  (qa0g (qa1l (i:=5) qb4f.nd rfl 'f' (de_if (qa1d qb0d ad_in (qa0o qa0l qa0p (dv 4) qa0d 'b') (dv 1) (by rfl)) (qa0i [false,false] d_cut_parts g_cut_parts hr rfl (qa0a (qa0o qa0l qa0p (dv 4) qa0d 'b') 'v')) (qa0o qa0l qa0p (dv 4) qa0d 'b')))
  (qa0j (qb4y (qb1b 3 rfl (qa0y (qa0a (qa0o qa0l qa0p (dv 4) qa0d 'b') (qa0a (dv 5) qa0b))))))))
  (qa0j (qa0q (qa0y (qa0a 't' (qa0a 't' (qa0a (qa1m qa0u qa2a rfl B.tuple_ qa1i (qa0a (dv 3) qa0b)) qa0b)))))))),?_⟩
 have hsl:=ok.sl;lia;refine qa4b (fun i ρ=>∃ v4 v5,ρ=[some (L.d W.enc),some (L.d (encH hs)),some (L.d (encT ps)),some (.own (((W.sights.take i).map (cutS hs ps)).map encS)),v4,v5]/\i <= W.sights.length) ⟨none,none,rfl,'o'⟩ ?_ ?_
 ·rintro i x ρ N hx ⟨v4,v5,rfl,hi⟩ hN
  rw [getElem?_map] at hx;obtain⟨sa,hsa,rfl⟩:=map_eq_some_iff.mp hx;have hi2:=(List.getElem?_eq_some_iff.mp hsa).1;obtain⟨o1,o2,o3⟩:=ok.al sa (mem_of_getElem? hsa);have htk:(W.sights.take i).length <= 100:=by rw [length_take];omega
  lia;rw [fIn_hs];lia;refine qa1n (fun c=>?_) (fun c=>?_)
  ·lia
   refine⟨sa.2,ps,rfl,o1,o2,ok.pl,o3,?_⟩;lia;refine⟨by rw [length_map,length_map];omega,?_⟩;lia;refine hN _ ⟨some (.d (encS sa)),some (.d (.tuple ((cutP sa.2 ps).map encT))),?_,'o'⟩;rw [qb9j hsa,show cutS hs ps sa=(sa.1,cutP sa.2 ps) from if_pos c]
  ·lia
   refine⟨by rw [length_map,length_map];omega,?_⟩;lia;refine hN _ ⟨some (.d (encS sa)),some (.d (.tuple (sa.2.map encT))),?_,'o'⟩;rw [qb9j hsa,show cutS hs ps sa=sa from if_neg c]
 ·rintro ρ ⟨v4,v5,rfl,hi⟩
  rw [length_map,take_length];lia;exact q
def qd1n{α:Type}{p:α->Bool}{xs:List α}{i:Nat}{x:α}(h0:(xs.take i).find? p=none)(hx:xs[i]? = some x)(hp:p x=true):xs.find? p=some x:=by
 obtain⟨hi,e⟩:=List.getElem?_eq_some_iff.mp hx;have es:xs=xs.take i ++ x :: xs.drop (i + 1):=by rw [← e,← drop_eq_getElem_cons hi,List.take_append_drop]
 rw [es,List.find?_append,h0,Option.none_or,List.find?_cons_of_pos hp]
def qc7j{α:Type}{p:α->Bool}{xs:List α}{i:Nat}{x:α}(h0:(xs.take i).find? p=none)(hx:xs[i]? = some x)(hp:p x=false):(xs.take (i + 1)).find? p=none:=by
 rw [take_add_one,hx,List.find?_append,h0,Option.none_or,toList_some,List.find?_cons_of_neg (by rw [hp];exact Bool.false_ne_true)];rfl
noncomputable def qa7o(fs:List (Str × List Int))(z:Str):List Int:=((fs.find? fun f=>decide (f.1=z)).map (·.2)).getD []
def qb9k:DSp:=fun ls Q=>∃ W:Wd,ls=[.d W.enc]/\Q (.d (.int (W.moves.length:Int))) [none]
def qb3a:DSp:=fun ls Q=>∃ (W:Wd) (z:Str),ls=[.d W.enc,.d (.str z)]/\Q (.d (encT (qa7o W.facts z))) [none,none]
abbrev qa4u:Stmt:=top 6
def qb5j:FnScope ["world"] ["world"] (qa0k qa4u):='a'
def ok_many{f:Addr}{fd:FuncData} (F:FU K "many_points" qa4u f fd) (B:Bl mg):FO P w K mg base (n + 1) f fd ["world"] qb9k:=by
 refine F.dok qb5j (fun cdv A outer s H E hr ls Qd h=>?_) (fun ls Qd hq8=>by obtain⟨_,e,_⟩:=hq8;rw [e];rfl);obtain⟨W,rfl,q⟩:=h;refine⟨rfl,?_⟩;refine⟨_,(qa0j (qa0q (qa1f qa1p qa3g rfl B.len_ qa2r (qa0a 't' qa0b)))),?_⟩;lia;rw [length_map];exact q
abbrev qa6r:Stmt:=top 7
def qb1q:FnScope ["world","name","pair"] ["world","name"] (qa0k qa6r):='a'
def qc7k{f:Addr}{fd:FuncData} (F:FU K "points_of" qa6r f fd) (B:Bl mg):FO P w K mg base (n + 1) f fd ["world","name"] qb3a:=by
 refine F.dok qb1q (fun cdv A outer s H E hr ls Qd h=>?_) 'l';obtain⟨W,z,rfl,q⟩:=h;refine⟨rfl,?_⟩;refine⟨_,(qa0g (qa6y PassesOwn.never rfl (qa2f 't') (qa1b (i:=2) qb1q.nd rfl 'f')
  (qa0j (qa1r (qa1d (qa2n hr.units) qa2m (qa0o qa0l qa0p (dv 2) qa0d 'b') (dv 1) (qa0x _))
  (qa0j (qa0q (qa0o qa0l qa0p (dv 2) qa0d 'b')))
  qa1a)))
  (qa0j (qa0q (qa0y qa0b)))),?_⟩
 lia;refine qa4b (fun i ρ=>∃ v2:Option L,ρ=[some (.d W.enc),some (.d (.str z)),v2]/\(W.facts.take i).find? (fun f=>decide (f.1=z))=none) ⟨none,rfl,rfl⟩ ?_ ?_
 ·rintro i x ρ N hx ⟨v2,rfl,h0⟩ hN
  rw [getElem?_map] at hx;obtain⟨fa,hf,rfl⟩:=map_eq_some_iff.mp hx;lia;refine qa1n (fun c=>?_) (fun c=>?_)
  ·lia
   have:qa7o W.facts z=fa.2:=by unfold qa7o;rw [qd1n h0 hf (by simpa using c)];rfl
   rw [this] at q;exact q
  ·lia
   exact hN _ ⟨_,rfl,qc7j h0 hf (by simpa using c)⟩
 ·rintro ρ ⟨v2,rfl,h0⟩
  rw [length_map,take_length] at h0;lia;have:qa7o W.facts z=[]:=by unfold qa7o;rw [h0];rfl
  rw [this] at q;exact q
noncomputable def tog(ps:List Int)(p:Int):List Int:=if p ∈ ps then ps.filter (fun q=>!decide (q=p)) else Sx.srtI (ps ++ [p])
def spTog:DSp:=fun ls Q=>∃ (ps:List Int) (p:Int),ls=[.d (encT ps),.d (.int p)]/\ps.length <= 20/\Q (.d (encT (tog ps p))) [none,none]
def fAdd_T{a b:List Int}(h:a.length + b.length <= 1000):fAdd (encT a) (encT b)=some (encT (a ++ b)):=by
 rw [show encT (a ++ b)=.tuple (a.map .int ++ b.map .int) by rw [← map_append]];exact qb1c (by rw [length_map,length_map,sizeLine_eq];omega)
abbrev qa8u:Stmt:=top 27
def qc4n:FnScope ["points","point"] ["points","point"] (qa0k qa8u):='a'
def ok_tog{f:Addr}{fd:FuncData} (F:FU K "toggled" qa8u f fd) (B:Bl mg):FO P w K mg base (n + 1) f fd ["points","point"] spTog:=by
 refine F.dok qc4n (fun cdv A outer s H E hr ls Qd h=>?_) 'l';obtain⟨ps,p,rfl,hl,q⟩:=h;refine⟨rfl,?_⟩;refine⟨_,(qa0g (qa1r (qa1d qb0d ad_in (dv 1) (dv 0) (by rfl))
  (qa0j (qa0q (qa1m qa0u qa2a rfl B.tuple_ qa1i (qa0a (qa1c (qa2c ["other"] [("point",1)] rfl (by rfl) 'k' (qa2f (dv 0)) (fun _ _ _=>(qa1b (i:=0) (show(["other","point"]:List Str).Nodup by decide +kernel) rfl 'f')) (fun _ _ _=>(qa5a (qa1d (qb3q hr.units) qb3p (dv 0) (dv 1) (qa0x _)))) (fun _ _ _=>(dv 0)))) qa0b))))
  qa1a)
  (qa0j (qa0q (qa1m qa0u qa2a rfl B.tuple_ qa1i (qa0a (qa1f qc4i qd0r rfl B.sorted_ qa5c (qa0a (qa6k qa2v qa4l (dv 0) (qa0y (qa0a (dv 1) qa0b))) qa0b)) qa0b))))),?_⟩
 lia;rw [qd1m];lia;refine qa1n (fun c=>?_) (fun c=>?_)
 ·lia
  refine⟨by rw [length_map];omega,?_⟩;refine L2.qa2g (fun ρ=>∃ v0:Option L,ρ=[v0,some (.d (.int p))]) (fmI fun q=>!decide (q=p)) ⟨_,rfl⟩ ?_ ?_
  ·rintro x ρ N hx ⟨v0,rfl⟩ hN
   obtain⟨y,hy,rfl⟩:=mem_map.mp hx;lia;rw [show fmI (fun q=>!decide (q=p)) (.int y)=if (!decide (y=p))=true then some (PyData.int y) else none from rfl] at hN;refine ite_b (fun c=>?_) (fun c=>?_)
   ·lia
    rw [if_pos c] at hN;exact hN _ ⟨_,rfl⟩
   ·rw [if_neg (by rw [c];exact Bool.false_ne_true)] at hN
    exact hN _ ⟨_,rfl⟩
  rintro ρ _;rw [qa9s];rw [show tog ps p=ps.filter (fun q=>!decide (q=p)) from if_pos c] at q;exact q
 ·lia
  refine qa0t (fAdd_T (b:=[p]) (by show _ + 1 <= _;omega)) (qa0t (qd0s (by rw [length_append];show _ + 1 < _;omega)) ?_);lia;rw [show tog ps p=Sx.srtI (ps ++ [p]) from if_neg c] at q;exact q
def Parts.flat{m:Nat}{tss:List 'h'}(h:Parts m tss):tss.flatten.Perm ((List.range m).map fun p:Nat=>(p:Int)):=by
 refine(List.perm_ext_iff_of_nodup h.nd ?_).mpr fun x=>?_
 ·exact pairwise_map.mpr (pairwise_lt_range.imp fun h=>by omega)
 ·rw [List.mem_flatten,mem_map]
  constructor
  ·rintro⟨t,ht,hx⟩
   have:=(h.inr t ht).1 x hx;exact⟨x.toNat,mem_range.mpr 'o','o'⟩
  ·rintro⟨p,hp,rfl⟩
   obtain⟨t,ht,hx⟩:=h.cov p (mem_range.mp hp);exact⟨t,ht,hx⟩
def qd1o(m:Nat):rngD 0 m=((List.range m).map fun p:Nat=>(p:Int)).map .int:=by
 unfold rngD;rw [map_map];refine map_congr_left fun p _=>?_;show PyData.int (0 + (p:Int))=PyData.int (p:Int);congr 1;omega
section
variable{α:Type}[Inhabited α]{e:α->PyData}
noncomputable def putV(fs:List (Str × α))(z:Str)(d:α):List (Str × α):=if (fs.any fun q=>decide (q.1=z))=true then fs.map (fun q=>if q.1=z then(q.1,d) else q) else fs ++ [(z,d)]
noncomputable def lookV(fs:List (Str × α))(z:Str):α:=((fs.find? fun q=>decide (q.1=z)).map (·.2)).getD default
noncomputable def srtV(fs:List (Str × α)):List (Str × α):=(Sx.srtS (fs.map (·.1))).map fun x=>(x,lookV fs x)
noncomputable def eV(e:α->PyData)(q:Str × α):Str × PyData:=(q.1,e q.2)
def qb0n(fs:List (Str × α)):(fs.map (eV e)).map (·.1)=fs.map (·.1):=by rw [map_map];rfl
def putS_V(fs:List (Str × α))(z:Str)(d:α):putS (fs.map (eV e)) z (e d)=(putV fs z d).map (eV e):=by
 unfold putS putV;rw [any_map];show(if (fs.any fun q=>decide (q.1=z))=true then _ else _)=_;split
 ·rw [map_map,map_map]
  refine map_congr_left fun q _=>?_;show(if q.1=z then(q.1,e d) else eV e q)=eV e (if q.1=z then(q.1,d) else q);split<;>rfl
 ·rw [map_append];rfl
def lookP_V{fs:List (Str × α)}{x:Str}(h:x ∈ fs.map (·.1)):qa6m (fs.map (eV e)) x=e (lookV fs x):=by
 unfold qa6m lookV;rw [List.find?_map];show(((fs.find? fun q=>decide (q.1=x)).map (eV e)).map (·.2)).getD .none=_;obtain⟨q,hq,hx⟩:=mem_map.mp h;cases c:fs.find? fun q=>decide (q.1=x) with
 | none=>exact absurd hx (by simpa using List.find?_eq_none.mp c q hq)
 | some y=>rfl
def srtP_V(fs:List (Str × α)):srtP (fs.map (eV e))=(srtV fs).map (eV e):=by
 unfold srtP srtV;rw [qb0n,map_map];refine map_congr_left fun x hx=>?_;show(x,qa6m (fs.map (eV e)) x)=(x,e (lookV fs x));rw [lookP_V (qb9b.mp hx)]
end
def qb5k{n:Nat}{z:Int}(h0:0 <= z)(h1:z < (n:Int)):ixN n z=some z.toNat:=by unfold ixN;rw [if_pos h0,if_pos h1]
noncomputable def mkAt(tss:List 'h')(p:Nat):Nat:=tss.findIdx fun t=>decide ((p:Int) ∈ t)
noncomputable def mks(m:Nat)(tss:List 'h'):List Int:=(List.range m).map fun p=>(mkAt tss p:Int)
def qb5l:DSp:=fun ls Q=>∃ (tss:List 'h') (m:Nat),ls=[.d (.tuple (tss.map encT)),.d (.int (m:Int))]/\m <= 20/\Parts m tss/\Q (.d (.list ((mks m tss).map .int))) [none,none]
def Parts.dis{m:Nat}{tss:List 'h'}(h:Parts m tss){i j:Nat}{x:Int}(hi:i < tss.length)(hj:j < tss.length)(h1:x ∈ tss[i])(h2:x ∈ tss[j]):i=j:=by
 have hd:=(List.pairwise_flatten.mp h.nd).2;rw [List.pairwise_iff_getElem] at hd;rcases Nat.lt_trichotomy i j with c | c | c
 ·exact absurd rfl (hd i j hi hj c x h1 x h2)
 ·exact c
 ·exact absurd rfl (hd j i hj hi c x h2 x h1)
def Parts.mkAt_eq{m:Nat}{tss:List 'h'}(h:Parts m tss){i p:Nat}(hi:i < tss.length)(h1:(p:Int) ∈ tss[i]):mkAt tss p=i:=by
 unfold mkAt;have hex:∃ t ∈ tss,decide ((p:Int) ∈ t)=true:=⟨tss[i],getElem_mem hi,decide_eq_true h1⟩;have hlt:(tss.findIdx fun t=>decide ((p:Int) ∈ t)) < tss.length:=List.findIdx_lt_length_of_exists hex;have h2:=List.findIdx_getElem (w:=hlt);exact h.dis hlt hi (by simpa using h2) h1
abbrev qa7p:Stmt:=top 8
def qa4p:FnScope ["parts","many","marks","number","part","point"] ["parts","many"] (qa0k qa7p):='a'
def qd1p{f:Addr}{fd:FuncData} (F:FU K "marks_of" qa7p f fd) (B:Bl mg):FO P w K mg base (n + 1) f fd ["parts","many"] qb5l:=by
 refine F.dok qa4p (fun cdv A outer s H E hr ls Qd h=>?_) 'n';obtain⟨tss,m,rfl,hm,hp,q⟩:=h;refine⟨rfl,?_⟩;refine⟨_,(qa0g (qb1y (i:=2) qa4p.nd rfl 'f' (df_op op_rep ad_rep (qa1c (qa1u 'u')) (dv 1)))
  (qa0g (qa6y PassesOwn.never rfl (qd0w rfl B.enumerate_ (dv 0)) (dg_tup (n:=2) rfl (qb8a (qa1b (i:=3) qa4p.nd rfl 'f') (qb8a (qa1b (i:=4) qa4p.nd rfl 'f') dgs_nil)))
  (qa0j (qa6y PassesOwn.never rfl (qa2f (dv 4)) (qa1b (i:=5) qa4p.nd rfl 'f')
  (qa0j (qb8b 2 rfl (dv 5) (dv 3))))))
  (qa0j (qa0q (dv 2))))),?_⟩
 lia;refine qa0t (x:=List.replicate m (.int 0)) ?_ ?_
 ·show @ite _ (-(2 ^ 63) <= (m:Int)/\(m:Int) < 2 ^ 63/\[PyData.int 0].length * (m:Int).toNat <= sizeLine) (Classical.propDecidable _) (some (List.replicate (m:Int).toNat [PyData.int 0]).flatten) none=_
  rw [if_pos ⟨'o','o',by rw [sizeLine_eq];show 1 * _ <= _;omega⟩,show((m:Int)).toNat=m by omega];simp
 lia;refine qa4b (fun i ρ=>∃ (v3 v4 v5:Option L) (ms:List Int),ρ=[some (.d (.tuple (tss.map encT))),some (.d (.int (m:Int))),some (.own (ms.map .int)),v3,v4,v5]/\ms.length=m/\i <= tss.length/\∀ (k p:Nat) (hk:k < tss.length),k < i->(p:Int) ∈ tss[k]->ms.getD p 0=(k:Int)) ⟨none,none,none,List.replicate m 0,by rw [List.map_replicate],by simp,'o',fun k p hk h=>absurd h 'o'⟩ ?_ ?_
 ·rintro i x ρ N hx ⟨v3,v4,v5,ms,rfl,hl,hi,hms⟩ hN
  rw [qb6e,getElem?_map] at hx;obtain⟨d,hd,rfl⟩:=map_eq_some_iff.mp hx;obtain⟨t,ht,rfl⟩:=map_eq_some_iff.mp hd;obtain⟨hi2,et⟩:=List.getElem?_eq_some_iff.mp ht;have hr:=hp.inr t (mem_of_getElem? ht);lia;refine qa4b (fun j ρ=>∃ (v5:Option L) (ms:List Int),ρ=[some (.d (.tuple (tss.map encT))),some (.d (.int (m:Int))),some (.own (ms.map .int)),some (.d (.int (i:Int))),some (.d (encT t)),v5]/\ms.length=m/\(∀ (k p:Nat) (hk:k < tss.length),k < i->(p:Int) ∈ tss[k]->ms.getD p 0=(k:Int))/\∀ p:Nat,(p:Int) ∈ t.take j->ms.getD p 0=(i:Int)) ⟨v5,ms,rfl,hl,hms,fun p hp=>by simp at hp⟩ ?_ ?_
  ·rintro j y ρ N2 hy ⟨v5,ms,rfl,hl,hms,hmi⟩ hN2
   rw [getElem?_map] at hy;obtain⟨z,hz,rfl⟩:=map_eq_some_iff.mp hy;have hzm:=mem_of_getElem? hz;have hzb:=hr.1 z hzm;lia;refine qa0t (x:=z.toNat) (by rw [length_map,hl];exact qb5k hzb.1 hzb.2) ?_;rw [← List.map_set];refine hN2 _ ⟨_,ms.set z.toNat (i:Int),rfl,by rw [length_set];exact hl,fun k p hk hki hpk=>?_,fun p hpt=>?_⟩
   ·have hne:p ≠ z.toNat:=fun e=>by
     have ez:(p:Int)=z:=by omega
     rw [ez] at hpk;have:=hp.dis hk hi2 hpk (by rw [et];exact hzm);omega
    rw [getD_eq_getElem?_getD,getElem?_set_ne (Ne.symm hne),← getD_eq_getElem?_getD];exact hms k p hk hki hpk
   ·by_cases e:p=z.toNat
    ·subst e
     rw [getD_eq_getElem?_getD,getElem?_set_self 'o'];rfl
    ·rw [getD_eq_getElem?_getD,getElem?_set_ne (Ne.symm e),← getD_eq_getElem?_getD]
     rw [take_add_one,hz,toList_some,mem_append,mem_singleton] at hpt;rcases hpt with hpt | hpt
     ·exact hmi p hpt
     ·exact absurd (show p=z.toNat by omega) e
  ·rintro ρ ⟨v5,ms,rfl,hl,hms,hmi⟩
   refine hN _ ⟨_,_,v5,ms,rfl,hl,'o',fun k p hk hlt hm=>?_⟩;rw [length_map,take_length] at hmi;rcases Nat.lt_or_ge k i with c | c
   ·exact hms k p hk c hm
   ·have ek:k=i:=by omega
    subst ek;rw [et] at hm;exact hmi p hm
 ·rintro ρ ⟨v3,v4,v5,ms,rfl,hl,hi,hms⟩
  rw [qb1e,length_map] at hms;lia;have em:ms=mks m tss:=by
   show ms=(List.range m).map fun p=>(mkAt tss p:Int);apply List.ext_getElem
   ·simp [hl]
   ·intro p h1 h2
    obtain⟨t,ht,hpt⟩:=hp.cov p 'o';obtain⟨k,hk,ek⟩:=getElem_of_mem ht;have hm2:(p:Int) ∈ tss[k]:=by rw [ek];exact hpt
    have:=hms k p hk hk hm2;rw [getD_eq_getElem?_getD,getElem?_eq_getElem h1] at this;rw [List.getElem_map,List.getElem_range,hp.mkAt_eq hk hm2];exact this
  rw [em];exact q
def qb1r:DSp:=fun ls Q=>∃ ms:List Int,ls=[.d (.list (ms.map .int))]/\ms.length <= 60/\Q (.d (.tuple ((Sx.srtT (grpD ms)).map encT))) [none]
abbrev qa7q:Stmt:=top 9
def qa6s:FnScope ["marks","parts","point","mark"] ["marks"] (qa0k qa7q):='a'
def qc0t{f:Addr}{fd:FuncData} (F:FU K "parts_by" qa7q f fd) (B:Bl mg):FO P w K mg base (n + 1) f fd ["marks"] qb1r:=by
 refine F.dok qa6s (fun cdv A outer s H E hr ls Qd h=>?_) (fun ls Qd h=>by obtain⟨_,e,_⟩:=h;rw [e];rfl);obtain⟨ms,rfl,hl,q⟩:=h;refine⟨rfl,qb8t,⟨_,qa1k (qa3c (i:=1) qa6s.nd rfl 'f' qb2v) (qa1k (qb7b PassesOwn.never rfl (pi_enum rfl B.enumerate_ (pv 0)) (pg_tup rfl (qb2l (qa9f (i:=2) qa6s.nd rfl 'f') (qb2l (qa9f (i:=3) qa6s.nd rfl 'f') qc1f)))
  (qa2j (qc1e (pe_bm PySem.F.plainAttrs_list PySem.F.slot_list_append PySem.F.type_list_append qb0v (pe_bm PySem.F.plainAttrs_dict PySem.F.slot_dict_setdefault PySem.F.type_dict_setdefault qc6z (pv 1) (qa0s (pv 3) (qa0s (qb7d qa1s) qa1s))) (qa0s (pv 2) qa1s)))))
  (qa2j (qa6w (qa6x qa0u rfl B.tuple_ qa1i (qa0s (qa3k qb1m rfl B.sorted_ qa5c (qa0s (qc1p (own:=["part"]) (cap:=[]) rfl (by rfl) 'k' (pi_vals (pv 1)) (fun _ _ _=>qa9f (i:=0) (show(["part"]:List Str).Nodup by decide +kernel) rfl 'f') (fun _ _ _=>qc1o) (fun _ _ _=>qa6x qa0u rfl B.tuple_ qa1i (qa0s (pv 0) qa1s))) qa1s)) qa1s))))),qc4h⟩,?_⟩
 exact⟨ms,rfl,hl,rfl,q⟩
noncomputable def jm(m:Nat)(tss:List 'h')(p q:Nat):List Int:=(mks m tss).map fun k=>if k=(mkAt tss q:Int) then(mkAt tss p:Int) else k
def qb9l:DSp:=fun ls Q=>∃ (tss:List 'h') (m p q:Nat),ls=[.d (.tuple (tss.map encT)),.d (.int (p:Int)),.d (.int (q:Int))]/\m <= 20/\p < m/\q < m/\Parts m tss/\Q (.d (.tuple ((Sx.srtT (grpD (jm m tss p q))).map encT))) [none,none,none]
def mks_len(m:Nat)(tss:List 'h'):(mks m tss).length=m:=by unfold mks;simp
def mks_at{m p:Nat}{tss:List 'h'}(h:p < m):(mks m tss)[p]? = some (mkAt tss p:Int):=by unfold mks;rw [getElem?_map,List.getElem?_range h];rfl
def qc2u:∀ tss:List 'h',(tss.map fun t=>(t.length:Int)).sum=(tss.flatten.length:Int)
 | []=>rfl
 | t :: r=>by
  rw [map_cons,List.sum_cons,qc2u r,flatten_cons,length_append];omega
abbrev qa4j:Stmt:=top 29
def qa8v:FnScope ["parts","one","other","marks"] ["parts","one","other"] (qa0k qa4j):='a'
def qc7l{f f1 f2:Addr}{fd fd1 fd2:FuncData} (F:FU K "joined_parts" qa4j f fd) (B:Bl mg) (d_marks_of:Def K mg "marks_of" qa7p ["parts","many"] f1 fd1) (g_marks_of:FO P w K mg base n f1 fd1 ["parts","many"] qb5l) (d_parts_by:Def K mg "parts_by" qa7q ["marks"] f2 fd2) (g_parts_by:FO P w K mg base n f2 fd2 ["marks"] qb1r):FO P w K mg base (n + 1) f fd ["parts","one","other"] qb9l:=by
 refine F.dok qa8v (fun cdv A outer s H E hr ls Qd h=>?_) (fun ls Qd h=>by obtain⟨_,_,_,_,e,_⟩:=h;rw [e];rfl);obtain⟨tss,m,p,q2,rfl,hm,hp,hq,hP,q⟩:=h;refine⟨rfl,?_⟩;refine⟨_,(qa0g (qa1l (i:=3) qa8v.nd rfl (Or.inr rfl) (qa0i [false,false] d_marks_of g_marks_of hr rfl (qa0a (dv 0) (qa0a (qa1f (qc6k rfl) ad_sum rfl B.sum_ bt_sum (qa0a (qa1c (qa2c ["part"] [] rfl (by rfl) 'k' (qa2f (dv 0)) (fun _ _ _=>(qa1b (i:=0) (show(["part"]:List Str).Nodup by decide +kernel) rfl 'f')) 'A' (fun _ _ _=>(qa1f qa1p qa3g rfl B.len_ qa2r 'y')))) qa0b)) qa0b))))
  (qa0j (qa0q (qa0i [false] d_parts_by g_parts_by hr rfl (qa0a (qa1c (qa2c ["mark"] [("marks",3),("other",2),("one",1)] rfl (by rfl) 'k' (qa2f (dv 3)) (fun _ _ _=>(qa1b (i:=0) (show(["mark","marks","other","one"]:List Str).Nodup by decide +kernel) rfl 'f')) 'A' (fun _ _ _=>(de_if (qa1d (qa2n hr.units) qa2m (dv 0) (qa0o qa0l qa0p (dv 1) (dv 2) 'b') (qa0x _)) (qa0o qa0l qa0p (dv 1) (dv 3) 'b') (dv 0))))) qa0b))))),?_⟩
 have hlen:=hP.len;lia;refine⟨by rw [length_map];omega,?_⟩;refine L2.qa2g (fun ρ=>∃ v0:Option L,ρ=[v0]) (fun y=>match y with | .tuple xs=>some (.int (xs.length:Int)) | _=>none) ⟨_,rfl⟩ ?_ ?_
 ·rintro y ρ N hy ⟨v0,rfl⟩ hN
  obtain⟨c,hc,rfl⟩:=mem_map.mp hy;lia;exact hN _ ⟨_,rfl⟩
 rintro ρ _;have ef:(tss.map encT).filterMap (fun y=>match y with | .tuple xs=>some (PyData.int (xs.length:Int)) | _=>none)=(tss.map fun t=>(t.length:Int)).map .int:=by
  clear hP hlen q;induction tss with
  | nil=>rfl
  | cons c r ih=>rw [map_cons,filterMap_cons,ih];simp
 rw [ef];have hfl:=hP.flat.length_eq;rw [length_map,length_range] at hfl;refine qa0t (x:=.int (m:Int)) (by show(qa2q _).map _=_;rw [ints_of,map_some,qc2u,hfl]) ⟨tss,m,rfl,hm,hP,?_⟩;lia;have hml:=mks_len m tss;refine⟨by rw [length_map];omega,?_⟩;refine L2.qa2g (fun ρ=>∃ v0:Option L,ρ=[v0,some (.d (.list ((mks m tss).map .int))),some (.d (.int (q2:Int))),some (.d (.int (p:Int)))]) (fun y=>match y with | .int k=>some (.int (if k=(mkAt tss q2:Int) then(mkAt tss p:Int) else k)) | _=>none) ⟨_,rfl⟩ ?_ ?_
 ·rintro y ρ N hy ⟨v0,rfl⟩ hN
  obtain⟨c,hc,rfl⟩:=mem_map.mp hy;lia;refine qa5b 'o' (by rw [length_map];omega) fun d hd hdi=>?_;rw [show((q2:Int)).toNat=q2 by omega,getElem?_map,mks_at hq] at hdi;cases hdi;lia;refine qa1n (fun e=>?_) (fun e=>?_)
  ·lia
   refine qa5b 'o' (by rw [length_map];omega) fun d hd hdi=>?_;rw [show((p:Int)).toNat=p by omega,getElem?_map,mks_at hp] at hdi;cases hdi;lia;simp only [if_pos e] at hN;exact hN _ ⟨_,rfl⟩
  ·lia
   simp only [if_neg e] at hN;exact hN _ ⟨_,rfl⟩
 ·rintro ρ _
  have eg:((mks m tss).map PyData.int).filterMap (fun y=>match y with | .int k=>some (PyData.int (if k=(mkAt tss q2:Int) then(mkAt tss p:Int) else k)) | _=>none)=(jm m tss p q2).map .int:=by
   unfold jm;generalize mks m tss=l;induction l with
   | nil=>rfl
   | cons c r ih=>rw [map_cons,filterMap_cons,ih];simp
  rw [eg];lia;refine⟨_,rfl,by unfold jm;rw [length_map];omega,?_⟩;lia;exact q
noncomputable def low(c:Nat):Bool:=decide (97 <= c) && decide (c <= 122)
noncomputable def qa2h(x:Str):Bool:=decide (1 <= x.length) && decide (x.length <= 8) && x.cps.toList.all low
noncomputable def isName:PyData->Bool
 | .str x=>qa2h x
 | _=>false
def leC_a(c:Nat):leC "a" ⟨#[c]⟩=decide (97 <= c):=by
 have e:(Str.ofString "a").cps.toList=[97]:=by decide +kernel
 unfold leC;rw [e];show decide ([97] <= [c])=_;rw [Bool.eq_iff_iff];simp [List.cons_le_cons_iff];omega
def leC_z(c:Nat):leC ⟨#[c]⟩ "z" = decide (c <= 122):=by
 have e:(Str.ofString "z").cps.toList=[122]:=by decide +kernel
 unfold leC;rw [e];show decide ([c] <= [122])=_;rw [Bool.eq_iff_iff];simp [List.cons_le_cons_iff];omega
def fLen_s{x:Str}(h:x.length <= 1000):fLen [.str x]=some (.int (x.length:Int)):=if_pos (by rw [sizeLine_eq];omega)
def qa9t:DSp:=fun ls Q=>∃ d:PyData,ls=[.d d]/\(∀ x,d=.str x->x.length <= 1000)/\Q (.d (.bool (isName d))) [none]
def qc2v(x:Str):x.cps.toList.length=x.length:=by simp [Str.length]
abbrev qa8w:Stmt:=top 3
def qc4o:FnScope ["thing"] ["thing"] (qa0k qa8w):='a'
def ok_name{f:Addr}{fd:FuncData} (F:FU K "is_name" qa8w f fd) (B:Bl mg) (m_LONGEST_NAME:∃ t,mg "LONGEST_NAME" = some (.int 8 t)):FO P w K mg base (n + 1) f fd ["thing"] qa9t:=by
 refine F.dok qc4o (fun cdv A outer s H E hr ls Qd h=>?_) (fun ls Qd hq8=>by obtain⟨_,e,_⟩:=hq8;rw [e];rfl);obtain⟨d,rfl,hl,q⟩:=h;refine⟨rfl,?_⟩;refine⟨_,(qa0g (qa1r (qa3r (qa4m (qa5j rfl B.isinstance_ rfl B.str_ qb7p rfl (dv 0))))
  'w'
  qa1a)
  (qa0j (qa0q (qa4a (qb0e op_le (qa2x _) op_le (qa2x _) qa0d (qa1f qa1p qa3g rfl B.len_ qa2r 'y') (de_gint rfl m_LONGEST_NAME)) (qa4n (qa1f (qb6i rfl) qc2k rfl B.all_ bt_all (qa0a (qa1c (qa2c ["sign"] [] rfl (by rfl) 'k' (di_str (dv 0)) (fun _ _ _=>(qa1b (i:=0) (show(["sign"]:List Str).Nodup by decide +kernel) rfl 'f')) 'A' (fun _ _ _=>(qb0e op_leS ad_leS op_leS ad_leS qa0n (dv 0) qa0n)))) qa0b))))))),?_⟩
 lia;cases d with
 | str x =>
  rw [show isD "str" (.str x)=true from rfl];lia;have hx:=hl x rfl;rw [fLen_s 'o',qa2l];lia;refine qa1n (fun c1=>?_) (fun c1=>?_)
  ·lia
   refine qa1n (fun c2=>?_) (fun c2=>?_)
   ·refine⟨by rw [length_map,qc2v];omega,?_⟩
    refine L2.qa2g (fun ρ=>∃ v0:Option L,ρ=[v0]) (fun d=>match d with | .str z=>some (.bool (z.cps.toList.all low)) | _=>none) ⟨_,rfl⟩ ?_ ?_
    ·rintro y ρ N hy ⟨v0,rfl⟩ hN
     obtain⟨c,hc,rfl⟩:=mem_map.mp hy;lia;rw [leC_a,leC_z];have el:(Str.cps ⟨#[c]⟩).toList.all low=(decide (97 <= c) && decide (c <= 122)):=by simp [low]
     simp only [el] at hN;refine qa1n (fun c3=>?_) (fun c3=>?_)
     ·lia
      rw [decide_eq_true c3,Bool.true_and] at hN;exact hN _ ⟨_,rfl⟩
     ·lia
      rw [decide_eq_false c3,Bool.false_and] at hN;exact hN _ ⟨_,rfl⟩
    ·rintro ρ _
     have ef:(signs x).filterMap (fun d=>match d with | .str z=>some (PyData.bool (z.cps.toList.all low)) | _=>none)=(x.cps.toList.map low).map .bool:=by
      unfold signs;generalize x.cps.toList=l;induction l with
      | nil=>rfl
      | cons c r ih=>rw [map_cons,filterMap_cons,ih];simp
     rw [ef,qb8i,qa2l];have en:isName (.str x)=(x.cps.toList.map low).all id:=by
      show qa2h x=_;unfold qa2h;rw [decide_eq_true (show 1 <= x.length by omega),decide_eq_true (show x.length <= 8 by omega)];simp
     rw [← en];exact q
   ·have en:isName (.str x)=false:=by
     show qa2h x=_;unfold qa2h;rw [decide_eq_false (show ¬ x.length <= 8 by omega)];simp
    rw [en] at q;exact q
  ·have en:isName (.str x)=false:=by
    show qa2h x=_;unfold qa2h;rw [decide_eq_false (show ¬ 1 <= x.length by omega)];simp
   rw [en] at q;exact q
 | _ =>
  first
   | rw [show isD "str" PyData.none=false from rfl]
   | (rename_i y;rw [show isD "str" (PyData.bool y)=false from rfl])
   | (rename_i y;rw [show isD "str" (PyData.int y)=false from rfl])
   | (rename_i y;rw [show isD "str" (PyData.list y)=false from rfl])
   | (rename_i y;rw [show isD "str" (PyData.tuple y)=false from rfl])
   | (rename_i y;rw [show isD "str" (PyData.dict y)=false from rfl])
  lia;exact q
inductive Ch where
 | fact (z:Str) (p:Nat)
 | move (p q:Nat)
 | split (z:Str) (ps:List Int)
 | join (z:Str) (p q:Nat)
noncomputable def Ch.enc:Ch->PyData
 | .fact z p=>.tuple [.str "fact",.str z,.int (p:Int)]
 | .move p q=>.tuple [.str "move",.int (p:Int),.int (q:Int)]
 | .split z ps=>.tuple [.str "split",.str z,encT ps]
 | .join z p q=>.tuple [.str "join",.str z,.int (p:Int),.int (q:Int)]
noncomputable def Ch.ok(m:Nat):Ch->Prop
 | .fact z p=>qa2h z=true/\p < m
 | .move p q=>p < m/\q < m
 | .split z ps=>qa2h z=true/\InR m ps
 | .join z p q=>qa2h z=true/\p < m/\q < m
noncomputable def isW:PyData->Bool
 | .int _=>true
 | _=>false
noncomputable def ptD(m:Nat):PyData->Bool
 | .int p=>decide (0 <= p) && decide (p < (m:Int))
 | _=>false
noncomputable def ptsR(m:Nat):Int->List PyData->Bool
 | _,[]=>true
 | a,.int p :: r=>decide (a < p) && decide (p < (m:Int)) && ptsR m p r
 | _,_ :: _=>false
noncomputable def ptsD(m:Nat):PyData->Bool
 | .tuple xs=>ptsR m (-1) xs
 | _=>false
noncomputable def okC(m:Nat):PyData->Bool
 | .tuple [a,b,c]=>if isT "fact" a=true then isName b && ptD m c else if isT "split" a=true then isName b && ptsD m c else isT "move" a && ptD m b && ptD m c
 | .tuple [a,b,c,d]=>isT "join" a && isName b && ptD m c && ptD m d
 | _=>false
structure Bd(y:PyData):Prop where
 s:∀ z,y=.str z->z.length <= 1000
 o:∀ z,y=.str z->PyData.strOk z=true
 t:∀ ys,y=.tuple ys->ys.length <= 50
def Gx(x:PyData):Prop:=∀ xs,x=.tuple xs->xs.length <= 50/\∀ y ∈ xs,Bd y
def spWh:DSp:=fun ls Q=>∃ d:PyData,ls=[.d d]/\Q (.d (.bool (isW d))) [none]
def qb5m:DSp:=fun ls Q=>∃ (d:PyData) (m:Nat),ls=[.d d,.d (.int (m:Int))]/\Q (.d (.bool (ptsD m d))) [none,none]
def qb3b:DSp:=fun ls Q=>∃ (xs:List PyData) (m:Nat),ls=[.d (.tuple xs),.d (.int (m:Int))]/\xs.length <= 50/\Q (.d (.bool (xs.all (ptD m)))) [none,none]
def qb9m:DSp:=fun ls Q=>∃ (x:PyData) (m:Nat),ls=[.d x,.d (.int (m:Int))]/\Gx x/\Q (.d (.bool (okC m x))) [none,none]
abbrev qa5m:Stmt:=top 2
def qc0u:FnScope ["thing"] ["thing"] (qa0k qa5m):='a'
def qd1q{f:Addr}{fd:FuncData} (F:FU K "is_whole" qa5m f fd) (B:Bl mg):FO P w K mg base (n + 1) f fd ["thing"] spWh:=by
 refine F.dok qc0u (fun cdv A outer s H E hr ls Qd h=>?_) (fun ls Qd h=>by obtain⟨_,e,_⟩:=h;rw [e];rfl);obtain⟨p,rfl,q⟩:=h;refine⟨rfl,?_⟩;refine⟨_,(qa0j (qa0q (qa4a (qa5j rfl B.isinstance_ rfl B.int_ qb7o rfl (dv 0)) (qa4n (de_not (qa5j rfl B.isinstance_ rfl B.bool_ qc1r rfl (dv 0))))))),?_⟩;lia;have e:isW p=(isD "int" p && !isD "bool" p):=by cases p<;>rfl
 rw [e] at q;cases h1:isD "int" p with
 | true =>
  rw [h1] at q;walk_at "dk";cases h2:isD "bool" p with
  | true=>rw [h2] at q;walk_at "dk";exact q
  | false=>rw [h2] at q;walk_at "dk";exact q
 | false=>rw [h1] at q;walk_at "dk";exact q
abbrev qa6t:Stmt:=top 5
def qa5n:FnScope ["thing","many","ahead","point"] ["thing","many"] (qa0k qa6t):='a'
def qb9n{f f1:Addr}{fd fd1:FuncData} (F:FU K "is_points" qa6t f fd) (B:Bl mg) (d_is_whole:Def K mg "is_whole" qa5m ["thing"] f1 fd1) (g_is_whole:FO P w K mg base n f1 fd1 ["thing"] spWh):FO P w K mg base (n + 1) f fd ["thing","many"] qb5m:=by
 refine F.dok qa5n (fun cdv A outer s H E hr ls Qd h=>?_) 'n';obtain⟨d,m,rfl,q⟩:=h;refine⟨rfl,?_⟩;refine⟨_,(qa0g (qa1r (qa3r (qa4m (qa5j rfl B.isinstance_ rfl B.tuple_ qa1i rfl (dv 0))))
  'w'
  qa1a)
  (qa0g (qa1l (i:=2) qa5n.nd rfl 'f' (qb8f qa0d))
  (qa0g (qa6y PassesOwn.never rfl (qa2f (dv 0)) (qa1b (i:=3) qa5n.nd rfl 'f')
  (qa0g (qa1r (DW.toT (dw_or (qa3r (qa4m (qa0i [false] d_is_whole g_is_whole hr rfl (qa0a (dv 3) qa0b)))) (qb3n (qa3r (qb7t op_lt (qa2x _) op_lt (qa2x _) (dv 2) (dv 3) (dv 1))))))
  'w'
  qa1a)
  (qa0j (qa1l (i:=2) qa5n.nd rfl 'f' (dv 3)))))
  'w'))),?_⟩
 lia;cases ht:isD "tuple" d with
 | false =>
  walk_at "dk";have e:ptsD m d=false:=by cases d<;>first | rfl | cases ht
  rw [e] at q;exact q
 | true =>
  obtain⟨xs,rfl⟩:∃ xs,d=.tuple xs:=by cases d<;>first | exact⟨_,rfl⟩ | cases ht
  walk_at "dk";refine qa4b (fun i ρ=>∃ (v3:Option L) (a:Int),ρ=[some (.d (.tuple xs)),some (.d (.int (m:Int))),some (.d (.int a)),v3]/\ptsR m (-1) xs=ptsR m a (xs.drop i)) ⟨none,-1,rfl,rfl⟩ ?_ ?_
  ·rintro i x ρ N hx ⟨v3,a,rfl,ha⟩ hN
   obtain⟨hi,ex⟩:=List.getElem?_eq_some_iff.mp hx;rw [drop_eq_getElem_cons hi,ex] at ha;lia;refine⟨x,rfl,?_⟩;lia;cases hw:isW x with
   | false =>
    walk_at "dk";have e:ptsD m (.tuple xs)=false:=by
     show ptsR m (-1) xs=false;rw [ha];cases x<;>first | rfl | cases hw
    rw [e] at q;exact q
   | true =>
    obtain⟨p,rfl⟩:∃ p,x=.int p:=by cases x<;>first | exact⟨_,rfl⟩ | cases hw
    walk_at "dk";have e:ptsR m (-1) xs=(decide (a < p) && decide (p < (m:Int)) && ptsR m p (xs.drop (i + 1))):=ha;refine qa1n (fun c=>?_) (fun c=>?_)
    ·walk_at "dk"
     by_cases c2:p < (m:Int)
     ·rw [decide_eq_true c2]
      walk_at "dk";rw [decide_eq_true c,decide_eq_true c2] at e;exact hN _ ⟨_,p,rfl,e⟩
     ·rw [decide_eq_false c2]
      walk_at "dk";rw [decide_eq_false c2,Bool.and_false,Bool.false_and] at e;rw [show ptsD m (.tuple xs)=false from e] at q;exact q
    ·walk_at "dk"
     rw [decide_eq_false c,Bool.false_and,Bool.false_and] at e;rw [show ptsD m (.tuple xs)=false from e] at q;exact q
  ·rintro ρ ⟨v3,a,rfl,ha⟩
   rw [List.drop_length] at ha;lia;rw [show ptsD m (.tuple xs)=true from ha] at q;exact q
abbrev qa5o:Stmt:=top 26
def qb6u:FnScope ["things","many"] ["things","many"] (qa0k qa5o):='a'
def qb6v{f f1:Addr}{fd fd1:FuncData} (F:FU K "are_points" qa5o f fd) (B:Bl mg) (d_is_whole:Def K mg "is_whole" qa5m ["thing"] f1 fd1) (g_is_whole:FO P w K mg base n f1 fd1 ["thing"] spWh):FO P w K mg base (n + 1) f fd ["things","many"] qb3b:=by
 refine F.dok qb6u (fun cdv A outer s H E hr ls Qd h=>?_) 'n';obtain⟨xs,m,rfl,hl,q⟩:=h;refine⟨rfl,?_⟩;refine⟨_,(qa0j (qa0q (qa1f (qb6i rfl) qc2k rfl B.all_ bt_all (qa0a (qa1c (qa2c ["thing"] [("many",1)] rfl (by rfl) 'k' (qa2f (dv 0)) (fun _ _ _=>(qa1b (i:=0) (show(["thing","many"]:List Str).Nodup by decide +kernel) rfl 'f')) 'A' (fun _ _ _=>(qa4a (qa0i [false] d_is_whole g_is_whole hr rfl 'y') (qa4n (qb0e op_le (qa2x _) op_lt (qa2x _) qa0d (dv 0) (dv 1))))))) qa0b)))),?_⟩;lia;refine⟨'o',?_⟩;refine L2.qa2g (fun ρ=>∃ v0:Option L,ρ=[v0,some (.d (.int (m:Int)))]) (fun y=>some (.bool (ptD m y))) ⟨_,rfl⟩ ?_ ?_
 ·rintro y ρ N hy ⟨v0,rfl⟩ hN
  lia;refine⟨y,rfl,?_⟩;lia;cases hw:isW y with
  | false =>
   walk_at "dk";rw [show ptD m y=false by cases y<;>first | rfl | cases hw] at hN;exact hN _ ⟨_,rfl⟩
  | true =>
   obtain⟨p,rfl⟩:∃ p,y=.int p:=by cases y<;>first | exact⟨_,rfl⟩ | cases hw
   rw [show ptD m (.int p)=(decide (0 <= p) && decide (p < (m:Int))) from rfl] at hN;walk_at "dk";refine qa1n (fun c=>?_) (fun c=>?_)
   ·walk_at "dk"
    rw [decide_eq_true c,Bool.true_and] at hN;exact hN _ ⟨_,rfl⟩
   ·walk_at "dk"
    rw [decide_eq_false c,Bool.false_and] at hN;exact hN _ ⟨_,rfl⟩
 ·rintro ρ _
  have ef:xs.filterMap (fun y=>some (PyData.bool (ptD m y)))=(xs.map (ptD m)).map .bool:=by
   clear hl q;induction xs with
   | nil=>rfl
   | cons c r ih=>rw [filterMap_cons,ih];rfl
  rw [ef,qb8i,qa2l,show(xs.map (ptD m)).all id=xs.all (ptD m) by rw [all_map];rfl];exact q
def u65{a b:Nat}(h:a + 80 < b):a + 65 < b:=by omega
abbrev qa6u:Stmt:=top 25
def qb9o:FnScope ["thing","many"] ["thing","many"] (qa0k qa6u):='a'
def qb9p{f f1 f2 f3:Addr}{fd fd1 fd2 fd3:FuncData} (F:FU K "is_change" qa6u f fd) (B:Bl mg) (d_is_name:Def K mg "is_name" qa8w ["thing"] f1 fd1) (g_is_name:FO P w K mg base n f1 fd1 ["thing"] qa9t)
  (d_are_points:Def K mg "are_points" qa5o ["things","many"] f2 fd2) (g_are_points:FO P w K mg base n f2 fd2 ["things","many"] qb3b) (d_is_points:Def K mg "is_points" qa6t ["thing","many"] f3 fd3) (g_is_points:FO P w K mg base n f3 fd3 ["thing","many"] qb5m):FO P w K mg base (n + 1) f fd ["thing","many"] qb9m:=by
 refine F.dok qb9o (fun cdv A outer s H E hr ls Qd h=>?_) 'n';obtain⟨x,m,rfl,G,q⟩:=h;refine⟨rfl,?_⟩;refine⟨_,(qa0g (qa1r (DW.toT (dw_or (qa3r (qa4m (qa5j rfl B.isinstance_ rfl B.tuple_ qa1i rfl (dv 0)))) (qb3n (qa1d qb2e ad_in (qa1f qa1p qa3g rfl B.len_ qa2r 'y') (qa0y (qa0a qa0d 'u')) (by rfl)))))
  'w'
  qa1a)
  (qa0g (qa1r (qa1d (qa2n hr.units) qa2m (qa1f qa1p qa3g rfl B.len_ qa2r 'y') qa0d (qa0x _))
  (qa0j (qa0q (qa4a (qa8g (qb4c hr.units) qb4d 't' qa0n (qa0x _)) (qa4a (qa0i [false] d_is_name g_is_name hr rfl (qa0a 't' qa0b)) (qa4n (qa0i [false,false] d_are_points g_are_points hr rfl 'B'))))))
  qa1a)
  (qa0g (qa1r (qa1d (qb4c hr.units) qb4d 't' qa0n (qa0x _))
  (qa0j (qa0q (qa4a (qa0i [false] d_is_name g_is_name hr rfl (qa0a 't' qa0b)) (qa4n (qa0i [false,false] d_are_points g_are_points hr rfl 'B')))))
  qa1a)
  (qa0g (qa1r (qa1d (qb4c hr.units) qb4d 't' qa0n (qa0x _))
  (qa0j (qa0q (qa4a (qa0i [false] d_is_name g_is_name hr rfl (qa0a 't' qa0b)) (qa4n (qa0i [false,false] d_is_points g_is_points hr rfl (qa0a 't' (qa0a (dv 1) qa0b)))))))
  qa1a)
  (qa0j (qa0q (qa4a (qa8g (qb4c hr.units) qb4d 't' qa0n (qa0x _)) (qa4n (qa0i [false,false] d_are_points g_are_points hr rfl 'B'))))))))),?_⟩
 lia;cases ht:isD "tuple" x with
 | false =>
  walk_at "dk";rw [show okC m x=false by cases x<;>first | rfl | cases ht] at q;exact q
 | true =>
  obtain⟨xs,rfl⟩:∃ xs,x=.tuple xs:=by cases x<;>first | exact⟨_,rfl⟩ | cases ht
  obtain⟨hl,hb⟩:=G xs rfl;rcases xs with _ | ⟨a,_ | ⟨b,_ | ⟨c,_ | ⟨d,_ | ⟨e,r⟩⟩⟩⟩⟩
  ·walk_at "dk";exact q
  ·walk_at "dk";exact q
  ·walk_at "dk";exact q
  ·have hbn:∀ z,b=.str z->z.length <= 1000:=(hb b 'g').s
   rw [show okC m (.tuple [a,b,c])=(if isT "fact" a=true then isName b && ptD m c else if isT "split" a=true then isName b && ptsD m c else isT "move" a && ptD m b && ptD m c) from rfl] at q;walk_at "dk";cases h1:isT "fact" a with
   | true =>
    rw [h1,if_pos rfl] at q;walk_at "dk";refine⟨b,rfl,hbn,?_⟩;walk_at "dk";cases h2:isName b with
    | true =>
     rw [h2,Bool.true_and] at q;walk_at "dk";refine qa0t (x:=.tuple [c]) rfl ⟨[c],m,rfl,by simp,?_⟩;rw [show [c].all (ptD m)=ptD m c by simp];exact q
    | false =>
     rw [h2,Bool.false_and] at q;walk_at "dk";exact q
   | false =>
    rw [h1,if_neg Bool.false_ne_true] at q;walk_at "dk";cases h2:isT "split" a with
    | true =>
     rw [h2,if_pos rfl] at q;walk_at "dk";refine⟨b,rfl,hbn,?_⟩;walk_at "dk";cases h3:isName b with
     | true =>
      rw [h3,Bool.true_and] at q;walk_at "dk";refine⟨c,m,rfl,?_⟩;exact q
     | false =>
      rw [h3,Bool.false_and] at q;walk_at "dk";exact q
    | false =>
     rw [h2,if_neg Bool.false_ne_true] at q;walk_at "dk";cases h3:isT "move" a with
     | true =>
      rw [h3,Bool.true_and] at q;walk_at "dk";refine qa0t (x:=.tuple [b,c]) rfl ⟨[b,c],m,rfl,by simp,?_⟩;rw [show [b,c].all (ptD m)=(ptD m b && ptD m c) by simp];exact q
     | false =>
      rw [h3,Bool.false_and,Bool.false_and] at q;walk_at "dk";exact q
  ·have hbn:∀ z,b=.str z->z.length <= 1000:=(hb b 'g').s
   rw [show okC m (.tuple [a,b,c,d])=(isT "join" a && isName b && ptD m c && ptD m d) from rfl] at q;walk_at "dk";cases h1:isT "join" a with
   | true =>
    rw [h1,Bool.true_and] at q;walk_at "dk";refine⟨b,rfl,hbn,?_⟩;walk_at "dk";cases h2:isName b with
    | true =>
     rw [h2,Bool.true_and] at q;walk_at "dk";refine qa0t (x:=.tuple [c,d]) rfl ⟨[c,d],m,rfl,by simp,?_⟩;rw [show [c,d].all (ptD m)=(ptD m c && ptD m d) by simp];exact q
    | false =>
     rw [h2,Bool.false_and,Bool.false_and] at q;walk_at "dk";exact q
   | false =>
    rw [h1,Bool.false_and,Bool.false_and,Bool.false_and] at q;walk_at "dk";exact q
  ·walk_at "dk"
   rw [decide_eq_false (show ¬ (3:Int)=((r.length + 1 + 1 + 1 + 1 + 1:Nat):Int) by omega),decide_eq_false (show ¬ (4:Int)=((r.length + 1 + 1 + 1 + 1 + 1:Nat):Int) by omega)];walk_at "dk";exact q
def qc2w:∀ t:List Int,ndA (t.map .int)=true
 | []=>rfl
 | x :: r=>by
  show ndA (PyData.int x :: r.map .int)=true;unfold ndA;rw [qc2w r];rfl
def nd_T(t:List Int):ndD (encT t)=true:=by unfold encT ndD;exact qc2w t
def qb4g{α:Type}{e:α->PyData}(h:∀ x,ndD (e x)=true):∀ xs:List α,ndA (xs.map e)=true
 | []=>rfl
 | x :: r=>by
  show ndA (e x :: r.map e)=true;unfold ndA;rw [h x,qb4g h r];rfl
def nd_TT(ts:List 'h'):ndD (.tuple (ts.map encT))=true:=by unfold ndD;exact qb4g nd_T ts
def qc2x{q:Str × PyData}(h:ndD q.2=true):ndD (qa2y q)=true:=by
 unfold qa2y ndD ndA ndA ndA;rw [h];unfold ndD;rfl
def nd_F(f:Str × List Int):ndD (encF f)=true:=qc2x (q:=(f.1,encT f.2)) (nd_T _)
def nd_S(f:Str × List 'h'):ndD (encS f)=true:=qc2x (q:=(f.1,.tuple (f.2.map encT))) (nd_TT _)
noncomputable def sgl(m:Nat):List 'h':=(List.range m).map fun p:Nat=>[(p:Int)]
noncomputable def lookS(W:Wd)(z:Str):List 'h':=((W.sights.find? fun s=>decide (s.1=z)).map (·.2)).getD (sgl W.many)
structure Gw(W:Wd):Prop where
 m1:1 <= W.many
 m2:W.many <= 9
 mv:W.moves.length=W.many
 mr:∀ t ∈ W.moves,InR W.many t
 fl:W.facts.length <= 4
 fn:(W.facts.map (·.1)).Nodup
 fr:∀ f ∈ W.facts,InR W.many f.2
 sl:W.sights.length <= 4
 sn:(W.sights.map (·.1)).Nodup
 sr:∀ s ∈ W.sights,Parts W.many s.2
noncomputable def spChX(NC:Addr):DSpX:=fun ls Q X=>∃ (W:Wd) (x:PyData),ls=[.d W.enc,.d x]/\Gw W/\Gx x/\(okC W.many x=true->∀ r,Q r [none,none])/\(okC W.many x=false->X NC)
def pt_of{m:Nat}{d:PyData}(h:ptD m d=true):∃ p:Nat,d=.int (p:Int)/\p < m:=by
 cases d with
 | int p =>
  have h:(decide (0 <= p) && decide (p < (m:Int)))=true:=h;rw [and_eq_true,decide_eq_true_eq,decide_eq_true_eq] at h;exact⟨p.toNat,by congr 1;omega,'o'⟩
 | _=>exact nomatch h
def qb9q{m:Nat}:∀ {xs:List PyData} {a:Int},ptsR m a xs=true->∃ ps:List Int,xs=ps.map .int/\(∀ x ∈ ps,a < x/\x < (m:Int))/\ps.Pairwise (· < ·)
 | [],_,_=>⟨[],rfl,fun x hx=>absurd hx not_mem_nil,List.Pairwise.nil⟩
 | .int p :: r,a,h=>by
  have h:(decide (a < p) && decide (p < (m:Int)) && ptsR m p r)=true:=h;rw [and_eq_true,and_eq_true,decide_eq_true_eq,decide_eq_true_eq] at h;obtain⟨ps,rfl,h1,h2⟩:=qb9q h.2;refine⟨p :: ps,rfl,fun x hx=>?_,pairwise_cons.mpr ⟨fun y hy=>(h1 y hy).1,h2⟩⟩;rcases mem_cons.mp hx with rfl | hx
  ·exact h.1
  ·have:=h1 x hx;have:=h.1;omega
 | .none :: _,_,h=>nomatch h
 | .bool _ :: _,_,h=>nomatch h
 | .str _ :: _,_,h=>nomatch h
 | .list _ :: _,_,h=>nomatch h
 | .tuple _ :: _,_,h=>nomatch h
 | .dict _ :: _,_,h=>nomatch h
def qb5n{d:PyData}(h:isName d=true):∃ z,d=.str z/\qa2h z=true:=by
 cases d with
 | str z=>exact⟨z,rfl,h⟩
 | _=>exact nomatch h
def qb4h{z:Str}{d:PyData}(h:isT z d=true):d=.str z:=by
 cases d with
 | str y=>rw [beq_iff_eq.mp (show(z == y)=true from h)]
 | _=>exact nomatch h
def pw_len:∀ {xs:List Int} {a b:Int},xs.Pairwise (· < ·)->(∀ x ∈ xs,a <= x/\x < b)->a <= b->(xs.length:Int) <= b - a
 | [],a,b,_,_,h=>by simp;omega
 | x :: r,a,b,hp,hb,h=>by
  have hx:=hb x mem_cons_self;have ih:=pw_len (a:=x + 1) (b:=b) (pairwise_cons.mp hp).2 (fun y hy=>⟨(pairwise_cons.mp hp).1 y hy,(hb y (mem_cons_of_mem _ hy)).2⟩) 'o';rw [length_cons];omega
def inr_of{m:Nat}{ps:List Int}(h1:∀ x ∈ ps,(-1:Int) < x/\x < (m:Int))(h2:ps.Pairwise (· < ·)):InR m ps:=by
 have hb:∀ x ∈ ps,0 <= x/\x < (m:Int):=fun x hx=>by have:=h1 x hx;omega
 have:=pw_len h2 hb 'o';exact⟨hb,'o',h2⟩
def ch_of{m:Nat}{x:PyData}(h:okC m x=true):∃ c:Ch,x=c.enc/\c.ok m:=by
 cases x with
 | tuple xs =>
  rcases xs with _ | ⟨a,_ | ⟨b,_ | ⟨c,_ | ⟨d,_ | ⟨e,r⟩⟩⟩⟩⟩
  ·exact nomatch h
  ·exact nomatch h
  ·exact nomatch h
  ·rw [show okC m (.tuple [a,b,c])=(if isT "fact" a=true then isName b && ptD m c else if isT "split" a=true then isName b && ptsD m c else isT "move" a && ptD m b && ptD m c) from rfl] at h
   split at h
   ·rename_i h1
    rw [and_eq_true] at h;obtain⟨z,rfl,hz⟩:=qb5n h.1;obtain⟨p,rfl,hp⟩:=pt_of h.2;rw [qb4h h1];exact⟨.fact z p,rfl,hz,hp⟩
   ·split at h
    ·rename_i h1
     rw [and_eq_true] at h;obtain⟨z,rfl,hz⟩:=qb5n h.1;rw [qb4h h1];cases c with
     | tuple ys =>
      obtain⟨ps,rfl,h2,h3⟩:=qb9q (a:=-1) h.2;exact⟨.split z ps,rfl,hz,inr_of h2 h3⟩
     | _=>exact nomatch h.2
    ·rw [and_eq_true,and_eq_true] at h
     obtain⟨p,rfl,hp⟩:=pt_of h.1.2;obtain⟨p2,rfl,hp2⟩:=pt_of h.2;rw [qb4h h.1.1];exact⟨.move p p2,rfl,hp,hp2⟩
  ·rw [show okC m (.tuple [a,b,c,d])=(isT "join" a && isName b && ptD m c && ptD m d) from rfl,and_eq_true,and_eq_true,and_eq_true] at h
   obtain⟨z,rfl,hz⟩:=qb5n h.1.1.2;obtain⟨p,rfl,hp⟩:=pt_of h.1.2;obtain⟨p2,rfl,hp2⟩:=pt_of h.2;rw [qb4h h.1.1.1];exact⟨.join z p p2,rfl,hz,hp,hp2⟩
  ·exact nomatch h
 | _=>exact nomatch h
def qd1r{W:Wd}(g:Gw W)(z:Str):InR W.many (qa7o W.facts z):=by
 unfold qa7o;cases c:W.facts.find? fun f=>decide (f.1=z) with
 | none=>exact⟨fun x hx=>absurd hx not_mem_nil,zero_le _,List.Pairwise.nil⟩
 | some y=>exact g.fr y (List.mem_of_find?_eq_some c)
def move_at{W:Wd}{p:Nat}(h:p < W.moves.length):atI (W.moves.map encT) (p:Int)=some (encT (W.moves.getD p [])):=by
 unfold atI;rw [qb5k 'o' (by rw [length_map];omega),bind_some,show((p:Int)).toNat=p by omega,getElem?_map,getD_eq_getElem?_getD,getElem?_eq_getElem h];rfl
def qd1s(m:Nat):(sgl m).flatten=(List.range m).map fun p:Nat=>(p:Int):=by
 unfold sgl;generalize List.range m=l;induction l with
 | nil=>rfl
 | cons p r ih=>rw [map_cons,flatten_cons,ih];rfl
def qc7m(m:Nat):Parts m (sgl m):=by
 refine⟨fun t ht=>?_,fun t ht=>?_,?_,fun p hp=>?_,?_,?_⟩
 ·obtain⟨p,_,rfl⟩:=mem_map.mp ht
  exact List.cons_ne_nil _ _
 ·obtain⟨p,hp,rfl⟩:=mem_map.mp ht
  have:=mem_range.mp hp;refine⟨fun x hx=>?_,by show 1 <= m;omega,pairwise_singleton _ _⟩;rw [mem_singleton.mp hx];omega
 ·unfold sgl;rw [length_map,length_range];exact le_refl _
 ·exact⟨[(p:Int)],mem_map.mpr ⟨p,mem_range.mpr hp,rfl⟩,mem_singleton.mpr rfl⟩
 ·refine(Sx.qb1z (List.Perm.refl _) (pairwise_map.mpr (pairwise_lt_range.imp fun h=>?_))).symm
  rw [List.cons_le_cons_iff];exact .inl 'o'
 ·rw [qd1s]
  exact pairwise_map.mpr (pairwise_lt_range.imp fun h=>by omega)
abbrev eS(ts:List 'h'):PyData:=.tuple (ts.map encT)
def qc0v{W:Wd}(g:Gw W)(z:Str):Parts W.many (lookS W z):=by
 unfold lookS;cases c:W.sights.find? fun f=>decide (f.1=z) with
 | none=>exact qc7m _
 | some y=>exact g.sr y (List.mem_of_find?_eq_some c)
def qd1t{ps:List 'j'}(hn:(ps.map (·.1)).Nodup)(hl:ps.length <= 1000):qb8q [.tuple (ps.map qa2y)]=some (dicS ps):=by
 show(unQ (ps.map qa2y)).bind _=_;rw [unQ_of,bind_some,if_pos hl];unfold dictQ;rw [show qa8s [] (ps.map kQ)=ps.map kQ from qb5h ps [] hn]
def getD_S{W:Wd}{z:Str}:fGetD (dicS (W.sights.map (eV eS))) [.str z,eS (sgl W.many)]=some (eS (lookS W z)):=by
 show(if notL (eS (sgl W.many))=true then some ((getA _ (Sum.inr z)).getD (eS (sgl W.many))) else none)=_;rw [if_pos (show notL (eS (sgl W.many))=true from rfl),qb9c,List.find?_map];unfold lookS;show some ((((W.sights.find? fun s=>decide (s.1=z)).map (eV eS)).map (·.2)).getD _)=_;cases W.sights.find? fun s=>decide (s.1=z)<;>rfl
abbrev qa8x:Stmt:=top 24
def qa5p:FnScope ["world","change","many","points","moves","parts"] ["world","change"] (qa0k qa8x):='a'
def qc4p{f f1 f2 f3 f4 f5 f6 f7 NC:Addr}{fd fd1 fd2 fd3 fd4 fd5 fd6 fd7:FuncData} (F:FU K "changed" qa8x f fd) (B:Bl mg) (m_NoChange:mg "NoChange" = some (.ref NC)) (x_NoChange:W.excIn K NC veM "ValueError.__new__" = true) (d_many_points:Def K mg "many_points" qa4u ["world"] f1 fd1) (g_many_points:FO P w K mg base n f1 fd1 ["world"] qb9k)
  (d_is_change:Def K mg "is_change" qa6u ["thing","many"] f2 fd2) (g_is_change:FO P w K mg base n f2 fd2 ["thing","many"] qb9m) (d_points_of:Def K mg "points_of" qa6r ["world","name"] f3 fd3) (g_points_of:FO P w K mg base n f3 fd3 ["world","name"] qb3a)
  (d_toggled:Def K mg "toggled" qa8u ["points","point"] f4 fd4) (g_toggled:FO P w K mg base n f4 fd4 ["points","point"] spTog) (d_with_pair:Def K mg "with_pair" qa6p ["pairs","name","value"] f5 fd5) (g_with_pair:FO P w K mg base n f5 fd5 ["pairs","name","value"] qb9d)
  (d_cut:Def K mg "cut" s_cut ["world","hands","points"] f6 fd6) (g_cut:FO P w K mg base n f6 fd6 ["world","hands","points"] spCut) (d_joined_parts:Def K mg "joined_parts" qa4j ["parts","one","other"] f7 fd7) (g_joined_parts:FO P w K mg base n f7 fd7 ["parts","one","other"] qb9l):FnOk P w K mg base (CX1 P w) (n + 1) f fd ["world","change"] (spX K (spChX NC)):=by
 refine F.dokX qa5p (fun cdv A outer s H E hr c0 ls Qd Xd hE h=>?_) (fun ls Qd Xd h=>by obtain⟨_,_,e,_⟩:=h;rw [e];rfl);obtain⟨W,x,rfl,g,G,q,qX⟩:=h;refine⟨rfl,?_⟩;refine⟨_,(qb6o (dsx_of (qa1l (i:=2) qa5p.nd rfl 'f' (qa0i [false] d_many_points g_many_points hr rfl 'y')))
  (qb6o (dsx_if (qa3r (qa4m (qa0i [false,false] d_is_change g_is_change hr rfl (qa0a (dv 1) 'v'))))
  (qd1c (qc7h (qd0y out_cx rfl rfl m_NoChange x_NoChange) hE))
  qd1d)
  (dssx_of (qa0g (qa1r (qa1d (qa2n hr.units) qa2m 's' qa0n (qa0x _))
  (qa0g (qa1l (i:=3) qa5p.nd rfl 'f' (qa0i [false,false] d_toggled g_toggled hr rfl (qa0a (qa0i [false,false] d_points_of g_points_of hr rfl (qa0a (dv 0) 'C')) 'C')))
  (qa0j (qa0q (qa0y (qa0a (qa0i [false,false,false] d_with_pair g_with_pair hr rfl (qa0a 't' (qa0a 's' (qa0a (dv 3) qa0b)))) (qa0a 't' (qa0a 't' qa0b)))))))
  qa1a)
  (qa0g (qa1r (qa1d (qa2n hr.units) qa2m 's' qa0n (qa0x _))
  (qa0g (qb1y (i:=4) qa5p.nd rfl 'f' (qb0z qa8a qb4w rfl B.list_ qb4v (qa0a 't' qa0b)))
  (qa0g (qb8b 4 rfl 's' (qa0i [false,false] d_toggled g_toggled hr rfl (qa0a (qa0o qa0l qa0p (dv 4) 's' 'b') 'C')))
  (qa0j (qa0q (qa0y (qa0a 't' (qa0a (qa1m qa0u qa2a rfl B.tuple_ qa1i (qa0a (dv 4) qa0b)) (qa0a 't' qa0b))))))))
  qa1a)
  (qa0g (qa1r (qa1d (qa2n hr.units) qa2m 's' qa0n (qa0x _))
  (qa0j (qa0q (qa0i [false,false,false] d_cut g_cut hr rfl (qa0a (dv 0) (qa0a (qa0y 'C') 'C')))))
  qa1a)
  (qa0g (qa1l (i:=5) qa5p.nd rfl 'f' (de_getD (qa1m (qb4a rfl) qd0l rfl B.dict_ qc1s (qa0a 't' qa0b)) (qa0a 's' (qa0a (qa1m qa0u qa2a rfl B.tuple_ qa1i (qa0a (qa1c (qa2c ["point"] [] rfl (by rfl) 'k' (qa4z rfl B.range_ (dv 2)) (fun _ _ _=>(qa1b (i:=0) (show(["point"]:List Str).Nodup by decide +kernel) rfl 'f')) 'A' (fun _ _ _=>(qa0y 'y')))) qa0b)) qa0b))))
  (qa0j (qa0q (qa0y (qa0a 't' (qa0a 't' (qa0a (qa0i [false,false,false] d_with_pair g_with_pair hr rfl (qa0a 't' (qa0a 's' (qa0a (qa0i [false,false,false] d_joined_parts g_joined_parts hr rfl (qa0a (dv 5) (qa0a 's' 'C'))) qa0b)))) qa0b))))))))))))),?_⟩
 have hmv:=g.mv;have hm2:=g.m2;lia;refine⟨W,rfl,?_⟩;lia;refine⟨x,W.moves.length,rfl,G,?_⟩;rw [hmv];lia;cases hk:okC W.many x with
 | false =>
  walk_at "dk";exact qX hk
 | true =>
 have q2:=q hk;obtain⟨c,rfl,hc⟩:=ch_of hk;clear q qX;walk_at "dk";cases c with
 | fact z p =>
  unfold Ch.enc;walk_at "dk";refine⟨W,z,rfl,?_⟩;lia;have hlf:=(qd1r g z).2.1;refine⟨qa7o W.facts z,(p:Int),rfl,'o',?_⟩;lia;have hfl:=g.fl;refine⟨W.facts.map (eV encT),z,encT (tog (qa7o W.facts z) (p:Int)),by rw [map_map];rfl,by rw [length_map];omega,by rw [qb0n];exact g.fn,?_,nd_T _,?_⟩
  ·rw [map_map]
   unfold ndD;exact qb4g nd_F W.facts
  ·rw [putS_V,srtP_V,map_map]
   lia;exact q2 _
 | move p p2 =>
  unfold Ch.enc;walk_at "dk";have hpm:p < W.moves.length:=by rw [hmv];exact hc.1
  have hin:InR W.many (W.moves.getD p []):=by
   rw [getD_eq_getElem?_getD,getElem?_eq_getElem hpm];exact g.mr _ (getElem_mem hpm)
  have hlm:=hin.2.1;refine qa0t (move_at hpm) ⟨W.moves.getD p [],(p2:Int),rfl,'o',?_⟩;refine qa0t (qb5k 'o' (by rw [length_map];omega)) ?_;rw [show((p:Int)).toNat=p by omega,← List.map_set];lia;exact q2 _
 | split z ps =>
  unfold Ch.enc;walk_at "dk";have hsl:=g.sl;have hpl:=hc.2.2.1;refine⟨W,[z],ps,rfl,⟨'o','o',fun s hs=>?_⟩,?_⟩
  ·have hP:=g.sr s hs
   have h1:=hP.len;have h2:=pc_len ps s.2;exact⟨'o',fun t ht=>by have:=(hP.inr t ht).2.1;omega,'o'⟩
  ·exact q2 _
 | join z p p2 =>
  unfold Ch.enc;walk_at "dk";have hsl:=g.sl;have hnd:=g.sn;refine qa0t (x:=dicS (W.sights.map (eV eS))) ?_ ⟨⟨_,rfl⟩,⟨'o','o'⟩,?_⟩
  ·have:=qd1t (ps:=W.sights.map (eV eS)) (by rw [qb0n];exact hnd) (by rw [length_map];omega)
   rw [map_map] at this;exact this
  rw [show((W.many:Int)).toNat=W.many by omega];refine⟨by rw [qa5e];omega,?_⟩;refine L2.qa2g (fun ρ=>∃ v0:Option L,ρ=[v0]) (fun y=>some (.tuple [y])) ⟨_,rfl⟩ ?_ ?_
  ·rintro y ρ N hy ⟨v0,rfl⟩ hN
   lia;exact hN _ ⟨_,rfl⟩
  rintro ρ _;have eg:(rngD 0 W.many).filterMap (fun y=>some (PyData.tuple [y]))=(sgl W.many).map encT:=by
   rw [qd1o];unfold sgl;rw [map_map,map_map];generalize List.range W.many=l;induction l with
   | nil=>rfl
   | cons p r ih=>rw [map_cons,filterMap_cons,ih];rfl
  rw [eg];refine qa0t getD_S ?_;lia;refine⟨lookS W z,W.many,p,p2,rfl,'o',hc.2.1,hc.2.2,qc0v g z,?_⟩;lia;refine⟨W.sights.map (eV eS),z,eS (Sx.srtT (grpD (jm W.many (lookS W z) p p2))),by rw [map_map];rfl,by rw [length_map];omega,by rw [qb0n];exact hnd,?_,nd_TT _,?_⟩
  ·rw [map_map]
   unfold ndD;exact qb4g nd_S W.sights
  ·rw [putS_V,srtP_V,map_map]
   lia;exact q2 _
structure Ex46(K:W.Frag)(mg:Str->Option Value)(NC:Addr):Prop where
 ex:∃ (WE d1 d2 d3 d4 d5 d6 d7:Addr) (bN bW:List Value),mg "NoChange" = some (.ref NC)/\mg "WorldError" = some (.ref WE)/\mg "NoLine" = some (.ref d1)/\mg "NoPaper" = some (.ref d2)/\mg "NoPoint" = some (.ref d3)/\mg "NoText" = some (.ref d4)/\mg "NoTruth" = some (.ref d5)/\mg "NoWorld" = some (.ref d6)/\mg "TooMany" = some (.ref d7)/\mg "ValueError" = none /\
  XCls K NC bN/\XCls K WE bW/\(Value.ref NC :: bN).contains (.ref WE)=true/\XOk K NC/\W.kitOne K (.ref NC) (.type "ValueError")=some true/\W.kitAny K (.ref NC) [.ref d1,.ref d2,.ref d3,.ref d4,.ref d5,.ref d6,.ref d7]=some false
def bt_VE:bootBuiltins "ValueError" = some (.type "ValueError"):=by decide +kernel
def qb9r:DSp:=fun ls Q=>∃ (W:Wd) (x:PyData),ls=[.d W.enc,.d x]/\Gw W/\Gx x/\Q (.d (.str (if okC W.many x=true then "done" else "refused"))) [none,none]
abbrev qa7r:Stmt:=top 42
def qa3v:FnScope ["_law_world_here","_law_change_here","_law_word","e"] ["_law_world_here","_law_change_here"] (qa0k qa7r):='a'
def ok_done{f f1 NC:Addr}{fd fd1:FuncData} (F:FU K "_law_done" qa7r f fd) (B:Bl mg) (xx:Ex46 K mg NC) (d_changed:Def K mg "changed" qa8x ["world","change"] f1 fd1) (g_changed:FnOk P w K mg base (CX1 P w) n f1 fd1 ["world","change"] (spX K (spChX NC))):FO P w K mg base (n + 1) f fd ["_law_world_here","_law_change_here"] qb9r:=by
 obtain⟨WE,d1,d2,d3,d4,d5,d6,d7,bN,bW,mN,mW,m1,m2,m3,m4,m5,m6,m7,mV,cN,cW,sub,xo,i2,i3⟩:=xx.ex;refine F.ok qa3v (fun vs H Q E h=>?_) (fun cdv A outer s H vs Q E hr h=>?_)
 ·obtain⟨c,O,ls,Qd,_,_,_,_,_,R,⟨W,x,rfl,_⟩,_⟩:=h
  have:=R.len;rw [length_map] at this;exact this
 obtain⟨c,O,ls,Qd,h0,hP,hM,hA,hL,R,⟨W,x,rfl,g,G,q⟩,fin⟩:=h;have hlv:vs.length=2:=by
  have:=R.len;rw [length_map] at this;exact this
 obtain⟨v0,v1,rfl⟩:∃ v0 v1,vs=[v0,v1]:=by
  rcases vs with _ | ⟨a,_ | ⟨b,_ | ⟨c,r⟩⟩⟩
  ·cases hlv
  ·cases hlv
  ·exact⟨a,b,rfl⟩
  ·simp at hlv
 obtain⟨u0,e0,a0⟩:=R.dat 0 W.enc rfl;obtain⟨u1,e1,a1⟩:=R.dat 1 x rfl;cases e0;cases e1;refine⟨_,qa1k (qa3c (i:=2) qa3v.nd rfl 'f' qb0s)
  (qa1k (ps_tryE (j:=3) (fun _ _ z=>z) (fun E=>qd0z (fun _ _ z=>z) g_changed hr rfl d_changed.gl d_changed.fn.kp d_changed.bd (qa0s (pv 0) (qa0s (pv 1) qa1s)))
   rfl rfl rfl qa3v.nd rfl rfl 'f' rfl mW cW (fun a =>
    qa1k (qa3c (i:=2) qa3v.nd rfl 'f' qb0s)
    (qa1k (qa9v (PW.pt (pw_and (L2.qa7y (qa3k (r:=rIsX K) qb2z rfl B.isinstance_ qa4r (qa0s (pv 3) (qa0s (qa4e (v:=.ref NC) rfl mN rfl) qa1s))))
      (pw_and1 (L2.qa7y (qa3k (r:=rIsX K) qb2z rfl B.isinstance_ qa4r (qa0s (pv 3) (qa0s (pe_ty rfl mV bt_VE) qa1s)))))))
     (qa2j (qa3c (i:=2) qa3v.nd rfl 'f' qb0s)) qa5t)
    (qa2j (qa9v (L2.qa7y (qa3k (r:=rIsX K) qb2z rfl B.isinstance_ qa4r (qa0s (pv 3) (qa0s (pe_tup (qa0s (qa4e (v:=.ref d1) rfl m1 rfl) (qa0s (qa4e (v:=.ref d2) rfl m2 rfl) (qa0s (qa4e (v:=.ref d3) rfl m3 rfl) (qa0s (qa4e (v:=.ref d4) rfl m4 rfl) (qa0s (qa4e (v:=.ref d5) rfl m5 rfl) (qa0s (qa4e (v:=.ref d6) rfl m6 rfl) (qa0s (qa4e (v:=.ref d7) rfl m7 rfl) qa1s)))))))) qa1s))))
     (qa2j (qa3c (i:=2) qa3v.nd rfl 'f' qb0s)) qa5t)))))
  (qa2j (qa6w (pv 2)))),?_⟩
 have fin2:∀ (b:Bool) (H':Hp),Same H H'->(okC W.many x=b)->Q (.str (if b=true then "done" else "refused")) H':=fun b H' e hb=>by
  rw [hb] at q;exact fin (.d (.str (if b=true then "done" else "refused"))) O _ _ _ H' q ⟨R.grow e,qa4f _⟩
 refine⟨v0,rfl,v1,rfl,?_⟩;refine spX_ask (ds:=[W.enc,x]) (Qd:=fun _ _=>okC W.many x=true) (Xd:=fun C=>C=NC/\okC W.many x=false) R (.cons a0 (.cons a1 .nil)) ⟨W,x,rfl,g,G,fun hk _=>hk,fun hk=>⟨rfl,hk⟩⟩ (fun r v H' ρ' hk e=>⟨_,rfl,fin2 true H' e hk⟩) (fun C H' hc e=>?_);obtain⟨rfl,hk⟩:=hc;refine⟨C,bN,rfl,cN,sub,fun a ha=>?_⟩;have ea:Same H' (upd H' a (.ext (exq a C))):=qa0v ha _;refine⟨.ref a,rfl,a,C,true,qa0h,xo,⟨true,rfl,iteT ?_⟩,.inl ⟨C,rfl,if_pos 'g'⟩⟩;refine⟨.ref a,rfl,a,C,true,qa0h,xo,⟨true,rfl,iteT ?_⟩,.inr (.inl ⟨"ValueError",rfl,i2⟩)⟩;refine⟨.ref a,rfl,by show 7 <= sizeLine;rw [sizeLine_eq];omega,fun p hp=>?_⟩;have np:a ≠ p:=fun z=>by subst z;rw [qa0h] at hp;cases hp
 have ep:=qa0v hp (.tup [V.ref d1,V.ref d2,V.ref d3,V.ref d4,V.ref d5,V.ref d6,V.ref d7]);refine⟨a,C,false,by rw [qa0f np];exact qa0h,xo,⟨false,rfl,iteF ?_⟩,.inr (.inr ⟨p,[d1,d2,d3,d4,d5,d6,d7],rfl,qa0h,i3⟩)⟩;exact⟨_,rfl,fin2 false _ ((e.trans ea).trans ep) hk⟩
def qc0w(c:Nat):((Str.ofString "abcdefghijklmnopqrstuvwxyz").cps.toList.contains c)=low c:=by
 have e:(Str.ofString "abcdefghijklmnopqrstuvwxyz").cps.toList=List.range' 97 26:=by decide +kernel
 rw [e,Bool.eq_iff_iff,List.contains_iff_mem,List.mem_range'];unfold low;rw [and_eq_true,decide_eq_true_eq,decide_eq_true_eq];constructor
 ·rintro⟨i,hi,rfl⟩;omega
 ·rintro⟨h1,h2⟩;exact⟨c - 97,'o','o'⟩
def qc7n(b:Bool)(xs:List Bool):inF (.bool b) (xs.map .bool)=xs.contains b:=by
 induction xs with
 | nil=>rfl
 | cons x r ih =>
  unfold inF at ih ⊢;rw [map_cons,any_cons,ih,List.contains_cons];cases x<;>cases b<;>rfl
def qa8y{neg:Bool}{b:Bool}{xs:List Bool}:fIn neg (.bool b) (.list (xs.map .bool))=some (.bool (if neg then !xs.contains b else xs.contains b)):=by
 have h1:(xs.map PyData.bool).all qa1g=true:=by
  induction xs with
  | nil=>rfl
  | cons x r ih=>rw [map_cons,all_cons,ih];rfl
 rw [fIn_fl (by rw [h1];rfl),qc7n]
def qa7c:∀ xs:List Bool,xs.contains false = !xs.all id
 | []=>rfl
 | x :: r=>by rw [List.contains_cons,qa7c r,all_cons];cases x<;>simp
def qb4i:DSp:=fun ls Q=>∃ (W:Wd) (d:PyData),ls=[.d W.enc,.d d]/\Gw W/\Q (.d (.bool (ptD W.many d))) [none,none]
abbrev qa4k:Stmt:=top 38
def qb4j:FnScope ["_law_world_here","_law_thing"] ["_law_world_here","_law_thing"] (qa0k qa4k):='a'
def qc7o{f:Addr}{fd:FuncData} (F:FU K "_law_is_point" qa4k f fd) (B:Bl mg):FO P w K mg base (n + 1) f fd ["_law_world_here","_law_thing"] qb4i:=by
 refine F.dok qb4j (fun cdv A outer s H E hr ls Qd h=>?_) 'n';obtain⟨W,d,rfl,g,q⟩:=h;refine⟨rfl,?_⟩;refine⟨_,(qa0j (qa0q (qa4a (qa5j rfl B.isinstance_ rfl B.int_ qb7o rfl (dv 1)) (qa4a (de_not (qa5j rfl B.isinstance_ rfl B.bool_ qc1r rfl (dv 1))) (qa4n (qb0e op_le (qa2x _) op_lt (qa2x _) qa0d (dv 1) (qa1f qa1p qa3g rfl B.len_ qa2r (qa0a 't' qa0b)))))))),?_⟩;have hmv:=g.mv;lia;cases d with
 | int p =>
  rw [show isD "int" (PyData.int p)=true from rfl];walk_at "dk";rw [show isD "bool" (PyData.int p)=false from rfl];walk_at "dk";rw [show ptD W.many (.int p)=(decide (0 <= p) && decide (p < (W.many:Int))) from rfl] at q;refine qa1n (fun c=>?_) (fun c=>?_)
  ·walk_at "dk"
   rw [decide_eq_true c,Bool.true_and] at q;rw [length_map,hmv];exact q
  ·walk_at "dk"
   rw [decide_eq_false c,Bool.false_and] at q;exact q
 | bool b =>
  rw [show isD "int" (PyData.bool b)=true from rfl];walk_at "dk";rw [show isD "bool" (PyData.bool b)=true from rfl];walk_at "dk";exact q
 | none=>rw [show isD "int" PyData.none=false from rfl];walk_at "dk";exact q
 | str y=>rw [show isD "int" (PyData.str y)=false from rfl];walk_at "dk";exact q
 | list y=>rw [show isD "int" (PyData.list y)=false from rfl];walk_at "dk";exact q
 | tuple y=>rw [show isD "int" (PyData.tuple y)=false from rfl];walk_at "dk";exact q
 | dict y=>rw [show isD "int" (PyData.dict y)=false from rfl];walk_at "dk";exact q
abbrev qa4v:Stmt:=top 39
def qb5o:FnScope ["_law_thing"] ["_law_thing"] (qa0k qa4v):='a'
def qd1u{f:Addr}{fd:FuncData} (F:FU K "_law_is_name" qa4v f fd) (B:Bl mg):FO P w K mg base (n + 1) f fd ["_law_thing"] qa9t:=by
 refine F.dok qb5o (fun cdv A outer s H E hr ls Qd h=>?_) (fun ls Qd hq8=>by obtain⟨_,e,_⟩:=hq8;rw [e];rfl);obtain⟨d,rfl,hl,q⟩:=h;refine⟨rfl,?_⟩;refine⟨_,(qa0g (qa1r (DW.toT (dw_or (qa3r (qa4m (qa5j rfl B.isinstance_ rfl B.str_ qb7p rfl (dv 0)))) (qb3n (qa3r (qb7t op_le (qa2x _) op_le (qa2x _) qa0d (qa1f qa1p qa3g rfl B.len_ qa2r 'y') qa0d)))))
  'w'
  qa1a)
  (qa0j (qa0q (qa8g qb2e ad_in qa2u (qa1c (qa2c ["_law_sign"] [] rfl (by rfl) 'k' (di_str (dv 0)) (fun _ _ _=>(qa1b (i:=0) (show(["_law_sign"]:List Str).Nodup by decide +kernel) rfl 'f')) 'A' (fun _ _ _=>(qa8g qb0d ad_in (dv 0) qa0n (by rfl))))) (by rfl))))),?_⟩
 lia;cases d with
 | str x =>
  have hx:=hl x rfl;rw [show isD "str" (.str x)=true from rfl];walk_at "dk";rw [fLen_s 'o',qa2l];walk_at "dk";by_cases c1:1 <= x.length
  ·rw [decide_eq_true (show(1:Int) <= (x.length:Int) by omega)]
   walk_at "dk";by_cases c2:x.length <= 8
   ·rw [decide_eq_true (show(x.length:Int) <= 8 by omega)]
    walk_at "dk";refine⟨by rw [length_map,qc2v];omega,?_⟩;refine L2.qa2g (fun ρ=>∃ v0:Option L,ρ=[v0]) (fun d=>match d with | .str z=>some (.bool (z.cps.toList.all low)) | _=>none) ⟨_,rfl⟩ ?_ ?_
    ·rintro y ρ N hy ⟨v0,rfl⟩ hN
     obtain⟨c,hc,rfl⟩:=mem_map.mp hy;have el:(Str.cps ⟨#[c]⟩).toList.all low=low c:=by simp
     simp only [el] at hN;lia;rw [qd0b,qc0w];lia;exact hN _ ⟨_,rfl⟩
    ·rintro ρ _
     have ef:(signs x).filterMap (fun d=>match d with | .str z=>some (PyData.bool (z.cps.toList.all low)) | _=>none)=(x.cps.toList.map low).map .bool:=by
      unfold signs;generalize x.cps.toList=l;induction l with
      | nil=>rfl
      | cons c r ih=>rw [map_cons,filterMap_cons,ih];simp
     rw [ef,qa8y,qa2l,qa7c];have en:isName (.str x)=(x.cps.toList.map low).all id:=by
      show qa2h x=_;unfold qa2h;rw [decide_eq_true c1,decide_eq_true c2,all_map];rfl
     rw [en] at q;simp only [if_true,Bool.not_not];exact q
   ·rw [decide_eq_false (show ¬ (x.length:Int) <= 8 by omega)]
    walk_at "dk";rw [show isName (.str x)=false by show qa2h x=_;unfold qa2h;rw [decide_eq_false c2];simp] at q;exact q
  ·rw [decide_eq_false (show ¬ (1:Int) <= (x.length:Int) by omega)]
   walk_at "dk";rw [show isName (.str x)=false by show qa2h x=_;unfold qa2h;rw [decide_eq_false c1];simp] at q;exact q
 | none=>rw [show isD "str" PyData.none=false from rfl];walk_at "dk";exact q
 | bool y=>rw [show isD "str" (PyData.bool y)=false from rfl];walk_at "dk";exact q
 | int y=>rw [show isD "str" (PyData.int y)=false from rfl];walk_at "dk";exact q
 | list y=>rw [show isD "str" (PyData.list y)=false from rfl];walk_at "dk";exact q
 | tuple y=>rw [show isD "str" (PyData.tuple y)=false from rfl];walk_at "dk";exact q
 | dict y=>rw [show isD "str" (PyData.dict y)=false from rfl];walk_at "dk";exact q
def spLC:DSp:=fun ls Q=>∃ (W:Wd) (x:PyData),ls=[.d W.enc,.d x]/\Gw W/\Gx x/\Q (.d (.bool (okC W.many x))) [none,none]
def qb6r:∀ a b:List Int,PyData.eqvAll (a.map .int) (b.map .int)=decide (a=b)
 | [],[]=>rfl
 | [],y :: b=>by
  show PyData.eqvAll [] (.int y :: b.map .int)=_;rw [PyData.eqvAll];rfl
  all_goals simp
 | x :: a,[]=>by
  show PyData.eqvAll (.int x :: a.map .int) []=_;rw [PyData.eqvAll];rfl
  all_goals simp
 | x :: a,y :: b=>by
  show PyData.eqvAll (.int x :: a.map .int) (.int y :: b.map .int)=_;rw [PyData.eqvAll,qb6r a b,PyData.eqv];by_cases e:x=y
  ·subst e;by_cases e2:a=b<;>simp [e2]
  ·simp [e]
def okC_ns{m:Nat}{a b c:PyData}{r:List PyData} (h:isD "str" a=false):okC m (.tuple (a :: b :: c :: r))=false:=by
 have hn:∀ z,isT z a=false:=fun z=>by cases a<;>first | rfl | cases h
 rcases r with _ | ⟨d,_ | ⟨e,r⟩⟩
 ·show(if isT "fact" a=true then _ else if isT "split" a=true then _ else isT "move" a && _ && _)=false
  rw [hn,hn,hn];rfl
 ·show(isT "join" a && _ && _ && _)=false
  rw [hn];rfl
 ·rfl
def eqv_2(u z:Str)(k l:Int):PyData.eqv (.list [.str u,.int k]) (.list [.str z,.int l])=(decide (u=z) && decide (k=l)):=by
 rw [PyData.eqv,PyData.eqvAll,PyData.eqvAll,PyData.eqvAll,PyData.eqv,PyData.eqv,Bool.eq_iff_iff];simp
def qb9s{z:Str}{n:Int}(h:PyData.strOk z=true):SeqAt.shaped (.list [.str z,.int n])=true:=by
 simp [SeqAt.shaped,PyData.canLay0,PyData.canLayAll0,h,PyData.depth,PyData.depthAll]
abbrev w4:List PyData:=[.list [.str "fact",.int 3],.list [.str "move",.int 3],.list [.str "split",.int 3],.list [.str "join",.int 4]]
def nin_4{z:Str}{n:Int}(h:PyData.strOk z=true):fNinP (.list [.str z,.int n]) (.list w4)=some (.bool (!((decide (Str.ofString "fact" = z) && decide (3=n)) || ((decide (Str.ofString "move" = z) && decide (3=n)) || ((decide (Str.ofString "split" = z) && decide (3=n)) || (decide (Str.ofString "join" = z) && decide (4=n))))))):=by
 rw [qd0x (qb9s h) (fun e he=>?_)]
 ·simp only [any_cons,List.any_nil,eqv_2,Bool.or_false]
 ·simp only [mem_cons,not_mem_nil,or_false] at he
  rcases he with rfl | rfl | rfl | rfl<;>exact qb9s 'k'
def isT_s(z y:Str):isT z (.str y)=decide (z=y):=by
 show(z == y)=_;rw [Bool.eq_iff_iff];simp
def qd1v{ps:List Int}(h:ps.Pairwise (· < ·)):Sx.srtI (Sx.uniq ps)=ps:=by
 have nd:ps.Nodup:=h.imp fun h=>Int.ne_of_lt h;exact(Sx.qb5a ((List.perm_ext_iff_of_nodup (Sx.qa9w ps) nd).mpr fun a=>Sx.qb2n).symm (h.imp fun h=>Int.le_of_lt h)).symm
def srt_lt{ps:List Int}(h:Sx.srtI (Sx.uniq ps)=ps):ps.Pairwise (· < ·):=by
 have h1:=Sx.qc2f (Sx.uniq ps);have h2:(Sx.srtI (Sx.uniq ps)).Nodup:=(Sx.qa3d _).nodup_iff.mpr (Sx.qa9w ps);rw [h] at h1 h2;exact h1.imp₂ (fun a b h1 h2=>Int.lt_iff_le_and_ne.mpr ⟨h1,h2⟩) h2
def qc2y{m:Nat}:∀ {ys:List PyData} {a:Int},-1 <= a->ptsR m a ys=true->ys.all (ptD m)=true
 | [],_,_,_=>rfl
 | y :: r,a,ha,h=>by
  cases y with
  | int p =>
   have h:(decide (a < p) && decide (p < (m:Int)) && ptsR m p r)=true:=h;rw [and_eq_true,and_eq_true,decide_eq_true_eq,decide_eq_true_eq] at h;rw [all_cons,qc2y (a:=p) 'o' h.2];show((decide (0 <= p) && decide (p < (m:Int))) && true)=true;rw [decide_eq_true 'o',decide_eq_true h.1.2];rfl
  | _=>exact nomatch h
def qb9t{m:Nat}:∀ {ys:List PyData},ys.all (ptD m)=true->∃ ps:List Int,ys=ps.map .int/\∀ x ∈ ps,0 <= x/\x < (m:Int)
 | [],_=>⟨[],rfl,fun x hx=>absurd hx not_mem_nil⟩
 | y :: r,h=>by
  rw [all_cons,and_eq_true] at h;obtain⟨ps,rfl,hp⟩:=qb9t h.2;cases y with
  | int p =>
   have h1:(decide (0 <= p) && decide (p < (m:Int)))=true:=h.1;rw [and_eq_true,decide_eq_true_eq,decide_eq_true_eq] at h1;refine⟨p :: ps,rfl,fun x hx=>?_⟩;rcases mem_cons.mp hx with rfl | hx
   ·exact h1
   ·exact hp x hx
  | _=>exact nomatch h.1
def qb6s{m:Nat}:∀ {ps:List Int} {a:Int},ps.Pairwise (· < ·)->(∀ x ∈ ps,a < x/\x < (m:Int))->ptsR m a (ps.map .int)=true
 | [],_,_,_=>rfl
 | p :: r,a,h,hb=>by
  show(decide (a < p) && decide (p < (m:Int)) && ptsR m p (r.map .int))=true;have hp:=hb p mem_cons_self;rw [decide_eq_true hp.1,decide_eq_true hp.2,qb6s (pairwise_cons.mp h).2 fun x hx=>⟨(pairwise_cons.mp h).1 x hx,(hb x (mem_cons_of_mem _ hx)).2⟩];rfl
def pts_due{m:Nat}{ps:List Int}(hb:∀ x ∈ ps,0 <= x/\x < (m:Int)):ptsR m (-1) (ps.map .int)=decide (ps=Sx.srtI (Sx.uniq ps)):=by
 rw [Bool.eq_iff_iff,decide_eq_true_iff];constructor
 ·intro h
  obtain⟨qs,e,_,h2⟩:=qb9q h;have:ps=qs:=(List.map_inj_right (f:=PyData.int) fun x y h=>by cases h;rfl).mp e;rw [this];exact(qd1v h2).symm
 ·intro h
  exact qb6s (srt_lt h.symm) fun x hx=>by have:=hb x hx;omega
def eq_LI(a b:List Int):fEqA false (.list (a.map .int)) (.list (b.map .int))=some (.bool (decide (a=b))):=by
 rw [qc8t rfl (shaped_ints a) (shaped_ints b),PyData.eqv,qb6r];rfl
def qb3c{W:Wd}(g:Gw W){xs:List PyData}{k:List PyData->Rho->Prop}(h:∀ ρ,k ((xs.map (ptD W.many)).map .bool) ρ):qa1t (qa9p 0) (fun ρ Q=>Q true ρ) (qb3o [false,false] qb4i (dCons (dVar 1) (dCons (dVar 0) dNil))) k xs [none,some (L.d W.enc)] []:=by
 refine L2.qa2g (fun ρ=>∃ v0:Option L,ρ=[v0,some (.d W.enc)]) (fun y=>some (.bool (ptD W.many y))) ⟨_,rfl⟩ ?_ ?_
 ·rintro y ρ N hy ⟨v0,rfl⟩ hN
  lia;refine⟨W,y,rfl,g,?_⟩;lia;exact hN _ ⟨_,rfl⟩
 ·rintro ρ _
  have ef:xs.filterMap (fun y=>some (PyData.bool (ptD W.many y)))=(xs.map (ptD W.many)).map .bool:=by
   clear h;induction xs with
   | nil=>rfl
   | cons c r ih=>rw [filterMap_cons,ih];rfl
  rw [ef];exact h ρ
abbrev qa3x:Stmt:=top 40
def qa4x:FnScope ["_law_world_here","_law_thing","_law_points"] ["_law_world_here","_law_thing"] (qa0k qa3x):='a'
def qc4q{f f1 f2:Addr}{fd fd1 fd2:FuncData} (F:FU K "_law_is_change" qa3x f fd) (B:Bl mg) (qa3j:Def K mg "_law_is_point" qa4k ["_law_world_here","_law_thing"] f1 fd1) (qa6f:FO P w K mg base n f1 fd1 ["_law_world_here","_law_thing"] qb4i)
  (qa7d:Def K mg "_law_is_name" qa4v ["_law_thing"] f2 fd2) (qb6w:FO P w K mg base n f2 fd2 ["_law_thing"] qa9t):FO P w K mg base (n + 1) f fd ["_law_world_here","_law_thing"] spLC:=by
 refine F.dok qa4x (fun cdv A outer s H E hr ls Qd h=>?_) 'n';obtain⟨W,x,rfl,g,G,q⟩:=h;refine⟨rfl,?_⟩;refine⟨_,(qa0g (qa1r (DW.toT (dw_or (qa3r (qa4m (qa5j rfl B.isinstance_ rfl B.tuple_ qa1i rfl (dv 1)))) (dw_or (qa1d op_lt (qa2x _) (qa1f qa1p qa3g rfl B.len_ qa2r (qa0a (dv 1) qa0b)) qa0d (qa0x _)) (qb3n (qa3r (qa4m (qa5j rfl B.isinstance_ rfl B.str_ qb7p rfl 's')))))))
  'w'
  qa1a)
  (qa0g (qa1r (qa1d (op_ninP (u65 hr.units2)) ad_ninP (qa1c (qa1u (qa0a 's' (qa0a (qa1f qa1p qa3g rfl B.len_ qa2r (qa0a (dv 1) qa0b)) qa0b)))) (qa1c (qa1u (qa0a (qa1c (qa1u (qa0a qa0n 'u'))) (qa0a (qa1c (qa1u (qa0a qa0n 'u'))) (qa0a (qa1c (qa1u (qa0a qa0n 'u'))) (qa0a (qa1c (qa1u (qa0a qa0n 'u'))) qa0b)))))) (by rfl))
  'w'
  qa1a)
  (qa0g (qa1r (qa1d (qa2n hr.units) qa2m 's' qa0n (qa0x _))
  (qa0j (qa0q (qa4a (qa0i [false,false] qa3j qa6f hr rfl (qa0a (dv 0) 'C')) (qa4n (qa0i [false,false] qa3j qa6f hr rfl (qa0a (dv 0) 'C'))))))
  qa1a)
  (qa0g (qa1r (qa3r (qa4m (qa0i [false] qa7d qb6w hr rfl 'C')))
  'w'
  qa1a)
  (qa0g (qa1l (i:=2) qa4x.nd rfl 'f' (qa3n qa5f qa5k (dv 1) (qa4i qa0d) qa4h))
  (qa0g (qa1r (qa1d (qa2n hr.units) qa2m 's' qa0n (qa0x _))
  (qa0g (qa1l (i:=2) qa4x.nd rfl 'f' 's')
  (qa0j (qa1r (qa3r (qa4m (qa5j rfl B.isinstance_ rfl B.tuple_ qa1i rfl (dv 2))))
  'w'
  qa1a)))
  qa1a)
  (qa0g (qa1r (qa1d qb0d ad_in qa2u (qa1c (qa2c ["_law_p"] [("_law_world_here",0)] rfl (by rfl) 'k' (qa2f (dv 2)) (fun _ _ _=>(qa1b (i:=0) (show(["_law_p","_law_world_here"]:List Str).Nodup by decide +kernel) rfl 'f')) 'A' (fun _ _ _=>(qa0i [false,false] qa3j qa6f hr rfl (qa0a (dv 1) 'y'))))) (by rfl))
  'w'
  qa1a)
  (qa0j (qa0q (de_or (qa8g (qb3q hr.units) qb3p 's' qa0n (qa0x _)) (qa4n (qa8g (qa2n hr.units) qa2m (qa1c (qb0z qa8a qb4w rfl B.list_ qb4v 'v')) (qc2i rfl rfl B.set_ rfl B.sorted_ 'v') (qa0x _))))))))))))),?_⟩
 lia;cases ht:isD "tuple" x with
 | false =>
  walk_at "dk";rw [show okC W.many x=false by cases x<;>first | rfl | cases ht] at q;exact q
 | true =>
  obtain⟨xs,rfl⟩:∃ xs,x=.tuple xs:=by cases x<;>first | exact⟨_,rfl⟩ | cases ht
  obtain⟨hl,hb⟩:=G xs rfl;rcases xs with _ | ⟨a,_ | ⟨b,_ | ⟨c,r⟩⟩⟩
  ·walk_at "dk";exact q
  ·walk_at "dk";exact q
  ·walk_at "dk";exact q
  ·walk_at "dk"
   rw [decide_eq_false (show ¬ ((r.length + 1 + 1 + 1:Nat):Int) < 3 by omega)];walk_at "dk";cases hs:isD "str" a with
   | false =>
    rw [okC_ns hs] at q;walk_at "dk";exact q
   | true =>
    obtain⟨z,rfl⟩:∃ z,a=.str z:=by cases a<;>first | exact⟨_,rfl⟩ | cases hs
    have hz:=(hb (.str z) mem_cons_self).o z rfl;have hbn:∀ z,b=.str z->z.length <= 1000:=(hb b 'g').s;lia;refine qa0t (nin_4 hz) ?_;rcases r with _ | ⟨d,_ | ⟨e,r⟩⟩
    ·rw [show okC W.many (.tuple [.str z,b,c])=(if isT "fact" (.str z)=true then isName b && ptD W.many c else if isT "split" (.str z)=true then isName b && ptsD W.many c else isT "move" (.str z) && ptD W.many b && ptD W.many c) from rfl,isT_s,isT_s,isT_s] at q
     by_cases z1:Str.ofString "fact" = z
     ·subst z1
      rw [decide_eq_true rfl,if_pos rfl] at q;walk_at "dk";refine⟨b,rfl,hbn,?_⟩;walk_at "dk";cases h2:isName b with
      | false =>
       rw [h2,Bool.false_and] at q;walk_at "dk";exact q
      | true =>
       rw [h2,Bool.true_and] at q;walk_at "dk";refine qa0t (x:=.tuple [c]) rfl ?_;walk_at "dk";refine qb3c g fun ρ=>?_;rw [qa8y,qa2l,qa7c];cases h3:ptD W.many c with
       | true=>rw [h3] at q;simp only [map_cons,map_nil,h3];walk_at "dk";exact q
       | false=>rw [h3] at q;simp only [map_cons,map_nil,h3];walk_at "dk";exact q
     rw [decide_eq_false z1,if_neg Bool.false_ne_true] at q;by_cases z2:Str.ofString "split" = z
     ·subst z2
      rw [decide_eq_true rfl,if_pos rfl] at q;walk_at "dk";refine⟨b,rfl,hbn,?_⟩;walk_at "dk";cases h2:isName b with
      | false =>
       rw [h2,Bool.false_and] at q;walk_at "dk";exact q
      | true =>
       rw [h2,Bool.true_and] at q;walk_at "dk";refine qa0t (x:=.tuple [c]) rfl ?_;walk_at "dk";cases h3:isD "tuple" c with
       | false =>
        rw [show ptsD W.many c=false by cases c<;>first | rfl | cases h3] at q;walk_at "dk";exact q
       | true =>
        obtain⟨ys,rfl⟩:∃ ys,c=.tuple ys:=by cases c<;>first | exact⟨_,rfl⟩ | cases h3
        have hyl:=(hb (.tuple ys) 'g').t ys rfl;rw [show ptsD W.many (.tuple ys)=ptsR W.many (-1) ys from rfl] at q;walk_at "dk";refine⟨'o',qb3c g fun ρ=>?_⟩;rw [qa8y,qa2l,qa7c,show(ys.map (ptD W.many)).all id=ys.all (ptD W.many) by rw [all_map];rfl];cases h4:ys.all (ptD W.many) with
        | false =>
         rw [show ptsR W.many (-1) ys=false by cases h5:ptsR W.many (-1) ys with
          | false=>rfl
          | true=>rw [qc2y (Int.le_refl _) h5] at h4;cases h4] at q
         walk_at "dk";exact q
        | true =>
         obtain⟨ps,rfl,hps⟩:=qb9t h4;rw [length_map] at hyl;walk_at "dk";refine qa0t (fSetI_t 'o') (qa0t (eq_LI _ _) ?_);rw [pts_due hps] at q;exact q
     rw [decide_eq_false z2,if_neg Bool.false_ne_true] at q;by_cases z3:Str.ofString "move" = z
     ·subst z3
      rw [decide_eq_true rfl,Bool.true_and] at q;walk_at "dk";refine⟨W,b,rfl,g,?_⟩;walk_at "dk";cases h2:ptD W.many b with
      | false =>
       rw [h2,Bool.false_and] at q;walk_at "dk";exact q
      | true =>
       rw [h2,Bool.true_and] at q;walk_at "dk";refine⟨W,c,rfl,g,?_⟩;exact q
     ·rw [decide_eq_false z3,Bool.false_and,Bool.false_and] at q
      rw [decide_eq_false z1,decide_eq_false z2,decide_eq_false z3,decide_eq_false (show ¬ (4:Int)=((([]:List PyData).length + 1 + 1 + 1:Nat):Int) by decide)];simp only [Bool.false_and,Bool.and_false,Bool.or_false,Bool.not_false];walk_at "dk";exact q
    ·rw [show okC W.many (.tuple [.str z,b,c,d])=(isT "join" (.str z) && isName b && ptD W.many c && ptD W.many d) from rfl,isT_s] at q
     rw [decide_eq_false (show ¬ (3:Int)=(([d].length + 1 + 1 + 1:Nat):Int) by show ¬ (3:Int)=4;decide)];by_cases z1:Str.ofString "join" = z
     ·subst z1
      rw [decide_eq_true rfl,Bool.true_and] at q;walk_at "dk";refine⟨b,rfl,hbn,?_⟩;walk_at "dk";cases h2:isName b with
      | false =>
       rw [h2,Bool.false_and,Bool.false_and] at q;walk_at "dk";exact q
      | true =>
       rw [h2,Bool.true_and] at q;walk_at "dk";refine qa0t (x:=.tuple [c,d]) rfl ?_;walk_at "dk";refine qb3c g fun ρ=>?_;rw [qa8y,qa2l,qa7c];cases h3:ptD W.many c<;>cases h4:ptD W.many d<;>(rw [h3,h4] at q;simp only [map_cons,map_nil,h3,h4];walk_at "dk";exact q)
     ·rw [decide_eq_false z1,Bool.false_and,Bool.false_and,Bool.false_and] at q
      rw [decide_eq_false z1];simp only [Bool.false_and,Bool.and_false,Bool.or_false,Bool.not_false];walk_at "dk";exact q
    ·rw [decide_eq_false (show ¬ (3:Int)=(((d :: e :: r).length + 1 + 1 + 1:Nat):Int) by rw [length_cons,length_cons];omega),decide_eq_false (show ¬ (4:Int)=(((d :: e :: r).length + 1 + 1 + 1:Nat):Int) by rw [length_cons,length_cons];omega)]
     simp only [Bool.and_false,Bool.or_false,Bool.not_false];walk_at "dk";exact q
noncomputable def NF:List Str:=["p","pq","q","zz"]
noncomputable def NS:List Str:=["a","ab","b","zz"]
noncomputable def Ch.nm:Ch->Prop
 | .fact z _=>z ∈ NF
 | .move _ _=>True
 | .split z _=>z ∈ NS
 | .join z _ _=>z ∈ NS
def nf_ok:∀ z ∈ NF,qa2h z=true:=by decide +kernel
def ns_ok:∀ z ∈ NS,qa2h z=true:=by decide +kernel
def qb3d:DSp:=fun ls Q=>∃ (k:Nat) (W:Wd),ls=[.tape k,.d W.enc]/\k + 20 < 900000/\Gw W/\∀ (c:Ch) (k':Nat),k' <= k + 15->c.ok W.many->c.nm->Q (.d c.enc) [some (.tape k'),none]
abbrev qa5q:Stmt:=top 37
def qa3t:FnScope ["_law_tape","_law_world_here","_law_many","_law_way","_law_p","_law_hand"] ["_law_tape","_law_world_here"] (qa0k qa5q):='a'
def qc7p{f f1 f2:Addr}{fd fd1 fd2:FuncData} (F:FU K "_law_change" qa5q f fd) (B:Bl mg) (qa0r:DNext K mg f1 fd1) (qa0w:GNext P w K mg base n f1 fd1)
  (qa3o:Def K mg "_law_some" qa5l ["_law_tape","_law_many","_law_few"] f2 fd2) (qa7n:FO P w K mg base n f2 fd2 ["_law_tape","_law_many","_law_few"] qb4e):FO P w K mg base (n + 1) f fd ["_law_tape","_law_world_here"] qb3d:=by
 refine F.dok qa3t (fun cdv A outer s H E hr ls Qd h=>?_) 'l';obtain⟨k,W,rfl,hk,g,q⟩:=h;refine⟨rfl,?_⟩;refine⟨_,(qa0g (qa1l (i:=2) qa3t.nd rfl 'f' (qa1f qa1p qa3g rfl B.len_ qa2r 'C'))
  (qa0g (qa1l (i:=3) qa3t.nd rfl 'f' (qa0i [true,false] qa0r qa0w hr rfl 'D'))
  (qa0g (qa1l (i:=4) qa3t.nd rfl 'f' (qa0i [true,false] qa0r qa0w hr rfl (qa0a (dv 0) 'v')))
  (qa0g (qa1r (qa1d (qa2n hr.units) qa2m (dv 3) qa0d (qa0x _))
  (qa0j (qa0q (qa0y (qa0a qa0n (qa0a (qa0o qa0l qa0p (qa1c (qa1u (qa0a qa0n 'z'))) (qa0i [true,false] qa0r qa0w hr rfl 'D') 'b') (qa0a (dv 4) qa0b))))))
  qa1a)
  (qa0g (qa1r (qa1d (qa2n hr.units) qa2m (dv 3) qa0d (qa0x _))
  (qa0j (qa0q (qa0y (qa0a qa0n (qa0a (dv 4) (qa0a (qa0i [true,false] qa0r qa0w hr rfl (qa0a (dv 0) 'v')) qa0b))))))
  qa1a)
  (qa0g (qa1l (i:=5) qa3t.nd rfl 'f' (qa0o qa0l qa0p (qa1c (qa1u (qa0a qa0n 'z'))) (qa0i [true,false] qa0r qa0w hr rfl 'D') 'b'))
  (qa0g (qa1r (qa1d (qa2n hr.units) qa2m (dv 3) qa0d (qa0x _))
  (qa0j (qa0q (qa0y (qa0a qa0n (qa0a (dv 5) (qa0a (qa0i [true,false,false] qa3o qa7n hr rfl (qa0a (dv 0) (qa0a (dv 2) 'u'))) qa0b))))))
  qa1a)
  (qa0j (qa0q (qa0y (qa0a qa0n (qa0a (dv 5) (qa0a (dv 4) (qa0a (qa0i [true,false] qa0r qa0w hr rfl (qa0a (dv 0) 'v')) qa0b)))))))))))))),?_⟩
 have hmv:=g.mv;have h1:=g.m1;have h2:=g.m2;lia;refine⟨k,4,rfl,'d','o',fun r r0 r4=>?_⟩;lia;refine⟨k + 1,W.moves.length,by rw [length_map],'o','o',fun p p0 p1=>?_⟩;obtain⟨p,rfl,hp⟩:∃ p':Nat,p=(p':Int)/\p' < W.many:=⟨p.toNat,'o','o'⟩;lia;refine qa1n (fun c=>?_) (fun c=>?_)
 ·lia
  refine⟨k + 2,4,rfl,'d','o',fun x x0 x1=>?_⟩;lia;refine qa5b x0 (by simpa using x1) fun d hd _=>?_;lia;obtain⟨z,hz,rfl⟩:∃ z ∈ NF,d=.str z:=by
   simp only [mem_cons,not_mem_nil,or_false] at hd;rcases hd with rfl | rfl | rfl | rfl<;>exact⟨_,'d',rfl⟩
  exact q (.fact z p) _ 'o' ⟨nf_ok z hz,hp⟩ hz
 lia;refine qa1n (fun c=>?_) (fun c=>?_)
 ·lia
  refine⟨k + 2,W.moves.length,by rw [length_map],'o','o',fun x x0 x1=>?_⟩;obtain⟨p2,rfl,hp2⟩:∃ p':Nat,x=(p':Int)/\p' < W.many:=⟨x.toNat,'o','o'⟩;lia;exact q (.move p p2) _ 'o' ⟨hp,hp2⟩ trivial
 lia;refine⟨k + 2,4,rfl,'d','o',fun x x0 x1=>?_⟩;lia;refine qa5b x0 (by simpa using x1) fun d hd _=>?_;lia;obtain⟨z,hz,rfl⟩:∃ z ∈ NS,d=.str z:=by
  simp only [mem_cons,not_mem_nil,or_false] at hd;rcases hd with rfl | rfl | rfl | rfl<;>exact⟨_,'d',rfl⟩
 refine qa1n (fun c=>?_) (fun c=>?_)
 ·lia
  refine⟨k + 3,W.many,2,by rw [length_map,hmv],'d','o','o',fun ns k' hk' hin=>?_⟩;lia;exact q (.split z ns) _ 'o' ⟨ns_ok z hz,hin⟩ hz
 ·lia
  refine⟨k + 3,W.moves.length,by rw [length_map],'o','o',fun y y0 y1=>?_⟩;obtain⟨p2,rfl,hp2⟩:∃ p':Nat,y=(p':Int)/\p' < W.many:=⟨y.toNat,'o','o'⟩;lia;exact q (.join z p p2) _ 'o' ⟨ns_ok z hz,hp,hp2⟩ hz
def sl_to{xs:List PyData}{p:Nat}(h:p < xs.length):fSlT (.tuple xs) none (some (p:Int))=some (.tuple (xs.take p)):=by
 have e:HT.sIx xs.length xs.length (some (p:Int))=p:=by
  show(if (p:Int) < 0 then((p:Int) + (xs.length:Int)).toNat else min (p:Int).toNat xs.length)=p;rw [if_neg 'o'];omega
 have e0:HT.sIx xs.length 0 none=0:=by unfold HT.sIx;rfl
 show(if HT.sIx xs.length 0 none=0/\HT.sIx xs.length xs.length (some (p:Int))=xs.length then none else some (PyData.tuple (cutD xs none (some (p:Int)))))=_;rw [if_neg (fun z=>by have:=z.2;rw [e] at this;omega)];unfold cutD;rw [e,e0];simp
def qb5p{xs:List PyData}{p:Nat}(h:p < xs.length):fSlT (.tuple xs) (some ((p:Int) + 1)) none=some (.tuple (xs.drop (p + 1))):=by
 have e:HT.sIx xs.length 0 (some ((p:Int) + 1))=p + 1:=by
  show(if (p:Int) + 1 < 0 then((p:Int) + 1 + (xs.length:Int)).toNat else min ((p:Int) + 1).toNat xs.length)=p + 1;rw [if_neg 'o'];omega
 have e0:HT.sIx xs.length xs.length none=xs.length:=by unfold HT.sIx;rfl
 show(if HT.sIx xs.length 0 (some ((p:Int) + 1))=0/\HT.sIx xs.length xs.length none=xs.length then none else some (PyData.tuple (cutD xs (some ((p:Int) + 1)) none)))=_;rw [if_neg (fun z=>by have:=z.1;rw [e] at this;omega)];unfold cutD;rw [e,e0,List.take_of_length_le (by rw [length_drop];exact le_refl _)]
def sl_init{xs:List PyData}(h:1 <= xs.length):fSlT (.tuple xs) none (some (-1))=some (.tuple (xs.take (xs.length - 1))):=by
 have e:HT.sIx xs.length xs.length (some (-1))=xs.length - 1:=by
  show(if (-1:Int) < 0 then((-1:Int) + (xs.length:Int)).toNat else min (-1:Int).toNat xs.length)=_;rw [if_pos 'd'];omega
 have e0:HT.sIx xs.length 0 none=0:=by unfold HT.sIx;rfl
 show(if HT.sIx xs.length 0 none=0/\HT.sIx xs.length xs.length (some (-1))=xs.length then none else some (PyData.tuple (cutD xs none (some (-1)))))=_;rw [if_neg (fun z=>by have:=z.2;rw [e] at this;omega)];unfold cutD;rw [e,e0];simp
def qa4d(p:Int):Bd (.int p):='m'
def bd_bool(p:Bool):Bd (.bool p):='m'
def bd_none:Bd .none:='m'
def qc2z(p:List PyData):Bd (.list p):='m'
def bd_dict(p:List 'i'):Bd (.dict p):='m'
def qa5r{p:List PyData}(h:p.length <= 50):Bd (.tuple p):=⟨(fun z h=>nomatch h),(fun z h=>nomatch h),fun z e=>by cases e;exact h⟩
def qa2s{z:Str}(h:(decide (z.length <= 1000) && PyData.strOk z)=true):Bd (.str z):=by
 rw [and_eq_true,decide_eq_true_eq] at h;exact⟨fun y e=>by cases e;exact h.1,fun y e=>by cases e;exact h.2,fun z h=>nomatch h⟩
def gx_t{l:List PyData}(h:l.length <= 50)(hb:∀ y ∈ l,Bd y):Gx (.tuple l):=fun xs e=>by cases e;exact⟨h,hb⟩
def gx_n{x:PyData} (h:isD "tuple" x=false):Gx x:=fun xs e=>by rw [e] at h;cases h
def qb9u:∀ z ∈ NF ++ NS,(decide (z.length <= 1000) && PyData.strOk z)=true:=by decide +kernel
def ch_bd{W:Wd}{c:Ch}(g:Gw W)(hc:c.ok W.many)(hn:c.nm):∃ cs,c.enc=.tuple cs/\(cs.length=3 ∨ cs.length=4)/\∀ y ∈ cs,Bd y:=by
 have m9:=g.m2;cases c with
 | fact z p =>
  refine⟨_,rfl,.inl rfl,fun y hy=>?_⟩;simp only [mem_cons,not_mem_nil,or_false] at hy;rcases hy with rfl | rfl | rfl
  ·exact qa2s 'k'
  ·exact qa2s (qb9u z (List.mem_append_left _ hn))
  ·exact qa4d _
 | move p p2 =>
  refine⟨_,rfl,.inl rfl,fun y hy=>?_⟩;simp only [mem_cons,not_mem_nil,or_false] at hy;rcases hy with rfl | rfl | rfl
  ·exact qa2s 'k'
  ·exact qa4d _
  ·exact qa4d _
 | split z ps =>
  refine⟨_,rfl,.inl rfl,fun y hy=>?_⟩;simp only [mem_cons,not_mem_nil,or_false] at hy;rcases hy with rfl | rfl | rfl
  ·exact qa2s 'k'
  ·exact qa2s (qb9u z (mem_append_right _ hn))
  ·have:=hc.2.2.1
   exact qa5r (by rw [length_map];omega)
 | join z p p2 =>
  refine⟨_,rfl,.inr rfl,fun y hy=>?_⟩;simp only [mem_cons,not_mem_nil,or_false] at hy;rcases hy with rfl | rfl | rfl | rfl
  ·exact qa2s 'k'
  ·exact qa2s (qb9u z (mem_append_right _ hn))
  ·exact qa4d _
  ·exact qa4d _
noncomputable def odd(m:Int):List PyData:=[.int m,.int (-1),.bool true,.none,.str "a",.str "",.str "A",.str "abcdefghi",.tuple [.int 0],.tuple [.int m],.list [.int 0],.tuple [.int 0,.int 0],.tuple [.int 1,.int 0],.tuple [.bool true],.dict [],.int 0,.tuple [],.str "zz"]
def odd_bd{m:Int}:∀ y ∈ odd m,Bd y:=by
 intro y hy;unfold odd at hy;simp only [mem_cons,not_mem_nil,or_false] at hy;rcases hy with rfl | rfl | rfl | rfl | rfl | rfl | rfl | rfl | rfl | rfl | rfl | rfl | rfl | rfl | rfl | rfl | rfl | rfl
 ·exact qa4d _
 ·exact qa4d _
 ·exact bd_bool _
 ·exact bd_none
 ·exact qa2s 'k'
 ·exact qa2s 'k'
 ·exact qa2s 'k'
 ·exact qa2s 'k'
 ·exact qa5r 'd'
 ·exact qa5r (by show 1 <= 50;decide)
 ·exact qc2z _
 ·exact qa5r 'd'
 ·exact qa5r 'd'
 ·exact qa5r 'd'
 ·exact bd_dict _
 ·exact qa4d _
 ·exact qa5r 'd'
 ·exact qa2s 'k'
def qb9v:DSp:=fun ls Q=>∃ (k:Nat) (W:Wd) (c:Ch),ls=[.tape k,.d W.enc,.d c.enc]/\k + 20 < 900000/\Gw W/\c.ok W.many/\c.nm/\∀ (x:PyData) (k':Nat),k' <= k + 10->Gx x->Q (.d x) [some (.tape k'),none,none]
abbrev qa7s:Stmt:=top 41
def qa3f:FnScope ["_law_tape","_law_world_here","_law_change_here","_law_many","_law_odd","_law_at","_law_way","_law_words"] ["_law_tape","_law_world_here","_law_change_here"] (qa0k qa7s):='a'
def ok_bent{f f1:Addr}{fd fd1:FuncData} (F:FU K "_law_bent" qa7s f fd) (B:Bl mg) (qa0r:DNext K mg f1 fd1) (qa0w:GNext P w K mg base n f1 fd1):FO P w K mg base (n + 1) f fd ["_law_tape","_law_world_here","_law_change_here"] qb9v:=by
 refine F.dok qa3f (fun cdv A outer s H E hr ls Qd h=>?_) 'x';obtain⟨k,W,c,rfl,hk,g,hc,hn,q⟩:=h;refine⟨rfl,?_⟩;refine⟨_,(qa0g (qa1l (i:=3) qa3f.nd rfl 'f' (qa1f qa1p qa3g rfl B.len_ qa2r 'C'))
  (qa0g (qa1l (i:=4) qa3f.nd rfl 'f' (qa1c (qa1u (qa0a (dv 3) (qa0a (qb8f qa0d) (qa0a qa2u (qa0a de_non (qa0a qa0n (qa0a qa0n (qa0a qa0n (qa0a qa0n (qa0a (qa0y 'u') (qa0a (qa0y (qa0a (dv 3) qa0b)) (qa0a (qa1c (qa1u 'u')) (qa0a (qa0y (qa0a qa0d 'u')) (qa0a (qa0y (qa0a qa0d 'u')) (qa0a (qa0y (qa0a qa2u qa0b)) (qa0a qc2e qa0b))))))))))))))))))
  (qa0g (qa1l (i:=4) qa3f.nd rfl 'f' (qa6k qa2v qa4l (dv 4) (qa1c (qa1u (qa0a qa0d (qa0a (qa0y qa0b) (qa0a qa0n qa0b)))))))
  (qa0g (qa1l (i:=5) qa3f.nd rfl 'f' (qa0i [true,false] qa0r qa0w hr rfl (qa0a (dv 0) (qa0a (qa1f qa1p qa3g rfl B.len_ qa2r 'v') qa0b))))
  (qa0g (qa1l (i:=6) qa3f.nd rfl 'f' (qa0i [true,false] qa0r qa0w hr rfl 'D'))
  (qa0g (qa1r (qa1d op_lt (qa2x _) (dv 6) qa0d (qa0x _))
  (qa0j (qa0q (dv 2)))
  qa1a)
  (qa0g (qa1r (qa1d (qa2n hr.units) qa2m (dv 6) qa0d (qa0x _))
  (qa0j (qa0q (qa0o qa0l qa0p (qa1c (qa1u (qa0a (qa1c (qb0z qa8a qb4w rfl B.list_ qb4v 'v')) (qa0a (qa6k qa2v qa4l (dv 2) (qa0y 'u')) (qa0a (qa3n qa5f qa5k (dv 2) qa4h (qa4i (qb8f qa0d))) (qa0a (qa3n qa5f qa5k (dv 2) (qa4i qa0d) qa4h) (qa0a (qa0y 'v') qa0b))))))) (qa0i [true,false] qa0r qa0w hr rfl 'D') 'b')))
  qa1a)
  (qa0g (qa1r (qa1d (qa2n hr.units) qa2m (dv 6) qa0d (qa0x _))
  (qa0g (qa1l (i:=7) qa3f.nd rfl 'f' (qa1c (qa1u (qa0a qa0n (qa0a qa0n (qa0a qa0n (qa0a qa0n 'z')))))))
  (qa0j (qa0q (qa6k qa2v qa4l (qa0y (qa0a (qa0o qa0l qa0p (dv 7) (qa0i [true,false] qa0r qa0w hr rfl 'D') 'b') qa0b)) (qa3n qa5f qa5k (dv 2) (qa4i qa0d) qa4h)))))
  qa1a)
  (qa0j (qa0q (qa6k qa2v qa4l (qa6k qa2v qa4l (qa3n qa5f qa5k (dv 2) qa4h (qa4i (dv 5))) (qa0y (qa0a (qa0o qa0l qa0p (dv 4) (qa0i [true,false] qa0r qa0w hr rfl 'D') 'b') qa0b))) (qa3n qa5f qa5k (dv 2) (qa4i (qa6k qa2v qa4l (dv 5) qa0d)) qa4h)))))))))))),?_⟩
 obtain⟨cs,ec,hcl,hcb⟩:=ch_bd g hc hn;rw [ec];have hsz:=sizeLine_eq;lia;refine qa0t (x:=.list (odd ((W.moves.map encT).length:Int))) (fAdd_l (by rw [hsz];show 15 + 3 <= _;decide)) ?_;generalize ((W.moves.map encT).length:Int)=m;have hob:=odd_bd (m:=m);have hol:(odd m).length=18:=rfl;generalize odd m=od at hob hol;lia;refine⟨k,cs.length,rfl,'o','o',fun at_ h0 h1=>?_⟩;obtain⟨i,rfl,hi⟩:∃ i:Nat,at_=(i:Int)/\i < cs.length:=⟨at_.toNat,'o','o'⟩;lia;refine⟨k + 1,8,rfl,'d','o',fun r r0 r8=>?_⟩;lia;refine qa1n (fun c1=>?_) (fun c1=>?_)
 ·lia
  exact q _ _ 'o' (gx_t 'o' hcb)
 lia;refine qa1n (fun c2=>?_) (fun c2=>?_)
 ·lia
  refine qa0t (qb1c (by rw [hsz];show _ + 1 <= _;omega)) (qa0t (sl_init 'o') (qa0t (x:=.tuple (cs.drop 1)) (qb5p (p:=0) 'o') ⟨k + 1 + 1,5,rfl,'d','o',fun j j0 j5=>?_⟩));lia;refine qa5b j0 (by simpa using j5) fun d hd _=>?_;lia;refine q _ _ 'o' ?_;simp only [mem_cons,not_mem_nil,or_false] at hd;rcases hd with rfl | rfl | rfl | rfl | rfl
  ·exact gx_n rfl
  ·refine gx_t (by rw [length_append];show _ + 1 <= _;omega) fun y hy=>?_
   rcases mem_append.mp hy with hy | hy
   ·exact hcb y hy
   ·rw [mem_singleton.mp hy];exact qa4d _
  ·exact gx_t (by rw [length_take];omega) fun y hy=>hcb y (List.mem_of_mem_take hy)
  ·exact gx_t (by rw [length_drop];omega) fun y hy=>hcb y (List.mem_of_mem_drop hy)
  ·refine gx_t (by show 1 <= 50;decide) fun y hy=>?_
   rw [mem_singleton.mp hy];exact qa5r 'o'
 lia;refine qa1n (fun c3=>?_) (fun c3=>?_)
 ·lia
  refine⟨k + 1 + 1,7,rfl,'d','o',fun j j0 j5=>?_⟩;lia;refine qa5b j0 (by simpa using j5) fun d hd _=>?_;lia;refine qa0t (x:=.tuple (cs.drop 1)) (qb5p (p:=0) 'o') (qa0t (qb1c (by rw [hsz,length_drop];show 1 + _ <= _;omega)) ?_);refine q _ _ 'o' (gx_t (by rw [length_append,length_drop];show 1 + _ <= _;omega) fun y hy=>?_);rcases mem_append.mp hy with hy | hy
  ·rw [mem_singleton.mp hy]
   simp only [mem_cons,not_mem_nil,or_false] at hd;rcases hd with rfl | rfl | rfl | rfl | rfl | rfl | rfl<;>exact qa2s 'k'
  ·exact hcb y (List.mem_of_mem_drop hy)
 lia;refine qa0t (sl_to hi) ⟨k + 1 + 1,18,rfl,'d','o',fun j j0 j5=>?_⟩;lia;refine qa5b j0 (by rw [hol];exact j5) fun d hd _=>?_;lia;refine qa0t (qb1c (by rw [hsz,length_take];show _ + 1 <= _;omega)) (qa0t (qb5p hi) (qa0t (qb1c (by rw [hsz,length_append,length_take,length_drop];show _ + 1 + _ <= _;omega)) ?_));refine q _ _ 'o' (gx_t (by rw [length_append,length_append,length_take,length_drop];show _ + 1 + _ <= _;omega) fun y hy=>?_);rcases mem_append.mp hy with hy | hy
 ·rcases mem_append.mp hy with hy | hy
  ·exact hcb y (List.mem_of_mem_take hy)
  ·rw [mem_singleton.mp hy];exact hob d hd
 ·exact hcb y (List.mem_of_mem_drop hy)
structure Lg(dp wt:Nat)(d:PyData):Prop where
 can:d.canLay0=true
 sho:d.intsShort 13=true
 shw:d.showable=true
 dep:d.depth <= dp
 wgt:d.weight <= wt
def Lg.up{dp wt dp' wt':Nat}{d:PyData}(h:Lg dp wt d)(h1:dp <= dp')(h2:wt <= wt'):Lg dp' wt' d:=⟨h.can,h.sho,h.shw,le_trans h.dep h1,le_trans h.wgt h2⟩
def lg_int{x:Int}(h0:0 <= x)(h1:x < 20):Lg 0 8 (.int x):=by
 have key:∀ n:Fin 20,(PyData.intsShort 13 (.int (n.val:Int)) && PyData.showable (.int (n.val:Int)) && decide (PyData.weight (.int (n.val:Int)) <= 8))=true:=by decide +kernel
 have k:=key ⟨x.toNat,'o'⟩;have e:((x.toNat:Nat):Int)=x:=by omega
 simp only [e,and_eq_true,decide_eq_true_eq] at k;exact⟨rfl,k.1.1,k.1.2,le_refl _,k.2⟩
def lg_all{dp wt:Nat}:∀ {xs:List PyData},(∀ x ∈ xs,Lg dp wt x)->PyData.canLayAll0 xs=true/\PyData.intsShortAll 13 xs=true/\PyData.showableAll xs=true/\PyData.depthAll xs <= dp/\PyData.weightAll xs <= xs.length * (wt + 1)
 | [],_=>⟨rfl,rfl,rfl,zero_le _,zero_le _⟩
 | x :: r,h=>by
  have hx:=h x mem_cons_self;obtain⟨a,b,c,d,e⟩:=lg_all (xs:=r) fun y hy=>h y (mem_cons_of_mem _ hy);refine⟨by rw [PyData.canLayAll0,hx.can,a];rfl,by rw [PyData.intsShortAll,hx.sho,b];rfl,by rw [PyData.showableAll,hx.shw,c];rfl,by rw [PyData.depthAll];exact Nat.max_le.mpr ⟨hx.dep,d⟩,?_⟩;rw [PyData.weightAll,length_cons,Nat.add_mul];have:=hx.wgt;omega
def qa8o{dp wt n:Nat}{xs:List PyData}(h:∀ x ∈ xs,Lg dp wt x)(hl:xs.length <= n):Lg (dp + 1) (n * (wt + 1)) (.tuple xs):=by
 obtain⟨a,b,c,d,e⟩:=lg_all h;refine⟨by rw [PyData.canLay0];exact a,by rw [PyData.intsShort];exact b,by rw [PyData.showable];exact c,by rw [PyData.depth];omega,?_⟩;rw [PyData.weight];exact le_trans e (Nat.mul_le_mul_right _ hl)
def lg_ok{dp wt:Nat}{d:PyData}(h:Lg dp wt d)(h1:dp <= 64)(h2:wt <= 100000):qa7a d=true:=by
 unfold qa7a PyData.layable0;have e:(2:Nat) ^ 20=1048576:=by decide
 have hd:=h.dep;have hw:=h.wgt;rw [h.can,h.sho,h.shw,decide_eq_true (show d.depth <= 64 by omega),decide_eq_true (show d.weight <= 2 ^ 20 by omega)];rfl
def lg_T{m:Nat}{t:List Int}(h:InR m t)(hm:m <= 20):Lg 1 (m * 9) (encT t):=by
 refine qa8o (fun x hx=>?_) (by rw [length_map];exact h.2.1);obtain⟨y,hy,rfl⟩:=mem_map.mp hx;have:=h.1 y hy;exact lg_int this.1 'o'
def qc3a{z:Str} (h:z ∈ (["p","pq","q","a","ab","b"]:List Str)):Lg 0 8 (.str z):=by
 simp only [mem_cons,not_mem_nil,or_false] at h;rcases h with rfl | rfl | rfl | rfl | rfl | rfl<;>exact⟨'k',rfl,rfl,le_refl _,'k'⟩
def lg_two{dp wt:Nat}{x y:PyData}(hx:Lg dp wt x)(hy:Lg dp wt y):Lg (dp + 1) (2 * (wt + 1)) (.tuple [x,y]):=by
 refine qa8o (fun z hz=>?_) 'g';simp only [mem_cons,not_mem_nil,or_false] at hz;rcases hz with rfl | rfl
 ·exact hx
 ·exact hy
def qb9w{W:Wd}(G:Good W):qa7a W.enc=true:=by
 have m9:=G.m2;have hf:Lg 3 495 (.tuple (W.facts.map encF)):=by
  refine qa8o (dp:=2) (wt:=164) (n:=3) (fun x hx=>?_) ?_
  ·obtain⟨f,hfm,rfl⟩:=mem_map.mp hx
   have hn:f.1 ∈ (["p","pq","q","a","ab","b"]:List Str):=by
    have:=G.fn.subset (mem_map.mpr ⟨f,hfm,rfl⟩);simp only [mem_cons,not_mem_nil,or_false] at this ⊢;rcases this with h | h | h<;>simp [h]
   exact lg_two (dp:=1) (wt:=81) ((qc3a hn).up 'o' 'o') ((lg_T (G.fr f hfm) 'o').up 'o' 'o')
  ·have:=G.fn.length_le
   simp at this ⊢;omega
 have hm:Lg 4 4437 (.tuple (W.moves.map encT)):=by
  refine(qa8o (dp:=1) (wt:=81) (n:=9) (fun x hx=>?_) ?_).up 'o' 'o'
  ·obtain⟨t,ht,rfl⟩:=mem_map.mp hx
   exact(lg_T (G.mr t ht) 'o').up 'o' 'o'
  ·rw [length_map,G.mv];omega
 have hs:Lg 4 4437 (.tuple (W.sights.map encS)):=by
  refine qa8o (dp:=3) (wt:=1478) (n:=3) (fun x hx=>?_) ?_
  ·obtain⟨f,hfm,rfl⟩:=mem_map.mp hx
   have hn:f.1 ∈ (["p","pq","q","a","ab","b"]:List Str):=by
    have:=G.sn.subset (mem_map.mpr ⟨f,hfm,rfl⟩);simp only [mem_cons,not_mem_nil,or_false] at this ⊢;rcases this with h | h | h<;>simp [h]
   have hp:=G.sr f hfm;have hl:=hp.len;refine lg_two (dp:=2) (wt:=738) ((qc3a hn).up 'o' 'o') ?_;refine(qa8o (dp:=1) (wt:=81) (n:=9) (fun x hx=>?_) (by rw [length_map];omega));obtain⟨t,ht,rfl⟩:=mem_map.mp hx;exact(lg_T (hp.inr t ht) 'o').up 'o' 'o'
  ·have:=G.sn.length_le
   simp at this ⊢;omega
 have hw:Lg 5 (3 * (4437 + 1)) W.enc:=by
  refine qa8o (fun x hx=>?_) 'g';simp only [mem_cons,not_mem_nil,or_false] at hx;rcases hx with rfl | rfl | rfl
  ·exact hf.up 'o' 'o'
  ·exact hm
  ·exact hs
 exact lg_ok hw 'd' 'd'
def usS{α:Type}{us:List α}{n:Nat}(h:us.length=n + 1):∃ a r,us=a :: r/\r.length=n:=by
 cases us with
 | nil=>cases h
 | cons a r=>exact⟨a,r,rfl,Nat.succ.inj h⟩
def gw_good{W:Wd}(G:Good W):Gw W:=by
 have lf:=G.fn.length_le;have ls:=G.sn.length_le;rw [length_map] at lf ls;have lf:W.facts.length <= 3:=lf;have ls:W.sights.length <= 3:=ls;exact⟨G.m1,G.m2,G.mv,G.mr,'o',(by decide +kernel:(["p","pq","q"]:List Str).Nodup).sublist G.fn,G.fr,'o',(by decide +kernel:(["a","ab","b"]:List Str).Nodup).sublist G.sn,G.sr⟩
noncomputable def qb9x:List PyData:=[.none,.bool true,.int 0,.str "fact",.tuple [],.list [],.dict [],.tuple [.str "fact"],.tuple [.tuple [.str "fact"],.str "p",.int 0],.tuple [.list [.str "fact"],.str "p",.int 0]]
def last_ok{m:Nat}:∀ x ∈ qb9x,Gx x/\okC m x=false:=by
 intro x hx;unfold qb9x at hx;simp only [mem_cons,not_mem_nil,or_false] at hx;rcases hx with rfl | rfl | rfl | rfl | rfl | rfl | rfl | rfl | rfl | rfl
 ·exact⟨gx_n rfl,rfl⟩
 ·exact⟨gx_n rfl,rfl⟩
 ·exact⟨gx_n rfl,rfl⟩
 ·exact⟨gx_n rfl,rfl⟩
 ·exact⟨gx_t 'd' fun y hy=>absurd hy not_mem_nil,rfl⟩
 ·exact⟨gx_n rfl,rfl⟩
 ·exact⟨gx_n rfl,rfl⟩
 ·refine⟨gx_t 'd' fun y hy=>?_,rfl⟩
  rw [mem_singleton.mp hy];exact qa2s 'k'
 ·refine⟨gx_t 'd' fun y hy=>?_,rfl⟩
  simp only [mem_cons,not_mem_nil,or_false] at hy;rcases hy with rfl | rfl | rfl
  ·exact qa5r 'd'
  ·exact qa2s 'k'
  ·exact qa4d _
 ·refine⟨gx_t 'd' fun y hy=>?_,rfl⟩
  simp only [mem_cons,not_mem_nil,or_false] at hy;rcases hy with rfl | rfl | rfl
  ·exact qc2z _
  ·exact qa2s 'k'
  ·exact qa4d _
abbrev qa7t:Stmt:=top 43
def qa8p:FnScope ["_law_script","_law_tape","_law_world_here","_law_kept","_law_k","_law_thing"] ["_law_script"] (qa0k qa7t):='a'
def ok_law{f f2 f3 f4 f5 f6:Addr}{fd fd2 fd3 fd4 fd5 fd6:FuncData} (F:FU K "law" qa7t f fd) (B:Bl mg)
  (qa9c:Def K mg "_law_world" qa6o ["_law_tape","_law_most"] f2 fd2) (qc0x:FO P w K mg base n f2 fd2 ["_law_tape","_law_most"] qb5g)
  (qa8q:Def K mg "_law_change" qa5q ["_law_tape","_law_world_here"] f3 fd3) (qb9y:FO P w K mg base n f3 fd3 ["_law_tape","_law_world_here"] qb3d)
  (qb0o:Def K mg "_law_bent" qa7s ["_law_tape","_law_world_here","_law_change_here"] f4 fd4) (qc4r:FO P w K mg base n f4 fd4 ["_law_tape","_law_world_here","_law_change_here"] qb9v)
  (qa7u:Def K mg "_law_done" qa7r ["_law_world_here","_law_change_here"] f5 fd5) (qb4k:FO P w K mg base n f5 fd5 ["_law_world_here","_law_change_here"] qb9r)
  (qa5s:Def K mg "_law_is_change" qa3x ["_law_world_here","_law_thing"] f6 fd6) (qb4l:FO P w K mg base n f6 fd6 ["_law_world_here","_law_thing"] spLC):FnOk P w K mg base CX0 (n + 1) f fd ["_law_script"] (spLaw K):=by
 refine F.law qa8p (fun cdv A outer s H E hr=>?_);refine⟨_,_,rfl,qa3c (i:=1) qa8p.nd rfl 'f' (qb7d (qa0s (pv 0) (qa0s qa1y qa1s))),_,(qa0g (qa1l (i:=2) qa8p.nd rfl 'f' (qa0i [true,false] qa9c qc0x hr rfl (qa0a (dv 1) 'u')))
  (qa0g (qa1l (i:=3) qa8p.nd rfl 'f' (qa1f (qb4b hr.gd hr.units2) qb8y rfl B.repr_ qc1q 'v'))
  (qa0g (qa6y PassesOwn.never rfl (qa4z rfl B.range_ qa0d) (qa1b (i:=4) qa8p.nd rfl 'f')
  (qa0g (qa1l (i:=5) qa8p.nd rfl 'f' (qa0i [true,false,false] qb0o qc4r hr rfl (qa0a (dv 1) (qa0a (dv 2) (qa0a (qa0i [true,false] qa8q qb9y hr rfl (qa0a (dv 1) 'v')) qa0b)))))
  (qa0j (qa1r (qa1d (qb3q hr.units) qb3p (qa0i [false,false] qa7u qb4k hr rfl (qa0a (dv 2) (qa0a (dv 5) qa0b))) (qa0o qa0l qa0p (qa1c (qa1u (qa0a qa0n (qa0a qa0n qa0b)))) (qa1m qc6l ad_intB rfl B.int_ qb7o (qa0a (qa0i [false,false] qa5s qb4l hr rfl (qa0a (dv 2) (qa0a (dv 5) qa0b))) qa0b)) 'b') (qa0x _))
  'w'
  qa1a))))
  (qa0g (qa6y PassesOwn.never rfl (qa2f (qa1c (qa1u (qa0a de_non (qa0a qa2u (qa0a qa0d (qa0a qa0n (qa0a (qa0y qa0b) (qa0a (qa1c (qa1u qa0b)) (qa0a qc2e (qa0a (qa0y (qa0a qa0n qa0b)) (qa0a (qa0y (qa0a (qa0y (qa0a qa0n qa0b)) (qa0a qa0n 'u'))) (qa0a (qa0y (qa0a (qa1c (qa1u (qa0a qa0n qa0b))) (qa0a qa0n 'u'))) qa0b))))))))))))) (qa1b (i:=5) qa8p.nd rfl 'f')
  (qa0j (qa1r (qa1d (qb3q hr.units) qb3p (qa0i [false,false] qa7u qb4k hr rfl (qa0a (dv 2) (qa0a (dv 5) qa0b))) qa0n (qa0x _))
  'w'
  qa1a)))
  (qa0j (qa0q (qa8g (qa2n hr.units) qa2m (qa1f (qb4b hr.gd hr.units2) qb8y rfl B.repr_ qc1q 'v') (dv 3) (qa0x _)))))))),?_⟩
 lia;refine⟨0,6,rfl,'o','o','o',fun W k0 hk0 G _=>?_⟩;have g:=gw_good G;lia;refine qa0t (qb8z (qb9w G)) ?_;lia;refine⟨⟨'d','d'⟩,?_⟩;refine qa4b (fun i ρ=>∃ (k:Nat) (v4 v5:Option L),ρ=[some .scr,some (.tape k),some (.d W.enc),some (.d (.str W.enc.shown)),v4,v5]/\k <= 200 + 40 * i) ⟨k0,none,none,rfl,'o'⟩ ?_ ?_
 ·rintro i u ρ N hu ⟨k,v4,v5,rfl,hk⟩ hN
  obtain⟨hi2,rfl⟩:=rngI hu;have hi2:i < 12:=hi2;lia;refine⟨k,W,rfl,'o',g,fun c k1 hk1 hc hcn=>?_⟩;lia;refine⟨k1,W,c,rfl,'o',g,hc,hcn,fun x k2 hk2 Gx=>?_⟩;lia;refine⟨W,x,rfl,g,Gx,?_⟩;lia;refine⟨W,x,rfl,g,Gx,?_⟩;lia;cases hh:okC W.many x with
  | true =>
   walk_at "dk";exact hN _ ⟨_,_,_,rfl,'o'⟩
  | false =>
   walk_at "dk";exact hN _ ⟨_,_,_,rfl,'o'⟩
 rintro ρ ⟨k,v4,v5,rfl,hk⟩;lia;refine qa4b (xs:=qb9x) (fun _ ρ=>∃ v5:Option L,ρ=[some .scr,some (.tape k),some (.d W.enc),some (.d (.str W.enc.shown)),v4,v5]) ⟨v5,rfl⟩ ?_ ?_
 ·rintro i u ρ N hu ⟨v5,rfl⟩ hN
  obtain⟨Gu,ou⟩:=last_ok (m:=W.many) u (mem_of_getElem? hu);lia;refine⟨W,u,rfl,g,Gu,?_⟩;rw [ou];walk_at "dk";exact hN _ ⟨_,rfl⟩
 ·rintro ρ ⟨v5,rfl⟩
  lia;refine qa0t (qb8z (qb9w G)) ?_;walk_at "dk";rfl
def Lies(K:W.Frag)(x:Str)(st:Stmt)(ps:List Str):Prop:=∃ f fd,Fun K x x st f fd/\W.nsIn K mainGlobals x=some (some (.ref f))/\Binds K fd ps []
abbrev fnX(x:Str)(st:Stmt)(kV dc pm:Value)(an:Option Addr)(cd ct:Value):FuncData:=W.fnOf x x (qa5u st) (qa2z st) (qa0k st) .none kV dc pm an cd ct
def qa8r{K:W.Frag}{x:Str}{st:Stmt}{ps:List Str}{f:Addr}{od an:Option Addr}{sl:Array (Option Value)}{oc kV dc pm cd ct:Value}
  (a:W.nsIn K mainGlobals x=some (some (.ref f))) (l:K.lookup f=some ⟨oc,od,.func (fnX x st kV dc pm an cd ct),sl⟩) (c:W.codeIn K cd x=true) (k:W.keepIn K (.ref f)=true) (hp:ps.length=1)
  (b:∀ (kV dc pm:Value) (an:Option Addr) (cd ct a0:Value),bindArgs (fnX x st kV dc pm an cd ct) ⟨[a0],[]⟩=pure (ps.zip [a0])):Lies K x st ps:=⟨f,_,qa8b l c k,a,(qa8b l c k).binds fun kV dc pm an cd ct us hl=>by
  rw [hp] at hl;obtain⟨a0,u0,rfl,h0⟩:=usS hl;obtain rfl:=eq_nil_of_length_eq_zero h0;exact b kV dc pm an cd ct a0⟩
def qa1v{K:W.Frag}{x:Str}{st:Stmt}{ps:List Str}{f:Addr}{od an:Option Addr}{sl:Array (Option Value)}{oc kV dc pm cd ct:Value}
  (a:W.nsIn K mainGlobals x=some (some (.ref f))) (l:K.lookup f=some ⟨oc,od,.func (fnX x st kV dc pm an cd ct),sl⟩) (c:W.codeIn K cd x=true) (k:W.keepIn K (.ref f)=true) (hp:ps.length=2)
  (b:∀ (kV dc pm:Value) (an:Option Addr) (cd ct a0 a1:Value),bindArgs (fnX x st kV dc pm an cd ct) ⟨[a0,a1],[]⟩=pure (ps.zip [a0,a1])):Lies K x st ps:=⟨f,_,qa8b l c k,a,(qa8b l c k).binds fun kV dc pm an cd ct us hl=>by
  rw [hp] at hl;obtain⟨a0,u0,rfl,h0⟩:=usS hl;obtain⟨a1,u1,rfl,h1⟩:=usS h0;obtain rfl:=eq_nil_of_length_eq_zero h1;exact b kV dc pm an cd ct a0 a1⟩
def qa6g{K:W.Frag}{x:Str}{st:Stmt}{ps:List Str}{f:Addr}{od an:Option Addr}{sl:Array (Option Value)}{oc kV dc pm cd ct:Value}
  (a:W.nsIn K mainGlobals x=some (some (.ref f))) (l:K.lookup f=some ⟨oc,od,.func (fnX x st kV dc pm an cd ct),sl⟩) (c:W.codeIn K cd x=true) (k:W.keepIn K (.ref f)=true) (hp:ps.length=3)
  (b:∀ (kV dc pm:Value) (an:Option Addr) (cd ct a0 a1 a2:Value),bindArgs (fnX x st kV dc pm an cd ct) ⟨[a0,a1,a2],[]⟩=pure (ps.zip [a0,a1,a2])):Lies K x st ps:=⟨f,_,qa8b l c k,a,(qa8b l c k).binds fun kV dc pm an cd ct us hl=>by
  rw [hp] at hl;obtain⟨a0,u0,rfl,h0⟩:=usS hl;obtain⟨a1,u1,rfl,h1⟩:=usS h0;obtain⟨a2,u2,rfl,h2⟩:=usS h1;obtain rfl:=eq_nil_of_length_eq_zero h2;exact b kV dc pm an cd ct a0 a1 a2⟩
def all_mk{P:Program}{w:World}{K:W.Frag}{h:Heap}{mg:Str->Option Value}{fa:Addr}(X:K.In h)(G:h.Ns mainGlobals mg) (hfa:mg "law" = some (.ref fa))
  (h_is_whole:Lies K "is_whole" qa5m ["thing"])
  (h_is_name:Lies K "is_name" qa8w ["thing"])
  (h_is_points:Lies K "is_points" qa6t ["thing","many"])
  (h_many_points:Lies K "many_points" qa4u ["world"])
  (h_points_of:Lies K "points_of" qa6r ["world","name"])
  (h_marks_of:Lies K "marks_of" qa7p ["parts","many"])
  (h_parts_by:Lies K "parts_by" qa7q ["marks"])
  (h_cut:Lies K "cut" s_cut ["world","hands","points"])
  (h_cut_parts:Lies K "cut_parts" qa6q ["parts","points"])
  (h_changed:Lies K "changed" qa8x ["world","change"])
  (h_is_change:Lies K "is_change" qa6u ["thing","many"])
  (h_are_points:Lies K "are_points" qa5o ["things","many"])
  (h_toggled:Lies K "toggled" qa8u ["points","point"])
  (h_with_pair:Lies K "with_pair" qa6p ["pairs","name","value"])
  (h_joined_parts:Lies K "joined_parts" qa4j ["parts","one","other"])
  (h_law_cell_at:Lies K "_law_cell_at" qa3s ["_law_script","_law_k"])
  (h_law_by:Lies K "_law_by" qb0l ["_law_script","_law_k","_law_many"])
  (h_law_next:Lies K "_law_next" qa7m ["_law_tape","_law_many"])
  (h_law_some:Lies K "_law_some" qa5l ["_law_tape","_law_many","_law_few"])
  (h_law_parts:Lies K "_law_parts" qa6n ["_law_tape","_law_many"])
  (h_law_world:Lies K "_law_world" qa6o ["_law_tape","_law_most"])
  (h_law_change:Lies K "_law_change" qa5q ["_law_tape","_law_world_here"])
  (h_law_is_point:Lies K "_law_is_point" qa4k ["_law_world_here","_law_thing"])
  (h_law_is_name:Lies K "_law_is_name" qa4v ["_law_thing"])
  (h_law_is_change:Lies K "_law_is_change" qa3x ["_law_world_here","_law_thing"])
  (h_law_bent:Lies K "_law_bent" qa7s ["_law_tape","_law_world_here","_law_change_here"])
  (h_law_done:Lies K "_law_done" qa7r ["_law_world_here","_law_change_here"])
  {f_law:Addr} {od_law an_law:Option Addr} {sl_law:Array (Option Value)} {oc_law kV_law dc_law pm_law cd_law ct_law:Value}
  (a_law:W.nsIn K mainGlobals "law" = some (some (.ref f_law))) (l_law:K.lookup f_law=some ⟨oc_law,od_law,.func (W.fnOf "law" "law" (qa5u qa7t) (qa2z qa7t) (qa0k qa7t) .none kV_law dc_law pm_law an_law cd_law ct_law),sl_law⟩) (c_law:W.codeIn K cd_law "law" = true) (k_law:W.keepIn K (.ref f_law)=true)
  (z_len:W.nsIn K mainGlobals "len" = some none)
  (z_range:W.nsIn K mainGlobals "range" = some none)
  (z_tuple:W.nsIn K mainGlobals "tuple" = some none)
  (z_bool:W.nsIn K mainGlobals "bool" = some none)
  (z_isinstance:W.nsIn K mainGlobals "isinstance" = some none)
  (z_reversed:W.nsIn K mainGlobals "reversed" = some none)
  (z_max:W.nsIn K mainGlobals "max" = some none)
  (z_zip:W.nsIn K mainGlobals "zip" = some none)
  (z_list:W.nsIn K mainGlobals "list" = some none)
  (z_str:W.nsIn K mainGlobals "str" = some none)
  (z_enumerate:W.nsIn K mainGlobals "enumerate" = some none)
  (z_dict:W.nsIn K mainGlobals "dict" = some none)
  (z_sum:W.nsIn K mainGlobals "sum" = some none)
  (z_int:W.nsIn K mainGlobals "int" = some none)
  (z_min:W.nsIn K mainGlobals "min" = some none)
  (z_sorted:W.nsIn K mainGlobals "sorted" = some none)
  (z_all:W.nsIn K mainGlobals "all" = some none)
  (z_set:W.nsIn K mainGlobals "set" = some none)
  (z_repr:W.nsIn K mainGlobals "repr" = some none)
  {C_NoChange:Addr} (aC_NoChange:W.nsIn K mainGlobals "NoChange" = some (some (.ref C_NoChange)))
  {C_WorldError:Addr} (aC_WorldError:W.nsIn K mainGlobals "WorldError" = some (some (.ref C_WorldError)))
  {C_NoLine:Addr} (aC_NoLine:W.nsIn K mainGlobals "NoLine" = some (some (.ref C_NoLine)))
  {C_NoPaper:Addr} (aC_NoPaper:W.nsIn K mainGlobals "NoPaper" = some (some (.ref C_NoPaper)))
  {C_NoPoint:Addr} (aC_NoPoint:W.nsIn K mainGlobals "NoPoint" = some (some (.ref C_NoPoint)))
  {C_NoText:Addr} (aC_NoText:W.nsIn K mainGlobals "NoText" = some (some (.ref C_NoText)))
  {C_NoTruth:Addr} (aC_NoTruth:W.nsIn K mainGlobals "NoTruth" = some (some (.ref C_NoTruth)))
  {C_NoWorld:Addr} (aC_NoWorld:W.nsIn K mainGlobals "NoWorld" = some (some (.ref C_NoWorld)))
  {C_TooMany:Addr} (aC_TooMany:W.nsIn K mainGlobals "TooMany" = some (some (.ref C_TooMany)))
  {nm_NoChange qn_NoChange:Str} {N_NoChange:Addr} {bs_NoChange sub_NoChange:List Value} {hd_NoChange ab_NoChange:Bool} {sn_NoChange:List Str} {col_NoChange:Option Bool} {dd_NoChange:Option Addr} {k0_NoChange k1_NoChange k2_NoChange k3_NoChange k5_NoChange:Option Value} {ni_NoChange:String} (lC_NoChange:K.lookup C_NoChange=some (excClassObj nm_NoChange qn_NoChange C_NoChange N_NoChange bs_NoChange [.ref C_WorldError,.type "ValueError",.type "Exception",.type "BaseException",.type "object"] hd_NoChange sn_NoChange sub_NoChange ab_NoChange col_NoChange dd_NoChange k0_NoChange k1_NoChange k2_NoChange k3_NoChange k5_NoChange ni_NoChange))
  {nm_WorldError qn_WorldError:Str} {N_WorldError:Addr} {bs_WorldError sub_WorldError:List Value} {hd_WorldError ab_WorldError:Bool} {sn_WorldError:List Str} {col_WorldError:Option Bool} {dd_WorldError:Option Addr} {k0_WorldError k1_WorldError k2_WorldError k3_WorldError k5_WorldError:Option Value} {ni_WorldError:String} (lC_WorldError:K.lookup C_WorldError=some (excClassObj nm_WorldError qn_WorldError C_WorldError N_WorldError bs_WorldError [.type "ValueError",.type "Exception",.type "BaseException",.type "object"] hd_WorldError sn_WorldError sub_WorldError ab_WorldError col_WorldError dd_WorldError k0_WorldError k1_WorldError k2_WorldError k3_WorldError k5_WorldError ni_WorldError))
  (z_ValueError:W.nsIn K mainGlobals "ValueError" = some none)
  (xe_NoChange:W.excIn K C_NoChange veM "ValueError.__new__" = true)
  (fa_NoChange:W.findIn K (.ref C_NoChange) "__getattribute__" = some (some (.builtin "BaseException.__getattribute__"))) (fb_NoChange:W.findIn K (.ref C_NoChange) "__getattr__" = some none) (fc_NoChange:W.findIn K (.ref C_NoChange) "__class__" = some (some (.builtin "object.__class__"))) (fd_NoChange:W.specialIn K (.builtin "object.__class__") "__get__" = some (some (.builtin "getset_descriptor.__get__"))) (fe_NoChange:W.takesIn K (.builtin "object.__class__")=some true) (ff_NoChange:W.mroIn K C_NoChange (.type "object")=some true) (fg_NoChange:W.mroIn K C_NoChange (.type "BaseException")=some true)
  (kv_NoChange:W.kitOne K (.ref C_NoChange) (.type "ValueError")=some true) (ko_NoChange:W.kitAny K (.ref C_NoChange) [.ref C_NoLine,.ref C_NoPaper,.ref C_NoPoint,.ref C_NoText,.ref C_NoTruth,.ref C_NoWorld,.ref C_TooMany]=some false)
  {tk_LONGEST_NAME:Tok} (a_LONGEST_NAME:W.nsIn K mainGlobals "LONGEST_NAME" = some (some (.int 8 tk_LONGEST_NAME)))
  : ∃ fd:FuncData,(∀ (s:Shared) (v:Value),BindsTo s fd ⟨[v],[]⟩ [("_law_script",v)])/\∀ base:Heap,K.In base->base.Ns mainGlobals mg->FnOk P w K mg base CX0 40 fa fd ["_law_script"] (spLaw K):=by
 have e:=hfa.symm.trans (W.mg_of X G a_law);cases e;obtain⟨f_is_whole,_,F_is_whole,qc4s,b_is_whole⟩:=h_is_whole;have d_is_whole:Def K mg _ _ _ _ _:=⟨F_is_whole,b_is_whole,W.mg_of X G qc4s⟩;obtain⟨f_is_name,_,F_is_name,qc7q,b_is_name⟩:=h_is_name;have d_is_name:Def K mg _ _ _ _ _:=⟨F_is_name,b_is_name,W.mg_of X G qc7q⟩;obtain⟨f_is_points,_,F_is_points,qc0y,b_is_points⟩:=h_is_points;have d_is_points:Def K mg _ _ _ _ _:=⟨F_is_points,b_is_points,W.mg_of X G qc0y⟩;obtain⟨f_many_points,_,F_many_points,a_many_points,b_many_points⟩:=h_many_points;have d_many_points:Def K mg _ _ _ _ _:=⟨F_many_points,b_many_points,W.mg_of X G a_many_points⟩;obtain⟨f_points_of,_,F_points_of,a_points_of,b_points_of⟩:=h_points_of;have d_points_of:Def K mg _ _ _ _ _:=⟨F_points_of,b_points_of,W.mg_of X G a_points_of⟩;obtain⟨f_marks_of,_,F_marks_of,a_marks_of,b_marks_of⟩:=h_marks_of;have d_marks_of:Def K mg _ _ _ _ _:=⟨F_marks_of,b_marks_of,W.mg_of X G a_marks_of⟩;obtain⟨f_parts_by,_,F_parts_by,a_parts_by,b_parts_by⟩:=h_parts_by
 have d_parts_by:Def K mg _ _ _ _ _:=⟨F_parts_by,b_parts_by,W.mg_of X G a_parts_by⟩;obtain⟨f_cut,_,F_cut,a_cut,b_cut⟩:=h_cut;have d_cut:Def K mg _ _ _ _ _:=⟨F_cut,b_cut,W.mg_of X G a_cut⟩;obtain⟨f_cut_parts,_,F_cut_parts,a_cut_parts,b_cut_parts⟩:=h_cut_parts;have d_cut_parts:Def K mg _ _ _ _ _:=⟨F_cut_parts,b_cut_parts,W.mg_of X G a_cut_parts⟩;obtain⟨f_changed,_,F_changed,a_changed,b_changed⟩:=h_changed;have d_changed:Def K mg _ _ _ _ _:=⟨F_changed,b_changed,W.mg_of X G a_changed⟩;obtain⟨f_is_change,_,F_is_change,qc0z,b_is_change⟩:=h_is_change;have d_is_change:Def K mg _ _ _ _ _:=⟨F_is_change,b_is_change,W.mg_of X G qc0z⟩;obtain⟨f_are_points,_,F_are_points,qb9z,b_are_points⟩:=h_are_points;have d_are_points:Def K mg _ _ _ _ _:=⟨F_are_points,b_are_points,W.mg_of X G qb9z⟩;obtain⟨f_toggled,_,F_toggled,a_toggled,b_toggled⟩:=h_toggled;have d_toggled:Def K mg _ _ _ _ _:=⟨F_toggled,b_toggled,W.mg_of X G a_toggled⟩;obtain⟨f_with_pair,_,F_with_pair,a_with_pair,b_with_pair⟩:=h_with_pair;have d_with_pair:Def K mg _ _ _ _ _:=⟨F_with_pair,b_with_pair,W.mg_of X G a_with_pair⟩;obtain⟨f_joined_parts,_,F_joined_parts,a_joined_parts,b_joined_parts⟩:=h_joined_parts;have d_joined_parts:Def K mg _ _ _ _ _:=⟨F_joined_parts,b_joined_parts,W.mg_of X G a_joined_parts⟩;obtain⟨qd1y,_,qb6x,qb6y,b_law_cell_at⟩:=h_law_cell_at;have qa3a:Def K mg _ _ _ _ _:=⟨qb6x,b_law_cell_at,W.mg_of X G qb6y⟩;obtain⟨f_law_by,_,qd1w,qd1x,b_law_by⟩:=h_law_by
 have qb0m:Def K mg _ _ _ _ _:=⟨qd1w,b_law_by,W.mg_of X G qd1x⟩;obtain⟨qc4t,_,qb4m,qc4u,b_law_next⟩:=h_law_next;have qa0r:Def K mg _ _ _ _ _:=⟨qb4m,b_law_next,W.mg_of X G qc4u⟩;obtain⟨qc4v,_,qb4n,qc4w,b_law_some⟩:=h_law_some;have qa3o:Def K mg _ _ _ _ _:=⟨qb4n,b_law_some,W.mg_of X G qc4w⟩;obtain⟨qc1a,_,qb2h,qc1b,b_law_parts⟩:=h_law_parts;have qa9b:Def K mg _ _ _ _ _:=⟨qb2h,b_law_parts,W.mg_of X G qc1b⟩;obtain⟨qc1c,_,qb2i,qc1d,b_law_world⟩:=h_law_world;have qa9c:Def K mg _ _ _ _ _:=⟨qb2i,b_law_world,W.mg_of X G qc1d⟩;obtain⟨qc0a,_,qb1s,qc0b,b_law_change⟩:=h_law_change;have qa8q:Def K mg _ _ _ _ _:=⟨qb1s,b_law_change,W.mg_of X G qc0b⟩;obtain⟨qb5q,_,qa9u,qb5r,b_law_is_point⟩:=h_law_is_point;have qa3j:Def K mg _ _ _ _ _:=⟨qa9u,b_law_is_point,W.mg_of X G qb5r⟩;obtain⟨qb6z,_,qb0r,qb7a,b_law_is_name⟩:=h_law_is_name;have qa7d:Def K mg _ _ _ _ _:=⟨qb0r,b_law_is_name,W.mg_of X G qb7a⟩;obtain⟨qb4o,_,qa8z,qb4p,b_law_is_change⟩:=h_law_is_change;have qa5s:Def K mg _ _ _ _ _:=⟨qa8z,b_law_is_change,W.mg_of X G qb4p⟩;obtain⟨qc4x,_,qb4q,qc4y,b_law_bent⟩:=h_law_bent;have qb0o:Def K mg _ _ _ _ _:=⟨qb4q,b_law_bent,W.mg_of X G qc4y⟩;obtain⟨qc4z,_,qb4r,qc5a,b_law_done⟩:=h_law_done;have qa7u:Def K mg _ _ _ _ _:=⟨qb4r,b_law_done,W.mg_of X G qc5a⟩;have F_law:=qa8b (st:=qa7t) l_law c_law k_law;have B:Bl mg:=⟨W.mg_none_of X G z_len,W.mg_none_of X G z_range,W.mg_none_of X G z_tuple,W.mg_none_of X G z_bool,W.mg_none_of X G z_isinstance,W.mg_none_of X G z_reversed,W.mg_none_of X G z_max,W.mg_none_of X G z_zip,W.mg_none_of X G z_list,W.mg_none_of X G z_str,W.mg_none_of X G z_enumerate,W.mg_none_of X G z_dict,W.mg_none_of X G z_sum,W.mg_none_of X G z_int,W.mg_none_of X G z_min,W.mg_none_of X G z_sorted,W.mg_none_of X G z_all,W.mg_none_of X G z_set,W.mg_none_of X G z_repr⟩;have m_NoChange:mg "NoChange" = some (.ref C_NoChange):=W.mg_of X G aC_NoChange;have m_WorldError:mg "WorldError" = some (.ref C_WorldError):=W.mg_of X G aC_WorldError;have m_NoLine:mg "NoLine" = some (.ref C_NoLine):=W.mg_of X G aC_NoLine
 have m_NoPaper:mg "NoPaper" = some (.ref C_NoPaper):=W.mg_of X G aC_NoPaper;have m_NoPoint:mg "NoPoint" = some (.ref C_NoPoint):=W.mg_of X G aC_NoPoint;have m_NoText:mg "NoText" = some (.ref C_NoText):=W.mg_of X G aC_NoText;have m_NoTruth:mg "NoTruth" = some (.ref C_NoTruth):=W.mg_of X G aC_NoTruth;have m_NoWorld:mg "NoWorld" = some (.ref C_NoWorld):=W.mg_of X G aC_NoWorld;have m_TooMany:mg "TooMany" = some (.ref C_TooMany):=W.mg_of X G aC_TooMany;have c_NoChange:XCls K C_NoChange [.ref C_WorldError,.type "ValueError",.type "Exception",.type "BaseException",.type "object"]:=⟨⟨_,_,_,_,_,_,_,_,_,_,_,_,_,_,_,_,lC_NoChange⟩,rfl⟩;have c_WorldError:XCls K C_WorldError [.type "ValueError",.type "Exception",.type "BaseException",.type "object"]:=⟨⟨_,_,_,_,_,_,_,_,_,_,_,_,_,_,_,_,lC_WorldError⟩,rfl⟩;have z_VE:=W.mg_none_of X G z_ValueError;have x_NoChange:=xe_NoChange;have o_NoChange:XOk K C_NoChange:=⟨⟨_,_,lC_NoChange,rfl⟩,⟨fa_NoChange,fb_NoChange,fc_NoChange,fd_NoChange,fe_NoChange,ff_NoChange,fg_NoChange⟩⟩;have m_LONGEST_NAME:∃ t,mg "LONGEST_NAME" = some (.int 8 t):=⟨_,W.mg_of X G a_LONGEST_NAME⟩;refine⟨W.fnOf "law" "law" (qa5u qa7t) (qa2z qa7t) (qa0k qa7t) .none kV_law dc_law pm_law an_law cd_law ct_law,fun s v=>.of_eq rfl,fun base _ _=>?_⟩;have gn:FnOk P w K mg base CX0 3 qc4t _ _ _:=ok_next qb4m B qa3a qb0m;have gS:FnOk P w K mg base CX0 4 qc4v _ _ (spD K qb4e):=ok_some qb4n B qa0r gn;have gP:FnOk P w K mg base CX0 4 qc1a _ _ (spD K qb5f):=qd1h qb2h B qa0r gn;have gW:FnOk P w K mg base CX0 5 qc1c _ _ (spD K qb5g):=qd1i qb2i B qa0r (gn.mono (by decide:3 <= 4)) qa3o gS qa9b gP;have hc:FnOk P w K mg base CX0 5 qc0a _ _ (spD K qb3d):=qc7p qb1s B qa0r (gn.mono (by decide:3 <= 4)) qa3o gS;have hb:FnOk P w K mg base CX0 5 qc4x _ _ (spD K qb9v):=ok_bent qb4q B qa0r (gn.mono (by decide:3 <= 4));have hp:FnOk P w K mg base CX0 4 qb5q _ _ (spD K qb4i):=qc7o qa9u B;have hn:FnOk P w K mg base CX0 4 qb6z _ _ (spD K qa9t):=qd1u qb0r B;have hi:FnOk P w K mg base CX0 5 qb4o _ _ (spD K spLC):=qc4q qa8z B qa3j hp qa7d hn
 have g1:FnOk P w K mg base CX0 1 f_is_whole _ _ (spD K spWh):=qd1q F_is_whole B;have g2:FnOk P w K mg base CX0 3 f_is_name _ _ (spD K qa9t):=ok_name F_is_name B m_LONGEST_NAME;have g4:FnOk P w K mg base CX0 2 f_is_points _ _ (spD K qb5m):=qb9n F_is_points B d_is_whole g1;have g5:FnOk P w K mg base CX0 2 f_are_points _ _ (spD K qb3b):=qb6v F_are_points B d_is_whole g1;have g11:FnOk P w K mg base CX0 4 f_many_points _ _ (spD K qb9k):=ok_many F_many_points B;have g12:FnOk P w K mg base CX0 4 f_points_of _ _ (spD K qb3a):=qc7k F_points_of B;have g13:FnOk P w K mg base CX0 4 f_toggled _ _ (spD K spTog):=ok_tog F_toggled B;have g14:FnOk P w K mg base CX0 4 f_with_pair _ _ (spD K qb9d):=ok_with F_with_pair B;have g15:FnOk P w K mg base CX0 3 f_cut_parts _ _ (spD K qb9f):=qb9g F_cut_parts B;have g16:FnOk P w K mg base CX0 4 f_cut _ _ (spD K spCut):=ok_cut F_cut B d_cut_parts g15;have g17:FnOk P w K mg base CX0 3 f_marks_of _ _ (spD K qb5l):=qd1p F_marks_of B;have g18:FnOk P w K mg base CX0 3 f_parts_by _ _ (spD K qb1r):=qc0t F_parts_by B;have g19:FnOk P w K mg base CX0 4 f_joined_parts _ _ (spD K qb9l):=qc7l F_joined_parts B d_marks_of g17 d_parts_by g18;have g20:FnOk P w K mg base CX0 4 f_is_change _ _ (spD K qb9m):=qb9p F_is_change B d_is_name g2 d_are_points (g5.mono (by decide:2 <= 3)) d_is_points (g4.mono (by decide:2 <= 3));have g21:FnOk P w K mg base (CX1 P w) 5 f_changed _ _ (spX K (spChX C_NoChange)):=qc4p F_changed B m_NoChange x_NoChange d_many_points g11 d_is_change g20 d_points_of g12 d_toggled g13 d_with_pair g14 d_cut g16 d_joined_parts g19;have xx:Ex46 K mg C_NoChange:=⟨_,_,_,_,_,_,_,_,_,_,m_NoChange,m_WorldError,m_NoLine,m_NoPaper,m_NoPoint,m_NoText,m_NoTruth,m_NoWorld,m_TooMany,z_VE,c_NoChange,c_WorldError,by simp,o_NoChange,kv_NoChange,ko_NoChange⟩;have hd:FnOk P w K mg base CX0 6 qc4z _ _ (spD K qb9r):=ok_done qb4r B xx d_changed g21;exact ok_law F_law B qa9c (gW.mono (by decide:5 <= 39)) qa8q (hc.mono (by decide:5 <= 39)) qb0o (hb.mono (by decide:5 <= 39)) qa7u (hd.mono (by decide:6 <= 39)) qa5s (hi.mono (by decide:5 <= 39))
end K46
namespace PySem.W.Fast
def tw6692522013625523489:=()
def tw11063895652717483317:=()
def tw15186360957918925317:=()
def tw10096527599123083774:=()
def tw10580722711031297498:=PySem.Challenge.pw_worldsay_k46_changes_refused
theorem te10580722711031297498:PySem.Challenge.pw_worldsay_k46_changes_refused=tw10580722711031297498:=rfl
def tw9287102741530784592:=()
def tw8804671724722394944:=()
def tw696694396671513356:=()
def tw2262326421253212782:=()
def tw10482966444127581538:=()
def tw14915344414567261267:=()
def tw1975616214011201850:=()
def tw5247080298198073298:=()
def tw9052312251964077350:=()
def tw2857782823473087626:=()
def tw18209437695957590221:=()
def tw972562801809666432:=()
def tw18210345875027824884:=()
def tw698433647668369934:=()
def tw1437197810779420507:=()
def tw17099802047662461133:=()
def tw17012739003854969127:=()
def tw5106421380985817984:=()
def tw13646749276081856633:=()
def tw15501988530738445925:=()
def tw7051618272288895797:=()
def tw16925259585228428014:=()
def tw11245910400507231345:=()
def tw4607284727470369608:=()
def tw6581513769995994457:=()
end PySem.W.Fast
open PySem PySem.W PyProof.Rows
set_option maxRecDepth 100000 in
set_option maxHeartbeats 0 in
theorem PySem.Challenge.cw_worldsay_k46_changes_refused_holds : PySem.Challenge.rw_worldsay_k46_changes_refused.Holds := by
 w_on;o_law;k_head;(case hw=>w_witness2)
 k_fill
 refine L2.walk_of (l:=PySem.Challenge.rw_worldsay_k46_changes_refused) (n:=63) (k:=40) (x:="_law_script") (CX:=fun _=>L2.CX0) (sp:=fun w=>L2.spLaw (_:PySem.W.Frag)) rfl (by decide) rfl ⟨rfl,by decide,by decide,rfl⟩ (fun w h Y=>PySem.W.kIn_of Y) ?F (fun w H a ns hl hO hS=>⟨a,ns,rfl,hS,hO,hl,fun _=>rfl⟩) (fun _ _ _ _ _ z=>z)
 case F =>
  intro w mg fa h KX G hmg
  refine' K46.all_mk KX G hmg ?h_is_whole ?h_is_name ?h_is_points ?h_many_points ?h_points_of ?h_marks_of ?h_parts_by ?h_cut ?h_cut_parts ?h_changed ?h_is_change ?h_are_points ?h_toggled ?h_with_pair ?h_joined_parts ?h_law_cell_at ?h_law_by ?h_law_next ?h_law_some ?h_law_parts ?h_law_world ?h_law_change ?h_law_is_point ?h_law_is_name ?h_law_is_change ?h_law_bent ?h_law_done ?a_law ?l_law ?c_law ?k_law ?z_len ?z_range ?z_tuple ?z_bool ?z_isinstance ?z_reversed ?z_max ?z_zip ?z_list ?z_str ?z_enumerate ?z_dict ?z_sum ?z_int ?z_min ?z_sorted ?z_all ?z_set ?z_repr ?aC_NoChange ?aC_WorldError ?aC_NoLine ?aC_NoPaper ?aC_NoPoint ?aC_NoText ?aC_NoTruth ?aC_NoWorld ?aC_TooMany ?lC_NoChange ?lC_WorldError ?z_ValueError ?xe_NoChange ?fa_NoChange ?fb_NoChange ?fc_NoChange ?fd_NoChange ?fe_NoChange ?ff_NoChange ?fg_NoChange ?kv_NoChange ?ko_NoChange ?a_LONGEST_NAME
  (case h_is_whole=>refine' K46.qa8r ?h_is_wholea ?h_is_wholel ?h_is_wholec ?h_is_wholek rfl (fun _ _ _ _ _ _ _  => rfl);(case h_is_wholea=>k_is);(case h_is_wholel=>k_is);(case h_is_wholec=>k_is);(case h_is_wholek=>k_is))
  (case h_is_name=>refine' K46.qa8r ?h_is_namea ?h_is_namel ?h_is_namec ?h_is_namek rfl (fun _ _ _ _ _ _ _  => rfl);(case h_is_namea=>k_is);(case h_is_namel=>k_is);(case h_is_namec=>k_is);(case h_is_namek=>k_is))
  (case h_is_points=>refine' K46.qa1v ?h_is_pointsa ?h_is_pointsl ?h_is_pointsc ?h_is_pointsk rfl (fun _ _ _ _ _ _ _ _  => rfl);(case h_is_pointsa=>k_is);(case h_is_pointsl=>k_is);(case h_is_pointsc=>k_is);(case h_is_pointsk=>k_is))
  (case h_many_points=>refine' K46.qa8r ?h_many_pointsa ?h_many_pointsl ?h_many_pointsc ?h_many_pointsk rfl (fun _ _ _ _ _ _ _  => rfl);(case h_many_pointsa=>k_is);(case h_many_pointsl=>k_is);(case h_many_pointsc=>k_is);(case h_many_pointsk=>k_is))
  (case h_points_of=>refine' K46.qa1v ?h_points_ofa ?h_points_ofl ?h_points_ofc ?h_points_ofk rfl (fun _ _ _ _ _ _ _ _  => rfl);(case h_points_ofa=>k_is);(case h_points_ofl=>k_is);(case h_points_ofc=>k_is);(case h_points_ofk=>k_is))
  (case h_marks_of=>refine' K46.qa1v ?h_marks_ofa ?h_marks_ofl ?h_marks_ofc ?h_marks_ofk rfl (fun _ _ _ _ _ _ _ _  => rfl);(case h_marks_ofa=>k_is);(case h_marks_ofl=>k_is);(case h_marks_ofc=>k_is);(case h_marks_ofk=>k_is))
  (case h_parts_by=>refine' K46.qa8r ?h_parts_bya ?h_parts_byl ?h_parts_byc ?h_parts_byk rfl (fun _ _ _ _ _ _ _  => rfl);(case h_parts_bya=>k_is);(case h_parts_byl=>k_is);(case h_parts_byc=>k_is);(case h_parts_byk=>k_is))
  (case h_cut=>refine' K46.qa6g ?h_cuta ?h_cutl ?h_cutc ?h_cutk rfl (fun _ _ _ _ _ _ _ _ _  => rfl);(case h_cuta=>k_is);(case h_cutl=>k_is);(case h_cutc=>k_is);(case h_cutk=>k_is))
  (case h_cut_parts=>refine' K46.qa1v ?h_cut_partsa ?h_cut_partsl ?h_cut_partsc ?h_cut_partsk rfl (fun _ _ _ _ _ _ _ _  => rfl);(case h_cut_partsa=>k_is);(case h_cut_partsl=>k_is);(case h_cut_partsc=>k_is);(case h_cut_partsk=>k_is))
  (case h_changed=>refine' K46.qa1v ?h_changeda ?h_changedl ?h_changedc ?h_changedk rfl (fun _ _ _ _ _ _ _ _  => rfl);(case h_changeda=>k_is);(case h_changedl=>k_is);(case h_changedc=>k_is);(case h_changedk=>k_is))
  (case h_is_change=>refine' K46.qa1v ?h_is_changea ?h_is_changel ?h_is_changec ?h_is_changek rfl (fun _ _ _ _ _ _ _ _  => rfl);(case h_is_changea=>k_is);(case h_is_changel=>k_is);(case h_is_changec=>k_is);(case h_is_changek=>k_is))
  (case h_are_points=>refine' K46.qa1v ?h_are_pointsa ?h_are_pointsl ?h_are_pointsc ?h_are_pointsk rfl (fun _ _ _ _ _ _ _ _  => rfl);(case h_are_pointsa=>k_is);(case h_are_pointsl=>k_is);(case h_are_pointsc=>k_is);(case h_are_pointsk=>k_is))
  (case h_toggled=>refine' K46.qa1v ?h_toggleda ?h_toggledl ?h_toggledc ?h_toggledk rfl (fun _ _ _ _ _ _ _ _  => rfl);(case h_toggleda=>k_is);(case h_toggledl=>k_is);(case h_toggledc=>k_is);(case h_toggledk=>k_is))
  (case h_with_pair=>refine' K46.qa6g ?h_with_paira ?h_with_pairl ?h_with_pairc ?h_with_pairk rfl (fun _ _ _ _ _ _ _ _ _  => rfl);(case h_with_paira=>k_is);(case h_with_pairl=>k_is);(case h_with_pairc=>k_is);(case h_with_pairk=>k_is))
  (case h_joined_parts=>refine' K46.qa6g ?h_joined_partsa ?h_joined_partsl ?h_joined_partsc ?h_joined_partsk rfl (fun _ _ _ _ _ _ _ _ _  => rfl);(case h_joined_partsa=>k_is);(case h_joined_partsl=>k_is);(case h_joined_partsc=>k_is);(case h_joined_partsk=>k_is))
  (case h_law_cell_at=>refine' K46.qa1v ?h_law_cell_ata ?h_law_cell_atl ?h_law_cell_atc ?h_law_cell_atk rfl (fun _ _ _ _ _ _ _ _  => rfl);(case h_law_cell_ata=>k_is);(case h_law_cell_atl=>k_is);(case h_law_cell_atc=>k_is);(case h_law_cell_atk=>k_is))
  (case h_law_by=>refine' K46.qa6g ?h_law_bya ?h_law_byl ?h_law_byc ?h_law_byk rfl (fun _ _ _ _ _ _ _ _ _  => rfl);(case h_law_bya=>k_is);(case h_law_byl=>k_is);(case h_law_byc=>k_is);(case h_law_byk=>k_is))
  (case h_law_next=>refine' K46.qa1v ?h_law_nexta ?h_law_nextl ?h_law_nextc ?h_law_nextk rfl (fun _ _ _ _ _ _ _ _  => rfl);(case h_law_nexta=>k_is);(case h_law_nextl=>k_is);(case h_law_nextc=>k_is);(case h_law_nextk=>k_is))
  (case h_law_some=>refine' K46.qa6g ?h_law_somea ?h_law_somel ?h_law_somec ?h_law_somek rfl (fun _ _ _ _ _ _ _ _ _  => rfl);(case h_law_somea=>k_is);(case h_law_somel=>k_is);(case h_law_somec=>k_is);(case h_law_somek=>k_is))
  (case h_law_parts=>refine' K46.qa1v ?h_law_partsa ?h_law_partsl ?h_law_partsc ?h_law_partsk rfl (fun _ _ _ _ _ _ _ _  => rfl);(case h_law_partsa=>k_is);(case h_law_partsl=>k_is);(case h_law_partsc=>k_is);(case h_law_partsk=>k_is))
  (case h_law_world=>refine' K46.qa1v ?h_law_worlda ?h_law_worldl ?h_law_worldc ?h_law_worldk rfl (fun _ _ _ _ _ _ _ _  => rfl);(case h_law_worlda=>k_is);(case h_law_worldl=>k_is);(case h_law_worldc=>k_is);(case h_law_worldk=>k_is))
  (case h_law_change=>refine' K46.qa1v ?h_law_changea ?h_law_changel ?h_law_changec ?h_law_changek rfl (fun _ _ _ _ _ _ _ _  => rfl);(case h_law_changea=>k_is);(case h_law_changel=>k_is);(case h_law_changec=>k_is);(case h_law_changek=>k_is))
  (case h_law_is_point=>refine' K46.qa1v ?h_law_is_pointa ?h_law_is_pointl ?h_law_is_pointc ?h_law_is_pointk rfl (fun _ _ _ _ _ _ _ _  => rfl);(case h_law_is_pointa=>k_is);(case h_law_is_pointl=>k_is);(case h_law_is_pointc=>k_is);(case h_law_is_pointk=>k_is))
  (case h_law_is_name=>refine' K46.qa8r ?h_law_is_namea ?h_law_is_namel ?h_law_is_namec ?h_law_is_namek rfl (fun _ _ _ _ _ _ _  => rfl);(case h_law_is_namea=>k_is);(case h_law_is_namel=>k_is);(case h_law_is_namec=>k_is);(case h_law_is_namek=>k_is))
  (case h_law_is_change=>refine' K46.qa1v ?h_law_is_changea ?h_law_is_changel ?h_law_is_changec ?h_law_is_changek rfl (fun _ _ _ _ _ _ _ _  => rfl);(case h_law_is_changea=>k_is);(case h_law_is_changel=>k_is);(case h_law_is_changec=>k_is);(case h_law_is_changek=>k_is))
  (case h_law_bent=>refine' K46.qa6g ?h_law_benta ?h_law_bentl ?h_law_bentc ?h_law_bentk rfl (fun _ _ _ _ _ _ _ _ _  => rfl);(case h_law_benta=>k_is);(case h_law_bentl=>k_is);(case h_law_bentc=>k_is);(case h_law_bentk=>k_is))
  (case h_law_done=>refine' K46.qa1v ?h_law_donea ?h_law_donel ?h_law_donec ?h_law_donek rfl (fun _ _ _ _ _ _ _ _  => rfl);(case h_law_donea=>k_is);(case h_law_donel=>k_is);(case h_law_donec=>k_is);(case h_law_donek=>k_is))
  (case a_law=>k_is)
  (case l_law=>k_is)
  (case c_law=>k_is)
  (case k_law=>k_is)
  (case z_len=>k_is)
  (case z_range=>k_is)
  (case z_tuple=>k_is)
  (case z_bool=>k_is)
  (case z_isinstance=>k_is)
  (case z_reversed=>k_is)
  (case z_max=>k_is)
  (case z_zip=>k_is)
  (case z_list=>k_is)
  (case z_str=>k_is)
  (case z_enumerate=>k_is)
  (case z_dict=>k_is)
  (case z_sum=>k_is)
  (case z_int=>k_is)
  (case z_min=>k_is)
  (case z_sorted=>k_is)
  (case z_all=>k_is)
  (case z_set=>k_is)
  (case z_repr=>k_is)
  (case aC_NoChange=>k_is)
  (case aC_WorldError=>k_is)
  (case aC_NoLine=>k_is)
  (case aC_NoPaper=>k_is)
  (case aC_NoPoint=>k_is)
  (case aC_NoText=>k_is)
  (case aC_NoTruth=>k_is)
  (case aC_NoWorld=>k_is)
  (case aC_TooMany=>k_is)
  (case lC_NoChange=>k_is)
  (case lC_WorldError=>k_is)
  (case z_ValueError=>k_is)
  (case xe_NoChange=>k_exc)
  (case fa_NoChange=>k_is)
  (case fb_NoChange=>k_is)
  (case fc_NoChange=>k_is)
  (case fd_NoChange=>k_is)
  (case fe_NoChange=>k_is)
  (case ff_NoChange=>k_is)
  (case fg_NoChange=>k_is)
  (case kv_NoChange=>kit_is)
  (case ko_NoChange=>kit_is)
  (case a_LONGEST_NAME=>k_is)
end
end
