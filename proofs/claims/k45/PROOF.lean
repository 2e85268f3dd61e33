import PyProof.Rows.All
import Wide.All
import OpenK.AllK
import Wide.FinOn
import Lean
import PyProof.EqAt
import PyProof.EqKinds
import PyProof.TupleCall
import PyProof.SetKind
import PyProof.SetNew
import PyProof.SetRoads
import PyProof.CollectIter
import PyProof.WalksMore
import PyProof.MakeMany
import PyProof.ZipIter
import PyProof.EnumMake
import PyProof.EnumFor
import KE.KDictOf
import KE.KEqDict
import PyProof.Rows.SortWalk
import PyProof.Rows.SortStr
import PyProof.ConsumeWalk
import KE.KItemsList
import PyProof.StrCalls
import PyProof.StrCaseBound
import PyProof.SetScanFacts
import KE.KSortTup
import PyProof.Rows.SortShellK
import PyProof.ReprRoads
import PyProof.ReprLen
import PyProof.ListRange
import PyProof.StrWalks
import PyProof.StrBlockI
import PyProof.SliceStr2
import PyProof.StrLawsIn
import KE.KDictList
import KE.KDictSum
import PyProof.FactsAll.set
import KE.KDictLaws
import PyProof.DictValues
import PyProof.DictWalks
import PyProof.TupleOfSeq
import PyProof.Draws
import PyProof.CallFns
import PyProof.Ascii
import PySem.Challenge.RW_worldsay_k45_worlds_changed
open List (all_cons all_eq_true all_nil any_cons any_eq_true any_map append_assoc append_nil drop_eq_getElem_cons drop_eq_nil_of_le drop_zero eq_nil_of_length_eq_zero ext_getElem filterMap_cons find?_cons find?_cons_of_neg find?_cons_of_pos find?_eq_none find?_map find?_some flatten_append flatten_cons getD_eq_getElem?_getD getElem?_append_right getElem?_eq_getElem getElem?_map getElem?_set_ne getElem?_set_self getElem?_toArray getElem_map getElem_mem getElem_of_mem length_append length_cons length_drop length_filter_le length_map length_range length_replicate length_set length_take lookup_cons map_append map_congr_left map_cons map_id map_map map_nil map_set mem_append mem_append_right mem_cons mem_cons_of_mem mem_cons_self mem_filter mem_flatten mem_map mem_of_getElem? mem_range mem_singleton nil_append nodup_append nodup_cons not_lt not_mem_nil pairwise_cons pairwise_flatten pairwise_iff_getElem pairwise_lt_range pairwise_map pairwise_singleton replicate_succ set_set size_toArray take_add_one take_length)
open PySem.Heap (get?_push_of_some get?_push_size get?_update_self lt_size size_push)
open Option (bind_eq_some_iff bind_some isSome_iff_exists isSome_map map_eq_some_iff map_some none_or toList_some)
open Bool (and_eq_true false_eq_true)
open Array (getD_eq_getD_getElem? getElem?_eq_none getElem?_toList length_toList)
open Nat (le_of_lt le_refl le_succ le_trans lt_irrefl lt_of_lt_of_le lt_succ_of_lt lt_succ_self lt_trans ne_of_gt ne_of_lt zero_le)
open Int (emod_nonneg toNat_natCast)
open PySem.Calls (call_function_entry spliced_cons spliced_nil)
set_option Elab.async false
set_option linter.all false
set_option maxRecDepth 100000
set_option maxHeartbeats 4000000
noncomputable section
local macro_rules | `(term| 'k') => `(by decide +kernel)
local macro_rules | `(term| 'o') => `(by omega)
local macro_rules | `(term| 'd') => `(by decide)
local macro_rules | `(term| 'a') => `(⟨rfl,rfl,rfl,'k',rfl,'k','k'⟩)
local macro_rules | `(term| 'b') => `((fun _ _=>rfl))
local macro_rules | `(term| 'c') => `((Or.inl rfl))
local macro_rules | `(term| 'e') => `((le_refl _))
local macro_rules | `(term| 'f') => `((List Int))
local macro_rules | `(term| 'g') => `((PySem.Addr × PySem.Obj))
local macro_rules | `(term| 'h') => `((by simp))
local macro_rules | `(term| 'i') => `((fun ls Qd h=>by obtain⟨_,_,e,_⟩:=h;rw [e];rfl))
local macro_rules | `(term| 'j') => `((PySem.Str × PySem.PyData))
local macro_rules | `(term| 'l') => `((PySem.PyData × PySem.PyData))
local macro_rules | `(term| 'm') => `((fun ls Qd hq8=>by obtain⟨_,_,e,_⟩:=hq8;rw [e];rfl))
local macro_rules | `(term| 'n') => `((fun z=>nomatch z))
local macro_rules | `(term| 'p') => `((fun ls Qd h=>by obtain⟨_,e,_⟩:=h;rw [e];rfl))
local macro_rules | `(term| 'q') => `((by rw [length_map];omega))
local macro_rules | `(term| 'r') => `((PySem.Str × Nat))
local macro_rules | `(term| 's') => `((Int × PySem.Value))
section
namespace L2
open PySem PySem.Spec PyProof.Rows
abbrev Key:=Sum Int Str
noncomputable def qa6w:Key->Value->Bool
 | .inl k,v=>Value.isInt k v
 | .inr x,v=>Value.isStrOf x v
noncomputable def keyH(w:World):Key->Int
 | .inl k=>hashInt k
 | .inr x=>hashStr w x
def qa2b:∀ {k:Key} {v:Value},qa6w k v=true->(∃ i t,k=Sum.inl i/\v=Value.int i t) ∨ (∃ x t,k=Sum.inr x/\v=Value.str x t)
 | .inl i,v,h=>by
  obtain⟨t,e⟩:=Value.isInt_shape (k:=i) (v:=v) h;exact .inl ⟨i,t,rfl,e⟩
 | .inr x,v,h=>by
  obtain⟨t,e⟩:=Value.isStrOf_shape (x:=x) (v:=v) h;exact .inr ⟨x,t,rfl,e⟩
def qc9s(i:Int)(t:Tok):qa6w (.inl i) (.int i t)=true:=by simp [qa6w,Value.isInt]
def qc9t(x:Str)(t:Tok):qa6w (.inr x) (.str x t)=true:=by simp [qa6w,Value.isStrOf]
def key_ll(a b:Int):decide ((Sum.inl a:Key)=Sum.inl b)=(a == b):=by
 by_cases e:a=b
 ·subst e;simp
 ·have h:¬ (Sum.inl a:Key)=Sum.inl b:=fun q=>e (Sum.inl.inj q)
  rw [decide_eq_false h];exact(beq_eq_false_iff_ne.mpr e).symm
def key_rr(a b:Str):decide ((Sum.inr a:Key)=Sum.inr b)=decide (a=b):=by
 by_cases e:a=b
 ·subst e;simp
 ·have h:¬ (Sum.inr a:Key)=Sum.inr b:=fun q=>e (Sum.inr.inj q)
  rw [decide_eq_false h,decide_eq_false e]
def key_lr(a:Int)(b:Str):decide ((Sum.inl a:Key)=Sum.inr b)=false:=decide_eq_false (fun q=>nomatch q)
def key_rl(a:Str)(b:Int):decide ((Sum.inr a:Key)=Sum.inl b)=false:=decide_eq_false (fun q=>nomatch q)
noncomputable def qa1b(prog:Program)(w:World):PySem.KeyKind prog w Key where
 is:=qa6w
 hash:=keyH w
 inj:=fun v a b ha hb=>by
  rcases qa2b ha with⟨i,t,rfl,rfl⟩ | ⟨x,t,rfl,rfl⟩
  ·rcases qa2b hb with⟨j,u,rfl,e⟩ | ⟨y,u,rfl,e⟩
   ·injection e with e1 _;rw [e1]
   ·exact nomatch e
  ·rcases qa2b hb with⟨j,u,rfl,e⟩ | ⟨y,u,rfl,e⟩
   ·exact nomatch e
   ·injection e with e1 _;rw [e1]
 byValue:=fun k v h=>by
  rcases qa2b h with⟨i,t,rfl,rfl⟩ | ⟨x,t,rfl,rfl⟩<;>rfl
 pyHash:=fun hv h=>by
  rcases qa2b hv with⟨i,t,rfl,rfl⟩ | ⟨x,t,rfl,rfl⟩
  ·exact wpAny_pyHash_int h
  ·exact wpAny_pyHash_str h
 eqBool:=fun hu hv h=>by
  rcases qa2b hu with⟨i,t,rfl,rfl⟩ | ⟨x,t,rfl,rfl⟩
  ·rcases qa2b hv with⟨j,u,rfl,rfl⟩ | ⟨y,u,rfl,rfl⟩
   ·rw [key_ll] at h;exact wpAny_eqBool_int h
   ·rw [key_lr] at h;exact SeqAt.EqAt.int_str i t y u _ _ _ _ h
  ·rcases qa2b hv with⟨j,u,rfl,rfl⟩ | ⟨y,u,rfl,rfl⟩
   ·rw [key_rl] at h;exact SeqAt.EqAt.str_int x t j u _ _ _ _ h
   ·rw [key_rr] at h;exact wpAny_eqBool_str h
 «strs»:=fun k x t v h=>by
  rcases qa2b h with⟨i,u,rfl,e⟩ | ⟨y,u,rfl,e⟩
  ·exact nomatch e
  ·injection e with e1 _
   subst e1;cases v<;>rfl
def qc3v(prog:Program)(w:World)(i:Int)(t:Tok):(qa1b prog w).is (.inl i) (.int i t)=true:=qc9s i t
def qb4k(prog:Program)(w:World)(x:Str)(t:Tok):(qa1b prog w).is (.inr x) (.str x t)=true:=qc9t x t
end L2
namespace L2
open PySem PySem.Spec PyProof.Rows
inductive V where
 | non | bl (b:Bool) | int (i:Int) | str (x:Str) | byt (b:Array UInt8) | flt (b:UInt64) | ref (a:Addr) | ty (n:String)
 deriving DecidableEq
noncomputable def RelV:V->Value->Prop
 | .non,u=>u=Value.none
 | .bl b,u=>u=Value.bool b
 | .int i,u=>∃ t,u=Value.int i t
 | .str x,u=>∃ t,u=Value.str x t
 | .byt b,u=>∃ t,u=Value.bytes b t
 | .flt b,u=>∃ t,u=Value.float b t
 | .ref a,u=>u=Value.ref a
 | .ty n,u=>u=Value.type n
abbrev Vals:List V->List Value->Prop:=Paired RelV
def Vals.length{xs:List V}{us:List Value}(r:Vals xs us):xs.length=us.length:=Paired.length r
def Vals.get:∀ {xs:List V} {us:List Value} {i:Nat} {x:V},Vals xs us->xs[i]? = some x->∃ u,us[i]? = some u/\RelV x u
 | _,_,_,_,.nil,e=>by simp at e
 | _,_,0,_,.cons r _,e=>by simp at e;subst e;exact⟨_,rfl,r⟩
 | _,_,i + 1,x,.cons _ t,e=>by
  obtain⟨u,h1,h2⟩:=Vals.get (i:=i) (x:=x) t (by simpa using e);exact⟨u,by simpa using h1,h2⟩
def Vals.set{x:V}{u:Value}(r:RelV x u):∀ {xs:List V} {us:List Value} (i:Nat),Vals xs us->Vals (xs.set i x) (us.set i u)
 | _,_,_,.nil=>.nil
 | _,_,0,.cons _ t=>.cons r t
 | _,_,i + 1,.cons q t=>.cons q (Vals.set r i t)
def Vals.append:∀ {xs ys:List V} {us ws:List Value},Vals xs us->Vals ys ws->Vals (xs ++ ys) (us ++ ws)
 | _,_,_,_,.nil,s=>s
 | _,_,_,_,.cons r t,s=>.cons r (Vals.append t s)
def Vals.take:∀ {xs:List V} {us:List Value} (n:Nat),Vals xs us->Vals (xs.take n) (us.take n)
 | _,_,0,_=>.nil
 | _,_,_ + 1,.nil=>.nil
 | _,_,n + 1,.cons r t=>.cons r (Vals.take n t)
def Vals.drop:∀ {xs:List V} {us:List Value} (n:Nat),Vals xs us->Vals (xs.drop n) (us.drop n)
 | _,_,0,r=>r
 | _,_,_ + 1,.nil=>.nil
 | _,_,n + 1,.cons _ t=>Vals.drop n t
noncomputable def RelO:Option V->Option Value->Prop
 | some v,some u=>RelV v u
 | none,none=>True
 | _,_=>False
noncomputable def KV{κ:Type}:List (κ × V)->List (κ × Value)->Prop:=Paired fun(p:κ × V) (q:κ × Value)=>p.1=q.1/\RelV p.2 q.2
noncomputable def kV:Key->V
 | .inl i=>.int i
 | .inr x=>.str x
inductive HO where
 /-- a list -/
 | lst (xs:List V)
 /-- a tuple (never changes) -/
 | tup (xs:List V)
 /-- a dict whose keys are ints and texts; one whose keys are tuples of ints and texts (the empty one is both) -/
 | dK (kvs:List (Key × V)) | dT (kvs:List (List Key × V))
 /-- a set of ints: its members, its size -/
 | set (S:Int->Bool) (n:Nat)
 /-- an instance of the class at C, its dict at dx, its attributes -/
 | ins (C dx:Addr) (fs:List (Str × V))
 /-- the dict of the instance at x -/
 | own (x:Addr)
 /-- the dict of an exception -/
 | xd (fs:List (Str × V))
 /-- a bound method, f of x -/
 | met (f x:Addr)
 /-- a range object lo, lo + 1, .. below hi -/
 | rng (lo hi:Int)
 /-- a thing that is known to the object (the script; a dict while a loop walks it): read, never written while it is so -/
 | frz (o:Obj) (u:HO)
 /-- a code object's table -/
 | tbl (ps:Array Value)
 /-- any other thing, by what is true of its one object (a def of one's own: SetO a S n := HO.ext fun h => ..) -/
 | ext (φ:Heap->Prop)
abbrev Hp:=Addr->Option HO
noncomputable def upd(H:Hp)(a:Addr)(o:HO):Hp:=fun b=>if b=a then some o else H b
def qa0k{H:Hp}{a:Addr}{o:HO}:upd H a o a=some o:=by unfold upd;rw [if_pos rfl]
def qa0j{H:Hp}{a b:Addr}{o:HO}(h:b ≠ a):upd H a o b=H b:=by unfold upd;rw [if_neg h]
def qa7x{H:Hp}{a b:Addr}{o u:HO}(h:H a=some o)(h':H b=some u)(d:o ≠ u):a ≠ b:=by
 intro e;subst e;rw [h] at h';exact d (Option.some.inj h')
def qa1z{H:Hp}{a b:Addr}{o:HO}(h:H a=some o)(h':H b=none):a ≠ b:=by
 intro e;subst e;rw [h] at h';cases h'
def qa4k(h:Heap)(a:Addr)(items:Array Value):Prop:=∃ o,h.get? a=some o/\(o.cls=.type "tuple" /\ o.dict=none)/\∃ n,o.data=.seq items n
def qa4k.tup{h:Heap}{a:Addr}{items:Array Value}(x:qa4k h a items):IsTup h a items:=by obtain⟨o,e,c,n,d⟩:=x;exact⟨o,e,c.1,n,d⟩
def qa4k.new(h:Heap)(xs:Array Value):qa4k (h.push { cls:=.type "tuple",data:=.seq xs }) h.objs.size xs:=⟨_,get?_push_size _ rfl,⟨rfl,rfl⟩,_,rfl⟩
section
variable(P:Program)(w:World)
noncomputable def qa1v(H:Hp)(h:Heap)(a:Addr):HO->Prop
 | .lst xs=>xs.length <= sizeLine/\∃ (its:List Value) (n:Nat),Vals xs its/\h.get? a=some { cls:=.type "list",data:=.seq its.toArray n }
 | .tup xs=>xs.length <= sizeLine/\∃ its:List Value,Vals xs its/\qa4k h a its.toArray
 | .dK kvs=>kvs.length <= sizeLine/\(a == sysModules)=false/\∃ vs,KV kvs vs/\h.DictOf (qa1b P w) a vs
 | .dT kvs=>kvs.length <= sizeLine/\(a == sysModules)=false/\∃ xs:List (List Key × Addr × Value),
   Paired (fun(p:List Key × V) (q:List Key × Addr × Value)=>p.1=q.1/\H q.2.1=some (.tup (p.1.map kV))/\RelV p.2 q.2.2) kvs xs /\
   ∃ o es ep,h.get? a=some o/\o.ExactDict/\o.data=.dict es ep/\es.toList=xs.map (entryOfKey (tupleKind (qa1b P w)))/\(xs.map (·.1)).Nodup
 | .set S n=>h.SetOf (intKind P w) a S n
 | .ins C dx fs=>H dx=some (.own a)/\fs.length <= 1000/\dx ≠ a/\h.get? a=some (PySem.W.instObj C dx) /\
   ∃ mA,h.Ns1 dx mA/\(∀ f,RelO (fs.lookup f) (mA f))/\PySem.Within mA (fs.map (·.1))
 | .own _=>∃ o,h.get? a=some o
 | .xd fs=>∃ mA,h.Ns1 a mA/\∀ f,RelO (fs.lookup f) (mA f)
 | .rng lo hi=>∃ t u v,h.get? a=some { cls:=.type "range",data:=.fields #[.int lo t,.int hi u,.int 1 v] }
 | .frz o u=>h.get? a=some o/\qa1v H h a u
 | .tbl ps=>h.get? a=some { cls:=.none,data:=.fields ps }
 | .met f x=>h.get? a=some (PySem.W.methodObj (.ref f) (.ref x))
 | .ext φ=>φ h/\(∃ o,h.get? a=some o)/\∀ h1 h2:Heap,φ h1->(∀ o,h1.get? a=some o->h2.get? a=some o)->φ h2
def HOk(H:Hp)(h:Heap):Prop:=∀ a o,H a=some o->qa1v P w H h a o
end
section
variable{P:Program}{w:World}{H H':Hp}{h h':Heap}{a:Addr}{o:HO}
def qa1v.lt(x:qa1v P w H h a o):a < h.objs.size:=by
 cases o with
 | lst xs=>obtain⟨_,_,_,_,e⟩:=x;exact lt_size e
 | tup xs=>obtain⟨_,_,_,p⟩:=x;exact p.tup.lt
 | dK kvs=>obtain⟨_,_,_,_,o,_,_,e,_⟩:=x;exact lt_size e
 | dT kvs=>obtain⟨_,_,_,_,o,_,_,e,_⟩:=x;exact lt_size e
 | set S n=>obtain⟨o,_,_,_,e,_⟩:=x;exact lt_size e
 | ins C dx fs=>obtain⟨_,_,_,e,_⟩:=x;exact lt_size e
 | own y=>obtain⟨_,e⟩:=x;exact lt_size e
 | xd fs=>obtain⟨_,⟨_,_,_,e,_⟩,_⟩:=x;exact lt_size e
 | rng lo hi=>obtain⟨_,_,_,e⟩:=x;exact lt_size e
 | frz ob u=>obtain⟨e,_⟩:=x;exact lt_size e
 | tbl ps=>exact lt_size (show h.get? a=some _ from x)
 | met f y=>exact lt_size (show h.get? a=some _ from x)
 | ext φ=>obtain⟨_,⟨_,e⟩,_⟩:=x;exact lt_size e
def Paired.mapP{α β:Type}{F G:α->β->Prop}:∀ {l₁:List α} {l₂:List β},Paired F l₁ l₂->(∀ a b,F a b->G a b)->Paired G l₁ l₂
 | _,_,.nil,_=>.nil
 | _,_,.cons r t,f=>.cons (f _ _ r) (Paired.mapP t f)
def Paired.imp'{α β:Type}{F G:α->β->Prop}(f:∀ a b,F a b->G a b){l₁:List α}{l₂:List β}(r:Paired F l₁ l₂):Paired G l₁ l₂:=Paired.mapP r f
def qa1v.stay(x:qa1v P w H h a o)(k:∀ b u,(b=a ∨ H b=some (.own a))->h.get? b=some u->h'.get? b=some u)
  (ho:∀ b,H b=some (.own a)->H' b=some (.own a)) (ht:∀ b xs,H b=some (.tup xs)->H' b=some (.tup xs)):qa1v P w H' h' a o:=by
 induction o with
 | lst xs=>obtain⟨z,its,n,r,e⟩:=x;exact⟨z,its,n,r,k _ _ (.inl rfl) e⟩
 | tup xs=>obtain⟨z,its,r,ob,e,c⟩:=x;exact⟨z,its,r,ob,k _ _ (.inl rfl) e,c⟩
 | dK kvs=>obtain⟨z,y,vs,r,ob,es,ep,e,c⟩:=x;exact⟨z,y,vs,r,ob,es,ep,k _ _ (.inl rfl) e,c⟩
 | dT kvs =>
  obtain⟨z,y,xs,r,ob,es,ep,e,c⟩:=x;exact⟨z,y,xs,Paired.mapP r fun p q z=>⟨z.1,ht _ _ z.2.1,z.2.2⟩,ob,es,ep,k _ _ (.inl rfl) e,c⟩
 | set S n=>obtain⟨ob,es,ep,t,e,c⟩:=x;exact⟨ob,es,ep,t,k _ _ (.inl rfl) e,c⟩
 | ins C dx fs =>
  obtain⟨d,z,ne,e,mA,⟨od,es,ep,e2,c⟩,r⟩:=x;exact⟨ho _ d,z,ne,k _ _ (.inl rfl) e,mA,⟨od,es,ep,k _ _ (.inr d) e2,c⟩,r⟩
 | own y=>obtain⟨ob,e⟩:=x;exact⟨ob,k _ _ (.inl rfl) e⟩
 | xd fs=>obtain⟨mA,⟨od,es,ep,e,c⟩,r⟩:=x;exact⟨mA,⟨od,es,ep,k _ _ (.inl rfl) e,c⟩,r⟩
 | rng lo hi=>obtain⟨t,u,v,e⟩:=x;exact⟨t,u,v,k _ _ (.inl rfl) e⟩
 | frz ob u ih=>obtain⟨e,q⟩:=x;exact⟨k _ _ (.inl rfl) e,ih q⟩
 | tbl ps =>
  have e:h.get? a=some { cls:=.none,data:=.fields ps }:=x;show h'.get? a=some { cls:=.none,data:=.fields ps };exact k a _ (.inl rfl) e
 | met f y =>
  have e:h.get? a=some (PySem.W.methodObj (.ref f) (.ref y)):=x;show h'.get? a=some (PySem.W.methodObj (.ref f) (.ref y));exact k a _ (.inl rfl) e
 | ext φ=>obtain⟨p,⟨o,e⟩,st⟩:=x;exact⟨st _ _ p fun o q=>k _ _ (.inl rfl) q,⟨o,k _ _ (.inl rfl) e⟩,st⟩
def HOk.lt(x:HOk P w H h)(e:H a=some o):a < h.objs.size:=(x a o e).lt
def HOk.fresh(x:HOk P w H h)(e:h.objs.size <= a):H a=none:=by
 cases q:H a with
 | none=>rfl
 | some u=>exact absurd (lt_of_lt_of_le (x.lt q) e) (lt_irrefl _)
def HOk.kept(x:HOk P w H h)(k:∀ b u,h.get? b=some u->h'.get? b=some u):HOk P w H h':=fun a o e =>
 (x a o e).stay (fun b u _ q=>k b u q) (fun _ q=>q) fun _ _ q=>q
def HOk.laid(x:HOk P w H h)(k:∀ b u,h.get? b=some u->h'.get? b=some u)(hp:h.objs.size <= a)(new:qa1v P w (upd H a o) h' a o):HOk P w (upd H a o) h':=fun b u e=>by
 have hn:=x.fresh hp;by_cases hb:b=a
 ·subst hb;rw [qa0k] at e;cases e;exact new
 ·rw [qa0j hb] at e
  exact(x b u e).stay (fun c v _ q=>k c v q) (fun c q=>by rw [qa0j (qa1z q hn)];exact q) fun c xs q=>by rw [qa0j (qa1z q hn)];exact q
end
def Rd(H:Hp)(a:Addr)(u:HO):Prop:=H a=some u ∨ ∃ o,H a=some (.frz o u)
def Rd.ok{P:Program}{w:World}{H:Hp}{h:Heap}{a:Addr}{u:HO}(r:Rd H a u)(x:HOk P w H h):qa1v P w H h a u:=by
 rcases r with r | ⟨o,r⟩
 ·exact x a u r
 ·obtain⟨_,q⟩:=x a _ r
  exact q
noncomputable def Mut:Option HO->Prop
 | some (.lst _)=>True
 | some (.dK _)=>True
 | some (.dT _)=>True
 | some (.set _ _)=>True
 | some (.ins _ _ _)=>True
 | some (.ext _)=>True
 | _=>False
section
variable{P:Program}{w:World}{H:Hp}{h h':Heap}{x e:Addr}{o':HO}
def HOk.write(ok:HOk P w H h)(mu:Mut (H x))(he:e=x ∨ H e=some (.own x))(k:∀ b u,b ≠ e->h.get? b=some u->h'.get? b=some u)(heo:∃ u,h'.get? e=some u)
  (new:qa1v P w (upd H x o') h' x o'):HOk P w (upd H x o') h':=fun b u q=>by
 have nown:∀ c y,H c=some (.own y)->c ≠ x:=fun c y r z=>by subst z;rw [r] at mu;exact mu
 have ntup:∀ c xs,H c=some (.tup xs)->c ≠ x:=fun c xs r z=>by subst z;rw [r] at mu;exact mu
 by_cases hb:b=x
 ·subst hb;rw [qa0k] at q;cases q;exact new
 ·rw [qa0j hb] at q
  by_cases hbe:b=e
  ·have q':H b=some (.own x):=by
    rcases he with z | z
    ·exact absurd (hbe.trans z) hb
    ·rw [hbe];exact z
   rw [q] at q';cases q';obtain⟨v,hv⟩:=heo;exact⟨v,by rw [hbe];exact hv⟩
  ·refine(ok b u q).stay (fun c v hc r=>k c v ?_ r) (fun c r=>by rw [qa0j (nown c b r)];exact r) fun c xs r=>by rw [qa0j (ntup c xs r)];exact r
   rcases hc with rfl | hc
   ·exact hbe
   ·rintro rfl
    rcases he with z | z
    ·exact nown c b hc z
    ·rw [hc] at z;cases z;exact hb rfl
end
structure Un(fs ex:List Addr)(H H':Hp)(h h':Heap):Prop where
 keep:∀ b o,h.get? b=some o->H b=none->b ∉ fs->b ∉ ex->h'.get? b=some o
 slot:∀ b o,h.get? b=some o->H b=none->b ∈ fs->b ∉ ex->∃ sl,h'.get? b=some { o with slots:=sl }
 free:∀ b o,h.get? b=some o->H b=none->b ∉ ex->H' b=none
 there:∀ b o,h.get? b=some o->b ∉ ex->∃ o',h'.get? b=some o'
 tups:∀ b xs,H b=some (.tup xs)->H' b=some (.tup xs)
 frzs:∀ b o u,H b=some (.frz o u)->H' b=some (.frz o u)
 tbls:∀ b ps,H b=some (.tbl ps)->∃ more,H' b=some (.tbl (ps ++ more))
section
variable{fs fs' ex ex':List Addr}{H H1 H2:Hp}{h h1 h2 h':Heap}{a x e:Addr}{o:HO}
def Un.any(u:Un fs ex H H1 h h1){b:Addr}{ob:Obj}(q:h.get? b=some ob)(n:H b=none)(hx:b ∉ ex):∃ sl,h1.get? b=some { ob with slots:=sl }:=by
 by_cases hb:b ∈ fs
 ·exact u.slot b ob q n hb hx
 ·exact⟨ob.slots,u.keep b ob q n hb hx⟩
def Un.kept(k:∀ b u,h.get? b=some u->h'.get? b=some u):Un fs ex H H h h':=
 ⟨fun b ob q _ _ _=>k b ob q,fun b ob q _ _ _=>⟨ob.slots,k b ob q⟩,fun _ _ _ n _=>n,fun b ob q _=>⟨ob,k b ob q⟩,fun _ _ q=>q,fun _ _ _ q=>q,fun _ ps q=>⟨#[],by rw [q];simp⟩⟩
def Un.refl:Un fs ex H H h h:=Un.kept fun _ _ q=>q
def Un.laid(k:∀ b u,h.get? b=some u->h'.get? b=some u)(hp:h.objs.size <= a)(hn:H a=none):Un fs ex H (upd H a o) h h' where
 keep:=fun b u q _ _ _=>k b u q
 slot:=fun b u q _ _ _=>⟨u.slots,k b u q⟩
 free:=fun b u q n _=>by rw [qa0j (ne_of_lt (lt_of_lt_of_le (lt_size q) hp))];exact n
 there:=fun b u q _=>⟨u,k b u q⟩
 tups:=fun b xs q=>by rw [qa0j (qa1z q hn)];exact q
 frzs:=fun b u xs q=>by rw [qa0j (qa1z q hn)];exact q
 tbls:=fun b ps q=>⟨#[],by rw [qa0j (qa1z q hn),q];simp⟩
def Un.write(mu:Mut (H x))(he:e=x ∨ H e=some (.own x))(k:∀ b u,b ≠ e->h.get? b=some u->h'.get? b=some u)(heo:∃ u,h'.get? e=some u):Un fs ex H (upd H x o) h h':=by
 have hx:∀ b,H b=none->b ≠ x:=fun b n z=>by subst z;rw [n] at mu;exact mu
 have hb:∀ b,H b=none->b ≠ e:=fun b n z=>by
  subst z;rcases he with r | r
  ·exact hx b n r
  ·rw [n] at r;cases r
 have hm:∀ b u,H b=some u->¬ Mut (some u)->b ≠ x:=fun b u q nm z=>by subst z;rw [q] at mu;exact nm mu
 refine⟨fun b u q n _ _=>k b u (hb b n) q,fun b u q n _ _=>⟨u.slots,k b u (hb b n) q⟩,fun b u q n _=>by rw [qa0j (hx b n)];exact n,fun b u q _=>?_,
  fun b xs q=>by rw [qa0j (hm b _ q fun z=>z)];exact q,fun b u xs q=>by rw [qa0j (hm b _ q fun z=>z)];exact q,fun b ps q=>⟨#[],by rw [qa0j (hm b _ q fun z=>z),q];simp⟩⟩
 by_cases hbe:b=e
 ·subst hbe;exact heo
 ·exact⟨u,k b u hbe q⟩
end
noncomputable def trk(h:Heap)(H:Hp):List Addr:=(List.range h.objs.size).filter fun a=>(H a).isSome
noncomputable def hidT(h:Heap)(H:Hp):Heap:=PySem.W.hideAll h (trk h H)
def qc9u(h:Heap)(H:Hp):(hidT h H).objs.size=h.objs.size:=PySem.W.hideAll_size _ _
def qd2l{h:Heap}{H:Hp}{b:Addr}{o:Obj}(e:h.get? b=some o)(n:H b=none):(hidT h H).get? b=some o:=
 PySem.W.hideAll_get _ e fun hm=>by
  have q:(H b).isSome=true:=(mem_filter.mp hm).2;rw [n] at q;simp at q
def of_hidT{h:Heap}{H:Hp}{b:Addr}{o:Obj}(e:(hidT h H).get? b=some o):h.get? b=some o/\H b=none:=by
 have e':h.get? b=some o:=PySem.W.of_hideAll (trk h H) e;refine⟨e',?_⟩;cases q:H b with
 | none=>rfl
 | some x =>
  have hm:b ∈ trk h H:=mem_filter.mpr ⟨mem_range.mpr (lt_size e'),by simp [q]⟩;have z:(hidT h H).get? b=none:=PySem.W.hideAll_none (trk h H) hm;rw [z] at e;cases e
noncomputable def allNews(g h:Heap)(L:Addr):List 'g':=(List.range h.objs.size).filterMap fun a=>if a=L ∨ (g.get? a).isSome=true then none else(h.get? a).map fun o=>(a,o)
noncomputable def rest(g h:Heap)(L d:Addr):List 'g':=(allNews g h L).filter fun p=>decide (p.1 ≠ d)
end L2
namespace L2
open PySem PySem.Spec PyProof.Rows
structure Mod(K:W.Frag)(mg:Str->Option Value)(base:Heap):Prop where
 kin:K.In base
 glob:base.Ns mainGlobals mg
 blt:∃ mb,base.Ns builtinsNs mb/\∀ x:Str,x ≠ "__name__" -> mb x=bootBuiltins x
 nolimit:base.NoLimit
structure Cx where
 prog:Program
 w:World
 K:W.Frag
 mg:Str->Option Value
 base:Heap
 A:Around
 N:List Str
 s₀:Shared
 H₀:Hp
 env:Env
 outer:List Env
 stack:List Env
 ex:List Addr
 fn:Str->Bool
 calm:Bool
 pn:List 'g'
 xe:Value->Shared->Prop
noncomputable def frs(l:List Env):List Addr:=l.filterMap (·.frame)
abbrev Cx.fs(X:Cx):List Addr:=frs X.outer
def Vis(sc:Scope)(x:Str):Prop:=sc.names.lookup x=some .local ∨ sc.names.lookup x=some .cell ∨ sc.names.lookup x=some .free
def Loc(sc:Scope)(x:Str):Prop:=sc.names.lookup x=some .local ∨ sc.names.lookup x=some .cell
def Look(env:Env)(h:Heap)(m:Str->Option Value)(x:Str)(u:Value):Prop:=
 (env.kindOf x=some .local/\m x=some u) ∨ ((env.kindOf x=some .cell ∨ env.kindOf x=some .free)/\∃ c,env.cells.lookup x=some c/\h.IsCell c (some u))
structure Cx.Ok(X:Cx):Prop where
 mod:Mod X.K X.mg X.base
 kind:X.env.scope.kind=.function
 glob:X.env.globals=mainGlobals
 blt:X.env.builtins=builtinsNs
 above:X.s₀.heap.objs.size <= X.env.locals
 inj:∀ x y c,X.env.cells.lookup x=some c->X.env.cells.lookup y=some c->x=y
 has:∀ x,(X.env.kindOf x=some .cell ∨ X.env.kindOf x=some .free)->∃ c,X.env.cells.lookup x=some c
 cab:∀ x c,X.fn x=true->X.env.cells.lookup x=some c->X.s₀.heap.objs.size <= c
 hd:X.calm=true->X.A.handled=none
 frames:X.A.frames=some X.stack
 stk:X.stack=X.outer ∨ (X.stack=X.env :: X.outer/\X.env.frame=some X.env.locals)
 exf:∀ b ∈ X.ex,b ≠ X.env.locals/\∀ x c,X.env.cells.lookup x=some c->c ≠ b
 bs:∀ b o,X.base.get? b=some o->X.s₀.heap.get? b=some o/\X.H₀ b=none
 bsz:X.base.objs.size <= X.s₀.heap.objs.size
 noex:∀ b o,X.base.get? b=some o->b ∉ X.ex
 exfs:∀ b ∈ X.ex,b ∉ X.fs
 funs:X.s₀.heap.FunFrames X.base X.outer
 frf:∀ b ∈ X.fs,X.H₀ b=none
structure Inv(X:Cx)(pins:List 'g')(σ:List (Option V))(H:Hp)(s:Shared):Prop where
 ok:X.Ok
 os:s.os=X.s₀.os
 bare:AllBare s.gens
 base:Un X.fs X.ex X.H₀ H X.s₀.heap s.heap
 loc:∃ m,s.heap.Ns X.env.locals m/\∀ (i:Nat) (x:Str) (v:V),X.N[i]? = some x->σ[i]? = some (some v)->Vis X.env.scope x->∃ u,RelV v u/\Look X.env s.heap m x u
 cell:∀ x c,X.env.cells.lookup x=some c->∃ v,s.heap.IsCell c v
 free:H X.env.locals=none
 freeC:∀ x c,X.env.cells.lookup x=some c->H c=none
 pin:∀ p ∈ X.pn ++ pins,s.heap.get? p.1=some p.2/\H p.1=none/\p.1 ≠ X.env.locals/\p.1 ∉ X.fs/\∀ v,p.2.data ≠ .cell v
 hok:HOk X.prog X.w H s.heap
 len:σ.length=X.N.length
section
variable{X:Cx}{pins:List 'g'}{σ:List (Option V)}{H H':Hp}{s:Shared}{h':Heap}
def Cx.Ok.nofr(ok:X.Ok){b:Addr}{o:Obj}(e:X.base.get? b=some o):b ∉ X.fs:=fun hb=>by
 have:=(ok.funs.mem hb).1;rw [e] at this;cases this
def Inv.bs(I:Inv X pins σ H s):∀ b o,X.base.get? b=some o->s.heap.get? b=some o/\H b=none:=fun b o e =>
 ⟨I.base.keep b o (I.ok.bs b o e).1 (I.ok.bs b o e).2 (I.ok.nofr e) (I.ok.noex b o e),I.base.free b o (I.ok.bs b o e).1 (I.ok.bs b o e).2 (I.ok.noex b o e)⟩
def Inv.bk(I:Inv X pins σ H s):∀ b o,X.base.get? b=some o->s.heap.get? b=some o:=fun b o e=>(I.bs b o e).1
def Inv.mod(I:Inv X pins σ H s):Mod X.K X.mg X.base:=I.ok.mod
def Inv.kIn(I:Inv X pins σ H s):X.K.In s.heap:=I.ok.mod.kin.keeps I.bk
def Inv.lt(I:Inv X pins σ H s):X.env.locals < s.heap.objs.size:=by obtain⟨_,hn,_⟩:=I.loc;exact hn.lt
def Inv.sz(I:Inv X pins σ H s):X.s₀.heap.objs.size <= s.heap.objs.size:=le_trans I.ok.above (le_of_lt I.lt)
def Inv.nofs(I:Inv X pins σ H s){a:Addr}(h:s.heap.objs.size <= a):a ∉ X.fs:=fun hb=>by
 obtain⟨_,o,ho,_⟩:=I.ok.funs.mem hb;exact absurd (lt_of_lt_of_le (lt_size ho) (le_trans I.sz h)) (lt_irrefl _)
def Inv.cne(I:Inv X pins σ H s):∀ x c,X.env.cells.lookup x=some c->c ≠ X.env.locals:=fun x c e z=>by
 obtain⟨v,o,ho,hd⟩:=I.cell x c e;obtain⟨m,⟨o',es,ep,ho',hd',_⟩,_⟩:=I.loc;rw [z,ho'] at ho;cases ho;rw [hd'] at hd;cases hd
def Inv.funs(I:Inv X pins σ H s):s.heap.FunFrames X.base X.outer:=by
 have all:∀ (l:List Env),(∀ b ∈ frs l,b ∈ X.fs)->X.s₀.heap.FunFrames X.base l->s.heap.FunFrames X.base l:=by
  intro l;induction l with
  | nil=>intro _ _;trivial
  | cons env r ih =>
   intro hs hl;obtain⟨hk,⟨L,o,hf,hn,ho,hd⟩,hr⟩:=hl;have hL:L ∈ X.fs:=hs L (by unfold frs;rw [filterMap_cons,hf];exact mem_cons_self);obtain⟨sl,e⟩:=I.base.slot L o ho (I.ok.frf L hL) hL fun z=>I.ok.exfs L z hL;exact⟨hk,⟨L,_,hf,hn,e,hd⟩,ih (fun b hb=>hs b (by unfold frs;rw [filterMap_cons,hf];exact mem_cons_of_mem _ hb)) hr⟩
 exact all X.outer (fun _ hb=>hb) I.ok.funs
def Inv.stack(I:Inv X pins σ H s):s.heap.FunFrames X.base X.stack:=by
 rcases I.ok.stk with e | ⟨e,hf⟩
 ·rw [e];exact I.funs
 ·rw [e]
  obtain⟨m,hn,_⟩:=I.loc;refine .cons (by rw [I.ok.kind];decide) hf hn ?_ I.funs;exact Heap.get?_none_of_le (le_trans I.ok.bsz I.ok.above)
def Inv.stkSub(I:Inv X pins σ H s):∀ b ∈ frs X.stack,b ∈ X.env.locals :: X.fs:=fun b hb=>by
 rcases I.ok.stk with e | ⟨e,hf⟩
 ·rw [e] at hb;exact mem_cons_of_mem _ hb
 ·rw [e] at hb
  unfold frs at hb;rw [filterMap_cons,hf] at hb;exact hb
def Inv.stkFree(I:Inv X pins σ H s):∀ b ∈ frs X.stack,H b=none:=fun b hb=>by
 rcases mem_cons.mp (I.stkSub b hb) with e | hb
 ·rw [e];exact I.free
 ·obtain⟨_,o,ho,_⟩:=I.ok.funs.mem hb
  exact I.base.free b o ho (I.ok.frf b hb) fun z=>I.ok.exfs b z hb
def Inv.step{g':Array GenState}{t':Nat}{d':Drawn}{ch:List Addr}(I:Inv X pins σ H s)
  (hch:∀ b ∈ ch,(b ∈ X.ex ∨ X.s₀.heap.objs.size <= b)/\b ≠ X.env.locals/\(∀ x c,X.env.cells.lookup x=some c->c ≠ b)/\∀ p ∈ X.pn ++ pins,p.1 ≠ b)
  (keep:∀ b o,b ≠ X.env.locals->b ∉ X.fs->b ∉ ch->s.heap.get? b=some o->H b=none->h'.get? b=some o)
  (slot:∀ b o,b ≠ X.env.locals->b ∈ X.fs->b ∉ ch->s.heap.get? b=some o->H b=none->∃ sl,h'.get? b=some { o with slots:=sl }) (free:∀ b o,b ∉ ch->s.heap.get? b=some o->H b=none->H' b=none)
  (there:∀ b o,b ∉ ch->s.heap.get? b=some o->∃ o',h'.get? b=some o')
  (tups:∀ b xs,H b=some (.tup xs)->H' b=some (.tup xs)) (frzs:∀ b o u,H b=some (.frz o u)->H' b=some (.frz o u)) (tbls:∀ b ps,H b=some (.tbl ps)->∃ more,H' b=some (.tbl (ps ++ more)))
  (ns:∀ m,s.heap.Ns X.env.locals m->h'.Ns X.env.locals m) (hok:HOk X.prog X.w H' h') (hg:AllBare g') :
  Inv X pins σ H' { s with heap:=h',gens:=g',drawn:=d',toks:=t' }:=by
 have neL:∀ b o,X.s₀.heap.get? b=some o->b ≠ X.env.locals:=fun b o e=>ne_of_lt (lt_of_lt_of_le (lt_size e) I.ok.above);have neC:∀ b o,X.s₀.heap.get? b=some o->b ∉ X.ex->b ∉ ch:=fun b o e hx hb=>by
  rcases (hch b hb).1 with z | z
  ·exact hx z
  ·exact absurd (lt_of_lt_of_le (lt_size e) z) (lt_irrefl _)
 have cellK:∀ x c,X.env.cells.lookup x=some c->∀ v,s.heap.IsCell c v->h'.IsCell c v:=fun x c e v hq8=>by
  obtain⟨o,ho,hd⟩:=hq8;have nch:c ∉ ch:=fun z=>(hch c z).2.2.1 x c e rfl;by_cases hc:c ∈ X.fs
  ·obtain⟨sl,q⟩:=slot c o (I.cne x c e) hc nch ho (I.freeC x c e)
   exact⟨_,q,hd⟩
  ·exact⟨o,keep c o (I.cne x c e) hc nch ho (I.freeC x c e),hd⟩
 refine⟨I.ok,I.os,hg,⟨fun b o e n hb hx=>?_,fun b o e n hb hx=>?_,fun b o e n hx=>?_,fun b o e hx=>?_,fun b xs e=>tups b xs (I.base.tups b xs e),fun b o xs e=>frzs b o xs (I.base.frzs b o xs e),fun b ps e=>?_⟩,?_,fun x c e=>?_,?_,fun x c e=>?_,fun p hp=>?_,hok,I.len⟩
 ·exact keep b o (neL b o e) hb (neC b o e hx) (I.base.keep b o e n hb hx) (I.base.free b o e n hx)
 ·obtain⟨sl,e1⟩:=I.base.slot b o e n hb hx
  obtain⟨sl',e2⟩:=slot b _ (neL b o e) hb (neC b o e hx) e1 (I.base.free b o e n hx);exact⟨sl',e2⟩
 ·obtain⟨o',e1⟩:=I.base.there b o e hx
  exact free b o' (neC b o e hx) e1 (I.base.free b o e n hx)
 ·obtain⟨o',e1⟩:=I.base.there b o e hx
  exact there b o' (neC b o e hx) e1
 ·obtain⟨m1,e1⟩:=I.base.tbls b ps e
  obtain⟨m2,e2⟩:=tbls b _ e1;exact⟨m1 ++ m2,by rw [e2,Array.append_assoc]⟩
 ·obtain⟨m,hn,hl⟩:=I.loc
  refine⟨m,ns m hn,fun i x v e1 e2 e3=>?_⟩;obtain⟨u,r,l⟩:=hl i x v e1 e2 e3;refine⟨u,r,?_⟩;rcases l with l | ⟨k,c,e,z⟩
  ·exact .inl l
  ·exact .inr ⟨k,c,e,cellK x c e _ z⟩
 ·obtain⟨v,z⟩:=I.cell x c e
  exact⟨v,cellK x c e v z⟩
 ·obtain⟨m,⟨o,_,_,ho,_⟩,_⟩:=I.loc
  exact free _ o (fun z=>(hch _ z).2.1 rfl) ho I.free
 ·obtain⟨v,o,ho,hd⟩:=I.cell x c e
  exact free c o (fun z=>(hch c z).2.2.1 x c e rfl) ho (I.freeC x c e)
 ·obtain⟨e,n,ne,nf,d⟩:=I.pin p hp
  have nch:p.1 ∉ ch:=fun z=>(hch p.1 z).2.2.2 p hp rfl;exact⟨keep p.1 p.2 ne nf nch e n,free p.1 p.2 nch e n,ne,nf,d⟩
def Inv.un{t':Nat}(I:Inv X pins σ H s)(u:Un X.fs [] H H' s.heap h')(hok:HOk X.prog X.w H' h'):Inv X pins σ H' { s with heap:=h',toks:=t' }:=by
 obtain⟨m,⟨o,es,ep,ho,r⟩,_⟩:=id I.loc;obtain⟨sl,hL⟩:=u.any ho I.free 'h';exact I.step (g':=s.gens) (d':=s.drawn) (ch:=[]) (fun _ z=>nomatch z) (fun b o _ hb _ e n=>u.keep b o e n hb 'h') (fun b o _ hb _ e n=>u.slot b o e n hb 'h') (fun b o _ e n=>u.free b o e n 'h') (fun b o _ e=>u.there b o e 'h') u.tups u.frzs u.tbls (fun m' hm=>by
  obtain⟨o',es',ep',ho',r'⟩:=hm;rw [ho] at ho';cases ho';exact⟨_,es',ep',hL,r'⟩) hok I.bare
def Inv.call{g':Array GenState}{t':Nat}{d':Drawn}{ch:List Addr}(I:Inv X pins σ H s)(u:Un (frs X.stack) ch H H' s.heap h')(hok:HOk X.prog X.w H' h')(hg:AllBare g')
  (hch:∀ b ∈ ch,(b ∈ X.ex ∨ X.s₀.heap.objs.size <= b)/\b ≠ X.env.locals/\(∀ x c,X.env.cells.lookup x=some c->c ≠ b)/\∀ p ∈ X.pn ++ pins,p.1 ≠ b) :
  Inv X pins σ H' { s with heap:=h',gens:=g',drawn:=d',toks:=t' }:=by
 obtain⟨m,⟨o,es,ep,ho,r⟩,_⟩:=id I.loc;obtain⟨sl,hL⟩:=u.any ho I.free fun z=>(hch _ z).2.1 rfl;exact I.step (ch:=ch) hch (fun b o hL hb hc e n=>u.keep b o e n (fun z=>(mem_cons.mp (I.stkSub b z)).elim hL hb) hc) (fun b o _ _ hc e n=>u.any e n hc) (fun b o hc e n=>u.free b o e n hc) (fun b o hc e=>u.there b o e hc) u.tups u.frzs u.tbls (fun m' hm=>by
  obtain⟨o',es',ep',ho',r'⟩:=hm;rw [ho] at ho';cases ho';exact⟨_,es',ep',hL,r'⟩) hok hg
def Inv.turned{t':Nat}{it:Addr}(I:Inv X pins σ H s)(k:∀ b o,b ≠ it->s.heap.get? b=some o->h'.get? b=some o)(hn:H it=none)(hL:it ≠ X.env.locals)
  (h1:it ∈ X.ex ∨ X.s₀.heap.objs.size <= it) (h2:∀ x c,X.env.cells.lookup x=some c->c ≠ it) (h3:∀ p ∈ X.pn ++ pins,p.1 ≠ it):Inv X pins σ H { s with heap:=h',toks:=t' }:=by
 have nit:∀ b u,H b=some u->b ≠ it:=fun b u e z=>by rw [z,hn] at e;cases e
 refine I.step (g':=s.gens) (d':=s.drawn) (ch:=[it]) (fun b hb=>?_) (fun b o _ _ hc e _=>k b o (fun z=>hc (by simp [z])) e) (fun b o _ _ hc e _=>⟨o.slots,k b o (fun z=>hc (by simp [z])) e⟩) (fun _ _ _ _ n=>n)
  (fun b o hc e=>⟨o,k b o (fun z=>hc (by simp [z])) e⟩) (fun _ _ e=>e) (fun _ _ _ e=>e) (fun b ps e=>⟨#[],by rw [e];simp⟩) (fun m hm=>?_) (fun b u e=>?_) I.bare
 ·have e:b=it:=by simpa using hb
  subst e;exact⟨h1,hL,h2,h3⟩
 ·obtain⟨o,es,ep,ho,r⟩:=hm
  exact⟨o,es,ep,k _ o (Ne.symm hL) ho,r⟩
 ·refine(I.hok b u e).stay (fun c v hc q=>k c v ?_ q) (fun _ q=>q) fun _ _ q=>q
  rcases hc with z | z
  ·rw [z];exact nit b u e
  ·exact nit c _ z
def Inv.tok(I:Inv X pins σ H s)(t:Nat):Inv X pins σ H { s with toks:=t }:=I.un (h':=s.heap) (t':=t) Un.refl I.hok
def Inv.kept{t':Nat}(I:Inv X pins σ H s)(k:∀ b u,s.heap.get? b=some u->h'.get? b=some u):Inv X pins σ H { s with heap:=h',toks:=t' }:=I.un (Un.kept k) (I.hok.kept k)
def Inv.laid{a:Addr}{o:HO}{t':Nat}(I:Inv X pins σ H s)(k:∀ b u,s.heap.get? b=some u->h'.get? b=some u)(hp:s.heap.objs.size <= a)(new:qa1v X.prog X.w (upd H a o) h' a o) :
  Inv X pins σ (upd H a o) { s with heap:=h',toks:=t' }:=I.un (Un.laid k hp (I.hok.fresh hp)) (I.hok.laid k hp new)
def Inv.write{x e:Addr}{o:HO}{t':Nat}(I:Inv X pins σ H s)(mu:Mut (H x))(he:e=x ∨ H e=some (.own x))(k:∀ b u,b ≠ e->s.heap.get? b=some u->h'.get? b=some u)(heo:∃ u,h'.get? e=some u)
  (new:qa1v X.prog X.w (upd H x o) h' x o):Inv X pins σ (upd H x o) { s with heap:=h',toks:=t' }:=I.un (Un.write mu he k heo) (I.hok.write mu he k heo new)
def Inv.pins_of{pins':List 'g'}(I:Inv X pins σ H s)(h:∀ p ∈ pins',s.heap.get? p.1=some p.2/\H p.1=none/\p.1 ≠ X.env.locals/\p.1 ∉ X.fs/\∀ v,p.2.data ≠ .cell v):Inv X pins' σ H s:=
 ⟨I.ok,I.os,I.bare,I.base,I.loc,I.cell,I.free,I.freeC,fun p hp=>(mem_append.mp hp).elim (fun z=>I.pin p (List.mem_append_left _ z)) (h p),I.hok,I.len⟩
def qb9s{N:List Str}(hN:N.Nodup){i j:Nat}{x:Str}(a:N[i]? = some x)(b:N[j]? = some x):i=j:=by
 obtain⟨h1,e1⟩:=List.getElem?_eq_some_iff.mp a;obtain⟨h2,e2⟩:=List.getElem?_eq_some_iff.mp b;exact(List.getElem_inj hN).mp (e1.trans e2.symm)
def qb8k{M:Model}{A:Around}{E:Value->Shared->Prop}{i:Nat}{x:Str}{v:V}{u:Value}{Q:Unit->Shared->Prop}(I:Inv X pins σ H s)(hN:X.N.Nodup)(hi:X.N[i]? = some x)(hx:Loc X.env.scope x)(r:RelV v u)
  (h:∀ s',Inv X pins (σ.set i (some v)) H s'->(∃ a,Heap.SameBut a s.heap s'.heap/\(a=X.env.locals ∨ X.env.cells.lookup x=some a))->Q () s') (hf:X.fn x=true ∨ X.env.scope.names.lookup x=some .local:=by first | exact .inl rfl | exact .inr rfl | assumption):wpAny M A (storeName X.env x u) Q E s:=by
 obtain⟨m,hn,hl⟩:=id I.loc;have hcls:(X.env.scope.kind == .class || (X.env.scope.kind == .module && X.env.locals != X.env.globals))=false:=by rw [I.ok.kind];rfl
 have hiσ:i < σ.length:=by rw [I.len];exact(List.getElem?_eq_some_iff.mp hi).1
 have cne:=I.cne;have tracked:∀ {a:Addr} {h':Heap},(∃ o,s.heap.get? a=some o/\H a=none)->Heap.SameBut a s.heap h'->HOk X.prog X.w H h':=fun{a h'} ha hs b ob e=>by
  obtain⟨_,_,hfree⟩:=ha;refine(I.hok b ob e).stay (fun c w' hc q=>(hs.2 c ?_).trans q) (fun _ q=>q) fun _ _ q=>q;rintro rfl;rcases hc with rfl | hc
  ·rw [hfree] at e;cases e
  ·rw [hfree] at hc;cases hc
 rcases hx with hk | hk
 ·refine wpAny_storeName_local hk hn (fun h' hn' hs=>?_) hcls
  obtain⟨oL,_,_,hoL,_⟩:=id hn;refine h _ ⟨I.ok,I.os,I.bare,⟨fun b o e n hb hx=>?_,fun b o e n hb hx=>?_,I.base.free,fun b o e hx=>?_,I.base.tups,I.base.frzs,I.base.tbls⟩,⟨_,hn',fun j y v' e1 e2 e3=>?_⟩,fun y c e=>?_,I.free,I.freeC,fun p hp=>?_,tracked ⟨oL,hoL,I.free⟩ hs,by simpa using I.len⟩ ⟨_,hs,.inl rfl⟩
  ·exact(hs.2 b (ne_of_lt (lt_of_lt_of_le (lt_size e) I.ok.above))).trans (I.base.keep b o e n hb hx)
  ·obtain⟨sl,e1⟩:=I.base.slot b o e n hb hx
   exact⟨sl,(hs.2 b (ne_of_lt (lt_of_lt_of_le (lt_size e) I.ok.above))).trans e1⟩
  ·obtain⟨o',e1⟩:=I.base.there b o e hx
   exact⟨o',(hs.2 b (ne_of_lt (lt_of_lt_of_le (lt_size e) I.ok.above))).trans e1⟩
  ·by_cases hj:j=i
   ·subst hj
    rw [hi] at e1;cases e1;rw [getElem?_set_self hiσ] at e2;cases e2;exact⟨u,r,.inl ⟨hk,by simp⟩⟩
   ·rw [getElem?_set_ne (Ne.symm hj)] at e2
    obtain⟨u',r',q⟩:=hl j y v' e1 e2 e3;refine⟨u',r',?_⟩;rcases q with⟨k,e⟩ | ⟨k,c,e,z⟩
    ·refine .inl ⟨k,?_⟩
     have:y ≠ x:=fun e=>hj (qb9s hN e1 (e ▸ hi));simp [this,e]
    ·exact .inr ⟨k,c,e,z.sameBut hs (cne y c e)⟩
  ·obtain⟨w',z⟩:=I.cell y c e
   exact⟨w',z.sameBut hs (cne y c e)⟩
  ·obtain⟨e,n,ne,nf,d⟩:=I.pin p hp
   exact⟨(hs.2 p.1 ne).trans e,n,ne,nf,d⟩
 ·have hfn:X.fn x=true:=by
   rcases hf with z | z
   ·exact z
   ·rw [z] at hk;cases hk
  obtain⟨c,hc⟩:=I.ok.has x (.inl hk);obtain⟨w',z⟩:=I.cell x c hc;refine wpAny_storeName_cell I.ok.kind hk hc z (fun h' hc' hs=>?_);obtain⟨oc,hoc,hocd⟩:=id z;refine h { s with heap:=h' } ⟨I.ok,I.os,I.bare,⟨fun b o e n hb hx=>?_,fun b o e n hb hx=>?_,I.base.free,fun b o e hx=>?_,I.base.tups,I.base.frzs,I.base.tbls⟩,⟨m,hn.sameBut hs (Ne.symm (cne x c hc)),fun j y v' e1 e2 e3=>?_⟩,fun y c' e=>?_,I.free,I.freeC,fun p hp=>?_,tracked ⟨oc,hoc,I.freeC x c hc⟩ hs,by simpa using I.len⟩ ⟨c,hs,.inr hc⟩
  ·exact(hs.2 b (ne_of_lt (lt_of_lt_of_le (lt_size e) (I.ok.cab x c hfn hc)))).trans (I.base.keep b o e n hb hx)
  ·obtain⟨sl,e1⟩:=I.base.slot b o e n hb hx
   exact⟨sl,(hs.2 b (ne_of_lt (lt_of_lt_of_le (lt_size e) (I.ok.cab x c hfn hc)))).trans e1⟩
  ·obtain⟨o',e1⟩:=I.base.there b o e hx
   exact⟨o',(hs.2 b (ne_of_lt (lt_of_lt_of_le (lt_size e) (I.ok.cab x c hfn hc)))).trans e1⟩
  ·by_cases hj:j=i
   ·subst hj
    rw [hi] at e1;cases e1;rw [getElem?_set_self hiσ] at e2;cases e2;exact⟨u,r,.inr ⟨.inl hk,c,hc,hc'⟩⟩
   ·rw [getElem?_set_ne (Ne.symm hj)] at e2
    obtain⟨u',r',q⟩:=hl j y v' e1 e2 e3;refine⟨u',r',?_⟩;rcases q with q | ⟨k,c',e,z'⟩
    ·exact .inl q
    ·refine .inr ⟨k,c',e,z'.sameBut hs ?_⟩
     rintro rfl;exact hj (qb9s hN e1 (I.ok.inj _ _ _ e hc ▸ hi))
  ·by_cases hcc:c'=c
   ·subst hcc;exact⟨_,hc'⟩
   ·obtain⟨w2,z2⟩:=I.cell y c' e
    exact⟨w2,z2.sameBut hs hcc⟩
  ·obtain⟨e,n,ne,nf,d⟩:=I.pin p hp
   refine⟨(hs.2 p.1 ?_).trans e,n,ne,nf,d⟩;intro q;rw [q,hoc] at e;have q':oc=p.2:=Option.some.inj e;exact d w' (by rw [← q'];exact hocd)
def qb9t{M:Model}{A:Around}{E:Value->Shared->Prop}{i:Nat}{x:Str}{v:V}{u:Value}{Q:Unit->Shared->Prop}(I:Inv X pins σ H s)(hN:X.N.Nodup)(hi:X.N[i]? = some x)(hx:Loc X.env.scope x)(r:RelV v u)
  (h:∀ s',Inv X pins (σ.set i (some v)) H s'->Q () s') (hf:X.fn x=true ∨ X.env.scope.names.lookup x=some .local:=by first | exact .inl rfl | exact .inr rfl | assumption):wpAny M A (storeName X.env x u) Q E s:=
 qb8k I hN hi hx r (fun s' I' _=>h s' I') hf
def Inv.call'{s':Shared}{ch:List Addr}(I:Inv X pins σ H s)(ho:s'.os=s.os)(u:Un (frs X.stack) ch H H' s.heap s'.heap)(hok:HOk X.prog X.w H' s'.heap)(hg:AllBare s'.gens)
  (hch:∀ b ∈ ch,(b ∈ X.ex ∨ X.s₀.heap.objs.size <= b)/\b ≠ X.env.locals/\(∀ x c,X.env.cells.lookup x=some c->c ≠ b)/\∀ p ∈ X.pn ++ pins,p.1 ≠ b):Inv X pins σ H' s':=by
 obtain⟨h',g',d',t',o'⟩:=s';have e:o'=s.os:=ho;subst e;exact I.call (g':=g') (t':=t') (d':=d') u hok hg hch
end
abbrev XK:=Value->Option Addr->Hp->Prop
abbrev St:=List (Option V)
abbrev VK:=V->Hp->Prop
abbrev TE:=St->Hp->VK->Prop
abbrev TT:=St->Hp->(Bool->Hp->Prop)->Prop
abbrev TA:=St->Hp->(List V->Hp->Prop)->Prop
structure Ends where
 nx:St->Hp->Prop
 rt:VK
 bk:St->Hp->Prop:=fun _ _=>False
 ct:St->Hp->Prop:=fun _ _=>False
abbrev TS:=Ends->St->Hp->Prop
def EP(X:Cx)(pins:List 'g')(σ:St)(Q:VK)(u:Value)(s':Shared):Prop:=∃ v H',Inv X pins σ H' s'/\RelV v u/\Q v H'
def TP(X:Cx)(pins:List 'g')(σ:St)(Q:Bool->Hp->Prop)(b:Bool)(s':Shared):Prop:=∃ H',Inv X pins σ H' s'/\Q b H'
def AP(X:Cx)(pins:List 'g')(σ:St)(Q:List V->Hp->Prop)(us:List Value)(s':Shared):Prop:=∃ vs H',Inv X pins σ H' s'/\Vals vs us/\Q vs H'
def SP(X:Cx)(pins:List 'g')(D:Ends)(f:Flow)(s':Shared):Prop:=
 match f with
 | .next=>∃ σ' H',Inv X pins σ' H' s'/\D.nx σ' H'
 | .brk=>∃ σ' H',Inv X pins σ' H' s'/\D.bk σ' H'
 | .cont=>∃ σ' H',Inv X pins σ' H' s'/\D.ct σ' H'
 | .ret u=>∃ v σ' H',Inv X pins σ' H' s'/\RelV v u/\D.rt v H'
def PE(X:Cx)(e:Expr)(t:TE):Prop:=
 ∀ (pins:List 'g') (s:Shared) (σ:St) (H:Hp) (Q:VK),Inv X pins σ H s->t σ H Q->wpAny (model X.prog X.w) X.A (eval e X.env) (EP X pins σ Q) X.xe s
def PT(X:Cx)(e:Expr)(t:TT):Prop:=
 ∀ (pins:List 'g') (s:Shared) (σ:St) (H:Hp) (Q:Bool->Hp->Prop),Inv X pins σ H s->t σ H Q->wpAny (model X.prog X.w) X.A (isTrue e X.env (eval e X.env)) (TP X pins σ Q) X.xe s
def PW(X:Cx)(e:Expr)(t:TT):Prop:=
 ∀ (whole:Sem Value) (pins:List 'g') (s:Shared) (σ:St) (H:Hp) (Q:Bool->Hp->Prop),Inv X pins σ H s->t σ H Q->wpAny (model X.prog X.w) X.A (isTrue e X.env whole) (TP X pins σ Q) X.xe s
def PW.pt{X:Cx}{e:Expr}{t:TT}(h:PW X e t):PT X e t:=h _
def PA(X:Cx)(es:List Expr)(t:TA):Prop:=
 ∀ (pos:Pos) (pins:List 'g') (s:Shared) (σ:St) (H:Hp) (Q:List V->Hp->Prop),Inv X pins σ H s->t σ H Q->wpAny (model X.prog X.w) X.A (spliced (backTo pos (starEach es X.env))) (AP X pins σ Q) X.xe s
def PS(X:Cx)(st:Stmt)(t:TS):Prop:=
 ∀ (pins:List 'g') (s:Shared) (σ:St) (H:Hp) (D:Ends),Inv X pins σ H s->t D σ H->wpAny (model X.prog X.w) X.A (exec st X.env) (SP X pins D) X.xe s
def PSs(X:Cx)(st:List Stmt)(t:TS):Prop:=
 ∀ (pins:List 'g') (s:Shared) (σ:St) (H:Hp) (D:Ends),Inv X pins σ H s->t D σ H->wpAny (model X.prog X.w) X.A (execs st X.env) (SP X pins D) X.xe s
def thn{α:Type}{t:Sem α}{Q Q':α->Shared->Prop}{M:Model}{A:Around}{E:Value->Shared->Prop}{s:Shared}(h:wpAny M A t Q E s)(hQ:∀ a s,Q a s->Q' a s):wpAny M A t Q' E s:=wpAny_mono h hQ fun _ _ x=>x
end L2
namespace L2
open PySem PySem.Spec PyProof.Rows
section
variable{X:Cx}
def tVar(i:Nat):TE:=fun σ H Q=>∃ v,σ[i]? = some (some v)/\Q v H
def tC(v:V):TE:=fun _ H Q=>Q v H
def qa9b{i:Nat}{x:Str}{pos:Pos}(hN:X.N[i]? = some x)(hv:Vis X.env.scope x) (hd:(x == ("__debug__" : Str))=false:=by decide) (hcd:(x == ("__classdict__" : Str))=false:=by decide):PE X (.Name x pos) (tVar i):=by
 intro pins s σ H Q I h;obtain⟨v,e,h⟩:=h;obtain⟨m,hn,hl⟩:=I.loc;obtain⟨u,r,l⟩:=hl i x v hN e hv;have fin:EP X pins σ Q u s:=⟨v,H,I,r,h⟩;rcases l with⟨hk,hm⟩ | ⟨hk,c,hc,hcell⟩
 ·exact wpAny_Name (wpAny_loadName_local I.ok.kind hk hn hm fin) hd
 ·rcases hk with hk | hk
  ·exact wpAny_Name (wpAny_loadName_cell I.ok.kind hk hc hcell fin) hd
  ·exact wpAny_Name (wpAny_loadName_free I.ok.kind hk hc hcell fin hcd) hd
def qa2i{i j pos}:PE X (.Constant (.int i) j pos) (tC (.int i)):=fun _ _ _ H _ I h=>wpAny_Constant_int ⟨.int i,H,I.tok _,⟨_,rfl⟩,h⟩
def pe_bl{b j pos}:PE X (.Constant (.bool b) j pos) (tC (.bl b)):=fun _ _ _ H _ I h=>Constant_bool ⟨.bl b,H,I,rfl,h⟩
def pe_non{j pos}:PE X (.Constant .none j pos) (tC .non):=fun _ _ _ H _ I h=>Constant_none ⟨.non,H,I,rfl,h⟩
def pe_str{x j pos}:PE X (.Constant (.str x) j pos) (tC (.str x)):=fun _ _ _ H _ I h=>Calls.Constant_str ⟨.str x,H,I.tok _,⟨_,rfl⟩,h⟩
def Gl(X:Cx)(x:Str):Prop:=X.env.kindOf x=some .globalImplicit
def qc5c{E:Value->Shared->Prop}{pins:List 'g'}{s:Shared}{σ:St}{H:Hp}{x:Str}{u:Value}{pos:Pos}{Q:Value->Shared->Prop}(I:Inv X pins σ H s)(hg:Gl X x)(hm:X.mg x=some u)(h:Q u s)
  (hd:(x == ("__debug__" : Str))=false:=by decide):wpAny (model X.prog X.w) X.A (eval (.Name x pos) X.env) Q E s:=
 Calls.Name_function_global I.ok.kind hg (Calls.loadGlobal_global (by rw [I.ok.glob];exact I.mod.glob.keeps I.bk) hm h) hd
def qa4r{E:Value->Shared->Prop}{pins:List 'g'}{s:Shared}{σ:St}{H:Hp}{x:Str}{u:Value}{pos:Pos}{Q:Value->Shared->Prop}(I:Inv X pins σ H s)(hg:Gl X x)(hm:X.mg x=none)(hv:bootBuiltins x=some u)(h:Q u s)
  (hn:x ≠ "__name__":=by decide) (hd:(x == ("__debug__" : Str))=false:=by decide):wpAny (model X.prog X.w) X.A (eval (.Name x pos) X.env) Q E s:=by
 obtain⟨mb,h1,h2⟩:=I.mod.blt;exact Calls.Name_function_global I.ok.kind hg (Calls.loadGlobal_builtin (by rw [I.ok.glob];exact I.mod.glob.keeps I.bk) hm (by rw [I.ok.blt];exact h1.keeps I.bk) ((h2 x hn).trans hv) h) hd
def pe_glob{x:Str}{v:V}{u:Value}{pos:Pos}(hg:Gl X x)(hm:X.mg x=some u)(r:RelV v u) (hd:(x == ("__debug__" : Str))=false:=by decide):PE X (.Name x pos) (tC v):=
 fun _ _ _ H _ I h=>qc5c I hg hm ⟨v,H,I,r,h⟩ hd
def pe_bltn{x:Str}{v:V}{u:Value}{pos:Pos}(hg:Gl X x)(hm:X.mg x=none)(hv:bootBuiltins x=some u)(r:RelV v u) (hn:x ≠ "__name__":=by decide) (hd:(x == ("__debug__" : Str))=false:=by decide):PE X (.Name x pos) (tC v):=
 fun _ _ _ H _ I h=>qa4r I hg hm hv ⟨v,H,I,r,h⟩ hn hd
variable{a b:Expr}{ta tb:TE}{pos:Pos}
def tB(t:TE):TT:=fun σ H Q=>t σ H fun x H1=>∃ c,x=.bl c/\Q c H1
def qb5y{e:Expr}{t:TE}(h:PE X e t)(he:∀ whole,isTrue e X.env whole=(do let v ← whole;standAt e.pos;holding [v] (truthy v)):=by intro _;rfl):PT X e (tB t):=by
 intro pins s σ H Q I hw;refine isTrue_plain (thn (h pins s σ H _ I hw) fun v s1 hq8=>?_) (he _);obtain⟨x,H1,I1,r1,q1⟩:=hq8;obtain⟨d,rfl,q⟩:=q1;cases r1;exact wpAny_truthy_bool ⟨H1,I1,q⟩
variable{tA tB':TT}{rest:List Expr}
def tAnd(t u:TT):TT:=fun σ H Q=>t σ H fun c H1=>if c=true then u σ H1 Q else Q false H1
def tOr(t u:TT):TT:=fun σ H Q=>t σ H fun c H1=>if c=true then Q true H1 else u σ H1 Q
def tNot(t:TT):TT:=fun σ H Q=>t σ H fun c H1=>Q (!c) H1
def pw_and1(ha:PT X a tA):PW X (.BoolOp .And [a] pos) tA:=by
 intro wh pins s σ H Q I h;refine isTrue_and (thn (ha pins s σ H Q I h) fun c s1 e=>?_);cases c with
 | true=>exact isTrue_and_nil e
 | false=>exact e
def pw_or1(ha:PT X a tA):PW X (.BoolOp .Or [a] pos) tA:=by
 intro wh pins s σ H Q I h;refine isTrue_or (thn (ha pins s σ H Q I h) fun c s1 e=>?_);cases c with
 | false=>exact isTrue_or_nil e
 | true=>exact e
def pw_and(ha:PT X a tA)(hb:PW X (.BoolOp .And (b :: rest) pos) tB'):PW X (.BoolOp .And (a :: b :: rest) pos) (tAnd tA tB'):=by
 intro wh pins s σ H Q I h;refine isTrue_and (thn (ha pins s σ H _ I h) fun c s1 hq9=>?_);obtain⟨H1,I1,q1⟩:=hq9;cases c with
 | true=>exact hb wh pins s1 σ H1 Q I1 q1
 | false=>exact⟨H1,I1,q1⟩
def pw_or(ha:PT X a tA)(hb:PW X (.BoolOp .Or (b :: rest) pos) tB'):PW X (.BoolOp .Or (a :: b :: rest) pos) (tOr tA tB'):=by
 intro wh pins s σ H Q I h;refine isTrue_or (thn (ha pins s σ H _ I h) fun c s1 hq9=>?_);obtain⟨H1,I1,q1⟩:=hq9;cases c with
 | true=>exact⟨H1,I1,q1⟩
 | false=>exact hb wh pins s1 σ H1 Q I1 q1
def pt_not(ha:PT X a tA):PT X (.UnaryOp .Not a pos) (tNot tA):=by
 intro pins s σ H Q I h;exact isTrue_not (ha pins s σ H (fun c H1=>Q (!c) H1) I h)
def tAndV(ta tb:TE):TE:=fun σ H Q=>ta σ H fun x H1=>∃ c,x=.bl c/\if c=true then tb σ H1 Q else Q (.bl false) H1
def tNotV(ta:TE):TE:=fun σ H Q=>ta σ H fun x H1=>∃ c,x=.bl c/\Q (.bl (!c)) H1
def pe_one{op}{t:TE}(h:PE X a t):PE X (.BoolOp op [a] pos) t:=fun pins s σ H Q I hw=>BoolOp_one (h pins s σ H Q I hw)
def pe_and(ha:PE X a ta)(hb:PE X (.BoolOp .And (b :: rest) pos) tb):PE X (.BoolOp .And (a :: b :: rest) pos) (tAndV ta tb):=by
 intro pins s σ H Q I h;refine BoolOp_and (thn (ha pins s σ H _ I h) fun v s1 hq9=>?_);obtain⟨x,H1,I1,r1,q1⟩:=hq9;obtain⟨c,rfl,q1⟩:=q1;cases r1;refine wpAny_truthy_bool ?_;cases c with
 | true=>exact hb pins s1 σ H1 Q I1 q1
 | false=>exact⟨.bl false,H1,I1,rfl,q1⟩
def pe_not(ha:PE X a ta):PE X (.UnaryOp .Not a pos) (tNotV ta):=by
 intro pins s σ H Q I h;refine UnaryOp_ (thn (ha pins s σ H _ I h) fun v s1 hq9=>?_);obtain⟨x,H1,I1,r1,q1⟩:=hq9;obtain⟨c,rfl,q1⟩:=q1;cases r1;exact not_of (wpAny_truthy_bool ⟨.bl (!c),H1,I1,rfl,q1⟩)
def tIf(t:TT)(ta tb:TE):TE:=fun σ H Q=>t σ H fun c H1=>if c=true then ta σ H1 Q else tb σ H1 Q
def qd2m{c:Expr}(hc:PT X c tA)(ha:PE X a ta)(hb:PE X b tb):PE X (.IfExp c a b pos) (tIf tA ta tb):=by
 intro pins s σ H Q I h;refine wpAny_IfExp (thn (hc pins s σ H _ I h) fun d s1 hq9=>?_);obtain⟨H1,I1,q1⟩:=hq9;cases d with
 | true=>exact ha pins s1 σ H1 Q I1 q1
 | false=>exact hb pins s1 σ H1 Q I1 q1
end
end L2
namespace L2
open PySem PySem.Spec PyProof.Rows
def SqL(K:W.Frag)(H:Hp)(a:Addr)(xs:List V):Prop:=
 Rd H a (.lst xs) ∨
  ∃ (o:Obj) (its:Array Value) (n:Nat),K.lookup a=some o/\o.cls=.type "list" /\ o.dict=none/\o.data=.seq its n/\its.size <= sizeLine/\Vals xs its.toList
def SqT(K:W.Frag)(H:Hp)(a:Addr)(xs:List V):Prop:=
 Rd H a (.tup xs) ∨
  ∃ (o:Obj) (its:Array Value) (n:Nat),K.lookup a=some o/\(o.cls=.type "tuple" /\ o.dict=none)/\o.data=.seq its n/\its.size <= sizeLine/\Vals xs its.toList
noncomputable def absV:Value->Option V
 | .none=>some .non
 | .bool b=>some (.bl b)
 | .int i _=>some (.int i)
 | .str x _=>some (.str x)
 | .bytes b _=>some (.byt b)
 | .float b _=>some (.flt b)
 | .ref a=>some (.ref a)
 | .type n=>some (.ty n)
 | _=>none
def RelV.abs{x:V}{u:Value}(r:RelV x u):absV u=some x:=by
 cases x with
 | non=>cases r;rfl
 | bl _=>cases r;rfl
 | int _=>obtain⟨t,rfl⟩:=r;rfl
 | str _=>obtain⟨t,rfl⟩:=r;rfl
 | byt _=>obtain⟨t,rfl⟩:=r;rfl
 | flt _=>obtain⟨t,rfl⟩:=r;rfl
 | ref _=>cases r;rfl
 | ty _=>cases r;rfl
def RelV.inj{x y:V}{u:Value}(r:RelV x u)(q:RelV y u):x=y:=Option.some.inj (r.abs.symm.trans q.abs)
def Vals.inj:∀ {xs ys:List V} {us:List Value},Vals xs us->Vals ys us->xs=ys
 | _,_,_,.nil,.nil=>rfl
 | _,_,_,.cons r t,.cons r' t'=>by rw [r.inj r',Vals.inj t t']
section
variable{X:Cx}{pins:List 'g'}{σ:St}{H:Hp}{s:Shared}{a:Addr}{xs ys:List V}
def SqL.of{K:W.Frag}(h:H a=some (.lst xs)):SqL K H a xs:=.inl (.inl h)
def SqT.of{K:W.Frag}(h:H a=some (.tup xs)):SqT K H a xs:=.inl (.inl h)
def Inv.list(I:Inv X pins σ H s)(h:SqL X.K H a xs):∃ its:List Value,Vals xs its/\PlainL s.heap a its.toArray/\xs.length <= sizeLine:=by
 rcases h with h | ⟨o,its,n,hk,hc,hd,hs,hz,r⟩
 ·obtain⟨z,its,n,r,e⟩:=h.ok I.hok
  exact⟨its,r,⟨_,n,e,rfl,rfl,rfl⟩,z⟩
 ·refine⟨its.toList,r,⟨o,n,I.kIn a o hk,hc,hd,by simpa using hs⟩,?_⟩
  have e:=r.length;simp only [length_toList] at e;omega
def Inv.tupleP(I:Inv X pins σ H s)(h:SqT X.K H a xs):∃ its:List Value,Vals xs its/\qa4k s.heap a its.toArray/\xs.length <= sizeLine:=by
 rcases h with h | ⟨o,its,n,hk,hc,hs,hz,r⟩
 ·obtain⟨z,its,r,p⟩:=h.ok I.hok
  exact⟨its,r,p,z⟩
 ·refine⟨its.toList,r,⟨o,I.kIn a o hk,hc,n,by simpa using hs⟩,?_⟩
  have e:=r.length;simp only [length_toList] at e;omega
def Inv.tuple(I:Inv X pins σ H s)(h:SqT X.K H a xs):∃ its:List Value,Vals xs its/\IsTup s.heap a its.toArray/\xs.length <= sizeLine:=by obtain⟨its,r,p,z⟩:=I.tupleP h;exact⟨its,r,p.tup,z⟩
def Inv.list_inj(I:Inv X pins σ H s)(h:SqL X.K H a xs)(h':SqL X.K H a ys):xs=ys:=by
 obtain⟨its,r,⟨o,n,e,_,_,d⟩,_⟩:=I.list h;obtain⟨its',r',⟨o',n',e',_,_,d'⟩,_⟩:=I.list h';rw [e] at e';cases e';rw [d] at d';injection d' with d1 _
 have:its=its':=by simpa using congrArg Array.toList d1
 subst this;exact r.inj r'
def Inv.tuple_inj(I:Inv X pins σ H s)(h:SqT X.K H a xs)(h':SqT X.K H a ys):xs=ys:=by
 obtain⟨its,r,⟨o,e,_,n,d⟩,_⟩:=I.tuple h;obtain⟨its',r',⟨o',e',_,n',d'⟩,_⟩:=I.tuple h';rw [e] at e';cases e';rw [d] at d';injection d' with d1 _
 have:its=its':=by simpa using congrArg Array.toList d1
 subst this;exact r.inj r'
end
abbrev Cx.wish(X:Cx)(E:Value->Shared->Prop):Cx:={ X with xe:=E }
abbrev Cx.nox(X:Cx):Cx:=X.wish fun _ _=>False
def Cx.Ok.wish{X:Cx}(ok:X.Ok)(E:Value->Shared->Prop):(X.wish E).Ok:=
 ⟨ok.mod,ok.kind,ok.glob,ok.blt,ok.above,ok.inj,ok.has,ok.cab,ok.hd,ok.frames,ok.stk,ok.exf,ok.bs,ok.bsz,ok.noex,ok.exfs,ok.funs,ok.frf⟩
def Cx.Ok.unwish{X:Cx}{E:Value->Shared->Prop}(ok:(X.wish E).Ok):X.Ok:=
 ⟨ok.mod,ok.kind,ok.glob,ok.blt,ok.above,ok.inj,ok.has,ok.cab,ok.hd,ok.frames,ok.stk,ok.exf,ok.bs,ok.bsz,ok.noex,ok.exfs,ok.funs,ok.frf⟩
section
variable{X:Cx}{pins:List 'g'}{σ:St}{H:Hp}{s:Shared}{E:Value->Shared->Prop}
def Inv.wish(I:Inv X pins σ H s)(E:Value->Shared->Prop):Inv (X.wish E) pins σ H s:=⟨I.ok.wish E,I.os,I.bare,I.base,I.loc,I.cell,I.free,I.freeC,I.pin,I.hok,I.len⟩
def Inv.unwish(I:Inv (X.wish E) pins σ H s):Inv X pins σ H s:=⟨I.ok.unwish,I.os,I.bare,I.base,I.loc,I.cell,I.free,I.freeC,I.pin,I.hok,I.len⟩
def SP.unwish{D:Ends}{f:Flow}{s':Shared}(h:SP (X.wish E) pins D f s'):SP X pins D f s':=by
 cases f with
 | next=>obtain⟨σ',H',I,q⟩:=h;exact⟨σ',H',I.unwish,q⟩
 | brk=>obtain⟨σ',H',I,q⟩:=h;exact⟨σ',H',I.unwish,q⟩
 | cont=>obtain⟨σ',H',I,q⟩:=h;exact⟨σ',H',I.unwish,q⟩
 | ret u=>obtain⟨v,σ',H',I,r,q⟩:=h;exact⟨v,σ',H',I.unwish,r,q⟩
def PSs.nox{st:List Stmt}{t:TS}(h:PSs X.nox st t):PSs X st t:=fun pins s σ H D I hw =>
 wpAny_mono (h pins s σ H D (I.wish _) hw) (fun _ _ q=>q.unwish) fun _ _ z=>False.elim z
end
section
variable{X:Cx}{st:Stmt}{rest:List Stmt}{t u:TS}{e:Expr}{te:TE}{pos:Pos}
def tNext:TS:=fun D σ H=>D.nx σ H
def tSeq(t u:TS):TS:=fun D σ H=>t { D with nx:=u D } σ H
def qb0n:PSs X [] tNext:=fun _ _ σ H _ I h=>wpAny_execs_nil ⟨σ,H,I,h⟩
def qa2a(h1:PS X st t)(h2:PSs X rest u):PSs X (st :: rest) (tSeq t u):=by
 intro pins s σ H D I h;refine wpAny_execs_cons (thn (h1 pins s σ H { D with nx:=u D } I h) fun f s1 q=>?_);cases f with
 | next =>
  obtain⟨σ',H',I',q⟩:=q;exact h2 pins s1 σ' H' D I' q
 | ret v=>exact q
 | brk=>exact q
 | cont=>exact q
def qa3u(h1:PS X st t):PSs X [st] t:=by
 intro pins s σ H D I h;refine wpAny_execs_cons (thn (h1 pins s σ H D I h) fun f s1 q=>?_);cases f with
 | next=>exact wpAny_execs_nil q
 | ret v=>exact q
 | brk=>exact q
 | cont=>exact q
def Inv.quiet{pins:List 'g'}{σ:St}{H:Hp}{s:Shared}(I:Inv X pins σ H s):interactive X.env=false:=by simp [interactive,I.ok.kind]
def tDrop(te:TE):TS:=fun D σ H=>te σ H fun _ H1=>D.nx σ H1
def qb7o(he:PE X e te)(hs:swapsWith e none pos.line X.env=pure false:=by rfl):PS X (.Expr e pos) (tDrop te):=by
 intro pins s σ H D I h;exact wpAny_Expr_any (thn (he pins s σ H _ I h) fun v s1 hq8=>by obtain⟨x,H1,I1,r1,q1⟩:=hq8;exact⟨σ,H1,I1,q1⟩) I.quiet hs
def tRet(te:TE):TS:=fun D σ H=>te σ H D.rt
def qa9c(he:PE X e te):PS X (.Return (some e) pos) (tRet te):=by
 intro pins s σ H D I h;exact wpAny_Return_some (thn (he pins s σ H _ I h) fun v s1 hq8=>by obtain⟨x,H1,I1,r1,q1⟩:=hq8;exact⟨x,σ,H1,I1,r1,q1⟩)
def tIfS(c:TT)(t u:TS):TS:=fun D σ H=>c σ H fun b H1=>if b=true then t D σ H1 else u D σ H1
def ps_if{c:Expr}{a b:List Stmt}{tc:TT}(hc:PT X c tc)(ha:PSs X a t)(hb:PSs X b u):PS X (.If c a b pos) (tIfS tc t u):=by
 intro pins s σ H D I h;refine wpAny_If (thn (hc pins s σ H _ I h) fun d s1 hq9=>?_);obtain⟨H1,I1,q1⟩:=hq9;cases d with
 | true=>exact ha pins s1 σ H1 D I1 q1
 | false=>exact hb pins s1 σ H1 D I1 q1
end
abbrev TG:=V->St->Hp->(St->Hp->Prop)->Prop
abbrev TGs:=List V->St->Hp->(St->Hp->Prop)->Prop
def PG(X:Cx)(target:Expr)(t:TG):Prop:=
 ∀ (pins:List 'g') (s:Shared) (σ:St) (H:Hp) (v:V) (u:Value) (Q:St->Hp->Prop),Inv X pins σ H s->RelV v u->t v σ H Q ->
  wpAny (model X.prog X.w) X.A (assign target X.env u) (fun _ s'=>∃ σ' H',Inv X pins σ' H' s'/\Q σ' H') X.xe s
def PGs(X:Cx)(ts:List Expr)(t:TGs):Prop:=
 ∀ (pins:List 'g') (s:Shared) (σ:St) (H:Hp) (vs:List V) (us:List Value) (Q:St->Hp->Prop),Inv X pins σ H s->Vals vs us->t vs σ H Q ->
  wpAny (model X.prog X.w) X.A (assignInOrder ((assignEach ts X.env).map (·.2)) us) (fun _ s'=>∃ σ' H',Inv X pins σ' H' s'/\Q σ' H') X.xe s
abbrev TSet:=V->V->V->Hp->(Hp->Prop)->Prop
def PSet(X:Cx)(t:TSet):Prop:=
 ∀ (pins:List 'g') (s:Shared) (σ:St) (H:Hp) (o i v:V) (ov iv u:Value) (Q:Hp->Prop),Inv X pins σ H s->RelV o ov->RelV i iv->RelV v u->t o i v H Q ->
  wpAny (model X.prog X.w) X.A (setItem ov iv u) (fun _ s'=>∃ H',Inv X pins σ H' s'/\Q H') X.xe s
section
variable{X:Cx}{pos:Pos}
noncomputable def qa3l(i:Nat):TG:=fun v σ H Q=>Q (σ.set i (some v)) H
def qb0o{i:Nat}{x:Str}(hN:X.N.Nodup)(hi:X.N[i]? = some x)(hx:Loc X.env.scope x)(hf:X.fn x=true ∨ X.env.scope.names.lookup x=some .local:=by first | exact .inl rfl | exact .inr rfl | assumption):PG X (.Name x pos) (qa3l i):=by
 intro pins s σ H v u Q I r h;exact wpAny_assign_Name (qb9t I hN hi hx r (fun s' I'=>⟨_,H,I',h⟩) hf)
noncomputable def gNil:TGs:=fun vs σ H Q=>vs=[]/\Q σ H
noncomputable def gCons(t:TG)(u:TGs):TGs:=fun vs σ H Q=>∃ v r,vs=v :: r/\t v σ H fun σ' H'=>u r σ' H' Q
def qc5d:PGs X [] gNil:=by
 intro pins s σ H vs us Q I r h;obtain⟨e,h⟩:=h;subst e;cases r;exact assignInOrder_nil ⟨σ,H,I,h⟩
def qb4t{e:Expr}{es:List Expr}{t:TG}{u:TGs}(h1:PG X e t)(h2:PGs X es u)
  (hs:(assignEach (e :: es) X.env).map (·.2)=assign e X.env :: (assignEach es X.env).map (·.2):=by rfl):PGs X (e :: es) (gCons t u):=by
 intro pins s σ H vs us Q I r h;obtain⟨v,vr,e1,h⟩:=h;subst e1;cases r with
 | cons r rr =>
  rw [hs];refine assignInOrder_cons (thn (h1 pins s σ H _ _ _ I r h) fun _ s1 hq9=>?_);obtain⟨σ1,H1,I1,q1⟩:=hq9;exact h2 pins s1 σ1 H1 _ _ Q I1 rr q1
noncomputable def gTup(K:W.Frag)(n:Nat)(t:TGs):TG:=fun v σ H Q=>∃ a xs,v=.ref a/\SqT K H a xs/\xs.length=n/\t xs σ H Q
def pg_tup{es:List Expr}{k:Nat}{t:TGs}{n:Nat}(hc:X.calm=true)(h:PGs X es t)
  (hn:(assignEach es X.env).length=n:=by rfl) (hst:(assignEach es X.env).findIdx? (·.1)=none:=by rfl):PG X (.Tuple es k pos) (gTup X.K n t):=by
 intro pins s σ H v u Q I r hw;obtain⟨a,xs,e1,hq,hl,hw⟩:=hw;subst e1;cases r;obtain⟨its,rv,ht,hz⟩:=I.tuple hq;refine assign_Tuple_tuple (I.ok.hd hc) ht (by simp [hn,← hl,rv.length]) hst fun h' hx=>?_;have I1:Inv X pins σ H { s with heap:=h' }:=I.kept (t':=s.toks) fun b o e=>hx b o (ne_of_lt (lt_size e)) e;exact h pins _ σ H xs _ Q I1 (by simpa using rv) hw
def gSub(to ti:TE)(t:TSet):TG:=fun v σ H Q=>to σ H fun o H1=>ti σ H1 fun i H2=>t o i v H2 fun H3=>Q σ H3
def pg_sub{o i:Expr}{to ti:TE}{t:TSet}(ho:PE X o to)(hi:PE X i ti)(hs:PSet X t)
  (ha:∀ v,assign (.Subscript o i pos) X.env v=(do
   let ov ← holding [v] (eval o X.env)
   let iv ← holding [v,ov] (eval i X.env)
   standAt pos
   holding [v,ov,iv] (setItem ov iv v)
   release [v,ov,iv] []):=by intro _;rfl):PG X (.Subscript o i pos) (gSub to ti t):=by
 intro pins s σ H v u Q I r h;rw [ha];refine wpAny_bind (wpAny_holding (thn (ho pins s σ H _ I h) fun ov s1 hq9=>?_));obtain⟨x,H1,I1,r1,q1⟩:=hq9;refine wpAny_bind (wpAny_holding (thn (hi pins s1 σ H1 _ I1 q1) fun iv s2 hq9=>?_));obtain⟨y,H2,I2,r2,q2⟩:=hq9;refine wpAny_bind (wpAny_standAt (wpAny_bind (wpAny_holding (thn (hs pins s2 σ H2 x y v ov iv u _ I2 r1 r2 r q2) fun _ s3 hq9=>?_))));obtain⟨H3,I3,q3⟩:=hq9;exact wpAny_release ⟨σ,H3,I3,q3⟩
def tAsg(te:TE)(g:TG):TS:=fun D σ H=>te σ H fun x H1=>g x σ H1 D.nx
def qb9u{tg e:Expr}{te:TE}{g:TG}(he:PE X e te)(hg:PG X tg g)(hs:swapsWithSole [tg] e pos.line X.env=pure false:=by rfl)(hw:swappedStores [tg] e X.env=pure none:=by rfl)
  (h1:(assignEach [tg] X.env).map (·.2)=[assign tg X.env]:=by rfl):PS X (.Assign [tg] e pos) (tAsg te g):=by
 intro pins s σ H D I h;refine wpAny_Assign_stores (thn (he pins s σ H _ I h) fun v s1 hq8=>?_) hs hw;obtain⟨x,H1,I1,r1,q1⟩:=hq8;rw [h1];exact thn (hg pins s1 σ H1 x v _ I1 r1 q1) fun _ s2 q=>q
def qa4l{i:Nat}{x:Str}{e:Expr}{te:TE}{pos':Pos}(hN:X.N.Nodup)(hi:X.N[i]? = some x)(hx:Loc X.env.scope x)(he:PE X e te)(hs:swapsWith e (some (.Name x pos')) pos.line X.env=pure false:=by rfl)(hf:X.fn x=true ∨ X.env.scope.names.lookup x=some .local:=by first | exact .inl rfl | exact .inr rfl | assumption) :
  PS X (.Assign [.Name x pos'] e pos) (tAsg te (qa3l i)):=by
 intro pins s σ H D I h;refine wpAny_Assign_Name (thn (he pins s σ H _ I h) fun v s1 hq8=>?_) hs;obtain⟨y,H1,I1,r1,q1⟩:=hq8;exact qb9t I1 hN hi hx r1 (fun s2 I2=>⟨_,H1,I2,q1⟩) hf
end
structure It where
 go:Nat->Hp->Prop
 yld:Nat->Hp->V->Hp->Prop
 stop:Nat->Hp->Prop
def FpOk(X:Cx)(pins:List 'g')(H:Hp)(b:Addr):Prop:=
 H b=none/\b ≠ X.env.locals/\b ∉ X.fs/\(b ∈ X.ex ∨ X.s₀.heap.objs.size <= b)/\(∀ x c,X.env.cells.lookup x=some c->c ≠ b)/\∀ p ∈ X.pn ++ pins,p.1 ≠ b
def Inv.fpOk{X:Cx}{pins:List 'g'}{σ:St}{H H':Hp}{s:Shared}{b:Addr}(I:Inv X pins σ H s)(hb:s.heap.objs.size <= b)(hn:H' b=none):FpOk X pins H' b:=by
 refine⟨hn,ne_of_gt (lt_of_lt_of_le I.lt hb),I.nofs hb,.inr (le_trans I.sz hb),fun x c e z=>?_,fun p hp z=>?_⟩
 ·obtain⟨v,q⟩:=I.cell x c e
  exact absurd (lt_of_lt_of_le q.lt (by rw [z];exact hb)) (lt_irrefl _)
 ·exact absurd (lt_of_lt_of_le (lt_size (I.pin p hp).1) (by rw [z];exact hb)) (lt_irrefl _)
structure Turn(P:Program)(w:World)(K:W.Frag)(tg:Expr)(J:It)(fp:List Addr)(it:Addr)(tn:Nat->Heap->Prop):Prop where
 mem:it ∈ fp
 obj:∀ i h,tn i h->∀ b ∈ fp,∃ o,h.get? b=some o/\∀ v,o.data ≠ .cell v
 keep:∀ i h h',tn i h->(∀ b ∈ fp,∀ o,h.get? b=some o->h'.get? b=some o)->tn i h'
 item:∀ (X:Cx),X.prog=P->X.w=w->X.K=K->X.calm=true->∀ (i:Nat) (pins:List 'g') (s:Shared) (σ:St) (H:Hp) (E:Value->Shared->Prop),Inv X pins σ H s->(∀ b ∈ fp,FpOk X pins H b)->tn i s.heap->J.go i H ->
  wpAny (model P w) X.A (pyNext (.ref it)) (fun r s1=>∃ u,r=some u /\
   wpAny (model P w) X.A (letOwnedTupleGo tg (.ref it) u) (fun _ s2=>∃ x H',Inv X pins σ H' s2/\RelV x u/\J.yld i H x H'/\tn (i + 1) s2.heap/\∀ b ∈ fp,H' b=none) E s1) E s
 done:∀ (X:Cx),X.prog=P->X.w=w->X.K=K->X.calm=true->∀ (i:Nat) (pins:List 'g') (s:Shared) (σ:St) (H:Hp) (E:Value->Shared->Prop),Inv X pins σ H s->(∀ b ∈ fp,FpOk X pins H b)->tn i s.heap->J.stop i H ->
  wpAny (model P w) X.A (pyNext (.ref it)) (fun r s1=>r=none/\Inv X pins σ H s1) E s
 self:∀ (A:Around) (i:Nat) (s:Shared) (Q:Value->Shared->Prop) (E:Value->Shared->Prop),tn i s.heap->Q (.ref it) s->wpAny (model P w) A (pyIter (.ref it)) Q E s
abbrev TI:=St->Hp->(It->Hp->Prop)->Prop
def PIE(X:Cx)(pins:List 'g')(σ:St)(tg:Expr)(R:It->Hp->Prop)(itv:Value)(s2:Shared):Prop:=
 ∃ (it:Addr) (fp:List Addr) (tn:Nat->Heap->Prop) (J:It) (H':Hp),itv=.ref it/\Inv X pins σ H' s2/\Turn X.prog X.w X.K tg J fp it tn/\tn 0 s2.heap/\(∀ b ∈ fp,FpOk X pins H' b)/\R J H'
def PI(X:Cx)(tg iter:Expr)(wi:TI):Prop:=
 ∀ (pins:List 'g') (s:Shared) (σ:St) (H:Hp) (R:It->Hp->Prop),Inv X pins σ H s->wi σ H R ->
  wpAny (model X.prog X.w) X.A (eval iter X.env) (fun v s1=>wpAny (model X.prog X.w) X.A (pyIter v) (PIE X pins σ tg R) X.xe s1) X.xe s
def go_of{M:Model}{A:Around}{E:Value->Shared->Prop}{s:Shared}{tg:Expr}{it:Addr}{u:Value}{o:Obj}{n:String}{vs:Array Value}{Q:Unit->Shared->Prop}(ho:s.heap.get? it=some o)(hc:o.cls=.type n)(hd:o.data=.fields vs)
  (hn:["enumerate","zip","dict_itemiterator","dict_reverseitemiterator","odict_iterator","itertools.zip_longest","itertools.pairwise"].contains n=false) (hQ:Q () s):wpAny M A (letOwnedTupleGo tg (.ref it) u) Q E s:=by
 unfold letOwnedTupleGo;cases tg<;>first
  | exact wpAny_pure hQ
  | (cases u<;>first
    | exact wpAny_pure hQ
    | (
      refine wpAny_bind (wpAny_load ho ?_);rw [hc,hd];show wpAny M A (if (["enumerate","zip","dict_itemiterator","dict_reverseitemiterator","odict_iterator","itertools.zip_longest","itertools.pairwise"].contains n && vs[0]? == some (rawInt _))=true then _ else _) Q E s;rw [if_neg (by intro h;rw [hn,Bool.false_and] at h;cases h)];exact wpAny_pure hQ))
noncomputable def Itl(K:W.Frag)(a:Addr):It:=
 ⟨fun i H=>∃ xs x,SqL K H a xs/\xs[i]? = some x,fun i H x H'=>H'=H/\∀ xs,SqL K H a xs->xs[i]? = some x,fun i H=>∃ xs,SqL K H a xs/\xs.length <= i⟩
noncomputable def Itt(K:W.Frag)(a:Addr):It:=
 ⟨fun i H=>∃ xs x,SqT K H a xs/\xs[i]? = some x,fun i H x H'=>H'=H/\∀ xs,SqT K H a xs->xs[i]? = some x,fun i H=>∃ xs,SqT K H a xs/\xs.length <= i⟩
noncomputable def Itr(lo:Int)(n:Nat):It:=⟨fun i _=>i < n,fun i H x H'=>H'=H/\x=.int (lo + i),fun i _=>n <= i⟩
def qc9v{P:Program}{w:World}{K:W.Frag}{tg:Expr}(a it:Addr):Turn P w K tg (Itl K a) [it] it (fun i h=>h.IsListIter it a i) where
 mem:=by simp
 obj:=fun i h st b hb=>by
  have e:b=it:=by simpa using hb
  subst e;obtain⟨o,e,c,d⟩:=st;exact⟨o,e,fun v z=>by rw [d] at z;cases z⟩
 keep:=fun i h h' st k=>st.at fun o e=>k it 'h' o e
 item:=by
  intro X hP hw hK hc i pins s σ H E I hf st hg;subst hP hw hK;obtain⟨xs,x,hq,hx⟩:=hg;obtain⟨its,rv,p,hz⟩:=I.list hq;obtain⟨u,hu,ru⟩:=rv.get hx;obtain⟨f0,f1,f2,f3,f4,f5⟩:=hf it 'h';refine wpAny_pyNext_list_item st p.isList (x:=u) (by simpa using hu) fun h' st' sb=>?_;have I1:Inv X pins σ H { s with heap:=h' }:=I.turned (t':=s.toks) (fun b o hb e=>(sb.2 b hb).trans e) f0 f1 f3 f4 f5;obtain⟨o,e,c,d⟩:=id st';exact⟨u,rfl,go_of (s:={ s with heap:=h' }) e c d 'd' ⟨x,H,I1,ru,⟨rfl,fun ys hy=>by rw [I.list_inj hy hq];exact hx⟩,st',fun b hb=>(hf b hb).1⟩⟩
 done:=by
  intro X hP hw hK hc i pins s σ H E I hf st hg;subst hP hw hK;obtain⟨xs,hq,hx⟩:=hg;obtain⟨its,rv,p,hz⟩:=I.list hq;obtain⟨f0,f1,f2,f3,f4,f5⟩:=hf it 'h';have hl:=rv.length;exact wpAny_pyNext_list_end (I.ok.hd hc) st p.isList (by simp;omega) fun h' eb=>⟨rfl,I.turned (t':=s.toks) (fun b o hb e=>eb b o hb e) f0 f1 f3 f4 f5⟩
 self:=fun _ _ _ _ _ st h=>wpAny_pyIter_listiter st h
def qc7j{P:Program}{w:World}{K:W.Frag}{tg:Expr}(a it:Addr):Turn P w K tg (Itt K a) [it] it (fun i h=>h.IsTupleIter it a i) where
 mem:=by simp
 obj:=fun i h st b hb=>by
  have e:b=it:=by simpa using hb
  subst e;obtain⟨o,e,c,d⟩:=st;exact⟨o,e,fun v z=>by rw [d] at z;cases z⟩
 keep:=fun i h h' st k=>st.at fun o e=>k it 'h' o e
 item:=by
  intro X hP hw hK hc i pins s σ H E I hf st hg;subst hP hw hK;obtain⟨xs,x,hq,hx⟩:=hg;obtain⟨its,rv,p,hz⟩:=I.tuple hq;obtain⟨u,hu,ru⟩:=rv.get hx;obtain⟨f0,f1,f2,f3,f4,f5⟩:=hf it 'h';refine wpAny_pyNext_tuple_item st (show s.heap.IsTuple a its.toArray from p) (x:=u) (by simpa using hu) fun h' st' sb=>?_;have I1:Inv X pins σ H { s with heap:=h' }:=I.turned (t':=s.toks) (fun b o hb e=>(sb.2 b hb).trans e) f0 f1 f3 f4 f5;obtain⟨o,e,c,d⟩:=id st';exact⟨u,rfl,go_of (s:={ s with heap:=h' }) e c d 'd' ⟨x,H,I1,ru,⟨rfl,fun ys hy=>by rw [I.tuple_inj hy hq];exact hx⟩,st',fun b hb=>(hf b hb).1⟩⟩
 done:=by
  intro X hP hw hK hc i pins s σ H E I hf st hg;subst hP hw hK;obtain⟨xs,hq,hx⟩:=hg;obtain⟨its,rv,p,hz⟩:=I.tuple hq;obtain⟨f0,f1,f2,f3,f4,f5⟩:=hf it 'h';have hl:=rv.length;exact wpAny_pyNext_tuple_end (I.ok.hd hc) st (show s.heap.IsTuple a its.toArray from p) (by simp;omega) fun h' eb=>⟨rfl,I.turned (t':=s.toks) (fun b o hb e=>eb b o hb e) f0 f1 f3 f4 f5⟩
 self:=fun _ _ _ _ _ st h=>wpAny_pyIter_tupleiter st h
def qc7k{P:Program}{w:World}{K:W.Frag}{tg:Expr}(it:Addr)(lo:Int)(n:Nat):Turn P w K tg (Itr lo n) [it] it (fun i h=>IsRangeIter h it (lo + (i:Nat) * 1) ((n:Int) - (i:Nat)) 1) where
 mem:=by simp
 obj:=fun i h st b hb=>by
  have e:b=it:=by simpa using hb
  subst e;exact⟨_,st,fun v z=>by
   have z':Data.fields _=Data.cell v:=z;cases z'⟩
 keep:=fun i h h' st k=>k it 'h' _ st
 item:=by
  intro X hP hw hK hc i pins s σ H E I hf st hg;subst hP hw hK;obtain⟨f0,f1,f2,f3,f4,f5⟩:=hf it 'h';have W:=Walks.range (prog:=X.prog) (w:=X.w) (I.ok.hd hc) it lo 1 n;refine W.item i s _ _ hg st fun v h' tk hv st' kk=>?_;obtain⟨t,rfl⟩:=hv;have I1:Inv X pins σ H { s with heap:=h',toks:=tk }:=I.turned (fun b o hb e=>kk b o (by simpa using hb) e) f0 f1 f3 f4 f5;refine⟨_,rfl,go_of (s:={ s with heap:=h',toks:=tk }) (n:="range_iterator") st' rfl rfl 'd' ⟨.int (lo + i),H,I1,⟨t,?_⟩,⟨rfl,rfl⟩,st',fun b hb=>(hf b hb).1⟩⟩;rw [Int.mul_one]
 done:=by
  intro X hP hw hK hc i pins s σ H E I hf st hg;subst hP hw hK;obtain⟨f0,f1,f2,f3,f4,f5⟩:=hf it 'h';exact wpAny_pyNext_range_end (I.ok.hd hc) st (by have:n <= i:=hg;omega) fun h' eb=>⟨rfl,I.turned (t':=s.toks) (fun b o hb e=>eb b o hb e) f0 f1 f3 f4 f5⟩
 self:=fun _ _ _ _ _ st h=>wpAny_pyIter_rangeiter st h
end L2
namespace L2
open PySem PySem.Spec PyProof.Rows
section
variable{X:Cx}{tg:Expr}
def qd2n{pins:List 'g'}{σ:St}{H:Hp}{s:Shared}{R:It->Hp->Prop}{E:Value->Shared->Prop}{lo hi:Int}{t u v:Tok}{tk:Nat}(I:Inv X pins σ H s)(h1:-(2 ^ 62) <= lo)(h2:lo < 2 ^ 62)(h3:-(2 ^ 62) <= hi)(h4:hi < 2 ^ 62)
  (q:R (Itr lo (hi - lo).toNat) H):wpAny (model X.prog X.w) X.A (pyIter (.ref s.heap.objs.size)) (PIE X pins σ tg R) E { s with heap:=s.heap.push { cls:=.type "range",data:=.fields #[.int lo t,.int hi u,.int 1 v] },toks:=tk }:=by
 refine wpAny_pyIter_range (IsRange.new ..) (small_one h1 h2 h3 h4) ?_;have I1:Inv X pins σ H { s with heap:=s.heap.push { cls:=.type "range",data:=.fields #[.int lo t,.int hi u,.int 1 v] },toks:=tk }:=I.kept fun b o e=>get?_push_of_some _ e;refine⟨(s.heap.push { cls:=.type "range",data:=.fields #[.int lo t,.int hi u,.int 1 v] }).objs.size,[(s.heap.push { cls:=.type "range",data:=.fields #[.int lo t,.int hi u,.int 1 v] }).objs.size],_,_,H,rfl,
  I1.kept (t':=tk) fun b o e=>get?_push_of_some _ e,qc7k _ lo (hi - lo).toNat,?_,fun b hb=>?_,q⟩
 ·have e1:lo + ((0:Nat):Int) * 1=lo:=by simp
  have e2:(((hi - lo).toNat:Nat):Int) - ((0:Nat):Int)=Builtin.Range.rangeSize lo hi 1:=by rw [rangeSize_one];split<;>omega
  show IsRangeIter _ _ (lo + ((0:Nat):Int) * 1) ((((hi - lo).toNat:Nat):Int) - ((0:Nat):Int)) 1;rw [e1,e2];exact get?_push_size _ rfl
 ·have e:b=(s.heap.push { cls:=.type "range",data:=.fields #[.int lo t,.int hi u,.int 1 v] }).objs.size:=by simpa using hb
  subst e;exact I1.fpOk 'e' (I1.hok.fresh 'e')
def iRng1(ta:TA):TI:=fun σ H R=>ta σ H fun vs H1=>∃ j:Int,vs=[.int j] /\ -(2 ^ 62) <= j/\j < 2 ^ 62/\R (Itr 0 j.toNat) H1
def qc9w{a:Expr}{ta:TA}{p pos:Pos} (hg:Gl X "range") (hm:X.mg "range" = none) (ha:PA X [a] ta) (hs:starEach [a] X.env=[(false,eval a X.env)]:=by rfl):PI X tg (.Call (.Name "range" p) [a] [] pos) (iRng1 ta):=by
 intro pins s σ H R I h;refine Call_ (qa4r I hg hm boot_range (PyProof.Rows.callWith_type1 (thn (ha pos pins s σ H _ I h) fun us s1 hq8=>?_) hs rfl));obtain⟨vs,H1,I1,r1,q1⟩:=hq8;obtain⟨j,e,q1,q2,q⟩:=q1;subst e;cases r1 with
 | cons r rr =>
  cases rr
  obtain⟨t,rfl⟩:=r;exact call_range_1 (qd2n I1 'o' 'o' q1 q2 (by simpa using q))
def tFor(wi:TI)(g:TG)(tb:TS):TS:=fun D σ H=>wi σ H fun J H1=>∃ W:Nat->Nat->St->Hp->Prop,(∃ m,W 0 m σ H1)/\∀ i m σ H,W i m σ H ->
 (J.stop i H/\D.nx σ H) ∨ (J.go i H/\∃ N:St->Hp->Prop,(∀ σ' H',N σ' H'->∃ m',m' < m/\W (i + 1) m' σ' H')/\∀ x H',J.yld i H x H'->g x σ H' fun σ2 H2=>tb { D with nx:=N,ct:=N,bk:=D.nx } σ2 H2)
noncomputable def qb2m(fp:List Addr)(h:Heap):List 'g':=fp.filterMap fun b=>(h.get? b).map fun o=>(b,o)
def qa7y{fp:List Addr}{h:Heap}{b:Addr}{o:Obj}(hb:b ∈ fp)(e:h.get? b=some o):(b,o) ∈ qb2m fp h:=List.mem_filterMap.mpr ⟨b,hb,by rw [e];rfl⟩
def qc9x{fp:List Addr}{h:Heap}{p:Addr × Obj}(hp:p ∈ qb2m fp h):p.1 ∈ fp/\h.get? p.1=some p.2:=by
 obtain⟨b,hb,e⟩:=List.mem_filterMap.mp hp;cases q:h.get? b with
 | none=>rw [q] at e;cases e
 | some o =>
  rw [q] at e;have e':(b,o)=p:=Option.some.inj e;subst e';exact⟨hb,q⟩
def Inv.pinned{pins:List 'g'}{σ:St}{H:Hp}{s:Shared}{fp:List Addr}(I:Inv X pins σ H s)(hf:∀ b ∈ fp,FpOk X pins H b)(ho:∀ b ∈ fp,∃ o,s.heap.get? b=some o/\∀ v,o.data ≠ .cell v):Inv X (pins ++ qb2m fp s.heap) σ H s:=
 I.pins_of fun p hp=>(mem_append.mp hp).elim (fun z=>I.pin p (mem_append_right _ z)) fun z=>by
  obtain⟨hb,e⟩:=qc9x z;obtain⟨f0,f1,f2,_⟩:=hf p.1 hb;obtain⟨o,e',d⟩:=ho p.1 hb;rw [e] at e';cases e';exact⟨e,f0,f1,f2,d⟩
def Inv.unpinned{pins pl:List 'g'}{σ:St}{H:Hp}{s:Shared}(I:Inv X (pins ++ pl) σ H s):Inv X pins σ H s:=I.pins_of fun p hp=>I.pin p (mem_append_right _ (List.mem_append_left _ hp))
def qb5z{iter:Expr}{body:List Stmt}{wi:TI}{g:TG}{tb:TS}{pos:Pos}(hp:PassesOwn (model X.prog X.w) X.A X.env X.xe)(hc:X.calm=true)(hi:PI X tg iter wi)(hg:PG X tg g)(hb:PSs X body tb)
  (hs:∀ x,foldedSetIterable iter X.env x=pure x:=by intro _;rfl):PS X (.For tg iter body [] pos) (tFor wi g tb):=by
 intro pins s σ H D I h;refine wpAny_For (thn (hi pins s σ H _ I h) fun v s1 h1=>thn h1 fun itv s2 h2=>?_) hs;obtain⟨it,fp,tn,J,H2,e,I2,T,st2,f2,W,⟨m0,w0⟩,turn⟩:=h2;subst e
 -- what stays true of the iterator's objects through the loop
 have stat:∀ {H':Hp},(∀ b ∈ fp,H' b=none)->∀ b ∈ fp,FpOk X pins H' b:=fun hn b hb=>⟨hn b hb,(f2 b hb).2⟩;refine codeAny_forLoop_any (fun n s'=>∃ i σ' H',Inv X pins σ' H' s'/\tn i s'.heap/\(∀ b ∈ fp,H' b=none)/\W i n σ' H') ?_ m0 ⟨0,σ,H2,I2,st2,fun b hb=>(f2 b hb).1,w0⟩;rintro n s3 ⟨i,σ3,H3,I3,st3,fr3,w3⟩;rcases turn i n σ3 H3 w3 with⟨stop,qn⟩ | ⟨go,N,hN,step⟩
 ·refine wpAny_passesOwn hp (thn (T.done X rfl rfl rfl hc i pins s3 σ3 H3 X.xe I3 (stat fr3) st3 stop) fun r s4 hq9=>?_)
  obtain⟨hr,I4⟩:=hq9;subst hr;exact wpAny_execs_nil ⟨σ3,H3,I4,qn⟩
 ·refine wpAny_passesOwn hp (thn (T.item X rfl rfl rfl hc i pins s3 σ3 H3 X.xe I3 (stat fr3) st3 go) fun r s4 hq9=>?_)
  obtain⟨u,hr,h4⟩:=hq9;subst hr;refine wpAny_passesOwn hp (thn h4 fun _ s5 hq9=>?_);obtain⟨x,H5,I5,r5,y5,st5,fr5⟩:=hq9;have I5':=I5.pinned (stat fr5) (T.obj _ _ st5);refine wpAny_passesOwn hp (thn (hg _ s5 σ3 H5 x u _ I5' r5 (step x H5 y5)) fun _ s6 hq9=>?_);obtain⟨σ6,H6,I6,q6⟩:=hq9;refine wpAny_passesOwn hp (thn (hb _ s6 σ6 H6 _ I6 q6) fun f s7 q7=>?_);have again:∀ {σ7:St} {H7:Hp},Inv X (pins ++ qb2m fp s5.heap) σ7 H7 s7->N σ7 H7->∃ m,m < n/\∃ i σ' H',Inv X pins σ' H' s7/\tn i s7.heap/\(∀ b ∈ fp,H' b=none)/\W i m σ' H':=fun{σ7 H7} I7 n7=>by
   obtain⟨m',hm,w7⟩:=hN σ7 H7 n7;refine⟨m',hm,i + 1,σ7,H7,I7.unpinned,T.keep _ _ _ st5 fun b hb o e=>(I7.pin (b,o) (mem_append_right _ (mem_append_right _ (qa7y hb e)))).1,fun b hb=>?_,w7⟩;obtain⟨o,e,d⟩:=T.obj _ _ st5 b hb;exact(I7.pin (b,o) (mem_append_right _ (mem_append_right _ (qa7y hb e)))).2.1
  cases f with
  | next=>obtain⟨σ7,H7,I7,n7⟩:=q7;exact again I7 n7
  | cont=>obtain⟨σ7,H7,I7,n7⟩:=q7;exact again I7 n7
  | brk=>obtain⟨σ7,H7,I7,q7⟩:=q7;exact⟨σ7,H7,I7.unpinned,q7⟩
  | ret v=>obtain⟨x7,σ7,H7,I7,r7,q7⟩:=q7;exact⟨x7,σ7,H7,I7.unpinned,r7,q7⟩
end
end L2
namespace L2
open PySem PySem.Spec PyProof.Rows
abbrev R2:=V->V->Hp->VK->Prop
def OpR(X:Cx)(f:Value->Value->Sem Value)(r:R2):Prop:=
 ∀ (pins:List 'g') (s:Shared) (σ:St) (H:Hp) (x y:V) (v u:Value) (Q:VK),Inv X pins σ H s->RelV x v->RelV y u->r x y H Q ->
  wpAny (model X.prog X.w) X.A (f v u) (EP X pins σ Q) X.xe s
def UnR(X:Cx)(f:Value->Sem Value)(r:V->Hp->VK->Prop):Prop:=
 ∀ (pins:List 'g') (s:Shared) (σ:St) (H:Hp) (x:V) (v:Value) (Q:VK),Inv X pins σ H s->RelV x v->r x H Q ->
  wpAny (model X.prog X.w) X.A (f v) (EP X pins σ Q) X.xe s
def qa2e(X:Cx)(f:Value)(r:List V->Hp->VK->Prop):Prop:=
 ∀ (pins:List 'g') (s:Shared) (σ:St) (H:Hp) (xs:List V) (us:List Value) (Q:VK),Inv X pins σ H s->Vals xs us->r xs H Q ->
  wpAny (model X.prog X.w) X.A (call f us) (EP X pins σ Q) X.xe s
def tOp(r:R2)(ta tb:TE):TE:=fun σ H Q=>ta σ H fun x H1=>tb σ H1 fun y H2=>r x y H2 Q
def tUn(r:V->Hp->VK->Prop)(ta:TE):TE:=fun σ H Q=>ta σ H fun x H1=>r x H1 Q
def rI(C:Int->Int->Prop)(g:Int->Int->V):R2:=fun x y H Q=>∃ i j,x=.int i/\y=.int j/\C i j/\Q (g i j) H
def rI0(g:Int->Int->V):R2:=fun x y H Q=>∃ i j,x=.int i/\y=.int j/\Q (g i j) H
noncomputable def rU(g:Int->V):V->Hp->VK->Prop:=fun x H Q=>∃ i,x=.int i/\Q (g i) H
section
variable{X:Cx}{a b c:Expr}{ta tb tc:TE}{pos:Pos}
def binT(ha:PE X a ta)(hb:PE X b tb){pins:List 'g'}{s:Shared}{σ:St}{H:Hp}{R:V->V->Hp->Prop}(I:Inv X pins σ H s)
  (h:ta σ H fun x H1=>tb σ H1 fun y H2=>R x y H2) {Q:Value->Shared->Prop} {f:Value->Value->Sem Value}
  (hf:∀ v u s2 x y H2,Inv X pins σ H2 s2->RelV x v->RelV y u->R x y H2->wpAny (model X.prog X.w) X.A (f v u) Q X.xe s2) :
  wpAny (model X.prog X.w) X.A (eval a X.env) (fun v s₁=>wpAny (model X.prog X.w) X.A (eval b X.env) (fun u s₂=>wpAny (model X.prog X.w) X.A (f v u) Q X.xe s₂) X.xe s₁) X.xe s:=by
 refine thn (ha pins s σ H _ I h) fun v s1 hq9=>?_;obtain⟨x,H1,I1,r1,q1⟩:=hq9;refine thn (hb pins s1 σ H1 _ I1 q1) fun u s2 hq9=>?_;obtain⟨y,H2,I2,r2,q2⟩:=hq9;exact hf v u s2 x y H2 I2 r1 r2 q2
def qa3m{op:Operator}{r:R2}(ho:OpR X (binaryOp op) r)(ha:PE X a ta)(hb:PE X b tb):PE X (.BinOp a op b pos) (tOp r ta tb):=by
 intro pins s σ H Q I h;exact wpAny_BinOp (binT ha hb I h fun v u s2 x y H2 I2 rx ry q=>ho pins s2 σ H2 x y v u Q I2 rx ry q)
def pe_un{op:UnaryOp}{r:V->Hp->VK->Prop}(ho:UnR X (unaryOp op) r)(ha:PE X a ta):PE X (.UnaryOp op a pos) (tUn r ta):=by
 intro pins s σ H Q I h;exact UnaryOp_ (thn (ha pins s σ H _ I h) fun v s1 hq8=>by obtain⟨x,H1,I1,r1,q1⟩:=hq8;exact ho pins s1 σ H1 x v Q I1 r1 q1)
def opI{f:Value->Value->Sem Value}{C:Int->Int->Prop}{g:Int->Int->Int}
  (rule:∀ (i j:Int) (t u:Tok) (s:Shared) (Q:Value->Shared->Prop) (E:Value->Shared->Prop),C i j->Q (.int (g i j) s.toks) { s with toks:=s.toks + 1 }->wpAny (model X.prog X.w) X.A (f (.int i t) (.int j u)) Q E s) :
  OpR X f (rI C fun i j=>.int (g i j)):=by
 intro pins s σ H x y v u Q I rx ry h;obtain⟨i,j,rfl,rfl,hc,q⟩:=h;obtain⟨t,rfl⟩:=rx;obtain⟨t',rfl⟩:=ry;exact rule i j t t' s _ _ hc ⟨.int (g i j),H,I.tok _,⟨_,rfl⟩,q⟩
def opI0{f:Value->Value->Sem Value}{g:Int->Int->Int}
  (rule:∀ (i j:Int) (t u:Tok) (s:Shared) (Q:Value->Shared->Prop) (E:Value->Shared->Prop),Q (.int (g i j) s.toks) { s with toks:=s.toks + 1 }->wpAny (model X.prog X.w) X.A (f (.int i t) (.int j u)) Q E s) :
  OpR X f (rI0 fun i j=>.int (g i j)):=by
 intro pins s σ H x y v u Q I rx ry h;obtain⟨i,j,rfl,rfl,q⟩:=h;obtain⟨t,rfl⟩:=rx;obtain⟨t',rfl⟩:=ry;exact rule i j t t' s _ _ ⟨.int (g i j),H,I.tok _,⟨_,rfl⟩,q⟩
def opB0{f:Value->Value->Sem Value}{g:Int->Int->Bool}
  (rule:∀ (i j:Int) (t u:Tok) (s:Shared) (Q:Value->Shared->Prop) (E:Value->Shared->Prop),Q (.bool (g i j)) s->wpAny (model X.prog X.w) X.A (f (.int i t) (.int j u)) Q E s) :
  OpR X f (rI0 fun i j=>.bl (g i j)):=by
 intro pins s σ H x y v u Q I rx ry h;obtain⟨i,j,rfl,rfl,q⟩:=h;obtain⟨t,rfl⟩:=rx;obtain⟨t',rfl⟩:=ry;exact rule i j t t' s _ _ ⟨.bl (g i j),H,I,rfl,q⟩
def CDiv(i j:Int):Prop:=0 < j/\j < 1073741824
def CPow(i j:Int):Prop:=0 <= j/\j <= 1000000/\i.natAbs < 2 ^ 64
def CMul(i j:Int):Prop:=(-(2 ^ 64) < i/\i < 2 ^ 64) ∨ (-(2 ^ 64) < j/\j < 2 ^ 64)
def CMul.ok{i j:Int}(h:CMul i j):IntMulOk i j:=by
 rcases h with⟨h1,h2⟩ | ⟨h1,h2⟩
 ·exact .of_left (intBits_le_64 h1 h2)
 ·exact .of_right (intBits_le_64 h1 h2)
def qc7l(k:Nat):(0:Int) <= 2 ^ k:=by
 rw [two_pow_cast];exact Int.natCast_nonneg _
def qb6a:OpR X (binaryOp .Add) (rI0 fun i j=>.int (i + j)):=opI0 fun _ _ _ _ _ _ _ q=>add_int q
def qb0p:OpR X (binaryOp .Mult) (rI CMul fun i j=>.int (i * j)):=opI fun _ _ _ _ _ _ _ hc q=>mul_int q hc.ok
def op_fdiv:OpR X (binaryOp .FloorDiv) (rI CDiv fun i j=>.int (i / j)):=opI fun i j _ _ _ _ _ hc q=>by
 have h1:(0:Int) < j:=hc.1;have h2:j < 1073741824:=hc.2;exact floordiv_int 'o' (by rw [Int.fdiv_eq_ediv_of_nonneg i 'o'];exact q) (.inl (PyProof.noPylong_small 'o'))
def qb0q:OpR X (binaryOp .Mod) (rI (fun _ j=>0 < j) fun i j=>.int (i % j)):=opI fun i j _ _ _ _ _ hc q=>by
 have h1:(0:Int) < j:=hc;exact mod_int' 'o' (by rw [Int.fmod_eq_emod_of_nonneg i 'o'];exact q)
def op_pow:OpR X (binaryOp .Pow) (rI CPow fun i j=>.int (i ^ j.toNat)):=opI fun _ _ _ _ _ _ _ hc q=>pow_int_small hc.1 hc.2.1 hc.2.2 q
def op_shr:OpR X (binaryOp .RShift) (rI (fun _ j=>0 <= j) fun i j=>.int (i / 2 ^ j.toNat)):=opI fun i j _ _ _ _ _ hc q =>
 rshift_int hc (by rw [Int.fdiv_eq_ediv_of_nonneg i (qc7l _)];exact q)
def unI{f:Value->Sem Value}{g:Int->Int}
  (rule:∀ (i:Int) (t:Tok) (s:Shared) (Q:Value->Shared->Prop) (E:Value->Shared->Prop),Q (.int (g i) s.toks) { s with toks:=s.toks + 1 }->wpAny (model X.prog X.w) X.A (f (.int i t)) Q E s) :
  UnR X f (rU fun i=>.int (g i)):=by
 intro pins s σ H x v Q I rx h;obtain⟨i,rfl,q⟩:=h;obtain⟨t,rfl⟩:=rx;exact rule i t s _ _ ⟨.int (g i),H,I.tok _,⟨_,rfl⟩,q⟩
def un_neg:UnR X (unaryOp .USub) (rU fun i=>.int (-i)):=unI fun _ _ _ _ _ q=>neg_int q
end
noncomputable def scal:V->V->Bool
 | .non,.non=>true | .non,.int _=>true | .int _,.non=>true | .non,.bl _=>true | .bl _,.non=>true | .non,.str _=>true | .str _,.non=>true
 | .int _,.int _=>true | .bl _,.bl _=>true | .str _,.str _=>true | .byt _,.byt _=>true
 | .int _,.str _=>true | .str _,.int _=>true | .bl _,.str _=>true | .str _,.bl _=>true
 | _,_=>false
def rEq:R2:=fun x y H Q=>scal x y=true/\Q (.bl (decide (x=y))) H
def rNe:R2:=fun x y H Q=>scal x y=true/\Q (.bl (!decide (x=y))) H
def qc5e{i j:Int}:decide (V.int i=V.int j)=(i == j):=by
 rw [Bool.eq_iff_iff];simp
def dec_bl{i j:Bool}:decide (V.bl i=V.bl j)=(i == j):=by
 rw [Bool.eq_iff_iff];simp
def qc5f{i j:Str}:decide (V.str i=V.str j)=(i == j):=by
 rw [Bool.eq_iff_iff];simp
def qc5g{i j:Array UInt8}:decide (V.byt i=V.byt j)=(i.toList == j.toList):=by
 rw [Bool.eq_iff_iff];cases i;cases j;simp
section
variable{X:Cx}{a b c:Expr}{ta tb tc:TE}{pos:Pos}
def qa1j{pins:List 'g'}{σ:St}{H:Hp}{s:Shared}{Q:VK}{k k':Bool}(I:Inv X pins σ H s)(q:Q (.bl k) H)(e:k=k'):EP X pins σ Q (.bool k') s:=by
 subst e;exact⟨.bl k,H,I,rfl,q⟩
def op_eq:OpR X (compareOp .Eq) rEq:=by
 intro pins s σ H x y v u Q I rx ry h;obtain⟨hs,q⟩:=h;cases x with
 | non =>
  cases rx
  cases y with
  | non=>cases ry;exact PySem.EqNone.eq_none_none (qa1j I q 'h')
  | bl j=>cases ry;exact PySem.EqNone.eq_none_bool (qa1j I q 'h')
  | int j=>obtain⟨t',rfl⟩:=ry;exact PySem.EqNone.eq_none_int (qa1j I q 'h')
  | str j=>obtain⟨t',rfl⟩:=ry;exact PySem.EqNone.eq_none_str (qa1j I q 'h')
  | _=>exact absurd (show false=true from hs) Bool.false_ne_true
 | bl i =>
  cases rx
  cases y with
  | non=>cases ry;exact PySem.EqNone.eq_bool_none (qa1j I q 'h')
  | bl j=>cases ry;exact eq_bool (qa1j I q dec_bl)
  | str j=>obtain⟨t',rfl⟩:=ry;exact PySem.EqMixed.eq_bool_str (qa1j I q 'h')
  | _=>exact absurd (show false=true from hs) Bool.false_ne_true
 | int i =>
  obtain⟨t,rfl⟩:=rx;cases y with
  | non=>cases ry;exact PySem.EqNone.eq_int_none (qa1j I q 'h')
  | int j=>obtain⟨t',rfl⟩:=ry;exact eq_int (qa1j I q qc5e)
  | str j=>obtain⟨t',rfl⟩:=ry;exact PySem.EqMixed.eq_int_str (qa1j I q 'h')
  | _=>exact absurd (show false=true from hs) Bool.false_ne_true
 | str i =>
  obtain⟨t,rfl⟩:=rx;cases y with
  | non=>cases ry;exact PySem.EqNone.eq_str_none (qa1j I q 'h')
  | bl j=>cases ry;exact PySem.EqMixed.eq_str_bool (qa1j I q 'h')
  | int j=>obtain⟨t',rfl⟩:=ry;exact PySem.EqMixed.eq_str_int (qa1j I q 'h')
  | str j=>obtain⟨t',rfl⟩:=ry;exact eq_str (qa1j I q qc5f)
  | _=>exact absurd (show false=true from hs) Bool.false_ne_true
 | byt i =>
  obtain⟨t,rfl⟩:=rx;cases y with
  | byt j=>obtain⟨t',rfl⟩:=ry;exact PySem.W.eq_bytes (qa1j I q qc5g)
  | _=>exact absurd (show false=true from hs) Bool.false_ne_true
 | _=>cases y<;>exact absurd (show false=true from hs) Bool.false_ne_true
def op_ne:OpR X (compareOp .NotEq) rNe:=by
 intro pins s σ H x y v u Q I rx ry h;obtain⟨hs,q⟩:=h;cases x with
 | non =>
  cases rx
  cases y with
  | non=>cases ry;exact PySem.EqNone.ne_none_none (qa1j I q 'h')
  | bl j=>cases ry;exact PySem.EqNone.ne_none_bool (qa1j I q 'h')
  | int j=>obtain⟨t',rfl⟩:=ry;exact PySem.EqNone.ne_none_int (qa1j I q 'h')
  | str j=>obtain⟨t',rfl⟩:=ry;exact PySem.EqNone.ne_none_str (qa1j I q 'h')
  | _=>exact absurd (show false=true from hs) Bool.false_ne_true
 | bl i =>
  cases rx
  cases y with
  | non=>cases ry;exact PySem.EqNone.ne_bool_none (qa1j I q 'h')
  | bl j=>cases ry;exact ne_bool (qa1j I q (congrArg not dec_bl))
  | str j=>obtain⟨t',rfl⟩:=ry;exact PySem.EqMixed.ne_bool_str (qa1j I q 'h')
  | _=>exact absurd (show false=true from hs) Bool.false_ne_true
 | int i =>
  obtain⟨t,rfl⟩:=rx;cases y with
  | non=>cases ry;exact PySem.EqNone.ne_int_none (qa1j I q 'h')
  | int j=>obtain⟨t',rfl⟩:=ry;exact ne_int (qa1j I q (congrArg not qc5e))
  | str j=>obtain⟨t',rfl⟩:=ry;exact PySem.EqMixed.ne_int_str (qa1j I q 'h')
  | _=>exact absurd (show false=true from hs) Bool.false_ne_true
 | str i =>
  obtain⟨t,rfl⟩:=rx;cases y with
  | non=>cases ry;exact PySem.EqNone.ne_str_none (qa1j I q 'h')
  | bl j=>cases ry;exact PySem.EqMixed.ne_str_bool (qa1j I q 'h')
  | int j=>obtain⟨t',rfl⟩:=ry;exact PySem.EqMixed.ne_str_int (qa1j I q 'h')
  | str j=>obtain⟨t',rfl⟩:=ry;exact ne_str (qa1j I q (congrArg not qc5f))
  | _=>exact absurd (show false=true from hs) Bool.false_ne_true
 | byt i =>
  obtain⟨t,rfl⟩:=rx;cases y with
  | byt j=>obtain⟨t',rfl⟩:=ry;exact PySem.W.ne_bytes (qa1j I q (congrArg not qc5g))
  | _=>exact absurd (show false=true from hs) Bool.false_ne_true
 | _=>cases y<;>exact absurd (show false=true from hs) Bool.false_ne_true
def op_lt:OpR X (compareOp .Lt) (rI0 fun i j=>.bl (decide (i < j))):=opB0 fun _ _ _ _ _ _ _ q=>lt_int q
def op_le:OpR X (compareOp .LtE) (rI0 fun i j=>.bl (decide (i <= j))):=opB0 fun _ _ _ _ _ _ _ q=>le_int q
def op_gt:OpR X (compareOp .Gt) (rI0 fun i j=>.bl (decide (j < i))):=opB0 fun _ _ _ _ _ _ _ q=>gt_int q
def op_ge:OpR X (compareOp .GtE) (rI0 fun i j=>.bl (decide (j <= i))):=opB0 fun _ _ _ _ _ _ _ q=>ge_int q
def qc9y:OpR X (compareOp .In) (fun x y H Q=>∃ i j,x=.str i/\y=.str j/\Q (.bl (!(Builtin.Str.occurrences j i 0 j.length 1).isEmpty)) H):=by
 intro pins s σ H x y v u Q I rx ry h;obtain⟨i,j,rfl,rfl,q⟩:=h;obtain⟨t,rfl⟩:=rx;obtain⟨t',rfl⟩:=ry;exact in_str (qa1j I q rfl)
def qb6b:OpR X (compareOp .Is) (fun x y H Q=>y=.non/\Q (.bl (decide (x=.non))) H):=by
 intro pins s σ H x y v u Q I rx ry h;obtain⟨rfl,q⟩:=h;cases ry;refine is_none_gen (qa1j I q ?_);cases x<;>first
  | (cases rx;rfl)
  | (obtain⟨t,rfl⟩:=rx;rfl)
def OpR.or{f:Value->Value->Sem Value}{r r':R2}(h:OpR X f r)(h':OpR X f r'):OpR X f (fun x y H Q=>r x y H Q ∨ r' x y H Q):=by
 intro pins s σ H x y v u Q I rx ry q;rcases q with q | q
 ·exact h pins s σ H x y v u Q I rx ry q
 ·exact h' pins s σ H x y v u Q I rx ry q
def qa0u(b:Expr){op:CmpOp}(h:op ≠ .In:=by decide)(h2:op ≠ .NotIn:=by decide):behindInMarks op b=false:=by
 have e1:(op == CmpOp.In)=false:=by cases op<;>first | rfl | exact absurd rfl h
 have e2:(op == CmpOp.NotIn)=false:=by cases op<;>first | rfl | exact absurd rfl h2
 cases b<;>simp [behindInMarks,e1,e2]
def pe_cmpR{op:CmpOp}{r:R2}(ho:OpR X (compareOp op) r)(ha:PE X a ta)(hb:PE X b tb)(hm:behindInMarks op b=false):PE X (.Compare a [op] [b] pos) (tOp r ta tb):=by
 intro pins s σ H Q I h;exact wpAny_Compare1 (binT ha hb I h fun v u s2 x y H2 I2 rx ry q=>ho pins s2 σ H2 x y v u Q I2 rx ry q) hm
def tTest(t:TE):TT:=fun σ H Q=>t σ H fun x H'=>∃ k,x=.bl k/\Q k H'
def qb3v{op:CmpOp}{r:R2}(ho:OpR X (compareOp op) r)(ha:PE X a ta)(hb:PE X b tb)(hm:behindInMarks op b=false):PT X (.Compare a [op] [b] pos) (tTest (tOp r ta tb)):=by
 intro pins s σ H Q I h;refine wpAny_isTrue_Compare1 (thn (ha pins s σ H _ I h) fun v s1 ⟨x,H1,I1,r1,q1⟩=>thn (hb pins s1 σ H1 _ I1 q1) fun u s2 ⟨y,H2,I2,r2,q2⟩ =>
  thn (ho pins s2 σ H2 x y v u _ I2 r1 r2 q2) fun c s3 ⟨z,H3,I3,r3,k,e,q3⟩=>?_) hm
 subst e;cases r3;exact wpAny_truthy_bool ⟨H3,I3,q3⟩
def qb9v(r r':R2)(ta tb tc:TE):TE:=fun σ H Q=>ta σ H fun x H1=>tb σ H1 fun y H2=>r x y H2 fun z H3=>∃ k,z=.bl k /\
 (if k=true then tc σ H3 fun w' H4=>r' y w' H4 Q else Q (.bl false) H3)
def qd2o{op op':CmpOp}{r r':R2}(ho:OpR X (compareOp op) r)(ho':OpR X (compareOp op') r')(ha:PE X a ta)(hb:PE X b tb)(hc:PE X c tc)
  (hm:lastMarks [op,op'] [b,c]=false:=by with_unfolding_all rfl):PE X (.Compare a [op,op'] [b,c] pos) (qb9v r r' ta tb tc):=by
 intro pins s σ H Q I h;refine Compare_chain (thn (ha pins s σ H _ I h) fun v s1 ⟨x,H1,I1,r1,q1⟩=>chain_link (thn (hb pins s1 σ H1 _ I1 q1) fun u s2 ⟨y,H2,I2,r2,q2⟩ =>
  thn (ho pins s2 σ H2 x y v u _ I2 r1 r2 q2) fun d s3 ⟨z,H3,I3,r3,k,e,q3⟩=>?_)) hm
 subst e;cases r3;refine wpAny_truthy_bool ?_;cases k with
 | false=>exact ite_ff ⟨.bl false,H3,I3,rfl,q3⟩
 | true=>exact ite_tt (chain_last (thn (hc pins s3 σ H3 _ I3 q3) fun w' s4 hq8=>by obtain⟨z',H4,I4,r4,q4⟩:=hq8;exact ho' pins s4 σ H4 y z' u w' Q I4 r2 r4 q4))
def qd2p{op op':CmpOp}{r r':R2}(ho:OpR X (compareOp op) r)(ho':OpR X (compareOp op') r')(ha:PE X a ta)(hb:PE X b tb)(hc:PE X c tc)
  (hm:lastMarks [op,op'] [b,c]=false:=by with_unfolding_all rfl):PT X (.Compare a [op,op'] [b,c] pos) (tTest (qb9v r r' ta tb tc)):=by
 intro pins s σ H Q I h;refine isTrue_chain (thn (ha pins s σ H _ I h) fun v s1 ⟨x,H1,I1,r1,q1⟩=>test_link (thn (hb pins s1 σ H1 _ I1 q1) fun u s2 ⟨y,H2,I2,r2,q2⟩ =>
  thn (ho pins s2 σ H2 x y v u _ I2 r1 r2 q2) fun d s3 ⟨z,H3,I3,r3,k,e,q3⟩=>?_)) hm
 subst e;cases r3;refine wpAny_truthy_bool ?_;cases k with
 | false =>
  obtain⟨k',e',q'⟩:=q3;cases e';exact ite_ff ⟨H3,I3,q'⟩
 | true =>
  refine ite_tt (test_last (thn (hc pins s3 σ H3 _ I3 q3) fun w' s4 ⟨z',H4,I4,r4,q4⟩=>thn (ho' pins s4 σ H4 y z' u w' _ I4 r2 r4 q4) fun d' s5 hq9=>?_));obtain⟨z2,H5,I5,r5,k2,e2,q5⟩:=hq9;subst e2;cases r5;exact wpAny_truthy_bool ⟨H5,I5,q5⟩
def qb0r:(sizeLine:Nat) < 2 ^ 63:=by rw [sizeLine_eq];decide
def qc7m:OpR X (binaryOp .Add) (fun x y H Q=>∃ i j,x=.str i/\y=.str j/\i.length + j.length <= sizeLine/\Q (.str (i ++ j)) H):=by
 intro pins s σ H x y v u Q I rx ry h;obtain⟨i,j,rfl,rfl,hz,q⟩:=h;obtain⟨t,rfl⟩:=rx;obtain⟨t',rfl⟩:=ry;exact add_str (fun t' tk=>⟨.str (i ++ j),H,I.tok _,⟨_,rfl⟩,q⟩) hz
def vals1{x:V}{us:List Value}(r:Vals [x] us):∃ u,us=[u]/\RelV x u:=by
 cases r with
 | cons r1 r2=>cases r2;exact⟨_,rfl,r1⟩
end
end L2
namespace L2
open PySem PySem.Spec PyProof.Rows
structure ObjM(h:Heap)(x dx C:Addr)(mA:Str->Option Value):Prop where
 obj:h.get? x=some (PySem.W.instObj C dx)
 ns:h.Ns1 dx mA
 ne:dx ≠ x
def RelO.some_of{v:V}{o:Option Value}(r:RelO (some v) o):∃ u,o=some u/\RelV v u:=by
 cases o with
 | none=>exact(show False from r).elim
 | some u=>exact⟨u,rfl,r⟩
structure Cls(K:W.Frag)(C:Addr):Prop where
 pg:PySem.W.plainGet K C Str.empty=true
 hd:PySem.W.hasDictIn K C=true
 po:PySem.W.plainOver K C=true
 sa:PySem.W.findIn K (.ref C) "__setattr__" = some (some (.builtin "object.__setattr__"))
end L2
namespace L2
open PySem PySem.Spec PyProof.Rows
structure Room(k:Nat)(A:Around):Prop where
 hd:A.handled=none
 dp:A.depth + 3 * k + 5 < recursionLimit
 un:A.units + 16 * k + 200 < cLine
 gd:A.guards=some []
def Room.mono{j k:Nat}{A:Around}(r:Room k A)(h:j <= k):Room j A:=⟨r.hd,by have:=r.dp;omega,by have:=r.un;omega,r.gd⟩
def Room.deeper{k:Nat}{A:Around}(r:Room (k + 1) A)(env:Env):Room k (A.deeper env):=
 ⟨r.hd,by have:=r.dp;show A.depth + 1 + 3 * k + 5 < _;omega,by have:=r.un;show A.units + 3 + 16 * k + 200 < _;omega,r.gd⟩
def Room.depth{k:Nat}{A:Around}(r:Room k A):A.depth < recursionLimit:=by have:=r.dp;omega
def Room.units{k:Nat}{A:Around}(r:Room k A):A.units + 64 < cLine:=by have:=r.un;omega
def tNil:TA:=fun _ H Q=>Q [] H
def qa3f(ta:TE)(tr:TA):TA:=fun σ H Q=>ta σ H fun x H1=>tr σ H1 fun xs H2=>Q (x :: xs) H2
section
variable{X:Cx}{e:Expr}{es:List Expr}{te:TE}{t:TA}{pos:Pos}
def qa2j:PA X [] tNil:=fun _ _ _ _ H Q I h=>spliced_nil ⟨[],H,I,.nil,h⟩
def qa1f(ha:PE X e te)(hr:PA X es t)(hs:starEach (e :: es) X.env=(false,eval e X.env) :: starEach es X.env:=by rfl):PA X (e :: es) (qa3f te t):=by
 intro pos pins s σ H Q I h;rw [hs];show wpAny _ _ (spliced ((false,eval e X.env) :: backTo pos (starEach es X.env))) _ _ s;refine spliced_cons (thn (ha pins s σ H _ I h) fun u s1 hq9=>?_);obtain⟨x,H1,I1,r1,q1⟩:=hq9;exact thn (hr pos pins s1 σ H1 _ I1 q1) fun us s2 hq8=>by obtain⟨xs,H2,I2,r2,q2⟩:=hq8;exact⟨x :: xs,H2,I2,.cons r1 r2,q2⟩
def tTup(t:TA):TE:=fun σ H Q=>t σ H fun xs H1=>xs.length <= sizeLine/\∀ p,H1 p=none->Q (.ref p) (upd H1 p (.tup xs))
def tLst(t:TA):TE:=fun σ H Q=>t σ H fun xs H1=>xs.length <= sizeLine/\∀ p,H1 p=none->Q (.ref p) (upd H1 p (.lst xs))
def pe_tup{x1}(h:PA X es t):PE X (.Tuple es x1 pos) (tTup t):=by
 intro pins s σ H Q I hq;refine wpAny_Tuple_spliced (thn (h pos pins s σ H _ I hq) fun us s1 ⟨xs,H1,I1,r,z,q⟩=>⟨by rw [← r.length];exact z,?_⟩);have hf:H1 s1.heap.objs.size=none:=I1.hok.fresh 'e';refine⟨.ref s1.heap.objs.size,upd H1 s1.heap.objs.size (.tup xs),I1.laid (t':=s1.toks) (fun b u e=>get?_push_of_some _ e) 'e' ?_,rfl,q _ hf⟩;exact⟨z,us,r,⟨_,get?_push_size _ rfl,⟨rfl,rfl⟩,_,rfl⟩⟩
def qb9w(h:PA X es t):PE X (.List es pos) (tLst t):=by
 intro pins s σ H Q I hq;refine wpAny_List_spliced (thn (h pos pins s σ H _ I hq) fun us s1 ⟨xs,H1,I1,r,z,q⟩=>⟨by rw [← r.length];exact z,?_⟩);have hf:H1 s1.heap.objs.size=none:=I1.hok.fresh 'e';refine⟨.ref s1.heap.objs.size,upd H1 s1.heap.objs.size (.lst xs),I1.laid (t':=s1.toks) (fun b u e=>get?_push_of_some _ e) 'e' ?_,rfl,q _ hf⟩;exact⟨z,us,0,r,get?_push_size _ rfl⟩
end
abbrev Sp:=List V->Hp->VK->XK->Prop
abbrev CXT:=List Env->Hp->Shared->XK->Value->Shared->Prop
structure Env0(P:Program)(w:World)(K:W.Frag)(mg:Str->Option Value)(base:Heap)(A:Around)(outer:List Env)(s:Shared)(H:Hp):Prop where
 frames:A.frames=some outer
 mod:Mod K mg base
 bs:∀ b o,base.get? b=some o->s.heap.get? b=some o/\H b=none
 bsz:base.objs.size <= s.heap.objs.size
 funs:s.heap.FunFrames base outer
 frf:∀ b ∈ frs outer,H b=none
 hok:HOk P w H s.heap
 bare:AllBare s.gens
def CE(outer:List Env)(P:Program)(w:World)(H:Hp)(s:Shared)(Q:VK)(u:Value)(s':Shared):Prop:=
 ∃ v H',s'.os=s.os/\AllBare s'.gens/\Un (frs outer) [] H H' s.heap s'.heap/\HOk P w H' s'.heap/\RelV v u/\Q v H'
def CR(CX:CXT)(outer:List Env)(P:Program)(w:World)(H:Hp)(s:Shared)(Q:VK)(E:XK)(r:Result)(s':Shared):Prop:=
 match r with
 | .ok (.ret u)=>CE outer P w H s Q u s'
 | .ok _=>False
 | .error e=>CX outer H s E e s'
structure FnOk(P:Program)(w:World)(K:W.Frag)(mg:Str->Option Value)(base:Heap)(CX:CXT)(k:Nat)(f:Addr)(fd:FuncData)(ps:List Str)(sp:Sp):Prop where
 len:∀ vs H Q E,sp vs H Q E->vs.length=ps.length
 run:∀ (A:Around) (outer:List Env) (s:Shared) (H:Hp) (args:Args) (us:List Value) (vs:List V) (Q:VK) (E:XK),Room k A->Env0 P w K mg base A outer s H->BindsTo s fd args (ps.zip us)->Vals vs us->sp vs H Q E ->
  codeAny (model P w) A (.call (.ref f) args) (CR CX outer P w H s Q E) s
def FnOk.mono{P:Program}{w:World}{K:W.Frag}{mg:Str->Option Value}{base:Heap}{CX:CXT}{j k:Nat}{f:Addr}{fd:FuncData}{ps:List Str}{sp:Sp}(F:FnOk P w K mg base CX j f fd ps sp)(h:j <= k) :
  FnOk P w K mg base CX k f fd ps sp:=⟨F.len,fun A outer s H args us vs Q E hr=>F.run A outer s H args us vs Q E (hr.mono h)⟩
section
variable{X:Cx}{pins:List 'g'}{σ:St}{H:Hp}{s s':Shared}
def Inv.env0(I:Inv X pins σ H s):Env0 X.prog X.w X.K X.mg X.base X.A X.stack s H:=
 ⟨I.ok.frames,I.ok.mod,I.bs,le_trans I.ok.bsz I.sz,I.stack,I.stkFree,I.hok,I.bare⟩
def Inv.after{Q:VK}{u:Value}(I:Inv X pins σ H s)(h:CE X.stack X.prog X.w H s Q u s'):EP X pins σ Q u s':=by
 obtain⟨v,H',os,bare,un,hok,r,q⟩:=h;obtain⟨hh,g,d,t,os'⟩:=s';obtain rfl:os'=s.os:=os;exact⟨v,H',I.call (h':=hh) (g':=g) (d':=d) (t':=t) (ch:=[]) un hok bare (fun b z=>absurd z 'h'),r,q⟩
end
def tCall(sp:Sp)(dvs:List V)(E:XK)(t:TA):TE:=fun σ H Q=>t σ H fun vs H1=>sp (vs ++ dvs) H1 Q E
def Binds(K:W.Frag)(fd:FuncData)(ps:List Str)(ds:List Value):Prop:=
 ∀ (s:Shared) (us:List Value),K.In s.heap->(us ++ ds).length=ps.length->BindsTo s fd ⟨us,[]⟩ (ps.zip (us ++ ds))
def Binds.all{K:W.Frag}{fd:FuncData}{ps:List Str}(h:∀ us:List Value,us.length=ps.length->bindArgs fd ⟨us,[]⟩=pure (ps.zip us)):Binds K fd ps []:=fun s us _ hl=>by
 rw [append_nil] at hl ⊢;exact .of_eq (h us hl)
def qb9x(CX:CXT)(X:Cx)(E:XK):Prop:=∀ (pins:List 'g') (σ:St) (H:Hp) (s:Shared) (e:Value) (s':Shared),Inv X pins σ H s->CX X.stack H s E e s'->X.xe e s'
section
variable{X:Cx}{CX:CXT}{k:Nat}{f C:Addr}{fd:FuncData}{ps:List Str}{sp:Sp}{dvs:List V}{ds:List Value}{E:XK}{x m:Str}{p pos apos:Pos}{e o:Expr}{es:List Expr}{ta:TE}{t:TA}
def run_fn{pins:List 'g'}{σ:St}{H:Hp}{s:Shared}{Q:VK}{us:List Value}{vs:List V}(F:FnOk X.prog X.w X.K X.mg X.base CX k f fd ps sp)(hr:Room k X.A)(hb:Binds X.K fd ps ds)(hd:Vals dvs ds)(hx:qb9x CX X E)
  (I:Inv X pins σ H s) (r:Vals vs us) (h:sp (vs ++ dvs) H Q E):wpAny (model X.prog X.w) X.A (call (.ref f) us) (EP X pins σ Q) X.xe s:=by
 have r2:Vals (vs ++ dvs) (us ++ ds):=r.append hd;have hl:(us ++ ds).length=ps.length:=by rw [← r2.length];exact F.len _ _ _ _ h
 refine wpAny_call (codeAny_mono (F.run X.A X.stack s H ⟨us,[]⟩ (us ++ ds) (vs ++ dvs) Q E hr I.env0 (hb s us I.kIn hl) r2 h) fun r s' hq=>?_);cases r with
 | error e=>exact hx pins σ H s e s' I hq
 | ok fl =>
  cases fl with
  | ret u=>exact I.after hq
  | next=>exact False.elim hq
  | brk=>exact False.elim hq
  | cont=>exact False.elim hq
def pe_call(F:FnOk X.prog X.w X.K X.mg X.base CX k f fd ps sp)(hr:Room k X.A)(hg:Gl X x)(hm:X.mg x=some (.ref f))(hk:PySem.W.keepIn X.K (.ref f)=true)(hb:Binds X.K fd ps ds)(hd:Vals dvs ds)(hx:qb9x CX X E)
  (ha:PA X (e :: es) t) (hdb:(x == ("__debug__" : Str))=false:=by decide) (he:starEach (e :: es) X.env=(false,eval e X.env) :: starEach es X.env:=by rfl) (hpl:(backTo pos (starEach es X.env)).any (·.1)=false:=by rfl) :
  PE X (.Call (.Name x p) (e :: es) [] pos) (tCall sp dvs E t):=by
 intro pins s σ H Q I h;refine wpAny_Call_Name_kw (qc5c I hg hm ?_ hdb);refine PySem.W.callWith_K (h₀:=X.base) I.ok.mod.kin hk (thn (ha pos pins s σ H _ I h) fun us s1 ⟨vs,H1,I1,r,q⟩=>⟨I1.kIn,?_⟩) he hpl;exact run_fn F hr hb hd hx I1 r q
end
section
variable{X:Cx}{CX:CXT}{k:Nat}{f C:Addr}{fd:FuncData}{ps ks:List Str}{sp:Sp}{E:XK}{x m:Str}{p pos apos kpos:Pos}{e o:Expr}{es:List Expr}{kws:List Keyword}{te ta:TE}{t tk:TA}{nm:Option Str}
variable{g:List Value->List Value->List Value}{gV:List V->List V->List V}
end
structure FnScope(N P:List Str)(sc:Scope):Prop where
 kind:sc.kind=.function
 co:sc.isCoroutine=false
 gen:sc.isGenerator=false
 nd:N.Nodup
 pre:N.take P.length=P
 par:∀ x ∈ P,sc.names.lookup x=some .local ∨ sc.names.lookup x=some .cell
 nofree:∀ y ∈ sc.names,y.2 ≠ .free
def qb8l{kindOf:Str->Option NameKind}{x:Str}:∀ {binds:List (Str × Value)} {m:Str->Option Value},(∀ v,(x,v) ∉ binds)->bindL kindOf binds m x=m x
 | [],_,_=>rfl
 | (n,v) :: r,m,h=>by
  unfold bindL;rw [qb8l fun w hw=>h w (mem_cons_of_mem _ hw)];split
  ·have:x ≠ n:=by rintro rfl;exact h v mem_cons_self
   simp [this]
  ·rfl
def qb8m{kindOf:Str->Option NameKind}{x:Str}:∀ {binds:List (Str × Value)} {m:Str->Option Value},(∀ v,(x,v) ∉ binds)->bindC kindOf binds m x=m x
 | [],_,_=>rfl
 | (n,v) :: r,m,h=>by
  unfold bindC;rw [qb8m fun w hw=>h w (mem_cons_of_mem _ hw)];split
  ·rfl
  ·have:x ≠ n:=by rintro rfl;exact h v mem_cons_self
   simp [this]
def qb8n{kindOf:Str->Option NameKind}{x:Str}{v:Value}:∀ {P:List Str} {vs:List Value} {i:Nat} {m:Str->Option Value},P.Nodup->P[i]? = some x->vs[i]? = some v->kindOf x=some .local ->
  bindL kindOf (P.zip vs) m x=some v
 | [],_,_,_,_,h,_,_=>by simp at h
 | _ :: _,[],_,_,_,_,h,_=>by simp at h
 | p :: P,w :: vs,0,m,nd,h1,h2,hk=>by
  simp at h1 h2;subst h1;subst h2
  show bindL kindOf ((p,w) :: P.zip vs) m p=_;unfold bindL;rw [qb8l fun v hv=>(nodup_cons.mp nd).1 (List.of_mem_zip hv).1,if_pos hk];simp
 | p :: P,w :: vs,i + 1,m,nd,h1,h2,hk=>by
  show bindL kindOf ((p,w) :: P.zip vs) m x=_;unfold bindL;exact qb8n (i:=i) (nodup_cons.mp nd).2 (by simpa using h1) (by simpa using h2) hk
def qb8o{kindOf:Str->Option NameKind}{x:Str}{v:Value}:∀ {P:List Str} {vs:List Value} {i:Nat} {m:Str->Option Value},P.Nodup->P[i]? = some x->vs[i]? = some v->kindOf x ≠ some .local ->
  bindC kindOf (P.zip vs) m x=some v
 | [],_,_,_,_,h,_,_=>by simp at h
 | _ :: _,[],_,_,_,_,h,_=>by simp at h
 | p :: P,w :: vs,0,m,nd,h1,h2,hk=>by
  simp at h1 h2;subst h1;subst h2
  show bindC kindOf ((p,w) :: P.zip vs) m p=_;unfold bindC;rw [qb8m fun v hv=>(nodup_cons.mp nd).1 (List.of_mem_zip hv).1,if_neg hk];simp
 | p :: P,w :: vs,i + 1,m,nd,h1,h2,hk=>by
  show bindC kindOf ((p,w) :: P.zip vs) m x=_;unfold bindC;exact qb8o (i:=i) (nodup_cons.mp nd).2 (by simpa using h1) (by simpa using h2) hk
noncomputable def start(N:List Str)(vs:List V):St:=vs.map some ++ List.replicate (N.length - vs.length) none
noncomputable def cxOf(CX:CXT)(P:Program)(w:World)(K:W.Frag)(mg:Str->Option Value)(base:Heap)(N:List Str)(qual:Str)(scope:Scope)(f:Addr)(cd:Value)(A:Around)(outer:List Env)(s:Shared)(H:Hp)(E:XK):Cx where
 prog:=P
 w:=w
 K:=K
 mg:=mg
 base:=base
 A:=A.deeper (envOfC qual scope s.heap.objs.size f cd)
 N:=N
 s₀:=s
 H₀:=H
 env:=envOfC qual scope s.heap.objs.size f cd
 outer:=outer
 stack:=envOfC qual scope s.heap.objs.size f cd :: outer
 ex:=[]
 calm:=true
 fn:=fun _=>true
 pn:=[]
 xe:=fun e s'=>wpAny (model P w) (A.deeper (envOfC qual scope s.heap.objs.size f cd)) (leaving (envOfC qual scope s.heap.objs.size f cd) e) (fun _ s''=>CX outer H s E e s'') (fun e' s''=>CX outer H s E e' s'') s'
def qb9y{sc:Scope}{n:Nat}{x:Str}(h:sc.names.lookup x=some .cell):∃ c,(cellsFrom n sc.names []).lookup x=some c:=by
 have q:=PySem.W.cellsFrom_some sc.names n [] (.inl h);exact isSome_iff_exists.mp q
def qc9z{CX:CXT}{P:Program}{w:World}{K:W.Frag}{mg:Str->Option Value}{base:Heap}{N ps:List Str}{qual:Str}{scope:Scope}{f:Addr}{cd:Value}{A:Around}{outer:List Env}{s s1:Shared}{H:Hp}{E:XK}{us:List Value}{vs:List V}
  (S:FnScope N ps scope) (hd:A.handled=none) (e0:Env0 P w K mg base A outer s H) (hl:vs.length=ps.length) (r:Vals vs us)
  (x:InCallC s s.heap.objs.size (bindL (envOfC qual scope s.heap.objs.size f cd).kindOf (ps.zip us) fun _=>none) (cellsFrom (s.heap.objs.size + 1) scope.names []) (bindC (envOfC qual scope s.heap.objs.size f cd).kindOf (ps.zip us) fun _=>none) s1) :
  Inv (cxOf CX P w K mg base N qual scope f cd A outer s H E) [] (start N vs) H s1:=by
 have hpl:ps.length <= N.length:=by have:=congrArg List.length S.pre;rw [length_take] at this;omega
 obtain⟨h1,tk,rfl,hk⟩:=x.done;have noA:∀ b:Addr,b ∉ (cxOf CX P w K mg base N qual scope f cd A outer s H E).ex:=fun b z=>absurd (show b ∈ ([]:List Addr) from z) 'h';refine⟨⟨e0.mod,S.kind,rfl,rfl,le_refl _,fun y z c h1 h2=>?_,fun y hy=>?_,fun y c _ h=>?_,fun _=>hd,Around.frames_deeper e0.frames,.inr ⟨rfl,rfl⟩,fun b z=>absurd z (noA b),e0.bs,e0.bsz,fun b _ _=>noA b,fun b z=>absurd z (noA b),e0.funs,e0.frf⟩,
  rfl,e0.bare,Un.kept hk,⟨_,x.toInCall.ns,fun i y v h1 h2 h3=>?_⟩,fun y c h=>⟨_,x.cell y c h⟩,e0.hok.fresh 'e',fun y c h=>?_,fun p hp=>absurd (show p ∈ ([]:List 'g') from hp) 'h',e0.hok.kept hk,?_⟩
 ·exact name_of_addr x.apart (PySem.mem_of_lookup h1) (PySem.mem_of_lookup h2)
 ·have hy:scope.names.lookup y=some .cell ∨ scope.names.lookup y=some .free:=hy
  rcases hy with hy | hy
  ·exact qb9y hy
  ·exact absurd rfl (S.nofree _ (PySem.mem_of_lookup hy))
 ·exact le_of_lt (x.above y c (PySem.mem_of_lookup h))
 ·have hi:i < vs.length:=by
   unfold start at h2;by_cases hi:i < vs.length
   ·exact hi
   ·rw [getElem?_append_right (by simpa using hi)] at h2
    rw [List.getElem?_replicate] at h2;split at h2<;>cases h2
  have ha:vs[i]? = some v:=by
   unfold start at h2;rw [List.getElem?_append_left (by simpa using hi),getElem?_map] at h2;cases e:vs[i]? with
   | none=>rw [e] at h2;cases h2
   | some a=>rw [e] at h2;cases h2;rfl
  obtain⟨u,hu,rv⟩:=r.get ha;have hp:ps[i]? = some y:=by
   rw [← S.pre,List.getElem?_take_of_lt 'o'];exact h1
  have ndP:ps.Nodup:=by rw [← S.pre];exact S.nd.sublist (List.take_sublist _ _)
  refine⟨u,rv,?_⟩;rcases S.par y (mem_of_getElem? hp) with k | k
  ·exact .inl ⟨k,qb8n ndP hp hu k⟩
  ·obtain⟨c,e⟩:=qb9y (n:=s.heap.objs.size + 1) k
   refine .inr ⟨.inl k,c,e,?_⟩;have q:=x.cell y c e;rw [qb8o ndP hp hu (by show scope.names.lookup y ≠ _;rw [k];decide)] at q;exact q
 ·exact e0.hok.fresh (le_of_lt (x.above y c (PySem.mem_of_lookup h)))
 ·unfold start
  show _=N.length;rw [length_append,length_map,length_replicate];omega
def fn_of{CX:CXT}{P:Program}{w:World}{K:W.Frag}{mg:Str->Option Value}{base:Heap}{k:Nat}{f:Addr}{name qual:Str}{params:Arguments}{body:List Stmt}{scope:Scope}{dV kV doc pm cdv ct oc:Value}{an od:Option Addr}
  {osl:Array (Option Value)} {N ps:List Str} {sp:Sp} (lk:K.lookup f=some ⟨oc,od,.func (PySem.W.fnOf name qual params body scope dV kV doc pm an cdv ct),osl⟩) (hcd:PySem.W.codeIn K cdv qual=true) (S:FnScope N ps scope)
  (len:∀ vs H Q E,sp vs H Q E->vs.length=ps.length)
  (hbody:∀ (A:Around) (outer:List Env) (s:Shared) (H:Hp) (vs:List V) (Q:VK) (E:XK),Room k (A.deeper (envOfC qual scope s.heap.objs.size f cdv))->sp vs H Q E ->
   ∃ t,PSs (cxOf CX P w K mg base N qual scope f cdv A outer s H E) body t/\t { nx:=fun _ H'=>Q .non H',rt:=Q } (start N vs) H) :
  FnOk P w K mg base CX (k + 1) f (PySem.W.fnOf name qual params body scope dV kV doc pm an cdv ct) ps sp:=by
 refine⟨len,fun A outer s H args us vs Q E hr e0 hb r hsp=>?_⟩;have hl:=len _ _ _ _ hsp;have KX:K.In s.heap:=e0.mod.kin.keeps fun b o e=>(e0.bs b o e).1;have lim:s.heap.NoLimit:=e0.mod.nolimit.keeps fun b o e=>(e0.bs b o e).1;have hkind:∀ y ∈ ps.zip us,scope.names.lookup y.1=some .local ∨ (scope.names.lookup y.1=some .cell/\((cellsFrom (s.heap.objs.size + 1) scope.names []).lookup y.1).isSome=true):=fun⟨n,v⟩ hy=>by
  rcases S.par n (List.of_mem_zip hy).1 with q | q
  ·exact .inl q
  ·exact .inr ⟨q,PySem.W.cellsFrom_some _ _ _ (.inl q)⟩
 refine codeAny_call_function hr.depth (KX _ _ lk) rfl S.co S.gen rfl (PySem.W.codeRec_of KX hcd) (hb _ _ _ _ ?_);refine wpAny_newFunctionEnv_cells S.kind hkind fun env he s1 x=>?_;subst he;refine⟨lim.keeps x.toInCall.keep,codeAny_func ?_⟩;obtain⟨t,ht,hq⟩:=hbody A outer s H vs Q E (hr.deeper _) hsp;have I:Inv (cxOf CX P w K mg base N qual scope f cdv A outer s H E) [] (start N vs) H s1:=qc9z S hr.hd e0 hl r x;refine wpAny_mono (ht [] s1 (start N vs) H _ I hq) (fun fl s' hs=>?_) fun e s' hs=>hs;have fin:∀ {σ':St} {H':Hp} {v:V} {u:Value},Inv (cxOf CX P w K mg base N qual scope f cdv A outer s H E) [] σ' H' s'->RelV v u->Q v H'->CE outer P w H s Q u s':=
  fun{σ' H' v u} J rv q=>⟨v,H',J.os,J.bare,J.base,J.hok,rv,q⟩
 cases fl with
 | ret u =>
  obtain⟨v,σ',H',J,rv,q⟩:=hs;exact fin J rv q
 | next =>
  obtain⟨σ',H',J,q⟩:=hs;exact fin (v:=V.non) (u:=Value.none) J rfl q
 | brk =>
  obtain⟨_,_,_,q⟩:=hs;exact False.elim q
 | cont =>
  obtain⟨_,_,_,q⟩:=hs;exact False.elim q
end L2
namespace L2
open PySem PySem.Spec PyProof.Rows
section
variable{X:Cx}{x:Str}{p pos:Pos}{e:Expr}{es:List Expr}{t:TA}{id T:String}{r:List V->Hp->VK->Prop}
def tCB(r:List V->Hp->VK->Prop)(t:TA):TE:=fun σ H Q=>t σ H fun vs H1=>r vs H1 Q
def qa5l(hc:qa2e X (.builtin id) r)(hg:Gl X x)(hm:X.mg x=none)(hv:bootBuiltins x=some (.builtin id))(ha:PA X (e :: es) t) (hn:x ≠ "__name__":=by decide) (hdb:(x == ("__debug__" : Str))=false:=by decide)
  (he:starEach (e :: es) X.env=(false,eval e X.env) :: starEach es X.env:=by rfl) (hpl:(backTo pos (starEach es X.env)).any (·.1)=false:=by rfl):PE X (.Call (.Name x p) (e :: es) [] pos) (tCB r t):=by
 intro pins s σ H Q I h;refine wpAny_Call_Name_kw (qa4r I hg hm hv ?_ hn hdb);exact PyProof.Rows.callWith_builtin1 (thn (ha pos pins s σ H _ I h) fun us s1 hq8=>by obtain⟨vs,H1,I1,r1,q1⟩:=hq8;exact hc pins s1 σ H1 vs us Q I1 r1 q1) he hpl
def qa7l(hc:qa2e X (.type T) r)(hg:Gl X x)(hm:X.mg x=none)(hv:bootBuiltins x=some (.type T))(ha:PA X (e :: es) t) (hn:x ≠ "__name__":=by decide) (hdb:(x == ("__debug__" : Str))=false:=by decide)
  (he:starEach (e :: es) X.env=(false,eval e X.env) :: starEach es X.env:=by rfl) (hpl:(backTo pos (starEach es X.env)).any (·.1)=false:=by rfl):PE X (.Call (.Name x p) (e :: es) [] pos) (tCB r t):=by
 intro pins s σ H Q I h;refine wpAny_Call_Name_kw (qa4r I hg hm hv ?_ hn hdb);exact PyProof.Rows.callWith_type1 (thn (ha pos pins s σ H _ I h) fun us s1 hq8=>by obtain⟨vs,H1,I1,r1,q1⟩:=hq8;exact hc pins s1 σ H1 vs us Q I1 r1 q1) he hpl
end
end L2
namespace HT
open PySem PyProof.Rows
section
open PySem.SeqAt
open PySem.AutoSeq1 (wpAny_loadPart')
open PySem.MeetsSeq PySem.MeetsSeq2 PySem.MeetsSeq3
end
section
variable{prog:Program}{w:World}{A:Around}{E:Value->Shared->Prop}{s:Shared}
def cat_tup{t b:Addr}{vs ws:List Value}{Q:Value->Shared->Prop}(ht:IsTup s.heap t vs.toArray)(hb:IsTup s.heap b ws.toArray)(hv:vs ≠ [])
  (h1:ws=[]->Q (.ref t) s) (h2:ws ≠ []->Q (.ref s.heap.objs.size) { s with heap:=s.heap.push { cls:=.type "tuple",data:=.seq (vs ++ ws).toArray } })
  (hsz:vs.length + ws.length <= sizeLine):wpAny (model prog w) A (binaryOp .Add (.ref t) (.ref b)) Q E s:=by
 obtain⟨⟨cls,dd,data,sl⟩,ho,hc,n,hd⟩:=id ht;obtain⟨⟨cls2,dd2,data2,sl2⟩,ho2,hc2,n2,hd2⟩:=id hb;simp only at hc hd hc2 hd2;subst hc hd hc2 hd2;have e:vs.toArray ++ ws.toArray=(vs ++ ws).toArray:=by simp
 by_cases hw:ws=[]
 ·exact concat_meets ⟨_,ho,rfl⟩ ⟨_,ho2,rfl⟩ noFill_tuple_add seq_tuple_add PySem.F.slot_tuple_add PySem.F.entry_tuple_add (PySem.F.args_tuple_add_2 _ _)
   (tuple_addW1 t b vs.toArray ws.toArray n n2 dd dd2 sl sl2 (by simpa using hv) (by simp [hw])) ⟨ho,ho2,h1 hw⟩
 ·refine concat_meets ⟨_,ho,rfl⟩ ⟨_,ho2,rfl⟩ noFill_tuple_add seq_tuple_add PySem.F.slot_tuple_add PySem.F.entry_tuple_add (PySem.F.args_tuple_add_2 _ _)
   (tuple_addW2 t b vs.toArray ws.toArray n n2 dd dd2 sl sl2 (by simpa using hv) (by simpa using hw) (by rw [size_toArray,size_toArray];exact hsz)) ⟨ho,ho2,?_⟩
  rw [e];exact h2 hw
noncomputable def sIx(n d:Nat):Option Int->Nat
 | none=>d
 | some v=>if v < 0 then(v + (n:Int)).toNat else min v.toNat n
def sIx_le(n d:Nat)(hd:d <= n)(o:Option Int):sIx n d o <= n:=by
 cases o with
 | none=>exact hd
 | some v =>
  show(if v < 0 then(v + (n:Int)).toNat else min v.toNat n) <= n;by_cases hv:v < 0
  ·rw [if_pos hv];omega
  ·rw [if_neg hv];exact Nat.min_le_right _ _
def qc5h(v:Int)(n d:Nat):(if v < 0 then max (v + (n:Int)) 0 else min v (n:Int))=((sIx n d (some v):Nat):Int):=by
 show(if v < 0 then max (v + (n:Int)) 0 else min v (n:Int))=(((if v < 0 then(v + (n:Int)).toNat else min v.toNat n):Nat):Int);by_cases hv:v < 0
 ·simp only [if_pos hv];omega
 ·simp only [if_neg hv];omega
def qc7n(lo hi:Option Int)(n:Nat):Builtin.Slice.sliceAdjust lo hi 1 (n:Int)=(((sIx n 0 lo:Nat):Int),((sIx n n hi:Nat):Int)):=by
 have h1:¬ ((1:Int) < 0):=by omega
 unfold Builtin.Slice.sliceAdjust;simp only [h1,if_false];refine Prod.ext ?_ ?_
 ·cases lo with
  | none=>rfl
  | some v=>exact qc5h v n 0
 ·cases hi with
  | none=>rfl
  | some v=>exact qc5h v n n
def qc7o(i j:Nat):Builtin.Slice.slicePlaces (i:Int) (j:Int) 1=j - i:=by
 unfold Builtin.Slice.slicePlaces;have h1:(1:Int) > 0:=by omega
 simp only [h1,if_true,Int.ediv_one];split<;>omega
def qb6c{v:Value}{o:Option Int}{Q:Option Int->Shared->Prop}(p:IsPart v o)(h:Q o s):wpAny (model prog w) A (Builtin.Slice.slicePartIndex v) Q E s:=by
 cases p with
 | none=>exact slicePart_none h
 | int i t=>exact slicePart_int h
def qb4u{sl:Addr}{vl vu:Value}{lo hi:Option Int}{n:Nat}{Q:Int × Int × Nat->Shared->Prop}(hs:s.heap.IsSliceOf sl vl vu .none)(pl:IsPart vl lo)(pu:IsPart vu hi)
  (h:Q (((sIx n 0 lo:Nat):Int),1,sIx n n hi - sIx n 0 lo) s):wpAny (model prog w) A (Builtin.Slice.sliceApplied (.ref sl) (pure (n:Int))) Q E s:=by
 obtain⟨os,hos,hcs,hds⟩:=id hs;unfold Builtin.Slice.sliceApplied Builtin.Slice.sliceFields;refine wpAny_bind (wpAny_bind (wpAny_field hos hds (x:=vl) rfl (wpAny_bind (wpAny_field hos hds (x:=vu) rfl (wpAny_bind (wpAny_field hos hds (x:=.none) rfl (wpAny_pure ?_)))))));refine wpAny_bind (slicePart_none ?_);show wpAny _ _ (if ((1:Int) == 0)=true then _ else _) _ _ s;rw [if_neg 'd'];refine wpAny_bind (qb6c pl (wpAny_bind (qb6c pu (wpAny_bind (wpAny_pure ?_)))));show wpAny _ _ (match Builtin.Slice.sliceAdjust lo hi 1 (n:Int) with | (lo,hi)=>pure (lo,(1:Int),Builtin.Slice.slicePlaces lo hi 1)) _ _ s;rw [qc7n lo hi n];show wpAny _ _ (pure (((sIx n 0 lo:Nat):Int),(1:Int),Builtin.Slice.slicePlaces ((sIx n 0 lo:Nat):Int) ((sIx n n hi:Nat):Int) 1)) _ _ s;rw [qc7o];exact wpAny_pure h
def qd2q(xs:Array Value)(i k:Nat):((List.range k).filterMap fun(m:Nat)=>xs[((i:Int) + (m:Int) * 1).toNat]?).toArray=((xs.toList.drop i).take k).toArray:=by
 have e:(fun(m:Nat)=>xs[((i:Int) + (m:Int) * 1).toNat]?)=fun m=>xs[i + m]?:=by
  funext m
  have:((i:Int) + (m:Int) * 1).toNat=i + m:=by omega
  rw [this]
 rw [e];have:=pick_run xs i k;rw [List.filterMap_map] at this;have e2:((fun x=>xs[x]?) ∘ fun x=>i + x)=fun m=>xs[i + m]?:=rfl;rw [e2] at this;rw [this]
def qb4j{t sl:Addr}{items:Array Value}{vl vu:Value}{lo hi:Option Int}{Q:Value->Shared->Prop}(ht:IsTup s.heap t items)(hs:s.heap.IsSliceOf sl vl vu .none)(pl:IsPart vl lo)(pu:IsPart vu hi)
  (hw:¬ (sIx items.size 0 lo=0/\sIx items.size items.size hi=items.size))
  (h:Q (.ref s.heap.objs.size) { s with heap:=s.heap.push { cls:=.type "tuple",data:=.seq ((items.toList.drop (sIx items.size 0 lo)).take (sIx items.size items.size hi - sIx items.size 0 lo)).toArray } })
  (hsz:items.size <= sizeLine):wpAny (model prog w) A (getItem (.ref t) (.ref sl)) Q E s:=by
 have htake:sizeOk (.seq ((items.toList.drop (sIx items.size 0 lo)).take (sIx items.size items.size hi - sIx items.size 0 lo)).toArray):=by
  show((items.toList.drop (sIx items.size 0 lo)).take (sIx items.size items.size hi - sIx items.size 0 lo)).toArray.size <= sizeLine;rw [size_toArray,length_take,length_drop,length_toList];omega
 have hj:sIx items.size items.size hi <= items.size:=sIx_le _ _ 'e' hi;obtain⟨os,hos,hcs,hds⟩:=id hs;have hTs:s.TypeIs (.ref sl) "slice":=⟨os,hos,hcs⟩;unfold getItem
 try with_reducible refine wpAny_holding ?_
 first | refine wpAny_bind (wpAny_pure ?_) | skip
 refine wpAny_bind (wpAny_sequenceKey ht.typeIs 'd' ?_);refine wpAny_bind (wpAny_callSpecial?_slot (name:=Str.ofString "__getitem__") ht.typeIs PyProof.Rows.slot_tuple_getitem
  (wpAny_call_entry PyProof.Rows.slot_tuple_getitem ht.typeIs entry_tuple_getitem ?_ (args_tuple_getitem _ _)))
 show wpAny _ _ (Builtin.Tuple.tupleItemsOf (.ref t) >>= _) _ _ s;refine wpAny_bind (tupleItemsOf_ ht ?_);refine wpAny_bind (wpAny_typeOf hTs ?_);rw [if_pos 'd'];refine wpAny_bind (qb4u hs pl pu ?_);have hno:¬ ((((sIx items.size 0 lo:Nat):Int) == 0 && (1:Int) == 1 && (sIx items.size items.size hi - sIx items.size 0 lo) == items.size)=true):=by
  intro q;rw [and_eq_true,and_eq_true] at q;have q1:((sIx items.size 0 lo:Nat):Int)=0:=eq_of_beq q.1.1;have q2:sIx items.size items.size hi - sIx items.size 0 lo=items.size:=eq_of_beq q.2;exact hw ⟨'o','o'⟩
 show wpAny _ _ (if (((sIx items.size 0 lo:Nat):Int) == 0 && (1:Int) == 1 && (sIx items.size items.size hi - sIx items.size 0 lo) == items.size)=true then _ else _) _ _ s;rw [if_neg hno,qd2q]
 first
  | exact wpAny_bind (m:=Builtin.Tuple.tupleExact _) (wpAny_newObj_type (wpAny_pure ⟨_,rfl,wpAny_pure h⟩) htake)
  | exact wpAny_bind (m:=Builtin.Tuple.tupleExact _) (wpAny_newObj_type (wpAny_bind (wpAny_pure (wpAny_pure ⟨_,rfl,wpAny_pure h⟩))) htake)
  | exact wpAny_bind (wpAny_bind (m:=Builtin.Tuple.tupleExact _) (wpAny_newObj_type (wpAny_pure (wpAny_pure ⟨_,rfl,wpAny_pure h⟩)) htake))
  | exact wpAny_bind (wpAny_bind (m:=Builtin.Tuple.tupleExact _) (wpAny_newObj_type (wpAny_pure ⟨_,rfl,wpAny_pure h⟩) htake))
end
end HT
namespace L2
open PySem PySem.Spec PyProof.Rows
abbrev TO:=St->Hp->(Option Int->Hp->Prop)->Prop
def PO(X:Cx)(e:Option Expr)(t:TO):Prop:=
 ∀ (pins:List 'g') (s:Shared) (σ:St) (H:Hp) (Q:Option Int->Hp->Prop),Inv X pins σ H s->t σ H Q ->
  wpAny (model X.prog X.w) X.A (evalPart e X.env) (fun u s'=>∃ o H',Inv X pins σ H' s'/\IsPart u o/\Q o H') X.xe s
noncomputable def qc5i:TO:=fun _ H Q=>Q none H
def tPart(t:TE):TO:=fun σ H Q=>t σ H fun x H1=>∃ i,x=.int i/\Q (some i) H1
def intsAre_of{ns:List Int}:∀ {us:List Value},Vals (ns.map V.int) us->IntsAre us ns:=by
 induction ns with
 | nil=>intro us r;rw [map_nil] at r;cases r;exact .nil
 | cons n ns ih =>
  intro us r;rw [map_cons] at r;cases r with
  | cons r1 r2 =>
   obtain⟨t,e⟩:=r1;subst e;exact .cons n t (ih r2)
section
variable{X:Cx}{e:Expr}{te:TE}{lo hi:Option Expr}{tl th:TO}{pos p2:Pos}
def po_none:PO X none qc5i:=by
 intro pins s σ H Q I h;rw [evalPart_none];exact wpAny_pure ⟨none,H,I,.none,h⟩
def po_some(h:PE X e te):PO X (some e) (tPart te):=by
 intro pins s σ H Q I hw;rw [evalPart_some];refine thn (h pins s σ H _ I hw) fun u s1 hq9=>?_;obtain⟨x,H1,I1,r1,q1⟩:=hq9;obtain⟨i,rfl,q⟩:=q1;obtain⟨t,rfl⟩:=r1;exact⟨some i,H1,I1,.int i t,q⟩
def SlR(X:Cx)(r:V->Option Int->Option Int->Hp->VK->Prop):Prop:=
 ∀ (pins:List 'g') (s:Shared) (σ:St) (H:Hp) (x:V) (v vl vu:Value) (lo hi:Option Int) (sl:Addr) (Q:VK),Inv X pins σ H s->RelV x v->s.heap.IsSliceOf sl vl vu .none->IsPart vl lo->IsPart vu hi->r x lo hi H Q ->
  ∃ T id,typeLookup (.type T) "__getitem__" = pure (some (.builtin id))/\s.TypeIs v T/\wpAny (model X.prog X.w) X.A (getItem v (.ref sl)) (EP X pins σ Q) X.xe s
def tSl(r:V->Option Int->Option Int->Hp->VK->Prop)(te:TE)(tl th:TO):TE:=fun σ H Q=>te σ H fun x H1=>tl σ H1 fun l H2=>th σ H2 fun u H3=>r x l u H3 Q
def qd2r{r:V->Option Int->Option Int->Hp->VK->Prop}(hr:SlR X r)(he:PE X e te)(hl:PO X lo tl)(hu:PO X hi th):PE X (.Subscript e (.Slice lo hi none p2) pos) (tSl r te tl th):=by
 intro pins s σ H Q I h;refine Subscript_ (thn (he pins s σ H _ I h) fun v s1 hq9=>?_);obtain⟨x,H1,I1,r1,q1⟩:=hq9;refine wpAny_Slice (thn (hl pins s1 σ H1 _ I1 q1) fun vl s2 ⟨l,H2,I2,pl,q2⟩=>thn (hu pins s2 σ H2 _ I2 q2) fun vu s3 hq9=>?_);obtain⟨u,H3,I3,pu,q3⟩:=hq9;rw [evalPart_none];refine wpAny_pure ?_;have I4:Inv X pins σ H3 { s3 with heap:=s3.heap.push { cls:=.type "slice",data:=.fields #[vl,vu,.none] } }:=I3.kept (t':=s3.toks) fun b ob q=>get?_push_of_some _ q;obtain⟨T,id,hT,ht,hg⟩:=hr pins { s3 with heap:=s3.heap.push { cls:=.type "slice",data:=.fields #[vl,vu,.none] } } σ H3 x v vl vu l u s3.heap.objs.size Q I4 r1 (Heap.IsSliceOf.new ..) pl pu q3;show wpAny (model X.prog X.w) X.A (subscriptTail e (.Slice lo hi none p2) v (.ref s3.heap.objs.size)) (EP X pins σ Q) X.xe { s3 with heap:=s3.heap.push { cls:=.type "slice",data:=.fields #[vl,vu,.none] } };exact tail_any (ops:=[.ref s3.heap.objs.size,v]) ht hT hg (by with_unfolding_all rfl)
noncomputable def cutV(xs:List V)(lo hi:Option Int):List V:=(xs.drop (HT.sIx xs.length 0 lo)).take (HT.sIx xs.length xs.length hi - HT.sIx xs.length 0 lo)
def qc3w(xs:List V)(lo hi:Option Int):(cutV xs lo hi).length <= xs.length:=by
 unfold cutV;rw [length_take,length_drop];omega
noncomputable def rSlT(K:W.Frag):V->Option Int->Option Int->Hp->VK->Prop:=fun x lo hi H Q=>∃ a xs,x=.ref a/\SqT K H a xs /\
 ¬ (HT.sIx xs.length 0 lo=0/\HT.sIx xs.length xs.length hi=xs.length)/\∀ p,H p=none->Q (.ref p) (upd H p (.tup (cutV xs lo hi)))
def qb2n:SlR X (rSlT X.K):=by
 intro pins s σ H x v vl vu lo hi sl Q I rx hs pl pu h;obtain⟨a,xs,rfl,hx,hw,q⟩:=h;cases rx;obtain⟨its,r,ht,hz⟩:=I.tuple hx;have hlen:its.toArray.size=xs.length:=by rw [size_toArray];exact r.length.symm
 refine⟨"tuple",_,PyProof.Rows.slot_tuple_getitem.lookup,ht.typeIs,?_⟩;refine HT.qb4j ht hs pl pu (by rw [hlen];exact hw) ?_ (by rw [hlen];exact hz);rw [hlen];refine⟨.ref s.heap.objs.size,_,I.laid (t':=s.toks) (o:=.tup (cutV xs lo hi)) (fun b ob q=>get?_push_of_some _ q) 'e' ?_,rfl,q _ (I.hok.fresh 'e')⟩;exact⟨le_trans (qc3w xs lo hi) hz,_,(r.drop (HT.sIx xs.length 0 lo)).take (HT.sIx xs.length xs.length hi - HT.sIx xs.length 0 lo),qa4k.new _ _⟩
def rCatT(K:W.Frag):R2:=fun x y H Q=>∃ a b xs ys,x=.ref a/\y=.ref b/\SqT K H a xs/\SqT K H b ys/\xs ≠ []/\xs.length + ys.length <= sizeLine /\
 (ys=[]->Q (.ref a) H)/\(ys ≠ []->∀ p,H p=none->Q (.ref p) (upd H p (.tup (xs ++ ys))))
def Vals.nil_iff{xs:List V}{us:List Value}(r:Vals xs us):us=[] ↔ xs=[]:=by
 cases r with
 | nil=>simp
 | cons _ _=>simp
def op_catT:OpR X (binaryOp .Add) (rCatT X.K):=by
 intro pins s σ H x y v u Q I rx ry h;obtain⟨a,b,xs,ys,rfl,rfl,ha,hb,hx,hz,q1,q2⟩:=h;cases rx;cases ry;obtain⟨its,r1,p1,_⟩:=I.tuple ha;obtain⟨its2,r2,p2,_⟩:=I.tuple hb;refine HT.cat_tup p1 p2 (fun z=>hx (r1.nil_iff.mp z)) (fun z=>⟨.ref a,H,I,rfl,q1 (r2.nil_iff.mp z)⟩) (fun z=>?_) (by rw [← r1.length,← r2.length];exact hz);refine⟨.ref s.heap.objs.size,_,I.laid (t':=s.toks) (o:=.tup (xs ++ ys)) (fun b ob q=>get?_push_of_some _ q) 'e' ?_,rfl,q2 (fun w=>z (r2.nil_iff.mpr w)) _ (I.hok.fresh 'e')⟩;exact⟨by rw [length_append];exact hz,_,r1.append r2,qa4k.new _ _⟩
end
end L2
namespace L2
open PySem PySem.Spec PyProof.Rows
noncomputable def ixN(n:Nat)(i:Int):Option Nat:=if 0 <= i then(if i < n then some i.toNat else none) else if -(n:Int) <= i then some (i + n).toNat else none
noncomputable def atI{α:Type}(xs:List α)(i:Int):Option α:=(ixN xs.length i).bind fun j=>xs[j]?
def qc5j{n:Nat}{i:Int}{j:Nat}(h:ixN n i=some j):seqIndex? i n=some j/\j < n /\ -(n:Int) <= i/\i < n:=by
 unfold ixN at h;by_cases h0:0 <= i
 ·rw [if_pos h0] at h
  by_cases h1:i < n
  ·rw [if_pos h1] at h
   have e:i.toNat=j:=Option.some.inj h;exact⟨by rw [seqIndex_of h0 h1,e],'o','o',h1⟩
  ·rw [if_neg h1] at h;cases h
 ·rw [if_neg h0] at h
  by_cases h1:-(n:Int) <= i
  ·rw [if_pos h1] at h
   have e:(i + n).toNat=j:=Option.some.inj h;exact⟨by rw [seqIndex_neg 'o' h1,e],'o',h1,'o'⟩
  ·rw [if_neg h1] at h;cases h
def qb7p{α:Type}{xs:List α}{i:Int}{v:α}(h:atI xs i=some v):∃ j,seqIndex? i xs.length=some j/\xs[j]? = some v/\j < xs.length /\ -(xs.length:Int) <= i/\i < xs.length:=by
 unfold atI at h;cases e:ixN xs.length i with
 | none=>rw [e] at h;cases h
 | some j =>
  rw [e] at h;obtain⟨h1,h2,h3,h4⟩:=qc5j e;exact⟨j,h1,h,h2,h3,h4⟩
def qa6m{α:Type}{xs:List α}{j:Nat}{v:α}(h:xs[j]? = some v):atI xs (j:Int)=some v:=by
 have hj:j < xs.length:=(List.getElem?_eq_some_iff.mp h).1;have e:ixN xs.length (j:Int)=some j:=by
  unfold ixN;rw [if_pos 'o',if_pos 'o'];simp
 unfold atI;rw [e];exact h
def qc5k(b:Expr):Prop:=∀ o i,subscripted b false o i=operate [o,i] (getItem o i)
def IxR(X:Cx)(r:R2):Prop:=
 ∀ (value slice:Expr) (pins:List 'g') (s:Shared) (σ:St) (H:Hp) (x y:V) (v u:Value) (Q:VK),Inv X pins σ H s->RelV x v->RelV y u->r x y H Q ->
  subscripted slice false v u=operate [v,u] (getItem v u)->wpAny (model X.prog X.w) X.A (subscriptTail value slice v u) (EP X pins σ Q) X.xe s
def MtR(X:Cx)(id:String)(r:V->List V->Hp->VK->Prop):Prop:=
 ∀ (pins:List 'g') (s:Shared) (σ:St) (H:Hp) (x:V) (xs:List V) (v:Value) (us:List Value) (Q:VK),Inv X pins σ H s->RelV x v->Vals xs us->r x xs H Q ->
  wpAny (model X.prog X.w) X.A (call (.builtin id) (v :: us)) (EP X pins σ Q) X.xe s
section
variable{X:Cx}{a b:Expr}{ta tb:TE}{pos:Pos}
def IxR.or{r r':R2}(h:IxR X r)(h':IxR X r'):IxR X (fun x y H Q=>r x y H Q ∨ r' x y H Q):=by
 intro value slice pins s σ H x y v u Q I rx ry q hs;rcases q with q | q
 ·exact h value slice pins s σ H x y v u Q I rx ry q hs
 ·exact h' value slice pins s σ H x y v u Q I rx ry q hs
def pe_ix{r:R2}(hr:IxR X r)(ha:PE X a ta)(hb:PE X b tb)(hs:qc5k b):PE X (.Subscript a b pos) (tOp r ta tb):=by
 intro pins s σ H Q I h;exact Subscript_ (binT ha hb I h fun v u s2 x y H2 I2 rx ry q=>hr a b pins s2 σ H2 x y v u Q I2 rx ry q (hs _ _))
def rIxL(K:W.Frag):R2:=fun x y H Q=>∃ p xs i v,x=.ref p/\y=.int i/\SqL K H p xs/\atI xs i=some v/\Q v H
def rIxT(K:W.Frag):R2:=fun x y H Q=>∃ p xs i v,x=.ref p/\y=.int i/\SqT K H p xs/\atI xs i=some v/\Q v H
def rIxS:R2:=fun x y H Q=>∃ z i c,x=.str z/\y=.int i/\z.length <= sizeLine/\atI z.cps.toList i=some c/\Q (.str ⟨#[c]⟩) H
def qb0s:IxR X (rIxL X.K):=by
 intro value slice pins s σ H x y v u Q I rx ry h hs;obtain⟨p,xs,i,z,rfl,rfl,hq,he,q⟩:=h;cases rx;obtain⟨t,rfl⟩:=ry;obtain⟨its,r,pl,hz⟩:=I.list hq;obtain⟨j,h1,h2,h3,h4,h5⟩:=qb7p he;obtain⟨w,ew,rw'⟩:=r.get h2;have hl:=r.length;have hn:=qb0r;have fin:EP X pins σ Q w s:=⟨z,H,I,rw',q⟩;by_cases h0:0 <= i
 ·have hj:i.toNat=j:=by
   rw [seqIndex_of h0 h5] at h1;exact Option.some.inj h1
  exact item_listR pl.isList h0 'o' (by rw [hj];simpa using ew) fin hs
 ·have hj:(i + (its.toArray.size:Int)).toNat=j:=by
   rw [seqIndex_neg 'o' h4] at h1;rw [size_toArray,← hl];exact Option.some.inj h1
  exact subscriptTail_builtinR (x:=w) pl.isList.typeIs slot_list_getitem.lookup
   (wpAny_getItem_list_neg (Q:=fun r s'=>r=w/\EP X pins σ Q r s') pl.isList 'o' (by rw [size_toArray]<;>omega) 'o' (by rw [hj];simpa using ew) ⟨rfl,fin⟩) hs
def ix_tup:IxR X (rIxT X.K):=by
 intro value slice pins s σ H x y v u Q I rx ry h hs;obtain⟨p,xs,i,z,rfl,rfl,hq,he,q⟩:=h;cases rx;obtain⟨t,rfl⟩:=ry;obtain⟨its,r,pl,hz⟩:=I.tuple hq;obtain⟨j,h1,h2,h3,h4,h5⟩:=qb7p he;obtain⟨w,ew,rw'⟩:=r.get h2;have hl:=r.length;have hn:=qb0r;have fin:EP X pins σ Q w s:=⟨z,H,I,rw',q⟩;exact subscriptTail_builtinR (x:=w) pl.typeIs slot_tuple_getitem.lookup
  (getItem_tuple (j:=j) (Q:=fun r s'=>r=w/\EP X pins σ Q r s') pl 'o' 'o' (by rw [size_toArray,← hl];exact h1) (by simpa using ew) ⟨rfl,fin⟩) hs
def ix_str:IxR X rIxS:=by
 intro value slice pins s σ H x y v u Q I rx ry h hs;obtain⟨z,i,c,rfl,rfl,hz,he,q⟩:=h;obtain⟨t,rfl⟩:=rx;obtain⟨t',rfl⟩:=ry;obtain⟨j,h1,h2,h3,h4,h5⟩:=qb7p he;have hl:z.cps.toList.length=z.length:=by simp [Str.length]
 rw [hl] at h1 h4 h5;have hn:=qb0r;exact tail_any (typeIs_str s z t) slot_str_getitem.lookup (getItem_str (c:=c) (by
  have e1:decide (i < -(2 ^ 63:Int))=false:=decide_eq_false 'o';have e2:decide (i ≥ 2 ^ 63)=false:=decide_eq_false 'o';rw [e1,e2,Bool.or_false]) (by rw [h1];simpa using h2) ⟨.str ⟨#[c]⟩,H,I.tok _,⟨_,rfl⟩,q⟩) hs
def rIx(K:W.Frag):R2:=fun x y H Q=>rIxL K x y H Q ∨ rIxT K x y H Q ∨ rIxS x y H Q
def qa0i:IxR X (rIx X.K):=qb0s.or (ix_tup.or ix_str)
def qc7p(its:List Value)(n j:Nat)(u:Value):Obj.mapSeq (·.setIfInBounds j u) { cls:=.type "list",data:=.seq its.toArray n }={ cls:=.type "list",data:=.seq (its.set j u).toArray n }:=by
 simp [Obj.mapSeq]
def Inv.lst{pins:List 'g'}{σ:St}{H:Hp}{s:Shared}{p:Addr}{xs:List V}(I:Inv X pins σ H s)(h:H p=some (.lst xs)) :
  ∃ (its:List Value) (n:Nat),Vals xs its/\s.heap.get? p=some { cls:=.type "list",data:=.seq its.toArray n }/\xs.length <= sizeLine:=by
 obtain⟨z,its,n,r,e⟩:=I.hok p _ h;exact⟨its,n,r,e,z⟩
def Inv.lstUpd{pins:List 'g'}{σ:St}{H:Hp}{s:Shared}{p:Addr}{xs ys:List V}{its its':List Value}{n n':Nat}{f:Obj->Obj}(I:Inv X pins σ H s)(h:H p=some (.lst xs))
  (ho:s.heap.get? p=some { cls:=.type "list",data:=.seq its.toArray n }) (hf:f { cls:=.type "list",data:=.seq its.toArray n }={ cls:=.type "list",data:=.seq its'.toArray n' }) (r:Vals ys its') (hz:ys.length <= sizeLine) (t:Nat) :
  Inv X pins σ (upd H p (.lst ys)) { s with heap:=s.heap.update p f,toks:=t }:=by
 have e:(s.heap.update p f).get? p=some { cls:=.type "list",data:=.seq its'.toArray n' }:=by
  rw [get?_update_self f ho (by rw [hf]<;>rfl),hf]
 refine I.write (x:=p) (e:=p) (by rw [h];trivial) (.inl rfl) (fun b u hb q=>(Heap.get?_update_other _ _ (Ne.symm hb)).trans q) ⟨_,e⟩ ?_;exact⟨hz,its',n',r,e⟩
noncomputable def rSetL:V->V->V->Hp->(Hp->Prop)->Prop:=fun o i v H Q=>∃ p xs k j,o=.ref p/\i=.int k/\H p=some (.lst xs)/\ixN xs.length k=some j/\Q (upd H p (.lst (xs.set j v)))
def set_list:PSet X rSetL:=by
 intro pins s σ H o i v ov iv u Q I ro ri rv h;obtain⟨p,xs,k,j,rfl,rfl,hp,hj,q⟩:=h;cases ro;obtain⟨t,rfl⟩:=ri;obtain⟨its,n,r,ho,hz⟩:=I.lst hp;obtain⟨h1,h2,h3,h4⟩:=qc5j hj;have hl:=r.length;have hn:=qb0r;have I':Inv X pins σ (upd H p (.lst (xs.set j v))) { s with heap:=s.heap.update p (Obj.mapSeq (·.setIfInBounds j u)) }:=
  I.lstUpd hp ho (qc7p its n j u) (r.set rv j) (by rw [length_set];exact hz) s.toks
 by_cases h0:0 <= k
 ·have hk:k.toNat=j:=by
   rw [seqIndex_of h0 h4] at h1;exact Option.some.inj h1
  exact PySem.W.ki_setAt ho h0 'o' (by rw [size_toArray,← hl];exact h4) (by rw [hk];exact⟨_,I',q⟩)
 ·have hk:(k + (its.toArray.size:Int)).toNat=j:=by
   rw [seqIndex_neg 'o' h3] at h1;rw [size_toArray,← hl];exact Option.some.inj h1
  exact PySem.W.ki_setBack ho 'o' (by rw [size_toArray,← hl];exact h3) 'o' (by rw [hk];exact⟨_,I',q⟩)
noncomputable def qa6x:V->Bool
 | .non=>true
 | .bl _=>true
 | .int _=>true
 | .str _=>true
 | _=>false
noncomputable def eqV:V->V->Bool
 | .non,.non=>true
 | .bl a,.bl b=>a == b
 | .bl a,.int b=>(if a then 1 else 0) == b
 | .int a,.bl b=>a == (if b then 1 else 0)
 | .int a,.int b=>a == b
 | .str a,.str b=>a == b
 | _,_=>false
def eqAt_V{A:Around}{s:Shared}{y x:V}{u v:Value}(ry:RelV y u)(rx:RelV x v)(fy:qa6x y=true)(fx:qa6x x=true):SeqAt.EqAt A s u v (eqV y x):=by
 cases y with
 | non =>
  cases ry
  cases x with
  | non=>cases rx;exact SeqAt.EqAt.same _
  | bl b=>cases rx;exact SeqAt.EqAt.none_bool b
  | int b=>obtain⟨t,rfl⟩:=rx;exact SeqAt.EqAt.none_int b t
  | str b=>obtain⟨t,rfl⟩:=rx;exact SeqAt.EqAt.none_str b t
  | _=>exact absurd (show false=true from fx) Bool.false_ne_true
 | bl a =>
  cases ry
  cases x with
  | non=>cases rx;exact SeqAt.EqAt.bool_none a
  | bl b=>cases rx;exact SeqAt.EqAt.bool_bool a b
  | int b=>obtain⟨t,rfl⟩:=rx;exact SeqAt.EqAt.bool_int a b t
  | str b=>obtain⟨t,rfl⟩:=rx;exact SeqAt.EqAt.bool_str a b t
  | _=>exact absurd (show false=true from fx) Bool.false_ne_true
 | int a =>
  obtain⟨t',rfl⟩:=ry;cases x with
  | non=>cases rx;exact SeqAt.EqAt.int_none a t'
  | bl b=>cases rx;exact SeqAt.EqAt.int_bool a t' b
  | int b=>obtain⟨t,rfl⟩:=rx;exact SeqAt.EqAt.int_int a t' b t
  | str b=>obtain⟨t,rfl⟩:=rx;exact SeqAt.EqAt.int_str a t' b t
  | _=>exact absurd (show false=true from fx) Bool.false_ne_true
 | str a =>
  obtain⟨t',rfl⟩:=ry;cases x with
  | non=>cases rx;exact SeqAt.EqAt.str_none a t'
  | bl b=>cases rx;exact SeqAt.EqAt.str_bool a t' b
  | int b=>obtain⟨t,rfl⟩:=rx;exact SeqAt.EqAt.str_int a t' b t
  | str b=>obtain⟨t,rfl⟩:=rx;exact SeqAt.EqAt.str_str a t' b t
  | _=>exact absurd (show false=true from fx) Bool.false_ne_true
 | _=>exact absurd (show false=true from fy) Bool.false_ne_true
noncomputable def eqU(x:V)(u:Value):Bool:=match u with
 | .none=>eqV .non x
 | .bool b=>eqV (.bl b) x
 | .int i _=>eqV (.int i) x
 | .str z _=>eqV (.str z) x
 | _=>false
def eqU_of{x y:V}{u:Value}(r:RelV y u)(f:qa6x y=true):eqU x u=eqV y x:=by
 cases y with
 | non=>cases r;rfl
 | bl b=>cases r;rfl
 | int i=>obtain⟨t,rfl⟩:=r;rfl
 | str z=>obtain⟨t,rfl⟩:=r;rfl
 | _=>exact absurd (show false=true from f) Bool.false_ne_true
def qb0t{x:V}:∀ {xs:List V} {us:List Value},Vals xs us->xs.all qa6x=true->us.any (eqU x)=xs.any fun y=>eqV y x
 | _,_,.nil,_=>rfl
 | y :: xs,u :: us,.cons r t,f=>by
  rw [all_cons,and_eq_true] at f;rw [any_cons,any_cons,eqU_of r f.1,qb0t t f.2]
def qa9d{A:Around}{s:Shared}{x:V}{v:Value}(rx:RelV x v)(fx:qa6x x=true):∀ {xs:List V} {us:List Value},Vals xs us->xs.all qa6x=true->∀ u ∈ us,SeqAt.EqAt A s u v (eqU x u)
 | _,_,.nil,_=>fun u hu=>by cases hu
 | y :: xs,u :: us,.cons r t,f=>fun u' hu=>by
  rw [all_cons,and_eq_true] at f;rcases mem_cons.mp hu with rfl | hu
  ·rw [eqU_of r f.1];exact eqAt_V r rx f.1 fx
  ·exact qa9d rx fx t f.2 u' hu
noncomputable def inV(x:V)(xs:List V):Bool:=xs.any fun y=>eqV y x
def rIn(K:W.Frag)(neg:Bool):R2:=fun x y H Q=>∃ p xs,y=.ref p/\(SqL K H p xs ∨ SqT K H p xs)/\qa6x x=true/\xs.all qa6x=true/\Q (.bl (if neg then !inV x xs else inV x xs)) H
def qd0a:OpR X (compareOp .In) (rIn X.K false):=by
 intro pins s σ H x y v u Q I rx ry h;obtain⟨p,xs,rfl,hq,fx,fs,q⟩:=h;cases ry;rcases hq with hq | hq
 ·obtain⟨its,r,pl,hz⟩:=I.list hq
  refine SeqAt.in_listAt (eqU x) pl.isList (fun w hw=>qa9d rx fx r fs w (by simpa using hw)) ⟨.bl _,H,I,rfl,?_⟩;rw [show its.toArray.any (eqU x)=its.any (eqU x) by simp,qb0t r fs];exact q
 ·obtain⟨its,r,pl,hz⟩:=I.tuple hq
  refine SeqAt.in_tupleAt (eqU x) pl (fun w hw=>qa9d rx fx r fs w (by simpa using hw)) ⟨.bl _,H,I,rfl,?_⟩;rw [show its.toArray.any (eqU x)=its.any (eqU x) by simp,qb0t r fs];exact q
def qb9z:OpR X (compareOp .NotIn) (rIn X.K true):=by
 intro pins s σ H x y v u Q I rx ry h;obtain⟨p,xs,rfl,hq,fx,fs,q⟩:=h;cases ry;rcases hq with hq | hq
 ·obtain⟨its,r,pl,hz⟩:=I.list hq
  refine SeqAt.notIn_listAt (eqU x) pl.isList (fun w hw=>qa9d rx fx r fs w (by simpa using hw)) ⟨.bl _,H,I,rfl,?_⟩;rw [show its.toArray.any (eqU x)=its.any (eqU x) by simp,qb0t r fs];exact q
 ·obtain⟨its,r,pl,hz⟩:=I.tuple hq
  refine SeqAt.notIn_tupleAt (eqU x) pl (fun w hw=>qa9d rx fx r fs w (by simpa using hw)) ⟨.bl _,H,I,rfl,?_⟩;rw [show its.toArray.any (eqU x)=its.any (eqU x) by simp,qb0t r fs];exact q
def qc0a:OpR X (compareOp .NotIn) (fun x y H Q=>∃ i j,x=.str i/\y=.str j/\Q (.bl (!(!(Builtin.Str.occurrences j i 0 j.length 1).isEmpty))) H):=by
 intro pins s σ H x y v u Q I rx ry h;obtain⟨i,j,rfl,rfl,q⟩:=h;obtain⟨t,rfl⟩:=rx;obtain⟨t',rfl⟩:=ry;exact notIn_str ⟨.bl _,H,I,rfl,q⟩
def qa5u:qa2e X (.builtin "len") (fun xs H Q=>∃ p ys,xs=[.ref p]/\(SqL X.K H p ys ∨ SqT X.K H p ys)/\Q (.int ys.length) H):=by
 intro pins s σ H xs us Q I r h;obtain⟨p,ys,rfl,hq,q⟩:=h;obtain⟨u,rfl,rx⟩:=vals1 r;cases rx;have hn:=qb0r;rcases hq with hq | hq
 ·obtain⟨its,r',pl,hz⟩:=I.list hq
  have hlen:=r'.length;exact Calls.call_len_list pl.isList (by simp only [size_toArray]<;>omega) ⟨.int ys.length,H,I.tok _,⟨s.toks + 1,by rw [size_toArray,hlen]⟩,q⟩
 ·obtain⟨its,r',pl,hz⟩:=I.tuple hq
  have hlen:=r'.length;exact len_tuple pl (by simp only [size_toArray]<;>omega) ⟨.int ys.length,H,I.tok _,⟨s.toks + 1,by rw [size_toArray,hlen]⟩,q⟩
def qc0b:qa2e X (.builtin "len") (fun xs H Q=>∃ z,xs=[.str z]/\z.length <= sizeLine/\Q (.int z.length) H):=by
 intro pins s σ H xs us Q I r h;obtain⟨z,rfl,hz,q⟩:=h;obtain⟨u,rfl,t,rfl⟩:=vals1 r;have hn:=qb0r;exact len_str 'o' ⟨.int z.length,H,I.tok _,⟨_,rfl⟩,q⟩
def qa2e.or{f:Value}{r r':List V->Hp->VK->Prop}(h:qa2e X f r)(h':qa2e X f r'):qa2e X f (fun xs H Q=>r xs H Q ∨ r' xs H Q):=by
 intro pins s σ H xs us Q I rs q;rcases q with q | q
 ·exact h pins s σ H xs us Q I rs q
 ·exact h' pins s σ H xs us Q I rs q
def qb2o:qa2e X (.type "list") (fun xs H Q=>∃ p ys,xs=[.ref p]/\(SqL X.K H p ys ∨ SqT X.K H p ys)/\∀ l,H l=none->Q (.ref l) (upd H l (.lst ys))):=by
 intro pins s σ H xs us Q I r h;obtain⟨p,ys,rfl,hq,q⟩:=h;obtain⟨u,rfl,rx⟩:=vals1 r;cases rx;have fin:∀ (its:List Value),Vals ys its->ys.length <= sizeLine->∀ (h':Heap) (c':Nat),(∀ b o',s.heap.get? b=some o'->h'.get? b=some o') ->
   h'.get? s.heap.objs.size=some { cls:=.type "list",dict:=none,data:=.seq its.toArray c',slots:=#[] }->EP X pins σ Q (.ref s.heap.objs.size) { s with heap:=h' }:=fun its r' hz h' c' kp e =>
  ⟨.ref s.heap.objs.size,_,I.laid (t':=s.toks) kp 'e' (show qa1v X.prog X.w _ h' _ (.lst ys) from⟨hz,its,c',r',e⟩),rfl,q _ (I.hok.fresh 'e')⟩
 rcases hq with hq | hq
 ·obtain⟨its,r',pl,hz⟩:=I.list hq
  have hlen:=r'.length;obtain⟨o,ho,hc,n,hd⟩:=pl.isList;exact call_list_seq p (.inl rfl) ho hc hd (fun h' c' kp e=>fin its r' hz h' c' kp e) (by simp only [size_toArray]<;>omega)
 ·obtain⟨its,r',pl,hz⟩:=I.tuple hq
  have hlen:=r'.length;obtain⟨o,ho,hc,n,hd⟩:=pl;exact call_list_seq p (.inr rfl) ho hc hd (fun h' c' kp e=>fin its r' hz h' c' kp e) (by simp only [size_toArray]<;>omega)
def qa0p:qa2e X (.type "tuple") (fun xs H Q=>∃ p ys,xs=[.ref p]/\((SqL X.K H p ys/\∀ l,H l=none->Q (.ref l) (upd H l (.tup ys))) ∨ (SqT X.K H p ys/\Q (.ref p) H))):=by
 intro pins s σ H xs us Q I r h;obtain⟨p,ys,rfl,h⟩:=h;obtain⟨u,rfl,rx⟩:=vals1 r;cases rx;rcases h with⟨hq,q⟩ | ⟨hq,q⟩
 ·obtain⟨its,r',pl,hz⟩:=I.list hq
  have hlen:=r'.length;refine call_tuple_list pl.isList (fun h' kp=>?_) (by simp only [size_toArray]<;>omega);have I1:Inv X pins σ H { s with heap:=h' }:=I.kept (t':=s.toks) kp;have I2:Inv X pins σ (upd H h'.objs.size (.tup ys)) { s with heap:=h'.push { cls:=.type "tuple",data:=.seq its.toArray } }:=
   I1.laid (t':=s.toks) (fun b o e=>get?_push_of_some _ e) 'e' (show qa1v X.prog X.w _ _ _ (.tup ys) from⟨hz,its,r',qa4k.new _ _⟩)
  exact⟨.ref h'.objs.size,_,I2,rfl,q _ (I1.hok.fresh 'e')⟩
 ·obtain⟨its,r',pl,hz⟩:=I.tuple hq
  exact call_tuple_same pl ⟨.ref p,H,I,rfl,q⟩
def tyV(K:W.Frag)(T:String)(x:V)(H:Hp):Prop:=match x with
 | .str _=>T = "str"
 | .int _=>T = "int"
 | .ref p=>(T = "list" /\ ∃ xs,SqL K H p xs) ∨ (T = "tuple" /\ ∃ o,K.lookup p=some o/\o.cls=.type "tuple" /\ o.dict=none) ∨
   (T = "dict" /\ ((∃ kvs,H p=some (.dK kvs)) ∨ ∃ kvs,H p=some (.dT kvs))) ∨ (T = "set" /\ ∃ S n,H p=some (.set S n))
 | _=>False
def qc0c{pins:List 'g'}{σ:St}{H:Hp}{s:Shared}{T:String}{x:V}{v:Value}(I:Inv X pins σ H s)(r:RelV x v)(ty:tyV X.K T x H) :
  s.TypeIs v T/\∀ a,v=.ref a->∃ ob,s.heap.get? a=some ob/\ob.dict=none:=by
 cases x with
 | str z =>
  obtain⟨t,rfl⟩:=r;cases (show T = "str" from ty);exact⟨typeIs_str s z t,fun _ e=>nomatch e⟩
 | int i =>
  obtain⟨t,rfl⟩:=r;cases (show T = "int" from ty);exact⟨typeIs_int s i t,fun _ e=>nomatch e⟩
 | ref p =>
  cases r
  rcases ty with⟨rfl,xs,hq⟩ | ⟨rfl,o,hk,hc,hd⟩ | ⟨rfl,hk⟩ | ⟨rfl,S,n,hk⟩
  ·obtain⟨its,_,pl,_⟩:=I.list hq
   refine⟨pl.isList.typeIs,fun a e=>?_⟩;cases e;obtain⟨o,n,e,c,hd,_⟩:=pl;exact⟨o,e,hd⟩
  ·refine⟨⟨o,I.kIn p o hk,hc⟩,fun a e=>?_⟩
   cases e
   exact⟨o,I.kIn _ o hk,hd⟩
  ·have z:∃ o,s.heap.get? p=some o/\o.ExactDict:=by
    rcases hk with⟨kvs,hk⟩ | ⟨kvs,hk⟩
    ·obtain⟨_,_,_,_,o,_,_,e,ex,_⟩:=I.hok p _ hk
     exact⟨o,e,ex⟩
    ·obtain⟨_,_,_,_,o,_,_,e,ex,_⟩:=I.hok p _ hk
     exact⟨o,e,ex⟩
   obtain⟨o,e,ex⟩:=z;refine⟨⟨o,e,ex.1⟩,fun a e2=>?_⟩;cases e2;exact⟨o,e,ex.2.1⟩
  ·obtain⟨o,_,_,_,e,ex,_⟩:=I.hok p _ hk
   refine⟨⟨o,e,ex.1⟩,fun a e2=>?_⟩;cases e2;exact⟨o,e,ex.2.1⟩
 | _=>exact False.elim ty
def tBM(K:W.Frag)(T:String)(r:V->List V->Hp->VK->Prop)(to:TE)(t:TA):TE:=fun σ H Q=>to σ H fun x H1=>tyV K T x H1/\t σ H1 fun xs H2=>r x xs H2 Q
variable{o e:Expr}{es:List Expr}{to:TE}{t:TA}{name:Str}{apos cpos:Pos}{T id:String}{r:V->List V->Hp->VK->Prop}
def pe_bm(pa:PlainAttrs T)(slot:Slot T name id) (hty:typeOf (.builtin id)=pure (.type "method_descriptor")) (hm:MtR X id r) (ho:PE X o to) (ha:PA X (e :: es) t)
  (hbase:attributeBase o name X.env (eval o X.env)=eval o X.env:=by rfl)
  (hfew:((backTo cpos (starEach (e :: es) X.env)).all (fun x=>!x.1) && (backToKw cpos (keywordEach [] X.env)).all (fun x=>x.1.isSome)
   && decide ((e :: es).length + ([]:List Keyword).length + (if ([]:List Keyword).isEmpty then 0 else 1) < 30))=true:=by rfl)
  (hline:(apos.endLine == cpos.line)=true:=by rfl) (hs:starEach (e :: es) X.env=(false,eval e X.env) :: starEach es X.env:=by rfl) (hplain:(backTo cpos (starEach es X.env)).any (·.1)=false:=by rfl) :
  PE X (.Call (.Attribute o name apos) (e :: es) [] cpos) (tBM X.K T r to t):=by
 intro pins s σ H Q I h;refine wpAny_Call_method_late hbase hfew hline rfl (thn (ho pins s σ H _ I h) fun v s1 hq9=>?_);obtain⟨x,H1,I1,r1,ty,q1⟩:=hq9;obtain⟨h1,h2⟩:=qc0c I1 r1 ty;refine⟨T,id,pa,slot,hty,h1,h2,?_⟩;have hA:=ha cpos pins s1 σ H1 _ I1 q1;rw [hs] at hA ⊢;refine Calls.callWith_builtin (by show(false || (backTo cpos (starEach es X.env)).any (·.1))=false;rw [hplain]<;>rfl) (Calls.evalArgs_plain ?_);exact thn hA fun us s2 hq8=>by obtain⟨vs,H2,I2,r2,q2⟩:=hq8;exact hm pins s2 σ H2 x vs v us Q I2 r1 r2 q2
end
end L2
namespace L2
open PySem PySem.Spec PyProof.Rows
def MtM(X:Cx)(id:String)(r:V->List V->Hp->VK->Prop):Prop:=
 ∀ (pins:List 'g') (s:Shared) (σ:St) (H:Hp) (x:V) (xs:List V) (v:Value) (us:List Value) (Q:VK),Inv X pins σ H s->RelV x v->Vals xs us->r x xs H Q ->
  wpAny (model X.prog X.w) X.A (call (.builtin id) (v :: us)) (EP X pins σ Q) X.xe s
def Vals.one:∀ {x:V} {us:List Value},Vals [x] us->∃ u,us=[u]/\RelV x u
 | _,_,.cons r .nil=>⟨_,rfl,r⟩
def Vals.two:∀ {x y:V} {us:List Value},Vals [x,y] us->∃ u v,us=[u,v]/\RelV x u/\RelV y v
 | _,_,_,.cons r (.cons q .nil)=>⟨_,_,rfl,r,q⟩
def Vals.zero:∀ {us:List Value},Vals [] us->us=[]
 | _,.nil=>rfl
def Vals.rep{xs:List V}{us:List Value}(h:Vals xs us):∀ k:Nat,Vals (List.replicate k xs).flatten (List.replicate k us).flatten
 | 0=>.nil
 | k + 1=>by
  rw [replicate_succ,replicate_succ,flatten_cons,flatten_cons];exact Vals.append h (Vals.rep h k)
def foldl_rep(its:List Value):∀ (k:Nat) (acc:List Value),
  List.foldl (fun x1 x2=>x1 ++ x2) acc.toArray (List.replicate k its.toArray)=(acc ++ (List.replicate k its).flatten).toArray
 | 0,acc=>by simp
 | k + 1,acc=>by
  have e:acc.toArray ++ its.toArray=(acc ++ its).toArray:=by simp
  have e2:(acc ++ its) ++ (List.replicate k its).flatten=acc ++ (List.replicate (k + 1) its).flatten:=by
   rw [replicate_succ,flatten_cons,append_assoc]
  rw [← e2,← foldl_rep its k (acc ++ its),← e,replicate_succ,List.foldl_cons]
section
variable{X:Cx}{pins:List 'g'}{σ:St}{H:Hp}{s:Shared}{l b:Addr}{xs ys zs:List V}
def Inv.lset{its its':List Value}{n:Nat}{f:Array Value->Array Value}{t':Nat}(I:Inv X pins σ H s)(hH:H l=some (.lst xs))
  (e:s.heap.get? l=some { cls:=.type "list",data:=.seq its.toArray n }) (hf:f its.toArray=its'.toArray) (hv:Vals ys its') (hz:ys.length <= sizeLine) :
  Inv X pins σ (upd H l (.lst ys)) { s with heap:=s.heap.update l (Obj.mapSeq f),toks:=t' }:=by
 have q:=PySem.IsL.update e f;rw [hf] at q;refine I.write (x:=l) (e:=l) (by rw [hH];exact trivial) (.inl rfl) (fun b' u hb hu=>(Heap.get?_update_other s.heap (Obj.mapSeq f) (Ne.symm hb)).trans hu) ⟨_,q⟩ ?_;exact⟨hz,its',_,hv,q⟩
def Inv.lnew{its:List Value}{t':Nat}(I:Inv X pins σ H s)(hv:Vals ys its)(hz:ys.length <= sizeLine) :
  Inv X pins σ (upd H s.heap.objs.size (.lst ys)) { s with heap:=s.heap.push { cls:=.type "list",data:=.seq its.toArray },toks:=t' }:=
 I.laid (fun _ _ q=>get?_push_of_some _ q) 'e' ⟨hz,its,0,hv,get?_push_size _ rfl⟩
def Inv.fresh(I:Inv X pins σ H s):H s.heap.objs.size=none:=I.hok.fresh 'e'
def Inv.lstM(I:Inv X pins σ H s)(hH:H l=some (.lst xs)):xs.length <= sizeLine/\∃ (its:List Value) (n:Nat),Vals xs its/\xs.length=its.length/\s.heap.get? l=some { cls:=.type "list",data:=.seq its.toArray n }:=by
 obtain⟨z,its,n,r,e⟩:=I.hok l _ hH;exact⟨z,its,n,r,r.length,e⟩
def qc0d{n:Nat}(h:n <= sizeLine):Builtin.List.listTooLong n=false:=by
 unfold Builtin.List.listTooLong;exact decide_eq_false 'o'
end
section
variable{X:Cx}
noncomputable def qb7q:V->List V->Hp->VK->Prop:=fun x vs H Q=>∃ l xs y,x=.ref l/\vs=[y]/\H l=some (.lst xs)/\xs.length < sizeLine/\Q .non (upd H l (.lst (xs ++ [y])))
def qb2p:MtM X "list.append" qb7q:=by
 intro pins s σ H x vs v us Q I rx rv h;obtain⟨l,xs,y,rfl,rfl,hH,hz,q⟩:=h;cases rx;obtain⟨u,rfl,ru⟩:=rv.one;obtain⟨z,its,n,r,hl,e⟩:=I.lstM hH;refine call_meets F.slot_list_append ⟨_,e,rfl⟩ F.entry_list_append (F.args_list_append_2 _ _) (PySem.list_append l its.toArray n u (by rw [size_toArray];omega)) ⟨e,?_⟩;refine⟨.non,_,I.lset (its':=its ++ [u]) hH e 'h' (r.append (.cons ru .nil)) ?_,rfl,q⟩;rw [length_append,List.length_singleton];omega
def rCat:R2:=fun x y H Q=>∃ l b xs zs,x=.ref l/\y=.ref b/\H l=some (.lst xs)/\H b=some (.lst zs)/\xs.length + zs.length <= sizeLine/\∀ p,H p=none->Q (.ref p) (upd H p (.lst (xs ++ zs)))
def op_cat:OpR X (binaryOp .Add) rCat:=by
 intro pins s σ H x y v u Q I rx ry h;obtain⟨l,b,xs,zs,rfl,rfl,hH,hB,hz,q⟩:=h;cases rx;cases ry;obtain⟨z,its,n,r,hl,e⟩:=I.lstM hH;obtain⟨z2,its2,n2,r2,hl2,e2⟩:=I.lstM hB;refine PySem.P.add_list e e2 ?_ (by rw [size_toArray,size_toArray];omega);have ea:its.toArray ++ its2.toArray=(its ++ its2).toArray:=by simp
 rw [ea];exact⟨.ref _,_,I.lnew (t':=s.toks) (r.append r2) (by rw [length_append];omega),rfl,q _ I.fresh⟩
def rRep:R2:=fun x y H Q=>∃ l k xs,x=.ref l/\y=.int k/\H l=some (.lst xs) /\ -(2 ^ 63) <= k/\k < 2 ^ 63/\xs.length * k.toNat <= sizeLine /\
 ∀ p,H p=none->Q (.ref p) (upd H p (.lst (List.replicate k.toNat xs).flatten))
def len_rep{α:Type}(xs:List α)(k:Nat):(List.replicate k xs).flatten.length=k * xs.length:=by
 induction k with
 | zero=>simp
 | succ k ih=>rw [replicate_succ,flatten_cons,length_append,ih,Nat.succ_mul,Nat.add_comm]
def op_rep:OpR X (binaryOp .Mult) rRep:=by
 intro pins s σ H x y v u Q I rx ry h;obtain⟨l,k,xs,rfl,rfl,hH,h1,h2,hz,q⟩:=h;cases rx;obtain⟨t,rfl⟩:=ry;obtain⟨z,its,n,r,hl,e⟩:=I.lstM hH;have hlen:its.toArray.size * k.toNat <= sizeLine:=by rw [size_toArray,← hl];exact hz
 have hcap:¬ its.toArray.size * k.toNat > (2 ^ 63 - 1) / 8:=by
  have:(sizeLine:Nat) <= (2 ^ 63 - 1) / 8:=by decide
  omega
 have hfit:¬ (!Builtin.List.listFitsIndex k)=true:=by
  rw [fitsIndex_both h1 h2];exact Bool.false_ne_true
 have hlong:¬ Builtin.List.listTooLong (its.toArray.size * k.toNat)=true:=by
  rw [qc0d hlen];exact Bool.false_ne_true
 have hnew:List.foldl (fun x1 x2=>x1 ++ x2) #[] (List.replicate (if its.toArray.isEmpty=true then 0 else k.toNat) its.toArray)=(List.replicate k.toNat its).flatten.toArray:=by
  have f0:∀ m:Nat,List.foldl (fun x1 x2=>x1 ++ x2) #[] (List.replicate m its.toArray)=(List.replicate m its).flatten.toArray:=fun m=>by
   have:=foldl_rep its m [];rw [nil_append] at this;exact this
  rw [f0];cases its with
  | nil=>simp
  | cons a r'=>rw [if_neg 'h']
 refine wpAny_binaryOp_repeat_ref (T:="list") (U:="int") 'd' ⟨_,e,rfl⟩ (fun s'=>typeIs_int s' k t) noFill_list_mul F.fills_int_mul F.slot_int_rmul repeat_list F.slot_int_index.lookup
  (call_meets F.slot_int_rmul (typeIs_int s k t) F.entry_int_rmul (F.args_int_rmul_2 _ _) (int___rmul___int_list k t l its.toArray n)
   ⟨e,rfl,⟨_,e,rfl⟩,call_meets F.slot_list_mul ⟨_,e,rfl⟩ F.entry_list_mul (F.args_list_mul_2 _ _) (AutoListH.list___mul___list_int_3 l its.toArray n k t hfit hcap hlong) ⟨e,?_⟩⟩)
 rw [hnew];exact⟨.ref _,_,I.lnew (t':=s.toks) (r.rep k.toNat) (by rw [len_rep,Nat.mul_comm];exact hz),rfl,q _ I.fresh⟩
end
section
variable{prog:Program}{w:World}{A:Around}{E:Value->Shared->Prop}{s:Shared}
set_option maxRecDepth 100000 in
end
end L2
namespace Att
open PySem PySem.W PySem.Calls PyProof.Rows
def qb6d{P:Params}{h:Heap}:∀ (ns:List Int) (vs:List Value),WellAll P h vs (ns.map WData.int)->IntsAre vs ns:=by
 intro ns;induction ns with
 | nil =>
  intro vs w;rw [map_nil] at w;cases w;exact .nil
 | cons n ns ih =>
  intro vs w;rw [map_cons] at w;cases w with
  | cons a b =>
   cases a
   exact .cons _ _ (ih _ b)
def qd0b{l:OpenLaw}{n:Nat}(hn:l.most=some n){P:Params}{h:Heap}{args:List WData}{vals:List Value}
  (hpre:l.row.toRowW.claim.pre args=true) (hwl:WellAll P h vals args) :
  ∃ a vs ns,vals=[Value.ref a]/\args=[WData.list (ns.map WData.int)]/\h.get? a=some { cls:=.type "list",data:=.seq vs.toArray }/\IntsAre vs ns/\ns.length <= n:=by
 have hsh:WShape.hasAll [] args [.list .int]=true:=(pre_splitW hpre).1;have hc:l.pre.holds [] { args:=args }=true:=(pre_splitW hpre).2;obtain⟨d,r,rfl,h1,h2⟩:=hasAllW_cons hsh;obtain rfl:=hasAllW_nil h2;obtain⟨xs,rfl,h3⟩:=hasW_list h1;obtain⟨ns,rfl⟩:=items_int h3;have hlen:ns.length <= n:=by
  unfold OpenLaw.pre at hc;have h4:(WTm.not (.lt (.lit (.int (n:Int))) (.len (.arg 0)))).holds [] { args:=[.list (ns.map .int)] }=true:=by
   have h4:=(holds_andW hc).1;rw [hn] at h4;exact h4
  have h5:=condW_of h4 (w_not (w_lt w_lit (w_len_list (w_arg rfl))));rw [length_map] at h5;refine Nat.le_of_not_lt fun q=>?_;have q':(n:Int) < ((ns.length:Nat):Int):=by omega
  first
   | (rw [decide_eq_true q'] at h5;exact absurd h5 'd')
   | (simp at h5;omega)
 cases hwl with
 | cons w1 w2 =>
  cases w2
  cases w1 with
  | list ho hall=>exact⟨_,_,ns,rfl,rfl,ho,qb6d ns _ hall,hlen⟩
def qd0c(l:OpenLaw)(args:List WData):l.row.toRowW.claim.post args (.bool true) args=true:=
 postW_of (r:=l.row.toRowW) (X:=(true == true))
  (show WShape.has [] (.bool true) .bool=true by first | rfl | decide | simp [WShape.has,WShape.arms,WShape.armsAll])
  (show(WTm.eq .res (.lit (.bool true))).value [] { args:=args,res:=some (.bool true),after:=args }=some (.bool (true == true)) from w_eq_bool (w_res rfl) w_lit) rfl
def attach_call{l:OpenLaw}{n:Nat}{q:Program}{loose:List Str}{XP:(Str->Option Value)->Heap->Prop}{YP:World->Heap->Prop}{d:DefRec}
  (hn:l.most=some n) (hdf:d.params.defaults=[])
  (call:∀ (w:World) (s₀ s₁:Shared) (mg mb:Str->Option Value) (fa:Addr) (o:Obj) (pm cd doc:Value) (a:Addr) (vs:List Value) (ns:List Int),
   Ground q loose [] XP w s₀ mg mb s₁.heap->YP w s₁.heap ->
   s₁.heap.get? fa=some o->o.data=.func (docDef d.name d.params d.body d.scope pm cd doc)->s₁.heap.CodeRec cd d.name->mg d.name=some (.ref fa) ->
   s₁.heap.get? a=some { cls:=.type "list",data:=.seq vs.toArray }->IntsAre vs ns->ns.length <= n->s₁.gens = #[] ->
   codeAny (model l.prog w) callerA (.call (.ref fa) ⟨[.ref a],[]⟩) (fun r s'=>r=.ok (.ret (.bool true))/\OldK s₁.heap s'.heap/\s'.os=s₁.os/\AllBare s'.gens) s₁) :
  WalkO q loose XP YP l.row.toRowW d [] (fun f vs=>PySem.call f vs):=by
 intro w s₀ s₁ mg mb G Y fa o pm cd doc dV kV ho hd hcd hD hmg hg args vals as hpre hlay hrd hwl hlo;obtain rfl:dV=.none:=Dflts.none hD hdf;obtain rfl:kV=.none:=Dflts.noKw hD;obtain⟨a,vs,ns,rfl,rfl,hobj,hints,hlen⟩:=qd0b hn hpre hwl;refine enter_call (codeAny_mono (call w s₀ s₁ mg mb fa o pm cd doc a vs ns G Y ho (fd_plain hd) hcd hmg hobj hints hlen hg) fun r s' hq=>?_);obtain⟨rfl,h2,h3,h4⟩:=hq;exact⟨.inl ⟨.bool true,.bool true,[],rfl,fun _=>rfl,.bool true,qd0c l _,fun _=>⟨List.Pairwise.nil,fun _ hm=>(nomatch hm)⟩⟩,h2,h3,h4⟩
end Att
namespace L2
open PySem PySem.Spec PyProof.Rows
def qb8p:∀ {vs:List Value} {ns:List Int},IntsAre vs ns->Vals (ns.map V.int) vs
 | _,_,.nil=>.nil
 | _,_,.cons n t h=>.cons ⟨t,rfl⟩ (qb8p h)
def Only(H:Hp):Prop:=∀ b,H b=none ∨ ∃ o xs,H b=some (.frz o (.lst xs))
def qd2s{P:Program}{w:World}{K:W.Frag}{mg mb:Str->Option Value}{CX:CXT}{k:Nat}{fa a:Addr}{fd:FuncData}{x:Str}{sp:Sp}{s₁:Shared}{vs:List Value}{ns:List Int}
  (KX:K.In s₁.heap) (hns:s₁.heap.Ns mainGlobals mg) (hb:s₁.heap.Ns builtinsNs mb) (hbb:∀ x:Str,x ≠ "__name__" -> mb x=bootBuiltins x) (hlim:s₁.heap.NoLimit) (hg:s₁.gens = #[])
  (ha:s₁.heap.get? a=some { cls:=.type "list",data:=.seq vs.toArray }) (hi:IntsAre vs ns) (hl:ns.length <= sizeLine) (hr:Room k callerA)
  (F:∀ base:Heap,K.In base->base.Ns mainGlobals mg->FnOk P w K mg base CX k fa fd [x] sp) (hbind:∀ (s:Shared) (u:Value),BindsTo s fd ⟨[u],[]⟩ [(x,u)])
  (hsp:∀ H:Hp,Only H->SqL K H a (ns.map V.int)->sp [.ref a] H (fun v _=>v=.bl true) fun _ _ _=>False)
  (hCX:∀ H e s',CX [] H s₁ (fun _ _ _=>False) e s'->False) :
  codeAny (model P w) callerA (.call (.ref fa) ⟨[.ref a],[]⟩) (fun r s'=>r=.ok (.ret (.bool true))/\OldK s₁.heap s'.heap/\s'.os=s₁.os/\AllBare s'.gens) s₁:=by
 have rv:=qb8p hi;have lenV:=hi.length
 -- from an abstract heap in which nothing but the script may be tracked
 have core:∀ H:Hp,Only H->SqL K H a (ns.map V.int)->HOk P w H s₁.heap->(∀ b,H b ≠ none->b=a)->(H a ≠ none->K.lookup a=none) ->
   codeAny (model P w) callerA (.call (.ref fa) ⟨[.ref a],[]⟩) (fun r s'=>r=.ok (.ret (.bool true))/\OldK s₁.heap s'.heap/\s'.os=s₁.os/\AllBare s'.gens) s₁:=by
  intro H hO hS hok hA hK;have base_of:∀ {b:Addr} {o:Obj},s₁.heap.get? b=some o->H b=none->(hidT s₁.heap H).get? b=some o:=fun e n=>qd2l e n;have noA:∀ {b:Addr} {o:Obj} {es:Array DictEntry} {ep:Nat},s₁.heap.get? b=some o->o.data=.dict es ep->H b=none:=fun{b o es ep} e d=>by
   cases q:H b with
   | none=>rfl
   | some u =>
    have e':b=a:=hA b (by rw [q];simp);subst e';rw [ha] at e;cases e;have d':Data.seq vs.toArray _=Data.dict es ep:=d;cases d'
  have nsK:∀ {b:Addr} {m:Str->Option Value},s₁.heap.Ns b m->(hidT s₁.heap H).Ns b m:=fun{b m} ⟨o,es,ep,e,d,r⟩=>⟨o,es,ep,base_of e (noA e d),d,r⟩;have hKb:K.In (hidT s₁.heap H):=fun b o e=>base_of (KX b o e) (by
   cases q:H b with
   | none=>rfl
   | some u =>
    have e':b=a:=hA b (by rw [q];simp);subst e';rw [hK (by rw [q];simp)] at e;cases e)
  have hM:Mod K mg (hidT s₁.heap H):=⟨hKb,nsK hns,⟨mb,nsK hb,hbb⟩,let ⟨mc,h1,h2⟩:=hlim;⟨mc,nsK h1,h2⟩⟩;have e0:Env0 P w K mg (hidT s₁.heap H) callerA [] s₁ H:=⟨rfl,hM,fun b o e=>of_hidT e,Nat.le_of_eq (qc9u _ _),trivial,fun b hb=>absurd (show b ∈ ([]:List Addr) from hb) 'h',hok,.of_eq hg⟩;refine codeAny_mono ((F _ hKb (nsK hns)).run callerA [] s₁ H ⟨[.ref a],[]⟩ [.ref a] [.ref a] _ _ hr e0 (hbind s₁ (.ref a)) (.cons rfl .nil) (hsp H hO hS)) fun r s' h=>?_;cases r with
  | error e=>exact(hCX H e s' h).elim
  | ok fl =>
   cases fl with
   | next=>exact False.elim h
   | brk=>exact False.elim h
   | cont=>exact False.elim h
   | ret u =>
    obtain⟨v,H',os,bare,un,hok',r',q⟩:=h;have q':v=.bl true:=q;subst q';obtain rfl:u=Value.bool true:=r';refine⟨rfl,OldK.of_keep fun b o e=>?_,os,bare⟩;cases q:H b with
    | none=>exact un.keep b o e q (by intro z;exact absurd (show b ∈ ([]:List Addr) from z) 'h') 'h'
    | some u =>
     rcases hO b with z | ⟨ob,xs,z⟩
     ·rw [q] at z;cases z
     ·have z2:=un.frzs b ob _ z
      obtain⟨e1,_⟩:=hok b _ z;obtain⟨e2,_⟩:=hok' b _ z2;rw [e] at e1;cases e1;exact e2
 cases hk:K.lookup a with
 | some o =>
  -- the script is one of the module's own objects
  have e:=KX a o hk;rw [ha] at e;cases e;refine core (fun _=>none) (fun _=>.inl rfl) (.inr ⟨_,vs.toArray,_,hk,rfl,rfl,rfl,by rw [size_toArray,lenV];exact hl,by simpa using rv⟩) (fun b u z=>by have z':(none:Option HO)=some u:=z;cases z') (fun b z=>absurd rfl z) fun z=>absurd rfl z
 | none =>
  refine core (fun b=>if b=a then some (.frz { cls:=.type "list",data:=.seq vs.toArray } (.lst (ns.map V.int))) else none) (fun b=>?_) (.inl (.inr ⟨{ cls:=.type "list",data:=.seq vs.toArray },if_pos rfl⟩)) (fun b u z=>?_) (fun b z=>?_) fun _=>hk
  ·by_cases hb:b=a
   ·exact .inr ⟨_,_,if_pos hb⟩
   ·exact .inl (if_neg hb)
  ·by_cases hb:b=a
   ·have z':=(if_pos hb).symm.trans z
    cases z'
    subst hb;exact⟨ha,by rw [length_map];exact hl,vs,_,rv,ha⟩
   ·have z':=(if_neg hb).symm.trans z
    cases z'
  ·by_cases hb:b=a
   ·exact hb
   ·exact absurd (if_neg hb) z
end L2
namespace L2
open PySem PySem.Spec PyProof.Rows
def walk_of{l:PySem.W.OpenLaw}{n k:Nat}{q:Program}{loose:List Str}{XP:(Str->Option Value)->Heap->Prop}{YP:World->Heap->Prop}{d:DefRec}{K:Params->W.Frag}{CX:World->CXT}{sp:World->Sp}{x:Str}
  (hn:l.most=some n) (hn2:n <= sizeLine) (hdf:d.params.defaults=[]) (hr:Room k callerA)
  (hY:∀ (w:World) (h:Heap),YP w h->(K w.params).In h)
  (F:∀ (w:World) (mg:Str->Option Value) (fa:Addr) (h:Heap),(K w.params).In h->h.Ns mainGlobals mg->mg d.name=some (.ref fa) ->
   ∃ fd:FuncData,(∀ (s:Shared) (u:Value),BindsTo s fd ⟨[u],[]⟩ [(x,u)]) /\
    ∀ base:Heap,(K w.params).In base->base.Ns mainGlobals mg->FnOk l.prog w (K w.params) mg base (CX w) k fa fd [x] (sp w))
  (hsp:∀ (w:World) (H:Hp) (a:Addr) (ns:List Int),ns.length <= n->Only H->SqL (K w.params) H a (ns.map V.int)->sp w [.ref a] H (fun v _=>v=.bl true) fun _ _ _=>False)
  (hCX:∀ (w:World) (H:Hp) (s:Shared) (e:Value) (s':Shared),CX w [] H s (fun _ _ _=>False) e s'->False) :
  PySem.W.WalkO q loose XP YP l.row.toRowW d [] (fun f vs=>PySem.call f vs):=by
 refine Att.attach_call hn hdf fun w s₀ s₁ mg mb fa o pm cd doc a vs ns G Y ho hd hcd hmg hobj hints hlen hg=>?_;have KX:=hY w _ Y;obtain⟨fd,hb,hF⟩:=F w mg fa _ KX G.T.g hmg;exact qd2s KX G.T.g G.T.b G.T.builtins G.T.nolimit hg hobj hints (le_trans hlen hn2) hr hF hb (fun H hO hS=>hsp w H a ns hlen hO hS) fun H e s'=>hCX w H s₁ e s'
end L2
namespace L2
open PySem PySem.Spec PyProof.Rows
noncomputable def qa6n(s:Stmt):Arguments:=match s with
 | .FunctionDef _ a _ _ _ _ _ _ _ _=>a
 | _=>{ posonlyargs:=[],args:=[],vararg:=none,kwonlyargs:=[],kw_defaults:=[],kwarg:=none,defaults:=[] }
noncomputable def qa4q(s:Stmt):List Stmt:=match s with
 | .FunctionDef _ _ b _ _ _ _ _ _ _=>b
 | _=>[]
noncomputable def qa0l(s:Stmt):Scope:=match s with
 | .FunctionDef _ _ _ _ _ _ sc _ _ _=>sc
 | _=>{ kind:=.function,names:=[],isGenerator:=false,isCoroutine:=false }
abbrev CX0:CXT:=fun _ _ _ _ _ _=>False
abbrev E0:XK:=fun _ _ _=>False
def pass0{X:Cx}:qb9x CX0 X E0:=fun _ _ _ _ _ _ _ h=>h.elim
structure Fun(K:W.Frag)(x qual:Str)(st:Stmt)(f:Addr)(fd:FuncData):Prop where
 ex:∃ (oc:Value) (od:Option Addr) (kV doc pm:Value) (an:Option Addr) (cdv ct:Value) (osl:Array (Option Value)),
  fd=PySem.W.fnOf x qual (qa6n st) (qa4q st) (qa0l st) .none kV doc pm an cdv ct/\K.lookup f=some ⟨oc,od,.func fd,osl⟩/\PySem.W.codeIn K cdv qual=true
 kp:PySem.W.keepIn K (.ref f)=true
section
variable{P:Program}{w:World}{K:W.Frag}{mg:Str->Option Value}{base:Heap}
def Fun.ok{x qual:Str}{st:Stmt}{f:Addr}{fd:FuncData}{N ps:List Str}{k:Nat}{sp:Sp}(F:Fun K x qual st f fd)(S:FnScope N ps (qa0l st))(len:∀ vs H Q E,sp vs H Q E->vs.length=ps.length)
  (hbody:∀ (cdv:Value) (A:Around) (outer:List Env) (s:Shared) (H:Hp) (vs:List V) (Q:VK) (E:XK),Room k (A.deeper (envOfC qual (qa0l st) s.heap.objs.size f cdv))->sp vs H Q E ->
   ∃ t,PSs (cxOf CX0 P w K mg base N qual (qa0l st) f cdv A outer s H E).nox (qa4q st) t/\t { nx:=fun _ H'=>Q .non H',rt:=Q } (start N vs) H):FnOk P w K mg base CX0 (k + 1) f fd ps sp:=by
 obtain⟨oc,od,kV,doc,pm,an,cdv,ct,osl,rfl,lk,hcd⟩:=F.ex;refine fn_of lk hcd S len fun A outer s H vs Q E hr hsp=>?_;obtain⟨t,h,q⟩:=hbody cdv A outer s H vs Q E hr hsp;exact⟨t,h.nox,q⟩
def Fun.binds{x qual:Str}{st:Stmt}{f:Addr}{fd:FuncData}{ps:List Str}(F:Fun K x qual st f fd)
  (h:∀ (kV doc pm:Value) (an:Option Addr) (cdv ct:Value) (us:List Value),us.length=ps.length->bindArgs (PySem.W.fnOf x qual (qa6n st) (qa4q st) (qa0l st) .none kV doc pm an cdv ct) ⟨us,[]⟩=pure (ps.zip us)):Binds K fd ps []:=by
 obtain⟨oc,od,kV,doc,pm,an,cdv,ct,osl,rfl,lk,hcd⟩:=F.ex;exact .all (h kV doc pm an cdv ct)
def qa9e{x qual:Str}{st:Stmt}{f:Addr}{oc:Value}{od an:Option Addr}{osl:Array (Option Value)}{kV doc pm cdv ct:Value}(l:K.lookup f=some ⟨oc,od,.func (PySem.W.fnOf x qual (qa6n st) (qa4q st) (qa0l st) .none kV doc pm an cdv ct),osl⟩)
  (c:PySem.W.codeIn K cdv qual=true) (k:PySem.W.keepIn K (.ref f)=true):Fun K x qual st f (PySem.W.fnOf x qual (qa6n st) (qa4q st) (qa0l st) .none kV doc pm an cdv ct):=⟨⟨oc,od,kV,doc,pm,an,cdv,ct,osl,rfl,l,c⟩,k⟩
end
def qb2q{n:Nat}(h:n <= 1000):n < sizeLine:=Nat.lt_of_le_of_lt h 'd'
section
variable{X:Cx}
def pv(i:Nat){x:Str}{pos:Pos}(hN:X.N[i]? = some x:=by rfl)(hv:Vis X.env.scope x:=by first | exact Or.inl rfl | exact Or.inr 'c' | exact Or.inr (Or.inr rfl)) (hd:(x == ("__debug__" : Str))=false:=by decide)
  (hcd:(x == ("__classdict__" : Str))=false:=by decide):PE X (.Name x pos) (tVar i):=qa9b hN hv hd hcd
end
def ite2{c A B:Prop}[Decidable c](h1:c->A)(h2:¬ c->B):if c then A else B:=by
 by_cases h:c
 ·rw [if_pos h]
  exact h1 h
 ·rw [if_neg h]
  exact h2 h
def Same(H H':Hp):Prop:=∀ b o,H b=some o->H' b=some o
def Same.refl(H:Hp):Same H H:=fun _ _ h=>h
def Same.trans{H H1 H2:Hp}(a:Same H H1)(b:Same H1 H2):Same H H2:=fun c o h=>b c o (a c o h)
def Same.free{H H':Hp}(e:Same H H'){l:Addr}(h:H' l=Option.none):H l=Option.none:=by
 cases q:H l with
 | none=>rfl
 | some o =>
  rw [e l o q] at h;cases h
end L2
end
section
namespace Sx
open PySem
abbrev Up(xs:Array Nat):Prop:=∀ i k:Nat,i < k->∀ hk:k < xs.size,∀ hi:i < xs.size,xs[i] < xs[k]
structure Bel(xs:Array Nat)(j r:Nat):Prop where
 le:r <= xs.size
 lo:∀ i,i < r->∀ h:i < xs.size,xs[i] < j
 hi:∀ i,r <= i->∀ h:i < xs.size,j <= xs[i]
def go_bel{xs:Array Nat}(up:Up xs)(j:Nat):∀ (f lo hi:Nat),hi - lo <= f->lo <= hi->hi <= xs.size->(∀ i,i < lo->∀ h:i < xs.size,xs[i] < j)->(∀ i,hi <= i->∀ h:i < xs.size,j <= xs[i])->Bel xs j (SetTable.below.go xs j f lo hi):=by
 intro f;induction f with
 | zero =>
  intro lo hi hf h1 h2 a b;have e:lo=hi:=by omega
  subst e;exact⟨h2,a,b⟩
 | succ f ih =>
  intro lo hi hf h1 h2 a b;unfold SetTable.below.go;by_cases hlt:lo < hi
  ·rw [if_pos hlt]
   have hm:(lo + hi) / 2 < xs.size:=by omega
   have eg:xs.getD ((lo + hi) / 2) j=xs[(lo + hi) / 2]:=by
    rw [getD_eq_getD_getElem?,Array.getElem?_eq_getElem hm];rfl
   dsimp only
   rw [eg];by_cases hc:xs[(lo + hi) / 2] < j
   ·rw [if_pos hc]
    refine ih _ _ 'o' 'o' h2 (fun i hi' h=>?_) b;by_cases e:i=(lo + hi) / 2
    ·subst e;exact hc
    ·exact lt_trans (up i ((lo + hi) / 2) 'o' hm h) hc
   ·rw [if_neg hc]
    refine ih _ _ 'o' 'o' 'o' a (fun i hi' h=>?_);by_cases e:i=(lo + hi) / 2
    ·subst e;omega
    ·have:=up ((lo + hi) / 2) i 'o' h hm
     omega
  ·rw [if_neg hlt]
   have e:lo=hi:=by omega
   subst e;exact⟨h2,a,b⟩
def bel{xs:Array Nat}(up:Up xs)(j:Nat):Bel xs j (SetTable.below xs j):=
 go_bel up j xs.size 0 xs.size 'o' 'o' 'e' (fun i h=>absurd h (Nat.not_lt_zero _)) (fun i h1 h2=>absurd h2 'o')
def Bel.eq{xs:Array Nat}{j r r':Nat}(a:Bel xs j r)(b:Bel xs j r'):r=r':=by
 rcases Nat.lt_trichotomy r r' with h | h | h
 ·have h1:=a.hi r 'e' (by have:=b.le;omega)
  have h2:=b.lo r h (by have:=b.le;omega);omega
 ·exact h
 ·have h1:=b.hi r' 'e' (by have:=a.le;omega)
  have h2:=a.lo r' h (by have:=a.le;omega);omega
def qc7q{xs:Array Nat}(up:Up xs){i:Nat}(h:i < xs.size):SetTable.below xs (xs[i] + 1)=i + 1:=
 (bel up _).eq ⟨h,fun k hk hs=>by
  by_cases e:k=i
  ·subst e;omega
  ·have:=up k i 'o' h hs
   omega,fun k hk hs=>by have:=up i k 'o' hs h;omega⟩
def qc7r{xs:Array Nat}(up:Up xs):SetTable.below xs 0=0:=
 (bel up _).eq ⟨zero_le _,fun i h=>absurd h (Nat.not_lt_zero _),fun i h1 h2=>zero_le _⟩
abbrev UpL(xs:List Nat):Prop:=xs.Pairwise (· < ·)
def up_of{xs:Array Nat}(h:UpL xs.toList):Up xs:=fun i k hik hk hi=>by
 have:=pairwise_iff_getElem.mp h i k (by simpa using hi) (by simpa using hk) hik;simpa using this
def put_up{xs:Array Nat}(h:UpL xs.toList){j:Nat}(hj:¬ xs[SetTable.below xs j]? = some j):UpL (SetTable.insertAt xs (SetTable.below xs j) j).toList:=by
 have b:=bel (up_of h) j;generalize SetTable.below xs j=r at b hj;rw [SetTable.toList_insertAt];have h0:UpL (xs.toList.take r ++ xs.toList.drop r):=by rw [List.take_append_drop];exact h
 obtain⟨h1,h2,h3⟩:=List.pairwise_append.mp h0;have lo:∀ a ∈ xs.toList.take r,a < j:=fun a ha=>by
  obtain⟨i,hi,e⟩:=getElem_of_mem ha;rw [length_take] at hi;rw [List.getElem_take] at e;have hs:i < xs.size:=by simp at hi;omega
  have:=b.lo i 'o' hs;rw [← e];simpa using this
 have hi:∀ a ∈ xs.toList.drop r,j < a:=fun a ha=>by
  obtain⟨i,hi,e⟩:=getElem_of_mem ha;rw [length_drop] at hi;rw [List.getElem_drop] at e;have hs:r + i < xs.size:=by simp at hi;omega
  have h5:=b.hi (r + i) 'o' hs;have e':xs[r + i]=a:=by rw [← e];simp
  have hr:r < xs.size:=by omega
  have h6:=b.hi r 'e' hr;have h7:xs[r] ≠ j:=fun e=>hj (by rw [Array.getElem?_eq_getElem hr,e]);by_cases e0:i=0
  ·subst e0
   simp only [Nat.add_zero] at e';omega
  ·have:=up_of h r (r + i) 'o' hs hr
   omega
 refine List.pairwise_append.mpr ⟨h1,pairwise_cons.mpr ⟨hi,h2⟩,fun a ha c hc=>?_⟩;rcases mem_cons.mp hc with rfl | hc
 ·exact lo a ha
 ·exact h3 a ha c hc
structure TOk(t:SetTable):Prop where
 none:t.dummies = #[]
 up:UpL t.place.toList
def qd0d(f m:Nat)(l:Bool):TOk (SetTable.fresh f m l):=⟨rfl,List.Pairwise.nil⟩
def qb8q(n:Nat):UpL (List.range n):=pairwise_lt_range
def qa6y(t:SetTable)(n:Nat):TOk (t.standIn n):=⟨rfl,by
 show UpL (Array.range n).toList;rw [Array.toList_range];exact qb8q n⟩
def tok_or{t:SetTable}(h:TOk t)(n:Nat):TOk (t.orStandIn n):=by
 unfold SetTable.orStandIn;split
 ·exact h
 ·exact qa6y t n
def qc5l(j:Nat):SetTable.has #[] j=false:=by
 unfold SetTable.has;simp
def qd2t{t:SetTable}(h:TOk t)(f:Nat->Int)(hh:Int):∀ (n:Nat) (p:SetTable.Probe),p.dummy=none->∀ j d,SetTable.probe.go t f hh n p=some (.empty j d)->d=none/\t.slot j=.empty:=by
 intro n;induction n with
 | zero=>intro p hp j d e;unfold SetTable.probe.go at e;cases e
 | succ n ih =>
  intro p hp j d e;unfold SetTable.probe.go at e;have adv:∀ q:SetTable.Probe,q.dummy=none->(t.advance q).dummy=none:=fun q hq=>by
   unfold SetTable.advance;split
   ·exact hq
   ·exact hq
  split at e
  ·rename_i hs
   injection e with e
   injection e with e1 e2
   subst e1;exact⟨by rw [← e2,hp],hs⟩
  ·rename_i hs
   exfalso
   unfold SetTable.slot at hs
   dsimp only at hs
   rw [h.none,qc5l] at hs;split at hs<;>cases hs
  ·split at e
   ·injection e with e;cases e
   ·exact ih _ (adv _ hp) j d e
def qc7s{t:SetTable}(h:TOk t){hh:Int}{j:Nat}{b:Bool}(e:t.freeSlot hh=some (j,b)):t.slot j=.empty:=by
 unfold SetTable.freeSlot SetTable.probe at e;split at e
 ·rename_i j' d hp
  obtain⟨hd,hs⟩:=qd2t h _ _ _ _ rfl _ _ hp;injection e with e
  injection e with e1 e2
  subst hd;subst e1;exact hs
 ·cases e
def tok_put{t:SetTable}(h:TOk t){j:Nat}(hs:t.slot j=.empty):TOk (t.put j).1:=by
 have hj:¬ t.place[SetTable.below t.place j]? = some j:=fun e=>by
  unfold SetTable.slot at hs
  dsimp only at hs
  rw [e] at hs;simp at hs
 refine⟨?_,?_⟩
 ·unfold SetTable.put
  dsimp only
  rw [h.none,qc5l];rfl
 ·exact put_up h.up hj
def qc7t{t:SetTable}(h:TOk t)(es:Array 's')(hh:Int)(x:Value):TOk (layNew t es hh x).2.1:=by
 unfold layNew;split
 ·rename_i slot d e
  exact tok_or (tok_put h (qc7s h e)) _
 ·exact qa6y _ _
def qd0e{t:SetTable}(h:TOk t)(b:Bool):TOk { t with plain:=b }:=⟨h.none,h.up⟩
def qd2u{mask f m:Nat}{l p:Bool}{hs:Array Int}{r:SetTable × Array Nat}(e:SetTable.laid mask f m l p hs=some r):TOk r.1:=by
 unfold SetTable.laid at e;cases ho:SetTable.layClean mask hs with
 | none=>rw [ho] at e;cases e
 | some owner =>
  rw [ho] at e;cases e;refine⟨rfl,?_⟩;show UpL (List.map (fun q:Nat × Nat=>q.1) _);have key:∀ (l:List Nat),UpL l->UpL (List.map (fun q:Nat × Nat=>q.1) (l.filterMap fun j=>(owner.getD j none).map (j,·))):=by
   intro l hl;refine pairwise_map.mpr ?_;refine List.Pairwise.filterMap _ (fun a a' haa b hb c hc=>?_) hl;cases ha:owner.getD a none with
   | none=>rw [ha] at hb;cases hb
   | some u =>
    cases ha':owner.getD a' none with
    | none=>rw [ha'] at hc;cases hc
    | some u' =>
     rw [ha] at hb;rw [ha'] at hc;cases hb;cases hc;exact haa
  exact key _ (qb8q _)
def qd0f{t:SetTable}(h:TOk t)(es:Array 's')(n:Nat):TOk (relayAll t es n).2.1:=by
 unfold relayAll;split
 ·rename_i t' order e
  dsimp only
  split
  ·exact qd2u e
  ·exact qa6y _ _
 ·exact qa6y _ _
def qc7u(t:SetTable)(es:Array 's')(hh:Int)(x:Value):(layNew t es hh x).2.1.led=t.led:=by
 unfold layNew;split
 ·dsimp only
  unfold SetTable.orStandIn;split<;>rfl
 ·rfl
def qd0g(t:SetTable)(es:Array 's')(n:Nat):(relayAll t es n).2.1.led=t.led:=by
 unfold relayAll;split
 ·rename_i t' order e
  dsimp only
  split
  ·unfold SetTable.relaid SetTable.laid at e
   cases ho:SetTable.layClean (SetTable.sizeAbove n - 1) (es.map (·.1)) with
   | none=>rw [ho] at e;cases e
   | some owner=>rw [ho] at e;cases e;rfl
  ·rfl
 ·rfl
end Sx
end
section
namespace Sx
open PySem
section
variable{prog:Program}{w:World}{K:Type}[DecidableEq K](knd:KeyKind prog w K)(dec:Value->K)
structure Fc(ks:List K)(es:Array 's')(t:SetTable):Prop where
 el:ElemsOf knd es.toList
 pm:(es.toList.map fun e=>dec e.2).Perm ks
 nd:ks.Nodup
 sz:es.size < scanBound
 ft:t.fits es.size=true
 ok:TOk t
 ld:t.led = !w.params.followText "set-order"
abbrev setO(es:Array 's')(ep:Nat)(t:SetTable):Obj:={ cls:=.type "set",dict:=none,data:=.set es ep t,slots:=#[] }
def SetV(h:Heap)(a:Addr)(ks:List K):Prop:=∃ es ep t,h.get? a=some (setO es ep t)/\Fc knd dec ks es t
noncomputable def ins(ks:List K)(k:K):List K:=if k ∈ ks then ks else ks ++ [k]
variable{knd dec}
variable{A:Around}{E:Value->Shared->Prop}{s:Shared}
def Fc.relay{ks:List K}{es:Array 's'}{t:SetTable}(F:Fc knd dec ks es t)(n:Nat):Fc knd dec ks (relayAll t es n).1 (relayAll t es n).2.1:=by
 have p:=relayAll_perm t es n;have z:(relayAll t es n).1.size=es.size:=by rw [← length_toList,p.length_eq,length_toList]
 exact⟨F.el.perm p,(p.map _).trans F.pm,F.nd,by rw [z];exact F.sz,relayAll_fits t es n,qd0f F.ok es n,by rw [qd0g];exact F.ld⟩
def Fc.plain{ks:List K}{es:Array 's'}{t:SetTable}(F:Fc knd dec ks es t):Fc knd dec ks es { t with plain:=false }:=
 ⟨F.el,F.pm,F.nd,F.sz,SetTable.fits_plain_off F.ft,qd0e F.ok _,F.ld⟩
def Fc.lay{ks:List K}{es:Array 's'}{t:SetTable}(F:Fc knd dec ks es t)(hdec:∀ k v,knd.is k v=true->dec v=k){k:K}{x:Value}(hk:knd.is k x=true)(hx:x.scannable=true)(hn:k ∉ ks)(hr:ks.length + 1 < scanBound) :
  Fc knd dec (ks ++ [k]) (layNew t es (knd.hash k) x).1 (layNew t es (knd.hash k) x).2.1:=by
 have p:=layNew_perm t es (knd.hash k) x;rw [Array.toList_push] at p;have z0:es.size=ks.length:=by have:=F.pm.length_eq;simpa using this
 have z:(layNew t es (knd.hash k) x).1.size=es.size + 1:=by rw [← length_toList,p.length_eq];simp
 refine⟨(F.el.push hk hx).perm p,?_,?_,by rw [z,z0];exact hr,layNew_fits t es _ x,qc7t F.ok es _ x,by rw [qc7u];exact F.ld⟩
 ·have p2:=p.map (fun e=>dec e.2)
  rw [map_append] at p2;have e1:List.map (fun e:Int × Value=>dec e.2) [(knd.hash k,x)]=[k]:=by simp [hdec k x hk]
  rw [e1] at p2;exact p2.trans (F.pm.append_right [k])
 ·rw [nodup_append]
  refine⟨F.nd,pairwise_singleton _ k,fun a ha b hb=>?_⟩;rw [mem_singleton] at hb;subst hb;exact fun e=>hn (e ▸ ha)
def qb8r{h:Heap}{a:Addr}{es:Array 's'}{ep:Nat}{t:SetTable}(ho:h.get? a=some (setO es ep t))(es':Array 's')(t':SetTable):(h.update a (Obj.putSet es' t')).get? a=some (setO es' (ep + 1) t'):=by
 have:=get?_update_self (Obj.putSet es' t') ho (by rw [putSet_of es' t' rfl];rfl);rw [putSet_of es' t' rfl] at this;exact this
def tail_v{g:Bool->Sem Unit}(hg:∀ (b:Bool) (s₁:Shared) (Q':Unit->Shared->Prop),Q' () s₁->wpAny (model prog w) A (g b) Q' E s₁){a:Addr}{es:Array 's'}{ep:Nat}{t:SetTable}(ho:s.heap.get? a=some (setO es ep t))
  {ks:List K} {e1:Array 's'} {t1:SetTable} (F:Fc knd dec ks e1 t1) {wd:Bool} {R:Option Bool->Shared->Prop} (h:∀ h',Heap.SameBut a s.heap h'->SetV knd dec h' a ks->R (some true) { s with heap:=h' }) :
  wpAny (model prog w) A (do
    storeSet a e1 t1
    if (!wd && t1.tooFull)=true then do
      g (relayAll t1 e1 (SetTable.grown e1.size)).2.2;storeSet a (relayAll t1 e1 (SetTable.grown e1.size)).1 (relayAll t1 e1 (SetTable.grown e1.size)).2.1
      pure (some true)
     else pure (some true)) R E s:=by
 refine wpAny_bind (wpAny_storeSet_of ho rfl ?_ (fits_of_scanBound F.sz));have o1:=qb8r ho e1 t1;have b1:=Heap.SameBut.update s.heap a (Obj.putSet e1 t1);split
 ·have F2:=F.relay (SetTable.grown e1.size)
  generalize relayAll t1 e1 (SetTable.grown e1.size)=Rl at F2 ⊢;refine wpAny_bind (hg _ _ _ (wpAny_bind (wpAny_storeSet_of o1 rfl ?_ (fits_of_scanBound F2.sz))));exact wpAny_pure (h _ (b1.trans (Heap.SameBut.update _ a _)) ⟨_,_,_,qb8r o1 _ _,F2⟩)
 ·exact wpAny_pure (h _ b1 ⟨_,_,_,o1,F⟩)
def addH_v(hdec:∀ k v,knd.is k v=true->dec v=k){a:Addr}{ks:List K}{k:K}{x:Value}{Q:Bool->Shared->Prop}(hk:knd.is k x=true)(hx:x.scannable=true)(hS:SetV knd dec s.heap a ks)(hr:ks.length + 1 < scanBound)
  (h:∀ b h',Heap.SameBut a s.heap h'->SetV knd dec h' a (ins ks k)->Q b { s with heap:=h' }):wpAny (model prog w) A (setAddHashed a x (knd.hash k)) Q E s:=by
 obtain⟨es,ep,t,ho,F⟩:=hS;unfold setAddHashed;unfold setAddHashedIn;refine wpAny_holding (wpAny_bind (wpAny_setState_of ho rfl F.ft ?_))
 dsimp only
 rw [byScan_of hx F.sz F.el];simp only [↓reduceIte];unfold setAddByScan;refine wpAny_bind (wpAny_bind (wpAny_rule (wpAny_bind (wpAny_setScan_of hk ho rfl F.ft F.el ?_))));cases hf:List.findIdx? (fun e=>knd.is k e.2) es.toList with
 | some j =>
  obtain⟨hj,hpj,_⟩:=List.findIdx?_eq_some_iff_getElem.mp hf;have hm:k ∈ ks:=F.pm.mem_iff.mp (mem_map.mpr ⟨es.toList[j],getElem_mem hj,hdec _ _ hpj⟩);refine wpAny_pure (wpAny_pure ?_);have:=h false s.heap (Heap.SameBut.refl a s.heap) (by rw [ins,if_pos hm];exact⟨es,ep,t,ho,F⟩);cases s;exact this
 | none =>
  have hn:k ∉ ks:=fun hm=>by
   obtain⟨e,he,q⟩:=mem_map.mp (F.pm.mem_iff.mpr hm);obtain⟨⟨k2,hk2,_⟩,_⟩:=F.el e he;have e2:k2=k:=(hdec _ _ hk2).symm.trans q;have:=List.findIdx?_eq_none_iff.mp hf e he;rw [← e2,hk2] at this;cases this
  have F1:=F.lay hdec hk hx hn hr;have hw:∀ (b:Bool) {s₁:Shared} {Q':Unit->Shared->Prop},Q' () s₁->wpAny (model prog w) A (match b with | true=>rule "set.scan.the-table-gave-way" | false=>pure ()) Q' E s₁:=fun b s₁ Q' hq=>by
   cases b<;>first | exact wpAny_pure hq | exact wpAny_rule hq
  have fin:∀ h',Heap.SameBut a s.heap h'->SetV knd dec h' a (ks ++ [k])->Q true { s with heap:=h' }:=fun h' b1 b2=>h true h' b1 (by rw [ins,if_neg hn];exact b2)
  dsimp only
  generalize layNew t es (knd.hash k) x=L at F1 ⊢;obtain⟨e1,t1,wd,gave⟩:=L
  dsimp only at F1 ⊢
  refine wpAny_bind (hw _ ?_);split
  ·refine wpAny_bind ?_
   rw [hashByValue_scannable 8 hx];refine wpAny_pure (tail_v (knd:=knd) (dec:=dec) ?_ ho (ks:=ks ++ [k]) ?_ ?_)
   ·intro b s₁ Q' hq;cases b<;>first | exact wpAny_pure hq | exact wpAny_rule hq
   ·split
    ·exact F1
    ·exact F1.plain
   ·intro h' hb hS';exact wpAny_pure (fin h' hb hS')
  ·refine wpAny_bind (wpAny_pure ?_);simp only [↓reduceIte]
   refine tail_v ?_ ho F1 ?_
   ·intro b s₁ Q' hq;cases b<;>first | exact wpAny_pure hq | exact wpAny_rule hq
   ·intro h' hb hS';exact wpAny_pure (fin h' hb hS')
def add_v(hdec:∀ k v,knd.is k v=true->dec v=k){a:Addr}{ks:List K}{k:K}{x:Value}{Q:Bool->Shared->Prop}(hk:knd.is k x=true)(hx:x.scannable=true)(hS:SetV knd dec s.heap a ks)(hr:ks.length + 1 < scanBound)
  (h:∀ b h',Heap.SameBut a s.heap h'->SetV knd dec h' a (ins ks k)->Q b { s with heap:=h',toks:=s.toks + 1 }):wpAny (model prog w) A (setAdd a x) Q E s:=by
 unfold setAdd;refine wpAny_holding (wpAny_bind (knd.pyHash hk ?_));exact addH_v hdec hk hx (s:={ s with toks:=s.toks + 1 }) hS hr fun b h' b1 b2=>h b h' b1 b2
end
end Sx
end
section
namespace Sx
open PySem
def qb8s:entryFor table "set.update.loop" = some Builtin.«set.update.loop»:=entryFor_of_tree (by kernel_rfl)
def qb2r:plainId "set.update.loop" = true:=by decide +kernel
section
variable{K:Type}[DecidableEq K]
noncomputable def uniq(ks:List K):List K:=ks.foldl ins []
def qd0h(ks:List K)(k:K):uniq (ks ++ [k])=ins (uniq ks) k:=by unfold uniq;rw [List.foldl_append];rfl
def ins_le(ks:List K)(k:K):(ins ks k).length <= ks.length + 1:=by
 unfold ins;split
 ·omega
 ·rw [length_append];exact le_refl _
def uniq_go(ks:List K):∀ l:List K,(ks.foldl ins l).length <= l.length + ks.length:=by
 induction ks with
 | nil=>intro l;exact le_refl _
 | cons k r ih =>
  intro l;have h1:=ih (ins l k);have h2:=ins_le l k;rw [List.foldl_cons,length_cons];omega
def qb3w(ks:List K):(uniq ks).length <= ks.length:=by
 have:=uniq_go ks [];simpa [uniq] using this
def mem_ins{ks:List K}{k j:K}:j ∈ ins ks k ↔ j ∈ ks ∨ j=k:=by
 unfold ins;split
 ·rename_i h
  exact⟨.inl,fun q=>q.elim id (fun e=>e ▸ h)⟩
 ·rw [mem_append,mem_singleton]
def qd0i{ks:List K}(h:ks.Nodup)(k:K):(ins ks k).Nodup:=by
 unfold ins;split
 ·exact h
 ·rename_i hk
  rw [nodup_append];refine⟨h,pairwise_singleton _ k,fun a ha b hb=>?_⟩;rw [mem_singleton] at hb;subst hb;exact fun e=>hk (e ▸ ha)
def mem_go(ks:List K):∀ (l:List K) (j:K),j ∈ ks.foldl ins l ↔ j ∈ l ∨ j ∈ ks:=by
 induction ks with
 | nil=>intro l j;simp
 | cons k r ih=>intro l j;rw [List.foldl_cons,ih,mem_ins,mem_cons,or_assoc]
def qc0e{ks:List K}{j:K}:j ∈ uniq ks ↔ j ∈ ks:=by unfold uniq;rw [mem_go];simp
def qd2v(ks:List K):∀ l:List K,l.Nodup->(ks.foldl ins l).Nodup:=by
 induction ks with
 | nil=>intro l h;exact h
 | cons k r ih=>intro l h;exact ih _ (qd0i h k)
def qc7v(ks:List K):(uniq ks).Nodup:=qd2v ks [] List.Pairwise.nil
end
section
variable{prog:Program}{w:World}{K:Type}[DecidableEq K]{knd:KeyKind prog w K}{dec:Value->K}{A:Around}{R:Result->Shared->Prop}{I:Addr}{fp wr:List Addr}{G:Array GenState->Array GenState->Prop}{St:Nat->Shared->Prop}{items:Array Value}{ks:List K}
def SetV.move{h h':Heap}{a:Addr}(x:SetV knd dec h a ks)(e:∀ o,h.get? a=some o->h'.get? a=some o):SetV knd dec h' a ks:=by
 obtain⟨es,ep,t,ho,F⟩:=x;exact⟨es,ep,t,e _ ho,F⟩
def qd2w(hdec:∀ k v,knd.is k v=true->dec v=k)(W:WalksS prog w A.in1 I fp wr G items.size (fun i v=>items[i]? = some v) St)(D:Addr)(hDf:D ∉ fp)(hl:items.size < 4000)(hks:∀ (i:Nat) (v:Value),items[i]? = some v->∃ k,ks[i]? = some k/\knd.is k v=true/\v.scannable=true) :
  ∀ (m i:Nat) (s:Shared),items.size - i=m->i <= items.size->St i s->SetV knd dec s.heap D (uniq (ks.take i)) ->
   (∀ s',Moved (D :: wr) G s s'->SetV knd dec s'.heap D (uniq (ks.take items.size))->R (.ok (.ret .none)) s') ->
   codeAny (model prog w) A (.builtin "set.update.loop" ⟨[.ref D,.ref I],[]⟩) R s:=by
 have hDw:D ∉ wr:=fun h=>hDf (W.sub _ h);have up:∀ b ∈ wr,b ∈ D :: wr:=fun b hb=>mem_cons_of_mem _ hb;intro m;induction m with
 | zero =>
  intro i s hm hi st sv fin;have hin:i=items.size:=by omega
  subst hin;refine codeAny_builtin qb8s ?_;rw [Around.under_plainId qb2r _];show wpAny _ A.in1 (pyNext (.ref I) >>= _) _ _ s;refine wpAny_bind (W.done s _ _ st fun s' mv=>?_);exact wpAny_pure (fin s' (mv.mono up) (sv.move fun o e=>mv.heap D _ hDw e))
 | succ m ih =>
  intro i s hm hi st sv fin;have hlt:i < items.size:=by omega
  refine codeAny_builtin qb8s ?_;rw [Around.under_plainId qb2r _];show wpAny _ A.in1 (pyNext (.ref I) >>= _) _ _ s;refine wpAny_bind (W.item i s _ _ hlt st fun v s' hv st' mv=>?_);obtain⟨k,hk,hi1,hi2⟩:=hks i v hv;have sv':=sv.move (h':=s'.heap) fun o e=>mv.heap D _ hDw e;have hsz:(uniq (ks.take i)).length + 1 < scanBound:=by
   have h1:=qb3w (ks.take i);have h2:=List.length_take_le i ks;have h3:scanBound=4096:=rfl;omega
  show wpAny _ A.in1 (holding [v] (setAdd D v) >>= _) _ _ s';refine wpAny_bind (wpAny_holding (add_v hdec hi1 hi2 sv' hsz fun b h' hs sv2=>?_));have e1:uniq (ks.take (i + 1))=ins (uniq (ks.take i)) k:=by
   rw [take_add_one,hk,toList_some,qd0h]
  refine wpAny_pure ⟨plainId_quiet qb2r _,ih (i + 1) _ 'o' hlt (W.frame _ s' _ _ st' (le_succ _) fun b hb o e=>?_) (by rw [e1];exact sv2) fun s2 mv2 sv3=>?_⟩
  ·rw [hs.2 b (fun h:b=D=>hDf (by rw [← h];exact hb))];exact e
  ·refine fin s2 (Moved.trans W.gtrans ((mv.mono up).then_heap (le_succ _) fun b o hb e=>?_) mv2) sv3
   rw [hs.2 b (fun h:b=D=>hb (by rw [h];exact mem_cons_self))];exact e
end
def tc_set(x:Value):checkTypeCall "set" ⟨[x],[]⟩=pure ():=by kernel_rfl
def nc_set(x:Value):checkBuiltinCall "set.__new__" ⟨[.type "set",x],[]⟩=pure ():=by kernel_rfl
def qc0f:isSubtype (.type "list") (.type "set")=pure false:=by rw [isSubtype_type];kernel_rfl
def qc3x:isSubtype (.type "list") (.type "frozenset")=pure false:=by rw [isSubtype_type];kernel_rfl
def qc3y:isSubtype (.type "tuple") (.type "set")=pure false:=by rw [isSubtype_type];kernel_rfl
def qc7w:isSubtype (.type "tuple") (.type "frozenset")=pure false:=by rw [isSubtype_type];kernel_rfl
section
variable{prog:Program}{w:World}{A:Around}{E:Value->Shared->Prop}{s:Shared}
abbrev newO(w:World):Obj:=setO #[] 0 (.fresh 0 0 (!w.params.followText "set-order"))
def new_v(x:Value){Q₁:Value->Shared->Prop}(h:Q₁ (.ref s.heap.objs.size) { s with heap:=s.heap.push (newO w) }) :
  codeAny (model prog w) A (.call (.builtin "set.__new__") ⟨[.type "set",x],[]⟩) (wants Q₁ E) s:=by
 refine codeAny_call_builtin F.plain_set_new F.entry_set_new (wpAny_of_eq (nc_set x) ?_);unfold Builtin.«set.__new__» Builtin.Frozenset.newClass;have hsub:=sub_set_self;obtain⟨hp,g,d,tk,os⟩:=s
 dsimp only
 wp_walk
 refine wpAny_askSetting (wpAny_pure ?_);dsimp only;simp only [newObj];exact wpAny_bind (wpAny_alloc (wpAny_pure (wpAny_pure h)))
def check_v{M:Model}{self x:Value}{Q:Unit->Shared->Prop} (hT:s.TypeIs self "set") (hQ:Q () s):wpAny M A (checkBuiltinCall "set.__init__" ⟨[self,x],[]⟩) Q E s:=by
 simp only [kind_set_init,checkBuiltinCall,split_set_init,sig_set_init];refine wpAny_bind (wpAny_isInstance hT sub_set_self ?_);simp only [false_eq_true,Bool.not_true,if_false];unfold Bind.checkArgs
 dsimp only
 refine wpAny_bind (m:=Bind.printed "set" true _ _) (PyProof.Rows.printed_name 'd' (wpAny_bind (m:=Bind.printed "*" false _ _) (PyProof.Rows.printed_star (self:=self) rfl hT fun short=>?_)));have r0:(Manifest.Receiver.self == Manifest.Receiver.none)=false:=by decide
 have n1:(if (Manifest.Receiver.self == Manifest.Receiver.none)=true then [self,x].length else [self,x].length - 1)=1:=by simp [r0]
 rw [n1,map_nil];have hc:Bind.check ⟨.positional,"set","*",.self,[⟨"iterable",.posOnly,false⟩]⟩ "set" short 1 []=pure ():=by
  simp [Bind.checkCount,Bind.check,Bind.isPositional];intro q;exact absurd q 'd'
 rw [hc];exact wpAny_pure hQ
def call_v{K:Type}[DecidableEq K]{knd:KeyKind prog w K}{dec:Value->K}{l:Addr}{items:Array Value}{ks:List K}{Q:Value->Shared->Prop}(hdec:∀ k v,knd.is k v=true->dec v=k)(hh:A.handled=none)(hq:s.heap.IsList l items ∨ s.heap.IsTuple l items)(hl:items.size < 4000)(hlen:ks.length=items.size)
  (hks:∀ (i:Nat) (v:Value),items[i]? = some v->∃ k,ks[i]? = some k/\knd.is k v=true/\v.scannable=true)
  (h:∀ h' tk,SetV knd dec h' s.heap.objs.size (uniq ks)->(∀ b o,s.heap.get? b=some o->h'.get? b=some o)->Q (.ref s.heap.objs.size) { s with heap:=h',toks:=tk }) :
  wpAny (model prog w) A (call (.type "set") [.ref l]) Q E s:=by
 obtain⟨c,tl,hmro⟩:=F.called_set.mro;have hsub:=F.called_set.sub;have hmade:=F.called_set.made;refine wpAny_call (codeAny_of_tree ?_);show wpAny _ _ (callAny (.type "set") _) _ _ _;refine wpAny_pure ⟨Code.quiet_builtin _ 'k',codeAny_builtin F.entry_type_call ?_⟩;rw [Around.under_plain (weight_type_call_type "set" [.ref l] []) rfl];have h1:=F.called_set.notType;have h2:=F.called_set.canCreate;have hct:=tc_set (.ref l)
 repeat (any_goals (first | assumption | wp_step))
 refine codeAny_mono (new_v (E:=E) (.ref l) (Q₁:=fun obj s₁=>obj=.ref s.heap.objs.size/\s₁={ s with heap:=s.heap.push (newO w) }) ⟨rfl,rfl⟩) fun r s₁ hr=>?_;cases r with
 | error e=>exact hr
 | ok fl =>
  cases fl with
  | ret obj =>
   obtain⟨rfl,rfl⟩:=hr;have hS:(s.heap.push (newO w)).get? s.heap.objs.size=some (newO w):=get?_push_size _ rfl;have sv:SetV knd dec (s.heap.push (newO w)) s.heap.objs.size ([]:List K):=⟨_,_,_,hS,⟨fun e he=>by simp at he,by simp,List.Pairwise.nil,'d',rfl,qd0d _ _ _,rfl⟩⟩;have hT:Shared.TypeIs { s with heap:=s.heap.push (newO w) } (.ref s.heap.objs.size) "set":=⟨_,hS,rfl⟩;have hli:=F.called_set.init.lookup;have hbi:=F.called_set.init.bind (.ref s.heap.objs.size)
   repeat (any_goals (first | assumption | wp_step))
   refine codeAny_mono (codeAny_call_builtin (R:=wants (fun r s₂=>r=.none/\Q (.ref s.heap.objs.size) s₂) E) F.called_set.init.plain F.entry_set_init (check_v hT ?_)) fun r₂ s₂ hr₂=>?_
   ·unfold Builtin.«set.__init__» noKeywords
    obtain⟨T,hTl,n1,n2,n3⟩:∃ T,Shared.TypeIs { s with heap:=s.heap.push (newO w) } (.ref l) T/\isSubtype (.type T) (.type "set")=pure false/\isSubtype (.type T) (.type "frozenset")=pure false/\(Value.type T == Value.type "dict")=false:=by
     rcases hq with hq | hq
     ·exact⟨"list",(hq.push _).typeIs,qc0f,qc3x,'d'⟩
     ·exact⟨"tuple",(hq.push _).typeIs,qc3y,qc7w,'d'⟩
    have hS':Heap.get? (Shared.heap { s with heap:=s.heap.push (newO w) }) s.heap.objs.size=some (newO w):=hS;have hlt:l < s.heap.objs.size:=by rcases hq with⟨o,ho,_⟩ | ⟨o,ho,_⟩<;>exact lt_size ho
    have hI:(s.heap.push (newO w)).objs.size=s.heap.objs.size + 1:=size_push ..;have PI:∀ (Q':Value->Shared->Prop) (E':Value->Shared->Prop),(∀ (o:Obj) (St:Nat->Shared->Prop),WalksS prog w A.in1.in1.in1 (s.heap.objs.size + 1) [s.heap.objs.size + 1,l] [s.heap.objs.size + 1] (fun a b=>b=a) items.size (fun i v=>items[i]? = some v) St->St 0 { s with heap:=(s.heap.push (newO w)).push o }->Q' (.ref (s.heap.objs.size + 1)) { s with heap:=(s.heap.push (newO w)).push o }) ->
      wpAny (model prog w) A.in1.in1 (pyIter (.ref l)) Q' E' { s with heap:=s.heap.push (newO w) }:=by
     intro Q' E' k;have hne:l ≠ s.heap.objs.size + 1:=ne_of_lt (lt_succ_of_lt hlt);rcases hq with hq | hq
     ·refine wpAny_pyIter_list (hq.push _) ?_
      rw [show Shared.heap { s with heap:=s.heap.push (newO w) }=s.heap.push (newO w) from rfl,hI];exact k _ _ ((Walks.list (A:=A.in1.in1.in1) (by simp [hh]) _ l hne items).toS) ⟨⟨_,by rw [← hI];exact get?_push_size _ rfl,rfl,rfl⟩,(hq.push _).push _⟩
     ·refine wpAny_pyIter_tuple (hq.push _) ?_
      rw [show Shared.heap { s with heap:=s.heap.push (newO w) }=s.heap.push (newO w) from rfl,hI];exact k _ _ ((Walks.tuple (A:=A.in1.in1.in1) (by simp [hh]) _ l hne items).toS) ⟨⟨_,by rw [← hI];exact get?_push_size _ rfl,rfl,rfl⟩,(hq.push _).push _⟩
    repeat (any_goals (first | assumption | ((with_reducible show wpAny _ _ (pyIter (Value.ref l)) _ _ _);refine PI _ _ fun o St W st=>?_) | ((with_reducible show wpAny _ _ (runValue _) _ _ _);refine wpAny_runValue ?_) | wp_step))
    have hDf:s.heap.objs.size ∉ [s.heap.objs.size + 1,l]:=by
     simp only [mem_cons,not_mem_nil,or_false,not_or];exact⟨ne_of_lt (lt_succ_self _),ne_of_gt hlt⟩
    refine qd2w hdec W s.heap.objs.size hDf hl hks items.size 0 _ 'o' (zero_le _) st (sv.move fun o e=>get?_push_of_some _ e) fun s' mv sv'=>?_;refine wpAny_pure (wpAny_pure ⟨rfl,?_⟩);rw [← hlen,take_length] at sv';have hk:=h s'.heap s'.toks sv' fun b o e=>mv.heap b o (fun hm=>?_) (get?_push_of_some _ (get?_push_of_some _ e))
    ·have eg:s'.gens=s.gens:=mv.gens
     have ed:s'.drawn=s.drawn:=mv.drawn;have eo:s'.os=s.os:=mv.os;cases s';dsimp only at eg ed eo hk;subst eg ed eo;exact hk
    ·have:=lt_size e
     rcases mem_cons.mp hm with q | q
     ·exact absurd this (by rw [q];exact lt_irrefl _)
     ·rw [mem_singleton] at q
      exact absurd this (by rw [q];exact Nat.not_lt.mpr (le_succ _))
   ·cases r₂ with
    | error e=>exact hr₂
    | ok fl₂ =>
     cases fl₂ with
     | ret r =>
      obtain⟨rfl,hq⟩:=hr₂
      repeat (any_goals (first | assumption | wp_step))
     | _=>exact hr₂.elim
  | _=>exact hr.elim
end
end Sx
end
section
namespace Sx
open PySem
def qb4v{α:Type}:∀ {l:List α} {i:Nat} {x:α},l[i]? = some x->(x :: l.eraseIdx i).Perm l
 | [],i,x,h=>by simp at h
 | a :: r,0,x,h=>by
  simp at h
  subst h;exact List.Perm.refl _
 | a :: r,i + 1,x,h=>by
  have h':r[i]? = some x:=by simpa using h
  exact(List.Perm.swap a x _).trans (List.Perm.cons a (qb4v h'))
def pick_go{α:Type}(f:Nat->Nat):∀ (n k:Nat) (l:List α) (out:Array α),l.length=n->(pickOrder.go f n k l out).toList.Perm (out.toList ++ l):=by
 intro n;induction n with
 | zero =>
  intro k l out h;have e:l=[]:=eq_nil_of_length_eq_zero h;subst e;unfold pickOrder.go;simp
 | succ n ih =>
  intro k l out h;unfold pickOrder.go;have hm:f k % l.length < l.length:=Nat.mod_lt _ 'o';have he:l[f k % l.length]? = some l[f k % l.length]:=getElem?_eq_getElem hm;rw [he]
  dsimp only
  refine(ih (k + 1) _ _ (by rw [List.length_eraseIdx_of_lt hm];omega)).trans ?_;rw [Array.toList_push,append_assoc];exact(qb4v he).append_left out.toList
def qb2s{α:Type}(f:Nat->Nat)(xs:Array α):(pickOrder f xs).toList.Perm xs.toList:=by
 have:=pick_go f xs.size 0 xs.toList #[] 'h';simpa [pickOrder] using this
section
variable{M:Model}{A:Around}{E:Value->Shared->Prop}{s:Shared}
def qc7x{src:Source}{n:Nat}{Q:Nat->Shared->Prop}(hn:n ≠ 0)(h:∀ i d,i < n->Q i { s with drawn:=d }):wpAny M A (choose src n) Q E s:=
 fun Γ p hΓ=>⟨hn,h _ _ (Nat.mod_lt _ (Nat.pos_of_ne_zero hn))⟩
def qd2x{α:Type}:∀ (n:Nat) (l:List α) (s:Shared) {Q:List α->Shared->Prop},l.length=n->(∀ o d,o.Perm l->Q o { s with drawn:=d })->wpAny M A (drawOrder n l) Q E s:=by
 intro n;induction n with
 | zero =>
  intro l s Q hl h;have e:l=[]:=eq_nil_of_length_eq_zero hl;subst e;unfold drawOrder;exact wpAny_pure (h [] s.drawn (List.Perm.refl _))
 | succ n ih =>
  intro l s Q hl h;cases l with
  | nil=>cases hl
  | cons a r =>
   unfold drawOrder;refine wpAny_bind (qc7x 'h' fun i d hi=>?_);have he:(a :: r)[i]? = some (a :: r)[i]:=getElem?_eq_getElem hi;rw [he];refine wpAny_bind (ih _ _ (by rw [List.length_eraseIdx_of_lt hi];omega) fun o d' hp=>?_);exact wpAny_pure (h _ d' ((List.Perm.cons _ hp).trans (qb4v he)))
end
abbrev itO(first:Value)(i:Nat)(S:Addr)(n ep:Nat):Obj:={ cls:=.type "set_iterator",dict:=none,data:=.fields #[first,rawInt ((i:Nat):Int),.ref S,rawInt ((n:Nat):Int),rawInt ((ep:Nat):Int)],slots:=#[] }
def slot_next:Slot "set_iterator" "__next__" "set_iterator.__next__":=
 .of (n:="__next__") (owner:="set_iterator") (by rw [typeLookup_type,builtinLookup_eq_fast];kernel_rfl) 'k' 'k' 'k' (by first | exact .inl 'k' | exact .inr 'k') (by rw [isSubtype_type];kernel_rfl)
def entry_next:entryFor table "set_iterator.__next__" = some Builtin.«set_iterator.__next__»:=entryFor_of_tree (by kernel_rfl)
def args_next(a:Value):argsOk "set_iterator.__next__" ⟨[a],[]⟩:=by unfold argsOk;kernel_rfl
def qb8t:Slot "set_iterator" "__iter__" "set_iterator.__iter__":=
 .of (n:="__iter__") (owner:="set_iterator") (by rw [typeLookup_type,builtinLookup_eq_fast];kernel_rfl) 'k' 'k' 'k' (by first | exact .inl 'k' | exact .inr 'k') (by rw [isSubtype_type];kernel_rfl)
def qc7y:entryFor table "set_iterator.__iter__" = some Builtin.«dict_keyiterator.__iter__»:=
 entryFor_alias (id':="dict_keyiterator.__iter__") (by kernel_rfl) rfl 'k' (by kernel_rfl)
def qd0j(a:Value):argsOk "set_iterator.__iter__" ⟨[a],[]⟩:=by unfold argsOk;kernel_rfl
def qc0g:entryFor table "set.__iter__" = some Builtin.«frozenset.__iter__»:=
 entryFor_alias (id':="frozenset.__iter__") (by kernel_rfl) rfl 'k' (by kernel_rfl)
section
variable{prog:Program}{w:World}{A:Around}{E:Value->Shared->Prop}{s:Shared}{I S:Addr}{es:Array 's'}{ep i n:Nat}{t:SetTable}{first:Value}
def qa7z{Q:Bool->Shared->Prop} (h:Q (w.params.followText "set-order") s):wpAny (model prog w) A setsByText Q E s:=wpAny_bind (wpAny_askSetting (wpAny_pure h))
def qb6e(ho:s.heap.get? S=some (setO es ep t))(hf:t.fits es.size=true) (hb:w.params.followText "set-order" = true) {slot:Nat} {Q:Option (Value × Nat)->Shared->Prop} (h:Q (((pickOrder (w.params.setOrder S ep) es)[i]?).map fun e=>(e.2,slot)) s):wpAny (model prog w) A (setNext S slot i ep) Q E s:=by
 unfold setNext;refine wpAny_bind (wpAny_setState_of ho rfl hf ?_)
 dsimp only
 refine wpAny_bind (qa7z ?_);rw [hb,if_pos rfl];rw [if_neg (show ¬ ((ep != ep)=true) by simp)];refine wpAny_bind ?_;unfold setWalk;refine wpAny_bind (wpAny_setState_of ho rfl hf ?_)
 dsimp only
 refine wpAny_bind (qa7z ?_);rw [hb,if_pos rfl];exact wpAny_bind (wpAny_askSetting (wpAny_pure (wpAny_pure h)))
def qb4l(ho:s.heap.get? S=some (setO es ep t))(hf:t.fits es.size=true) (hb:w.params.followText "set-order" = false) (hl:t.led=true) (hd:(!t.plain && decide (es.size > 1))=false) {slot:Nat} {Q:Option (Value × Nat)->Shared->Prop} (h:Q (match es[SetTable.below t.place slot]?,t.place[SetTable.below t.place slot]? with | some (_,x),some j=>some (x,j + 1) | _,_=>none) s):wpAny (model prog w) A (setNext S slot i ep) Q E s:=by
 unfold setNext;refine wpAny_bind (wpAny_setState_of ho rfl hf ?_)
 dsimp only
 refine wpAny_bind (qa7z ?_);rw [hb,if_neg Bool.false_ne_true];split
 ·rename_i q
  have q':(!t.plain && decide (es.size > 1))=true:=q;rw [hd] at q';cases q'
 ·refine wpAny_bind ?_
  show wpAny _ _ (if (!t.led && !es.isEmpty)=true then _ else _) _ _ _;rw [if_neg (by rw [hl];simp)];exact wpAny_pure (wpAny_pure h)
def qc0h{f nx:Nat}{x:Value}{Q:Option Value->Shared->Prop}(hi:s.heap.get? I=some (itO (rawInt ((f:Nat):Int)) i S es.size ep))(ho:s.heap.get? S=some (setO es ep t))(hf:t.fits es.size=true)
  (hN:∀ {A':Around} {E':Value->Shared->Prop} {Q':Option (Value × Nat)->Shared->Prop},Q' (some (x,nx)) s->wpAny (model prog w) A' (setNext S f i ep) Q' E' s)
  (hQ:∀ h',h'.get? I=some (itO (rawInt ((nx:Nat):Int)) (i + 1) S es.size ep)->Heap.SameBut I s.heap h'->Q (some x) { s with heap:=h' }):wpAny (model prog w) A (pyNext (.ref I)) Q E s:=by
 have ty:s.TypeIs (.ref I) "set_iterator":=⟨_,hi,rfl⟩;unfold pyNext;refine wpAny_bind (wpAny_attempt (wpAny_callSpecial?_slot (name:=Str.ofString "__next__") ty slot_next (wpAny_call_entry slot_next ty entry_next ?_ (args_next _))));unfold Builtin.«set_iterator.__next__»;refine wpAny_bind (m:=slotArgs _ _ _) (wpAny_pure (wpAny_bind (wpAny_fieldsOf hi rfl ?_)));show wpAny _ _ (setEntries S >>= _) _ _ s;refine wpAny_bind (wpAny_setEntries_of ho rfl hf ?_);rw [if_neg (show ¬ ((((es.size:Nat):Int) != ((es.size:Nat):Int))=true) by simp)];show wpAny _ _ (setNext S (Int.toNat ((f:Nat):Int)) (Int.toNat ((i:Nat):Int)) (Int.toNat ((ep:Nat):Int)) >>= _) _ _ s;rw [toNat_natCast,toNat_natCast,toNat_natCast];refine wpAny_bind (hN ?_);refine wpAny_bind (wpAny_setField_rec hi 'h' fun h1 e1 s1=>?_);refine wpAny_bind (wpAny_setField_rec e1 'h' fun h2 e2 s2=>?_);refine wpAny_pure ⟨_,rfl,wpAny_pure (hQ h2 ?_ (s1.trans s2))⟩;rw [e2];simp [rawInt]
def qc0i{f:Nat}{Q:Option Value->Shared->Prop}(hh:A.handled=none)(hi:s.heap.get? I=some (itO (rawInt ((f:Nat):Int)) i S es.size ep))(ho:s.heap.get? S=some (setO es ep t))(hf:t.fits es.size=true)
  (hN:∀ {A':Around} {E':Value->Shared->Prop} {Q':Option (Value × Nat)->Shared->Prop},Q' none s->wpAny (model prog w) A' (setNext S f i ep) Q' E' s)
  (hQ:∀ h',Heap.ExtBut I s.heap h'->Q none { s with heap:=h' }):wpAny (model prog w) A (pyNext (.ref I)) Q E s:=by
 have ty:s.TypeIs (.ref I) "set_iterator":=⟨_,hi,rfl⟩;unfold pyNext;refine wpAny_bind (wpAny_attempt (wpAny_callSpecial?_slot (name:=Str.ofString "__next__") ty slot_next (wpAny_call_entry slot_next ty entry_next ?_ (args_next _))));unfold Builtin.«set_iterator.__next__»;refine wpAny_bind (m:=slotArgs _ _ _) (wpAny_pure (wpAny_bind (wpAny_fieldsOf hi rfl ?_)));show wpAny _ _ (setEntries S >>= _) _ _ s;refine wpAny_bind (wpAny_setEntries_of ho rfl hf ?_);rw [if_neg (show ¬ ((((es.size:Nat):Int) != ((es.size:Nat):Int))=true) by simp)];show wpAny _ _ (setNext S (Int.toNat ((f:Nat):Int)) (Int.toNat ((i:Nat):Int)) (Int.toNat ((ep:Nat):Int)) >>= _) _ _ s;rw [toNat_natCast,toNat_natCast,toNat_natCast];refine wpAny_bind (hN ?_);refine wpAny_bind (wpAny_setField hi rfl 'h' ?_);show wpAny _ _ (newExc (.type "StopIteration") [] >>= _) _ _ _;refine wpAny_bind ?_;simp only [newTuple,newExc];refine wpAny_bind (wpAny_newObj_type (wpAny_bind (m:=firstArgMember _ _) (wpAny_of_eq (a:=Value.none) (by first | rfl | (simp only [firstArgMember];rfl)) ?_)) (by size_fits));refine wpAny_newObj_type ?_ (by size_fits);simp only [raiseNew];refine wpAny_bind (wpAny_handled ?_);rw [show A.in1.handled=none from hh];refine wpAny_bind (wpAny_pure (wpAny_throw ?_));refine wpAny_bind (wpAny_isInstance (T:="StopIteration") (b:=true) ⟨_,get?_push_size _ rfl,rfl⟩ isSubtype_stop ?_);exact wpAny_pure (hQ _ (((Heap.SameBut.update ..).extBut.push _).push _))
def qc7z{P:Addr}{order:List Nat}{j c:Nat}{x:Value}{hx:Int}{Q:Option Value->Shared->Prop}(hi:s.heap.get? I=some (itO (.ref P) i S es.size ep)) (hP:s.heap.get? P=some ⟨.type "tuple",none,.seq (order.map fun(k:Nat)=>rawInt k).toArray c,#[]⟩) (ho:s.heap.get? S=some (setO es ep t)) (hf:t.fits es.size=true)
  (hj:order[i]? = some j) (he:es[j]? = some (hx,x))
  (hQ:∀ h',h'.get? I=some (itO (.ref P) (i + 1) S es.size ep)->Heap.SameBut I s.heap h'->Q (some x) { s with heap:=h' }):wpAny (model prog w) A (pyNext (.ref I)) Q E s:=by
 have ty:s.TypeIs (.ref I) "set_iterator":=⟨_,hi,rfl⟩;unfold pyNext;refine wpAny_bind (wpAny_attempt (wpAny_callSpecial?_slot (name:=Str.ofString "__next__") ty slot_next (wpAny_call_entry slot_next ty entry_next ?_ (args_next _))));unfold Builtin.«set_iterator.__next__»;refine wpAny_bind (m:=slotArgs _ _ _) (wpAny_pure (wpAny_bind (wpAny_fieldsOf hi rfl ?_)));show wpAny _ _ (setEntries S >>= _) _ _ s;refine wpAny_bind (wpAny_setEntries_of ho rfl hf ?_);rw [if_neg (show ¬ ((((es.size:Nat):Int) != ((es.size:Nat):Int))=true) by simp)];show wpAny _ _ (seqItems? (.ref P) >>= _) _ _ s;refine wpAny_bind (wpAny_seqItems hP rfl ?_);show wpAny _ _ (match (order.map fun(k:Nat)=>rawInt k).toArray[Int.toNat ((i:Nat):Int)]? with | some (.int place _)=>_ | some _=>_ | none=>_) _ _ s;rw [toNat_natCast,getElem?_toArray,getElem?_map,hj];show wpAny _ _ (setNextDrawn S (Int.toNat ((j:Nat):Int)) (Int.toNat ((ep:Nat):Int)) >>= _) _ _ s;rw [toNat_natCast,toNat_natCast];unfold setNextDrawn;refine wpAny_bind (wpAny_bind (wpAny_setState_of ho rfl hf ?_))
 dsimp only
 rw [if_neg (show ¬ ((ep != ep)=true) by simp),he];refine wpAny_pure (wpAny_bind (wpAny_setField_rec hi 'h' fun h2 e2 s2=>?_));refine wpAny_pure ⟨_,rfl,wpAny_pure (hQ h2 ?_ s2)⟩;rw [e2];simp [rawInt]
def qc8a{P:Addr}{order:List Nat}{c:Nat}{Q:Option Value->Shared->Prop}(hh:A.handled=none)(hi:s.heap.get? I=some (itO (.ref P) i S es.size ep)) (hP:s.heap.get? P=some ⟨.type "tuple",none,.seq (order.map fun(k:Nat)=>rawInt k).toArray c,#[]⟩) (ho:s.heap.get? S=some (setO es ep t)) (hf:t.fits es.size=true)
  (hj:order[i]? = none)
  (hQ:∀ h',Heap.ExtBut I s.heap h'->Q none { s with heap:=h' }):wpAny (model prog w) A (pyNext (.ref I)) Q E s:=by
 have ty:s.TypeIs (.ref I) "set_iterator":=⟨_,hi,rfl⟩;unfold pyNext;refine wpAny_bind (wpAny_attempt (wpAny_callSpecial?_slot (name:=Str.ofString "__next__") ty slot_next (wpAny_call_entry slot_next ty entry_next ?_ (args_next _))));unfold Builtin.«set_iterator.__next__»;refine wpAny_bind (m:=slotArgs _ _ _) (wpAny_pure (wpAny_bind (wpAny_fieldsOf hi rfl ?_)));show wpAny _ _ (setEntries S >>= _) _ _ s;refine wpAny_bind (wpAny_setEntries_of ho rfl hf ?_);rw [if_neg (show ¬ ((((es.size:Nat):Int) != ((es.size:Nat):Int))=true) by simp)];show wpAny _ _ (seqItems? (.ref P) >>= _) _ _ s;refine wpAny_bind (wpAny_seqItems hP rfl ?_);show wpAny _ _ (match (order.map fun(k:Nat)=>rawInt k).toArray[Int.toNat ((i:Nat):Int)]? with | some (.int place _)=>_ | some _=>_ | none=>_) _ _ s;rw [toNat_natCast,getElem?_toArray,getElem?_map,hj];refine wpAny_bind (wpAny_setField_rec hi 'h' fun h1 e1 s1=>?_);refine wpAny_bind (wpAny_setField e1 rfl 'h' ?_);show wpAny _ _ (newExc (.type "StopIteration") [] >>= _) _ _ _;refine wpAny_bind ?_;simp only [newTuple,newExc];refine wpAny_bind (wpAny_newObj_type (wpAny_bind (m:=firstArgMember _ _) (wpAny_of_eq (a:=Value.none) (by first | rfl | (simp only [firstArgMember];rfl)) ?_)) (by size_fits));refine wpAny_newObj_type ?_ (by size_fits);simp only [raiseNew];refine wpAny_bind (wpAny_handled ?_);rw [show A.in1.handled=none from hh];refine wpAny_bind (wpAny_pure (wpAny_throw ?_));refine wpAny_bind (wpAny_isInstance (T:="StopIteration") (b:=true) ⟨_,get?_push_size _ rfl,rfl⟩ isSubtype_stop ?_);exact wpAny_pure (hQ _ (((s1.trans (Heap.SameBut.update ..)).extBut.push _).push _))
def qb4w{Q:Value->Shared->Prop}(hi:s.heap.get? I=some (itO first i S n ep))(h:Q (.ref I) s):wpAny (model prog w) A (pyIter (.ref I)) Q E s:=by
 have ty:s.TypeIs (.ref I) "set_iterator":=⟨_,hi,rfl⟩;refine wpAny_pyIter_slot ty qb8t (wpAny_call_entry qb8t ty qc7y ?_ (qd0j _));show wpAny _ _ (ret (.ref I)) _ _ s;exact wpAny_pure ⟨_,rfl,"set_iterator",_,ty,slot_next.lookup,h⟩
end
end Sx
end
section
namespace Sx
open PySem
noncomputable def slotAt(pl:Array Nat):Nat->Nat
 | 0=>0
 | i + 1=>pl.getD i 0 + 1
def qb6f{pl:Array Nat}(up:Up pl){i:Nat}(h:i <= pl.size):SetTable.below pl (slotAt pl i)=i:=by
 cases i with
 | zero=>exact qc7r up
 | succ i =>
  have hi:i < pl.size:=by omega
  show SetTable.below pl (pl.getD i 0 + 1)=i + 1;rw [getD_eq_getD_getElem?,Array.getElem?_eq_getElem hi];exact qc7q up hi
section
variable{prog:Program}{w:World}{A:Around}{I S:Addr}{es:Array 's'}{ep:Nat}{t:SetTable}
def w_text(hh:A.handled=none)(hne:S ≠ I)(hf:t.fits es.size=true) (hb:w.params.followText "set-order" = true) :
  Walks prog w A I [I,S] [I] es.size (fun i v=>((pickOrder (w.params.setOrder S ep) es).toList.map (·.2))[i]? = some v) (fun i h=>h.get? I=some (itO (rawInt (((0:Nat):Nat):Int)) i S es.size ep)/\h.get? S=some (setO es ep t)):=by
 have sz:(pickOrder (w.params.setOrder S ep) es).size=es.size:=by rw [← length_toList,(qb2s _ es).length_eq,length_toList]
 refine⟨fun b hb=>by simp at hb;simp [hb],fun i h h' st k=>⟨k I 'h' _ st.1,k S 'h' _ st.2⟩,fun i s Q E hi st hQ=>?_,fun s Q E st hQ=>?_,fun i s Q E st hQ=>qb4w st.1 hQ⟩
 ·have hlt:i < (pickOrder (w.params.setOrder S ep) es).size:=by omega
  refine qc0h (nx:=0) (x:=((pickOrder (w.params.setOrder S ep) es)[i]).2) st.1 st.2 hf (fun{A' E' Q'} q=>qb6e st.2 hf hb (by rw [Array.getElem?_eq_getElem hlt];exact q)) fun h' j1 j2=>?_;exact hQ _ h' s.toks (by rw [getElem?_map,getElem?_toList,Array.getElem?_eq_getElem hlt];rfl) ⟨j1,j2.extBut _ _ hne st.2⟩ fun b o hb e=>j2.extBut b o (fun h=>hb (by simp [h])) e
 ·refine qc0i hh st.1 st.2 hf (fun{A' E' Q'} q=>qb6e st.2 hf hb (by rw [getElem?_eq_none 'o'];exact q)) fun h' j=>?_
  exact hQ h' s.toks fun b o hb e=>j b o (fun h=>hb (by simp [h])) e
def w_place(hh:A.handled=none)(hne:S ≠ I)(hf:t.fits es.size=true)(ok:TOk t) (hb:w.params.followText "set-order" = false) (hl:t.led=true) (hd:(!t.plain && decide (es.size > 1))=false) :
  Walks prog w A I [I,S] [I] es.size (fun i v=>(es.toList.map (·.2))[i]? = some v) (fun i h=>h.get? I=some (itO (rawInt ((slotAt t.place i:Nat):Int)) i S es.size ep)/\h.get? S=some (setO es ep t)):=by
 have sz:t.place.size=es.size:=by
  unfold SetTable.fits at hf;simp at hf;exact hf.1
 have up:=up_of ok.up;refine⟨fun b hb=>by simp at hb;simp [hb],fun i h h' st k=>⟨k I 'h' _ st.1,k S 'h' _ st.2⟩,fun i s Q E hi st hQ=>?_,fun s Q E st hQ=>?_,fun i s Q E st hQ=>qb4w st.1 hQ⟩
 ·have hp:i < t.place.size:=by omega
  refine qc0h (nx:=slotAt t.place (i + 1)) (x:=(es[i]).2) st.1 st.2 hf (fun{A' E' Q'} q=>qb4l st.2 hf hb hl hd ?_) fun h' j1 j2=>?_
  ·rw [qb6f up 'o',Array.getElem?_eq_getElem hi,Array.getElem?_eq_getElem hp]
   have e:slotAt t.place (i + 1)=t.place[i] + 1:=by
    show t.place.getD i 0 + 1=_;rw [getD_eq_getD_getElem?,Array.getElem?_eq_getElem hp];rfl
   rw [e] at q;exact q
  ·exact hQ _ h' s.toks (by rw [getElem?_map,getElem?_toList,Array.getElem?_eq_getElem hi];rfl) ⟨j1,j2.extBut _ _ hne st.2⟩ fun b o hb e=>j2.extBut b o (fun h=>hb (by simp [h])) e
 ·refine qc0i hh st.1 st.2 hf (fun{A' E' Q'} q=>qb4l st.2 hf hb hl hd ?_) fun h' j=>?_
  ·rw [qb6f up 'o',getElem?_eq_none 'o']
   exact q
  ·exact hQ h' s.toks fun b o hb e=>j b o (fun h=>hb (by simp [h])) e
noncomputable def valAt(es:Array 's')(k:Nat):Value:=((es[k]?).map (·.2)).getD .none
def qc8b(es:Array 's'):(List.range es.size).map (valAt es)=es.toList.map (·.2):=by
 apply ext_getElem
 ·simp
 ·intro i h1 h2
  simp at h1
  simp [valAt,h1]
def w_drawn{P:Addr}{order:List Nat}{c:Nat}(hh:A.handled=none)(hne:S ≠ I)(hnP:P ≠ I)(hf:t.fits es.size=true)(ho:order.Perm (List.range es.size)) :
  Walks prog w A I [I,S,P] [I] es.size (fun i v=>(order.map (valAt es))[i]? = some v) (fun i h=>h.get? I=some (itO (.ref P) i S es.size ep)/\h.get? S=some (setO es ep t)/\h.get? P=some ⟨.type "tuple",none,.seq (order.map fun(k:Nat)=>rawInt k).toArray c,#[]⟩):=by
 have sz:order.length=es.size:=by rw [ho.length_eq,length_range]
 refine⟨fun b hb=>by simp at hb;simp [hb],fun i h h' st k=>⟨k I 'h' _ st.1,k S 'h' _ st.2.1,k P 'h' _ st.2.2⟩,fun i s Q E hi st hQ=>?_,fun s Q E st hQ=>?_,fun i s Q E st hQ=>qb4w st.1 hQ⟩
 ·have hp:i < order.length:=by omega
  have hj:order[i] < es.size:=by
   have:=ho.mem_iff.mp (getElem_mem hp);simpa using this
  refine qc7z (j:=order[i]) (hx:=(es[order[i]]).1) (x:=(es[order[i]]).2) st.1 st.2.2 st.2.1 hf (getElem?_eq_getElem hp) (Array.getElem?_eq_getElem hj) fun h' j1 j2=>?_;refine hQ _ h' s.toks ?_ ⟨j1,j2.extBut _ _ hne st.2.1,j2.extBut _ _ hnP st.2.2⟩ fun b o hb e=>j2.extBut b o (fun h=>hb (by simp [h])) e;rw [getElem?_map,getElem?_eq_getElem hp];simp [valAt,hj]
 ·refine qc8a hh st.1 st.2.2 st.2.1 hf (List.getElem?_eq_none 'o') fun h' j=>?_
  exact hQ h' s.toks fun b o hb e=>j b o (fun h=>hb (by simp [h])) e
end
section
variable{prog:Program}{w:World}{A:Around}{E:Value->Shared->Prop}{s:Shared}{S:Addr}{es:Array 's'}{ep:Nat}{t:SetTable}
def qd2y(ho:s.heap.get? S=some (setO es ep t))(hf:t.fits es.size=true)(ok:TOk t) (hl:t.led = !w.params.followText "set-order") (hz:es.size <= 4096) {Q:Value->Shared->Prop}
  (h:∀ (s':Shared) (I:Addr) (fp:List Addr) (out:List Value) (St:Nat->Heap->Prop),out.Perm (es.toList.map (·.2))->out.length=es.size->I ∈ fp->(∀ b ∈ fp,b=S ∨ s.heap.objs.size <= b)->(∀ b ∈ fp,b < s'.heap.objs.size)->s.heap.objs.size <= I ->
   (∀ A':Around,A'.handled=none->Walks prog w A' I fp [I] es.size (fun i v=>out[i]? = some v) St)->St 0 s'.heap->(∀ b o,s.heap.get? b=some o->s'.heap.get? b=some o)->s'.gens=s.gens->s'.os=s.os->s'.toks=s.toks->Q (.ref I) s') :
  wpAny (model prog w) A (pyIter (.ref S)) Q E s:=by
 have ty:s.TypeIs (.ref S) "set":=⟨_,ho,rfl⟩;have hlt:=lt_size ho;refine wpAny_pyIter_slot ty F.slot_set_iter (wpAny_call_entry F.slot_set_iter ty qc0g ?_ (F.args_set_iter_1 _));unfold Builtin.«frozenset.__iter__»;refine wpAny_bind (m:=Builtin.Frozenset.slot0 _ _) (wpAny_pure (wpAny_bind (m:=Builtin.Frozenset.sizeOf S) (wpAny_bind (wpAny_setEntries_of ho rfl hf (wpAny_pure ?_)))));refine wpAny_bind (m:=setDrawn S) ?_;unfold setDrawn;refine wpAny_bind (wpAny_setState_of ho rfl hf ?_);refine wpAny_bind (qa7z ?_);show wpAny _ _ (pure (!w.params.followText "set-order" && (!t.plain && decide (es.size > 1)))) _ _ _;refine wpAny_pure ?_;have hne:S ≠ s.heap.objs.size:=ne_of_lt hlt;cases hb:w.params.followText "set-order" with
 | true =>
  rw [if_neg 'h'];refine wpAny_bind (wpAny_pure (wpAny_bind (wpAny_setEpoch_of ho rfl hf ?_)));refine wpAny_bind (wpAny_newObj_type (wpAny_pure ⟨_,rfl,"set_iterator",_,⟨_,get?_push_size _ rfl,rfl⟩,slot_next.lookup,?_⟩));refine h _ s.heap.objs.size [s.heap.objs.size,S] _ _ ((qb2s (w.params.setOrder S ep) es).map (·.2)) (by rw [length_map,(qb2s _ es).length_eq,length_toList]) 'h' (fun b hb=>?_) (fun b hb=>?_) 'e' (fun A' hA=>w_text hA hne hf hb) ⟨get?_push_size _ rfl,get?_push_of_some _ ho⟩ (fun b o e=>get?_push_of_some _ e) rfl rfl rfl
  ·simp at hb;rcases hb with rfl | rfl
   ·exact .inr 'e'
   ·exact .inl rfl
  ·show b < (s.heap.push _).objs.size
   rw [size_push];simp at hb;rcases hb with rfl | rfl
   ·exact lt_succ_self _
   ·exact lt_succ_of_lt hlt
 | false =>
  cases hd:(!t.plain && decide (es.size > 1)) with
  | false =>
   rw [if_neg 'h'];refine wpAny_bind (wpAny_pure (wpAny_bind (wpAny_setEpoch_of ho rfl hf ?_)));refine wpAny_bind (wpAny_newObj_type (wpAny_pure ⟨_,rfl,"set_iterator",_,⟨_,get?_push_size _ rfl,rfl⟩,slot_next.lookup,?_⟩));refine h _ s.heap.objs.size [s.heap.objs.size,S] _ _ (List.Perm.refl _) 'h' 'h' (fun b hb=>?_) (fun b hb=>?_) 'e' (fun A' hA=>w_place hA hne hf ok hb (by rw [hl,hb];rfl) hd) ⟨get?_push_size _ rfl,get?_push_of_some _ ho⟩ (fun b o e=>get?_push_of_some _ e) rfl rfl rfl
   ·simp at hb;rcases hb with rfl | rfl
    ·exact .inr 'e'
    ·exact .inl rfl
   ·show b < (s.heap.push _).objs.size
    rw [size_push];simp at hb;rcases hb with rfl | rfl
    ·exact lt_succ_self _
    ·exact lt_succ_of_lt hlt
  | true =>
   rw [if_pos 'h'];refine wpAny_bind (qd2x _ _ _ length_range fun o d hp=>wpAny_bind (wpAny_newTuple ?_ (by
    rw [length_map,hp.length_eq,length_range];exact le_trans hz 'd')))
   refine wpAny_bind (wpAny_setEpoch_of (get?_push_of_some _ ho) rfl hf ?_);refine wpAny_bind (wpAny_newObj_type (wpAny_pure ⟨_,rfl,"set_iterator",_,⟨_,get?_push_size _ rfl,rfl⟩,slot_next.lookup,?_⟩));have e1:∀ ob:Obj,(s.heap.push ob).objs.size=s.heap.objs.size + 1:=fun ob=>size_push ..;show Q (.ref (s.heap.push _).objs.size) _;rw [e1];refine h _ (s.heap.objs.size + 1) [s.heap.objs.size + 1,S,s.heap.objs.size] (o.map (valAt es)) _ ((hp.map _).trans (by rw [qc8b])) (by rw [length_map,hp.length_eq,length_range]) 'h' (fun b hb=>?_) (fun b hb=>?_) (le_succ _) (fun A' hA=>w_drawn hA (ne_of_lt (lt_succ_of_lt hlt)) (ne_of_lt (lt_succ_self _)) hf hp) ⟨by rw [← e1];exact get?_push_size _ rfl,get?_push_of_some _ (get?_push_of_some _ ho),get?_push_of_some _ (get?_push_size _ rfl)⟩ (fun b o e=>get?_push_of_some _ (get?_push_of_some _ e)) rfl rfl rfl
   ·simp at hb;rcases hb with rfl | rfl | rfl
    ·exact .inr (le_succ _)
    ·exact .inl rfl
    ·exact .inr 'e'
   ·show b < ((s.heap.push _).push _).objs.size
    rw [size_push,e1];simp at hb;rcases hb with rfl | rfl | rfl
    ·exact lt_succ_self _
    ·exact lt_succ_of_lt (lt_succ_of_lt hlt)
    ·exact lt_succ_of_lt (lt_succ_self _)
end
end Sx
end
section
namespace Sx
open PySem
section
variable{prog:Program}{w:World}{A:Around}{E:Value->Shared->Prop}{s:Shared}{S:Addr}{es:Array 's'}{ep:Nat}{t:SetTable}
abbrev nilO:Obj:={ cls:=.type "list",data:=.seq ([]:List Value).toArray }
def qd0k(hh:A.handled=none)(ho:s.heap.get? S=some (setO es ep t))(hf:t.fits es.size=true)(ok:TOk t) (hl:t.led = !w.params.followText "set-order") (hz:es.size <= 4096) {Q:List Value->Shared->Prop}
  (h:∀ (s':Shared) (out:List Value),out.Perm (es.toList.map (·.2))->(∀ b o,s.heap.get? b=some o->s'.heap.get? b=some o)->s'.gens=s.gens->s'.os=s.os->Q out s') :
  wpAny (model prog w) A (collect (.ref S)) Q E s:=by
 unfold collect;refine wpAny_bind (wpAny_runValue (codeAny_builtin F.entry_proto_collect ?_));rw [Around.under_plainId F.plain_proto_collect _];show wpAny _ A.in1 (newList [] >>= fun l=>again (.builtin "list.__iadd__" ⟨[l,.ref S],[]⟩)) _ _ s;refine wpAny_bind (wpAny_newObj_type (wpAny_pure ⟨plainId_quiet F.plain_list_iadd _,codeAny_builtin F.entry_list_iadd ?_⟩));rw [Around.under_plainId F.plain_list_iadd _];show wpAny _ A.in1 (Builtin.List.listExtendWith (.ref s.heap.objs.size) (.ref S) (.ref s.heap.objs.size)) _ _ { s with heap:=s.heap.push nilO };unfold Builtin.List.listExtendWith;have hlt:=lt_size ho;have ho1:(s.heap.push nilO).get? S=some (setO es ep t):=get?_push_of_some _ ho;have hL1:(s.heap.push nilO).get? s.heap.objs.size=some nilO:=get?_push_size _ rfl;have z1:(s.heap.push nilO).objs.size=s.heap.objs.size + 1:=size_push ..;have h1:Builtin.List.listSameRef (.ref s.heap.objs.size) (.ref S)=false:=by simp [Builtin.List.listSameRef,ne_of_gt hlt]
 refine wpAny_bind (wpAny_typeOf (T:="set") ⟨_,ho1,rfl⟩ ?_);rw [if_neg (by rw [h1];decide)];refine wpAny_bind (qd2y ho1 hf ok hl hz fun s' I fp out St op ol hI f1 f2 f3 W st kp eg eo et=>?_);have ho2:=kp _ _ ho1;have hL2:=kp _ _ hL1;have hS:s'.TypeIs (.ref S) "set":=⟨_,ho2,rfl⟩;refine wpAny_bind (wpAny_holding ?_);unfold Builtin.List.listLengthHint;refine wpAny_bind (wpAny_specialOf hS F.slot_set_len.lookup ?_)
 wp_delta
 refine wpAny_bind (wpAny_isInstance (b:=true) hS sub_set_self ?_);show wpAny _ A.in1 (typeOf (Value.ref S) >>= _) _ _ _;refine wpAny_bind (wpAny_typeOf hS (wpAny_pure ?_));show wpAny _ A.in1 (rule "list.extend.makes-room" >>= fun _=>Builtin.List.listTouch (.ref s.heap.objs.size) >>= fun _=>again (.builtin "list.extend.loop" ⟨[.ref s.heap.objs.size,.ref I,.ref s.heap.objs.size],[]⟩)) _ _ _;refine wpAny_bind (wpAny_rule (wpAny_bind ?_));show wpAny _ A.in1 (updateSeq s.heap.objs.size (·.push .none) >>= fun _=>updateSeq s.heap.objs.size (·.pop)) _ _ s';refine wpAny_bind (wpAny_updateSeq hL2 rfl ?_);have hL3:=get?_update_self (Obj.mapSeq (·.push Value.none)) hL2 rfl;refine wpAny_updateSeq hL3 rfl ?_;have hL4:=get?_update_self (Obj.mapSeq (·.pop)) hL3 rfl;have nf:s.heap.objs.size ∉ fp:=fun hm=>by
  rcases f1 _ hm with q | q
  ·exact ne_of_gt hlt q
  ·rw [z1] at q;exact absurd q (Nat.not_succ_le_self _)
 have oth:∀ b o,b ≠ s.heap.objs.size->s'.heap.get? b=some o->((s'.heap.update s.heap.objs.size (Obj.mapSeq (·.push Value.none))).update s.heap.objs.size (Obj.mapSeq (·.pop))).get? b=some o:=
  fun b o hb e=>(Heap.get?_update_other _ _ (Ne.symm hb)).trans ((Heap.get?_update_other _ _ (Ne.symm hb)).trans e)
 have W1:=W A.in1.in1 (by simp [hh]);have Ws:=W1.toS;refine wpAny_pure ⟨plainId_quiet F.plain_extend_loop _,codeAny_extend_loopS (W A.in1 (by simp [hh])).toS (le_trans hz 'd') _ nf _ es.size 0 _ _ _ rfl (zero_le _)
  (Ws.frame 0 s' _ s'.toks st 'e' fun b hb o e=>oth b o (fun q=>nf (q ▸ hb)) e) hL4 (ItemsOf.nil _) fun s2 acc c mv hS2 hacc=>?_⟩
 show wpAny _ A (load s.heap.objs.size >>= _) _ _ s2;refine wpAny_bind (wpAny_load hS2 (wpAny_pure ?_));have eq:acc.toList=out:=by
  apply List.ext_getElem?
  intro j;by_cases hj:j < acc.size
  ·have q:=hacc.2 j acc[j] (Array.getElem?_eq_getElem hj)
   rw [getElem?_toList,Array.getElem?_eq_getElem hj];exact q.symm
  ·rw [getElem?_toList,getElem?_eq_none 'o',List.getElem?_eq_none (by have:=hacc.1;omega)]
 rw [eq];refine h s2 out op (fun b o e=>?_) (mv.gens.trans eg) (mv.os.trans eo);have hb:=lt_size e;refine mv.heap b o (fun hm=>?_) (oth b o (ne_of_lt hb) (kp _ _ (get?_push_of_some _ e)));rcases mem_cons.mp hm with q | q
 ·exact absurd hb (by rw [q];exact lt_irrefl _)
 ·rw [mem_singleton] at q
  rw [z1] at f3;exact absurd hb (by rw [q];exact Nat.not_lt.mpr (le_trans (le_succ _) f3))
end
end Sx
end
namespace L2
open PySem PySem.Spec PyProof.Rows
section
noncomputable def clOf(env:Env):List (Str × NameKind)->List (Str × Addr)->List (Str × Addr)
 | [],acc=>acc
 | (n,k) :: r,acc=>if k == .free then clOf env r ((n,(env.cells.lookup n).getD 0) :: acc) else clOf env r acc
def qb1h(env:Env)(f:Str × NameKind->List (Str × Addr)->Sem (ForInStep (List (Str × Addr)))) :
  ∀ (names:List (Str × NameKind)) (acc:List (Str × Addr)),
   (∀ y ∈ names,∀ c,f y c=if (y.2 == .free)=true then pure (.yield ((y.1,(env.cells.lookup y.1).getD 0) :: c)) else pure (.yield c)) ->
   (forIn names acc f:Sem _)=pure (clOf env names acc)
 | [],acc,_=>by rw [List.forIn_nil];rfl
 | (n,k) :: r,acc,h=>by
  rw [List.forIn_cons,h (n,k) mem_cons_self];have hr:∀ y ∈ r,∀ c,f y c=if (y.2 == .free)=true then pure (.yield ((y.1,(env.cells.lookup y.1).getD 0) :: c)) else pure (.yield c):=fun y hy=>h y (mem_cons_of_mem _ hy)
  unfold clOf;by_cases hk:(k == NameKind.free)=true
  ·rw [if_pos hk,if_pos hk,← qb1h env f r _ hr]
   all_goals rfl
  ·rw [if_neg hk,if_neg hk,← qb1h env f r _ hr]
   all_goals rfl
def qb2i{env:Env}{scope:Scope}(h:∀ y ∈ scope.names,y.2=.free->∃ c,env.cells.lookup y.1=some c) :
  closureFor scope env=pure (clOf env scope.names []):=by
 simp only [closureFor];rw [qb1h env _ scope.names [] (fun y hy c=>by
  obtain⟨n,k⟩:=y;by_cases hk:k=.free
  ·subst hk
   obtain⟨a,ha⟩:=h (n,.free) hy rfl;have e:cellOf env n=pure a:=by unfold cellOf;rw [ha]
   simp only [beq_self_eq_true,if_true,e,ha,Option.getD_some];rfl
  ·have hb:(k == NameKind.free)=false:=by simpa using hk
   simp only [hb,false_eq_true,if_false])]
 rfl
def qa6o(env:Env):∀ (names:List (Str × NameKind)) (acc:List (Str × Addr)),clOf env names acc=clOf env names [] ++ acc
 | [],acc=>rfl
 | (n,k) :: r,acc=>by
  unfold clOf;split
  ·rw [qa6o env r,qa6o env r [_],append_assoc];rfl
  ·exact qa6o env r acc
def qa6p{env:Env}:∀ {names:List (Str × NameKind)} {x:Str} {c:Addr},(x,c) ∈ clOf env names []->(x,NameKind.free) ∈ names/\c=(env.cells.lookup x).getD 0
 | [],x,c,h=>by cases h
 | (n,k) :: r,x,c,h=>by
  unfold clOf at h;split at h
  ·rename_i hk
   rw [qa6o] at h;rcases mem_append.mp h with h | h
   ·exact⟨mem_cons_of_mem _ (qa6p h).1,(qa6p h).2⟩
   ·have e:(x,c)=(n,(env.cells.lookup n).getD 0):=by simpa using h
    have hk':k=.free:=by simpa using hk
    cases e
    exact⟨by rw [hk'];exact mem_cons_self,rfl⟩
  ·exact⟨mem_cons_of_mem _ (qa6p h).1,(qa6p h).2⟩
def qb7r{env:Env}:∀ {names:List (Str × NameKind)} {x:Str},(x,NameKind.free) ∈ names->(x,(env.cells.lookup x).getD 0) ∈ clOf env names []
 | [],x,h=>by cases h
 | (n,k) :: r,x,h=>by
  unfold clOf;rcases mem_cons.mp h with e | h
  ·cases e
   rw [if_pos (by rfl),qa6o];exact mem_append_right _ 'h'
  ·split
   ·rw [qa6o];exact List.mem_append_left _ (qb7r h)
   ·exact qb7r h
def qa4m:∀ (names:List (Str × NameKind)) (n:Nat) (acc:List (Str × Addr)),cellsFrom n names acc=cellsFrom n names [] ++ acc
 | [],_,acc=>rfl
 | (x,k) :: r,n,acc=>by
  unfold cellsFrom;split
  ·rw [qa4m r,qa4m r _ [_],append_assoc];rfl
  ·exact qa4m r n acc
def qa2w:∀ {names:List (Str × NameKind)} {n:Nat} {x:Str} {c:Addr},(x,c) ∈ cellsFrom n names []->(x,NameKind.cell) ∈ names/\n <= c
 | [],n,x,c,h=>by cases h
 | (y,k) :: r,n,x,c,h=>by
  unfold cellsFrom at h;split at h
  ·rename_i hk
   rw [qa4m] at h;rcases mem_append.mp h with h | h
   ·have q:=qa2w h
    exact⟨mem_cons_of_mem _ q.1,'o'⟩
   ·have e:(x,c)=(y,n):=by simpa using h
    have hk':k=.cell:=by simpa using hk
    cases e
    exact⟨by rw [hk'];exact mem_cons_self,le_refl _⟩
  ·have q:=qa2w h
   exact⟨mem_cons_of_mem _ q.1,q.2⟩
def qa6q{α:Type}(x:Str):∀ (a b:List (Str × α)),(a ++ b).lookup x=(a.lookup x).or (b.lookup x)
 | [],b=>by simp
 | (k,v) :: r,b=>by
  rw [List.cons_append,lookup_cons,lookup_cons];cases x == k with
  | true=>rfl
  | false=>exact qa6q x r b
def lookup_mem{α:Type}:∀ {l:List (Str × α)} {x:Str} {v:α},(x,v) ∈ l->∃ u,l.lookup x=some u
 | (k,w) :: r,x,v,h=>by
  rw [lookup_cons];cases e:x == k with
  | true=>exact⟨w,rfl⟩
  | false =>
   rcases mem_cons.mp h with q | q
   ·cases q;simp at e
   ·exact lookup_mem q
def qa4s{α:Type}:∀ {l:List (Str × α)} {x:Str} {v:α},(l.map (·.1)).Nodup->(x,v) ∈ l->l.lookup x=some v
 | (k,w) :: r,x,v,hn,h=>by
  rw [lookup_cons];rw [map_cons,nodup_cons] at hn;rcases mem_cons.mp h with q | q
  ·cases q;simp
  ·have:(x == k)=false:=by
    refine beq_eq_false_iff_ne.mpr ?_;rintro rfl;exact hn.1 (mem_map.mpr ⟨(x,v),q,rfl⟩)
   rw [this];exact qa4s hn.2 q
def qb0u(env:Env)(x:Str):∀ (names:List (Str × NameKind)),
  (names.map fun(n,k)=>if (k == NameKind.free && env.scope.kind == .function && env.kindOf n == some .cell) then(n,NameKind.cell) else(n,k)).lookup x =
   (names.lookup x).map fun k=>if (k == NameKind.free && env.scope.kind == .function && env.kindOf x == some .cell) then NameKind.cell else k
 | []=>rfl
 | (n,k) :: r=>by
  rw [map_cons,lookup_cons];cases hx:x == n with
  | true =>
   have e:x=n:=by simpa using hx
   subst e;by_cases hc:(k == NameKind.free && env.scope.kind == .function && env.kindOf x == some .cell)=true
   ·simp only [if_pos hc,lookup_cons,hx,map_some]
   ·simp only [if_neg hc,lookup_cons,hx,map_some]
  | false =>
   have ih:=qb0u env x r;by_cases hc:(k == NameKind.free && env.scope.kind == .function && env.kindOf n == some .cell)=true
   ·simp only [if_pos hc,lookup_cons,hx];exact ih
   ·simp only [if_neg hc,lookup_cons,hx];exact ih
def qc3z{M:Model}{A:Around}{E:Value->Shared->Prop}{s:Shared}{scope:Scope}{globals:Addr}{cl:List (Str × Addr)}{qual:Str}{outer:Env}{Q:Env->Shared->Prop}
  (hQ:Q (newEnv scope s.heap.objs.size globals (cellsFrom (s.heap.objs.size + 1) scope.names cl) qual none .none (some outer) builtinsNs)
    { s with heap:=pushCells (s.heap.push { cls:=.type "dict",data:=.dict #[] }) scope.names }) :
  wpAny M A (newFunctionEnv scope globals cl [] qual none .none (some outer)) Q E s:=by
 simp only [newFunctionEnv,Option.isSome_some,if_true];refine wpAny_bind (wpAny_alloc ?_);refine wpAny_bind (wpAny_layCells _ (fun name kind cells=>by cases hkc:kind == NameKind.cell<;>simp [hkc]) _ _ _ _ ?_);rw [show({ s with heap:=s.heap.push { cls:=.type "dict",data:=.dict #[] } }:Shared).heap.objs.size=s.heap.objs.size + 1 from size_push ..];rw [List.forIn_nil];exact wpAny_bind (wpAny_pure (wpAny_pure hQ))
section
variable{prog:Program}{w:World}{A:Around}{R:Result->Shared->Prop}{s:Shared}
def qc4a{elt target iter:Expr}{ifs:List Expr}{scope:Scope}{pos:Pos}{it acc:Value}{env:Env}(I:Nat->Shared->Prop)
  (turn:∀ n s,I n s->wpAny (model prog w) A (pyNext it) (fun r s₁=>match r with
   | none=>R (.ok .next) s₁
   | some v=>wpAny (model prog w) A (letOwnedTupleGo target it v) (fun _ s₂'=>wpAny (model prog w) A (assign target env v) (fun _ s₂ =>
     wpAny (model prog w) A (forIn ifs true fun c r=>if r=true then do let ok ← isTrue c env (eval c env);pure (ForInStep.yield ok) else pure (ForInStep.yield r)) (fun ok s₃ =>
      if ok=true then wpAny (model prog w) A (eval elt env) (fun x s₄ =>
       wpAny (model prog w) A (call (.builtin "list.append") [acc,x]) (fun _ s₅=>∃ m,m < n/\I m s₅) (notedBy (model prog w) A env fun e s'=>R (.error e) s') s₄) (notedBy (model prog w) A env fun e s'=>R (.error e) s') s₃
      else ∃ m,m < n/\I m s₃) (notedBy (model prog w) A env fun e s'=>R (.error e) s') s₂) (notedBy (model prog w) A env fun e s'=>R (.error e) s') s₂') (notedBy (model prog w) A env fun e s'=>R (.error e) s') s₁) (notedBy (model prog w) A env fun e s'=>R (.error e) s') s)
  (n:Nat) (h:I n s) :
  codeAny (model prog w) A (.compLoop (.ListComp elt [⟨target,iter,ifs,0⟩] scope pos) 0 it acc env) R s:=by
 refine codeAny_loop rfl I (fun n s hI=>?_) n h;show wpAny _ A ((compTurn (.ListComp elt [⟨target,iter,ifs,0⟩] scope pos) 0 it acc env).onRaise (fun x=>do noteFrame x env;theTreesLotGoes x)) _ _ s;refine wpAny_noted ?_;rw [compTurn_list];refine wpAny_bind (wpAny_standAt (wpAny_bind (wpAny_mono (turn n s hI) (fun r s₁ h₁=>?_) fun _ _ h'=>h')));cases r with
 | none=>exact wpAny_pure h₁
 | some v =>
  refine wpAny_bind (wpAny_mono h₁ (fun _ s₂' h₂'=>?_) fun _ _ h'=>h');refine wpAny_bind (wpAny_mono h₂' (fun _ s₂ h₂=>wpAny_bind (wpAny_mono h₂ (fun ok s₃ h₃=>?_) fun _ _ h'=>h')) fun _ _ h'=>h');cases ok with
  | false=>exact wpAny_pure ⟨rfl,h₃⟩
  | true =>
   exact wpAny_bind (wpAny_bind (wpAny_mono h₃ (fun x s₄ h₄=>wpAny_bind (wpAny_mono h₄ (fun _ s₅ h₅=>wpAny_pure (wpAny_pure ⟨rfl,h₅⟩)) fun _ _ h'=>h')) fun _ _ h'=>h'))
end
def nlt{a b:Nat}(h:b <= a):¬ a < b:=Nat.not_lt.mpr h
noncomputable def cxC(X:Cx)(scope:Scope)(own:List Str)(cap:List 'r')(fp:List Addr)(s2:Shared)(H2:Hp):Cx where
 prog:=X.prog
 w:=X.w
 K:=X.K
 mg:=X.mg
 base:=X.base
 A:=X.A
 N:=own ++ cap.map (·.1)
 s₀:=s2
 H₀:=H2
 env:={ scope:=relabel scope X.env,locals:=s2.heap.objs.size + 1,globals:=X.env.globals,cells:=cellsFrom (s2.heap.objs.size + 1 + 1) scope.names (clOf X.env scope.names []),qual:=X.env.qual,func:=none,code:=X.env.code,frame:=X.env.frame,builtins:=X.env.builtins }
 outer:=X.stack
 stack:=X.stack
 ex:=fp
 fn:=fun x=>scope.names.lookup x == some .cell
 calm:=X.calm
 pn:=[]
 xe:=fun _ _=>False
noncomputable def qa6z(own:List Str)(cap:List 'r')(σ:St):St:=List.replicate own.length none ++ cap.map fun p=>(σ[p.2]?).join
noncomputable def qa5g(X:Cx)(scope:Scope)(own:List Str)(cap:List 'r'):Bool:=
 scope.kind == .function && (scope.names.all fun y=>y.2 != .free || X.env.kindOf y.1 == some .cell || X.env.kindOf y.1 == some .free) &&
 (cap.all fun p=>X.N[p.2]? == some p.1 && scope.names.lookup p.1 == some .free) && (own.all fun x=>!((cap.map (·.1)).contains x))
section
variable{X:Cx}{pins:List 'g'}{σ:St}{H2:Hp}{s2:Shared}{scope:Scope}{own:List Str}{cap:List 'r'}{fp:List Addr}
def qb1i(h:qa5g X scope own cap=true):scope.kind=.function:=by
 simp only [qa5g,and_eq_true,beq_iff_eq] at h;exact h.1.1.1
def qb1j(h:qa5g X scope own cap=true):∀ y ∈ scope.names,y.2=.free->X.env.kindOf y.1=some .cell ∨ X.env.kindOf y.1=some .free:=by
 simp only [qa5g,and_eq_true,beq_iff_eq] at h;intro y hy hf;have q:=all_eq_true.mp h.1.1.2 y hy;simp only [hf,bne_self_eq_false,Bool.false_or,Bool.or_eq_true,beq_iff_eq] at q;exact q
def qd0l(h:qa5g X scope own cap=true):∀ p ∈ cap,X.N[p.2]? = some p.1/\scope.names.lookup p.1=some .free:=by
 simp only [qa5g,and_eq_true,beq_iff_eq] at h;intro p hp;have q:=all_eq_true.mp h.1.2 p hp;simp only [and_eq_true,beq_iff_eq] at q;exact q
def qd2z(I:Inv X pins σ H2 s2)(hok:qa5g X scope own cap=true)(hnd:(scope.names.map (·.1)).Nodup)(hfp:∀ b ∈ fp,FpOk X pins H2 b)(hob:∀ b ∈ fp,∃ o,s2.heap.get? b=some o) :
  Inv (cxC X scope own cap fp s2 H2) [] (qa6z own cap σ) (upd H2 s2.heap.objs.size (.lst []))
   { s2 with heap:=pushCells ((s2.heap.push { cls:=.type "list",dict:=none,data:=.seq ([]:List Value).toArray }).push { cls:=.type "dict",data:=.dict #[] }) scope.names }:=by
 have hkind:=qb1i hok;have hfree:=qb1j hok;have hcap:=qd0l hok;have hdf:H2 s2.heap.objs.size=none:=I.fresh;generalize hh1:s2.heap.push { cls:=.type "list",dict:=none,data:=.seq ([]:List Value).toArray }=h1;have z1:h1.objs.size=s2.heap.objs.size + 1:=by rw [← hh1,size_push]
 generalize hh2:h1.push { cls:=.type "dict",data:=.dict #[] }=h2;have z2:h2.objs.size=s2.heap.objs.size + 1 + 1:=by rw [← hh2,size_push,z1]
 have k1:∀ b o,s2.heap.get? b=some o->h1.get? b=some o:=fun b o e=>by rw [← hh1];exact get?_push_of_some _ e
 have k2:∀ b o,h1.get? b=some o->h2.get? b=some o:=fun b o e=>by rw [← hh2];exact get?_push_of_some _ e
 have k3:∀ b o,h2.get? b=some o->(pushCells h2 scope.names).get? b=some o:=fun b o e=>pushCells_keeps _ _ b o e;have k:∀ b o,s2.heap.get? b=some o->(pushCells h2 scope.names).get? b=some o:=fun b o e=>k3 b o (k2 b o (k1 b o e));have hD:(pushCells h2 scope.names).get? s2.heap.objs.size=some { cls:=.type "list",dict:=none,data:=.seq ([]:List Value).toArray }:=by
  refine k3 _ _ (k2 _ _ ?_);rw [← hh1];exact get?_push_size _ rfl
 have hC:(pushCells h2 scope.names).Ns (s2.heap.objs.size + 1) fun _=>none:=by
  have q:h2.Ns h1.objs.size fun _=>none:=by rw [← hh2];exact Heap.Ns.new h1 (.type "dict")
  rw [z1] at q;exact q.keeps k3
 have own_ok:=cellsFrom_ok scope.names h2 (s2.heap.objs.size + 1 + 1) [] ⟨fun _ _ hm=>(nomatch hm),List.Pairwise.nil⟩ (by rw [z2];exact le_refl _);rw [z2] at own_ok;have ec:(cxC X scope own cap fp s2 H2).env.cells=cellsFrom (s2.heap.objs.size + 1 + 1) scope.names [] ++ clOf X.env scope.names []:=qa4m _ _ _
 -- an entry is a new cell, or one of the names around
 have split:∀ x c,(cxC X scope own cap fp s2 H2).env.cells.lookup x=some c->((x,c) ∈ cellsFrom (s2.heap.objs.size + 1 + 1) scope.names []) ∨ ((x,NameKind.free) ∈ scope.names/\X.env.cells.lookup x=some c):=fun x c e=>by
  rw [ec,qa6q] at e;cases e1:(cellsFrom (s2.heap.objs.size + 1 + 1) scope.names []).lookup x with
  | some c'=>rw [e1] at e;cases e;exact .inl (mem_of_lookup e1)
  | none =>
   rw [e1] at e;have e':(clOf X.env scope.names []).lookup x=some c:=e;obtain⟨m1,m2⟩:=qa6p (mem_of_lookup e');obtain⟨c',hc'⟩:=I.ok.has x (hfree _ m1 rfl);rw [hc'] at m2;exact .inr ⟨m1,by rw [hc',m2];rfl⟩
 have capCell:∀ x,(x,NameKind.free) ∈ scope.names->∀ c,X.env.cells.lookup x=some c->(cxC X scope own cap fp s2 H2).env.cells.lookup x=some c:=fun x hx c hc=>by
  rw [ec,qa6q];cases e1:(cellsFrom (s2.heap.objs.size + 1 + 1) scope.names []).lookup x with
  | some c' =>
   have q:=(qa2w (mem_of_lookup e1)).1;have q1:=qa4s hnd q;have q2:=qa4s hnd hx;rw [q1] at q2;cases q2
  | none =>
   obtain⟨u,hu⟩:=lookup_mem (qb7r (env:=X.env) hx);have m2:=(qa6p (mem_of_lookup hu)).2;rw [hc] at m2;show(clOf X.env scope.names []).lookup x=some c;rw [hu,m2];rfl
 have lt_of_around:∀ x c,X.env.cells.lookup x=some c->c < s2.heap.objs.size:=fun x c e=>by
  obtain⟨v,q⟩:=I.cell x c e;exact q.lt
 have kof:∀ x,(cxC X scope own cap fp s2 H2).env.kindOf x=(scope.names.lookup x).map fun k=>if (k == NameKind.free && X.env.scope.kind == .function && X.env.kindOf x == some .cell) then NameKind.cell else k:=fun x=>qb0u X.env x scope.names
 have fpLt:∀ b ∈ fp,b < s2.heap.objs.size:=fun b hb=>by obtain⟨o,e⟩:=hob b hb;exact lt_size e
 have hokH:HOk X.prog X.w (upd H2 s2.heap.objs.size (.lst [])) (pushCells h2 scope.names):=I.hok.laid k 'e' ⟨zero_le _,[],_,.nil,hD⟩;refine⟨⟨I.ok.mod,?_,I.ok.glob,I.ok.blt,le_succ _,fun x y c e1 e2=>?_,fun x hx=>?_,fun x c hf e=>?_,I.ok.hd,I.ok.frames,.inl rfl,fun b hb=>⟨?_,fun x c e=>?_⟩,I.bs,le_trans I.ok.bsz I.sz,fun b o e hb=>?_,fun b hb hb2=>?_,I.stack,I.stkFree⟩,
  rfl,I.bare,Un.laid k 'e' hdf,⟨_,hC,fun i x v e1 e2 e3=>?_⟩,fun x c e=>?_,?_,fun x c e=>?_,fun p hp=>?_,hokH,?_⟩
 ·exact hkind
 ·rcases split x c e1 with m1 | ⟨m1,q1⟩<;>rcases split y c e2 with m2 | ⟨m2,q2⟩
  ·exact name_of_addr own_ok.apart m1 m2
  ·exact absurd (lt_of_around y c q2) (nlt (by have:=(qa2w m1).2;omega))
  ·exact absurd (lt_of_around x c q1) (nlt (by have:=(qa2w m2).2;omega))
  ·exact I.ok.inj x y c q1 q2
 ·rw [kof x] at hx
  cases e1:scope.names.lookup x with
  | none=>rw [e1] at hx;rcases hx with z | z<;>cases z
  | some kx =>
   have mx:=mem_of_lookup e1;cases kx with
   | free =>
    obtain⟨c,hc⟩:=I.ok.has x (hfree _ mx rfl);exact⟨c,capCell x mx c hc⟩
   | cell =>
    have q:=PySem.W.cellsFrom_some scope.names (s2.heap.objs.size + 1 + 1) (clOf X.env scope.names []) (x:=x) (.inl e1);exact isSome_iff_exists.mp q
   | _=>rw [e1] at hx;rcases hx with z | z<;>simp at z
 ·rcases split x c e with m1 | ⟨m1,q1⟩
  ·have:=(qa2w m1).2;show s2.heap.objs.size <= c;omega
  ·have q2:=qa4s hnd m1
   have hf':(scope.names.lookup x == some NameKind.cell)=true:=hf;rw [q2] at hf';simp at hf'
 ·exact ne_of_lt (lt_succ_of_lt (fpLt b hb))
 ·have h1:=fpLt b hb
  rcases split x c e with m1 | ⟨m1,q1⟩
  ·exact ne_of_gt (lt_of_lt_of_le h1 (by have:=(qa2w m1).2;omega))
  ·exact(hfp b hb).2.2.2.2.1 x c q1
 ·rcases (hfp b hb).2.2.2.1 with z | z
  ·exact I.ok.noex b o e z
  ·exact absurd (lt_of_lt_of_le (lt_size e) (le_trans I.ok.bsz z)) (lt_irrefl _)
 ·rcases mem_cons.mp (I.stkSub b hb2) with z | z
  ·exact(hfp b hb).2.1 z
  ·exact(hfp b hb).2.2.1 z
 ·-- names that are closed over
  have ei:own.length <= i:=by
   by_cases hi:i < own.length
   ·unfold qa6z at e2
    rw [List.getElem?_append_left (by simpa using hi),List.getElem?_replicate,if_pos hi] at e2;cases e2
   ·omega
  have e1':(cap.map (·.1))[i - own.length]? = some x:=by
   have:(own ++ cap.map (·.1))[i]? = some x:=e1
   rwa [getElem?_append_right ei] at this
  have e2':(cap.map fun p=>(σ[p.2]?).join)[i - own.length]? = some (some v):=by
   unfold qa6z at e2;rw [getElem?_append_right (by simpa using ei)] at e2;simpa using e2
  rw [getElem?_map] at e1' e2';cases ep:cap[i - own.length]? with
  | none=>rw [ep] at e1';cases e1'
  | some p =>
   rw [ep] at e1' e2';have hx:p.1=x:=by simpa using e1'
   have hv:(σ[p.2]?).join=some v:=by simpa using e2'
   have hσ:σ[p.2]? = some (some v):=by
    cases eσ:σ[p.2]? with
    | none=>rw [eσ] at hv;cases hv
    | some w'=>rw [eσ] at hv;simp at hv;rw [hv]
   obtain⟨hN,hl⟩:=hcap p (mem_of_getElem? ep);rw [hx] at hN hl;have mx:=mem_of_lookup hl;have hvis:Vis X.env.scope x:=by
    rcases hfree _ mx rfl with z | z
    ·exact .inr (.inl z)
    ·exact .inr (.inr z)
   obtain⟨m,_,hl'⟩:=I.loc;obtain⟨u,r,lk⟩:=hl' p.2 x v hN hσ hvis;refine⟨u,r,.inr ?_⟩;rcases lk with⟨z,_⟩ | ⟨z,c,hc,hcell⟩
   ·rcases hfree _ mx rfl with z' | z'<;>rw [z'] at z<;>cases z
   ·refine⟨?_,c,capCell x mx c hc,hcell.keeps k⟩
    rw [kof x,hl];by_cases hcc:(NameKind.free == NameKind.free && X.env.scope.kind == .function && X.env.kindOf x == some .cell)=true
    ·left;simp only [map_some,if_pos hcc]
    ·right;simp only [map_some,if_neg hcc]
 ·rcases split x c e with m1 | ⟨m1,q1⟩
  ·exact⟨_,(own_ok.empty x c m1).1⟩
  ·obtain⟨v,q⟩:=I.cell x c q1
   exact⟨v,q.keeps k⟩
 ·show upd H2 s2.heap.objs.size (.lst []) (s2.heap.objs.size + 1)=none
  rw [qa0j (Nat.succ_ne_self _)];exact I.hok.fresh (le_succ _)
 ·rcases split x c e with m1 | ⟨m1,q1⟩
  ·have hle:=(qa2w m1).2
   rw [qa0j (ne_of_gt (lt_of_lt_of_le (lt_succ_self _) 'o'))];exact I.hok.fresh 'o'
  ·rw [qa0j (ne_of_lt (lt_of_around x c q1))]
   exact I.freeC x c q1
 ·exact absurd (show p ∈ ([]:List 'g') from hp) 'h'
 ·unfold qa6z
  show _=(own ++ cap.map (·.1)).length;simp
end
def PIf(X:Cx)(ifs:List Expr)(t:TT):Prop:=
 ∀ (pins:List 'g') (s:Shared) (σ:St) (H:Hp) (Q:Bool->Hp->Prop),Inv X pins σ H s->t σ H Q ->
  wpAny (model X.prog X.w) X.A (forIn ifs true fun c r=>if r=true then do let ok ← isTrue c X.env (eval c X.env);pure (ForInStep.yield ok) else pure (ForInStep.yield r)) (TP X pins σ Q) X.xe s
def tYes:TT:=fun _ H Q=>Q true H
def qc5m{X:Cx}:PIf X [] tYes:=fun _ _ _ H _ I h=>wpAny_tests_nil ⟨H,I,h⟩
def pif_one{X:Cx}{c:Expr}{t:TT}(h:PT X c t):PIf X [c] t:=fun pins s σ H Q I hq=>wpAny_tests_one (h pins s σ H Q I hq)
def qb4x(own:List Str)(cap:List 'r')(g:TG)(tt:TT)(te:TE)(J:It)(D:Addr)(σ:St)(H1:Hp)(Z:Hp->Prop):Prop:=
 ∃ W:Nat->Nat->St->Hp->Prop,(∃ m,W 0 m (qa6z own cap σ) (upd H1 D (.lst [])))/\∀ i m σ' H',W i m σ' H' ->
  (J.stop i H'/\Z H') ∨ (J.go i H'/\∃ N:St->Hp->Prop,(∀ σ'' H'',N σ'' H''->∃ m',m' < m/\W (i + 1) m' σ'' H'')/\∀ x H'',J.yld i H' x H'' ->
   g x σ' H'' fun σ2 H2=>tt σ2 H2 fun b H3=>if b=true then te σ2 H3 fun y H4=>∃ ys,H4 D=some (.lst ys)/\ys.length < sizeLine/\N σ2 (upd H4 D (.lst (ys ++ [y]))) else N σ2 H3)
def tComp(own:List Str)(cap:List 'r')(wi:TI)(g:TG)(tt:TT)(te:TE):TE:=fun σ H Q=>wi σ H fun J H1=>∀ D,H1 D=none->qb4x own cap g tt te J D σ H1 (Q (.ref D))
def qc0j{X:Cx}{elt tg iter:Expr}{ifs:List Expr}{scope:Scope}{pos:Pos}{own:List Str}{cap:List 'r'}{g:TG}{tt:TT}{te:TE}
  (hc:X.calm=true) (hok:qa5g X scope own cap=true) (hnd:(scope.names.map (·.1)).Nodup)
  (hg:∀ fp s2 H2,PG (cxC X scope own cap fp s2 H2) tg g) (ht:∀ fp s2 H2,PIf (cxC X scope own cap fp s2 H2) ifs tt) (he:∀ fp s2 H2,PE (cxC X scope own cap fp s2 H2) elt te)
  {pins:List 'g'} {σ:St} {H1:Hp} {s2:Shared} {it:Addr} {fp:List Addr} {tn:Nat->Heap->Prop} {J:It} {Z:Hp->Prop} {RR:Result->Shared->Prop}
  (I:Inv X pins σ H1 s2) (T:Turn X.prog X.w X.K tg J fp it tn) (h0:tn 0 s2.heap) (hfp:∀ b ∈ fp,FpOk X pins H1 b)
  (hb:qb4x own cap g tt te J s2.heap.objs.size σ H1 Z)
  (hR:∀ s' H' m,(∀ h',Heap.SameBut (s2.heap.objs.size + 1) s'.heap h'->Inv X pins σ H' { s' with heap:=h' })->s'.heap.Ns (s2.heap.objs.size + 1) m->H' (s2.heap.objs.size + 1)=none->Z H'->RR (.ok .next) s') :
  wpAny (model X.prog X.w) X.A (newFunctionEnv scope X.env.globals (clOf X.env scope.names []) [] X.env.qual none .none (some X.env)) (fun cenv s₄ =>
   cenv.locals=s2.heap.objs.size + 1/\codeAny (model X.prog X.w) X.A (.compStart (.ListComp elt [⟨tg,iter,ifs,0⟩] scope pos) 0 (.ref it) (.ref s2.heap.objs.size) { cenv with scope:=relabel scope X.env }) RR s₄)
   X.xe { s2 with heap:=s2.heap.push { cls:=.type "list",dict:=none,data:=.seq ([]:List Value).toArray } }:=by
 have hob:∀ b ∈ fp,∃ o,s2.heap.get? b=some o:=fun b hb=>let ⟨o,e,_⟩:=T.obj _ _ h0 b hb;⟨o,e⟩;have I0:=qd2z (own:=own) (cap:=cap) I hok hnd hfp hob;refine qc3z ?_;have z1:(s2.heap.push { cls:=.type "list",dict:=none,data:=.seq ([]:List Value).toArray }).objs.size=s2.heap.objs.size + 1:=size_push ..
 dsimp only
 rw [z1];refine⟨rfl,?_⟩;show codeAny (model X.prog X.w) X.A (.compStart (.ListComp elt [⟨tg,iter,ifs,0⟩] scope pos) 0 (.ref it) (.ref s2.heap.objs.size) (cxC X scope own cap fp s2 H1).env) RR _;generalize hs4:({ s2 with heap:=pushCells ((s2.heap.push { cls:=.type "list",dict:=none,data:=.seq ([]:List Value).toArray }).push { cls:=.type "dict",data:=.dict #[] }) scope.names }:Shared)=s4 at I0 ⊢;have kp:∀ b o,s2.heap.get? b=some o->s4.heap.get? b=some o:=fun b o e=>by
  rw [← hs4];exact pushCells_keeps _ _ b o (get?_push_of_some _ (get?_push_of_some _ e))
 have st4:tn 0 s4.heap:=T.keep _ _ _ h0 fun b _ o e=>kp b o e;obtain⟨W,⟨m0,w0⟩,turn⟩:=hb
 -- the iterator's records are the block's own
 have stat:∀ {H':Hp},(∀ b ∈ fp,H' b=none)->∀ b ∈ fp,FpOk (cxC X scope own cap fp s2 H1) [] H' b:=fun hn b hb =>
  ⟨hn b hb,(I0.ok.exf b hb).1,I0.ok.exfs b hb,.inl hb,fun x c e=>(I0.ok.exf b hb).2 x c e,fun p hp=>absurd (show p ∈ ([]:List 'g') from hp) 'h'⟩
 have fr0:∀ b ∈ fp,upd H1 s2.heap.objs.size (.lst []) b=none:=fun b hb=>by
  obtain⟨o,e⟩:=hob b hb;rw [qa0j (ne_of_lt (lt_size e))];exact(hfp b hb).1
 have loop:codeAny (model X.prog X.w) X.A (.compLoop (.ListComp elt [⟨tg,iter,ifs,0⟩] scope pos) 0 (.ref it) (.ref s2.heap.objs.size) (cxC X scope own cap fp s2 H1).env) RR s4:=by
  refine qc4a (fun n s'=>∃ i σ' H',Inv (cxC X scope own cap fp s2 H1) [] σ' H' s'/\tn i s'.heap/\(∀ b ∈ fp,H' b=none)/\W i n σ' H') ?_ m0 ⟨0,_,_,I0,st4,fr0,w0⟩;rintro n s3 ⟨i,σ3,H3,I3,st3,fr3,w3⟩;rcases turn i n σ3 H3 w3 with⟨stop,qn⟩ | ⟨go,N,hN,step⟩
  ·refine wpAny_noRaise (thn (T.done (cxC X scope own cap fp s2 H1) rfl rfl rfl hc i [] s3 σ3 H3 _ I3 (stat fr3) st3 stop) fun r s5 hq9=>?_)
   obtain⟨hr,I5⟩:=hq9;subst hr;obtain⟨m5,hm5,_⟩:=id I5.loc;refine hR s5 H3 m5 (fun h' hs'=>?_) hm5 I5.free qn
   ·have un:Un (frs X.stack) fp H1 H3 s2.heap s5.heap:=I5.base
    have low:∀ b o,s2.heap.get? b=some o->b ≠ s2.heap.objs.size + 1:=fun b o e=>ne_of_lt (lt_succ_of_lt (lt_size e));refine I.call' (s':={ s5 with heap:=h' }) (ch:=fp) I5.os ⟨fun b o e n hb hx=>(hs'.2 b (low b o e)).trans (un.keep b o e n hb hx),fun b o e n hb hx=>?_,un.free,fun b o e hx=>?_,un.tups,un.frzs,un.tbls⟩ ?_ I5.bare fun b hb=>⟨(hfp b hb).2.2.2.1,(hfp b hb).2.1,(hfp b hb).2.2.2.2.1,(hfp b hb).2.2.2.2.2⟩
    ·obtain⟨sl,q⟩:=un.slot b o e n hb hx
     exact⟨sl,(hs'.2 b (low b o e)).trans q⟩
    ·obtain⟨o',q⟩:=un.there b o e hx
     exact⟨o',(hs'.2 b (low b o e)).trans q⟩
    ·intro b ob e
     refine(I5.hok b ob e).stay (fun c w' hc' q=>(hs'.2 c ?_).trans q) (fun _ q=>q) fun _ _ q=>q;have nC:H3 (s2.heap.objs.size + 1)=none:=I5.free;rintro rfl;rcases hc' with rfl | hc'
     ·rw [nC] at e;cases e
     ·rw [nC] at hc';cases hc'
  ·refine wpAny_noRaise (thn (T.item (cxC X scope own cap fp s2 H1) rfl rfl rfl hc i [] s3 σ3 H3 (fun _ _=>False) I3 (stat fr3) st3 go) fun r s5 hq9=>?_)
   obtain⟨u,hr,h5⟩:=hq9;subst hr;refine wpAny_noRaise (thn h5 fun _ s6 hq9=>?_);obtain⟨x,H6,I6,r6,y6,st6,fr6⟩:=hq9;have I6':=I6.pinned (stat fr6) (T.obj _ _ st6);refine wpAny_noRaise (thn (hg fp s2 H1 _ s6 σ3 H6 x u _ I6' r6 (step x H6 y6)) fun _ s7 hq9=>?_);obtain⟨σ7,H7,I7,q7⟩:=hq9;refine wpAny_noRaise (thn (ht fp s2 H1 _ s7 σ7 H7 _ I7 q7) fun ok s8 hq9=>?_);obtain⟨H8,I8,q8⟩:=hq9;have again:∀ {σ9:St} {H9:Hp} {s9:Shared},Inv (cxC X scope own cap fp s2 H1) ([] ++ qb2m fp s6.heap) σ9 H9 s9->N σ9 H9->∃ m,m < n/\∃ i σ' H',Inv (cxC X scope own cap fp s2 H1) [] σ' H' s9/\tn i s9.heap/\(∀ b ∈ fp,H' b=none)/\W i m σ' H':=fun{σ9 H9 s9} I9 n9=>by
    obtain⟨m',hm,w9⟩:=hN σ9 H9 n9;refine⟨m',hm,i + 1,σ9,H9,I9.unpinned,T.keep _ _ _ st6 fun b hb o e=>(I9.pin (b,o) (mem_append_right _ (mem_append_right _ (qa7y hb e)))).1,fun b hb=>?_,w9⟩;obtain⟨o,e,d⟩:=T.obj _ _ st6 b hb;exact(I9.pin (b,o) (mem_append_right _ (mem_append_right _ (qa7y hb e)))).2.1
   cases ok with
   | false=>exact again I8 q8
   | true =>
    rw [if_pos rfl] at q8;rw [if_pos rfl];refine wpAny_noRaise (thn (he fp s2 H1 _ s8 σ7 H8 _ I8 q8) fun y s9 hq9=>?_);obtain⟨yv,H9,I9,r9,ys,hD,hz,q9⟩:=hq9;refine wpAny_noRaise (thn (qb2p _ s9 σ7 H9 (.ref s2.heap.objs.size) [yv] (.ref s2.heap.objs.size) [y] (fun _ H'=>N σ7 H') I9 rfl (.cons r9 .nil) ⟨_,ys,yv,rfl,rfl,hD,hz,q9⟩) fun _ s10 hq9=>?_);obtain⟨_,H10,I10,_,q10⟩:=hq9;exact again I10 q10
 exact codeAny_compStart_list loop (T.self X.A 0 _ _ _ st4 loop)
def qb4m{scope:Scope}(hnd:(scope.names.map (·.1)).Nodup):∀ x ∈ scope.names,x.2=.local->scope.names.lookup x.1=some .local:=fun x hx e=>by
 obtain⟨n,k⟩:=x;have e':k=.local:=e;subst e';exact qa4s hnd hx
def qc5n{X:Cx}{elt tg iter:Expr}{ifs:List Expr}{scope:Scope}{pos:Pos}{own:List Str}{cap:List 'r'}{wi:TI}{g:TG}{tt:TT}{te:TE}
  (hc:X.calm=true) (hok:qa5g X scope own cap=true) (hnd:(scope.names.map (·.1)).Nodup) (hi:PI X tg iter wi)
  (hg:∀ fp s2 H2,PG (cxC X scope own cap fp s2 H2) tg g) (ht:∀ fp s2 H2,PIf (cxC X scope own cap fp s2 H2) ifs tt) (he:∀ fp s2 H2,PE (cxC X scope own cap fp s2 H2) elt te)
  (hs:∀ x,foldedSetIterable iter X.env x=pure x:=by intro _;rfl) :
  PE X (.ListComp elt [⟨tg,iter,ifs,0⟩] scope pos) (tComp own cap wi g tt te):=by
 intro pins s σ H Q I h;have hkind:=qb1i hok;have hclos:closureFor scope X.env=pure (clOf X.env scope.names []):=qb2i fun y hy hf=>I.ok.has y.1 (qb1j hok y hy hf);rw [eval_ListComp];refine wpAny_comprehension_free (use:=none) rfl hs hclos hkind (qb4m hnd) (thn (hi pins s σ H _ I h) fun xv s1 h1=>thn h1 fun itv s2 h2=>?_);obtain⟨it,fp,tn,J,H1,e,I2,T,st2,f2,hb⟩:=h2;subst e;refine wpAny_newObj_type (thn (qc0j (iter:=iter) (pos:=pos) (RR:=compPost (model X.prog X.w) X.A X.xe none (EP X pins σ Q) (.ref s2.heap.objs.size) (s2.heap.objs.size + 1)) hc hok hnd hg ht he I2 T st2 f2 (hb _ I2.fresh) fun s' H' m hI hm hnC z=>?_) fun cenv s4 ⟨e,q⟩=>?_)
 ·exact⟨m,hm,fun h' hs'=>⟨.ref s2.heap.objs.size,H',hI h' hs',rfl,z⟩⟩
 ·rw [← e] at q;exact q
def ps_setC{X:Cx}{i:Nat}{y:Str}{py spos:Pos}{elt tg iter:Expr}{ifs:List Expr}{scope:Scope}{pos:Pos}{own:List Str}{cap:List 'r'}{wi:TI}{g:TG}{tt:TT}{te:TE}
  (hN:X.N.Nodup) (hi':X.N[i]? = some y) (hy:X.env.scope.names.lookup y=some .local)
  (hc:X.calm=true) (hok:qa5g X scope own cap=true) (hnd:(scope.names.map (·.1)).Nodup) (hi:PI X tg iter wi)
  (hg:∀ fp s2 H2,PG (cxC X scope own cap fp s2 H2) tg g) (ht:∀ fp s2 H2,PIf (cxC X scope own cap fp s2 H2) ifs tt) (he:∀ fp s2 H2,PE (cxC X scope own cap fp s2 H2) elt te)
  (hsw:swapsWith (.ListComp elt [⟨tg,iter,ifs,0⟩] scope pos) (some (.Name y py)) spos.line X.env=pure true:=by rfl)
  (hs:∀ x,foldedSetIterable iter X.env x=pure x:=by intro _;rfl) :
  PS X (.Assign [.Name y py] (.ListComp elt [⟨tg,iter,ifs,0⟩] scope pos) spos) (tAsg (tComp own cap wi g tt te) (qa3l i)):=by
 intro pins s σ H D I h;have hkind:=qb1i hok;have hclos:closureFor scope X.env=pure (clOf X.env scope.names []):=qb2i fun y hy hf=>I.ok.has y.1 (qb1j hok y hy hf);rw [exec_Assign_Name_used _ _ _ _ hsw];refine wpAny_bind (wpAny_standAt (wpAny_bind ?_));show wpAny _ X.A (do let _ ← comprehension (.ListComp elt [⟨tg,iter,ifs,0⟩] scope pos) scope X.env _ (newList []) false (eval iter X.env) (some (assign (.Name y py) X.env))) _ _ s;refine wpAny_bind (wpAny_mono (wpAny_comprehension_free (use:=some (assign (.Name y py) X.env)) (Q:=fun _ s'=>SP X pins D .next s') rfl hs hclos hkind (qb4m hnd)
  (thn (hi pins s σ H _ I h) fun xv s1 h1=>thn h1 fun itv s2 h2=>?_)) (fun _ s' hq=>wpAny_pure (wpAny_pure hq)) fun _ _ e=>e)
 obtain⟨it,fp,tn,J,H1,e,I2,T,st2,f2,hb⟩:=h2;subst e;refine wpAny_newObj_type (thn (qc0j (iter:=iter) (pos:=pos) (RR:=compPost (model X.prog X.w) X.A X.xe (some (assign (.Name y py) X.env)) (fun _ s'=>SP X pins D .next s') (.ref s2.heap.objs.size) (s2.heap.objs.size + 1)) hc hok hnd hg ht he I2 T st2 f2 (hb _ I2.fresh) fun s' H' m hI hm hnC z=>?_) fun cenv s4 ⟨e,q⟩=>?_)
 ·show wpAny _ _ (assign (.Name y py) X.env (.ref s2.heap.objs.size)) _ _ s'
  have I':Inv X pins σ H' s':=hI s'.heap (Heap.SameBut.refl ..);refine wpAny_assign_Name (qb8k I' hN hi' (.inl hy) (v:=.ref s2.heap.objs.size) rfl (fun s'' I'' hsb=>?_) (.inr hy));obtain⟨a,hs1,ha⟩:=hsb;have nC:s2.heap.objs.size + 1 ≠ a:=by
   rintro rfl;rcases ha with ha | ha
   ·have q:=I2.lt
    rw [← ha] at q;exact absurd q (nlt (le_succ _))
   ·obtain⟨v,q⟩:=I2.cell _ _ ha
    exact absurd q.lt (nlt (le_succ _))
  refine⟨m,hm.sameBut hs1 nC,fun h' hs'=>⟨_,H',?_,z⟩⟩;obtain⟨_,f1,f2,f3,f4,f5⟩:=I2.fpOk (b:=s2.heap.objs.size + 1) (le_succ _) hnC;exact I''.turned (t':=s''.toks) (it:=s2.heap.objs.size + 1) (fun b o hb e=>(hs'.2 b hb).trans e) hnC f1 f3 f4 f5
 ·rw [← e] at q;exact q
end
section
def qa2r:bootBuiltins "len" = some (.builtin "len"):=by decide +kernel
def qb2j:bootBuiltins "isinstance" = some (.builtin "isinstance"):=by decide +kernel
def qc5o:bootBuiltins "repr" = some (.builtin "repr"):=by decide +kernel
def qb6g:bootBuiltins "int" = some (.type "int"):=by decide +kernel
def qb0v:bootBuiltins "bool" = some (.type "bool"):=by decide +kernel
def bt_str:bootBuiltins "str" = some (.type "str"):=by decide +kernel
def qa8r:bootBuiltins "list" = some (.type "list"):=by decide +kernel
def qa0t:bootBuiltins "tuple" = some (.type "tuple"):=by decide +kernel
def qb7s:bootBuiltins "dict" = some (.type "dict"):=by decide +kernel
noncomputable def kvE(p:Str × Int):Key × V:=(Sum.inr p.1,V.int p.2)
noncomputable def kvD(p:Str × Int):PyData × PyData:=(.str p.1,.int p.2)
inductive FD where
 | none
 | bool (b:Bool)
 | int (n:Int)
 | str (x:Str)
noncomputable def FD.v:FD->V
 | .none=>.non
 | .bool b=>.bl b
 | .int n=>.int n
 | .str x=>.str x
noncomputable def FD.d:FD->PyData
 | .none=>.none
 | .bool b=>.bool b
 | .int n=>.int n
 | .str x=>.str x
noncomputable def keyD:Key->PyData
 | .inl i=>.int i
 | .inr x=>.str x
noncomputable def gE(p:Key × FD):Key × V:=(p.1,p.2.v)
noncomputable def gD(p:Key × FD):PyData × PyData:=(keyD p.1,p.2.d)
noncomputable def emb(p:Str × Int):Key × FD:=(Sum.inr p.1,FD.int p.2)
mutual
noncomputable def AtD(K:W.Frag)(H:Hp)(S:Addr->Prop):PyData->V->Prop
 | .none,v=>v=.non
 | .bool b,v=>v=.bl b
 | .int i,v=>v=.int i
 | .str x,v=>v=.str x
 | .list ds,v=>∃ a xs,v=.ref a/\S a/\H a=some (.lst xs)/\qa0c K H S ds xs
 | .tuple ds,v=>∃ a xs,v=.ref a/\SqT K H a xs/\qa0c K H S ds xs
 | .dict kvs,v=>∃ (a:Addr) (κ:List (Key × V)),v=.ref a/\S a/\H a=some (.dK κ)/\qa0f K H S kvs κ
noncomputable def qa0c(K:W.Frag)(H:Hp)(S:Addr->Prop):List PyData->List V->Prop
 | [],vs=>vs=[]
 | d :: ds,vs=>∃ v r,vs=v :: r/\AtD K H S d v/\qa0c K H S ds r
noncomputable def qa0f(K:W.Frag)(H:Hp)(S:Addr->Prop):List 'l'->List (Key × V)->Prop
 | [],κ=>κ=[]
 | (x,d) :: r,κ=>∃ k v t,κ=(k,v) :: t/\x=keyD k/\AtD K H S d v/\qa0f K H S r t
end
abbrev Any:Addr->Prop:=fun _=>True
abbrev But(t:Addr):Addr->Prop:=fun b=>b ≠ t
def Keep(S:Addr->Prop)(H H':Hp):Prop:=(∀ b xs,H b=some (.tup xs)->H' b=some (.tup xs))/\(∀ b o u,H b=some (.frz o u)->H' b=some (.frz o u))/\∀ b o,S b->H b=some o->H' b=some o
section
variable{K:W.Frag}{H H':Hp}{S S':Addr->Prop}
def Keep.refl(S:Addr->Prop)(H:Hp):Keep S H H:=⟨fun _ _ h=>h,fun _ _ _ h=>h,fun _ _ _ h=>h⟩
def Keep.trans{H1:Hp}(a:Keep S H H1)(b:Keep S H1 H'):Keep S H H':=⟨fun c xs h=>b.1 c xs (a.1 c xs h),fun c o xs h=>b.2.1 c o xs (a.2.1 c o xs h),fun c xs s h=>b.2.2 c xs s (a.2.2 c xs s h)⟩
def Keep.less(e:Keep S H H')(h:∀ b,S' b->S b):Keep S' H H':=⟨e.1,e.2.1,fun b xs s q=>e.2.2 b xs (h b s) q⟩
def Same.keep(e:Same H H'):Keep S H H':=⟨fun b xs h=>e b _ h,fun b o xs h=>e b _ h,fun b xs _ h=>e b _ h⟩
def qd0m{p:Addr}{xs ys:List V}(h:H p=some (.lst xs)):Keep (But p) H (upd H p (.lst ys)):=
 ⟨fun b zs q=>by rw [qa0j (qa7x q h (by intro z;cases z))];exact q,fun b o zs q=>by rw [qa0j (qa7x q h (by intro z;cases z))];exact q,fun b zs hb q=>by rw [qa0j hb];exact q⟩
def Keep.seqT{a:Addr}{xs:List V}(e:Keep S H H')(h:SqT K H a xs):SqT K H' a xs:=by
 rcases h with(h | ⟨o,h⟩) | h
 ·exact .inl (.inl (e.1 _ _ h))
 ·exact .inl (.inr ⟨o,e.2.1 _ _ _ h⟩)
 ·exact .inr h
def qa0x{H:Hp}{p:Addr}(h:H p=none)(o:HO):Same H (upd H p o):=fun b u q=>by rw [qa0j (qa1z q h)];exact q
mutual
def AtD.mono(e:Keep S H H'):∀ (d:PyData) (v:V),AtD K H S d v->AtD K H' S d v
 | .none,_,h=>by unfold AtD at h ⊢;exact h
 | .bool _,_,h=>by unfold AtD at h ⊢;exact h
 | .int _,_,h=>by unfold AtD at h ⊢;exact h
 | .str _,_,h=>by unfold AtD at h ⊢;exact h
 | .list ds,v,h=>by
  unfold AtD at h ⊢;obtain⟨a,xs,e1,s,q,r⟩:=h;exact⟨a,xs,e1,s,e.2.2 _ _ s q,qa0c.mono e ds xs r⟩
 | .tuple ds,v,h=>by
  unfold AtD at h ⊢;obtain⟨a,xs,e1,q,r⟩:=h;exact⟨a,xs,e1,e.seqT q,qa0c.mono e ds xs r⟩
 | .dict kvs,v,h=>by
  unfold AtD at h ⊢;obtain⟨a,ν,e1,s,q,e2⟩:=h;exact⟨a,ν,e1,s,e.2.2 a _ s q,qa0f.mono e kvs ν e2⟩
def qa0c.mono(e:Keep S H H'):∀ (ds:List PyData) (vs:List V),qa0c K H S ds vs->qa0c K H' S ds vs
 | [],_,h=>by unfold qa0c at h ⊢;exact h
 | d :: ds,vs,h=>by
  unfold qa0c at h ⊢;obtain⟨v,r,e1,h1,h2⟩:=h;exact⟨v,r,e1,AtD.mono e d v h1,qa0c.mono e ds r h2⟩
def qa0f.mono(e:Keep S H H'):∀ (kvs:List 'l') (κ:List (Key × V)),qa0f K H S kvs κ->qa0f K H' S kvs κ
 | [],_,h=>by unfold qa0f at h ⊢;exact h
 | (x,d) :: r,κ,h=>by
  unfold qa0f at h ⊢;obtain⟨k,v,t,e1,e2,h1,h2⟩:=h;exact⟨k,v,t,e1,e2,AtD.mono e d v h1,qa0f.mono e r t h2⟩
end
mutual
def AtD.more(e:∀ b,S b->S' b):∀ (d:PyData) (v:V),AtD K H S d v->AtD K H S' d v
 | .none,_,h=>by unfold AtD at h ⊢;exact h
 | .bool _,_,h=>by unfold AtD at h ⊢;exact h
 | .int _,_,h=>by unfold AtD at h ⊢;exact h
 | .str _,_,h=>by unfold AtD at h ⊢;exact h
 | .list ds,v,h=>by
  unfold AtD at h ⊢;obtain⟨a,xs,e1,s,q,r⟩:=h;exact⟨a,xs,e1,e a s,q,qa0c.more e ds xs r⟩
 | .tuple ds,v,h=>by
  unfold AtD at h ⊢;obtain⟨a,xs,e1,q,r⟩:=h;exact⟨a,xs,e1,q,qa0c.more e ds xs r⟩
 | .dict kvs,v,h=>by
  unfold AtD at h ⊢;obtain⟨a,ν,e1,s,q,e2⟩:=h;exact⟨a,ν,e1,e a s,q,qa0f.more e kvs ν e2⟩
def qa0c.more(e:∀ b,S b->S' b):∀ (ds:List PyData) (vs:List V),qa0c K H S ds vs->qa0c K H S' ds vs
 | [],_,h=>by unfold qa0c at h ⊢;exact h
 | d :: ds,vs,h=>by
  unfold qa0c at h ⊢;obtain⟨v,r,e1,h1,h2⟩:=h;exact⟨v,r,e1,AtD.more e d v h1,qa0c.more e ds r h2⟩
def qa0f.more(e:∀ b,S b->S' b):∀ (kvs:List 'l') (κ:List (Key × V)),qa0f K H S kvs κ->qa0f K H S' kvs κ
 | [],_,h=>by unfold qa0f at h ⊢;exact h
 | (x,d) :: r,κ,h=>by
  unfold qa0f at h ⊢;obtain⟨k,v,t,e1,e2,h1,h2⟩:=h;exact⟨k,v,t,e1,e2,AtD.more e d v h1,qa0f.more e r t h2⟩
end
mutual
noncomputable def qa9f:PyData->Bool
 | .none=>true | .bool _=>true | .int _=>true | .str _=>true
 | .list _=>false
 | .tuple ds=>qb3x ds
 | .dict _=>false
noncomputable def qb3x:List PyData->Bool
 | []=>true
 | d :: ds=>qa9f d && qb3x ds
end
mutual
def AtD.tups:∀ (d:PyData) (v:V),qa9f d=true->AtD K H S d v->AtD K H S' d v
 | .none,_,_,h=>by unfold AtD at h ⊢;exact h
 | .bool _,_,_,h=>by unfold AtD at h ⊢;exact h
 | .int _,_,_,h=>by unfold AtD at h ⊢;exact h
 | .str _,_,_,h=>by unfold AtD at h ⊢;exact h
 | .list ds,v,t,h=>by unfold qa9f at t;cases t
 | .tuple ds,v,t,h=>by
  unfold qa9f at t;unfold AtD at h ⊢;obtain⟨a,xs,e1,q,r⟩:=h;exact⟨a,xs,e1,q,qa0c.tups ds xs t r⟩
 | .dict _,_,t,_=>by unfold qa9f at t;cases t
def qa0c.tups:∀ (ds:List PyData) (vs:List V),qb3x ds=true->qa0c K H S ds vs->qa0c K H S' ds vs
 | [],_,_,h=>by unfold qa0c at h ⊢;exact h
 | d :: ds,vs,t,h=>by
  unfold qb3x at t;rw [and_eq_true] at t;unfold qa0c at h ⊢;obtain⟨v,r,e1,h1,h2⟩:=h;exact⟨v,r,e1,AtD.tups d v t.1 h1,qa0c.tups ds r t.2 h2⟩
end
def qa0c.nil:qa0c K H S [] []:=by unfold qa0c;rfl
def qa0c.cons{d:PyData}{ds:List PyData}{v:V}{vs:List V}(h:AtD K H S d v)(t:qa0c K H S ds vs):qa0c K H S (d :: ds) (v :: vs):=by
 unfold qa0c;exact⟨v,vs,rfl,h,t⟩
def qa0c.uncons{d:PyData}{ds:List PyData}{vs:List V}(h:qa0c K H S (d :: ds) vs):∃ v r,vs=v :: r/\AtD K H S d v/\qa0c K H S ds r:=by
 unfold qa0c at h;exact h
def qa0c.unnil{vs:List V}(h:qa0c K H S [] vs):vs=[]:=by unfold qa0c at h;exact h
def qa0c.length:∀ {ds:List PyData} {vs:List V},qa0c K H S ds vs->vs.length=ds.length
 | [],_,h=>by rw [h.unnil];rfl
 | d :: ds,vs,h=>by
  obtain⟨v,r,e,_,t⟩:=h.uncons;rw [e,length_cons,length_cons,qa0c.length t]
def qa0c.get:∀ {ds:List PyData} {vs:List V} {i:Nat} {d:PyData},qa0c K H S ds vs->ds[i]? = some d->∃ v,vs[i]? = some v/\AtD K H S d v
 | [],_,i,d,_,e=>by simp at e
 | d' :: ds,vs,0,d,h,e=>by
  obtain⟨v,r,rfl,hd,t⟩:=h.uncons;simp at e;subst e;exact⟨v,by simp,hd⟩
 | d' :: ds,vs,i + 1,d,h,e=>by
  obtain⟨v,r,rfl,hd,t⟩:=h.uncons;obtain⟨w,e1,e2⟩:=qa0c.get (i:=i) t (by simpa using e);exact⟨w,by simpa using e1,e2⟩
def qa0c.append:∀ {ds es:List PyData} {vs ws:List V},qa0c K H S ds vs->qa0c K H S es ws->qa0c K H S (ds ++ es) (vs ++ ws)
 | [],_,_,_,h,t=>by rw [h.unnil];exact t
 | d :: ds,es,vs,ws,h,t=>by
  obtain⟨v,r,rfl,hd,q⟩:=h.uncons;exact .cons hd (qa0c.append q t)
def qa0c.snoc{ds:List PyData}{vs:List V}{d:PyData}{v:V}(h:qa0c K H S ds vs)(hd:AtD K H S d v):qa0c K H S (ds ++ [d]) (vs ++ [v]):=h.append (.cons hd .nil)
def qa0c.drop:∀ {ds:List PyData} {vs:List V} (n:Nat),qa0c K H S ds vs->qa0c K H S (ds.drop n) (vs.drop n)
 | _,_,0,h=>by simpa using h
 | [],vs,n + 1,h=>by rw [h.unnil];exact .nil
 | d :: ds,vs,n + 1,h=>by
  obtain⟨v,r,rfl,hd,q⟩:=h.uncons;exact qa0c.drop n q
def qa0c.take:∀ {ds:List PyData} {vs:List V} (n:Nat),qa0c K H S ds vs->qa0c K H S (ds.take n) (vs.take n)
 | _,_,0,h=>by simpa using qa0c.nil
 | [],vs,n + 1,h=>by rw [h.unnil];exact .nil
 | d :: ds,vs,n + 1,h=>by
  obtain⟨v,r,rfl,hd,q⟩:=h.uncons;exact .cons hd (qa0c.take n q)
def qa0c.set:∀ {ds:List PyData} {vs:List V} (i:Nat) {d:PyData} {v:V},qa0c K H S ds vs->AtD K H S d v->qa0c K H S (ds.set i d) (vs.set i v)
 | [],_,i,d,v,h,_=>by rw [h.unnil];exact .nil
 | d' :: ds,vs,0,d,v,h,hd=>by
  obtain⟨v',r,rfl,_,q⟩:=h.uncons;exact .cons hd q
 | d' :: ds,vs,i + 1,d,v,h,hd=>by
  obtain⟨v',r,rfl,h',q⟩:=h.uncons;exact .cons h' (qa0c.set i q hd)
def qa9g:AtD K H S .none .non:=by unfold AtD;rfl
def qa2m(b:Bool):AtD K H S (.bool b) (.bl b):=by unfold AtD;rfl
def qa2n(i:Int):AtD K H S (.int i) (.int i):=by unfold AtD;rfl
def qa4x(x:Str):AtD K H S (.str x) (.str x):=by unfold AtD;rfl
def qa8s{v:V}(h:AtD K H S .none v):v=.non:=by unfold AtD at h;exact h
def qa5o{b:Bool}{v:V}(h:AtD K H S (.bool b) v):v=.bl b:=by unfold AtD at h;exact h
def qa7m{i:Int}{v:V}(h:AtD K H S (.int i) v):v=.int i:=by unfold AtD at h;exact h
def qa9h{x:Str}{v:V}(h:AtD K H S (.str x) v):v=.str x:=by unfold AtD at h;exact h
def qa3d{ds:List PyData}{v:V}(h:AtD K H S (.tuple ds) v):∃ a xs,v=.ref a/\SqT K H a xs/\qa0c K H S ds xs:=by unfold AtD at h;exact h
def qa4b{ds:List PyData}{v:V}(h:AtD K H S (.list ds) v):∃ a xs,v=.ref a/\S a/\H a=some (.lst xs)/\qa0c K H S ds xs:=by unfold AtD at h;exact h
def qa4c{ds:List PyData}{a:Addr}{xs:List V}(q:SqT K H a xs)(h:qa0c K H S ds xs):AtD K H S (.tuple ds) (.ref a):=by unfold AtD;exact⟨a,xs,rfl,q,h⟩
def qa2o{ds:List PyData}{a:Addr}{xs:List V}(s:S a)(q:H a=some (.lst xs))(h:qa0c K H S ds xs):AtD K H S (.list ds) (.ref a):=by unfold AtD;exact⟨a,xs,rfl,s,q,h⟩
def qa8t{kvs:List 'l'}{v:V}(h:AtD K H S (.dict kvs) v):∃ (a:Addr) (κ:List (Key × V)),v=.ref a/\S a/\H a=some (.dK κ)/\qa0f K H S kvs κ:=by unfold AtD at h;exact h
def qa7n{kvs:List 'l'}{κ:List (Key × V)}{a:Addr}(s:S a)(q:H a=some (.dK κ))(h:qa0f K H S kvs κ):AtD K H S (.dict kvs) (.ref a):=by unfold AtD;exact⟨a,κ,rfl,s,q,h⟩
def qa0f.nil:qa0f K H S [] []:=by unfold qa0f;rfl
def qa0f.cons{k:Key}{v:V}{d:PyData}{r:List 'l'}{t:List (Key × V)}(h:AtD K H S d v)(hr:qa0f K H S r t):qa0f K H S ((keyD k,d) :: r) ((k,v) :: t):=by
 unfold qa0f;exact⟨k,v,t,rfl,rfl,h,hr⟩
def qa0f.uncons{x d:PyData}{r:List 'l'}{κ:List (Key × V)}(h:qa0f K H S ((x,d) :: r) κ):∃ k v t,κ=(k,v) :: t/\x=keyD k/\AtD K H S d v/\qa0f K H S r t:=by unfold qa0f at h;exact h
def qa0f.unnil{κ:List (Key × V)}(h:qa0f K H S [] κ):κ=[]:=by unfold qa0f at h;exact h
def qa9i{a b:Key}(h:keyD a=keyD b):a=b:=by cases a<;>cases b<;>simp_all [keyD]
def FD.at(f:FD):AtD K H S f.d f.v:=by
 cases f with
 | none=>exact qa9g
 | bool b=>exact qa2m b
 | int n=>exact qa2n n
 | str x=>exact qa4x x
def FD.un{f:FD}{v:V}(h:AtD K H S f.d v):v=f.v:=by
 cases f with
 | none=>exact qa8s h
 | bool b=>exact qa5o h
 | int n=>exact qa7m h
 | str x=>exact qa9h h
def qa0f.flat:∀ (κ:List (Key × FD)),qa0f K H S (κ.map gD) (κ.map gE)
 | []=>.nil
 | (k,f) :: r=>.cons f.at (qa0f.flat r)
def qa0f.unflat:∀ {κ:List (Key × FD)} {μ:List (Key × V)},qa0f K H S (κ.map gD) μ->μ=κ.map gE
 | [],μ,h=>h.unnil
 | (k,f) :: r,μ,h=>by
  obtain⟨k',v,t,e1,e2,h1,h2⟩:=qa0f.uncons (x:=keyD k) (d:=f.d) (r:=r.map gD) h;have e3:=qa9i e2;have e4:=FD.un h1;have e5:=qa0f.unflat h2;subst e3 e4 e5;exact e1
def qa9j{ds:List PyData}{p:Addr}{xs:List V}(hp:H p=none)(h:qa0c K H S ds xs):AtD K (upd H p (.tup xs)) S (.tuple ds) (.ref p):=
 qa4c (SqT.of qa0k) (qa0c.mono (qa0x hp _).keep _ _ h)
def qc0k{ds:List PyData}{p:Addr}{xs:List V}(s:S p)(hp:H p=none)(h:qa0c K H S ds xs):AtD K (upd H p (.lst xs)) S (.list ds) (.ref p):=
 qa2o s qa0k (qa0c.mono (qa0x hp _).keep _ _ h)
def qa0c.ints(ns:List Int):qa0c K H S (ns.map .int) (ns.map V.int):=by
 induction ns with
 | nil=>exact .nil
 | cons n r ih=>exact .cons (qa2n n) ih
end
def qd0n(h:Heap){k:Key}{u:Value}(q:qa6w k u=true):Reads h u (keyD k) []:=by
 rcases qa2b q with⟨i,t,e',h'⟩ | ⟨x,t,e',h'⟩
 ·rw [e',h'];exact .int i t
 ·rw [e',h'];exact .str x t
section
variable{X:Cx}{pins:List 'g'}{σ:St}{H:Hp}{s:Shared}{S:Addr->Prop}
mutual
def AtD.reads(I:Inv X pins σ H s):∀ (d:PyData) (v:V) (u:Value),AtD X.K H S d v->RelV v u->∃ as,Reads s.heap u d as
 | .none,v,u,h,r=>by cases qa8s h;cases r;exact⟨_,.none⟩
 | .bool b,v,u,h,r=>by cases qa5o h;cases r;exact⟨_,.bool b⟩
 | .int i,v,u,h,r=>by cases qa7m h;obtain⟨t,rfl⟩:=r;exact⟨_,.int i t⟩
 | .str x,v,u,h,r=>by cases qa9h h;obtain⟨t,rfl⟩:=r;exact⟨_,.str x t⟩
 | .list ds,v,u,h,r=>by
  obtain⟨a,xs,rfl,_,q,t⟩:=qa4b h;cases r;obtain⟨its,rv,⟨o,n,e,hc,_,hd⟩,_⟩:=I.list (SqL.of q);obtain⟨as,ra⟩:=qa0c.reads I ds xs its t rv;exact⟨_,.list e hc hd (by simpa using ra)⟩
 | .tuple ds,v,u,h,r=>by
  obtain⟨a,xs,rfl,q,t⟩:=qa3d h;cases r;obtain⟨its,rv,⟨o,e,hc,n,hd⟩,_⟩:=I.tuple q;obtain⟨as,ra⟩:=qa0c.reads I ds xs its t rv;exact⟨_,.tuple e hc hd (by simpa using ra)⟩
 | .dict kvs,v,u,h,r=>by
  obtain⟨a,ν,rfl,_,q,t⟩:=qa8t h;cases r;obtain⟨_,_,vs,kv,o,es,ep,e,hc,hd,_,hp,_⟩:=(show qa1v X.prog X.w H s.heap a (.dK ν) from I.hok a _ q);obtain⟨as,bs,r1,r2⟩:=qa0f.reads I kvs ν vs es.toList t kv hp;exact⟨_,.dict e hc.1 hd r1 r2⟩
def qa0c.reads(I:Inv X pins σ H s):∀ (ds:List PyData) (vs:List V) (us:List Value),qa0c X.K H S ds vs->Vals vs us->∃ as,ReadsAll s.heap us ds as
 | [],vs,us,h,r=>by
  cases h.unnil
  cases r
  exact⟨_,.nil⟩
 | d :: ds,vs,us,h,r=>by
  obtain⟨v,vr,rfl,hd,t⟩:=h.uncons;cases r with
  | cons r1 r2 =>
   obtain⟨as,q1⟩:=AtD.reads I d v _ hd r1;obtain⟨bs,q2⟩:=qa0c.reads I ds vr _ t r2;exact⟨_,.cons q1 q2⟩
def qa0f.reads(I:Inv X pins σ H s):∀ (kvs:List 'l') (κ:List (Key × V)) (vs:List (Key × Value)) (es:List DictEntry),qa0f X.K H S kvs κ->KV κ vs->Pairs (qa1b X.prog X.w) es vs->∃ as bs,ReadsAll s.heap (es.map (·.key)) (kvs.map (·.1)) as/\ReadsAll s.heap (es.map (·.val)) (kvs.map (·.2)) bs
 | [],κ,vs,es,h,r,q=>by
  cases h.unnil
  cases r
  cases q
  exact⟨_,_,.nil,.nil⟩
 | (x,d) :: kr,κ,vs,es,h,r,q=>by
  obtain⟨k,v,t,rfl,rfl,h1,h2⟩:=h.uncons;cases r with
  | cons r1 r2 =>
   cases q with
   | cons q1 q2 q3 =>
    rename_i kv _ e _;obtain⟨kk,kv2⟩:=kv;obtain⟨e1,e2⟩:=r1;cases e1;obtain⟨a1,w1⟩:=AtD.reads I d v kv2 h1 e2;obtain⟨as,bs,c1,c2⟩:=qa0f.reads I kr t _ _ h2 r2 q3;have hk:Reads s.heap e.key (keyD k) []:=qd0n _ (show qa6w k e.key=true from q1);have g1:=ReadsAll.cons hk c1;have g2:=ReadsAll.cons w1 c2;rw [show kv2=e.val from q2.symm] at g2;exact⟨_,_,g1,g2⟩
end
end
section
variable{X:Cx}
def qc5p{K:W.Frag}{H:Hp}{S:Addr->Prop}{ds:List PyData}{xs:List V}{i:Int}{d:PyData}(h:qa0c K H S ds xs)(e:atI ds i=some d):∃ v,atI xs i=some v/\AtD K H S d v:=by
 unfold atI at e ⊢;rw [h.length];cases q:ixN ds.length i with
 | none=>rw [q] at e;cases e
 | some j =>
  rw [q] at e;obtain⟨v,e1,e2⟩:=h.get (show ds[j]? = some d from e);exact⟨v,e1,e2⟩
def rEqD(K:W.Frag)(neg:Bool):R2:=fun x y H Q=>∃ S S' d e,AtD K H S d x/\AtD K H S' e y/\SeqAt.shaped d=true/\SeqAt.shaped e=true/\Q (.bl (if neg then !PyData.eqv d e else PyData.eqv d e)) H
def op_eqD(hu:X.A.units + 64 < cLine):OpR X (compareOp .Eq) (rEqD X.K false):=by
 intro pins s σ H x y v u Q I rx ry h;obtain⟨S,S',d,e,hd,he,sd,se,q⟩:=h;obtain⟨as,ra⟩:=AtD.reads I d x v hd rx;obtain⟨bs,rb⟩:=AtD.reads I e y u he ry;exact SeqAt.compareEq_shaped ra rb sd se hu ⟨.bl _,H,I,rfl,q⟩
def op_neD(hu:X.A.units + 64 < cLine):OpR X (compareOp .NotEq) (rEqD X.K true):=by
 intro pins s σ H x y v u Q I rx ry h;obtain⟨S,S',d,e,hd,he,sd,se,q⟩:=h;obtain⟨as,ra⟩:=AtD.reads I d x v hd rx;obtain⟨bs,rb⟩:=AtD.reads I e y u he ry;exact SeqAt.compareNe_shaped ra rb sd se hu ⟨.bl _,H,I,rfl,q⟩
noncomputable def tyD:PyData->String
 | .none => "NoneType" | .bool _ => "bool" | .int _ => "int" | .str _ => "str" | .list _ => "list" | .tuple _ => "tuple" | .dict _ => "dict"
noncomputable def isD(T:String)(d:PyData):Bool:=tyD d == T || (T == "int" && tyD d == "bool")
def pe_ty{x:Str}{T:String}{pos:Pos}(hg:Gl X x)(hm:X.mg x=none)(hv:bootBuiltins x=some (.type T)) (hn:x ≠ "__name__":=by decide) (hd:(x == ("__debug__" : Str))=false:=by decide):PE X (.Name x pos) (tC (.ty T)):=
 pe_bltn hg hm hv rfl hn hd
def qd3a{pins:List 'g'}{s:Shared}{σ:St}{H:Hp}{S:Addr->Prop}{d:PyData}{v:V}{u:Value}{T:String}{Q:VK}(I:Inv X pins σ H s)(h:AtD X.K H S d v)(r:RelV v u)
  (ht:PySem.W.kitOne X.K (.type (tyD d)) (.type T)=some (isD T d)) (q:Q (.bl (isD T d)) H) :
  wpAny (model X.prog X.w) X.A (call (.builtin "isinstance") [u,.type T]) (EP X pins σ Q) X.xe s:=by
 have fin:∀ tk,EP X pins σ Q (.bool (isD T d)) { s with toks:=tk }:=fun tk=>⟨.bl _,H,I.tok tk,rfl,q⟩;cases d with
 | none=>cases qa8s h;cases r;exact PySem.W.kia_one PySem.W.kitx_none I.kIn True.intro ht 'n' fin
 | bool b=>cases qa5o h;cases r;exact PySem.W.kia_one PySem.W.kitx_bool I.kIn True.intro ht 'n' fin
 | int i=>cases qa7m h;obtain⟨t,rfl⟩:=r;exact PySem.W.kia_one PySem.W.kitx_int I.kIn True.intro ht 'n' fin
 | str x=>cases qa9h h;obtain⟨t,rfl⟩:=r;exact PySem.W.kia_one PySem.W.kitx_str I.kIn True.intro ht 'n' fin
 | list ds =>
  obtain⟨a,xs,rfl,_,hq,_⟩:=qa4b h;cases r;obtain⟨its,_,⟨o,n,e,hc,_,hd⟩,_⟩:=I.list (SqL.of hq);exact PySem.W.kia_one PySem.W.kitx_list I.kIn ⟨o,e,hc⟩ ht 'n' fin
 | tuple ds =>
  obtain⟨a,xs,rfl,hq,_⟩:=qa3d h;cases r;obtain⟨its,_,⟨o,e,hc,n,hd⟩,_⟩:=I.tuple hq;exact PySem.W.kia_one PySem.W.kitx_tuple I.kIn ⟨o,e,hc⟩ ht 'n' fin
 | dict kvs =>
  obtain⟨a,ν,rfl,_,hq,_⟩:=qa8t h;cases r;obtain⟨_,_,vs,kv,o,es,ep,e,hc,hd,_,hp,_⟩:=(show qa1v X.prog X.w H s.heap a (.dK ν) from I.hok a _ hq);exact PySem.W.kia_one PySem.W.kitx_dict I.kIn ⟨o,e,hc.1⟩ ht 'n' fin
noncomputable def qa2d(T:String):Bool:=T == "int" || T == "str" || T == "bool" || T == "list" || T == "tuple" || T == "dict"
def qc0l(K:W.Frag)(d:PyData)(T:String)(hT:qa2d T=true):PySem.W.kitOne K (.type (tyD d)) (.type T)=some (isD T d):=by
 simp only [qa2d,Bool.or_eq_true,beq_iff_eq] at hT;rcases hT with((((rfl | rfl) | rfl) | rfl) | rfl) | rfl<;>cases d<;>rfl
def qd3b:qa2e X (.builtin "isinstance") (fun xs H Q=>∃ v S d T,xs=[v,.ty T]/\AtD X.K H S d v/\qa2d T=true/\Q (.bl (isD T d)) H):=by
 intro pins s σ H xs us Q I rs h;obtain⟨v,S,d,T,rfl,hd,hT,q⟩:=h;obtain⟨u,u2,rfl,r1,r2⟩:=rs.two;cases r2;exact qd3a I hd r1 (qc0l X.K d T hT) q
end
section
variable{X:Cx}{tg:Expr}
def iDat(K:W.Frag)(tl:TE):TI:=fun σ H R=>tl σ H fun x H1=>(∃ a,x=.ref a/\(∃ xs,SqT K H1 a xs)/\R (Itt K a) H1) ∨ (∃ a,x=.ref a/\(∃ xs,SqL K H1 a xs)/\R (Itl K a) H1)
def pi_dat{l:Expr}{tl:TE}(hl:PE X l tl):PI X tg l (iDat X.K tl):=by
 intro pins s σ H R I h;refine thn (hl pins s σ H (fun x H1=>(∃ a,x=.ref a/\(∃ xs,SqT X.K H1 a xs)/\R (Itt X.K a) H1) ∨ (∃ a,x=.ref a/\(∃ xs,SqL X.K H1 a xs)/\R (Itl X.K a) H1)) I h) fun v s1 hq9=>?_;obtain⟨x,H1,I1,r1,q1⟩:=hq9;rcases q1 with⟨a,rfl,⟨xs,hq⟩,q⟩ | ⟨a,rfl,⟨xs,hq⟩,q⟩
 ·cases r1
  obtain⟨its,rv,p,hz⟩:=I1.tuple hq;refine wpAny_pyIter_tuple (show s1.heap.IsTuple a its.toArray from p) ?_;refine⟨s1.heap.objs.size,[s1.heap.objs.size],_,_,H1,rfl,I1.kept (t':=s1.toks) fun b o e=>get?_push_of_some _ e,qc7j a _,⟨_,get?_push_size _ rfl,rfl,rfl⟩,fun b hb=>?_,q⟩;have e:b=s1.heap.objs.size:=by simpa using hb
  subst e;exact I1.fpOk 'e' (I1.hok.fresh 'e')
 ·cases r1
  obtain⟨its,rv,p,hz⟩:=I1.list hq;refine wpAny_pyIter_list p.isList ?_;refine⟨s1.heap.objs.size,[s1.heap.objs.size],_,_,H1,rfl,I1.kept (t':=s1.toks) fun b o e=>get?_push_of_some _ e,qc9v a _,⟨_,get?_push_size _ rfl,rfl,rfl⟩,fun b hb=>?_,q⟩;have e:b=s1.heap.objs.size:=by simpa using hb
  subst e;exact I1.fpOk 'e' (I1.hok.fresh 'e')
end
def WalkD(J:It)(σ:St)(H:Hp)(go:V->St->Hp->(St->Hp->Prop)->Prop)(done:St->Hp->Prop):Prop:=
 ∃ W:Nat->Nat->St->Hp->Prop,(∃ m,W 0 m σ H)/\∀ i m σ H,W i m σ H ->
  (J.stop i H/\done σ H) ∨ (J.go i H/\∃ N:St->Hp->Prop,(∀ σ' H',N σ' H'->∃ m',m' < m/\W (i + 1) m' σ' H')/\∀ x H',J.yld i H x H'->go x σ H' N)
def qd0o{own:List Str}{cap:List 'r'}{g:TG}{tt:TT}{te:TE}{J:It}{D:Addr}{σ:St}{H1:Hp}{Z:Hp->Prop}
  (h:WalkD J (qa6z own cap σ) (upd H1 D (.lst [])) (fun x σ' H'' N=>g x σ' H'' fun σ2 H2=>tt σ2 H2 fun b H3=>if b=true then te σ2 H3 fun y H4=>∃ ys,H4 D=some (.lst ys)/\ys.length < sizeLine/\N σ2 (upd H4 D (.lst (ys ++ [y]))) else N σ2 H3) (fun _ H'=>Z H')) :
  qb4x own cap g tt te J D σ H1 Z:=h
end
end L2
section
namespace L2
open PySem PySem.Spec PyProof.Rows
structure Def(K:W.Frag)(mg:Str->Option Value)(x:Str)(st:Stmt)(ps:List Str)(f:Addr)(fd:FuncData):Prop where
 fn:Fun K x x st f fd
 bd:Binds K fd ps []
 gl:mg x=some (.ref f)
section
variable{X:Cx}{k:Nat}{f:Addr}{fd:FuncData}{ps:List Str}{sp:Sp}{x:Str}{st:Stmt}{p pos:Pos}{e:Expr}{es:List Expr}{t:TA}
def qb4y(d:Def X.K X.mg x st ps f fd)(g:FnOk X.prog X.w X.K X.mg X.base CX0 k f fd ps sp)(hr:Room k X.A)(hg:Gl X x)(ha:PA X (e :: es) t) (hdb:(x == ("__debug__" : Str))=false:=by decide)
  (he:starEach (e :: es) X.env=(false,eval e X.env) :: starEach es X.env:=by rfl) (hpl:(backTo pos (starEach es X.env)).any (·.1)=false:=by rfl):PE X (.Call (.Name x p) (e :: es) [] pos) (tCall sp [] E0 t):=
 pe_call g hr hg d.gl d.fn.kp d.bd .nil pass0 ha hdb he hpl
end
section
variable{X:Cx}
def ints_of_all{K:W.Frag}{H:Hp}{S:Addr->Prop}:∀ {ns:List Int} {xs:List V},qa0c K H S (ns.map .int) xs->xs=ns.map V.int
 | [],xs,h=>by rw [h.unnil];rfl
 | n :: r,xs,h=>by
  obtain⟨v,vr,rfl,hd,t⟩:=h.uncons;rw [qa7m hd,ints_of_all t];rfl
end
end L2
namespace L2
open PySem PySem.Spec PyProof.Rows
def Frs(S:Addr->Prop)(H:Hp):Prop:=∀ p,H p=none->S p
section
variable{K:W.Frag}{S:Addr->Prop}{σ:St}{H:Hp}{d:PyData}{ds:List PyData}{t te:TE}{ta:TA}
def atI_in{α:Type}{xs:List α}{i:Int}(h0:0 <= i)(h1:i < xs.length):∃ x,atI xs i=some x/\x ∈ xs/\xs[i.toNat]? = some x:=by
 have hk:i.toNat < xs.length:=by omega
 have ei:i=((i.toNat:Nat):Int):=by omega
 have q:atI xs ((i.toNat:Nat):Int)=some xs[i.toNat]:=qa6m (getElem?_eq_getElem hk);rw [← ei] at q;exact⟨_,q,getElem_mem hk,getElem?_eq_getElem hk⟩
end
end L2
end
namespace L2
open PySem PySem.Spec PyProof.Rows
section
inductive Ents (w:World):List DictEntry->List (Str × V)->Prop where
 | nil:Ents w [] []
 | cons {x:Str} {t:Tok} {u:Value} {v:V} {es:List DictEntry} {kvs:List (Str × V)}:RelV v u->Ents w es kvs->Ents w (⟨PyData.keyHash w.params x,.str x t,u⟩ :: es) ((x,v) :: kvs)
end
section
inductive L where
 /-- data that nobody changes any more -/
 | d (x:PyData)
 /-- a list that this name alone has -/
 | own (xs:List PyData)
 /-- a list of a caller's, lent to be changed -/
 | bor (xs:List PyData)
 /-- the tape: the script and how many draws were made -/
 | tape (k:Nat)
 /-- the script -/
 | scr
abbrev Rho:=List (Option L)
abbrev Own:=Nat->Option Addr
structure Rc where
 H0:Hp
 S:Addr->Prop
 P:Addr->Prop
 M:Addr->Prop
 A:Addr->Prop
 B:Addr->Prop
 lent:Own
 sa:Addr
 ns:List Int
noncomputable def isIO:L->Bool
 | .bor _=>true
 | .tape _=>true
 | _=>false
noncomputable def live(c:Rc)(O:Own):Addr->Prop:=fun a=>c.S a/\¬ c.P a/\∀ i,O i ≠ some a
def qb1k(c:Rc)(p:Addr):Prop:=¬ c.B p/\c.S p/\¬ c.P p
def Scr(K:W.Frag)(H:Hp)(a:Addr)(xs:List V):Prop:=xs.length <= 63 /\
 ((∃ o,H a=some (.frz o (.lst xs))) ∨ ∃ (o:Obj) (its:Array Value) (n:Nat),K.lookup a=some o/\o.cls=.type "list" /\ o.dict=none/\o.data=.seq its n/\its.size <= sizeLine/\Vals xs its.toList)
def Scr.seq{K:W.Frag}{H:Hp}{a:Addr}{xs:List V}(h:Scr K H a xs):SqL K H a xs:=by
 rcases h.2 with⟨o,h⟩ | h
 ·exact .inl (.inr ⟨o,h⟩)
 ·exact .inr h
structure Rel(K:W.Frag)(c:Rc)(O:Own)(ρ:Rho)(σ:St)(H:Hp):Prop where
 dat:∀ (i:Nat) (x:PyData),ρ[i]? = some (some (L.d x))->∃ v,σ[i]? = some (some v)/\AtD K H (live c O) x v
 own:∀ (i:Nat) (xs:List PyData),ρ[i]? = some (some (.own xs))->∃ p vs,O i=some p/\qb1k c p/\σ[i]? = some (some (.ref p))/\H p=some (.lst vs)/\qa0c K H (live c O) xs vs
 bor:∀ (i:Nat) (xs:List PyData),ρ[i]? = some (some (.bor xs))->∃ p vs,O i=some p/\σ[i]? = some (some (.ref p))/\H p=some (.lst vs)/\qa0c K H (live c O) xs vs
 tap:∀ (i k:Nat),ρ[i]? = some (some (.tape k))->∃ p,O i=some p/\σ[i]? = some (some (.ref p))/\H p=some (.lst [.ref c.sa,.int k])
 scr:∀ i:Nat,ρ[i]? = some (some .scr)->σ[i]? = some (some (.ref c.sa))
 inj:∀ i j p,O i=some p->O j=some p->i=j
 has':∀ i p,O i=some p->c.A p/\∃ vs,H p=some (.lst vs)
 am:∀ p,c.A p->c.M p ∨ c.H0 p=none
 frs:∀ p,c.H0 p=none->c.S p
 same:∀ b o,¬ c.M b->c.H0 b=some o->H b=some o
 kept:∀ b,c.H0 b ≠ none->H b ≠ none
 ml:∀ p,c.M p->∃ vs,H p=some (.lst vs)
 pin:∀ p,c.P p ∨ c.B p->H p ≠ none
 lnt:∀ (i:Nat) (p:Addr),c.lent i=some p->∀ l:L,ρ[i]? = some (some l)->isIO l=true->O i=some p
 sc:Scr K H c.sa (c.ns.map V.int)
 len:σ.length=ρ.length
def Rel.has{K:W.Frag}{c:Rc}{O:Own}{ρ:Rho}{σ:St}{H:Hp}(R:Rel K c O ρ σ H)(i:Nat)(p:Addr)(h:O i=some p):(c.M p ∨ c.H0 p=none)/\∃ vs,H p=some (.lst vs):=⟨R.am p (R.has' i p h).1,(R.has' i p h).2⟩
def Pers(K:W.Frag)(S:Addr->Prop)(H:Hp)(S':Addr->Prop)(H':Hp):Prop:=∀ d v,AtD K H S d v->AtD K H' S' d v
section
variable{K:W.Frag}{S S' S2:Addr->Prop}{H H' H2:Hp}
def Pers.refl:Pers K S H S H:=fun _ _ h=>h
def Pers.trans(a:Pers K S H S' H')(b:Pers K S' H' S2 H2):Pers K S H S2 H2:=fun d v h=>b d v (a d v h)
def Pers.all(a:Pers K S H S' H'):∀ {ds:List PyData} {vs:List V},qa0c K H S ds vs->qa0c K H' S' ds vs
 | [],_,h=>by rw [h.unnil];exact .nil
 | d :: ds,vs,h=>by
  obtain⟨v,r,rfl,h1,h2⟩:=h.uncons;exact .cons (a d v h1) (Pers.all a h2)
def Pers.kvs(a:Pers K S H S' H'):∀ {ds:List 'l'} {vs:List (Key × V)},qa0f K H S ds vs->qa0f K H' S' ds vs
 | [],_,h=>by rw [h.unnil];exact .nil
 | (x,d) :: ds,vs,h=>by
  obtain⟨k,v,r,rfl,rfl,h1,h2⟩:=h.uncons;exact .cons (a d v h1) (Pers.kvs a h2)
def Pers.of(e:Keep S H H')(m:∀ a,S a->S' a):Pers K S H S' H':=fun d v h=>AtD.more m d v (AtD.mono e d v h)
def Pers.same(e:Same H H'):Pers K S H S H':=.of e.keep fun _ h=>h
mutual
def AtD.less{p:Addr}(hp:H p=none)(hs:∀ a,S a->a ≠ p->S' a):∀ (d:PyData) (v:V),AtD K H S d v->AtD K H S' d v
 | .none,_,h=>by unfold AtD at h ⊢;exact h
 | .bool _,_,h=>by unfold AtD at h ⊢;exact h
 | .int _,_,h=>by unfold AtD at h ⊢;exact h
 | .str _,_,h=>by unfold AtD at h ⊢;exact h
 | .list ds,v,h=>by
  obtain⟨a,xs,e1,s,q,r⟩:=qa4b h;subst e1;exact qa2o (hs a s (qa1z q hp)) q (qa0c.less hp hs ds xs r)
 | .tuple ds,v,h=>by
  obtain⟨a,xs,e1,q,r⟩:=qa3d h;subst e1;exact qa4c q (qa0c.less hp hs ds xs r)
 | .dict kvs,v,h=>by
  obtain⟨a,ν,e1,s,q,e2⟩:=qa8t h;subst e1;exact qa7n (hs a s (qa1z q hp)) q (qa0f.less hp hs kvs ν e2)
def qa0c.less{p:Addr}(hp:H p=none)(hs:∀ a,S a->a ≠ p->S' a):∀ (ds:List PyData) (vs:List V),qa0c K H S ds vs->qa0c K H S' ds vs
 | [],_,h=>by rw [h.unnil];exact .nil
 | d :: ds,vs,h=>by
  obtain⟨v,r,rfl,h1,h2⟩:=h.uncons;exact .cons (AtD.less hp hs d v h1) (qa0c.less hp hs ds r h2)
def qa0f.less{p:Addr}(hp:H p=none)(hs:∀ a,S a->a ≠ p->S' a):∀ (kvs:List 'l') (κ:List (Key × V)),qa0f K H S kvs κ->qa0f K H S' kvs κ
 | [],_,h=>by rw [h.unnil];exact .nil
 | (x,d) :: r,κ,h=>by
  obtain⟨k,v,t,rfl,rfl,h1,h2⟩:=h.uncons;exact .cons (AtD.less hp hs d v h1) (qa0f.less hp hs r t h2)
end
def Pers.new{p:Addr}(hp:H p=none)(hs:∀ a,S a->a ≠ p->S' a)(o:HO):Pers K S H S' (upd H p o):=fun d v h =>
 AtD.mono (qa0x hp o).keep d v (AtD.less hp hs d v h)
end
section
variable{K:W.Frag}{c:Rc}{O:Own}{ρ:Rho}{σ:St}{H H':Hp}
def Scr.keep{a:Addr}{xs:List V}{S:Addr->Prop}(h:Scr K H a xs)(e:Keep S H H'):Scr K H' a xs:=by
 refine⟨h.1,?_⟩;rcases h.2 with⟨o,h⟩ | h
 ·exact .inl ⟨o,e.2.1 _ _ _ h⟩
 ·exact .inr h
def Rel.to{c':Rc}{O':Own}(R:Rel K c O ρ σ H)(hO:∀ i,O' i=O i)(hB:∀ i p,O i=some p->qb1k c p->qb1k c' p)(hsa:c'.sa=c.sa)(hns:c'.ns=c.ns)
  (hp:Pers K (live c O) H (live c' O') H') (ho:∀ i p vs,O i=some p->H p=some (.lst vs)->H' p=some (.lst vs))
  (hA:∀ i p,O i=some p->c.A p->c'.A p) (am:∀ p,c'.A p->c'.M p ∨ c'.H0 p=none) (frs:∀ p,c'.H0 p=none->c'.S p) (same:∀ b o,¬ c'.M b->c'.H0 b=some o->H' b=some o) (kept:∀ b,c'.H0 b ≠ none->H' b ≠ none) (ml:∀ p,c'.M p->∃ vs,H' p=some (.lst vs))
  (pin:∀ p,c'.P p ∨ c'.B p->H' p ≠ none) (hl:∀ i,c'.lent i=c.lent i) (sc:Scr K H' c.sa (c.ns.map V.int)):Rel K c' O' ρ σ H' where
 dat i x e:=by obtain⟨v,h1,h2⟩:=R.dat i x e;exact⟨v,h1,hp _ _ h2⟩
 own i xs e:=by obtain⟨p,vs,h1,h2,h3,h4,h5⟩:=R.own i xs e;exact⟨p,vs,(hO i).trans h1,hB i p h1 h2,h3,ho i p vs h1 h4,hp.all h5⟩
 bor i xs e:=by obtain⟨p,vs,h1,h3,h4,h5⟩:=R.bor i xs e;exact⟨p,vs,(hO i).trans h1,h3,ho i p vs h1 h4,hp.all h5⟩
 tap i k e:=by obtain⟨p,h1,h2,h3⟩:=R.tap i k e;exact⟨p,(hO i).trans h1,h2,by rw [hsa];exact ho i p _ h1 h3⟩
 scr i e:=by rw [hsa];exact R.scr i e
 inj i j p e1 e2:=R.inj i j p ((hO i).symm.trans e1) ((hO j).symm.trans e2)
 has' i p e:=by
  have e':=(hO i).symm.trans e;obtain⟨h0,vs,h⟩:=R.has' i p e';exact⟨hA i p e' h0,vs,ho i p vs e' h⟩
 am:=am
 frs:=frs
 same:=same
 kept:=kept
 ml:=ml
 pin:=pin
 lnt i p e l h1 h2:=(hO i).trans (R.lnt i p ((hl i).symm.trans e) l h1 h2)
 sc:=by rw [hsa,hns];exact sc
 len:=R.len
def qd3c{i:Nat}{p:Addr}(h:O i=some p):¬ live c O p:=fun z=>z.2.2 i h
def Rel.grow(R:Rel K c O ρ σ H)(e:Same H H'):Rel K c O ρ σ H':=
 R.to (fun _=>rfl) (fun _ _ _ z=>z) rfl rfl (.same e) (fun i p vs _ q=>e _ _ q) (fun _ _ _ z=>z) R.am R.frs (fun b o n q=>e _ _ (R.same b o n q))
  (fun b n z=>R.kept b n (e.free z)) (fun p h=>let ⟨vs,q⟩:=R.ml p h;⟨vs,e _ _ q⟩) (fun p h z=>R.pin p h (e.free z)) (fun _=>rfl) (R.sc.keep (S:=Any) e.keep)
def Rel.free0(R:Rel K c O ρ σ H){p:Addr}(h:H p=none):c.H0 p=none:=by
 cases q:c.H0 p with
 | none=>rfl
 | some o=>exact absurd h (R.kept p (by rw [q];exact fun z=>nomatch z))
def Rel.liveNew(R:Rel K c O ρ σ H){p:Addr}(h:H p=none):live c O p:=
 ⟨R.frs p (R.free0 h),fun z=>R.pin p (.inl z) h,fun i e=>by obtain⟨_,vs,q⟩:=R.has i p e;rw [h] at q;cases q⟩
def Rel.frsLive(R:Rel K c O ρ σ H):Frs (live c O) H:=fun _ h=>R.liveNew h
def Rel.write{i:Nat}{p:Addr}{xs:List PyData}{vs vs':List V}{l:L}(R:Rel K c O ρ σ H)(hO:O i=some p)(hH:H p=some (.lst vs))
  (hl:ρ[i]? = some (some (.own xs)) ∨ ρ[i]? = some (some (.bor xs)) ∨ ∃ k:Nat,ρ[i]? = some (some (.tape k)))
  (hl':(∃ ys,ρ[i]? = some (some (.own xs))/\l=.own ys/\qa0c K H (live c O) ys vs') ∨ (∃ ys,ρ[i]? = some (some (.bor xs))/\l=.bor ys/\qa0c K H (live c O) ys vs') ∨ (∃ k k':Nat,ρ[i]? = some (some (.tape k))/\l=.tape k'/\vs'=[.ref c.sa,.int k'])) :
  Rel K c O (ρ.set i (some l)) σ (upd H p (.lst vs'))/\Pers K (live c O) H (live c O) (upd H p (.lst vs')):=by
 have hi:i < ρ.length:=by
  rcases hl with h | h | ⟨k,h⟩<;>exact(List.getElem?_eq_some_iff.mp h).1
 have kp:Keep (live c O) H (upd H p (.lst vs')):=(qd0m hH).less fun b hb e=>by
  subst e;exact qd3c hO hb
 have P:Pers K (live c O) H (live c O) (upd H p (.lst vs')):=.of kp fun _ h=>h;have at_i:(ρ.set i (some l))[i]? = some (some l):=by rw [getElem?_set_self hi]
 have at_j:∀ j,j ≠ i->(ρ.set i (some l))[j]? = ρ[j]?:=fun j hj=>getElem?_set_ne (Ne.symm hj);have other:∀ j q,j ≠ i->O j=some q->q ≠ p:=fun j q hj e z=>hj (R.inj j i p (by rw [← z];exact e) hO);have hσ:σ[i]? = some (some (.ref p)):=by
  rcases hl with h | h | ⟨k,h⟩
  ·obtain⟨p',_,h1,_,h3,_⟩:=R.own i xs h;rw [hO] at h1;cases h1;exact h3
  ·obtain⟨p',_,h1,h3,_⟩:=R.bor i xs h;rw [hO] at h1;cases h1;exact h3
  ·obtain⟨p',h1,h3,_⟩:=R.tap i k h;rw [hO] at h1;cases h1;exact h3
 refine⟨⟨fun j x e=>?_,fun j ys e=>?_,fun j ys e=>?_,fun j k e=>?_,fun j e=>?_,R.inj,fun j q e=>?_,R.am,R.frs,fun b o n q=>?_,fun b n z=>?_,fun q h=>?_,fun q h z=>?_,fun j q e l2 h1 h2=>?_,?_,?_⟩,P⟩
 ·by_cases hj:j=i
  ·subst hj;rw [at_i] at e
   rcases hl' with⟨ys,_,rfl,_⟩ | ⟨ys,_,rfl,_⟩ | ⟨k,k',_,rfl,_⟩<;>cases e
  ·rw [at_j j hj] at e
   obtain⟨v,h1,h2⟩:=R.dat j x e;exact⟨v,h1,P _ _ h2⟩
 ·by_cases hj:j=i
  ·subst hj;rw [at_i] at e
   rcases hl' with⟨zs,h0,rfl,h⟩ | ⟨zs,_,rfl,_⟩ | ⟨k,k',_,rfl,_⟩<;>cases e
   obtain⟨p',_,h1,h2,h3,_⟩:=R.own j xs h0;rw [hO] at h1;cases h1;exact⟨p,vs',hO,h2,h3,qa0k,P.all h⟩
  ·rw [at_j j hj] at e
   obtain⟨q,ws,h1,h2,h3,h4,h5⟩:=R.own j ys e;exact⟨q,ws,h1,h2,h3,by rw [qa0j (other j q hj h1)];exact h4,P.all h5⟩
 ·by_cases hj:j=i
  ·subst hj;rw [at_i] at e
   rcases hl' with⟨zs,_,rfl,_⟩ | ⟨zs,h0,rfl,h⟩ | ⟨k,k',_,rfl,_⟩<;>cases e
   exact⟨p,vs',hO,hσ,qa0k,P.all h⟩
  ·rw [at_j j hj] at e
   obtain⟨q,ws,h1,h3,h4,h5⟩:=R.bor j ys e;exact⟨q,ws,h1,h3,by rw [qa0j (other j q hj h1)];exact h4,P.all h5⟩
 ·by_cases hj:j=i
  ·subst hj;rw [at_i] at e
   rcases hl' with⟨zs,_,rfl,_⟩ | ⟨zs,_,rfl,_⟩ | ⟨k1,k',_,rfl,h⟩<;>cases e
   exact⟨p,hO,hσ,by rw [qa0k,h]⟩
  ·rw [at_j j hj] at e
   obtain⟨q,h1,h3,h4⟩:=R.tap j k e;exact⟨q,h1,h3,by rw [qa0j (other j q hj h1)];exact h4⟩
 ·by_cases hj:j=i
  ·subst hj;rw [at_i] at e
   rcases hl' with⟨ys,_,rfl,_⟩ | ⟨ys,_,rfl,_⟩ | ⟨k,k',_,rfl,_⟩<;>cases e
  ·rw [at_j j hj] at e
   exact R.scr j e
 ·obtain⟨h1,ws,h2⟩:=R.has' j q e
  refine⟨h1,?_⟩;by_cases hq:q=p
  ·subst hq;exact⟨vs',qa0k⟩
  ·exact⟨ws,by rw [qa0j hq];exact h2⟩
 ·have hb:b ≠ p:=by
   rintro rfl;rcases (R.has i b hO).1 with z | z
   ·exact n z
   ·rw [z] at q;cases q
  rw [qa0j hb];exact R.same b o n q
 ·by_cases hb:b=p
  ·subst hb;rw [qa0k] at z;cases z
  ·rw [qa0j hb] at z;exact R.kept b n z
 ·obtain⟨ws,h2⟩:=R.ml q h
  by_cases hq:q=p
  ·subst hq;exact⟨vs',qa0k⟩
  ·exact⟨ws,by rw [qa0j hq];exact h2⟩
 ·by_cases hb:q=p
  ·subst hb;rw [qa0k] at z;cases z
  ·rw [qa0j hb] at z;exact R.pin q h z
 ·by_cases hj:j=i
  ·subst hj;rw [at_i] at h1;cases h1
   rcases hl' with⟨zs,_,rfl,_⟩ | ⟨zs,h0,rfl,_⟩ | ⟨k1,k',h0,rfl,_⟩
   ·cases h2
   ·exact R.lnt j q e _ h0 rfl
   ·exact R.lnt j q e _ h0 rfl
  ·rw [at_j j hj] at h1;exact R.lnt j q e _ h1 h2
 ·exact R.sc.keep kp
 ·rw [length_set];exact R.len
noncomputable def qa3g(O:Own)(i:Nat):Own:=fun j=>if j=i then none else O j
def qb6h{i:Nat}{a:Addr}(h:live c O a):live c (qa3g O i) a:=⟨h.1,h.2.1,fun j e=>by
 unfold qa3g at e;by_cases hj:j=i
 ·rw [if_pos hj] at e;cases e
 ·rw [if_neg hj] at e;exact h.2.2 j e⟩
def qa4g{i j:Nat}(h:j ≠ i):qa3g O i j=O j:=if_neg h
def qc8c{i:Nat}:qa3g O i i=none:=if_pos rfl
def qa4h{i j:Nat}{p:Addr}(e:qa3g O i j=some p):j ≠ i/\O j=some p:=by
 by_cases hj:j=i
 ·subst hj;rw [qc8c] at e;cases e
 ·rw [qa4g hj] at e;exact⟨hj,e⟩
def Rel.freeze{i:Nat}{xs:List PyData}(R:Rel K c O ρ σ H)(hl:ρ[i]? = some (some (.own xs))) :
  Rel K c (qa3g O i) (ρ.set i (some (.d (.list xs)))) σ H/\Pers K (live c O) H (live c (qa3g O i)) H:=by
 obtain⟨p,vs,hO,hB,hσ,hH,hA⟩:=R.own i xs hl;have hi:i < ρ.length:=(List.getElem?_eq_some_iff.mp hl).1;have P:Pers K (live c O) H (live c (qa3g O i)) H:=.of (Keep.refl _ _) fun _ h=>qb6h h;have at_i:(ρ.set i (some (.d (.list xs))))[i]? = some (some (.d (.list xs))):=by rw [getElem?_set_self hi]
 have at_j:∀ j,j ≠ i->(ρ.set i (some (.d (.list xs))))[j]? = ρ[j]?:=fun j hj=>getElem?_set_ne (Ne.symm hj);have ne:∀ {j:Nat} {l:L},(ρ.set i (some (.d (.list xs))))[j]? = some (some l)->(∀ x,l ≠ .d x)->j ≠ i/\ρ[j]? = some (some l):=fun{j l} e n=>by
  by_cases hj:j=i
  ·subst hj;rw [at_i] at e;cases e;exact absurd rfl (n _)
  ·rw [at_j j hj] at e;exact⟨hj,e⟩
 refine⟨⟨fun j x e=>?_,fun j ys e=>?_,fun j ys e=>?_,fun j k e=>?_,fun j e=>?_,fun a b q e1 e2=>R.inj a b q (qa4h e1).2 (qa4h e2).2,fun j q e=>R.has' j q (qa4h e).2,R.am,R.frs,R.same,R.kept,R.ml,R.pin,fun j q e l h1 h2=>?_,R.sc,?_⟩,P⟩
 ·by_cases hj:j=i
  ·subst hj;rw [at_i] at e;cases e
   refine⟨.ref p,hσ,qa2o ⟨hB.2.1,hB.2.2,fun k e=>?_⟩ hH (P.all hA)⟩;obtain⟨h1,h2⟩:=qa4h e;exact h1 (R.inj k j p h2 hO)
  ·rw [at_j j hj] at e
   obtain⟨v,h1,h2⟩:=R.dat j x e;exact⟨v,h1,P _ _ h2⟩
 ·obtain⟨hj,e⟩:=ne e fun _ z=>nomatch z
  obtain⟨q,ws,h1,h2,h3,h4,h5⟩:=R.own j ys e;exact⟨q,ws,(qa4g hj).trans h1,h2,h3,h4,P.all h5⟩
 ·obtain⟨hj,e⟩:=ne e fun _ z=>nomatch z
  obtain⟨q,ws,h1,h3,h4,h5⟩:=R.bor j ys e;exact⟨q,ws,(qa4g hj).trans h1,h3,h4,P.all h5⟩
 ·obtain⟨hj,e⟩:=ne e fun _ z=>nomatch z
  obtain⟨q,h1,h3,h4⟩:=R.tap j k e;exact⟨q,(qa4g hj).trans h1,h3,h4⟩
 ·obtain⟨hj,e⟩:=ne e fun _ z=>nomatch z
  exact R.scr j e
 ·obtain⟨hj,e'⟩:=ne h1 fun x z=>by subst z;cases h2
  rw [qa4g hj];exact R.lnt j q e _ e' h2
 ·rw [length_set];exact R.len
def Rel.setD{i:Nat}{x:PyData}{v:V}(R:Rel K c O ρ σ H)(hi:i < ρ.length)(h:AtD K H (live c O) x v) :
  Rel K c (qa3g O i) (ρ.set i (some (.d x))) (σ.set i (some v)) H/\Pers K (live c O) H (live c (qa3g O i)) H:=by
 have P:Pers K (live c O) H (live c (qa3g O i)) H:=.of (Keep.refl _ _) fun _ h=>qb6h h;have at_i:∀ l:Option L,(ρ.set i l)[i]? = some l:=fun l=>by rw [getElem?_set_self hi]
 have at_j:∀ (l:Option L) j,j ≠ i->(ρ.set i l)[j]? = ρ[j]?:=fun l j hj=>getElem?_set_ne (Ne.symm hj);have st_j:∀ j,j ≠ i->(σ.set i (some v))[j]? = σ[j]?:=fun j hj=>getElem?_set_ne (Ne.symm hj);have ne:∀ {j:Nat} {l:L},(ρ.set i (some (.d x)))[j]? = some (some l)->(∀ x,l ≠ .d x)->j ≠ i/\ρ[j]? = some (some l):=fun{j l} e n=>by
  by_cases hj:j=i
  ·subst hj;rw [at_i] at e;cases e;exact absurd rfl (n _)
  ·rw [at_j _ j hj] at e;exact⟨hj,e⟩
 refine⟨⟨fun j y e=>?_,fun j ys e=>?_,fun j ys e=>?_,fun j k e=>?_,fun j e=>?_,fun a b q e1 e2=>R.inj a b q (qa4h e1).2 (qa4h e2).2,fun j q e=>R.has' j q (qa4h e).2,R.am,R.frs,R.same,R.kept,R.ml,R.pin,fun j q e l h1 h2=>?_,R.sc,?_⟩,P⟩
 ·by_cases hj:j=i
  ·subst hj;rw [at_i] at e;cases e
   exact⟨v,by rw [getElem?_set_self (by rw [R.len];exact hi)],P _ _ h⟩
  ·rw [at_j _ j hj] at e
   obtain⟨v,h1,h2⟩:=R.dat j y e;exact⟨v,by rw [st_j j hj];exact h1,P _ _ h2⟩
 ·obtain⟨hj,e⟩:=ne e fun _ z=>nomatch z
  obtain⟨q,ws,h1,h2,h3,h4,h5⟩:=R.own j ys e;exact⟨q,ws,(qa4g hj).trans h1,h2,by rw [st_j j hj];exact h3,h4,P.all h5⟩
 ·obtain⟨hj,e⟩:=ne e fun _ z=>nomatch z
  obtain⟨q,ws,h1,h3,h4,h5⟩:=R.bor j ys e;exact⟨q,ws,(qa4g hj).trans h1,by rw [st_j j hj];exact h3,h4,P.all h5⟩
 ·obtain⟨hj,e⟩:=ne e fun _ z=>nomatch z
  obtain⟨q,h1,h3,h4⟩:=R.tap j k e;exact⟨q,(qa4g hj).trans h1,by rw [st_j j hj];exact h3,h4⟩
 ·obtain⟨hj,e⟩:=ne e fun _ z=>nomatch z
  rw [st_j j hj];exact R.scr j e
 ·obtain⟨hj,e'⟩:=ne h1 fun x z=>by subst z;cases h2
  rw [qa4g hj];exact R.lnt j q e _ e' h2
 ·rw [length_set,length_set];exact R.len
noncomputable def Rc.add(c:Rc)(p:Addr):Rc:={ c with P:=fun a=>c.P a ∨ a=p }
def qb1l{p a:Addr}(h:live c O a)(n:a ≠ p):live (c.add p) O a:=⟨h.1,fun z=>z.elim h.2.1 n,h.2.2⟩
def qa5v{p a:Addr}(h:live (c.add p) O a):live c O a/\a ≠ p:=⟨⟨h.1,fun z=>h.2.1 (.inl z),h.2.2⟩,fun z=>h.2.1 (.inr z)⟩
def Rel.lay{p:Addr}{o:HO}(R:Rel K c O ρ σ H)(hp:H p=none):Rel K (c.add p) O ρ σ (upd H p o)/\Pers K (live c O) H (live (c.add p) O) (upd H p o):=by
 have P:Pers K (live c O) H (live (c.add p) O) (upd H p o):=.new hp (fun a h n=>qb1l h n) o;have S:=qa0x hp o;refine⟨R.to (fun _=>rfl) (fun i q hq z=>⟨z.1,z.2.1,fun w=>w.elim z.2.2 fun e=>?_⟩) rfl rfl P (fun i q vs _ h=>S _ _ h) (fun _ _ _ z=>z) R.am R.frs (fun b ob n q=>S _ _ (R.same b ob n q))
  (fun b n z=>R.kept b n (S.free z)) (fun p h=>let ⟨vs,q⟩:=R.ml p h;⟨vs,S _ _ q⟩) (fun q h z=>?_) (fun _=>rfl) (R.sc.keep (S:=Any) S.keep),P⟩
 ·obtain⟨_,vs,h⟩:=R.has i q hq
  rw [e,hp] at h;cases h
 ·rcases h with(h | rfl) | h
  ·exact R.pin q (.inl h) (S.free z)
  ·rw [qa0k] at z;cases z
  ·exact R.pin q (.inr h) (S.free z)
def Rel.unadd{p:Addr}(R:Rel K (c.add p) O ρ σ H):Rel K c O ρ σ H/\Pers K (live (c.add p) O) H (live c O) H:=by
 have P:Pers K (live (c.add p) O) H (live c O) H:=.of (Keep.refl _ _) fun a h=>(qa5v h).1;exact⟨R.to (fun _=>rfl) (fun i q _ z=>⟨z.1,z.2.1,fun w=>z.2.2 (.inl w)⟩) rfl rfl P (fun _ _ _ _ h=>h) (fun _ _ _ z=>z) R.am R.frs R.same R.kept R.ml (fun q h=>R.pin q (h.elim (fun z=>.inl (.inl z)) .inr)) (fun _=>rfl) R.sc,P⟩
noncomputable def owned(O:Own)(i:Nat)(p:Addr):Own:=fun j=>if j=i then some p else O j
def qa6r{i j:Nat}{p:Addr}(h:j ≠ i):owned O i p j=O j:=if_neg h
def qb1m{i:Nat}{p:Addr}:owned O i p i=some p:=if_pos rfl
def Rel.setOwn{i:Nat}{p:Addr}{xs:List PyData}{vs:List V}(R:Rel K (c.add p) O ρ σ H)(hi:i < ρ.length)(h0:c.H0 p=none)(hB:¬ c.B p)(hP:¬ c.P p)(hn:∀ j,O j ≠ some p)(hAp:c.A p)(hH:H p=some (.lst vs))(hA:qa0c K H (live (c.add p) O) xs vs) :
  Rel K c (owned O i p) (ρ.set i (some (.own xs))) (σ.set i (some (.ref p))) H/\Pers K (live (c.add p) O) H (live c (owned O i p)) H:=by
 have P:Pers K (live (c.add p) O) H (live c (owned O i p)) H:=.of (Keep.refl _ _) fun a h=>by
  obtain⟨h1,h2⟩:=qa5v h;refine⟨h1.1,h1.2.1,fun j e=>?_⟩;by_cases hj:j=i
  ·subst hj;rw [qb1m] at e;cases e;exact h2 rfl
  ·rw [qa6r hj] at e;exact h1.2.2 j e
 have at_i:(ρ.set i (some (.own xs)))[i]? = some (some (.own xs)):=by rw [getElem?_set_self hi]
 have at_j:∀ j,j ≠ i->(ρ.set i (some (.own xs)))[j]? = ρ[j]?:=fun j hj=>getElem?_set_ne (Ne.symm hj);have st_j:∀ j,j ≠ i->(σ.set i (some (.ref p)))[j]? = σ[j]?:=fun j hj=>getElem?_set_ne (Ne.symm hj);have ne:∀ {j:Nat} {l:L},(ρ.set i (some (.own xs)))[j]? = some (some l)->(∀ x,l ≠ .own x)->j ≠ i/\ρ[j]? = some (some l):=fun{j l} e n=>by
  by_cases hj:j=i
  ·subst hj;rw [at_i] at e;cases e;exact absurd rfl (n _)
  ·rw [at_j j hj] at e;exact⟨hj,e⟩
 have ow:∀ {j:Nat} {q:Addr},owned O i p j=some q->(j=i/\q=p) ∨ (j ≠ i/\O j=some q):=fun{j q} e=>by
  by_cases hj:j=i
  ·subst hj;rw [qb1m] at e;cases e;exact .inl ⟨rfl,rfl⟩
  ·rw [qa6r hj] at e;exact .inr ⟨hj,e⟩
 refine⟨⟨fun j y e=>?_,fun j ys e=>?_,fun j ys e=>?_,fun j k e=>?_,fun j e=>?_,fun a b q e1 e2=>?_,fun j q e=>?_,R.am,R.frs,R.same,R.kept,R.ml,fun q h=>R.pin q (h.elim (fun z=>.inl (.inl z)) .inr),fun j q e l h1 h2=>?_,R.sc,?_⟩,P⟩
 ·obtain⟨hj,e⟩:=ne e fun _ z=>nomatch z
  obtain⟨v,h1,h2⟩:=R.dat j y e;exact⟨v,by rw [st_j j hj];exact h1,P _ _ h2⟩
 ·by_cases hj:j=i
  ·subst hj;rw [at_i] at e;cases e
   exact⟨p,vs,qb1m,⟨hB,R.frs p h0,hP⟩,by rw [getElem?_set_self (by rw [R.len];exact hi)],hH,P.all hA⟩
  ·rw [at_j j hj] at e
   obtain⟨q,ws,h1,h2,h3,h4,h5⟩:=R.own j ys e;exact⟨q,ws,(qa6r hj).trans h1,⟨h2.1,h2.2.1,fun z=>h2.2.2 (.inl z)⟩,by rw [st_j j hj];exact h3,h4,P.all h5⟩
 ·obtain⟨hj,e⟩:=ne e fun _ z=>nomatch z
  obtain⟨q,ws,h1,h3,h4,h5⟩:=R.bor j ys e;exact⟨q,ws,(qa6r hj).trans h1,by rw [st_j j hj];exact h3,h4,P.all h5⟩
 ·obtain⟨hj,e⟩:=ne e fun _ z=>nomatch z
  obtain⟨q,h1,h3,h4⟩:=R.tap j k e;exact⟨q,(qa6r hj).trans h1,by rw [st_j j hj];exact h3,h4⟩
 ·obtain⟨hj,e⟩:=ne e fun _ z=>nomatch z
  rw [st_j j hj];exact R.scr j e
 ·rcases ow e1 with⟨h1,h2⟩ | ⟨h1,h2⟩<;>rcases ow e2 with⟨h3,h4⟩ | ⟨h3,h4⟩
  ·rw [h1,h3]
  ·rw [h2] at h4;exact absurd h4 (hn b)
  ·rw [h4] at h2;exact absurd h2 (hn a)
  ·exact R.inj a b q h2 h4
 ·rcases ow e with⟨h1,h2⟩ | ⟨h1,h2⟩
  ·subst h2;exact⟨hAp,vs,hH⟩
  ·exact R.has' j q h2
 ·obtain⟨hj,e'⟩:=ne h1 fun x z=>by subst z;cases h2
  rw [qa6r hj];exact R.lnt j q e _ e' h2
 ·rw [length_set,length_set];exact R.len
def Rel.forget{i:Nat}(R:Rel K c O ρ σ H):Rel K c O (ρ.set i none) σ H:=by
 have ne:∀ {j:Nat} {l:L},(ρ.set i none)[j]? = some (some l)->ρ[j]? = some (some l):=fun{j l} e=>by
  by_cases hj:j=i
  ·subst hj
   rw [List.getElem?_set] at e;split at e
   ·split at e<;>cases e
   ·exact e
  ·rw [getElem?_set_ne (Ne.symm hj)] at e;exact e
 exact⟨fun j x e=>R.dat j x (ne e),fun j x e=>R.own j x (ne e),fun j x e=>R.bor j x (ne e),fun j x e=>R.tap j x (ne e),fun j e=>R.scr j (ne e),R.inj,R.has',R.am,R.frs,R.same,R.kept,R.ml,R.pin,fun j q e l h1 h2=>R.lnt j q e l (ne h1) h2,R.sc,by rw [length_set];exact R.len⟩
end
end
section
inductive DV where
 | d (x:PyData)
 | sl (i:Nat)
noncomputable def AtV(K:W.Frag)(S:Addr->Prop)(σ:St)(H:Hp):DV->V->Prop
 | .d x,v=>AtD K H S x v
 | .sl i,v=>σ[i]? = some (some v)
noncomputable def qb0w:L->Option PyData
 | .d x=>some x
 | .own xs=>some (.list xs)
 | .bor xs=>some (.list xs)
 | _=>none
noncomputable def qa0q(ρ:Rho):DV->Option PyData
 | .d x=>some x
 | .sl i=>(ρ[i]?.join).bind qb0w
def AtT(K:W.Frag)(H:Hp)(S:Addr->Prop)(x:PyData)(v:V):Prop:=AtD K H S x v ∨ ∃ ds a vs,x=.list ds/\v=.ref a/\H a=some (.lst vs)/\qa0c K H S ds vs
def need{α:Type}(o:Option α)(k:α->Prop):Prop:=match o with
 | some a=>k a
 | none=>False
theorem qa3n{α:Type}{a:α}{k:α->Prop}:need (some a) k=k a:=rfl
theorem qd0p{α:Type}{k:α->Prop}:need (none:Option α) k=False:=rfl
def ne{α:Type}{o:Option α}{k:α->Prop}(h:need o k):∃ a,o=some a/\k a:=by
 cases o with
 | none=>exact h.elim
 | some a=>exact⟨a,rfl,h⟩
def need_mk{α:Type}{o:Option α}{k:α->Prop}{a:α}(e:o=some a)(h:k a):need o k:=by rw [e];exact h
theorem itT{a b:Prop}:(if true=true then a else b)=a:=rfl
theorem itF{a b:Prop}:(if false=true then a else b)=b:=rfl
theorem mapC{α β:Type}{f:α->β}{a:α}{l:List α}:(a :: l).map f=f a :: l.map f:=rfl
theorem mapN{α β:Type}{f:α->β}:([]:List α).map f=[]:=rfl
abbrev TDE:=Rho->(DV->Rho->Prop)->Prop
abbrev TDF:=Rho->(List PyData->Rho->Prop)->Prop
abbrev TDT:=Rho->(Bool->Rho->Prop)->Prop
abbrev TDA:=Rho->(List DV->Rho->Prop)->Prop
def qb3y(c:Rc)(O:Own)(p:Addr):Prop:=c.H0 p=none/\¬ c.B p/\¬ c.P p/\∀ j,O j ≠ some p
def AdE(K:W.Frag)(t:TE)(dt:TDE):Prop:=∀ (c:Rc) (O:Own) (ρ:Rho) (σ:St) (H:Hp) (Qd:DV->Rho->Prop) (Q:VK),Rel K c O ρ σ H->dt ρ Qd ->
 (∀ x ρ' O' v H',Qd x ρ'->Rel K c O' ρ' σ H'->Pers K (live c O) H (live c O') H'->AtV K (live c O') σ H' x v->Q v H')->t σ H Q
def AdF(K:W.Frag)(t:TE)(dt:TDF):Prop:=∀ (c:Rc) (O:Own) (ρ:Rho) (σ:St) (H:Hp) (Qd:List PyData->Rho->Prop) (Q:VK),Rel K c O ρ σ H->dt ρ Qd ->
 (∀ xs ρ' O' p vs H',Qd xs ρ'->Rel K (c.add p) O' ρ' σ H'->Pers K (live c O) H (live (c.add p) O') H'->qb3y c O' p->H' p=some (.lst vs)->qa0c K H' (live (c.add p) O') xs vs->Q (.ref p) H')->t σ H Q
def AdT(K:W.Frag)(t:TT)(dt:TDT):Prop:=∀ (c:Rc) (O:Own) (ρ:Rho) (σ:St) (H:Hp) (Qd:Bool->Rho->Prop) (Q:Bool->Hp->Prop),Rel K c O ρ σ H->dt ρ Qd ->
 (∀ b ρ' O' H',Qd b ρ'->Rel K c O' ρ' σ H'->Pers K (live c O) H (live c O') H'->Q b H')->t σ H Q
noncomputable def AtVs(K:W.Frag)(S:Addr->Prop)(σ:St)(H:Hp):List DV->List V->Prop:=Paired (AtV K S σ H)
def AdA(K:W.Frag)(t:TA)(dt:TDA):Prop:=∀ (c:Rc) (O:Own) (ρ:Rho) (σ:St) (H:Hp) (Qd:List DV->Rho->Prop) (Q:List V->Hp->Prop),Rel K c O ρ σ H->dt ρ Qd ->
 (∀ xs ρ' O' vs H',Qd xs ρ'->Rel K c O' ρ' σ H'->Pers K (live c O) H (live c O') H'->AtVs K (live c O') σ H' xs vs->Q vs H')->t σ H Q
def DE(X:Cx)(e:Expr)(dt:TDE):Prop:=∃ t,PE X e t/\AdE X.K t dt
def DF(X:Cx)(e:Expr)(dt:TDF):Prop:=∃ t,PE X e t/\AdF X.K t dt
def DT(X:Cx)(e:Expr)(dt:TDT):Prop:=∃ t,PT X e t/\AdT X.K t dt
def DW(X:Cx)(e:Expr)(dt:TDT):Prop:=∃ t,PW X e t/\AdT X.K t dt
def DA(X:Cx)(es:List Expr)(dt:TDA):Prop:=∃ t,PA X es t/\AdA X.K t dt
section
variable{K:W.Frag}{c:Rc}{O:Own}{ρ:Rho}{σ:St}{H H':Hp}{S S':Addr->Prop}
def AtV.pers{x:DV}{v:V}(h:AtV K S σ H x v)(P:Pers K S H S' H'):AtV K S' σ H' x v:=by
 cases x with
 | d x=>exact P _ _ h
 | sl i=>exact h
def AtVs.pers{xs:List DV}{vs:List V}(h:AtVs K S σ H xs vs)(P:Pers K S H S' H'):AtVs K S' σ H' xs vs:=Paired.imp' (fun _ _ q=>q.pers P) h
def Rel.top(R:Rel K c O ρ σ H){x:DV}{v:V}{d:PyData}(h:AtV K (live c O) σ H x v)(e:qa0q ρ x=some d):AtT K H (live c O) d v:=by
 cases x with
 | d x=>cases e;exact .inl h
 | sl i =>
  have h':σ[i]? = some (some v):=h;have e':(ρ[i]?.join).bind qb0w=some d:=e;cases q:ρ[i]? with
  | none=>rw [q] at e';cases e'
  | some ol =>
   cases ol with
   | none=>rw [q] at e';cases e'
   | some l =>
    rw [q] at e';cases l with
    | d x =>
     cases e'
     obtain⟨w,h1,h2⟩:=R.dat i _ q;rw [h'] at h1;cases h1;exact .inl h2
    | own xs =>
     cases e'
     obtain⟨p,vs,_,_,h1,h2,h3⟩:=R.own i _ q;rw [h'] at h1;cases h1;exact .inr ⟨xs,p,vs,rfl,rfl,h2,h3⟩
    | bor xs =>
     cases e'
     obtain⟨p,vs,_,h1,h2,h3⟩:=R.bor i _ q;rw [h'] at h1;cases h1;exact .inr ⟨xs,p,vs,rfl,rfl,h2,h3⟩
    | tape k=>cases e'
    | scr=>cases e'
def AtT.list{ds:List PyData}{v:V}(h:AtT K H S (.list ds) v):∃ a vs,v=.ref a/\H a=some (.lst vs)/\qa0c K H S ds vs:=by
 rcases h with h | ⟨ds',a,vs,e,e2,h1,h2⟩
 ·obtain⟨a,vs,e,_,h1,h2⟩:=qa4b h
  exact⟨a,vs,e,h1,h2⟩
 ·cases e;exact⟨a,vs,e2,h1,h2⟩
def AtT.at{x:PyData}{v:V}(h:AtT K H S x v)(n:∀ ds,x ≠ .list ds):AtD K H S x v:=by
 rcases h with h | ⟨ds',a,vs,e,_⟩
 ·exact h
 ·exact absurd e (n ds')
def AtT.any{x:PyData}{v:V}(h:AtT K H S x v):AtD K H Any x v:=by
 rcases h with h | ⟨ds',a,vs,e,e2,h1,h2⟩
 ·exact AtD.more (fun _ _=>trivial) _ _ h
 ·subst e e2;exact qa2o trivial h1 (qa0c.more (fun _ _=>trivial) _ _ h2)
def dVar(i:Nat):TDE:=fun ρ Q=>(ρ[i]?.join).isSome=true/\Q (.sl i) ρ
def ad_var{i:Nat}:AdE K (tVar i) (dVar i):=by
 intro c O ρ σ H Qd Q R h k;obtain⟨h0,h⟩:=h;have ex:∃ v,σ[i]? = some (some v):=by
  cases q:ρ[i]? with
  | none=>rw [q] at h0;cases h0
  | some ol =>
   cases ol with
   | none=>rw [q] at h0;cases h0
   | some l =>
    cases l with
    | d x=>obtain⟨w,h1,_⟩:=R.dat i _ q;exact⟨w,h1⟩
    | own xs=>obtain⟨p,vs,_,_,h1,_⟩:=R.own i _ q;exact⟨_,h1⟩
    | bor xs=>obtain⟨p,vs,_,h1,_⟩:=R.bor i _ q;exact⟨_,h1⟩
    | tape k=>obtain⟨p,_,h1,_⟩:=R.tap i _ q;exact⟨_,h1⟩
    | scr=>exact⟨_,R.scr i q⟩
 obtain⟨v,hv⟩:=ex;exact⟨v,hv,k _ _ _ _ _ h R .refl hv⟩
def dC(x:PyData):TDE:=fun ρ Q=>Q (.d x) ρ
def ad_c{x:PyData}{v:V}(hx:∀ (S:Addr->Prop) H,AtD K H S x v):AdE K (tC v) (dC x):=fun c O ρ σ H Qd Q R h k=>k _ _ _ _ _ h R .refl (hx _ _)
end
section
variable{X:Cx}{a b e:Expr}{es:List Expr}{da db:TDE}{pos:Pos}
def dv(i:Nat){x:Str}(hN:X.N[i]? = some x:=by rfl)(hv:Vis X.env.scope x:=by first | exact Or.inl rfl | exact Or.inr 'c' | exact Or.inr (Or.inr rfl)) (hd:(x == ("__debug__" : Str))=false:=by decide)
  (hcd:(x == ("__classdict__" : Str))=false:=by decide):DE X (.Name x pos) (dVar i):=⟨_,qa9b hN hv hd hcd,ad_var⟩
def qa0d{i j}:DE X (.Constant (.int i) j pos) (dC (.int i)):=⟨_,qa2i,ad_c fun _ _=>qa2n i⟩
def qa1e{i j}:DE X (.Constant (.str i) j pos) (dC (.str i)):=⟨_,pe_str,ad_c fun _ _=>qa4x i⟩
def qa3a{i j}:DE X (.Constant (.bool i) j pos) (dC (.bool i)):=⟨_,pe_bl,ad_c fun _ _=>qa2m i⟩
def qb6i{j}:DE X (.Constant .none j pos) (dC .none):=⟨_,pe_non,ad_c fun _ _=>qa9g⟩
def de_gint{x:Str}{i:Int}(hg:Gl X x)(hm:∃ t,X.mg x=some (.int i t)) (hd:(x == ("__debug__" : Str))=false:=by decide):DE X (.Name x pos) (dC (.int i)):=by
 obtain⟨t,hm⟩:=hm;exact⟨_,pe_glob hg hm (v:=.int i) ⟨t,rfl⟩ hd,ad_c fun _ _=>qa2n i⟩
abbrev F2:=PyData->PyData->Option PyData
def AdR(K:W.Frag)(r:R2)(f:F2):Prop:=∀ (S:Addr->Prop) (H:Hp) (x y:V) (dx dy z:PyData) (Q:VK),Frs S H->AtT K H S dx x->AtT K H S dy y->f dx dy=some z ->
 (∀ v H',Same H H'->AtD K H' S z v->Q v H')->r x y H Q
def dOp(f:F2)(da db:TDE):TDE:=fun ρ Q=>da ρ fun x ρ1=>db ρ1 fun y ρ2=>need (qa0q ρ2 x) fun dx=>need (qa0q ρ2 y) fun dy=>need (f dx dy) fun z=>Q (.d z) ρ2
def ad_op{K:W.Frag}{r:R2}{f:F2}{ta tb:TE}(hr:AdR K r f)(ha:AdE K ta da)(hb:AdE K tb db):AdE K (tOp r ta tb) (dOp f da db):=by
 intro c O ρ σ H Qd Q R h k;refine ha c O ρ σ H _ _ R h fun x ρ1 O1 v H1 h1 R1 P1 a1=>?_;refine hb c O1 ρ1 σ H1 _ _ R1 h1 fun y ρ2 O2 u H2 h2 R2 P2 a2=>?_;obtain⟨dx,e1,hn1⟩:=ne (h2);obtain⟨dy,e2,hn2⟩:=ne (hn1);obtain⟨z,e3,h3⟩:=ne (hn2);refine hr (live c O2) H2 v u dx dy z Q R2.frsLive (R2.top (a1.pers P2) e1) (R2.top a2 e2) e3 fun w H3 s3 a3=>?_;exact k _ _ _ _ _ h3 (R2.grow s3) ((P1.trans P2).trans (.same s3)) a3
def qa7a{op:Operator}{r:R2}{f:F2}(ho:OpR X (binaryOp op) r)(hr:AdR X.K r f)(ha:DE X a da)(hb:DE X b db):DE X (.BinOp a op b pos) (dOp f da db):=by
 obtain⟨ta,pa,aa⟩:=ha;obtain⟨tb,pb,ab⟩:=hb;exact⟨_,qa3m ho pa pb,ad_op hr aa ab⟩
def qa4d{op:CmpOp}{r:R2}{f:F2}(ho:OpR X (compareOp op) r)(hr:AdR X.K r f)(ha:DE X a da)(hb:DE X b db)(hm:behindInMarks op b=false):DE X (.Compare a [op] [b] pos) (dOp f da db):=by
 obtain⟨ta,pa,aa⟩:=ha;obtain⟨tb,pb,ab⟩:=hb;exact⟨_,pe_cmpR ho pa pb hm,ad_op hr aa ab⟩
def qa0m{r:R2}{f:F2}(ho:IxR X r)(hr:AdR X.K r f)(ha:DE X a da)(hb:DE X b db)(hs:qc5k b):DE X (.Subscript a b pos) (dOp f da db):=by
 obtain⟨ta,pa,aa⟩:=ha;obtain⟨tb,pb,ab⟩:=hb;exact⟨_,pe_ix ho pa pb hs,ad_op hr aa ab⟩
end
section
variable{K:W.Frag}
def AtT.int{H:Hp}{S:Addr->Prop}{i:Int}{v:V}(h:AtT K H S (.int i) v):v=.int i:=qa7m (h.at fun _ z=>nomatch z)
def AtT.str{H:Hp}{S:Addr->Prop}{i:Str}{v:V}(h:AtT K H S (.str i) v):v=.str i:=qa9h (h.at fun _ z=>nomatch z)
def AtT.bool{H:Hp}{S:Addr->Prop}{i:Bool}{v:V}(h:AtT K H S (.bool i) v):v=.bl i:=qa5o (h.at fun _ z=>nomatch z)
def AtT.none{H:Hp}{S:Addr->Prop}{v:V}(h:AtT K H S .none v):v=.non:=qa8s (h.at fun _ z=>nomatch z)
def AtT.tup{H:Hp}{S:Addr->Prop}{ds:List PyData}{v:V}(h:AtT K H S (.tuple ds) v):∃ a xs,v=.ref a/\SqT K H a xs/\qa0c K H S ds xs:=qa3d (h.at fun _ z=>nomatch z)
def qa0c.eq_nil{H:Hp}{S:Addr->Prop}{ds:List PyData}(h:qa0c K H S ds []):ds=[]:=eq_nil_of_length_eq_zero h.length.symm
noncomputable def fAdd:F2
 | .int i,.int j=>some (.int (i + j))
 | .str x,.str y=>if x.length + y.length <= sizeLine then some (.str (x ++ y)) else none
 | .list xs,.list ys=>if xs.length + ys.length <= sizeLine then some (.list (xs ++ ys)) else none
 | .tuple xs,.tuple ys=>if xs.length + ys.length <= sizeLine then some (.tuple (xs ++ ys)) else none
 | _,_=>none
noncomputable def fSub:F2
 | .int i,.int j=>some (.int (i - j))
 | _,_=>none
noncomputable def big64(i:Int):Bool:=@decide (-(2 ^ 64) < i) (Classical.propDecidable _) && @decide (i < 2 ^ 64) (Classical.propDecidable _)
noncomputable def fMul:F2
 | .int i,.int j=>if big64 i || big64 j then some (.int (i * j)) else none
 | .list xs,.int j=>@ite _ (-(2 ^ 63) <= j/\j < 2 ^ 63/\xs.length * j.toNat <= sizeLine) (Classical.propDecidable _) (some (.list (List.replicate j.toNat xs).flatten)) none
 | _,_=>none
noncomputable def fCmp(p:Int->Int->Bool):F2
 | .int i,.int j=>some (.bool (p i j))
 | _,_=>none
def qa5w(p:Int->Int->Bool):AdR K (rI0 fun i j=>.bl (p i j)) (fCmp p):=by
 intro S H x y dx dy z Q f hx hy e k;unfold fCmp at e;split at e<;>cases e;rw [hx.int,hy.int];exact⟨_,_,rfl,rfl,k _ _ (Same.refl _) (qa2m _)⟩
def rCat0(K:W.Frag):R2:=fun x y H Q=>∃ a b ys,x=.ref a/\y=.ref b/\SqT K H a []/\SqT K H b ys/\Q (.ref b) H
def op_cat0{X:Cx}:OpR X (binaryOp .Add) (rCat0 X.K):=by
 intro pins s σ H x y v u Q I rx ry h;obtain⟨a,b,ys,rfl,rfl,ha,hb,q⟩:=h;cases rx;cases ry;obtain⟨its,r1,p1,_⟩:=I.tuple ha;obtain⟨its2,r2,p2,_⟩:=I.tuple hb;cases r1;obtain⟨⟨cls,dd,data,sl⟩,ho,hc,n,hd⟩:=id p1;obtain⟨⟨cls2,dd2,data2,sl2⟩,ho2,hc2,n2,hd2⟩:=id p2;simp only at hc hd hc2 hd2;subst hc hd hc2 hd2;exact concat_meets ⟨_,ho,rfl⟩ ⟨_,ho2,rfl⟩ noFill_tuple_add seq_tuple_add PySem.F.slot_tuple_add PySem.F.entry_tuple_add (PySem.F.args_tuple_add_2 _ _)
   (tuple_addW0 a b _ its2.toArray n n2 dd dd2 sl sl2 'h') ⟨ho,ho2,⟨.ref b,H,I,rfl,q⟩⟩
def qc5q(K:W.Frag):R2:=fun x y H Q=>rI0 (fun i j=>.int (i + j)) x y H Q ∨ (∃ i j,x=.str i/\y=.str j/\i.length + j.length <= sizeLine/\Q (.str (i ++ j)) H) ∨ rCat x y H Q ∨ rCatT K x y H Q ∨ rCat0 K x y H Q
def qa3w{X:Cx}:OpR X (binaryOp .Add) (qc5q X.K):=qb6a.or (qc7m.or (op_cat.or (op_catT.or op_cat0)))
def qa5x:AdR K (qc5q K) fAdd:=by
 intro S H x y dx dy z Q f hx hy e k;unfold fAdd at e;split at e
 ·cases e
  rw [hx.int,hy.int];exact .inl ⟨_,_,rfl,rfl,k _ _ (Same.refl _) (qa2n _)⟩
 ·split at e
  ·rename_i hc
   cases e
   rw [hx.str,hy.str];exact .inr (.inl ⟨_,_,rfl,rfl,hc,k _ _ (Same.refl _) (qa4x _)⟩)
  ·cases e
 ·split at e
  ·rename_i hc
   cases e
   obtain⟨a,vs,rfl,h1,h2⟩:=hx.list;obtain⟨b,ws,rfl,h3,h4⟩:=hy.list;refine .inr (.inr (.inl ⟨a,b,vs,ws,rfl,rfl,h1,h3,by rw [h2.length,h4.length];exact hc,fun p hp=>k _ _ (qa0x hp _) (qc0k (f p hp) hp (h2.append h4))⟩))
  ·cases e
 ·split at e
  ·rename_i hc
   cases e
   obtain⟨a,vs,rfl,h1,h2⟩:=hx.tup;obtain⟨b,ws,rfl,h3,h4⟩:=hy.tup;by_cases hv:vs=[]
   ·subst hv
    obtain rfl:=h2.eq_nil;refine .inr (.inr (.inr (.inr ⟨a,b,ws,rfl,rfl,h1,h3,k _ _ (Same.refl _) ?_⟩)));exact qa4c h3 h4
   ·refine .inr (.inr (.inr (.inl ⟨a,b,vs,ws,rfl,rfl,h1,h3,hv,by rw [h2.length,h4.length];exact hc,fun ew=>k _ _ (Same.refl _) ?_,fun ew p hp=>k _ _ (qa0x hp _) (qa9j hp (h2.append h4))⟩)))
    subst ew;obtain rfl:=h4.eq_nil;rw [append_nil];exact qa4c h1 h2
  ·cases e
 ·cases e
def qc5r:R2:=fun x y H Q=>rI CMul (fun i j=>.int (i * j)) x y H Q ∨ rRep x y H Q
def qd0q{X:Cx}:OpR X (binaryOp .Mult) qc5r:=qb0p.or op_rep
def qa0c.rep{H:Hp}{S:Addr->Prop}{ds:List PyData}{xs:List V}(h:qa0c K H S ds xs):∀ n:Nat,qa0c K H S (List.replicate n ds).flatten (List.replicate n xs).flatten
 | 0=>.nil
 | n + 1=>by
  rw [replicate_succ,replicate_succ,flatten_cons,flatten_cons];exact h.append (qa0c.rep h n)
def ad_mul:AdR K qc5r fMul:=by
 intro S H x y dx dy z Q f hx hy e k;unfold fMul at e;split at e
 ·split at e
  ·rename_i hc
   cases e
   rw [hx.int,hy.int];refine .inl ⟨_,_,rfl,rfl,?_,k _ _ (Same.refl _) (qa2n _)⟩;simp only [big64,Bool.or_eq_true,and_eq_true,decide_eq_true_eq] at hc;exact hc
  ·cases e
 ·split at e
  ·rename_i hc
   cases e
   obtain⟨a,vs,rfl,h1,h2⟩:=hx.list;rw [hy.int];exact .inr ⟨a,_,vs,rfl,rfl,h1,hc.1,hc.2.1,by rw [h2.length];exact hc.2.2,fun p hp=>k _ _ (qa0x hp _) (qc0k (f p hp) hp (h2.rep _))⟩
  ·cases e
 ·cases e
noncomputable def fEq(neg:Bool):F2:=fun d e=>if SeqAt.shaped d=true/\SeqAt.shaped e=true then some (.bool (if neg then !PyData.eqv d e else PyData.eqv d e)) else none
def ad_eq{neg:Bool}:AdR K (rEqD K neg) (fEq neg):=by
 intro S H x y dx dy z Q f hx hy e k;unfold fEq at e;split at e
 ·rename_i hc
  cases e
  exact⟨Any,Any,dx,dy,hx.any,hy.any,hc.1,hc.2,k _ _ (Same.refl _) (qa2m _)⟩
 ·cases e
noncomputable def fIx:F2
 | .list xs,.int i=>atI xs i
 | .tuple xs,.int i=>atI xs i
 | .str x,.int i=>if x.length <= sizeLine then(atI x.cps.toList i).map fun c=>.str ⟨#[c]⟩ else none
 | _,_=>none
def qa0n:AdR K (rIx K) fIx:=by
 intro S H x y dx dy z Q f hx hy e k;unfold fIx at e;split at e
 ·obtain⟨a,vs,rfl,h1,h2⟩:=hx.list
  rw [hy.int];obtain⟨v,e1,e2⟩:=qc5p h2 e;exact .inl ⟨a,vs,_,v,rfl,rfl,SqL.of h1,e1,k _ _ (Same.refl _) e2⟩
 ·obtain⟨a,vs,rfl,h1,h2⟩:=hx.tup
  rw [hy.int];obtain⟨v,e1,e2⟩:=qc5p h2 e;exact .inr (.inl ⟨a,vs,_,v,rfl,rfl,h1,e1,k _ _ (Same.refl _) e2⟩)
 ·split at e
  ·rename_i hc
   rw [hx.str,hy.int];cases q:atI (PySem.Str.cps _).toList _ with
   | none=>rw [q] at e;cases e
   | some cc =>
    rw [q] at e;cases e;exact .inr (.inr ⟨_,_,cc,rfl,rfl,hc,q,k _ _ (Same.refl _) (qa4x _)⟩)
  ·cases e
 ·cases e
noncomputable def qa1n:PyData->Bool
 | .none=>true | .bool _=>true | .int _=>true | .str _=>true
 | _=>false
noncomputable def seqD:PyData->Option (List PyData)
 | .list xs=>some xs
 | .tuple xs=>some xs
 | _=>none
noncomputable def eqF:PyData->PyData->Bool
 | .none,.none=>true
 | .bool a,.bool b=>a == b
 | .int a,.int b=>a == b
 | .bool a,.int b=>(if a then(1:Int) else 0) == b
 | .int a,.bool b=>a == (if b then(1:Int) else 0)
 | .str a,.str b=>a == b
 | _,_=>false
noncomputable def inF(x:PyData)(xs:List PyData):Bool:=xs.any fun y=>eqF y x
noncomputable def fIn(neg:Bool):F2:=fun x y=>match y with
 | .str z=>match x with
  | .str w=>some (.bool (if neg then !(!(Builtin.Str.occurrences z w 0 z.length 1).isEmpty) else !(Builtin.Str.occurrences z w 0 z.length 1).isEmpty))
  | _=>none
 | y=>match seqD y with
  | some xs=>if qa1n x && xs.all qa1n then some (.bool (if neg then !inF x xs else inF x xs)) else none
  | none=>none
end
end
section
section
variable{K:W.Frag}{c:Rc}{O:Own}{ρ:Rho}{σ:St}{H H':Hp}{S S':Addr->Prop}
noncomputable def toV:PyData->V
 | .bool b=>.bl b
 | .int i=>.int i
 | .str x=>.str x
 | _=>.non
def qa8u{d:PyData}{v:V}(h:AtD K H S d v)(f:qa1n d=true):v=toV d/\qa6x v=true:=by
 cases d with
 | none=>rw [qa8s h];exact⟨rfl,rfl⟩
 | bool b=>rw [qa5o h];exact⟨rfl,rfl⟩
 | int i=>rw [qa7m h];exact⟨rfl,rfl⟩
 | str x=>rw [qa9h h];exact⟨rfl,rfl⟩
 | _=>cases f
def eq_flat{x y:PyData}(fx:qa1n x=true)(fy:qa1n y=true):eqV (toV y) (toV x)=eqF y x:=by
 cases x<;>cases y<;>first | rfl | (cases fx;done) | (cases fy;done)
def qc0m{x:PyData}(fx:qa1n x=true):∀ {ds:List PyData} {vs:List V},qa0c K H S ds vs->ds.all qa1n=true->vs.all qa6x=true/\inV (toV x) vs=inF x ds
 | [],vs,h,_=>by rw [h.unnil];exact⟨rfl,rfl⟩
 | d :: ds,vs,h,f=>by
  obtain⟨v,r,rfl,h1,h2⟩:=h.uncons;rw [all_cons,and_eq_true] at f;obtain⟨e1,e2⟩:=qa8u h1 f.1;obtain⟨e3,e4⟩:=qc0m fx h2 f.2;refine⟨by rw [all_cons,e2,e3];rfl,?_⟩;show(eqV v (toV x) || inV (toV x) r)=(eqF d x || inF x ds);rw [e1,eq_flat fx f.1,e4]
def qc0n(K:W.Frag)(neg:Bool):R2:=fun x y H Q=>rIn K neg x y H Q ∨ (∃ i j,x=.str i/\y=.str j/\Q (.bl (if neg then !(!(Builtin.Str.occurrences j i 0 j.length 1).isEmpty) else !(Builtin.Str.occurrences j i 0 j.length 1).isEmpty)) H)
def qa9k{X:Cx}:OpR X (compareOp .In) (qc0n X.K false):=qd0a.or qc9y
def qa7b{X:Cx}:OpR X (compareOp .NotIn) (qc0n X.K true):=qb9z.or qc0a
def AtT.seq{x:PyData}{ds:List PyData}{v:V}(h:AtT K H S x v)(e:seqD x=some ds):∃ a vs,v=.ref a/\(SqL K H a vs ∨ SqT K H a vs)/\qa0c K H S ds vs:=by
 cases x with
 | list xs=>cases e;obtain⟨a,vs,e1,h1,h2⟩:=h.list;exact⟨a,vs,e1,.inl (SqL.of h1),h2⟩
 | tuple xs=>cases e;obtain⟨a,vs,e1,h1,h2⟩:=h.tup;exact⟨a,vs,e1,.inr h1,h2⟩
 | _=>cases e
def qa8a{neg:Bool}:AdR K (qc0n K neg) (fIn neg):=by
 intro S H x y dx dy z Q f hx hy e k;unfold fIn at e;split at e
 ·split at e
  ·cases e
   rw [hx.str,hy.str];exact .inr ⟨_,_,rfl,rfl,k _ _ (Same.refl _) (qa2m _)⟩
  ·cases e
 ·split at e
  ·rename_i xs es
   split at e
   ·rename_i hf
    cases e
    rw [and_eq_true] at hf;obtain⟨a,vs,rfl,h1,h2⟩:=hy.seq es;obtain⟨e1,e2⟩:=qa8u (hx.at fun ds z=>by subst z;exact absurd hf.1 (by simp [qa1n])) hf.1;obtain⟨e3,e4⟩:=qc0m hf.1 h2 hf.2;refine .inl ⟨a,vs,rfl,h1,e2,e3,?_⟩;rw [e1,e4];exact k _ _ (Same.refl _) (qa2m _)
   ·cases e
  ·cases e
def fz(ρ:Rho)(x:DV)(Q:PyData->Rho->Prop):Prop:=match x with
 | .d y=>Q y ρ
 | .sl i=>match ρ[i]?.join with
  | some (.d y)=>Q y ρ
  | some (.own xs)=>Q (.list xs) (ρ.set i (some (.d (.list xs))))
  | _=>False
def qa2p{i:Nat}{l:L}(h:ρ[i]?.join=some l):ρ[i]? = some (some l):=by
 cases q:ρ[i]? with
 | none=>rw [q] at h;cases h
 | some o=>rw [q] at h;cases o with
  | none=>cases h
  | some l'=>cases h;rfl
def Rel.fz{x:DV}{v:V}{Q:PyData->Rho->Prop}(R:Rel K c O ρ σ H)(a:AtV K (live c O) σ H x v)(h:fz ρ x Q):∃ y ρ' O',Q y ρ'/\Rel K c O' ρ' σ H/\Pers K (live c O) H (live c O') H/\AtD K H (live c O') y v:=by
 cases x with
 | d y=>exact⟨y,ρ,O,h,R,.refl,a⟩
 | sl i =>
  have a':σ[i]? = some (some v):=a;simp only [L2.fz] at h;split at h
  ·rename_i y e
   have e':=qa2p e;obtain⟨w,h1,h2⟩:=R.dat i y e';rw [a'] at h1;cases h1;exact⟨y,ρ,O,h,R,.refl,h2⟩
  ·rename_i xs e
   have e':=qa2p e;obtain⟨R',P⟩:=R.freeze e';have hi:i < ρ.length:=(List.getElem?_eq_some_iff.mp e').1;obtain⟨w,h1,h2⟩:=R'.dat i (.list xs) (by rw [getElem?_set_self hi]);rw [a'] at h1;cases h1;exact⟨_,_,_,h,R',P,h2⟩
  ·exact h.elim
noncomputable def fzs:Rho->List DV->(List PyData->Rho->Prop)->Prop
 | ρ,[],Q=>Q [] ρ
 | ρ,x :: xs,Q=>fz ρ x fun y ρ1=>fzs ρ1 xs fun ys ρ2=>Q (y :: ys) ρ2
def qc5s{xs:List DV}:∀ {vs:List V} {ρ:Rho} {O:Own} {Q:List PyData->Rho->Prop},Rel K c O ρ σ H->AtVs K (live c O) σ H xs vs->fzs ρ xs Q->∃ ys ρ' O',Q ys ρ'/\Rel K c O' ρ' σ H/\Pers K (live c O) H (live c O') H/\qa0c K H (live c O') ys vs:=by
 induction xs with
 | nil =>
  intro vs ρ O Q R a h;cases a;exact⟨[],ρ,O,h,R,.refl,.nil⟩
 | cons x xs ih =>
  intro vs ρ O Q R a h;cases a with
  | cons a as =>
   obtain⟨y,ρ1,O1,h1,R1,P1,a1⟩:=R.fz a h;obtain⟨ys,ρ2,O2,h2,R2,P2,a2⟩:=ih R1 (AtVs.pers as P1) h1;exact⟨y :: ys,ρ2,O2,h2,R2,P1.trans P2,.cons (P2 _ _ a1) a2⟩
def dNil:TDA:=fun ρ Q=>Q [] ρ
def dCons(de:TDE)(dr:TDA):TDA:=fun ρ Q=>de ρ fun x ρ1=>dr ρ1 fun xs ρ2=>Q (x :: xs) ρ2
def ad_nil:AdA K tNil dNil:=fun c O ρ σ H Qd Q R h k=>k _ _ _ _ _ h R .refl .nil
def qc5t{te:TE}{ta:TA}{de:TDE}{da:TDA}(he:AdE K te de)(ha:AdA K ta da):AdA K (qa3f te ta) (dCons de da):=by
 intro c O ρ σ H Qd Q R h k;refine he c O ρ σ H _ _ R h fun x ρ1 O1 v H1 h1 R1 P1 a1=>?_;refine ha c O1 ρ1 σ H1 _ _ R1 h1 fun xs ρ2 O2 vs H2 h2 R2 P2 a2=>?_;exact k _ _ _ _ _ h2 R2 (P1.trans P2) (.cons (a1.pers P2) a2)
def dTup(da:TDA):TDE:=fun ρ Q=>da ρ fun xs ρ1=>fzs ρ1 xs fun ys ρ2=>ys.length <= 1000000/\Q (.d (.tuple ys)) ρ2
def dLst(da:TDA):TDF:=fun ρ Q=>da ρ fun xs ρ1=>fzs ρ1 xs fun ys ρ2=>ys.length <= 1000000/\Q ys ρ2
def mil{n:Nat}(h:n <= 1000000):n < sizeLine:=Nat.lt_of_le_of_lt h 'k'
def ad_tup{ta:TA}{da:TDA}(ha:AdA K ta da):AdE K (tTup ta) (dTup da):=by
 intro c O ρ σ H Qd Q R h k;refine ha c O ρ σ H _ _ R h fun xs ρ1 O1 vs H1 h1 R1 P1 a1=>?_;obtain⟨ys,ρ2,O2,⟨hz,h2⟩,R2,P2,a2⟩:=qc5s R1 a1 h1;refine⟨by rw [a2.length];exact le_of_lt (mil hz),fun p hp=>?_⟩;have s:=qa0x hp (.tup vs);exact k _ _ _ _ _ h2 (R2.grow s) ((P1.trans P2).trans (.same s)) (qa9j hp a2)
def qb4z{p:Addr}(R:Rel K c O ρ σ H)(hp:H p=none):qb3y c O p:=⟨R.free0 hp,fun z=>R.pin p (.inr z) hp,fun z=>R.pin p (.inl z) hp,fun j e=>by obtain⟨_,vs,q⟩:=R.has j p e;rw [hp] at q;cases q⟩
def Rel.newL{p:Addr}{ys:List PyData}{vs:List V}(R:Rel K c O ρ σ H)(hp:H p=none)(h:qa0c K H (live c O) ys vs) :
  Rel K (c.add p) O ρ σ (upd H p (.lst vs))/\Pers K (live c O) H (live (c.add p) O) (upd H p (.lst vs))/\qb3y c O p/\qa0c K (upd H p (.lst vs)) (live (c.add p) O) ys vs:=by
 obtain⟨R1,P1⟩:=R.lay (o:=.lst vs) hp;exact⟨R1,P1,qb4z R hp,P1.all h⟩
def ad_lst{ta:TA}{da:TDA}(ha:AdA K ta da):AdF K (tLst ta) (dLst da):=by
 intro c O ρ σ H Qd Q R h k;refine ha c O ρ σ H _ _ R h fun xs ρ1 O1 vs H1 h1 R1 P1 a1=>?_;obtain⟨ys,ρ2,O2,⟨hz,h2⟩,R2,P2,a2⟩:=qc5s R1 a1 h1;refine⟨by rw [a2.length];exact le_of_lt (mil hz),fun p hp=>?_⟩;obtain⟨R3,P3,f3,a3⟩:=R2.newL hp a2;exact k _ _ _ _ _ _ h2 R3 ((P1.trans P2).trans P3) f3 qa0k a3
def dFz(df:TDF):TDE:=fun ρ Q=>df ρ fun xs ρ1=>Q (.d (.list xs)) ρ1
def ad_fz{t:TE}{df:TDF}(h:AdF K t df):AdE K t (dFz df):=by
 intro c O ρ σ H Qd Q R h0 k;refine h c O ρ σ H _ _ R h0 fun xs ρ1 O1 p vs H1 h1 R1 P1 f1 hp a1=>?_;obtain⟨R2,P2⟩:=R1.unadd;exact k _ _ _ _ _ h1 R2 (P1.trans P2) (qa2o ⟨R1.frs p f1.1,f1.2.2.1,f1.2.2.2⟩ hp (P2.all a1))
abbrev F2L:=PyData->PyData->Option (List PyData)
def AdRF(K:W.Frag)(r:R2)(f:F2L):Prop:=∀ (S:Addr->Prop) (H:Hp) (x y:V) (dx dy:PyData) (z:List PyData) (Q:VK),AtT K H S dx x->AtT K H S dy y->f dx dy=some z ->
 (∀ p vs,H p=none->qa0c K H S z vs->Q (.ref p) (upd H p (.lst vs)))->r x y H Q
def dOpF(f:F2L)(da db:TDE):TDF:=fun ρ Q=>da ρ fun x ρ1=>db ρ1 fun y ρ2=>need (qa0q ρ2 x) fun dx=>need (qa0q ρ2 y) fun dy=>need (f dx dy) fun z=>Q z ρ2
def ad_opF{r:R2}{f:F2L}{ta tb:TE}{da db:TDE}(hr:AdRF K r f)(ha:AdE K ta da)(hb:AdE K tb db):AdF K (tOp r ta tb) (dOpF f da db):=by
 intro c O ρ σ H Qd Q R h k;refine ha c O ρ σ H _ _ R h fun x ρ1 O1 v H1 h1 R1 P1 a1=>?_;refine hb c O1 ρ1 σ H1 _ _ R1 h1 fun y ρ2 O2 u H2 h2 R2 P2 a2=>?_;obtain⟨dx,e1,hn3⟩:=ne (h2);obtain⟨dy,e2,hn4⟩:=ne (hn3);obtain⟨z,e3,h3⟩:=ne (hn4);refine hr (live c O2) H2 v u dx dy z Q (R2.top (a1.pers P2) e1) (R2.top a2 e2) e3 fun p vs hp a3=>?_;obtain⟨R3,P3,f3,a4⟩:=R2.newL hp a3;exact k _ _ _ _ _ _ h3 R3 ((P1.trans P2).trans P3) f3 qa0k a4
noncomputable def fRep:F2L
 | .list xs,.int j=>@ite _ (-(2 ^ 63) <= j/\j < 2 ^ 63/\xs.length * j.toNat <= sizeLine) (Classical.propDecidable _) (some (List.replicate j.toNat xs).flatten) none
 | _,_=>none
def ad_rep:AdRF K rRep fRep:=by
 intro S H x y dx dy z Q hx hy e k;unfold fRep at e;split at e
 ·split at e
  ·rename_i hc
   cases e
   obtain⟨a,vs,rfl,h1,h2⟩:=hx.list;rw [hy.int];exact⟨a,_,vs,rfl,rfl,h1,hc.1,hc.2.1,by rw [h2.length];exact hc.2.2,fun p hp=>k p _ hp (h2.rep _)⟩
  ·cases e
 ·cases e
noncomputable def qa1x(ρ:Rho):List DV->Option (List PyData)
 | []=>some []
 | x :: xs=>(qa0q ρ x).bind fun y=>(qa1x ρ xs).map (y :: ·)
noncomputable def AtTs(K:W.Frag)(H:Hp)(S:Addr->Prop):List PyData->List V->Prop:=Paired (AtT K H S)
def Rel.tops(R:Rel K c O ρ σ H){xs:List DV}:∀ {vs:List V} {ds:List PyData},AtVs K (live c O) σ H xs vs->qa1x ρ xs=some ds->AtTs K H (live c O) ds vs:=by
 induction xs with
 | nil =>
  intro vs ds a e;cases a;cases e;exact .nil
 | cons x xs ih =>
  intro vs ds a e;cases a with
  | cons a as =>
   unfold qa1x at e;cases q:qa0q ρ x with
   | none=>rw [q] at e;cases e
   | some y =>
    rw [q] at e;have e':(qa1x ρ xs).map (y :: ·)=some ds:=e;cases q2:qa1x ρ xs with
    | none=>rw [q2] at e';cases e'
    | some ys =>
     rw [q2] at e';cases e';exact .cons (R.top a q) (ih as q2)
abbrev FC:=List PyData->Option PyData
abbrev FCL:=List PyData->Option (List PyData)
def AdC(K:W.Frag)(r:List V->Hp->VK->Prop)(f:FC):Prop:=∀ (S:Addr->Prop) (H:Hp) (vs:List V) (ds:List PyData) (z:PyData) (Q:VK),Frs S H->AtTs K H S ds vs->f ds=some z ->
 (∀ v H',Same H H'->AtD K H' S z v->Q v H')->r vs H Q
def AdCF(K:W.Frag)(r:List V->Hp->VK->Prop)(f:FCL):Prop:=∀ (S:Addr->Prop) (H:Hp) (vs:List V) (ds:List PyData) (z:List PyData) (Q:VK),AtTs K H S ds vs->f ds=some z ->
 (∀ p ws,H p=none->qa0c K H S z ws->Q (.ref p) (upd H p (.lst ws)))->r vs H Q
def dCB(f:FC)(da:TDA):TDE:=fun ρ Q=>da ρ fun xs ρ1=>need (qa1x ρ1 xs) fun ds=>need (f ds) fun z=>Q (.d z) ρ1
def dCBF(f:FCL)(da:TDA):TDF:=fun ρ Q=>da ρ fun xs ρ1=>need (qa1x ρ1 xs) fun ds=>need (f ds) fun z=>Q z ρ1
def ad_cb{r:List V->Hp->VK->Prop}{f:FC}{ta:TA}{da:TDA}(hr:AdC K r f)(ha:AdA K ta da):AdE K (tCB r ta) (dCB f da):=by
 intro c O ρ σ H Qd Q R h k;refine ha c O ρ σ H _ _ R h fun xs ρ1 O1 vs H1 h1 R1 P1 a1=>?_;obtain⟨ds,e1,hn2⟩:=ne (h1);obtain⟨z,e2,h2⟩:=ne (hn2);refine hr (live c O1) H1 vs ds z Q R1.frsLive (R1.tops a1 e1) e2 fun v H2 s2 a2=>?_;exact k _ _ _ _ _ h2 (R1.grow s2) (P1.trans (.same s2)) a2
def ad_cbF{r:List V->Hp->VK->Prop}{f:FCL}{ta:TA}{da:TDA}(hr:AdCF K r f)(ha:AdA K ta da):AdF K (tCB r ta) (dCBF f da):=by
 intro c O ρ σ H Qd Q R h k;refine ha c O ρ σ H _ _ R h fun xs ρ1 O1 vs H1 h1 R1 P1 a1=>?_;obtain⟨ds,e1,hn1⟩:=ne (h1);obtain⟨z,e2,h2⟩:=ne (hn1);refine hr (live c O1) H1 vs ds z Q (R1.tops a1 e1) e2 fun p ws hp a2=>?_;obtain⟨R3,P3,f3,a4⟩:=R1.newL hp a2;exact k _ _ _ _ _ _ h2 R3 (P1.trans P3) f3 qa0k a4
def AtTs.one{d:PyData}{vs:List V}(h:AtTs K H S [d] vs):∃ v,vs=[v]/\AtT K H S d v:=by
 cases h with
 | cons h t=>cases t;exact⟨_,rfl,h⟩
def AtTs.two{d e:PyData}{vs:List V}(h:AtTs K H S [d,e] vs):∃ v u,vs=[v,u]/\AtT K H S d v/\AtT K H S e u:=by
 cases h with
 | cons h t=>cases t with
  | cons h' t=>cases t;exact⟨_,_,rfl,h,h'⟩
noncomputable def fLen:FC
 | [.list xs]=>some (.int xs.length)
 | [.tuple xs]=>some (.int xs.length)
 | [.str x]=>if x.length <= sizeLine then some (.int x.length) else none
 | _=>none
noncomputable def qc5u(K:W.Frag):List V->Hp->VK->Prop:=fun xs H Q=>(∃ p ys,xs=[.ref p]/\(SqL K H p ys ∨ SqT K H p ys)/\Q (.int ys.length) H) ∨ (∃ z,xs=[.str z]/\z.length <= sizeLine/\Q (.int z.length) H)
def qa1l{X:Cx}:qa2e X (.builtin "len") (qc5u X.K):=qa5u.or qc0b
def qa3j:AdC K (qc5u K) fLen:=by
 intro S H vs ds z Q f h e k;unfold fLen at e;split at e
 ·cases e
  obtain⟨v,rfl,h1⟩:=h.one;obtain⟨a,ws,rfl,h2,h3⟩:=h1.list;exact .inl ⟨a,ws,rfl,.inl (SqL.of h2),by rw [h3.length];exact k _ _ (Same.refl _) (qa2n _)⟩
 ·cases e
  obtain⟨v,rfl,h1⟩:=h.one;obtain⟨a,ws,rfl,h2,h3⟩:=h1.tup;exact .inl ⟨a,ws,rfl,.inr h2,by rw [h3.length];exact k _ _ (Same.refl _) (qa2n _)⟩
 ·split at e
  ·rename_i hc
   cases e
   obtain⟨v,rfl,h1⟩:=h.one;rw [h1.str];exact .inr ⟨_,rfl,hc,k _ _ (Same.refl _) (qa2n _)⟩
  ·cases e
 ·cases e
noncomputable def qb6j:FC
 | [.list xs]=>some (.tuple xs)
 | [.tuple xs]=>some (.tuple xs)
 | _=>none
def qa1h:AdC K (fun xs H Q=>∃ p ys,xs=[.ref p]/\((SqL K H p ys/\∀ l,H l=none->Q (.ref l) (upd H l (.tup ys))) ∨ (SqT K H p ys/\Q (.ref p) H))) qb6j:=by
 intro S H vs ds z Q f h e k;unfold qb6j at e;split at e
 ·cases e
  obtain⟨v,rfl,h1⟩:=h.one;obtain⟨a,ws,rfl,h2,h3⟩:=h1.list;exact⟨a,ws,rfl,.inl ⟨SqL.of h2,fun l hl=>k _ _ (qa0x hl _) (qa9j hl h3)⟩⟩
 ·cases e
  obtain⟨v,rfl,h1⟩:=h.one;obtain⟨a,ws,rfl,h2,h3⟩:=h1.tup;exact⟨a,ws,rfl,.inr ⟨h2,k _ _ (Same.refl _) (qa4c h2 h3)⟩⟩
 ·cases e
noncomputable def fList:FCL
 | [.list xs]=>some xs
 | [.tuple xs]=>some xs
 | _=>none
def qc5v:AdCF K (fun xs H Q=>∃ p ys,xs=[.ref p]/\(SqL K H p ys ∨ SqT K H p ys)/\∀ l,H l=none->Q (.ref l) (upd H l (.lst ys))) fList:=by
 intro S H vs ds z Q h e k;unfold fList at e;split at e
 ·cases e
  obtain⟨v,rfl,h1⟩:=h.one;obtain⟨a,ws,rfl,h2,h3⟩:=h1.list;exact⟨a,ws,rfl,.inl (SqL.of h2),fun l hl=>k _ _ hl h3⟩
 ·cases e
  obtain⟨v,rfl,h1⟩:=h.one;obtain⟨a,ws,rfl,h2,h3⟩:=h1.tup;exact⟨a,ws,rfl,.inr h2,fun l hl=>k _ _ hl h3⟩
 ·cases e
end
section
variable{X:Cx}{a b e:Expr}{es:List Expr}{da db de:TDE}{daa:TDA}{pos:Pos}
def qa0b:DA X [] dNil:=⟨_,qa2j,ad_nil⟩
def qa0a(he:DE X e de)(ha:DA X es daa)(hs:starEach (e :: es) X.env=(false,eval e X.env) :: starEach es X.env:=by rfl):DA X (e :: es) (dCons de daa):=by
 obtain⟨te,p1,a1⟩:=he;obtain⟨ta,p2,a2⟩:=ha;exact⟨_,qa1f p1 p2 hs,qc5t a1 a2⟩
def qa1y{x1}(ha:DA X es daa):DE X (.Tuple es x1 pos) (dTup daa):=by obtain⟨t,p,a⟩:=ha;exact⟨_,pe_tup p,ad_tup a⟩
def qa4n(ha:DA X es daa):DF X (.List es pos) (dLst daa):=by obtain⟨t,p,a⟩:=ha;exact⟨_,qb9w p,ad_lst a⟩
def qa1m{df:TDF}(h:DF X e df):DE X e (dFz df):=by obtain⟨t,p,a⟩:=h;exact⟨t,p,ad_fz a⟩
def df_op{op:Operator}{r:R2}{f:F2L}(ho:OpR X (binaryOp op) r)(hr:AdRF X.K r f)(ha:DE X a da)(hb:DE X b db):DF X (.BinOp a op b pos) (dOpF f da db):=by
 obtain⟨ta,pa,aa⟩:=ha;obtain⟨tb,pb,ab⟩:=hb;exact⟨_,qa3m ho pa pb,ad_opF hr aa ab⟩
def qa0v{x:Str}{p:Pos}{id:String}{r:List V->Hp->VK->Prop}{f:FC}(hc:qa2e X (.builtin id) r)(hr:AdC X.K r f)(hg:Gl X x)(hm:X.mg x=none)(hv:bootBuiltins x=some (.builtin id))(ha:DA X (e :: es) daa) (hn:x ≠ "__name__":=by decide) (hdb:(x == ("__debug__" : Str))=false:=by decide)
  (he:starEach (e :: es) X.env=(false,eval e X.env) :: starEach es X.env:=by rfl) (hpl:(backTo pos (starEach es X.env)).any (·.1)=false:=by rfl):DE X (.Call (.Name x p) (e :: es) [] pos) (dCB f daa):=by
 obtain⟨ta,pa,aa⟩:=ha;exact⟨_,qa5l hc hg hm hv pa hn hdb he hpl,ad_cb hr aa⟩
def qa0y{x:Str}{p:Pos}{T:String}{r:List V->Hp->VK->Prop}{f:FC}(hc:qa2e X (.type T) r)(hr:AdC X.K r f)(hg:Gl X x)(hm:X.mg x=none)(hv:bootBuiltins x=some (.type T))(ha:DA X (e :: es) daa) (hn:x ≠ "__name__":=by decide) (hdb:(x == ("__debug__" : Str))=false:=by decide)
  (he:starEach (e :: es) X.env=(false,eval e X.env) :: starEach es X.env:=by rfl) (hpl:(backTo pos (starEach es X.env)).any (·.1)=false:=by rfl):DE X (.Call (.Name x p) (e :: es) [] pos) (dCB f daa):=by
 obtain⟨ta,pa,aa⟩:=ha;exact⟨_,qa7l hc hg hm hv pa hn hdb he hpl,ad_cb hr aa⟩
def qb8u{x:Str}{p:Pos}{T:String}{r:List V->Hp->VK->Prop}{f:FCL}(hc:qa2e X (.type T) r)(hr:AdCF X.K r f)(hg:Gl X x)(hm:X.mg x=none)(hv:bootBuiltins x=some (.type T))(ha:DA X (e :: es) daa) (hn:x ≠ "__name__":=by decide) (hdb:(x == ("__debug__" : Str))=false:=by decide)
  (he:starEach (e :: es) X.env=(false,eval e X.env) :: starEach es X.env:=by rfl) (hpl:(backTo pos (starEach es X.env)).any (·.1)=false:=by rfl):DF X (.Call (.Name x p) (e :: es) [] pos) (dCBF f daa):=by
 obtain⟨ta,pa,aa⟩:=ha;exact⟨_,qa7l hc hg hm hv pa hn hdb he hpl,ad_cbF hr aa⟩
end
end
section
section
variable{K:W.Frag}{c:Rc}{O:Own}{ρ:Rho}{σ:St}{H H':Hp}{S S':Addr->Prop}
noncomputable def asB:PyData->Option Bool
 | .bool b=>some b
 | _=>none
def dB(de:TDE):TDT:=fun ρ Q=>de ρ fun x ρ1=>need (qa0q ρ1 x) fun d=>need (asB d) fun b=>Q b ρ1
def ad_b{t:TE}{de:TDE}(h:AdE K t de):AdT K (fun σ H Q=>t σ H fun x H'=>∃ k,x=.bl k/\Q k H') (dB de):=by
 intro c O ρ σ H Qd Q R h0 k;refine h c O ρ σ H _ _ R h0 fun x ρ1 O1 v H1 h1 R1 P1 a1=>?_;obtain⟨d,e1,hn12⟩:=ne (h1);obtain⟨b,e2,h2⟩:=ne (hn12);have a2:=R1.top a1 e1;cases d with
 | bool b'=>cases e2;exact⟨b,a2.bool,k _ _ _ _ h2 R1 P1⟩
 | _=>cases e2
noncomputable def tru:PyData->Option Bool
 | .none=>some false
 | .bool b=>some b
 | .int i=>some (i != 0)
 | .str x=>if x.length <= sizeLine then some ((x.length:Int) != 0) else none
 | .list xs=>some (!xs.isEmpty)
 | .tuple xs=>some (!xs.isEmpty)
 | .dict _=>none
def dTru(de:TDE):TDT:=fun ρ Q=>de ρ fun x ρ1=>need (qa0q ρ1 x) fun d=>need (tru d) fun b=>Q b ρ1
def dAnd(t u:TDT):TDT:=fun ρ Q=>t ρ fun b ρ1=>if b=true then u ρ1 Q else Q false ρ1
def dOr(t u:TDT):TDT:=fun ρ Q=>t ρ fun b ρ1=>if b=true then Q true ρ1 else u ρ1 Q
def dNot(t:TDT):TDT:=fun ρ Q=>t ρ fun b ρ1=>Q (!b) ρ1
def ad_and{t u:TT}{dt du:TDT}(h:AdT K t dt)(h':AdT K u du):AdT K (tAnd t u) (dAnd dt du):=by
 intro c O ρ σ H Qd Q R h0 k;refine h c O ρ σ H _ _ R h0 fun b ρ1 O1 H1 h1 R1 P1=>?_;cases b with
 | true=>rw [if_pos rfl] at h1 ⊢;exact h' c O1 ρ1 σ H1 _ _ R1 h1 fun b ρ2 O2 H2 h2 R2 P2=>k _ _ _ _ h2 R2 (P1.trans P2)
 | false=>rw [if_neg Bool.false_ne_true] at h1 ⊢;exact k _ _ _ _ h1 R1 P1
def ad_or{t u:TT}{dt du:TDT}(h:AdT K t dt)(h':AdT K u du):AdT K (tOr t u) (dOr dt du):=by
 intro c O ρ σ H Qd Q R h0 k;refine h c O ρ σ H _ _ R h0 fun b ρ1 O1 H1 h1 R1 P1=>?_;cases b with
 | true=>rw [if_pos rfl] at h1 ⊢;exact k _ _ _ _ h1 R1 P1
 | false=>rw [if_neg Bool.false_ne_true] at h1 ⊢;exact h' c O1 ρ1 σ H1 _ _ R1 h1 fun b ρ2 O2 H2 h2 R2 P2=>k _ _ _ _ h2 R2 (P1.trans P2)
def ad_not{t:TT}{dt:TDT}(h:AdT K t dt):AdT K (tNot t) (dNot dt):=by
 intro c O ρ σ H Qd Q R h0 k;exact h c O ρ σ H _ _ R h0 fun b ρ1 O1 H1 h1 R1 P1=>k _ _ _ _ h1 R1 P1
def dIfE(c:TDT)(a b:TDE):TDE:=fun ρ Q=>c ρ fun k ρ1=>if k=true then a ρ1 Q else b ρ1 Q
def ad_ifE{t:TT}{ta tb:TE}{dt:TDT}{da db:TDE}(h:AdT K t dt)(ha:AdE K ta da)(hb:AdE K tb db):AdE K (tIf t ta tb) (dIfE dt da db):=by
 intro c O ρ σ H Qd Q R h0 k;refine h c O ρ σ H _ _ R h0 fun b ρ1 O1 H1 h1 R1 P1=>?_;cases b with
 | true=>rw [if_pos rfl] at h1 ⊢;exact ha c O1 ρ1 σ H1 _ _ R1 h1 fun x ρ2 O2 v H2 h2 R2 P2 a2=>k _ _ _ _ _ h2 R2 (P1.trans P2) a2
 | false=>rw [if_neg Bool.false_ne_true] at h1 ⊢;exact hb c O1 ρ1 σ H1 _ _ R1 h1 fun x ρ2 O2 v H2 h2 R2 P2 a2=>k _ _ _ _ _ h2 R2 (P1.trans P2) a2
def qc0o:AtV K S σ H (.d .none) .non:=(qa9g:AtD K H S .none .non)
def qa9l{b:Bool}:AtV K S σ H (.d (.bool b)) (.bl b):=(qa2m b:AtD K H S (.bool b) (.bl b))
def dAndV(a b:TDE):TDE:=fun ρ Q=>a ρ fun x ρ1=>need (qa0q ρ1 x) fun d=>need (asB d) fun k=>if k=true then b ρ1 Q else Q (.d (.bool false)) ρ1
def dOrV(a b:TDE):TDE:=fun ρ Q=>a ρ fun x ρ1=>need (qa0q ρ1 x) fun d=>need (asB d) fun k=>if k=true then Q (.d (.bool true)) ρ1 else b ρ1 Q
def qc0p{d:PyData}{v:V}{b:Bool}(h:AtT K H S d v)(e:asB d=some b):v=.bl b:=by
 cases d with
 | bool b'=>cases e;exact h.bool
 | _=>cases e
def ad_andV{ta tb:TE}{da db:TDE}(ha:AdE K ta da)(hb:AdE K tb db):AdE K (tAndV ta tb) (dAndV da db):=by
 intro c O ρ σ H Qd Q R h0 k;refine ha c O ρ σ H _ _ R h0 fun x ρ1 O1 v H1 h1 R1 P1 a1=>?_;obtain⟨d,e1,hn10⟩:=ne (h1);obtain⟨b,e2,h2⟩:=ne (hn10);refine⟨b,qc0p (R1.top a1 e1) e2,?_⟩;cases b with
 | true=>rw [if_pos rfl] at h2 ⊢;exact hb c O1 ρ1 σ H1 _ _ R1 h2 fun x ρ2 O2 v H2 h2 R2 P2 a2=>k _ _ _ _ _ h2 R2 (P1.trans P2) a2
 | false=>rw [if_neg Bool.false_ne_true] at h2 ⊢;exact k _ _ _ _ _ h2 R1 P1 qa9l
def dNotV(a:TDE):TDE:=fun ρ Q=>a ρ fun x ρ1=>need (qa0q ρ1 x) fun d=>need (asB d) fun k=>Q (.d (.bool (!k))) ρ1
def ad_notV{ta:TE}{da:TDE}(ha:AdE K ta da):AdE K (tNotV ta) (dNotV da):=by
 intro c O ρ σ H Qd Q R h0 k;refine ha c O ρ σ H _ _ R h0 fun x ρ1 O1 v H1 h1 R1 P1 a1=>?_;obtain⟨d,e1,hn8⟩:=ne (h1);obtain⟨b,e2,h2⟩:=ne (hn8);exact⟨b,qc0p (R1.top a1 e1) e2,k _ _ _ _ _ h2 R1 P1 qa9l⟩
def qb6k(f f':F2)(da db dc:TDE):TDE:=fun ρ Q=>da ρ fun x ρ1=>db ρ1 fun y ρ2=>need (qa0q ρ2 x) fun dx=>need (qa0q ρ2 y) fun dy=>need (f dx dy) fun z=>need (asB z) fun k =>
 if k=true then dc ρ2 fun w ρ3=>need (qa0q ρ3 y) fun dy=>need (qa0q ρ3 w) fun dw=>need (f' dy dw) fun z'=>Q (.d z') ρ3 else Q (.d (.bool false)) ρ2
def qc0q{r r':R2}{f f':F2}{ta tb tc:TE}{da db dc:TDE}(hr:AdR K r f)(hr':AdR K r' f')(ha:AdE K ta da)(hb:AdE K tb db)(hc:AdE K tc dc):AdE K (qb9v r r' ta tb tc) (qb6k f f' da db dc):=by
 intro c O ρ σ H Qd Q R h k;refine ha c O ρ σ H _ _ R h fun x ρ1 O1 v H1 h1 R1 P1 a1=>?_;refine hb c O1 ρ1 σ H1 _ _ R1 h1 fun y ρ2 O2 u H2 h2 R2 P2 a2=>?_;obtain⟨dx,e1,hn7⟩:=ne (h2);obtain⟨dy,e2,hn17⟩:=ne (hn7);obtain⟨z,e3,hn20⟩:=ne (hn17);obtain⟨b,e4,h3⟩:=ne (hn20);refine hr (live c O2) H2 v u dx dy z _ R2.frsLive (R2.top (a1.pers P2) e1) (R2.top a2 e2) e3 fun w H3 s3 a3=>?_;have R3:=R2.grow s3;have P3:Pers K (live c O2) H2 (live c O2) H3:=.same s3;refine⟨b,qc0p (.inl a3) e4,?_⟩;cases b with
 | false=>rw [if_neg Bool.false_ne_true] at h3 ⊢;exact k _ _ _ _ _ h3 R3 ((P1.trans P2).trans P3) qa9l
 | true =>
  rw [if_pos rfl] at h3 ⊢;refine hc c O2 ρ2 σ H3 _ _ R3 h3 fun w ρ4 O4 u4 H4 h4 R4 P4 a4=>?_;obtain⟨dy',e5,hn26⟩:=ne (h4);obtain⟨dw,e6,hn28⟩:=ne (hn26);obtain⟨z',e7,h5⟩:=ne (hn28);refine hr' (live c O4) H4 u u4 dy' dw z' Q R4.frsLive (R4.top ((a2.pers P3).pers P4) e5) (R4.top a4 e6) e7 fun w5 H5 s5 a5=>?_;exact k _ _ _ _ _ h5 (R4.grow s5) ((((P1.trans P2).trans P3).trans P4).trans (.same s5)) a5
end
section
variable{X:Cx}{a b c e:Expr}{rest:List Expr}{da db dc de:TDE}{dt du:TDT}{pos:Pos}
def qa2k(h:DE X e de)(he:∀ whole,isTrue e X.env whole=(do let v ← whole;standAt e.pos;holding [v] (truthy v)):=by intro _;rfl):DT X e (dB de):=by
 obtain⟨t,p,a⟩:=h;exact⟨_,qb5y p he,ad_b a⟩
def qa0w{op:CmpOp}{r:R2}{f:F2}(ho:OpR X (compareOp op) r)(hr:AdR X.K r f)(ha:DE X a da)(hb:DE X b db)(hm:behindInMarks op b=false):DT X (.Compare a [op] [b] pos) (dB (dOp f da db)):=by
 obtain⟨ta,pa,aa⟩:=ha;obtain⟨tb,pb,ab⟩:=hb;exact⟨_,qb3v ho pa pb hm,ad_b (ad_op hr aa ab)⟩
def qd3d{op op':CmpOp}{r r':R2}{f f':F2}(ho:OpR X (compareOp op) r)(hr:AdR X.K r f)(ho':OpR X (compareOp op') r')(hr':AdR X.K r' f')(ha:DE X a da)(hb:DE X b db)(hc:DE X c dc)
  (hm:lastMarks [op,op'] [b,c]=false:=by with_unfolding_all rfl):DT X (.Compare a [op,op'] [b,c] pos) (dB (qb6k f f' da db dc)):=by
 obtain⟨ta,pa,aa⟩:=ha;obtain⟨tb,pb,ab⟩:=hb;obtain⟨tc,pc,ac⟩:=hc;exact⟨_,qd2p ho ho' pa pb pc hm,ad_b (qc0q hr hr' aa ab ac)⟩
def qb5a{op op':CmpOp}{r r':R2}{f f':F2}(ho:OpR X (compareOp op) r)(hr:AdR X.K r f)(ho':OpR X (compareOp op') r')(hr':AdR X.K r' f')(ha:DE X a da)(hb:DE X b db)(hc:DE X c dc)
  (hm:lastMarks [op,op'] [b,c]=false:=by with_unfolding_all rfl):DE X (.Compare a [op,op'] [b,c] pos) (qb6k f f' da db dc):=by
 obtain⟨ta,pa,aa⟩:=ha;obtain⟨tb,pb,ab⟩:=hb;obtain⟨tc,pc,ac⟩:=hc;exact⟨_,qd2o ho ho' pa pb pc hm,qc0q hr hr' aa ab ac⟩
def DW.toT(h:DW X e dt):DT X e dt:=by obtain⟨t,p,a⟩:=h;exact⟨t,p.pt,a⟩
def qc5w(ha:DT X a dt):DW X (.BoolOp .And [a] pos) dt:=by obtain⟨t,p,a⟩:=ha;exact⟨t,pw_and1 p,a⟩
def qa4t(ha:DT X a dt):DW X (.BoolOp .Or [a] pos) dt:=by obtain⟨t,p,a⟩:=ha;exact⟨t,pw_or1 p,a⟩
def qc0r(ha:DT X a dt)(hb:DW X (.BoolOp .And (b :: rest) pos) du):DW X (.BoolOp .And (a :: b :: rest) pos) (dAnd dt du):=by obtain⟨_,p,a⟩:=ha;obtain⟨_,p',a'⟩:=hb;exact⟨_,pw_and p p',ad_and a a'⟩
def qa5h(ha:DT X a dt)(hb:DW X (.BoolOp .Or (b :: rest) pos) du):DW X (.BoolOp .Or (a :: b :: rest) pos) (dOr dt du):=by obtain⟨_,p,a⟩:=ha;obtain⟨_,p',a'⟩:=hb;exact⟨_,pw_or p p',ad_or a a'⟩
def qa2z(ha:DT X a dt):DT X (.UnaryOp .Not a pos) (dNot dt):=by obtain⟨_,p,a⟩:=ha;exact⟨_,pt_not p,ad_not a⟩
def qa3e{op}(h:DE X a da):DE X (.BoolOp op [a] pos) da:=by obtain⟨t,p,a⟩:=h;exact⟨t,pe_one p,a⟩
def qa2s(ha:DE X a da)(hb:DE X (.BoolOp .And (b :: rest) pos) db):DE X (.BoolOp .And (a :: b :: rest) pos) (dAndV da db):=by obtain⟨_,p,a⟩:=ha;obtain⟨_,p',a'⟩:=hb;exact⟨_,pe_and p p',ad_andV a a'⟩
def de_not(ha:DE X a da):DE X (.UnaryOp .Not a pos) (dNotV da):=by obtain⟨_,p,a⟩:=ha;exact⟨_,pe_not p,ad_notV a⟩
def de_if(hc:DT X c dt)(ha:DE X a da)(hb:DE X b db):DE X (.IfExp c a b pos) (dIfE dt da db):=by obtain⟨_,p,a⟩:=hc;obtain⟨_,p',a'⟩:=ha;obtain⟨_,p2,a2⟩:=hb;exact⟨_,qd2m p p' p2,ad_ifE a a' a2⟩
end
inductive RV where
 | d (x:PyData)
 | new (xs:List PyData)
structure DEnds where
 nx:Rho->Prop
 rt:RV->Rho->Prop
 bk:Rho->Prop:=fun _=>False
 ct:Rho->Prop:=fun _=>False
abbrev TDS:=DEnds->Rho->Prop
noncomputable def RetOk(K:W.Frag)(c:Rc)(O:Own)(ρ:Rho)(σ:St)(H:Hp):RV->V->Prop
 | .d x,v=>Rel K c O ρ σ H/\AtD K H (live c O) x v
 | .new xs,v=>∃ p vs,v=.ref p/\Rel K (c.add p) O ρ σ H/\qb3y c O p/\H p=some (.lst vs)/\qa0c K H (live (c.add p) O) xs vs
structure EndsOk(K:W.Frag)(c:Rc)(S0:Addr->Prop)(H0:Hp)(D:Ends)(Dd:DEnds):Prop where
 nx:∀ O ρ σ H,Rel K c O ρ σ H->Pers K S0 H0 (live c O) H->Dd.nx ρ->D.nx σ H
 rt:∀ r O ρ σ H v,RetOk K c O ρ σ H r v->Dd.rt r ρ->D.rt v H
 bk:∀ O ρ σ H,Rel K c O ρ σ H->Pers K S0 H0 (live c O) H->Dd.bk ρ->D.bk σ H
 ct:∀ O ρ σ H,Rel K c O ρ σ H->Pers K S0 H0 (live c O) H->Dd.ct ρ->D.ct σ H
 mb:∀ p,c.M p->c.B p
 oa:∀ p,c.H0 p=none->c.A p
def EndsOk.later{K:W.Frag}{c:Rc}{S0 S1:Addr->Prop}{H0 H1:Hp}{D:Ends}{Dd:DEnds}(E:EndsOk K c S0 H0 D Dd)(P:Pers K S0 H0 S1 H1):EndsOk K c S1 H1 D Dd:=
 ⟨fun O ρ σ H R q=>E.nx O ρ σ H R (P.trans q),E.rt,fun O ρ σ H R q=>E.bk O ρ σ H R (P.trans q),fun O ρ σ H R q=>E.ct O ρ σ H R (P.trans q),E.mb,E.oa⟩
def AdS(K:W.Frag)(t:TS)(dt:TDS):Prop:=∀ (c:Rc) (O:Own) (ρ:Rho) (σ:St) (H:Hp) (D:Ends) (Dd:DEnds),Rel K c O ρ σ H->EndsOk K c (live c O) H D Dd->dt Dd ρ->t D σ H
def DS(X:Cx)(st:Stmt)(dt:TDS):Prop:=∃ t,PS X st t/\AdS X.K t dt
def DSs(X:Cx)(st:List Stmt)(dt:TDS):Prop:=∃ t,PSs X st t/\AdS X.K t dt
section
variable{K:W.Frag}{c:Rc}{O:Own}{ρ:Rho}{σ:St}{H H':Hp}{S S':Addr->Prop}
def dNext:TDS:=fun D ρ=>D.nx ρ
def dSeq(t u:TDS):TDS:=fun D ρ=>t { D with nx:=u D } ρ
def ad_next:AdS K tNext dNext:=fun c O ρ σ H D Dd R E h=>E.nx O ρ σ H R .refl h
def ad_seq{t u:TS}{dt du:TDS}(h:AdS K t dt)(h':AdS K u du):AdS K (tSeq t u) (dSeq dt du):=fun c O ρ σ H D Dd R E q =>
 h c O ρ σ H { D with nx:=u D } { Dd with nx:=du Dd } R ⟨fun O1 ρ1 σ1 H1 R1 P1 q1=>h' c O1 ρ1 σ1 H1 D Dd R1 (E.later P1) q1,E.rt,E.bk,E.ct,E.mb,E.oa⟩ q
def dDrop(de:TDE):TDS:=fun D ρ=>de ρ fun _ ρ1=>D.nx ρ1
def ad_drop{t:TE}{de:TDE}(h:AdE K t de):AdS K (tDrop t) (dDrop de):=fun c O ρ σ H D Dd R E q =>
 h c O ρ σ H _ _ R q fun x ρ1 O1 v H1 h1 R1 P1 a1=>E.nx O1 ρ1 σ H1 R1 P1 h1
def dRet(de:TDE):TDS:=fun D ρ=>de ρ fun x ρ1=>fz ρ1 x fun y ρ2=>D.rt (.d y) ρ2
def ad_ret{t:TE}{de:TDE}(h:AdE K t de):AdS K (tRet t) (dRet de):=fun c O ρ σ H D Dd R E q =>
 h c O ρ σ H _ _ R q fun x ρ1 O1 v H1 h1 R1 P1 a1=>by
  obtain⟨y,ρ2,O2,h2,R2,P2,a2⟩:=R1.fz a1 h1;exact E.rt (.d y) O2 ρ2 σ H1 v ⟨R2,a2⟩ h2
def dRetF(df:TDF):TDS:=fun D ρ=>df ρ fun xs ρ1=>D.rt (.new xs) ρ1
def dIf(c:TDT)(t u:TDS):TDS:=fun D ρ=>c ρ fun b ρ1=>if b=true then t D ρ1 else u D ρ1
def ad_if{tc:TT}{t u:TS}{dc:TDT}{dt du:TDS}(hc:AdT K tc dc)(h:AdS K t dt)(h':AdS K u du):AdS K (tIfS tc t u) (dIf dc dt du):=fun c O ρ σ H D Dd R E q =>
 hc c O ρ σ H _ _ R q fun b ρ1 O1 H1 h1 R1 P1=>by
  cases b with
  | true=>rw [if_pos rfl] at h1 ⊢;exact h c O1 ρ1 σ H1 D Dd R1 (E.later P1) h1
  | false=>rw [if_neg Bool.false_ne_true] at h1 ⊢;exact h' c O1 ρ1 σ H1 D Dd R1 (E.later P1) h1
def dSet(i:Nat)(de:TDE):TDS:=fun D ρ=>de ρ fun x ρ1=>fz ρ1 x fun y ρ2=>i < ρ2.length/\D.nx (ρ2.set i (some (.d y)))
def ad_set{i:Nat}{t:TE}{de:TDE}(h:AdE K t de):AdS K (tAsg t (qa3l i)) (dSet i de):=fun c O ρ σ H D Dd R E q =>
 h c O ρ σ H _ _ R q fun x ρ1 O1 v H1 h1 R1 P1 a1=>by
  obtain⟨y,ρ2,O2,⟨hi,h2⟩,R2,P2,a2⟩:=R1.fz a1 h1;obtain⟨R3,P3⟩:=R2.setD hi a2;exact E.nx _ _ _ H1 R3 ((P1.trans P2).trans P3) h2
def dSetF(i:Nat)(df:TDF):TDS:=fun D ρ=>df ρ fun xs ρ1=>i < ρ1.length/\D.nx (ρ1.set i (some (.own xs)))
def qc5x{i:Nat}{t:TE}{df:TDF}(h:AdF K t df):AdS K (tAsg t (qa3l i)) (dSetF i df):=fun c O ρ σ H D Dd R E q =>
 h c O ρ σ H _ _ R q fun xs ρ1 O1 p vs H1 h1 R1 P1 f1 hp a1=>by
  obtain⟨hi,h2⟩:=h1;obtain⟨R3,P3⟩:=R1.setOwn hi f1.1 f1.2.1 f1.2.2.1 f1.2.2.2 (E.oa _ f1.1) hp a1;exact E.nx _ _ _ H1 R3 (P1.trans P3) h2
abbrev TDG:=PyData->Rho->(Rho->Prop)->Prop
abbrev TDGs:=List PyData->Rho->(Rho->Prop)->Prop
def AdG(K:W.Frag)(g:TG)(dg:TDG):Prop:=∀ (c:Rc) (O:Own) (ρ:Rho) (σ:St) (H:Hp) (x:PyData) (v:V) (Qd:Rho->Prop) (Q:St->Hp->Prop),Rel K c O ρ σ H->AtD K H (live c O) x v->dg x ρ Qd ->
 (∀ O' ρ' σ' ,Rel K c O' ρ' σ' H->Pers K (live c O) H (live c O') H->Qd ρ'->Q σ' H)->g v σ H Q
def AdGs(K:W.Frag)(g:TGs)(dg:TDGs):Prop:=∀ (c:Rc) (O:Own) (ρ:Rho) (σ:St) (H:Hp) (x:List PyData) (v:List V) (Qd:Rho->Prop) (Q:St->Hp->Prop),Rel K c O ρ σ H->qa0c K H (live c O) x v->dg x ρ Qd ->
 (∀ O' ρ' σ' ,Rel K c O' ρ' σ' H->Pers K (live c O) H (live c O') H->Qd ρ'->Q σ' H)->g v σ H Q
def qb2t(i:Nat):TDG:=fun x ρ Q=>i < ρ.length/\Q (ρ.set i (some (.d x)))
def ag_name{i:Nat}:AdG K (qa3l i) (qb2t i):=fun c O ρ σ H x v Qd Q R a h k=>by
 obtain⟨R1,P1⟩:=R.setD h.1 a;exact k _ _ _ R1 P1 h.2
noncomputable def dgNil:TDGs:=fun xs ρ Q=>xs=[]/\Q ρ
def qc0s(t:TDG)(u:TDGs):TDGs:=fun xs ρ Q=>match xs with
 | x :: r=>t x ρ fun ρ1=>u r ρ1 Q
 | []=>False
def ag_nil:AdGs K gNil dgNil:=fun c O ρ σ H x v Qd Q R a h k=>by
 obtain⟨rfl,h⟩:=h;exact⟨a.unnil,k _ _ _ R .refl h⟩
def ag_cons{t:TG}{u:TGs}{dt:TDG}{du:TDGs}(h:AdG K t dt)(h':AdGs K u du):AdGs K (gCons t u) (qc0s dt du):=fun c O ρ σ H x v Qd Q R a q k=>by
 cases x with
 | nil=>exact(show False from q).elim
 | cons x r =>
  obtain⟨w,ws,rfl,a1,a2⟩:=a.uncons;exact⟨w,ws,rfl,h c O ρ σ H x w _ _ R a1 q fun O1 ρ1 σ1 R1 P1 q1=>h' c O1 ρ1 σ1 H r ws _ _ R1 (P1.all a2) q1 fun O2 ρ2 σ2 R2 P2 q2=>k _ _ _ R2 (P1.trans P2) q2⟩
def dgTup(n:Nat)(t:TDGs):TDG:=fun x ρ Q=>match x with
 | .tuple xs=>xs.length=n/\t xs ρ Q
 | _=>False
def ag_tup{n:Nat}{t:TGs}{dt:TDGs}(h:AdGs K t dt):AdG K (gTup K n t) (dgTup n dt):=fun c O ρ σ H x v Qd Q R a q k=>by
 cases x with
 | tuple xs =>
  obtain⟨hn,q⟩:=q;obtain⟨b,ws,rfl,h1,h2⟩:=qa3d a;exact⟨b,ws,rfl,h1,by rw [h2.length];exact hn,h c O ρ σ H xs ws _ _ R h2 q k⟩
 | _=>exact(show False from q).elim
def dAsg(de:TDE)(g:TDG):TDS:=fun D ρ=>de ρ fun x ρ1=>fz ρ1 x fun y ρ2=>g y ρ2 D.nx
def ad_asg{t:TE}{g:TG}{de:TDE}{dg:TDG}(h:AdE K t de)(hg:AdG K g dg):AdS K (tAsg t g) (dAsg de dg):=fun c O ρ σ H D Dd R E q =>
 h c O ρ σ H _ _ R q fun x ρ1 O1 v H1 h1 R1 P1 a1=>by
  obtain⟨y,ρ2,O2,h2,R2,P2,a2⟩:=R1.fz a1 h1;exact hg c O2 ρ2 σ H1 y v _ _ R2 a2 h2 fun O3 ρ3 σ3 R3 P3 h3=>E.nx _ _ _ _ R3 ((P1.trans P2).trans P3) h3
inductive OK where | o | b
noncomputable def ownB(ρ:Rho)(i:Nat):Option (OK × List PyData):=match ρ[i]?.join with
 | some (.own xs)=>some (.o,xs)
 | some (.bor xs)=>some (.b,xs)
 | _=>none
noncomputable def okL:OK->List PyData->L
 | .o,xs=>.own xs
 | .b,xs=>.bor xs
def qa8v{i:Nat}{o:OK}{xs:List PyData}(R:Rel K c O ρ σ H)(h:ownB ρ i=some (o,xs)):ρ[i]? = some (some (okL o xs))/\∃ p vs,O i=some p/\σ[i]? = some (some (.ref p))/\H p=some (.lst vs)/\qa0c K H (live c O) xs vs:=by
 unfold ownB at h;split at h
 ·rename_i ys e
  cases h
  have e':=qa2p e;obtain⟨p,vs,h1,_,h3,h4,h5⟩:=R.own i _ e';exact⟨e',p,vs,h1,h3,h4,h5⟩
 ·rename_i ys e
  cases h
  have e':=qa2p e;obtain⟨p,vs,h1,h3,h4,h5⟩:=R.bor i _ e';exact⟨e',p,vs,h1,h3,h4,h5⟩
 ·cases h
def Rel.writeB{i:Nat}{o:OK}{p:Addr}{xs ys:List PyData}{vs vs':List V}(R:Rel K c O ρ σ H)(hO:O i=some p)(hH:H p=some (.lst vs))(e:ρ[i]? = some (some (okL o xs)))(h:qa0c K H (live c O) ys vs') :
  Rel K c O (ρ.set i (some (okL o ys))) σ (upd H p (.lst vs'))/\Pers K (live c O) H (live c O) (upd H p (.lst vs')):=by
 cases o with
 | o=>exact R.write hO hH (.inl e) (.inl ⟨ys,e,rfl,h⟩)
 | b=>exact R.write hO hH (.inr (.inl e)) (.inr (.inl ⟨ys,e,rfl,h⟩))
def qb7t(i:Nat)(de:TDE):TDE:=fun ρ Q=>need (ownB ρ i) fun _=>de ρ fun x ρ1=>fz ρ1 x fun y ρ2=>need (ownB ρ2 i) fun o=>o.2.length <= 1000000/\Q (.d .none) (ρ2.set i (some (okL o.1 (o.2 ++ [y]))))
def qd0r{i:Nat}{t:TE}{de:TDE}(h:AdE K t de):AdE K (tBM K "list" qb7q (tVar i) (qa3f t tNil)) (qb7t i de):=by
 intro c O ρ σ H Qd Q R q k;obtain⟨hz6,e,q⟩:=ne (q);obtain⟨o,xs⟩:=hz6;obtain⟨e0,p,vs,hO,hσ,hH,hA⟩:=qa8v R e;refine⟨.ref p,hσ,.inl ⟨rfl,vs,SqL.of hH⟩,?_⟩;refine h c O ρ σ H _ _ R q fun x ρ1 O1 v H1 h1 R1 P1 a1=>?_;obtain⟨y,ρ2,O2,hz19,R2,P2,a2⟩:=R1.fz a1 h1;obtain⟨hz23,e2,hn25⟩:=ne (hz19);obtain⟨hz,h2⟩:=hn25;obtain⟨o2,xs2⟩:=hz23;obtain⟨e3,p2,vs2,hO2,hσ2,hH2,hA2⟩:=qa8v R2 e2;rw [hσ] at hσ2;cases hσ2;refine⟨p,vs2,v,rfl,rfl,hH2,by rw [hA2.length];exact mil hz,?_⟩;obtain⟨R3,P3⟩:=R2.writeB hO2 hH2 e3 (hA2.snoc a2);exact k _ _ _ _ _ h2 R3 ((P1.trans P2).trans P3) qc0o
def dPop(i:Nat):TDE:=fun ρ Q=>need (ownB ρ i) fun o=>need o.2.getLast? fun y=>Q (.d y) (ρ.set i (some (okL o.1 o.2.dropLast)))
def qb2u(i:Nat)(di de:TDE):TDS:=fun D ρ=>de ρ fun x ρ1=>fz ρ1 x fun y ρ2=>need (ownB ρ2 i) fun _=>di ρ2 fun z ρ3=>need (qa0q ρ3 z) fun dz=>need (asI dz) fun n=>need (ownB ρ3 i) fun o=>need (ixN o.2.length n) fun j=>D.nx (ρ3.set i (some (okL o.1 (o.2.set j y))))
 where asI:PyData->Option Int
  | .int i=>some i
  | _=>none
def qd3e{i:Nat}{ti te:TE}{di de:TDE}(hi:AdE K ti di)(h:AdE K te de):AdS K (tAsg te (gSub (tVar i) ti rSetL)) (qb2u i di de):=fun c O ρ σ H D Dd R E q =>
 h c O ρ σ H _ _ R q fun x ρ1 O1 v H1 h1 R1 P1 a1=>by
  obtain⟨y,ρ2,O2,hz4,R2,P2,a2⟩:=R1.fz a1 h1;obtain⟨hz15,e,h2⟩:=ne (hz4);obtain⟨o,xs⟩:=hz15;obtain⟨e0,p,vs,hO,hσ,hH,hA⟩:=qa8v R2 e;refine⟨.ref p,hσ,?_⟩;refine hi c O2 ρ2 σ H1 _ _ R2 h2 fun z ρ3 O3 w H3 h3 R3 P3 a3=>?_;obtain⟨dz,e1,hn24⟩:=ne (h3);obtain⟨n,e2,hn27⟩:=ne (hn24);obtain⟨hz22,e4,hn29⟩:=ne (hn27);obtain⟨j,e5,h4⟩:=ne (hn29);obtain⟨o4,xs4⟩:=hz22;obtain⟨e6,p4,vs4,hO4,hσ4,hH4,hA4⟩:=qa8v R3 e4;rw [hσ] at hσ4;cases hσ4;have a4:=R3.top a3 e1;cases dz with
  | int n' =>
   cases e2
   refine⟨p,vs4,n,j,rfl,a4.int,hH4,by rw [hA4.length];exact e5,?_⟩;obtain⟨R5,P5⟩:=R3.writeB hO4 hH4 e6 (hA4.set j (P3 _ _ a2));exact E.nx _ _ _ _ R5 (((P1.trans P2).trans P3).trans P5) h4
  | _=>cases e2
abbrev TDI:=Rho->(List PyData->Rho->Prop)->Prop
def qb0x(K:W.Frag)(S:Addr->Prop)(H:Hp)(J:It)(xs:List PyData):Prop:=∀ (S':Addr->Prop) (H':Hp),Pers K S H S' H' ->
 (∀ (i:Nat) (x:PyData),xs[i]? = some x->J.go i H'/\∀ v H'',J.yld i H' v H''->Same H' H''/\AtD K H'' S' x v)/\J.stop xs.length H'
def AdI(K:W.Frag)(t:TI)(di:TDI):Prop:=∀ (c:Rc) (O:Own) (ρ:Rho) (σ:St) (H:Hp) (Qd:List PyData->Rho->Prop) (Q:It->Hp->Prop),Rel K c O ρ σ H->di ρ Qd ->
 (∀ xs ρ' O' J H',Qd xs ρ'->Rel K c O' ρ' σ H'->Pers K (live c O) H (live c O') H'->qb0x K (live c O') H' J xs->Q J H')->t σ H Q
def DI(X:Cx)(tg iter:Expr)(di:TDI):Prop:=∃ t,PI X tg iter t/\AdI X.K t di
def qc8d{a:Addr}{vs:List V}{xs:List PyData}(h1:SqT K H a vs)(h2:qa0c K H S xs vs):qb0x K S H (Itt K a) xs:=fun S' H' P=>by
 obtain⟨b,ws,e,h3,h4⟩:=qa3d (P _ _ (qa4c h1 h2));cases e;refine⟨fun i x e=>?_,⟨ws,h3,by rw [h4.length];exact le_refl _⟩⟩;obtain⟨w,e1,e2⟩:=h4.get e;refine⟨⟨ws,w,h3,e1⟩,fun v H'' y=>?_⟩;obtain⟨rfl,y⟩:=y;have e3:=y ws h3;rw [e1] at e3;cases e3;exact⟨Same.refl _,e2⟩
def qc8e{a:Addr}{vs:List V}{xs:List PyData}(hS:S a)(h1:H a=some (.lst vs))(h2:qa0c K H S xs vs):qb0x K S H (Itl K a) xs:=fun S' H' P=>by
 obtain⟨b,ws,e,_,h3,h4⟩:=qa4b (P _ _ (qa2o hS h1 h2));cases e;refine⟨fun i x e=>?_,⟨ws,SqL.of h3,by rw [h4.length];exact le_refl _⟩⟩;obtain⟨w,e1,e2⟩:=h4.get e;refine⟨⟨ws,w,SqL.of h3,e1⟩,fun v H'' y=>?_⟩;obtain⟨rfl,y⟩:=y;have e3:=y ws (SqL.of h3);rw [e1] at e3;cases e3;exact⟨Same.refl _,e2⟩
def diDat(de:TDE):TDI:=fun ρ Q=>de ρ fun x ρ1=>fz ρ1 x fun y ρ2=>need (seqD y) fun xs=>Q xs ρ2
def ai_dat{t:TE}{de:TDE}(h:AdE K t de):AdI K (iDat K t) (diDat de):=fun c O ρ σ H Qd Q R q k =>
 h c O ρ σ H _ _ R q fun x ρ1 O1 v H1 h1 R1 P1 a1=>by
  obtain⟨y,ρ2,O2,hz3,R2,P2,a2⟩:=R1.fz a1 h1;obtain⟨xs,e,h2⟩:=ne (hz3);cases y with
  | list ys =>
   cases e
   obtain⟨a,vs,rfl,hS,h3,h4⟩:=qa4b a2;exact .inr ⟨a,rfl,⟨vs,SqL.of h3⟩,k _ _ _ _ _ h2 R2 (P1.trans P2) (qc8e hS h3 h4)⟩
  | tuple ys =>
   cases e
   obtain⟨a,vs,rfl,h3,h4⟩:=qa3d a2;exact .inl ⟨a,rfl,⟨vs,h3⟩,k _ _ _ _ _ h2 R2 (P1.trans P2) (qc8d h3 h4)⟩
  | _=>cases e
noncomputable def rngD(lo:Int)(n:Nat):List PyData:=(List.range n).map fun i=>.int (lo + (i:Nat))
def qc8f{lo:Int}{n:Nat}:qb0x K S H (Itr lo n) (rngD lo n):=fun S' H' P=>by
 have hl:(rngD lo n).length=n:=by simp [rngD]
 refine⟨fun i x e=>?_,by rw [hl];exact le_refl _⟩;have hi:i < n:=by rw [← hl];exact(List.getElem?_eq_some_iff.mp e).1
 have ex:x=.int (lo + (i:Nat)):=by
  simp only [rngD,getElem?_map,List.getElem?_range hi,map_some] at e;exact(Option.some.inj e).symm
 subst ex;refine⟨hi,fun v H'' y=>?_⟩;obtain⟨rfl,rfl⟩:=y;exact⟨Same.refl _,qa2n _⟩
noncomputable def asI:PyData->Option Int
 | .int i=>some i
 | _=>none
def qc0t{d:PyData}{v:V}{i:Int}(h:AtT K H S d v)(e:asI d=some i):v=.int i:=by
 cases d with
 | int i'=>cases e;exact h.int
 | _=>cases e
def sm62(i:Int):Prop:=-(2 ^ 62) <= i/\i < 2 ^ 62
def qc0u(de:TDE):TDI:=fun ρ Q=>de ρ fun x ρ1=>need (qa0q ρ1 x) fun d=>need (asI d) fun j=>sm62 j/\Q (rngD 0 j.toNat) ρ1
def ai_rng1{t:TE}{de:TDE}(h:AdE K t de):AdI K (iRng1 (qa3f t tNil)) (qc0u de):=fun c O ρ σ H Qd Q R q k =>
 h c O ρ σ H _ _ R q fun x ρ1 O1 v H1 h1 R1 P1 a1=>by
  obtain⟨d,e1,hn2⟩:=ne (h1);obtain⟨j,e2,hn14⟩:=ne (hn2);obtain⟨hj,h2⟩:=hn14;have ev:=qc0t (R1.top a1 e1) e2;exact⟨j,by rw [ev],hj.1,hj.2,k _ _ _ _ _ h2 R1 P1 qc8f⟩
def qa3r(g:TDG)(b:TDS)(D:DEnds):List PyData->Rho->Prop
 | [],ρ=>D.nx ρ
 | x :: r,ρ=>g x ρ fun ρ1=>b { D with nx:=qa3r g b D r,ct:=qa3r g b D r,bk:=D.nx } ρ1
def dFor(di:TDI)(g:TDG)(b:TDS):TDS:=fun D ρ=>di ρ fun xs ρ1=>qa3r g b D xs ρ1
def ad_for{ti:TI}{tg:TG}{tb:TS}{di:TDI}{dg:TDG}{db:TDS}(hi:AdI K ti di)(hg:AdG K tg dg)(hb:AdS K tb db):AdS K (tFor ti tg tb) (dFor di dg db):=fun c O ρ σ H D Dd R E q =>
 hi c O ρ σ H _ _ R q fun xs ρ1 O1 J H1 h1 R1 P1 I1=>by
  refine⟨fun i m σ' H'=>m=xs.length - i/\i <= xs.length/\∃ O' ρ',Rel K c O' ρ' σ' H'/\Pers K (live c O1) H1 (live c O') H'/\qa3r dg db Dd (xs.drop i) ρ',⟨xs.length,by simp,zero_le _,O1,ρ1,R1,.refl,by rw [drop_zero];exact h1⟩,?_⟩;rintro i m σ2 H2 ⟨rfl,hle,O2,ρ2,R2,P2,h2⟩;obtain⟨it,stop⟩:=I1 _ _ P2;by_cases hlt:i < xs.length
  ·rw [drop_eq_getElem_cons hlt] at h2
   obtain⟨go,yld⟩:=it i xs[i] (getElem?_eq_getElem hlt);have h2':dg xs[i] ρ2 fun ρ1=>db { Dd with nx:=qa3r dg db Dd (xs.drop (i + 1)),ct:=qa3r dg db Dd (xs.drop (i + 1)),bk:=Dd.nx } ρ1:=h2;refine .inr ⟨go,fun σ' H'=>∃ O' ρ',Rel K c O' ρ' σ' H'/\Pers K (live c O1) H1 (live c O') H'/\qa3r dg db Dd (xs.drop (i + 1)) ρ',fun σ' H' hq8=>by obtain⟨O',ρ',R',P',q'⟩:=hq8;exact⟨xs.length - (i + 1),'o',rfl,hlt,O',ρ',R',P',q'⟩,fun v H3 y=>?_⟩;obtain⟨s3,a3⟩:=yld v H3 y;refine hg c O2 ρ2 σ2 H3 xs[i] v _ _ (R2.grow s3) a3 h2' fun O4 ρ4 σ4 R4 P4 h4=>?_;have P5:Pers K (live c O1) H1 (live c O4) H3:=(P2.trans (.same s3)).trans P4;exact hb c O4 ρ4 σ4 H3 _ { Dd with nx:=qa3r dg db Dd (xs.drop (i + 1)),ct:=qa3r dg db Dd (xs.drop (i + 1)),bk:=Dd.nx } R4 ⟨fun O6 ρ6 σ6 H6 R6 P6 q6=>⟨O6,ρ6,R6,P5.trans P6,q6⟩,E.rt,fun O6 ρ6 σ6 H6 R6 P6=>E.nx _ _ _ _ R6 ((P1.trans P5).trans P6),fun O6 ρ6 σ6 H6 R6 P6 q6=>⟨O6,ρ6,R6,P5.trans P6,q6⟩,E.mb,E.oa⟩ h4
  ·have e:i=xs.length:=by omega
   subst e;rw [drop_eq_nil_of_le 'e'] at h2;exact .inl ⟨stop,E.nx _ _ _ _ R2 (P1.trans P2) h2⟩
end
end
section
noncomputable def qa8b:L->L->Option L
 | .own _,.bor xs=>some (.own xs)
 | .bor _,.bor xs=>some (.bor xs)
 | .tape _,.tape k=>some (.tape k)
 | _,_=>none
noncomputable def lend:L->L
 | .own xs=>.bor xs
 | l=>l
noncomputable def isOw:L->Bool
 | .own _=>true
 | .bor _=>true
 | .tape _=>true
 | _=>false
abbrev Lent:=Nat->Option Nat
section
variable{K:W.Frag}{c:Rc}{O:Own}{ρ:Rho}{σ:St}{H H':Hp}{S S':Addr->Prop}
def Rel.ow{i:Nat}{l:L}(R:Rel K c O ρ σ H)(h:ρ[i]? = some (some l))(ho:isOw l=true):∃ p,O i=some p/\σ[i]? = some (some (.ref p)):=by
 cases l with
 | own xs=>obtain⟨p,vs,h1,_,h3,_⟩:=R.own i xs h;exact⟨p,h1,h3⟩
 | bor xs=>obtain⟨p,vs,h1,h3,_⟩:=R.bor i xs h;exact⟨p,h1,h3⟩
 | tape k=>obtain⟨p,h1,h3,_⟩:=R.tap i k h;exact⟨p,h1,h3⟩
 | _=>cases ho
noncomputable def Holds(K:W.Frag)(c:Rc)(S:Addr->Prop)(H:Hp)(p:Addr):L->Prop
 | .own xs=>∃ vs,H p=some (.lst vs)/\qa0c K H S xs vs
 | .bor xs=>∃ vs,H p=some (.lst vs)/\qa0c K H S xs vs
 | .tape k=>H p=some (.lst [.ref c.sa,.int k])
 | _=>False
def Rel.holds{i:Nat}{l:L}(R:Rel K c O ρ σ H)(h:ρ[i]? = some (some l))(ho:isOw l=true):∃ p,O i=some p/\σ[i]? = some (some (.ref p))/\Holds K c (live c O) H p l/\(∀ xs,l=.own xs->qb1k c p):=by
 cases l with
 | own xs=>obtain⟨p,vs,h1,h2,h3,h4,h5⟩:=R.own i xs h;exact⟨p,h1,h3,⟨vs,h4,h5⟩,fun _ _=>h2⟩
 | bor xs=>obtain⟨p,vs,h1,h3,h4,h5⟩:=R.bor i xs h;exact⟨p,h1,h3,⟨vs,h4,h5⟩,fun _ z=>nomatch z⟩
 | tape k=>obtain⟨p,h1,h3,h4⟩:=R.tap i k h;exact⟨p,h1,h3,h4,fun _ z=>nomatch z⟩
 | _=>cases ho
mutual
def AtD.inH(hs:∀ a,S a->H a ≠ none->S' a):∀ (d:PyData) (v:V),AtD K H S d v->AtD K H S' d v
 | .none,_,h=>by unfold AtD at h ⊢;exact h
 | .bool _,_,h=>by unfold AtD at h ⊢;exact h
 | .int _,_,h=>by unfold AtD at h ⊢;exact h
 | .str _,_,h=>by unfold AtD at h ⊢;exact h
 | .list ds,v,h=>by
  obtain⟨a,xs,e1,s,q,r⟩:=qa4b h;subst e1;exact qa2o (hs a s (by rw [q];exact fun z=>nomatch z)) q (qa0c.inH hs ds xs r)
 | .tuple ds,v,h=>by
  obtain⟨a,xs,e1,q,r⟩:=qa3d h;subst e1;exact qa4c q (qa0c.inH hs ds xs r)
 | .dict kvs,v,h=>by
  obtain⟨a,ν,e1,s,q,e2⟩:=qa8t h;subst e1;exact qa7n (hs a s (by rw [q];exact fun z=>nomatch z)) q (qa0f.inH hs kvs ν e2)
def qa0c.inH(hs:∀ a,S a->H a ≠ none->S' a):∀ (ds:List PyData) (vs:List V),qa0c K H S ds vs->qa0c K H S' ds vs
 | [],_,h=>by rw [h.unnil];exact .nil
 | d :: ds,vs,h=>by
  obtain⟨v,r,rfl,h1,h2⟩:=h.uncons;exact .cons (AtD.inH hs d v h1) (qa0c.inH hs ds r h2)
def qa0f.inH(hs:∀ a,S a->H a ≠ none->S' a):∀ (kvs:List 'l') (κ:List (Key × V)),qa0f K H S kvs κ->qa0f K H S' kvs κ
 | [],_,h=>by rw [h.unnil];exact .nil
 | (x,d) :: r,κ,h=>by
  obtain⟨k,v,t,rfl,rfl,h1,h2⟩:=h.uncons;exact .cons (AtD.inH hs d v h1) (qa0f.inH hs r t h2)
end
noncomputable def qa1o(O:Own)(ρ:Rho)(f:Lent):Own:=fun j=>(f j).bind fun i=>match ρ[i]?.join with
 | some l=>if isOw l then O i else none
 | none=>none
noncomputable def Rc.in(c:Rc)(O Oc:Own)(P:Addr->Prop)(b:Bool)(H:Hp):Rc:={ A:=fun p=>(∃ j,Oc j=some p) ∨ (b=true/\H p=none),H0:=H,S:=live c O,P:=P,M:=fun p=>∃ j,Oc j=some p,B:=fun p=>∃ j,Oc j=some p,lent:=Oc,sa:=c.sa,ns:=c.ns }
def qa2t{f:Lent}{j:Nat}{p:Addr}(h:qa1o O ρ f j=some p):∃ i l,f j=some i/\ρ[i]? = some (some l)/\isOw l=true/\O i=some p:=by
 unfold qa1o at h;cases e:f j with
 | none=>rw [e] at h;cases h
 | some i =>
  rw [e] at h;have h':(match ρ[i]?.join with | some l=>if isOw l then O i else none | none=>none)=some p:=h;split at h'
  ·rename_i l el
   split at h'
   ·rename_i ho
    exact⟨i,l,rfl,qa2p el,ho,h'⟩
   ·cases h'
  ·cases h'
def qb5b{f:Lent}{j i:Nat}{l:L}(e:f j=some i)(h:ρ[i]? = some (some l))(ho:isOw l=true):qa1o O ρ f j=O i:=by
 unfold qa1o;rw [e];show(match ρ[i]?.join with | some l=>if isOw l then O i else none | none=>none)=O i;rw [h];show(if isOw l then O i else none)=O i;rw [if_pos ho]
structure Begins(K:W.Frag)(c:Rc)(O:Own)(ρ:Rho)(σ:St)(H:Hp)(f:Lent)(ρi:Rho)(σi:St):Prop where
 io:∀ (j:Nat) (l:L),ρi[j]? = some (some l)->isOw l=true->∃ i l0,f j=some i/\ρ[i]? = some (some l0)/\isOw l0=true/\l=lend l0/\σi[j]? = σ[i]?
 dat:∀ (j:Nat) (x:PyData),ρi[j]? = some (some (.d x))->∃ v,σi[j]? = some (some v)/\AtD K H (live c O) x v
 scr:∀ j:Nat,ρi[j]? = some (some .scr)->σi[j]? = some (some (.ref c.sa))
 inj:∀ j k i,f j=some i->f k=some i->j=k
 len:σi.length=ρi.length
def Rel.begin{b:Bool}{f:Lent}{ρi:Rho}{σi:St}{P:Addr->Prop}{H':Hp}(R:Rel K c O ρ σ H)(B:Begins K c O ρ σ H f ρi σi)(hs:Same H H')(hP:∀ p,P p->H p=none/\H' p ≠ none) :
  Rel K (c.in O (qa1o O ρ f) P b H') (qa1o O ρ f) ρi σi H'/\Pers K (live c O) H (live (c.in O (qa1o O ρ f) P b H') (qa1o O ρ f)) H':=by
 have hl:∀ a,live c O a->H a ≠ none->live (c.in O (qa1o O ρ f) P b H') (qa1o O ρ f) a:=fun a h n=>⟨h,fun z=>n (hP a z).1,fun j e=>by
  obtain⟨i,l,_,_,_,e2⟩:=qa2t e;exact h.2.2 i e2⟩
 have P1:Pers K (live c O) H (live (c.in O (qa1o O ρ f) P b H') (qa1o O ρ f)) H':=fun d v h =>
  AtD.mono hs.keep _ _ (AtD.inH hl d v h)
 refine⟨⟨fun j x e=>?_,fun j xs e=>?_,fun j xs e=>?_,fun j k e=>?_,fun j e=>B.scr j e,fun j k p e1 e2=>?_,fun j p e=>?_,fun p hp=>hp.elim .inl fun z=>.inr z.2,fun p hp=>?_,fun b o _ q=>q,fun b n=>n,fun p h=>?_,fun p h=>?_,fun j p e l h1 h2=>e,?_,B.len⟩,P1⟩
 ·obtain⟨v,h1,h2⟩:=B.dat j x e
  exact⟨v,h1,P1 _ _ h2⟩
 ·obtain⟨i,l0,_,h2,h3,h4,_⟩:=B.io j _ e rfl
  cases l0<;>cases h4
 ·obtain⟨i,l0,h1,h2,h3,h4,h5⟩:=B.io j _ e rfl
  obtain⟨p,e1,e2,e3,_⟩:=R.holds h2 h3;have eO:qa1o O ρ f j=some p:=(qb5b h1 h2 h3).trans e1;cases l0 with
  | own ys=>cases h4;obtain⟨vs,e4,e5⟩:=e3;exact⟨p,vs,eO,by rw [h5];exact e2,hs _ _ e4,P1.all e5⟩
  | bor ys=>cases h4;obtain⟨vs,e4,e5⟩:=e3;exact⟨p,vs,eO,by rw [h5];exact e2,hs _ _ e4,P1.all e5⟩
  | _=>cases h4
 ·obtain⟨i,l0,h1,h2,h3,h4,h5⟩:=B.io j _ e rfl
  obtain⟨p,e1,e2,e3,_⟩:=R.holds h2 h3;have eO:qa1o O ρ f j=some p:=(qb5b h1 h2 h3).trans e1;cases l0 with
  | tape k0=>cases h4;exact⟨p,eO,by rw [h5];exact e2,hs _ _ e3⟩
  | _=>cases h4
 ·obtain⟨i1,_,f1,_,_,o1⟩:=qa2t e1
  obtain⟨i2,_,f2,_,_,o2⟩:=qa2t e2;have:=R.inj i1 i2 p o1 o2;subst this;exact B.inj j k i1 f1 f2
 ·obtain⟨i1,_,f1,_,_,o1⟩:=qa2t e
  obtain⟨_,vs,h⟩:=R.has i1 p o1;exact⟨.inl ⟨j,e⟩,vs,hs _ _ h⟩
 ·have hp':H p=none:=hs.free hp
  exact R.liveNew hp'
 ·obtain⟨j,e⟩:=h
  obtain⟨i1,_,f1,_,_,o1⟩:=qa2t e;obtain⟨_,vs,h⟩:=R.has i1 p o1;exact⟨vs,hs _ _ h⟩
 ·rcases h with h | ⟨j,e⟩
  ·exact(hP p h).2
  ·obtain⟨i1,_,f1,_,_,o1⟩:=qa2t e
   obtain⟨_,vs,h⟩:=R.has i1 p o1;rw [hs _ _ h];exact fun z=>nomatch z
 ·exact R.sc.keep (S:=Any) hs.keep
end
end
section
noncomputable def qa5y(ρi:Rho)(l0:L)(j:Nat):Option L:=(ρi[j]?.join).bind (qa8b l0)
noncomputable def qa4y(ρi:Rho)(j i:Nat)(ρ:Rho):Rho:=match ρ[i]?.join with
 | some l0=>if isOw l0 then ρ.set i (qa5y ρi l0 j) else ρ
 | none=>ρ
noncomputable def fills(ρi:Rho):List (Nat × Nat)->Rho->Rho
 | [],ρ=>ρ
 | (j,i) :: r,ρ=>fills ρi r (qa4y ρi j i ρ)
def qc0v{ρi ρ:Rho}{j i k:Nat}(h:k ≠ i):(qa4y ρi j i ρ)[k]? = ρ[k]?:=by
 unfold qa4y;split
 ·split
  ·exact getElem?_set_ne (Ne.symm h)
  ·rfl
 ·rfl
def qd3f{ρi ρ:Rho}{j i:Nat}{l0:L}(h:ρ[i]? = some (some l0))(ho:isOw l0=true):(qa4y ρi j i ρ)[i]? = some (qa5y ρi l0 j):=by
 have hi:i < ρ.length:=(List.getElem?_eq_some_iff.mp h).1;unfold qa4y;rw [h];show(if isOw l0 then ρ.set i (qa5y ρi l0 j) else ρ)[i]? = _;rw [if_pos ho,getElem?_set_self hi]
def qd3g{ρi ρ:Rho}{j i:Nat}(h:∀ l0,ρ[i]? = some (some l0)->isOw l0=false):qa4y ρi j i ρ=ρ:=by
 unfold qa4y;split
 ·rename_i l0 e
  rw [h l0 (qa2p e)];rfl
 ·rfl
def qd0s{ρi ρ:Rho}{j i:Nat}:(qa4y ρi j i ρ).length=ρ.length:=by
 unfold qa4y;split
 ·split
  ·rw [length_set]
  ·rfl
 ·rfl
def qb8v{ρi:Rho}:∀ {fl:List (Nat × Nat)} {ρ:Rho},(fills ρi fl ρ).length=ρ.length
 | [],_=>rfl
 | (j,i) :: r,ρ=>by unfold fills;rw [qb8v,qd0s]
def qa7c{ρi:Rho}:∀ {fl:List (Nat × Nat)} {ρ:Rho} {k:Nat},(∀ j,(j,k) ∈ fl->∀ l0,ρ[k]? = some (some l0)->isOw l0=false)->(fills ρi fl ρ)[k]? = ρ[k]?
 | [],_,_,_=>rfl
 | (j,i) :: r,ρ,k,h=>by
  unfold fills;by_cases hk:k=i
  ·subst hk
   have e:=qd3g (ρi:=ρi) (j:=j) (h j mem_cons_self);rw [e];exact qa7c fun j' m=>h j' (mem_cons_of_mem _ m)
  ·have e:=qc0v (ρi:=ρi) (ρ:=ρ) (j:=j) hk
   rw [qa7c (ρ:=qa4y ρi j i ρ) (fun j' m l0 q=>h j' (mem_cons_of_mem _ m) l0 (by rw [← e];exact q)),e]
def qc0w{ρi:Rho}:∀ {fl:List (Nat × Nat)} {ρ:Rho} {j i:Nat} {l0:L},(fl.map (·.2)).Nodup->(j,i) ∈ fl->ρ[i]? = some (some l0)->isOw l0=true->(fills ρi fl ρ)[i]? = some (qa5y ρi l0 j)
 | (j',i') :: r,ρ,j,i,l0,nd,m,h,ho=>by
  rw [map_cons,nodup_cons] at nd;unfold fills;rcases mem_cons.mp m with e | m2
  ·cases e
   rw [qa7c fun j2 m2=>absurd (mem_map.mpr ⟨(j2,_),m2,rfl⟩) nd.1];exact qd3f h ho
  ·have ne:i ≠ i':=by
    rintro rfl;exact nd.1 (mem_map.mpr ⟨(j,_),m2,rfl⟩)
   exact qc0w nd.2 m2 (by rw [qc0v ne];exact h) ho
section
variable{K:W.Frag}{c:Rc}{O:Own}{ρ:Rho}{σ:St}{H H':Hp}{S S':Addr->Prop}
def qc0x{l:L}(h:isIO l=true):isOw l=true:=by cases l<;>first | rfl | cases h
def Rel.finish{P':Addr->Prop}{fl:List (Nat × Nat)}{f:Lent}{ρi:Rho}{Oi:Own}{ci:Rc}{σi:St}(R:Rel K c O ρ σ H)(nd:(fl.map (·.2)).Nodup)(hf:∀ j i,(j,i) ∈ fl->f j=some i)(hf':∀ j i,f j=some i->(j,i) ∈ fl)
  (Ri:Rel K ci Oi ρi σi H') (hln:∀ j,ci.lent j=qa1o O ρ f j) (hsa:ci.sa=c.sa) (hns:ci.ns=c.ns)
  (fr:∀ b o,(∀ j,qa1o O ρ f j ≠ some b)->H b=some o->H' b=some o) (hk:∀ j p,qa1o O ρ f j=some p->∃ vs,H' p=some (.lst vs))
  (hP:Pers K (live ci Oi) H' (live { c with P:=P' } O) H') (hp:Pers K (live c O) H (live { c with P:=P' } O) H')
  (hP':∀ p,P' p->c.P p ∨ (H' p ≠ none/\∀ i,O i ≠ some p)):Rel K { c with P:=P' } O (fills ρi fl ρ) σ H':=by
 -- a slot is lent, or it is as it was
 have cases_:∀ i:Nat,(∃ j l0,(j,i) ∈ fl/\ρ[i]? = some (some l0)/\isOw l0=true/\(fills ρi fl ρ)[i]? = some (qa5y ρi l0 j)) ∨ ((fills ρi fl ρ)[i]? = ρ[i]? /\ ∀ p,O i=some p->(∃ l,ρ[i]? = some (some l)/\isOw l=true)->∀ j,qa1o O ρ f j ≠ some p):=fun i=>by
  by_cases h:∃ j l0,(j,i) ∈ fl/\ρ[i]? = some (some l0)/\isOw l0=true
  ·obtain⟨j,l0,h1,h2,h3⟩:=h
   exact .inl ⟨j,l0,h1,h2,h3,qc0w nd h1 h2 h3⟩
  ·refine .inr ⟨qa7c fun j m l0 q=>?_,fun p hO ⟨l,e1,e2⟩ j z=>?_⟩
   ·cases q2:isOw l0 with
    | false=>rfl
    | true=>exact absurd ⟨j,l0,m,q,q2⟩ h
   ·obtain⟨i2,l2,g1,g2,g3,g4⟩:=qa2t z
    have:=R.inj i2 i p g4 hO;subst this;exact h ⟨j,l2,hf' j _ g1,g2,g3⟩
 -- what a lent slot has now
 have lent_:∀ {i j:Nat} {l0 l:L},(j,i) ∈ fl->ρ[i]? = some (some l0)->isOw l0=true->qa5y ρi l0 j=some l->∃ p l',O i=some p/\σ[i]? = some (some (.ref p))/\isIO l'=true/\qa8b l0 l'=some l/\Holds K c (live { c with P:=P' } O) H' p l'/\(∀ xs,l0=.own xs->qb1k c p):=fun{i j l0 l} m h2 h3 e=>by
  obtain⟨p,e1,e2,e3,e4⟩:=R.holds h2 h3;unfold qa5y at e;cases el:ρi[j]?.join with
  | none=>rw [el] at e;cases e
  | some l' =>
   rw [el] at e;have e':qa8b l0 l'=some l:=e;have hio:isIO l'=true:=by cases l0<;>cases l'<;>first | rfl | cases e'
   have el':=qa2p el;have elent:ci.lent j=some p:=(hln j).trans ((qb5b (hf j i m) h2 h3).trans e1);have eO:=Ri.lnt j p elent l' el' hio;obtain⟨p',g1,_,g3,_⟩:=Ri.holds el' (qc0x hio);rw [eO] at g1;cases g1;refine⟨p,l',e1,e2,hio,e',?_,e4⟩;cases l' with
   | bor xs=>obtain⟨vs,q1,q2⟩:=g3;exact⟨vs,q1,hP.all q2⟩
   | tape k=>show H' p=_;rw [← hsa];exact g3
   | _=>cases hio
 have ok':∀ i p,O i=some p->qb1k c p->qb1k { c with P:=P' } p:=fun i p e h=>⟨h.1,h.2.1,fun z=>(hP' p z).elim h.2.2 fun w=>w.2 i e⟩;have stay:∀ i p o,O i=some p->(∃ l,ρ[i]? = some (some l)/\isOw l=true)->(∀ p,O i=some p->(∃ l,ρ[i]? = some (some l)/\isOw l=true)->∀ j,qa1o O ρ f j ≠ some p)->H p=some o->H' p=some o:=fun i p o e l n q=>fr p o (n p e l) q;refine⟨fun i x e=>?_,fun i xs e=>?_,fun i xs e=>?_,fun i k e=>?_,fun i e=>?_,R.inj,fun i p e=>⟨(R.has' i p e).1,?_⟩,R.am,R.frs,fun b o n q=>?_,fun b n=>?_,fun p h=>?_,fun p h=>?_,fun i p e l h1 h2=>?_,?_,?_⟩
 ·rcases cases_ i with⟨j,l0,m,h2,h3,h4⟩ | ⟨h1,_⟩
  ·rw [h4] at e
   obtain⟨p,l',_,_,hio,hl,_⟩:=lent_ m h2 h3 (Option.some.inj e);cases l'<;>first | (cases hio;done) | (cases l0<;>cases hl)
  ·rw [h1] at e
   obtain⟨v,e1,e2⟩:=R.dat i x e;exact⟨v,e1,hp _ _ e2⟩
 ·rcases cases_ i with⟨j,l0,m,h2,h3,h4⟩ | ⟨h1,h2⟩
  ·rw [h4] at e
   obtain⟨p,l',g1,g2,hio,hl,g3,g4⟩:=lent_ m h2 h3 (Option.some.inj e);cases l' with
   | bor ys =>
    cases l0 with
    | own zs=>cases hl;obtain⟨vs,q1,q2⟩:=g3;exact⟨p,vs,g1,ok' i p g1 (g4 _ rfl),g2,q1,q2⟩
    | _=>cases hl
   | tape k=>cases l0<;>cases hl
   | _=>cases hio
  ·rw [h1] at e
   obtain⟨p,vs,g1,g2,g3,g4,g5⟩:=R.own i xs e;exact⟨p,vs,g1,ok' i p g1 g2,g3,stay i p _ g1 ⟨_,e,rfl⟩ h2 g4,hp.all g5⟩
 ·rcases cases_ i with⟨j,l0,m,h2,h3,h4⟩ | ⟨h1,h2⟩
  ·rw [h4] at e
   obtain⟨p,l',g1,g2,hio,hl,g3,g4⟩:=lent_ m h2 h3 (Option.some.inj e);cases l' with
   | bor ys =>
    cases l0<;>cases hl<;>(obtain⟨vs,q1,q2⟩:=g3;exact⟨p,vs,g1,g2,q1,q2⟩)
   | tape k=>cases l0<;>cases hl
   | _=>cases hio
  ·rw [h1] at e
   obtain⟨p,vs,g1,g3,g4,g5⟩:=R.bor i xs e;exact⟨p,vs,g1,g3,stay i p _ g1 ⟨_,e,rfl⟩ h2 g4,hp.all g5⟩
 ·rcases cases_ i with⟨j,l0,m,h2,h3,h4⟩ | ⟨h1,h2⟩
  ·rw [h4] at e
   obtain⟨p,l',g1,g2,hio,hl,g3,g4⟩:=lent_ m h2 h3 (Option.some.inj e);cases l' with
   | bor ys=>cases l0<;>cases hl
   | tape k2=>cases l0<;>cases hl<;>exact⟨p,g1,g2,g3⟩
   | _=>cases hio
  ·rw [h1] at e
   obtain⟨p,g1,g3,g4⟩:=R.tap i k e;exact⟨p,g1,g3,stay i p _ g1 ⟨_,e,rfl⟩ h2 g4⟩
 ·rcases cases_ i with⟨j,l0,m,h2,h3,h4⟩ | ⟨h1,h2⟩
  ·rw [h4] at e
   obtain⟨p,l',g1,g2,hio,hl,g3,g4⟩:=lent_ m h2 h3 (Option.some.inj e);cases l'<;>first | (cases hio;done) | (cases l0<;>cases hl)
  ·rw [h1] at e;exact R.scr i e
 ·obtain⟨_,vs,q⟩:=R.has i p e
  by_cases hlt:∃ j,qa1o O ρ f j=some p
  ·obtain⟨j,hj⟩:=hlt;exact hk j p hj
  ·exact⟨vs,fr p _ (fun j z=>hlt ⟨j,z⟩) q⟩
 ·refine fr b o (fun j z=>?_) (R.same b o n q)
  obtain⟨i,l,_,_,_,hO⟩:=qa2t z;rcases (R.has i b hO).1 with w | w
  ·exact n w
  ·rw [w] at q;cases q
 ·have n':=R.kept b n
  by_cases hlt:∃ j,qa1o O ρ f j=some b
  ·obtain⟨j,hj⟩:=hlt
   obtain⟨vs,q⟩:=hk j b hj;rw [q];exact fun z=>nomatch z
  ·cases q:H b with
   | none=>exact absurd q n'
   | some o=>rw [fr b o (fun j z=>hlt ⟨j,z⟩) q];exact fun z=>nomatch z
 ·obtain⟨vs,q⟩:=R.ml p h
  by_cases hlt:∃ j,qa1o O ρ f j=some p
  ·obtain⟨j,hj⟩:=hlt;exact hk j p hj
  ·exact⟨vs,fr p _ (fun j z=>hlt ⟨j,z⟩) q⟩
 ·have fin:∀ q,(c.P q ∨ c.B q)->H' q ≠ none:=fun q hq=>by
   have n':=R.pin q hq;by_cases hlt:∃ j,qa1o O ρ f j=some q
   ·obtain⟨j,hj⟩:=hlt
    obtain⟨vs,q⟩:=hk j q hj;rw [q];exact fun z=>nomatch z
   ·cases q2:H q with
    | none=>exact absurd q2 n'
    | some o=>rw [fr q o (fun j z=>hlt ⟨j,z⟩) q2];exact fun z=>nomatch z
  rcases h with h | h
  ·rcases hP' p h with w | w
   ·exact fin p (.inl w)
   ·exact w.1
  ·exact fin p (.inr h)
 ·rcases cases_ i with⟨j,l0,m,h3,h4,h5⟩ | ⟨h3,h4⟩
  ·rw [h5] at h1
   obtain⟨p',l',g1,g2,hio,hl,g3,g4⟩:=lent_ m h3 h4 (Option.some.inj h1);cases l0 with
   | own zs=>cases l'<;>cases hl;cases h2
   | bor zs=>exact R.lnt i p e _ h3 rfl
   | tape k=>exact R.lnt i p e _ h3 rfl
   | _=>cases h4
  ·rw [h3] at h1;exact R.lnt i p e l h1 h2
 ·have:=Ri.sc
  rw [hsa,hns] at this;exact this
 ·rw [qb8v];exact R.len
end
end
section
abbrev DSp:=List L->(RV->Rho->Prop)->Prop
noncomputable def mask:List L->Rho->Rho
 | [],_=>[]
 | l :: ls,ρ=>(if isIO l then ρ.head?.join else none) :: mask ls ρ.tail
noncomputable def qb6l(N:List Str)(ls:List L):Rho:=ls.map some ++ List.replicate (N.length - ls.length) none
def spD(K:W.Frag)(ds:DSp):Sp:=fun vs H Q _=>∃ (c:Rc) (O:Own) (ls:List L) (Qd:RV->Rho->Prop),c.H0=H/\(∀ p,¬ c.P p)/\(∀ p,c.M p->c.B p)/\(∀ p,c.H0 p=none->c.A p)/\(∀ i,c.lent i=O i)/\Rel K c O (ls.map some) (vs.map some) H/\ds ls Qd /\
 ∀ r O' ρ' σ' v H',Qd r (mask ls ρ')->RetOk K c O' ρ' σ' H' r v->Q v H'
section
variable{K:W.Frag}{c:Rc}{O:Own}{ρ:Rho}{σ:St}{H H':Hp}{S S':Addr->Prop}
def Rel.more{n:Nat}(R:Rel K c O ρ σ H):Rel K c O (ρ ++ List.replicate n none) (σ ++ List.replicate n none) H:=by
 have at_:∀ {i:Nat} {l:L},(ρ ++ List.replicate n none)[i]? = some (some l)->ρ[i]? = some (some l):=fun{i l} e=>by
  by_cases hi:i < ρ.length
  ·rwa [List.getElem?_append_left hi] at e
  ·rw [getElem?_append_right 'o',List.getElem?_replicate] at e
   split at e<;>cases e
 have st:∀ {i:Nat} {v:V},σ[i]? = some (some v)->(σ ++ List.replicate n none)[i]? = some (some v):=fun{i v} e=>by
  rw [List.getElem?_append_left (List.getElem?_eq_some_iff.mp e).1];exact e
 refine⟨fun i x e=>?_,fun i xs e=>?_,fun i xs e=>?_,fun i k e=>?_,fun i e=>st (R.scr i (at_ e)),R.inj,R.has',R.am,R.frs,R.same,R.kept,R.ml,R.pin,fun i p e l h1 h2=>R.lnt i p e l (at_ h1) h2,R.sc,?_⟩
 ·obtain⟨v,h1,h2⟩:=R.dat i x (at_ e);exact⟨v,st h1,h2⟩
 ·obtain⟨p,vs,h1,h2,h3,h4⟩:=R.own i xs (at_ e);exact⟨p,vs,h1,h2,st h3,h4⟩
 ·obtain⟨p,vs,h1,h3,h4⟩:=R.bor i xs (at_ e);exact⟨p,vs,h1,st h3,h4⟩
 ·obtain⟨p,h1,h3,h4⟩:=R.tap i k (at_ e);exact⟨p,h1,st h3,h4⟩
 ·rw [length_append,length_append,R.len,length_replicate,length_replicate]
end
section
variable{P:Program}{w:World}{K:W.Frag}{mg:Str->Option Value}{base:Heap}
def Fun.dok{x qual:Str}{st:Stmt}{f:Addr}{fd:FuncData}{N ps:List Str}{k:Nat}{ds:DSp}(F:Fun K x qual st f fd)(S:FnScope N ps (qa0l st))
  (hbody:∀ (cdv:Value) (A:Around) (outer:List Env) (s:Shared) (H:Hp) (E:XK),Room k (A.deeper (envOfC qual (qa0l st) s.heap.objs.size f cdv)) ->
   ∀ (ls:List L) (Qd:RV->Rho->Prop),ds ls Qd->ls.length=ps.length/\∃ dt,DSs (cxOf CX0 P w K mg base N qual (qa0l st) f cdv A outer s H E).nox (qa4q st) dt/\dt { nx:=fun ρ=>Qd (.d .none) (mask ls ρ),rt:=fun r ρ=>Qd r (mask ls ρ) } (qb6l N ls)) (len:∀ ls Qd,ds ls Qd->ls.length=ps.length):FnOk P w K mg base CX0 (k + 1) f fd ps (spD K ds):=by
 refine F.ok S (fun vs H Q E h=>?_) (fun cdv A outer s H vs Q E hr h=>?_)
 ·obtain⟨c,O,ls,Qd,_,_,_,_,_,R,h1,_⟩:=h
  have:=R.len;rw [length_map,length_map] at this;rw [this];exact len ls Qd h1
 ·obtain⟨c,O,ls,Qd,h0,hP,hM,hA,hL,R,h1,fin⟩:=h
  obtain⟨hl,dt,⟨t,p,a⟩,q⟩:=hbody cdv A outer s H E hr ls Qd h1;have hlv:vs.length=ls.length:=by have:=R.len;rwa [length_map,length_map] at this
  refine⟨t,p,a c O (qb6l N ls) (start N vs) H _ { nx:=fun ρ=>Qd (.d .none) (mask ls ρ),rt:=fun r ρ=>Qd r (mask ls ρ) } ?_ ⟨fun O1 ρ1 σ1 H1 R1 _ q1=>?_,fun r O1 ρ1 σ1 H1 v h q1=>?_,fun _ _ _ _ _ _ z=>(show False from z).elim,fun _ _ _ _ _ _ z=>(show False from z).elim,hM,hA⟩ q⟩
  ·unfold qb6l start
   rw [hlv];exact R.more
  ·exact fin (.d .none) O1 ρ1 σ1 .non H1 q1 ⟨R1,qa9g⟩
  ·exact fin r O1 ρ1 σ1 v H1 q1 h
end
def fzL(ρ:Rho)(x:DV)(Q:L->Rho->Prop):Prop:=match x with
 | .d y=>Q (.d y) ρ
 | .sl i=>match ρ[i]?.join with
  | some (.d y)=>Q (.d y) ρ
  | some (.own xs)=>Q (.d (.list xs)) (ρ.set i (some (.d (.list xs))))
  | some .scr=>Q .scr ρ
  | _=>False
noncomputable def ioAt(ρ:Rho)(i:Nat):Option L:=match ρ[i]?.join with
 | some l=>if isOw l then some (lend l) else none
 | none=>none
noncomputable def pass:List Bool->List DV->Rho->(List L->Rho->Prop)->Prop
 | [],[],ρ,Q=>Q [] ρ
 | false :: fs,x :: xs,ρ,Q=>fzL ρ x fun l ρ1=>pass fs xs ρ1 fun ls ρ2=>Q (l :: ls) ρ2
 | true :: fs,.sl i :: xs,ρ,Q=>pass fs xs ρ fun ls ρ2=>need (ioAt ρ2 i) fun l=>Q (l :: ls) ρ2
 | _,_,_,_=>False
noncomputable def qa2f:List Bool->List DV->Lent
 | true :: _,.sl i :: _,0=>some i
 | _ :: fs,_ :: xs,j + 1=>qa2f fs xs j
 | _,_,_=>none
noncomputable def flOf:Nat->List Bool->List DV->List (Nat × Nat)
 | j,true :: fs,.sl i :: xs=>(j,i) :: flOf (j + 1) fs xs
 | j,true :: fs,.d _ :: xs=>flOf (j + 1) fs xs
 | j,false :: fs,_ :: xs=>flOf (j + 1) fs xs
 | _,_,_=>[]
def qb1n{fs:List Bool}:∀ {xs:List DV} {j0 j i:Nat},(j,i) ∈ flOf j0 fs xs ↔ ∃ k,j=j0 + k/\qa2f fs xs k=some i:=by
 induction fs with
 | nil =>
  intro xs j0 j i;have e1:flOf j0 [] xs=[]:=by cases xs<;>rfl
  have e2:∀ k,qa2f [] xs k=none:=fun k=>by cases xs<;>cases k<;>rfl
  rw [e1];exact⟨fun h=>absurd h (not_mem_nil),fun hq8=>by obtain⟨k,_,h⟩:=hq8;rw [e2] at h;cases h⟩
 | cons f fs ih =>
  intro xs j0 j i;cases xs with
  | nil =>
   have e1:flOf j0 (f :: fs) []=[]:=by cases f<;>rfl
   have e2:∀ k,qa2f (f :: fs) [] k=none:=fun k=>by cases f<;>cases k<;>rfl
   rw [e1];exact⟨fun h=>absurd h (not_mem_nil),fun hq8=>by obtain⟨k,_,h⟩:=hq8;rw [e2] at h;cases h⟩
  | cons x xs =>
   have step:(∃ k,j=j0 + 1 + k/\qa2f fs xs k=some i)->∃ k,j=j0 + k/\qa2f (f :: fs) (x :: xs) k=some i:=fun hq8=>by obtain⟨k,e1,e2⟩:=hq8;exact⟨k + 1,'o',by cases f<;>cases x<;>exact e2⟩
   have back:∀ k,j=j0 + (k + 1)->qa2f (f :: fs) (x :: xs) (k + 1)=some i->∃ k,j=j0 + 1 + k/\qa2f fs xs k=some i:=fun k e1 e2=>⟨k,'o',by cases f<;>cases x<;>exact e2⟩;cases f with
   | false =>
    have e:flOf j0 (false :: fs) (x :: xs)=flOf (j0 + 1) fs xs:=by cases x<;>rfl
    rw [e,ih];refine⟨step,fun hq8=>?_⟩;obtain⟨k,e1,e2⟩:=hq8;cases k with
    | zero=>cases x<;>cases e2
    | succ k=>exact back k e1 e2
   | true =>
    cases x with
    | d y =>
     show(j,i) ∈ flOf (j0 + 1) fs xs ↔ _;rw [ih];refine⟨step,fun hq8=>?_⟩;obtain⟨k,e1,e2⟩:=hq8;cases k with
     | zero=>cases e2
     | succ k=>exact back k e1 e2
    | sl i0 =>
     show(j,i) ∈ (j0,i0) :: flOf (j0 + 1) fs xs ↔ _;rw [mem_cons,ih];constructor
     ·rintro(e | h)
      ·cases e;exact⟨0,rfl,rfl⟩
      ·exact step h
     ·rintro⟨k,e1,e2⟩
      cases k with
      | zero =>
       have e3:some i0=some i:=e2;cases e3;exact .inl (by rw [e1];rfl)
      | succ k=>exact .inr (back k e1 e2)
inductive Args (K:W.Frag) (S:Addr->Prop) (sa:Addr) (ρ:Rho) (σ:St) (H:Hp):List Bool->List DV->List L->List V->Prop where
 | nil:Args K S sa ρ σ H [] [] [] []
 | dat {fs xs ls vs x y v}:AtD K H S y v->Args K S sa ρ σ H fs xs ls vs->Args K S sa ρ σ H (false :: fs) (x :: xs) (.d y :: ls) (v :: vs)
 | scr {fs xs ls vs x}:Args K S sa ρ σ H fs xs ls vs->Args K S sa ρ σ H (false :: fs) (x :: xs) (.scr :: ls) (.ref sa :: vs)
 | io {fs xs ls vs v} {i:Nat} {l0:L}:ρ[i]? = some (some l0)->isOw l0=true->σ[i]? = some (some v)->Args K S sa ρ σ H fs xs ls vs->Args K S sa ρ σ H (true :: fs) (.sl i :: xs) (lend l0 :: ls) (v :: vs)
section
variable{K:W.Frag}{c:Rc}{O:Own}{ρ:Rho}{σ:St}{H H':Hp}{S S':Addr->Prop}
def Rel.fzL{x:DV}{v:V}{Q:L->Rho->Prop}(R:Rel K c O ρ σ H)(a:AtV K (live c O) σ H x v)(h:fzL ρ x Q):∃ l ρ' O',Q l ρ'/\Rel K c O' ρ' σ H/\Pers K (live c O) H (live c O') H/\((∃ y,l=.d y/\AtD K H (live c O') y v) ∨ (l=.scr/\v=.ref c.sa)):=by
 cases x with
 | d y=>exact⟨.d y,ρ,O,h,R,.refl,.inl ⟨y,rfl,a⟩⟩
 | sl i =>
  have a':σ[i]? = some (some v):=a;simp only [L2.fzL] at h;split at h
  ·rename_i y e
   obtain⟨w,h1,h2⟩:=R.dat i y (qa2p e);rw [a'] at h1;cases h1;exact⟨.d y,ρ,O,h,R,.refl,.inl ⟨y,rfl,h2⟩⟩
  ·rename_i xs e
   have e':=qa2p e;obtain⟨R',P⟩:=R.freeze e';have hi:i < ρ.length:=(List.getElem?_eq_some_iff.mp e').1;obtain⟨w,h1,h2⟩:=R'.dat i (.list xs) (by rw [getElem?_set_self hi]);rw [a'] at h1;cases h1;exact⟨_,_,_,h,R',P,.inl ⟨_,rfl,h2⟩⟩
  ·rename_i e
   have:=R.scr i (qa2p e);rw [a'] at this;cases this;exact⟨_,ρ,O,h,R,.refl,.inr ⟨rfl,rfl⟩⟩
  ·exact h.elim
def pass_ok{fs:List Bool}:∀ {xs:List DV} {vs:List V} {ρ:Rho} {O:Own} {Q:List L->Rho->Prop},Rel K c O ρ σ H->AtVs K (live c O) σ H xs vs->pass fs xs ρ Q ->
  ∃ ls ρ' O',Q ls ρ'/\Rel K c O' ρ' σ H/\Pers K (live c O) H (live c O') H/\Args K (live c O') c.sa ρ' σ H fs xs ls vs:=by
 induction fs with
 | nil =>
  intro xs vs ρ O Q R a h;cases xs with
  | nil=>cases a;exact⟨[],ρ,O,h,R,.refl,.nil⟩
  | cons _ _=>exact(show False from h).elim
 | cons f fs ih =>
  intro xs vs ρ O Q R a h;cases xs with
  | nil=>cases f<;>exact(show False from h).elim
  | cons x xs =>
   cases a with
   | @cons _ _ v vs a as =>
   cases f with
   | false =>
    have h':L2.fzL ρ x fun l ρ1=>pass fs xs ρ1 fun ls ρ2=>Q (l :: ls) ρ2:=h;obtain⟨l,ρ1,O1,h1,R1,P1,a1⟩:=R.fzL a h';obtain⟨ls,ρ2,O2,h2,R2,P2,a2⟩:=ih R1 (AtVs.pers as P1) h1;refine⟨l :: ls,ρ2,O2,h2,R2,P1.trans P2,?_⟩;rcases a1 with⟨y,rfl,a1⟩ | ⟨rfl,rfl⟩
    ·exact .dat (P2 _ _ a1) a2
    ·exact .scr a2
   | true =>
    cases x with
    | d y=>exact(show False from h).elim
    | sl i =>
     have h':pass fs xs ρ fun ls ρ2=>need (ioAt ρ2 i) fun l=>Q (l :: ls) ρ2:=h;obtain⟨ls,ρ2,O2,hz1,R2,P2,a2⟩:=ih R as h';obtain⟨l,e,h2⟩:=ne (hz1);refine⟨l :: ls,ρ2,O2,h2,R2,P2,?_⟩;unfold ioAt at e;split at e
     ·rename_i l0 el
      split at e
      ·rename_i ho
       cases e
       exact .io (qa2p el) ho a a2
      ·cases e
     ·cases e
def Args.begins{fs:List Bool}{xs:List DV}{ls:List L}{vs:List V}(a:Args K (live c O) c.sa ρ σ H fs xs ls vs)(inj:∀ j k i,qa2f fs xs j=some i->qa2f fs xs k=some i->j=k) :
  Begins K c O ρ σ H (qa2f fs xs) (ls.map some) (vs.map some):=by
 refine⟨?_,?_,?_,inj,?_⟩
 ·clear inj
  induction a with
  | nil=>intro j l e;simp at e
  | dat h _ ih =>
   intro j l e ho;cases j with
   | zero=>cases e;cases ho
   | succ j=>obtain⟨i,l0,h1,h2⟩:=ih j l (by simpa using e) ho;exact⟨i,l0,h1,by simpa using h2⟩
  | scr _ ih =>
   intro j l e ho;cases j with
   | zero=>cases e;cases ho
   | succ j=>obtain⟨i,l0,h1,h2⟩:=ih j l (by simpa using e) ho;exact⟨i,l0,h1,by simpa using h2⟩
  | @io fs xs ls vs v i l0 h1 h2 h3 _ ih =>
   intro j l e ho;cases j with
   | zero=>cases e;exact⟨i,l0,rfl,h1,h2,rfl,by simpa using h3.symm⟩
   | succ j=>obtain⟨i,l0,h1,h2⟩:=ih j l (by simpa using e) ho;exact⟨i,l0,h1,by simpa using h2⟩
 ·clear inj
  induction a with
  | nil=>intro j x e;simp at e
  | dat h _ ih =>
   intro j x e;cases j with
   | zero=>cases e;exact⟨_,rfl,h⟩
   | succ j=>obtain⟨v,h1,h2⟩:=ih j x (by simpa using e);exact⟨v,by simpa using h1,h2⟩
  | scr _ ih =>
   intro j x e;cases j with
   | zero=>cases e
   | succ j=>obtain⟨v,h1,h2⟩:=ih j x (by simpa using e);exact⟨v,by simpa using h1,h2⟩
  | @io fs xs ls vs v i l0 h1 h2 h3 _ ih =>
   intro j x e;cases j with
   | zero=>cases l0<;>first | (cases h2;done) | cases e
   | succ j=>obtain⟨v,h1,h2⟩:=ih j x (by simpa using e);exact⟨v,by simpa using h1,h2⟩
 ·clear inj
  induction a with
  | nil=>intro j e;simp at e
  | dat h _ ih =>
   intro j e;cases j with
   | zero=>cases e
   | succ j=>have:=ih j (by simpa using e);simpa using this
  | scr _ ih =>
   intro j e;cases j with
   | zero=>rfl
   | succ j=>have:=ih j (by simpa using e);simpa using this
  | @io fs xs ls vs v i l0 h1 h2 h3 _ ih =>
   intro j e;cases j with
   | zero=>cases l0<;>first | (cases h2;done) | cases e
   | succ j=>have:=ih j (by simpa using e);simpa using this
 ·clear inj
  rw [length_map,length_map];induction a with
  | nil=>rfl
  | dat _ _ ih=>simp [ih]
  | scr _ ih=>simp [ih]
  | io _ _ _ _ ih=>simp [ih]
def Args.mask{fs:List Bool}{xs:List DV}{ls:List L}{vs:List V}(a:Args K (live c O) c.sa ρ σ H fs xs ls vs):∀ (ρ':Rho) {j i:Nat},qa2f fs xs j=some i->(L2.mask ls ρ')[j]?.join=ρ'[j]?.join:=by
 have hd:∀ ρ':Rho,ρ'.head?.join=ρ'[0]?.join:=fun ρ'=>by cases ρ'<;>rfl
 have tl:∀ (ρ':Rho) (j:Nat),ρ'.tail[j]? = ρ'[j + 1]?:=fun ρ' j=>by cases ρ'<;>simp
 induction a with
 | nil=>intro ρ' j i e;cases e
 | dat h _ ih =>
  intro ρ' j i e;cases j with
  | zero=>cases e
  | succ j =>
   have:=ih ρ'.tail (j:=j) (i:=i) e;rw [tl] at this;rw [← this];simp [L2.mask]
 | scr _ ih =>
  intro ρ' j i e;cases j with
  | zero=>cases e
  | succ j =>
   have:=ih ρ'.tail (j:=j) (i:=i) e;rw [tl] at this;rw [← this];simp [L2.mask]
 | @io fs xs ls vs v i0 l0 h1 h2 h3 _ ih =>
  intro ρ' j i e;cases j with
  | zero =>
   have hio:isIO (lend l0)=true:=by cases l0<;>first | rfl | cases h2
   simp only [L2.mask,hio,if_true,List.getElem?_cons_zero];show ρ'.head?.join=_;exact hd ρ'
  | succ j =>
   have:=ih ρ'.tail (j:=j) (i:=i) e;rw [tl] at this;rw [← this];simp [L2.mask]
end
def qb4n{ρi ρj:Rho}:∀ {fl:List (Nat × Nat)} {ρ:Rho},(∀ j i,(j,i) ∈ fl->ρi[j]?.join=ρj[j]?.join)->fills ρi fl ρ=fills ρj fl ρ
 | [],_,_=>rfl
 | (j,i) :: r,ρ,h=>by
  have e:qa4y ρi j i ρ=qa4y ρj j i ρ:=by
   unfold qa4y qa5y;rw [h j i mem_cons_self]
  unfold fills;rw [e];exact qb4n fun j' i' m=>h j' i' (mem_cons_of_mem _ m)
def dCall(fs:List Bool)(sp:DSp)(da:TDA)(ρ:Rho)(Q:RV->Rho->Prop):Prop:=da ρ fun xs ρ1=>pass fs xs ρ1 fun ls ρ2=>((flOf 0 fs xs).map (·.2)).Nodup/\sp ls fun r outs=>Q r (fills outs (flOf 0 fs xs) ρ2)
def qc0y(fs:List Bool)(sp:DSp)(da:TDA):TDE:=fun ρ Q=>dCall fs sp da ρ fun r ρ1=>match r with
 | .d x=>Q (.d x) ρ1
 | .new xs=>Q (.d (.list xs)) ρ1
section
variable{K:W.Frag}{c:Rc}{O:Own}{ρ:Rho}{σ:St}{H H':Hp}{S S':Addr->Prop}
def qd0t{fs:List Bool}{xs:List DV}(nd:((flOf 0 fs xs).map (·.2)).Nodup):∀ j k i,qa2f fs xs j=some i->qa2f fs xs k=some i->j=k:=fun j k i e1 e2=>by
 have m1:(j,i) ∈ flOf 0 fs xs:=qb1n.mpr ⟨j,'o',e1⟩;have m2:(k,i) ∈ flOf 0 fs xs:=qb1n.mpr ⟨k,'o',e2⟩;exact congrArg Prod.fst (key _ nd m1 m2 rfl)
where
 key:∀ (l:List (Nat × Nat)) {a b:Nat × Nat},(l.map (·.2)).Nodup->a ∈ l->b ∈ l->a.2=b.2->a=b:=fun l=>by
  induction l with
  | nil=>intro a b _ h;cases h
  | cons x l ih =>
   intro a b nd ha hb e;rw [map_cons,nodup_cons] at nd;rcases mem_cons.mp ha with ea | ha2<;>rcases mem_cons.mp hb with eb | hb2
   ·rw [ea,eb]
   ·exact absurd (mem_map.mpr ⟨b,hb2,by rw [← e,ea]⟩) nd.1
   ·exact absurd (mem_map.mpr ⟨a,ha2,by rw [e,eb]⟩) nd.1
   ·exact ih nd.2 ha2 hb2 e
def qc8g{fs:List Bool}{sp:DSp}{ta:TA}{da:TDA}(ha:∀ (Qa:List DV->Rho->Prop) (Qv:List V->Hp->Prop),da ρ Qa->(∀ xs ρ1 O1 vs H1,Qa xs ρ1->Rel K c O1 ρ1 σ H1->Pers K (live c O) H (live c O1) H1->AtVs K (live c O1) σ H1 xs vs->Qv vs H1)->ta σ H Qv)
  {Qd:RV->Rho->Prop} {Q:VK} (h:dCall fs sp da ρ Qd)
  (k:∀ r ρ' O' v H',Qd r ρ'->RetOk K c O' ρ' σ H' r v->Pers K (live c O) H (match r with | .d _=>live c O' | .new _=>fun a=>live c O' a/\v ≠ .ref a) H'->Q v H'):tCall (spD K sp) [] E0 ta σ H Q:=by
 refine ha _ _ h fun xs ρ1 O1 vs H1 h1 R1 P1 a1=>?_;obtain⟨ls,ρ2,O2,⟨nd,h2⟩,R2,P2,as⟩:=pass_ok R1 a1 h1;have inj:=qd0t nd;obtain⟨Ri,Pi⟩:=R2.begin (b:=true) (P:=fun _=>False) (H':=H1) (as.begins inj) (Same.refl _) (fun p z=>z.elim);rw [append_nil];have hf:∀ j i,(j,i) ∈ flOf 0 fs xs->qa2f fs xs j=some i:=fun j i m=>by
  obtain⟨k,e1,e2⟩:=qb1n.mp m;have:j=k:=by omega
  subst this;exact e2
 have hf':∀ j i,qa2f fs xs j=some i->(j,i) ∈ flOf 0 fs xs:=fun j i e=>qb1n.mpr ⟨j,'o',e⟩;refine⟨c.in O2 (qa1o O2 ρ2 (qa2f fs xs)) (fun _=>False) true H1,qa1o O2 ρ2 (qa2f fs xs),ls,_,rfl,fun p z=>z,fun p z=>z,fun p z=>.inr ⟨rfl,z⟩,fun i=>rfl,Ri,h2,fun r O' ρ' σ' v H' q ok=>?_⟩;have ef:fills (mask ls ρ') (flOf 0 fs xs) ρ2=fills ρ' (flOf 0 fs xs) ρ2:=qb4n fun j i m=>as.mask ρ' (hf j i m);rw [ef] at q;have P12:=P1.trans P2;have lentM:∀ {b:Addr},(∃ j,qa1o O2 ρ2 (qa2f fs xs) j=some b)->∃ vs,H1 b=some (.lst vs):=fun hq8=>by
  obtain⟨j,e⟩:=hq8;obtain⟨i,_,_,_,_,hO⟩:=qa2t e;exact(R2.has i _ hO).2
 have hsame:∀ {ci:Rc},Rel K ci O' ρ' σ' H'->ci.H0=H1->(∀ p,ci.M p->∃ j,qa1o O2 ρ2 (qa2f fs xs) j=some p)->(∀ b o,(∀ j,qa1o O2 ρ2 (qa2f fs xs) j ≠ some b)->H1 b=some o->H' b=some o):=fun{ci} Rf h0 hM b o n q=>by
  refine Rf.same b o (fun z=>?_) (by rw [h0];exact q);obtain⟨j,e⟩:=hM b z;exact n j e
 have keep:(∀ b o,(∀ j,qa1o O2 ρ2 (qa2f fs xs) j ≠ some b)->H1 b=some o->H' b=some o)->Keep (live c O2) H1 H':=fun fr =>
  ⟨fun b ws e=>fr b _ (fun j z=>by obtain⟨vs,w⟩:=lentM ⟨j,z⟩;rw [e] at w;cases w) e,fun b o u e=>fr b _ (fun j z=>by obtain⟨vs,w⟩:=lentM ⟨j,z⟩;rw [e] at w;cases w) e,
   fun b ws hl e=>fr b _ (fun j z=>by obtain⟨i,_,_,_,_,hO⟩:=qa2t z;exact hl.2.2 i hO) e⟩
 cases r with
 | d x =>
  obtain⟨Rf,ax⟩:=ok;have fr:=hsame Rf rfl (fun p z=>z);have hl:∀ a,live (c.in O2 (qa1o O2 ρ2 (qa2f fs xs)) (fun _=>False) true H1) O' a->live c O2 a:=fun a z=>z.1;have hp:Pers K (live c O2) H1 (live c O2) H':=.of (keep fr) fun _ z=>z;have hP:Pers K (live (c.in O2 (qa1o O2 ρ2 (qa2f fs xs)) (fun _=>False) true H1) O') H' (live c O2) H':=.of (Keep.refl _ _) hl;have Rn:=R2.finish (P':=c.P) nd hf hf' Rf (fun _=>rfl) rfl rfl fr (fun j p e=>Rf.ml p ⟨j,e⟩) hP hp (fun p z=>.inl z);exact k (.d x) _ O2 v H' q ⟨Rn,hP _ _ ax⟩ (P12.trans hp)
 | new ys =>
  obtain⟨p,ws,rfl,Rf,ff,hH,ax⟩:=ok;have fr:=hsame Rf rfl (fun p z=>z);have h1p:H1 p=none:=ff.1;have hl:∀ a,live ((c.in O2 (qa1o O2 ρ2 (qa2f fs xs)) (fun _=>False) true H1).add p) O' a->live (c.add p) O2 a:=fun a z=>by
   have z1:live c O2 a:=z.1;exact qb1l z1 fun e=>z.2.1 (.inr e)
  have hp:Pers K (live c O2) H1 (live (c.add p) O2) H':=fun d u h=>by
   refine AtD.mono (S:=live (c.add p) O2) ((keep fr).less fun b z=>(qa5v z).1) _ _ (AtD.less h1p (fun a z n=>qb1l z n) _ _ h)
  have hP:Pers K (live ((c.in O2 (qa1o O2 ρ2 (qa2f fs xs)) (fun _=>False) true H1).add p) O') H' (live (c.add p) O2) H':=.of (Keep.refl _ _) hl;have fp:=qb4z R2 h1p;have Rn:Rel K (c.add p) O2 (fills ρ' (flOf 0 fs xs) ρ2) σ H':=R2.finish (P':=fun a=>c.P a ∨ a=p) nd hf hf' Rf (fun _=>rfl) rfl rfl fr (fun j q e=>Rf.ml q ⟨j,e⟩) hP hp (fun q z=>z.elim .inl fun e=>.inr (by subst e;exact⟨by rw [hH];exact 'n',fp.2.2.2⟩));refine k (.new ys) _ O2 _ H' q ⟨p,ws,rfl,Rn,fp,hH,hP.all ax⟩ ((P12.trans hp).trans (.of (Keep.refl _ _) fun a z=>⟨(qa5v z).1,fun e=>(qa5v z).2 (by cases e;rfl)⟩))
def qd0u{fs:List Bool}{sp:DSp}{ta:TA}{da:TDA}(ha:AdA K ta da)(R:Rel K c O ρ σ H){Qd:RV->Rho->Prop}{Q:VK}(h:dCall fs sp da ρ Qd)
  (k:∀ r ρ' O' v H',Qd r ρ'->RetOk K c O' ρ' σ H' r v->Pers K (live c O) H (match r with | .d _=>live c O' | .new _=>fun a=>live c O' a/\v ≠ .ref a) H'->Q v H'):tCall (spD K sp) [] E0 ta σ H Q:=
 qc8g (fun Qa Qv q k'=>ha c O ρ σ H Qa Qv R q k') h k
def qd3h{fs:List Bool}{sp:DSp}{ta:TA}{da:TDA}(ha:AdA K ta da):AdE K (tCall (spD K sp) [] E0 ta) (qc0y fs sp da):=fun c O ρ σ H Qd Q R h k =>
 qd0u ha R h fun r ρ' O' v H' q ok P=>by
  cases r with
  | d x=>exact k _ _ _ _ _ q ok.1 P ok.2
  | new xs =>
   obtain⟨p,ws,rfl,Rn,fp,hH,ax⟩:=ok;obtain⟨R2,P2⟩:=Rn.unadd;exact k _ _ _ _ _ q R2 (P.trans (.of (Keep.refl _ _) fun a z=>z.1)) (qa2o ⟨Rn.frs p fp.1,fp.2.2.1,fp.2.2.2⟩ hH (P2.all ax))
end
section
variable{X:Cx}{k:Nat}{f:Addr}{fd:FuncData}{ps:List Str}{sp:DSp}{x:Str}{st:Stmt}{p pos:Pos}{e:Expr}{es:List Expr}{da:TDA}
def qa0h(fs:List Bool)(d:Def X.K X.mg x st ps f fd)(g:FnOk X.prog X.w X.K X.mg X.base CX0 k f fd ps (spD X.K sp))(hr:Room k X.A)(hg:Gl X x)(ha:DA X (e :: es) da) (hdb:(x == ("__debug__" : Str))=false:=by decide)
  (he:starEach (e :: es) X.env=(false,eval e X.env) :: starEach es X.env:=by rfl) (hpl:(backTo pos (starEach es X.env)).any (·.1)=false:=by rfl):DE X (.Call (.Name x p) (e :: es) [] pos) (qc0y fs sp da):=by
 obtain⟨t,pt,at_⟩:=ha;exact⟨_,qb4y d g hr hg pt hdb he hpl,qd3h at_⟩
end
end
section
noncomputable def capR(n:Nat)(cap:List 'r')(ρ:Rho):Rho:=List.replicate n none ++ cap.map fun p=>(ρ[p.2]?.join).map lend
noncomputable def flC:Nat->List 'r'->List (Nat × Nat)
 | _,[]=>[]
 | j,p :: r=>(j,p.2) :: flC (j + 1) r
noncomputable def qa8c(n:Nat)(cap:List 'r'):Lent:=fun j=>if j < n then none else(cap[j - n]?).map (·.2)
def qc5y:∀ {cap:List 'r'} {n j i:Nat},(j,i) ∈ flC n cap ↔ n <= j/\(cap[j - n]?).map (·.2)=some i:=by
 intro cap;induction cap with
 | nil=>intro n j i;simp [flC]
 | cons p r ih =>
  intro n j i;unfold flC;rw [mem_cons,ih];constructor
  ·rintro(e | ⟨h1,h2⟩)
   ·cases e;simp
   ·refine⟨'o',?_⟩
    have:j - n=(j - (n + 1)) + 1:=by omega
    rw [this,List.getElem?_cons_succ];exact h2
  ·rintro⟨h1,h2⟩
   by_cases e:j=n
   ·subst e
    simp at h2
    exact .inl (by rw [h2])
   ·refine .inr ⟨'o',?_⟩
    have:j - n=(j - (n + 1)) + 1:=by omega
    rw [this,List.getElem?_cons_succ] at h2;exact h2
def qc5z:∀ {cap:List 'r'} {n:Nat},(flC n cap).map (·.2)=cap.map (·.2)
 | [],_=>rfl
 | p :: r,n=>by unfold flC;rw [map_cons,map_cons,qc5z]
def qa2g(g:TDG)(tt:TDT)(te:TDE)(Q:List PyData->Rho->Prop):List PyData->Rho->List PyData->Prop
 | [],ρ,acc=>Q acc ρ
 | x :: r,ρ,acc=>g x ρ fun ρ1=>tt ρ1 fun b ρ2=>if b=true then te ρ2 fun y ρ3=>fz ρ3 y fun z ρ4=>qa2g g tt te Q r ρ4 (acc ++ [z]) else qa2g g tt te Q r ρ2 acc
def dComp(n:Nat)(cap:List 'r')(di:TDI)(g:TDG)(tt:TDT)(te:TDE):TDF:=fun ρ Q=>di ρ fun xs ρ1=>xs.length <= 1000000/\(cap.map (·.2)).Nodup/\qa2g g tt te (fun acc ρ'=>Q acc (fills ρ' (flC n cap) ρ1)) xs (capR n cap ρ1) []
section
variable{K:W.Frag}{c:Rc}{O:Own}{ρ:Rho}{σ:St}{H H':Hp}{S S':Addr->Prop}
def qd0v{l:L}:isOw (lend l)=isOw l:=by cases l<;>rfl
def qc8h{n:Nat}{cap:List 'r'}{own:List Str}(hn:own.length=n)(R:Rel K c O ρ σ H)(nd:(cap.map (·.2)).Nodup):Begins K c O ρ σ H (qa8c n cap) (capR n cap ρ) (qa6z own cap σ):=by
 have at_:∀ {j:Nat} {l:L},(capR n cap ρ)[j]? = some (some l)->n <= j/\∃ p l0,cap[j - n]? = some p/\ρ[p.2]? = some (some l0)/\l=lend l0:=fun{j l} e=>by
  unfold capR at e;by_cases hj:j < n
  ·rw [List.getElem?_append_left (by simpa using hj),List.getElem?_replicate,if_pos hj] at e;cases e
  ·rw [getElem?_append_right (by simpa using Nat.le_of_not_lt hj),length_replicate,getElem?_map] at e
   cases q:cap[j - n]? with
   | none=>rw [q] at e;cases e
   | some p =>
    rw [q] at e;have e':(ρ[p.2]?.join).map lend=some l:=Option.some.inj e;cases q2:ρ[p.2]?.join with
    | none=>rw [q2] at e';cases e'
    | some l0=>rw [q2] at e';cases e';exact⟨'o',p,l0,rfl,qa2p q2,rfl⟩
 have st:∀ {j:Nat} {p:Str × Nat},n <= j->cap[j - n]? = some p->(qa6z own cap σ)[j]? = some (σ[p.2]?).join:=fun{j p} h1 h2=>by
  unfold qa6z;rw [getElem?_append_right (by simp;omega),length_replicate,hn,getElem?_map,h2];rfl
 refine⟨fun j l e ho=>?_,fun j x e=>?_,fun j e=>?_,fun j k i e1 e2=>?_,?_⟩
 ·obtain⟨h1,p,l0,h2,h3,h4⟩:=at_ e
  have ho':isOw l0=true:=by rw [h4,qd0v] at ho;exact ho
  obtain⟨q,_,hq⟩:=R.ow h3 ho';refine⟨p.2,l0,?_,h3,ho',h4,?_⟩
  ·unfold qa8c;rw [if_neg 'o',h2];rfl
  ·rw [st h1 h2,hq];rfl
 ·obtain⟨h1,p,l0,h2,h3,h4⟩:=at_ e
  cases l0 with
  | d y =>
   cases h4
   obtain⟨v,e1,e2⟩:=R.dat _ _ h3;exact⟨v,by rw [st h1 h2,e1];rfl,e2⟩
  | _=>cases h4
 ·obtain⟨h1,p,l0,h2,h3,h4⟩:=at_ e
  cases l0 with
  | scr=>rw [st h1 h2,R.scr _ h3];rfl
  | _=>cases h4
 ·unfold qa8c at e1 e2
  split at e1
  ·cases e1
  ·split at e2
   ·cases e2
   ·rename_i h1 h2
    rw [← getElem?_map] at e1 e2;obtain⟨a1,b1⟩:=List.getElem?_eq_some_iff.mp e1;obtain⟨a2,b2⟩:=List.getElem?_eq_some_iff.mp e2;have:=(List.getElem_inj nd).mp (b1.trans b2.symm);omega
 ·unfold qa6z capR;simp [hn]
def qc6a{n:Nat}{own:List Str}{cap:List 'r'}{wi:TI}{g:TG}{tt:TT}{te:TE}{di:TDI}{dg:TDG}{dt:TDT}{de:TDE}(hn:own.length=n)(hi:AdI K wi di)(hg:AdG K g dg)(ht:AdT K tt dt)(he:AdE K te de) :
  AdF K (tComp own cap wi g tt te) (dComp n cap di dg dt de):=by
 intro c O ρ σ H Qd Q R h k;refine hi c O ρ σ H _ _ R h fun xs ρ1 O1 J H1 h1 R1 P1 I1 D hD=>?_;obtain⟨hz,nd,hloop⟩:=h1;have B:=qc8h (own:=own) hn R1 nd;generalize hOc:qa1o O1 ρ1 (qa8c n cap)=Oc;have s0:=qa0x hD (.lst []);obtain⟨R2,P2⟩:=R1.begin (b:=false) (P:=fun a=>a=D) B s0 (fun p e=>by subst e;exact⟨hD,by rw [qa0k];exact fun z=>nomatch z⟩);rw [hOc] at R2 P2;have lentM:∀ {b:Addr},(∃ j,Oc j=some b)->∃ vs,H1 b=some (.lst vs):=fun hq8=>by
  obtain⟨j,e⟩:=hq8;rw [← hOc] at e;obtain⟨i,_,_,_,_,hO⟩:=qa2t e;exact(R1.has i _ hO).2
 have nD:∀ j,Oc j ≠ some D:=fun j e=>by
  obtain⟨vs,q⟩:=lentM ⟨j,e⟩;rw [hD] at q;cases q
 -- what holds between two turns
 let Jn:St->Hp->Own->Rho->List PyData->List V->Prop:=fun σ' H' O' ρ' acc ys=>Rel K (c.in O1 Oc (fun a=>a=D) false H') O' ρ' σ' H'/\H' D=some (.lst ys)/\qa0c K H' (live (c.in O1 Oc (fun a=>a=D) false H') O') acc ys /\
  (∀ b o,(∀ j,Oc j ≠ some b)->b ≠ D->H1 b=some o->H' b=some o)/\Pers K (live c O1) H1 (live (c.in O1 Oc (fun a=>a=D) false H') O') H'
 refine⟨fun i m σ' H'=>m=xs.length - i/\i <= xs.length/\∃ O' ρ' acc ys,Jn σ' H' O' ρ' acc ys/\acc.length <= i/\qa2g dg dt de (fun acc ρ'=>Qd acc (fills ρ' (flC n cap) ρ1)) (xs.drop i) ρ' acc,⟨xs.length,by simp,zero_le _,Oc,_,[],[],⟨R2,qa0k,.nil,fun b o _ nb q=>by rw [qa0j nb];exact q,P2⟩,le_refl _,by rw [drop_zero];exact hloop⟩,?_⟩;rintro i m σ' H' ⟨rfl,hle,O',ρ',acc,ys,⟨R3,hDy,hacc,fr3,P3⟩,hal,q3⟩;obtain⟨it,stop⟩:=I1 _ _ P3;by_cases hlt:i < xs.length
 ·rw [drop_eq_getElem_cons hlt] at q3
  obtain⟨go,yld⟩:=it i xs[i] (getElem?_eq_getElem hlt);have q3':dg xs[i] ρ' fun ρ1'=>dt ρ1' fun b ρ2=>if b=true then de ρ2 fun y ρ3=>fz ρ3 y fun z ρ4=>qa2g dg dt de (fun acc ρ'=>Qd acc (fills ρ' (flC n cap) ρ1)) (xs.drop (i + 1)) ρ4 (acc ++ [z]) else qa2g dg dt de (fun acc ρ'=>Qd acc (fills ρ' (flC n cap) ρ1)) (xs.drop (i + 1)) ρ2 acc:=q3
  -- to the next turn, at a heap that differs from H4 at D alone
  have next:∀ (σ4:St) (H4 H5:Hp) (O4:Own) (ρ4:Rho) (acc':List PyData) (ys':List V),Rel K (c.in O1 Oc (fun a=>a=D) false H') O4 ρ4 σ4 H4->Pers K (live (c.in O1 Oc (fun a=>a=D) false H') O') H' (live (c.in O1 Oc (fun a=>a=D) false H') O4) H4 ->
    H5 D=some (.lst ys')->(∀ b,b ≠ D->H5 b=H4 b)->qa0c K H4 (live (c.in O1 Oc (fun a=>a=D) false H') O4) acc' ys'->Jn σ4 H5 O4 ρ4 acc' ys':=fun σ4 H4 H5 O4 ρ4 acc' ys' R4 P4 h5 ne a4=>by
   have h4D:H4 D ≠ none:=R4.kept D (by show H' D ≠ none;rw [hDy];exact fun z=>nomatch z);have kp:Keep (live (c.in O1 Oc (fun a=>a=D) false H') O4) H4 H5:=by
    have hDl:∃ zs,H4 D=some (.lst zs):=⟨ys,R4.same D _ (fun hq8=>by obtain⟨j,e⟩:=hq8;exact nD j e) hDy⟩;obtain⟨zs,hDl⟩:=hDl;exact⟨fun b ws e=>by rw [ne b (qa7x e hDl (by intro z;cases z))];exact e,fun b o u e=>by rw [ne b (qa7x e hDl (by intro z;cases z))];exact e,fun b ws hl e=>by rw [ne b (fun z=>hl.2.1 z)];exact e⟩
   have hl:∀ a,live (c.in O1 Oc (fun a=>a=D) false H') O4 a->live (c.in O1 Oc (fun a=>a=D) false H5) O4 a:=fun a z=>z;have P5:Pers K (live (c.in O1 Oc (fun a=>a=D) false H') O4) H4 (live (c.in O1 Oc (fun a=>a=D) false H5) O4) H5:=.of kp hl;have inM:∀ i p,O4 i=some p->∃ j,Oc j=some p:=fun i p e=>by
    rcases (R4.has' i p e).1 with z | z
    ·exact z
    ·exact absurd z.1 Bool.false_ne_true
   refine⟨R4.to (fun _=>rfl) (fun _ _ _ z=>z) rfl rfl P5 (fun i p vs e q=>?_) (fun i p e _=>.inl (inM i p e)) (fun p z=>z.elim .inl fun w=>absurd w.1 Bool.false_ne_true) (fun p z=>?_) (fun b o _ z=>z) (fun b z=>z) (fun p z=>?_) (fun p z=>?_) (fun _=>rfl) (R4.sc.keep kp),h5,P5.all a4,fun b o n1 n2 q=>?_,(P3.trans P4).trans P5⟩
   ·obtain⟨j,ej⟩:=inM i p e
    rw [ne p (fun z=>nD j (by rw [← z];exact ej))];exact q
   ·have z':H5 p=none:=z
    have np:p ≠ D:=by rintro rfl;rw [h5] at z';cases z'
    rw [ne p np] at z';exact R4.frs p (R4.free0 z')
   ·obtain⟨j,ej⟩:=z
    obtain⟨vs,q⟩:=R4.ml p ⟨j,ej⟩;exact⟨vs,by rw [ne p (fun w=>nD j (by rw [← w];exact ej))];exact q⟩
   ·rcases z with z | ⟨j,ej⟩
    ·rw [show p=D from z,h5];exact fun w=>nomatch w
    ·obtain⟨vs,q⟩:=R4.ml p ⟨j,ej⟩
     rw [ne p (fun w=>nD j (by rw [← w];exact ej)),q];exact fun w=>nomatch w
   ·rw [ne b n2]
    exact R4.same b o (fun hq8=>by obtain⟨j,e⟩:=hq8;exact n1 j e) (fr3 b o n1 n2 q)
  refine .inr ⟨go,fun σ'' H''=>∃ O'' ρ'' acc' ys',Jn σ'' H'' O'' ρ'' acc' ys'/\acc'.length <= i + 1/\qa2g dg dt de (fun acc ρ'=>Qd acc (fills ρ' (flC n cap) ρ1)) (xs.drop (i + 1)) ρ'' acc',fun σ'' H'' hq8=>by obtain⟨O'',ρ'',acc',ys',a1,a2,a3⟩:=hq8;exact⟨xs.length - (i + 1),'o',rfl,hlt,O'',ρ'',acc',ys',a1,a2,a3⟩,fun v H4 y=>?_⟩;obtain⟨s4,a4⟩:=yld v H4 y;refine hg _ O' ρ' σ' H4 xs[i] v _ _ (R3.grow s4) a4 q3' fun O5 ρ5 σ5 R5 P5 q5=>?_;refine ht _ O5 ρ5 σ5 H4 _ _ R5 q5 fun b ρ6 O6 H6 q6 R6 P6=>?_;have P06:=((Pers.same s4).trans P5).trans P6;have dAt:∀ {O9:Own} {ρ9:Rho} {σ9:St} {H9:Hp},Rel K (c.in O1 Oc (fun a=>a=D) false H') O9 ρ9 σ9 H9->H9 D=some (.lst ys):=fun Rx=>Rx.same D _ (fun hq8=>by obtain⟨j,e⟩:=hq8;exact nD j e) hDy;cases b with
  | false =>
   rw [if_neg Bool.false_ne_true] at q6 ⊢;exact⟨O6,ρ6,acc,ys,next σ5 H6 H6 O6 ρ6 acc ys R6 P06 (dAt R6) 'b' (P06.all hacc),'o',q6⟩
  | true =>
   rw [if_pos rfl] at q6 ⊢;refine he _ O6 ρ6 σ5 H6 _ _ R6 q6 fun y ρ7 O7 u H7 q7 R7 P7 a7=>?_;obtain⟨z,ρ8,O8,q8,R8,P8,a8⟩:=R7.fz a7 q7;have P08:=(P06.trans P7).trans P8;have accl:ys.length=acc.length:=hacc.length;refine⟨ys,dAt R8,by rw [accl];exact mil 'o',O8,ρ8,acc ++ [z],ys ++ [u],next σ5 H7 _ O8 ρ8 _ _ R8 P08 qa0k (fun b nb=>qa0j nb) ((P08.all hacc).snoc a8),by rw [length_append,List.length_singleton];omega,q8⟩
 ·have e:i=xs.length:=by omega
  subst e;rw [drop_eq_nil_of_le 'e'] at q3;refine .inl ⟨stop,?_⟩;have fr:∀ b o,(∀ j,qa1o O1 ρ1 (qa8c n cap) j ≠ some b)->H1 b=some o->H' b=some o:=fun b o n1 q=>fr3 b o (by rw [← hOc];exact n1) (qa1z q hD) q;have fp:=qb4z R1 hD;have hl:∀ a,live (c.in O1 Oc (fun a=>a=D) false H') O' a->live (c.add D) O1 a:=fun a z=>qb1l z.1 z.2.1;have hP:Pers K (live (c.in O1 Oc (fun a=>a=D) false H') O') H' (live (c.add D) O1) H':=.of (Keep.refl _ _) hl;have hp:Pers K (live c O1) H1 (live (c.add D) O1) H':=P3.trans hP;have hf:∀ j i,(j,i) ∈ flC n cap->qa8c n cap j=some i:=fun j i m=>by
   obtain⟨h1,h2⟩:=qc5y.mp m;unfold qa8c;rw [if_neg 'o'];exact h2
  have hf':∀ j i,qa8c n cap j=some i->(j,i) ∈ flC n cap:=fun j i e=>by
   unfold qa8c at e;split at e
   ·cases e
   ·exact qc5y.mpr ⟨'o',e⟩
  have Rn:Rel K (c.add D) O1 (fills ρ' (flC n cap) ρ1) σ H':=R1.finish (P':=fun a=>c.P a ∨ a=D) (by rw [qc5z];exact nd) hf hf' R3 (fun j=>by rw [hOc];rfl) rfl rfl fr (fun j p e=>R3.ml p ⟨j,by rw [← hOc];exact e⟩) hP hp (fun q z=>z.elim .inl fun e=>.inr (by subst e;exact⟨by rw [hDy];exact 'n',fp.2.2.2⟩));exact k _ _ O1 D ys H' q3 Rn (P1.trans hp) fp hDy (hP.all hacc)
end
end
section
def DG(X:Cx)(target:Expr)(dg:TDG):Prop:=∃ g,PG X target g/\AdG X.K g dg
def DGs(X:Cx)(ts:List Expr)(dg:TDGs):Prop:=∃ g,PGs X ts g/\AdGs X.K g dg
def DIf(X:Cx)(ifs:List Expr)(dt:TDT):Prop:=∃ t,PIf X ifs t/\AdT X.K t dt
section
variable{X:Cx}{st:Stmt}{rest:List Stmt}{e tg iter a b c:Expr}{es ifs:List Expr}{de da db dc:TDE}{df:TDF}{dt du:TDS}{dg:TDG}{dgs:TDGs}{di:TDI}{dtt:TDT}{daa:TDA}{pos:Pos}
def qa0z:DSs X [] dNext:=⟨_,qb0n,ad_next⟩
def qa0e(h1:DS X st dt)(h2:DSs X rest du):DSs X (st :: rest) (dSeq dt du):=by obtain⟨_,p,a⟩:=h1;obtain⟨_,p',a'⟩:=h2;exact⟨_,qa2a p p',ad_seq a a'⟩
def qa0g(h1:DS X st dt):DSs X [st] dt:=by obtain⟨_,p,a⟩:=h1;exact⟨_,qa3u p,a⟩
def qb3z(he:DE X e de)(hs:swapsWith e none pos.line X.env=pure false:=by rfl):DS X (.Expr e pos) (dDrop de):=by obtain⟨_,p,a⟩:=he;exact⟨_,qb7o p hs,ad_drop a⟩
def qa0o(he:DE X e de):DS X (.Return (some e) pos) (dRet de):=by obtain⟨_,p,a⟩:=he;exact⟨_,qa9c p,ad_ret a⟩
def qa1r{c:Expr}{a b:List Stmt}(hc:DT X c dtt)(ha:DSs X a dt)(hb:DSs X b du):DS X (.If c a b pos) (dIf dtt dt du):=by obtain⟨_,p,a⟩:=hc;obtain⟨_,p',a'⟩:=ha;obtain⟨_,p2,a2⟩:=hb;exact⟨_,ps_if p p' p2,ad_if a a' a2⟩
def qa1t{i:Nat}{x:Str}{pos':Pos}(hN:X.N.Nodup)(hi:X.N[i]? = some x)(hx:Loc X.env.scope x)(he:DE X e de)(hs:swapsWith e (some (.Name x pos')) pos.line X.env=pure false:=by rfl)(hf:X.fn x=true ∨ X.env.scope.names.lookup x=some .local:=by first | exact .inl rfl | exact .inr rfl) :
  DS X (.Assign [.Name x pos'] e pos) (dSet i de):=by obtain⟨_,p,a⟩:=he;exact⟨_,qa4l hN hi hx p hs hf,ad_set a⟩
def qb0y{i:Nat}{x:Str}{pos':Pos}(hN:X.N.Nodup)(hi:X.N[i]? = some x)(hx:Loc X.env.scope x)(he:DF X e df)(hs:swapsWith e (some (.Name x pos')) pos.line X.env=pure false:=by rfl)(hf:X.fn x=true ∨ X.env.scope.names.lookup x=some .local:=by first | exact .inl rfl | exact .inr rfl) :
  DS X (.Assign [.Name x pos'] e pos) (dSetF i df):=by obtain⟨_,p,a⟩:=he;exact⟨_,qa4l hN hi hx p hs hf,qc5x a⟩
def qa0s{i:Nat}{x:Str}(hN:X.N.Nodup)(hi:X.N[i]? = some x)(hx:Loc X.env.scope x)(hf:X.fn x=true ∨ X.env.scope.names.lookup x=some .local:=by first | exact .inl rfl | exact .inr rfl | assumption):DG X (.Name x pos) (qb2t i):=⟨_,qb0o hN hi hx hf,ag_name⟩
def qc6b:DGs X [] dgNil:=⟨_,qc5d,ag_nil⟩
def qa9m(h1:DG X e dg)(h2:DGs X es dgs)(hs:(assignEach (e :: es) X.env).map (·.2)=assign e X.env :: (assignEach es X.env).map (·.2):=by rfl):DGs X (e :: es) (qc0s dg dgs):=by obtain⟨_,p,a⟩:=h1;obtain⟨_,p',a'⟩:=h2;exact⟨_,qb4t p p' hs,ag_cons a a'⟩
def dg_tup{k n:Nat}(hc:X.calm=true)(h:DGs X es dgs)(hn:(assignEach es X.env).length=n:=by rfl)(hst:(assignEach es X.env).findIdx? (·.1)=none:=by rfl):DG X (.Tuple es k pos) (dgTup n dgs):=by obtain⟨_,p,a⟩:=h;exact⟨_,pg_tup hc p hn hst,ag_tup a⟩
def ds_asg(he:DE X e de)(hg:DG X tg dg)(hs:swapsWithSole [tg] e pos.line X.env=pure false:=by rfl)(hw:swappedStores [tg] e X.env=pure none:=by rfl)
  (h1:(assignEach [tg] X.env).map (·.2)=[assign tg X.env]:=by rfl):DS X (.Assign [tg] e pos) (dAsg de dg):=by obtain⟨_,p,a⟩:=he;obtain⟨_,p',a'⟩:=hg;exact⟨_,qb9u p p' hs hw h1,ad_asg a a'⟩
def qc0z(i:Nat){x:Str}{b:Expr}{p p2:Pos}(hN:X.N[i]? = some x)(hb:DE X b db)(he:DE X e de)(hv:Vis X.env.scope x:=by first | exact Or.inl rfl | exact Or.inr 'c' | exact Or.inr (Or.inr rfl)) (hd:(x == ("__debug__" : Str))=false:=by decide)
  (hcd:(x == ("__classdict__" : Str))=false:=by decide) (ha:∀ v,assign (.Subscript (.Name x p) b p2) X.env v=(do
   let ov ← holding [v] (eval (.Name x p) X.env)
   let iv ← holding [v,ov] (eval b X.env)
   standAt p2
   holding [v,ov,iv] (setItem ov iv v)
   release [v,ov,iv] []):=by intro _;rfl)
  (hs:swapsWithSole [.Subscript (.Name x p) b p2] e pos.line X.env=pure false:=by rfl) (hw:swappedStores [.Subscript (.Name x p) b p2] e X.env=pure none:=by rfl)
  (h1:(assignEach [.Subscript (.Name x p) b p2] X.env).map (·.2)=[assign (.Subscript (.Name x p) b p2) X.env]:=by rfl):DS X (.Assign [.Subscript (.Name x p) b p2] e pos) (qb2u i db de):=by
 obtain⟨ti,pi,ai⟩:=hb;obtain⟨te,pe,ae⟩:=he;exact⟨_,qb9u pe (pg_sub (qa9b hN hv hd hcd) pi set_list ha) hs hw h1,qd3e ai ae⟩
def qa7o(i:Nat){x:Str}{p p2:Pos}(hN:X.N[i]? = some x)(he:DE X e de)(hv:Vis X.env.scope x:=by first | exact Or.inl rfl | exact Or.inr 'c' | exact Or.inr (Or.inr rfl)) (hd:(x == ("__debug__" : Str))=false:=by decide)
  (hcd:(x == ("__classdict__" : Str))=false:=by decide) (hs:starEach [e] X.env=[(false,eval e X.env)]:=by rfl)
  (hbase:attributeBase (.Name x p) "append" X.env (eval (.Name x p) X.env)=eval (.Name x p) X.env:=by rfl)
  (hfew:((backTo pos (starEach [e] X.env)).all (fun x=>!x.1) && (backToKw pos (keywordEach [] X.env)).all (fun x=>x.1.isSome)
   && decide (([e]:List Expr).length + ([]:List Keyword).length + (if ([]:List Keyword).isEmpty then 0 else 1) < 30))=true:=by rfl)
  (hline:(p2.endLine == pos.line)=true:=by rfl):DE X (.Call (.Attribute (.Name x p) "append" p2) [e] [] pos) (qb7t i de):=by
 obtain⟨te,pe,ae⟩:=he;exact⟨_,pe_bm PySem.F.plainAttrs_list PySem.F.slot_list_append PySem.F.type_list_append qb2p (qa9b hN hv hd hcd) (qa1f pe qa2j hs) hbase hfew hline hs rfl,qd0r ae⟩
def qa5z{body:List Stmt}(hp:PassesOwn (model X.prog X.w) X.A X.env X.xe)(hc:X.calm=true)(hi:DI X tg iter di)(hg:DG X tg dg)(hb:DSs X body dt)(hs:∀ x,foldedSetIterable iter X.env x=pure x:=by intro _;rfl):DS X (.For tg iter body [] pos) (dFor di dg dt):=
 by obtain⟨_,p,a⟩:=hi;obtain⟨_,p',a'⟩:=hg;obtain⟨_,p2,a2⟩:=hb;exact⟨_,qb5z hp hc p p' p2 hs,ad_for a a' a2⟩
def qa1k(h:DE X e de):DI X tg e (diDat de):=by obtain⟨_,p,a⟩:=h;exact⟨_,pi_dat p,ai_dat a⟩
def qa4f{p:Pos} (hg:Gl X "range") (hm:X.mg "range" = none) (ha:DE X a da) (hs:starEach [a] X.env=[(false,eval a X.env)]:=by rfl):DI X tg (.Call (.Name "range" p) [a] [] pos) (qc0u da):=
 by obtain⟨_,p,a⟩:=ha;exact⟨_,qc9w hg hm (qa1f p qa2j hs) hs,ai_rng1 a⟩
def qa2u:DIf X [] (fun ρ Q=>Q true ρ):=⟨_,qc5m,fun c O ρ σ H Qd Q R h k=>k _ _ _ _ h R .refl⟩
def qa3h(h:DT X e dtt):DIf X [e] dtt:=by obtain⟨_,p,a⟩:=h;exact⟨_,pif_one p,a⟩
end
def upE(K:W.Frag)(dt:TDE):TE:=fun σ H Q=>∃ c O ρ Qd,Rel K c O ρ σ H/\dt ρ Qd/\(∀ x ρ' O' v H',Qd x ρ'->Rel K c O' ρ' σ H'->Pers K (live c O) H (live c O') H'->AtV K (live c O') σ H' x v->Q v H')
def upT(K:W.Frag)(dt:TDT):TT:=fun σ H Q=>∃ c O ρ Qd,Rel K c O ρ σ H/\dt ρ Qd/\(∀ b ρ' O' H',Qd b ρ'->Rel K c O' ρ' σ H'->Pers K (live c O) H (live c O') H'->Q b H')
def upG(K:W.Frag)(dg:TDG):TG:=fun v σ H Q=>∃ c O ρ x Qd,Rel K c O ρ σ H/\AtD K H (live c O) x v/\dg x ρ Qd/\(∀ O' ρ' σ' ,Rel K c O' ρ' σ' H->Pers K (live c O) H (live c O') H->Qd ρ'->Q σ' H)
def ad_upE{K:W.Frag}{dt:TDE}:AdE K (upE K dt) dt:=fun c O ρ σ H Qd Q R h k=>⟨c,O,ρ,Qd,R,h,k⟩
def ad_upT{K:W.Frag}{dt:TDT}:AdT K (upT K dt) dt:=fun c O ρ σ H Qd Q R h k=>⟨c,O,ρ,Qd,R,h,k⟩
def ad_upG{K:W.Frag}{dg:TDG}:AdG K (upG K dg) dg:=fun c O ρ σ H x v Qd Q R a h k=>⟨c,O,ρ,x,Qd,R,a,h,k⟩
def DE.up{X:Cx}{e:Expr}{de:TDE}(h:DE X e de):PE X e (upE X.K de):=fun pins s σ H Q I q=>by
 obtain⟨t,p,a⟩:=h;obtain⟨c,O,ρ,Qd,R,q,k⟩:=q;exact p pins s σ H Q I (a c O ρ σ H Qd Q R q k)
def DIf.up{X:Cx}{e:List Expr}{de:TDT}(h:DIf X e de):PIf X e (upT X.K de):=fun pins s σ H Q I q=>by
 obtain⟨t,p,a⟩:=h;obtain⟨c,O,ρ,Qd,R,q,k⟩:=q;exact p pins s σ H Q I (a c O ρ σ H Qd Q R q k)
def DG.up{X:Cx}{e:Expr}{dg:TDG}(h:DG X e dg):PG X e (upG X.K dg):=fun pins s σ H v u Q I r q=>by
 obtain⟨t,p,a⟩:=h;obtain⟨c,O,ρ,x,Qd,R,ax,q,k⟩:=q;exact p pins s σ H v u Q I r (a c O ρ σ H x v Qd Q R ax q k)
section
variable{X:Cx}{elt tg iter:Expr}{ifs:List Expr}{scope:Scope}{pos:Pos}{own:List Str}{cap:List 'r'}{di:TDI}{dg:TDG}{dt:TDT}{de:TDE}
def qa1g(own:List Str)(cap:List 'r')(hc:X.calm=true)(hok:qa5g X scope own cap=true)(hnd:(scope.names.map (·.1)).Nodup)(hi:DI X tg iter di)
  (hg:∀ fp s2 H2,DG (cxC X scope own cap fp s2 H2) tg dg) (ht:∀ fp s2 H2,DIf (cxC X scope own cap fp s2 H2) ifs dt) (he:∀ fp s2 H2,DE (cxC X scope own cap fp s2 H2) elt de)
  (hs:∀ x,foldedSetIterable iter X.env x=pure x:=by intro _;rfl):DF X (.ListComp elt [⟨tg,iter,ifs,0⟩] scope pos) (dComp own.length cap di dg dt de):=by
 obtain⟨ti,pi,ai⟩:=hi;exact⟨_,qc5n hc hok hnd pi (fun a b c=>(hg a b c).up) (fun a b c=>(ht a b c).up) (fun a b c=>(he a b c).up) hs,qc6a rfl ai ad_upG ad_upT ad_upE⟩
def qc6c{i:Nat}{y:Str}{py spos:Pos}(hN:X.N.Nodup)(hi':X.N[i]? = some y)(hy:X.env.scope.names.lookup y=some .local)
  (own:List Str) (cap:List 'r') (hc:X.calm=true) (hok:qa5g X scope own cap=true) (hnd:(scope.names.map (·.1)).Nodup) (hi:DI X tg iter di)
  (hg:∀ fp s2 H2,DG (cxC X scope own cap fp s2 H2) tg dg) (ht:∀ fp s2 H2,DIf (cxC X scope own cap fp s2 H2) ifs dt) (he:∀ fp s2 H2,DE (cxC X scope own cap fp s2 H2) elt de)
  (hsw:swapsWith (.ListComp elt [⟨tg,iter,ifs,0⟩] scope pos) (some (.Name y py)) spos.line X.env=pure true:=by rfl)
  (hs:∀ x,foldedSetIterable iter X.env x=pure x:=by intro _;rfl):DS X (.Assign [.Name y py] (.ListComp elt [⟨tg,iter,ifs,0⟩] scope pos) spos) (dSetF i (dComp own.length cap di dg dt de)):=by
 obtain⟨ti,pi,ai⟩:=hi;exact⟨_,ps_setC hN hi' hy hc hok hnd pi (fun a b c=>(hg a b c).up) (fun a b c=>(ht a b c).up) (fun a b c=>(he a b c).up) hsw hs,qc5x (qc6a rfl ai ad_upG ad_upT ad_upE)⟩
end
section
variable{K:W.Frag}
def dIs(T:String)(de:TDE):TDE:=fun ρ Q=>de ρ fun x ρ1=>need (qa0q ρ1 x) fun d=>Q (.d (.bool (isD T d))) ρ1
def ad_is{t:TE}{de:TDE}{T:String}(hT:qa2d T=true)(h:AdE K t de):AdE K (tCB (fun xs H Q=>∃ v S d T,xs=[v,.ty T]/\AtD K H S d v/\qa2d T=true/\Q (.bl (isD T d)) H) (qa3f t (qa3f (tC (.ty T)) tNil))) (dIs T de):=fun c O ρ σ H Qd Q R q k =>
 h c O ρ σ H _ _ R q fun x ρ1 O1 v H1 h1 R1 P1 a1=>by
  obtain⟨d,e1,h2⟩:=ne (h1);exact⟨v,Any,d,T,rfl,(R1.top a1 e1).any,hT,k _ _ _ _ _ h2 R1 P1 qa9l⟩
end
def qa3b{X:Cx}{e:Expr}{de:TDE}{x:Str}{T:String}{p p2 pos:Pos} (hg:Gl X "isinstance") (hm:X.mg "isinstance" = none) (hg2:Gl X x) (hm2:X.mg x=none) (hv:bootBuiltins x=some (.type T)) (hT:qa2d T=true) (he:DE X e de) (hn:x ≠ "__name__":=by decide) (hd:(x == ("__debug__" : Str))=false:=by decide)
  (hs:starEach [e,.Name x p2] X.env=(false,eval e X.env) :: starEach [.Name x p2] X.env:=by rfl):DE X (.Call (.Name "isinstance" p) [e,.Name x p2] [] pos) (dIs T de):=by
 obtain⟨t,pe,ae⟩:=he;exact⟨_,qa5l qd3b hg hm qb2j (qa1f pe (qa1f (pe_ty hg2 hm2 hv hn hd) qa2j) hs) 'd' 'd' hs rfl,ad_is hT ae⟩
end
section
noncomputable def fEqA(neg:Bool):F2:=fun x y=>if (qa1n x && qa1n y && scal (toV x) (toV y))=true then some (.bool (if neg then !decide (toV x=toV y) else decide (toV x=toV y))) else fEq neg x y
section
variable{K:W.Frag}
def qa1p:AdR K (fun x y H Q=>rEq x y H Q ∨ rEqD K false x y H Q) (fEqA false):=by
 intro S H x y dx dy z Q f hx hy e k;unfold fEqA at e;split at e
 ·rename_i hc
  rw [and_eq_true,and_eq_true] at hc;cases e;obtain⟨e1,_⟩:=qa8u (hx.at fun ds z=>by subst z;exact absurd hc.1.1 (by simp [qa1n])) hc.1.1;obtain⟨e2,_⟩:=qa8u (hy.at fun ds z=>by subst z;exact absurd hc.1.2 (by simp [qa1n])) hc.1.2;rw [e1,e2];exact .inl ⟨hc.2,k _ _ (Same.refl _) (qa2m _)⟩
 ·exact .inr (ad_eq S H x y dx dy z Q f hx hy e k)
def qa9n:AdR K (fun x y H Q=>rNe x y H Q ∨ rEqD K true x y H Q) (fEqA true):=by
 intro S H x y dx dy z Q f hx hy e k;unfold fEqA at e;split at e
 ·rename_i hc
  rw [and_eq_true,and_eq_true] at hc;cases e;obtain⟨e1,_⟩:=qa8u (hx.at fun ds z=>by subst z;exact absurd hc.1.1 (by simp [qa1n])) hc.1.1;obtain⟨e2,_⟩:=qa8u (hy.at fun ds z=>by subst z;exact absurd hc.1.2 (by simp [qa1n])) hc.1.2;rw [e1,e2];exact .inl ⟨hc.2,k _ _ (Same.refl _) (qa2m _)⟩
 ·exact .inr (ad_eq S H x y dx dy z Q f hx hy e k)
def qa1q{X:Cx}(hu:X.A.units + 64 < cLine):OpR X (compareOp .Eq) (fun x y H Q=>rEq x y H Q ∨ rEqD X.K false x y H Q):=op_eq.or (op_eqD hu)
def qa9o{X:Cx}(hu:X.A.units + 64 < cLine):OpR X (compareOp .NotEq) (fun x y H Q=>rNe x y H Q ∨ rEqD X.K true x y H Q):=op_ne.or (op_neD hu)
end
def qd3i{neg:Bool}{x y:Str}:fEqA neg (.str x) (.str y)=some (.bool (if neg then !decide (x=y) else decide (x=y))):=by
 have e:decide (V.str x=V.str y)=decide (x=y):=by simp
 unfold fEqA;rw [if_pos (show(qa1n (.str x) && qa1n (.str y) && scal (toV (.str x)) (toV (.str y)))=true from rfl)];show some (PyData.bool (if neg=true then !decide (V.str x=V.str y) else decide (V.str x=V.str y)))=_;rw [e]
def qd3j{neg:Bool}{x y:Int}:fEqA neg (.int x) (.int y)=some (.bool (if neg then !decide (x=y) else decide (x=y))):=by
 have e:decide (V.int x=V.int y)=decide (x=y):=by simp
 unfold fEqA;rw [if_pos (show(qa1n (.int x) && qa1n (.int y) && scal (toV (.int x)) (toV (.int y)))=true from rfl)];show some (PyData.bool (if neg=true then !decide (V.int x=V.int y) else decide (V.int x=V.int y)))=_;rw [e]
def qd0w{neg:Bool}{x y:Bool}:fEqA neg (.bool x) (.bool y)=some (.bool (if neg then !decide (x=y) else decide (x=y))):=by
 have e:decide (V.bl x=V.bl y)=decide (x=y):=by simp
 unfold fEqA;rw [if_pos (show(qa1n (.bool x) && qa1n (.bool y) && scal (toV (.bool x)) (toV (.bool y)))=true from rfl)];show some (PyData.bool (if neg=true then !decide (V.bl x=V.bl y) else decide (V.bl x=V.bl y)))=_;rw [e]
def qb5c{neg:Bool}{x y:PyData}(h:(qa1n x && qa1n y)=false)(hx:SeqAt.shaped x=true)(hy:SeqAt.shaped y=true):fEqA neg x y=some (.bool (if neg then !PyData.eqv x y else PyData.eqv x y)):=by
 unfold fEqA fEq;rw [h,Bool.false_and,if_neg Bool.false_ne_true,if_pos ⟨hx,hy⟩]
theorem fIx_l{xs:List PyData}{i:Int}:fIx (.list xs) (.int i)=atI xs i:=rfl
theorem fIx_t{xs:List PyData}{i:Int}:fIx (.tuple xs) (.int i)=atI xs i:=rfl
theorem fAdd_i{i j:Int}:fAdd (.int i) (.int j)=some (.int (i + j)):=rfl
theorem fSub_i{i j:Int}:fSub (.int i) (.int j)=some (.int (i - j)):=rfl
theorem fCmp_i{p:Int->Int->Bool}{i j:Int}:fCmp p (.int i) (.int j)=some (.bool (p i j)):=rfl
theorem fLen_l{xs:List PyData}:fLen [.list xs]=some (.int xs.length):=rfl
theorem fLen_t{xs:List PyData}:fLen [.tuple xs]=some (.int xs.length):=rfl
theorem qd3k{xs:List PyData}:qb6j [.list xs]=some (.tuple xs):=rfl
theorem qd3l{xs:List PyData}:qb6j [.tuple xs]=some (.tuple xs):=rfl
theorem fList_l{xs:List PyData}:fList [.list xs]=some xs:=rfl
theorem fList_t{xs:List PyData}:fList [.tuple xs]=some xs:=rfl
def fIn_f{neg:Bool}{x:PyData}{xs:List PyData}(h:(qa1n x && xs.all qa1n)=true):fIn neg x (.tuple xs)=some (.bool (if neg then !inF x xs else inF x xs)):=by
 show(if qa1n x && xs.all qa1n then some (PyData.bool (if neg then !inF x xs else inF x xs)) else none)=_;rw [if_pos h]
def fIn_fl{neg:Bool}{x:PyData}{xs:List PyData}(h:(qa1n x && xs.all qa1n)=true):fIn neg x (.list xs)=some (.bool (if neg then !inF x xs else inF x xs)):=by
 show(if qa1n x && xs.all qa1n then some (PyData.bool (if neg then !inF x xs else inF x xs)) else none)=_;rw [if_pos h]
def fAdd_l{xs ys:List PyData}(h:xs.length + ys.length <= sizeLine):fAdd (.list xs) (.list ys)=some (.list (xs ++ ys)):=by
 show(if xs.length + ys.length <= sizeLine then some (PyData.list (xs ++ ys)) else none)=_;rw [if_pos h]
def qc1a{xs ys:List PyData}(h:xs.length + ys.length <= sizeLine):fAdd (.tuple xs) (.tuple ys)=some (.tuple (xs ++ ys)):=by
 show(if xs.length + ys.length <= sizeLine then some (PyData.tuple (xs ++ ys)) else none)=_;rw [if_pos h]
def qb0z{xs:List PyData}{i:Int}{k:PyData->Prop}(h0:0 <= i)(h1:i < xs.length)(h:∀ d,d ∈ xs->xs[i.toNat]? = some d->k d):need (atI xs i) k:=by
 obtain⟨x,e1,e2,e3⟩:=atI_in h0 h1;exact need_mk e1 (h x e2 e3)
def qb8w{α:Type}{xs r:List α}{i:Nat}{x:α}(h:xs.drop i=x :: r):xs[i]? = some x/\xs.drop (i + 1)=r:=by
 have hi:i < xs.length:=by
  by_cases h':i < xs.length
  ·exact h'
  ·rw [drop_eq_nil_of_le 'o'] at h;cases h
 rw [drop_eq_getElem_cons hi] at h;injection h with h1 h2
 exact⟨by rw [getElem?_eq_getElem hi,h1],h2⟩
def qc1b{α:Type}{xs:List α}{i:Nat}(hi:i <= xs.length)(h:xs.drop i=[]):i=xs.length:=by
 have:=congrArg List.length h;simp at this;omega
def qa3q{g:TDG}{b:TDS}{D:DEnds}{xs:List PyData}{ρ:Rho}(Pv:Nat->Rho->Prop)(h0:Pv 0 ρ)
  (hs:∀ (i:Nat) (x:PyData) (ρ:Rho) (N:Rho->Prop),xs[i]? = some x->Pv i ρ->(∀ ρ',Pv (i + 1) ρ'->N ρ')->g x ρ fun ρ1=>b { D with nx:=N,ct:=N,bk:=D.nx } ρ1)
  (hd:∀ ρ,Pv xs.length ρ->D.nx ρ):qa3r g b D xs ρ:=by
 have key:∀ (r:List PyData) (i:Nat),i <= xs.length->xs.drop i=r->∀ ρ,Pv i ρ->qa3r g b D r ρ:=fun r=>by
  induction r with
  | nil =>
   intro i hi e ρ p;rw [qc1b hi e] at p;exact hd ρ p
  | cons x r ih =>
   intro i hi e ρ p;obtain⟨e1,e2⟩:=qb8w e;have hlt:i < xs.length:=(List.getElem?_eq_some_iff.mp e1).1;exact hs i x ρ _ e1 p fun ρ' p'=>ih (i + 1) hlt e2 ρ' p'
 exact key xs 0 (zero_le _) 'h' ρ h0
def qa9p{g:TDG}{tt:TDT}{te:TDE}{Q:List PyData->Rho->Prop}{xs:List PyData}{ρ:Rho}(Pv:Nat->Rho->List PyData->Prop)(h0:Pv 0 ρ [])
  (hs:∀ (i:Nat) (x:PyData) (ρ:Rho) (acc:List PyData) (N:Rho->List PyData->Prop),xs[i]? = some x->Pv i ρ acc->(∀ ρ' acc',Pv (i + 1) ρ' acc'->N ρ' acc') ->
   g x ρ fun ρ1=>tt ρ1 fun b ρ2=>if b=true then te ρ2 fun y ρ3=>fz ρ3 y fun z ρ4=>N ρ4 (acc ++ [z]) else N ρ2 acc)
  (hd:∀ ρ acc,Pv xs.length ρ acc->Q acc ρ):qa2g g tt te Q xs ρ []:=by
 have key:∀ (r:List PyData) (i:Nat),i <= xs.length->xs.drop i=r->∀ ρ acc,Pv i ρ acc->qa2g g tt te Q r ρ acc:=fun r=>by
  induction r with
  | nil =>
   intro i hi e ρ acc p;rw [qc1b hi e] at p;exact hd ρ acc p
  | cons x r ih =>
   intro i hi e ρ acc p;obtain⟨e1,e2⟩:=qb8w e;have hlt:i < xs.length:=(List.getElem?_eq_some_iff.mp e1).1;exact hs i x ρ acc _ e1 p fun ρ' acc' p'=>ih (i + 1) hlt e2 ρ' acc' p'
 exact key xs 0 (zero_le _) 'h' ρ [] h0
end
end L2
section
namespace L2
open PySem PySem.Spec PyProof.Rows
def later(u:TDS)(D:DEnds)(ρ:Rho):Prop:=u D ρ
def qc6d{u:TDS}{D:DEnds}{ρ:Rho}(h:u D ρ):later u D ρ:=h
section
variable{t u b:TDS}{c tt:TDT}{D:DEnds}{ρ ρi:Rho}{i j n:Nat}{da db dc de te:TDE}{df:TDF}{daa:TDA}{f f':F2}{fl:F2L}{fc:FC}{fcl:FCL}{T:String}{dg g:TDG}{dgs:TDGs}{di:TDI}{x:PyData}{y:DV}{xs:List PyData}{ys:List DV}{fs:List Bool}{sp:DSp}
 {Q:DV->Rho->Prop} {QF:List PyData->Rho->Prop} {QB:Bool->Rho->Prop} {QA:List DV->Rho->Prop} {QR:RV->Rho->Prop} {QD:PyData->Rho->Prop} {N:Rho->Prop} {QL:L->Rho->Prop} {QLs:List L->Rho->Prop}
theorem dSeq_a:dSeq t u D ρ=t { D with nx:=later u D } ρ:=rfl
theorem dNext_a:dNext D ρ=D.nx ρ:=rfl
theorem dIf_a:dIf c t u D ρ=c ρ fun b ρ1=>if b=true then t D ρ1 else u D ρ1:=rfl
theorem dDrop_a:dDrop de D ρ=de ρ fun _ ρ1=>D.nx ρ1:=rfl
theorem dRet_a:dRet de D ρ=de ρ fun x ρ1=>fz ρ1 x fun y ρ2=>D.rt (.d y) ρ2:=rfl
theorem dRetF_a:dRetF df D ρ=df ρ fun xs ρ1=>D.rt (.new xs) ρ1:=rfl
noncomputable def ownAtJ:Option L->Option (List PyData)
 | some (.own xs)=>some xs
 | _=>none
theorem qd3m:ownAtJ (some (.own xs))=some xs:=rfl
theorem dSet_a:dSet i de D ρ=de ρ fun x ρ1=>fz ρ1 x fun y ρ2=>i < ρ2.length/\D.nx (ρ2.set i (some (.d y))):=rfl
theorem dSetF_a:dSetF i df D ρ=df ρ fun xs ρ1=>i < ρ1.length/\D.nx (ρ1.set i (some (.own xs))):=rfl
theorem dAsg_a:dAsg de dg D ρ=de ρ fun x ρ1=>fz ρ1 x fun y ρ2=>dg y ρ2 D.nx:=rfl
theorem dFor_a:dFor di dg b D ρ=di ρ fun xs ρ1=>qa3r dg b D xs ρ1:=rfl
theorem dVar_a:dVar i ρ Q=((ρ[i]?.join).isSome=true/\Q (.sl i) ρ):=rfl
theorem dC_a:dC x ρ Q=Q (.d x) ρ:=rfl
theorem dOp_a:dOp f da db ρ Q=da ρ fun x ρ1=>db ρ1 fun y ρ2=>need (qa0q ρ2 x) fun dx=>need (qa0q ρ2 y) fun dy=>need (f dx dy) fun z=>Q (.d z) ρ2:=rfl
theorem dOpF_a:dOpF fl da db ρ QF=da ρ fun x ρ1=>db ρ1 fun y ρ2=>need (qa0q ρ2 x) fun dx=>need (qa0q ρ2 y) fun dy=>need (fl dx dy) fun z=>QF z ρ2:=rfl
theorem dCB_a:dCB fc daa ρ Q=daa ρ fun xs ρ1=>need (qa1x ρ1 xs) fun ds=>need (fc ds) fun z=>Q (.d z) ρ1:=rfl
theorem dCBF_a:dCBF fcl daa ρ QF=daa ρ fun xs ρ1=>need (qa1x ρ1 xs) fun ds=>need (fcl ds) fun z=>QF z ρ1:=rfl
theorem dTup_a:dTup daa ρ Q=daa ρ fun xs ρ1=>fzs ρ1 xs fun ys ρ2=>ys.length <= 1000000/\Q (.d (.tuple ys)) ρ2:=rfl
theorem dLst_a:dLst daa ρ QF=daa ρ fun xs ρ1=>fzs ρ1 xs fun ys ρ2=>ys.length <= 1000000/\QF ys ρ2:=rfl
theorem dFz_a:dFz df ρ Q=df ρ fun xs ρ1=>Q (.d (.list xs)) ρ1:=rfl
theorem dNil_a:dNil ρ QA=QA [] ρ:=rfl
theorem dCons_a:dCons de daa ρ QA=de ρ fun x ρ1=>daa ρ1 fun xs ρ2=>QA (x :: xs) ρ2:=rfl
theorem dB_a:dB de ρ QB=de ρ fun x ρ1=>need (qa0q ρ1 x) fun d=>need (asB d) fun b=>QB b ρ1:=rfl
theorem dTru_a:dTru de ρ QB=de ρ fun x ρ1=>need (qa0q ρ1 x) fun d=>need (tru d) fun b=>QB b ρ1:=rfl
theorem dAnd_a{v w:TDT}:dAnd v w ρ QB=v ρ fun b ρ1=>if b=true then w ρ1 QB else QB false ρ1:=rfl
theorem dOr_a{v w:TDT}:dOr v w ρ QB=v ρ fun b ρ1=>if b=true then QB true ρ1 else w ρ1 QB:=rfl
theorem dNot_a{v:TDT}:dNot v ρ QB=v ρ fun b ρ1=>QB (!b) ρ1:=rfl
theorem dIfE_a:dIfE c da db ρ Q=c ρ fun k ρ1=>if k=true then da ρ1 Q else db ρ1 Q:=rfl
theorem dAndV_a:dAndV da db ρ Q=da ρ fun x ρ1=>need (qa0q ρ1 x) fun d=>need (asB d) fun k=>if k=true then db ρ1 Q else Q (.d (.bool false)) ρ1:=rfl
theorem dOrV_a:dOrV da db ρ Q=da ρ fun x ρ1=>need (qa0q ρ1 x) fun d=>need (asB d) fun k=>if k=true then Q (.d (.bool true)) ρ1 else db ρ1 Q:=rfl
theorem dNotV_a:dNotV da ρ Q=da ρ fun x ρ1=>need (qa0q ρ1 x) fun d=>need (asB d) fun k=>Q (.d (.bool (!k))) ρ1:=rfl
theorem qd3n:qb6k f f' da db dc ρ Q=da ρ fun x ρ1=>db ρ1 fun y ρ2=>need (qa0q ρ2 x) fun dx=>need (qa0q ρ2 y) fun dy=>need (f dx dy) fun z=>need (asB z) fun k =>
 if k=true then dc ρ2 fun w ρ3=>need (qa0q ρ3 y) fun dy=>need (qa0q ρ3 w) fun dw=>need (f' dy dw) fun z'=>Q (.d z') ρ3 else Q (.d (.bool false)) ρ2:=rfl
theorem dIs_a:dIs T de ρ Q=de ρ fun x ρ1=>need (qa0q ρ1 x) fun d=>Q (.d (.bool (isD T d))) ρ1:=rfl
noncomputable def qa5i:Option L->Option (OK × List PyData)
 | some (.own xs)=>some (.o,xs)
 | some (.bor xs)=>some (.b,xs)
 | _=>none
theorem ownB_j:ownB ρ i=qa5i (ρ[i]?.join):=rfl
theorem ownBJ_o:qa5i (some (.own xs))=some (.o,xs):=rfl
theorem ownBJ_b:qa5i (some (.bor xs))=some (.b,xs):=rfl
theorem okL_o:okL .o xs=.own xs:=rfl
theorem okL_b:okL .b xs=.bor xs:=rfl
theorem qd0x:qb7t i de ρ Q=need (qa5i (ρ[i]?.join)) fun _=>de ρ fun x ρ1=>fz ρ1 x fun y ρ2=>need (qa5i (ρ2[i]?.join)) fun o=>o.2.length <= 1000000/\Q (.d .none) (ρ2.set i (some (okL o.1 (o.2 ++ [y])))):=rfl
theorem dPop_a:dPop i ρ Q=need (qa5i (ρ[i]?.join)) fun o=>need o.2.getLast? fun y=>Q (.d y) (ρ.set i (some (okL o.1 o.2.dropLast))):=rfl
theorem qd3o:qb2u i di' de D ρ=de ρ fun x ρ1=>fz ρ1 x fun y ρ2=>need (qa5i (ρ2[i]?.join)) fun _=>di' ρ2 fun z ρ3=>need (qa0q ρ3 z) fun dz=>need (qb2u.asI dz) fun n=>need (qa5i (ρ3[i]?.join)) fun o=>need (ixN o.2.length n) fun j=>D.nx (ρ3.set i (some (okL o.1 (o.2.set j y)))):=rfl
theorem asI2_i{n:Int}:qb2u.asI (.int n)=some n:=rfl
theorem asI_i{n:Int}:asI (.int n)=some n:=rfl
theorem qd3p:qb2t i x ρ N=(i < ρ.length/\N (ρ.set i (some (.d x)))):=rfl
theorem dgTup_a:dgTup n dgs (.tuple xs) ρ N=(xs.length=n/\dgs xs ρ N):=rfl
theorem qd3q:qc0s dg dgs (x :: xs) ρ N=dg x ρ fun ρ1=>dgs xs ρ1 N:=rfl
def dgNil_a:dgNil [] ρ N=N ρ:=by unfold dgNil;simp
theorem diDat_a:diDat de ρ QF=de ρ fun x ρ1=>fz ρ1 x fun y ρ2=>need (seqD y) fun xs=>QF xs ρ2:=rfl
theorem qd3r:qc0u de ρ QF=de ρ fun x ρ1=>need (qa0q ρ1 x) fun d=>need (asI d) fun j=>sm62 j/\QF (rngD 0 j.toNat) ρ1:=rfl
theorem qd3s:qc0y fs sp daa ρ Q=daa ρ fun xs ρ1=>pass fs xs ρ1 fun ls ρ2=>((flOf 0 fs xs).map (·.2)).Nodup/\sp ls fun r outs=>match r with
 | .d x=>Q (.d x) (fills outs (flOf 0 fs xs) ρ2)
 | .new ys=>Q (.d (.list ys)) (fills outs (flOf 0 fs xs) ρ2):=rfl
theorem pass_n:pass [] [] ρ QLs=QLs [] ρ:=rfl
def pass_f:pass (false :: fs) (y :: ys) ρ QLs=fzL ρ y fun l ρ1=>pass fs ys ρ1 fun ls ρ2=>QLs (l :: ls) ρ2:=by cases y<;>rfl
noncomputable def ioJ:Option L->Option L
 | some l=>if isOw l then some (lend l) else none
 | none=>none
theorem pass_t:pass (true :: fs) (.sl i :: ys) ρ QLs=pass fs ys ρ fun ls ρ2=>need (ioJ (ρ2[i]?.join)) fun l=>QLs (l :: ls) ρ2:=rfl
theorem ioJ_o:ioJ (some (.own xs))=some (.bor xs):=rfl
theorem ioJ_b:ioJ (some (.bor xs))=some (.bor xs):=rfl
theorem ioJ_t:ioJ (some (.tape n))=some (.tape n):=rfl
def fzJ(l:Option L)(ρ:Rho)(i:Nat)(Q:PyData->Rho->Prop):Prop:=match l with
 | some (.d y)=>Q y ρ
 | some (.own xs)=>Q (.list xs) (ρ.set i (some (.d (.list xs))))
 | _=>False
theorem fz_d:fz ρ (.d x) QD=QD x ρ:=rfl
theorem fz_sl:fz ρ (.sl i) QD=fzJ (ρ[i]?.join) ρ i QD:=rfl
theorem fzJ_d:fzJ (some (.d x)) ρ i QD=QD x ρ:=rfl
theorem fzJ_o:fzJ (some (.own xs)) ρ i QD=QD (.list xs) (ρ.set i (some (.d (.list xs)))):=rfl
def fzLJ(l:Option L)(ρ:Rho)(i:Nat)(Q:L->Rho->Prop):Prop:=match l with
 | some (.d y)=>Q (.d y) ρ
 | some (.own xs)=>Q (.d (.list xs)) (ρ.set i (some (.d (.list xs))))
 | some .scr=>Q .scr ρ
 | _=>False
theorem fzL_d:fzL ρ (.d x) QL=QL (.d x) ρ:=rfl
theorem fzL_sl:fzL ρ (.sl i) QL=fzLJ (ρ[i]?.join) ρ i QL:=rfl
theorem fzLJ_d:fzLJ (some (.d x)) ρ i QL=QL (.d x) ρ:=rfl
theorem fzLJ_o:fzLJ (some (.own xs)) ρ i QL=QL (.d (.list xs)) (ρ.set i (some (.d (.list xs)))):=rfl
theorem fzLJ_s:fzLJ (some .scr) ρ i QL=QL .scr ρ:=rfl
theorem fzs_n:fzs ρ [] QF=QF [] ρ:=rfl
theorem fzs_c:fzs ρ (y :: ys) QF=fz ρ y fun z ρ1=>fzs ρ1 ys fun zs ρ2=>QF (z :: zs) ρ2:=rfl
def flOf_n:flOf n [] ys=[]:=by cases ys<;>rfl
def flOf_f:flOf n (false :: fs) (y :: ys)=flOf (n + 1) fs ys:=by cases y<;>rfl
theorem flOf_t:flOf n (true :: fs) (.sl i :: ys)=(n,i) :: flOf (n + 1) fs ys:=rfl
noncomputable def qa9q(l:Option L)(ρi:Rho)(j i:Nat)(ρ:Rho):Rho:=match l with
 | some l0=>if isOw l0 then ρ.set i (qa5y ρi l0 j) else ρ
 | none=>ρ
theorem fills_n:fills ρi [] ρ=ρ:=rfl
theorem fills_c{r:List (Nat × Nat)}:fills ρi ((j,i) :: r) ρ=fills ρi r (qa9q (ρ[i]?.join) ρi j i ρ):=rfl
theorem qd3t:qa9q (some (.own xs)) ρi j i ρ=ρ.set i ((ρi[j]?.join).bind (qa8b (.own xs))):=rfl
theorem qd3u:qa9q (some (.bor xs)) ρi j i ρ=ρ.set i ((ρi[j]?.join).bind (qa8b (.bor xs))):=rfl
theorem qd3v:qa9q (some (.tape n)) ρi j i ρ=ρ.set i ((ρi[j]?.join).bind (qa8b (.tape n))):=rfl
theorem qd3w:qa9q (some (.d x)) ρi j i ρ=ρ:=rfl
theorem qd3x:qa9q (some .scr) ρi j i ρ=ρ:=rfl
theorem qd3y:qa9q none ρi j i ρ=ρ:=rfl
theorem relab_o:qa8b (.own xs) (.bor x')=some (.own x'):=rfl
theorem relab_b:qa8b (.bor xs) (.bor x')=some (.bor x'):=rfl
theorem relab_t{m:Nat}:qa8b (.tape n) (.tape m)=some (.tape m):=rfl
theorem lend_o:lend (.own xs)=.bor xs:=rfl
theorem lend_b:lend (.bor xs)=.bor xs:=rfl
theorem lend_t:lend (.tape n)=.tape n:=rfl
theorem lend_d:lend (.d x)=.d x:=rfl
theorem lend_s:lend .scr=.scr:=rfl
theorem dComp_a{cap:List 'r'}:dComp n cap di g tt te ρ QF=di ρ fun xs ρ1=>xs.length <= 1000000/\(cap.map (·.2)).Nodup/\qa2g g tt te (fun acc ρ'=>QF acc (fills ρ' (flC n cap) ρ1)) xs (capR n cap ρ1) []:=rfl
theorem flC_n:flC n []=[]:=rfl
theorem flC_c{p:Str × Nat}{r:List 'r'}:flC n (p :: r)=(n,p.2) :: flC (n + 1) r:=rfl
theorem capR_a{cap:List 'r'}:capR n cap ρ=List.replicate n none ++ cap.map fun p=>(ρ[p.2]?.join).map lend:=rfl
theorem deref_d:qa0q ρ (.d x)=some x:=rfl
theorem qd3z:qa0q ρ (.sl i)=(ρ[i]?.join).bind qb0w:=rfl
theorem qd4a:qb0w (.d x)=some x:=rfl
theorem qd4b:qb0w (.own xs)=some (.list xs):=rfl
theorem qd4c:qb0w (.bor xs)=some (.list xs):=rfl
theorem qd4d:qa1x ρ []=some []:=rfl
theorem qd4e:qa1x ρ (y :: ys)=(qa0q ρ y).bind fun z=>(qa1x ρ ys).map (z :: ·):=rfl
theorem asB_b{b:Bool}:asB (.bool b)=some b:=rfl
theorem tru_b{b:Bool}:tru (.bool b)=some b:=rfl
theorem tru_n:tru .none=some false:=rfl
theorem tru_i{i:Int}:tru (.int i)=some (i != 0):=rfl
theorem tru_l:tru (.list xs)=some (!xs.isEmpty):=rfl
theorem tru_t:tru (.tuple xs)=some (!xs.isEmpty):=rfl
theorem seqD_l:seqD (.list xs)=some xs:=rfl
theorem seqD_t:seqD (.tuple xs)=some xs:=rfl
theorem mask_n:mask [] ρ=[]:=rfl
theorem mask_d{ls:List L}{l:Option L}:mask (.d x :: ls) (l :: ρ)=none :: mask ls ρ:=rfl
theorem mask_s{ls:List L}{l:Option L}:mask (.scr :: ls) (l :: ρ)=none :: mask ls ρ:=rfl
theorem mask_t{ls:List L}{l:Option L}:mask (.tape n :: ls) (l :: ρ)=l :: mask ls ρ:=rfl
theorem mask_b{ls:List L}{l:Option L}:mask (.bor xs :: ls) (l :: ρ)=l :: mask ls ρ:=rfl
end
end L2
namespace L2
open PySem
def qa1c{g:TDG}{tt:TDT}{te:TDE}{Q:List PyData->Rho->Prop}{xs:List PyData}{ρ:Rho}(Sh:Rho->Prop)(fm:PyData->Option PyData)(h0:Sh ρ)
  (hs:∀ (x:PyData) (ρ:Rho) (N:Rho->Option PyData->Prop),x ∈ xs->Sh ρ->(∀ ρ',Sh ρ'->N ρ' (fm x))->g x ρ fun ρ1=>tt ρ1 fun b ρ2=>if b=true then te ρ2 fun y ρ3=>fz ρ3 y fun z ρ4=>N ρ4 (some z) else N ρ2 none)
  (hd:∀ ρ,Sh ρ->Q (xs.filterMap fm) ρ):qa2g g tt te Q xs ρ []:=by
 have key:∀ (r:List PyData) (acc:List PyData) (ρ:Rho),(∀ x ∈ r,x ∈ xs)->Sh ρ->(∀ ρ,Sh ρ->Q (acc ++ r.filterMap fm) ρ)->qa2g g tt te Q r ρ acc:=fun r=>by
  induction r with
  | nil=>intro acc ρ _ h hq;have:=hq ρ h;show Q acc ρ;simpa using this
  | cons x r ih =>
   intro acc ρ hm h hq;have step:=hs x ρ (fun ρ' o=>match o with | some z=>qa2g g tt te Q r ρ' (acc ++ [z]) | none=>qa2g g tt te Q r ρ' acc) (hm x mem_cons_self) h fun ρ' h'=>?_
   ·exact step
   ·cases e:fm x with
    | none =>
     refine ih acc ρ' (fun y hy=>hm y (mem_cons_of_mem _ hy)) h' fun ρ2 h2=>?_;have:=hq ρ2 h2
     rwa [List.filterMap_cons_none e] at this
    | some z =>
     refine ih (acc ++ [z]) ρ' (fun y hy=>hm y (mem_cons_of_mem _ hy)) h' fun ρ2 h2=>?_;have:=hq ρ2 h2;rw [List.filterMap_cons_some e] at this;simpa using this
 exact key xs [] ρ (fun _ h=>h) h0 fun ρ h=>by simpa using hd ρ h
def qa2v{c A B:Prop}[Decidable c](h1:c->A)(h2:¬ c->B):if decide c=true then A else B:=by
 by_cases h:c
 ·rw [if_pos (decide_eq_true h)];exact h1 h
 ·rw [if_neg (by simpa using h)];exact h2 h
def ite_b{b:Bool}{A B:Prop}(h1:b=true->A)(h2:b=false->B):if b=true then A else B:=by
 cases b
 ·rw [if_neg Bool.false_ne_true];exact h2 rfl
 ·rw [if_pos rfl];exact h1 rfl
end L2
namespace L2
end L2
end
section
namespace L2
open PySem PySem.Spec PyProof.Rows
abbrev TDO:=Rho->(Option Int->Rho->Prop)->Prop
section
variable{K:W.Frag}{c:Rc}{O:Own}{ρ:Rho}{σ:St}{H H':Hp}{S S':Addr->Prop}
def AdO(K:W.Frag)(t:TO)(dt:TDO):Prop:=∀ (c:Rc) (O:Own) (ρ:Rho) (σ:St) (H:Hp) (Qd:Option Int->Rho->Prop) (Q:Option Int->Hp->Prop),Rel K c O ρ σ H->dt ρ Qd ->
 (∀ o ρ' O' H',Qd o ρ'->Rel K c O' ρ' σ H'->Pers K (live c O) H (live c O') H'->Q o H')->t σ H Q
noncomputable def qc1c:TDO:=fun ρ Q=>Q none ρ
def qc1d(de:TDE):TDO:=fun ρ Q=>de ρ fun x ρ1=>need (qa0q ρ1 x) fun d=>need (asI d) fun i=>Q (some i) ρ1
def ao_none:AdO K qc5i qc1c:=fun c O ρ σ H Qd Q R h k=>k _ _ _ _ h R .refl
def ao_some{t:TE}{de:TDE}(h:AdE K t de):AdO K (tPart t) (qc1d de):=fun c O ρ σ H Qd Q R q k =>
 h c O ρ σ H _ _ R q fun x ρ1 O1 v H1 h1 R1 P1 a1=>by
  obtain⟨d,e1,hn6⟩:=ne (h1);obtain⟨i,e2,h2⟩:=ne (hn6);exact⟨i,qc0t (R1.top a1 e1) e2,k _ _ _ _ h2 R1 P1⟩
noncomputable def cutD(xs:List PyData)(lo hi:Option Int):List PyData:=(xs.drop (HT.sIx xs.length 0 lo)).take (HT.sIx xs.length xs.length hi - HT.sIx xs.length 0 lo)
def qa0c.cut{ds:List PyData}{vs:List V}(h:qa0c K H S ds vs)(lo hi:Option Int):qa0c K H S (cutD ds lo hi) (cutV vs lo hi):=by
 unfold cutD cutV;rw [h.length];exact(h.drop _).take _
abbrev FSl:=PyData->Option Int->Option Int->Option PyData
def dSl(f:FSl)(de:TDE)(dl dh:TDO):TDE:=fun ρ Q=>de ρ fun x ρ1=>dl ρ1 fun lo ρ2=>dh ρ2 fun hi ρ3=>need (qa0q ρ3 x) fun d=>need (f d lo hi) fun z=>Q (.d z) ρ3
def AdSl(K:W.Frag)(r:V->Option Int->Option Int->Hp->VK->Prop)(f:FSl):Prop:=∀ (S:Addr->Prop) (H:Hp) (x:V) (d z:PyData) (lo hi:Option Int) (Q:VK),Frs S H->AtT K H S d x->f d lo hi=some z->(∀ v H',Same H H'->AtD K H' S z v->Q v H')->r x lo hi H Q
def ad_sl{r:V->Option Int->Option Int->Hp->VK->Prop}{f:FSl}{te:TE}{tl th:TO}{de:TDE}{dl dh:TDO}(hr:AdSl K r f)(he:AdE K te de)(hl:AdO K tl dl)(hh:AdO K th dh):AdE K (tSl r te tl th) (dSl f de dl dh):=by
 intro c O ρ σ H Qd Q R h k;refine he c O ρ σ H _ _ R h fun x ρ1 O1 v H1 h1 R1 P1 a1=>?_;refine hl c O1 ρ1 σ H1 _ _ R1 h1 fun lo ρ2 O2 H2 h2 R2 P2=>?_;refine hh c O2 ρ2 σ H2 _ _ R2 h2 fun hi ρ3 O3 H3 h3 R3 P3=>?_;obtain⟨d,e1,hn5⟩:=ne (h3);obtain⟨z,e2,h4⟩:=ne (hn5);refine hr (live c O3) H3 v d z lo hi Q R3.frsLive (R3.top ((a1.pers P2).pers P3) e1) e2 fun w H4 s4 a4=>?_;exact k _ _ _ _ _ h4 (R3.grow s4) (((P1.trans P2).trans P3).trans (.same s4)) a4
noncomputable def fSlT:FSl
 | .tuple xs,lo,hi=>if HT.sIx xs.length 0 lo=0/\HT.sIx xs.length xs.length hi=xs.length then none else some (.tuple (cutD xs lo hi))
 | _,_,_=>none
def qb2v:AdSl K (rSlT K) fSlT:=by
 intro S H x d z lo hi Q f hx e k;unfold fSlT at e;split at e
 ·split at e
  ·cases e
  ·rename_i hn
   cases e
   obtain⟨a,vs,rfl,h1,h2⟩:=hx.tup;exact⟨a,vs,rfl,h1,by rw [h2.length];exact hn,fun p hp=>k _ _ (qa0x hp _) (qa9j hp (h2.cut lo hi))⟩
 ·cases e
noncomputable def fTab(tab:List 'j'):PyData->Option PyData
 | .str x=>tab.lookup x
 | _=>none
def dTab(tab:List 'j')(de:TDE):TDE:=fun ρ Q=>de ρ fun x ρ1=>need (qa0q ρ1 x) fun d=>need (fTab tab d) fun z=>Q (.d z) ρ1
noncomputable def qa2x:List PyData->Option 'f'
 | []=>some []
 | .int i :: r=>(qa2x r).map (i :: ·)
 | _ :: _=>none
def ints_map:∀ {ds:List PyData} {ns:List Int},qa2x ds=some ns->ds=ns.map .int
 | [],ns,h=>by cases h;rfl
 | d :: r,ns,h=>by
  cases d with
  | int i =>
   have h':(qa2x r).map (i :: ·)=some ns:=h;cases q:qa2x r with
   | none=>rw [q] at h';cases h'
   | some ms=>rw [q] at h';cases h';rw [ints_map q];rfl
  | _=>cases h
def ints_of(ns:List Int):qa2x (ns.map .int)=some ns:=by
 induction ns with
 | nil=>rfl
 | cons n r ih=>show(qa2x (r.map .int)).map (n :: ·)=_;rw [ih];rfl
def diRev(de:TDE):TDI:=fun ρ Q=>de ρ fun x ρ1=>need (qa0q ρ1 x) fun d=>need (asT d) fun xs=>Q xs.reverse ρ1
 where asT:PyData->Option (List PyData)
  | .tuple xs=>some xs
  | _=>none
noncomputable def downD(hi:Int)(n:Nat):List PyData:=(List.range n).map fun i=>.int (hi - (i:Nat))
def sm60(i:Int):Prop:=-(2 ^ 60) <= i/\i < 2 ^ 60
def diDown(da:TDA):TDI:=fun ρ Q=>da ρ fun xs ρ1=>need (qa1x ρ1 xs) fun ds=>need (three ds) fun p=>(sm60 p.1/\sm60 p.2)/\Q (downD p.1 (p.1 - p.2).toNat) ρ1
 where three:List PyData->Option (Int × Int)
  | [.int i,.int j,.int (-1)]=>some (i,j)
  | _=>none
def atV_int{i:Int}:AtV K S σ H (.d (.int i)) (.int i):=(qa2n i:AtD K H S (.int i) (.int i))
def dNeg(de:TDE):TDE:=fun ρ Q=>de ρ fun x ρ1=>need (qa0q ρ1 x) fun d=>need (asI d) fun i=>Q (.d (.int (-i))) ρ1
def ad_neg{t:TE}{de:TDE}(h:AdE K t de):AdE K (tUn (rU fun i=>.int (-i)) t) (dNeg de):=fun c O ρ σ H Qd Q R q k =>
 h c O ρ σ H _ _ R q fun x ρ1 O1 v H1 h1 R1 P1 a1=>by
  obtain⟨d,e1,hn1⟩:=ne (h1);obtain⟨i,e2,h2⟩:=ne (hn1);exact⟨i,qc0t (R1.top a1 e1) e2,k _ _ _ _ _ h2 R1 P1 atV_int⟩
end
section
variable{X:Cx}{e a b:Expr}{de da db:TDE}{lo hi:Option Expr}{dl dh:TDO}{tg:Expr}{pos p2:Pos}
def DO(X:Cx)(e:Option Expr)(dt:TDO):Prop:=∃ t,PO X e t/\AdO X.K t dt
def qb1a:DO X none qc1c:=⟨_,po_none,ao_none⟩
def qb1b(h:DE X e de):DO X (some e) (qc1d de):=by obtain⟨_,p,a⟩:=h;exact⟨_,po_some p,ao_some a⟩
def qa9r{r:V->Option Int->Option Int->Hp->VK->Prop}{f:FSl}(hr:SlR X r)(ha:AdSl X.K r f)(he:DE X e de)(hl:DO X lo dl)(hu:DO X hi dh):DE X (.Subscript e (.Slice lo hi none p2) pos) (dSl f de dl dh):=
 by obtain⟨_,p,a⟩:=he;obtain⟨_,p',a'⟩:=hl;obtain⟨_,p3,a3⟩:=hu;exact⟨_,qd2r hr p p' p3,ad_sl ha a a' a3⟩
def de_neg(h:DE X a da):DE X (.UnaryOp .USub a pos) (dNeg da):=by obtain⟨_,p,a⟩:=h;exact⟨_,pe_un un_neg p,ad_neg a⟩
end
section
variable{ρ:Rho}{de:TDE}{daa:TDA}{dl dh:TDO}{f:FSl}{tab:List 'j'}{Q:DV->Rho->Prop}{QF:List PyData->Rho->Prop}{QO:Option Int->Rho->Prop}{xs:List PyData}{x:Str}{i j:Int}
theorem dSl_a:dSl f de dl dh ρ Q=de ρ fun x ρ1=>dl ρ1 fun lo ρ2=>dh ρ2 fun hi ρ3=>need (qa0q ρ3 x) fun d=>need (f d lo hi) fun z=>Q (.d z) ρ3:=rfl
theorem qd4f:qc1c ρ QO=QO none ρ:=rfl
theorem qd4g:qc1d de ρ QO=de ρ fun x ρ1=>need (qa0q ρ1 x) fun d=>need (asI d) fun i=>QO (some i) ρ1:=rfl
theorem dTab_a:dTab tab de ρ Q=de ρ fun x ρ1=>need (qa0q ρ1 x) fun d=>need (fTab tab d) fun z=>Q (.d z) ρ1:=rfl
theorem fTab_s:fTab tab (.str x)=tab.lookup x:=rfl
theorem diRev_a:diRev de ρ QF=de ρ fun x ρ1=>need (qa0q ρ1 x) fun d=>need (diRev.asT d) fun xs=>QF xs.reverse ρ1:=rfl
theorem asT_t:diRev.asT (.tuple xs)=some xs:=rfl
theorem three_a:diDown.three [.int i,.int j,.int (-1)]=some (i,j):=rfl
theorem dNeg_a:dNeg de ρ Q=de ρ fun x ρ1=>need (qa0q ρ1 x) fun d=>need (asI d) fun i=>Q (.d (.int (-i))) ρ1:=rfl
end
end L2
namespace L2
open PySem
end L2
end
section
namespace L2
open PySem PySem.Spec PyProof.Rows
section
variable{α:Type}{a b c d e:α}{l:List α}{x y:Str}{i j:Int}{r:List PyData}
def atI_0:atI (a :: l) 0=some a:=qa6m (j:=0) rfl
def atI_1:atI (a :: b :: l) 1=some b:=qa6m (j:=1) rfl
def atI_2:atI (a :: b :: c :: l) 2=some c:=qa6m (j:=2) rfl
def atI_3:atI (a :: b :: c :: d :: l) 3=some d:=qa6m (j:=3) rfl
def atI_4:atI (a :: b :: c :: d :: e :: l) 4=some e:=qa6m (j:=4) rfl
theorem flatD_s:qa1n (.str x)=true:=rfl
theorem flatD_i:qa1n (.int i)=true:=rfl
theorem inF_nil{z:PyData}:inF z []=false:=rfl
def inF_s:inF (.str x) (.str y :: r)=(decide (y=x) || inF (.str x) r):=by
 show((y == x) || inF (.str x) r)=_;congr 1
def inF_i:inF (.int i) (.int j :: r)=(decide (j=i) || inF (.int i) r):=by
 show((j == i) || inF (.int i) r)=_;congr 1
end
end L2
namespace L2
open PySem PySem.Spec PyProof.Rows
def spLaw(K:W.Frag):Sp:=fun vs H Q _=>∃ (a:Addr) (ns:List Int),vs=[.ref a]/\SqL K H a (ns.map V.int)/\Only H/\ns.length <= 63/\∀ H',Q (.bl true) H'
section
variable{P:Program}{w:World}{K:W.Frag}{mg:Str->Option Value}{base:Heap}
def rel_law{H:Hp}{a p:Addr}{ns:List Int}{n:Nat}(hO:Only H)(hS:SqL K H a (ns.map V.int))(hl:ns.length <= 63)(hp:H p=none) :
  Rel K { H0:=upd H p (.lst [.ref a,.int 0]),S:=fun b=>b ≠ p,P:=fun _=>False,M:=fun b=>b=p,A:=fun b=>b=p ∨ upd H p (.lst [.ref a,.int 0]) b=none,B:=fun b=>b=p,lent:=fun i=>if i=1 then some p else none,sa:=a,ns:=ns }
   (fun i=>if i=1 then some p else none) (some .scr :: some (.tape 0) :: List.replicate n none) (some (.ref a) :: some (.ref p) :: List.replicate n none) (upd H p (.lst [.ref a,.int 0])):=by
 have at_:∀ {i:Nat} {l:L},(some L.scr :: some (L.tape 0) :: List.replicate n none:Rho)[i]? = some (some l)->(i=0/\l=.scr) ∨ (i=1/\l=.tape 0):=fun{i l} e=>by
  match i,e with
  | 0,e=>cases e;exact .inl ⟨rfl,rfl⟩
  | 1,e=>cases e;exact .inr ⟨rfl,rfl⟩
  | i + 2,e =>
   rw [List.getElem?_cons_succ,List.getElem?_cons_succ,List.getElem?_replicate] at e;split at e<;>cases e
 have own:∀ {i:Nat} {q:Addr},(if i=1 then some p else none)=some q->i=1/\q=p:=fun{i q} e=>by
  split at e
  ·cases e;exact⟨by assumption,rfl⟩
  ·cases e
 have sc:Scr K H a (ns.map V.int):=by
  refine⟨by simpa using hl,?_⟩;rcases hS with(h | h) | h
  ·rcases hO a with z | ⟨o,xs,z⟩<;>rw [h] at z<;>cases z
  ·exact .inl h
  ·exact .inr h
 refine⟨fun i x e=>?_,fun i x e=>?_,fun i x e=>?_,fun i k e=>?_,fun i e=>?_,fun i j q e1 e2=>?_,fun i q e=>?_,fun q h=>?_,fun q h=>?_,fun b o _ h=>h,fun b h=>h,fun q h=>?_,fun q h=>?_,fun i q e l h1 h2=>e,sc.keep (S:=Any) (qa0x hp _).keep,by simp⟩
 ·rcases at_ e with⟨_,z⟩ | ⟨_,z⟩<;>cases z
 ·rcases at_ e with⟨_,z⟩ | ⟨_,z⟩<;>cases z
 ·rcases at_ e with⟨_,z⟩ | ⟨_,z⟩<;>cases z
 ·rcases at_ e with⟨_,z⟩ | ⟨rfl,z⟩
  ·cases z
  ·cases z;exact⟨p,if_pos rfl,rfl,qa0k⟩
 ·rcases at_ e with⟨rfl,_⟩ | ⟨_,z⟩
  ·rfl
  ·cases z
 ·rw [(own e1).1,(own e2).1]
 ·rw [(own e).2];exact⟨.inl rfl,_,qa0k⟩
 ·rcases h with h | h
  ·exact .inl h
  ·exact .inr h
 ·rintro rfl
  have h':upd H q (.lst [.ref a,.int 0]) q=none:=h;rw [qa0k] at h';cases h'
 ·have h':q=p:=h
  subst h';exact⟨_,qa0k⟩
 ·rcases h with h | h
  ·exact h.elim
  ·have h':q=p:=h
   subst h';rw [qa0k];exact fun z=>nomatch z
def Fun.law{st:Stmt}{f:Addr}{fd:FuncData}{N':List Str}{k:Nat} (F:Fun K "law" "law" st f fd) (S:FnScope ("_law_script" :: "_law_tape" :: N') ["_law_script"] (qa0l st))
  (hbody:∀ (cdv:Value) (A:Around) (outer:List Env) (s:Shared) (H:Hp) (E:XK),Room k (A.deeper (envOfC "law" (qa0l st) s.heap.objs.size f cdv)) ->
   ∃ (st0:Stmt) (rest:List Stmt),qa4q st=st0 :: rest/\PS (cxOf CX0 P w K mg base ("_law_script" :: "_law_tape" :: N') "law" (qa0l st) f cdv A outer s H E).nox st0 (tAsg (tLst (qa3f (tVar 0) (qa3f (tC (.int 0)) tNil))) (qa3l 1)) /\
    ∃ dt,DSs (cxOf CX0 P w K mg base ("_law_script" :: "_law_tape" :: N') "law" (qa0l st) f cdv A outer s H E).nox rest dt/\dt { nx:=fun _=>False,rt:=fun r _=>r=.d (.bool true) } (some .scr :: some (.tape 0) :: List.replicate N'.length none)) :
  FnOk P w K mg base CX0 (k + 1) f fd ["_law_script"] (spLaw K):=by
 refine F.ok S (fun vs H Q E h=>?_) (fun cdv A outer s H vs Q E hr h=>?_)
 ·obtain⟨a,ns,rfl,_⟩:=h;rfl
 obtain⟨a,ns,rfl,hS,hO,hl,q⟩:=h;obtain⟨st0,rest,eb,p0,dt,⟨t,pt,at_⟩,hd⟩:=hbody cdv A outer s H E hr;rw [eb];refine⟨_,qa2a p0 pt,⟨.ref a,rfl,by show 2 <= sizeLine;decide,fun p hp=>?_⟩⟩;have e:(start ("_law_script" :: "_law_tape" :: N') [.ref a]).set 1 (some (.ref p))=some (.ref a) :: some (.ref p) :: List.replicate N'.length none:=by
  unfold start;simp [replicate_succ]
 show t _ ((start ("_law_script" :: "_law_tape" :: N') [.ref a]).set 1 (some (.ref p))) (upd H p (.lst [.ref a,.int 0]));rw [e];refine at_ _ _ _ _ _ _ _ (rel_law hO hS hl hp) ⟨fun _ _ _ _ _ _ z=>(show False from z).elim,fun r O1 ρ1 σ1 H1 v h z=>?_,fun _ _ _ _ _ _ z=>(show False from z).elim,fun _ _ _ _ _ _ z=>(show False from z).elim,fun _ z=>z,fun _ z=>.inr z⟩ hd;have z':r=.d (.bool true):=z;subst z';have ev:=qa5o h.2;subst ev;exact q H1
end
end L2
end
namespace L2
open PySem PySem.Spec PyProof.Rows
section
section
variable{P:Program}{w:World}{K:W.Frag}{mg:Str->Option Value}{base:Heap}
def sp_none{n:Nat}{f:Addr}{fd:FuncData}{ps:List Str}{ds:DSp}(h:∀ ls Q,¬ ds ls Q):FnOk P w K mg base CX0 n f fd ps (spD K ds):=by
 have no:∀ vs H Q E,¬ spD K ds vs H Q E:=fun vs H Q E z=>by
  obtain⟨c,O,ls,Qd,_,_,_,_,_,_,z,_⟩:=z;exact h _ _ z
 exact⟨fun vs H Q E h=>absurd h (no vs H Q E),fun A outer s H args us vs Q E _ _ _ _ h=>absurd h (no vs H Q E)⟩
end
end
section
def ItX(b:Bool)(h:Heap)(it a:Addr)(k:Nat):Prop:=match b with | true=>h.IsListIter it a k | false=>h.IsTupleIter it a k
def SqX(b:Bool)(h:Heap)(a:Addr)(xs:Array Value):Prop:=match b with | true=>h.IsList a xs | false=>h.IsTuple a xs
section
variable{prog:Program}{w:World}{A:Around}{E:Value->Shared->Prop}{s:Shared}
def qd4h{it t:Addr}{i:Nat}{items:Array Value}{x:Value}{Q:Value->Shared->Prop}(hit:s.heap.IsTupleIter it t i)(ht:s.heap.IsTuple t items)(hx:items[i]? = some x)
  (hQ:∀ h',h'.IsTupleIter it t (i + 1)->Heap.SameBut it s.heap h'->Q x { s with heap:=h' }):wpAny (model prog w) A (Builtin.SmallTypes.nextOf (.ref it)) Q E s:=by
 obtain⟨oi,gi,ci,di⟩:=id hit;obtain⟨ot,gt,_,nt,dt⟩:=ht;unfold Builtin.SmallTypes.nextOf;refine wpAny_bind (wpAny_callSpecial?_slot (name:=Str.ofString "__next__") hit.typeIs F.slot_tuple_iterator_next (wpAny_call_entry F.slot_tuple_iterator_next hit.typeIs F.entry_tuple_iterator_next ?_ (F.args_tuple_iterator_next_1 _)));refine wpAny_bind (m:=field (.ref it) 0) (wpAny_field gi di (x:=.ref t) rfl ?_);show wpAny (model prog w) _ (if (Value.ref t == Value.none)=true then _ else _) _ E s;rw [if_neg (show ¬ ((Value.ref t == Value.none)=true) from nofun)];refine wpAny_bind (m:=field (.ref it) 1) (wpAny_field gi di (x:=.int i 0) rfl (wpAny_bind (m:=seqItems? (.ref t)) (wpAny_seqItems gt dt ?_)));simp only [hx,toNat_natCast];exact wpAny_bind (wpAny_setField gi di 'h' (wpAny_pure ⟨x,rfl,wpAny_pure (hQ _ ⟨_,get?_update_self _ gi (Obj.isFreed_of_fields (Obj.data_mapFields di _)),(Obj.cls_mapFields ..).trans ci,by rw [Obj.data_mapFields di];simp [rawInt]⟩ (Heap.SameBut.update ..))⟩))
def nxT_end{it t:Addr}{i:Nat}{items:Array Value}{Q:Value->Shared->Prop}(hh:A.handled=none)(hit:s.heap.IsTupleIter it t i)(ht:s.heap.IsTuple t items)(hx:items[i]? = none)
  (hE:∀ h' e,Heap.ExtBut it s.heap h'->(∃ o,h'.get? e=some o/\o.cls=.type "StopIteration")->E (.ref e) { s with heap:=h' }):wpAny (model prog w) A (Builtin.SmallTypes.nextOf (.ref it)) Q E s:=by
 obtain⟨oi,gi,ci,di⟩:=id hit;obtain⟨ot,gt,_,nt,dt⟩:=ht;unfold Builtin.SmallTypes.nextOf;refine wpAny_bind (wpAny_callSpecial?_slot (name:=Str.ofString "__next__") hit.typeIs F.slot_tuple_iterator_next (wpAny_call_entry F.slot_tuple_iterator_next hit.typeIs F.entry_tuple_iterator_next ?_ (F.args_tuple_iterator_next_1 _)));refine wpAny_bind (m:=field (.ref it) 0) (wpAny_field gi di (x:=.ref t) rfl ?_);show wpAny (model prog w) _ (if (Value.ref t == Value.none)=true then _ else _) _ E s;rw [if_neg (show ¬ ((Value.ref t == Value.none)=true) from nofun)];refine wpAny_bind (m:=field (.ref it) 1) (wpAny_field gi di (x:=.int i 0) rfl (wpAny_bind (m:=seqItems? (.ref t)) (wpAny_seqItems gt dt ?_)));simp only [hx,toNat_natCast];refine wpAny_bind (wpAny_rule (wpAny_bind (wpAny_setField gi di 'h' (wpAny_bind (m:=newExc (.type "StopIteration") []) ?_))));simp only [newTuple,newExc];refine wpAny_bind (wpAny_newObj_type (wpAny_bind (m:=firstArgMember _ _) (wpAny_of_eq (a:=Value.none) (by first | rfl | (simp only [firstArgMember];rfl)) (wpAny_newObj_type ?_ (by size_fits)))) (by size_fits));simp only [raiseNew];refine wpAny_bind (wpAny_handled ?_);rw [show A.in1.handled=none from hh];exact wpAny_bind (wpAny_pure (wpAny_throw (hE _ _ (((Heap.SameBut.update ..).extBut.push _).push _) ⟨_,get?_push_size _ rfl,rfl⟩)))
end
section
variable{X:Cx}{pins:List 'g'}{σ:List (Option V)}{H H':Hp}{s:Shared}{h':Heap}
def Inv.turnedL{t':Nat}{ch:List Addr}(I:Inv X pins σ H s)(k:∀ b o,b ∉ ch->s.heap.get? b=some o->h'.get? b=some o)(hf:∀ b ∈ ch,FpOk X pins H b):Inv X pins σ H { s with heap:=h',toks:=t' }:=by
 have nit:∀ b u,H b=some u->b ∉ ch:=fun b u e z=>by have:=(hf b z).1;rw [e] at this;cases this
 have nl:X.env.locals ∉ ch:=fun z=>(hf _ z).2.1 rfl;refine I.step (g':=s.gens) (d':=s.drawn) (ch:=ch) (fun b hb=>⟨(hf b hb).2.2.2.1,(hf b hb).2.1,(hf b hb).2.2.2.2.1,(hf b hb).2.2.2.2.2⟩) (fun b o _ _ hc e _=>k b o hc e) (fun b o _ _ hc e _=>⟨o.slots,k b o hc e⟩) (fun _ _ _ _ n=>n)
  (fun b o hc e=>⟨o,k b o hc e⟩) (fun _ _ e=>e) (fun _ _ _ e=>e) (fun b ps e=>⟨#[],by rw [e];simp⟩) (fun m hm=>?_) (fun b u e=>?_) I.bare
 ·obtain⟨o,es,ep,ho,r⟩:=hm
  exact⟨o,es,ep,k _ o nl ho,r⟩
 ·refine(I.hok b u e).stay (fun c v hc q=>k c v ?_ q) (fun _ q=>q) fun _ _ q=>q
  rcases hc with z | z
  ·rw [z];exact nit b u e
  ·exact nit c _ z
def SqB(b:Bool)(K:W.Frag)(H:Hp)(a:Addr)(xs:List V):Prop:=match b with | true=>SqL K H a xs | false=>SqT K H a xs
end
def ZSt(b:Bool)(z TI TO i1 i2 a1 a2:Addr)(i:Nat)(h:Heap):Prop:=IsZip h z TI TO .none/\IsPair h TI (.ref i1) (.ref i2)/\(∃ p q,IsPair h TO p q)/\ItX b h i1 a1 i/\ItX b h i2 a2 i
end
section
section
variable{K:W.Frag}{S:Addr->Prop}{H:Hp}
def SqS(b:Bool)(K:W.Frag)(S:Addr->Prop)(H:Hp)(a:Addr)(vs:List V):Prop:=match b with | true=>S a/\H a=some (.lst vs) | false=>SqT K H a vs
end
end
section
section
variable{X:Cx}
def kit2(K:W.Frag)(d:PyData)(T U:String)(hT:qa2d T=true)(hU:qa2d U=true):PySem.W.kitAny K (.type (tyD d)) [.type T,.type U]=some (isD T d || isD U d):=by
 have e1:=qc0l K d T hT;have e2:=qc0l K d U hU;simp only [PySem.W.kitAny,e1,e2];cases isD T d<;>cases isD U d<;>rfl
def qd0y{pins:List 'g'}{s:Shared}{σ:St}{H:Hp}{S:Addr->Prop}{d:PyData}{v:V}{u:Value}{tp:Addr}{T U:String}{Q:VK}(I:Inv X pins σ H s)(h:AtD X.K H S d v)(r:RelV v u)(ht:SqT X.K H tp [.ty T,.ty U])
  (hT:qa2d T=true) (hU:qa2d U=true) (q:Q (.bl (isD T d || isD U d)) H):wpAny (model X.prog X.w) X.A (call (.builtin "isinstance") [u,.ref tp]) (EP X pins σ Q) X.xe s:=by
 obtain⟨its,rv,⟨⟨oc,od,odt,osl⟩,e,hc,n,hd⟩,_⟩:=I.tuple ht;obtain⟨t1,t2,rfl,q1,q2⟩:=rv.two;cases q1;cases q2;simp only at hc hd;subst hc;subst hd;have fin:∀ tk,EP X pins σ Q (.bool (isD T d || isD U d)) { s with toks:=tk }:=fun tk=>⟨.bl _,H,I.tok tk,rfl,q⟩;have k2:=kit2 X.K d T U hT hU;cases d with
 | none=>cases qa8s h;cases r;exact PySem.W.kia_tup PySem.W.kitx_none I.kIn True.intro e k2 'n' fin
 | bool b=>cases qa5o h;cases r;exact PySem.W.kia_tup PySem.W.kitx_bool I.kIn True.intro e k2 'n' fin
 | int i=>cases qa7m h;obtain⟨t,rfl⟩:=r;exact PySem.W.kia_tup PySem.W.kitx_int I.kIn True.intro e k2 'n' fin
 | str x=>cases qa9h h;obtain⟨t,rfl⟩:=r;exact PySem.W.kia_tup PySem.W.kitx_str I.kIn True.intro e k2 'n' fin
 | list ds =>
  obtain⟨a,xs,rfl,_,hq,_⟩:=qa4b h;cases r;obtain⟨its,_,⟨o,n,e',hc,_,hd⟩,_⟩:=I.list (SqL.of hq);exact PySem.W.kia_tup PySem.W.kitx_list I.kIn ⟨o,e',hc⟩ e k2 'n' fin
 | tuple ds =>
  obtain⟨a,xs,rfl,hq,_⟩:=qa3d h;cases r;obtain⟨its,_,⟨o,e',hc,n,hd⟩,_⟩:=I.tuple hq;exact PySem.W.kia_tup PySem.W.kitx_tuple I.kIn ⟨o,e',hc⟩ e k2 'n' fin
 | dict kvs =>
  obtain⟨a,ν,rfl,_,hq,_⟩:=qa8t h;cases r;obtain⟨_,_,vs,kv,o,es,ep,e',hc,hd,_,hp,_⟩:=(show qa1v X.prog X.w H s.heap a (.dK ν) from I.hok a _ hq);exact PySem.W.kia_tup PySem.W.kitx_dict I.kIn ⟨o,e',hc.1⟩ e k2 'n' fin
noncomputable def rIs2(K:W.Frag):List V->Hp->VK->Prop:=fun xs H Q=>∃ v S d tp T U,xs=[v,.ref tp]/\AtD K H S d v/\SqT K H tp [.ty T,.ty U]/\qa2d T=true/\qa2d U=true/\Q (.bl (isD T d || isD U d)) H
def qd0z:qa2e X (.builtin "isinstance") (rIs2 X.K):=by
 intro pins s σ H xs us Q I rs h;obtain⟨v,S,d,tp,T,U,rfl,hd,ht,hT,hU,q⟩:=h;obtain⟨u,u2,rfl,r1,r2⟩:=rs.two;cases r2;exact qd0y I hd r1 ht hT hU q
end
section
variable{K:W.Frag}
def dIs2(T U:String)(de:TDE):TDE:=fun ρ Q=>de ρ fun x ρ1=>need (qa0q ρ1 x) fun d=>Q (.d (.bool (isD T d || isD U d))) ρ1
def ad_is2{t:TE}{de:TDE}{T U:String}(hT:qa2d T=true)(hU:qa2d U=true)(h:AdE K t de):AdE K (tCB (rIs2 K) (qa3f t (qa3f (tTup (qa3f (tC (.ty T)) (qa3f (tC (.ty U)) tNil))) tNil))) (dIs2 T U de):=fun c O ρ σ H Qd Q R q k =>
 h c O ρ σ H _ _ R q fun x ρ1 O1 v H1 h1 R1 P1 a1=>by
  obtain⟨d,e1,h2⟩:=ne (h1);refine⟨by show 2 <= sizeLine;decide,fun p hp=>?_⟩;have e:=qa0x hp (.tup [V.ty T,V.ty U]);exact⟨v,Any,d,p,T,U,rfl,AtD.mono e.keep _ _ (R1.top a1 e1).any,SqT.of qa0k,hT,hU,k _ _ _ _ _ h2 (R1.grow e) (P1.trans (Pers.of e.keep fun _ z=>z)) qa9l⟩
end
def de_is2{X:Cx}{e:Expr}{de:TDE}{x y:Str}{T U:String}{p p2 p3 pt pos:Pos}{kk:Nat} (hg:Gl X "isinstance") (hm:X.mg "isinstance" = none) (hg2:Gl X x) (hm2:X.mg x=none) (hv:bootBuiltins x=some (.type T)) (hT:qa2d T=true)
  (hg3:Gl X y) (hm3:X.mg y=none) (hv3:bootBuiltins y=some (.type U)) (hU:qa2d U=true) (he:DE X e de) (hn:x ≠ "__name__":=by decide) (hd:(x == ("__debug__" : Str))=false:=by decide) (hn3:y ≠ "__name__":=by decide) (hd3:(y == ("__debug__" : Str))=false:=by decide)
  (hs:starEach [e,.Tuple [.Name x p2,.Name y p3] kk pt] X.env=(false,eval e X.env) :: starEach [.Tuple [.Name x p2,.Name y p3] kk pt] X.env:=by rfl):DE X (.Call (.Name "isinstance" p) [e,.Tuple [.Name x p2,.Name y p3] kk pt] [] pos) (dIs2 T U de):=by
 obtain⟨t,pe,ae⟩:=he;exact⟨_,qa5l qd0z hg hm qb2j (qa1f pe (qa1f (pe_tup (qa1f (pe_ty hg2 hm2 hv hn hd) (qa1f (pe_ty hg3 hm3 hv3 hn3 hd3) qa2j))) qa2j) hs) 'd' 'd' hs rfl,ad_is2 hT hU ae⟩
theorem dIs2_a{T U:String}{de:TDE}{ρ:Rho}{Q:DV->Rho->Prop}:dIs2 T U de ρ Q=de ρ fun x ρ1=>need (qa0q ρ1 x) fun d=>Q (.d (.bool (isD T d || isD U d))) ρ1:=rfl
end
section
section
variable{K:W.Frag}{c:Rc}{O:Own}{ρ:Rho}{σ:St}{H H':Hp}
def qa0c.same{S:Addr->Prop}{ds:List PyData}{vs:List V}(e:Same H H')(h:qa0c K H S ds vs):qa0c K H' S ds vs:=qa0c.mono e.keep ds vs h
end
end
section
def qb2w:bootBuiltins "enumerate" = some (.type "enumerate"):=by decide +kernel
noncomputable def Ite(K:W.Frag)(a:Addr):It:=
 ⟨fun i H=>∃ xs x,SqL K H a xs/\xs[i]? = some x,fun i H v H'=>∃ T x,v=.ref T/\H T=none/\H'=upd H T (.tup [.int i,x])/\∀ xs,SqL K H a xs->xs[i]? = some x,fun i H=>∃ xs,SqL K H a xs/\xs.length <= i⟩
def ESt(e it a:Addr)(i:Nat)(h:Heap):Prop:=(∃ old,IsEnum h e it i old)/\h.IsListIter it a i
def qd1a{P:Program}{w:World}{K:W.Frag}{elts:List Expr}{kk:Nat}{tp:Pos}{e it a:Addr}(ne:e ≠ it):Turn P w K (.Tuple elts kk tp) (Ite K a) [e,it] e (ESt e it a) where
 mem:=by simp
 obj:=fun i h st c hc=>by
  obtain⟨⟨old,x1⟩,x2⟩:=st;have hc:c=e ∨ c=it:=by simpa using hc
  rcases hc with rfl | rfl
  ·exact⟨_,x1,fun v y=>by cases (show Data.fields _=Data.cell v from y)⟩
  ·obtain⟨o,g,_,d⟩:=x2
   exact⟨o,g,fun v y=>by rw [d] at y;cases y⟩
 keep:=fun i h h' st k=>by
  obtain⟨⟨old,x1⟩,x2⟩:=st;exact⟨⟨old,k e 'h' _ x1⟩,x2.at fun o g=>k it 'h' o g⟩
 item:=by
  intro X hP hw hK hc i pins s σ H E I hf st hg;subst hP hw hK;obtain⟨xs,x,hq,hx⟩:=hg;obtain⟨⟨old,x1⟩,x2⟩:=id st;obtain⟨its,rv,p,_⟩:=I.list hq;obtain⟨u,hu,ru⟩:=rv.get hx;have lt:∀ c ∈ [e,it],c < s.heap.objs.size:=fun c hc=>by
   have hc:c=e ∨ c=it:=by simpa using hc
   rcases hc with rfl | rfl
   ·exact lt_size x1
   ·obtain⟨o,g,_⟩:=x2;exact lt_size g
  refine wpAny_pyNext_enum_item x1 x2 p.isList (x:=u) (by simpa using hu) ne fun h1 j1 j2 j3 j4 j5=>⟨_,rfl,wpAny_letOwnedTupleGo_enum j1 fun h2 e2 s2=>?_⟩;have up:∀ c o,c ≠ e->h1.get? c=some o->h2.get? c=some o:=fun c o d g=>s2.extBut _ _ d g;have I1:Inv X pins σ (upd H s.heap.objs.size (.tup [.int i,x])) { s with heap:=s.heap.push { cls:=.type "tuple",data:=.seq [Value.int i s.toks,u].toArray } }:=
   I.laid (t':=s.toks) (fun b o e=>get?_push_of_some _ e) 'e' (show qa1v X.prog X.w _ _ _ (.tup [.int i,x]) from⟨by show 2 <= sizeLine;decide,[Value.int i s.toks,u],.cons ⟨_,rfl⟩ (.cons ru .nil),qa4k.new _ _⟩)
  have fpn:∀ c ∈ [e,it],(upd H s.heap.objs.size (.tup [.int i,x])) c=none:=fun c hc=>by rw [qa0j (ne_of_lt (lt c hc))];exact(hf c hc).1
  have I2:Inv X pins σ (upd H s.heap.objs.size (.tup [.int i,x])) { s with heap:=h2,toks:=s.toks + 1 }:=by
   refine Inv.turnedL (s:={ s with heap:=s.heap.push { cls:=.type "tuple",data:=.seq [Value.int i s.toks,u].toArray } }) (t':=s.toks + 1) (ch:=[e,it]) I1 (fun c o hc g=>?_) fun c hc=>⟨fpn c hc,(hf c hc).2⟩;have g:(s.heap.push { cls:=.type "tuple",data:=.seq [Value.int i s.toks,u].toArray }).get? c=some o:=g;have hc:c ≠ e/\c ≠ it:=by simpa using hc
   refine up c o hc.1 ?_;rcases Heap.get?_push_cases g with⟨rfl,rfl⟩ | g'
   ·exact j3
   ·exact j5 c o hc.1 hc.2 g'
  exact⟨.ref s.heap.objs.size,_,I2,rfl,⟨_,x,rfl,I.hok.fresh 'e',rfl,fun zs hz=>by rw [I.list_inj hz hq];exact hx⟩,⟨⟨_,by simpa using e2⟩,j2.at fun o g=>up _ _ (Ne.symm ne) g⟩,fpn⟩
 done:=by
  intro X hP hw hK hc i pins s σ H E I hf st hg;subst hP hw hK;obtain⟨xs,hq,hx⟩:=hg;obtain⟨⟨old,x1⟩,x2⟩:=id st;obtain⟨its,rv,p,_⟩:=I.list hq;have hl:=rv.length;refine wpAny_pyNext_enum_end (I.ok.hd hc) x1 x2 p.isList (by simp;omega) fun h1 j=>⟨rfl,?_⟩;exact I.turnedL (t':=s.toks) (ch:=[e,it]) (fun c o hc g=>j c o (fun z=>hc (by simp [z])) g) hf
 self:=fun _ _ _ _ _ st h=>by obtain⟨⟨old,x1⟩,_⟩:=st;exact wpAny_pyIter_enum x1 h
section
variable{X:Cx}
def iEnum(K:W.Frag)(ta:TE):TI:=fun σ H R=>ta σ H fun x H1=>∃ a xs,x=.ref a/\SqL K H1 a xs/\R (Ite K a) H1
def pi_enum{l:Expr}{tl:TE}{p pos tp:Pos}{elts:List Expr}{kk:Nat} (hg:Gl X "enumerate") (hm:X.mg "enumerate" = none) (hl:PE X l tl) (hs:starEach [l] X.env=[(false,eval l X.env)]:=by rfl) :
  PI X (.Tuple elts kk tp) (.Call (.Name "enumerate" p) [l] [] pos) (iEnum X.K tl):=by
 intro pins s σ H R I h;refine Call_ (qa4r I hg hm qb2w (PyProof.Rows.callWith_type1 (thn ((qa1f (t:=tNil) hl qa2j hs) pos pins s σ H (fun vs H1=>∃ a xs,vs=[.ref a]/\SqL X.K H1 a xs/\R (Ite X.K a) H1) I ?_) fun us s1 ⟨vs,H1,I1,r1,q1⟩=>?_) hs rfl))
 ·show tl σ H fun x H1=>∃ a xs,[x]=[V.ref a]/\SqL X.K H1 a xs/\R (Ite X.K a) H1
  simpa [iEnum] using h
 ·obtain⟨a,xs,rfl,hq,q⟩:=q1
  obtain⟨u,rfl,ru⟩:=r1.one;cases ru;obtain⟨its,rv,pl,hz⟩:=I1.list hq;refine call_enumerate_list pl.isList fun h' j1 j2 j3 j4=>wpAny_pyIter_enum j1 ⟨s1.heap.objs.size + 1,[s1.heap.objs.size + 1,s1.heap.objs.size],_,_,H1,rfl,I1.kept (t':=s1.toks) j4,qd1a (Nat.succ_ne_self _),⟨⟨_,j1⟩,j2⟩,fun c hc=>?_,q⟩;have hc:c=s1.heap.objs.size + 1 ∨ c=s1.heap.objs.size:=by simpa using hc
  have ge:s1.heap.objs.size <= c:=by rcases hc with rfl | rfl;exact le_succ _;exact le_refl _
  exact I1.fpOk ge (I1.hok.fresh ge)
end
section
variable{K:W.Frag}{S:Addr->Prop}{H:Hp}
noncomputable def qa8d(xs:List PyData):List PyData:=xs.zipIdx.map fun p=>.tuple [.int (p.2:Int),p.1]
def qb2x(xs:List PyData):(qa8d xs).length=xs.length:=by unfold qa8d;rw [length_map,List.length_zipIdx]
def qb8x{xs:List PyData}{i:Nat}:(qa8d xs)[i]? = (xs[i]?).map fun x=>.tuple [.int (i:Int),x]:=by
 unfold qa8d;rw [getElem?_map,List.getElem?_zipIdx];cases xs[i]?<;>simp
def diEnum(de:TDE):TDI:=fun ρ Q=>de ρ fun x ρ1=>fz ρ1 x fun y ρ2=>need (match y with | .list xs=>some xs | _=>none) fun xs=>Q (qa8d xs) ρ2
end
theorem qd4i{de:TDE}{ρ:Rho}{Q:List PyData->Rho->Prop}:diEnum de ρ Q=de ρ fun x ρ1=>fz ρ1 x fun y ρ2=>need (match y with | .list xs=>some xs | _=>none) fun xs=>Q (qa8d xs) ρ2:=rfl
end
section
section
variable{κ:Type}[DecidableEq κ]
noncomputable def valV(kvs:List (κ × V))(k:κ):Option V:=(kvs.find? fun kv=>decide (kv.1=k)).map (·.2)
noncomputable def putK(kvs:List (κ × V))(k:κ)(v:V):List (κ × V):=
 if (kvs.any fun kv=>decide (kv.1=k))=true then kvs.map (fun kv=>if kv.1=k then(kv.1,v) else kv) else kvs ++ [(k,v)]
noncomputable def dropK(kvs:List (κ × V))(k:κ):List (κ × V):=kvs.filter fun kv=>decide (kv.1 ≠ k)
def qa6s{p:κ × V}{r:List (κ × V)}{k:κ}(e:p.1=k):valV (p :: r) k=some p.2:=by simp [valV,find?_cons,e]
def qa6t{p:κ × V}{r:List (κ × V)}{k:κ}(e:¬ p.1=k):valV (p :: r) k=valV r k:=by simp [valV,find?_cons,e]
def qb5d(k:κ):∀ kvs:List (κ × V),(kvs.any fun kv=>decide (kv.1=k))=(valV kvs k).isSome
 | []=>rfl
 | p :: r=>by
  rw [any_cons];by_cases e:p.1=k
  ·simp only [qa6s e,decide_eq_true e,Bool.true_or,Option.isSome_some]
  ·rw [qa6t e,decide_eq_false e,Bool.false_or];exact qb5d k r
def qb0h(kvs:List (κ × V))(k:κ)(v:V):(putK kvs k v).length <= kvs.length + 1:=by
 unfold putK;split
 ·rw [length_map];omega
 ·rw [length_append,length_cons,List.length_nil];omega
def qd4j{kvs:List (κ × V)}{k:κ}(v:V)(h:valV kvs k=none):putK kvs k v=kvs ++ [(k,v)]:=by
 unfold putK;rw [qb5d,h];exact if_neg 'd'
def RelO.isSome_eq{o:Option V}{u:Option Value}(r:RelO o u):o.isSome=u.isSome:=by
 cases o with
 | none=>cases u with
  | none=>rfl
  | some _=>exact(show False from r).elim
 | some _=>cases u with
  | none=>exact(show False from r).elim
  | some _=>rfl
def RelO.getD{o:Option V}{u:Option Value}{d:V}{d':Value}(r:RelO o u)(rd:RelV d d'):RelV (o.getD d) (u.getD d'):=by
 cases o with
 | none=>cases u with
  | none=>exact rd
  | some _=>exact(show False from r).elim
 | some _=>cases u with
  | none=>exact(show False from r).elim
  | some _=>exact r
def KV.val{kvs:List (κ × V)}{vs:List (κ × Value)}(r:KV kvs vs)(k:κ):RelO (valV kvs k) (valueAt vs k):=by
 unfold KV at r;induction r with
 | nil=>exact True.intro
 | @cons p q ps qs h t ih =>
  obtain⟨h1,h2⟩:=h;by_cases e:p.1=k
  ·have e':q.1=k:=h1.symm.trans e
   have b:valueAt (q :: qs) k=some q.2:=by simp [valueAt,find?_cons,e']
   rw [qa6s e,b];exact h2
  ·have e':¬ q.1=k:=fun z=>e (h1.trans z)
   have b:valueAt (q :: qs) k=valueAt qs k:=by simp [valueAt,find?_cons,e']
   rw [qa6t e,b];exact ih
def KV.any{kvs:List (κ × V)}{vs:List (κ × Value)}(r:KV kvs vs)(k:κ):(kvs.any fun kv=>decide (kv.1=k))=vs.any fun kv=>decide (kv.1=k):=by
 unfold KV at r;induction r with
 | nil=>rfl
 | cons h t ih=>rw [any_cons,any_cons,ih,h.1]
def KV.repl{kvs:List (κ × V)}{vs:List (κ × Value)}(r:KV kvs vs)(k:κ){y:V}{u:Value}(ry:RelV y u) :
  KV (kvs.map fun kv=>if kv.1=k then(kv.1,y) else kv) (vs.map fun kv=>if kv.1=k then(kv.1,u) else kv):=by
 unfold KV at r ⊢;induction r with
 | nil=>exact .nil
 | @cons p q ps qs h t ih =>
  rw [map_cons,map_cons];refine .cons ?_ ih;obtain⟨h1,h2⟩:=h;by_cases e:p.1=k
  ·rw [if_pos e,if_pos (h1.symm.trans e)];exact⟨h1,ry⟩
  ·rw [if_neg e,if_neg (fun z=>e (h1.trans z))];exact⟨h1,h2⟩
def KV.put{kvs:List (κ × V)}{vs:List (κ × Value)}(r:KV kvs vs)(k:κ){y:V}{u:Value}(ry:RelV y u):KV (putK kvs k y) (stored vs k u):=by
 unfold putK stored;rw [r.any k];by_cases e:(vs.any fun kv=>decide (kv.1=k))=true
 ·rw [if_pos e,if_pos e];exact r.repl k ry
 ·rw [if_neg e,if_neg e];exact Paired.snoc r ⟨rfl,ry⟩
def KV.length{kvs:List (κ × V)}{vs:List (κ × Value)}(r:KV kvs vs):kvs.length=vs.length:=Paired.length r
end
def qb1o{P:Program}{w:World}{k:Key}{u:Value}(r:RelV (kV k) u):(qa1b P w).is k u=true:=by
 cases k with
 | inl i=>obtain⟨t,e⟩:=(show ∃ t,u=Value.int i t from r);subst e;exact qc3v P w i t
 | inr x=>obtain⟨t,e⟩:=(show ∃ t,u=Value.str x t from r);subst e;exact qb4k P w x t
def qb8y{P:Program}{w:World}:∀ {ks:List Key} {us:List Value},Vals (ks.map kV) us->ItemsAre (qa1b P w) ks us
 | [],_,r=>by rw [map_nil] at r;cases r;exact .nil
 | k :: ks,_,r=>by
  rw [map_cons] at r;cases r with
  | cons h t=>exact .cons (qb1o h) (qb8y t)
abbrev KT(H:Hp):List (List Key × V)->List (List Key × Addr × Value)->Prop:=Paired fun p q=>p.1=q.1/\H q.2.1=some (.tup (p.1.map kV))/\RelV p.2 q.2.2
def KT.val{H:Hp}{kvs:List (List Key × V)}{xs:List (List Key × Addr × Value)}(r:KT H kvs xs)(k:List Key):RelO (valV kvs k) ((atKey xs k).map (·.2)):=by
 induction r with
 | nil=>exact True.intro
 | @cons p q ps qs h t ih =>
  obtain⟨h1,_,h2⟩:=h;by_cases e:p.1=k
  ·have e':q.1=k:=h1.symm.trans e
   have b:atKey (q :: qs) k=some q.2:=by simp [atKey,find?_cons,e']
   rw [qa6s e,b];exact h2
  ·have e':¬ q.1=k:=fun z=>e (h1.trans z)
   have b:atKey (q :: qs) k=atKey qs k:=by simp [atKey,find?_cons,e']
   rw [qa6t e,b];exact ih
def KT.repl{H:Hp}{kvs:List (List Key × V)}{xs:List (List Key × Addr × Value)}(r:KT H kvs xs)(k:List Key){y:V}{u:Value}(ry:RelV y u) :
  KT H (kvs.map fun kv=>if kv.1=k then(kv.1,y) else kv) (xs.map (putAt k u)):=by
 induction r with
 | nil=>exact .nil
 | @cons p q ps qs h t ih =>
  rw [map_cons,map_cons];refine .cons ?_ ih;obtain⟨h1,h2,h3⟩:=h;unfold putAt;by_cases e:p.1=k
  ·rw [if_pos e,if_pos (h1.symm.trans e)];exact⟨h1,h2,ry⟩
  ·rw [if_neg e,if_neg (fun z=>e (h1.trans z))];exact⟨h1,h2,h3⟩
def KT.put{H:Hp}{kvs:List (List Key × V)}{xs:List (List Key × Addr × Value)}(r:KT H kvs xs)(k:List Key){b:Addr}{y:V}{u:Value}(hb:H b=some (.tup (k.map kV)))(ry:RelV y u) :
  KT H (putK kvs k y) (storedH xs k b u):=by
 have e:(kvs.any fun kv=>decide (kv.1=k))=(atKey xs k).isSome:=by
  rw [qb5d,(r.val k).isSome_eq,isSome_map]
 unfold putK storedH;rw [e];by_cases q:(atKey xs k).isSome=true
 ·rw [if_pos q,if_pos q];exact r.repl k ry
 ·rw [if_neg q,if_neg q];exact Paired.snoc r ⟨rfl,hb,ry⟩
def KT.keeps{H H':Hp}{kvs:List (List Key × V)}{xs:List (List Key × Addr × Value)}(r:KT H kvs xs)(ht:∀ b ys,H b=some (.tup ys)->H' b=some (.tup ys)):KT H' kvs xs:=
 Paired.mapP r fun _ _ z=>⟨z.1,ht _ _ z.2.1,z.2.2⟩
section
variable{P:Program}{w:World}{H:Hp}{h:Heap}{a:Addr}
def rd_of{u:HO}(ok:HOk P w H h)(e:Rd H a u):qa1v P w H h a u:=e.ok ok
def dk_rd{kvs:List (Key × V)}(ok:HOk P w H h)(e:Rd H a (.dK kvs)):kvs.length <= sizeLine/\(a == sysModules)=false/\∃ vs,KV kvs vs/\h.DictOf (qa1b P w) a vs:=
 show qa1v P w H h a (.dK kvs) from rd_of ok e
def dk_of{kvs:List (Key × V)}(ok:HOk P w H h)(e:H a=some (.dK kvs)):kvs.length <= sizeLine/\(a == sysModules)=false/\∃ vs,KV kvs vs/\h.DictOf (qa1b P w) a vs:=dk_rd ok (.inl e)
def qb2y{ks:List Key}(ok:HOk P w H h)(e:H a=some (.tup (ks.map kV))):(tupleKind (qa1b P w)).is h ks a:=by
 obtain⟨_,its,r,o,h1,h2,n,h3⟩:=(show qa1v P w H h a (.tup (ks.map kV)) from ok a _ e);exact⟨o,its.toArray,n,h1,h2.1,h3,by simpa using qb8y r⟩
def dt_rd{kvs:List (List Key × V)}(ok:HOk P w H h)(e:Rd H a (.dT kvs)):kvs.length <= sizeLine/\(a == sysModules)=false /\
  ∃ xs,KT H kvs xs/\h.DictOfH (tupleKind (qa1b P w)) a xs:=by
 obtain⟨z,y,xs,r,o,es,ep,h1,h2,h3,h4,h5⟩:=(show qa1v P w H h a (.dT kvs) from rd_of ok e);refine⟨z,y,xs,r,o,es,ep,h1,h2,h3,h4,fun x hx=>?_,h5⟩;have all:∀ {l:List (List Key × V)} {m:List (List Key × Addr × Value)},KT H l m->∀ x ∈ m,(tupleKind (qa1b P w)).is h x.1 x.2.1:=by
  intro l m q;induction q with
  | nil=>intro x hx;exact nomatch hx
  | @cons p q ps qs hq t ih =>
   intro x hx;rcases mem_cons.mp hx with e | hx
   ·subst e
    exact qb2y ok (by rw [← hq.1];exact hq.2.1)
   ·exact ih x hx
 exact all r x hx
def dt_of{kvs:List (List Key × V)}(ok:HOk P w H h)(e:H a=some (.dT kvs)):kvs.length <= sizeLine/\(a == sysModules)=false /\
  ∃ xs,KT H kvs xs/\h.DictOfH (tupleKind (qa1b P w)) a xs:=dt_rd ok (.inl e)
end
def DGet(H:Hp)(a:Addr)(y:V)(r:Option V):Prop:=
 (∃ kvs k,Rd H a (.dK kvs)/\y=kV k/\r=valV kvs k) ∨ ∃ kvs k b,Rd H a (.dT kvs)/\y=.ref b/\H b=some (.tup (k.map kV))/\r=valV kvs k
def DPut(H:Hp)(a:Addr)(y v:V)(H':Hp):Prop:=
 (∃ kvs k,H a=some (.dK kvs)/\y=kV k/\kvs.length < sizeLine/\H'=upd H a (.dK (putK kvs k v))) ∨
 ∃ kvs k b,H a=some (.dT kvs)/\y=.ref b/\H b=some (.tup (k.map kV))/\kvs.length < sizeLine/\H'=upd H a (.dT (putK kvs k v))
def DGet.k{H:Hp}{a:Addr}{kvs:List (Key × V)}{k:Key}(e:H a=some (.dK kvs)):DGet H a (kV k) (valV kvs k):=.inl ⟨kvs,k,.inl e,rfl,rfl⟩
def DPut.k{H:Hp}{a:Addr}{kvs:List (Key × V)}{k:Key}{v:V}(e:H a=some (.dK kvs))(hl:kvs.length < sizeLine):DPut H a (kV k) v (upd H a (.dK (putK kvs k v))):=.inl ⟨kvs,k,e,rfl,hl,rfl⟩
section
variable{X:Cx}{pins:List 'g'}{σ:St}{H:Hp}{s:Shared}{a:Addr}{y v:V}{u r:Value}{o:Option V}{A:Around}{E:Value->Shared->Prop}
def Inv.big(I:Inv X pins σ H s):sysModules < s.heap.objs.size:=by
 have h:mainGlobals < s.heap.objs.size:=(I.mod.glob.keeps I.bk).lt;exact lt_trans 'd' h
def qd1b{Q:Value->Shared->Prop}(hu:A.units + 1 < cLine)(I:Inv X pins σ H s)(g:DGet H a y (some v))(ry:RelV y u)(h:∀ w' s',Inv X pins σ H s'->RelV v w'->Q w' s') :
  wpAny (model X.prog X.w) A (getItem (.ref a) u) Q E s:=by
 rcases g with⟨kvs,k,e,ey,l⟩ | ⟨kvs,k,b,e,ey,eb,l⟩
 ·subst ey
  obtain⟨z,hd,vs,rel,dd⟩:=dk_rd I.hok e;obtain⟨w',hw,rw'⟩:=RelO.some_of (v:=v) (o:=valueAt vs k) (by rw [l];exact rel.val k);exact wpAny_getItem_of (qb1o ry) dd.mapOf hw (h w' _ (I.tok _) rw')
 ·subst ey
  cases (show u=Value.ref b from ry)
  obtain⟨z,hd,xs,rel,dd⟩:=dt_rd I.hok e;obtain⟨w',hw,rw'⟩:=RelO.some_of (v:=v) (o:=(atKey xs k).map (·.2)) (by rw [l];exact rel.val k);obtain⟨p,hp,hp2⟩:=map_eq_some_iff.mp hw;refine wpAny_getItem_heap (tupleKind_room_in1 hu) (qb2y I.hok eb) dd hp ?_;rw [hp2];exact h w' _ (I.tok _) rw'
def d_in{Q:Value->Shared->Prop}(hu:A.units + 1 < cLine)(I:Inv X pins σ H s)(g:DGet H a y o)(ry:RelV y u)(h:∀ s',Inv X pins σ H s'->Q (.bool o.isSome) s') :
  wpAny (model X.prog X.w) A (compareOp .In u (.ref a)) Q E s:=by
 rcases g with⟨kvs,k,e,ey,l⟩ | ⟨kvs,k,b,e,ey,eb,l⟩
 ·subst ey
  obtain⟨z,hd,vs,rel,dd⟩:=dk_rd I.hok e;refine wpAny_in_of (qb1o ry) hd dd.mapOf ?_;rw [← (rel.val k).isSome_eq,← l];exact h _ (I.tok _)
 ·subst ey
  cases (show u=Value.ref b from ry)
  obtain⟨z,hd,xs,rel,dd⟩:=dt_rd I.hok e;refine wpAny_in_heap (tupleKind_room_in1 hu) (qb2y I.hok eb) hd dd ?_;have q:=(rel.val k).isSome_eq;rw [isSome_map] at q;rw [← q,← l];exact h _ (I.tok _)
def d_notIn{Q:Value->Shared->Prop}(hu:A.units + 1 < cLine)(I:Inv X pins σ H s)(g:DGet H a y o)(ry:RelV y u)(h:∀ s',Inv X pins σ H s'->Q (.bool (!o.isSome)) s') :
  wpAny (model X.prog X.w) A (compareOp .NotIn u (.ref a)) Q E s:=by
 rcases g with⟨kvs,k,e,ey,l⟩ | ⟨kvs,k,b,e,ey,eb,l⟩
 ·subst ey
  obtain⟨z,hd,vs,rel,dd⟩:=dk_rd I.hok e;refine wpAny_notIn_of (qb1o ry) hd dd.mapOf ?_;rw [← (rel.val k).isSome_eq,← l];exact h _ (I.tok _)
 ·subst ey
  cases (show u=Value.ref b from ry)
  obtain⟨z,hd,xs,rel,dd⟩:=dt_rd I.hok e;refine wpAny_notIn_heap (tupleKind_room_in1 hu) (qb2y I.hok eb) hd dd ?_;have q:=(rel.val k).isSome_eq;rw [isSome_map] at q;rw [← q,← l];exact h _ (I.tok _)
def qb7u{h':Heap}{t':Nat}{ob:HO}(I:Inv X pins σ H s)(mu:Mut (H a))(hs:Heap.SameBut a s.heap h')(he:∃ q,h'.get? a=some q)(new:qa1v X.prog X.w (upd H a ob) h' a ob) :
  Inv X pins σ (upd H a ob) { s with heap:=h',toks:=t' }:=
 I.write (x:=a) (e:=a) mu (.inl rfl) (fun b q hb z=>(hs.2 b hb).trans z) he new
def dk_new{P:Program}{w:World}{H':Hp}{h':Heap}{kvs:List (Key × V)}{vs:List (Key × Value)}(z:kvs.length <= sizeLine)(hd:(a == sysModules)=false)(rel:KV kvs vs)(dd:h'.DictOf (qa1b P w) a vs) :
  qa1v P w H' h' a (.dK kvs):=⟨z,hd,vs,rel,dd⟩
def qd1c{H':Hp}{Q:Unit->Shared->Prop}(hu:A.units + 1 < cLine)(I:Inv X pins σ H s)(g:DPut H a y v H')(ry:RelV y u)(rv:RelV v r)(h:∀ s',Inv X pins σ H' s'->Q () s') :
  wpAny (model X.prog X.w) A (setItem (.ref a) u r) Q E s:=by
 rcases g with⟨kvs,k,e,ey,l,eH⟩ | ⟨kvs,k,b,e,ey,eb,l,eH⟩
 ·subst ey eH
  obtain⟨z,hd,vs,rel,dd⟩:=dk_of I.hok e;have hz:vs.length <= sizeLine:=by rw [← rel.length];exact z
  have hl:(putK kvs k v).length <= sizeLine:=by have:=qb0h kvs k v;omega
  refine wpAny_setItem_pairs (hsz:=hz) (qb1o ry) dd fun h' dd' hs=>h _ ?_;have he:∃ q,h'.get? a=some q:=by obtain⟨q,_,_,hq,_⟩:=dd';exact⟨q,hq⟩
  exact qb7u I (by rw [e];exact True.intro) hs he (dk_new hl hd (rel.put k rv) dd')
 ·subst ey eH
  cases (show u=Value.ref b from ry)
  obtain⟨z,hd,xs,rel,dd⟩:=dt_of I.hok e;have hz:xs.length <= sizeLine:=by rw [← Paired.length rel];exact z
  have hl:(putK kvs k v).length <= sizeLine:=by have:=qb0h kvs k v;omega
  refine wpAny_setItem_heap (hsz:=hz) (tupleKind_room_in1 hu) (qb2y I.hok eb) dd fun h' dd' hs=>h _ ?_;obtain⟨q,es,ep,hq,h2,h3,h4,_,h5⟩:=dd';refine qb7u I (by rw [e];exact True.intro) hs ⟨q,hq⟩ ⟨hl,hd,_,(rel.put k eb rv).keeps fun c ys ec=>?_,q,es,ep,hq,h2,h3,h4,h5⟩;rw [qa0j (qa7x ec e 'n')];exact ec
end
def NoSl(i:Expr):Prop:=∀ ov iv,subscripted i false ov iv=operate [ov,iv] (getItem ov iv)
def subD_of{prog:Program}{w:World}{A:Around}{E:Value->Shared->Prop}{s:Shared}{env:Env}{value slice:Expr}{pos:Pos}{T id:String}{Q:Value->Shared->Prop}
  (hl:typeLookup (.type T) "__getitem__" = pure (some (.builtin id))) (hs:NoSl slice)
  (h:wpAny (model prog w) A (eval value env) (fun o s₁=>wpAny (model prog w) A (eval slice env) (fun i s₂=>s₂.TypeIs o T/\wpAny (model prog w) A (getItem o i) Q E s₂) E s₁) E s) :
  wpAny (model prog w) A (eval (.Subscript value slice pos) env) Q E s:=by
 refine Subscript_ (wpAny_mono h (fun o s₁ h₁=>wpAny_mono h₁ (fun i s₂ h₂=>?_) fun _ _ x=>x) fun _ _ x=>x);obtain⟨hT,h₂⟩:=h₂;unfold subscriptTail;refine wpAny_bind ?_;rw [getitemInPython_of_ne hT.not_modules];refine wpAny_bind (wpAny_specialOf hT hl ?_);have fin:wpAny (model prog w) A (subscripted slice false o i) (fun r s₃=>wpAny (model prog w) A (letTemporaryGo value o r >>= fun _=>pure r) Q E s₃) E s₂:=by
  rw [hs o i];exact wpAny_operating (wpAny_mono h₂ (fun r s₃ h₃=>wpAny_bind (wpAny_letTemporaryGo (wpAny_pure h₃))) fun _ _ x=>x)
 first
  | exact wpAny_pure (wpAny_bind fin)
  | exact wpAny_bind (wpAny_pure (wpAny_bind fin))
  | exact wpAny_bind fin
def qc4b{X:Cx}{pins:List 'g'}{σ:St}{H:Hp}{s:Shared}{a:Addr}{y:V}{o:Option V}(I:Inv X pins σ H s)(g:DGet H a y o):s.TypeIs (.ref a) "dict":=by
 rcases g with⟨kvs,k,e,_,_⟩ | ⟨kvs,k,b,e,_,_,_⟩
 ·obtain⟨_,_,vs,_,dd⟩:=dk_rd I.hok e
  exact dd.typeIs
 ·obtain⟨_,_,xs,_,dd⟩:=dt_rd I.hok e
  exact dd.typeIs
def tDGet(td ty:TE):TE:=fun σ H Q=>td σ H fun x H1=>ty σ H1 fun y H2=>∃ a v,x=.ref a/\DGet H2 a y (some v)/\Q v H2
def qb1p(td ty tv:TE):TS:=fun D σ H=>tv σ H fun v H1=>td σ H1 fun x H2=>ty σ H2 fun y H3=>∃ a H4,x=.ref a/\DPut H3 a y v H4/\D.nx σ H4
section
variable{X:Cx}{o i e value:Expr}{pos pos' tpos:Pos}{td ty tv:TE}
def pe_dget(hu:X.A.units + 1 < cLine)(ho:PE X o td)(hi:PE X i ty)(hs:NoSl i):PE X (.Subscript o i pos) (tDGet td ty):=by
 intro pins s σ H Q I h;refine subD_of PySem.F.slot_dict_getitem.lookup hs (thn (ho pins s σ H _ I h) fun u s1 ⟨x,H1,I1,rx,q1⟩=>thn (hi pins s1 σ H1 _ I1 q1) fun iv s2 hq9=>?_);obtain⟨y,H2,I2,ry,a,v,ex,g,q2⟩:=hq9;subst ex;obtain rfl:u=Value.ref a:=rx;exact⟨qc4b I2 g,qd1b hu I2 g ry fun w' s3 I3 rw'=>⟨v,H2,I3,rw',q2⟩⟩
def qc6e(hu:X.A.units + 1 < cLine)(ho:PE X o td)(hi:PE X i ty)(hv:PE X value tv)(hs:swapsWith value (some (.Subscript o i pos')) pos.line X.env=pure false) :
  PS X (.Assign [.Subscript o i pos'] value pos) (qb1p td ty tv):=by
 intro pins s σ H D I h;refine wpAny_Assign_Subscript (thn (hv pins s σ H _ I h) fun r s1 ⟨v,H1,I1,rv,q1⟩=>thn (ho pins s1 σ H1 _ I1 q1) fun u s2 ⟨x,H2,I2,rx,q2⟩=>thn (hi pins s2 σ H2 _ I2 q2) fun iv s3 hq8=>?_) hs;obtain⟨y,H3,I3,ry,a,H4,ex,g,q3⟩:=hq8;subst ex;obtain rfl:u=Value.ref a:=rx;exact qd1c hu I3 g ry rv fun s4 I4=>⟨σ,H4,I4,q3⟩
end
def qd4k{P:Program}{w:World}{H:Hp}(h:Heap)(hb:sysModules < h.objs.size):qa1v P w H (h.push { cls:=.type "dict",data:=.dict #[] }) h.objs.size (.dK []):=
 ⟨zero_le _,beq_eq_false_iff_ne.mpr (Ne.symm (ne_of_lt hb)),[],.nil,Heap.DictOf.new h⟩
def qb6m:TE:=fun _ H Q=>∀ p,H p=none->Q (.ref p) (upd H p (.dK []))
section
variable{X:Cx}{pos:Pos}
def qc1e:PE X (.Dict [] [] pos) qb6m:=fun pins s σ H Q I h =>
 wpAny_Dict_empty ⟨.ref s.heap.objs.size,_,I.laid (a:=s.heap.objs.size) (o:=.dK []) (t':=s.toks) (fun _ _ q=>get?_push_of_some _ q) 'e' (qd4k s.heap I.big),rfl,h _ (I.hok.fresh 'e')⟩
end
end
section
section
variable{X:Cx}
noncomputable def rSum(K:W.Frag):List V->Hp->VK->Prop:=fun xs H Q=>∃ v S,∃ ns:List Int,xs=[v]/\AtD K H S (.list (ns.map .int)) v/\Q (.int ns.sum) H
def qd1d(hc:X.calm=true):qa2e X (.builtin "sum") (rSum X.K):=by
 intro pins s σ H xs us Q I rs h;obtain⟨v,S,ns,rfl,hd,q⟩:=h;obtain⟨u,rfl,r⟩:=vals1 rs;obtain⟨a,ys,rfl,_,hq,t⟩:=qa4b hd;cases r;have ey:=ints_of_all t;subst ey;obtain⟨its,rv,pl,hz⟩:=I.list (SqL.of hq);have hi:IntsAre its ns:=intsAre_of rv;obtain⟨zs,e⟩:=hi.allInts.items;have hns:ns=zs.toList.map (·.1):=by rw [← hi.numsOf,← nums_intItems,← e]
 have hl:=pl.isList;rw [e] at hl;refine sum_intListG (I.ok.hd hc) hl fun h' tk t' hk=>?_;have es:preSum (numAt zs) zs.size=ns.sum:=by
  rw [preSum_eq,List.take_of_length_le 'h',hns]
 rw [es];exact⟨.int _,H,I.kept hk,⟨t',rfl⟩,q⟩
def bt_sum:bootBuiltins "sum" = some (.builtin "sum"):=by decide +kernel
def qd1e:qa2e X (.type "int") (fun xs H Q=>∃ b:Bool,xs=[.bl b]/\Q (.int (if b then 1 else 0)) H):=by
 intro pins s σ H xs us Q I rs h;obtain⟨b,rfl,q⟩:=h;obtain⟨u,rfl,r⟩:=vals1 rs;cases r;exact call_int_bool ⟨.int _,H,I.tok _,⟨_,rfl⟩,q⟩
end
noncomputable def fSum:FC:=fun ds=>match ds with
 | [.list xs]=>(qa2x xs).map fun ns=>.int ns.sum
 | _=>none
noncomputable def fIntB:FC:=fun ds=>match ds with
 | [.bool b]=>some (.int (if b then 1 else 0))
 | _=>none
section
variable{K:W.Frag}{H:Hp}{S:Addr->Prop}
def ad_sum:AdC K (rSum K) fSum:=by
 intro S H vs ds z Q f h e k;unfold fSum at e;split at e
 ·rename_i xs
  cases q:qa2x xs with
  | none=>rw [q] at e;cases e
  | some ns =>
   rw [q] at e;cases e;obtain⟨v,rfl,h1⟩:=h.one;have ex:=ints_map q;subst ex;exact⟨v,Any,ns,rfl,h1.any,k _ _ (Same.refl _) (qa2n _)⟩
 ·cases e
def ad_intB:AdC K (fun xs H Q=>∃ b:Bool,xs=[.bl b]/\Q (.int (if b then 1 else 0)) H) fIntB:=by
 intro S H vs ds z Q f h e k;unfold fIntB at e;split at e
 ·rename_i b
  cases e
  obtain⟨v,rfl,h1⟩:=h.one;rw [h1.bool];exact⟨b,rfl,k _ _ (Same.refl _) (qa2n _)⟩
 ·cases e
def AtT.dict{H:Hp}{S:Addr->Prop}{kvs:List 'l'}{v:V}(h:AtT K H S (.dict kvs) v):∃ (a:Addr) (κ:List (Key × V)),v=.ref a/\S a/\H a=some (.dK κ)/\qa0f K H S kvs κ:=qa8t (h.at fun _ z=>nomatch z)
end
end
section
noncomputable def Rc.reb(c:Rc)(O:Own)(p:Addr)(H:Hp):Rc:={ c with H0:=H,P:=fun a=>c.P a ∨ a=p,M:=fun a=>∃ j,O j=some a,A:=fun a=>∃ j,O j=some a }
noncomputable def putS(ν:List (Str × Int))(k:Str)(n:Int):List (Str × Int):=
 if (ν.any fun q=>decide (q.1=k))=true then ν.map (fun q=>if q.1=k then(q.1,n) else q) else ν ++ [(k,n)]
structure Pin(K:W.Frag)(c:Rc)(p:Addr)(ν:List (Str × Int))(i:Nat)(O:Own)(ρ:Rho)(σ:St)(H:Hp):Prop where
 rel:Rel K (c.reb O p H) O ρ σ H
 at_:H p=some (.dK (ν.map kvE))
 slot:σ[i]? = some (some (.ref p))
 nul:ρ[i]? = some none
 bA:∀ j q,O j=some q->c.A q
 bS:∀ b o,¬ c.M b->c.H0 b=some o->H b=some o
 bK:∀ b,c.H0 b ≠ none->H b ≠ none
 bM:∀ q,c.M q->∃ vs,H q=some (.lst vs)
 am:∀ q,c.A q->c.M q ∨ c.H0 q=none
 frs:∀ q,c.H0 q=none->c.S q
 fr0:c.H0 p=none
 np:¬ c.P p
section
variable{K:W.Frag}{c:Rc}{O O1:Own}{ρ ρ1:Rho}{σ σ1:St}{H H1 H2:Hp}{p:Addr}{ν μ:List (Str × Int)}{i:Nat}
def Rel.poke{v:V}(R:Rel K c O ρ σ H)(hn:ρ[i]? = some none):Rel K c O ρ (σ.set i (some v)) H:=by
 have st:∀ {j:Nat} {l:L},ρ[j]? = some (some l)->(σ.set i (some v))[j]? = σ[j]?:=fun{j l} e=>by
  refine getElem?_set_ne fun z=>?_;subst z;rw [hn] at e;cases e
 exact⟨fun j x e=>let ⟨u,h1,h2⟩:=R.dat j x e;⟨u,by rw [st e];exact h1,h2⟩,fun j xs e=>let ⟨q,vs,h1,h2,h3,h4⟩:=R.own j xs e;⟨q,vs,h1,h2,by rw [st e];exact h3,h4⟩,
  fun j xs e=>let ⟨q,vs,h1,h3,h4⟩:=R.bor j xs e;⟨q,vs,h1,by rw [st e];exact h3,h4⟩,fun j k e=>let ⟨q,h1,h3,h4⟩:=R.tap j k e;⟨q,h1,by rw [st e];exact h3,h4⟩,fun j e=>by rw [st e];exact R.scr j e,
  R.inj,R.has',R.am,R.frs,R.same,R.kept,R.ml,R.pin,R.lnt,R.sc,by rw [length_set];exact R.len⟩
end
section
variable{K:W.Frag}
def qb6n{n:Nat}(h:n < 1000):n < sizeLine:=by rw [sizeLine_eq];omega
end
end
section
def qb6o:entryFor table "dict.update.loop" = some Builtin.«dict.update.loop»:=entryFor_of_tree (by kernel_rfl)
def qa8e:plainId "dict.update.loop" = true:=by decide +kernel
end
section
def NotSq(o:HO):Prop:=(∀ xs,o ≠ .lst xs)/\(∀ xs,o ≠ .tup xs)/\∀ a u,o ≠ .frz a u
structure PinG(K:W.Frag)(c:Rc)(p:Addr)(o:HO)(O:Own)(ρ:Rho)(σ:St)(H:Hp):Prop where
 rel:Rel K (c.reb O p H) O ρ σ H
 at_:H p=some o
 nsq:NotSq o
 bA:∀ j q,O j=some q->c.A q
 bS:∀ b o,¬ c.M b->c.H0 b=some o->H b=some o
 bK:∀ b,c.H0 b ≠ none->H b ≠ none
 bM:∀ q,c.M q->∃ vs,H q=some (.lst vs)
 am:∀ q,c.A q->c.M q ∨ c.H0 q=none
 frs:∀ q,c.H0 q=none->c.S q
 fr0:c.H0 p=none
 np:¬ c.P p
end
section
section
variable{X:Cx}
def qa2q:bootBuiltins "sorted" = some (.builtin "sorted"):=by decide +kernel
noncomputable def rGet2:V->List V->Hp->VK->Prop:=fun x vs H Q=>∃ a kvs,∃ k:Str,∃ d,x=.ref a/\vs=[.str k,d]/\H a=some (.dK kvs)/\Q ((valV kvs (Sum.inr k)).getD d) H
def mt_get2:MtM X "dict.get" rGet2:=by
 intro pins s σ H x vs v us Q I rx rv h;obtain⟨a,kvs,k,d,rfl,rfl,e,q⟩:=h;cases rx;obtain⟨u,r,rfl,ru,rr⟩:=Vals.two rv;obtain⟨_,hd,ws,rel,dd⟩:=dk_of I.hok e;have ku:RelV (kV (Sum.inr k)) u:=ru;exact call_meetsIn PySem.F.slot_dict_get dd.typeIs PySem.F.entry_dict_get (PySem.F.args_dict_get_3 _ _ _) (meets_dict_get_default (qa1b X.prog X.w) a (qb1o ku) hd r) ⟨_,dd.mapOf,_,H,I.tok _,(rel.val (Sum.inr k)).getD rr,q⟩
def qb6p:∀ {ss:List Str} {us:List Value},Vals (ss.map V.str) us->StrsAre us ss
 | [],us,h=>by rw [Vals.zero h];exact .nil
 | x :: r,us,h=>by
  cases h with
  | cons h1 h2 =>
   obtain⟨t,rfl⟩:=h1;exact .cons _ _ (qb6p h2)
def qb6q:∀ {us:List Value} {ss:List Str},StrsAre us ss->Vals (ss.map V.str) us
 | _,_,.nil=>.nil
 | _,_,.cons _ _ h=>.cons ⟨_,rfl⟩ (qb6q h)
end
end
section
section
variable{X:Cx}
def qb1c:bootBuiltins "all" = some (.builtin "all"):=by decide +kernel
end
section
variable{K:W.Frag}{H:Hp}{S:Addr->Prop}
def qb6r:∀ {ss:List Str},qa0c K H S (ss.map .str) (ss.map V.str)
 | []=>by unfold qa0c;rfl
 | x :: r=>by
  show qa0c K H S (.str x :: r.map .str) (.str x :: r.map V.str);unfold qa0c;exact⟨_,_,rfl,qa4x _,qb6r⟩
end
def AdGi(K:W.Frag)(i:Nat)(g:TG)(dg:TDG):Prop:=∀ (c:Rc) (O:Own) (ρ:Rho) (σ:St) (H:Hp) (x:PyData) (v:V) (Qd:Rho->Prop) (Q:St->Hp->Prop),Rel K c O ρ σ H->AtD K H (live c O) x v->dg x ρ Qd ->
 (∀ O' ρ' σ',Rel K c O' ρ' σ' H->Pers K (live c O) H (live c O') H->σ'[i]? = σ[i]? -> Qd ρ'->Q σ' H)->g v σ H Q
def qd4l{K:W.Frag}{i j:Nat}(hj:j ≠ i):AdGi K i (qa3l j) (qb2t j):=fun c O ρ σ H x v Qd Q R a h k=>by
 obtain⟨R1,P1⟩:=R.setD h.1 a;exact k _ _ _ R1 P1 (getElem?_set_ne hj) h.2
def DGi(X:Cx)(i:Nat)(target:Expr)(dg:TDG):Prop:=∃ g,PG X target g/\AdGi X.K i g dg
section
variable{X:Cx}{iter kE vE tg:Expr}{rest:List Stmt}{di:TDI}{dg:TDG}{dk dv:TDE}{du:TDS}{x y z:Str}{pos p1 p2 p3 p4 p5 p6 p7 p8 p9 p10 p11 p12 p13:Pos}
def qb5e{i j:Nat}(hj:j ≠ i)(hN:X.N.Nodup)(hi:X.N[j]? = some x)(hx:Loc X.env.scope x)(hf:X.fn x=true ∨ X.env.scope.names.lookup x=some .local:=by first | exact .inl rfl | exact .inr rfl):DGi X i (.Name x pos) (qb2t j):=⟨_,qb0o hN hi hx hf,qd4l hj⟩
end
end
section
section
variable{prog:Program}{w:World}{A:Around}{E:Value->Shared->Prop}{s:Shared}
def IsZ2(h:Heap)(z TI TO T:Addr)(b:Bool):Prop:=h.get? z=some { cls:=.type "zip",dict:=none,data:=.fields #[rawInt T,.bool b,.bool false,.ref TI,.ref TO],slots:=#[] }
def ZF(h:Heap)(z TI TO:Addr):Prop:=(IsZip h z TI TO .none/\∃ p q,IsPair h TO p q) ∨ ∃ T b o,IsZ2 h z TI TO T b/\h.get? T=some o
def ZW(h:Heap)(z TI TO i1 i2 l1 l2:Addr)(k:Nat):Prop:=ZF h z TI TO/\IsPair h TI (.ref i1) (.ref i2)/\ItX true h i1 l1 k/\ItX false h i2 l2 k
end
end
section
noncomputable def strsD:List PyData->Option (List Str)
 | []=>some []
 | .str x :: r=>(strsD r).map (x :: ·)
 | _ :: _=>none
end
end L2
section
namespace L2
open PySem
noncomputable def qc6f:PyData->Bool
 | .none=>true
 | _=>false
noncomputable def fIsN:F2:=fun x y=>match y with
 | .none=>some (.bool (qc6f x))
 | _=>none
section
variable{K:W.Frag}{H:Hp}{S:Addr->Prop}
def qd1f{d:PyData}{v:V}(h:AtT K H S d v):decide (v=.non)=qc6f d:=by
 cases d with
 | none=>rw [h.none];rfl
 | bool b=>rw [h.bool];rfl
 | int i=>rw [h.int];rfl
 | str x=>rw [h.str];rfl
 | list xs=>obtain⟨a,ws,rfl,_,_⟩:=h.list;rfl
 | tuple xs=>obtain⟨a,ws,rfl,_,_⟩:=h.tup;rfl
 | dict kvs=>obtain⟨a,ν,rfl,_⟩:=h.dict;rfl
def qb6s:AdR K (fun x y H Q=>y=.non/\Q (.bl (decide (x=.non))) H) fIsN:=by
 intro S H x y dx dy z Q f hx hy e k;unfold fIsN at e;split at e<;>cases e;rw [hy.none,qd1f hx];exact⟨rfl,k _ _ (Same.refl _) (qa2m _)⟩
end
end L2
end
namespace L2
open PySem PySem.Spec PyProof.Rows
section
section
variable{X:Cx}{e:Expr}{te:TE}{pos p2:Pos}
def qc8i(l b:Addr)(items items2:Array Value)(n n2:Nat)(dd:Option Addr)(sl:Array (Option Value))(hs0:¬ (!items.isEmpty && Builtin.List.listTooLong (items.size + items2.size))=true)(hs1:items.size <= sizeLine)(hs2:items.size + items2.size <= sizeLine + 1) :
  Meets (Builtin.«list.extend» ⟨[.ref l,.ref b],[]⟩) (fun _ R s=>s.heap.get? l=some ⟨.type "list",none,.seq items n,#[]⟩/\s.heap.get? b=some ⟨.type "tuple",dd,.seq items2 n2,sl⟩/\R (.ok (.ret Value.none)) { s with heap:=s.heap.update l (Obj.mapSeq fun x=>x ++ items2),toks:=s.toks }):=
 .of_wp fun prog w A R s h=>by
  obtain⟨hp,g,d,tk,os⟩:=s;obtain⟨hl,hb,h⟩:=h;have room:(items ++ items2).size <= sizeLine + 1:=le_trans (Nat.le_of_eq Array.size_append) hs2
  wp_walk using (wpAny_updateSeq hl rfl (hz:=hs1) (_hz':=room)),wpAny_loadPart' hl,wpAny_loadPart' hb
  exact⟨_,rfl,h⟩
noncomputable def rExtT(K:W.Frag):V->List V->Hp->VK->Prop:=fun x vs H Q=>∃ l b xs zs,x=.ref l/\vs=[.ref b]/\H l=some (.lst xs)/\SqT K H b zs/\xs.length + zs.length <= 1000000/\Q .non (upd H l (.lst (xs ++ zs)))
def mt_extT:MtM X "list.extend" (rExtT X.K):=by
 intro pins s σ H x vs v us Q I rx rv h;obtain⟨l,b,xs,zs,rfl,rfl,hH,hB,hz,q⟩:=h;cases rx;obtain⟨u,rfl,ru⟩:=rv.one;cases ru;obtain⟨z,its,n,r,hl,e⟩:=I.lstM hH;obtain⟨its2,r2,⟨⟨oc,od,oa,os⟩,ho,hc,n2,hd⟩,z2⟩:=I.tuple hB;simp only at hc hd;subst hc hd;have hl2:=r2.length;have hsl:=sizeLine_eq;have hsz:its.toArray.size + its2.toArray.size <= sizeLine:=by rw [size_toArray,size_toArray];omega
 have hlong:¬ (!its.toArray.isEmpty && Builtin.List.listTooLong (its.toArray.size + its2.toArray.size))=true:=by
  rw [qc0d hsz,Bool.and_false];exact Bool.false_ne_true
 refine call_meets F.slot_list_extend ⟨_,e,rfl⟩ F.entry_list_extend (F.args_list_extend_2 _ _) (qc8i l b its.toArray its2.toArray n n2 od os hlong (by rw [size_toArray];omega) 'o') ⟨e,ho,?_⟩;refine⟨.non,_,I.lset (its':=its ++ its2) hH e 'h' (r.append r2) ?_,rfl,q⟩;rw [length_append];omega
end
end
section
noncomputable def fSlA:FSl:=fun x lo hi=>match x with
 | .tuple xs=>some (.tuple (cutD xs lo hi))
 | _=>none
theorem fSlA_t{xs:List PyData}{lo hi:Option Int}:fSlA (.tuple xs) lo hi=some (.tuple (cutD xs lo hi)):=rfl
section
variable{K:W.Frag}{H:Hp}{S:Addr->Prop}
def dNilD:TDE:=fun ρ Q=>Q (.d (.dict [])) ρ
def dExtT(i:Nat)(de:TDE):TDE:=fun ρ Q=>need (ownB ρ i) fun _=>de ρ fun x ρ1=>need (qa0q ρ1 x) fun dx=>∃ ys,dx=.tuple ys/\need (ownB ρ1 i) fun o=>o.2.length + ys.length <= 1000000/\Q (.d .none) (ρ1.set i (some (okL o.1 (o.2 ++ ys))))
def ad_extT{i:Nat}{t:TE}{de:TDE}(h:AdE K t de):AdE K (tBM K "list" (rExtT K) (tVar i) (qa3f t tNil)) (dExtT i de):=by
 intro c O ρ σ H Qd Q R q k;obtain⟨hz2,e,q⟩:=ne (q);obtain⟨o,xs⟩:=hz2;obtain⟨e0,p,vs,hO,hσ,hH,hA⟩:=qa8v R e;refine⟨.ref p,hσ,.inl ⟨rfl,vs,SqL.of hH⟩,?_⟩;refine h c O ρ σ H _ _ R q fun x ρ1 O1 v H1 h1 R1 P1 a1=>?_;obtain⟨dx,e1,hn8⟩:=ne (h1);obtain⟨ys,rfl,hn9⟩:=hn8;obtain⟨hz7,e2,hn1⟩:=ne (hn9);obtain⟨hz,h2⟩:=hn1;obtain⟨o2,xs2⟩:=hz7;obtain⟨b,zs,rfl,s1,s2⟩:=(R1.top a1 e1).tup;obtain⟨e3,p2,vs2,hO2,hσ2,hH2,hA2⟩:=qa8v R1 e2;rw [hσ] at hσ2;cases hσ2;refine⟨p,b,vs2,zs,rfl,rfl,hH2,s1,by rw [hA2.length,s2.length];exact hz,?_⟩;obtain⟨R3,P3⟩:=R1.writeB hO2 hH2 e3 (hA2.append s2);exact k _ _ _ _ _ h2 R3 (P1.trans P3) qc0o
def dInK(keys:List Str)(de:TDE):TDE:=fun ρ Q=>de ρ fun x ρ1=>need (qa0q ρ1 x) fun dx=>∃ z:Str,dx=.str z/\Q (.d (.bool (keys.contains z))) ρ1
end
section
variable{X:Cx}{e st:Expr}{de ds:TDE}{pos p2:Pos}
def qc6g(i:Nat){x:Str}{p apos:Pos}(hN:X.N[i]? = some x)(he:DE X e de)(hv:Vis X.env.scope x:=by first | exact Or.inl rfl | exact Or.inr 'c' | exact Or.inr (Or.inr rfl)) (hd:(x == ("__debug__" : Str))=false:=by decide)
  (hcd:(x == ("__classdict__" : Str))=false:=by decide) (hs:starEach [e] X.env=[(false,eval e X.env)]:=by rfl)
  (hbase:attributeBase (.Name x p) "extend" X.env (eval (.Name x p) X.env)=eval (.Name x p) X.env:=by rfl)
  (hfew:((backTo pos (starEach [e] X.env)).all (fun x=>!x.1) && (backToKw pos (keywordEach [] X.env)).all (fun x=>x.1.isSome)
   && decide (([e]:List Expr).length + ([]:List Keyword).length + (if ([]:List Keyword).isEmpty then 0 else 1) < 30))=true:=by rfl)
  (hline:(apos.endLine == pos.line)=true:=by rfl):DE X (.Call (.Attribute (.Name x p) "extend" apos) [e] [] pos) (dExtT i de):=by
 obtain⟨te,pe,ae⟩:=he;exact⟨_,pe_bm PySem.F.plainAttrs_list PySem.F.slot_list_extend PySem.F.type_list_extend mt_extT (qa9b hN hv hd hcd) (qa1f pe qa2j hs) hbase hfew hline hs rfl,ad_extT ae⟩
end
section
variable{i:Nat}{ρ:Rho}{Q:DV->Rho->Prop}{d1 d2:TDE}{keys:List Str}
theorem dNilD_a:dNilD ρ Q=Q (.d (.dict [])) ρ:=rfl
theorem dExtT_a:dExtT i d1 ρ Q=need (qa5i (ρ[i]?.join)) fun _=>d1 ρ fun x ρ1=>need (qa0q ρ1 x) fun dx=>∃ ys,dx=.tuple ys/\need (qa5i (ρ1[i]?.join)) fun o=>o.2.length + ys.length <= 1000000/\Q (.d .none) (ρ1.set i (some (okL o.1 (o.2 ++ ys)))):=rfl
theorem dInK_a:dInK keys d1 ρ Q=d1 ρ fun x ρ1=>need (qa0q ρ1 x) fun dx=>∃ z:Str,dx=.str z/\Q (.d (.bool (keys.contains z))) ρ1:=rfl
end
end
section
noncomputable def qb1d(kvs more:List (Key × V)):List (Key × V):=more.foldl (fun acc kv=>putK acc kv.1 kv.2) kvs
end
end L2
section
namespace Sx
open PySem PySem.Spec PyProof.Rows
def pw_eq{α:Type}{le:α->α->Prop}(anti:∀ a b,le a b->le b a->a=b):∀ {a b:List α},a.Perm b->a.Pairwise le->b.Pairwise le->a=b
 | [],b,h,_,_=>h.nil_eq
 | x :: r,[],h,_,_=>absurd h.length_eq 'h'
 | x :: r,y :: t,h,ha,hb=>by
  have e:x=y:=by
   have hx:x ∈ y :: t:=h.mem_iff.mp mem_cons_self;have hy:y ∈ x :: r:=h.mem_iff.mpr mem_cons_self;rcases mem_cons.mp hx with q | q
   ·exact q
   ·rcases mem_cons.mp hy with q2 | q2
    ·exact q2.symm
    ·exact anti x y (List.rel_of_pairwise_cons ha q2) (List.rel_of_pairwise_cons hb q)
  subst e;rw [pw_eq anti (List.Perm.cons_inv h) (pairwise_cons.mp ha).2 (pairwise_cons.mp hb).2]
noncomputable def srtI(ns:List Int):List Int:=ns.mergeSort (fun a b=>decide (a <= b))
def qa1d(ns:List Int):(srtI ns).Perm ns:=List.mergeSort_perm ns _
def qb4a(ns:List Int):(srtI ns).Pairwise (· <= ·):=by
 have h:=List.pairwise_mergeSort (le:=fun a b:Int=>decide (a <= b)) (fun a b c h1 h2=>by simp at *;omega) (fun a b=>by simp;omega) ns;exact h.imp fun h=>by simpa using h
def qa4z{a ns:List Int}(h:a.Perm ns)(hp:a.Pairwise (· <= ·)):a=srtI ns:=
 pw_eq (fun a b h1 h2=>Int.le_antisymm h1 h2) (h.trans (qa1d ns).symm) hp (qb4a ns)
def leS(a b:Str):Prop:=a.cps.toList <= b.cps.toList
def leS_iff(a b:Str):ltCps b.cps.toList a.cps.toList=false ↔ leS a b:=by
 rw [ltCps_eq];simp [leS,not_lt]
def qb2z{a b c:Str}(h1:leS a b)(h2:leS b c):leS a c:=List.le_trans h1 h2
def qb8z(a b:Str):leS a b ∨ leS b a:=List.le_total ..
def qb5f(a b:Str)(h1:leS a b)(h2:leS b a):a=b:=by
 have e:=List.le_antisymm h1 h2;cases a;cases b;congr 1;exact Array.ext' e
def qc6h:∀ (p:Str) (l:List Str),risingS p l=true->(p :: l).Pairwise leS
 | p,[],_=>pairwise_singleton _ _
 | p,x :: r,h=>by
  have h':(!ltCps x.cps.toList p.cps.toList && risingS x r)=true:=h;rw [and_eq_true] at h';have t:=qc6h x r h'.2;have h1:leS p x:=(leS_iff p x).mp (by simpa using h'.1);refine pairwise_cons.mpr ⟨fun y hy=>?_,t⟩;rcases mem_cons.mp hy with rfl | hy
  ·exact h1
  ·exact qb2z h1 (List.rel_of_pairwise_cons t hy)
def qc8j:∀ (l:List Str),sortedS l=true->l.Pairwise leS
 | [],_=>List.Pairwise.nil
 | x :: r,h=>qc6h x r h
instance (a b:Str):Decidable (leS a b):=by unfold leS;infer_instance
noncomputable def srtS(ss:List Str):List Str:=ss.mergeSort (fun a b=>decide (leS a b))
def qa7p(ss:List Str):(srtS ss).Perm ss:=List.mergeSort_perm ss _
def qc6i(ss:List Str):(srtS ss).Pairwise leS:=by
 have h:=List.pairwise_mergeSort (le:=fun a b:Str=>decide (leS a b)) (fun a b c h1 h2=>by
  simp only [decide_eq_true_eq] at *;exact qb2z h1 h2) (fun a b=>by
  rcases qb8z a b with h | h<;>simp [h]) ss
 exact h.imp fun h=>by simpa using h
def qb4b{a ss:List Str}(h:a.Perm ss)(hp:a.Pairwise leS):a=srtS ss:=
 pw_eq qb5f (h.trans (qa7p ss).symm) hp (qc6i ss)
section
variable{prog:Program}{w:World}{A:Around}{E:Value->Shared->Prop}{s:Shared}{S:Addr}
def decI:∀ k v,(intKind prog w).is k v=true->numOf v=k:=fun k v h=>by
 obtain⟨t,rfl⟩:=Value.isInt_shape h;rfl
def qd1g{ns:List Int}(hh:A.handled=none)(hS:SetV (intKind prog w) numOf s.heap S ns)(h64:ns.length < 64){Q:Value->Shared->Prop}
  (h:∀ (s':Shared) (L:Addr) (out:List Value) (e:Nat),IntsAre out (srtI ns)->s'.heap.get? L=some (seqObj "list" out.toArray e)->(∀ b o,s.heap.get? b=some o->s'.heap.get? b=some o)->S < L->s'.gens=s.gens->s'.os=s.os->Q (.ref L) s') :
  wpAny (model prog w) A (call (.builtin "sorted") [.ref S]) Q E s:=by
 obtain⟨es,ep,t,ho,F⟩:=hS;refine call_function_entry kind_sorted plain_sorted entry_sorted (args_sorted1 _) ?_;unfold Builtin.«sorted»;have z0:es.size=ns.length:=by have:=F.pm.length_eq;simpa using this
 refine wpAny_bind (m:=checkCount "sorted" 1 1 _) (wpAny_pure (wpAny_bind (qd0k (by simp [hh]) ho F.ft F.ok F.ld 'o' fun s' out op kp eg eo=>?_)));have ol:out.length=ns.length:=by rw [op.length_eq,length_map,length_toList,z0]
 have hv:∀ v ∈ out,∃ n t,v=.int n t:=fun v hv=>by
  obtain⟨e,he,rfl⟩:=mem_map.mp (op.mem_iff.mp hv);obtain⟨⟨k,hk,_⟩,_⟩:=F.el e he;obtain⟨t,q⟩:=Value.isInt_shape hk;exact⟨k,t,q⟩
 have hI:=intsAre_map out hv;have hpm:(out.map numOf).Perm ns:=(op.map numOf).trans (by rw [map_map];exact F.pm);refine wpAny_bind (wpAny_newList ?_ (by rw [ol,sizeLine_eq];omega));have hoL:(s'.heap.push (seqObj "list" out.toArray 0)).get? s'.heap.objs.size=some (seqObj "list" out.toArray 0):=get?_push_size _ rfl;refine wpAny_bind (wpAny_holding (wpAny_call_entry slot_list_sort ⟨_,hoL,rfl⟩ entry_list_sort (list_sort_tree hoL hI 'o' fun out' ns' a1 a2 a3=>⟨_,rfl,?_⟩) (args_list_sort _)));obtain⟨e,he⟩:=sortedHeap_at (out:=out') hoL;have eq:=qa4z (a2.trans hpm) a3;subst eq;refine wpAny_pure ⟨_,rfl,h _ s'.heap.objs.size out'.toList e a1 he (fun b o q=>?_) (lt_size (kp _ _ ho)) eg eo⟩;have q':=kp b o q;have lt:=lt_size q';show(sortedHeap _ _ _ _).get? b=some o;rw [sortedHeap_old (ne_of_lt lt) (by rw [size_push];exact lt_succ_of_lt lt)];exact get?_push_of_some _ q'
end
end Sx
end
namespace L2
open PySem PySem.Spec PyProof.Rows
section
def bt_set:bootBuiltins "set" = some (.type "set"):=by decide +kernel
section
variable{X:Cx}{pins:List 'g'}{σ:List (Option V)}{H:Hp}{s:Shared}
def Inv.dr(I:Inv X pins σ H s)(d:Drawn):Inv X pins σ H { s with drawn:=d }:=⟨I.ok,I.os,I.bare,I.base,I.loc,I.cell,I.free,I.freeC,I.pin,I.hok,I.len⟩
def qc6j(X:Cx)(r:List V->Hp->VK->Prop):Prop:=∀ (pins:List 'g') (s:Shared) (σ:St) (H:Hp) (xs:List V) (us:List Value) (Q:VK),Inv X pins σ H s->Vals xs us->r xs H Q ->
 wpAny (model X.prog X.w) X.A (call (.type "set") us) (fun u s1=>wpAny (model X.prog X.w) X.A (call (.builtin "sorted") [u]) (EP X pins σ Q) X.xe s1) X.xe s
def qc8k{r:List V->Hp->VK->Prop}{a:Expr}{ta:TA}{p p2 pos pos2:Pos}(hr:qc6j X r) (hg:Gl X "set") (hm:X.mg "set" = none) (hg2:Gl X "sorted") (hm2:X.mg "sorted" = none) (ha:PA X [a] ta) (hs:starEach [a] X.env=(false,eval a X.env) :: starEach [] X.env:=by rfl) (hs2:(backTo pos (starEach [] X.env)).any (·.1)=false:=by rfl)
  (hs3:starEach [.Call (.Name "set" p) [a] [] pos] X.env=[(false,eval (.Call (.Name "set" p) [a] [] pos) X.env)]:=by rfl) :
  PE X (.Call (.Name "sorted" p2) [.Call (.Name "set" p) [a] [] pos] [] pos2) (tCB r ta):=by
 intro pins s σ H Q I h;refine Call_ (qa4r I hg2 hm2 qa2q (PyProof.Rows.callWith_builtin1 ?_ hs3 (by rfl)));rw [hs3];show wpAny _ _ (spliced ((false,eval (.Call (.Name "set" p) [a] [] pos) X.env) :: [])) _ _ s;refine spliced_cons (Call_ (qa4r I hg hm bt_set (PyProof.Rows.callWith_type1 (thn (ha pos pins s σ H _ I h) fun us s1 hq8=>?_) hs hs2)));obtain⟨vs,H1,I1,r1,q1⟩:=hq8;exact thn (hr pins s1 σ H1 vs us Q I1 r1 q1) fun u s2 h2=>spliced_nil h2
def qb3a:∀ {us:List Value} {ns:List Int},IntsAre us ns->Vals (ns.map V.int) us
 | _,_,.nil=>.nil
 | _,_,.cons _ _ h=>.cons ⟨_,rfl⟩ (qb3a h)
noncomputable def rSetI(K:W.Frag):List V->Hp->VK->Prop:=fun xs H Q=>∃ v S,∃ ns:List Int,xs=[v]/\(AtD K H S (.list (ns.map .int)) v ∨ AtD K H S (.tuple (ns.map .int)) v)/\ns.length < 64/\∀ p,H p=none->Q (.ref p) (upd H p (.lst ((Sx.srtI (Sx.uniq ns)).map V.int)))
def qd4m(hc:X.calm=true):qc6j X (rSetI X.K):=by
 intro pins s σ H xs us Q I rs h;obtain⟨v,S,ns,rfl,hd,hn,q⟩:=h;obtain⟨u,rfl,r⟩:=vals1 rs;obtain⟨a,its,e,rv,hq⟩:∃ a its,v=.ref a/\Vals (ns.map V.int) its/\(s.heap.IsList a its.toArray ∨ s.heap.IsTuple a its.toArray):=by
  rcases hd with hd | hd
  ·obtain⟨a,ys,rfl,_,hq,t⟩:=qa4b hd
   have ey:=ints_of_all t;subst ey;obtain⟨its,rv,pl,hz⟩:=I.list (SqL.of hq);exact⟨a,its,rfl,rv,.inl pl.isList⟩
  ·obtain⟨a,ys,rfl,hq,t⟩:=qa3d hd
   have ey:=ints_of_all t;subst ey;obtain⟨its,rv,pl,hz⟩:=I.tuple hq;exact⟨a,its,rfl,rv,.inr pl⟩
 subst e;cases r;have hl:its.length=ns.length:=by rw [← rv.length,length_map]
 refine Sx.call_v (knd:=intKind X.prog X.w) (ks:=ns) Sx.decI (I.ok.hd hc) hq (by rw [size_toArray];omega) (by rw [size_toArray,hl]) (fun i w hw=>?_) fun h1 tk sv kp=>?_
 ·rw [getElem?_toArray] at hw
  have hi:i < its.length:=(List.getElem?_eq_some_iff.mp hw).1;have hi2:i < ns.length:=by omega
  obtain⟨u,e1,⟨t,ht⟩⟩:=rv.get (i:=i) (x:=V.int ns[i]) (by rw [getElem?_map,getElem?_eq_getElem hi2];rfl);subst ht;rw [hw] at e1;cases e1;exact⟨ns[i],getElem?_eq_getElem hi2,by simp [intKind,Value.isInt],rfl⟩
 ·have hu:=Sx.qb3w ns
  refine Sx.qd1g (I.ok.hd hc) sv 'o' fun s2 L out e a1 he kp2 hlt eg eo=>?_;have hle:((Sx.srtI (Sx.uniq ns)).map V.int).length <= sizeLine:=by
   rw [length_map,(Sx.qa1d _).length_eq,sizeLine_eq];omega
  have I2:=(I.laid (a:=L) (o:=.lst ((Sx.srtI (Sx.uniq ns)).map V.int)) (t':=s2.toks) (h':=s2.heap) (fun b o x=>kp2 _ _ (kp _ _ x)) (le_of_lt hlt) ⟨hle,out,e,qb3a a1,he⟩).dr s2.drawn;have es:({ s with heap:=s2.heap,toks:=s2.toks,drawn:=s2.drawn }:Shared)=s2:=by
   cases s2;dsimp only at eg eo;subst eg eo;rfl
  rw [es] at I2;exact⟨.ref _,_,I2,rfl,q _ (I.hok.fresh (le_of_lt hlt))⟩
end
noncomputable def fSetI:FC:=fun ds=>match ds with
 | [.list xs]=>(qa2x xs).bind fun ns=>if ns.length < 64 then some (.list ((Sx.srtI (Sx.uniq ns)).map .int)) else none
 | [.tuple xs]=>(qa2x xs).bind fun ns=>if ns.length < 64 then some (.list ((Sx.srtI (Sx.uniq ns)).map .int)) else none
 | _=>none
section
variable{K:W.Frag}{H:Hp}{S:Addr->Prop}
def qa7q:∀ {ns:List Int},qa0c K H S (ns.map .int) (ns.map V.int)
 | []=>by unfold qa0c;rfl
 | x :: r=>by
  show qa0c K H S (.int x :: r.map .int) (.int x :: r.map V.int);unfold qa0c;exact⟨_,_,rfl,qa2n _,qa7q⟩
def ad_setI:AdC K (rSetI K) fSetI:=by
 intro S H vs ds z Q f h e k;unfold fSetI at e;split at e
 ·rename_i xs
  cases q1:qa2x xs with
  | none=>rw [q1] at e;cases e
  | some ns =>
   rw [q1,bind_some] at e;split at e
   ·rename_i hl
    cases e
    obtain⟨v,rfl,h1⟩:=h.one;have e1:=ints_map q1;subst e1;exact⟨v,Any,ns,rfl,.inl h1.any,hl,fun p hp=>k _ _ (qa0x hp _) (qa2o (f p hp) qa0k qa7q)⟩
   ·cases e
 ·rename_i xs
  cases q1:qa2x xs with
  | none=>rw [q1] at e;cases e
  | some ns =>
   rw [q1,bind_some] at e;split at e
   ·rename_i hl
    cases e
    obtain⟨v,rfl,h1⟩:=h.one;have e1:=ints_map q1;subst e1;exact⟨v,Any,ns,rfl,.inr h1.any,hl,fun p hp=>k _ _ (qa0x hp _) (qa2o (f p hp) qa0k qa7q)⟩
   ·cases e
 ·cases e
end
section
variable{X:Cx}{a:Expr}{daa:TDA}{p p2 pos pos2:Pos}
def de_setI(hc:X.calm=true) (hg:Gl X "set") (hm:X.mg "set" = none) (hg2:Gl X "sorted") (hm2:X.mg "sorted" = none) (ha:DA X [a] daa) (hs:starEach [a] X.env=(false,eval a X.env) :: starEach [] X.env:=by rfl) (hs2:(backTo pos (starEach [] X.env)).any (·.1)=false:=by rfl)
  (hs3:starEach [.Call (.Name "set" p) [a] [] pos] X.env=[(false,eval (.Call (.Name "set" p) [a] [] pos) X.env)]:=by rfl) :
  DE X (.Call (.Name "sorted" p2) [.Call (.Name "set" p) [a] [] pos] [] pos2) (dCB fSetI daa):=by
 obtain⟨ta,pa,aa⟩:=ha;exact⟨_,qc8k (qd4m hc) hg hm hg2 hm2 pa hs hs2 hs3,ad_cb ad_setI aa⟩
end
end
end L2
section
namespace Sx
open PySem PySem.W PyProof.Rows
noncomputable def AllP{α:Type}(n:Nat)(P:α->Prop):KasT α->Prop
 | .ret a=>P a
 | .ask i j k=>i < n/\j < n/\∀ b,AllP n P (k b)
def qa5p{α β:Type}{n:Nat}{P:α->Prop}{R:β->Prop}{f:α->KasT β}(h:∀ a,P a->AllP n R (f a)):∀ t:KasT α,AllP n P t->AllP n R (t.bind f)
 | .ret a,q=>h a q
 | .ask i j k,q=>⟨q.1,q.2.1,fun b=>qa5p h (k b) (q.2.2 b)⟩
abbrev PN(n:Nat)(p:Array Nat):Prop:=p.Perm (List.toArray (List.range n))
def qa5c{n:Nat}(hn:0 < n){p:Array Nat}(h:PN n p)(i:Nat):p.getD i 0 < n:=by
 rw [getD_eq_getD_getElem?];cases e:p[i]? with
 | none=>exact hn
 | some x =>
  have hm:x ∈ p.toList:=by
   rw [← getElem?_toList] at e;exact mem_of_getElem? e
  have:=(Array.perm_iff_toList_perm.mp h).mem_iff.mp hm;simpa using this
def qb3b{n:Nat}{p:Array Nat}(h:PN n p)(i j:Nat):PN n (kas_rev p i j):=(mirror_perm _ _ _ _).trans h
section
variable{n:Nat}(hn:0 < n)
include hn
def qb7v{p:Array Nat}(h:PN n p):∀ f m,AllP n (fun _=>True) (kas_asc p f m)
 | 0,m=>trivial
 | f + 1,m=>⟨qa5c hn h _,qa5c hn h _,fun b=>by
  cases b with
  | true=>exact trivial
  | false=>exact qb7v h f (m + 1)⟩
def qb1q:∀ f {p:Array Nat} m q,PN n p->AllP n (fun r=>PN n r.1) (kas_desc f p m q)
 | 0,p,m,q,h=>h
 | f + 1,p,m,q,h=>⟨qa5c hn h _,qa5c hn h _,fun b=>by
  cases b with
  | true =>
   show AllP n _ (if q > 0 then _ else _);split
   ·exact qb1q f _ _ (qb3b h _ _)
   ·exact qb1q f _ _ h
  | false =>
   refine⟨qa5c hn h _,qa5c hn h _,fun b=>?_⟩;cases b with
   | true=>exact h
   | false=>exact qb1q f _ _ h⟩
def qb9a{p:Array Nat}(h:PN n p)(m r:Nat):AllP n (fun x=>PN n x.2) (kas_tail3 m r p):=by
 refine qa5p (P:=fun _=>True) (fun a _=>?_) _ (qb7v hn (qb3b h _ _) _ _);exact qb3b h _ _
def qb3c{p:Array Nat}(h:PN n p)(m r:Nat):AllP n (fun x=>PN n x.2) (kas_descPart m r p):=by
 refine qa5p (fun x hx=>?_) _ (qb1q hn _ _ _ h);show AllP n _ (if x.2.2 > 0 then _ else _);split
 ·exact qb9a hn (qb3b hx _ _) _ _
 ·exact qb9a hn hx _ _
def qd1h{p:Array Nat}(h:PN n p)(r:Nat):AllP n (fun x=>PN n x.2) (kas_count r p):=by
 refine qa5p (fun m _=>?_) _ (qb7v hn h _ _);show AllP n _ (if (m == r)=true then _ else if m > 1 then _ else _);split
 ·exact h
 ·split
  ·refine⟨qa5c hn h _,qa5c hn h _,fun b=>?_⟩
   cases b with
   | true=>exact h
   | false=>exact qb3c hn (qb3b h _ _) _ _
  ·exact qb3c hn h _ _
def qb3d{p:Array Nat}(h:PN n p)(k:Nat):∀ f l r,AllP n (fun _=>True) (kas_place p k f l r)
 | 0,l,r=>trivial
 | f + 1,l,r=>by
  show AllP n _ (if l ≥ r then _ else _);split
  ·exact trivial
  ·refine⟨qa5c hn h _,qa5c hn h _,fun b=>?_⟩
   cases b with
   | true=>exact qb3d h k f _ _
   | false=>exact qb3d h k f _ _
def qc6k:∀ f {p:Array Nat} k,PN n p->AllP n (fun x=>PN n x) (kas_bin f p k)
 | 0,p,k,h=>h
 | f + 1,p,k,h=>qa5p (fun l _=>qc6k f _ ((bubble_perm _ _ _).trans h)) _ (qb3d hn h _ _ _ _)
def qc1f:AllP n (fun p=>PN n p) (kas_sort n):=by
 refine qa5p (fun r hr=>?_) _ (qd1h hn (Array.Perm.refl _) n);show AllP n _ (if r.1 < n then _ else _);split
 ·exact qc6k hn _ _ hr
 ·exact hr
end
def TupAt(h:Heap)(v:Value)(t:List Int):Prop:=∃ a o xs n,v=.ref a/\h.get? a=some o/\o.cls=.type "tuple" /\ o.data=.seq xs n/\IntsAre xs.toList t/\t ≠ []
section
variable{prog:Program}{w:World}{A:Around}{E:Value->Shared->Prop}{s:Shared}
def qc1g:∀ {vs:List Value} {h:Heap},(∀ v ∈ vs,∃ t,TupAt h v t)->∃ fs,KatTups h vs fs/\fs.length=vs.length/\∀ v ∈ fs,∃ n t,v=.int n t
 | [],h,_=>⟨[],KatTups.nil,rfl,fun v hv=>absurd hv not_mem_nil⟩
 | v :: r,h,H=>by
  obtain⟨fs,k,hl,hf⟩:=qc1g (vs:=r) (h:=h) fun v hv=>H v (mem_cons_of_mem _ hv);obtain⟨t,a,o,xs,n,rfl,ho,hc,hd,hI,hne⟩:=H v mem_cons_self;obtain⟨f,fr,e⟩:∃ f fr,xs.toList=f :: fr:=by
   cases q:xs.toList with
   | nil=>rw [q] at hI;cases hI;exact absurd rfl hne
   | cons f fr=>exact⟨f,fr,rfl⟩
  have e0:xs[0]? = some f:=by rw [← getElem?_toList,e];rfl
  refine⟨f :: fs,KatTups.cons ho hc hd e0 k,by rw [length_cons,length_cons,hl],fun v hv=>?_⟩;rcases mem_cons.mp hv with rfl | hv
  ·exact hI.all _ (by rw [e];exact mem_cons_self)
  ·exact hf v hv
end
end Sx
end
section
namespace L2
open PySem PySem.Spec PyProof.Rows
abbrev encT(t:List Int):PyData:=.tuple (t.map .int)
section
variable{prog:Program}{w:World}{A:Around}{E:Value->Shared->Prop}{s:Shared}
def qb4o{h h':Heap}{v:Value}{t:List Int}(x:Sx.TupAt h v t)(k:∀ b o,h.get? b=some o->h'.get? b=some o):Sx.TupAt h' v t:=by
 obtain⟨a,o,xs,n,e,ho,r⟩:=x;exact⟨a,o,xs,n,e,k _ _ ho,r⟩
end
section
variable{X:Cx}
def qb2k:∀ {ns:List Int} {us:List Value},Vals (ns.map V.int) us->IntsAre us ns
 | [],us,h=>by rw [Vals.zero h];exact .nil
 | x :: r,us,h=>by
  cases h with
  | cons h1 h2 =>
   obtain⟨t,rfl⟩:=h1;exact .cons _ _ (qb2k h2)
noncomputable def qa7r(d:PyData):Bool:=PyData.layable0 d && d.intsShort 13 && d.showable
noncomputable def rRepr(K:W.Frag):List V->Hp->VK->Prop:=fun xs H Q=>∃ v S,∃ ds:List PyData,xs=[v]/\AtD K H S (.tuple ds) v/\qa7r (.tuple ds)=true/\Q (.str (PyData.tuple ds).shown) H
def qd1i(hg:X.A.guards=some [])(hu:X.A.units + 80 < cLine):qa2e X (.builtin "repr") (rRepr X.K):=by
 intro pins s σ H xs us Q I rs h;obtain⟨v,S,ds,rfl,hd,hk,q⟩:=h;obtain⟨u,rfl,r⟩:=vals1 rs;obtain⟨as,rd⟩:=AtD.reads I _ v u hd r;obtain⟨a,ys,rfl,hq,t⟩:=qa3d hd;cases r;unfold qa7r at hk;simp only [and_eq_true] at hk;obtain⟨⟨h1,h2⟩,h3⟩:=hk;have hl:=h1;unfold PyData.layable0 at h1;simp only [and_eq_true,decide_eq_true_eq] at h1;have hz:=shown_le13 hl h2;refine repr_of_reads' rd h3 (PyData.noDict_hsm (PyData.hasDict_of_canLay _ h1.1.1)) hg 'o' (fun _ _ e=>e) (fun h' u tk hk=>?_) (by rw [sizeLine_eq];omega);exact⟨.str _,H,I.kept hk,⟨_,rfl⟩,q⟩
end
def dSortT(da:TDA):TDE:=fun ρ Q=>da ρ fun xs ρ1=>need (qa1x ρ1 xs) fun ds=>∃ tss:List 'f',ds=[.list (tss.map encT)]/\(∀ t ∈ tss,t ≠ [])/\tss.length < 64/\∀ tss':List 'f',tss'.Perm tss->Q (.d (.list (tss'.map encT))) ρ1
noncomputable def fRepr:FC:=fun ds=>match ds with
 | [.tuple xs]=>if qa7r (.tuple xs)=true then some (.str (PyData.tuple xs).shown) else none
 | _=>none
section
variable{K:W.Frag}
def qb5g{H:Hp}{S S':Addr->Prop}:∀ {tss:List 'f'} {xs:List V},qa0c K H S (tss.map encT) xs->qa0c K H S' (tss.map encT) xs
 | [],xs,h=>by rw [h.unnil];unfold qa0c;rfl
 | t :: r,xs,h=>by
  obtain⟨y,yr,e,hd,tl⟩:=qa0c.uncons (ds:=r.map encT) (d:=encT t) h;subst e;obtain⟨a,ys,rfl,hq,tt⟩:=qa3d hd;have ey:=ints_of_all tt;subst ey;show qa0c K H S' (encT t :: r.map encT) _;unfold qa0c;refine⟨_,_,rfl,?_,qb5g tl⟩;unfold AtD;exact⟨a,_,rfl,hq,qa7q⟩
def ad_repr:AdC K (rRepr K) fRepr:=by
 intro S H vs ds z Q f h e k;unfold fRepr at e;split at e
 ·rename_i xs
  split at e
  ·rename_i hx
   cases e
   obtain⟨v,rfl,h1⟩:=h.one;exact⟨v,Any,xs,rfl,h1.any,hx,k _ _ (Same.refl _) (qa4x _)⟩
  ·cases e
 ·cases e
end
theorem qd4n{da:TDA}{ρ:Rho}{Q:DV->Rho->Prop}:dSortT da ρ Q=(da ρ fun xs ρ1=>need (qa1x ρ1 xs) fun ds=>∃ tss:List 'f',ds=[.list (tss.map encT)]/\(∀ t ∈ tss,t ≠ [])/\tss.length < 64/\∀ tss':List 'f',tss'.Perm tss->Q (.d (.list (tss'.map encT))) ρ1):=rfl
def fSetI_l{ns:List Int}(h:ns.length < 64):fSetI [.list (ns.map .int)]=some (.list ((Sx.srtI (Sx.uniq ns)).map .int)):=by
 show((qa2x (ns.map .int)).bind fun ns=>if ns.length < 64 then _ else _)=_;rw [ints_of,bind_some,if_pos h]
def fRepr_t{xs:List PyData}(h:qa7r (.tuple xs)=true):fRepr [.tuple xs]=some (.str (PyData.tuple xs).shown):=if_pos h
section
variable{X:Cx}{e:Expr}{es:List Expr}{daa:TDA}{pos:Pos}
def Room.units2{k:Nat}{A:Around}(r:Room k A):A.units + 80 < cLine:=by have:=r.un;omega
end
end L2
namespace Sn
instance stands:Nonempty Unit:=⟨()⟩
end Sn
end
namespace L2
open PySem PySem.Spec PyProof.Rows
section
noncomputable def rngV(n:Nat):List V:=(List.range n).map fun i=>V.int (0 + (i:Nat))
noncomputable def rListR:List V->Hp->VK->Prop:=fun xs H Q=>∃ j:Int,xs=[.int j]/\0 <= j/\j <= 1000000/\∀ p,H p=none->Q (.ref p) (upd H p (.lst (rngV j.toNat)))
section
variable{X:Cx}
def qd1j{acc:Array Value}{n:Nat}(h:ItemsOf (fun i v=>∃ t,v=.int (0 + (i:Nat) * 1) t) acc n):Vals (rngV n) acc.toList:=by
 have key:∀ (m k:Nat) (l:List Value),l.length=m->(∀ (i:Nat) (v:Value),l[i]? = some v->∃ t,v=Value.int (((k + i:Nat):Int)) t)->Vals ((List.range' k m).map fun i=>V.int (0 + (i:Nat))) l:=by
  intro m;induction m with
  | zero =>
   intro k l hl _;have e:l=[]:=eq_nil_of_length_eq_zero hl;subst e;exact .nil
  | succ m ih =>
   intro k l hl hv;cases l with
   | nil=>cases hl
   | cons x r =>
    rw [List.range'_succ,map_cons];obtain⟨t,ht⟩:=hv 0 x rfl;refine .cons ⟨t,by rw [ht];simp⟩ (ih (k + 1) r (by simpa using hl) fun i v hi=>?_);obtain⟨t,ht⟩:=hv (i + 1) v (by simpa using hi);exact⟨t,by rw [ht];congr 1;omega⟩
 unfold rngV;rw [List.range_eq_range'];refine key n 0 acc.toList (by rw [length_toList];exact h.1) fun i v hi=>?_;obtain⟨t,ht⟩:=h.2 i v (by rw [← getElem?_toList];exact hi);exact⟨t,by rw [ht];congr 1;omega⟩
def qc1h{a:Expr}{ta:TA}{p p2 pos pos2:Pos}(hc:X.calm=true) (hg:Gl X "range") (hm:X.mg "range" = none) (hg2:Gl X "list") (hm2:X.mg "list" = none) (ha:PA X [a] ta) (hs:starEach [a] X.env=(false,eval a X.env) :: starEach [] X.env:=by rfl) (hs2:(backTo pos (starEach [] X.env)).any (·.1)=false:=by rfl)
  (hs3:starEach [.Call (.Name "range" p) [a] [] pos] X.env=[(false,eval (.Call (.Name "range" p) [a] [] pos) X.env)]:=by rfl) :
  PE X (.Call (.Name "list" p2) [.Call (.Name "range" p) [a] [] pos] [] pos2) (tCB rListR ta):=by
 intro pins s σ H Q I h;refine Call_ (qa4r I hg2 hm2 qa8r (PyProof.Rows.callWith_type1 ?_ hs3 (by rfl)));rw [hs3];show wpAny _ _ (spliced ((false,eval (.Call (.Name "range" p) [a] [] pos) X.env) :: [])) _ _ s;refine spliced_cons (Call_ (qa4r I hg hm boot_range (PyProof.Rows.callWith_type1 (thn (ha pos pins s σ H _ I h) fun us s1 hq8=>?_) hs hs2)));obtain⟨vs,H1,I1,r1,q1⟩:=hq8;obtain⟨j,rfl,h0,h1,q⟩:=q1;obtain⟨u,rfl,t,rfl⟩:=vals1 r1;refine call_range_1 (spliced_nil ?_);have e2:Builtin.Range.rangeSize 0 j 1=((j.toNat:Nat):Int):=by rw [rangeSize_one];split<;>omega
 refine call_list_range (n:=j.toNat) (I1.ok.hd hc) (IsRange.new ..) (small_one 'o' 'o' 'o' 'o') e2 (by show j.toNat <= 16777216;omega) fun h' tk acc c' kp he hacc=>?_;have hle:(rngV j.toNat).length <= sizeLine:=by unfold rngV;rw [length_map,length_range,sizeLine_eq];omega
 have ge:s1.heap.objs.size <= (s1.heap.push { cls:=.type "range",data:=.fields #[.int 0 s1.toks,.int j t,.int 1 (s1.toks + 1)] }).objs.size:=by rw [size_push];exact le_succ _
 refine⟨.ref _,_,I1.laid (o:=.lst (rngV j.toNat)) (t':=tk) (fun b o x=>kp _ _ (get?_push_of_some _ x)) ?_ ⟨hle,acc.toList,c',qd1j hacc,he⟩,rfl,q _ (I1.hok.fresh ?_)⟩
 ·show _ <= (s1.heap.push _).objs.size;rw [size_push];exact le_succ _
 ·show _ <= (s1.heap.push _).objs.size;rw [size_push];exact le_succ _
end
noncomputable def qb6t:FC:=fun ds=>match ds with
 | [.int j]=>if 0 <= j/\j <= 1000000 then some (.list (rngD 0 j.toNat)) else none
 | _=>none
def qd4o{j:Int}(h0:0 <= j)(h1:j <= 1000000):qb6t [.int j]=some (.list (rngD 0 j.toNat)):=if_pos ⟨h0,h1⟩
def qd1k{K:W.Frag}{H:Hp}{S:Addr->Prop}(n:Nat):qa0c K H S (rngD 0 n) (rngV n):=by
 unfold rngD rngV;generalize List.range n=l;induction l with
 | nil=>unfold qa0c;rfl
 | cons x r ih =>
  rw [map_cons,map_cons];unfold qa0c;exact⟨_,_,rfl,qa2n _,ih⟩
def qd4p{K:W.Frag}:AdC K rListR qb6t:=by
 intro S H vs ds z Q f h e k;unfold qb6t at e;split at e
 ·rename_i j
  split at e
  ·rename_i hx
   cases e
   obtain⟨v,rfl,h1⟩:=h.one;have ev:=h1.int;subst ev;exact⟨j,rfl,hx.1,hx.2,fun p hp=>k _ _ (qa0x hp _) (qa2o (f p hp) qa0k (qd1k _))⟩
  ·cases e
 ·cases e
def qd4q{X:Cx}{a:Expr}{daa:TDA}{p p2 pos pos2:Pos}(hc:X.calm=true) (hg:Gl X "range") (hm:X.mg "range" = none) (hg2:Gl X "list") (hm2:X.mg "list" = none) (ha:DA X [a] daa) (hs:starEach [a] X.env=(false,eval a X.env) :: starEach [] X.env:=by rfl) (hs2:(backTo pos (starEach [] X.env)).any (·.1)=false:=by rfl)
  (hs3:starEach [.Call (.Name "range" p) [a] [] pos] X.env=[(false,eval (.Call (.Name "range" p) [a] [] pos) X.env)]:=by rfl) :
  DE X (.Call (.Name "list" p2) [.Call (.Name "range" p) [a] [] pos] [] pos2) (dCB qb6t daa):=by
 obtain⟨ta,pa,aa⟩:=ha;exact⟨_,qc1h hc hg hm hg2 hm2 pa hs hs2 hs3,ad_cb qd4p aa⟩
end
section
noncomputable def Its(x:Str):It:=⟨fun i _=>i < x.cps.size,fun i H y H'=>H'=H/\∃ c,x.cps[i]? = some c/\y=.str ⟨#[c]⟩,fun i _=>x.cps.size <= i⟩
def qd1l{P:Program}{w:World}{K:W.Frag}{tg:Expr}(it:Addr)(x:Str)(t:Tok):Turn P w K tg (Its x) [it] it (fun i h=>h.IsStrIter it "str_ascii_iterator" x t i) where
 mem:=by simp
 obj:=fun i h st b hb=>by
  have e:b=it:=by simpa using hb
  subst e;obtain⟨o,e,c,d⟩:=st;exact⟨o,e,fun v z=>by rw [d] at z;cases z⟩
 keep:=fun i h h' st k=>let ⟨o,ho,r⟩:=st;⟨o,k it 'h' o ho,r⟩
 item:=by
  intro X hP hw hK hc i pins s σ H E I hf st hg;subst hP hw hK;obtain⟨f0,f1,f2,f3,f4,f5⟩:=hf it 'h';refine(Walks.strAscii (prog:=X.prog) (w:=X.w) (I.ok.hd hc) it x t).item i s _ _ hg st fun v h' tk hv st' kk=>?_;obtain⟨c,u,hcu,rfl⟩:=hv;have I1:Inv X pins σ H { s with heap:=h',toks:=tk }:=I.turned (fun b o hb e=>kk b o (by simpa using hb) e) f0 f1 f3 f4 f5;obtain⟨o,e,c1,d⟩:=id st';exact⟨_,rfl,go_of (s:={ s with heap:=h',toks:=tk }) e c1 d 'd' ⟨.str ⟨#[c]⟩,H,I1,⟨u,rfl⟩,⟨rfl,c,hcu,rfl⟩,st',fun b hb=>(hf b hb).1⟩⟩
 done:=by
  intro X hP hw hK hc i pins s σ H E I hf st hg;subst hP hw hK;obtain⟨f0,f1,f2,f3,f4,f5⟩:=hf it 'h';have hn:x.cps[i]? = none:=getElem?_eq_none hg;exact wpAny_pyNext_ascii_end (I.ok.hd hc) st hn fun h' eb=>⟨rfl,I.turned (t':=s.toks) (fun b o hb e=>eb b o hb e) f0 f1 f3 f4 f5⟩
 self:=fun _ _ _ _ _ st h=>wpAny_pyIter_striter_ascii st h
def qd1m{P:Program}{w:World}{K:W.Frag}{tg:Expr}(it:Addr)(x:Str)(t:Tok):Turn P w K tg (Its x) [it] it (fun i h=>h.IsStrIter it "str_iterator" x t i) where
 mem:=by simp
 obj:=fun i h st b hb=>by
  have e:b=it:=by simpa using hb
  subst e;obtain⟨o,e,c,d⟩:=st;exact⟨o,e,fun v z=>by rw [d] at z;cases z⟩
 keep:=fun i h h' st k=>let ⟨o,ho,r⟩:=st;⟨o,k it 'h' o ho,r⟩
 item:=by
  intro X hP hw hK hc i pins s σ H E I hf st hg;subst hP hw hK;obtain⟨f0,f1,f2,f3,f4,f5⟩:=hf it 'h';refine(Walks.strWide (prog:=X.prog) (w:=X.w) (I.ok.hd hc) it x t).item i s _ _ hg st fun v h' tk hv st' kk=>?_;obtain⟨c,u,hcu,rfl⟩:=hv;have I1:Inv X pins σ H { s with heap:=h',toks:=tk }:=I.turned (fun b o hb e=>kk b o (by simpa using hb) e) f0 f1 f3 f4 f5;obtain⟨o,e,c1,d⟩:=id st';exact⟨_,rfl,go_of (s:={ s with heap:=h',toks:=tk }) e c1 d 'd' ⟨.str ⟨#[c]⟩,H,I1,⟨u,rfl⟩,⟨rfl,c,hcu,rfl⟩,st',fun b hb=>(hf b hb).1⟩⟩
 done:=by
  intro X hP hw hK hc i pins s σ H E I hf st hg;subst hP hw hK;obtain⟨f0,f1,f2,f3,f4,f5⟩:=hf it 'h';have hn:x.cps[i]? = none:=getElem?_eq_none hg;exact wpAny_pyNext_wide_end (I.ok.hd hc) st hn fun h' eb=>⟨rfl,I.turned (t':=s.toks) (fun b o hb e=>eb b o hb e) f0 f1 f3 f4 f5⟩
 self:=fun _ _ _ _ _ st h=>wpAny_pyIter_striter_wide st h
section
variable{X:Cx}{tg:Expr}
def iStr(tl:TE):TI:=fun σ H R=>tl σ H fun x H1=>∃ z,x=.str z/\R (Its z) H1
def pi_str{l:Expr}{tl:TE}(hl:PE X l tl):PI X tg l (iStr tl):=by
 intro pins s σ H R I h;refine thn (hl pins s σ H _ I h) fun v s1 hq9=>?_;obtain⟨x,H1,I1,r1,q1⟩:=hq9;obtain⟨z,rfl,q⟩:=q1;obtain⟨t,rfl⟩:=r1;have fp:∀ b ∈ [s1.heap.objs.size],FpOk X pins H1 b:=fun b hb=>by
  have e:b=s1.heap.objs.size:=by simpa using hb
  subst e;exact I1.fpOk 'e' (I1.hok.fresh 'e')
 cases ha:z.cps.all (· < 128) with
 | true=>exact wpAny_pyIter_ascii ha ⟨s1.heap.objs.size,[s1.heap.objs.size],_,_,H1,rfl,I1.kept (t':=s1.toks) fun b o e=>get?_push_of_some _ e,qd1l _ z t,⟨_,get?_push_size _ rfl,rfl,rfl⟩,fp,q⟩
 | false=>exact wpAny_pyIter_wide ha ⟨s1.heap.objs.size,[s1.heap.objs.size],_,_,H1,rfl,I1.kept (t':=s1.toks) fun b o e=>get?_push_of_some _ e,qd1m _ z t,⟨_,get?_push_size _ rfl,rfl,rfl⟩,fp,q⟩
end
abbrev signs(x:Str):List PyData:=x.cps.toList.map fun c=>.str ⟨#[c]⟩
noncomputable def asSt:PyData->Option Str
 | .str x=>some x
 | _=>none
theorem asSt_s{x:Str}:asSt (.str x)=some x:=rfl
def diStr(de:TDE):TDI:=fun ρ Q=>de ρ fun x ρ1=>need (qa0q ρ1 x) fun d=>need (asSt d) fun z=>Q (signs z) ρ1
section
variable{K:W.Frag}{H:Hp}{S:Addr->Prop}
def qc8l{z:Str}:qb0x K S H (Its z) (signs z):=fun S' H' P=>by
 refine⟨fun i x e=>?_,by simp [Its]⟩;rw [getElem?_map,getElem?_toList] at e;obtain⟨c,hc,rfl⟩:=map_eq_some_iff.mp e;refine⟨(Array.getElem?_eq_some_iff.mp hc).1,fun v H'' y=>?_⟩;obtain⟨rfl,c',hc',rfl⟩:=y;rw [hc] at hc';cases hc';exact⟨Same.refl _,qa4x _⟩
def ai_str{t:TE}{de:TDE}(h:AdE K t de):AdI K (iStr t) (diStr de):=fun c O ρ σ H Qd Q R q k =>
 h c O ρ σ H _ _ R q fun x ρ1 O1 v H1 h1 R1 P1 a1=>by
  obtain⟨d,e1,hn1⟩:=ne (h1);obtain⟨z,e2,h2⟩:=ne (hn1);cases d with
  | str z' =>
   cases e2
   exact⟨z,(R1.top a1 e1).str,k _ _ _ _ _ h2 R1 P1 qc8l⟩
  | _=>cases e2
end
def di_str{X:Cx}{tg e:Expr}{de:TDE}(h:DE X e de):DI X tg e (diStr de):=by obtain⟨_,p,a⟩:=h;exact⟨_,pi_str p,ai_str a⟩
theorem diStr_a{de:TDE}{ρ:Rho}{Q:List PyData->Rho->Prop}:diStr de ρ Q=(de ρ fun x ρ1=>need (qa0q ρ1 x) fun d=>need (asSt d) fun z=>Q (signs z) ρ1):=rfl
noncomputable def leC(x y:Str):Bool:=decide (x.cps.toList <= y.cps.toList)
def rLeS:R2:=fun x y H Q=>∃ i j,x=.str i/\y=.str j/\Q (.bl (leC i j)) H
def qc1i{X:Cx}:OpR X (compareOp .LtE) rLeS:=by
 intro pins s σ H x y v u Q I rx ry h;obtain⟨i,j,rfl,rfl,q⟩:=h;obtain⟨t,rfl⟩:=rx;obtain⟨t',rfl⟩:=ry;refine P.le_str ⟨.bl _,H,I,?_,q⟩;show Value.bool _=Value.bool (leC i j);congr 1;unfold leC;rw [Bool.eq_iff_iff];simp [not_lt]
noncomputable def fLeS:F2
 | .str i,.str j=>some (.bool (leC i j))
 | _,_=>none
theorem fLeS_s{x y:Str}:fLeS (.str x) (.str y)=some (.bool (leC x y)):=rfl
def qc1j{K:W.Frag}:AdR K rLeS fLeS:=by
 intro S H x y dx dy z Q f hx hy e k;unfold fLeS at e;split at e
 ·cases e
  exact⟨_,_,hx.str,hy.str,k _ _ (Same.refl _) (qa2m _)⟩
 ·cases e
section
variable{X:Cx}
noncomputable def rAllB(K:W.Frag):List V->Hp->VK->Prop:=fun xs H Q=>∃ v S,∃ bs:List Bool,xs=[v]/\AtD K H S (.list (bs.map .bool)) v/\Q (.bl (bs.all id)) H
def bools_of_all{K:W.Frag}{H:Hp}{S:Addr->Prop}:∀ {bs:List Bool} {xs:List V},qa0c K H S (bs.map .bool) xs->xs=bs.map V.bl
 | [],xs,h=>by rw [h.unnil];rfl
 | n :: r,xs,h=>by
  obtain⟨v,vr,rfl,hd,t⟩:=h.uncons;rw [qa5o hd,bools_of_all t];rfl
def qb6u:∀ {bs:List Bool} {us:List Value},Vals (bs.map V.bl) us->us=bs.map Value.bool
 | [],us,h=>by rw [Vals.zero h];rfl
 | x :: r,us,h=>by
  cases h with
  | cons h1 h2 =>
   rw [qb6u h2,map_cons];congr 1
def qa5q(hc:X.calm=true):qa2e X (.builtin "all") (rAllB X.K):=by
 intro pins s σ H xs us Q I rs h;obtain⟨v,S,bs,rfl,hd,q⟩:=h;obtain⟨u,rfl,r⟩:=vals1 rs;obtain⟨a,ys,rfl,_,hq,t⟩:=qa4b hd;cases r;have ey:=bools_of_all t;subst ey;obtain⟨its,rv,pl,hz⟩:=I.list (SqL.of hq);have ei:=qb6u rv;subst ei;have la:a < s.heap.objs.size:=lt_size pl.isList.choose_spec.1;refine call_all_walk (wpAny_pyIter_list pl.isList ⟨s.heap.objs.size,_,_,_,_,_,fun i=>bs.getD i true,rfl,Walks.list (by simpa using I.ok.hd hc) s.heap.objs.size a (ne_of_lt la) (bs.map Value.bool).toArray,⟨⟨_,get?_push_size _ rfl,rfl,rfl⟩,pl.isList.push _⟩,fun i v s' Q' E' hP hQ=>?_,fun h' tk hk=>?_⟩)
 ·have hP:(bs.map Value.bool).toArray[i]? = some v:=hP
  rw [getElem?_toArray,getElem?_map] at hP;obtain⟨b,hb,rfl⟩:=map_eq_some_iff.mp hP;have e:bs.getD i true=b:=by rw [getD_eq_getElem?_getD,hb];rfl
  have hQ:Q' (bs.getD i true) s':=hQ;rw [e] at hQ;exact wpAny_truthy_bool hQ
 ·have e:((List.range (bs.map Value.bool).toArray.size).all fun i=>bs.getD i true)=bs.all id:=by
   rw [size_toArray,length_map,Bool.eq_iff_iff,all_eq_true,all_eq_true];constructor
   ·intro h b hb
    obtain⟨i,hi,rfl⟩:=getElem_of_mem hb;have:=h i (mem_range.mpr hi);rw [getD_eq_getElem?_getD,getElem?_eq_getElem hi] at this;exact this
   ·intro h i hi
    have hi':=mem_range.mp hi;rw [getD_eq_getElem?_getD,getElem?_eq_getElem hi'];exact h _ (getElem_mem hi')
  rw [e];refine⟨.bl _,H,I.kept fun b o e=>hk b o ?_ (get?_push_of_some _ e),rfl,q⟩;rw [mem_singleton];exact ne_of_lt (lt_size e)
end
noncomputable def qa9s:List PyData->Option (List Bool)
 | []=>some []
 | .bool b :: r=>(qa9s r).map (b :: ·)
 | _ :: _=>none
def qb9b:∀ bs:List Bool,qa9s (bs.map .bool)=some bs
 | []=>rfl
 | x :: r=>by show(qa9s (r.map .bool)).map (x :: ·)=_;rw [qb9b r];rfl
def qb6v:∀ {xs:List PyData} {bs:List Bool},qa9s xs=some bs->xs=bs.map .bool
 | [],bs,h=>by cases h;rfl
 | .bool x :: r,bs,h=>by
  have h':(qa9s r).map (x :: ·)=some bs:=h;obtain⟨qs,h1,rfl⟩:=map_eq_some_iff.mp h';rw [qb6v h1];rfl
noncomputable def fAllB:FC:=fun ds=>match ds with
 | [.list xs]=>(qa9s xs).map fun bs=>.bool (bs.all id)
 | _=>none
def qa6u(bs:List Bool):fAllB [.list (bs.map .bool)]=some (.bool (bs.all id)):=by
 show(qa9s (bs.map .bool)).map _=_;rw [qb9b];rfl
def qa8w{K:W.Frag}:AdC K (rAllB K) fAllB:=by
 intro S H vs ds z Q f h e k;unfold fAllB at e;split at e
 ·rename_i xs
  obtain⟨bs,q1,rfl⟩:=map_eq_some_iff.mp e;obtain⟨v,rfl,h1⟩:=h.one;have e1:=qb6v q1;subst e1;exact⟨v,Any,bs,rfl,h1.any,k _ _ (Same.refl _) (qa2m _)⟩
 ·cases e
end
section
noncomputable def putG(κ:List (Key × FD))(k:Key)(f:FD):List (Key × FD):=if (κ.any fun q=>decide (q.1=k))=true then κ.map (fun q=>if q.1=k then(q.1,f) else q) else κ ++ [(k,f)]
def putG_E(κ:List (Key × FD))(k:Key)(f:FD):(putG κ k f).map gE=putK (κ.map gE) k f.v:=by
 have ea:((κ.map gE).any fun kv=>decide (kv.1=k))=κ.any fun q=>decide (q.1=k):=by
  rw [any_map];rfl
 unfold putG putK;rw [ea];split
 ·rw [map_map,map_map]
  refine map_congr_left fun q _=>?_;show gE (if q.1=k then(q.1,f) else q)=if (gE q).1=k then((gE q).1,f.v) else gE q
  by_cases c:q.1=k
  ·rw [if_pos c,if_pos (show(gE q).1=k from c)];rfl
  ·rw [if_neg c,if_neg (show ¬ (gE q).1=k from c)]
 ·rw [map_append];rfl
noncomputable def qa3s:PyData->Option Key
 | .int i=>some (.inl i)
 | .str x=>some (.inr x)
 | _=>none
noncomputable def asF:PyData->Option FD
 | .none=>some .none
 | .bool b=>some (.bool b)
 | .int n=>some (.int n)
 | .str x=>some (.str x)
 | _=>none
def qa9t{K:W.Frag}{H:Hp}{S:Addr->Prop}{d:PyData}{v:V}{k:Key}(h:AtT K H S d v)(e:qa3s d=some k):v=kV k:=by
 cases d with
 | int i=>cases e;exact h.int
 | str x=>cases e;exact h.str
 | _=>cases e
def asF_at{K:W.Frag}{H:Hp}{S:Addr->Prop}{d:PyData}{v:V}{f:FD}(h:AtT K H S d v)(e:asF d=some f):v=f.v:=by
 cases d with
 | none=>cases e;exact h.none
 | bool b=>cases e;exact h.bool
 | int i=>cases e;exact h.int
 | str x=>cases e;exact h.str
 | _=>cases e
structure PinK(K:W.Frag)(c:Rc)(p:Addr)(ν:List (Key × V))(i:Nat)(O:Own)(ρ:Rho)(σ:St)(H:Hp):Prop where
 rel:Rel K (c.reb O p H) O ρ σ H
 at_:H p=some (.dK ν)
 slot:σ[i]? = some (some (.ref p))
 nul:ρ[i]? = some none
 bA:∀ j q,O j=some q->c.A q
 bS:∀ b o,¬ c.M b->c.H0 b=some o->H b=some o
 bK:∀ b,c.H0 b ≠ none->H b ≠ none
 bM:∀ q,c.M q->∃ vs,H q=some (.lst vs)
 am:∀ q,c.A q->c.M q ∨ c.H0 q=none
 frs:∀ q,c.H0 q=none->c.S q
 fr0:c.H0 p=none
 np:¬ c.P p
section
variable{K:W.Frag}{c:Rc}{O O1:Own}{ρ ρ1:Rho}{σ σ1:St}{H H1 H2:Hp}{p:Addr}{ν μ:List (Key × V)}{i:Nat}
def PinK.notO(P:PinK K c p ν i O ρ σ H)(j:Nat):O j ≠ some p:=fun e=>by
 obtain⟨_,vs,h⟩:=P.rel.has j p e;rw [P.at_] at h;cases h
def PinK.stays(P:PinK K c p ν i O ρ σ H)(R:Rel K (c.reb O p H) O1 ρ1 σ1 H1):H1 p=some (.dK ν):=R.same p _ (fun hq8=>by obtain⟨j,e⟩:=hq8;exact P.notO j e) P.at_
def PinK.step(P:PinK K c p ν i O ρ σ H)(R:Rel K (c.reb O p H) O1 ρ1 σ1 H1)(hs:σ1[i]? = some (some (.ref p)))(hn:ρ1[i]? = some none)(ne:∀ b,b ≠ p->H2 b=H1 b)(h2:H2 p=some (.dK μ)) :
  PinK K c p μ i O1 ρ1 σ1 H2/\Pers K (live (c.reb O p H) O1) H1 (live (c.reb O1 p H2) O1) H2:=by
 have h1:=P.stays R;have kp:Keep (live (c.reb O p H) O1) H1 H2:=⟨fun b ws e=>by rw [ne b (qa7x e h1 (by intro z;cases z))];exact e,fun b o u e=>by rw [ne b (qa7x e h1 (by intro z;cases z))];exact e,fun b o hl e=>by rw [ne b (fun z=>hl.2.1 (.inr z))];exact e⟩;have hp:Pers K (live (c.reb O p H) O1) H1 (live (c.reb O1 p H2) O1) H2:=.of kp fun a z=>z;have ho:∀ j q vs,O1 j=some q->H1 q=some (.lst vs)->H2 q=some (.lst vs):=fun j q vs _ e=>by rw [ne q (qa7x e h1 (by intro z;cases z))];exact e
 have nn:∀ q,H2 q=none->q ≠ p/\H1 q=none:=fun q z=>by
  have:q ≠ p:=by rintro rfl;rw [h2] at z;cases z
  exact⟨this,by rw [← ne q this];exact z⟩
 refine⟨⟨R.to (fun _=>rfl) (fun _ _ _ z=>z) rfl rfl hp ho (fun j q e _=>⟨j,e⟩) (fun q z=>.inl z) (fun q z=>R.frs q (R.free0 (nn q z).2)) (fun b o _ z=>z) (fun b z=>z) (fun q ⟨j,e⟩=>?_) (fun q z w=>R.pin q z (nn q w).2) (fun _=>rfl) (R.sc.keep kp),h2,hs,hn,fun j q e=>?_,fun b o nM e=>?_,fun b z w=>?_,fun q z=>?_,P.am,P.frs,P.fr0,P.np⟩,hp⟩
 ·obtain⟨_,vs,e'⟩:=R.has j q e
  exact⟨vs,ho j q vs e e'⟩
 ·obtain⟨j',e'⟩:=(R.has' j q e).1
  exact P.bA j' q e'
 ·have hb:b ≠ p:=by rintro rfl;rw [P.fr0] at e;cases e
  rw [ne b hb];refine R.same b o (fun hq8=>?_) (P.bS b o nM e);obtain⟨j,e'⟩:=hq8;rcases P.am b (P.bA j b e') with z | z
  ·exact nM z
  ·rw [e] at z;cases z
 ·obtain⟨_,w'⟩:=nn b w
  exact R.kept b (P.bK b z) w'
 ·have hq:∃ vs,H1 q=some (.lst vs):=by
   by_cases hj:∃ j,O j=some q
   ·exact R.ml q hj
   ·obtain⟨vs,e⟩:=P.bM q z
    exact⟨vs,R.same q _ hj e⟩
  obtain⟨vs,e⟩:=hq;exact⟨vs,by rw [ne q (qa7x e h1 (by intro z;cases z))];exact e⟩
def PinK.start(R:Rel K c O ρ σ H)(hi:i < ρ.length)(hp:H p=none) :
  PinK K c p ν i (qa3g O i) (ρ.set i none) (σ.set i (some (.ref p))) (upd H p (.dK ν))/\Pers K (live c O) H (live (c.reb (qa3g O i) p (upd H p (.dK ν))) (qa3g O i)) (upd H p (.dK ν)):=by
 obtain⟨R1,P1⟩:=R.setD (x:=.none) (v:=.non) hi qa9g;have R2:=R1.forget (i:=i);rw [set_set] at R2;have hn:(ρ.set i none)[i]? = some none:=getElem?_set_self hi;have R3:=R2.poke (v:=.ref p) hn;rw [set_set] at R3;obtain⟨R4,P4⟩:=R3.lay (o:=.dK ν) hp;have fr0:c.H0 p=none:=R.free0 hp;refine⟨⟨R4.to (fun _=>rfl) (fun _ _ _ z=>z) rfl rfl (.of (Keep.refl _ _) fun a z=>z) (fun _ _ _ _ q=>q) (fun j q e _=>⟨j,e⟩) (fun q z=>.inl z) (fun q z=>R4.frs q (R4.free0 z)) (fun b o _ z=>z) (fun b z=>z) (fun q hq8=>by obtain⟨j,e⟩:=hq8;exact(R4.has j q e).2) R4.pin (fun _=>rfl) R4.sc,
  qa0k,getElem?_set_self (by rw [R.len];exact hi),hn,fun j q e=>(R4.has' j q e).1,R4.same,R4.kept,R4.ml,R4.am,R4.frs,fr0,fun z=>R.pin p (.inl z) hp⟩,(P1.trans P4).trans (.of (Keep.refl _ _) fun a z=>z)⟩
def PinK.finish{kvs:List 'l'}(P:PinK K c p ν i O ρ σ H)(hk:qa0f K H (live (c.reb O p H) O) kvs ν):Rel K c (qa3g O i) (ρ.set i (some (.d (.dict kvs)))) σ H/\Pers K (live (c.reb O p H) O) H (live c (qa3g O i)) H:=by
 have R1:Rel K (c.add p) O ρ σ H:=P.rel.to (fun _=>rfl) (fun _ _ _ z=>z) rfl rfl (.of (Keep.refl _ _) fun a z=>z) (fun _ _ _ _ q=>q) (fun j q e _=>P.bA j q e) P.am P.frs P.bS P.bK P.bM P.rel.pin (fun _=>rfl) P.rel.sc;obtain⟨R2,P2⟩:=R1.unadd;have hi:i < ρ.length:=(List.getElem?_eq_some_iff.mp P.nul).1;obtain⟨R3,P3⟩:=R2.setD (i:=i) (x:=.dict kvs) (v:=.ref p) hi (qa7n ⟨P.frs p P.fr0,P.np,P.notO⟩ P.at_ ((Pers.trans (.of (Keep.refl _ _) fun a z=>z) P2).kvs hk));have e:σ.set i (some (.ref p))=σ:=by
  refine List.ext_getElem? fun j=>?_;by_cases hj:j=i
  ·subst hj
   rw [getElem?_set_self (List.getElem?_eq_some_iff.mp P.slot).1,P.slot]
  ·exact getElem?_set_ne (Ne.symm hj)
 rw [e] at R3;exact⟨R3,(Pers.trans (.of (Keep.refl _ _) fun a z=>z) P2).trans P3⟩
end
def qa6v(i:Nat)(dg:TDG)(dk dv:TDE)(Q:List (Key × FD)->Rho->Prop):List PyData->Rho->List (Key × FD)->Prop
 | [],ρ,ν=>Q ν ρ
 | x :: r,ρ,ν=>ν.length < 1000/\dg x ρ fun ρ0=>dv ρ0 fun y ρ1=>dk ρ1 fun z ρ2=>ρ2[i]? = some none/\need (qa0q ρ2 y) fun dy=>need (asF dy) fun n=>need (qa0q ρ2 z) fun dz=>need (qa3s dz) fun k=>qa6v i dg dk dv Q r ρ2 (putG ν k n)
def qb7w(i:Nat)(di:TDI)(dg:TDG)(dk dv:TDE)(Q:List (Key × FD)->Rho->Prop)(ρ:Rho):Prop:=i < ρ.length/\di (ρ.set i none) fun xs ρ1=>ρ1[i]? = some none/\qa6v i dg dk dv Q xs ρ1 []
section
variable{K:W.Frag}
def qc8m{i:Nat}{ti:TI}{g:TG}{dg:TDG}{tk tv:TE}{di:TDI}{dk dv:TDE}{u:TS}(hI:AdI K ti di)(hg:AdGi K i g dg)(hk:AdE K tk dk)(hv:AdE K tv dv){c:Rc}{O:Own}{ρ:Rho}{σ:St}{H:Hp}{D:Ends}{Qd:List (Key × FD)->Rho->Prop}(R:Rel K c O ρ σ H)
  (h:qb7w i di dg dk dv Qd ρ) (hu:∀ p O' ρ' σ' H' ν,PinK K c p (ν.map gE) i O' ρ' σ' H'->Pers K (live c O) H (live (c.reb O' p H') O') H'->Qd ν ρ'->u D σ' H') :
  tSeq (tAsg qb6m (qa3l i)) (tSeq (tFor ti g (qb1p (tVar i) tk tv)) u) D σ H:=by
 obtain⟨hi,h⟩:=h;intro p hp;obtain⟨P0,Q0⟩:=PinK.start (i:=i) (ν:=[]) R hi hp;show tFor ti g (qb1p (tVar i) tk tv) { D with nx:=u D } (σ.set i (some (.ref p))) (upd H p (.dK []));refine hI _ _ _ _ _ _ _ P0.rel h fun xs ρ1 O1 J H1 h1 R1 P1 I1=>?_;obtain⟨hn1,h1⟩:=h1;obtain⟨Pa,Qa⟩:=P0.step (H2:=H1) (μ:=[]) R1 P0.slot hn1 'b' (P0.stays R1);refine⟨fun a m σ' H'=>m=xs.length - a/\a <= xs.length/\∃ O' ρ' ν,PinK K c p (ν.map gE) i O' ρ' σ' H'/\Pers K (live (c.reb (qa3g O i) p (upd H p (.dK []))) O1) H1 (live (c.reb O' p H') O') H'/\qa6v i dg dk dv Qd (xs.drop a) ρ' ν,
  ⟨xs.length,by simp,zero_le _,O1,ρ1,[],Pa,Qa,by rw [drop_zero];exact h1⟩,?_⟩
 rintro a m σ2 H2 ⟨rfl,hle,O2,ρ2,ν,P2,Q2,h2⟩;obtain⟨it,stop⟩:=I1 _ _ Q2;by_cases hlt:a < xs.length
 ·rw [drop_eq_getElem_cons hlt] at h2
  obtain⟨go,yld⟩:=it a xs[a] (getElem?_eq_getElem hlt);obtain⟨hl,h2⟩:=h2;refine .inr ⟨go,fun σ' H'=>∃ O' ρ' ν,PinK K c p (ν.map gE) i O' ρ' σ' H'/\Pers K (live (c.reb (qa3g O i) p (upd H p (.dK []))) O1) H1 (live (c.reb O' p H') O') H'/\qa6v i dg dk dv Qd (xs.drop (a + 1)) ρ' ν,
   fun σ' H' hq8=>by obtain⟨O',ρ',ν',P',Q',q'⟩:=hq8;exact⟨xs.length - (a + 1),'o',rfl,hlt,O',ρ',ν',P',Q',q'⟩,fun v H3 y=>?_⟩
  obtain⟨s3,a3⟩:=yld v H3 y;refine hg _ _ _ _ _ _ _ _ _ (P2.rel.grow s3) a3 h2 fun O4 ρ4 σ4 R4 P4 e4 h4=>?_;have hs4:σ4[i]? = some (some (.ref p)):=by rw [e4];exact P2.slot
  show qb1p (tVar i) tk tv _ σ4 H3;refine hv _ _ _ _ _ _ _ R4 h4 fun y5 ρ5 O5 v5 H5 h5 R5 P5 a5=>?_;refine⟨.ref p,hs4,?_⟩;refine hk _ _ _ _ _ _ _ R5 h5 fun z6 ρ6 O6 v6 H6 h6 R6 P6 a6=>?_;obtain⟨hn6,hn1⟩:=h6;obtain⟨dy,e1,hn2⟩:=ne (hn1);obtain⟨n,e2,hn3⟩:=ne (hn2);obtain⟨dz,e3,hn4⟩:=ne (hn3);obtain⟨k,e4,h6⟩:=ne (hn4);have ev:v5=n.v:=asF_at (R6.top (a5.pers P6) e1) e2;have ek:v6=kV k:=qa9t (R6.top a6 e3) e4;subst ev ek;have h6p:=P2.stays R6;refine⟨p,_,rfl,DPut.k (k:=k) h6p (by rw [length_map];exact qb6n hl),?_⟩;rw [← putG_E];obtain⟨P7,Q7⟩:=P2.step (H2:=upd H6 p (.dK ((putG ν k n).map gE))) (μ:=(putG ν k n).map gE) R6 hs4 hn6 (fun b hb=>qa0j hb) qa0k;exact⟨O6,ρ6,_,P7,((((Q2.trans (.same s3)).trans P4).trans P5).trans P6).trans Q7,h6⟩
 ·have e:a=xs.length:=by omega
  subst e;rw [drop_eq_nil_of_le 'e'] at h2;refine .inl ⟨stop,?_⟩;exact hu p O2 ρ2 σ2 H2 ν P2 ((Q0.trans P1).trans Q2) h2
def qd4r{i:Nat}{ti:TI}{g:TG}{dg:TDG}{tk tv:TE}{di:TDI}{dk dv:TDE}{u:TS}{du:TDS}(hI:AdI K ti di)(hg:AdGi K i g dg)(hk:AdE K tk dk)(hv:AdE K tv dv)(hu:AdS K u du) :
  AdS K (tSeq (tAsg qb6m (qa3l i)) (tSeq (tFor ti g (qb1p (tVar i) tk tv)) u)) (fun D ρ=>qb7w i di dg dk dv (fun ν ρ'=>later du D (ρ'.set i (some (.d (.dict (ν.map gD)))))) ρ):=by
 intro c O ρ σ H D Dd R E h;refine qc8m hI hg hk hv R h fun p O' ρ' σ' H' ν P Q q=>?_;obtain⟨R8,P8⟩:=P.finish (qa0f.flat ν);exact hu c _ _ σ' _ D Dd R8 (E.later (Q.trans P8)) q
end
section
variable{X:Cx}{iter kE vE tg:Expr}{rest:List Stmt}{di:TDI}{dg:TDG}{dk dv:TDE}{du:TDS}{x y z:Str}{pos p1 p2 p3 p4 p5 p6 p7 p8 p9 p10 p11 p12 p13:Pos}
def qd1n{i:Nat}(hN:X.N.Nodup)(hi:X.N[i]? = some x)(hx:Loc X.env.scope x)(hc:X.calm=true)(hu:X.A.units + 64 < cLine)(hp:PassesOwn (model X.prog X.w) X.A X.env X.xe)
  (hI:DI X tg iter di) (hg:DGi X i tg dg) (hk:DE X kE dk) (hv:DE X vE dv) (hr:DSs X rest du)
  (hvs:Vis X.env.scope x:=by first | exact Or.inl rfl | exact Or.inr 'c' | exact Or.inr (Or.inr rfl)) (hd:(x == ("__debug__" : Str))=false:=by decide) (hcd:(x == ("__classdict__" : Str))=false:=by decide)
  (hf:X.fn x=true ∨ X.env.scope.names.lookup x=some .local:=by first | exact .inl rfl | exact .inr rfl)
  (hs1:swapsWith (.Dict [] [] p1) (some (.Name x p2)) p9.line X.env=pure false:=by rfl) (hs2:swapsWith vE (some (.Subscript (.Name x p4) kE p5)) p6.line X.env=pure false:=by rfl) (hs3:∀ z,foldedSetIterable iter X.env z=pure z:=by intro _;rfl) :
  DSs X (.Assign [.Name x p2] (.Dict [] [] p1) p9 :: .For tg iter [.Assign [.Subscript (.Name x p4) kE p5] vE p6] [] p13 :: rest)
   (fun D ρ=>qb7w i di dg dk dv (fun ν ρ'=>later du D (ρ'.set i (some (.d (.dict (ν.map gD)))))) ρ):=by
 obtain⟨ti,pI,aI⟩:=hI;obtain⟨g,pg,ag⟩:=hg;obtain⟨tk,pk,ak⟩:=hk;obtain⟨tv,pv',av⟩:=hv;obtain⟨u,pu,au⟩:=hr;exact⟨_,qa2a (qa4l hN hi hx qc1e hs1 hf) (qa2a (qb5z hp hc pI pg (qa3u (qc6e 'o' (qa9b hi hvs hd hcd) pk pv' hs2)) hs3) pu),qd4r aI ag ak av au⟩
end
section
variable{X:Cx}
def rInD(neg:Bool):R2:=fun x y H Q=>∃ a kvs k,y=.ref a/\H a=some (.dK kvs)/\x=kV k/\Q (.bl (if neg then !(valV kvs k).isSome else(valV kvs k).isSome)) H
def qc1k(hu:X.A.units + 64 < cLine):OpR X (compareOp .In) (rInD false):=by
 intro pins s σ H x y v u Q I rx ry h;obtain⟨a,kvs,k,rfl,ha,rfl,q⟩:=h;cases ry;exact d_in 'o' I (DGet.k ha) rx fun s' I'=>⟨.bl _,H,I',rfl,q⟩
def qd1o(hu:X.A.units + 64 < cLine):OpR X (compareOp .NotIn) (rInD true):=by
 intro pins s σ H x y v u Q I rx ry h;obtain⟨a,kvs,k,rfl,ha,rfl,q⟩:=h;cases ry;exact d_notIn 'o' I (DGet.k ha) rx fun s' I'=>⟨.bl _,H,I',rfl,q⟩
end
noncomputable def unG:List 'l'->Option (List (Key × FD))
 | []=>some []
 | (k,f) :: r=>(qa3s k).bind fun k=>(asF f).bind fun f=>(unG r).map ((k,f) :: ·)
def qb5h(k:Key):qa3s (keyD k)=some k:=by cases k<;>rfl
def asF_of(f:FD):asF f.d=some f:=by cases f<;>rfl
def unG_of:∀ κ:List (Key × FD),unG (κ.map gD)=some κ
 | []=>rfl
 | (k,f) :: r=>by
  show(qa3s (keyD k)).bind (fun k=>(asF f.d).bind fun f=>(unG (r.map gD)).map ((k,f) :: ·))=_;rw [qb5h,bind_some,asF_of,bind_some,unG_of r];rfl
def qd1p{d:PyData}{k:Key}(h:qa3s d=some k):d=keyD k:=by
 cases d<;>cases h<;>rfl
def asF_inv{d:PyData}{f:FD}(h:asF d=some f):d=f.d:=by
 cases d<;>cases h<;>rfl
def qc6l:∀ {kvs:List 'l'} {κ:List (Key × FD)},unG kvs=some κ->kvs=κ.map gD
 | [],κ,h=>by cases h;rfl
 | (k,f) :: r,κ,h=>by
  obtain⟨k',e1,h⟩:=bind_eq_some_iff.mp (show(qa3s k).bind (fun k=>(asF f).bind fun f=>(unG r).map ((k,f) :: ·))=some κ from h);obtain⟨f',e2,h⟩:=bind_eq_some_iff.mp h;obtain⟨t,e3,rfl⟩:=map_eq_some_iff.mp h;rw [qd1p e1,asF_inv e2,qc6l e3];rfl
noncomputable def fInD(neg:Bool):F2:=fun x y=>match y with
 | .dict kvs=>(qa3s x).bind fun k=>(unG kvs).map fun κ=>.bool (if neg then !(κ.any fun q=>decide (q.1=k)) else κ.any fun q=>decide (q.1=k))
 | _=>none
def qc6m{neg:Bool}{κ:List (Key × FD)}{x:PyData}{k:Key}(h:qa3s x=some k):fInD neg x (.dict (κ.map gD))=some (.bool (if neg then !(κ.any fun q=>decide (q.1=k)) else κ.any fun q=>decide (q.1=k))):=by
 show(qa3s x).bind (fun k=>(unG (κ.map gD)).map _)=_;rw [h,bind_some,unG_of];rfl
def qc1l(k:Key):∀ κ:List (Key × FD),(valV (κ.map gE) k).isSome=κ.any fun q=>decide (q.1=k)
 | []=>rfl
 | (a,f) :: r=>by
  rw [map_cons,any_cons];by_cases e:a=k
  ·rw [show valV (gE (a,f) :: List.map gE r) k=some f.v from qa6s (p:=gE (a,f)) e,decide_eq_true (show(a,f).1=k from e)];rfl
  ·rw [qa6t (p:=gE (a,f)) e,qc1l k r,decide_eq_false (show ¬ (a,f).1=k from e),Bool.false_or]
def ad_inD{K:W.Frag}{neg:Bool}:AdR K (rInD neg) (fInD neg):=by
 intro S H x y dx dy z Q f hx hy e k;unfold fInD at e;split at e
 ·rename_i kvs
  obtain⟨kk,e1,e⟩:=bind_eq_some_iff.mp e;obtain⟨κ',e2,e⟩:=map_eq_some_iff.mp e;cases e;obtain⟨a,κ,rfl,_,q,t⟩:=hy.dict;rw [qc6l e2] at t;have e3:=t.unflat;subst e3;refine⟨a,_,kk,rfl,q,qa9t hx e1,?_⟩;rw [qc1l];exact k _ _ (Same.refl _) (qa2m _)
 ·cases e
def qd1q{i:Nat}{dg:TDG}{dk dv:TDE}{Q:List (Key × FD)->Rho->Prop}{xs:List PyData}(J:Nat->Rho->List (Key × FD)->Prop)
  (hs:∀ a x ρ ν (N:Rho->List (Key × FD)->Prop),xs[a]? = some x->J a ρ ν->(∀ ρ' ν',J (a + 1) ρ' ν'->N ρ' ν')->ν.length < 1000/\dg x ρ fun ρ0=>dv ρ0 fun y ρ1=>dk ρ1 fun z ρ2=>ρ2[i]? = some none/\need (qa0q ρ2 y) fun dy=>need (asF dy) fun n=>need (qa0q ρ2 z) fun dz=>need (qa3s dz) fun k=>N ρ2 (putG ν k n))
  (hf:∀ ρ ν,J xs.length ρ ν->Q ν ρ) {ρ:Rho} {ν:List (Key × FD)} (h0:J 0 ρ ν):qa6v i dg dk dv Q xs ρ ν:=by
 have go:∀ m a,m + a=xs.length->∀ ρ ν,J a ρ ν->qa6v i dg dk dv Q (xs.drop a) ρ ν:=by
  intro m;induction m with
  | zero =>
   intro a ha ρ ν h;have:a=xs.length:=by omega
   subst this;rw [drop_eq_nil_of_le 'e'];exact hf ρ ν h
  | succ m ih =>
   intro a ha ρ ν h;have hlt:a < xs.length:=by omega
   rw [drop_eq_getElem_cons hlt];exact hs a xs[a] ρ ν (fun ρ' ν'=>qa6v i dg dk dv Q (xs.drop (a + 1)) ρ' ν') (getElem?_eq_getElem hlt) h fun ρ' ν' h'=>ih (a + 1) 'o' ρ' ν' h'
 have:=go xs.length 0 'o' ρ ν h0
 rwa [drop_zero] at this
def qd4s{ν:List (Key × FD)}{k:Key}{f:FD}:(putG ν k f).length <= ν.length + 1:=by
 unfold putG;split
 ·rw [length_map];omega
 ·rw [length_append];exact le_refl _
def qd4t{ν:List (Key × FD)}{k j:Key}{f:FD}:((putG ν k f).any fun q=>decide (q.1=j))=((ν.any fun q=>decide (q.1=j)) || decide (k=j)):=by
 unfold putG;split
 ·rename_i h
  have e:((ν.map fun q=>if q.1=k then(q.1,f) else q).any fun q=>decide (q.1=j))=ν.any fun q=>decide (q.1=j):=by
   rw [any_map];refine congrArg (List.any ν) (funext fun q=>?_);simp only [Function.comp];split<;>rfl
  rw [e];by_cases c:k=j
  ·subst c;rw [h];rfl
  ·rw [decide_eq_false c,Bool.or_false]
 ·rw [List.any_append,any_cons,List.any_nil,Bool.or_false]
end
section
noncomputable def kD(q:Key × PyData):PyData × PyData:=(keyD q.1,q.2)
noncomputable def putA(ν:List (Key × PyData))(k:Key)(d:PyData):List (Key × PyData):=if (ν.any fun q=>decide (q.1=k))=true then ν.map (fun q=>if q.1=k then(q.1,d) else q) else ν ++ [(k,d)]
noncomputable def qa6a(μ ν:List (Key × PyData)):List (Key × PyData):=ν.foldl (fun acc q=>putA acc q.1 q.2) μ
section
variable{K:W.Frag}{H:Hp}{S:Addr->Prop}
def qa0f.any_eq{k:Key}:∀ {ν:List (Key × PyData)} {κ:List (Key × V)},qa0f K H S (ν.map kD) κ->(κ.any fun q=>decide (q.1=k))=ν.any fun q=>decide (q.1=k)
 | [],κ,h=>by rw [qa0f.unnil h];rfl
 | (a,d) :: r,κ,h=>by
  obtain⟨k',v,t,rfl,e2,_,h2⟩:=qa0f.uncons (x:=keyD a) (d:=d) (r:=r.map kD) h;have e3:=qa9i e2;subst e3;rw [any_cons,any_cons,qa0f.any_eq h2]
def qa0f.repl{k:Key}{d:PyData}{v:V}(hd:AtD K H S d v):∀ {ν:List (Key × PyData)} {κ:List (Key × V)},qa0f K H S (ν.map kD) κ->qa0f K H S ((ν.map fun q=>if q.1=k then(q.1,d) else q).map kD) (κ.map fun q=>if q.1=k then(q.1,v) else q)
 | [],κ,h=>by rw [qa0f.unnil h];exact .nil
 | (a,d') :: r,κ,h=>by
  obtain⟨k',v',t,rfl,e2,h1,h2⟩:=qa0f.uncons (x:=keyD a) (d:=d') (r:=r.map kD) h;have e3:=qa9i e2;subst e3;rw [map_cons,map_cons,map_cons];by_cases c:a=k
  ·rw [if_pos c,if_pos c];exact .cons hd (qa0f.repl hd h2)
  ·rw [if_neg c,if_neg c];exact .cons h1 (qa0f.repl hd h2)
def qa0f.snoc{k:Key}{d:PyData}{v:V}(hd:AtD K H S d v):∀ {ν:List (Key × PyData)} {κ:List (Key × V)},qa0f K H S (ν.map kD) κ->qa0f K H S ((ν ++ [(k,d)]).map kD) (κ ++ [(k,v)])
 | [],κ,h=>by rw [qa0f.unnil h];exact .cons hd .nil
 | (a,d') :: r,κ,h=>by
  obtain⟨k',v',t,rfl,e2,h1,h2⟩:=qa0f.uncons (x:=keyD a) (d:=d') (r:=r.map kD) h;have e3:=qa9i e2;subst e3;exact .cons h1 (qa0f.snoc hd h2)
def qa0f.put{k:Key}{d:PyData}{v:V}{ν:List (Key × PyData)}{κ:List (Key × V)}(hd:AtD K H S d v)(h:qa0f K H S (ν.map kD) κ):qa0f K H S ((putA ν k d).map kD) (putK κ k v):=by
 unfold putA putK;rw [h.any_eq];split
 ·exact h.repl hd
 ·exact h.snoc hd
def qa0f.merge:∀ {ν μ:List (Key × PyData)} {κ κ':List (Key × V)},qa0f K H S (ν.map kD) κ->qa0f K H S (μ.map kD) κ'->qa0f K H S ((qa6a μ ν).map kD) (qb1d κ' κ)
 | [],μ,κ,κ',h,h'=>by rw [qa0f.unnil h];exact h'
 | (a,d) :: r,μ,κ,κ',h,h'=>by
  obtain⟨k',v,t,rfl,e2,h1,h2⟩:=qa0f.uncons (x:=keyD a) (d:=d) (r:=r.map kD) h;have e3:=qa9i e2;subst e3;exact qa0f.merge (ν:=r) (μ:=putA μ a d) (κ:=t) (κ':=putK κ' a v) h2 (h'.put h1)
def qa0f.len:∀ {kvs:List 'l'} {κ:List (Key × V)},qa0f K H S kvs κ->κ.length=kvs.length
 | [],κ,h=>by rw [h.unnil];rfl
 | (x,d) :: r,κ,h=>by
  obtain⟨k',v,t,rfl,_,_,h2⟩:=h.uncons;rw [length_cons,length_cons,h2.len]
end
abbrev TDP:=DEnds->Rho->List (Key × PyData)->Prop
def AdP(K:W.Frag)(i:Nat)(u:TS)(du:TDP):Prop:=∀ (c:Rc) (O0:Own) (H0:Hp) (O:Own) (ρ:Rho) (σ:St) (H:Hp) (D:Ends) (Dd:DEnds) (p:Addr) (κ:List (Key × V)) (ν:List (Key × PyData)),
 PinK K c p κ i O ρ σ H->qa0f K H (live (c.reb O p H) O) (ν.map kD) κ->EndsOk K c (live c O0) H0 D Dd->Pers K (live c O0) H0 (live (c.reb O p H) O) H->du Dd ρ ν->u D σ H
def DPs(X:Cx)(i:Nat)(st:List Stmt)(du:TDP):Prop:=∃ u,PSs X st u/\AdP X.K i u du
noncomputable def notL:PyData->Bool
 | .list _=>false
 | _=>true
section
variable{K:W.Frag}
def ad_pEnd{i:Nat}{u:TS}{du:TDS}(hu:AdS K u du):AdP K i u (fun D ρ ν=>later du D (ρ.set i (some (.d (.dict (ν.map kD)))))):=by
 intro c O0 H0 O ρ σ H D Dd p κ ν P hk E Q h;obtain⟨R8,P8⟩:=P.finish hk;exact hu c _ _ σ _ D Dd R8 (E.later (Q.trans P8)) h
end
section
variable{X:Cx}{iter kE vE tg:Expr}{rest:List Stmt}{di:TDI}{dg:TDG}{dk dv:TDE}{du:TDS}{dp:TDP}{x y z:Str}{pos p1 p2 p3 p4 p5 p6 p7 p8 p9 p13:Pos}{i:Nat}
def qb7x(h:DSs X rest du):DPs X i rest (fun D ρ ν=>later du D (ρ.set i (some (.d (.dict (ν.map kD)))))):=by
 obtain⟨u,pu,au⟩:=h;exact⟨u,pu,ad_pEnd au⟩
end
section
variable{X:Cx}
def qc8n{P:Program}{w:World}{κ:List (Key × V)}{kvs:List (Key × Value)}(hr:KV κ kvs){acc:Array Value}(h:ItemsOf (fun i v=>∃ k x,kvs[i]? = some (k,x)/\(qa1b P w).is k v=true) acc kvs.length):Vals (κ.map fun q=>kV q.1) acc.toList:=by
 have key:∀ (κ:List (Key × V)) (kvs:List (Key × Value)) (l:List Value),KV κ kvs->l.length=kvs.length->(∀ (i:Nat) (v:Value),l[i]? = some v->∃ k x,kvs[i]? = some (k,x)/\(qa1b P w).is k v=true)->Vals (κ.map fun q=>kV q.1) l:=by
  intro κ;induction κ with
  | nil =>
   intro kvs l r hl _;cases r;have e:l=[]:=eq_nil_of_length_eq_zero hl;subst e;exact .nil
  | cons q t ih =>
   intro kvs l r hl hv;cases r with
   | cons r1 r2 =>
    rename_i kv rest;cases l with
    | nil=>cases hl
    | cons v l =>
     obtain⟨k,x,e,hk⟩:=hv 0 v rfl;simp only [List.getElem?_cons_zero,Option.some.injEq] at e;subst e;have e1:q.1=k:=r1.1;refine .cons ?_ (ih rest l r2 (by simpa using hl) fun i u hu=>by simpa using hv (i + 1) u (by simpa using hu));show RelV (kV q.1) v;rw [e1];rcases qa2b (show qa6w k v=true from hk) with⟨n,tk,e2,e3⟩ | ⟨z,tk,e2,e3⟩
     ·rw [e2,e3];exact⟨tk,rfl⟩
     ·rw [e2,e3];exact⟨tk,rfl⟩
 exact key κ kvs acc.toList hr (by rw [length_toList];exact h.1) fun i v hi=>h.2 i v (by rw [← getElem?_toList];exact hi)
end
noncomputable def getA:List 'l'->Key->Option PyData
 | [],_=>none
 | q :: r,k=>if qa3s q.1=some k then some q.2 else getA r k
noncomputable def fInA(neg:Bool):F2:=fun x y=>match y with
 | .dict kvs=>(qa3s x).map fun k=>.bool (if neg then !(getA kvs k).isSome else(getA kvs k).isSome)
 | _=>none
noncomputable def fGetA:F2:=fun x y=>match x with
 | .dict kvs=>(qa3s y).bind fun k=>getA kvs k
 | _=>none
section
variable{K:W.Frag}{H:Hp}{S:Addr->Prop}
def qa0f.get(k:Key):∀ {kvs:List 'l'} {κ:List (Key × V)},qa0f K H S kvs κ->(getA kvs k=none/\valV κ k=none) ∨ ∃ d v,getA kvs k=some d/\valV κ k=some v/\AtD K H S d v
 | [],κ,h=>by rw [h.unnil];exact .inl ⟨rfl,rfl⟩
 | (x,d) :: r,κ,h=>by
  obtain⟨a,v,t,rfl,rfl,h1,h2⟩:=h.uncons;by_cases c:a=k
  ·subst c
   exact .inr ⟨d,v,if_pos (qb5h a),qa6s rfl,h1⟩
  ·rw [qa6t (p:=(a,v)) c,show getA ((keyD a,d) :: r) k=getA r k from if_neg (by rw [qb5h];exact fun z=>c (Option.some.inj z))]
   exact qa0f.get k h2
def ad_inA{neg:Bool}:AdR K (rInD neg) (fInA neg):=by
 intro S H x y dx dy z Q f hx hy e k;unfold fInA at e;split at e
 ·rename_i kvs
  obtain⟨kk,e1,e⟩:=map_eq_some_iff.mp e;subst e;obtain⟨a,κ,rfl,_,q,t⟩:=hy.dict;refine⟨a,_,kk,rfl,q,qa9t hx e1,?_⟩;have e2:(valV κ kk).isSome=(getA kvs kk).isSome:=by
   rcases t.get kk with⟨h1,h2⟩ | ⟨d,v,h1,h2,_⟩<;>rw [h1,h2]<;>rfl
  rw [e2];exact k _ _ (Same.refl _) (qa2m _)
 ·cases e
def ad_getA{ta tb:TE}{da db:TDE}(ha:AdE K ta da)(hb:AdE K tb db):AdE K (tDGet ta tb) (dOp fGetA da db):=by
 intro c O ρ σ H Qd Q R h k;refine ha c O ρ σ H _ _ R h fun x ρ1 O1 v H1 h1 R1 P1 a1=>?_;refine hb c O1 ρ1 σ H1 _ _ R1 h1 fun y ρ2 O2 u H2 h2 R2 P2 a2=>?_;obtain⟨dx,e1,hn2⟩:=ne (h2);obtain⟨dy,e2,hn4⟩:=ne (hn2);obtain⟨z,e3,h3⟩:=ne (hn4);have t1:=R2.top (a1.pers P2) e1;have t2:=R2.top a2 e2;unfold fGetA at e3;split at e3
 ·rename_i kvs
  obtain⟨kk,e5,e3⟩:=bind_eq_some_iff.mp e3;obtain⟨a,κ,rfl,_,q,t⟩:=t1.dict;rcases t.get kk with⟨g1,g2⟩ | ⟨d,v,g1,g2,g3⟩
  ·rw [g1] at e3;cases e3
  ·rw [g1] at e3
   cases e3
   refine⟨a,v,rfl,?_,k (.d z) ρ2 O2 v H2 h3 R2 (P1.trans P2) (show AtD K H2 (live c O2) z v from g3)⟩;rw [qa9t t2 e5];have g:=DGet.k (k:=kk) q;rw [g2] at g;exact g
 ·cases e3
end
def qc6n{X:Cx}{a b:Expr}{da db:TDE}{pos:Pos}(hu:X.A.units + 64 < cLine)(ha:DE X a da)(hb:DE X b db)(hs:NoSl b):DE X (.Subscript a b pos) (dOp fGetA da db):=by
 obtain⟨ta,pa,aa⟩:=ha;obtain⟨tb,pb,ab⟩:=hb;exact⟨_,pe_dget 'o' pa pb hs,ad_getA aa ab⟩
end
section
section
variable{fs:List Bool}{y:PyData}{i n:Nat}{ys:List DV}{ρ:Rho}{QLs:List L->Rho->Prop}
theorem pass_fd:pass (false :: fs) (.d y :: ys) ρ QLs=fzL ρ (.d y) fun l ρ1=>pass fs ys ρ1 fun ls ρ2=>QLs (l :: ls) ρ2:=rfl
theorem pass_fs:pass (false :: fs) (.sl i :: ys) ρ QLs=fzL ρ (.sl i) fun l ρ1=>pass fs ys ρ1 fun ls ρ2=>QLs (l :: ls) ρ2:=rfl
theorem flOf_n0:flOf n [] []=[]:=rfl
theorem flOf_fd:flOf n (false :: fs) (.d y :: ys)=flOf (n + 1) fs ys:=rfl
theorem flOf_fs:flOf n (false :: fs) (.sl i :: ys)=flOf (n + 1) fs ys:=rfl
end
end
section
noncomputable def rSortK:List V->Hp->VK->Prop:=fun xs H Q=>∃ a κ,∃ ss:List Str,xs=[.ref a]/\H a=some (.dK κ)/\κ.map (·.1)=ss.map Sum.inr/\ss.length < 64/\∀ p,H p=none->Q (.ref p) (upd H p (.lst ((Sx.srtS ss).map V.str)))
def qd4u{κ:List (Key × V)}{ss:List Str}(h:κ.map (·.1)=ss.map Sum.inr):(κ.map fun q=>kV q.1)=ss.map V.str:=by
 have e:(κ.map fun q=>kV q.1)=(κ.map (·.1)).map kV:=by rw [map_map];rfl
 rw [e,h,map_map];rfl
def qc8o{X:Cx}(hc:X.calm=true):qa2e X (.builtin "sorted") rSortK:=by
 intro pins s σ H xs us Q I rs h;obtain⟨a,κ,ss,rfl,ha,hk,hn,q⟩:=h;obtain⟨u,rfl,rx⟩:=vals1 rs;cases rx;obtain⟨z,hd,vs,rel,dd⟩:=dk_of I.hok ha;obtain⟨ep,hat⟩:=dd.dictAt;refine call_function_entry kind_sorted plain_sorted entry_sorted (args_sorted1 _) ?_;unfold Builtin.«sorted»;refine wpAny_bind (m:=checkCount "sorted" 1 1 _) (wpAny_pure (wpAny_bind (PySem.W.kdu_collect (PySem.W.kdl_dict (knd:=qa1b X.prog X.w) (kvs:=vs) (ep:=ep) hd) (I.ok.hd hc) hat (by rw [← rel.length];exact z) fun h' tk acc kp hacc=>?_)));have hv:=qc8n rel hacc;rw [qd4u hk] at hv;have hS:StrsAre acc.toList ss:=qb6p hv;have hl:acc.toList.length=ss.length:=by rw [← hv.length,length_map]
 refine wpAny_bind (wpAny_newList ?_ (by rw [hl,sizeLine_eq];omega));have oL:(h'.push (seqObj "list" acc.toList.toArray 0)).get? h'.objs.size=some (seqObj "list" acc.toList.toArray 0):=get?_push_size _ rfl;show wpAny _ _ _ _ _ { s with heap:=h'.push (seqObj "list" acc.toList.toArray 0),toks:=tk };refine wpAny_bind (wpAny_holding (wpAny_call_entry slot_list_sort ⟨_,oL,rfl⟩ entry_list_sort (list_sort_treeK strKind_oneLt oL hS.keysOf (fun v₁ v₂ rest e=>keyKind_strs (by rw [← e];exact hS)) 'o' fun st' hp hs=>⟨_,rfl,?_⟩) (args_list_sort _)));obtain⟨ss',h1,h2,h3⟩:=sorted_out_str hS hp hs;have eq:=Sx.qb4b h2 (Sx.qc8j _ h3);subst eq;refine wpAny_pure ⟨_,rfl,?_⟩;obtain⟨e,he⟩:=sortedHeap_at (out:=(arrOf st').map (·.2)) oL;have hle:((Sx.srtS ss).map V.str).length <= sizeLine:=by
  rw [length_map,h2.length_eq,sizeLine_eq];omega
 have I1:Inv X pins σ H { s with heap:=h',toks:=tk }:=I.kept kp;refine⟨.ref h'.objs.size,_,I1.laid (a:=h'.objs.size) (o:=.lst ((Sx.srtS ss).map V.str)) (t':=tk) (fun b o q=>?_) 'e' ⟨hle,_,e,qb6q h1,he⟩,rfl,q _ (I1.hok.fresh 'e')⟩;have hb:b < h'.objs.size:=lt_size q;rw [sortedHeap_old (ne_of_lt hb) (by rw [size_push'];exact lt_succ_of_lt hb)];exact get?_push_of_some _ q
noncomputable def strK:List 'l'->Option (List Str)
 | []=>some []
 | (.str x,_) :: r=>(strK r).map (x :: ·)
 | _ :: _=>none
noncomputable def qc1m:FC:=fun ds=>match ds with
 | [.dict kvs]=>(strK kvs).bind fun ss=>if ss.length < 64 then some (.list ((Sx.srtS ss).map .str)) else none
 | _=>none
section
variable{K:W.Frag}{H:Hp}{S:Addr->Prop}
def qa0f.texts:∀ {kvs:List 'l'} {κ:List (Key × V)} {ss:List Str},strK kvs=some ss->qa0f K H S kvs κ->κ.map (·.1)=ss.map Sum.inr
 | [],κ,ss,e,h=>by
  unfold qa0f at h;subst h;cases e;rfl
 | (.str x,d) :: r,κ,ss,e,h=>by
  unfold qa0f at h;obtain⟨k,v,t,rfl,e1,_,h2⟩:=h;obtain⟨ss',e2,rfl⟩:=map_eq_some_iff.mp (show(strK r).map (x :: ·)=some ss from e);have e3:k=Sum.inr x:=by
   cases k with
   | inl n=>cases e1
   | inr y=>cases e1;rfl
  rw [map_cons,map_cons,qa0f.texts e2 h2,e3]
end
def qd4v{K:W.Frag}:AdC K rSortK qc1m:=by
 intro S H vs ds z Q f h e k;unfold qc1m at e;split at e
 ·rename_i kvs
  obtain⟨ss,q1,e2⟩:=bind_eq_some_iff.mp e;split at e2
  ·rename_i hl
   cases e2
   obtain⟨v,rfl,h1⟩:=h.one;obtain⟨a,κ,rfl,_,ha,hk⟩:=h1.dict;exact⟨a,κ,ss,rfl,ha,hk.texts q1,hl,fun p hp=>k _ _ (qa0x hp _) (qa2o (f p hp) qa0k qb6r)⟩
  ·cases e2
 ·cases e
end
end L2
section
namespace Sx
open PySem PySem.W PyProof.Rows
section
variable(lt:Nat->Nat->Bool)
noncomputable def Ev{α:Type}:KasT α->α
 | .ret a=>a
 | .ask i j k=>Ev (k (lt i j))
def qa8x{α β:Type}(f:α->KasT β):∀ t:KasT α,Ev lt (t.bind f)=Ev lt (f (Ev lt t))
 | .ret _=>rfl
 | .ask i j k=>qa8x f (k (lt i j))
def qc1n{α:Type}{n:Nat}{P:α->Prop}:∀ t:KasT α,AllP n P t->P (Ev lt t)
 | .ret _,h=>h
 | .ask i j k,h=>qc1n (k (lt i j)) (h.2.2 _)
def ev_wp{α:Type}{n:Nat}{P:α->Prop}{cmp:Nat->Nat->(Bool->Shared->Prop)->Shared->Prop}{Q:α->Shared->Prop}{s:Shared}(hc:∀ i j (C:Bool->Shared->Prop),i < n->j < n->C (lt i j) s->cmp i j C s):∀ t:KasT α,AllP n P t->Q (Ev lt t) s->t.kasWp cmp Q s
 | .ret a,_,q=>q
 | .ask i j k,h,q=>hc i j _ h.1 h.2.1 (ev_wp hc (k (lt i j)) (h.2.2 _) q)
structure Ord:Prop where
 asym:∀ x y,lt x y=true->lt y x=false
 trans:∀ x y z,lt y x=false->lt z y=false->lt z x=false
abbrev g(p:Array Nat)(i:Nat):Nat:=p.getD i 0
def As(p:Array Nat)(b:Nat):Prop:=∀ i,1 <= i->i < b->lt (g p i) (g p (i - 1))=false
def Ds(p:Array Nat)(b:Nat):Prop:=∀ i,1 <= i->i < b->lt (g p (i - 1)) (g p i)=false
def Eq'(p:Array Nat)(n q:Nat):Prop:=∀ i,n - (q + 1) <= i->i + 1 < n->lt (g p (i + 1)) (g p i)=false
def So(p:Array Nat)(b:Nat):Prop:=∀ i j,i <= j->j < b->lt (g p j) (g p i)=false
variable{lt}
def Ord.refl(O:Ord lt)(x:Nat):lt x x=false:=by
 cases h:lt x x with
 | false=>rfl
 | true=>have:=O.asym x x h;rw [h] at this;exact this
def Ord.lt_le(O:Ord lt){x y z:Nat}(h1:lt x y=true)(h2:lt z y=false):lt x z=true:=by
 cases h:lt x z with
 | true=>rfl
 | false=>have:=O.trans y z x h2 h;rw [h1] at this;cases this
def So.of(O:Ord lt){p:Array Nat}{b:Nat}(h:As lt p b):So lt p b:=by
 intro i j hij hj;induction j with
 | zero =>
  have e:i=0:=by omega
  subst e;exact O.refl _
 | succ j ih =>
  by_cases e:i=j + 1
  ·subst e;exact O.refl _
  ·exact O.trans _ _ _ (ih 'o' 'o') (h (j + 1) 'o' hj)
def Ds.all(O:Ord lt){p:Array Nat}{b:Nat}(h:Ds lt p b):∀ i j,i <= j->j < b->lt (g p i) (g p j)=false:=by
 intro i j hij hj;induction j with
 | zero =>
  have e:i=0:=by omega
  subst e;exact O.refl _
 | succ j ih =>
  by_cases e:i=j + 1
  ·subst e;exact O.refl _
  ·exact O.trans _ _ _ (h (j + 1) 'o' hj) (ih 'o' 'o')
def qb0b{p:Array Nat}{i j:Nat}(hj:j <= p.size)(k:Nat):g (kas_rev p i j) k=if i <= k/\k < j then g p (i + j - 1 - k) else g p k:=by
 unfold g;rw [getD_eq_getD_getElem?,getD_eq_getD_getElem?,getD_eq_getD_getElem?];unfold kas_rev;rw [getElem?_mirror hj _ 'o'];by_cases h:i <= k/\k < j
 ·rw [if_pos h]
  by_cases h2:(i <= k/\k < i + (j - i) / 2) ∨ (j - (j - i) / 2 <= k/\k < j)
  ·rw [if_pos h2]
  ·rw [if_neg h2,show i + j - 1 - k=k by omega]
 ·rw [if_neg h,if_neg 'o']
def qc6o(O:Ord lt){p:Array Nat}{n q:Nat}(hs:n <= p.size)(hq:q + 1 <= n)(d:Ds lt p n)(e:Eq' lt p n q):Ds lt (kas_rev p (n - (q + 1)) n) n:=by
 intro i h1 h2;rw [qb0b hs,qb0b hs];by_cases c1:n - (q + 1) <= i - 1
 ·rw [if_pos ⟨'o','o'⟩,if_pos ⟨'o',h2⟩]
  have:=e (n - (q + 1) + n - 1 - i) 'o' 'o';rw [show n - (q + 1) + n - 1 - (i - 1)=n - (q + 1) + n - 1 - i + 1 by omega];exact this
 ·rw [if_neg 'o']
  by_cases c2:n - (q + 1) <= i
  ·rw [if_pos ⟨c2,h2⟩]
   exact d.all O _ _ 'o' 'o'
  ·rw [if_neg 'o']
   exact d i h1 h2
def qa5m(p:Array Nat)(i j:Nat):(kas_rev p i j).size=p.size:=kas_rev_size i j
def ev_asc(p:Array Nat):∀ f m,m <= Ev lt (kas_asc p f m)/\Ev lt (kas_asc p f m) <= m + f/\(∀ i,m <= i->i < Ev lt (kas_asc p f m)->lt (g p i) (g p (i - 1))=false)/\(Ev lt (kas_asc p f m) < m + f->lt (g p (Ev lt (kas_asc p f m))) (g p (Ev lt (kas_asc p f m) - 1))=true):=by
 intro f;induction f with
 | zero=>intro m;exact⟨le_refl _,le_refl _,fun i h1 h2=>absurd h2 (Nat.not_lt.mpr h1),fun h=>absurd h (lt_irrefl _)⟩
 | succ f ih =>
  intro m;have e:Ev lt (kas_asc p (f + 1) m)=Ev lt (if lt (g p m) (g p (m - 1))=true then .ret m else kas_asc p f (m + 1)):=rfl;rw [e];cases h:lt (g p m) (g p (m - 1)) with
  | true =>
   rw [if_pos rfl];exact⟨le_refl _,Nat.le_add_right _ _,fun i h1 h2=>absurd h2 (Nat.not_lt.mpr h1),fun _=>h⟩
  | false =>
   rw [if_neg Bool.false_ne_true];obtain⟨a,b,c,d⟩:=ih (m + 1);refine⟨'o','o',fun i h1 h2=>?_,fun h2=>d 'o'⟩;by_cases e:i=m
   ·subst e;exact h
   ·exact c i 'o' h2
def ev_desc(O:Ord lt):∀ f (p:Array Nat) n q,n + f <= p.size->q + 1 <= n->Ds lt p n->Eq' lt p n q ->
  (Ev lt (kas_desc f p n q)).1.size=p.size/\n <= (Ev lt (kas_desc f p n q)).2.1/\(Ev lt (kas_desc f p n q)).2.1 <= n + f/\(Ev lt (kas_desc f p n q)).2.2 + 1 <= (Ev lt (kas_desc f p n q)).2.1/\Ds lt (Ev lt (kas_desc f p n q)).1 (Ev lt (kas_desc f p n q)).2.1/\Eq' lt (Ev lt (kas_desc f p n q)).1 (Ev lt (kas_desc f p n q)).2.1 (Ev lt (kas_desc f p n q)).2.2:=by
 intro f;induction f with
 | zero=>intro p n q _ h2 h3 h4;exact⟨rfl,le_refl _,le_refl _,h2,h3,h4⟩
 | succ f ih =>
  intro p n q h1 h2 h3 h4;have e:Ev lt (kas_desc (f + 1) p n q)=Ev lt (if lt (g p n) (g p (n - 1))=true then(if q > 0 then kas_desc f (kas_rev p (n - (q + 1)) n) (n + 1) 0 else kas_desc f p (n + 1) 0) else .ask (g p (n - 1)) (g p n) fun d=>if d=true then .ret (p,n,q) else kas_desc f p (n + 1) (q + 1)):=rfl;rw [e];have e0:∀ p':Array Nat,Eq' lt p' (n + 1) 0:=fun p' i a b=>by omega
  cases h:lt (g p n) (g p (n - 1)) with
  | true =>
   rw [if_pos rfl];by_cases hq:q > 0
   ·rw [if_pos hq]
    have dr:Ds lt (kas_rev p (n - (q + 1)) n) (n + 1):=fun i a b=>by
     by_cases c:i < n
     ·exact qc6o O 'o' h2 h3 h4 i a c
     ·have ei:i=n:=by omega
      subst ei;rw [qb0b 'o',qb0b 'o',if_pos ⟨'o','o'⟩,if_neg 'o'];have h5:=h3.all O (i - (q + 1)) (i - 1) 'o' 'o';rw [show i - (q + 1) + i - 1 - (i - 1)=i - (q + 1) by omega];exact O.trans _ _ _ (O.asym _ _ h) h5
    have:=ih (kas_rev p (n - (q + 1)) n) (n + 1) 0 (by rw [qa5m];omega) 'o' dr (e0 _);rw [qa5m] at this;exact⟨this.1,'o','o',this.2.2.2.1,this.2.2.2.2⟩
   ·rw [if_neg hq]
    have dr:Ds lt p (n + 1):=fun i a b=>by
     by_cases c:i < n
     ·exact h3 i a c
     ·have ei:i=n:=by omega
      subst ei;exact O.asym _ _ h
    have:=ih p (n + 1) 0 'o' 'o' dr (e0 _);exact⟨this.1,'o','o',this.2.2.2.1,this.2.2.2.2⟩
  | false =>
   rw [if_neg Bool.false_ne_true];have e1:Ev lt (.ask (g p (n - 1)) (g p n) fun d=>if d=true then .ret (p,n,q) else kas_desc f p (n + 1) (q + 1))=Ev lt (if lt (g p (n - 1)) (g p n)=true then .ret (p,n,q) else kas_desc f p (n + 1) (q + 1)):=rfl;rw [e1];cases h5:lt (g p (n - 1)) (g p n) with
   | true =>
    rw [if_pos rfl];exact⟨rfl,le_refl _,Nat.le_add_right _ _,h2,h3,h4⟩
   | false =>
    rw [if_neg Bool.false_ne_true];have dr:Ds lt p (n + 1):=fun i a b=>by
     by_cases c:i < n
     ·exact h3 i a c
     ·have ei:i=n:=by omega
      subst ei;exact h5
    have er:Eq' lt p (n + 1) (q + 1):=fun i a b=>by
     by_cases c:i + 1 < n
     ·exact h4 i 'o' c
     ·have ei:i=n - 1:=by omega
      subst ei;rw [show n - 1 + 1=n by omega];exact h
    have:=ih p (n + 1) (q + 1) 'o' 'o' dr er;exact⟨this.1,'o','o',this.2.2.2.1,this.2.2.2.2⟩
def qc1o{p:Array Nat}{n r:Nat}(h1:1 <= n)(h2:n <= r)(hs:r <= p.size)(d:Ds lt p n):As lt (Ev lt (kas_tail3 n r p)).2 (Ev lt (kas_tail3 n r p)).1/\(Ev lt (kas_tail3 n r p)).2.size=p.size/\(Ev lt (kas_tail3 n r p)).1 <= r:=by
 have e:Ev lt (kas_tail3 n r p)=(Ev lt (kas_asc (kas_rev p 0 n) (r - n) n),kas_rev p 0 n):=qa8x lt _ _;rw [e];obtain⟨a,b,c,_⟩:=ev_asc (lt:=lt) (kas_rev p 0 n) (r - n) n;refine⟨fun i h3 h4=>?_,qa5m _ _ _,by show _ <= r;omega⟩;by_cases hi:i < n
 ·show lt (g (kas_rev p 0 n) i) (g (kas_rev p 0 n) (i - 1))=false
  rw [qb0b 'o',qb0b 'o',if_pos ⟨'o','o'⟩,if_pos ⟨'o','o'⟩];have:=d (0 + n - 1 - (i - 1)) 'o' 'o';rw [show 0 + n - 1 - (i - 1) - 1=0 + n - 1 - i by omega] at this;exact this
 ·exact c i 'o' h4
def qb4p(O:Ord lt){p:Array Nat}{n r:Nat}(h1:1 <= n)(h2:n + 1 <= r)(hs:r <= p.size)(d:Ds lt p (n + 1)):As lt (Ev lt (kas_descPart n r p)).2 (Ev lt (kas_descPart n r p)).1/\(Ev lt (kas_descPart n r p)).2.size=p.size/\(Ev lt (kas_descPart n r p)).1 <= r:=by
 have e:Ev lt (kas_descPart n r p)=Ev lt ((fun x:Array Nat × Nat × Nat=>if x.2.2 > 0 then kas_tail3 x.2.1 r (kas_rev x.1 (x.2.1 - (x.2.2 + 1)) x.2.1) else kas_tail3 x.2.1 r x.1) (Ev lt (kas_desc (r - (n + 1)) p (n + 1) 0))):=qa8x lt _ _;rw [e];obtain⟨a1,a2,a3,a4,a5,a6⟩:=ev_desc O (r - (n + 1)) p (n + 1) 0 'o' 'o' d (fun i a b=>by omega);generalize Ev lt (kas_desc (r - (n + 1)) p (n + 1) 0)=x at a1 a2 a3 a4 a5 a6;obtain⟨p',n',q'⟩:=x
 dsimp only at a1 a2 a3 a4 a5 a6 ⊢
 by_cases hq:q' > 0
 ·rw [if_pos hq]
  have:=qc1o (lt:=lt) (r:=r) 'o' 'o' (by rw [qa5m];omega) (qc6o O 'o' a4 a5 a6);rw [qa5m,a1] at this;exact this
 ·rw [if_neg hq]
  have:=qc1o (lt:=lt) (r:=r) (p:=p') (n:=n') 'o' 'o' 'o' a5;rw [a1] at this;exact this
def qd4w(O:Ord lt){p:Array Nat}{r:Nat}(h1:1 <= r)(hs:r <= p.size):As lt (Ev lt (kas_count r p)).2 (Ev lt (kas_count r p)).1/\(Ev lt (kas_count r p)).2.size=p.size/\(Ev lt (kas_count r p)).1 <= r:=by
 have e:Ev lt (kas_count r p)=Ev lt ((fun n:Nat=>if (n == r)=true then .ret (n,p) else if n > 1 then .ask (g p 0) (g p (n - 1)) fun c=>if c=true then .ret (n,p) else kas_descPart n r (kas_rev p 0 n) else kas_descPart n r p) (Ev lt (kas_asc p (r - 1) 1))):=qa8x lt _ _;rw [e];obtain⟨a,b,c,d⟩:=ev_asc (lt:=lt) p (r - 1) 1;generalize Ev lt (kas_asc p (r - 1) 1)=n at a b c d;have ap:As lt p n:=fun i h3 h4=>c i h3 h4
 dsimp only
 by_cases e1:(n == r)=true
 ·rw [if_pos e1]
  exact⟨ap,rfl,by show n <= r;omega⟩
 ·rw [if_neg e1]
  have hn:n < r:=by
   have:n ≠ r:=by simpa using e1
   omega
  have hd:=d 'o';by_cases e2:n > 1
  ·rw [if_pos e2]
   have e3:Ev lt (.ask (g p 0) (g p (n - 1)) fun c=>if c=true then .ret (n,p) else kas_descPart n r (kas_rev p 0 n))=Ev lt (if lt (g p 0) (g p (n - 1))=true then .ret (n,p) else kas_descPart n r (kas_rev p 0 n)):=rfl;rw [e3];cases h:lt (g p 0) (g p (n - 1)) with
   | true=>rw [if_pos rfl];exact⟨ap,rfl,by show n <= r;omega⟩
   | false =>
    rw [if_neg Bool.false_ne_true];have so:=So.of O ap;have dr:Ds lt (kas_rev p 0 n) (n + 1):=fun i h3 h4=>by
     rw [qb0b 'o',qb0b 'o',if_pos ⟨'o','o'⟩];by_cases ci:i < n
     ·rw [if_pos ⟨'o',ci⟩]
      exact so _ _ 'o' 'o'
     ·have ei:i=n:=by omega
      subst ei;rw [if_neg 'o',show 0 + i - 1 - (i - 1)=0 by omega];exact O.trans _ _ _ (O.asym _ _ hd) h
    have:=qb4p O (p:=kas_rev p 0 n) (n:=n) (r:=r) 'o' 'o' (by rw [qa5m];exact hs) dr;rw [qa5m] at this;exact this
  ·rw [if_neg e2]
   have en:n=1:=by omega
   subst en;exact qb4p O 'e' 'o' hs fun i h3 h4=>by
    have ei:i=1:=by omega
    subst ei;exact O.asym _ _ hd
def qd4x(O:Ord lt){p:Array Nat}{k:Nat}(so:So lt p k):∀ f l r,r - l <= f->l <= r->r <= k->(∀ i,i < l->lt (g p k) (g p i)=false)->(∀ i,r <= i->i < k->lt (g p k) (g p i)=true) ->
  Ev lt (kas_place p k f l r) <= k/\(∀ i,i < Ev lt (kas_place p k f l r)->lt (g p k) (g p i)=false)/\∀ i,Ev lt (kas_place p k f l r) <= i->i < k->lt (g p k) (g p i)=true:=by
 intro f;induction f with
 | zero =>
  intro l r hf h0 hr h1 h2;have e:l=r:=by omega
  subst e;exact⟨hr,h1,h2⟩
 | succ f ih =>
  intro l r hf h0 hr h1 h2;have e:Ev lt (kas_place p k (f + 1) l r)=Ev lt (if l ≥ r then .ret l else .ask (g p k) (g p ((l + r) / 2)) fun c=>if c=true then kas_place p k f l ((l + r) / 2) else kas_place p k f ((l + r) / 2 + 1) r):=rfl;rw [e];by_cases hl:l ≥ r
  ·rw [if_pos hl]
   have e:l=r:=by omega
   subst e;exact⟨hr,h1,h2⟩
  ·rw [if_neg hl]
   have e3:Ev lt (.ask (g p k) (g p ((l + r) / 2)) fun c=>if c=true then kas_place p k f l ((l + r) / 2) else kas_place p k f ((l + r) / 2 + 1) r)=Ev lt (if lt (g p k) (g p ((l + r) / 2))=true then kas_place p k f l ((l + r) / 2) else kas_place p k f ((l + r) / 2 + 1) r):=rfl;rw [e3];cases h:lt (g p k) (g p ((l + r) / 2)) with
   | true =>
    rw [if_pos rfl];exact ih l ((l + r) / 2) 'o' 'o' 'o' h1 fun i a b=>O.lt_le h (so _ _ a b)
   | false =>
    rw [if_neg Bool.false_ne_true];exact ih ((l + r) / 2 + 1) r 'o' 'o' hr (fun i a=>O.trans _ _ _ (so i ((l + r) / 2) 'o' 'o') h) h2
def bub_g{p:Array Nat}{k d:Nat}(hk:k < p.size)(hd:d <= k)(i:Nat):g (bubble p k d) i=if i=k - d then g p k else if k - d < i/\i <= k then g p (i - 1) else g p i:=by
 unfold g;rw [getD_eq_getD_getElem?,getD_eq_getD_getElem?,getD_eq_getD_getElem?,getD_eq_getD_getElem?,getElem?_bubble hk d hd];split
 ·rfl
 ·split<;>rfl
def ev_bin(O:Ord lt):∀ f (p:Array Nat) k,k + f <= p.size->So lt p k->So lt (Ev lt (kas_bin f p k)) (k + f):=by
 intro f;induction f with
 | zero=>intro p k _ so;exact so
 | succ f ih =>
  intro p k hs so;have e:Ev lt (kas_bin (f + 1) p k)=Ev lt (kas_bin f (bubble p k (k - Ev lt (kas_place p k k 0 k))) (k + 1)):=qa8x lt _ _;rw [e];obtain⟨a,b,c⟩:=qd4x O so k 0 k 'o' (zero_le _) 'e' (fun i h=>absurd h (Nat.not_lt_zero _)) (fun i h1 h2=>absurd h2 (Nat.not_lt.mpr h1));generalize Ev lt (kas_place p k k 0 k)=l at a b c;rw [show k + (f + 1)=(k + 1) + f by omega];refine ih _ _ (by rw [bubble_size];omega) ?_;intro i j hij hj;have hk:k < p.size:=by omega
  rw [bub_g hk 'o',bub_g hk 'o',show k - (k - l)=l by omega];by_cases ej:j=l
  ·rw [if_pos ej]
   by_cases ei:i=l
   ·rw [if_pos ei];exact O.refl _
   ·rw [if_neg ei,if_neg 'o']
    exact b i 'o'
  ·rw [if_neg ej]
   by_cases cj:l < j/\j <= k
   ·rw [if_pos cj]
    by_cases ei:i=l
    ·rw [if_pos ei]
     exact O.asym _ _ (c (j - 1) 'o' 'o')
    ·rw [if_neg ei]
     by_cases ci:l < i/\i <= k
     ·rw [if_pos ci];exact so _ _ 'o' 'o'
     ·rw [if_neg ci];exact so _ _ 'o' 'o'
   ·rw [if_neg cj,if_neg 'o',if_neg 'o']
    exact so _ _ hij 'o'
def qc6p(O:Ord lt){n:Nat}(hn:1 <= n):So lt (Ev lt (kas_sort n)) n:=by
 have e:Ev lt (kas_sort n)=Ev lt ((fun r:Nat × Array Nat=>if r.1 < n then kas_bin (n - max r.1 1) r.2 (max r.1 1) else .ret r.2) (Ev lt (kas_count n (List.toArray (List.range n))))):=qa8x lt _ _;rw [e];have hz:(List.toArray (List.range n)).size=n:=by simp
 obtain⟨a,b,c⟩:=qd4w O (p:=List.toArray (List.range n)) hn (by rw [hz];exact le_refl _);generalize Ev lt (kas_count n (List.toArray (List.range n)))=x at a b c;obtain⟨m,p⟩:=x
 dsimp only at a b c ⊢
 rw [hz] at b;by_cases h:m < n
 ·rw [if_pos h]
  have so1:So lt p (max m 1):=by
   intro i j hij hj;by_cases hm:j < m
   ·exact So.of O a i j hij hm
   ·have e1:j=0:=by omega
    have e2:i=0:=by omega
    subst e1 e2;exact O.refl _
  have:=ev_bin O (n - max m 1) p (max m 1) 'o' so1;rw [show max m 1 + (n - max m 1)=n by omega] at this;exact this
 ·rw [if_neg h]
  exact fun i j hij hj=>So.of O a i j hij 'o'
end
end Sx
end
section
namespace Sx
open PySem PySem.W PyProof.Rows
noncomputable def srtT(tss:List 'f'):List 'f':=tss.mergeSort (fun a b=>decide (a <= b))
def qa3x(tss:List 'f'):(srtT tss).Perm tss:=List.mergeSort_perm tss _
def qb7y(tss:List 'f'):(srtT tss).Pairwise (· <= ·):=by
 have h:=List.pairwise_mergeSort (le:=fun a b:List Int=>decide (a <= b)) (fun a b c h1 h2=>by
  simp only [decide_eq_true_eq] at *;exact List.le_trans h1 h2) (fun a b=>by
  rcases List.le_total a b with h | h<;>simp [h]) tss
 exact h.imp fun h=>by simpa using h
def qb1e{a tss:List 'f'}(h:a.Perm tss)(hp:a.Pairwise (· <= ·)):a=srtT tss:=
 pw_eq (fun a b h1 h2=>List.le_antisymm h1 h2) (h.trans (qa3x tss).symm) hp (qb7y tss)
noncomputable def ltOf(tss:List 'f')(i j:Nat):Bool:=decide (tss.getD i [] < tss.getD j [])
def ord_of(tss:List 'f'):Ord (ltOf tss) where
 asym:=fun x y h=>by
  unfold ltOf at *;rw [decide_eq_true_eq] at h;rw [decide_eq_false_iff_not];exact List.lt_asymm h
 trans:=fun x y z h1 h2=>by
  unfold ltOf at *;rw [decide_eq_false_iff_not,not_lt] at *;exact List.le_trans h1 h2
section
variable{prog:Program}{w:World}{A:Around}{E:Value->Shared->Prop}{s:Shared}
def qc6q{b:Bool}{Q:Bool->Shared->Prop}:∀ (xs ys:List Value) (t t':List Int) (i:Nat) (fin:Bool),IntsAre xs t->IntsAre ys t'->fin=decide (xs.length < ys.length)->Q (decide (t < t')) s->KatLex prog w A b fin Q (xs.zip ys) i s
 | [],ys,t,t',i,fin,h1,h2,hf,q=>by
  rw [List.zip_nil_left];cases h1;have e:fin=decide ([] < t'):=by
   rw [hf];cases h2<;>simp
  rw [e];exact kat_nil q
 | x :: r,[],t,t',i,fin,h1,h2,hf,q=>by
  rw [List.zip_nil_right];cases h2;have e:fin=decide (t < []):=by
   rw [hf];cases h1<;>simp
  rw [e];exact kat_nil q
 | x :: r,y :: u,t,t',i,fin,h1,h2,hf,q=>by
  cases h1 with
  | cons n tk h1 =>
   cases h2 with
   | cons m tk' h2 =>
    rw [List.zip_cons_cons];refine kat_cons (wpAny_eqBool_int ?_);cases hn:(n == m) with
    | true =>
     have e:n=m:=by simpa using hn
     subst e;refine kat_yes (qc6q r u _ _ (i + 1) fin h1 h2 (by rw [hf];simp) ?_);rename_i ts us;have e2:decide (n :: ts < n :: us)=decide (ts < us):=by rw [Bool.eq_iff_iff];simp [List.cons_lt_cons_iff]
     rw [e2] at q;exact q
    | false =>
     have e:n ≠ m:=by simpa using hn
     rename_i ts us;have e2:decide (n :: ts < m :: us)=decide (n < m):=by rw [Bool.eq_iff_iff];simp [List.cons_lt_cons_iff,e]
     rw [e2] at q;refine kat_no ?_;cases (b && i == 0) with
     | true=>exact oneLt_int q
     | false=>exact kat_one _ _ (wpAny_lt_int q)
def tup_ltS{b:Bool}{u v:Value}{t t':List Int}{Q:Bool->Shared->Prop}(hu:TupAt s.heap u t)(hv:TupAt s.heap v t')(q:Q (decide (t < t')) s):wpAny (model prog w) A (keyLt' (tuples' b) u v) Q E s:=by
 obtain⟨a,o,xs,n,rfl,ho,_,hd,hI,_⟩:=hu;obtain⟨a',o',xs',n',rfl,ho',_,hd',hI',_⟩:=hv;exact kat_lt ho hd ho' hd' (qc6q _ _ t t' 0 _ hI hI' 'h' q)
def qb9c{a:Addr}{vs:List Value}{n:Nat}{tss:List 'f'}{P:PySem.Fin->Shared->Prop} (ho:s.heap.get? a=some (seqObj "list" vs.toArray n)) (h64:vs.length < 64) (hl:tss.length=vs.length)
  (ht:∀ i,i < vs.length->TupAt ((((s.heap.update a (Obj.mapSeq fun _=>#[])).push (seqObj "tuple" vs.toArray 0)).push (seqObj "list" #[] 0))) (vs.getD i Value.none) (tss.getD i []))
  (h:∀ is:List Nat,is.Perm (List.range vs.length)->is.map (fun i=>tss.getD i [])=srtT tss->P (.done (.ret .none)) { s with heap:=sortedHeap s.heap a vs (is.map fun i=>vs.getD i Value.none).toArray }) :
  wpAny (model prog w) A (Builtin.«list.sort» ⟨[.ref a],[]⟩) P E s:=by
 rw [list_sort_plain];have ha:a < s.heap.objs.size:=lt_size ho;have hb:vs.toArray.size <= sizeLine:=by rw [size_toArray,sizeLine_eq];omega
 have rgm:∀ {β:Type} (l:List β) (d:β),(List.range l.length).map (fun i=>l.getD i d)=l:=fun l d=>by
  apply ext_getElem
  ·simp
  ·intro i h1 h2;simp at h1;simp [h1]
 refine wpAny_bind (listItems_at ho rfl (wpAny_bind (listUpdate_at ho rfl ?_ hb (zero_le _))));obtain⟨e1,ho1⟩:∃ e1,(s.heap.update a (Obj.mapSeq fun _=>#[])).get? a=some (seqObj "list" #[] e1):=⟨_,get?_update_seq ho (fun _=>#[])⟩;refine wpAny_bind (seqEpoch_at ho1 rfl (wpAny_bind (wpAny_newTuple ?_ (by show vs.length <= _;rw [sizeLine_eq];omega))));refine wpAny_bind (wpAny_newList (wpAny_holding ?_) (zero_le _));have ho6:(((s.heap.update a (Obj.mapSeq fun _=>#[])).push (seqObj "tuple" vs.toArray 0)).push (seqObj "list" #[] 0)).get? a=some (seqObj "list" #[] e1):=get?_push_of_some _ (get?_push_of_some _ ho1);show wpAny (model prog w) A _ P E { s with heap:=((s.heap.update a (Obj.mapSeq fun _=>#[])).push (seqObj "tuple" vs.toArray 0)).push (seqObj "list" #[] 0) }
 dsimp only
 by_cases h2:vs.toArray.size < 2
 ·rw [if_pos h2,if_pos h2]
  refine wpAny_bind (wpAny_pure ?_);rw [StateT.run_pure];refine wpAny_bind (wpAny_pure ?_)
  dsimp only
  have es:(arrOf (SortSt.mk' general' (vs.toArray.zip vs.toArray) #[] 7 none)).map (·.2)=vs.toArray:=by
   show(vs.toArray.zip vs.toArray).map (·.2)=_;apply Array.toList_inj.mp;rw [Array.toList_map,Array.toList_zip,List.map_snd_zip 'e']
  rw [es];refine wpAny_bind (seqEpoch_at ho6 rfl (wpAny_bind (listUpdate_at ho6 rfl ?_ (zero_le _) (le_trans hb (le_succ _)))));simp only [bne_self_eq_false,false_eq_true,if_false];have hv:vs.length < 2:=by rw [size_toArray] at h2;exact h2
  have pwt:tss.Pairwise (· <= ·):=by
   match tss,(show tss.length < 2 by omega) with
   | [],_=>exact List.Pairwise.nil
   | [x],_=>exact pairwise_singleton _ _
  have:=h (List.range vs.length) (List.Perm.refl _) (by rw [← hl,rgm];exact qb1e (List.Perm.refl _) pwt);rw [rgm] at this;exact wpAny_pure this
 ·rw [if_neg h2,if_neg h2]
  have h2':2 <= vs.length:=by rw [size_toArray] at h2;omega
  obtain⟨fs,k1,k2,k3⟩:=qc1g (vs:=vs) (h:=(((s.heap.update a (Obj.mapSeq fun _=>#[])).push (seqObj "tuple" vs.toArray 0)).push (seqObj "list" #[] 0))) fun v hv=>by
   obtain⟨i,hi,e⟩:=getElem_of_mem hv;have:=ht i hi;rw [show vs.getD i Value.none=v by rw [getD_eq_getElem?_getD,getElem?_eq_getElem hi];exact e] at this;exact⟨_,this⟩
  refine wpAny_bind (kat_kind (T:=.type "int") k1 'o' (fun v hv=>?_) 'd' ?_)
  ·obtain⟨n,t,rfl⟩:=k3 v hv
   exact .now
  have an:=qc1f (n:=vs.length) 'o';have pn:=qc1n (ltOf tss) _ an;have so:=qc6p (ord_of tss) (n:=vs.length) 'o';refine wpAny_bind (wpAny_mono (kat_run (Q:=fun st' s'=>s'={ s with heap:=((s.heap.update a (Obj.mapSeq fun _=>#[])).push (seqObj "tuple" vs.toArray 0)).push (seqObj "list" #[] 0) }/\failedOf st'=none/\arrOf st'=(Ev (ltOf tss) (kas_sort vs.length)).map (kas_item (vs.toArray.zip vs.toArray))) (G:=fun p s'=>p=Ev (ltOf tss) (kas_sort vs.length)/\s'={ s with heap:=((s.heap.update a (Obj.mapSeq fun _=>#[])).push (seqObj "tuple" vs.toArray 0)).push (seqObj "list" #[] 0) })
   rfl h2' h64 (fun p st' s' a1 a2 a3 a4=>⟨a4.2,a3,by rw [a2,a4.1]⟩) (ev_wp (ltOf tss) (fun i j C hi hj hC=>?_) _ an ⟨rfl,rfl⟩)) ?_ fun _ _ e=>e)
  ·unfold kas_ask
   exact tup_ltS (ht i hi) (ht j hj) hC
  generalize Ev (ltOf tss) (kas_sort vs.length)=p at pn so;rintro⟨⟨⟩,st'⟩ s' ⟨rfl,hf,har⟩
  dsimp only
  have hout:=kat_snds rfl har;rw [hout];have pnl:p.toList.Perm (List.range vs.length):=Array.perm_iff_toList_perm.mp pn;have psz:p.toList.length=vs.length:=by rw [pnl.length_eq,length_range]
  have hsrt:p.toList.map (fun i=>tss.getD i [])=srtT tss:=by
   refine qb1e ?_ ?_
   ·have:=pnl.map (fun i=>tss.getD i [])
    rw [← hl,rgm] at this;exact this
   ·rw [pairwise_iff_getElem]
    intro i j hi hj hij;rw [length_map] at hi hj;rw [getElem_map,getElem_map];have:=so i j (le_of_lt hij) 'o';unfold ltOf g at this;rw [decide_eq_false_iff_not,not_lt] at this;have gi:∀ k,k < p.toList.length->p.getD k 0=p.toList[k]!:=fun k hk=>by
     rw [getD_eq_getD_getElem?];simp at hk;simp [hk]
    have e1:p.getD i 0=p.toList[i]:=by rw [getD_eq_getD_getElem?,← getElem?_toList,getElem?_eq_getElem hi];rfl
    have e2:p.getD j 0=p.toList[j]:=by rw [getD_eq_getD_getElem?,← getElem?_toList,getElem?_eq_getElem hj];rfl
    rw [e1,e2] at this;exact this
  refine wpAny_bind (seqEpoch_at ho6 rfl (wpAny_bind (listUpdate_at ho6 rfl ?_ (zero_le _) (by
   show(List.toArray _).size <= _;rw [size_toArray,length_map,psz,sizeLine_eq];omega))))
  rw [hf];simp only [bne_self_eq_false,false_eq_true,if_false];exact wpAny_pure (h _ pnl hsrt)
end
end Sx
end
namespace L2
open PySem PySem.Spec PyProof.Rows
section
section
variable{prog:Program}{w:World}{A:Around}{E:Value->Shared->Prop}{s:Shared}
def qc1p{l:Addr}{vs:List Value}{tss:List 'f'}{Q:Value->Shared->Prop}(hl:s.heap.IsList l vs.toArray)(hn:tss.length=vs.length)(ht:∀ i,i < vs.length->Sx.TupAt s.heap (vs.getD i Value.none) (tss.getD i []))(h64:vs.length < 64)
  (h:∀ is:List Nat,is.Perm (List.range vs.length)->is.map (fun i=>tss.getD i [])=Sx.srtT tss->Q (.ref (s.heap.objs.size + 1)) { s with heap:=sortedAll s.heap vs (is.map fun i=>vs.getD i Value.none).toArray }):wpAny (model prog w) A (call (.builtin "sorted") [.ref l]) Q E s:=by
 refine call_function_entry kind_sorted plain_sorted entry_sorted (args_sorted1 _) ?_;unfold Builtin.«sorted»;refine wpAny_bind (m:=checkCount "sorted" 1 1 _) (wpAny_pure (wpAny_bind (collect_list hl ?_ (by rw [sizeLine_eq];omega))));refine wpAny_bind (wpAny_newList ?_ (by rw [sizeLine_eq];omega));have hz:((s.heap.push (seqObj "list" #[] 0)).update s.heap.objs.size (Obj.mapSeq (· ++ vs.toArray))).objs.size=s.heap.objs.size + 1:=by rw [Heap.size_update,size_push']
 have oL:(((s.heap.push (seqObj "list" #[] 0)).update s.heap.objs.size (Obj.mapSeq (· ++ vs.toArray))).push (seqObj "list" vs.toArray 0)).get? (s.heap.objs.size + 1)=some (seqObj "list" vs.toArray 0):=by rw [← hz];exact get?_push_size _ rfl
 show wpAny _ _ _ _ _ { s with heap:=(((s.heap.push (seqObj "list" #[] 0)).update s.heap.objs.size (Obj.mapSeq (· ++ vs.toArray))).push (seqObj "list" vs.toArray 0)) };rw [hz];have keep:∀ b o,s.heap.get? b=some o->(((((((s.heap.push (seqObj "list" #[] 0)).update s.heap.objs.size (Obj.mapSeq (· ++ vs.toArray))).push (seqObj "list" vs.toArray 0)).update (s.heap.objs.size + 1) (Obj.mapSeq fun _=>#[])).push (seqObj "tuple" vs.toArray 0)).push (seqObj "list" #[] 0))).get? b=some o:=fun b o q=>by
  have hlt:b < s.heap.objs.size:=lt_size q;refine get?_push_of_some _ (get?_push_of_some _ ?_);rw [Heap.get?_update_ne _ _ _ _ (ne_of_lt (lt_succ_of_lt hlt))];refine get?_push_of_some _ ?_;rw [Heap.get?_update_ne _ _ _ _ (ne_of_lt hlt)];exact get?_push_of_some _ q
 refine wpAny_bind (wpAny_holding (wpAny_call_entry slot_list_sort ⟨_,oL,rfl⟩ entry_list_sort (Sx.qb9c oL h64 hn (fun i hi=>qb4o (ht i hi) keep) fun is hp he=>⟨_,rfl,?_⟩) (args_list_sort _)));exact wpAny_pure ⟨_,rfl,h is hp he⟩
end
section
variable{K:W.Frag}{H:Hp}{S:Addr->Prop}
def qb1r{tss:List 'f'}{xs:List V}(h:qa0c K H S (tss.map encT) xs):∀ is:List Nat,(∀ i ∈ is,i < tss.length)->qa0c K H S ((is.map fun i=>tss.getD i []).map encT) (is.map fun i=>xs.getD i .non)
 | [],_=>by unfold qa0c;rfl
 | i :: r,hi=>by
  have h1:=hi i mem_cons_self;obtain⟨v,e1,hd⟩:=h.get (i:=i) (d:=encT (tss.getD i [])) (by rw [getElem?_map,getD_eq_getElem?_getD,getElem?_eq_getElem h1];rfl);rw [map_cons,map_cons,map_cons];unfold qa0c;refine⟨_,_,rfl,?_,qb1r h r fun j hj=>hi j (mem_cons_of_mem _ hj)⟩;have ex:xs.getD i V.non=v:=by rw [getD_eq_getElem?_getD,e1];rfl
  rw [ex];exact hd
def qb3e{xs:List V}{us:List Value}(h:Vals xs us):∀ is:List Nat,(∀ i ∈ is,i < xs.length)->Vals (is.map fun i=>xs.getD i .non) (is.map fun i=>us.getD i Value.none)
 | [],_=>.nil
 | i :: r,hi=>by
  have h1:=hi i mem_cons_self;obtain⟨u,e1,hr⟩:=h.get (i:=i) (x:=xs[i]) (getElem?_eq_getElem h1);rw [map_cons,map_cons];refine .cons ?_ (qb3e h r fun j hj=>hi j (mem_cons_of_mem _ hj));rw [getD_eq_getElem?_getD,getD_eq_getElem?_getD,getElem?_eq_getElem h1,e1];exact hr
noncomputable def rSrtT(K:W.Frag):List V->Hp->VK->Prop:=fun xs H Q=>∃ v S,∃ tss:List 'f',xs=[v]/\AtD K H S (.list (tss.map encT)) v/\(∀ t ∈ tss,t ≠ [])/\tss.length < 64/\∀ (p:Addr) (xs':List V),H p=none->qa0c K H S ((Sx.srtT tss).map encT) xs'->Q (.ref p) (upd H p (.lst xs'))
end
section
variable{X:Cx}
def qc1q{pins:List 'g'}{σ:List (Option V)}{H:Hp}{s:Shared}{S:Addr->Prop}(I:Inv X pins σ H s){tss:List 'f'}{xs:List V}{its:List Value}(hne:∀ t ∈ tss,t ≠ [])(h:qa0c X.K H S (tss.map encT) xs)(v:Vals xs its):∀ i,i < its.length->Sx.TupAt s.heap (its.getD i Value.none) (tss.getD i []):=fun i hi=>by
 have hl:its.length=tss.length:=by rw [← v.length,h.length,length_map]
 have hi2:i < tss.length:=by omega
 have ht:tss.getD i []=tss[i]:=by rw [getD_eq_getElem?_getD,getElem?_eq_getElem hi2];rfl
 obtain⟨x,e1,hd⟩:=h.get (i:=i) (d:=encT tss[i]) (by rw [getElem?_map,getElem?_eq_getElem hi2];rfl);obtain⟨u,e2,r⟩:=v.get e1;rw [ht,getD_eq_getElem?_getD,e2];obtain⟨a,ys,rfl,hq,tt⟩:=qa3d hd;have ey:=ints_of_all tt;subst ey;obtain⟨its',rv,pl,hz⟩:=I.tuple hq;cases r;obtain⟨o,ho,hc,n,hdt⟩:=pl;exact⟨a,o,its'.toArray,n,rfl,ho,hc,hdt,qb2k rv,hne _ (getElem_mem hi2)⟩
def qa7s:qa2e X (.builtin "sorted") (rSrtT X.K):=by
 intro pins s σ H xs us Q I rs h;obtain⟨v,S,tss,rfl,hd,hne,hn,q⟩:=h;obtain⟨u,rfl,r⟩:=vals1 rs;obtain⟨a,ys,rfl,_,hq,t⟩:=qa4b hd;cases r;obtain⟨its,rv,pl,hz⟩:=I.list (SqL.of hq);have hl:its.length=tss.length:=by rw [← rv.length,t.length,length_map]
 refine qc1p pl.isList hl.symm (qc1q I hne t rv) 'o' fun is hp he=>?_;have hin:∀ i ∈ is,i < its.length:=fun i hi=>mem_range.mp (hp.mem_iff.mp hi);have a1:=qb1r t is (fun i hi=>by have:=hin i hi;omega);rw [he] at a1;have v1:=qb3e rv is (fun i hi=>by have:=hin i hi;rw [rv.length];exact this);obtain⟨e,hoe⟩:=sortedAll_at s.heap its (is.map fun i=>its.getD i Value.none).toArray;have hle:(is.map fun i=>ys.getD i V.non).length <= sizeLine:=by
  rw [length_map,hp.length_eq,length_range,sizeLine_eq];omega
 exact⟨.ref _,_,I.laid (a:=s.heap.objs.size + 1) (o:=.lst (is.map fun i=>ys.getD i V.non)) (t':=s.toks) (fun b o e=>sortedAll_old e) (le_succ _) ⟨hle,_,e,v1,hoe⟩,rfl,q _ _ (I.hok.fresh (le_succ _)) a1⟩
end
noncomputable def qa8f:List PyData->Option (List 'f')
 | []=>some []
 | .tuple xs :: r=>(qa2x xs).bind fun t=>(qa8f r).map (t :: ·)
 | _ :: _=>none
def qb5i:∀ tss:List 'f',qa8f (tss.map encT)=some tss
 | []=>rfl
 | t :: r=>by
  show(qa2x (t.map .int)).bind (fun t=>(qa8f (r.map encT)).map (t :: ·))=_;rw [ints_of,bind_some,qb5i r];rfl
def qb3f:∀ {xs:List PyData} {tss:List 'f'},qa8f xs=some tss->xs=tss.map encT
 | [],tss,h=>by cases h;rfl
 | .tuple xs :: r,tss,h=>by
  have h':(qa2x xs).bind (fun t=>(qa8f r).map (t :: ·))=some tss:=h;obtain⟨t,h1,h2⟩:=bind_eq_some_iff.mp h';obtain⟨qs,h3,rfl⟩:=map_eq_some_iff.mp h2;rw [qb3f h3,ints_map h1];rfl
noncomputable def fSrtT:FC:=fun ds=>match ds with
 | [.list xs]=>(qa8f xs).bind fun tss=>if (tss.all fun t=>!t.isEmpty)=true/\tss.length < 64 then some (.list ((Sx.srtT tss).map encT)) else none
 | _=>none
def qb1s{tss:List 'f'}(h:∀ t ∈ tss,t ≠ [])(h2:tss.length < 64):fSrtT [.list (tss.map encT)]=some (.list ((Sx.srtT tss).map encT)):=by
 show(qa8f (tss.map encT)).bind _=_;rw [qb5i,bind_some,if_pos ⟨all_eq_true.mpr fun t ht=>by
  have:=h t ht;cases t with
  | nil=>exact absurd rfl this
  | cons _ _=>rfl,h2⟩]
def qb4c{K:W.Frag}:AdC K (rSrtT K) fSrtT:=by
 intro S H vs ds z Q f h e k;unfold fSrtT at e;split at e
 ·rename_i xs
  obtain⟨tss,q1,e2⟩:=bind_eq_some_iff.mp e;split at e2
  ·rename_i hc
   cases e2
   obtain⟨v,rfl,h1⟩:=h.one;have e1:=qb3f q1;subst e1;refine⟨v,Any,tss,rfl,h1.any,fun t ht hn=>?_,hc.2,fun p xs' hp ha=>k _ _ (qa0x hp _) (qa2o (f p hp) qa0k ((qb5g ha).same (qa0x hp _)))⟩;have:=all_eq_true.mp hc.1 t ht;rw [hn] at this;cases this
  ·cases e2
 ·cases e
end
end L2
section
namespace Sx
open PySem
end Sx
end
section
namespace Sx
open PySem
section
variable{prog:Program}{w:World}{K:Type}[DecidableEq K]{knd:KeyKind prog w K}{dec:Value->K}
variable{A:Around}{E:Value->Shared->Prop}{s:Shared}
end
end Sx
end
section
namespace Sx
open PySem
section
variable{prog:Program}{w:World}{K:Type}[DecidableEq K]{knd:KeyKind prog w K}{dec:Value->K}
variable{A:Around}{E:Value->Shared->Prop}{s:Shared}
end
end Sx
end
section
namespace Sx
open PySem
section
variable{prog:Program}{w:World}{K:Type}[DecidableEq K]{knd:KeyKind prog w K}{dec:Value->K}
variable{A:Around}{E:Value->Shared->Prop}{s:Shared}
end
end Sx
end
section
namespace Sx
open PySem
section
variable{prog:Program}{w:World}{K:Type}[DecidableEq K]{knd:KeyKind prog w K}{dec:Value->K}
variable{A:Around}{E:Value->Shared->Prop}{s:Shared}
end
end Sx
end
namespace L2
open PySem PySem.Spec PyProof.Rows
section
noncomputable def unS(a b:List Str):List Str:=Sx.srtS (Sx.uniq (a ++ b))
noncomputable def txD:List PyData->Option (List Str)
 | [.list xs]=>strsD xs
 | [.tuple xs]=>strsD xs
 | _=>none
def dSU(da db:TDA):TDE:=fun ρ Q=>da ρ fun xs ρ1=>need (qa1x ρ1 xs) fun ds=>need (txD ds) fun a=>a.length <= 3/\db ρ1 fun ys ρ2=>need (qa1x ρ2 ys) fun es=>need (txD es) fun b=>b.length <= 3/\Q (.d (.list ((unS a b).map .str))) ρ2
end
section
def qd4y:typeLookup (.type "tuple") "keys" = pure none:=am_miss_of_fast (by kernel_rfl)
def qc8p{prog:Program}{w:World}{A:Around}{E:Value->Shared->Prop}{s:Shared}{a:Addr}{xs:Array Value}{k:Nat}{sl:Array (Option Value)}{Q:Option Value->Shared->Prop}
  (hx:s.heap.get? a=some ⟨.type "tuple",none,.seq xs k,sl⟩) (hA:A.handled=none)
  (h:∀ h' tk,(∀ b o,s.heap.get? b=some o->h'.get? b=some o)->Q none { s with heap:=h',toks:=tk }):wpAny (model prog w) A (getAttr? (.ref a) "keys") Q E s:=by
 obtain⟨hp,g,d,tk,os⟩:=s;have hT:∀ tk',(⟨hp,g,d,tk',os⟩:Shared).TypeIs (.ref a) "tuple":=fun _=>⟨_,hx,rfl⟩;have f1:=sub_AttributeError;have f3:=F.slot_tuple_getattribute.lookup;have f4:=F.slot_tuple_getattribute.bind (.ref a);have f5:=am_tuple_getattr_none;unfold getAttr? getAttrBy? getAttrBy
 repeat (any_goals (first
  | assumption
  | exact hT _
  | ((with_reducible show wpAny _ _ (call (Value.builtin "tuple.__getattribute__") _ _) _ _ _);refine call_meets F.slot_tuple_getattribute (hT _) am_entry_tuple_getattribute (F.args_tuple_getattribute_2 _ _) (meets_getattribute_miss_tuple a xs k sl "keys" _ qd4y rfl 'd') ⟨hx,hA,fun h' tk' e hx'=>?_⟩)
  | wp_step))
 obtain⟨t',u',he⟩:=hx'.there;show wpAny _ _ (getattributeRaised _ _ _ _ _ _ _) _ _ _;unfold getattributeRaised
 repeat (any_goals (first | assumption | wp_step))
 exact h h' tk' hx'.of.keeps
noncomputable def kS(q:Str × V):Key × V:=(Sum.inr q.1,q.2)
noncomputable def foldQ(ps:List (Str × V)):List (Key × V):=qb1d [] (ps.map kS)
def qc8q(ps:List (Str × V))(p:Str × V):foldQ (ps ++ [p])=putK (foldQ ps) (Sum.inr p.1) p.2:=by
 unfold foldQ qb1d;rw [map_append,List.foldl_append];rfl
def putK_le(ν:List (Key × V))(k:Key)(v:V):(putK ν k v).length <= ν.length + 1:=by
 unfold putK;split
 ·rw [length_map];exact le_succ _
 ·rw [length_append,List.length_singleton];exact le_refl _
def qc1r(ps:List (Str × V)):(foldQ ps).length <= ps.length:=by
 have go:∀ (ps ν:List (Key × V)),(qb1d ν ps).length <= ν.length + ps.length:=by
  intro ps;induction ps with
  | nil=>intro ν;exact le_refl _
  | cons p r ih =>
   intro ν;have h1:=ih (putK ν p.1 p.2);have h2:=putK_le ν p.1 p.2;have e:qb1d ν (p :: r)=qb1d (putK ν p.1 p.2) r:=rfl;rw [e,length_cons];omega
 have h:=go (ps.map kS) [];rw [List.length_nil,Nat.zero_add,length_map] at h;exact h
def PairsV(ps:List (Str × V))(D:Addr)(wr:List Addr)(items:Array Value)(h:Heap):Prop:=∀ (i:Nat) (v:Value),items[i]? = some v->∃ (a:Addr) (o:Obj) (c:Nat) (p:Str × V) (t:Tok) (u:Value),ps[i]? = some p/\v=.ref a/\a ≠ D/\a ∉ wr/\h.get? a=some o/\o.cls=.type "tuple" /\ o.data=.seq #[.str p.1 t,u] c/\RelV p.2 u
section
variable{prog:Program}{w:World}{A:Around}{R:Result->Shared->Prop}{I:Addr}{fp wr:List Addr}{G:Array GenState->Array GenState->Prop}{St:Nat->Shared->Prop}{items:Array Value}{ps:List (Str × V)}
def qc4c(W:WalksS prog w A.in1 I fp wr G items.size (fun i v=>items[i]? = some v) St)(D:Addr)(hDf:D ∉ fp)(hl:items.size <= 1000) :
  ∀ (m i:Nat) (s:Shared) (vs:List (Key × Value)),items.size - i=m->i <= items.size->St i s->PairsV ps D wr items s.heap->s.heap.DictOf (qa1b prog w) D vs->KV (foldQ (ps.take i)) vs ->
   (∀ s' vs',Moved (D :: wr) G s s'->s'.heap.DictOf (qa1b prog w) D vs'->KV (foldQ (ps.take items.size)) vs'->R (.ok (.ret .none)) s') ->
   codeAny (model prog w) A (.builtin "dict.update.loop" ⟨[.ref D,.ref I,rawInt ((i:Nat):Int),.none],[]⟩) R s:=by
 have hDw:D ∉ wr:=fun h=>hDf (W.sub _ h);have up:∀ b ∈ wr,b ∈ D :: wr:=fun b hb=>mem_cons_of_mem _ hb;intro m;induction m with
 | zero =>
  intro i s vs hm hi st tp dd kv fin;have hin:i=items.size:=by omega
  subst hin;refine codeAny_builtin qb6o ?_;rw [Around.under_plainId qa8e _];show wpAny _ A.in1 (pyNext (.ref I) >>= _) _ _ s;refine wpAny_bind (W.done s _ _ st fun s' mv=>?_);refine wpAny_bind (wpAny_pure (wpAny_pure (fin s' vs (mv.mono up) ?_ kv)));obtain⟨o,es,ep,ho,rest⟩:=dd;exact⟨o,es,ep,mv.heap D _ hDw ho,rest⟩
 | succ m ih =>
  intro i s vs hm hi st tp dd kv fin;have hlt:i < items.size:=by omega
  refine codeAny_builtin qb6o ?_;rw [Around.under_plainId qa8e _];show wpAny _ A.in1 (pyNext (.ref I) >>= _) _ _ s;refine wpAny_bind (W.item i s _ _ hlt st fun v s' hv st' mv=>?_);obtain⟨a,o,c,p,t,u,hp,rfl,haD,haw,ho,hc,hd,ru⟩:=tp i v hv;have ho':=mv.heap a _ haw ho;have dd':s'.heap.DictOf (qa1b prog w) D vs:=by
   obtain⟨o,es,ep,ho,rest⟩:=dd;exact⟨o,es,ep,mv.heap D _ hDw ho,rest⟩
  have hvl:vs.length <= 1000:=by
   rw [← kv.length];have h1:=qc1r (ps.take i);have h2:=List.length_take_le i ps;omega
  refine wpAny_bind (wpAny_holding (wpAny_bind (wpAny_tryCatch ?_)));unfold Builtin.Dict.pairItems;refine wpAny_bind (wpAny_typeOf (T:="tuple") ⟨o,ho',hc⟩ ?_);rw [if_pos (show(Value.type "tuple" == Value.type "list" || Value.type "tuple" == Value.type "tuple")=true by decide)];unfold seqItems?
  refine wpAny_bind (wpAny_bind (wpAny_load ho' ?_));rw [hd];refine wpAny_pure (wpAny_pure ?_);show wpAny _ A.in1 (holding [Value.str p.1 t,u] (dictSet D (.str p.1 t) u)) _ _ s';refine wpAny_holding (wpAny_dictSet_pairs (knd:=qa1b prog w) (k:=Sum.inr p.1) (qb4k prog w p.1 t) dd' (fun h' dd2 hs=>?_) (le_trans hvl (by rw [sizeLine_eq];decide)));have kv2:KV (foldQ (ps.take (i + 1))) (stored vs (Sum.inr p.1) u):=by
   rw [take_add_one,hp,toList_some,qc8q];exact kv.put (Sum.inr p.1) ru
  refine wpAny_pure ⟨plainId_quiet qa8e _,ih (i + 1) _ _ 'o' hlt (W.frame _ s' _ _ st' (le_succ _) fun b hb o e=>?_) (fun j v hv=>?_) dd2 kv2 fun s2 vs2 mv2 dd3 kv3=>?_⟩
  ·rw [hs.2 b (fun h:b=D=>hDf (by rw [← h];exact hb))];exact e
  ·obtain⟨a,o,c,p,t,u,hp,e,haD,haw,ho,hc,hd,ru⟩:=tp j v hv
   exact⟨a,o,c,p,t,u,hp,e,haD,haw,(hs.2 a haD).trans (mv.heap a _ haw ho),hc,hd,ru⟩
  ·refine fin s2 vs2 (Moved.trans W.gtrans ((mv.mono up).then_heap (le_succ _) fun b o hb e=>?_) mv2) dd3 kv3
   rw [hs.2 b (fun h:b=D=>hb (by rw [h];exact mem_cons_self))];exact e
end
section
variable{prog:Program}{w:World}{A:Around}{E:Value->Shared->Prop}{s:Shared}
def qc4d{l:Addr}{items:Array Value}{n:Nat}{sl:Array (Option Value)}{ps:List (Str × V)}{Q:Value->Shared->Prop}(hh:A.handled=none) (hl:s.heap.get? l=some ⟨.type "tuple",none,.seq items n,sl⟩) (hsz:items.size <= 1000) (hps:ps.length=items.size)
  (tp:∀ (i:Nat) (v:Value),items[i]? = some v->∃ (a:Addr) (o:Obj) (c:Nat) (p:Str × V) (t:Tok) (u:Value),ps[i]? = some p/\v=.ref a/\s.heap.get? a=some o/\o.cls=.type "tuple" /\ o.data=.seq #[.str p.1 t,u] c/\RelV p.2 u)
  (h:∀ h' tk vs,h'.DictOf (qa1b prog w) s.heap.objs.size vs->KV (foldQ ps) vs->(∀ b o,s.heap.get? b=some o->h'.get? b=some o)->Q (.ref s.heap.objs.size) { s with heap:=h',toks:=tk }) :
  wpAny (model prog w) A (call (.type "dict") [.ref l]) Q E s:=by
 refine callType_codes (Q₁:=fun obj s₁=>obj=.ref s.heap.objs.size/\s₁={ s with heap:=s.heap.push { cls:=.type "dict",data:=.dict #[] } }) F.kt_called_dict (F.kt_typeCall_dict_1 _) F.entry_dict_init (kt_code_dict_new _ ⟨rfl,rfl⟩) ?_;rintro obj s₁ ⟨rfl,rfl⟩;have dn:(s.heap.push { cls:=.type "dict",data:=.dict #[] }).DictOf (qa1b prog w) s.heap.objs.size []:=Heap.DictOf.new s.heap;have hl1:(s.heap.push { cls:=.type "dict",data:=.dict #[] }).get? l=some ⟨.type "tuple",none,.seq items n,sl⟩:=get?_push_of_some _ hl;refine⟨dn.typeIs,F.args_dict_init_2 _ _,?_⟩;unfold Builtin.«dict.__init__» Builtin.Dict.selfAndRest;refine wpAny_bind (wpAny_bind (wpAny_notOrdered_dict dn.typeIs (wpAny_pure ?_)));show wpAny _ _ (Builtin.Dict.updateFrom "dict.__init__" s.heap.objs.size (.ref l) [] .none) _ _ _;unfold Builtin.Dict.updateFrom;refine wpAny_bind (wpAny_typeOf (T:="tuple") ⟨_,hl1,rfl⟩ ?_);rw [if_pos (show(Value.type "tuple" != Value.type "dict")=true by decide)];refine wpAny_bind (qc8p hl1 (by simp [hh]) fun h2 tk2 k2=>?_);rw [if_pos (show(Option.isNone (none:Option Value))=true from rfl)];refine wpAny_bind (wpAny_rule ?_);have hl2:h2.IsTuple l items:=⟨_,k2 _ _ hl1,rfl,n,rfl⟩;refine wpAny_bind (wpAny_pyIter_tuple hl2 ?_);have hlS:l < s.heap.objs.size:=lt_size hl;have hN2:s.heap.objs.size < h2.objs.size:=by
  obtain⟨o,_,_,ho,_⟩:=dn;exact lt_size (k2 _ _ ho)
 have old:∀ b o,s.heap.get? b=some o->(h2.push { cls:=.type "tuple_iterator",data:=.fields #[.ref l,.int 0 0] }).get? b=some o:=fun b o e=>get?_push_of_some _ (k2 _ _ (get?_push_of_some _ e));have hneI:l ≠ h2.objs.size:=ne_of_lt (lt_trans hlS hN2);have hDf:s.heap.objs.size ∉ [h2.objs.size,l]:=by
  simp only [mem_cons,not_mem_nil,or_false,not_or];exact⟨ne_of_lt hN2,ne_of_gt hlS⟩
 refine wpAny_pure ⟨plainId_quiet qa8e _,?_⟩;refine qc4c (ps:=ps) (items:=items) ((Walks.tuple (by simp [hh]) h2.objs.size l hneI items).toS) s.heap.objs.size hDf hsz items.size 0 _ [] 'o' (zero_le _) ⟨⟨_,get?_push_size _ rfl,rfl,rfl⟩,hl2.push _⟩ (fun i v hv=>?_) ?_ .nil fun s' vs' mv dd kv=>?_
 ·obtain⟨a,o,c,p,t,u,h1,h2',h3,h4,h5,h6⟩:=tp i v hv
  have ha:=lt_size h3;refine⟨a,o,c,p,t,u,h1,h2',ne_of_lt ha,?_,old _ _ h3,h4,h5,h6⟩;rw [mem_singleton];exact ne_of_lt (lt_trans ha hN2)
 ·obtain⟨o,es,ep,ho,rest⟩:=dn
  exact⟨o,es,ep,get?_push_of_some _ (k2 _ _ ho),rest⟩
 ·obtain⟨h',g',d',tk',os'⟩:=s'
  have eg:g'=s.gens:=mv.gens;have ed:d'=s.drawn:=mv.drawn;have eo:os'=s.os:=mv.os;subst eg;subst ed;subst eo;rw [← hps,take_length] at kv;refine⟨rfl,h h' tk' vs' dd kv fun b o e=>?_⟩;have hb:=lt_size e;refine mv.heap b o ?_ (old b o e);simp only [mem_cons,not_mem_nil,or_false,not_or];exact⟨ne_of_lt hb,ne_of_lt (lt_trans hb hN2)⟩
end
noncomputable def qb6w(K:W.Frag):List V->Hp->VK->Prop:=fun xs H Q=>∃ a ys,∃ ps:List (Str × V),xs=[.ref a]/\SqT K H a ys/\ys.length=ps.length/\(∀ (i:Nat) y,ys[i]? = some y->∃ b p,ps[i]? = some p/\y=.ref b/\SqT K H b [.str p.1,p.2])/\ps.length <= 1000/\∀ p,H p=none->Q (.ref p) (upd H p (.dK (foldQ ps)))
def qb1t{X:Cx}(hc:X.calm=true):qa2e X (.type "dict") (qb6w X.K):=by
 intro pins s σ H xs us Q I rs h;obtain⟨a,ys,ps,rfl,hq,ly,hps,hz,q⟩:=h;obtain⟨u,rfl,r⟩:=vals1 rs;cases r;obtain⟨its,rv,⟨o,e,⟨hcl,hdi⟩,n,hda⟩,_⟩:=I.tupleP hq;obtain⟨oc,od,oa,os⟩:=o;simp only at hcl hdi hda;subst hcl hdi hda;have li:its.length=ps.length:=by rw [← rv.length,ly]
 refine qc4d (ps:=ps) (I.ok.hd hc) e (by rw [size_toArray];omega) (by rw [size_toArray];omega) (fun i v hv=>?_) fun h' tk vs dd kv keep=>?_
 ·rw [getElem?_toArray] at hv
  have hi:i < ys.length:=by
   have:=(List.getElem?_eq_some_iff.mp hv).1;omega
  have hy:ys[i]? = some ys[i]:=getElem?_eq_getElem hi;obtain⟨b,p,e1,e2,sq⟩:=hps i _ hy;obtain⟨v',hv',rv'⟩:=Vals.get rv hy;rw [hv] at hv';cases hv';rw [e2] at rv';cases rv';obtain⟨jts,rj,⟨o,eo,hcl,c,hdo⟩,_⟩:=I.tuple sq;obtain⟨w1,w2,rfl,⟨t1,e3⟩,r2⟩:=Vals.two rj;subst e3;exact⟨b,o,c,p,t1,w2,e1,rfl,eo,hcl,hdo,r2⟩
 ·have hle:(foldQ ps).length <= sizeLine:=by
   rw [sizeLine_eq];have:=qc1r ps;omega
  exact⟨.ref _,_,I.laid (a:=s.heap.objs.size) (o:=.dK (foldQ ps)) (t':=tk) keep 'e' ⟨hle,beq_eq_false_iff_ne.mpr (Ne.symm (ne_of_lt I.big)),vs,kv,dd⟩,rfl,q _ (I.hok.fresh 'e')⟩
noncomputable def kQ(p:Str × PyData):Key × PyData:=(Sum.inr p.1,p.2)
noncomputable def qa2h(p:Str × PyData):PyData:=.tuple [.str p.1,p.2]
noncomputable def unQ:List PyData->Option (List 'j')
 | []=>some []
 | .tuple [.str k,d] :: r=>(unQ r).map ((k,d) :: ·)
 | _ :: _=>none
def unQ_of:∀ ps:List 'j',unQ (ps.map qa2h)=some ps
 | []=>rfl
 | (k,n) :: r=>by
  show(unQ (r.map qa2h)).map _=_;rw [unQ_of r];rfl
def qc6r:∀ {xs:List PyData} {ps:List 'j'},unQ xs=some ps->xs=ps.map qa2h
 | [],ps,h=>by cases h;rfl
 | .tuple [.str k,d] :: r,ps,h=>by
  have h':(unQ r).map ((k,d) :: ·)=some ps:=h;obtain⟨qs,h1,rfl⟩:=map_eq_some_iff.mp h';rw [qc6r h1];rfl
noncomputable def dictQ(ps:List 'j'):PyData:=.dict ((qa6a [] (ps.map kQ)).map kD)
noncomputable def qc1s:FC:=fun ds=>match ds with
 | [.tuple xs]=>(unQ xs).bind fun ps=>if ps.length <= 1000 then some (dictQ ps) else none
 | _=>none
section
variable{K:W.Frag}{H:Hp}{S:Addr->Prop}
def pairs_at:∀ {ps:List 'j'} {ys:List V},qa0c K H S (ps.map qa2h) ys->∃ qs:List (Str × V),ys.length=qs.length/\qs.length=ps.length/\(∀ (i:Nat) y,ys[i]? = some y->∃ b p,qs[i]? = some p/\y=.ref b/\SqT K H b [.str p.1,p.2])/\qa0f K H S ((ps.map kQ).map kD) (qs.map kS)
 | [],ys,h=>by
  cases h.unnil
  exact⟨[],rfl,rfl,fun i y e=>by simp at e,.nil⟩
 | p :: r,ys,h=>by
  obtain⟨y,t,rfl,h1,h2⟩:=h.uncons;obtain⟨qs,e1,e2,e3,e4⟩:=pairs_at h2;obtain⟨b,zs,rfl,sq,az⟩:=qa3d h1;obtain⟨z1,zr,rfl,a1,a2⟩:=az.uncons;obtain⟨z2,zr2,rfl,a3,a4⟩:=a2.uncons;cases a4.unnil;cases qa9h a1;refine⟨(p.1,z2) :: qs,by rw [length_cons,length_cons,e1],by rw [length_cons,length_cons,e2],fun i y e=>?_,.cons (k:=Sum.inr p.1) a3 e4⟩;cases i with
  | zero=>cases e;exact⟨b,(p.1,z2),rfl,rfl,sq⟩
  | succ i=>exact e3 i y e
def qc1t:AdC K (qb6w K) qc1s:=by
 intro S H vs ds z Q f h e k;unfold qc1s at e;split at e
 ·rename_i xs
  cases q:unQ xs with
  | none=>rw [q] at e;cases e
  | some ps =>
   rw [q,bind_some] at e;split at e
   ·rename_i hz
    cases e
    obtain⟨v,rfl,h1⟩:=h.one;have ex:=qc6r q;subst ex;obtain⟨a,ys,rfl,sq,al⟩:=h1.tup;obtain⟨qs,e1,e2,e3,e4⟩:=pairs_at al;refine⟨a,ys,qs,rfl,sq,e1,e3,'o',fun p hp=>?_⟩;have sm:=qa0x (H:=H) hp (.dK (foldQ qs));exact k _ _ sm (qa7n (f p hp) qa0k (qa0f.mono sm.keep _ _ (qa0f.merge e4 .nil)))
   ·cases e
 ·cases e
noncomputable def fGetD:PyData->List PyData->Option PyData:=fun x ds=>match x,ds with
 | .dict kvs,[.str k,d]=>if notL d=true then some ((getA kvs (Sum.inr k)).getD d) else none
 | _,_=>none
def dGetD(dd:TDE)(da:TDA):TDE:=fun ρ Q=>dd ρ fun x ρ1=>need (qa0q ρ1 x) fun dx=>(∃ kvs,dx=.dict kvs)/\da ρ1 fun ys ρ2=>need (qa0q ρ2 x) fun dx2=>need (qa1x ρ2 ys) fun ds=>need (fGetD dx2 ds) fun z=>Q (.d z) ρ2
def AtT.notL{d:PyData}{v:V}(h:AtT K H S d v)(e:notL d=true):AtD K H S d v:=by
 rcases h with h | ⟨ds,a,vs,rfl,_⟩
 ·exact h
 ·cases e
def ad_getD{td:TE}{ta:TA}{dd:TDE}{da:TDA}(hd:AdE K td dd)(ha:AdA K ta da):AdE K (tBM K "dict" rGet2 td ta) (dGetD dd da):=by
 intro c O ρ σ H Qd Q R h k;refine hd c O ρ σ H _ _ R h fun x ρ1 O1 v H1 h1 R1 P1 a1=>?_;obtain⟨dx,e1,hn2⟩:=ne (h1);obtain⟨hz1,h1⟩:=hn2;obtain⟨kvs,rfl⟩:=hz1;obtain⟨a,ν,rfl,_,ea,_⟩:=(R1.top a1 e1).dict;refine⟨.inr (.inr (.inl ⟨rfl,.inl ⟨_,ea⟩⟩)),ha c O1 ρ1 σ H1 _ _ R1 h1 fun ys ρ2 O2 vs H2 h2 R2 P2 a2=>?_⟩;obtain⟨dx2,e2,hn3⟩:=ne (h2);obtain⟨ds,e3,hn4⟩:=ne (hn3);obtain⟨z,e4,h2⟩:=ne (hn4);have t1:=R2.top (a1.pers P2) e2;have t2:=R2.tops a2 e3;unfold fGetD at e4;split at e4
 ·rename_i kvs2 k' d
  split at e4
  ·rename_i nl
   cases e4
   obtain⟨a',κ,ea',_,eb,tk⟩:=t1.dict;cases ea';obtain⟨v1,v2,rfl,t3,t4⟩:=t2.two;refine⟨a,_,k',v2,rfl,by rw [t3.str],eb,?_⟩;rcases tk.get (Sum.inr k') with⟨g1,g2⟩ | ⟨d',v',g1,g2,g3⟩
   ·rw [g1] at h2
    rw [g2];exact k _ _ _ _ _ h2 R2 (P1.trans P2) (show AtD K H2 (live c O2) d v2 from t4.notL nl)
   ·rw [g1] at h2
    rw [g2];exact k _ _ _ _ _ h2 R2 (P1.trans P2) (show AtD K H2 (live c O2) d' v' from g3)
  ·cases e4
 ·cases e4
end
theorem dGetD_a{d1:TDE}{da:TDA}{ρ:Rho}{Q:DV->Rho->Prop}:dGetD d1 da ρ Q=d1 ρ fun x ρ1=>need (qa0q ρ1 x) fun dx=>(∃ kvs,dx=.dict kvs)/\da ρ1 fun ys ρ2=>need (qa0q ρ2 x) fun dx2=>need (qa1x ρ2 ys) fun ds=>need (fGetD dx2 ds) fun z=>Q (.d z) ρ2:=rfl
theorem dSU_a{da db:TDA}{ρ:Rho}{Q:DV->Rho->Prop}:dSU da db ρ Q=da ρ fun xs ρ1=>need (qa1x ρ1 xs) fun ds=>need (txD ds) fun a=>a.length <= 3/\db ρ1 fun ys ρ2=>need (qa1x ρ2 ys) fun es=>need (txD es) fun b=>b.length <= 3/\Q (.d (.list ((unS a b).map .str))) ρ2:=rfl
section
variable{X:Cx}{e1 e2:Expr}{daa:TDA}{pos:Pos}
def qb7z{o:Expr}{dd:TDE}{p2:Pos}(ho:DE X o dd)(ha:DA X [e1,e2] daa)
  (hbase:attributeBase o "get" X.env (eval o X.env)=eval o X.env:=by rfl)
  (hfew:((backTo pos (starEach [e1,e2] X.env)).all (fun x=>!x.1) && (backToKw pos (keywordEach [] X.env)).all (fun x=>x.1.isSome)
   && decide (([e1,e2]:List Expr).length + ([]:List Keyword).length + (if ([]:List Keyword).isEmpty then 0 else 1) < 30))=true:=by rfl)
  (hline:(p2.endLine == pos.line)=true:=by rfl) (hs:starEach [e1,e2] X.env=(false,eval e1 X.env) :: starEach [e2] X.env:=by rfl) (hpl:(backTo pos (starEach [e2] X.env)).any (·.1)=false:=by rfl):DE X (.Call (.Attribute o "get" p2) [e1,e2] [] pos) (dGetD dd daa):=by
 obtain⟨td,pd,ad⟩:=ho;obtain⟨ta,pa,aa⟩:=ha;exact⟨_,pe_bm PySem.F.plainAttrs_dict PySem.F.slot_dict_get PySem.F.type_dict_get mt_get2 pd pa hbase hfew hline hs hpl,ad_getD ad aa⟩
end
end
end L2
section
namespace Sx
open PySem PySem.W PyProof.Rows
def qb6x(h:Heap)(v:Value)(x:Str):Prop:=∃ a o xs n tk u,v=.ref a/\h.get? a=some o/\o.cls=.type "tuple" /\ o.data=.seq xs n/\xs = #[Value.str x tk,u]
noncomputable def ltX(ss:List Str)(i j:Nat):Bool:=decide ((ss.getD i "").cps.toList < (ss.getD j "").cps.toList)
def ord_X(ss:List Str):Ord (ltX ss) where
 asym:=fun x y h=>by
  unfold ltX at *;rw [decide_eq_true_eq] at h;rw [decide_eq_false_iff_not];exact List.lt_asymm h
 trans:=fun x y z h1 h2=>by
  unfold ltX at *;rw [decide_eq_false_iff_not,not_lt] at *;exact List.le_trans h1 h2
section
variable{prog:Program}{w:World}{A:Around}{E:Value->Shared->Prop}{s:Shared}
def qc4e{v:Value}{Q:Bool->Shared->Prop}(h:Q true s):wpAny (model prog w) A (eqBool v v) Q E s:=by
 unfold eqBool;refine wpAny_holding ?_;rw [if_pos (beq_self_eq_true v)];exact wpAny_bind (wpAny_rule (wpAny_pure h))
def pair_lt{u v:Value}{x y:Str}{Q:Bool->Shared->Prop}(hu:qb6x s.heap u x)(hv:qb6x s.heap v y)(hne:u=v ∨ x ≠ y)(q:Q (decide (x.cps.toList < y.cps.toList)) s):wpAny (model prog w) A (keyLt' (tuples' true) u v) Q E s:=by
 obtain⟨a,o,xs,n,tk,p,rfl,ho,_,hd,rfl⟩:=hu;obtain⟨a',o',xs',n',tk',p',rfl,ho',_,hd',rfl⟩:=hv;refine kat_lt ho hd ho' hd' ?_;show KatLex prog w A true (decide (2 < 2)) Q [(Value.str x tk,Value.str y tk'),(p,p')] 0 s;rcases hne with e | hne
 ·cases e
  rw [ho] at ho';cases ho';rw [hd] at hd';cases hd';refine kat_cons (wpAny_eqBool_str ?_);rw [decide_eq_true rfl];refine kat_yes (kat_cons (qc4e (kat_yes (kat_nil ?_))));rw [show decide (2 < 2)=decide (x.cps.toList < x.cps.toList) by rw [decide_eq_false (List.lt_irrefl _)];rfl];exact q
 ·refine kat_cons (wpAny_eqBool_str ?_)
  rw [decide_eq_false hne];exact kat_no (oneLt_str q)
def qb9d:∀ {vs:List Value} {h:Heap},(∀ v ∈ vs,∃ t,qb6x h v t)->∃ fs,KatTups h vs fs/\fs.length=vs.length/\∀ v ∈ fs,∃ n t,v=.str n t
 | [],h,_=>⟨[],KatTups.nil,rfl,fun v hv=>absurd hv not_mem_nil⟩
 | v :: r,h,H=>by
  obtain⟨fs,k,hl,hf⟩:=qb9d (vs:=r) (h:=h) fun v hv=>H v (mem_cons_of_mem _ hv);obtain⟨t,a,o,xs,n,tk,u,rfl,ho,hc,hd,rfl⟩:=H v mem_cons_self;refine⟨.str t tk :: fs,KatTups.cons ho hc hd rfl k,by rw [length_cons,length_cons,hl],fun v hv=>?_⟩;rcases mem_cons.mp hv with rfl | hv
  ·exact⟨_,_,rfl⟩
  ·exact hf v hv
def rgm{β:Type}(l:List β)(d:β):(List.range l.length).map (fun i=>l.getD i d)=l:=by
 apply ext_getElem
 ·simp
 ·intro i h1 h2;simp at h1;simp [h1]
def qc8r{ss:List Str}(hn:ss.Nodup){i j:Nat}(hi:i < ss.length)(hj:j < ss.length)(h:i ≠ j):ss.getD i "" ≠ ss.getD j "":=fun e=>by
 rw [getD_eq_getElem?_getD,getD_eq_getElem?_getD,getElem?_eq_getElem hi,getElem?_eq_getElem hj] at e;exact h ((List.getElem_inj hn).mp e)
def qd4z{a:Addr}{vs:List Value}{n:Nat}{ss:List Str}{P:PySem.Fin->Shared->Prop} (ho:s.heap.get? a=some (seqObj "list" vs.toArray n)) (h64:vs.length < 64) (hl:ss.length=vs.length) (hnd:ss.Nodup)
  (ht:∀ i,i < vs.length->qb6x ((((s.heap.update a (Obj.mapSeq fun _=>#[])).push (seqObj "tuple" vs.toArray 0)).push (seqObj "list" #[] 0))) (vs.getD i Value.none) (ss.getD i ""))
  (h:∀ is:List Nat,is.Perm (List.range vs.length)->is.map (fun i=>ss.getD i "")=srtS ss->P (.done (.ret .none)) { s with heap:=sortedHeap s.heap a vs (is.map fun i=>vs.getD i Value.none).toArray }) :
  wpAny (model prog w) A (Builtin.«list.sort» ⟨[.ref a],[]⟩) P E s:=by
 rw [list_sort_plain];have ha:a < s.heap.objs.size:=lt_size ho;have hb:vs.toArray.size <= sizeLine:=by rw [size_toArray,sizeLine_eq];omega
 refine wpAny_bind (listItems_at ho rfl (wpAny_bind (listUpdate_at ho rfl ?_ hb (zero_le _))));obtain⟨e1,ho1⟩:∃ e1,(s.heap.update a (Obj.mapSeq fun _=>#[])).get? a=some (seqObj "list" #[] e1):=⟨_,get?_update_seq ho (fun _=>#[])⟩;refine wpAny_bind (seqEpoch_at ho1 rfl (wpAny_bind (wpAny_newTuple ?_ (by show vs.length <= _;rw [sizeLine_eq];omega))));refine wpAny_bind (wpAny_newList (wpAny_holding ?_) (zero_le _));have ho6:(((s.heap.update a (Obj.mapSeq fun _=>#[])).push (seqObj "tuple" vs.toArray 0)).push (seqObj "list" #[] 0)).get? a=some (seqObj "list" #[] e1):=get?_push_of_some _ (get?_push_of_some _ ho1);show wpAny (model prog w) A _ P E { s with heap:=((s.heap.update a (Obj.mapSeq fun _=>#[])).push (seqObj "tuple" vs.toArray 0)).push (seqObj "list" #[] 0) }
 dsimp only
 by_cases h2:vs.toArray.size < 2
 ·rw [if_pos h2,if_pos h2]
  refine wpAny_bind (wpAny_pure ?_);rw [StateT.run_pure];refine wpAny_bind (wpAny_pure ?_)
  dsimp only
  have es:(arrOf (SortSt.mk' general' (vs.toArray.zip vs.toArray) #[] 7 none)).map (·.2)=vs.toArray:=by
   show(vs.toArray.zip vs.toArray).map (·.2)=_;apply Array.toList_inj.mp;rw [Array.toList_map,Array.toList_zip,List.map_snd_zip 'e']
  rw [es];refine wpAny_bind (seqEpoch_at ho6 rfl (wpAny_bind (listUpdate_at ho6 rfl ?_ (zero_le _) (le_trans hb (le_succ _)))));simp only [bne_self_eq_false,false_eq_true,if_false];have hv:vs.length < 2:=by rw [size_toArray] at h2;exact h2
  have pwt:ss.Pairwise leS:=by
   match ss,(show ss.length < 2 by omega) with
   | [],_=>exact List.Pairwise.nil
   | [x],_=>exact pairwise_singleton _ _
  have:=h (List.range vs.length) (List.Perm.refl _) (by rw [← hl,rgm];exact qb4b (List.Perm.refl _) pwt);rw [rgm] at this;exact wpAny_pure this
 ·rw [if_neg h2,if_neg h2]
  have h2':2 <= vs.length:=by rw [size_toArray] at h2;omega
  obtain⟨fs,k1,k2,k3⟩:=qb9d (vs:=vs) (h:=(((s.heap.update a (Obj.mapSeq fun _=>#[])).push (seqObj "tuple" vs.toArray 0)).push (seqObj "list" #[] 0))) fun v hv=>by
   obtain⟨i,hi,e⟩:=getElem_of_mem hv;have:=ht i hi;rw [show vs.getD i Value.none=v by rw [getD_eq_getElem?_getD,getElem?_eq_getElem hi];exact e] at this;exact⟨_,this⟩
  refine wpAny_bind (kat_kind (T:=.type "str") k1 'o' (fun v hv=>?_) 'd' ?_)
  ·obtain⟨n,t,rfl⟩:=k3 v hv
   exact .now
  have hT:(Value.type "str" != Value.type "tuple")=true:=by decide
  rw [hT];have an:=qc1f (n:=vs.length) 'o';have pn:=qc1n (ltX ss) _ an;have so:=qc6p (ord_X ss) (n:=vs.length) 'o';refine wpAny_bind (wpAny_mono (kat_run (Q:=fun st' s'=>s'={ s with heap:=((s.heap.update a (Obj.mapSeq fun _=>#[])).push (seqObj "tuple" vs.toArray 0)).push (seqObj "list" #[] 0) }/\failedOf st'=none/\arrOf st'=(Ev (ltX ss) (kas_sort vs.length)).map (kas_item (vs.toArray.zip vs.toArray))) (G:=fun p s'=>p=Ev (ltX ss) (kas_sort vs.length)/\s'={ s with heap:=((s.heap.update a (Obj.mapSeq fun _=>#[])).push (seqObj "tuple" vs.toArray 0)).push (seqObj "list" #[] 0) })
   rfl h2' h64 (fun p st' s' a1 a2 a3 a4=>⟨a4.2,a3,by rw [a2,a4.1]⟩) (ev_wp (ltX ss) (fun i j C hi hj hC=>?_) _ an ⟨rfl,rfl⟩)) ?_ fun _ _ e=>e)
  ·unfold kas_ask
   refine pair_lt (ht i hi) (ht j hj) ?_ hC;by_cases hij:i=j
   ·subst hij;exact .inl rfl
   ·exact .inr (qc8r hnd 'o' 'o' hij)
  generalize Ev (ltX ss) (kas_sort vs.length)=p at pn so;rintro⟨⟨⟩,st'⟩ s' ⟨rfl,hf,har⟩
  dsimp only
  have hout:=kat_snds rfl har;rw [hout];have pnl:p.toList.Perm (List.range vs.length):=Array.perm_iff_toList_perm.mp pn;have psz:p.toList.length=vs.length:=by rw [pnl.length_eq,length_range]
  have hsrt:p.toList.map (fun i=>ss.getD i "")=srtS ss:=by
   refine qb4b ?_ ?_
   ·have:=pnl.map (fun i=>ss.getD i "")
    rw [← hl,rgm] at this;exact this
   ·rw [pairwise_iff_getElem]
    intro i j hi hj hij;rw [length_map] at hi hj;rw [getElem_map,getElem_map];have:=so i j (le_of_lt hij) 'o';unfold ltX g at this;rw [decide_eq_false_iff_not,not_lt] at this;have e1:p.getD i 0=p.toList[i]:=by rw [getD_eq_getD_getElem?,← getElem?_toList,getElem?_eq_getElem hi];rfl
    have e2:p.getD j 0=p.toList[j]:=by rw [getD_eq_getD_getElem?,← getElem?_toList,getElem?_eq_getElem hj];rfl
    rw [e1,e2] at this;exact this
  refine wpAny_bind (seqEpoch_at ho6 rfl (wpAny_bind (listUpdate_at ho6 rfl ?_ (zero_le _) (by
   show(List.toArray _).size <= _;rw [size_toArray,length_map,psz,sizeLine_eq];omega))))
  rw [hf];simp only [bne_self_eq_false,false_eq_true,if_false];exact wpAny_pure (h _ pnl hsrt)
end
end Sx
namespace L2
open PySem PySem.Spec PyProof.Rows
noncomputable def layT(H:Hp)(f:Addr->Option (List V)):Hp:=fun b=>match f b with
 | some xs=>some (.tup xs)
 | none=>H b
section
variable{X:Cx}{pins:List 'g'}{σ:St}{H:Hp}{s:Shared}{h':Heap}{f:Addr->Option (List V)}
def qc1u{b:Addr}(e:f b=none):layT H f b=H b:=by unfold layT;rw [e]
def layT_s{b:Addr}{xs:List V}(e:f b=some xs):layT H f b=some (.tup xs):=by unfold layT;rw [e]
def Inv.laidT{t':Nat}(I:Inv X pins σ H s)(k:∀ b u,s.heap.get? b=some u->h'.get? b=some u)
  (new:∀ a xs,f a=some xs->s.heap.objs.size <= a/\xs.length <= sizeLine/\∃ its:List Value,Vals xs its/\qa4k h' a its.toArray):Inv X pins σ (layT H f) { s with heap:=h',toks:=t' }/\Same H (layT H f):=by
 have hn:∀ b o,H b=some o->f b=none:=fun b o e=>by
  cases q:f b with
  | none=>rfl
  | some xs=>have:=I.hok.fresh (new b xs q).1;rw [this] at e;cases e
 have sm:Same H (layT H f):=fun b o e=>by rw [qc1u (hn b o e)];exact e
 refine⟨I.un ⟨fun b u q _ _ _=>k b u q,fun b u q _ _ _=>⟨u.slots,k b u q⟩,fun b u q n _=>?_,fun b u q _=>⟨u,k b u q⟩,fun b xs q=>sm _ _ q,fun b o u q=>sm _ _ q,fun b ps q=>⟨#[],by rw [sm _ _ q];simp⟩⟩ fun b u e=>?_,sm⟩
 ·cases q2:f b with
  | none=>rw [qc1u q2];exact n
  | some xs=>exact absurd (lt_of_lt_of_le (lt_size q) (new b xs q2).1) (lt_irrefl _)
 ·cases q2:f b with
  | none =>
   rw [qc1u q2] at e;exact(I.hok b u e).stay (fun c v _ q=>k c v q) (fun c q=>sm _ _ q) fun c xs q=>sm _ _ q
  | some xs =>
   rw [layT_s q2] at e;cases e;obtain⟨_,h1,its,h2,h3⟩:=new b xs q2;exact⟨h1,its,h2,h3⟩
end
def qc1v{β:Type}:∀ {as:List Addr} {xs:List β} {i:Nat} {a:Addr} {x:β},as.Pairwise (· < ·)->as[i]? = some a->xs[i]? = some x->(as.zip xs).lookup a=some x
 | [],_,i,_,_,_,h,_=>by simp at h
 | a0 :: as,[],i,_,_,_,_,h=>by simp at h
 | a0 :: as,x0 :: xs,0,a,x,_,h1,h2=>by
  cases h1
  cases h2
  rw [List.zip_cons_cons,lookup_cons,beq_self_eq_true]
 | a0 :: as,x0 :: xs,i + 1,a,x,hp,h1,h2=>by
  have h1':as[i]? = some a:=by simpa using h1
  have h2':xs[i]? = some x:=by simpa using h2
  have hlt:a0 < a:=(pairwise_cons.mp hp).1 a (mem_of_getElem? h1');have hne:(a == a0)=false:=beq_eq_false_iff_ne.mpr (ne_of_gt hlt);rw [List.zip_cons_cons,lookup_cons,hne];exact qc1v (pairwise_cons.mp hp).2 h1' h2'
def qc1w{β:Type}:∀ {as:List Addr} {xs:List β} {a:Addr} {x:β},(as.zip xs).lookup a=some x->∃ i:Nat,as[i]? = some a/\xs[i]? = some x
 | [],_,_,_,h=>by simp at h
 | a0 :: as,[],_,_,h=>by simp at h
 | a0 :: as,x0 :: xs,a,x,h=>by
  rw [List.zip_cons_cons,lookup_cons] at h;cases q:(a == a0) with
  | true =>
   rw [q] at h;cases h;have:a=a0:=by simpa using q
   subst this;exact⟨0,rfl,rfl⟩
  | false =>
   rw [q] at h;obtain⟨i,h1,h2⟩:=qc1w h;exact⟨i + 1,by simpa using h1,by simpa using h2⟩
noncomputable def qc1x:List V->Hp->VK->Prop:=fun xs H Q=>∃ d,∃ ps:List (Str × V),xs=[.ref d]/\H d=some (.dK (ps.map kS))/\ps.length < 64/\(ps.map (·.1)).Nodup /\
 ∀ (H2:Hp) (as:List Addr) (is:List Nat) (p:Addr),Same H H2->as.length=ps.length->(∀ (i:Nat) q,ps[i]? = some q->∃ a,as[i]? = some a/\H2 a=some (.tup [.str q.1,q.2]))->is.Perm (List.range ps.length)->is.map (fun i=>(ps.map (·.1)).getD i ("" : Str))=Sx.srtS (ps.map (·.1))->H2 p=none ->
  Q (.ref p) (upd H2 p (.lst (is.map fun i=>V.ref (as.getD i 0))))
def KV.at{κ:Type}:∀ {ps:List (κ × V)} {vs:List (κ × Value)} {i:Nat} {q:κ × V},KV ps vs->ps[i]? = some q->∃ u,vs[i]? = some u/\q.1=u.1/\RelV q.2 u.2
 | _,_,_,_,.nil,e=>by simp at e
 | _,_,0,_,.cons r _,e=>by cases e;exact⟨_,rfl,r.1,r.2⟩
 | _,_,i + 1,_,.cons _ r,e=>by
  obtain⟨u,h1,h2⟩:=KV.at r (i:=i) (by simpa using e);exact⟨u,by simpa using h1,h2⟩
def qd5a{X:Cx}{o:Expr}{td:TE}{p1 apos cpos pos:Pos}(hc:X.calm=true) (hg:Gl X "sorted") (hm:X.mg "sorted" = none) (ho:PE X o td)
  (hbase:attributeBase o "items" X.env (eval o X.env)=eval o X.env:=by rfl) (hline:(apos.endLine == cpos.line)=true:=by rfl)
  (he:starEach [.Call (.Attribute o "items" apos) [] [] cpos] X.env=(false,eval (.Call (.Attribute o "items" apos) [] [] cpos) X.env) :: starEach [] X.env:=by rfl) (hpl:(backTo pos (starEach [] X.env)).any (·.1)=false:=by rfl) :
  PE X (.Call (.Name "sorted" p1) [.Call (.Attribute o "items" apos) [] [] cpos] [] pos) (tCB qc1x (qa3f td tNil)):=by
 intro pins s σ H Q I h;refine wpAny_Call_Name_kw (qa4r I hg hm qa2q ?_ 'd' 'd');refine PyProof.Rows.callWith_builtin1 ?_ he hpl;rw [he];show wpAny _ _ (spliced ((false,eval (.Call (.Attribute o "items" apos) [] [] cpos) X.env) :: backTo pos (starEach [] X.env))) _ _ s;refine spliced_cons (wpAny_Call_method0_late hbase hline (thn (ho pins s σ H _ I h) fun v s1 hq9=>?_));obtain⟨x,H1,I1,r1,q1⟩:=hq9;obtain⟨d,ps,ex,hd,hl,hnd,q⟩:=id (show qc1x [x] H1 Q from q1);have ex:x=.ref d:=by cases ex;rfl
 subst ex;cases r1;obtain⟨h1,h2⟩:=qc0c (T:="dict") I1 (show RelV (.ref d) (.ref d) from rfl) (.inr (.inr (.inl ⟨rfl,.inl ⟨_,hd⟩⟩)));obtain⟨z,hs,vs,rel,dd⟩:=dk_of I1.hok hd;refine⟨"dict","dict.items",PySem.F.plainAttrs_dict,PySem.F.slot_dict_items,PySem.F.type_dict_items,h1,h2,Calls.callWith_builtin rfl (PySem.evalArgs_none ?_)⟩;refine call_meetsIn PySem.F.slot_dict_items dd.typeIs PySem.F.entry_dict_items (PySem.F.args_dict_items_1 _) (meets_dict_items (qa1b X.prog X.w) d hs) ⟨⟨vs,dd⟩,?_⟩;obtain⟨ep,hat⟩:=dd.dictAt;have I2:Inv X pins σ H1 { s1 with heap:=s1.heap.push { cls:=.type "dict_items",data:=.fields #[.ref d] } }:=I1.kept (t':=s1.toks) fun b o e=>get?_push_of_some _ e;refine spliced_nil ?_;have hvl:vs.length=ps.length:=by rw [← rel.length,length_map]
 refine call_function_entry kind_sorted plain_sorted entry_sorted (args_sorted1 _) ?_;unfold Builtin.«sorted»;refine wpAny_bind (m:=checkCount "sorted" 1 1 _) (wpAny_pure (wpAny_bind (PySem.W.kdx_collect (knd:=qa1b X.prog X.w) (kvs:=vs) (ep:=ep) (I.ok.hd hc) ⟨_,get?_push_size _ rfl,rfl,rfl⟩ (hat.push _) (by rw [← rel.length];exact z) fun h' tk as kp hla hG=>?_)));have hal:as.length=ps.length:=hla.trans hvl;refine wpAny_bind (wpAny_newList ?_ (by rw [length_map,hal,sizeLine_eq];omega));have oL:(h'.push (seqObj "list" (as.map Value.ref).toArray 0)).get? h'.objs.size=some (seqObj "list" (as.map Value.ref).toArray 0):=get?_push_size _ rfl;show wpAny _ _ _ _ _ { s1 with heap:=h'.push (seqObj "list" (as.map Value.ref).toArray 0),toks:=tk };have pr:∀ (i:Nat) q,ps[i]? = some q->∃ a tk u,as[i]? = some a/\RelV q.2 u/\h'.get? a=some { cls:=.type "tuple",data:=.seq #[Value.str q.1 tk,u] }:=fun i q hq=>by
  obtain⟨w,e1,e2,e3⟩:=KV.at rel (i:=i) (q:=kS q) (by rw [getElem?_map,hq];rfl);have hi:i < as.length:=by rw [hal];exact(List.getElem?_eq_some_iff.mp hq).1
  obtain⟨key,k,x,g1,g2,g3⟩:=hG.pairs i as[i] (getElem?_eq_getElem hi);rw [e1] at g1;cases g1;have e2:Sum.inr q.1=k:=e2;subst e2;rcases qa2b (show qa6w (Sum.inr q.1) key=true from g2) with⟨n,tk,e4,e5⟩ | ⟨y,tk,e4,e5⟩
  ·cases e4
  ·cases e4
   subst e5;exact⟨as[i],tk,x,getElem?_eq_getElem hi,e3,g3⟩
 have gr:∀ i,i < as.length->(as.map Value.ref).getD i Value.none=.ref (as.getD i 0):=fun i hi=>by
  rw [getD_eq_getElem?_getD,getD_eq_getElem?_getD,getElem?_map,getElem?_eq_getElem hi];rfl
 refine wpAny_bind (wpAny_holding (wpAny_call_entry slot_list_sort ⟨_,oL,rfl⟩ entry_list_sort (Sx.qd4z (ss:=ps.map (·.1)) oL 'q' (by rw [length_map,length_map,hal]) hnd (fun i hi=>?_) fun is hp he=>⟨_,rfl,?_⟩) (args_list_sort _)))
 ·rw [length_map] at hi
  have hi2:i < ps.length:=by omega
  obtain⟨a,tk2,u,e1,e2,e3⟩:=pr i ps[i] (getElem?_eq_getElem hi2);rw [gr i hi,getD_eq_getElem?_getD,e1];refine⟨a,{ cls:=.type "tuple",data:=.seq #[Value.str ps[i].1 tk2,u] },#[Value.str ps[i].1 tk2,u],0,tk2,u,rfl,?_,rfl,rfl,?_⟩
  ·have hlt:=lt_size e3
   refine get?_push_of_some _ (get?_push_of_some _ ?_);rw [Heap.get?_update_ne _ _ _ _ (ne_of_lt hlt)];exact get?_push_of_some _ e3
  ·rw [getD_eq_getElem?_getD,getElem?_map,getElem?_eq_getElem hi2];rfl
 refine wpAny_pure ⟨_,rfl,?_⟩;have hin:∀ i ∈ is,i < as.length:=fun i hi=>by have:=mem_range.mp (hp.mem_iff.mp hi);rw [length_map] at this;exact this
 have hout:(is.map fun i=>(as.map Value.ref).getD i Value.none)=is.map fun i=>Value.ref (as.getD i 0):=map_congr_left fun i hi=>gr i (hin i hi);rw [hout];obtain⟨e,hoe⟩:=sortedHeap_at (out:=(is.map fun i=>Value.ref (as.getD i 0)).toArray) oL;obtain⟨I3,sm⟩:=Inv.laidT (h':=h') (t':=tk) (f:=fun a=>(as.zip (ps.map fun q=>[V.str q.1,q.2])).lookup a) I2 kp fun a xs ha=>by
  obtain⟨i,a1,a2⟩:=qc1w ha;rw [getElem?_map] at a2;obtain⟨q,b1,b2⟩:=map_eq_some_iff.mp a2;subst b2;obtain⟨a',tk2,u,e1,e2,e3⟩:=pr i q b1;rw [a1] at e1;cases e1;exact⟨le_of_lt (hG.above a (mem_of_getElem? a1)),by show 2 <= sizeLine;decide,[Value.str q.1 tk2,u],.cons ⟨_,rfl⟩ (.cons e2 .nil),_,e3,⟨rfl,rfl⟩,0,rfl⟩
 have vv:∀ is:List Nat,Vals (is.map fun i=>V.ref (as.getD i 0)) (is.map fun i=>Value.ref (as.getD i 0)):=fun is=>by
  induction is with
  | nil=>exact .nil
  | cons i r ih=>exact .cons rfl ih
 have hle:(is.map fun i=>V.ref (as.getD i 0)).length <= sizeLine:=by
  rw [length_map,hp.length_eq,length_range,length_map,sizeLine_eq];omega
 refine⟨.ref h'.objs.size,_,I3.laid (a:=h'.objs.size) (o:=.lst (is.map fun i=>V.ref (as.getD i 0))) (t':=tk) (fun b o q=>?_) 'e' ⟨hle,_,e,vv is,hoe⟩,rfl,q _ as is _ sm hal (fun i q hq=>?_) (by rw [length_map,hal] at hp;exact hp) he (I3.hok.fresh 'e')⟩
 ·have hb:b < h'.objs.size:=lt_size q
  rw [sortedHeap_old (ne_of_lt hb) (by rw [size_push'];exact lt_succ_of_lt hb)];exact get?_push_of_some _ q
 ·obtain⟨a,tk2,u,e1,e2,e3⟩:=pr i q hq
  exact⟨a,e1,layT_s (qc1v hG.rise e1 (by rw [getElem?_map,hq];rfl))⟩
noncomputable def prsK:List 'l'->Option (List 'j')
 | []=>some []
 | (.str x,d) :: r=>(prsK r).map ((x,d) :: ·)
 | _ :: _=>none
noncomputable def qa4a(ps:List 'j')(x:Str):PyData:=((ps.find? fun q=>decide (q.1=x)).map (·.2)).getD .none
noncomputable def srtP(ps:List 'j'):List 'j':=(Sx.srtS (ps.map (·.1))).map fun x=>(x,qa4a ps x)
noncomputable def qb6y:FC:=fun ds=>match ds with
 | [.dict kvs]=>(prsK kvs).bind fun ps=>@ite _ (ps.length < 64/\(ps.map (·.1)).Nodup) (Classical.propDecidable _) (some (.list ((srtP ps).map qa2h))) none
 | _=>none
def qc1y:∀ {ps:List 'j'} {i:Nat} {p:Str × PyData},(ps.map (·.1)).Nodup->ps[i]? = some p->qa4a ps p.1=p.2
 | [],i,p,_,h=>by simp at h
 | q :: r,0,p,_,h=>by
  cases h
  unfold qa4a;rw [find?_cons_of_pos 'h'];rfl
 | q :: r,i + 1,p,hn,h=>by
  have h':r[i]? = some p:=by simpa using h
  rw [map_cons,nodup_cons] at hn;have hne:q.1 ≠ p.1:=fun e=>hn.1 (by rw [e];exact List.mem_map_of_mem (mem_of_getElem? h'));have e:qa4a (q :: r) p.1=qa4a r p.1:=by
   unfold qa4a;rw [find?_cons_of_neg (by simpa using hne)]
  rw [e];exact qc1y hn.2 h'
section
variable{K:W.Frag}{H:Hp}{S:Addr->Prop}
def qa0f.prs:∀ {kvs:List 'l'} {κ:List (Key × V)} {ps:List 'j'},prsK kvs=some ps->qa0f K H S kvs κ->∃ qs:List (Str × V),κ=qs.map kS/\qs.map (·.1)=ps.map (·.1)/\∀ (i:Nat) q p,qs[i]? = some q->ps[i]? = some p->AtD K H S p.2 q.2
 | [],κ,ps,e,h=>by
  cases e
  rw [h.unnil];exact⟨[],rfl,rfl,fun i q p h1 _=>by simp at h1⟩
 | (.str x,d) :: r,κ,ps,e,h=>by
  obtain⟨k,v,t,rfl,e1,h1,h2⟩:=h.uncons;obtain⟨ps',e2,rfl⟩:=map_eq_some_iff.mp (show(prsK r).map ((x,d) :: ·)=some ps from e);have e3:k=Sum.inr x:=by
   cases k with
   | inl n=>cases e1
   | inr y=>cases e1;rfl
  subst e3;obtain⟨qs,rfl,g1,g2⟩:=qa0f.prs e2 h2;refine⟨(x,v) :: qs,rfl,by rw [map_cons,map_cons,g1],fun i q p a1 a2=>?_⟩;cases i with
  | zero=>cases a1;cases a2;exact h1
  | succ i=>exact g2 i q p (by simpa using a1) (by simpa using a2)
end
def qd5b{K:W.Frag}:AdC K qc1x qb6y:=by
 intro S H vs ds z Q f h e k;unfold qb6y at e;split at e
 ·rename_i kvs
  obtain⟨ps,q1,e2⟩:=bind_eq_some_iff.mp e;split at e2
  ·rename_i hc
   cases e2
   obtain⟨v,rfl,h1⟩:=h.one;obtain⟨a,κ,rfl,_,ha,hk⟩:=h1.dict;obtain⟨qs,rfl,g1,g2⟩:=hk.prs q1;have hl:qs.length=ps.length:=by rw [← length_map (f:=(·.1)),g1,length_map]
   refine⟨a,qs,rfl,ha,by rw [hl];exact hc.1,by rw [g1];exact hc.2,fun H2 as is p sm hal hx hp he hn=>?_⟩;have sm2:Same H (upd H2 p (.lst (is.map fun i=>V.ref (as.getD i 0)))):=sm.trans (qa0x hn _);refine k _ _ sm2 (qa2o (f p (sm.free hn)) qa0k ?_);rw [g1] at he;unfold srtP;rw [← he];have hin:∀ i ∈ is,i < qs.length:=fun i hi=>mem_range.mp (hp.mem_iff.mp hi);clear hp he
   revert hin
   generalize hH:upd H2 p (.lst (is.map fun i=>V.ref (as.getD i 0)))=H3 at sm2;have s23:Same H2 H3:=by rw [← hH];exact qa0x hn _
   clear hH;induction is with
   | nil=>intro _;exact .nil
   | cons i r ih =>
    intro hin;have hi:=hin i mem_cons_self;refine .cons ?_ (ih fun j hj=>hin j (mem_cons_of_mem _ hj));obtain⟨b,e1,e2⟩:=hx i qs[i] (getElem?_eq_getElem hi);have hi2:i < ps.length:=by omega
    have en:(ps.map (·.1)).getD i ("" : Str)=ps[i].1:=by rw [getD_eq_getElem?_getD,getElem?_map,getElem?_eq_getElem hi2];rfl
    have en2:qs[i].1=ps[i].1:=by
     have:(qs.map (·.1))[i]? = (ps.map (·.1))[i]?:=by rw [g1]
     rw [getElem?_map,getElem?_map,getElem?_eq_getElem hi,getElem?_eq_getElem hi2] at this;exact Option.some.inj this
    show AtD K H3 S (qa2h ((ps.map (·.1)).getD i ("" : Str),qa4a ps ((ps.map (·.1)).getD i ("" : Str)))) (V.ref (as.getD i 0));rw [show as.getD i 0=b by rw [getD_eq_getElem?_getD,e1];rfl];rw [en,qc1y hc.2 (getElem?_eq_getElem hi2)];refine qa4c (xs:=[.str qs[i].1,qs[i].2]) (SqT.of (s23 _ _ e2)) (.cons ?_ (.cons (AtD.mono sm2.keep _ _ (g2 i _ _ (getElem?_eq_getElem hi) (getElem?_eq_getElem hi2))) .nil));rw [en2];exact qa4x _
  ·cases e2
 ·cases e
def qc1z{X:Cx}{o:Expr}{dd:TDE}{p1 apos cpos pos:Pos}(hc:X.calm=true) (hg:Gl X "sorted") (hm:X.mg "sorted" = none) (ho:DE X o dd)
  (hbase:attributeBase o "items" X.env (eval o X.env)=eval o X.env:=by rfl) (hline:(apos.endLine == cpos.line)=true:=by rfl)
  (he:starEach [.Call (.Attribute o "items" apos) [] [] cpos] X.env=(false,eval (.Call (.Attribute o "items" apos) [] [] cpos) X.env) :: starEach [] X.env:=by rfl) (hpl:(backTo pos (starEach [] X.env)).any (·.1)=false:=by rfl) :
  DE X (.Call (.Name "sorted" p1) [.Call (.Attribute o "items" apos) [] [] cpos] [] pos) (dCB qb6y (dCons dd dNil)):=by
 obtain⟨t,p,a⟩:=ho;exact⟨_,qd5a hc hg hm p hbase hline he hpl,ad_cb qd5b (qc5t a ad_nil)⟩
end L2
end
namespace L2
open PySem PySem.Spec PyProof.Rows
section
section
variable{K:W.Frag}
def dCopyP(i:Nat)(da:TDA)(dp:TDP):TDS:=fun D ρ=>da ρ fun xs ρ1=>need (qa1x ρ1 xs) fun ds=>i < ρ1.length/\∃ ν:List (Key × PyData),ds=[.dict (ν.map kD)]/\dp D (ρ1.set i none) ν
end
theorem qd5c{i:Nat}{da:TDA}{dp:TDP}{D:DEnds}{ρ:Rho}:dCopyP i da dp D ρ=da ρ fun xs ρ1=>need (qa1x ρ1 xs) fun ds=>i < ρ1.length/\∃ ν:List (Key × PyData),ds=[.dict (ν.map kD)]/\dp D (ρ1.set i none) ν:=rfl
end
section
mutual
noncomputable def ndD:PyData->Bool
 | .dict _=>false
 | .list ds=>ndA ds
 | .tuple ds=>ndA ds
 | _=>true
noncomputable def ndA:List PyData->Bool
 | []=>true
 | d :: r=>ndD d && ndA r
end
section
variable{K:W.Frag}{H H':Hp}{S S':Addr->Prop}{ok:Bool}
mutual
def AtD.carry(hl:∀ a xs,S a->H a=some (.lst xs)->S' a/\H' a=some (.lst xs))(hd:ok=true->∀ a κ,S a->H a=some (.dK κ)->S' a/\H' a=some (.dK κ))(ht:∀ a xs,SqT K H a xs->SqT K H' a xs) :
  ∀ (d:PyData) (v:V),ok=true ∨ ndD d=true->AtD K H S d v->AtD K H' S' d v
 | .none,_,_,h=>by unfold AtD at h ⊢;exact h
 | .bool _,_,_,h=>by unfold AtD at h ⊢;exact h
 | .int _,_,_,h=>by unfold AtD at h ⊢;exact h
 | .str _,_,_,h=>by unfold AtD at h ⊢;exact h
 | .list ds,v,n,h=>by
  unfold AtD at h ⊢;obtain⟨a,xs,e1,s,q,r⟩:=h;obtain⟨s',q'⟩:=hl a xs s q;exact⟨a,xs,e1,s',q',qa0c.carry hl hd ht ds xs (n.imp id fun z=>by unfold ndD at z;exact z) r⟩
 | .tuple ds,v,n,h=>by
  unfold AtD at h ⊢;obtain⟨a,xs,e1,q,r⟩:=h;exact⟨a,xs,e1,ht a xs q,qa0c.carry hl hd ht ds xs (n.imp id fun z=>by unfold ndD at z;exact z) r⟩
 | .dict kvs,v,n,h=>by
  unfold AtD at h ⊢;obtain⟨a,ν,e1,s,q,e2⟩:=h;have o:ok=true:=n.elim id fun z=>by unfold ndD at z;cases z
  obtain⟨s',q'⟩:=hd o a ν s q;exact⟨a,ν,e1,s',q',qa0f.carry o hl hd ht kvs ν e2⟩
def qa0c.carry(hl:∀ a xs,S a->H a=some (.lst xs)->S' a/\H' a=some (.lst xs))(hd:ok=true->∀ a κ,S a->H a=some (.dK κ)->S' a/\H' a=some (.dK κ))(ht:∀ a xs,SqT K H a xs->SqT K H' a xs) :
  ∀ (ds:List PyData) (vs:List V),ok=true ∨ ndA ds=true->qa0c K H S ds vs->qa0c K H' S' ds vs
 | [],_,_,h=>by unfold qa0c at h ⊢;exact h
 | d :: ds,vs,n,h=>by
  unfold qa0c at h ⊢;obtain⟨v,r,e1,h1,h2⟩:=h;have n1:ok=true ∨ ndD d=true:=n.imp id fun z=>by unfold ndA at z;rw [and_eq_true] at z;exact z.1
  have n2:ok=true ∨ ndA ds=true:=n.imp id fun z=>by unfold ndA at z;rw [and_eq_true] at z;exact z.2
  exact⟨v,r,e1,AtD.carry hl hd ht d v n1 h1,qa0c.carry hl hd ht ds r n2 h2⟩
def qa0f.carry(o:ok=true)(hl:∀ a xs,S a->H a=some (.lst xs)->S' a/\H' a=some (.lst xs))(hd:ok=true->∀ a κ,S a->H a=some (.dK κ)->S' a/\H' a=some (.dK κ))(ht:∀ a xs,SqT K H a xs->SqT K H' a xs) :
  ∀ (kvs:List 'l') (κ:List (Key × V)),qa0f K H S kvs κ->qa0f K H' S' kvs κ
 | [],_,h=>by unfold qa0f at h ⊢;exact h
 | (x,d) :: r,κ,h=>by
  unfold qa0f at h ⊢;obtain⟨k,v,t,e1,e2,h1,h2⟩:=h;exact⟨k,v,t,e1,e2,AtD.carry hl hd ht d v (.inl o) h1,qa0f.carry o hl hd ht r t h2⟩
end
end
noncomputable def Rc.rebA(c:Rc)(O:Own)(H:Hp):Rc:={ c with H0:=H,M:=fun a=>∃ j,O j=some a,A:=fun a=>(∃ j,O j=some a) ∨ H a=none }
noncomputable def ndL:Option L->Bool
 | some (.d x)=>ndD x
 | some (.own xs)=>ndA xs
 | some (.bor xs)=>ndA xs
 | _=>true
section
variable{K:W.Frag}{c:Rc}{O O1:Own}{ρ ρ1:Rho}{σ σ1:St}{H H1 H2:Hp}{p:Addr}{κ:List (Key × V)}{ν:List (Key × PyData)}{i:Nat}
def PinK.lend(P:PinK K c p κ i O ρ σ H)(hk:qa0f K H (live (c.reb O p H) O) (ν.map kD) κ) :
  Rel K (c.rebA O H) (qa3g O i) (ρ.set i (some (.d (.dict (ν.map kD))))) σ H/\Pers K (live (c.reb O p H) O) H (live (c.rebA O H) (qa3g O i)) H:=by
 have R1:Rel K ((c.rebA O H).add p) O ρ σ H:=P.rel.to (fun _=>rfl) (fun _ _ _ z=>z) rfl rfl (.of (Keep.refl _ _) fun a z=>z) (fun _ _ _ _ q=>q) (fun j q e _=>.inl ⟨j,e⟩) (fun q z=>z) P.rel.frs (fun b o _ z=>z) (fun b z=>z) P.rel.ml P.rel.pin (fun _=>rfl) P.rel.sc;obtain⟨R2,P2⟩:=R1.unadd;have hi:i < ρ.length:=(List.getElem?_eq_some_iff.mp P.nul).1;have P12:Pers K (live (c.reb O p H) O) H (live (c.rebA O H) O) H:=Pers.trans (.of (Keep.refl _ _) fun a z=>z) P2;obtain⟨R3,P3⟩:=R2.setD (i:=i) (x:=.dict (ν.map kD)) (v:=.ref p) hi (qa7n ⟨P.frs p P.fr0,P.np,P.notO⟩ P.at_ (P12.kvs hk));have e:σ.set i (some (.ref p))=σ:=by
  refine List.ext_getElem? fun j=>?_;by_cases hj:j=i
  ·subst hj
   rw [getElem?_set_self (List.getElem?_eq_some_iff.mp P.slot).1,P.slot]
  ·exact getElem?_set_ne (Ne.symm hj)
 rw [e] at R3;exact⟨R3,P12.trans P3⟩
def PinK.stayA(P:PinK K c p κ i O ρ σ H)(R:Rel K (c.rebA O H) O1 ρ1 σ1 H1):H1 p=some (.dK κ):=R.same p _ (fun hq8=>by obtain⟨j,e⟩:=hq8;exact P.notO j e) P.at_
def PinK.back(P:PinK K c p κ i O ρ σ H)(oa:∀ q,c.H0 q=none->c.A q)(R:Rel K (c.rebA O H) O1 ρ1 σ1 H1)(hi:i < ρ1.length)(hs:σ1[i]? = some (some (.ref p)))(nd:∀ j l,j ≠ i->ρ1[j]? = some l->ndL l=true) :
  PinK K c p κ i O1 (ρ1.set i none) σ1 H1/\Pers K (live (c.reb O p H) O) H (live (c.reb O1 p H1) O1) H1:=by
 have h1:=P.stayA R;have hne:∀ {q:Addr} {vs:List V},H1 q=some (.lst vs)->q ≠ p:=fun e z=>by rw [z,h1] at e;cases e
 have mono:∀ d v,ndD d=true->AtD K H1 (live (c.rebA O H) O1) d v->AtD K H1 (live (c.reb O1 p H1) O1) d v:=fun d v n h =>
  AtD.carry (ok:=false) (fun a xs s q=>⟨⟨s.1,fun z=>z.elim s.2.1 (hne q),s.2.2⟩,q⟩) 'n' (fun a xs q=>q) d v (.inr n) h
 have monoA:∀ ds vs,ndA ds=true->qa0c K H1 (live (c.rebA O H) O1) ds vs->qa0c K H1 (live (c.reb O1 p H1) O1) ds vs:=fun d v n h =>
  qa0c.carry (ok:=false) (fun a xs s q=>⟨⟨s.1,fun z=>z.elim s.2.1 (hne q),s.2.2⟩,q⟩) 'n' (fun a xs q=>q) d v (.inr n) h
 have nei:∀ {j:Nat} {l:L},(ρ1.set i none)[j]? = some (some l)->j ≠ i/\ρ1[j]? = some (some l):=fun{j l} e=>by
  by_cases hj:j=i
  ·subst hj
   rw [getElem?_set_self hi] at e;cases e
  ·rw [getElem?_set_ne (Ne.symm hj)] at e
   exact⟨hj,e⟩
 have nown:∀ {b:Addr} {o:HO},H b=some o->(∀ j,O j ≠ some b)->H1 b=some o/\∀ j,O1 j ≠ some b:=fun{b o} e n=>by
  refine⟨R.same b o (fun hq8=>by obtain⟨j,z⟩:=hq8;exact n j z) e,fun j z=>?_⟩;rcases (R.has' j b z).1 with⟨j',z'⟩ | z'
  ·exact n j' z'
  ·rw [e] at z';cases z'
 have nt:∀ {b:Addr} {o:HO},H b=some o->(∀ vs,o ≠ .lst vs)->∀ j,O j ≠ some b:=fun{b o} e n j z=>by
  obtain⟨_,vs,q⟩:=P.rel.has' j b z;rw [e] at q;exact n vs (Option.some.inj q)
 have kp:Keep (live (c.reb O p H) O) H H1:=⟨fun b xs e=>(nown e (nt e fun _ z=>nomatch z)).1,fun b o u e=>(nown e (nt e fun _ z=>nomatch z)).1,fun b o s e=>(nown e s.2.2).1⟩;refine⟨⟨⟨fun j x e=>?_,fun j xs e=>?_,fun j xs e=>?_,fun j k e=>?_,fun j e=>?_,R.inj,fun j q e=>⟨⟨j,e⟩,(R.has' j q e).2⟩,fun q z=>.inl z,fun q z=>R.frs q (R.free0 z),fun b o _ z=>z,fun b z=>z,fun q hq8=>by obtain⟨j,e⟩:=hq8;exact(R.has' j q e).2,fun q z=>?_,fun j q e l e1 e2=>?_,R.sc,by rw [length_set];exact R.len⟩,
  h1,hs,getElem?_set_self hi,fun j q e=>?_,fun b o nM e=>?_,fun b z=>R.kept b (P.bK b z),fun q z=>?_,P.am,P.frs,P.fr0,P.np⟩,fun d v h=>?_⟩
 ·obtain⟨hj,e⟩:=nei e
  obtain⟨v,a1,a2⟩:=R.dat j x e;exact⟨v,a1,mono _ _ (nd j _ hj e) a2⟩
 ·obtain⟨hj,e⟩:=nei e
  obtain⟨q,vs,a1,a2,a3,a4,a5⟩:=R.own j xs e;exact⟨q,vs,a1,⟨a2.1,a2.2.1,fun z=>z.elim a2.2.2 (hne a4)⟩,a3,a4,monoA _ _ (nd j _ hj e) a5⟩
 ·obtain⟨hj,e⟩:=nei e
  obtain⟨q,vs,a1,a3,a4,a5⟩:=R.bor j xs e;exact⟨q,vs,a1,a3,a4,monoA _ _ (nd j _ hj e) a5⟩
 ·exact R.tap j k (nei e).2
 ·exact R.scr j (nei e).2
 ·rcases z with(z | z) | z
  ·exact R.pin q (.inl z)
  ·rw [z,h1];exact fun w=>nomatch w
  ·exact R.pin q (.inr z)
 ·exact R.lnt j q e l (nei e1).2 e2
 ·rcases (R.has' j q e).1 with⟨j',z'⟩ | z'
  ·exact P.bA j' q z'
  ·refine oa q ?_
   cases w:c.H0 q with
   | none=>rfl
   | some o=>exact absurd z' (P.bK q (by rw [w];exact fun w=>nomatch w))
 ·refine R.same b o (fun hq8=>?_) (P.bS b o nM e)
  obtain⟨j,e'⟩:=hq8;rcases P.am b (P.bA j b e') with z | z
  ·exact nM z
  ·rw [e] at z;cases z
 ·by_cases hj:∃ j,O j=some q
  ·exact R.ml q hj
  ·obtain⟨vs,e⟩:=P.bM q z
   exact⟨vs,R.same q _ hj e⟩
 ·refine AtD.carry (ok:=true) (fun a xs s q=>?_) (fun _ a xs s q=>?_) (fun a xs q=>kp.seqT q) d v (.inl rfl) h
  ·obtain⟨b1,b2⟩:=nown q s.2.2
   exact⟨⟨s.1,s.2.1,b2⟩,b1⟩
  ·obtain⟨b1,b2⟩:=nown q s.2.2
   exact⟨⟨s.1,s.2.1,b2⟩,b1⟩
end
structure EndsI(K:W.Frag)(c:Rc)(i:Nat)(s0:Option (Option V))(S0:Addr->Prop)(H0:Hp)(D:Ends)(Dd:DEnds):Prop where
 nx:∀ O ρ σ H,Rel K c O ρ σ H->Pers K S0 H0 (live c O) H->σ[i]? = s0->Dd.nx ρ->D.nx σ H
 rt:∀ r O ρ σ H v,RetOk K c O ρ σ H r v->Dd.rt r ρ->D.rt v H
 bk:∀ O ρ σ H,Rel K c O ρ σ H->Pers K S0 H0 (live c O) H->σ[i]? = s0->Dd.bk ρ->D.bk σ H
 ct:∀ O ρ σ H,Rel K c O ρ σ H->Pers K S0 H0 (live c O) H->σ[i]? = s0->Dd.ct ρ->D.ct σ H
 oa:∀ p,c.H0 p=none->c.A p
def EndsI.later{K:W.Frag}{c:Rc}{i:Nat}{s0:Option (Option V)}{S0 S1:Addr->Prop}{H0 H1:Hp}{D:Ends}{Dd:DEnds}(E:EndsI K c i s0 S0 H0 D Dd)(P:Pers K S0 H0 S1 H1):EndsI K c i s0 S1 H1 D Dd:=
 ⟨fun O ρ σ H R q=>E.nx O ρ σ H R (P.trans q),E.rt,fun O ρ σ H R q=>E.bk O ρ σ H R (P.trans q),fun O ρ σ H R q=>E.ct O ρ σ H R (P.trans q),E.oa⟩
def AdSi(K:W.Frag)(i:Nat)(t:TS)(dt:TDS):Prop:=∀ (c:Rc) (O:Own) (ρ:Rho) (σ:St) (H:Hp) (D:Ends) (Dd:DEnds),Rel K c O ρ σ H->EndsI K c i (σ[i]?) (live c O) H D Dd->dt Dd ρ->t D σ H
def DSi(X:Cx)(i:Nat)(st:Stmt)(dt:TDS):Prop:=∃ t,PS X st t/\AdSi X.K i t dt
def DSsi(X:Cx)(i:Nat)(st:List Stmt)(dt:TDS):Prop:=∃ t,PSs X st t/\AdSi X.K i t dt
section
variable{K:W.Frag}{i j:Nat}
def adi_seq{t u:TS}{dt du:TDS}(h:AdSi K i t dt)(h':AdSi K i u du):AdSi K i (tSeq t u) (dSeq dt du):=fun c O ρ σ H D Dd R E q =>
 h c O ρ σ H { D with nx:=u D } { Dd with nx:=du Dd } R ⟨fun O1 ρ1 σ1 H1 R1 P1 e1 q1=>h' c O1 ρ1 σ1 H1 D Dd R1 (by rw [e1];exact E.later P1) q1,E.rt,E.bk,E.ct,E.oa⟩ q
def qd5d{t:TE}{de:TDE}(h:AdE K t de):AdSi K i (tDrop t) (dDrop de):=fun c O ρ σ H D Dd R E q =>
 h c O ρ σ H _ _ R q fun x ρ1 O1 v H1 h1 R1 P1 a1=>E.nx O1 ρ1 σ H1 R1 P1 rfl h1
def adi_set(hj:j ≠ i){t:TE}{de:TDE}(h:AdE K t de):AdSi K i (tAsg t (qa3l j)) (dSet j de):=fun c O ρ σ H D Dd R E q =>
 h c O ρ σ H _ _ R q fun x ρ1 O1 v H1 h1 R1 P1 a1=>by
  obtain⟨y,ρ2,O2,⟨hi,h2⟩,R2,P2,a2⟩:=R1.fz a1 h1;obtain⟨R3,P3⟩:=R2.setD hi a2;exact E.nx _ _ _ H1 R3 ((P1.trans P2).trans P3) (getElem?_set_ne hj) h2
def qd5e(hj:j ≠ i){t:TE}{df:TDF}(h:AdF K t df):AdSi K i (tAsg t (qa3l j)) (dSetF j df):=fun c O ρ σ H D Dd R E q =>
 h c O ρ σ H _ _ R q fun xs ρ1 O1 p vs H1 h1 R1 P1 f1 hp a1=>by
  obtain⟨hi,h2⟩:=h1;obtain⟨R3,P3⟩:=R1.setOwn hi f1.1 f1.2.1 f1.2.2.1 f1.2.2.2 (E.oa _ f1.1) hp a1;exact E.nx _ _ _ H1 R3 (P1.trans P3) (getElem?_set_ne hj) h2
def adi_for{ti:TI}{tg:TG}{tb:TS}{di:TDI}{dg:TDG}{db:TDS}(hi:AdI K ti di)(hg:AdGi K i tg dg)(hb:AdSi K i tb db):AdSi K i (tFor ti tg tb) (dFor di dg db):=fun c O ρ σ H D Dd R E q =>
 hi c O ρ σ H _ _ R q fun xs ρ1 O1 J H1 h1 R1 P1 I1=>by
  refine⟨fun a m σ' H'=>m=xs.length - a/\a <= xs.length/\∃ O' ρ',Rel K c O' ρ' σ' H'/\Pers K (live c O1) H1 (live c O') H'/\σ'[i]? = σ[i]? /\ qa3r dg db Dd (xs.drop a) ρ',⟨xs.length,by simp,zero_le _,O1,ρ1,R1,.refl,rfl,by rw [drop_zero];exact h1⟩,?_⟩;rintro a m σ2 H2 ⟨rfl,hle,O2,ρ2,R2,P2,s2,h2⟩;obtain⟨it,stop⟩:=I1 _ _ P2;by_cases hlt:a < xs.length
  ·rw [drop_eq_getElem_cons hlt] at h2
   obtain⟨go,yld⟩:=it a xs[a] (getElem?_eq_getElem hlt);have h2':dg xs[a] ρ2 fun ρ1=>db { Dd with nx:=qa3r dg db Dd (xs.drop (a + 1)),ct:=qa3r dg db Dd (xs.drop (a + 1)),bk:=Dd.nx } ρ1:=h2;refine .inr ⟨go,fun σ' H'=>∃ O' ρ',Rel K c O' ρ' σ' H'/\Pers K (live c O1) H1 (live c O') H'/\σ'[i]? = σ[i]? /\ qa3r dg db Dd (xs.drop (a + 1)) ρ',fun σ' H' hq8=>by obtain⟨O',ρ',R',P',s',q'⟩:=hq8;exact⟨xs.length - (a + 1),'o',rfl,hlt,O',ρ',R',P',s',q'⟩,fun v H3 y=>?_⟩;obtain⟨s3,a3⟩:=yld v H3 y;refine hg c O2 ρ2 σ2 H3 xs[a] v _ _ (R2.grow s3) a3 h2' fun O4 ρ4 σ4 R4 P4 e4 h4=>?_;have P5:Pers K (live c O1) H1 (live c O4) H3:=(P2.trans (.same s3)).trans P4;have s4:σ4[i]? = σ[i]?:=e4.trans s2;refine hb c O4 ρ4 σ4 H3 _ { Dd with nx:=qa3r dg db Dd (xs.drop (a + 1)),ct:=qa3r dg db Dd (xs.drop (a + 1)),bk:=Dd.nx } R4 ?_ h4;rw [s4];exact⟨fun O6 ρ6 σ6 H6 R6 P6 e6 q6=>⟨O6,ρ6,R6,P5.trans P6,e6,q6⟩,E.rt,fun O6 ρ6 σ6 H6 R6 P6 e6=>E.nx _ _ _ _ R6 ((P1.trans P5).trans P6) e6,fun O6 ρ6 σ6 H6 R6 P6 e6 q6=>⟨O6,ρ6,R6,P5.trans P6,e6,q6⟩,E.oa⟩
  ·have e:a=xs.length:=by omega
   subst e;rw [drop_eq_nil_of_le 'e'] at h2;exact .inl ⟨stop,E.nx _ _ _ _ R2 (P1.trans P2) s2 h2⟩
end
noncomputable def ndR:Nat->Rho->Bool
 | _,[]=>true
 | 0,_ :: r=>r.all ndL
 | i + 1,l :: r=>ndL l && ndR i r
def qb6z:∀ {i:Nat} {ρ:Rho},ndR i ρ=true->∀ (j:Nat) l,j ≠ i->ρ[j]? = some l->ndL l=true
 | _,[],_,j,l,_,e=>by simp at e
 | 0,a :: r,h,j,l,n,e=>by
  cases j with
  | zero=>exact absurd rfl n
  | succ j=>exact all_eq_true.mp h l (mem_of_getElem? (by simpa using e))
 | i + 1,a :: r,h,j,l,n,e=>by
  have h':(ndL a && ndR i r)=true:=h;rw [and_eq_true] at h';cases j with
  | zero=>cases e;exact h'.1
  | succ j=>exact qb6z h'.2 j l (fun z=>n (by rw [z])) (by simpa using e)
abbrev TPt:=(Rho->List (Key × PyData)->Prop)->Rho->List (Key × PyData)->Prop
def AdPt(K:W.Frag)(i:Nat)(t:TS)(dt:TPt):Prop:=∀ (u:TS) (du:TDP),AdP K i u du->AdP K i (tSeq t u) (fun D ρ ν=>dt (du D) ρ ν)
def DPt(X:Cx)(i:Nat)(st:Stmt)(dt:TPt):Prop:=∃ t,PS X st t/\AdPt X.K i t dt
def DPts(X:Cx)(i:Nat)(st:List Stmt)(dt:TPt):Prop:=∃ t,PSs X st t/\AdPt X.K i t dt
noncomputable def dLent(i:Nat)(ρ:Rho)(ν:List (Key × PyData)):Rho:=ρ.set i (some (.d (.dict (ν.map kD))))
def pStm(i:Nat)(dt:TDS):TPt:=fun N ρ ν=>dt { nx:=fun ρ'=>i < ρ'.length/\ndR i ρ'=true/\N (ρ'.set i none) ν,rt:=fun _ _=>False } (dLent i ρ ν)
def pIf(i:Nat)(dc:TDT)(da db:TPt):TPt:=fun N ρ ν=>dc (dLent i ρ ν) fun b ρ'=>i < ρ'.length/\ndR i ρ'=true/\if b=true then da N (ρ'.set i none) ν else db N (ρ'.set i none) ν
noncomputable def pSeq(da db:TPt):TPt:=fun N ρ ν=>da (fun ρ' ν'=>db N ρ' ν') ρ ν
def pPut(i:Nat)(dk dv:TDE):TPt:=fun N ρ ν=>ν.length < 1000/\dv (dLent i ρ ν) fun y ρ1=>fz ρ1 y fun dy ρ2=>dk ρ2 fun z ρ3=>i < ρ3.length/\ndR i ρ3=true/\ndD dy=true/\need (qa0q ρ3 z) fun dz=>need (qa3s dz) fun k=>N (ρ3.set i none) (putA ν k dy)
section
variable{K:W.Frag}{i:Nat}
def adp_stm{t:TS}{dt:TDS}(h:AdSi K i t dt):AdPt K i t (pStm i dt):=by
 intro u du hu c O0 H0 O ρ σ H D Dd p κ ν P hk E Q q;obtain⟨R,P1⟩:=P.lend hk;have q':dt { nx:=fun ρ'=>i < ρ'.length/\ndR i ρ'=true/\du Dd (ρ'.set i none) ν,rt:=fun _ _=>False } (dLent i ρ ν):=q;refine h _ _ _ σ H { D with nx:=u D } { nx:=fun ρ'=>i < ρ'.length/\ndR i ρ'=true/\du Dd (ρ'.set i none) ν,rt:=fun _ _=>False } R ⟨fun O1 ρ1 σ1 H1 R1 P2 e1 h1=>?_,fun _ _ _ _ _ _ _ z=>z.elim,fun _ _ _ _ _ _ _ z=>z.elim,fun _ _ _ _ _ _ _ z=>z.elim,fun q z=>.inr z⟩ q';obtain⟨hi,hn,h1⟩:=h1;obtain⟨P3,Q3⟩:=P.back E.oa R1 hi (e1.trans P.slot) (qb6z hn);exact hu c O0 H0 _ _ _ _ D Dd p κ ν P3 (Q3.kvs hk) E (Q.trans Q3) h1
def qd5f:AdPt K i tNext (fun N ρ ν=>N ρ ν):=fun u du hu=>hu
def adp_seq{t t':TS}{da db:TPt}(h:AdPt K i t da)(h':AdPt K i t' db):AdPt K i (tSeq t t') (pSeq da db):=fun u du hu=>h _ _ (h' u du hu)
def adp_if{tc:TT}{t t':TS}{dc:TDT}{da db:TPt}(hc:AdT K tc dc)(h:AdPt K i t da)(h':AdPt K i t' db):AdPt K i (tIfS tc t t') (pIf i dc da db):=by
 intro u du hu c O0 H0 O ρ σ H D Dd p κ ν P hk E Q q;obtain⟨R,P1⟩:=P.lend hk;refine hc _ _ _ σ H _ _ R q fun b ρ1 O1 H1 h1 R1 P2=>?_;obtain⟨hi,hn,h1⟩:=h1;obtain⟨P3,Q3⟩:=P.back E.oa R1 hi P.slot (qb6z hn);cases b with
 | true=>rw [if_pos rfl] at h1 ⊢;exact h u du hu c O0 H0 _ _ _ _ D Dd p κ ν P3 (Q3.kvs hk) E (Q.trans Q3) h1
 | false=>rw [if_neg Bool.false_ne_true] at h1 ⊢;exact h' u du hu c O0 H0 _ _ _ _ D Dd p κ ν P3 (Q3.kvs hk) E (Q.trans Q3) h1
def adp_put{tk tv:TE}{dk dv:TDE}(hk:AdE K tk dk)(hv:AdE K tv dv):AdPt K i (qb1p (tVar i) tk tv) (pPut i dk dv):=by
 intro u du hu c O0 H0 O ρ σ H D Dd p κ ν P hk0 E Q0 q;obtain⟨hl,q⟩:=q;obtain⟨R,P1⟩:=P.lend hk0;show qb1p (tVar i) tk tv { D with nx:=u D } σ H;refine hv _ _ _ _ _ _ _ R q fun y5 ρ5 O5 v5 H5 h5 R5 P5 a5=>?_;obtain⟨dy,ρ5',O5',h5,R5',P5',ev⟩:=R5.fz a5 h5;refine⟨.ref p,P.slot,?_⟩;refine hk _ _ _ _ _ _ _ R5' h5 fun z6 ρ6 O6 v6 H6 h6 R6 P6 a6=>?_;obtain⟨hi6,hn6,hd6,hq6⟩:=h6;obtain⟨dz,e3,hn3⟩:=ne (hq6);obtain⟨k,e4,h6⟩:=ne (hn3);have ek:v6=kV k:=qa9t (R6.top a6 e3) e4;subst ek;have h6p:=P.stayA R6;have hll:κ.length < 1000:=by rw [hk0.len,length_map];exact hl
 refine⟨p,_,rfl,DPut.k (k:=k) h6p (qb6n hll),?_⟩;obtain⟨Pb,Qb⟩:=P.back E.oa R6 hi6 P.slot (qb6z hn6);have ev6:=P6 _ _ ev;have ev7:AtD K H6 (live (c.reb O6 p H6) O6) dy v5:=AtD.carry (ok:=false) (fun a xs s q=>⟨⟨s.1,fun z=>z.elim s.2.1 (fun w=>by rw [w,h6p] at q;cases q),s.2.2⟩,q⟩) 'n' (fun a xs q=>q) dy v5 (.inr hd6) ev6;obtain⟨P7,Q7⟩:=Pb.step (H2:=upd H6 p (.dK (putK κ k v5))) (μ:=putK κ k v5) Pb.rel Pb.slot Pb.nul (fun b hb=>qa0j hb) qa0k;exact hu c O0 H0 O6 _ σ _ D Dd p _ _ P7 (((Qb.trans Q7).kvs hk0).put (Q7 _ _ ev7)) E ((Q0.trans Qb).trans Q7) h6
end
def qc2a(i:Nat)(da:TDA)(dp:TDP):TDS:=fun D ρ=>da ρ fun xs ρ1=>need (qa1x ρ1 xs) fun ds=>i < ρ1.length/\∃ ps:List 'j',ds=[.tuple (ps.map qa2h)]/\ps.length <= 1000/\dp D (ρ1.set i none) (qa6a [] (ps.map kQ))
def qd1r{K:W.Frag}{i:Nat}{ta:TA}{da:TDA}{u:TS}{du:TDP}(ha:AdA K ta da)(hu:AdP K i u du):AdS K (tSeq (tAsg (tCB (qb6w K) ta) (qa3l i)) u) (qc2a i da du):=by
 intro c O ρ σ H D Dd R E h;show tAsg (tCB (qb6w K) ta) (qa3l i) { D with nx:=u D } σ H;refine ha c O ρ σ H _ _ R h fun xs ρ1 O1 vs H1 h1 R1 P1 a1=>?_;obtain⟨ds,e1,hn1⟩:=ne (h1);obtain⟨hi,ps,rfl,hz,h1⟩:=hn1;obtain⟨v,rfl,t1⟩:=(R1.tops a1 e1).one;obtain⟨a,ys,rfl,sq,al⟩:=t1.tup;obtain⟨qs,g1,g2,g3,g4⟩:=pairs_at al;refine⟨a,ys,qs,rfl,sq,g1,g3,'o',fun p hp=>?_⟩;obtain⟨P0,Q0⟩:=PinK.start (i:=i) (ν:=foldQ qs) R1 hi hp;exact hu c O H _ _ _ _ D Dd p _ _ P0 (Q0.kvs (qa0f.merge g4 .nil)) E (P1.trans Q0) h1
section
variable{X:Cx}{i j:Nat}{st:Stmt}{e c kE vE tg iter:Expr}{a b rest body:List Stmt}{x:Str}{de dk dv:TDE}{df:TDF}{dtt:TDT}{dt du:TDS}{da db:TPt}{di:TDI}{dg:TDG}{daa:TDA}{dp:TDP}{pos pos' p1 p2 p4 p5 p6 p9:Pos}
def qb5j(he:DE X e de)(hs:swapsWith e none pos.line X.env=pure false:=by rfl):DSi X i (.Expr e pos) (dDrop de):=by obtain⟨_,p,a⟩:=he;exact⟨_,qb7o p hs,qd5d a⟩
def qb4d(hj:j ≠ i)(hN:X.N.Nodup)(hi:X.N[j]? = some x)(hx:Loc X.env.scope x)(he:DE X e de)(hs:swapsWith e (some (.Name x pos')) pos.line X.env=pure false:=by rfl)(hf:X.fn x=true ∨ X.env.scope.names.lookup x=some .local:=by first | exact .inl rfl | exact .inr rfl) :
  DSi X i (.Assign [.Name x pos'] e pos) (dSet j de):=by obtain⟨_,p,a⟩:=he;exact⟨_,qa4l hN hi hx p hs hf,adi_set hj a⟩
def qc2b(hj:j ≠ i)(hN:X.N.Nodup)(hi:X.N[j]? = some x)(hx:Loc X.env.scope x)(he:DF X e df)(hs:swapsWith e (some (.Name x pos')) pos.line X.env=pure false:=by rfl)(hf:X.fn x=true ∨ X.env.scope.names.lookup x=some .local:=by first | exact .inl rfl | exact .inr rfl) :
  DSi X i (.Assign [.Name x pos'] e pos) (dSetF j df):=by obtain⟨_,p,a⟩:=he;exact⟨_,qa4l hN hi hx p hs hf,qd5e hj a⟩
def qc6s(hp:PassesOwn (model X.prog X.w) X.A X.env X.xe)(hc:X.calm=true)(hi:DI X tg iter di)(hg:DGi X i tg dg)(hb:DSsi X i body dt)(hs:∀ x,foldedSetIterable iter X.env x=pure x:=by intro _;rfl):DSi X i (.For tg iter body [] pos) (dFor di dg dt):=
 by obtain⟨_,p,a⟩:=hi;obtain⟨_,p',a'⟩:=hg;obtain⟨_,p2,a2⟩:=hb;exact⟨_,qb5z hp hc p p' p2 hs,adi_for a a' a2⟩
def qd1s(h1:DSi X i st dt)(h2:DSsi X i rest du):DSsi X i (st :: rest) (dSeq dt du):=by obtain⟨_,p,a⟩:=h1;obtain⟨_,p',a'⟩:=h2;exact⟨_,qa2a p p',adi_seq a a'⟩
def qc2c(h1:DSi X i st dt):DSsi X i [st] dt:=by obtain⟨_,p,a⟩:=h1;exact⟨_,qa3u p,a⟩
def qa5r(h:DSi X i st dt):DPt X i st (pStm i dt):=by obtain⟨_,p,a⟩:=h;exact⟨_,p,adp_stm a⟩
def dpt_if(hc:DT X c dtt)(ha:DPts X i a da)(hb:DPts X i b db):DPt X i (.If c a b pos) (pIf i dtt da db):=by obtain⟨_,p,a⟩:=hc;obtain⟨_,p',a'⟩:=ha;obtain⟨_,p2,a2⟩:=hb;exact⟨_,ps_if p p' p2,adp_if a a' a2⟩
def qb4e(hi:X.N[i]? = some x)(hu:X.A.units + 64 < cLine)(hk:DE X kE dk)(hv:DE X vE dv)
  (hvs:Vis X.env.scope x:=by first | exact Or.inl rfl | exact Or.inr 'c' | exact Or.inr (Or.inr rfl)) (hd:(x == ("__debug__" : Str))=false:=by decide) (hcd:(x == ("__classdict__" : Str))=false:=by decide)
  (hs2:swapsWith vE (some (.Subscript (.Name x p4) kE p5)) p6.line X.env=pure false:=by rfl) :
  DPt X i (.Assign [.Subscript (.Name x p4) kE p5] vE p6) (pPut i dk dv):=by
 obtain⟨tk,pk,ak⟩:=hk;obtain⟨tv,pv',av⟩:=hv;exact⟨_,qc6e 'o' (qa9b hi hvs hd hcd) pk pv' hs2,adp_put ak av⟩
def qd5g:DPts X i [] (fun N ρ ν=>N ρ ν):=⟨_,qb0n,qd5f⟩
def qa4u(h1:DPt X i st da)(h2:DPts X i rest db):DPts X i (st :: rest) (pSeq da db):=by obtain⟨_,p,a⟩:=h1;obtain⟨_,p',a'⟩:=h2;exact⟨_,qa2a p p',adp_seq a a'⟩
def qb5k(h1:DPt X i st da):DPts X i [st] da:=by obtain⟨_,p,a⟩:=h1;exact⟨_,qa3u p,a⟩
def qb1u(h1:DPt X i st da)(h2:DPs X i rest dp):DPs X i (st :: rest) (fun D ρ ν=>da (dp D) ρ ν):=by obtain⟨_,p,a⟩:=h1;obtain⟨_,p',a'⟩:=h2;exact⟨_,qa2a p p',a _ _ a'⟩
def qb3g(hN:X.N.Nodup)(hi:X.N[i]? = some x)(hx:Loc X.env.scope x)(hc:X.calm=true) (hg:Gl X "dict") (hm:X.mg "dict" = none) (ha:DA X [e] daa) (hr:DPs X i rest dp)
  (he:starEach [e] X.env=(false,eval e X.env) :: starEach [] X.env:=by rfl) (hpl:(backTo pos (starEach [] X.env)).any (·.1)=false:=by rfl)
  (hf:X.fn x=true ∨ X.env.scope.names.lookup x=some .local:=by first | exact .inl rfl | exact .inr rfl)
  (hs1:swapsWith (.Call (.Name "dict" p1) [e] [] pos) (some (.Name x p2)) p9.line X.env=pure false:=by rfl) :
  DSs X (.Assign [.Name x p2] (.Call (.Name "dict" p1) [e] [] pos) p9 :: rest) (qc2a i daa dp):=by
 obtain⟨ta,pa,aa⟩:=ha;obtain⟨u,pu,au⟩:=hr;exact⟨_,qa2a (qa4l hN hi hx (qa7l (qb1t hc) hg hm qb7s pa 'd' 'd' he hpl) hs1 hf) pu,qd1r aa au⟩
def qd5h:DS X st (fun _ _=>False):=⟨fun _ _ _=>False,fun _ _ _ _ _ _ h=>h.elim,fun _ _ _ _ _ _ _ _ _ h=>h.elim⟩
end
theorem qd5i{i:Nat}{da:TDA}{dp:TDP}{D:DEnds}{ρ:Rho}:qc2a i da dp D ρ=da ρ fun xs ρ1=>need (qa1x ρ1 xs) fun ds=>i < ρ1.length/\∃ ps:List 'j',ds=[.tuple (ps.map qa2h)]/\ps.length <= 1000/\dp D (ρ1.set i none) (qa6a [] (ps.map kQ)):=rfl
theorem pStm_a{i:Nat}{dt:TDS}{N:Rho->List (Key × PyData)->Prop}{ρ:Rho}{ν:List (Key × PyData)}:pStm i dt N ρ ν=dt { nx:=fun ρ'=>i < ρ'.length/\ndR i ρ'=true/\N (ρ'.set i none) ν,rt:=fun _ _=>False } (ρ.set i (some (.d (.dict (ν.map kD))))):=rfl
theorem pIf_a{i:Nat}{dc:TDT}{da db:TPt}{N:Rho->List (Key × PyData)->Prop}{ρ:Rho}{ν:List (Key × PyData)}:pIf i dc da db N ρ ν=dc (ρ.set i (some (.d (.dict (ν.map kD))))) fun b ρ'=>i < ρ'.length/\ndR i ρ'=true/\if b=true then da N (ρ'.set i none) ν else db N (ρ'.set i none) ν:=rfl
theorem pSeq_a{da db:TPt}{N:Rho->List (Key × PyData)->Prop}{ρ:Rho}{ν:List (Key × PyData)}:pSeq da db N ρ ν=da (fun ρ' ν'=>db N ρ' ν') ρ ν:=rfl
theorem pPut_a{i:Nat}{dk dv:TDE}{N:Rho->List (Key × PyData)->Prop}{ρ:Rho}{ν:List (Key × PyData)}:pPut i dk dv N ρ ν=(ν.length < 1000/\dv (ρ.set i (some (.d (.dict (ν.map kD))))) fun y ρ1=>fz ρ1 y fun dy ρ2=>dk ρ2 fun z ρ3=>i < ρ3.length/\ndR i ρ3=true/\ndD dy=true/\need (qa0q ρ3 z) fun dz=>need (qa3s dz) fun k=>N (ρ3.set i none) (putA ν k dy)):=rfl
end
section
noncomputable def qc6t:V->List V->Hp->VK->Prop:=fun x vs H Q=>∃ a kvs,∃ k:Key,∃ d,x=.ref a/\vs=[kV k,d]/\H a=some (.dK kvs)/\kvs.length < sizeLine /\
 (∀ v,valV kvs k=some v->Q v H)/\(valV kvs k=none->Q d (upd H a (.dK (putK kvs k d))))
section
variable{X:Cx}
def qd1t:MtM X "dict.setdefault" qc6t:=by
 intro pins s σ H x vs v us Q I rx rv h;obtain⟨a,kvs,k,d,rfl,rfl,e,hl,q1,q2⟩:=h;cases rx;obtain⟨u,r,rfl,ru,rr⟩:=Vals.two rv;obtain⟨z,hd,ws,rel,dd⟩:=dk_of I.hok e;have hz:ws.length <= sizeLine:=by rw [← rel.length];exact z
 refine call_meetsIn PySem.F.slot_dict_setdefault dd.typeIs PySem.F.entry_dict_setdefault (PySem.F.args_dict_setdefault_3 _ _ _) (kt_meets_setdefault (qa1b X.prog X.w) a (qb1o ru) hd r) ⟨ws,dd,hz,fun v hv=>?_,fun hn h' dd' hs=>?_⟩
 ·have:=rel.val k
  rw [hv] at this;cases e':valV kvs k with
  | none=>rw [e'] at this;cases this
  | some y=>rw [e'] at this;exact⟨y,H,I.tok _,this,q1 y e'⟩
 ·have hn':valV kvs k=none:=by
   have:=rel.val k;rw [hn] at this;cases e':valV kvs k with
   | none=>rfl
   | some y=>rw [e'] at this;cases this
  have hl2:(putK kvs k d).length <= sizeLine:=by have:=qb0h kvs k d;omega
  have he:∃ q,h'.get? a=some q:=by obtain⟨q,_,_,hq,_⟩:=dd';exact⟨q,hq⟩
  exact⟨d,_,qb7u I (by rw [e];exact True.intro) hs he (dk_new hl2 hd (rel.put k rr) dd'),rr,q2 hn'⟩
end
def qa1v.frzD{P:Program}{w:World}{H:Hp}{h:Heap}{d:Addr}{kvs:List (Key × V)}{o':HO}(e:H d=some (.dK kvs)):∀ {a:Addr} (o:HO),qa1v P w H h a o->qa1v P w (upd H d o') h a o
 | _,.lst _,x=>x
 | _,.tup _,x=>x
 | _,.dK _,x=>x
 | _,.dT _,⟨x1,x2,xs,x3,x4⟩=>⟨x1,x2,xs,Paired.mapP x3 (fun p q hq8=>by obtain⟨y1,y2,y3⟩:=hq8;exact⟨y1,by rw [qa0j (fun z=>by rw [z,e] at y2;cases y2)];exact y2,y3⟩),x4⟩
 | _,.set _ _,x=>x
 | _,.ins _ dx _,⟨x1,x2⟩=>⟨by rw [qa0j (fun z=>by rw [z,e] at x1;cases x1)];exact x1,x2⟩
 | _,.own _,x=>x
 | _,.xd _,x=>x
 | _,.rng _ _,x=>x
 | _,.frz _ u,⟨x1,x2⟩=>⟨x1,qa1v.frzD e u x2⟩
 | _,.tbl _,x=>x
 | _,.met _ _,x=>x
 | _,.ext _,x=>x
def Inv.frzD{X:Cx}{pins:List 'g'}{σ:St}{H:Hp}{s:Shared}{d:Addr}{o':Obj}{kvs:List (Key × V)}(I:Inv X pins σ H s)(e:H d=some (.dK kvs))(ho:s.heap.get? d=some o'):Inv X pins σ (upd H d (.frz o' (.dK kvs))) s where
 ok:=I.ok
 os:=I.os
 bare:=I.bare
 base:=⟨I.base.keep,I.base.slot,fun b o h1 h2 h3=>by
   have h':=I.base.free b o h1 h2 h3;rw [qa0j (fun z=>by rw [z,e] at h';cases h')];exact h',I.base.there,
  fun b xs h=>by
   have h':=I.base.tups b xs h;rw [qa0j (fun z=>by rw [z,e] at h';cases h')];exact h',
  fun b o u h=>by
   have h':=I.base.frzs b o u h;rw [qa0j (fun z=>by rw [z,e] at h';cases h')];exact h',
  fun b ps h=>by
   obtain⟨more,h'⟩:=I.base.tbls b ps h;exact⟨more,by rw [qa0j (fun z=>by rw [z,e] at h';cases h')];exact h'⟩⟩
 loc:=I.loc
 cell:=I.cell
 free:=by
  have h':=I.free;rw [qa0j (fun z=>by rw [z,e] at h';cases h')];exact h'
 freeC x c h:=by
  have h':=I.freeC x c h;rw [qa0j (fun z=>by rw [z,e] at h';cases h')];exact h'
 pin p hp:=by
  obtain⟨h1,h2,h3⟩:=I.pin p hp;exact⟨h1,by rw [qa0j (fun z=>by rw [z,e] at h2;cases h2)];exact h2,h3⟩
 hok a o h:=by
  by_cases z:a=d
  ·subst z
   rw [qa0k] at h;cases h;exact⟨ho,qa1v.frzD e _ (I.hok _ _ e)⟩
  ·rw [qa0j z] at h;exact qa1v.frzD e o (I.hok a o h)
 len:=I.len
noncomputable def Itvl(d:Addr)(o:Obj)(kvs:List (Key × V)):It:=⟨fun i H=>i < kvs.length/\H d=some (.frz o (.dK kvs)),fun i H x H'=>H'=H/\(kvs.map (·.2))[i]? = some x,fun i H=>kvs.length <= i/\H d=some (.frz o (.dK kvs))⟩
def KV.vals{κ:Type}:∀ {kvs:List (κ × V)} {vs:List (κ × Value)},KV kvs vs->Vals (kvs.map (·.2)) (vs.map (·.2))
 | _,_,.nil=>.nil
 | _,_,.cons h t=>.cons h.2 (KV.vals t)
def qd1u{P:Program}{w:World}{K:W.Frag}{tg:Expr}(d it:Addr)(o:Obj)(kvs:List (Key × V))(vs:List (Key × Value))(ep:Nat)(hv:Vals (kvs.map (·.2)) (vs.map (·.2)))(hd:∀ h:Heap,h.get? d=some o->h.DictAt (qa1b P w) d vs ep) :
  Turn P w K tg (Itvl d o kvs) [it] it (fun i h=>h.IsValIter it d i vs.length ep) where
 mem:=by simp
 obj:=fun i h st b hb=>by
  have e:b=it:=by simpa using hb
  subst e;obtain⟨o,e,c,dd⟩:=st;exact⟨o,e,fun v z=>by rw [dd] at z;cases z⟩
 keep:=fun i h h' st k=>by
  obtain⟨o,e,r⟩:=st;exact⟨o,k it 'h' o e,r⟩
 item:=by
  intro X hP hw hK hc i pins s σ H E I hf st hg;subst hP hw hK;have hl:=hv.length;rw [length_map,length_map] at hl;have hi:i < vs.length:=by rw [← hl];exact hg.1
  obtain⟨⟨k,u⟩,hku⟩:∃ r,vs[i]? = some r:=⟨_,getElem?_eq_getElem hi⟩;obtain⟨x,hx⟩:∃ x,(kvs.map (·.2))[i]? = some x:=⟨_,getElem?_eq_getElem (by rw [length_map];exact hg.1)⟩;obtain⟨u',hu',ru⟩:=hv.get hx;rw [getElem?_map,hku] at hu';cases hu';obtain⟨f0,f1,f2,f3,f4,f5⟩:=hf it 'h';have hod:s.heap.get? d=some o:=(I.hok d _ hg.2).1;refine wpAny_pyNext_values_item st (hd _ hod) hku fun h' st' sb=>?_;have I1:Inv X pins σ H { s with heap:=h' }:=I.turned (t':=s.toks) (fun b o hb e=>(sb.2 b hb).trans e) f0 f1 f3 f4 f5;obtain⟨o,e,c,d'⟩:=id st';exact⟨u,rfl,go_of (s:={ s with heap:=h' }) e c d' 'd' ⟨x,H,I1,ru,⟨rfl,hx⟩,st',fun b hb=>(hf b hb).1⟩⟩
 done:=by
  intro X hP hw hK hc i pins s σ H E I hf st hg;subst hP hw hK;have hl:=hv.length;rw [length_map,length_map] at hl;have hi:vs[i]? = none:=List.getElem?_eq_none (by rw [← hl];exact hg.1);obtain⟨f0,f1,f2,f3,f4,f5⟩:=hf it 'h';have hod:s.heap.get? d=some o:=(I.hok d _ hg.2).1;exact wpAny_pyNext_values_end (I.ok.hd hc) st (hd _ hod) hi fun h' eb=>⟨rfl,I.turned (t':=s.toks) (fun b o hb e=>eb b o hb e) f0 f1 f3 f4 f5⟩
 self:=fun _ _ _ _ _ st h=>wpAny_pyIter_valiter st h
def iVals(td:TE):TI:=fun σ H R=>td σ H fun x H1=>∃ d kvs,x=.ref d/\H1 d=some (.dK kvs)/\∀ o,R (Itvl d o kvs) (upd H1 d (.frz o (.dK kvs)))
def pi_vals{X:Cx}{tg o:Expr}{td:TE}{apos cpos:Pos}(ho:PE X o td)
  (hbase:attributeBase o "values" X.env (eval o X.env)=eval o X.env:=by rfl) (hline:(apos.endLine == cpos.line)=true:=by rfl):PI X tg (.Call (.Attribute o "values" apos) [] [] cpos) (iVals td):=by
 intro pins s σ H R I h;refine wpAny_Call_method0_late hbase hline (thn (ho pins s σ H _ I h) fun v s1 hq9=>?_);obtain⟨x,H1,I1,r1,d,kvs,ex,hd,q⟩:=hq9;subst ex;cases r1;obtain⟨h1,h2⟩:=qc0c (T:="dict") I1 (show RelV (.ref d) (.ref d) from rfl) (.inr (.inr (.inl ⟨rfl,.inl ⟨_,hd⟩⟩)));obtain⟨z,hs,vs,rel,dd⟩:=dk_of I1.hok hd;refine⟨"dict","dict.values",PySem.F.plainAttrs_dict,PySem.F.slot_dict_values,PySem.F.type_dict_values,h1,h2,Calls.callWith_builtin rfl (PySem.evalArgs_none ?_)⟩;refine call_meetsIn PySem.F.slot_dict_values dd.typeIs PySem.F.entry_dict_values (PySem.F.args_dict_values_1 _) (meets_dict_values (qa1b X.prog X.w) d hs) ⟨⟨vs,dd⟩,?_⟩;obtain⟨ep,ob,es,hob,r2⟩:=dd.dictAt;have hat:∀ h:Heap,h.get? d=some ob->h.DictAt (qa1b X.prog X.w) d vs ep:=fun h e=>⟨ob,es,e,r2⟩;have I2:Inv X pins σ H1 { s1 with heap:=s1.heap.push { cls:=.type "dict_values",data:=.fields #[.ref d] } }:=I1.kept (t':=s1.toks) fun b o e=>get?_push_of_some _ e;have hob2:(s1.heap.push { cls:=.type "dict_values",data:=.fields #[.ref d] }).get? d=some ob:=get?_push_of_some _ hob;refine wpAny_pyIter_values (s:={ s1 with heap:=s1.heap.push { cls:=.type "dict_values",data:=.fields #[.ref d] } }) ⟨_,get?_push_size _ rfl,rfl,rfl⟩ (hat _ hob2) ?_;have I3:Inv X pins σ H1 { s1 with heap:=(s1.heap.push { cls:=.type "dict_values",data:=.fields #[.ref d] }).push { cls:=.type "dict_valueiterator",data:=.fields #[.ref d,.int 0 0,.int vs.length 0,.int ep 0] } }:=I2.kept (t':=s1.toks) fun b o e=>get?_push_of_some _ e;refine⟨(s1.heap.push { cls:=.type "dict_values",data:=.fields #[.ref d] }).objs.size,[(s1.heap.push { cls:=.type "dict_values",data:=.fields #[.ref d] }).objs.size],_,Itvl d ob kvs,_,rfl,I3.frzD hd (get?_push_of_some _ hob2),qd1u d _ ob kvs vs ep rel.vals hat,⟨_,get?_push_size _ rfl,rfl,rfl⟩,fun b hb=>?_,q ob⟩;have e:b=(s1.heap.push { cls:=.type "dict_values",data:=.fields #[.ref d] }).objs.size:=by simpa using hb
 subst e;have hn:=I2.hok.fresh (le_refl (s1.heap.push { cls:=.type "dict_values",data:=.fields #[.ref d] }).objs.size);exact I2.fpOk 'e' (by rw [qa0j (fun z=>by rw [z,hd] at hn;cases hn)];exact hn)
end
end L2
section
namespace Sx
open PySem
end Sx
namespace L2
open PySem PySem.Spec PyProof.Rows
end L2
end
namespace L2
open PySem PySem.Spec PyProof.Rows
section
def qd5j{K:W.Frag}{a:Addr}{xs:List V}{g:TG}{tb:TS}{D:Ends}{σ:St}{H:Hp}(Pv:Nat->St->Hp->Prop)(h0:Pv 0 σ H)(hl:∀ i σ H,i <= xs.length->Pv i σ H->SqL K H a xs)
  (hs:∀ i x σ H T,xs[i]? = some x->Pv i σ H->H T=none->g (.ref T) σ (upd H T (.tup [.int i,x])) fun σ2 H2=>tb { D with nx:=Pv (i + 1),ct:=Pv (i + 1),bk:=D.nx } σ2 H2) (hd:∀ σ H,Pv xs.length σ H->D.nx σ H) :
  ∃ W:Nat->Nat->St->Hp->Prop,(∃ m,W 0 m σ H)/\∀ i m σ H,W i m σ H ->
   ((Ite K a).stop i H/\D.nx σ H) ∨ ((Ite K a).go i H/\∃ N:St->Hp->Prop,(∀ σ' H',N σ' H'->∃ m',m' < m/\W (i + 1) m' σ' H')/\∀ x H',(Ite K a).yld i H x H'->g x σ H' fun σ2 H2=>tb { D with nx:=N,ct:=N,bk:=D.nx } σ2 H2):=by
 refine⟨fun i m σ H=>m=xs.length - i/\i <= xs.length/\Pv i σ H,⟨xs.length,by simp,zero_le _,h0⟩,?_⟩;rintro i m σ H ⟨rfl,hi,p⟩;have q:=hl i σ H hi p;by_cases hlt:i < xs.length
 ·refine .inr ⟨⟨xs,xs[i],q,by simp [hlt]⟩,Pv (i + 1),fun σ' H' p'=>⟨xs.length - (i + 1),'o',rfl,hlt,p'⟩,fun x H' y=>?_⟩
  obtain⟨T,x',rfl,hT,rfl,y⟩:=y;exact hs i x' σ H T (y xs q) p hT
 ·have e:i=xs.length:=by omega
  subst e;exact .inl ⟨⟨xs,q,le_refl _⟩,hd σ H p⟩
def qd1v{d:Addr}{o:Obj}{kvs:List (Key × V)}{σ:St}{H:Hp}{go:V->St->Hp->(St->Hp->Prop)->Prop}{done:St->Hp->Prop}(Pv:Nat->St->Hp->Prop)(h0:Pv 0 σ H)(hl:∀ i σ H,i <= kvs.length->Pv i σ H->H d=some (.frz o (.dK kvs)))
  (hs:∀ i x σ H,(kvs.map (·.2))[i]? = some x->Pv i σ H->go x σ H (Pv (i + 1))) (hd:∀ σ H,Pv kvs.length σ H->done σ H):WalkD (Itvl d o kvs) σ H go done:=by
 refine⟨fun i m σ H=>m=kvs.length - i/\i <= kvs.length/\Pv i σ H,⟨kvs.length,by simp,zero_le _,h0⟩,?_⟩;rintro i m σ H ⟨rfl,hi,p⟩;have q:=hl i σ H hi p;by_cases hlt:i < kvs.length
 ·refine .inr ⟨⟨hlt,q⟩,Pv (i + 1),fun σ' H' p'=>⟨kvs.length - (i + 1),'o',rfl,hlt,p'⟩,fun x H' y=>?_⟩
  obtain⟨rfl,y⟩:=y;exact hs i x σ _ y p
 ·have e:i=kvs.length:=by omega
  subst e;exact .inl ⟨⟨le_refl _,q⟩,hd σ H p⟩
noncomputable def qa6b(L:List (Int × List Nat))(m:Int)(i:Nat):List (Int × List Nat):=if (L.any fun t=>decide (t.1=m))=true then L.map (fun t=>if t.1=m then(t.1,t.2 ++ [i]) else t) else L ++ [(m,[i])]
noncomputable def grpN(ms:List Int):Nat->List (Int × List Nat)
 | 0=>[]
 | n + 1=>match ms[n]? with
  | some m=>qa6b (grpN ms n) m n
  | none=>grpN ms n
noncomputable def nV(ps:List Nat):List V:=ps.map fun(c:Nat)=>V.int (c:Int)
noncomputable def grpD(ms:List Int):List 'f':=(grpN ms ms.length).map fun t=>t.2.map fun(c:Nat)=>(c:Int)
abbrev TG3:=List (Int × Addr × List Nat)
noncomputable def kT3(T:TG3):List (Key × V):=T.map fun t=>(Sum.inl t.1,V.ref t.2.1)
structure PB(H:Hp)(p:Addr)(ms:List Int)(i:Nat)(T:TG3)(H':Hp):Prop where
 eq:(T.map fun t=>(t.1,t.2.2))=grpN ms i
 dk:H' p=some (.dK (kT3 T))
 at_:∀ t ∈ T,H' t.2.1=some (.lst (nV t.2.2))/\H t.2.1=none/\t.2.1 ≠ p
 nq:(T.map (·.2.1)).Nodup
 nm:(T.map (·.1)).Nodup
 len:T.length <= i
 pl:∀ t ∈ T,t.2.2 ≠ []/\t.2.2.length <= i
 same:Same H H'
def qc2d{T:TG3}{m:Int}:(∀ v,valV (kT3 T) (Sum.inl m)=some v->∃ t ∈ T,t.1=m/\v=.ref t.2.1)/\(valV (kT3 T) (Sum.inl m)=none->∀ t ∈ T,t.1 ≠ m):=by
 induction T with
 | nil=>exact⟨fun v h=>(by cases h),fun _ t ht=>(by cases ht)⟩
 | cons t T ih =>
  by_cases e:t.1=m
  ·have e1:valV (kT3 (t :: T)) (Sum.inl m)=some (.ref t.2.1):=qa6s (p:=(Sum.inl t.1,V.ref t.2.1)) (congrArg Sum.inl e)
   refine⟨fun v h=>?_,fun h=>?_⟩
   ·rw [e1] at h;cases h;exact⟨t,mem_cons_self,e,rfl⟩
   ·rw [e1] at h;cases h
  ·have e1:valV (kT3 (t :: T)) (Sum.inl m)=valV (kT3 T) (Sum.inl m):=qa6t (p:=(Sum.inl t.1,V.ref t.2.1)) (fun z=>e (Sum.inl.inj z))
   rw [e1];refine⟨fun v h=>?_,fun h u hu=>?_⟩
   ·obtain⟨u,hu,r⟩:=ih.1 v h;exact⟨u,mem_cons_of_mem _ hu,r⟩
   ·rcases mem_cons.mp hu with rfl | hu
    ·exact e
    ·exact ih.2 h u hu
noncomputable def bump(m:Int)(i:Nat)(u:Int × Addr × List Nat):Int × Addr × List Nat:=if u.1=m then(u.1,u.2.1,u.2.2 ++ [i]) else u
def qb3h(m:Int)(i:Nat)(u:Int × Addr × List Nat):(bump m i u).1=u.1/\(bump m i u).2.1=u.2.1:=by
 unfold bump;split<;>exact⟨rfl,rfl⟩
def qb5l{α β:Type}{f:α->β}:∀ {l:List α} {a b:α},(l.map f).Nodup->a ∈ l->b ∈ l->f a=f b->a=b
 | x :: l,a,b,h,ha,hb,e=>by
  rw [map_cons,nodup_cons] at h;rcases mem_cons.mp ha with ea | ha'<;>rcases mem_cons.mp hb with eb | hb'
  ·rw [ea,eb]
  ·rw [ea] at e;exact absurd (e ▸ mem_map.mpr ⟨b,hb',rfl⟩) h.1
  ·rw [eb] at e;exact absurd (e ▸ mem_map.mpr ⟨a,ha',rfl⟩) h.1
  ·exact qb5l h.2 ha' hb' e
section
variable{H H' H1:Hp}{p:Addr}{ms:List Int}{i:Nat}{T:TG3}{m:Int}
def PB.old(P:PB H p ms i T H')(hm:ms[i]? = some m)(s:Same H' H1){t:Int × Addr × List Nat}(ht:t ∈ T)(et:t.1=m):PB H p ms (i + 1) (T.map (bump m i)) (upd H1 t.2.1 (.lst (nV (t.2.2 ++ [i])))):=by
 have k1:(T.map (bump m i)).map (·.2.1)=T.map (·.2.1):=by rw [map_map];exact map_congr_left fun u _=>(qb3h m i u).2
 have k2:(T.map (bump m i)).map (·.1)=T.map (·.1):=by rw [map_map];exact map_congr_left fun u _=>(qb3h m i u).1
 have k3:kT3 (T.map (bump m i))=kT3 T:=by
  unfold kT3;rw [map_map];exact map_congr_left fun u _=>by show(Sum.inl (bump m i u).1,V.ref (bump m i u).2.1)=_;rw [(qb3h m i u).1,(qb3h m i u).2]
 refine⟨?_,?_,fun u hu=>?_,by rw [k1];exact P.nq,by rw [k2];exact P.nm,by rw [length_map];exact Nat.le_succ_of_le P.len,fun u hu=>?_,fun b o h=>?_⟩
 ·show _=(match ms[i]? with | some m=>qa6b (grpN ms i) m i | none=>grpN ms i)
  rw [hm];show _=qa6b (grpN ms i) m i;unfold qa6b;rw [← P.eq,if_pos (by rw [any_eq_true];exact⟨(t.1,t.2.2),mem_map.mpr ⟨t,ht,rfl⟩,decide_eq_true et⟩),map_map,map_map];refine map_congr_left fun u _=>?_;show((bump m i u).1,(bump m i u).2.2)=if u.1=m then(u.1,u.2.2 ++ [i]) else(u.1,u.2.2)
  unfold bump;split<;>rfl
 ·rw [qa0j (Ne.symm (P.at_ t ht).2.2),k3];exact s _ _ P.dk
 ·obtain⟨u0,hu0,rfl⟩:=mem_map.mp hu
  obtain⟨a1,a2,a3⟩:=P.at_ u0 hu0;rw [(qb3h m i u0).2];refine⟨?_,a2,a3⟩;by_cases e:u0.1=m
  ·have eu:u0=t:=qb5l P.nm hu0 ht (e.trans et.symm)
   subst eu;rw [qa0k];unfold bump;rw [if_pos e]
  ·have nq:u0.2.1 ≠ t.2.1:=fun z=>e (by rw [qb5l P.nq hu0 ht z];exact et)
   rw [qa0j nq];unfold bump;rw [if_neg e];exact s _ _ a1
 ·obtain⟨u0,hu0,rfl⟩:=mem_map.mp hu
  obtain⟨b1,b2⟩:=P.pl u0 hu0;unfold bump;split
  ·exact⟨by simp,by simp;omega⟩
  ·exact⟨b1,'o'⟩
 ·rw [qa0j (fun z=>by rw [z,(P.at_ t ht).2.1] at h;cases h)];exact s _ _ (P.same _ _ h)
def PB.new(P:PB H p ms i T H')(hp:H p=none)(hm:ms[i]? = some m)(s:Same H' H1){q:Addr}(hq:H1 q=none)(hn:valV (kT3 T) (Sum.inl m)=none) :
  PB H p ms (i + 1) (T ++ [(m,q,[i])]) (upd (upd (upd H1 q (.lst [])) p (.dK (putK (kT3 T) (Sum.inl m) (.ref q)))) q (.lst (nV [i]))):=by
 have nn:=qc2d.2 hn;have hq':H' q=none:=by cases e:H' q with | none=>rfl | some o=>(rw [s _ _ e] at hq;cases hq)
 have hq0:H q=none:=by cases e:H q with | none=>rfl | some o=>(rw [P.same _ _ e] at hq';cases hq')
 have qp:q ≠ p:=fun z=>by rw [z,P.dk] at hq';cases hq'
 have nqt:∀ t ∈ T,t.2.1 ≠ q:=fun t ht z=>by have:=(P.at_ t ht).1;rw [z,hq'] at this;cases this
 refine⟨?_,?_,fun u hu=>?_,?_,?_,by simp;exact P.len,fun u hu=>?_,fun b o h=>?_⟩
 ·show _=(match ms[i]? with | some m=>qa6b (grpN ms i) m i | none=>grpN ms i)
  rw [hm];show _=qa6b (grpN ms i) m i;unfold qa6b;rw [← P.eq,if_neg,map_append]
  ·rfl
  ·rw [any_eq_true]
   rintro⟨x,hx,e⟩;obtain⟨t,ht,rfl⟩:=mem_map.mp hx;exact nn t ht (of_decide_eq_true e)
 ·rw [qa0j (Ne.symm qp),qa0k,qd4j _ hn]
  unfold kT3;rw [map_append];rfl
 ·rcases mem_append.mp hu with h | h
  ·obtain⟨a1,a2,a3⟩:=P.at_ u h
   exact⟨by rw [qa0j (nqt u h),qa0j a3,qa0j (nqt u h)];exact s _ _ a1,a2,a3⟩
  ·cases mem_singleton.mp h
   exact⟨qa0k,hq0,qp⟩
 ·rw [map_append,nodup_append]
  refine⟨P.nq,by simp,fun x hx y hy z=>?_⟩;obtain⟨t,ht,rfl⟩:=mem_map.mp hx;have:y=q:=by simpa using hy
  exact nqt t ht (z.trans this)
 ·rw [map_append,nodup_append]
  refine⟨P.nm,by simp,fun x hx y hy z=>?_⟩;obtain⟨t,ht,rfl⟩:=mem_map.mp hx;have:y=m:=by simpa using hy
  exact nn t ht (z.trans this)
 ·rcases mem_append.mp hu with h | h
  ·obtain⟨b1,b2⟩:=P.pl u h
   exact⟨b1,'o'⟩
  ·cases mem_singleton.mp h
   exact⟨by simp,by simp⟩
 ·have n1:b ≠ q:=fun z=>by rw [z,hq0] at h;cases h
  have n2:b ≠ p:=fun z=>by rw [z,hp] at h;cases h
  rw [qa0j n1,qa0j n2,qa0j n1];exact s _ _ (P.same _ _ h)
end
end
section
noncomputable def rTup(K:W.Frag):List V->Hp->VK->Prop:=fun xs H Q=>∃ p ys,xs=[.ref p]/\((SqL K H p ys/\∀ l,H l=none->Q (.ref l) (upd H l (.tup ys))) ∨ (SqT K H p ys/\Q (.ref p) H))
def qc2e:TDS:=fun D ρ=>∃ ms:List Int,ρ[0]? = some (some (.d (.list (ms.map .int))))/\ms.length <= 60/\ρ.length=4/\D.rt (.d (.tuple ((Sx.srtT (grpD ms)).map encT))) ρ
def nV_snoc(ps:List Nat)(i:Nat):nV ps ++ [V.int (i:Int)]=nV (ps ++ [i]):=by unfold nV;rw [map_append];rfl
abbrev qd5k(K:W.Frag):TS:=tSeq (tAsg qb6m (qa3l 1)) (tSeq (tFor (iEnum K (tVar 0)) (gTup K 2 (gCons (qa3l 2) (gCons (qa3l 3) gNil))) (tDrop (tBM K "list" qb7q (tBM K "dict" qc6t (tVar 1) (qa3f (tVar 3) (qa3f (tLst tNil) tNil))) (qa3f (tVar 2) tNil))))
 (tRet (tCB (rTup K) (qa3f (tCB (rSrtT K) (qa3f (tComp ["part"] [] (iVals (tVar 1)) (qa3l 0) tYes (tCB (rTup K) (qa3f (tVar 0) tNil))) tNil)) tNil))))
def qc8s{K:W.Frag}:AdS K (qd5k K) qc2e:=by
 intro c O ρ σ H D Dd R E h;obtain⟨ms,e0,hl,hρ,q⟩:=h;obtain⟨v0,s0,a0⟩:=R.dat 0 _ e0;obtain⟨a,xs,rfl,sa,ha,hA⟩:=qa4b a0;have exs:xs=ms.map V.int:=ints_of_all hA;subst exs;have hσ:σ.length=4:=by rw [R.len];exact hρ
 obtain⟨x0,x1,x2,x3,eσ⟩:∃ x0 x1 x2 x3,σ=[x0,x1,x2,x3]:=by
  rcases σ with _ | ⟨x0,_ | ⟨x1,_ | ⟨x2,_ | ⟨x3,_ | ⟨_,_⟩⟩⟩⟩⟩<;>simp at hσ
  exact⟨x0,x1,x2,x3,rfl⟩
 have ex0:x0=some (.ref a):=by rw [eσ] at s0;exact Option.some.inj s0
 subst ex0;rw [eσ];refine fun p hp=>?_;refine⟨_,rfl,a,ms.map V.int,rfl,SqL.of (by rw [qa0j (qa1z ha hp)];exact ha),?_⟩;refine qd5j (xs:=ms.map V.int) (fun i σ' H'=>∃ u2 u3 T,σ'=[some (.ref a),some (.ref p),u2,u3]/\PB H p ms i T H') ?_ (fun i σ' H' _ h=>by obtain⟨_,_,_,_,P⟩:=h;exact SqL.of (P.same _ _ ha)) ?_ ?_
 ·exact⟨_,_,[],rfl,⟨rfl,qa0k,fun t ht=>(by cases ht),.nil,.nil,le_refl _,fun t ht=>(by cases ht),qa0x hp _⟩⟩
 ·rintro i x σ' H' T0 hx ⟨u2,u3,T,rfl,P⟩ hT0
  rw [getElem?_map] at hx;obtain⟨m,hm,rfl⟩:=map_eq_some_iff.mp hx;have hi:i < ms.length:=(List.getElem?_eq_some_iff.mp hm).1;have s1:Same H' (upd H' T0 (.tup [.int i,.int m])):=qa0x hT0 _;refine⟨T0,_,rfl,SqT.of qa0k,rfl,_,_,rfl,_,_,rfl,rfl,?_⟩;refine⟨_,rfl,.inr (.inr (.inl ⟨rfl,.inl ⟨_,s1 _ _ P.dk⟩⟩)),_,rfl,(show(0:Nat) <= sizeLine by decide),fun q' hq'=>?_⟩;have s2:Same H' (upd (upd H' T0 (.tup [.int i,.int m])) q' (.lst [])):=fun b o hb=>qa0x hq' _ _ _ (s1 _ _ hb);refine⟨p,kT3 T,Sum.inl m,.ref q',rfl,rfl,s2 _ _ P.dk,?_,fun v hv=>?_,fun hn=>?_⟩
  ·unfold kT3
   rw [length_map];exact qb2q (by have:=P.len;omega)
  ·obtain⟨t,ht,et,rfl⟩:=qc2d.1 v hv
   obtain⟨b1,b2⟩:=P.pl t ht;refine⟨.inl ⟨rfl,_,SqL.of (s2 _ _ (P.at_ t ht).1)⟩,_,rfl,t.2.1,_,_,rfl,rfl,s2 _ _ (P.at_ t ht).1,?_,?_⟩
   ·unfold nV
    rw [length_map];exact qb2q 'o'
   ·refine⟨_,_,T.map (bump m i),rfl,?_⟩
    rw [nV_snoc];exact P.old hm s2 ht et
  ·have qp:q' ≠ p:=fun z=>by rw [z,s1 _ _ P.dk] at hq';cases hq'
   have e1:upd (upd (upd H' T0 (.tup [.int i,.int m])) q' (.lst [])) p (.dK (putK (kT3 T) (Sum.inl m) (.ref q'))) q'=some (.lst []):=by rw [qa0j qp,qa0k]
   exact⟨.inl ⟨rfl,_,SqL.of e1⟩,_,rfl,q',_,_,rfl,rfl,e1,(show(0:Nat) < sizeLine by decide),_,_,_,rfl,P.new hp hm s1 hq' hn⟩
 ·rintro σ' H' ⟨u2,u3,T,rfl,P⟩
  rw [length_map] at P;refine⟨_,rfl,p,kT3 T,rfl,P.dk,fun o D0 hD0=>qd0o (qd1v (fun j σ2 H2=>∃ u ws,σ2=[u]/\H2 p=some (.frz o (.dK (kT3 T)))/\(∀ b o',b ≠ p->H' b=some o'->H2 b=some o')/\H2 D0=some (.lst ws)/\qa0c K H2 (fun _=>False) ((T.take j).map fun t=>encT (t.2.2.map fun(c:Nat)=>(c:Int))) ws) ?_ (fun j σ2 H2 _ h=>by obtain⟨_,_,_,h,_⟩:=h;exact h) ?_ ?_)⟩
  ·have dp:p ≠ D0:=fun z=>by rw [← z,qa0k] at hD0;cases hD0
   exact⟨none,[],rfl,by rw [qa0j dp,qa0k],fun b o' hb h=>by rw [qa0j (fun z=>by rw [z,← qa0j (H:=H') (o:=.frz o (.dK (kT3 T))) (Ne.symm dp),hD0] at h;cases h),qa0j hb];exact h,qa0k,.nil⟩
  ·rintro j x σ2 H2 hx ⟨u,ws,rfl,hf,hs,hD,hw⟩
   unfold kT3 at hx;rw [map_map,getElem?_map] at hx;obtain⟨t,ht,rfl⟩:=map_eq_some_iff.mp hx;have htm:=mem_of_getElem? ht;have hj:j < T.length:=(List.getElem?_eq_some_iff.mp ht).1;obtain⟨b1,b2⟩:=P.pl t htm
   dsimp only [qa3l,tYes]
   rw [if_pos rfl];refine⟨_,rfl,t.2.1,nV t.2.2,rfl,.inl ⟨SqL.of (hs _ _ (P.at_ t htm).2.2 (P.at_ t htm).1),fun l hl'=>⟨ws,?_,?_,_,_,rfl,?_,?_,qa0k,?_⟩⟩⟩
   ·rw [qa0j (qa1z hD hl')];exact hD
   ·rw [hw.length,length_map]
    have h1:=List.length_take_le j T;have h2:=P.len;exact qb2q 'o'
   ·have dp:p ≠ D0:=fun z=>by rw [z,hD] at hf;cases hf
    rw [qa0j dp,qa0j (qa1z hf hl')];exact hf
   ·intro b o' hb h
    have n1:b ≠ D0:=fun z=>by
     have dp:p ≠ D0:=fun z=>by rw [z,hD] at hf;cases hf
     rw [z,← qa0j (H:=H') (o:=.frz o (.dK (kT3 T))) (Ne.symm dp),hD0] at h;cases h
    rw [qa0j n1,qa0j (qa1z (hs _ _ hb h) hl')];exact hs _ _ hb h
   ·have dl:D0 ≠ l:=qa1z hD hl'
    have hDl:upd H2 l (.tup (nV t.2.2)) D0=some (.lst ws):=by rw [qa0j dl];exact hD
    have kp:Keep (fun _=>False) H2 (upd (upd H2 l (.tup (nV t.2.2))) D0 (.lst (ws ++ [.ref l]))):=by
     refine((qa0x hl' (.tup (nV t.2.2))).keep).trans ⟨fun b xs h=>?_,fun b c u h=>?_,fun b u s _=>s.elim⟩
     ·rw [qa0j (fun z=>by rw [z,hDl] at h;cases h)];exact h
     ·rw [qa0j (fun z=>by rw [z,hDl] at h;cases h)];exact h
    rw [take_add_one,ht,toList_some,map_append];refine(qa0c.mono kp _ _ hw).snoc ?_;show AtD _ _ _ (.tuple ((t.2.2.map fun(c:Nat)=>(c:Int)).map .int)) _;have en:nV t.2.2=(t.2.2.map fun(c:Nat)=>(c:Int)).map V.int:=by unfold nV;rw [map_map];rfl
    refine qa4c (SqT.of (xs:=nV t.2.2) (by rw [qa0j (Ne.symm dl),qa0k])) ?_;rw [en];exact qa0c.ints _
  ·rintro σ2 H2 ⟨u,ws,rfl,hf,hs,hD,hw⟩
   have lk:(kT3 T).length=T.length:=by unfold kT3;rw [length_map]
   rw [lk,take_length] at hw;have hD0H:H D0=none:=by
    have dp:p ≠ D0:=fun z=>by rw [z,hD] at hf;cases hf
    cases e:H D0 with
    | none=>rfl
    | some o'=>(rw [qa0j (Ne.symm dp),P.same _ _ e] at hD0;cases hD0)
   have egrp:(T.map fun t=>encT (t.2.2.map fun(c:Nat)=>(c:Int)))=(grpD ms).map encT:=by
    unfold grpD;rw [← P.eq,map_map,map_map];rfl
   rw [egrp] at hw;have lg:(grpD ms).length=T.length:=by
    unfold grpD;rw [← P.eq,length_map,length_map]
   refine⟨.ref D0,live c O,grpD ms,rfl,qa2o (R.frsLive D0 hD0H) hD (qa0c.more (fun _ z=>z.elim) _ _ hw),fun g hg=>?_,by rw [lg];have:=P.len;omega,fun p2 xs' hp2 hA'=>?_⟩
   ·unfold grpD at hg
    rw [← P.eq,map_map] at hg;obtain⟨t,ht,rfl⟩:=mem_map.mp hg;intro z;exact(P.pl t ht).1 (List.map_eq_nil_iff.mp z)
   ·refine⟨p2,xs',rfl,.inl ⟨SqL.of qa0k,fun l3 hl3=>?_⟩⟩
    have sA:Same H H2:=fun b o' h=>hs b o' (fun z=>by rw [z,hp] at h;cases h) (P.same _ _ h);have sB:Same H2 (upd (upd H2 p2 (.lst xs')) l3 (.tup xs')):=fun b o' h=>qa0x hl3 _ _ _ (qa0x hp2 _ _ _ h);exact E.rt (.d (.tuple ((Sx.srtT (grpD ms)).map encT))) O ρ σ _ _ ⟨R.grow (fun b o' h=>sB _ _ (sA _ _ h)),qa4c (SqT.of qa0k) (qa0c.mono sB.keep _ _ hA')⟩ q
end
section
def valsN:∀ {us:List Value} {ns:List Int},IntsAre us ns->Vals (ns.map V.int) us
 | [],_,h=>by cases h;exact .nil
 | u :: r,_,h=>by
  cases h with
  | cons n t h=>exact .cons ⟨t,rfl⟩ (valsN h)
def qc6u{X:Cx}{pins:List 'g'}{σ:St}{H:Hp}{s:Shared}{a:Addr}{ys:List V}(I:Inv X pins σ H s)(h:SqL X.K H a ys ∨ SqT X.K H a ys) :
  ∃ (its:List Value) (T:String) (o:Obj) (n:Nat),Vals ys its/\(T = "list" ∨ T = "tuple")/\s.heap.get? a=some o/\o.cls=.type T/\o.data=.seq its.toArray n/\ys.length <= sizeLine:=by
 rcases h with h | h
 ·obtain⟨its,rv,⟨o,n,e,c,_,d⟩,z⟩:=I.list h
  exact⟨its,"list",o,n,rv,.inl rfl,e,c,d,z⟩
 ·obtain⟨its,rv,⟨o,e,c,n,d⟩,z⟩:=I.tuple h
  exact⟨its,"tuple",o,n,rv,.inr rfl,e,c,d,z⟩
noncomputable def rSortN(K:W.Frag):List V->Hp->VK->Prop:=fun xs H Q=>∃ a,∃ ns:List Int,xs=[.ref a]/\(SqL K H a (ns.map V.int) ∨ SqT K H a (ns.map V.int))/\ns.length < 64/\∀ p,H p=none->Q (.ref p) (upd H p (.lst ((Sx.srtI ns).map V.int)))
def qa8g{X:Cx}:qa2e X (.builtin "sorted") (rSortN X.K):=by
 intro pins s σ H xs us Q I rs h;obtain⟨a,ns,rfl,ha,hn,q⟩:=h;obtain⟨u,rfl,rx⟩:=vals1 rs;cases rx;obtain⟨its,T,o,n,rv,hT,ho,hc,hd,hz⟩:=qc6u I ha;have hI:IntsAre its ns:=intsAre_of rv;have hl:its.length=ns.length:=by rw [← rv.length,length_map]
 refine call_function_entry kind_sorted plain_sorted entry_sorted (args_sorted1 _) ?_;unfold Builtin.«sorted»;refine wpAny_bind (m:=checkCount "sorted" 1 1 _) (wpAny_pure (wpAny_bind (wpAny_collect_seq a hT ho hc hd (fun h' kp=>?_) (by rw [size_toArray,sizeLine_eq];omega))));refine wpAny_bind (wpAny_newList ?_ (by rw [sizeLine_eq];show its.length <= _;omega));have oL:(h'.push (seqObj "list" its.toArray 0)).get? h'.objs.size=some (seqObj "list" its.toArray 0):=get?_push_size _ rfl;show wpAny _ _ _ _ _ { s with heap:=h'.push (seqObj "list" its.toArray 0) };refine wpAny_bind (wpAny_holding (wpAny_call_entry slot_list_sort ⟨_,oL,rfl⟩ entry_list_sort (list_sort_tree oL hI 'o' fun out ns' h1 h2 h3=>⟨_,rfl,?_⟩) (args_list_sort _)));have eq:=Sx.qa4z h2 h3;subst eq;refine wpAny_pure ⟨_,rfl,?_⟩;obtain⟨e,he⟩:=sortedHeap_at (out:=out) oL;have hle:((Sx.srtI ns).map V.int).length <= sizeLine:=by
  rw [length_map,h2.length_eq,sizeLine_eq];omega
 have I1:Inv X pins σ H { s with heap:=h' }:=I.kept (t':=s.toks) kp;refine⟨.ref h'.objs.size,_,I1.laid (a:=h'.objs.size) (o:=.lst ((Sx.srtI ns).map V.int)) (t':=s.toks) (fun b o q=>?_) 'e' ⟨hle,_,e,valsN h1,he⟩,rfl,q _ (I1.hok.fresh 'e')⟩;have hb:b < h'.objs.size:=lt_size q;rw [sortedHeap_old (ne_of_lt hb) (by rw [size_push'];exact lt_succ_of_lt hb)];exact get?_push_of_some _ q
noncomputable def qb7a:FC:=fun ds=>match ds with
 | [d]=>(seqD d).bind fun xs=>(qa2x xs).bind fun ns=>if ns.length < 64 then some (.list ((Sx.srtI ns).map .int)) else none
 | _=>none
def qb1v{K:W.Frag}:AdC K (rSortN K) qb7a:=by
 intro S H vs ds z Q f h e k;unfold qb7a at e;split at e
 ·rename_i d
  obtain⟨xs,q0,e1⟩:=bind_eq_some_iff.mp e;obtain⟨ns,q1,e2⟩:=bind_eq_some_iff.mp e1;split at e2
  ·rename_i hl
   cases e2
   obtain⟨v,rfl,h1⟩:=h.one;obtain⟨a,ys,rfl,sq,al⟩:=h1.seq q0;have ex:=ints_map q1;subst ex;have ey:=ints_of_all al;subst ey;exact⟨a,ns,rfl,sq,hl,fun p hp=>k _ _ (qa0x hp _) (qa2o (f p hp) qa0k qa7q)⟩
  ·cases e2
 ·cases e
def qb5m{ns:List Int}(h:ns.length < 64):qb7a [.list (ns.map .int)]=some (.list ((Sx.srtI ns).map .int)):=by
 show(qa2x (ns.map .int)).bind _=_;rw [ints_of,bind_some,if_pos h]
def qd5l{ns:List Int}(h:ns.length < 64):qb7a [.tuple (ns.map .int)]=some (.list ((Sx.srtI ns).map .int)):=by
 show(qa2x (ns.map .int)).bind _=_;rw [ints_of,bind_some,if_pos h]
noncomputable def rSrtTT(K:W.Frag):List V->Hp->VK->Prop:=fun xs H Q=>∃ v S,∃ tss:List 'f',xs=[v]/\AtD K H S (.tuple (tss.map encT)) v/\(∀ t ∈ tss,t ≠ [])/\tss.length < 64/\∀ p xs',H p=none->qa0c K H S ((Sx.srtT tss).map encT) xs'->Q (.ref p) (upd H p (.lst xs'))
def qc8t{X:Cx}:qa2e X (.builtin "sorted") (rSrtTT X.K):=by
 intro pins s σ H xs us Q I rs h;obtain⟨v,S,tss,rfl,hd,hne,hn,q⟩:=h;obtain⟨u,rfl,r⟩:=vals1 rs;obtain⟨a,ys,rfl,hq,t⟩:=qa3d hd;cases r;obtain⟨its,T,o,n,rv,hT,ho,hc,hdt,hz⟩:=qc6u I (.inr hq);have hl:its.length=tss.length:=by rw [← rv.length,t.length,length_map]
 refine call_function_entry kind_sorted plain_sorted entry_sorted (args_sorted1 _) ?_;unfold Builtin.«sorted»;refine wpAny_bind (m:=checkCount "sorted" 1 1 _) (wpAny_pure (wpAny_bind (wpAny_collect_seq a hT ho hc hdt (fun h' kp=>?_) (by rw [size_toArray,sizeLine_eq];omega))));refine wpAny_bind (wpAny_newList ?_ (by rw [sizeLine_eq];show its.length <= _;omega));have oL:(h'.push (seqObj "list" its.toArray 0)).get? h'.objs.size=some (seqObj "list" its.toArray 0):=get?_push_size _ rfl;show wpAny _ _ _ _ _ { s with heap:=h'.push (seqObj "list" its.toArray 0) };have keep:∀ b o,s.heap.get? b=some o->((((h'.push (seqObj "list" its.toArray 0)).update h'.objs.size (Obj.mapSeq fun _=>#[])).push (seqObj "tuple" its.toArray 0)).push (seqObj "list" #[] 0)).get? b=some o:=fun b o q=>by
  have q2:=kp b o q;have hlt:b < h'.objs.size:=lt_size q2;refine get?_push_of_some _ (get?_push_of_some _ ?_);rw [Heap.get?_update_ne _ _ _ _ (ne_of_lt hlt)];exact get?_push_of_some _ q2
 refine wpAny_bind (wpAny_holding (wpAny_call_entry slot_list_sort ⟨_,oL,rfl⟩ entry_list_sort (Sx.qb9c oL 'o' hl.symm (fun i hi=>qb4o (qc1q I hne t rv i hi) keep) fun is hp he=>⟨_,rfl,?_⟩) (args_list_sort _)));refine wpAny_pure ⟨_,rfl,?_⟩;have hin:∀ i ∈ is,i < its.length:=fun i hi=>mem_range.mp (hp.mem_iff.mp hi);have a1:=qb1r t is (fun i hi=>by have:=hin i hi;omega);rw [he] at a1;have v1:=qb3e rv is (fun i hi=>by have:=hin i hi;rw [rv.length];exact this);obtain⟨e,hoe⟩:=sortedHeap_at (out:=(is.map fun i=>its.getD i Value.none).toArray) oL;have hle:(is.map fun i=>ys.getD i V.non).length <= sizeLine:=by
  rw [length_map,hp.length_eq,length_range,sizeLine_eq];omega
 have I1:Inv X pins σ H { s with heap:=h' }:=I.kept (t':=s.toks) kp;refine⟨.ref h'.objs.size,_,I1.laid (a:=h'.objs.size) (o:=.lst (is.map fun i=>ys.getD i V.non)) (t':=s.toks) (fun b o q=>?_) 'e' ⟨hle,_,e,v1,hoe⟩,rfl,q _ _ (I1.hok.fresh 'e') a1⟩;have hb:b < h'.objs.size:=lt_size q;rw [sortedHeap_old (ne_of_lt hb) (by rw [size_push'];exact lt_succ_of_lt hb)];exact get?_push_of_some _ q
noncomputable def qc2f:FC:=fun ds=>match ds with
 | [.tuple xs]=>(qa8f xs).bind fun tss=>if (tss.all fun t=>!t.isEmpty)=true/\tss.length < 64 then some (.list ((Sx.srtT tss).map encT)) else none
 | _=>none
def qd5m{K:W.Frag}:AdC K (rSrtTT K) qc2f:=by
 intro S H vs ds z Q f h e k;unfold qc2f at e;split at e
 ·rename_i xs
  obtain⟨tss,q1,e2⟩:=bind_eq_some_iff.mp e;split at e2
  ·rename_i hc
   cases e2
   obtain⟨v,rfl,h1⟩:=h.one;have e1:=qb3f q1;subst e1;refine⟨v,Any,tss,rfl,h1.any,fun t ht hn=>?_,hc.2,fun p xs' hp ha=>k _ _ (qa0x hp _) (qa2o (f p hp) qa0k ((qb5g ha).same (qa0x hp _)))⟩;have:=all_eq_true.mp hc.1 t ht;rw [hn] at this;cases this
  ·cases e2
 ·cases e
def qd1w{tss:List 'f'}(h:∀ t ∈ tss,t ≠ [])(h2:tss.length < 64):qc2f [.tuple (tss.map encT)]=some (.list ((Sx.srtT tss).map encT)):=by
 show(qa8f (tss.map encT)).bind _=_;rw [qb5i,bind_some,if_pos ⟨all_eq_true.mpr fun t ht=>by
  have:=h t ht;cases t with
  | nil=>exact absurd rfl this
  | cons _ _=>rfl,h2⟩]
end
end L2
section
namespace PySem
open Sem (wp)
open AutoSeq1 (wpAny_loadPart')
def qd5n(l:Addr)(items:Array Value)(n:Nat)(dct:Option Addr)(sl:Array (Option Value)):Meets (Builtin.«enumerate.__new__» ⟨[.type "enumerate",.ref l],[]⟩) (fun _ R s=>s.heap.get? l=some { cls:=.type "tuple",dict:=dct,data:=.seq items n,slots:=sl }/\R (.ok (.ret (.ref (s.heap.push { cls:=.type "tuple_iterator",data:=.fields #[.ref l,.int 0 0] }).objs.size))) { s with heap:=(s.heap.push { cls:=.type "tuple_iterator",data:=.fields #[.ref l,.int 0 0] }).push { cls:=.type "enumerate",data:=.fields #[.none,.bool false,.ref s.heap.objs.size,rawInt 0,.none,.none] } }):=
 .of_wp fun prog w A R s h=>by
  obtain⟨hp,g,d,tk,os⟩:=s;obtain⟨hl,h⟩:=h;have hsub:=sub_enumerate;have hL:Heap.IsTuple (Shared.heap ⟨hp,g,d,tk,os⟩) l items:=⟨_,hl,rfl,n,rfl⟩
  wp_walk using wpAny_loadPart' hl
  refine wpAny_stack_any fun st=>wpAny_pure ?_;split
  ·rename_i c _ _ _ _ _
   cases (c == Value.type "enumerate")<;>(wp_walk using wpAny_loadPart' hl,wpAny_pyIter_tuple hL;exact⟨_,rfl,h⟩)
  ·wp_walk using wpAny_loadPart' hl,wpAny_pyIter_tuple hL
   exact⟨_,rfl,h⟩
def qc8u{prog:Program}{w:World}{A:Around}{E:Value->Shared->Prop}{s:Shared}{l:Addr}{items:Array Value}{Q:Value->Shared->Prop}(hL:s.heap.IsTuple l items)(h:∀ h',IsEnum h' (s.heap.objs.size + 1) s.heap.objs.size 0 .none->h'.IsTupleIter s.heap.objs.size l 0->(∀ b o,s.heap.get? b=some o->h'.get? b=some o)->Q (.ref (s.heap.objs.size + 1)) { s with heap:=h' }):wpAny (model prog w) A (call (.type "enumerate") [.ref l]) Q E s:=by
 obtain⟨⟨c,dct,dt,sl⟩,hl,hc,n,hd⟩:=hL;have hc:c=.type "tuple":=hc;have hd:dt=.seq items n:=hd;subst hc;subst hd;refine callType_new F.called_enumerate 'd' (F.typeCall_enumerate_1 _) (F.newCall_enumerate_1 _) (fun obj=>F.args_object_init_2 obj _) F.entry_enumerate_new (qd5n l items n dct sl) ⟨hl,?_⟩;have hz:(s.heap.push { cls:=.type "tuple_iterator",data:=.fields #[.ref l,.int 0 0] }).objs.size=s.heap.objs.size + 1:=size_push ..;show _/\_;rw [hz];have he:IsEnum ((s.heap.push { cls:=.type "tuple_iterator",data:=.fields #[.ref l,.int 0 0] }).push { cls:=.type "enumerate",data:=.fields #[.none,.bool false,.ref s.heap.objs.size,rawInt 0,.none,.none] }) (s.heap.objs.size + 1) s.heap.objs.size 0 .none:=by
  have:=get?_push_size (s.heap.push { cls:=.type "tuple_iterator",data:=.fields #[.ref l,.int 0 0] }) (o:={ cls:=.type "enumerate",data:=.fields #[.none,.bool false,.ref s.heap.objs.size,rawInt 0,.none,.none] }) rfl;rw [hz] at this;exact this
 exact⟨⟨_,he,rfl⟩,h _ he ⟨_,get?_push_of_some _ (get?_push_size _ rfl),rfl,rfl⟩ fun b o x=>get?_push_of_some _ (get?_push_of_some _ x)⟩
end PySem
namespace L2
open PySem PySem.Spec PyProof.Rows
def qb9e{prog:Program}{w:World}{A:Around}(hh:A.handled=none)(it l:Addr)(hne:l ≠ it)(items:Array Value):Draws prog w A it [it,l] items.size (fun i v=>items[i]? = some v) (fun i h=>h.IsTupleIter it l i/\h.IsTuple l items) where
 live:=fun _ _ st=>by obtain⟨⟨o,ho,_⟩,_⟩:=st;exact⟨o,ho⟩
 frame:=fun _ _ _ st hk=>by
  obtain⟨⟨o,g,r⟩,⟨o2,g2,r2⟩⟩:=st;exact⟨⟨o,hk it 'h' o g,r⟩,⟨o2,hk l 'h' o2 g2,r2⟩⟩
 item:=fun i s Q E hi st hQ=>by
  refine qd4h st.1 st.2 (x:=items[i]) (by simp [hi]) fun h' hit' hs'=>?_;obtain⟨o2,g2,r2⟩:=st.2;exact hQ _ h' s.toks (by simp [hi]) ⟨hit',⟨o2,hs'.extBut _ _ hne g2,r2⟩⟩ hs'
 done:=fun s Q E st hE=>nxT_end hh st.1 st.2 'h' hE
noncomputable def IteT(K:W.Frag)(a:Addr):It:=
 ⟨fun i H=>∃ xs x,SqT K H a xs/\xs[i]? = some x,fun i H v H'=>∃ T x,v=.ref T/\H T=none/\H'=upd H T (.tup [.int i,x])/\∀ xs,SqT K H a xs->xs[i]? = some x,fun i H=>∃ xs,SqT K H a xs/\xs.length=i⟩
def EStT(e it a:Addr)(i:Nat)(h:Heap):Prop:=(∃ old,IsEnum h e it i old)/\h.IsTupleIter it a i
def qc8v{P:Program}{w:World}{K:W.Frag}{elts:List Expr}{kk:Nat}{tp:Pos}{e it a:Addr}(ne:e ≠ it):Turn P w K (.Tuple elts kk tp) (IteT K a) [e,it] e (EStT e it a) where
 mem:=by simp
 obj:=fun i h st c hc=>by
  obtain⟨⟨old,x1⟩,x2⟩:=st;have hc:c=e ∨ c=it:=by simpa using hc
  rcases hc with rfl | rfl
  ·exact⟨_,x1,fun v y=>by cases (show Data.fields _=Data.cell v from y)⟩
  ·obtain⟨o,g,_,d⟩:=x2
   exact⟨o,g,fun v y=>by rw [d] at y;cases y⟩
 keep:=fun i h h' st k=>by
  obtain⟨⟨old,x1⟩,⟨o,g,r⟩⟩:=st;exact⟨⟨old,k e 'h' _ x1⟩,⟨o,k it 'h' o g,r⟩⟩
 item:=by
  intro X hP hw hK hc i pins s σ H E I hf st hg;subst hP hw hK;obtain⟨xs,x,hq,hx⟩:=hg;obtain⟨⟨old,x1⟩,x2⟩:=id st;obtain⟨its,rv,⟨ot,gt,ct,nt,dt⟩,_⟩:=I.tuple hq;obtain⟨u,hu,ru⟩:=rv.get hx;have hai:a ≠ it:=fun z=>by
   obtain⟨o,g,c,_⟩:=x2;rw [← z,gt] at g;cases g;rw [ct] at c;exact absurd c 'd'
  have hae:e ≠ a:=fun z=>by
   have g:s.heap.get? e=_:=x1;rw [z,gt] at g;cases g;exact absurd (show Value.type "enumerate" = Value.type "tuple" from ct) 'd'
  have lt:∀ c ∈ [e,it],c < s.heap.objs.size:=fun c hc=>by
   have hc:c=e ∨ c=it:=by simpa using hc
   rcases hc with rfl | rfl
   ·exact lt_size x1
   ·obtain⟨o,g,_⟩:=x2;exact lt_size g
  have hsz:i < its.toArray.size:=by
   have:=(List.getElem?_eq_some_iff.mp hu).1;simpa using this
  refine wpAny_pyNext_enum_itemD (qb9e (A:=X.A.in1) (I.ok.hd hc) it a hai its.toArray) x1 ⟨x2,⟨ot,gt,ct,nt,dt⟩⟩ hsz ne (by simp [ne,hae]) fun y h1 tk hy j1 j2 j3 j4 j5=>⟨_,rfl,wpAny_letOwnedTupleGo_enum j1 fun h2 e2 s2=>?_⟩;have ey:y=u:=by
   have hy':its[i]? = some y:=by simpa using hy
   rw [hu] at hy';exact(Option.some.inj hy').symm
  subst ey;have up:∀ c o,c ≠ e->h1.get? c=some o->h2.get? c=some o:=fun c o d g=>s2.extBut _ _ d g;have I1:Inv X pins σ (upd H s.heap.objs.size (.tup [.int i,x])) { s with heap:=s.heap.push { cls:=.type "tuple",data:=.seq [Value.int i tk,y].toArray } }:=
   I.laid (t':=s.toks) (fun b o e=>get?_push_of_some _ e) 'e' (show qa1v X.prog X.w _ _ _ (.tup [.int i,x]) from⟨by show 2 <= sizeLine;decide,[Value.int i tk,y],.cons ⟨_,rfl⟩ (.cons ru .nil),qa4k.new _ _⟩)
  have fpn:∀ c ∈ [e,it],(upd H s.heap.objs.size (.tup [.int i,x])) c=none:=fun c hc=>by rw [qa0j (ne_of_lt (lt c hc))];exact(hf c hc).1
  have I2:Inv X pins σ (upd H s.heap.objs.size (.tup [.int i,x])) { s with heap:=h2,toks:=tk + 1 }:=by
   refine Inv.turnedL (s:={ s with heap:=s.heap.push { cls:=.type "tuple",data:=.seq [Value.int i tk,y].toArray } }) (t':=tk + 1) (ch:=[e,it]) I1 (fun c o hc g=>?_) fun c hc=>⟨fpn c hc,(hf c hc).2⟩;have g:(s.heap.push { cls:=.type "tuple",data:=.seq [Value.int i tk,y].toArray }).get? c=some o:=g;have hc:c ≠ e/\c ≠ it:=by simpa using hc
   refine up c o hc.1 ?_;rcases Heap.get?_push_cases g with⟨rfl,rfl⟩ | g'
   ·exact j3
   ·exact j5 c o hc.1 hc.2 g'
  refine⟨.ref s.heap.objs.size,_,I2,rfl,⟨_,x,rfl,I.hok.fresh 'e',rfl,fun zs hz=>by rw [I.tuple_inj hz hq];exact hx⟩,⟨⟨_,by simpa using e2⟩,?_⟩,fpn⟩;obtain⟨o,g,r⟩:=j2.1;exact⟨o,up _ _ (Ne.symm ne) g,r⟩
 done:=by
  intro X hP hw hK hc i pins s σ H E I hf st hg;subst hP hw hK;obtain⟨xs,hq,hx⟩:=hg;obtain⟨⟨old,x1⟩,x2⟩:=id st;obtain⟨its,rv,⟨ot,gt,ct,nt,dt⟩,_⟩:=I.tuple hq;have hai:a ≠ it:=fun z=>by
   obtain⟨o,g,c,_⟩:=x2;rw [← z,gt] at g;cases g;rw [ct] at c;exact absurd c 'd'
  have hl:=rv.length;have en:i=its.toArray.size:=by rw [size_toArray,← hl,hx]
  subst en;refine wpAny_pyNext_enum_endD (qb9e (A:=X.A.in1) (I.ok.hd hc) it a hai its.toArray) x1 ⟨x2,⟨ot,gt,ct,nt,dt⟩⟩ fun h1 j=>⟨rfl,?_⟩;exact I.turnedL (t':=s.toks) (ch:=[e,it]) (fun c o hc g=>j c o (fun z=>hc (by simp [z])) g) hf
 self:=fun _ _ _ _ _ st h=>by obtain⟨⟨old,x1⟩,_⟩:=st;exact wpAny_pyIter_enum x1 h
section
variable{X:Cx}
def qc2g(K:W.Frag)(ta:TE):TI:=fun σ H R=>ta σ H fun x H1=>∃ a xs,x=.ref a/\SqT K H1 a xs/\R (IteT K a) H1
def qd5o{l:Expr}{tl:TE}{p pos tp:Pos}{elts:List Expr}{kk:Nat} (hg:Gl X "enumerate") (hm:X.mg "enumerate" = none) (hl:PE X l tl) (hs:starEach [l] X.env=[(false,eval l X.env)]:=by rfl) :
  PI X (.Tuple elts kk tp) (.Call (.Name "enumerate" p) [l] [] pos) (qc2g X.K tl):=by
 intro pins s σ H R I h;refine Call_ (qa4r I hg hm qb2w (PyProof.Rows.callWith_type1 (thn ((qa1f (t:=tNil) hl qa2j hs) pos pins s σ H (fun vs H1=>∃ a xs,vs=[.ref a]/\SqT X.K H1 a xs/\R (IteT X.K a) H1) I ?_) fun us s1 ⟨vs,H1,I1,r1,q1⟩=>?_) hs rfl))
 ·show tl σ H fun x H1=>∃ a xs,[x]=[V.ref a]/\SqT X.K H1 a xs/\R (IteT X.K a) H1
  simpa [qc2g] using h
 ·obtain⟨a,xs,rfl,hq,q⟩:=q1
  obtain⟨u,rfl,ru⟩:=r1.one;cases ru;obtain⟨its,rv,⟨ot,gt,ct,nt,dt⟩,hz⟩:=I1.tuple hq;refine qc8u ⟨ot,gt,ct,nt,dt⟩ fun h' j1 j2 j4=>wpAny_pyIter_enum j1 ⟨s1.heap.objs.size + 1,[s1.heap.objs.size + 1,s1.heap.objs.size],_,_,H1,rfl,I1.kept (t':=s1.toks) j4,qc8v (Nat.succ_ne_self _),⟨⟨_,j1⟩,j2⟩,fun c hc=>?_,q⟩;have hc:c=s1.heap.objs.size + 1 ∨ c=s1.heap.objs.size:=by simpa using hc
  have ge:s1.heap.objs.size <= c:=by rcases hc with rfl | rfl;exact le_succ _;exact le_refl _
  exact I1.fpOk ge (I1.hok.fresh ge)
end
section
variable{K:W.Frag}{S:Addr->Prop}{H:Hp}
def qc2h{a:Addr}{vs:List V}{xs:List PyData}(h1:SqT K H a vs)(h2:qa0c K H S xs vs):qb0x K S H (IteT K a) (qa8d xs):=fun S' H' P=>by
 obtain⟨b,ws,e,h3,h4⟩:=qa3d (P _ _ (qa4c h1 h2));cases e;refine⟨fun i x e=>?_,⟨ws,h3,by rw [qb2x,h4.length]⟩⟩;rw [qb8x] at e;obtain⟨y,ey,rfl⟩:=map_eq_some_iff.mp e;obtain⟨w,e1,e2⟩:=h4.get ey;refine⟨⟨ws,w,h3,e1⟩,fun v H'' q=>?_⟩;obtain⟨T,x',rfl,hT,rfl,k⟩:=q;have q1:=k _ h3;rw [e1] at q1;cases q1;exact⟨qa0x hT _,qa9j hT (.cons (qa2n _) (.cons e2 .nil))⟩
def qb8a(de:TDE):TDI:=fun ρ Q=>de ρ fun x ρ1=>fz ρ1 x fun y ρ2=>need (match y with | .tuple xs=>some xs | _=>none) fun xs=>Q (qa8d xs) ρ2
def qd5p{t:TE}{de:TDE}(h:AdE K t de):AdI K (qc2g K t) (qb8a de):=fun c O ρ σ H Qd Q R q k =>
 h c O ρ σ H _ _ R q fun x ρ1 O1 v H1 h1 R1 P1 a1=>by
  obtain⟨y,ρ2,O2,hz1,R2,P2,a2⟩:=R1.fz a1 h1;obtain⟨xs,e,h2⟩:=ne (hz1);cases y with
  | tuple ys =>
   cases e
   obtain⟨a,vs,rfl,h3,h4⟩:=qa3d a2;exact⟨a,vs,rfl,h3,k _ _ _ _ _ h2 R2 (P1.trans P2) (qc2h h3 h4)⟩
  | _=>cases e
end
def qd5q{X:Cx}{l:Expr}{de:TDE}{p pos tp:Pos}{elts:List Expr}{kk:Nat} (hg:Gl X "enumerate") (hm:X.mg "enumerate" = none) (hl:DE X l de) (hs:starEach [l] X.env=[(false,eval l X.env)]:=by rfl) :
  DI X (.Tuple elts kk tp) (.Call (.Name "enumerate" p) [l] [] pos) (qb8a de):=by obtain⟨_,p,a⟩:=hl;exact⟨_,qd5o hg hm p hs,qd5p a⟩
theorem qd1x{de:TDE}{ρ:Rho}{Q:List PyData->Rho->Prop}:qb8a de ρ Q=de ρ fun x ρ1=>fz ρ1 x fun y ρ2=>need (match y with | .tuple xs=>some xs | _=>none) fun xs=>Q (qa8d xs) ρ2:=rfl
end L2
end
namespace L2
open PySem PySem.Spec PyProof.Rows
section
noncomputable def rReprN(K:W.Frag):List V->Hp->VK->Prop:=fun xs H Q=>rRepr K xs H Q ∨ (xs=[.non]/\Q (.str "None") H)
def qb7b{X:Cx}(hg:X.A.guards=some [])(hu:X.A.units + 80 < cLine):qa2e X (.builtin "repr") (rReprN X.K):=by
 intro pins s σ H xs us Q I rs h;rcases h with h | ⟨rfl,q⟩
 ·exact qd1i hg hu pins s σ H xs us Q I rs h
 ·obtain⟨u,rfl,r⟩:=vals1 rs
  cases (show u=.none from r)
  exact call_repr_gives (typeIs_none s) F.slot_NoneType_repr F.entry_NoneType_repr (F.args_NoneType_repr_1 _) gives_none_repr ⟨.str _,H,I.tok _,⟨_,rfl⟩,q⟩
noncomputable def qc2i:FC:=fun ds=>match ds with
 | [.none]=>some (.str "None")
 | ds=>fRepr ds
def qc2j{K:W.Frag}:AdC K (rReprN K) qc2i:=by
 intro S H vs ds z Q f h e k;unfold qc2i at e;split at e
 ·cases e
  obtain⟨v,rfl,h1⟩:=h.one;exact .inr ⟨by rw [h1.none],k _ _ (Same.refl _) (qa4x _)⟩
 ·exact .inl (ad_repr _ _ _ _ _ _ f h e k)
def qc2k{xs:List PyData}(h:qa7r (.tuple xs)=true):qc2i [.tuple xs]=some (.str (PyData.tuple xs).shown):=fRepr_t h
end
section
open AutoSeq1 (wpAny_loadPart')
section
variable{K:W.Frag}
def dExtL(i:Nat)(de:TDE):TDE:=fun ρ Q=>need (ownB ρ i) fun _=>de ρ fun x ρ1=>need (qa0q ρ1 x) fun dx=>∃ ys,dx=.list ys/\need (ownB ρ1 i) fun o=>o.2.length + ys.length <= 1000000/\Q (.d .none) (ρ1.set i (some (okL o.1 (o.2 ++ ys))))
end
section
variable{X:Cx}{e:Expr}{de:TDE}{pos:Pos}
theorem dExtL_a{i:Nat}{ρ:Rho}{Q:DV->Rho->Prop}{d1:TDE}:dExtL i d1 ρ Q=need (qa5i (ρ[i]?.join)) fun _=>d1 ρ fun x ρ1=>need (qa0q ρ1 x) fun dx=>∃ ys,dx=.list ys/\need (qa5i (ρ1[i]?.join)) fun o=>o.2.length + ys.length <= 1000000/\Q (.d .none) (ρ1.set i (some (okL o.1 (o.2 ++ ys)))):=rfl
end
end
section
section
variable{X:Cx}
open Classical in
end
end
section
section
open PySem.SeqAt PySem.MeetsSeq
variable{A:Around}{s:Shared}
end
section
variable{X:Cx}
open Classical in
end
section
variable{X:Cx}
def rNinP(K:W.Frag):R2:=fun x y H Q=>∃ S S' d p,∃ (ds:List PyData) (xs:List V),AtD K H S d x/\y=.ref p/\SqL K H p xs/\qa0c K H S' ds xs/\SeqAt.shaped d=true/\(∀ e ∈ ds,SeqAt.shaped e=true)/\Q (.bl (!ds.any fun e=>PyData.eqv e d)) H
open Classical in
def op_ninP(hu:X.A.units + 65 < cLine):OpR X (compareOp .NotIn) (rNinP X.K):=by
 intro pins s σ H x y v u Q I rx ry h;obtain⟨S,S',d,p,ds,xs,hd,rfl,hq,ht,sd,sds,q⟩:=h;cases ry;obtain⟨bs,rb⟩:=AtD.reads I d x v hd rx;obtain⟨its,r,pl,hz⟩:=I.list hq;have hl1:its.length=ds.length:=by rw [← r.length,ht.length]
 have at_:∀ i (hi:i < its.length) (hi2:i < ds.length),∃ as,Reads s.heap its[i] ds[i] as:=fun i hi hi2=>by
  obtain⟨xv,e1,hdi⟩:=ht.get (i:=i) (d:=ds[i]) (getElem?_eq_getElem hi2);obtain⟨uv,e2,rv⟩:=r.get e1;rw [getElem?_eq_getElem hi] at e2;cases e2;exact AtD.reads I _ _ _ hdi rv
 let f:Value->Bool:=fun w=>decide (∃ e as,Reads s.heap w e as/\e ∈ ds/\PyData.eqv e d=true)
 have fv:∀ i (hi:i < its.length) (hi2:i < ds.length),f its[i]=PyData.eqv ds[i] d:=fun i hi hi2=>by
  obtain⟨as,ra⟩:=at_ i hi hi2;cases hq:PyData.eqv ds[i] d with
  | true=>exact decide_eq_true ⟨_,as,ra,getElem_mem hi2,hq⟩
  | false =>
   refine decide_eq_false ?_;rintro⟨e,as',ra',hm,he⟩;have e1:=SeqAt.Reads.unique ds[i] _ _ _ _ (SeqAt.canLay_of_shaped (sds _ (getElem_mem hi2))) ra ra';rw [← e1,hq] at he;cases he
 refine SeqAt.notIn_listAt f pl.isList (fun w hw=>?_) ⟨.bl _,H,I,rfl,?_⟩
 ·obtain⟨i,hi,rfl⟩:=getElem_of_mem (show w ∈ its by simpa using hw)
  obtain⟨as,ra⟩:=at_ i hi 'o';have s1:=sds _ (getElem_mem (show i < ds.length by omega));rw [fv i hi 'o'];exact SeqAt.eqAt_reads _ d X.A.in1 s _ v as bs ra rb (SeqAt.canLay_of_shaped s1) (SeqAt.canLay_of_shaped sd) (SeqAt.room_of_shaped s1 (by show X.A.units + 1 + 64 < cLine;omega))
 ·have e:its.toArray.any f=ds.any fun e=>PyData.eqv e d:=by
   rw [List.any_toArray,Bool.eq_iff_iff,any_eq_true,any_eq_true];constructor
   ·rintro⟨w,hw,hf⟩
    obtain⟨i,hi,rfl⟩:=getElem_of_mem hw;rw [fv i hi 'o'] at hf;exact⟨_,getElem_mem 'o',hf⟩
   ·rintro⟨w,hw,hf⟩
    obtain⟨i,hi,rfl⟩:=getElem_of_mem hw;rw [← fv i 'o' hi] at hf;exact⟨_,getElem_mem 'o',hf⟩
  rw [e];exact q
end
noncomputable def fNinP:F2:=fun x y=>match y with
 | .list ds=>if (SeqAt.shaped x && ds.all SeqAt.shaped)=true then some (.bool (!ds.any fun e=>PyData.eqv e x)) else none
 | _=>none
def qd5r{x:PyData}{ds:List PyData}(h1:SeqAt.shaped x=true)(h2:∀ e ∈ ds,SeqAt.shaped e=true):fNinP x (.list ds)=some (.bool (!ds.any fun e=>PyData.eqv e x)):=if_pos (by rw [h1,Bool.true_and];exact all_eq_true.mpr h2)
def ad_ninP{K:W.Frag}:AdR K (rNinP K) fNinP:=by
 intro S H x y dx dy z Q f hx hy e k;unfold fNinP at e;split at e
 ·rename_i ds
  split at e
  ·rename_i hc
   cases e
   obtain⟨h1,h2⟩:=Bool.and_eq_true_iff.mp hc;obtain⟨a,vs,rfl,h3,h4⟩:=hy.list;exact⟨Any,S,dx,a,ds,vs,hx.any,rfl,SqL.of h3,h4,h1,all_eq_true.mp h2,k _ _ (Same.refl _) (qa2m _)⟩
  ·cases e
 ·cases e
section
variable{K:W.Frag}
variable{X:Cx}{e1:Expr}{daa:TDA}{pos:Pos}
variable{d1:TDE}{da:TDA}{ρ:Rho}{Q:DV->Rho->Prop}
end
end
end L2
section
namespace K45
open PySem L2 Sn
variable{P:Program}{w:World}{K:W.Frag}{mg:Str->Option Value}{base:Heap}{n:Nat}
abbrev FU(K:W.Frag)(x:Str)(st:Stmt)(f:Addr)(fd:FuncData):=Fun K x x st f fd
abbrev FO(P:Program)(w:World)(K:W.Frag)(mg:Str->Option Value)(base:Heap)(n:Nat)(f:Addr)(fd:FuncData)(ps:List Str)(s:DSp):=FnOk P w K mg base CX0 n f fd ps (spD K s)
open Lean in
def dl45 (p : Bool) : MacroM (TSyntaxArray `Lean.Parser.Tactic.simpLemma) := (("↓itT ↓itF ↓qd5i ↓pStm_a ↓pIf_a ↓pSeq_a ↓pPut_a ↓dExtT_a ↓qd4i ↓qd1x ↓qd3o ↓dOpF_a ↓dIs2_a ↓dSU_a ↓dNeg_a mapC mapN qd3m ownBJ_o ownBJ_b ↓qd5c ↓dGetD_a ↓qd4n ↓diRev_a ↓dExtL_a ↓pass_fd ↓pass_fs flOf_n0 flOf_fd flOf_fs ↓diStr_a asSt_s fLeS_s ↓dSeq_a ↓dNilD_a ↓dInK_a fSlA_t ↓dNext_a ↓dIf_a ↓dDrop_a ↓dRet_a ↓dRetF_a ↓dSet_a ↓dSetF_a ↓dAsg_a ↓dFor_a ↓dVar_a ↓dC_a ↓dOp_a ↓dCB_a ↓dCBF_a ↓dTup_a ↓dLst_a ↓dFz_a ↓dNil_a ↓dCons_a ↓dB_a ↓dTru_a ↓dAnd_a ↓dOr_a ↓dNot_a ↓dIfE_a ↓dAndV_a ↓dOrV_a ↓dNotV_a ↓qd3n ↓dIs_a ↓qd0x ↓dPop_a ↓qd3p ↓dgTup_a ↓qd3q ↓diDat_a ↓qd3r ↓qd3s ↓pass_n ↓pass_t ↓fz_d ↓fz_sl ↓fzL_d ↓fzL_sl ↓fzs_n ↓fzs_c ↓dComp_a ↓dSl_a ↓qd4f ↓qd4g ↓dTab_a fTab_s asT_t flatD_s flatD_i inF_nil List.all_cons List.all_nil three_a ownB_j okL_o okL_b asI2_i asI_i ioJ_o ioJ_b ioJ_t fzJ_d fzJ_o fzLJ_d fzLJ_o fzLJ_s flOf_t fills_n fills_c qd3t qd3u qd3v qd3w qd3x qd3y relab_o relab_b relab_t lend_o lend_b lend_t lend_d lend_s flC_n flC_c capR_a deref_d qd3z qd4a qd4b qd4c qd4d qd4e asB_b tru_b tru_n tru_i tru_l tru_t seqD_l seqD_t mask_n mask_d mask_s mask_t mask_b qa3n qd0p fAdd_i fSub_i fCmp_i fLen_l fLen_t qd3k qd3l fList_l fList_t fIx_l fIx_t List.getElem?_cons_zero List.getElem?_cons_succ List.getElem?_nil List.set_cons_zero List.set_cons_succ Option.join_some Option.join_none Option.bind_some Option.bind_none Option.map_some Option.map_none Option.isSome_some List.length_cons List.length_nil List.cons_append List.nil_append qb6l Nat.reduceAdd Nat.reduceSub Bool.not_true Bool.not_false" ++ (if p then " ↓dgNil_a ↓pass_f atI_0 atI_1 atI_2 atI_3 atI_4 fIn_f fIn_fl inF_s inF_i Bool.and_self Bool.and_true Bool.or_false Bool.or_true Bool.true_or Bool.false_or flOf_n flOf_f qd3i qd3j qd0w List.map_cons List.map_nil List.replicate if_true if_false Bool.false_eq_true true_and and_true List.nodup_cons List.nodup_nil List.not_mem_nil not_false_eq_true List.mem_cons Nat.reduceLeDiff Nat.reduceLT reduceCtorEq Nat.zero_add Nat.reduceEqDiff false_or or_false" else "")).splitOn " ").toArray.mapM fun s => if s.startsWith "↓" then `(Parser.Tactic.simpLemma| ↓$(mkIdent (s.drop 1).toName):ident) else `(Parser.Tactic.simpLemma| $(mkIdent s.toName):ident)
local macro_rules | `(tactic| walk_at "p1") => do let a ← dl45 true; `(tactic| simp only [$[$a:simpLemma],*])
local macro_rules | `(tactic| walk_at "d1") => do let a ← dl45 false; `(tactic| first | dsimp only [$[$a:simpLemma],*] | walk_at "p1")
local macro_rules | `(tactic| lia) => `(tactic| (repeat first | (with_reducible refine qc6d ?_) | walk_at "d1"))
local macro_rules | `(tactic| walk_at "k1") => do let a ← dl45 true; `(tactic| simp +decide only [$[$a:simpLemma],*])
local macro_rules | `(tactic| walk_at "dk") => `(tactic| (repeat first | (with_reducible refine qc6d ?_) | walk_at "k1"))
local macro_rules | `(term| 't') => `((qa0m qa0i qa0n (dv 0) qa0d 'b'))
local macro_rules | `(term| 'u') => `((qa0m qa0i qa0n (dv 1) qa0d 'b'))
local macro_rules | `(term| 'v') => `((qa0g (qa0o qa3a)))
local macro_rules | `(term| 'w') => `((qa0a (dv 2) qa0b))
local macro_rules | `(term| 'x') => `((qa0a (dv 1) qa0b))
local macro_rules | `(term| 'y') => `((qa0a (dv 0) qa0b))
local macro_rules | `(term| 'z') => `((fun _ _ _=>qa2u))
local macro_rules | `(term| 'A') => `((fun _ _ _=>(dv 0)))
local macro_rules | `(term| 'B') => `((qa0m qa0i qa0n (dv 4) qa0d 'b'))
local macro_rules | `(term| 'C') => `((qa0a qa0d qa0b))
local macro_rules | `(term| 'D') => `((qa0a (dv 4) qa0b))
local macro_rules | `(term| 'E') => `((qa0a qa1e (qa0a qa1e (qa0a qa1e qa0b))))
local macro_rules | `(term| 'F') => `((qa1k (dv 0)))
local macro_rules | `(term| 'G') => `((fun ls Qd hq8=>by obtain⟨_,_,_,e,_⟩:=hq8;rw [e];rfl))
local macro_rules | `(term| 'H') => `((qa0a 't' qa0b))
noncomputable def top(i:Nat):Stmt:=PySem.Challenge.pw_worldsay_k45_worlds_changed.main.body.getD i (.Pass ⟨0,0,0,0⟩)
structure Bl(mg:Str->Option Value):Prop where
 len_:mg "len" = none
 range_:mg "range" = none
 tuple_:mg "tuple" = none
 bool_:mg "bool" = none
 isinstance_:mg "isinstance" = none
 reversed_:mg "reversed" = none
 max_:mg "max" = none
 zip_:mg "zip" = none
 list_:mg "list" = none
 str_:mg "str" = none
 enumerate_:mg "enumerate" = none
 dict_:mg "dict" = none
 sum_:mg "sum" = none
 int_:mg "int" = none
 min_:mg "min" = none
 sorted_:mg "sorted" = none
 all_:mg "all" = none
 set_:mg "set" = none
 repr_:mg "repr" = none
def spCell(K:W.Frag):Sp:=fun vs H Q _=>∃ (v:Addr) (ns:List Int) (k:Int),vs=[.ref v,.int k]/\SqL K H v (ns.map V.int)/\0 <= k/\∀ c:Int,(ns=[]->c=0)->Q (.int c) H
def spBy(K:W.Frag):Sp:=fun vs H Q _=>∃ (v:Addr) (ns:List Int) (k many:Int),vs=[.ref v,.int k,.int many]/\SqL K H v (ns.map V.int)/\ns.length <= 63/\0 <= k/\k <= 1000000/\0 < many/\∀ r:Int,0 <= r->r < many->Q (.int r) H
def spNext:DSp:=fun ls Q=>∃ (k:Nat) (many:Int),ls=[.tape k,.d (.int many)]/\0 < many/\k < 1000000/\∀ r:Int,0 <= r->r < many->Q (.d (.int r)) [some (.tape (k + 1)),none]
abbrev qa4o:Stmt:=top 30
def qb8b:FnScope ["_law_script","_law_k"] ["_law_script","_law_k"] (qa0l qa4o):='a'
def qc8w{f:Addr}{fd:FuncData} (F:FU K "_law_cell_at" qa4o f fd) (B:Bl mg):FnOk P w K mg base CX0 1 f fd ["_law_script","_law_k"] (spCell K):=by
 refine F.ok qb8b (fun vs H Q E h=>?_) (fun cdv A outer s H vs Q E hr h=>?_)
 ·obtain⟨v,ns,k,rfl,_⟩:=h
  rfl
 obtain⟨v,ns,k,rfl,hv,hk,q⟩:=h;refine⟨_,(qa2a (ps_if (qb3v op_gt (qa5l qa5u rfl B.len_ qa2r (qa1f (pv 0) qa2j)) qa2i (qa0u _))
  (qa3u (qa9c (pe_ix qb0s (pv 0) (qa3m qb0q (pv 1) (qa5l qa5u rfl B.len_ qa2r (qa1f (pv 0) qa2j))) 'b')))
  qb0n)
  (qa3u (qa9c qa2i))),?_⟩
 have hl:(ns.map V.int).length=ns.length:=length_map _;refine⟨_,rfl,v,_,rfl,.inl hv,_,_,rfl,rfl,_,rfl,?_⟩;rw [hl];refine ite2 (fun c=>?_) (fun c=>?_)
 ·have c':(0:Int) < (ns.length:Int):=of_decide_eq_true c
  refine⟨_,rfl,_,rfl,_,rfl,v,_,rfl,.inl hv,_,_,rfl,rfl,?_,?_⟩
  ·rw [hl];exact c'
  ·rw [hl]
   have m0:0 <= k % (ns.length:Int):=emod_nonneg _ 'o';have m1:k % (ns.length:Int) < (ns.length:Int):=Int.emod_lt_of_pos _ c';obtain⟨d,e1,e2,_⟩:=atI_in (xs:=ns.map V.int) m0 (by rw [hl];exact m1);obtain⟨n,_,rfl⟩:=mem_map.mp e2;exact⟨v,_,_,_,rfl,rfl,hv,e1,q n fun e=>by rw [e] at c';exact absurd c' 'd'⟩
 ·exact q 0 fun _=>rfl
abbrev qb1w:Stmt:=top 31
def qa7t:FnScope ["_law_script","_law_k","_law_many","_law_cell","_law_part","_law_seed"] ["_law_script","_law_k","_law_many"] (qa0l qb1w):='a'
def ok_by{f f1:Addr}{fd fd1:FuncData} (F:FU K "_law_by" qb1w f fd) (B:Bl mg) (qa3v:Def K mg "_law_cell_at" qa4o ["_law_script","_law_k"] f1 fd1):FnOk P w K mg base CX0 2 f fd ["_law_script","_law_k","_law_many"] (spBy K):=by
 have qb9k:FnOk P w K mg base CX0 1 f1 fd1 ["_law_script","_law_k"] (spCell K):=qc8w qa3v.fn B;refine F.ok qa7t (fun vs H Q E h=>?_) (fun cdv A outer s H vs Q E hr h=>?_)
 ·obtain⟨v,ns,k,many,rfl,_⟩:=h
  rfl
 obtain⟨v,ns,k,many,rfl,hv,hl,hk,hk2,hm,q⟩:=h;refine⟨_,(qa2a (qa4l (i:=3) qa7t.nd rfl 'c' (qb4y qa3v qb9k hr rfl (qa1f (pv 0) (qa1f (pv 1) qa2j))))
  (qa2a (qa4l (i:=4) qa7t.nd rfl 'c' qa2i)
  (qa2a (ps_if (qb3v op_ge (pv 3) (qa3m op_pow qa2i qa2i) (qa0u _))
  (qa3u (qa4l (i:=4) qa7t.nd rfl 'c' (qa3m op_shr (pv 3) (qa3m qb0p qa2i (qa3m op_fdiv (pv 1) (qa5l qa5u rfl B.len_ qa2r (qa1f (pv 0) qa2j)))))))
  qb0n)
  (qa2a (ps_if (qb3v op_gt (pv 4) qa2i (qa0u _))
  (qa3u (qa9c (qa3m qb0q (pv 4) (pv 2))))
  qb0n)
  (qa2a (qa4l (i:=5) qa7t.nd rfl 'c' (qa3m qb6a (qa3m qb6a (qa3m qb0q (pv 3) qa2i) (qa3m qb0p (qa3m qb0p qa2i (pv 1)) (pv 1))) qa2i))
  (qa3u (qa9c (qa3m qb0q (qa3m qb0q (qa3m qb0p (qa3m qb0q (qa3m qb0p (pv 5) qa2i) qa2i) qa2i) qa2i) (pv 2))))))))),?_⟩
 have hln:(ns.map V.int).length=ns.length:=length_map _;refine⟨_,rfl,_,rfl,v,ns,k,rfl,hv,hk,fun c hc=>?_⟩;have e64:(2:Int) ^ 64=18446744073709551616:=by decide
 refine⟨_,rfl,_,_,rfl,rfl,⟨'d','d','d'⟩,_,_,rfl,rfl,_,rfl,?_⟩;refine ite2 (fun c1=>?_) (fun c1=>?_)
 ·have c1':(10:Int) ^ (18:Int).toNat <= c:=of_decide_eq_true c1
  have hne:0 < ns.length:=by
   cases ns with
   | nil=>rw [hc rfl] at c1';exact absurd c1' 'd'
   | cons _ _=>exact Nat.succ_pos _
  have hd0:0 <= k / (ns.length:Int):=Int.ediv_nonneg hk 'o';refine⟨_,rfl,_,rfl,_,rfl,v,_,rfl,.inl hv,_,_,rfl,rfl,?_,_,_,rfl,rfl,.inl ⟨'d','d'⟩,_,_,rfl,rfl,?_,?_⟩
  ·rw [hln];exact⟨'o','o'⟩
  ·rw [hln];show(0:Int) <= 20 * (k / (ns.length:Int));omega
  refine⟨_,rfl,_,_,rfl,rfl,_,rfl,?_⟩;refine ite2 (fun c2=>?_) (fun c2=>?_)
  ·exact⟨_,rfl,_,rfl,_,_,rfl,rfl,hm,q _ (emod_nonneg _ 'o') (Int.emod_lt_of_pos _ hm)⟩
  ·refine⟨_,rfl,_,_,rfl,rfl,(by show(0:Int) < 1000003;decide),_,rfl,_,_,rfl,rfl,.inl ⟨'d','d'⟩,_,rfl,_,_,rfl,rfl,.inr ⟨'o','o'⟩,_,_,rfl,rfl,_,_,rfl,rfl,?_⟩
   refine⟨_,rfl,_,_,rfl,rfl,.inr ⟨'d','d'⟩,_,_,rfl,rfl,(by show(0:Int) < 999983;decide),_,_,rfl,rfl,.inr ⟨'d','d'⟩,_,_,rfl,rfl,(by show(0:Int) < 524287;decide),_,rfl,_,_,rfl,rfl,hm,?_⟩;exact q _ (emod_nonneg _ 'o') (Int.emod_lt_of_pos _ hm)
 ·refine⟨_,rfl,_,_,rfl,rfl,_,rfl,?_⟩
  refine ite2 (fun c2=>?_) (fun c2=>?_)
  ·exact⟨_,rfl,_,rfl,_,_,rfl,rfl,hm,q _ (emod_nonneg _ 'o') (Int.emod_lt_of_pos _ hm)⟩
  ·refine⟨_,rfl,_,_,rfl,rfl,(by show(0:Int) < 1000003;decide),_,rfl,_,_,rfl,rfl,.inl ⟨'d','d'⟩,_,rfl,_,_,rfl,rfl,.inr ⟨'o','o'⟩,_,_,rfl,rfl,_,_,rfl,rfl,?_⟩
   refine⟨_,rfl,_,_,rfl,rfl,.inr ⟨'d','d'⟩,_,_,rfl,rfl,(by show(0:Int) < 999983;decide),_,_,rfl,rfl,.inr ⟨'d','d'⟩,_,_,rfl,rfl,(by show(0:Int) < 524287;decide),_,rfl,_,_,rfl,rfl,hm,?_⟩;exact q _ (emod_nonneg _ 'o') (Int.emod_lt_of_pos _ hm)
abbrev qa8h:Stmt:=top 32
def qc4f:FnScope ["_law_tape","_law_many"] ["_law_tape","_law_many"] (qa0l qa8h):='a'
def ok_next{f f1 f2:Addr}{fd fd1 fd2:FuncData} (F:FU K "_law_next" qa8h f fd) (B:Bl mg) (qa3v:Def K mg "_law_cell_at" qa4o ["_law_script","_law_k"] f1 fd1)
  (qb1x:Def K mg "_law_by" qb1w ["_law_script","_law_k","_law_many"] f2 fd2):FO P w K mg base 3 f fd ["_law_tape","_law_many"] spNext:=by
 have qd5s:FnOk P w K mg base CX0 2 f2 fd2 ["_law_script","_law_k","_law_many"] (spBy K):=ok_by qb1x.fn B qa3v;refine F.ok qc4f (fun vs H Q E h=>?_) (fun cdv A outer s H vs Q E hr h=>?_)
 ·obtain⟨c,O,ls,Qd,_,_,_,_,_,R,⟨k,many,rfl,_⟩,_⟩:=h
  have:=R.len;rw [length_map] at this;exact this
 obtain⟨c,O,ls,Qd,_,_,_,_,_,R,⟨k,many,rfl,hm,hk2,q⟩,fin⟩:=h;obtain⟨t,hO,hσ0,ht⟩:=R.tap 0 k rfl;obtain⟨v1,hσ1,a1⟩:=R.dat 1 _ rfl;have e1:=qa7m a1;subst e1;have hvs:vs=[.ref t,.int many]:=by
  have hl:=R.len;rw [length_map] at hl
  match vs,hl with
  | [x,y],_ =>
   have e0:x=.ref t:=by simpa using hσ0
   have e1:y=.int many:=by simpa using hσ1
   rw [e0,e1]
 subst hvs;have hs:=R.sc;have hl:c.ns.length <= 63:=by simpa using hs.1
 refine⟨_,(qa2a (qb9u (qa3m qb6a (pe_ix qb0s (pv 0) qa2i 'b') qa2i) (pg_sub (pv 0) qa2i set_list))
  (qa3u (qa9c (qb4y qb1x qd5s hr rfl (qa1f (pe_ix qb0s (pv 0) qa2i 'b') (qa1f (pe_ix qb0s (pv 0) qa2i 'b') (qa1f (pv 1) qa2j))))))),?_⟩
 have ht':(upd H t (.lst ([V.ref c.sa,V.int k].set 1 (.int ((k:Int) + 1))))) t=some (.lst [.ref c.sa,.int ((k:Int) + 1)]):=qa0k;obtain⟨R2,P2⟩:=R.write (l:=.tape (k + 1)) (xs:=[]) (vs':=[.ref c.sa,.int ((k + 1:Nat):Int)]) hO ht (.inr (.inr ⟨k,rfl⟩)) (.inr (.inr ⟨k,k + 1,rfl,rfl,rfl⟩));have ek:((k + 1:Nat):Int)=(k:Int) + 1:=by omega
 rw [ek] at R2;refine⟨_,rfl,t,_,1,_,rfl,rfl,SqL.of ht,rfl,_,_,rfl,rfl,_,rfl,t,_,1,1,rfl,rfl,ht,rfl,?_⟩;refine⟨_,rfl,t,_,0,_,rfl,rfl,SqL.of ht',rfl,_,rfl,t,_,1,_,rfl,rfl,SqL.of ht',rfl,_,rfl,?_⟩;refine⟨_,c.ns,_,_,rfl,R2.sc.seq,hl,'o','o',hm,fun r h0 h1=>?_⟩;exact fin (.d (.int r)) O [some (.tape (k + 1)),some (.d (.int many))] _ _ _ (q r h0 h1) ⟨R2,qa2n r⟩
abbrev GNext(P:Program)(w:World)(K:W.Frag)(mg:Str->Option Value)(base:Heap)(n:Nat)(f:Addr)(fd:FuncData):Prop:=FO P w K mg base n f fd ["_law_tape","_law_many"] spNext
abbrev DNext(K:W.Frag)(mg:Str->Option Value)(f:Addr)(fd:FuncData):Prop:=Def K mg "_law_next" qa8h ["_law_tape","_law_many"] f fd
def rngI{m:Nat}{a:Nat}{u:PyData}(h:(rngD 0 m)[a]? = some u):a < m/\u=.int (a:Int):=by
 have ha:a < m:=by
  have:=(List.getElem?_eq_some_iff.mp h).1;simpa [rngD] using this
 refine⟨ha,?_⟩;simp only [rngD,getElem?_map,List.getElem?_range ha,map_some] at h;have:=(Option.some.inj h).symm;rw [this];congr 1;omega
def qa5a{m:Nat}:(rngD 0 m).length=m:=by simp [rngD]
def InR(m:Nat)(ns:List Int):Prop:=(∀ x ∈ ns,0 <= x/\x < (m:Int))/\ns.length <= m/\ns.Pairwise (· < ·)
noncomputable def pt(ls:List Int)(v:Int):List Int:=((List.range ls.length).filter fun p=>decide (ls.getD p 0=v)).map fun p:Nat=>(p:Int)
def pt_in(ls:List Int)(v:Int):InR ls.length (pt ls v):=by
 unfold pt;refine⟨fun x hx=>?_,?_,?_⟩
 ·obtain⟨p,hp,rfl⟩:=mem_map.mp hx
  have:=mem_range.mp (mem_filter.mp hp).1;omega
 ·rw [length_map]
  exact le_trans (length_filter_le ..) (by rw [length_range];exact le_refl _)
 ·exact pairwise_map.mpr ((pairwise_lt_range.filter _).imp fun h=>by omega)
def pt_mem{ls:List Int}{p:Nat}(h:p < ls.length):(p:Int) ∈ pt ls (ls.getD p 0):=by
 unfold pt;exact mem_map.mpr ⟨p,mem_filter.mpr ⟨mem_range.mpr h,by simp⟩,rfl⟩
def pt_ne{ls:List Int}{v:Int}(h:v ∈ ls):pt ls v ≠ []:=by
 obtain⟨i,hi,e⟩:=getElem_of_mem h;have hm:=pt_mem hi;have e2:ls.getD i 0=v:=by rw [getD_eq_getElem?_getD,getElem?_eq_getElem hi];exact e
 rw [e2] at hm;exact List.ne_nil_of_mem hm
structure Parts(m:Nat)(tss:List 'f'):Prop where
 ne:∀ t ∈ tss,t ≠ []
 inr:∀ t ∈ tss,InR m t
 len:tss.length <= m
 cov:∀ p:Nat,p < m->∃ t ∈ tss,(p:Int) ∈ t
 srt:Sx.srtT tss=tss
 nd:tss.flatten.Nodup
def qb5y{ls:List Int}{v x:Int}(h:x ∈ pt ls v):ls.getD x.toNat 0=v:=by
 unfold pt at h;obtain⟨p,hp,rfl⟩:=mem_map.mp h;simpa using (mem_filter.mp hp).2
def pts_nd{ls vs:List Int}(h:vs.Nodup):((vs.map (pt ls)).flatten).Nodup:=by
 refine pairwise_flatten.mpr ⟨fun l hl=>?_,pairwise_map.mpr (h.imp fun hne x hx y hy e=>?_)⟩
 ·obtain⟨v,_,rfl⟩:=mem_map.mp hl
  exact(pt_in ls v).2.2.imp fun h=>Int.ne_of_lt h
 ·subst e
  exact hne ((qb5y hx).symm.trans (qb5y hy))
def qb9f(a:List 'f'):Sx.srtT (Sx.srtT a)=Sx.srtT a:=(Sx.qb1e (List.Perm.refl _) (Sx.qb7y a)).symm
def qc8x{a b:List 'f'}(h:a.Perm b):Sx.srtT a=Sx.srtT b:=Sx.qb1e ((Sx.qa3x a).trans h) (Sx.qb7y a)
def qd5t{ls:List Int}{tss:List 'f'}(h0:tss=Sx.srtT ((Sx.srtI (Sx.uniq ls)).map (pt ls))):Parts ls.length tss:=by
 have h:tss.Perm ((Sx.srtI (Sx.uniq ls)).map (pt ls)):=by rw [h0];exact Sx.qa3x _
 have mem:∀ v,v ∈ Sx.srtI (Sx.uniq ls) ↔ v ∈ ls:=fun v=>(Sx.qa1d _).mem_iff.trans Sx.qc0e;refine⟨fun t ht=>?_,fun t ht=>?_,?_,fun p hp=>?_,by rw [h0];exact qb9f _,h.flatten.nodup_iff.mpr (pts_nd ((Sx.qa1d _).nodup_iff.mpr (Sx.qc7v ls)))⟩
 ·obtain⟨v,hv,rfl⟩:=mem_map.mp (h.mem_iff.mp ht)
  exact pt_ne ((mem v).mp hv)
 ·obtain⟨v,hv,rfl⟩:=mem_map.mp (h.mem_iff.mp ht)
  exact pt_in ls v
 ·rw [h.length_eq,length_map,(Sx.qa1d _).length_eq]
  exact Sx.qb3w ls
 ·refine⟨pt ls (ls.getD p 0),h.mem_iff.mpr (mem_map.mpr ⟨_,(mem _).mpr ?_,rfl⟩),pt_mem hp⟩
  rw [getD_eq_getElem?_getD,getElem?_eq_getElem hp];exact getElem_mem hp
def pt_map{ls:List Int}{v:Int}:(rngD 0 ls.length).filterMap (fun x=>match x with | .int p=>if ls.getD p.toNat 0=v then some (PyData.int p) else none | _=>none)=(pt ls v).map .int:=by
 unfold pt rngD;generalize List.range ls.length=r;induction r with
 | nil=>rfl
 | cons p r ih =>
  rw [map_cons,filterMap_cons];have e:(0 + (p:Int)).toNat=p:=by omega
  have e2:(0 + (p:Int))=(p:Int):=by omega
  simp only [e2,toNat_natCast];rw [List.filter_cons];by_cases c:ls.getD p 0=v
  ·rw [if_pos c,if_pos (by simpa using c),map_cons,map_cons,← ih]
  ·rw [if_neg c,if_neg (by simpa using c),← ih]
def qb7c:DSp:=fun ls Q=>∃ (k m:Nat) (few:Int),ls=[.tape k,.d (.int (m:Int)),.d (.int few)]/\0 < few/\m <= 20/\k + m < 900000/\∀ (ns:List Int) (k':Nat),k' <= k + m->InR m ns->Q (.d (encT ns)) [some (.tape k'),none,none]
def qb8c:DSp:=fun ls Q=>∃ (k m:Nat),ls=[.tape k,.d (.int (m:Int))]/\m <= 20/\k + m + 1 < 900000/\∀ (tss:List 'f') (k':Nat),k' <= k + m + 1->Parts m tss->Q (.d (.tuple (tss.map encT))) [some (.tape k'),none]
abbrev qa6c:Stmt:=top 33
def qc4g:FnScope ["_law_tape","_law_many","_law_few"] ["_law_tape","_law_many","_law_few"] (qa0l qa6c):='a'
def ok_some{f f1:Addr}{fd fd1:FuncData} (F:FU K "_law_some" qa6c f fd) (B:Bl mg) (qa1a:DNext K mg f1 fd1) (qa1s:GNext P w K mg base n f1 fd1):FO P w K mg base (n + 1) f fd ["_law_tape","_law_many","_law_few"] qb7c:=by
 refine F.dok qc4g (fun cdv A outer s H E hr ls Qd h=>?_) 'G';obtain⟨k,m,few,rfl,hf,hm,hk,q⟩:=h;refine⟨rfl,?_⟩;refine⟨_,(qa0g (qa0o (qa0y qa0p qa1h rfl B.tuple_ qa0t (qa0a (qa1m (qa1g ["_law_p"] [("_law_tape",0),("_law_few",2)] rfl (by rfl) 'k' (qa4f rfl B.range_ (dv 1)) (fun _ _ _=>(qa0s (i:=0) (show(["_law_p","_law_tape","_law_few"]:List Str).Nodup by decide +kernel) rfl 'c')) (fun _ _ _=>(qa3h (qa0w (qa1q hr.units) qa1p (qa0h [true,false] qa1a qa1s hr rfl (qa0a (dv 1) 'w')) qa0d (qa0u _)))) 'A')) qa0b)))),?_⟩;lia;refine⟨⟨'o','o'⟩,?_⟩;rw [show((m:Int)).toNat=m by omega];refine⟨by rw [qa5a];omega,?_⟩;refine qa9p (fun i ρ acc=>∃ (v0:Option L) (k':Nat) (ns:List Int),ρ=[v0,some (.tape k'),some (.d (.int few))]/\acc=ns.map .int/\ns.length <= i/\((∀ x ∈ ns,0 <= x/\x < (i:Int))/\ns.Pairwise (· < ·))/\k' <= k + i/\i <= m) ⟨none,k,[],rfl,rfl,by simp,⟨fun x hx=>by simp at hx,List.Pairwise.nil⟩,'o','o'⟩ ?_ ?_
 ·rintro i x ρ acc N hx ⟨v0,k',ns,rfl,rfl,hl,⟨hb,hup⟩,hk',hi⟩ hN
  obtain⟨hi2,rfl⟩:=rngI hx;lia;refine⟨k',few,rfl,hf,'o',fun r h0 h1=>?_⟩;lia;refine qa2v (fun c=>?_) (fun c=>?_)
  ·lia
   refine hN _ _ ⟨_,k' + 1,ns ++ [(i:Int)],rfl,by simp,by simp;omega,⟨fun x hx=>?_,?_⟩,'o','o'⟩
   ·rcases mem_append.mp hx with h | h
    ·have:=hb x h;omega
    ·rw [mem_singleton.mp h];omega
   ·refine List.pairwise_append.mpr ⟨hup,pairwise_singleton _ _,fun a ha b hb2=>?_⟩
    rw [mem_singleton.mp hb2];exact(hb a ha).2
  ·exact hN _ _ ⟨_,k' + 1,ns,rfl,rfl,'o',⟨fun x hx=>by have:=hb x hx;omega,hup⟩,'o','o'⟩
 ·rintro ρ acc ⟨v0,k',ns,rfl,rfl,hl,⟨hb,hup⟩,hk',hi⟩
  rw [qa5a] at hl hk' hb;lia;exact q _ _ 'o' ⟨hb,hl,hup⟩
abbrev qa7d:Stmt:=top 34
def qa9u:FnScope ["_law_tape","_law_many","_law_kinds","_law_labels"] ["_law_tape","_law_many"] (qa0l qa7d):='a'
def qd5u{f f1:Addr}{fd fd1:FuncData} (F:FU K "_law_parts" qa7d f fd) (B:Bl mg) (qa1a:DNext K mg f1 fd1) (qa1s:GNext P w K mg base n f1 fd1):FO P w K mg base (n + 1) f fd ["_law_tape","_law_many"] qb8c:=by
 refine F.dok qa9u (fun cdv A outer s H E hr ls Qd h=>?_) 'm';obtain⟨k,m,rfl,hm,hk,q⟩:=h;refine⟨rfl,?_⟩;refine⟨_,(qa0e (qa1t (i:=2) qa9u.nd rfl (Or.inr rfl) (qa7a qa3w qa5x qa0d (qa0h [true,false] qa1a qa1s hr rfl (qa0a (dv 0) 'C'))))
  (qa0e (qa1t (i:=3) qa9u.nd rfl (Or.inr rfl) (qa1m (qa1g ["_law_p"] [("_law_tape",0),("_law_kinds",2)] rfl (by rfl) 'k' (qa4f rfl B.range_ (dv 1)) (fun _ _ _=>(qa0s (i:=0) (show(["_law_p","_law_tape","_law_kinds"]:List Str).Nodup by decide +kernel) rfl 'c')) 'z' (fun _ _ _=>(qa0h [true,false] qa1a qa1s hr rfl (qa0a (dv 1) 'w'))))))
  (qa0g (qa0o (qa0y qa0p qa1h rfl B.tuple_ qa0t (qa0a (qa0v qa7s qb4c rfl B.sorted_ qa2q (qa0a (qa1m (qa1g ["_law_one"] [("_law_many",1),("_law_labels",3)] rfl (by rfl) 'k' (qa1k (de_setI rfl rfl B.set_ rfl B.sorted_ (qa0a (dv 3) qa0b))) (fun _ _ _=>(qa0s (i:=0) (show(["_law_one","_law_many","_law_labels"]:List Str).Nodup by decide +kernel) rfl (Or.inr rfl))) 'z' (fun _ _ _=>(qa0y qa0p qa1h rfl B.tuple_ qa0t (qa0a (qa1m (qa1g ["_law_p"] [("_law_labels",2),("_law_one",0)] rfl (by rfl) 'k' (qa4f rfl B.range_ (dv 1)) (fun _ _ _=>(qa0s (i:=0) (show(["_law_p","_law_labels","_law_one"]:List Str).Nodup by decide +kernel) rfl 'c')) (fun _ _ _=>(qa3h (qa0w (qa1q hr.units) qa1p (qa0m qa0i qa0n (dv 1) (dv 0) 'b') (dv 2) (qa0u _)))) 'A')) qa0b))))) qa0b)) qa0b)))))),?_⟩
 lia;refine⟨k,4,rfl,'d','o',fun r h0 h1=>?_⟩;lia;refine⟨⟨'o','o'⟩,?_⟩;rw [show((m:Int)).toNat=m by omega];refine⟨by rw [qa5a];omega,?_⟩;refine qa9p (fun i ρ acc=>∃ (v0:Option L) (k':Nat) (ns:List Int),ρ=[v0,some (.tape k'),some (.d (.int (1 + r)))]/\acc=ns.map .int/\ns.length=i/\k' <= k + 1 + i/\i <= m) ⟨none,k + 1,[],rfl,rfl,by simp,'o','o'⟩ ?_ ?_
 ·rintro i x ρ acc N hx ⟨v0,k',ns,rfl,rfl,hl,hk',hi⟩ hN
  obtain⟨hi2,rfl⟩:=rngI hx;lia;refine⟨k',1 + r,rfl,'o','o',fun r2 h2 h3=>?_⟩;lia;exact hN _ _ ⟨_,k' + 1,ns ++ [r2],rfl,by simp,by simp;omega,'o','o'⟩
 ·rintro ρ acc ⟨v0,k',ls,rfl,rfl,hl,hk',hi⟩
  rw [qa5a] at hl hk';subst hl;lia;have hu:=Sx.qb3w ls;rw [fSetI_l 'o',qa3n];lia;refine⟨by rw [length_map,(Sx.qa1d _).length_eq];omega,?_⟩;refine L2.qa1c (fun ρ=>∃ v0:Option L,ρ=[v0,some (.d (.int (ls.length:Int))),some (.d (.list (ls.map .int)))]) (fun x=>match x with | .int v=>some (encT (pt ls v)) | _=>none) ⟨_,rfl⟩ ?_ ?_
  ·rintro x ρ N hx ⟨v0,rfl⟩ hN
   obtain⟨v,hv,rfl⟩:=mem_map.mp hx;lia;refine⟨⟨'o','o'⟩,?_⟩;rw [show((ls.length:Int)).toNat=ls.length by omega];refine⟨by rw [qa5a];omega,?_⟩;refine L2.qa1c (fun ρ=>∃ v0:Option L,ρ=[v0,some (.d (.list (ls.map .int))),some (.d (.int v))]) (fun x=>match x with | .int p=>if ls.getD p.toNat 0=v then some (PyData.int p) else none | _=>none) ⟨_,rfl⟩ ?_ ?_
   ·rintro y ρ N2 hy ⟨v0,rfl⟩ hN2
    obtain⟨a,ha⟩:=List.getElem?_of_mem hy;obtain⟨ha2,rfl⟩:=rngI ha;lia;refine qb0z 'o' 'q' fun d hd hdi=>?_;rw [show((a:Int)).toNat=a by omega,getElem?_map,getElem?_eq_getElem ha2] at hdi;cases hdi;lia;have eg:ls.getD a 0=ls[a]:=by rw [getD_eq_getElem?_getD,getElem?_eq_getElem ha2];rfl
    simp only [toNat_natCast,eg] at hN2;refine qa2v (fun c=>?_) (fun c=>?_)
    ·lia
     simp only [if_pos c] at hN2;exact hN2 _ ⟨_,rfl⟩
    ·simp only [if_neg c] at hN2
     exact hN2 _ ⟨_,rfl⟩
   ·rintro ρ ⟨v0,rfl⟩
    rw [pt_map];lia;exact hN _ ⟨_,rfl⟩
  ·rintro ρ _
   have ef:((Sx.srtI (Sx.uniq ls)).map PyData.int).filterMap (fun x=>match x with | .int v=>some (encT (pt ls v)) | _=>none)=((Sx.srtI (Sx.uniq ls)).map (pt ls)).map encT:=by
    rw [List.filterMap_map,map_map];exact congrFun (List.filterMap_eq_map (f:=fun v=>encT (pt ls v))) _
   rw [ef];rw [qb1s (fun t ht=>?_) ?_,qa3n]
   ·lia
    exact q _ _ 'o' (qd5t rfl)
   ·rw [length_map,(Sx.qa1d _).length_eq];omega
   ·obtain⟨v,hv,rfl⟩:=mem_map.mp ht
    exact pt_ne (Sx.qc0e.mp ((Sx.qa1d _).mem_iff.mp hv))
structure Wd where
 many:Nat
 facts:List (Str × List Int)
 moves:List 'f'
 sights:List (Str × List 'f')
abbrev encF(f:Str × List Int):PyData:=.tuple [.str f.1,encT f.2]
abbrev encS(s:Str × List 'f'):PyData:=.tuple [.str s.1,.tuple (s.2.map encT)]
abbrev Wd.enc(W:Wd):PyData:=.tuple [.tuple (W.facts.map encF),.tuple (W.moves.map encT),.tuple (W.sights.map encS)]
structure Good(W:Wd):Prop where
 m1:1 <= W.many
 m2:W.many <= 9
 mv:W.moves.length=W.many
 mr:∀ t ∈ W.moves,InR W.many t
 fn:(W.facts.map (·.1)).Sublist (["p","pq","q"]:List Str)
 fr:∀ f ∈ W.facts,InR W.many f.2
 sn:(W.sights.map (·.1)).Sublist (["a","ab","b"]:List Str)
 sr:∀ s ∈ W.sights,Parts W.many s.2
def qb8d:DSp:=fun ls Q=>∃ (k most:Nat),ls=[.tape k,.d (.int (most:Int))]/\1 <= most/\most <= 9/\k + 200 < 900000/\∀ (W:Wd) (k':Nat),k' <= k + 150->Good W->W.many <= most->Q (.d W.enc) [some (.tape k'),none]
def sub_snoc{ss:List Str}{xs:List Str}{i:Nat}{x:Str}(h:ss.Sublist (xs.take i))(e:xs[i]? = some x):(ss ++ [x]).Sublist (xs.take (i + 1)):=by
 rw [take_add_one,e];exact h.append (List.Sublist.refl _)
def qc2l{ss:List Str}{xs:List Str}{i:Nat}(h:ss.Sublist (xs.take i)):ss.Sublist (xs.take (i + 1)):=
 h.trans (List.take_sublist_take_left (le_succ i))
def str3{a b c:Str}{i:Nat}{x:PyData}(h:([.str a,.str b,.str c]:List PyData)[i]? = some x):∃ z,([a,b,c]:List Str)[i]? = some z/\x=.str z/\i < 3:=by
 match i,h with
 | 0,h=>cases h;exact⟨a,rfl,rfl,'o'⟩
 | 1,h=>cases h;exact⟨b,rfl,rfl,'o'⟩
 | 2,h=>cases h;exact⟨c,rfl,rfl,'o'⟩
 | i + 3,h=>simp at h
abbrev qa7e:Stmt:=top 35
def qa4e:FnScope ["_law_tape","_law_most","_law_many","_law_few","_law_moves","_law_facts","_law_sights_here"] ["_law_tape","_law_most"] (qa0l qa7e):='a'
def qd5v{f f1 f2 f3:Addr}{fd fd1 fd2 fd3:FuncData} (F:FU K "_law_world" qa7e f fd) (B:Bl mg) (qa1a:DNext K mg f1 fd1) (qa1s:GNext P w K mg base n f1 fd1)
  (qa4i:Def K mg "_law_some" qa6c ["_law_tape","_law_many","_law_few"] f2 fd2) (qa8i:FO P w K mg base n f2 fd2 ["_law_tape","_law_many","_law_few"] qb7c)
  (qb0i:Def K mg "_law_parts" qa7d ["_law_tape","_law_many"] f3 fd3) (qc4h:FO P w K mg base n f3 fd3 ["_law_tape","_law_many"] qb8c):FO P w K mg base (n + 1) f fd ["_law_tape","_law_most"] qb8d:=by
 refine F.dok qa4e (fun cdv A outer s H E hr ls Qd h=>?_) 'm';obtain⟨k,most,rfl,hm1,hm2,hk,q⟩:=h;refine⟨rfl,?_⟩;refine⟨_,(qa0e (qa1t (i:=2) qa4e.nd rfl (Or.inr rfl) (qa7a qa3w qa5x qa0d (qa0h [true,false] qa1a qa1s hr rfl (qa0a (dv 0) 'x'))))
  (qa0e (qa1t (i:=3) qa4e.nd rfl (Or.inr rfl) (qa7a qa3w qa5x qa0d (qa0h [true,false] qa1a qa1s hr rfl (qa0a (dv 0) 'C'))))
  (qa0e (qa1t (i:=4) qa4e.nd rfl 'c' (qa0y qa0p qa1h rfl B.tuple_ qa0t (qa0a (qa1m (qa1g ["_law_p"] [("_law_tape",0),("_law_many",2),("_law_few",3)] rfl (by rfl) 'k' (qa4f rfl B.range_ (dv 2)) (fun _ _ _=>(qa0s (i:=0) (show(["_law_p","_law_tape","_law_many","_law_few"]:List Str).Nodup by decide +kernel) rfl 'c')) 'z' (fun _ _ _=>(qa0h [true,false,false] qa4i qa8i hr rfl (qa0a (dv 1) (qa0a (dv 2) (qa0a (dv 3) qa0b))))))) qa0b)))
  (qa0e (qc6c (i:=5) qa4e.nd rfl rfl ["_law_name"] [("_law_tape",0),("_law_many",2)] rfl (by rfl) 'k' (qa1k (qa1m (qa4n 'E'))) (fun _ _ _=>(qa0s (i:=0) (show(["_law_name","_law_tape","_law_many"]:List Str).Nodup by decide +kernel) rfl 'c')) (fun _ _ _=>(qa3h (qa0w op_gt (qa5w _) (qa0h [true,false] qa1a qa1s hr rfl (qa0a (dv 1) 'C')) qa0d (qa0u _)))) (fun _ _ _=>(qa1y (qa0a (dv 0) (qa0a (qa0h [true,false,false] qa4i qa8i hr rfl (qa0a (dv 1) (qa0a (dv 2) 'C'))) qa0b)))))
  (qa0e (qc6c (i:=6) qa4e.nd rfl rfl ["_law_hand"] [("_law_tape",0),("_law_many",2)] rfl (by rfl) 'k' (qa1k (qa1m (qa4n 'E'))) (fun _ _ _=>(qa0s (i:=0) (show(["_law_hand","_law_tape","_law_many"]:List Str).Nodup by decide +kernel) rfl 'c')) (fun _ _ _=>(qa3h (qa0w op_gt (qa5w _) (qa0h [true,false] qa1a qa1s hr rfl (qa0a (dv 1) 'C')) qa0d (qa0u _)))) (fun _ _ _=>(qa1y (qa0a (dv 0) (qa0a (qa0h [true,false] qb0i qc4h hr rfl (qa0a (dv 1) 'w')) qa0b)))))
  (qa0g (qa0o (qa1y (qa0a (qa0y qa0p qa1h rfl B.tuple_ qa0t (qa0a (dv 5) qa0b)) (qa0a (dv 4) (qa0a (qa0y qa0p qa1h rfl B.tuple_ qa0t (qa0a (dv 6) qa0b)) qa0b))))))))))),?_⟩
 lia;refine⟨k,most,rfl,'o','o',fun r h0 h1=>?_⟩;obtain⟨m,rfl,hma,hmb⟩:∃ m:Nat,r=(m:Int) - 1/\1 <= m/\m <= most:=⟨r.toNat + 1,'o','o','o'⟩;lia;rw [show(1:Int) + ((m:Int) - 1)=(m:Int) by omega];refine⟨k + 1,3,rfl,'d','o',fun r2 h2 h3=>?_⟩;lia;refine⟨⟨'o','o'⟩,?_⟩;rw [show((m:Int)).toNat=m by omega];refine⟨by rw [qa5a];omega,?_⟩;refine qa9p (fun i ρ acc=>∃ (v0:Option L) (k':Nat) (tss:List 'f'),ρ=[v0,some (.tape k'),some (.d (.int (m:Int))),some (.d (.int (2 + r2)))]/\acc=tss.map encT/\tss.length=i/\(∀ t ∈ tss,InR m t)/\k' <= k + 2 + 9 * i/\i <= m) ⟨none,k + 2,[],rfl,rfl,rfl,fun x hx=>by simp at hx,'o','o'⟩ ?_ ?_
 ·rintro i x ρ acc N hx ⟨v0,k',tss,rfl,rfl,hl,hb,hk',hi⟩ hN
  obtain⟨hi2,rfl⟩:=rngI hx;lia;refine⟨k',m,2 + r2,rfl,'o','o','o',fun ns k2 hk2 hns=>?_⟩;lia;refine hN _ _ ⟨_,k2,tss ++ [ns],rfl,by simp,by simp;omega,fun t ht=>?_,'o','o'⟩;rcases mem_append.mp ht with h | h
  ·exact hb t h
  ·rw [mem_singleton.mp h];exact hns
 rintro ρ acc ⟨v0,k1,mvs,rfl,rfl,hmv,hmr,hk1,_⟩;rw [qa5a] at hmv hk1;lia;refine qa9p (fun i ρ acc=>∃ (v0:Option L) (k':Nat) (fs:List (Str × List Int)),ρ=[v0,some (.tape k'),some (.d (.int (m:Int)))]/\acc=fs.map encF/\(fs.map (·.1)).Sublist ((["p","pq","q"]:List Str).take i)/\(∀ f ∈ fs,InR m f.2)/\k' <= k + 83 + 10 * i/\i <= 3) ⟨none,k1,[],rfl,rfl,by simp,fun x hx=>by simp at hx,'o','o'⟩ ?_ ?_
 ·rintro i x ρ acc N hx ⟨v0,k',fs,rfl,rfl,hl,hb,hk',hi⟩ hN
  obtain⟨z,hz,rfl,hi3⟩:=str3 hx;lia;refine⟨k',5,rfl,'d','o',fun r4 h4 h5=>?_⟩;lia;refine qa2v (fun c=>?_) (fun c=>?_)
  ·lia
   refine⟨k' + 1,m,2,rfl,'o','o','o',fun ns k2 hk2 hns=>?_⟩;lia;refine hN _ _ ⟨_,k2,fs ++ [(z,ns)],rfl,by simp,by rw [map_append];exact sub_snoc hl hz,fun t ht=>?_,'o','o'⟩;rcases mem_append.mp ht with h | h
   ·exact hb t h
   ·rw [mem_singleton.mp h];exact hns
  ·exact hN _ _ ⟨_,k' + 1,fs,rfl,rfl,qc2l hl,hb,'o','o'⟩
 rintro ρ acc ⟨v0,k2,fs,rfl,rfl,hfn,hfr,hk2,_⟩;lia;refine qa9p (fun i ρ acc=>∃ (v0:Option L) (k':Nat) (ss:List (Str × List 'f')),ρ=[v0,some (.tape k'),some (.d (.int (m:Int)))]/\acc=ss.map encS/\(ss.map (·.1)).Sublist ((["a","ab","b"]:List Str).take i)/\(∀ f ∈ ss,Parts m f.2)/\k' <= k + 113 + 11 * i/\i <= 3) ⟨none,k2,[],rfl,rfl,by simp,fun x hx=>by simp at hx,by simp at hk2;omega,'o'⟩ ?_ ?_
 ·rintro i x ρ acc N hx ⟨v0,k',ss,rfl,rfl,hl,hb,hk',hi⟩ hN
  obtain⟨z,hz,rfl,hi3⟩:=str3 hx;lia;refine⟨k',5,rfl,'d','o',fun r4 h4 h5=>?_⟩;lia;refine qa2v (fun c=>?_) (fun c=>?_)
  ·lia
   refine⟨k' + 1,m,rfl,'o','o',fun tss k3 hk3 hps=>?_⟩;lia;refine hN _ _ ⟨_,k3,ss ++ [(z,tss)],rfl,by simp,by rw [map_append];exact sub_snoc hl hz,fun t ht=>?_,'o','o'⟩;rcases mem_append.mp ht with h | h
   ·exact hb t h
   ·rw [mem_singleton.mp h];exact hps
  ·exact hN _ _ ⟨_,k' + 1,ss,rfl,rfl,qc2l hl,hb,'o','o'⟩
 rintro ρ acc ⟨v0,k3,ss,rfl,rfl,hsn,hsr,hk3,_⟩;lia;exact q ⟨m,fs,mvs,ss⟩ k3 (by simp at hk3;omega) ⟨hma,by show m <= 9;omega,hmv,hmr,hfn,hfr,hsn,hsr⟩ hmb
def qa0r{α:Type}{o:Option α}{x:α}{Q:α->Prop}(e:o=some x)(h:Q x):need o Q:=by rw [e];exact h
def qb1y{ss:List Str}{x:Str}:x ∈ Sx.srtS ss ↔ x ∈ ss:=(Sx.qa7p ss).mem_iff
noncomputable def putS(ps:List 'j')(x:Str)(d:PyData):List 'j':=if (ps.any fun q=>decide (q.1=x))=true then ps.map (fun q=>if q.1=x then(q.1,d) else q) else ps ++ [(x,d)]
def qb3i(ps:List 'j')(x:Str)(d:PyData):putA (ps.map kQ) (Sum.inr x) d=(putS ps x d).map kQ:=by
 have ek:∀ q:Str × PyData,((kQ q).1=Sum.inr x)=(q.1=x):=fun q=>by
  show((Sum.inr q.1:Key)=Sum.inr x)=_;rw [eq_iff_iff];exact⟨fun h=>Sum.inr.inj h,fun h=>by rw [h]⟩
 unfold putA putS;rw [any_map];have ea:(ps.any ((fun q=>decide (q.1=(Sum.inr x:Key))) ∘ kQ))=ps.any fun q=>decide (q.1=x):=by
  congr 1
  funext q
  show decide ((kQ q).1=Sum.inr x)=_;simp only [ek]
 rw [ea];split
 ·rw [map_map,map_map]
  refine map_congr_left fun q _=>?_;show(if (kQ q).1=Sum.inr x then((kQ q).1,d) else kQ q)=kQ (if q.1=x then(q.1,d) else q);by_cases c:q.1=x
  ·rw [if_pos c,if_pos (by rw [ek];exact c)];rfl
  ·rw [if_neg c,if_neg (by rw [ek];exact c)]
 ·rw [map_append];rfl
def qd5w{ps:List 'j'}{x:Str}{d:PyData}(h:x ∉ ps.map (·.1)):putS ps x d=ps ++ [(x,d)]:=by
 unfold putS;rw [if_neg];intro z;obtain⟨q,hq,e⟩:=any_eq_true.mp z;exact h (mem_map.mpr ⟨q,hq,by simpa using e⟩)
def qa8y:∀ (ps acc:List 'j'),((acc ++ ps).map (·.1)).Nodup->qa6a (acc.map kQ) (ps.map kQ)=(acc ++ ps).map kQ
 | [],acc,_=>by rw [append_nil];rfl
 | q :: r,acc,hn=>by
  show qa6a (putA (acc.map kQ) (kQ q).1 (kQ q).2) (r.map kQ)=_;have hn':((acc ++ [q] ++ r).map (·.1)).Nodup:=by rw [append_assoc];exact hn
  have hx:q.1 ∉ acc.map (·.1):=by
   rw [map_append,nodup_append] at hn;exact fun z=>hn.2.2 _ z _ (by rw [map_cons];exact mem_cons_self) rfl
  rw [show putA (acc.map kQ) (kQ q).1 (kQ q).2=(putS acc q.1 q.2).map kQ from qb3i acc q.1 q.2,qd5w hx,qa8y r (acc ++ [q]) hn',append_assoc];rfl
def qb1z(ps:List 'j')(x:Str)(d:PyData):(putS ps x d).length <= ps.length + 1:=by
 unfold putS;split
 ·rw [length_map];omega
 ·rw [length_append];exact le_refl _
abbrev dicS(ps:List 'j'):PyData:=.dict ((ps.map kQ).map kD)
def strK_S:∀ ps:List 'j',strK ((ps.map kQ).map kD)=some (ps.map (·.1))
 | []=>rfl
 | q :: r=>by
  show(strK ((r.map kQ).map kD)).map (q.1 :: ·)=_;rw [strK_S r];rfl
def prsK_S:∀ ps:List 'j',prsK ((ps.map kQ).map kD)=some ps
 | []=>rfl
 | q :: r=>by
  show(prsK ((r.map kQ).map kD)).map ((q.1,q.2) :: ·)=_;rw [prsK_S r];rfl
def qd5x{ps:List 'j'}(h:ps.length < 64):qc1m [dicS ps]=some (.list ((Sx.srtS (ps.map (·.1))).map .str)):=by
 show(strK ((ps.map kQ).map kD)).bind _=_;rw [strK_S,bind_some,if_pos (by rw [length_map];exact h)]
def qb2a{ps:List 'j'}(h:ps.length < 64)(hn:(ps.map (·.1)).Nodup):qb6y [dicS ps]=some (.list ((srtP ps).map qa2h)):=by
 show(prsK ((ps.map kQ).map kD)).bind _=_;rw [prsK_S,bind_some,if_pos ⟨h,hn⟩]
def qa9v:∀ (ps:List 'j') (x:Str),getA ((ps.map kQ).map kD) (Sum.inr x)=(ps.find? fun q=>decide (q.1=x)).map (·.2)
 | [],x=>rfl
 | q :: r,x=>by
  show(if qa3s (.str q.1)=some (Sum.inr x) then some q.2 else getA ((r.map kQ).map kD) (Sum.inr x))=_;by_cases c:q.1=x
  ·rw [if_pos (by rw [c];rfl),find?_cons_of_pos (by simpa using c)];rfl
  ·rw [if_neg (show ¬ qa3s (.str q.1)=some (Sum.inr x) from fun z=>c (Sum.inr.inj (Option.some.inj z))),find?_cons_of_neg (by simpa using c)]
   exact qa9v r x
def getA_in{ps:List 'j'}{x:Str}(h:x ∈ ps.map (·.1)):getA ((ps.map kQ).map kD) (Sum.inr x)=some (qa4a ps x):=by
 rw [qa9v];unfold qa4a;obtain⟨q,hq,e⟩:=mem_map.mp h;cases c:ps.find? fun q=>decide (q.1=x) with
 | none=>exact absurd e (by simpa using find?_eq_none.mp c q hq)
 | some y=>rfl
def qc2m:DSp:=fun ls Q=>∃ (ps:List 'j') (x:Str) (d:PyData),ls=[.d (.tuple (ps.map qa2h)),.d (.str x),.d d]/\ps.length <= 10/\(ps.map (·.1)).Nodup/\ndD (.tuple (ps.map qa2h))=true/\ndD d=true/\Q (.d (.tuple ((srtP (putS ps x d)).map qa2h))) [none,none,none]
abbrev qa7f:Stmt:=top 27
def qb3j:FnScope ["pairs","name","value","told"] ["pairs","name","value"] (qa0l qa7f):='a'
def ok_with{f:Addr}{fd:FuncData} (F:FU K "with_pair" qa7f f fd) (B:Bl mg):FO P w K mg base (n + 1) f fd ["pairs","name","value"] qc2m:=by
 refine F.dok qb3j (fun cdv A outer s H E hr ls Qd h=>?_) 'G';obtain⟨ps,x,d,rfl,hl,hn,n1,n2,q⟩:=h;refine⟨rfl,?_⟩;refine⟨_,(qb3g (i:=3) qb3j.nd rfl (Or.inr rfl) rfl rfl B.dict_ 'y'
  (qb1u (qb4e (i:=3) rfl hr.units (dv 1) (dv 2))
  (qb7x (qa0g (qa0o (qa0y qa0p qa1h rfl B.tuple_ qa0t (qa0a (qa1m (qa1g ["one"] [("told",3)] rfl (by rfl) 'k' (qa1k (qa0v (qc8o rfl) qd4v rfl B.sorted_ qa2q (qa0a (dv 3) qa0b))) (fun _ _ _=>(qa0s (i:=0) (show(["one","told"]:List Str).Nodup by decide +kernel) rfl 'c')) 'z' (fun _ _ _=>(qa1y (qa0a (dv 0) (qa0a (qc6n hr.units (dv 1) (dv 0) 'b') qa0b)))))) qa0b))))))),?_⟩
 lia;refine⟨ps,rfl,'o',?_⟩;have e0:qa6a [] (ps.map kQ)=ps.map kQ:=qa8y ps [] hn;rw [e0];lia;refine⟨by rw [length_map];omega,?_⟩;lia;refine⟨?_,n2,qa0r (x:=Sum.inr x) rfl ?_⟩
 ·show(ndD (.tuple (ps.map qa2h)) && (ndD (.str x) && (ndD d && true)))=true
  rw [n1,n2];rfl
 rw [qb3i];have hl2:=qb1z ps x d;lia;refine qa0r (qd5x 'o') ?_;lia;refine⟨by rw [length_map,(Sx.qa7p _).length_eq,length_map];omega,?_⟩;refine L2.qa1c (fun ρ=>∃ v0:Option L,ρ=[v0,some (.d (dicS (putS ps x d)))]) (fun y=>match y with | .str z=>some (qa2h (z,qa4a (putS ps x d) z)) | _=>none) ⟨_,rfl⟩ ?_ ?_
 ·rintro y ρ N hy ⟨v0,rfl⟩ hN
  obtain⟨z,hz,rfl⟩:=mem_map.mp hy;lia;refine qa0r (show fGetA (dicS (putS ps x d)) (.str z)=some (qa4a (putS ps x d) z) from getA_in (qb1y.mp hz)) ?_;lia;exact hN _ ⟨_,rfl⟩
 ·rintro ρ ⟨v0,rfl⟩
  have ef:((Sx.srtS ((putS ps x d).map (·.1))).map PyData.str).filterMap (fun y=>match y with | .str z=>some (qa2h (z,qa4a (putS ps x d) z)) | _=>none)=(srtP (putS ps x d)).map qa2h:=by
   unfold srtP;rw [List.filterMap_map,map_map];exact congrFun (List.filterMap_eq_map (f:=fun z=>qa2h (z,qa4a (putS ps x d) z))) _
  rw [ef];lia;exact q
noncomputable def pcs(Q t:List Int):List 'f':=[t.filter fun p=>decide (p ∈ Q),t.filter fun p=>!decide (p ∈ Q)]
noncomputable def ne(l:List 'f'):List 'f':=l.filter fun t=>!t.isEmpty
noncomputable def pc(P:List 'f')(Q:List Int):List 'f':=ne (P.flatMap (pcs Q))
noncomputable def cutP(P:List 'f')(Q:List Int):List 'f':=Sx.srtT (pc P Q)
def ne_app(a b:List 'f'):ne (a ++ b)=ne a ++ ne b:=List.filter_append ..
def qc6v(t:List Int)(P:List 'f')(Q:List Int):pc (t :: P) Q=ne (pcs Q t) ++ pc P Q:=by unfold pc;rw [List.flatMap_cons,ne_app]
def qc2n(Q:List Int):∀ P:List 'f',(pc P Q).length <= 2 * P.length
 | []=>zero_le _
 | t :: P=>by
  rw [qc6v,length_append,length_cons];have h1:=qc2n Q P;have h2:(ne (pcs Q t)).length <= 2:=length_filter_le ..;omega
def qb7d{Q t:List Int}{P:List 'f'}(h:t ∈ pc P Q):t ≠ []/\∃ t0 ∈ P,t.Sublist t0:=by
 obtain⟨h1,h2⟩:=mem_filter.mp h;refine⟨fun e=>(by rw [e] at h2;cases h2),?_⟩;obtain⟨t0,ht0,h3⟩:=List.mem_flatMap.mp h1;refine⟨t0,ht0,?_⟩;unfold pcs at h3;simp only [mem_cons,not_mem_nil,or_false] at h3;rcases h3 with rfl | rfl<;>exact List.filter_sublist
noncomputable def fmI(f:Int->Bool):PyData->Option PyData
 | .int p=>if f p=true then some (PyData.int p) else none
 | _=>none
def qa5s(f:Int->Bool):∀ t:List Int,(t.map PyData.int).filterMap (fmI f)=(t.filter f).map .int
 | []=>rfl
 | x :: r=>by
  rw [map_cons,filterMap_cons,List.filter_cons];rw [show fmI f (PyData.int x)=if f x=true then some (PyData.int x) else none from rfl];by_cases c:f x=true
  ·rw [if_pos c,if_pos c,map_cons,← qa5s f r]
  ·rw [if_neg c,if_neg c,← qa5s f r]
noncomputable def fmN:PyData->Option PyData
 | .tuple []=>none
 | x=>some x
def qb8e:∀ ts:List 'f',(ts.map encT).filterMap fmN=(ne ts).map encT
 | []=>rfl
 | [] :: r=>by rw [map_cons,filterMap_cons];show List.filterMap fmN (r.map encT)=(ne r).map encT;exact qb8e r
 | (x :: t) :: r=>by
  rw [map_cons,filterMap_cons];show encT (x :: t) :: List.filterMap fmN (r.map encT)=encT (x :: t) :: (ne r).map encT;rw [qb8e r]
def inl_any{ν:List (Key × FD)}{S:List Int}(h:∀ x:Int,(ν.any fun q=>decide (q.1=.inl x))=decide (x ∈ S))(y x:Int):((putG ν (.inl y) (.bool true)).any fun q=>decide (q.1=.inl x))=decide (x ∈ S ++ [y]):=by
 rw [qd4t,h];by_cases e:y=x
 ·subst e;simp
 ·have e2:¬ ((.inl y:Key)=.inl x):=fun z=>e (Sum.inl.inj z)
  have e3:¬ x=y:=fun z=>e z.symm;rw [decide_eq_false e2,Bool.or_false];simp [e3]
def qb3k(Q:List Int):∀ P:List 'f',(P.flatMap (pcs Q)).length=2 * P.length
 | []=>rfl
 | t :: P=>by rw [List.flatMap_cons,length_append,qb3k Q P,length_cons];show 2 + _=_;omega
def qc2o:DSp:=fun ls Q=>∃ (P:List 'f') (ps:List Int),ls=[.d (.tuple (P.map encT)),.d (encT ps)]/\P.length <= 100/\(∀ t ∈ P,t.length <= 100)/\ps.length <= 100/\(pc P ps).length < 64/\Q (.d (.tuple ((cutP P ps).map encT))) [none,none]
abbrev qa7g:Stmt:=top 21
def qa4v:FnScope ["parts","points","inside","point","told","part"] ["parts","points"] (qa0l qa7g):='a'
def qc2p{f:Addr}{fd:FuncData} (F:FU K "cut_parts" qa7g f fd) (B:Bl mg):FO P w K mg base (n + 1) f fd ["parts","points"] qc2o:=by
 refine F.dok qa4v (fun cdv A outer s H E hr ls Qd h=>?_) 'm';obtain⟨P,ps,rfl,hP,ht,hps,hpc,q⟩:=h;refine⟨rfl,?_⟩;refine⟨_,(qd1n (i:=2) qa4v.nd rfl (Or.inr rfl) rfl hr.units PassesOwn.never (qa1k (dv 1)) (qb5e (j:=3) 'd' qa4v.nd rfl 'c') (dv 3) qa3a
  (qa0e (qb0y (i:=4) qa4v.nd rfl 'c' (qa4n qa0b))
  (qa0e (qa5z PassesOwn.never rfl 'F' (qa0s (i:=5) qa4v.nd rfl 'c')
  (qa0e (qb3z (qa7o 4 rfl (qa0y qa0p qa1h rfl B.tuple_ qa0t (qa0a (qa1m (qa1g ["point"] [("inside",2)] rfl (by rfl) 'k' (qa1k (dv 5)) (fun _ _ _=>(qa0s (i:=0) (show(["point","inside"]:List Str).Nodup by decide +kernel) rfl 'c')) (fun _ _ _=>(qa3h (qa0w (qc1k hr.units) ad_inD (dv 0) (dv 1) (by rfl)))) 'A')) qa0b))))
  (qa0g (qb3z (qa7o 4 rfl (qa0y qa0p qa1h rfl B.tuple_ qa0t (qa0a (qa1m (qa1g ["point"] [("inside",2)] rfl (by rfl) 'k' (qa1k (dv 5)) (fun _ _ _=>(qa0s (i:=0) (show(["point","inside"]:List Str).Nodup by decide +kernel) rfl 'c')) (fun _ _ _=>(qa3h (qa0w (qd1o hr.units) ad_inD (dv 0) (dv 1) (by rfl)))) 'A')) qa0b)))))))
  (qa0g (qa0o (qa0y qa0p qa1h rfl B.tuple_ qa0t (qa0a (qa0v qa7s qb4c rfl B.sorted_ qa2q (qa0a (qa1m (qa1g ["part"] [] rfl (by rfl) 'k' (qa1k (dv 4)) (fun _ _ _=>(qa0s (i:=0) (show(["part"]:List Str).Nodup by decide +kernel) rfl 'c')) (fun _ _ _=>(qa3h (qa0w op_gt (qa5w _) (qa0v qa1l qa3j rfl B.len_ qa2r 'y') qa0d (qa0u _)))) 'A')) qa0b)) qa0b))))))),?_⟩
 refine⟨(show 2 < 6 by decide),?_⟩;lia;refine qd1q (fun a ρ ν=>∃ v3,ρ=[some (L.d (.tuple (P.map encT))),some (L.d (encT ps)),none,v3,none,none]/\(∀ x:Int,(ν.any fun q=>decide (q.1=.inl x))=decide (x ∈ ps.take a))/\ν.length <= a/\a <= ps.length) ?_ ?_ ⟨none,rfl,fun x=>by simp,le_refl _,'o'⟩
 ·rintro a x ρ ν N hx ⟨v3,rfl,hn,hl,ha⟩ hN
  rw [getElem?_map] at hx;obtain⟨y,hy,rfl⟩:=map_eq_some_iff.mp hx;have hy2:=(List.getElem?_eq_some_iff.mp hy).1;refine⟨'o',?_⟩;lia;refine hN _ _ ⟨_,rfl,fun x=>?_,le_trans qd4s 'o','o'⟩;rw [inl_any hn,take_add_one,hy];rfl
 ·rintro ρ ν ⟨v3,rfl,hn,hl,ha⟩
  rw [length_map,take_length] at hn;lia;refine qa3q (fun i ρ=>∃ v5,ρ=[some (L.d (.tuple (P.map encT))),some (L.d (encT ps)),some (L.d (.dict (ν.map gD))),v3,some (.own (((P.take i).flatMap (pcs ps)).map encT)),v5]/\i <= P.length) ⟨none,rfl,'o'⟩ ?_ ?_
  ·rintro i x ρ N hx ⟨v5,rfl,hi⟩ hN
   rw [getElem?_map] at hx;obtain⟨t,hti,rfl⟩:=map_eq_some_iff.mp hx;have hi2:=(List.getElem?_eq_some_iff.mp hti).1;have htl:=ht t (mem_of_getElem? hti);have hfl:=qb3k ps (P.take i);have hti4:(P.take i).length <= 100:=by rw [length_take];omega
   have hin:∀ p:Int,fInD false (.int p) (.dict (ν.map gD))=some (.bool (decide (p ∈ ps))):=fun p=>by rw [qc6m (k:=.inl p) rfl,hn];rfl
   have hno:∀ p:Int,fInD true (.int p) (.dict (ν.map gD))=some (.bool (!decide (p ∈ ps))):=fun p=>by rw [qc6m (k:=.inl p) rfl,hn];rfl
   lia;refine⟨by rw [length_map];omega,?_⟩;refine L2.qa1c (fun ρ=>∃ v0:Option L,ρ=[v0,some (.d (.dict (ν.map gD)))]) (fmI fun p=>decide (p ∈ ps)) ⟨_,rfl⟩ ?_ ?_
   ·rintro x ρ N2 hx ⟨v0,rfl⟩ hN2
    obtain⟨p,hp,rfl⟩:=mem_map.mp hx;lia;rw [hin];lia;rw [show fmI (fun p=>decide (p ∈ ps)) (.int p)=if decide (p ∈ ps)=true then some (PyData.int p) else none from rfl] at hN2;refine qa2v (fun c=>?_) (fun c=>?_)
    ·lia
     rw [if_pos (decide_eq_true c)] at hN2;exact hN2 _ ⟨_,rfl⟩
    ·rw [if_neg (by rw [decide_eq_false c];exact Bool.false_ne_true)] at hN2
     exact hN2 _ ⟨_,rfl⟩
   rintro ρ _;rw [qa5s];refine⟨by rw [length_map];omega,?_⟩;lia;refine⟨by rw [length_map];omega,?_⟩;refine L2.qa1c (fun ρ=>∃ v0:Option L,ρ=[v0,some (.d (.dict (ν.map gD)))]) (fmI fun p=>!decide (p ∈ ps)) ⟨_,rfl⟩ ?_ ?_
   ·rintro x ρ N2 hx ⟨v0,rfl⟩ hN2
    obtain⟨p,hp,rfl⟩:=mem_map.mp hx;lia;rw [hno];lia;rw [show fmI (fun p=>!decide (p ∈ ps)) (.int p)=if (!decide (p ∈ ps))=true then some (PyData.int p) else none from rfl] at hN2;refine ite_b (fun c=>?_) (fun c=>?_)
    ·lia
     rw [if_pos c] at hN2;exact hN2 _ ⟨_,rfl⟩
    ·rw [if_neg (by rw [c];exact Bool.false_ne_true)] at hN2
     exact hN2 _ ⟨_,rfl⟩
   rintro ρ _;rw [qa5s];refine⟨by rw [length_append,length_map];show _ + 1 <= _;omega,?_⟩;lia;refine hN _ ⟨some (.d (encT t)),?_,'o'⟩;rw [take_add_one,hti,toList_some,List.flatMap_append,map_append,append_assoc];rfl
  ·rintro ρ ⟨v5,rfl,hi⟩
   rw [length_map,take_length];have hfl:=qb3k ps P;lia;refine⟨by rw [length_map];omega,?_⟩;refine L2.qa1c (fun ρ=>∃ v0:Option L,ρ=[v0]) fmN ⟨_,rfl⟩ ?_ ?_
   ·rintro x ρ N2 hx ⟨v0,rfl⟩ hN2
    obtain⟨t,ht,rfl⟩:=mem_map.mp hx;lia;cases t with
    | nil =>
     walk_at "dk";exact hN2 _ ⟨_,rfl⟩
    | cons y r =>
     refine qa2v (fun c=>?_) (fun c=>?_)
     ·lia
      exact hN2 _ ⟨_,rfl⟩
     ·exact absurd 'h' c
   rintro ρ _;rw [qb8e];refine qa0r (qb1s (fun t ht=>(qb7d ht).1) hpc) ?_;lia;exact q
def qb2b(p:Int):∀ t:List Int,inF (.int p) (t.map .int)=decide (p ∈ t)
 | []=>by simp [inF]
 | x :: r=>by
  have ih:=qb2b p r;unfold inF at ih ⊢;rw [map_cons,any_cons,ih];by_cases e:x=p
  ·subst e;simp [eqF]
  ·have e2:(x == p)=false:=by simpa using e
   have e3:¬ p=x:=fun h=>e h.symm;simp [eqF,e2,e3]
def qb0c:∀ t:List Int,(t.map PyData.int).all qa1n=true
 | []=>rfl
 | x :: r=>by rw [map_cons,all_cons,qb0c r];rfl
def qc2q{p:Int}{t:List Int}:fIn false (.int p) (.tuple (t.map .int))=some (.bool (decide (p ∈ t))):=by
 rw [fIn_f (by rw [qb0c];rfl),qb2b];rfl
def qb5n{p:Int}{t:List Int}:fIn false (.int p) (encT t)=some (.bool (decide (p ∈ t))):=qc2q
def qb5o:∀ t:List Int,PyData.eqvAll (t.map .int) (t.map .int)=true
 | []=>rfl
 | x :: r=>by
  show PyData.eqvAll (.int x :: r.map .int) (.int x :: r.map .int)=true;rw [PyData.eqvAll,qb5o r,PyData.eqv];simp
def shaped_ints(t:List Int):SeqAt.shaped (.list (t.map .int))=true:=by
 have h1:PyData.canLayAll0 (t.map .int)=true:=by
  induction t with
  | nil=>rfl
  | cons s r ih=>simp [PyData.canLayAll0,PyData.canLay0,ih]
 have h2:PyData.depthAll (t.map .int)=0:=by
  clear h1;induction t with
  | nil=>rfl
  | cons s r ih=>simp [PyData.depthAll,PyData.depth,ih]
 simp [SeqAt.shaped,PyData.canLay0,h1,PyData.depth,h2]
def eq_ints(t:List Int):fEqA false (.list (t.map .int)) (.list (t.map .int))=some (.bool true):=by
 rw [qb5c rfl (shaped_ints t) (shaped_ints t),PyData.eqv,qb5o];rfl
def qc2r(p:Str):∀ t:List Str,inF (.str p) (t.map .str)=decide (p ∈ t)
 | []=>by simp [inF]
 | x :: r=>by
  have ih:=qc2r p r;unfold inF at ih ⊢;rw [map_cons,any_cons,ih];by_cases e:x=p
  ·subst e;simp [eqF]
  ·have e2:(x == p)=false:=by simpa using e
   have e3:¬ p=x:=fun h=>e h.symm;simp [eqF,e2,e3]
def qc6w:∀ t:List Str,(t.map PyData.str).all qa1n=true
 | []=>rfl
 | x :: r=>by rw [map_cons,all_cons,qc6w r];rfl
abbrev encH(hs:List Str):PyData:=.tuple (hs.map .str)
def fIn_hs{p:Str}{t:List Str}:fIn false (.str p) (.tuple (t.map .str))=some (.bool (decide (p ∈ t))):=by
 rw [fIn_f (by rw [qc6w];rfl),qc2r];rfl
def qb2c(t:List Int):SeqAt.shaped (encT t)=true:=by
 have h1:PyData.canLayAll0 (t.map .int)=true:=by
  induction t with
  | nil=>rfl
  | cons s r ih=>simp [PyData.canLayAll0,PyData.canLay0,ih]
 have h2:PyData.depthAll (t.map .int)=0:=by
  clear h1;induction t with
  | nil=>rfl
  | cons s r ih=>simp [PyData.depthAll,PyData.depth,ih]
 simp [SeqAt.shaped,PyData.canLay0,h1,PyData.depth,h2]
def ne_unit(t:List Int):fEqA true (.tuple (t.map .int)) (.tuple [])=some (.bool (!t.isEmpty)):=by
 rw [qb5c (x:=.tuple (t.map .int)) (y:=.tuple []) rfl (qb2c t) (qb2c [])];cases t with
 | nil=>rfl
 | cons x r=>rfl
noncomputable def cutS(hs:List Str)(ps:List Int)(s:Str × List 'f'):Str × List 'f':=if s.1 ∈ hs then(s.1,cutP s.2 ps) else s
noncomputable def Wd.cut(W:Wd)(hs:List Str)(ps:List Int):Wd:={ W with sights:=W.sights.map (cutS hs ps) }
structure CutOk(W:Wd)(ps:List Int):Prop where
 sl:W.sights.length <= 100
 pl:ps.length <= 100
 al:∀ s ∈ W.sights,s.2.length <= 100/\(∀ t ∈ s.2,t.length <= 100)/\(pc s.2 ps).length < 64
def spCut:DSp:=fun ls Q=>∃ (W:Wd) (hs:List Str) (ps:List Int),ls=[.d W.enc,.d (encH hs),.d (encT ps)]/\CutOk W ps/\Q (.d (W.cut hs ps).enc) [none,none,none]
def qc2s{W:Wd}{hs:List Str}{ps:List Int}{i:Nat}{s:Str × List 'f'}(h:W.sights[i]? = some s):((W.sights.take (i + 1)).map (cutS hs ps)).map encS=((W.sights.take i).map (cutS hs ps)).map encS ++ [encS (cutS hs ps s)]:=by
 rw [take_add_one,h,toList_some,map_append,map_append];rfl
abbrev s_cut:Stmt:=top 20
def qb7e:FnScope ["world","hands","points","sights","pair","parts"] ["world","hands","points"] (qa0l s_cut):='a'
def ok_cut{f f1:Addr}{fd fd1:FuncData} (F:FU K "cut" s_cut f fd) (B:Bl mg)
  (d_cut_parts:Def K mg "cut_parts" qa7g ["parts","points"] f1 fd1) (g_cut_parts:FO P w K mg base n f1 fd1 ["parts","points"] qc2o):FO P w K mg base (n + 1) f fd ["world","hands","points"] spCut:=by
 refine F.dok qb7e (fun cdv A outer s H E hr ls Qd h=>?_) 'G';obtain⟨W,hs,ps,rfl,ok,q⟩:=h;refine⟨rfl,?_⟩;refine⟨_,(qa0e (qb0y (i:=3) qb7e.nd rfl 'c' (qa4n qa0b))
  (qa0e (qa5z PassesOwn.never rfl (qa1k 't') (qa0s (i:=4) qb7e.nd rfl 'c')
  (qa0e (qa1t (i:=5) qb7e.nd rfl 'c' (de_if (qa0w qa9k qa8a 'B' (dv 1) (by rfl)) (qa0h [false,false] d_cut_parts g_cut_parts hr rfl (qa0a 'B' 'w')) 'B'))
  (qa0g (qb3z (qa7o 3 rfl (qa1y (qa0a 'B' (qa0a (dv 5) qa0b))))))))
  (qa0g (qa0o (qa1y (qa0a 't' (qa0a 't' (qa0a (qa0y qa0p qa1h rfl B.tuple_ qa0t (qa0a (dv 3) qa0b)) qa0b)))))))),?_⟩
 have hsl:=ok.sl;lia;refine qa3q (fun i ρ=>∃ v4 v5,ρ=[some (L.d W.enc),some (L.d (encH hs)),some (L.d (encT ps)),some (.own (((W.sights.take i).map (cutS hs ps)).map encS)),v4,v5]/\i <= W.sights.length) ⟨none,none,rfl,'o'⟩ ?_ ?_
 ·rintro i x ρ N hx ⟨v4,v5,rfl,hi⟩ hN
  rw [getElem?_map] at hx;obtain⟨sa,hsa,rfl⟩:=map_eq_some_iff.mp hx;have hi2:=(List.getElem?_eq_some_iff.mp hsa).1;obtain⟨o1,o2,o3⟩:=ok.al sa (mem_of_getElem? hsa);have htk:(W.sights.take i).length <= 100:=by rw [length_take];omega
  lia;rw [fIn_hs];lia;refine qa2v (fun c=>?_) (fun c=>?_)
  ·lia
   refine⟨sa.2,ps,rfl,o1,o2,ok.pl,o3,?_⟩;lia;refine⟨by rw [length_map,length_map];omega,?_⟩;lia;refine hN _ ⟨some (.d (encS sa)),some (.d (.tuple ((cutP sa.2 ps).map encT))),?_,'o'⟩;rw [qc2s hsa,show cutS hs ps sa=(sa.1,cutP sa.2 ps) from if_pos c]
  ·lia
   refine⟨by rw [length_map,length_map];omega,?_⟩;lia;refine hN _ ⟨some (.d (encS sa)),some (.d (.tuple (sa.2.map encT))),?_,'o'⟩;rw [qc2s hsa,show cutS hs ps sa=sa from if_neg c]
 ·rintro ρ ⟨v4,v5,rfl,hi⟩
  rw [length_map,take_length];lia;exact q
def qd5y{α:Type}{p:α->Bool}{xs:List α}{i:Nat}{x:α}(h0:(xs.take i).find? p=none)(hx:xs[i]? = some x)(hp:p x=true):xs.find? p=some x:=by
 obtain⟨hi,e⟩:=List.getElem?_eq_some_iff.mp hx;have es:xs=xs.take i ++ x :: xs.drop (i + 1):=by rw [← e,← drop_eq_getElem_cons hi,List.take_append_drop]
 rw [es,List.find?_append,h0,none_or,find?_cons_of_pos hp]
def qd1y{α:Type}{p:α->Bool}{xs:List α}{i:Nat}{x:α}(h0:(xs.take i).find? p=none)(hx:xs[i]? = some x)(hp:p x=false):(xs.take (i + 1)).find? p=none:=by
 rw [take_add_one,hx,List.find?_append,h0,none_or,toList_some,find?_cons_of_neg (by rw [hp];exact Bool.false_ne_true)];rfl
noncomputable def qa1w(fs:List (Str × List Int))(z:Str):List Int:=((fs.find? fun f=>decide (f.1=z)).map (·.2)).getD []
def qc2t:DSp:=fun ls Q=>∃ W:Wd,ls=[.d W.enc]/\Q (.d (.int (W.moves.length:Int))) [none]
def qb5p:DSp:=fun ls Q=>∃ (W:Wd) (z:Str),ls=[.d W.enc,.d (.str z)]/\Q (.d (encT (qa1w W.facts z))) [none,none]
abbrev qa5j:Stmt:=top 12
def qb8f:FnScope ["world"] ["world"] (qa0l qa5j):='a'
def ok_many{f:Addr}{fd:FuncData} (F:FU K "many_points" qa5j f fd) (B:Bl mg):FO P w K mg base (n + 1) f fd ["world"] qc2t:=by
 refine F.dok qb8f (fun cdv A outer s H E hr ls Qd h=>?_) (fun ls Qd hq8=>by obtain⟨_,e,_⟩:=hq8;rw [e];rfl);obtain⟨W,rfl,q⟩:=h;refine⟨rfl,?_⟩;refine⟨_,(qa0g (qa0o (qa0v qa1l qa3j rfl B.len_ qa2r 'H'))),?_⟩;lia;rw [length_map];exact q
abbrev qa7h:Stmt:=top 13
def qb3l:FnScope ["world","name","pair"] ["world","name"] (qa0l qa7h):='a'
def qd1z{f:Addr}{fd:FuncData} (F:FU K "points_of" qa7h f fd) (B:Bl mg):FO P w K mg base (n + 1) f fd ["world","name"] qb5p:=by
 refine F.dok qb3l (fun cdv A outer s H E hr ls Qd h=>?_) 'm';obtain⟨W,z,rfl,q⟩:=h;refine⟨rfl,?_⟩;refine⟨_,(qa0e (qa5z PassesOwn.never rfl (qa1k 't') (qa0s (i:=2) qb3l.nd rfl 'c')
  (qa0g (qa1r (qa0w (qa1q hr.units) qa1p (qa0m qa0i qa0n (dv 2) qa0d 'b') (dv 1) (qa0u _))
  (qa0g (qa0o (qa0m qa0i qa0n (dv 2) qa0d 'b')))
  qa0z)))
  (qa0g (qa0o (qa1y qa0b)))),?_⟩
 lia;refine qa3q (fun i ρ=>∃ v2:Option L,ρ=[some (.d W.enc),some (.d (.str z)),v2]/\(W.facts.take i).find? (fun f=>decide (f.1=z))=none) ⟨none,rfl,rfl⟩ ?_ ?_
 ·rintro i x ρ N hx ⟨v2,rfl,h0⟩ hN
  rw [getElem?_map] at hx;obtain⟨fa,hf,rfl⟩:=map_eq_some_iff.mp hx;lia;refine qa2v (fun c=>?_) (fun c=>?_)
  ·lia
   have:qa1w W.facts z=fa.2:=by unfold qa1w;rw [qd5y h0 hf (by simpa using c)];rfl
   rw [this] at q;exact q
  ·lia
   exact hN _ ⟨_,rfl,qd1y h0 hf (by simpa using c)⟩
 ·rintro ρ ⟨v2,rfl,h0⟩
  rw [length_map,take_length] at h0;lia;have:qa1w W.facts z=[]:=by unfold qa1w;rw [h0];rfl
  rw [this] at q;exact q
noncomputable def tog(ps:List Int)(p:Int):List Int:=if p ∈ ps then ps.filter (fun q=>!decide (q=p)) else Sx.srtI (ps ++ [p])
def spTog:DSp:=fun ls Q=>∃ (ps:List Int) (p:Int),ls=[.d (encT ps),.d (.int p)]/\ps.length <= 20/\Q (.d (encT (tog ps p))) [none,none]
def qc2u:DSp:=fun ls Q=>∃ (ps:List Int) (p:Int),ls=[.d (encT ps),.d (.int p)]/\ps.length <= 20/\ps.Pairwise (· < ·)/\Q (.d (encT (tog ps p))) [none,none]
def fAdd_T{a b:List Int}(h:a.length + b.length <= 1000):fAdd (encT a) (encT b)=some (encT (a ++ b)):=by
 rw [show encT (a ++ b)=.tuple (a.map .int ++ b.map .int) by rw [← map_append]];exact qc1a (by rw [length_map,length_map,sizeLine_eq];omega)
def fAdd_LI{a b:List Int}(h:a.length + b.length <= 1000):fAdd (.list (a.map .int)) (.list (b.map .int))=some (.list ((a ++ b).map .int)):=by
 rw [map_append];exact fAdd_l (by rw [length_map,length_map,sizeLine_eq];omega)
def qc4i{p:Int}{t:List Int}:fIn true (.int p) (.tuple (t.map .int))=some (.bool (!decide (p ∈ t))):=by
 rw [fIn_f (by rw [qb0c];rfl),qb2b];rfl
def fMul_1{x:PyData}{b:Bool}:fMul (.list [x]) (.int (if b then 1 else 0))=some (.list (if b then [x] else [])):=by
 cases b with
 | false =>
  show @ite _ (-(2 ^ 63) <= (0:Int)/\(0:Int) < 2 ^ 63/\[x].length * (0:Int).toNat <= sizeLine) (Classical.propDecidable _) (some (PyData.list (List.replicate (0:Int).toNat [x]).flatten)) none=_;rw [if_pos ⟨'d','d',zero_le _⟩];rfl
 | true =>
  show @ite _ (-(2 ^ 63) <= (1:Int)/\(1:Int) < 2 ^ 63/\[x].length * (1:Int).toNat <= sizeLine) (Classical.propDecidable _) (some (PyData.list (List.replicate (1:Int).toNat [x]).flatten)) none=_;rw [if_pos ⟨'d','d',by rw [sizeLine_eq];show 1 <= _;omega⟩];rfl
def srtI_id{ns:List Int}(h:ns.Pairwise (· < ·)):Sx.srtI ns=ns:=(Sx.qa4z (List.Perm.refl _) (h.imp fun h=>Int.le_of_lt h)).symm
def qd5z{ps:List Int}{p:Int}(h:ps.Pairwise (· < ·)):Sx.srtI (ps.filter (fun q=>!decide (q=p)) ++ if (!decide (p ∈ ps))=true then [p] else [])=tog ps p:=by
 unfold tog;by_cases c:p ∈ ps
 ·rw [if_pos c,decide_eq_true c,if_neg 'd',append_nil,srtI_id (h.filter _)]
 ·rw [if_neg c,decide_eq_false c,if_pos 'd',List.filter_eq_self.mpr fun x hx=>by
   have:x ≠ p:=fun e=>c (e ▸ hx);simpa using this]
abbrev qb0d:Stmt:=top 26
def qc8y:FnScope ["points","point"] ["points","point"] (qa0l qb0d):='a'
def ok_tog{f:Addr}{fd:FuncData} (F:FU K "toggled" qb0d f fd) (B:Bl mg):FO P w K mg base (n + 1) f fd ["points","point"] spTog:=by
 refine F.dok qc8y (fun cdv A outer s H E hr ls Qd h=>?_) 'm';obtain⟨ps,p,rfl,hl,q⟩:=h;refine⟨rfl,?_⟩;refine⟨_,(qa0e (qa1r (qa0w qa9k qa8a (dv 1) (dv 0) (by rfl))
  (qa0g (qa0o (qa0y qa0p qa1h rfl B.tuple_ qa0t (qa0a (qa1m (qa1g ["other"] [("point",1)] rfl (by rfl) 'k' 'F' (fun _ _ _=>(qa0s (i:=0) (show(["other","point"]:List Str).Nodup by decide +kernel) rfl 'c')) (fun _ _ _=>(qa3h (qa0w (qa9o hr.units) qa9n (dv 0) (dv 1) (qa0u _)))) 'A')) qa0b))))
  qa0z)
  (qa0g (qa0o (qa0y qa0p qa1h rfl B.tuple_ qa0t (qa0a (qa0v qa8g qb1v rfl B.sorted_ qa2q (qa0a (qa7a qa3w qa5x (dv 0) (qa1y 'x')) qa0b)) qa0b))))),?_⟩
 lia;rw [qc2q];lia;refine qa2v (fun c=>?_) (fun c=>?_)
 ·lia
  refine⟨by rw [length_map];omega,?_⟩;refine L2.qa1c (fun ρ=>∃ v0:Option L,ρ=[v0,some (.d (.int p))]) (fmI fun q=>!decide (q=p)) ⟨_,rfl⟩ ?_ ?_
  ·rintro x ρ N hx ⟨v0,rfl⟩ hN
   obtain⟨y,hy,rfl⟩:=mem_map.mp hx;lia;rw [show fmI (fun q=>!decide (q=p)) (.int y)=if (!decide (y=p))=true then some (PyData.int y) else none from rfl] at hN;refine ite_b (fun c=>?_) (fun c=>?_)
   ·lia
    rw [if_pos c] at hN;exact hN _ ⟨_,rfl⟩
   ·rw [if_neg (by rw [c];exact Bool.false_ne_true)] at hN
    exact hN _ ⟨_,rfl⟩
  rintro ρ _;rw [qa5s];rw [show tog ps p=ps.filter (fun q=>!decide (q=p)) from if_pos c] at q;exact q
 ·lia
  refine qa0r (fAdd_T (b:=[p]) (by show _ + 1 <= _;omega)) (qa0r (qd5l (by rw [length_append];show _ + 1 < _;omega)) ?_);lia;rw [show tog ps p=Sx.srtI (ps ++ [p]) from if_neg c] at q;exact q
abbrev qa8j:Stmt:=top 37
def qc4j:FnScope ["_law_points","_law_p"] ["_law_points","_law_p"] (qa0l qa8j):='a'
def ok_flip{f:Addr}{fd:FuncData} (F:FU K "_law_flip" qa8j f fd) (B:Bl mg):FO P w K mg base (n + 1) f fd ["_law_points","_law_p"] qc2u:=by
 refine F.dok qc4j (fun cdv A outer s H E hr ls Qd h=>?_) 'm';obtain⟨ps,p,rfl,hl,hp,q⟩:=h;refine⟨rfl,?_⟩;refine⟨_,(qa0g (qa0o (qa0y qa0p qa1h rfl B.tuple_ qa0t (qa0a (qa0v qa8g qb1v rfl B.sorted_ qa2q (qa0a (qa7a qa3w qa5x (qa1m (qa1g ["_law_q"] [("_law_p",1)] rfl (by rfl) 'k' 'F' (fun _ _ _=>(qa0s (i:=0) (show(["_law_q","_law_p"]:List Str).Nodup by decide +kernel) rfl 'c')) (fun _ _ _=>(qa3h (qa0w (qa9o hr.units) qa9n (dv 0) (dv 1) (qa0u _)))) 'A')) (qa7a qd0q ad_mul (qa1m (qa4n 'x')) (qa0y qd1e ad_intB rfl B.int_ qb6g (qa0a (qa4d qa7b qa8a (dv 1) (dv 0) (by rfl)) qa0b)))) qa0b)) qa0b)))),?_⟩;lia;refine⟨by rw [length_map];omega,?_⟩;refine L2.qa1c (fun ρ=>∃ v0:Option L,ρ=[v0,some (.d (.int p))]) (fmI fun q=>!decide (q=p)) ⟨_,rfl⟩ ?_ ?_
 ·rintro x ρ N hx ⟨v0,rfl⟩ hN
  obtain⟨y,hy,rfl⟩:=mem_map.mp hx;lia;rw [show fmI (fun q=>!decide (q=p)) (.int y)=if (!decide (y=p))=true then some (PyData.int y) else none from rfl] at hN;refine ite_b (fun c=>?_) (fun c=>?_)
  ·lia
   rw [if_pos c] at hN;exact hN _ ⟨_,rfl⟩
  ·rw [if_neg (by rw [c];exact Bool.false_ne_true)] at hN
   exact hN _ ⟨_,rfl⟩
 rintro ρ _;rw [qa5s];have hf:(ps.filter fun q=>!decide (q=p)).length <= 20:=le_trans (length_filter_le ..) hl;refine qa0r qc4i (qa0r (show fIntB [.bool (!decide (p ∈ ps))]=some (.int (if (!decide (p ∈ ps))=true then 1 else 0)) from rfl) (qa0r fMul_1 ?_));rw [show(if (!decide (p ∈ ps))=true then [PyData.int p] else [])=(if (!decide (p ∈ ps))=true then [p] else []).map .int by split<;>rfl];have h1:(if (!decide (p ∈ ps))=true then [p] else []).length <= 1:=by split<;>simp
 refine qa0r (fAdd_LI 'o') (qa0r (qb5m (by rw [length_append];omega)) ?_);rw [qd5z hp];lia;exact q
noncomputable def low(c:Nat):Bool:=decide (97 <= c) && decide (c <= 122)
noncomputable def qa3k(x:Str):Bool:=decide (1 <= x.length) && decide (x.length <= 8) && x.cps.toList.all low
def leC_a(c:Nat):leC "a" ⟨#[c]⟩=decide (97 <= c):=by
 have e:(Str.ofString "a").cps.toList=[97]:=by decide +kernel
 unfold leC;rw [e];show decide ([97] <= [c])=_;rw [Bool.eq_iff_iff];simp [List.cons_le_cons_iff];omega
def leC_z(c:Nat):leC ⟨#[c]⟩ "z" = decide (c <= 122):=by
 have e:(Str.ofString "z").cps.toList=[122]:=by decide +kernel
 unfold leC;rw [e];show decide ([c] <= [122])=_;rw [Bool.eq_iff_iff];simp [List.cons_le_cons_iff];omega
def fLen_s{x:Str}(h:x.length <= 1000):fLen [.str x]=some (.int (x.length:Int)):=if_pos (by rw [sizeLine_eq];omega)
def qc6x(x:Str):x.cps.toList.length=x.length:=by simp [Str.length]
noncomputable def qa2y(p:Str):List Str->Bool
 | []=>true
 | x :: r=>qa3k x && !leC x p && qa2y x r
def qb2d:DSp:=fun ls Q=>∃ z:Str,ls=[.d (.str z)]/\qa3k z=true/\Q (.d (.bool true)) [none]
def qc2v:DSp:=fun ls Q=>∃ hs:List Str,ls=[.d (.list (hs.map .str))]/\qa2y "" hs=true/\Q (.d (.bool true)) [none]
def qb4f:DSp:=fun ls Q=>∃ p:Int,ls=[.d (.int p)]/\Q (.d (.bool true)) [none]
def qa8z:DSp:=fun ls Q=>∃ (ps:List Int) (m:Nat),ls=[.d (encT ps),.d (.int (m:Int))]/\(∀ x ∈ ps,0 <= x/\x < (m:Int))/\ps.Pairwise (· < ·)/\Q (.d (.bool true)) [none,none]
def qb5q:DSp:=fun ls Q=>∃ (ps:List Int) (m:Nat),ls=[.d (encT ps),.d (.int (m:Int))]/\(∀ x ∈ ps,0 <= x/\x < (m:Int))/\ps.length <= 100/\Q (.d (.bool true)) [none,none]
inductive Ch where
 | fact (z:Str) (p:Nat)
 | move (p q:Nat)
 | split (z:Str) (ps:List Int)
 | join (z:Str) (p q:Nat)
noncomputable def Ch.enc:Ch->PyData
 | .fact z p=>.tuple [.str "fact",.str z,.int (p:Int)]
 | .move p q=>.tuple [.str "move",.int (p:Int),.int (q:Int)]
 | .split z ps=>.tuple [.str "split",.str z,encT ps]
 | .join z p q=>.tuple [.str "join",.str z,.int (p:Int),.int (q:Int)]
noncomputable def Ch.ok(m:Nat):Ch->Prop
 | .fact z p=>qa3k z=true/\p < m
 | .move p q=>p < m/\q < m
 | .split z ps=>qa3k z=true/\InR m ps
 | .join z p q=>qa3k z=true/\p < m/\q < m
def qc2w:DSp:=fun ls Q=>∃ (c:Ch) (m:Nat),ls=[.d c.enc,.d (.int (m:Int))]/\c.ok m/\Q (.d (.bool true)) [none,none]
abbrev qa7u:Stmt:=top 3
def qc8z:FnScope ["thing"] ["thing"] (qa0l qa7u):='a'
def qc9a{f:Addr}{fd:FuncData} (F:FU K "is_name" qa7u f fd) (B:Bl mg) (m_LONGEST_NAME:∃ t,mg "LONGEST_NAME" = some (.int 8 t)):FO P w K mg base (n + 1) f fd ["thing"] qb2d:=by
 refine F.dok qc8z (fun cdv A outer s H E hr ls Qd h=>?_) 'p';obtain⟨x,rfl,hx,q⟩:=h;refine⟨rfl,?_⟩;refine⟨_,(qa0e (qa1r (qa2z (qa2k (qa3b rfl B.isinstance_ rfl B.str_ bt_str rfl (dv 0))))
  'v'
  qa0z)
  (qa0g (qa0o (qa2s (qb5a op_le (qa5w _) op_le (qa5w _) qa0d (qa0v qa1l qa3j rfl B.len_ qa2r 'y') (de_gint rfl m_LONGEST_NAME)) (qa3e (qa0v (qa5q rfl) qa8w rfl B.all_ qb1c (qa0a (qa1m (qa1g ["sign"] [] rfl (by rfl) 'k' (di_str (dv 0)) (fun _ _ _=>(qa0s (i:=0) (show(["sign"]:List Str).Nodup by decide +kernel) rfl 'c')) 'z' (fun _ _ _=>(qb5a qc1i qc1j qc1i qc1j qa1e (dv 0) qa1e)))) qa0b))))))),?_⟩
 unfold qa3k at hx;rw [and_eq_true,and_eq_true,decide_eq_true_eq,decide_eq_true_eq] at hx;obtain⟨⟨h1,h8⟩,hall⟩:=hx;lia;rw [show isD "str" (.str x)=true from rfl];lia;rw [fLen_s 'o',qa3n];lia;rw [decide_eq_true (show(1:Int) <= (x.length:Int) by omega),decide_eq_true (show(x.length:Int) <= 8 by omega)];lia;refine⟨by rw [length_map,qc6x];omega,?_⟩;refine L2.qa1c (fun ρ=>∃ v0:Option L,ρ=[v0]) (fun _=>some (.bool true)) ⟨_,rfl⟩ ?_ ?_
 ·rintro y ρ N hy ⟨v0,rfl⟩ hN
  obtain⟨c,hc,rfl⟩:=mem_map.mp hy;have hl:=all_eq_true.mp hall c hc;unfold low at hl;rw [and_eq_true] at hl;lia;rw [leC_a,leC_z,hl.1,hl.2];lia;exact hN _ ⟨_,rfl⟩
 ·rintro ρ _
  have ef:(signs x).filterMap (fun _=>some (PyData.bool true))=(x.cps.toList.map fun _=>true).map .bool:=by
   unfold signs;generalize x.cps.toList=l;induction l with
   | nil=>rfl
   | cons c r ih=>rw [map_cons,filterMap_cons,ih];simp
  rw [ef,qa6u,qa3n,show(x.cps.toList.map fun _=>true).all id=true by simp];exact q
abbrev qa3y:Stmt:=top 4
def qa3t:FnScope ["things","ahead","thing"] ["things"] (qa0l qa3y):='a'
def ok_rise{f f1:Addr}{fd fd1:FuncData} (F:FU K "are_rising_names" qa3y f fd) (B:Bl mg) (d_is_name:Def K mg "is_name" qa7u ["thing"] f1 fd1) (g_is_name:FO P w K mg base n f1 fd1 ["thing"] qb2d):FO P w K mg base (n + 1) f fd ["things"] qc2v:=by
 refine F.dok qa3t (fun cdv A outer s H E hr ls Qd h=>?_) 'p';obtain⟨xs,rfl,hf,q⟩:=h;refine⟨rfl,?_⟩;refine⟨_,(qa0e (qa1t (i:=1) qa3t.nd rfl 'c' qa1e)
  (qa0e (qa5z PassesOwn.never rfl 'F' (qa0s (i:=2) qa3t.nd rfl 'c')
  (qa0e (qa1r (DW.toT (qa5h (qa2z (qa2k (qa0h [false] d_is_name g_is_name hr rfl 'w'))) (qa4t (qa0w qc1i qc1j (dv 2) (dv 1) (qa0u _)))))
  'v'
  qa0z)
  (qa0g (qa1t (i:=1) qa3t.nd rfl 'c' (dv 2)))))
  'v')),?_⟩
 lia;refine qa3q (fun i ρ=>∃ (v2:Option L) (p:Str),ρ=[some (.d (.list (xs.map .str))),some (.d (.str p)),v2]/\qa2y p (xs.drop i)=true) ⟨none,"",rfl,hf⟩ ?_ ?_
 ·rintro i x ρ N hx ⟨v2,p,rfl,hr⟩ hN
  rw [getElem?_map] at hx;obtain⟨z,hz,rfl⟩:=map_eq_some_iff.mp hx;obtain⟨hi,ex⟩:=List.getElem?_eq_some_iff.mp hz;rw [drop_eq_getElem_cons hi,ex] at hr;unfold qa2y at hr;rw [and_eq_true,and_eq_true] at hr;lia;refine⟨z,rfl,hr.1.1,?_⟩;lia;rw [show leC z p=false by have:=hr.1.2;simpa using this];lia;exact hN _ ⟨_,z,rfl,hr.2⟩
 ·rintro ρ ⟨v2,p,rfl,hr⟩
  lia;exact q
abbrev qa6d:Stmt:=top 2
def qc4k:FnScope ["thing"] ["thing"] (qa0l qa6d):='a'
def qd6a{f:Addr}{fd:FuncData} (F:FU K "is_whole" qa6d f fd) (B:Bl mg):FO P w K mg base (n + 1) f fd ["thing"] qb4f:=by
 refine F.dok qc4k (fun cdv A outer s H E hr ls Qd h=>?_) 'p';obtain⟨p,rfl,q⟩:=h;refine⟨rfl,?_⟩;refine⟨_,(qa0g (qa0o (qa2s (qa3b rfl B.isinstance_ rfl B.int_ qb6g rfl (dv 0)) (qa3e (de_not (qa3b rfl B.isinstance_ rfl B.bool_ qb0v rfl (dv 0))))))),?_⟩;lia;rw [show isD "int" (.int p)=true from rfl];lia;rw [show isD "bool" (.int p)=false from rfl];lia;exact q
abbrev qa3z:Stmt:=top 7
def qa6e:FnScope ["thing","many","ahead","point"] ["thing","many"] (qa0l qa3z):='a'
def qc2x{f f1:Addr}{fd fd1:FuncData} (F:FU K "is_points" qa3z f fd) (B:Bl mg) (d_is_whole:Def K mg "is_whole" qa6d ["thing"] f1 fd1) (g_is_whole:FO P w K mg base n f1 fd1 ["thing"] qb4f):FO P w K mg base (n + 1) f fd ["thing","many"] qa8z:=by
 refine F.dok qa6e (fun cdv A outer s H E hr ls Qd h=>?_) 'i';obtain⟨ps,m,rfl,hb,hp,q⟩:=h;refine⟨rfl,?_⟩;refine⟨_,(qa0e (qa1r (qa2z (qa2k (qa3b rfl B.isinstance_ rfl B.tuple_ qa0t rfl (dv 0))))
  'v'
  qa0z)
  (qa0e (qa1t (i:=2) qa6e.nd rfl 'c' (de_neg qa0d))
  (qa0e (qa5z PassesOwn.never rfl 'F' (qa0s (i:=3) qa6e.nd rfl 'c')
  (qa0e (qa1r (DW.toT (qa5h (qa2z (qa2k (qa0h [false] d_is_whole g_is_whole hr rfl (qa0a (dv 3) qa0b)))) (qa4t (qa2z (qd3d op_lt (qa5w _) op_lt (qa5w _) (dv 2) (dv 3) (dv 1))))))
  'v'
  qa0z)
  (qa0g (qa1t (i:=2) qa6e.nd rfl 'c' (dv 3)))))
  'v'))),?_⟩
 lia;rw [show isD "tuple" (encT ps)=true from rfl];lia;refine qa3q (fun i ρ=>∃ (v3:Option L) (a:Int),ρ=[some (.d (encT ps)),some (.d (.int (m:Int))),some (.d (.int a)),v3]/\(∀ x ∈ ps.drop i,a < x)) ⟨none,-1,rfl,fun x hx=>by have:=hb x (List.mem_of_mem_drop hx);omega⟩ ?_ ?_
 ·rintro i x ρ N hx ⟨v3,a,rfl,ha⟩ hN
  rw [getElem?_map] at hx;obtain⟨z,hz,rfl⟩:=map_eq_some_iff.mp hx;obtain⟨hi,ex⟩:=List.getElem?_eq_some_iff.mp hz;rw [drop_eq_getElem_cons hi,ex] at ha;have hz2:=hb z (mem_of_getElem? hz);lia;refine⟨z,rfl,?_⟩;lia;rw [decide_eq_true (ha z mem_cons_self),decide_eq_true hz2.2];lia;refine hN _ ⟨_,z,rfl,fun y hy=>?_⟩;have hp2:=List.Pairwise.sublist (List.drop_sublist i ps) hp;rw [drop_eq_getElem_cons hi,ex] at hp2;exact(pairwise_cons.mp hp2).1 y hy
 ·rintro ρ ⟨v3,a,rfl,ha⟩
  lia;exact q
abbrev qa6f:Stmt:=top 25
def qb9l:FnScope ["things","many"] ["things","many"] (qa0l qa6f):='a'
def qb9m{f f1:Addr}{fd fd1:FuncData} (F:FU K "are_points" qa6f f fd) (B:Bl mg) (d_is_whole:Def K mg "is_whole" qa6d ["thing"] f1 fd1) (g_is_whole:FO P w K mg base n f1 fd1 ["thing"] qb4f):FO P w K mg base (n + 1) f fd ["things","many"] qb5q:=by
 refine F.dok qb9l (fun cdv A outer s H E hr ls Qd h=>?_) 'i';obtain⟨ps,m,rfl,hb,hl,q⟩:=h;refine⟨rfl,?_⟩;refine⟨_,(qa0g (qa0o (qa0v (qa5q rfl) qa8w rfl B.all_ qb1c (qa0a (qa1m (qa1g ["thing"] [("many",1)] rfl (by rfl) 'k' 'F' (fun _ _ _=>(qa0s (i:=0) (show(["thing","many"]:List Str).Nodup by decide +kernel) rfl 'c')) 'z' (fun _ _ _=>(qa2s (qa0h [false] d_is_whole g_is_whole hr rfl 'y') (qa3e (qb5a op_le (qa5w _) op_lt (qa5w _) qa0d (dv 0) (dv 1))))))) qa0b)))),?_⟩;lia;refine⟨by rw [length_map];omega,?_⟩;refine L2.qa1c (fun ρ=>∃ v0:Option L,ρ=[v0,some (.d (.int (m:Int)))]) (fun _=>some (.bool true)) ⟨_,rfl⟩ ?_ ?_
 ·rintro y ρ N hy ⟨v0,rfl⟩ hN
  obtain⟨c,hc,rfl⟩:=mem_map.mp hy;have hz2:=hb c hc;lia;refine⟨c,rfl,?_⟩;lia;rw [decide_eq_true hz2.1,decide_eq_true hz2.2];lia;exact hN _ ⟨_,rfl⟩
 ·rintro ρ _
  have ef:(ps.map PyData.int).filterMap (fun _=>some (PyData.bool true))=(ps.map fun _=>true).map .bool:=by
   clear hb hl;induction ps with
   | nil=>rfl
   | cons c r ih=>rw [map_cons,filterMap_cons,ih];simp
  rw [ef,qa6u,qa3n,show(ps.map fun _=>true).all id=true by simp];exact q
theorem qb0e{xs:List PyData}:isD "tuple" (.tuple xs)=true:=rfl
abbrev qa7i:Stmt:=top 24
def qc2y:FnScope ["thing","many"] ["thing","many"] (qa0l qa7i):='a'
def qc2z{f f1 f2 f3:Addr}{fd fd1 fd2 fd3:FuncData} (F:FU K "is_change" qa7i f fd) (B:Bl mg) (d_is_name:Def K mg "is_name" qa7u ["thing"] f1 fd1) (g_is_name:FO P w K mg base n f1 fd1 ["thing"] qb2d)
  (d_are_points:Def K mg "are_points" qa6f ["things","many"] f2 fd2) (g_are_points:FO P w K mg base n f2 fd2 ["things","many"] qb5q) (d_is_points:Def K mg "is_points" qa3z ["thing","many"] f3 fd3) (g_is_points:FO P w K mg base n f3 fd3 ["thing","many"] qa8z):FO P w K mg base (n + 1) f fd ["thing","many"] qc2w:=by
 refine F.dok qc2y (fun cdv A outer s H E hr ls Qd h=>?_) 'i';obtain⟨c,m,rfl,hc,q⟩:=h;refine⟨rfl,?_⟩;refine⟨_,(qa0e (qa1r (DW.toT (qa5h (qa2z (qa2k (qa3b rfl B.isinstance_ rfl B.tuple_ qa0t rfl (dv 0)))) (qa4t (qa0w qa7b qa8a (qa0v qa1l qa3j rfl B.len_ qa2r 'y') (qa1y (qa0a qa0d 'C')) (by rfl)))))
  'v'
  qa0z)
  (qa0e (qa1r (qa0w (qa1q hr.units) qa1p (qa0v qa1l qa3j rfl B.len_ qa2r 'y') qa0d (qa0u _))
  (qa0g (qa0o (qa2s (qa4d (qa1q hr.units) qa1p 't' qa1e (qa0u _)) (qa2s (qa0h [false] d_is_name g_is_name hr rfl 'H') (qa3e (qa0h [false,false] d_are_points g_are_points hr rfl (qa0a (qa9r qb2n qb2v (dv 0) (qb1b qa0d) qb1a) 'x')))))))
  qa0z)
  (qa0e (qa1r (qa0w (qa1q hr.units) qa1p 't' qa1e (qa0u _))
  (qa0g (qa0o (qa2s (qa0h [false] d_is_name g_is_name hr rfl 'H') (qa3e (qa0h [false,false] d_are_points g_are_points hr rfl (qa0a (qa9r qb2n qb2v (dv 0) (qb1b qa0d) qb1a) 'x'))))))
  qa0z)
  (qa0e (qa1r (qa0w (qa1q hr.units) qa1p 't' qa1e (qa0u _))
  (qa0g (qa0o (qa2s (qa0h [false] d_is_name g_is_name hr rfl 'H') (qa3e (qa0h [false,false] d_is_points g_is_points hr rfl (qa0a 't' 'x'))))))
  qa0z)
  (qa0g (qa0o (qa2s (qa4d (qa1q hr.units) qa1p 't' qa1e (qa0u _)) (qa3e (qa0h [false,false] d_are_points g_are_points hr rfl (qa0a (qa9r qb2n qb2v (dv 0) (qb1b qa0d) qb1a) 'x')))))))))),?_⟩
 cases c with
 | fact z p =>
  unfold Ch.enc;walk_at "dk";rw [qb0e];walk_at "dk";refine⟨z,rfl,hc.1,?_⟩;walk_at "dk";refine qa0r (x:=encT [(p:Int)]) rfl ⟨[(p:Int)],m,rfl,fun x hx=>?_,by simp,?_⟩
  ·simp only [mem_cons,not_mem_nil,or_false] at hx
   have:=hc.2;omega
  ·exact q
 | move p p2 =>
  unfold Ch.enc;walk_at "dk";rw [qb0e];walk_at "dk";refine qa0r (x:=encT [(p:Int),(p2:Int)]) rfl ⟨[(p:Int),(p2:Int)],m,rfl,fun x hx=>?_,by simp,?_⟩
  ·simp only [mem_cons,not_mem_nil,or_false] at hx
   have h1:=hc.1;have h2:=hc.2;omega
  ·exact q
 | split z ps =>
  unfold Ch.enc;walk_at "dk";rw [qb0e];walk_at "dk";refine⟨z,rfl,hc.1,?_⟩;walk_at "dk";refine⟨ps,m,rfl,hc.2.1,hc.2.2.2,?_⟩;walk_at "dk";exact q
 | join z p p2 =>
  unfold Ch.enc;walk_at "dk";rw [qb0e];walk_at "dk";refine⟨z,rfl,hc.1,?_⟩;walk_at "dk";refine qa0r (x:=encT [(p:Int),(p2:Int)]) rfl ⟨[(p:Int),(p2:Int)],m,rfl,fun x hx=>?_,by simp,?_⟩
  ·simp only [mem_cons,not_mem_nil,or_false] at hx
   have h1:=hc.2.1;have h2:=hc.2.2;omega
  ·exact q
abbrev qa6g:Stmt:=top 9
def qc4l:FnScope ["thing"] ["thing"] (qa0l qa6g):='a'
def qd6b{f f1:Addr}{fd fd1:FuncData} (F:FU K "is_named" qa6g f fd) (B:Bl mg) (d_are_rising_names:Def K mg "are_rising_names" qa3y ["things"] f1 fd1) (g_are_rising_names:FO P w K mg base n f1 fd1 ["things"] qc2v):FnOk P w K mg base CX0 (n + 1) f fd ["thing"] (spD K fun ls Q=>∃ ps:List 'j',ls=[.d (.tuple (ps.map qa2h))]/\ps.length <= 100/\qa2y "" (ps.map (·.1))=true/\Q (.d (.bool true)) [none]):=by
 refine F.dok qc4l (fun cdv A outer s H E hr ls Qd h=>?_) 'p';obtain⟨ps,rfl,hl,hn,q⟩:=h;refine⟨rfl,?_⟩;refine⟨_,(qa0e (qa1r (qa2z (qa2k (qa3b rfl B.isinstance_ rfl B.tuple_ qa0t rfl (dv 0))))
  'v'
  qa0z)
  (qa0e (qa1r (qa2z (qa2k (qa0v (qa5q rfl) qa8w rfl B.all_ qb1c (qa0a (qa1m (qa1g ["pair"] [] rfl (by rfl) 'k' 'F' (fun _ _ _=>(qa0s (i:=0) (show(["pair"]:List Str).Nodup by decide +kernel) rfl 'c')) 'z' (fun _ _ _=>(qa2s (qa3b rfl B.isinstance_ rfl B.tuple_ qa0t rfl (dv 0)) (qa3e (qa4d (qa1q hr.units) qa1p (qa0v qa1l qa3j rfl B.len_ qa2r 'y') qa0d (qa0u _))))))) qa0b))))
  'v'
  qa0z)
  (qa0g (qa0o (qa0h [false] d_are_rising_names g_are_rising_names hr rfl (qa0a (qa1m (qa1g ["pair"] [] rfl (by rfl) 'k' 'F' (fun _ _ _=>(qa0s (i:=0) (show(["pair"]:List Str).Nodup by decide +kernel) rfl 'c')) 'z' (fun _ _ _=>'t'))) qa0b)))))),?_⟩
 lia;rw [qb0e];lia;refine⟨by rw [length_map];omega,?_⟩;refine L2.qa1c (fun ρ=>∃ v0:Option L,ρ=[v0]) (fun _=>some (.bool true)) ⟨_,rfl⟩ ?_ ?_
 ·rintro y ρ N hy ⟨v0,rfl⟩ hN
  obtain⟨c,hc,rfl⟩:=mem_map.mp hy;lia;rw [show isD "tuple" (qa2h c)=true from rfl];walk_at "dk";exact hN _ ⟨_,rfl⟩
 ·rintro ρ _
  have ef:(ps.map qa2h).filterMap (fun _=>some (PyData.bool true))=(ps.map fun _=>true).map .bool:=by
   clear hl hn q;induction ps with
   | nil=>rfl
   | cons c r ih=>rw [map_cons,filterMap_cons,ih];simp
  rw [ef,qa6u,qa3n,show(ps.map fun _=>true).all id=true by simp];lia;refine⟨by rw [length_map];omega,?_⟩;refine L2.qa1c (fun ρ=>∃ v0:Option L,ρ=[v0]) (fun y=>match y with | .tuple (.str z :: _)=>some (.str z) | _=>none) ⟨_,rfl⟩ ?_ ?_
  ·rintro y ρ N hy ⟨v0,rfl⟩ hN
   obtain⟨c,hc,rfl⟩:=mem_map.mp hy;lia;exact hN _ ⟨_,rfl⟩
  ·rintro ρ _
   have eg:(ps.map qa2h).filterMap (fun y=>match y with | .tuple (.str z :: _)=>some (PyData.str z) | _=>none)=(ps.map (·.1)).map .str:=by
    clear hl hn q ef;induction ps with
    | nil=>rfl
    | cons c r ih=>rw [map_cons,filterMap_cons,ih];rfl
   rw [eg];lia;refine⟨_,rfl,hn,?_⟩;lia;exact q
def qb3m:DSp:=fun ls Q=>∃ (tss:List 'f') (m:Nat),ls=[.d (.tuple (tss.map encT)),.d (.int (m:Int))]/\m <= 20/\Parts m tss/\Q (.d (.bool true)) [none,none]
def Parts.flat{m:Nat}{tss:List 'f'}(h:Parts m tss):tss.flatten.Perm ((List.range m).map fun p:Nat=>(p:Int)):=by
 refine(List.perm_ext_iff_of_nodup h.nd ?_).mpr fun x=>?_
 ·exact pairwise_map.mpr (pairwise_lt_range.imp fun h=>by omega)
 ·rw [mem_flatten,mem_map]
  constructor
  ·rintro⟨t,ht,hx⟩
   have:=(h.inr t ht).1 x hx;exact⟨x.toNat,mem_range.mpr 'o','o'⟩
  ·rintro⟨p,hp,rfl⟩
   obtain⟨t,ht,hx⟩:=h.cov p (mem_range.mp hp);exact⟨t,ht,hx⟩
def Parts.sflat{m:Nat}{tss:List 'f'}(h:Parts m tss):Sx.srtI tss.flatten=(List.range m).map fun p:Nat=>(p:Int):=
 (Sx.qa4z h.flat.symm (pairwise_map.mpr (pairwise_lt_range.imp fun h=>by omega))).symm
def qc3a:∀ {m:Nat} {tss:List 'f'},(∀ t ∈ tss,t.length <= m)->tss.flatten.length <= m * tss.length
 | _,[],_=>by simp
 | m,t :: r,h=>by
  rw [flatten_cons,length_append,length_cons,Nat.mul_succ];have h1:=h t mem_cons_self;have h2:=qc3a (m:=m) (tss:=r) fun x hx=>h x (mem_cons_of_mem _ hx);omega
def eqv_LT:∀ tss:List 'f',PyData.eqvAll (tss.map encT) (tss.map encT)=true
 | []=>rfl
 | t :: r=>by
  show PyData.eqvAll (encT t :: r.map encT) (encT t :: r.map encT)=true;rw [PyData.eqvAll,eqv_LT r,PyData.eqv,qb5o];rfl
def qb9g(tss:List 'f'):SeqAt.shaped (.list (tss.map encT))=true:=by
 have i1:∀ t:List Int,PyData.canLayAll0 (t.map .int)=true:=fun t=>by
  induction t with
  | nil=>rfl
  | cons s r ih=>simp [PyData.canLayAll0,PyData.canLay0,ih]
 have i2:∀ t:List Int,PyData.depthAll (t.map .int)=0:=fun t=>by
  induction t with
  | nil=>rfl
  | cons s r ih=>simp [PyData.depthAll,PyData.depth,ih]
 have h1:PyData.canLayAll0 (tss.map encT)=true:=by
  induction tss with
  | nil=>rfl
  | cons s r ih=>simp [PyData.canLayAll0,PyData.canLay0,ih,i1]
 have h2:PyData.depthAll (tss.map encT) <= 1:=by
  clear h1;induction tss with
  | nil=>simp [PyData.depthAll]
  | cons s r ih =>
   have:=i2 s;simp [PyData.depthAll,PyData.depth,this] at ih ⊢;omega
 simp [SeqAt.shaped,PyData.canLay0,h1,PyData.depth]
 omega
def eq_LT(tss:List 'f'):fEqA false (.list (tss.map encT)) (.list (tss.map encT))=some (.bool true):=by
 rw [qb5c rfl (qb9g tss) (qb9g tss),PyData.eqv,eqv_LT];rfl
def qb5r(m:Nat):rngD 0 m=((List.range m).map fun p:Nat=>(p:Int)).map .int:=by
 unfold rngD;rw [map_map];refine map_congr_left fun p _=>?_;show PyData.int (0 + (p:Int))=PyData.int (p:Int);congr 1;omega
def qc6y:DSp:=fun ls Q=>∃ ps:List 'j',ls=[.d (.tuple (ps.map qa2h))]/\ps.length <= 100/\qa2y "" (ps.map (·.1))=true/\Q (.d (.bool true)) [none]
def qb3n:DSp:=fun ls Q=>∃ (fs:List (Str × List Int)) (m:Nat),ls=[.d (.tuple (fs.map encF)),.d (.int (m:Int))]/\fs.length <= 100/\qa2y "" (fs.map (·.1))=true/\(∀ f ∈ fs,InR m f.2)/\Q (.d (.bool true)) [none,none]
def qb2e:DSp:=fun ls Q=>∃ (fs:List (Str × List 'f')) (m:Nat),ls=[.d (.tuple (fs.map encS)),.d (.int (m:Int))]/\fs.length <= 100/\m <= 20/\qa2y "" (fs.map (·.1))=true/\(∀ f ∈ fs,Parts m f.2)/\Q (.d (.bool true)) [none,none]
structure Gw(W:Wd):Prop where
 m1:1 <= W.many
 m2:W.many <= 9
 mv:W.moves.length=W.many
 mr:∀ t ∈ W.moves,InR W.many t
 fl:W.facts.length <= 4
 fn:qa2y "" (W.facts.map (·.1))=true
 fr:∀ f ∈ W.facts,InR W.many f.2
 sl:W.sights.length <= 4
 sn:qa2y "" (W.sights.map (·.1))=true
 sr:∀ s ∈ W.sights,Parts W.many s.2
def qb3o:DSp:=fun ls Q=>∃ W:Wd,ls=[.d W.enc]/\Gw W/\Q (.d (.bool true)) [none]
def qb5s{α:Type}{xs:List α}:xs.filterMap (fun _=>some (PyData.bool true))=(xs.map fun _=>true).map .bool:=by
 induction xs with
 | nil=>rfl
 | cons c r ih=>rw [filterMap_cons,ih];simp
def qb3p{α:Type}{xs:List α}:(xs.map fun _=>true).all id=true:=by simp
abbrev qa8k:Stmt:=top 8
def qb0j:FnScope ["thing","many","points","part"] ["thing","many"] (qa0l qa8k):='a'
def qc4m{f f1:Addr}{fd fd1:FuncData} (F:FU K "is_parts" qa8k f fd) (B:Bl mg) (d_is_points:Def K mg "is_points" qa3z ["thing","many"] f1 fd1) (g_is_points:FO P w K mg base n f1 fd1 ["thing","many"] qa8z):FO P w K mg base (n + 1) f fd ["thing","many"] qb3m:=by
 refine F.dok qb0j (fun cdv A outer s H E hr ls Qd h=>?_) 'i';obtain⟨tss,m,rfl,hm,hp,q⟩:=h;refine⟨rfl,?_⟩;refine⟨_,(qa0e (qa1r (qa2z (qa2k (qa3b rfl B.isinstance_ rfl B.tuple_ qa0t rfl (dv 0))))
  'v'
  qa0z)
  (qa0e (qb0y (i:=2) qb0j.nd rfl 'c' (qa4n qa0b))
  (qa0e (qa5z PassesOwn.never rfl 'F' (qa0s (i:=3) qb0j.nd rfl 'c')
  (qa0e (qa1r (DW.toT (qa5h (qa2z (qa2k (qa0h [false,false] d_is_points g_is_points hr rfl (qa0a (dv 3) 'x')))) (qa4t (qa0w (qa1q hr.units) qa1p (qa0v qa1l qa3j rfl B.len_ qa2r (qa0a (dv 3) qa0b)) qa0d (qa0u _)))))
  'v'
  qa0z)
  (qa0g (qb3z (qc6g 2 rfl (dv 3))))))
  (qa0g (qa0o (qa2s (qa4d (qa1q hr.units) qa1p (qa0v qa8g qb1v rfl B.sorted_ qa2q 'w') (qd4q rfl rfl B.range_ rfl B.list_ 'x') (qa0u _)) (qa3e (qa4d (qa1q hr.units) qa1p (qa0v qc8t qd5m rfl B.sorted_ qa2q 'y') (qa1m (qb8u qb2o qc5v rfl B.list_ qa8r 'y')) (qa0u _))))))))),?_⟩
 lia;rw [qb0e];lia;have hlen:=hp.len;refine qa3q (fun i ρ=>∃ (v3:Option L),ρ=[some (.d (.tuple (tss.map encT))),some (.d (.int (m:Int))),some (.own ((tss.take i).flatten.map .int)),v3]/\i <= tss.length) ⟨none,rfl,'o'⟩ ?_ ?_
 ·rintro i x ρ N hx ⟨v3,rfl,hi⟩ hN
  rw [getElem?_map] at hx;obtain⟨t,ht,rfl⟩:=map_eq_some_iff.mp hx;obtain⟨hi2,ex⟩:=List.getElem?_eq_some_iff.mp ht;have htm:=mem_of_getElem? ht;have hr:=hp.inr t htm;lia;refine⟨t,m,rfl,hr.1,hr.2.2,?_⟩;have htl:t.length <= m:=hr.2.1;have hfl:=qc3a (m:=m) (tss:=tss.take i) fun x hx=>(hp.inr x (List.mem_of_mem_take hx)).2.1;have htk:(tss.take i).length <= m:=by rw [length_take];omega
  have hml:m * (tss.take i).length <= 20 * 20:=Nat.mul_le_mul hm 'o';rw [length_map,decide_eq_false (show ¬ (t.length:Int)=0 by
   have:=hp.ne t htm;cases t with
   | nil=>exact absurd rfl this
   | cons _ _=>simp;omega)]
  lia;refine⟨t.map .int,rfl,by rw [length_map,length_map];omega,hN _ ⟨some (.d (encT t)),?_,'o'⟩⟩;rw [take_add_one,ht,toList_some,flatten_append,map_append];simp
 ·rintro ρ ⟨v3,rfl,hi⟩
  rw [length_map,take_length];lia;have hfl:=hp.flat.length_eq;rw [length_map,length_range] at hfl;refine qa0r (qb5m 'o') ?_;rw [hp.sflat];refine qa0r (qd4o 'o' 'o') ?_;rw [show((m:Int)).toNat=m by omega,qb5r];refine qa0r (eq_ints _) ?_;lia;refine qa0r (qd1w hp.ne 'o') ?_;rw [hp.srt];refine qa0r (eq_LT _) ?_;exact q
abbrev qa8l:Stmt:=top 10
def qc4n:FnScope ["thing","many"] ["thing","many"] (qa0l qa8l):='a'
def qc4o{f f1 f2:Addr}{fd fd1 fd2:FuncData} (F:FU K "is_facts" qa8l f fd) (B:Bl mg) (d_is_named:Def K mg "is_named" qa6g ["thing"] f1 fd1) (g_is_named:FO P w K mg base n f1 fd1 ["thing"] qc6y)
  (d_is_points:Def K mg "is_points" qa3z ["thing","many"] f2 fd2) (g_is_points:FO P w K mg base n f2 fd2 ["thing","many"] qa8z):FO P w K mg base (n + 1) f fd ["thing","many"] qb3n:=by
 refine F.dok qc4n (fun cdv A outer s H E hr ls Qd h=>?_) 'i';obtain⟨fs,m,rfl,hl,hn,hp,q⟩:=h;refine⟨rfl,?_⟩;refine⟨_,(qa0g (qa0o (qa2s (qa0h [false] d_is_named g_is_named hr rfl 'y') (qa3e (qa0v (qa5q rfl) qa8w rfl B.all_ qb1c (qa0a (qa1m (qa1g ["pair"] [("many",1)] rfl (by rfl) 'k' 'F' (fun _ _ _=>(qa0s (i:=0) (show(["pair","many"]:List Str).Nodup by decide +kernel) rfl 'c')) 'z' (fun _ _ _=>(qa0h [false,false] d_is_points g_is_points hr rfl (qa0a 't' 'x'))))) qa0b)))))),?_⟩;lia;refine⟨fs.map fun f=>(f.1,encT f.2),by rw [map_map];rfl,by rw [length_map];omega,by rw [map_map];exact hn,?_⟩;lia;refine⟨by rw [length_map];omega,?_⟩;refine L2.qa1c (fun ρ=>∃ v0:Option L,ρ=[v0,some (.d (.int (m:Int)))]) (fun _=>some (.bool true)) ⟨_,rfl⟩ ?_ ?_
 ·rintro y ρ N hy ⟨v0,rfl⟩ hN
  obtain⟨c,hc,rfl⟩:=mem_map.mp hy;lia;refine⟨c.2,m,rfl,(hp c hc).1,(hp c hc).2.2,?_⟩;lia;exact hN _ ⟨_,rfl⟩
 ·rintro ρ _
  rw [qb5s,qa6u,qa3n,qb3p];exact q
abbrev qa7j:Stmt:=top 11
def qc3b:FnScope ["thing","many"] ["thing","many"] (qa0l qa7j):='a'
def qc3c{f f1 f2:Addr}{fd fd1 fd2:FuncData} (F:FU K "is_sights" qa7j f fd) (B:Bl mg) (d_is_named:Def K mg "is_named" qa6g ["thing"] f1 fd1) (g_is_named:FO P w K mg base n f1 fd1 ["thing"] qc6y)
  (d_is_parts:Def K mg "is_parts" qa8k ["thing","many"] f2 fd2) (g_is_parts:FO P w K mg base n f2 fd2 ["thing","many"] qb3m):FO P w K mg base (n + 1) f fd ["thing","many"] qb2e:=by
 refine F.dok qc3b (fun cdv A outer s H E hr ls Qd h=>?_) 'i';obtain⟨fs,m,rfl,hl,hm,hn,hp,q⟩:=h;refine⟨rfl,?_⟩;refine⟨_,(qa0g (qa0o (qa2s (qa0h [false] d_is_named g_is_named hr rfl 'y') (qa3e (qa0v (qa5q rfl) qa8w rfl B.all_ qb1c (qa0a (qa1m (qa1g ["pair"] [("many",1)] rfl (by rfl) 'k' 'F' (fun _ _ _=>(qa0s (i:=0) (show(["pair","many"]:List Str).Nodup by decide +kernel) rfl 'c')) 'z' (fun _ _ _=>(qa0h [false,false] d_is_parts g_is_parts hr rfl (qa0a 't' 'x'))))) qa0b)))))),?_⟩;lia;refine⟨fs.map fun f=>(f.1,.tuple (f.2.map encT)),by rw [map_map];rfl,by rw [length_map];omega,by rw [map_map];exact hn,?_⟩;lia;refine⟨by rw [length_map];omega,?_⟩;refine L2.qa1c (fun ρ=>∃ v0:Option L,ρ=[v0,some (.d (.int (m:Int)))]) (fun _=>some (.bool true)) ⟨_,rfl⟩ ?_ ?_
 ·rintro y ρ N hy ⟨v0,rfl⟩ hN
  obtain⟨c,hc,rfl⟩:=mem_map.mp hy;lia;refine⟨c.2,m,rfl,hm,hp c hc,?_⟩;lia;exact hN _ ⟨_,rfl⟩
 ·rintro ρ _
  rw [qb5s,qa6u,qa3n,qb3p];exact q
abbrev qa8m:Stmt:=top 6
def qb0k:FnScope ["thing","moves","many"] ["thing"] (qa0l qa8m):='a'
def qc4p{f f1 f2 f3:Addr}{fd fd1 fd2 fd3:FuncData} (F:FU K "is_world" qa8m f fd) (B:Bl mg) (d_is_points:Def K mg "is_points" qa3z ["thing","many"] f1 fd1) (g_is_points:FO P w K mg base n f1 fd1 ["thing","many"] qa8z)
  (d_is_facts:Def K mg "is_facts" qa8l ["thing","many"] f2 fd2) (g_is_facts:FO P w K mg base n f2 fd2 ["thing","many"] qb3n) (d_is_sights:Def K mg "is_sights" qa7j ["thing","many"] f3 fd3) (g_is_sights:FO P w K mg base n f3 fd3 ["thing","many"] qb2e):FO P w K mg base (n + 1) f fd ["thing"] qb3o:=by
 refine F.dok qb0k (fun cdv A outer s H E hr ls Qd h=>?_) 'p';obtain⟨W,rfl,g,q⟩:=h;refine⟨rfl,?_⟩;refine⟨_,(qa0e (qa1r (DW.toT (qa5h (qa2z (qa2k (qa3b rfl B.isinstance_ rfl B.tuple_ qa0t rfl (dv 0)))) (qa4t (qa0w (qa9o hr.units) qa9n (qa0v qa1l qa3j rfl B.len_ qa2r 'y') qa0d (qa0u _)))))
  'v'
  qa0z)
  (qa0e (qa1t (i:=1) qb0k.nd rfl 'c' 't')
  (qa0e (qa1r (DW.toT (qa5h (qa2z (qa2k (qa3b rfl B.isinstance_ rfl B.tuple_ qa0t rfl (dv 1)))) (qa4t (qa0w (qa1q hr.units) qa1p (qa0v qa1l qa3j rfl B.len_ qa2r 'x') qa0d (qa0u _)))))
  'v'
  qa0z)
  (qa0e (qa1t (i:=2) qb0k.nd rfl (Or.inr rfl) (qa0v qa1l qa3j rfl B.len_ qa2r 'x'))
  (qa0e (qa1r (qa2z (qa2k (qa0v (qa5q rfl) qa8w rfl B.all_ qb1c (qa0a (qa1m (qa1g ["points"] [("many",2)] rfl (by rfl) 'k' (qa1k (dv 1)) (fun _ _ _=>(qa0s (i:=0) (show(["points","many"]:List Str).Nodup by decide +kernel) rfl 'c')) 'z' (fun _ _ _=>(qa0h [false,false] d_is_points g_is_points hr rfl (qa0a (dv 0) 'x'))))) qa0b))))
  'v'
  qa0z)
  (qa0g (qa0o (qa2s (qa0h [false,false] d_is_facts g_is_facts hr rfl (qa0a 't' 'w')) (qa3e (qa0h [false,false] d_is_sights g_is_sights hr rfl (qa0a 't' 'w'))))))))))),?_⟩
 have hmv:=g.mv;have h1:=g.m1;have h2:=g.m2;lia;rw [qb0e];walk_at "dk";rw [qb0e];lia;rw [length_map,decide_eq_false (show ¬ (W.moves.length:Int)=0 by omega)];lia;rw [length_map];refine⟨'o',?_⟩;refine L2.qa1c (fun ρ=>∃ v0:Option L,ρ=[v0,some (.d (.int (W.moves.length:Int)))]) (fun _=>some (.bool true)) ⟨_,rfl⟩ ?_ ?_
 ·rintro y ρ N hy ⟨v0,rfl⟩ hN
  obtain⟨c,hc,rfl⟩:=mem_map.mp hy;have hr:=g.mr c hc;rw [← hmv] at hr;lia;refine⟨c,W.moves.length,rfl,hr.1,hr.2.2,?_⟩;lia;exact hN _ ⟨_,rfl⟩
 ·rintro ρ _
  rw [qb5s,qa6u,qa3n,qb3p];have hfl:=g.fl;have hsl:=g.sl;lia;refine⟨W.facts,W.moves.length,rfl,'o',g.fn,fun f hf=>by rw [hmv];exact g.fr f hf,?_⟩;lia;refine⟨W.sights,W.moves.length,rfl,'o','o',g.sn,fun f hf=>by rw [hmv];exact g.sr f hf,?_⟩;exact q
section
variable{α:Type}[Inhabited α]{e:α->PyData}
noncomputable def putV(fs:List (Str × α))(z:Str)(d:α):List (Str × α):=if (fs.any fun q=>decide (q.1=z))=true then fs.map (fun q=>if q.1=z then(q.1,d) else q) else fs ++ [(z,d)]
noncomputable def qa4j(fs:List (Str × α))(z:Str):α:=((fs.find? fun q=>decide (q.1=z)).map (·.2)).getD default
noncomputable def srtV(fs:List (Str × α)):List (Str × α):=(Sx.srtS (fs.map (·.1))).map fun x=>(x,qa4j fs x)
noncomputable def eV(e:α->PyData)(q:Str × α):Str × PyData:=(q.1,e q.2)
def qa3i(fs:List (Str × α)):(fs.map (eV e)).map (·.1)=fs.map (·.1):=by rw [map_map];rfl
def qa7v(fs:List (Str × α))(z:Str)(d:α):putS (fs.map (eV e)) z (e d)=(putV fs z d).map (eV e):=by
 unfold putS putV;rw [any_map];show(if (fs.any fun q=>decide (q.1=z))=true then _ else _)=_;split
 ·rw [map_map,map_map]
  refine map_congr_left fun q _=>?_;show(if q.1=z then(q.1,e d) else eV e q)=eV e (if q.1=z then(q.1,d) else q);split<;>rfl
 ·rw [map_append];rfl
def lookP_V{fs:List (Str × α)}{x:Str}(h:x ∈ fs.map (·.1)):qa4a (fs.map (eV e)) x=e (qa4j fs x):=by
 unfold qa4a qa4j;rw [find?_map];show(((fs.find? fun q=>decide (q.1=x)).map (eV e)).map (·.2)).getD .none=_;obtain⟨q,hq,hx⟩:=mem_map.mp h;cases c:fs.find? fun q=>decide (q.1=x) with
 | none=>exact absurd hx (by simpa using find?_eq_none.mp c q hq)
 | some y=>rfl
def qb1f(fs:List (Str × α)):srtP (fs.map (eV e))=(srtV fs).map (eV e):=by
 unfold srtP srtV;rw [qa3i,map_map];refine map_congr_left fun x hx=>?_;show(x,qa4a (fs.map (eV e)) x)=(x,e (qa4j fs x));rw [lookP_V (qb1y.mp hx)]
def qb7f(fs:List (Str × α)):(srtV fs).map (·.1)=Sx.srtS (fs.map (·.1)):=by
 unfold srtV;rw [map_map];exact map_id _
def qd2a{fs:List (Str × α)}{x:Str}(h:x ∈ fs.map (·.1)):(x,qa4j fs x) ∈ fs:=by
 unfold qa4j;obtain⟨q,hq,hx⟩:=mem_map.mp h;cases c:fs.find? fun q=>decide (q.1=x) with
 | none=>exact absurd hx (by simpa using find?_eq_none.mp c q hq)
 | some y =>
  have h1:=find?_some c;have h2:=List.mem_of_find?_eq_some c;have h3:y.1=x:=by simpa using h1
  rw [← h3];exact h2
def qb5t{fs:List (Str × α)}{q:Str × α}(h:q ∈ srtV fs):q ∈ fs:=by
 unfold srtV at h;obtain⟨x,hx,rfl⟩:=mem_map.mp h;exact qd2a (qb1y.mp hx)
def qb2f(fs:List (Str × α))(z:Str)(d:α):(putV fs z d).map (·.1)=if z ∈ fs.map (·.1) then fs.map (·.1) else fs.map (·.1) ++ [z]:=by
 unfold putV;by_cases c:z ∈ fs.map (·.1)
 ·obtain⟨q,hq,hx⟩:=mem_map.mp c
  rw [if_pos c,if_pos (any_eq_true.mpr ⟨q,hq,by simpa using hx⟩),map_map];refine map_congr_left fun q _=>?_;show(if q.1=z then(q.1,d) else q).1=q.1;split<;>rfl
 ·rw [if_neg c,if_neg (fun y=>by
   obtain⟨q,hq,hx⟩:=any_eq_true.mp y;exact c (mem_map.mpr ⟨q,hq,by simpa using hx⟩)),map_append];rfl
def qb5u{fs:List (Str × α)}{z:Str}{d:α}{q:Str × α}(h:q ∈ putV fs z d):q ∈ fs ∨ q=(z,d):=by
 unfold putV at h;split at h
 ·obtain⟨y,hy,rfl⟩:=mem_map.mp h
  by_cases c:y.1=z
  ·rw [if_pos c,c];exact .inr rfl
  ·rw [if_neg c];exact .inl hy
 ·rcases mem_append.mp h with h | h
  ·exact .inl h
  ·exact .inr (mem_singleton.mp h)
def qd2b(fs:List (Str × α))(z x:Str)(d:α):qa4j (putV fs z d) x=if x=z then d else qa4j fs x:=by
 unfold qa4j putV;split
 ·rename_i h
  rw [find?_map];have ef:(fun q:Str × α=>decide ((if q.1=z then(q.1,d) else q).1=x))=fun q=>decide (q.1=x):=by
   funext q
   congr 1
   split<;>rfl
  show(((fs.find? fun q:Str × α=>decide ((if q.1=z then(q.1,d) else q).1=x)).map _).map _).getD default=_;rw [ef];by_cases c:x=z
  ·subst c
   rw [if_pos rfl];obtain⟨q,hq,hx⟩:=any_eq_true.mp h;cases c:fs.find? fun q=>decide (q.1=x) with
   | none=>exact absurd hx (find?_eq_none.mp c q hq)
   | some y =>
    have h3:y.1=x:=by simpa using find?_some c
    show(if y.1=x then(y.1,d) else y).2=d;rw [if_pos h3]
  ·rw [if_neg c]
   cases c2:fs.find? fun q=>decide (q.1=x) with
   | none=>rfl
   | some y =>
    have h3:y.1=x:=by simpa using find?_some c2
    show(if y.1=z then(y.1,d) else y).2=y.2;rw [if_neg (fun w=>c (h3.symm.trans w))]
 ·rename_i h
  rw [List.find?_append];by_cases c:x=z
  ·subst c
   rw [if_pos rfl,show(fs.find? fun q=>decide (q.1=x))=none from find?_eq_none.mpr fun q hq hx=>h (any_eq_true.mpr ⟨q,hq,hx⟩)];rw [none_or,find?_cons_of_pos 'h'];rfl
  ·rw [if_neg c,find?_cons_of_neg (by simpa using fun w=>c w.symm)]
   cases fs.find? fun q=>decide (q.1=x)<;>rfl
end
def leC_no{a b:Str}(h:Sx.leS a b)(n:a ≠ b):leC b a=false:=by
 unfold leC;rw [decide_eq_false_iff_not];exact fun z=>n (Sx.qb5f a b h z)
def qb7g{a b:Str}(h:leC b a=false):Sx.leS a b/\a ≠ b:=by
 unfold leC at h;rw [decide_eq_false_iff_not] at h;refine⟨(Sx.qb8z a b).resolve_right h,fun e=>h ?_⟩;subst e;exact List.le_refl _
def qd2c{x:Str}(h:qa3k x=true):leC x "" = false:=by
 unfold qa3k at h;rw [and_eq_true,and_eq_true,decide_eq_true_eq] at h;unfold leC;rw [decide_eq_false_iff_not,show(Str.ofString "").cps.toList=[] by decide +kernel];have hl:=qc6x x;cases c:x.cps.toList with
 | nil=>rw [c] at hl;have:=h.1.1;simp at hl;omega
 | cons a r=>simp
def qb4g:∀ {xs:List Str} {p:Str},(∀ x ∈ xs,qa3k x=true)->(∀ x ∈ xs,leC x p=false)->xs.Pairwise (fun a b=>leC b a=false)->qa2y p xs=true
 | [],_,_,_,_=>rfl
 | x :: r,p,hn,hp,hs=>by
  unfold qa2y;rw [hn x mem_cons_self,hp x mem_cons_self,qb4g (fun y hy=>hn y (mem_cons_of_mem _ hy)) (pairwise_cons.mp hs).1 (pairwise_cons.mp hs).2];rfl
def qd6c{xs:List Str}(hn:∀ x ∈ xs,qa3k x=true)(hd:xs.Nodup):qa2y "" (Sx.srtS xs)=true:=by
 have hn':∀ x ∈ Sx.srtS xs,qa3k x=true:=fun x hx=>hn x (qb1y.mp hx);refine qb4g hn' (fun x hx=>qd2c (hn' x hx)) ?_;exact(Sx.qc6i xs).imp₂ (fun _ _ h1 h2=>leC_no h1 h2) ((Sx.qa7p xs).nodup_iff.mpr hd)
def qa9w:∀ {xs:List Str} {p:Str},qa2y p xs=true->(∀ x ∈ xs,qa3k x=true)/\(∀ x ∈ xs,leC x p=false)/\xs.Pairwise (fun a b=>leC b a=false)
 | [],_,_=>⟨fun x h=>by simp at h,fun x h=>by simp at h,.nil⟩
 | x :: r,p,h=>by
  unfold qa2y at h;rw [and_eq_true,and_eq_true] at h;obtain⟨⟨h1,h2⟩,h3⟩:=h;have h2:leC x p=false:=by simpa using h2
  obtain⟨g1,g2,g3⟩:=qa9w h3;refine⟨fun y hy=>?_,fun y hy=>?_,pairwise_cons.mpr ⟨g2,g3⟩⟩
  ·rcases mem_cons.mp hy with rfl | hy
   ·exact h1
   ·exact g1 y hy
  ·rcases mem_cons.mp hy with rfl | hy
   ·exact h2
   ·have a1:=qb7g h2
    have a2:=qb7g (g2 y hy);refine leC_no (Sx.qb2z a1.1 a2.1) fun e=>a1.2 ?_;subst e;exact Sx.qb5f _ _ a1.1 a2.1
def qa3c{xs:List Str}{p:Str}(h:qa2y p xs=true):xs.Nodup:=(qa9w h).2.2.imp fun h e=>(qb7g h).2 e
def rise_id{xs:List Str}{p:Str}(h:qa2y p xs=true):Sx.srtS xs=xs:=(Sx.qb4b (List.Perm.refl _) ((qa9w h).2.2.imp fun h=>(qb7g h).1)).symm
def qc3d{α:Type}[Inhabited α]:∀ {fs:List (Str × α)} {q:Str × α},(fs.map (·.1)).Nodup->q ∈ fs->qa4j fs q.1=q.2
 | [],q,_,h=>by simp at h
 | a :: r,q,hn,h=>by
  rw [map_cons,nodup_cons] at hn;unfold qa4j;rcases mem_cons.mp h with rfl | h
  ·rw [find?_cons_of_pos 'h'];rfl
  ·have hne:a.1 ≠ q.1:=fun e=>hn.1 (by rw [e];exact List.mem_map_of_mem h)
   rw [find?_cons_of_neg (by simpa using hne)];exact qc3d hn.2 h
def qb4h{α:Type}[Inhabited α]{fs:List (Str × α)}{p:Str}(h:qa2y p (fs.map (·.1))=true):srtV fs=fs:=by
 unfold srtV;rw [rise_id h,map_map];have:fs.map ((fun x=>(x,qa4j fs x)) ∘ (·.1))=fs.map id:=map_congr_left fun q hq=>by
  show(q.1,qa4j fs q.1)=q;rw [qc3d (qa3c h) hq]
 rw [this,map_id]
def qa6h{α:Type}[Inhabited α]{fs:List (Str × α)}{z:Str}{d:α}(h:(fs.map (·.1)).Nodup):((putV fs z d).map (·.1)).Nodup:=by
 rw [qb2f];split
 ·exact h
 ·rename_i c
  refine nodup_append.mpr ⟨h,by simp,fun a ha b hb e=>?_⟩;rw [mem_singleton.mp hb] at e;exact c (e ▸ ha)
def qb5v{α:Type}[Inhabited α]{fs:List (Str × α)}{z:Str}{d:α} (h:qa2y "" (fs.map (·.1))=true) (hz:qa3k z=true):qa2y "" ((srtV (putV fs z d)).map (·.1))=true:=by
 rw [qb7f];refine qd6c (fun x hx=>?_) (qa6h (qa3c h));rw [qb2f] at hx;split at hx
 ·exact(qa9w h).1 x hx
 ·rcases mem_append.mp hx with hx | hx
  ·exact(qa9w h).1 x hx
  ·rw [mem_singleton.mp hx];exact hz
def qb8g{n:Nat}{z:Int}(h0:0 <= z)(h1:z < (n:Int)):ixN n z=some z.toNat:=by unfold ixN;rw [if_pos h0,if_pos h1]
noncomputable def mkAt(tss:List 'f')(p:Nat):Nat:=tss.findIdx fun t=>decide ((p:Int) ∈ t)
noncomputable def mks(m:Nat)(tss:List 'f'):List Int:=(List.range m).map fun p=>(mkAt tss p:Int)
def qb8h:DSp:=fun ls Q=>∃ (tss:List 'f') (m:Nat),ls=[.d (.tuple (tss.map encT)),.d (.int (m:Int))]/\m <= 20/\Parts m tss/\Q (.d (.list ((mks m tss).map .int))) [none,none]
def Parts.dis{m:Nat}{tss:List 'f'}(h:Parts m tss){i j:Nat}{x:Int}(hi:i < tss.length)(hj:j < tss.length)(h1:x ∈ tss[i])(h2:x ∈ tss[j]):i=j:=by
 have hd:=(pairwise_flatten.mp h.nd).2;rw [pairwise_iff_getElem] at hd;rcases Nat.lt_trichotomy i j with c | c | c
 ·exact absurd rfl (hd i j hi hj c x h1 x h2)
 ·exact c
 ·exact absurd rfl (hd j i hj hi c x h2 x h1)
def Parts.mkAt_eq{m:Nat}{tss:List 'f'}(h:Parts m tss){i p:Nat}(hi:i < tss.length)(h1:(p:Int) ∈ tss[i]):mkAt tss p=i:=by
 unfold mkAt;have hex:∃ t ∈ tss,decide ((p:Int) ∈ t)=true:=⟨tss[i],getElem_mem hi,decide_eq_true h1⟩;have hlt:(tss.findIdx fun t=>decide ((p:Int) ∈ t)) < tss.length:=List.findIdx_lt_length_of_exists hex;have h2:=List.findIdx_getElem (w:=hlt);exact h.dis hlt hi (by simpa using h2) h1
abbrev qa8n:Stmt:=top 14
def qa5d:FnScope ["parts","many","marks","number","part","point"] ["parts","many"] (qa0l qa8n):='a'
def qd6d{f:Addr}{fd:FuncData} (F:FU K "marks_of" qa8n f fd) (B:Bl mg):FO P w K mg base (n + 1) f fd ["parts","many"] qb8h:=by
 refine F.dok qa5d (fun cdv A outer s H E hr ls Qd h=>?_) 'i';obtain⟨tss,m,rfl,hm,hp,q⟩:=h;refine⟨rfl,?_⟩;refine⟨_,(qa0e (qb0y (i:=2) qa5d.nd rfl 'c' (df_op op_rep ad_rep (qa1m (qa4n 'C')) (dv 1)))
  (qa0e (qa5z PassesOwn.never rfl (qd5q rfl B.enumerate_ (dv 0)) (dg_tup (n:=2) rfl (qa9m (qa0s (i:=3) qa5d.nd rfl 'c') (qa9m (qa0s (i:=4) qa5d.nd rfl 'c') qc6b)))
  (qa0g (qa5z PassesOwn.never rfl (qa1k (dv 4)) (qa0s (i:=5) qa5d.nd rfl 'c')
  (qa0g (qc0z 2 rfl (dv 5) (dv 3))))))
  (qa0g (qa0o (dv 2))))),?_⟩
 lia;refine qa0r (x:=List.replicate m (.int 0)) ?_ ?_
 ·show @ite _ (-(2 ^ 63) <= (m:Int)/\(m:Int) < 2 ^ 63/\[PyData.int 0].length * (m:Int).toNat <= sizeLine) (Classical.propDecidable _) (some (List.replicate (m:Int).toNat [PyData.int 0]).flatten) none=_
  rw [if_pos ⟨'o','o',by rw [sizeLine_eq];show 1 * _ <= _;omega⟩,show((m:Int)).toNat=m by omega];simp
 lia;refine qa3q (fun i ρ=>∃ (v3 v4 v5:Option L) (ms:List Int),ρ=[some (.d (.tuple (tss.map encT))),some (.d (.int (m:Int))),some (.own (ms.map .int)),v3,v4,v5]/\ms.length=m/\i <= tss.length/\∀ (k p:Nat) (hk:k < tss.length),k < i->(p:Int) ∈ tss[k]->ms.getD p 0=(k:Int)) ⟨none,none,none,List.replicate m 0,by rw [List.map_replicate],by simp,'o',fun k p hk h=>absurd h 'o'⟩ ?_ ?_
 ·rintro i x ρ N hx ⟨v3,v4,v5,ms,rfl,hl,hi,hms⟩ hN
  rw [qb8x,getElem?_map] at hx;obtain⟨d,hd,rfl⟩:=map_eq_some_iff.mp hx;obtain⟨t,ht,rfl⟩:=map_eq_some_iff.mp hd;obtain⟨hi2,et⟩:=List.getElem?_eq_some_iff.mp ht;have hr:=hp.inr t (mem_of_getElem? ht);lia;refine qa3q (fun j ρ=>∃ (v5:Option L) (ms:List Int),ρ=[some (.d (.tuple (tss.map encT))),some (.d (.int (m:Int))),some (.own (ms.map .int)),some (.d (.int (i:Int))),some (.d (encT t)),v5]/\ms.length=m/\(∀ (k p:Nat) (hk:k < tss.length),k < i->(p:Int) ∈ tss[k]->ms.getD p 0=(k:Int))/\∀ p:Nat,(p:Int) ∈ t.take j->ms.getD p 0=(i:Int)) ⟨v5,ms,rfl,hl,hms,fun p hp=>by simp at hp⟩ ?_ ?_
  ·rintro j y ρ N2 hy ⟨v5,ms,rfl,hl,hms,hmi⟩ hN2
   rw [getElem?_map] at hy;obtain⟨z,hz,rfl⟩:=map_eq_some_iff.mp hy;have hzm:=mem_of_getElem? hz;have hzb:=hr.1 z hzm;lia;refine qa0r (x:=z.toNat) (by rw [length_map,hl];exact qb8g hzb.1 hzb.2) ?_;rw [← map_set];refine hN2 _ ⟨_,ms.set z.toNat (i:Int),rfl,by rw [length_set];exact hl,fun k p hk hki hpk=>?_,fun p hpt=>?_⟩
   ·have hne:p ≠ z.toNat:=fun e=>by
     have ez:(p:Int)=z:=by omega
     rw [ez] at hpk;have:=hp.dis hk hi2 hpk (by rw [et];exact hzm);omega
    rw [getD_eq_getElem?_getD,getElem?_set_ne (Ne.symm hne),← getD_eq_getElem?_getD];exact hms k p hk hki hpk
   ·by_cases e:p=z.toNat
    ·subst e
     rw [getD_eq_getElem?_getD,getElem?_set_self 'o'];rfl
    ·rw [getD_eq_getElem?_getD,getElem?_set_ne (Ne.symm e),← getD_eq_getElem?_getD]
     rw [take_add_one,hz,toList_some,mem_append,mem_singleton] at hpt;rcases hpt with hpt | hpt
     ·exact hmi p hpt
     ·exact absurd (show p=z.toNat by omega) e
  ·rintro ρ ⟨v5,ms,rfl,hl,hms,hmi⟩
   refine hN _ ⟨_,_,v5,ms,rfl,hl,'o',fun k p hk hlt hm=>?_⟩;rw [length_map,take_length] at hmi;rcases Nat.lt_or_ge k i with c | c
   ·exact hms k p hk c hm
   ·have ek:k=i:=by omega
    subst ek;rw [et] at hm;exact hmi p hm
 ·rintro ρ ⟨v3,v4,v5,ms,rfl,hl,hi,hms⟩
  rw [qb2x,length_map] at hms;lia;have em:ms=mks m tss:=by
   show ms=(List.range m).map fun p=>(mkAt tss p:Int);apply ext_getElem
   ·simp [hl]
   ·intro p h1 h2
    obtain⟨t,ht,hpt⟩:=hp.cov p 'o';obtain⟨k,hk,ek⟩:=getElem_of_mem ht;have hm2:(p:Int) ∈ tss[k]:=by rw [ek];exact hpt
    have:=hms k p hk hk hm2;rw [getD_eq_getElem?_getD,getElem?_eq_getElem h1] at this;rw [getElem_map,List.getElem_range,hp.mkAt_eq hk hm2];exact this
  rw [em];exact q
def qb3q:DSp:=fun ls Q=>∃ ms:List Int,ls=[.d (.list (ms.map .int))]/\ms.length <= 60/\Q (.d (.tuple ((Sx.srtT (grpD ms)).map encT))) [none]
abbrev qa8o:Stmt:=top 15
def qa7k:FnScope ["marks","parts","point","mark"] ["marks"] (qa0l qa8o):='a'
def qc4q{f:Addr}{fd:FuncData} (F:FU K "parts_by" qa8o f fd) (B:Bl mg):FO P w K mg base (n + 1) f fd ["marks"] qb3q:=by
 refine F.dok qa7k (fun cdv A outer s H E hr ls Qd h=>?_) 'p';obtain⟨ms,rfl,hl,q⟩:=h;refine⟨rfl,qc2e,⟨_,qa2a (qa4l (i:=1) qa7k.nd rfl 'c' qc1e) (qa2a (qb5z PassesOwn.never rfl (pi_enum rfl B.enumerate_ (pv 0)) (pg_tup rfl (qb4t (qb0o (i:=2) qa7k.nd rfl 'c') (qb4t (qb0o (i:=3) qa7k.nd rfl 'c') qc5d)))
  (qa3u (qb7o (pe_bm PySem.F.plainAttrs_list PySem.F.slot_list_append PySem.F.type_list_append qb2p (pe_bm PySem.F.plainAttrs_dict PySem.F.slot_dict_setdefault PySem.F.type_dict_setdefault qd1t (pv 1) (qa1f (pv 3) (qa1f (qb9w qa2j) qa2j))) (qa1f (pv 2) qa2j)))))
  (qa3u (qa9c (qa7l qa0p rfl B.tuple_ qa0t (qa1f (qa5l qa7s rfl B.sorted_ qa2q (qa1f (qc5n (own:=["part"]) (cap:=[]) rfl (by rfl) 'k' (pi_vals (pv 1)) (fun _ _ _=>qb0o (i:=0) (show(["part"]:List Str).Nodup by decide +kernel) rfl 'c') (fun _ _ _=>qc5m) (fun _ _ _=>qa7l qa0p rfl B.tuple_ qa0t (qa1f (pv 0) qa2j))) qa2j)) qa2j))))),qc8s⟩,?_⟩
 exact⟨ms,rfl,hl,rfl,q⟩
noncomputable def jm(m:Nat)(tss:List 'f')(p q:Nat):List Int:=(mks m tss).map fun k=>if k=(mkAt tss q:Int) then(mkAt tss p:Int) else k
def qc3e:DSp:=fun ls Q=>∃ (tss:List 'f') (m p q:Nat),ls=[.d (.tuple (tss.map encT)),.d (.int (p:Int)),.d (.int (q:Int))]/\m <= 20/\p < m/\q < m/\Parts m tss/\Q (.d (.tuple ((Sx.srtT (grpD (jm m tss p q))).map encT))) [none,none,none]
def qb8i(m:Nat)(tss:List 'f'):(mks m tss).length=m:=by unfold mks;simp
def qc3f{m p:Nat}{tss:List 'f'}(h:p < m):(mks m tss)[p]? = some (mkAt tss p:Int):=by unfold mks;rw [getElem?_map,List.getElem?_range h];rfl
def qc6z:∀ tss:List 'f',(tss.map fun t=>(t.length:Int)).sum=(tss.flatten.length:Int)
 | []=>rfl
 | t :: r=>by
  rw [map_cons,List.sum_cons,qc6z r,flatten_cons,length_append];omega
abbrev qa5b:Stmt:=top 28
def qb0f:FnScope ["parts","one","other","marks"] ["parts","one","other"] (qa0l qa5b):='a'
def qd2d{f f1 f2:Addr}{fd fd1 fd2:FuncData} (F:FU K "joined_parts" qa5b f fd) (B:Bl mg) (d_marks_of:Def K mg "marks_of" qa8n ["parts","many"] f1 fd1) (g_marks_of:FO P w K mg base n f1 fd1 ["parts","many"] qb8h) (d_parts_by:Def K mg "parts_by" qa8o ["marks"] f2 fd2) (g_parts_by:FO P w K mg base n f2 fd2 ["marks"] qb3q):FO P w K mg base (n + 1) f fd ["parts","one","other"] qc3e:=by
 refine F.dok qb0f (fun cdv A outer s H E hr ls Qd h=>?_) (fun ls Qd h=>by obtain⟨_,_,_,_,e,_⟩:=h;rw [e];rfl);obtain⟨tss,m,p,q2,rfl,hm,hp,hq,hP,q⟩:=h;refine⟨rfl,?_⟩;refine⟨_,(qa0e (qa1t (i:=3) qb0f.nd rfl (Or.inr rfl) (qa0h [false,false] d_marks_of g_marks_of hr rfl (qa0a (dv 0) (qa0a (qa0v (qd1d rfl) ad_sum rfl B.sum_ bt_sum (qa0a (qa1m (qa1g ["part"] [] rfl (by rfl) 'k' 'F' (fun _ _ _=>(qa0s (i:=0) (show(["part"]:List Str).Nodup by decide +kernel) rfl 'c')) 'z' (fun _ _ _=>(qa0v qa1l qa3j rfl B.len_ qa2r 'y')))) qa0b)) qa0b))))
  (qa0g (qa0o (qa0h [false] d_parts_by g_parts_by hr rfl (qa0a (qa1m (qa1g ["mark"] [("marks",3),("other",2),("one",1)] rfl (by rfl) 'k' (qa1k (dv 3)) (fun _ _ _=>(qa0s (i:=0) (show(["mark","marks","other","one"]:List Str).Nodup by decide +kernel) rfl 'c')) 'z' (fun _ _ _=>(de_if (qa0w (qa1q hr.units) qa1p (dv 0) (qa0m qa0i qa0n (dv 1) (dv 2) 'b') (qa0u _)) (qa0m qa0i qa0n (dv 1) (dv 3) 'b') (dv 0))))) qa0b))))),?_⟩
 have hlen:=hP.len;lia;refine⟨by rw [length_map];omega,?_⟩;refine L2.qa1c (fun ρ=>∃ v0:Option L,ρ=[v0]) (fun y=>match y with | .tuple xs=>some (.int (xs.length:Int)) | _=>none) ⟨_,rfl⟩ ?_ ?_
 ·rintro y ρ N hy ⟨v0,rfl⟩ hN
  obtain⟨c,hc,rfl⟩:=mem_map.mp hy;lia;exact hN _ ⟨_,rfl⟩
 rintro ρ _;have ef:(tss.map encT).filterMap (fun y=>match y with | .tuple xs=>some (PyData.int (xs.length:Int)) | _=>none)=(tss.map fun t=>(t.length:Int)).map .int:=by
  clear hP hlen q;induction tss with
  | nil=>rfl
  | cons c r ih=>rw [map_cons,filterMap_cons,ih];simp
 rw [ef];have hfl:=hP.flat.length_eq;rw [length_map,length_range] at hfl;refine qa0r (x:=.int (m:Int)) (by show(qa2x _).map _=_;rw [ints_of,map_some,qc6z,hfl]) ⟨tss,m,rfl,hm,hP,?_⟩;lia;have hml:=qb8i m tss;refine⟨by rw [length_map];omega,?_⟩;refine L2.qa1c (fun ρ=>∃ v0:Option L,ρ=[v0,some (.d (.list ((mks m tss).map .int))),some (.d (.int (q2:Int))),some (.d (.int (p:Int)))]) (fun y=>match y with | .int k=>some (.int (if k=(mkAt tss q2:Int) then(mkAt tss p:Int) else k)) | _=>none) ⟨_,rfl⟩ ?_ ?_
 ·rintro y ρ N hy ⟨v0,rfl⟩ hN
  obtain⟨c,hc,rfl⟩:=mem_map.mp hy;lia;refine qb0z 'o' 'q' fun d hd hdi=>?_;rw [show((q2:Int)).toNat=q2 by omega,getElem?_map,qc3f hq] at hdi;cases hdi;lia;refine qa2v (fun e=>?_) (fun e=>?_)
  ·lia
   refine qb0z 'o' 'q' fun d hd hdi=>?_;rw [show((p:Int)).toNat=p by omega,getElem?_map,qc3f hp] at hdi;cases hdi;lia;simp only [if_pos e] at hN;exact hN _ ⟨_,rfl⟩
  ·lia
   simp only [if_neg e] at hN;exact hN _ ⟨_,rfl⟩
 ·rintro ρ _
  have eg:((mks m tss).map PyData.int).filterMap (fun y=>match y with | .int k=>some (PyData.int (if k=(mkAt tss q2:Int) then(mkAt tss p:Int) else k)) | _=>none)=(jm m tss p q2).map .int:=by
   unfold jm;generalize mks m tss=l;induction l with
   | nil=>rfl
   | cons c r ih=>rw [map_cons,filterMap_cons,ih];simp
  rw [eg];lia;refine⟨_,rfl,by unfold jm;rw [length_map];omega,?_⟩;lia;exact q
def qa9a:∀ t:List Int,ndA (t.map .int)=true
 | []=>rfl
 | x :: r=>by
  show ndA (PyData.int x :: r.map .int)=true;unfold ndA;rw [qa9a r];rfl
def nd_T(t:List Int):ndD (encT t)=true:=by unfold encT ndD;exact qa9a t
def qa4w{α:Type}{e:α->PyData}(h:∀ x,ndD (e x)=true):∀ xs:List α,ndA (xs.map e)=true
 | []=>rfl
 | x :: r=>by
  show ndA (e x :: r.map e)=true;unfold ndA;rw [h x,qa4w h r];rfl
def qb2g(ts:List 'f'):ndD (.tuple (ts.map encT))=true:=by unfold ndD;exact qa4w nd_T ts
def qc7a{q:Str × PyData}(h:ndD q.2=true):ndD (qa2h q)=true:=by
 unfold qa2h ndD ndA ndA ndA;rw [h];unfold ndD;rfl
def nd_F(f:Str × List Int):ndD (encF f)=true:=qc7a (q:=(f.1,encT f.2)) (nd_T _)
def nd_S(f:Str × List 'f'):ndD (encS f)=true:=qc7a (q:=(f.1,.tuple (f.2.map encT))) (qb2g _)
noncomputable def sgl(m:Nat):List 'f':=(List.range m).map fun p:Nat=>[(p:Int)]
noncomputable def qa1i(W:Wd)(z:Str):List 'f':=((W.sights.find? fun s=>decide (s.1=z)).map (·.2)).getD (sgl W.many)
noncomputable def Wd.chg(W:Wd):Ch->Wd
 | .fact z p=>{ W with facts:=srtV (putV W.facts z (tog (qa1w W.facts z) (p:Int))) }
 | .move p q=>{ W with moves:=W.moves.set p (tog (W.moves.getD p []) (q:Int)) }
 | .split z ps=>W.cut [z] ps
 | .join z p q=>{ W with sights:=srtV (putV W.sights z (Sx.srtT (grpD (jm W.many (qa1i W z) p q)))) }
def spChd:DSp:=fun ls Q=>∃ (W:Wd) (c:Ch),ls=[.d W.enc,.d c.enc]/\Gw W/\c.ok W.many/\Q (.d (W.chg c).enc) [none,none]
def qb2h{W:Wd}(g:Gw W)(z:Str):InR W.many (qa1w W.facts z):=by
 unfold qa1w;cases c:W.facts.find? fun f=>decide (f.1=z) with
 | none=>exact⟨fun x hx=>absurd hx not_mem_nil,zero_le _,List.Pairwise.nil⟩
 | some y=>exact g.fr y (List.mem_of_find?_eq_some c)
def qc7b{W:Wd}{p:Nat}(h:p < W.moves.length):atI (W.moves.map encT) (p:Int)=some (encT (W.moves.getD p [])):=by
 unfold atI;rw [qb8g 'o' 'q',bind_some,show((p:Int)).toNat=p by omega,getElem?_map,getD_eq_getElem?_getD,getElem?_eq_getElem h];rfl
def qd6e(m:Nat):(sgl m).flatten=(List.range m).map fun p:Nat=>(p:Int):=by
 unfold sgl;generalize List.range m=l;induction l with
 | nil=>rfl
 | cons p r ih=>rw [map_cons,flatten_cons,ih];rfl
def qd2e(m:Nat):Parts m (sgl m):=by
 refine⟨fun t ht=>?_,fun t ht=>?_,?_,fun p hp=>?_,?_,?_⟩
 ·obtain⟨p,_,rfl⟩:=mem_map.mp ht
  exact List.cons_ne_nil _ _
 ·obtain⟨p,hp,rfl⟩:=mem_map.mp ht
  have:=mem_range.mp hp;refine⟨fun x hx=>?_,by show 1 <= m;omega,pairwise_singleton _ _⟩;rw [mem_singleton.mp hx];omega
 ·unfold sgl;rw [length_map,length_range];exact le_refl _
 ·exact⟨[(p:Int)],mem_map.mpr ⟨p,mem_range.mpr hp,rfl⟩,mem_singleton.mpr rfl⟩
 ·refine(Sx.qb1e (List.Perm.refl _) (pairwise_map.mpr (pairwise_lt_range.imp fun h=>?_))).symm
  rw [List.cons_le_cons_iff];exact .inl 'o'
 ·rw [qd6e]
  exact pairwise_map.mpr (pairwise_lt_range.imp fun h=>by omega)
abbrev eS(ts:List 'f'):PyData:=.tuple (ts.map encT)
def qb0l{W:Wd}(g:Gw W)(z:Str):Parts W.many (qa1i W z):=by
 unfold qa1i;cases c:W.sights.find? fun f=>decide (f.1=z) with
 | none=>exact qd2e _
 | some y=>exact g.sr y (List.mem_of_find?_eq_some c)
def qc3g{ps:List 'j'}(hn:(ps.map (·.1)).Nodup)(hl:ps.length <= 1000):qc1s [.tuple (ps.map qa2h)]=some (dicS ps):=by
 show(unQ (ps.map qa2h)).bind _=_;rw [unQ_of,bind_some,if_pos hl];unfold dictQ;rw [show qa6a [] (ps.map kQ)=ps.map kQ from qa8y ps [] hn]
def getD_S{W:Wd}{z:Str}:fGetD (dicS (W.sights.map (eV eS))) [.str z,eS (sgl W.many)]=some (eS (qa1i W z)):=by
 show(if notL (eS (sgl W.many))=true then some ((getA _ (Sum.inr z)).getD (eS (sgl W.many))) else none)=_;rw [if_pos (show notL (eS (sgl W.many))=true from rfl),qa9v,find?_map];unfold qa1i;show some ((((W.sights.find? fun s=>decide (s.1=z)).map (eV eS)).map (·.2)).getD _)=_;cases W.sights.find? fun s=>decide (s.1=z)<;>rfl
abbrev qb0g:Stmt:=top 23
def qa6i:FnScope ["world","change","many","points","moves","parts"] ["world","change"] (qa0l qb0g):='a'
def qc9b{f f1 f2 f3 f4 f5 f6 f7:Addr}{fd fd1 fd2 fd3 fd4 fd5 fd6 fd7:FuncData} (F:FU K "changed" qb0g f fd) (B:Bl mg) (d_many_points:Def K mg "many_points" qa5j ["world"] f1 fd1) (g_many_points:FO P w K mg base n f1 fd1 ["world"] qc2t)
  (d_is_change:Def K mg "is_change" qa7i ["thing","many"] f2 fd2) (g_is_change:FO P w K mg base n f2 fd2 ["thing","many"] qc2w) (d_points_of:Def K mg "points_of" qa7h ["world","name"] f3 fd3) (g_points_of:FO P w K mg base n f3 fd3 ["world","name"] qb5p)
  (d_toggled:Def K mg "toggled" qb0d ["points","point"] f4 fd4) (g_toggled:FO P w K mg base n f4 fd4 ["points","point"] spTog) (d_with_pair:Def K mg "with_pair" qa7f ["pairs","name","value"] f5 fd5) (g_with_pair:FO P w K mg base n f5 fd5 ["pairs","name","value"] qc2m)
  (d_cut:Def K mg "cut" s_cut ["world","hands","points"] f6 fd6) (g_cut:FO P w K mg base n f6 fd6 ["world","hands","points"] spCut) (d_joined_parts:Def K mg "joined_parts" qa5b ["parts","one","other"] f7 fd7) (g_joined_parts:FO P w K mg base n f7 fd7 ["parts","one","other"] qc3e):FO P w K mg base (n + 1) f fd ["world","change"] spChd:=by
 refine F.dok qa6i (fun cdv A outer s H E hr ls Qd h=>?_) 'i';obtain⟨W,c,rfl,g,hc,q⟩:=h;refine⟨rfl,?_⟩;refine⟨_,(qa0e (qa1t (i:=2) qa6i.nd rfl 'c' (qa0h [false] d_many_points g_many_points hr rfl 'y'))
  (qa0e (qa1r (qa2z (qa2k (qa0h [false,false] d_is_change g_is_change hr rfl (qa0a (dv 1) 'w'))))
  (qa0g (qd5h))
  qa0z)
  (qa0e (qa1r (qa0w (qa1q hr.units) qa1p 'u' qa1e (qa0u _))
  (qa0e (qa1t (i:=3) qa6i.nd rfl 'c' (qa0h [false,false] d_toggled g_toggled hr rfl (qa0a (qa0h [false,false] d_points_of g_points_of hr rfl (qa0a (dv 0) (qa0a 'u' qa0b))) (qa0a 'u' qa0b))))
  (qa0g (qa0o (qa1y (qa0a (qa0h [false,false,false] d_with_pair g_with_pair hr rfl (qa0a 't' (qa0a 'u' (qa0a (dv 3) qa0b)))) (qa0a 't' 'H'))))))
  qa0z)
  (qa0e (qa1r (qa0w (qa1q hr.units) qa1p 'u' qa1e (qa0u _))
  (qa0e (qb0y (i:=4) qa6i.nd rfl 'c' (qb8u qb2o qc5v rfl B.list_ qa8r 'H'))
  (qa0e (qc0z 4 rfl 'u' (qa0h [false,false] d_toggled g_toggled hr rfl (qa0a (qa0m qa0i qa0n (dv 4) 'u' 'b') (qa0a 'u' qa0b))))
  (qa0g (qa0o (qa1y (qa0a 't' (qa0a (qa0y qa0p qa1h rfl B.tuple_ qa0t 'D') 'H')))))))
  qa0z)
  (qa0e (qa1r (qa0w (qa1q hr.units) qa1p 'u' qa1e (qa0u _))
  (qa0g (qa0o (qa0h [false,false,false] d_cut g_cut hr rfl (qa0a (dv 0) (qa0a (qa1y (qa0a 'u' qa0b)) (qa0a 'u' qa0b))))))
  qa0z)
  (qa0e (qa1t (i:=5) qa6i.nd rfl 'c' (qb7z (qa0y (qb1t rfl) qc1t rfl B.dict_ qb7s 'H') (qa0a 'u' (qa0a (qa0y qa0p qa1h rfl B.tuple_ qa0t (qa0a (qa1m (qa1g ["point"] [] rfl (by rfl) 'k' (qa4f rfl B.range_ (dv 2)) (fun _ _ _=>(qa0s (i:=0) (show(["point"]:List Str).Nodup by decide +kernel) rfl 'c')) 'z' (fun _ _ _=>(qa1y 'y')))) qa0b)) qa0b))))
  (qa0g (qa0o (qa1y (qa0a 't' (qa0a 't' (qa0a (qa0h [false,false,false] d_with_pair g_with_pair hr rfl (qa0a 't' (qa0a 'u' (qa0a (qa0h [false,false,false] d_joined_parts g_joined_parts hr rfl (qa0a (dv 5) (qa0a 'u' (qa0a 'u' qa0b)))) qa0b)))) qa0b)))))))))))),?_⟩
 have hmv:=g.mv;have hm2:=g.m2;lia;refine⟨W,rfl,?_⟩;lia;refine⟨c,W.moves.length,rfl,by rw [hmv];exact hc,?_⟩;lia;cases c with
 | fact z p =>
  unfold Ch.enc;walk_at "dk";refine⟨W,z,rfl,?_⟩;lia;have hlf:=(qb2h g z).2.1;refine⟨qa1w W.facts z,(p:Int),rfl,'o',?_⟩;lia;have hfl:=g.fl;refine⟨W.facts.map (eV encT),z,encT (tog (qa1w W.facts z) (p:Int)),by rw [map_map];rfl,by rw [length_map];omega,by rw [qa3i];exact qa3c g.fn,?_,nd_T _,?_⟩
  ·rw [map_map]
   unfold ndD;exact qa4w nd_F W.facts
  ·rw [qa7v,qb1f,map_map]
   lia;exact q
 | move p p2 =>
  unfold Ch.enc;walk_at "dk";have hpm:p < W.moves.length:=by rw [hmv];exact hc.1
  have hin:InR W.many (W.moves.getD p []):=by
   rw [getD_eq_getElem?_getD,getElem?_eq_getElem hpm];exact g.mr _ (getElem_mem hpm)
  have hlm:=hin.2.1;refine qa0r (qc7b hpm) ⟨W.moves.getD p [],(p2:Int),rfl,'o',?_⟩;refine qa0r (qb8g 'o' 'q') ?_;rw [show((p:Int)).toNat=p by omega,← map_set];lia;exact q
 | split z ps =>
  unfold Ch.enc;walk_at "dk";have hsl:=g.sl;have hpl:=hc.2.2.1;refine⟨W,[z],ps,rfl,⟨'o','o',fun s hs=>?_⟩,?_⟩
  ·have hP:=g.sr s hs
   have h1:=hP.len;have h2:=qc2n ps s.2;exact⟨'o',fun t ht=>by have:=(hP.inr t ht).2.1;omega,'o'⟩
  ·exact q
 | join z p p2 =>
  unfold Ch.enc;walk_at "dk";have hsl:=g.sl;have hnd:=qa3c g.sn;refine qa0r (x:=dicS (W.sights.map (eV eS))) ?_ ⟨⟨_,rfl⟩,⟨'o','o'⟩,?_⟩
  ·have:=qc3g (ps:=W.sights.map (eV eS)) (by rw [qa3i];exact hnd) 'q'
   rw [map_map] at this;exact this
  rw [show((W.moves.length:Int)).toNat=W.moves.length by omega];refine⟨by rw [qa5a];omega,?_⟩;refine L2.qa1c (fun ρ=>∃ v0:Option L,ρ=[v0]) (fun y=>some (.tuple [y])) ⟨_,rfl⟩ ?_ ?_
  ·rintro y ρ N hy ⟨v0,rfl⟩ hN
   lia;exact hN _ ⟨_,rfl⟩
  rintro ρ _;have eg:(rngD 0 W.moves.length).filterMap (fun y=>some (PyData.tuple [y]))=(sgl W.many).map encT:=by
   rw [qb5r,hmv];unfold sgl;rw [map_map,map_map];generalize List.range W.many=l;induction l with
   | nil=>rfl
   | cons p r ih=>rw [map_cons,filterMap_cons,ih];rfl
  rw [eg];refine qa0r getD_S ?_;lia;refine⟨qa1i W z,W.many,p,p2,rfl,'o',hc.2.1,hc.2.2,qb0l g z,?_⟩;lia;refine⟨W.sights.map (eV eS),z,eS (Sx.srtT (grpD (jm W.many (qa1i W z) p p2))),by rw [map_map];rfl,by rw [length_map];omega,by rw [qa3i];exact hnd,?_,qb2g _,?_⟩
  ·rw [map_map]
   unfold ndD;exact qa4w nd_S W.sights
  ·rw [qa7v,qb1f,map_map]
   lia;exact q
noncomputable def NF:List Str:=["p","pq","q","zz"]
noncomputable def NS:List Str:=["a","ab","b","zz"]
noncomputable def Ch.nm:Ch->Prop
 | .fact z _=>z ∈ NF
 | .move _ _=>True
 | .split z _=>z ∈ NS
 | .join z _ _=>z ∈ NS
def nf_ok:∀ z ∈ NF,qa3k z=true:=by decide +kernel
def ns_ok:∀ z ∈ NS,qa3k z=true:=by decide +kernel
def qb5w:DSp:=fun ls Q=>∃ (k:Nat) (W:Wd),ls=[.tape k,.d W.enc]/\k + 20 < 900000/\Gw W/\∀ (c:Ch) (k':Nat),k' <= k + 15->c.ok W.many->c.nm->Q (.d c.enc) [some (.tape k'),none]
abbrev qa6j:Stmt:=top 40
def qa4p:FnScope ["_law_tape","_law_world_here","_law_many","_law_way","_law_p","_law_hand"] ["_law_tape","_law_world_here"] (qa0l qa6j):='a'
def qd2f{f f1 f2:Addr}{fd fd1 fd2:FuncData} (F:FU K "_law_change" qa6j f fd) (B:Bl mg) (qa1a:DNext K mg f1 fd1) (qa1s:GNext P w K mg base n f1 fd1)
  (qa4i:Def K mg "_law_some" qa6c ["_law_tape","_law_many","_law_few"] f2 fd2) (qa8i:FO P w K mg base n f2 fd2 ["_law_tape","_law_many","_law_few"] qb7c):FO P w K mg base (n + 1) f fd ["_law_tape","_law_world_here"] qb5w:=by
 refine F.dok qa4p (fun cdv A outer s H E hr ls Qd h=>?_) 'm';obtain⟨k,W,rfl,hk,g,q⟩:=h;refine⟨rfl,?_⟩;refine⟨_,(qa0e (qa1t (i:=2) qa4p.nd rfl 'c' (qa0v qa1l qa3j rfl B.len_ qa2r (qa0a 'u' qa0b)))
  (qa0e (qa1t (i:=3) qa4p.nd rfl 'c' (qa0h [true,false] qa1a qa1s hr rfl (qa0a (dv 0) 'C')))
  (qa0e (qa1t (i:=4) qa4p.nd rfl 'c' (qa0h [true,false] qa1a qa1s hr rfl (qa0a (dv 0) 'w')))
  (qa0e (qa1r (qa0w (qa1q hr.units) qa1p (dv 3) qa0d (qa0u _))
  (qa0g (qa0o (qa1y (qa0a qa1e (qa0a (qa0m qa0i qa0n (qa1m (qa4n (qa0a qa1e 'E'))) (qa0h [true,false] qa1a qa1s hr rfl (qa0a (dv 0) 'C')) 'b') 'D')))))
  qa0z)
  (qa0e (qa1r (qa0w (qa1q hr.units) qa1p (dv 3) qa0d (qa0u _))
  (qa0g (qa0o (qa1y (qa0a qa1e (qa0a (dv 4) (qa0a (qa0h [true,false] qa1a qa1s hr rfl (qa0a (dv 0) 'w')) qa0b))))))
  qa0z)
  (qa0e (qa1t (i:=5) qa4p.nd rfl 'c' (qa0m qa0i qa0n (qa1m (qa4n (qa0a qa1e 'E'))) (qa0h [true,false] qa1a qa1s hr rfl (qa0a (dv 0) 'C')) 'b'))
  (qa0e (qa1r (qa0w (qa1q hr.units) qa1p (dv 3) qa0d (qa0u _))
  (qa0g (qa0o (qa1y (qa0a qa1e (qa0a (dv 5) (qa0a (qa0h [true,false,false] qa4i qa8i hr rfl (qa0a (dv 0) (qa0a (dv 2) 'C'))) qa0b))))))
  qa0z)
  (qa0g (qa0o (qa1y (qa0a qa1e (qa0a (dv 5) (qa0a (dv 4) (qa0a (qa0h [true,false] qa1a qa1s hr rfl (qa0a (dv 0) 'w')) qa0b)))))))))))))),?_⟩
 have hmv:=g.mv;have h1:=g.m1;have h2:=g.m2;lia;refine⟨k,4,rfl,'d','o',fun r r0 r4=>?_⟩;lia;refine⟨k + 1,W.moves.length,by rw [length_map],'o','o',fun p p0 p1=>?_⟩;obtain⟨p,rfl,hp⟩:∃ p':Nat,p=(p':Int)/\p' < W.many:=⟨p.toNat,'o','o'⟩;lia;refine qa2v (fun c=>?_) (fun c=>?_)
 ·lia
  refine⟨k + 2,4,rfl,'d','o',fun x x0 x1=>?_⟩;lia;refine qb0z x0 (by simpa using x1) fun d hd _=>?_;lia;obtain⟨z,hz,rfl⟩:∃ z ∈ NF,d=.str z:=by
   simp only [mem_cons,not_mem_nil,or_false] at hd;rcases hd with rfl | rfl | rfl | rfl<;>exact⟨_,'d',rfl⟩
  exact q (.fact z p) _ 'o' ⟨nf_ok z hz,hp⟩ hz
 lia;refine qa2v (fun c=>?_) (fun c=>?_)
 ·lia
  refine⟨k + 2,W.moves.length,by rw [length_map],'o','o',fun x x0 x1=>?_⟩;obtain⟨p2,rfl,hp2⟩:∃ p':Nat,x=(p':Int)/\p' < W.many:=⟨x.toNat,'o','o'⟩;lia;exact q (.move p p2) _ 'o' ⟨hp,hp2⟩ trivial
 lia;refine⟨k + 2,4,rfl,'d','o',fun x x0 x1=>?_⟩;lia;refine qb0z x0 (by simpa using x1) fun d hd _=>?_;lia;obtain⟨z,hz,rfl⟩:∃ z ∈ NS,d=.str z:=by
  simp only [mem_cons,not_mem_nil,or_false] at hd;rcases hd with rfl | rfl | rfl | rfl<;>exact⟨_,'d',rfl⟩
 refine qa2v (fun c=>?_) (fun c=>?_)
 ·lia
  refine⟨k + 3,W.many,2,by rw [length_map,hmv],'d','o','o',fun ns k' hk' hin=>?_⟩;lia;exact q (.split z ns) _ 'o' ⟨ns_ok z hz,hin⟩ hz
 ·lia
  refine⟨k + 3,W.moves.length,by rw [length_map],'o','o',fun y y0 y1=>?_⟩;obtain⟨p2,rfl,hp2⟩:∃ p':Nat,y=(p':Int)/\p' < W.many:=⟨y.toNat,'o','o'⟩;lia;exact q (.join z p p2) _ 'o' ⟨ns_ok z hz,hp,hp2⟩ hz
noncomputable def Ch.sg:Ch->Prop
 | .split _ _=>True
 | .join _ _ _=>True
 | _=>False
def spLS:DSp:=fun ls Q=>∃ (W:Wd) (c:Ch),ls=[.d W.enc,.d c.enc]/\Gw W/\c.ok W.many/\c.sg/\Q (.d (.tuple ((W.chg c).sights.map encS))) [none,none]
def nd_W(W:Wd):ndD W.enc=true:=by
 unfold Wd.enc ndD ndA ndA ndA ndA ndD;rw [qa4w nd_F,qa4w nd_T,qa4w nd_S];rfl
def getD_F{fs:List (Str × List Int)}{z:Str}:fGetD (dicS (fs.map (eV encT))) [.str z,.tuple []]=some (encT (qa1w fs z)):=by
 show(if notL (.tuple [])=true then some ((getA _ (Sum.inr z)).getD (.tuple [])) else none)=_;rw [if_pos (show notL (.tuple [])=true from rfl),qa9v,find?_map];unfold qa1w;show some ((((fs.find? fun s=>decide (s.1=z)).map (eV encT)).map (·.2)).getD _)=_;cases fs.find? fun s=>decide (s.1=z)<;>rfl
def nd_Ch:∀ c:Ch,ndD c.enc=true
 | .fact z p=>rfl
 | .move p q=>rfl
 | .split z ps=>by
  show(true && (true && (ndD (encT ps) && true)))=true;rw [nd_T];rfl
 | .join z p q=>rfl
def sl_to{xs:List PyData}{p:Nat}(h:p < xs.length):fSlT (.tuple xs) none (some (p:Int))=some (.tuple (xs.take p)):=by
 have e:HT.sIx xs.length xs.length (some (p:Int))=p:=by
  show(if (p:Int) < 0 then((p:Int) + (xs.length:Int)).toNat else min (p:Int).toNat xs.length)=p;rw [if_neg 'o'];omega
 have e0:HT.sIx xs.length 0 none=0:=by unfold HT.sIx;rfl
 show(if HT.sIx xs.length 0 none=0/\HT.sIx xs.length xs.length (some (p:Int))=xs.length then none else some (PyData.tuple (cutD xs none (some (p:Int)))))=_;rw [if_neg (fun z=>by have:=z.2;rw [e] at this;omega)];unfold cutD;rw [e,e0];simp
def sl_from{xs:List PyData}{p:Nat}(h:p < xs.length):fSlT (.tuple xs) (some ((p:Int) + 1)) none=some (.tuple (xs.drop (p + 1))):=by
 have e:HT.sIx xs.length 0 (some ((p:Int) + 1))=p + 1:=by
  show(if (p:Int) + 1 < 0 then((p:Int) + 1 + (xs.length:Int)).toNat else min ((p:Int) + 1).toNat xs.length)=p + 1;rw [if_neg 'o'];omega
 have e0:HT.sIx xs.length xs.length none=xs.length:=by unfold HT.sIx;rfl
 show(if HT.sIx xs.length 0 (some ((p:Int) + 1))=0/\HT.sIx xs.length xs.length none=xs.length then none else some (PyData.tuple (cutD xs (some ((p:Int) + 1)) none)))=_;rw [if_neg (fun z=>by have:=z.1;rw [e] at this;omega)];unfold cutD;rw [e,e0,List.take_of_length_le (by rw [length_drop];exact le_refl _)]
abbrev qa5k:Stmt:=top 39
def qa3p:FnScope ["_law_world_here","_law_change_here","_law_facts","_law_moves","_law_sights_here","_law_told","_law_p"] ["_law_world_here","_law_change_here"] (qa0l qa5k):='a'
def qc4r{f f1 f2:Addr}{fd fd1 fd2:FuncData} (F:FU K "_law_changed" qa5k f fd) (B:Bl mg) (qa8p:Def K mg "_law_flip" qa8j ["_law_points","_law_p"] f1 fd1) (qb7h:FO P w K mg base n f1 fd1 ["_law_points","_law_p"] qc2u)
  (qa9x:Def K mg "_law_sights" qa6k ["_law_world_here","_law_change_here"] f2 fd2) (qc3h:FO P w K mg base n f2 fd2 ["_law_world_here","_law_change_here"] spLS):FO P w K mg base (n + 1) f fd ["_law_world_here","_law_change_here"] spChd:=by
 refine F.dok qa3p (fun cdv A outer s H E hr ls Qd h=>?_) 'i';obtain⟨W,c,rfl,g,hc,q⟩:=h;refine⟨rfl,?_⟩;refine⟨_,(qa0e (ds_asg (dv 0) (dg_tup (n:=3) rfl (qa9m (qa0s (i:=2) qa3p.nd rfl 'c') (qa9m (qa0s (i:=3) qa3p.nd rfl 'c') (qa9m (qa0s (i:=4) qa3p.nd rfl 'c') qc6b)))))
  (qa0e (qa1r (qa0w (qa1q hr.units) qa1p 'u' qa1e (qa0u _))
  (qb3g (i:=5) qa3p.nd rfl 'c' rfl rfl B.dict_ 'w'
  (qb1u (qb4e (i:=5) rfl hr.units 'u' (qa0h [false,false] qa8p qb7h hr rfl (qa0a (qb7z (dv 5) (qa0a 'u' (qa0a (qa1y qa0b) qa0b))) (qa0a 'u' qa0b))))
  (qb7x (qa0g (qa0o (qa1y (qa0a (qa0y qa0p qa1h rfl B.tuple_ qa0t (qa0a (qc1z rfl rfl B.sorted_ (dv 5)) qa0b)) (qa0a (dv 3) 'D'))))))))
  qa0z)
  (qa0e (qa1r (qa0w (qa1q hr.units) qa1p 'u' qa1e (qa0u _))
  (qa0e (qa1t (i:=6) qa3p.nd rfl 'c' 'u')
  (qa0g (qa0o (qa1y (qa0a (dv 2) (qa0a (qa7a qa3w qa5x (qa7a qa3w qa5x (qa9r qb2n qb2v (dv 3) qb1a (qb1b (dv 6))) (qa1y (qa0a (qa0h [false,false] qa8p qb7h hr rfl (qa0a (qa0m qa0i qa0n (dv 3) (dv 6) 'b') (qa0a 'u' qa0b))) qa0b))) (qa9r qb2n qb2v (dv 3) (qb1b (qa7a qa3w qa5x (dv 6) qa0d)) qb1a)) 'D'))))))
  qa0z)
  (qa0g (qa0o (qa1y (qa0a (dv 2) (qa0a (dv 3) (qa0a (qa0h [false,false] qa9x qc3h hr rfl (qa0a (dv 0) 'x')) qa0b))))))))),?_⟩
 have hmv:=g.mv;have hm2:=g.m2;have hfl:=g.fl;cases c with
 | fact z p =>
  unfold Ch.enc;have hnd:=qa3c g.fn;have hin:=qb2h g z;have hil:=hin.2.1;walk_at "dk";refine⟨W.facts.map (eV encT),by rw [map_map];rfl,by rw [length_map];omega,?_⟩;rw [show qa6a [] ((W.facts.map (eV encT)).map kQ)=(W.facts.map (eV encT)).map kQ from qa8y _ [] (by rw [nil_append,qa3i];exact hnd)];refine⟨by rw [length_map,length_map];omega,⟨_,rfl⟩,qa0r getD_F ⟨qa1w W.facts z,(p:Int),rfl,'o',hin.2.2,?_⟩⟩;refine⟨?_,nd_T _,?_⟩
  ·show(ndD W.enc && (ndD (Ch.fact z p).enc && (ndD (.tuple (W.facts.map encF)) && (ndD (.tuple (W.moves.map encT)) && (ndD (.tuple (W.sights.map encS)) && true)))))=true
   rw [nd_W,nd_Ch,qb2g,show ndD (.tuple (W.facts.map encF))=true from qa4w nd_F _,show ndD (.tuple (W.sights.map encS))=true from qa4w nd_S _];rfl
  ·refine qa0r (x:=Sum.inr z) rfl ?_
   rw [qb3i,qa7v];lia;refine qa0r (qb2a ?_ ?_) ?_
   ·have:=qb1z (W.facts.map (eV encT)) z (encT (tog (qa1w W.facts z) (p:Int)))
    rw [qa7v,length_map,length_map] at this;rw [length_map];omega
   ·rw [qa3i];exact qa6h hnd
   rw [qb1f,map_map];lia;exact q
 | move p p2 =>
  unfold Ch.enc;have hpm:p < W.moves.length:=by rw [hmv];exact hc.1
  have hin:InR W.many (W.moves.getD p []):=by
   rw [getD_eq_getElem?_getD,getElem?_eq_getElem hpm];exact g.mr _ (getElem_mem hpm)
  have hlm:=hin.2.1;have hl2:(W.moves.map encT).length=W.moves.length:=length_map ..;walk_at "dk";refine qa0r (sl_to 'o') (qa0r (qc7b hpm) ⟨W.moves.getD p [],(p2:Int),rfl,'o',hin.2.2,?_⟩);refine qa0r (qc1a (by rw [sizeLine_eq,length_take];show _ + 1 <= _;omega)) (qa0r (sl_from 'o') (qa0r (qc1a (by rw [sizeLine_eq,length_append,length_take,length_drop];show _ + 1 + _ <= _;omega)) ?_));have es:((W.moves.map encT).take p ++ [encT (tog (W.moves.getD p []) (p2:Int))]) ++ (W.moves.map encT).drop (p + 1)=(W.moves.set p (tog (W.moves.getD p []) (p2:Int))).map encT:=by
   rw [map_set,List.set_eq_take_append_cons_drop,if_pos 'o',append_assoc];rfl
  rw [es];exact q
 | split z ps =>
  unfold Ch.enc;walk_at "dk";refine⟨W,.split z ps,rfl,g,hc,trivial,?_⟩;lia;exact q
 | join z p p2 =>
  unfold Ch.enc;walk_at "dk";refine⟨W,.join z p p2,rfl,g,hc,trivial,?_⟩;lia;exact q
def qc3i:∀ {xs:List Int} {a b:Int},xs.Pairwise (· < ·)->(∀ x ∈ xs,a <= x/\x < b)->a <= b->(xs.length:Int) <= b - a
 | [],a,b,_,_,h=>by simp;omega
 | x :: r,a,b,hp,hb,h=>by
  have hx:=hb x mem_cons_self;have ih:=qc3i (a:=x + 1) (b:=b) (pairwise_cons.mp hp).2 (fun y hy=>⟨(pairwise_cons.mp hp).1 y hy,(hb y (mem_cons_of_mem _ hy)).2⟩) 'o';rw [length_cons];omega
def tog_in{m p:Nat}{ps:List Int}(h:InR m ps)(hp:p < m):InR m (tog ps (p:Int)):=by
 unfold tog;split
 ·exact⟨fun x hx=>h.1 x (mem_filter.mp hx).1,le_trans (length_filter_le ..) h.2.1,h.2.2.filter _⟩
 ·rename_i c
  have hb:∀ x ∈ Sx.srtI (ps ++ [(p:Int)]),0 <= x/\x < (m:Int):=fun x hx=>by
   rcases mem_append.mp ((Sx.qa1d _).mem_iff.mp hx) with hx | hx
   ·exact h.1 x hx
   ·rw [mem_singleton.mp hx];omega
  have hnd:(ps ++ [(p:Int)]).Nodup:=by
   refine nodup_append.mpr ⟨h.2.2.imp fun h=>Int.ne_of_lt h,by simp,fun a ha b hb e=>?_⟩;rw [mem_singleton.mp hb] at e;exact c (e ▸ ha)
  have hpw:(Sx.srtI (ps ++ [(p:Int)])).Pairwise (· < ·):=(Sx.qb4a _).imp₂ (fun a b h1 h2=>Int.lt_iff_le_and_ne.mpr ⟨h1,h2⟩) ((Sx.qa1d _).nodup_iff.mpr hnd);have:=qc3i hpw hb 'o';exact⟨hb,'o',hpw⟩
def qc7c{ps:List Int}{p:Int}(h:ps.Pairwise (· < ·)):tog (tog ps p) p=ps:=by
 by_cases c:p ∈ ps
 ·have e:tog ps p=ps.filter (fun q=>!decide (q=p)):=if_pos c
  rw [e];have n:p ∉ ps.filter (fun q=>!decide (q=p)):=fun z=>by simpa using (mem_filter.mp z).2
  rw [show tog (ps.filter (fun q=>!decide (q=p))) p=Sx.srtI (ps.filter (fun q=>!decide (q=p)) ++ [p]) from if_neg n];refine(Sx.qa4z ?_ (h.imp fun h=>Int.le_of_lt h)).symm;have nd:ps.Nodup:=h.imp fun h=>Int.ne_of_lt h;refine(List.perm_ext_iff_of_nodup nd ?_).mpr fun x=>?_
  ·refine nodup_append.mpr ⟨nd.filter _,by simp,fun a ha b hb e=>?_⟩
   rw [mem_singleton.mp hb] at e;exact n (e ▸ ha)
  ·rw [mem_append,mem_filter,mem_singleton]
   by_cases e:x=p
   ·subst e;simp [c]
   ·simp [e]
 ·have e:tog ps p=Sx.srtI (ps ++ [p]):=if_neg c
  have hm:p ∈ Sx.srtI (ps ++ [p]):=(Sx.qa1d _).mem_iff.mpr 'h';rw [e,show tog (Sx.srtI (ps ++ [p])) p=(Sx.srtI (ps ++ [p])).filter (fun q=>!decide (q=p)) from if_pos hm];have hp:((Sx.srtI (ps ++ [p])).filter (fun q=>!decide (q=p))).Perm ps:=by
   refine((Sx.qa1d (ps ++ [p])).filter _).trans ?_;rw [List.filter_append,List.filter_eq_self.mpr (fun x hx=>by
    have:x ≠ p:=fun e=>c (e ▸ hx);simpa using this)]
   simp
  have e1:=Sx.qa4z hp ((Sx.qb4a _).filter _);rw [e1];exact(Sx.qa4z (List.Perm.refl _) (h.imp fun h=>Int.le_of_lt h)).symm
def qb8j:∀ l:List 'f',(ne l).flatten=l.flatten
 | []=>rfl
 | [] :: r=>by
  show(ne r).flatten=_;rw [qb8j r];rfl
 | (x :: t) :: r=>by
  show((x :: t) :: ne r).flatten=_;rw [flatten_cons,flatten_cons,qb8j r]
def qd6f(Q t:List Int):(ne (pcs Q t)).flatten.Perm t:=by
 rw [qb8j];unfold pcs;show(_ ++ (_ ++ [])).Perm t;rw [append_nil];exact List.filter_append_perm ..
def qc7d(Q:List Int):∀ P:List 'f',(pc P Q).flatten.Perm P.flatten
 | []=>List.Perm.refl _
 | t :: P=>by
  rw [qc6v,flatten_append,flatten_cons];exact(qd6f Q t).append (qc7d Q P)
def qc3j:∀ {l:List 'f'},(∀ t ∈ l,t ≠ [])->l.length <= l.flatten.length
 | [],_=>le_refl _
 | t :: r,h=>by
  rw [flatten_cons,length_append,length_cons];have h1:=qc3j fun x hx=>h x (mem_cons_of_mem _ hx);have h2:=h t mem_cons_self;cases t with
  | nil=>exact absurd rfl h2
  | cons a b=>rw [length_cons];omega
def qb5x{m:Nat}{l:List 'f'}(h1:∀ t ∈ l,t ≠ [])(h2:∀ t ∈ l,t.Pairwise (· < ·))(h3:l.flatten.Perm ((List.range m).map fun p:Nat=>(p:Int))):Parts m (Sx.srtT l):=by
 have hm:∀ t,t ∈ Sx.srtT l ↔ t ∈ l:=fun t=>(Sx.qa3x l).mem_iff;have hf:(Sx.srtT l).flatten.Perm ((List.range m).map fun p:Nat=>(p:Int)):=(Sx.qa3x l).flatten.trans h3;have hl:=h3.length_eq;rw [length_map,length_range] at hl;have hin:∀ t ∈ l,∀ x ∈ t,0 <= x/\x < (m:Int):=fun t ht x hx=>by
  obtain⟨p,hp,rfl⟩:=mem_map.mp (h3.mem_iff.mp (mem_flatten.mpr ⟨t,ht,hx⟩));have:=mem_range.mp hp;omega
 refine⟨fun t ht=>h1 t ((hm t).mp ht),fun t ht=>?_,?_,fun p hp=>?_,qb9f _,?_⟩
 ·have ht:=(hm t).mp ht
  have:=qc3i (h2 t ht) (hin t ht) 'o';exact⟨hin t ht,'o',h2 t ht⟩
 ·rw [(Sx.qa3x l).length_eq]
  have:=qc3j h1;omega
 ·obtain⟨t,ht,hx⟩:=mem_flatten.mp (hf.mem_iff.mpr (mem_map.mpr ⟨p,mem_range.mpr hp,rfl⟩))
  exact⟨t,ht,hx⟩
 ·exact hf.nodup_iff.mpr (pairwise_map.mpr (pairwise_lt_range.imp fun h=>by omega))
def qd2g{m:Nat}{tss:List 'f'}(ps:List Int)(h:Parts m tss):Parts m (cutP tss ps):=by
 refine qb5x (fun t ht=>(qb7d ht).1) (fun t ht=>?_) ((qc7d ps tss).trans h.flat);obtain⟨_,t0,h2,h3⟩:=qb7d ht;exact(h.inr t0 h2).2.2.sublist h3
def sub_len:∀ {xs ys:List Str},xs.Nodup->(∀ x ∈ xs,x ∈ ys)->xs.length <= ys.length
 | [],_,_,_=>zero_le _
 | x :: r,ys,hn,hs=>by
  have hx:=hs x mem_cons_self;have ih:=sub_len (xs:=r) (ys:=ys.erase x) (nodup_cons.mp hn).2 fun y hy=>by
   have hne:y ≠ x:=fun e=>(nodup_cons.mp hn).1 (e ▸ hy);exact(List.mem_erase_of_ne hne).mpr (hs y (mem_cons_of_mem _ hy))
  rw [List.length_erase_of_mem hx] at ih;have:=List.length_pos_of_mem hx;rw [length_cons];omega
structure Gn(W:Wd):Prop where
 nf:∀ f ∈ W.facts,f.1 ∈ NF
 ns:∀ s ∈ W.sights,s.1 ∈ NS
def qc7e{α:Type}[Inhabited α]{fs:List (Str × α)}{z:Str}{d:α}{ys:List Str} (h:qa2y "" (fs.map (·.1))=true) (hn:∀ f ∈ fs,f.1 ∈ ys) (hz:z ∈ ys):(srtV (putV fs z d)).length <= ys.length/\∀ f ∈ srtV (putV fs z d),f.1 ∈ ys:=by
 have hm:∀ f ∈ srtV (putV fs z d),f.1 ∈ ys:=fun f hf=>by
  rcases qb5u (qb5t hf) with hf | rfl
  ·exact hn f hf
  ·exact hz
 refine⟨?_,hm⟩;have hnd:((srtV (putV fs z d)).map (·.1)).Nodup:=by
  rw [qb7f];exact(Sx.qa7p _).nodup_iff.mpr (qa6h (qa3c h))
 have:=sub_len hnd fun x hx=>by
  obtain⟨f,hf,rfl⟩:=mem_map.mp hx;exact hm f hf
 rw [length_map] at this;exact this
def gw_fact{W:Wd}{z:Str}{p:Nat}(g:Gw W)(gn:Gn W)(hp:p < W.many)(hz:z ∈ NF):Gw (W.chg (.fact z p))/\Gn (W.chg (.fact z p)):=by
 have hl:=qc7e (d:=tog (qa1w W.facts z) (p:Int)) g.fn gn.nf hz;refine⟨⟨g.m1,g.m2,g.mv,g.mr,hl.1,qb5v g.fn (nf_ok z hz),fun f hf=>?_,g.sl,g.sn,g.sr⟩,⟨hl.2,gn.ns⟩⟩;rcases qb5u (qb5t hf) with hf | rfl
 ·exact g.fr f hf
 ·exact tog_in (qb2h g z) hp
def gw_move{W:Wd}{p q:Nat}(g:Gw W)(gn:Gn W)(hp:p < W.many)(hq:q < W.many):Gw (W.chg (.move p q))/\Gn (W.chg (.move p q)):=by
 have hpm:p < W.moves.length:=by rw [g.mv];exact hp
 refine⟨⟨g.m1,g.m2,by show(W.moves.set _ _).length=_;rw [length_set];exact g.mv,fun t ht=>?_,g.fl,g.fn,g.fr,g.sl,g.sn,g.sr⟩,⟨gn.nf,gn.ns⟩⟩;rcases List.mem_or_eq_of_mem_set ht with ht | rfl
 ·exact g.mr t ht
 ·refine tog_in ?_ hq
  rw [getD_eq_getElem?_getD,getElem?_eq_getElem hpm];exact g.mr _ (getElem_mem hpm)
def qb3r(hs:List Str)(ps:List Int)(s:Str × List 'f'):(cutS hs ps s).1=s.1:=by unfold cutS;split<;>rfl
def qd6g{W:Wd}{z:Str}{ps:List Int}(g:Gw W)(gn:Gn W):Gw (W.chg (.split z ps))/\Gn (W.chg (.split z ps)):=by
 have hn:(W.sights.map (cutS [z] ps)).map (·.1)=W.sights.map (·.1):=by
  rw [map_map];exact map_congr_left fun s _=>qb3r _ _ s
 refine⟨⟨g.m1,g.m2,g.mv,g.mr,g.fl,g.fn,g.fr,by show(W.sights.map _).length <= 4;rw [length_map];exact g.sl,by show qa2y "" ((W.sights.map (cutS [z] ps)).map (·.1))=true;rw [hn];exact g.sn,fun s hs=>?_⟩,⟨gn.nf,fun s hs=>?_⟩⟩
 ·obtain⟨s0,h0,rfl⟩:=mem_map.mp hs
  unfold cutS;split
  ·exact qd2g ps (g.sr s0 h0)
  ·exact g.sr s0 h0
 ·obtain⟨s0,h0,rfl⟩:=mem_map.mp hs
  rw [qb3r];exact gn.ns s0 h0
structure GN(ms:List Int)(n:Nat)(L:List (Int × List Nat)):Prop where
 nd:(L.map (·.1)).Nodup
 eq:∀ t ∈ L,t.2=(List.range n).filter (fun p=>decide (ms.getD p 0=t.1))
 has:∀ p,p < n->∃ t ∈ L,t.1=ms.getD p 0
 ne:∀ t ∈ L,t.2 ≠ []
def gn_add{ms:List Int}{n:Nat}{L:List (Int × List Nat)}(h:GN ms n L):GN ms (n + 1) (qa6b L (ms.getD n 0) n):=by
 have ef:∀ v:Int,(List.range (n + 1)).filter (fun p=>decide (ms.getD p 0=v))=(List.range n).filter (fun p=>decide (ms.getD p 0=v)) ++ if ms.getD n 0=v then [n] else []:=fun v=>by
  rw [List.range_succ,List.filter_append];congr 1;by_cases c:ms.getD n 0=v
  ·rw [if_pos c,List.filter_cons_of_pos (by simpa using c)];rfl
  ·rw [if_neg c,List.filter_cons_of_neg (by simpa using c)];rfl
 unfold qa6b;split
 ·rename_i hc
  refine⟨?_,fun t ht=>?_,fun p hp=>?_,fun t ht=>?_⟩
  ·rw [map_map]
   have:L.map ((·.1) ∘ fun t:Int × List Nat=>if t.1=ms.getD n 0 then(t.1,t.2 ++ [n]) else t)=L.map (·.1):=map_congr_left fun t _=>by
    show(if t.1=ms.getD n 0 then(t.1,t.2 ++ [n]) else t).1=t.1;split<;>rfl
   rw [this];exact h.nd
  ·obtain⟨u,hu,rfl⟩:=mem_map.mp ht
   by_cases c:u.1=ms.getD n 0
   ·rw [if_pos c]
    show u.2 ++ [n]=_;rw [ef,if_pos c.symm,← h.eq u hu]
   ·rw [if_neg c,ef,if_neg (fun z=>c z.symm),append_nil]
    exact h.eq u hu
  ·rcases Nat.lt_or_ge p n with c | c
   ·obtain⟨t,ht,e⟩:=h.has p c
    refine⟨_,mem_map.mpr ⟨t,ht,rfl⟩,?_⟩;split<;>exact e
   ·have e:p=n:=by omega
    subst e;obtain⟨t,ht,e⟩:=any_eq_true.mp hc;refine⟨_,mem_map.mpr ⟨t,ht,rfl⟩,?_⟩;have e:t.1=ms.getD p 0:=by simpa using e
    rw [if_pos e];exact e
  ·obtain⟨u,hu,rfl⟩:=mem_map.mp ht
   split
   ·exact List.append_ne_nil_of_right_ne_nil _ (List.cons_ne_nil _ _)
   ·exact h.ne u hu
 ·rename_i hc
  have hno:∀ t ∈ L,t.1 ≠ ms.getD n 0:=fun t ht e=>hc (any_eq_true.mpr ⟨t,ht,by simpa using e⟩);refine⟨?_,fun t ht=>?_,fun p hp=>?_,fun t ht=>?_⟩
  ·rw [map_append]
   refine nodup_append.mpr ⟨h.nd,by simp,fun a ha b hb e=>?_⟩;obtain⟨t,ht,rfl⟩:=mem_map.mp ha;have hb:b=ms.getD n 0:=by simpa using hb
   exact hno t ht (e.trans hb)
  ·rcases mem_append.mp ht with ht | ht
   ·rw [ef,if_neg (fun z=>hno t ht z.symm),append_nil]
    exact h.eq t ht
   ·rw [mem_singleton.mp ht]
    show [n]=_;rw [ef,if_pos rfl,List.filter_eq_nil_iff.mpr (fun p hp e=>?_)]
    ·rfl
    ·obtain⟨t,ht,e2⟩:=h.has p (mem_range.mp hp)
     exact hno t ht (e2.trans (by simpa using e))
  ·rcases Nat.lt_or_ge p n with c | c
   ·obtain⟨t,ht,e⟩:=h.has p c
    exact⟨t,List.mem_append_left _ ht,e⟩
   ·have e:p=n:=by omega
    subst e;exact⟨_,mem_append_right _ (mem_singleton.mpr rfl),rfl⟩
  ·rcases mem_append.mp ht with ht | ht
   ·exact h.ne t ht
   ·rw [mem_singleton.mp ht];exact List.cons_ne_nil _ _
def qb7i(ms:List Int):∀ n,n <= ms.length->GN ms n (grpN ms n)
 | 0,_=>⟨List.Pairwise.nil,fun t ht=>absurd ht not_mem_nil,fun p hp=>absurd hp 'o',fun t ht=>absurd ht not_mem_nil⟩
 | n + 1,h=>by
  have e:ms[n]? = some (ms.getD n 0):=by rw [getD_eq_getElem?_getD,getElem?_eq_getElem 'o'];rfl
  unfold grpN;rw [e];exact gn_add (qb7i ms n 'o')
def qa5t{ms:List Int}{t:Int × List Nat}(ht:t ∈ grpN ms ms.length){p:Nat}:p ∈ t.2 ↔ p < ms.length/\ms.getD p 0=t.1:=by
 rw [(qb7i ms ms.length 'e').eq t ht,mem_filter,mem_range];simp
def qb9h(ms:List Int):Parts ms.length (Sx.srtT (grpD ms)):=by
 have h:=qb7i ms ms.length 'e';have pw:∀ t ∈ grpN ms ms.length,t.2.Pairwise (· < ·):=fun t ht=>by rw [h.eq t ht];exact pairwise_lt_range.filter _
 refine qb5x (fun t ht=>?_) (fun t ht=>?_) ((List.perm_ext_iff_of_nodup ?_ ?_).mpr fun x=>?_)
 ·obtain⟨u,hu,rfl⟩:=mem_map.mp ht
  intro z;exact h.ne u hu (List.map_eq_nil_iff.mp z)
 ·obtain⟨u,hu,rfl⟩:=mem_map.mp ht
  exact pairwise_map.mpr ((pw u hu).imp fun h=>by omega)
 ·refine pairwise_flatten.mpr ⟨fun l hl=>?_,pairwise_map.mpr ((pairwise_map.mp h.nd).imp_of_mem fun{a b} ha hb hne x hx y hy e=>?_)⟩
  ·obtain⟨u,hu,rfl⟩:=mem_map.mp hl
   exact pairwise_map.mpr ((pw u hu).imp fun h=>by omega)
  ·subst e
   obtain⟨p,hp,rfl⟩:=mem_map.mp hx;obtain⟨q,hq,e⟩:=mem_map.mp hy;have e:q=p:=by omega
   subst e;exact hne (((qa5t ha).mp hp).2.symm.trans ((qa5t hb).mp hq).2)
 ·exact pairwise_map.mpr (pairwise_lt_range.imp fun h=>by omega)
 ·rw [mem_flatten,mem_map]
  constructor
  ·rintro⟨l,hl,hx⟩
   obtain⟨u,hu,rfl⟩:=mem_map.mp hl;obtain⟨p,hp,rfl⟩:=mem_map.mp hx;exact⟨p,mem_range.mpr ((qa5t hu).mp hp).1,rfl⟩
  ·rintro⟨p,hp,rfl⟩
   obtain⟨t,ht,e⟩:=h.has p (mem_range.mp hp);exact⟨_,mem_map.mpr ⟨t,ht,rfl⟩,mem_map.mpr ⟨p,(qa5t ht).mpr ⟨mem_range.mp hp,e.symm⟩,rfl⟩⟩
def gw_join{W:Wd}{z:Str}{p q:Nat}(g:Gw W)(gn:Gn W)(hz:z ∈ NS):Gw (W.chg (.join z p q))/\Gn (W.chg (.join z p q)):=by
 have hl:=qc7e (d:=Sx.srtT (grpD (jm W.many (qa1i W z) p q))) g.sn gn.ns hz;refine⟨⟨g.m1,g.m2,g.mv,g.mr,g.fl,g.fn,g.fr,hl.1,qb5v g.sn (ns_ok z hz),fun f hf=>?_⟩,⟨gn.nf,hl.2⟩⟩;rcases qb5u (qb5t hf) with hf | rfl
 ·exact g.sr f hf
 ·have:=qb9h (jm W.many (qa1i W z) p q)
  rw [show(jm W.many (qa1i W z) p q).length=W.many by unfold jm;rw [length_map,qb8i]] at this;exact this
def gw_chg{W:Wd}(c:Ch)(g:Gw W)(gn:Gn W)(ho:c.ok W.many)(hn:c.nm):Gw (W.chg c)/\Gn (W.chg c):=by
 cases c with
 | fact z p=>exact gw_fact g gn ho.2 hn
 | move p q=>exact gw_move g gn ho.1 ho.2
 | split z ps=>exact qd6g g gn
 | join z p q=>exact gw_join g gn hn
def lt_ext{a b:List Int}(ha:a.Pairwise (· < ·))(hb:b.Pairwise (· < ·))(h:∀ x,x ∈ a ↔ x ∈ b):a=b:=by
 have pa:a.Perm b:=(List.perm_ext_iff_of_nodup (ha.imp fun h=>Int.ne_of_lt h) (hb.imp fun h=>Int.ne_of_lt h)).mpr h;have e1:=Sx.qa4z (List.Perm.refl a) (ha.imp fun h=>Int.le_of_lt h);have e2:=Sx.qa4z pa.symm (hb.imp fun h=>Int.le_of_lt h);exact e1.trans e2.symm
def Parts.dm{m:Nat}{A:List 'f'}(h:Parts m A){t u:List Int}{x:Int}(ht:t ∈ A)(hu:u ∈ A)(h1:x ∈ t)(h2:x ∈ u):t=u:=by
 obtain⟨i,hi,rfl⟩:=getElem_of_mem ht;obtain⟨j,hj,rfl⟩:=getElem_of_mem hu;have:=h.dis hi hj h1 h2;subst this;rfl
def Parts.ndl{m:Nat}{A:List 'f'}(h:Parts m A):A.Nodup:=by
 have hd:=(pairwise_flatten.mp h.nd).2;refine hd.imp_of_mem fun{a b} ha _ hx e=>?_;subst e;cases a with
 | nil=>exact h.ne _ ha rfl
 | cons x r=>exact hx x mem_cons_self x mem_cons_self rfl
def qb9i{m:Nat}{A B:List 'f'}(hA:Parts m A)(hB:Parts m B)(h1:∀ x y:Int,(∃ t ∈ A,x ∈ t/\y ∈ t)->∃ t ∈ B,x ∈ t/\y ∈ t)(h2:∀ x y:Int,(∃ t ∈ B,x ∈ t/\y ∈ t)->∃ t ∈ A,x ∈ t/\y ∈ t){t:List Int}(ht:t ∈ A):t ∈ B:=by
 obtain⟨x,hx⟩:∃ x,x ∈ t:=List.exists_mem_of_ne_nil t (hA.ne t ht);obtain⟨u,hu,hxu,_⟩:=h1 x x ⟨t,ht,hx,hx⟩;have e:t=u:=lt_ext (hA.inr t ht).2.2 (hB.inr u hu).2.2 fun y=>by
  constructor
  ·intro hy
   obtain⟨u',hu',a,b⟩:=h1 x y ⟨t,ht,hx,hy⟩;rw [hB.dm hu hu' hxu a];exact b
  ·intro hy
   obtain⟨t',ht',a,b⟩:=h2 x y ⟨u,hu,hxu,hy⟩;rw [hA.dm ht ht' hx a];exact b
 rw [e];exact hu
def qd2h{m:Nat}{A B:List 'f'}(hA:Parts m A)(hB:Parts m B)(h1:∀ x y:Int,(∃ t ∈ A,x ∈ t/\y ∈ t)->∃ t ∈ B,x ∈ t/\y ∈ t)(h2:∀ x y:Int,(∃ t ∈ B,x ∈ t/\y ∈ t)->∃ t ∈ A,x ∈ t/\y ∈ t):A=B:=by
 have hp:A.Perm B:=(List.perm_ext_iff_of_nodup hA.ndl hB.ndl).mpr fun t=>⟨fun ht=>qb9i hA hB h1 h2 ht,fun ht=>qb9i hB hA h2 h1 ht⟩;rw [← hA.srt,← hB.srt];exact qc8x hp
noncomputable def qa2l(p q:Nat)(t:List Int):Bool:=decide ((p:Int) ∈ t) || decide ((q:Int) ∈ t)
noncomputable def dueJ(tss:List 'f')(p q:Nat):List 'f':=Sx.srtT (tss.filter (fun t=>!qa2l p q t) ++ [Sx.srtI (tss.filter (qa2l p q)).flatten])
def near_nd{m:Nat}{tss:List 'f'}(h:Parts m tss)(p q:Nat):(tss.filter (qa2l p q)).flatten.Nodup:=
 pairwise_flatten.mpr ⟨fun l hl=>(pairwise_flatten.mp h.nd).1 l (mem_filter.mp hl).1,(pairwise_flatten.mp h.nd).2.filter _⟩
def srtI_lt{l:List Int}(h:l.Nodup):(Sx.srtI l).Pairwise (· < ·):=(Sx.qb4a _).imp₂ (fun a b h1 h2=>Int.lt_iff_le_and_ne.mpr ⟨h1,h2⟩) ((Sx.qa1d _).nodup_iff.mpr h)
def qc3k{m:Nat}{tss:List 'f'}(h:Parts m tss){p q:Nat}(hp:p < m):(p:Int) ∈ (tss.filter (qa2l p q)).flatten:=by
 obtain⟨t,ht,hx⟩:=h.cov p hp;exact mem_flatten.mpr ⟨t,mem_filter.mpr ⟨ht,by unfold qa2l;rw [decide_eq_true hx];rfl⟩,hx⟩
def qd2i{m:Nat}{tss:List 'f'}(h:Parts m tss){p q:Nat}(hp:p < m):Parts m (dueJ tss p q):=by
 refine qb5x (fun t ht=>?_) (fun t ht=>?_) ?_
 ·rcases mem_append.mp ht with ht | ht
  ·exact h.ne t (mem_filter.mp ht).1
  ·rw [mem_singleton.mp ht]
   exact List.ne_nil_of_mem ((Sx.qa1d _).mem_iff.mpr (qc3k h hp))
 ·rcases mem_append.mp ht with ht | ht
  ·exact(h.inr t (mem_filter.mp ht).1).2.2
  ·rw [mem_singleton.mp ht]
   exact srtI_lt (near_nd h p q)
 ·rw [flatten_append]
  refine List.Perm.trans ?_ h.flat;have e:[Sx.srtI (tss.filter (qa2l p q)).flatten].flatten=Sx.srtI (tss.filter (qa2l p q)).flatten:=by rw [flatten_cons];exact append_nil _
  rw [e];refine(List.Perm.append_left _ (Sx.qa1d _)).trans ?_;rw [← flatten_append];refine List.Perm.flatten ?_;exact List.perm_append_comm.trans (List.filter_append_perm ..)
def Parts.mk_iff{m:Nat}{tss:List 'f'}(h:Parts m tss){t:List Int}{x y:Nat}(ht:t ∈ tss)(hx:(x:Int) ∈ t):(y:Int) ∈ t->mkAt tss y=mkAt tss x:=fun hy=>by
 obtain⟨i,hi,rfl⟩:=getElem_of_mem ht;rw [h.mkAt_eq hi hx,h.mkAt_eq hi hy]
def Parts.mk_mem{m:Nat}{tss:List 'f'}(h:Parts m tss){x y:Nat}(hx:x < m)(hy:y < m)(e:mkAt tss x=mkAt tss y):∃ t ∈ tss,(x:Int) ∈ t/\(y:Int) ∈ t:=by
 obtain⟨t,ht,h1⟩:=h.cov x hx;obtain⟨u,hu,h2⟩:=h.cov y hy;obtain⟨i,hi,rfl⟩:=getElem_of_mem ht;obtain⟨j,hj,rfl⟩:=getElem_of_mem hu;rw [h.mkAt_eq hi h1,h.mkAt_eq hj h2] at e;subst e;exact⟨_,ht,h1,h2⟩
def qc3l(m:Nat)(tss:List 'f')(p q:Nat):(jm m tss p q).length=m:=by unfold jm;rw [length_map,qb8i]
def jm_at{m:Nat}{tss:List 'f'}{p q x:Nat}(h:x < m):(jm m tss p q).getD x 0=if mkAt tss x=mkAt tss q then(mkAt tss p:Int) else(mkAt tss x:Int):=by
 unfold jm;rw [getD_eq_getElem?_getD,getElem?_map,qc3f h];show(if ((mkAt tss x:Nat):Int)=_ then _ else _)=_;by_cases c:mkAt tss x=mkAt tss q
 ·rw [if_pos c,if_pos 'o']
 ·rw [if_neg c,if_neg 'o']
def qc3m{ms:List Int}{x y:Int}:(∃ t ∈ Sx.srtT (grpD ms),x ∈ t/\y ∈ t) ↔ ∃ a b:Nat,x=(a:Int)/\y=(b:Int)/\a < ms.length/\b < ms.length/\ms.getD a 0=ms.getD b 0:=by
 constructor
 ·rintro⟨t,ht,hx,hy⟩
  obtain⟨u,hu,rfl⟩:=mem_map.mp ((Sx.qa3x _).mem_iff.mp ht);obtain⟨a,ha,rfl⟩:=mem_map.mp hx;obtain⟨b,hb,rfl⟩:=mem_map.mp hy;have h1:=(qa5t hu).mp ha;have h2:=(qa5t hu).mp hb;exact⟨a,b,rfl,rfl,h1.1,h2.1,h1.2.trans h2.2.symm⟩
 ·rintro⟨a,b,rfl,rfl,ha,hb,e⟩
  obtain⟨u,hu,e2⟩:=(qb7i ms ms.length 'e').has a ha;exact⟨_,(Sx.qa3x _).mem_iff.mpr (mem_map.mpr ⟨u,hu,rfl⟩),mem_map.mpr ⟨a,(qa5t hu).mpr ⟨ha,e2.symm⟩,rfl⟩,mem_map.mpr ⟨b,(qa5t hu).mpr ⟨hb,e.symm.trans e2.symm⟩,rfl⟩⟩
def qb4i{tss:List 'f'}{p q:Nat}{t:List Int}:t ∈ dueJ tss p q ↔ (t ∈ tss/\qa2l p q t=false) ∨ t=Sx.srtI (tss.filter (qa2l p q)).flatten:=by
 unfold dueJ;rw [(Sx.qa3x _).mem_iff,mem_append,mem_filter,mem_singleton];constructor
 ·rintro(⟨a,b⟩ | a)
  ·exact .inl ⟨a,by simpa using b⟩
  ·exact .inr a
 ·rintro(⟨a,b⟩ | a)
  ·exact .inl ⟨a,by rw [b];rfl⟩
  ·exact .inr a
def qc7f{m:Nat}{tss:List 'f'}(h:Parts m tss){p q x:Nat}(hx:x < m)(hp:p < m)(hq:q < m)(e:mkAt tss x=mkAt tss p ∨ mkAt tss x=mkAt tss q):(x:Int) ∈ (tss.filter (qa2l p q)).flatten:=by
 rcases e with e | e
 ·obtain⟨t,ht,h1,h2⟩:=h.mk_mem hx hp e
  exact mem_flatten.mpr ⟨t,mem_filter.mpr ⟨ht,by unfold qa2l;rw [decide_eq_true h2];rfl⟩,h1⟩
 ·obtain⟨t,ht,h1,h2⟩:=h.mk_mem hx hq e
  exact mem_flatten.mpr ⟨t,mem_filter.mpr ⟨ht,by unfold qa2l;rw [decide_eq_true h2,Bool.or_true]⟩,h1⟩
def qc7g{m:Nat}{tss:List 'f'}(h:Parts m tss){p q:Nat}{y:Int}(hy:y ∈ (tss.filter (qa2l p q)).flatten):∃ x:Nat,y=(x:Int)/\x < m/\(mkAt tss x=mkAt tss p ∨ mkAt tss x=mkAt tss q):=by
 obtain⟨t,ht,h1⟩:=mem_flatten.mp hy;obtain⟨ht,hn⟩:=mem_filter.mp ht;have hb:=(h.inr t ht).1 y h1;obtain⟨x,rfl⟩:∃ x:Nat,y=(x:Int):=⟨y.toNat,'o'⟩;refine⟨x,rfl,'o',?_⟩;unfold qa2l at hn;rcases Bool.or_eq_true_iff.mp hn with c | c
 ·exact .inl (h.mk_iff ht (of_decide_eq_true c) h1)
 ·exact .inr (h.mk_iff ht (of_decide_eq_true c) h1)
def qc9c{m:Nat}{tss:List 'f'}(h:Parts m tss){p q:Nat}(hp:p < m)(hq:q < m):dueJ tss p q=Sx.srtT (grpD (jm m tss p q)):=by
 have hg:=qb9h (jm m tss p q);rw [qc3l] at hg;refine qd2h (qd2i h hp) hg (fun x y=>?_) (fun x y=>?_)
 ·rintro⟨t,ht,hx,hy⟩
  refine qc3m.mpr ?_;rw [qc3l];rcases qb4i.mp ht with⟨ht,_⟩ | rfl
  ·have bx:=(h.inr t ht).1 x hx
   have by_:=(h.inr t ht).1 y hy;obtain⟨a,rfl⟩:∃ a:Nat,x=(a:Int):=⟨x.toNat,'o'⟩;obtain⟨b,rfl⟩:∃ b:Nat,y=(b:Int):=⟨y.toNat,'o'⟩;refine⟨a,b,rfl,rfl,'o','o',?_⟩;rw [jm_at 'o',jm_at 'o',h.mk_iff ht hx hy]
  ·obtain⟨a,rfl,ha,ea⟩:=qc7g h ((Sx.qa1d _).mem_iff.mp hx)
   obtain⟨b,rfl,hb,eb⟩:=qc7g h ((Sx.qa1d _).mem_iff.mp hy);refine⟨a,b,rfl,rfl,ha,hb,?_⟩;rw [jm_at ha,jm_at hb];rcases ea with ea | ea<;>rcases eb with eb | eb<;>rw [ea,eb]<;>(try split)<;>simp_all
 ·intro hs
  obtain⟨a,b,rfl,rfl,ha,hb,e⟩:=qc3m.mp hs;rw [qc3l] at ha hb;rw [jm_at ha,jm_at hb] at e;have two:(mkAt tss a=mkAt tss p ∨ mkAt tss a=mkAt tss q)->(mkAt tss b=mkAt tss p ∨ mkAt tss b=mkAt tss q)->∃ t ∈ dueJ tss p q,(a:Int) ∈ t/\(b:Int) ∈ t:=fun h1 h2=>⟨_,qb4i.mpr (.inr rfl),(Sx.qa1d _).mem_iff.mpr (qc7f h ha hp hq h1),(Sx.qa1d _).mem_iff.mpr (qc7f h hb hp hq h2)⟩;by_cases c1:mkAt tss a=mkAt tss q
  ·rw [if_pos c1] at e
   by_cases c2:mkAt tss b=mkAt tss q
   ·exact two (.inr c1) (.inr c2)
   ·rw [if_neg c2] at e
    exact two (.inr c1) (.inl 'o')
  ·rw [if_neg c1] at e
   by_cases c2:mkAt tss b=mkAt tss q
   ·rw [if_pos c2] at e
    exact two (.inl 'o') (.inr c2)
   ·rw [if_neg c2] at e
    obtain⟨t,ht,h1,h2⟩:=h.mk_mem ha hb 'o';cases hn:qa2l p q t with
    | false=>exact⟨t,qb4i.mpr (.inl ⟨ht,hn⟩),h1,h2⟩
    | true =>
     have hf:=mem_filter.mpr ⟨ht,hn⟩;exact⟨_,qb4i.mpr (.inr rfl),(Sx.qa1d _).mem_iff.mpr (mem_flatten.mpr ⟨t,hf,h1⟩),(Sx.qa1d _).mem_iff.mpr (mem_flatten.mpr ⟨t,hf,h2⟩)⟩
def u65{a b:Nat}(h:a + 80 < b):a + 65 < b:=by omega
def nd_sp{a z:Str}{ps:List Int}:ndD (.tuple [.str a,.str z,encT ps])=true:=by
 show(true && (true && (ndD (encT ps) && true)))=true;rw [nd_T];rfl
theorem nd_jn{a z:Str}{p q:Int}:ndD (.tuple [.str a,.str z,.int p,.int q])=true:=rfl
def nd_TL(ts:List 'f'):ndA (ts.map encT)=true:=qa4w nd_T ts
def nd_LL(ts:List 'f'):ndD (.list (ts.map encT))=true:=by unfold ndD;exact qa4w nd_T ts
theorem ndL_d{x:PyData}:ndL (some (.d x))=ndD x:=rfl
theorem ndL_o{x:List PyData}:ndL (some (.own x))=ndA x:=rfl
theorem ndL_n:ndL none=true:=rfl
theorem qb7j{z:Str}:ndD (.str z)=true:=rfl
theorem nd_nil:ndA []=true:=rfl
theorem nd_int{z:Int}:ndD (.int z)=true:=rfl
local macro_rules | `(tactic| walk_at "nd") => `(tactic| simp only [ndR, all_cons, all_nil, ndL_d, ndL_o, ndL_n, nd_W, nd_sp, nd_jn, nd_T, qb2g, nd_TL, nd_LL, qa9a, nd_nil, qb7j, nd_int, Bool.and_true, Bool.and_self])
def qb9j:∀ a b:List Int,PyData.eqvAll (a.map .int) (b.map .int)=decide (a=b)
 | [],[]=>rfl
 | [],y :: b=>by
  show PyData.eqvAll [] (.int y :: b.map .int)=_;rw [PyData.eqvAll];rfl
  all_goals simp
 | x :: a,[]=>by
  show PyData.eqvAll (.int x :: a.map .int) []=_;rw [PyData.eqvAll];rfl
  all_goals simp
 | x :: a,y :: b=>by
  show PyData.eqvAll (.int x :: a.map .int) (.int y :: b.map .int)=_;rw [PyData.eqvAll,qb9j a b,PyData.eqv];by_cases e:x=y
  ·subst e;by_cases e2:a=b<;>simp [e2]
  ·simp [e]
def eqv_T(a b:List Int):PyData.eqv (encT a) (encT b)=decide (a=b):=by
 show PyData.eqv (.tuple (a.map .int)) (.tuple (b.map .int))=_;rw [PyData.eqv,qb9j]
def any_T{l:List 'f'}{t:List Int}:((l.map encT).any fun e=>PyData.eqv e (encT t))=decide (t ∈ l):=by
 rw [any_map,Bool.eq_iff_iff,any_eq_true,decide_eq_true_iff];constructor
 ·rintro⟨u,hu,e⟩
  have e:PyData.eqv (encT u) (encT t)=true:=e;rw [eqv_T,decide_eq_true_iff] at e;exact e ▸ hu
 ·intro h
  exact⟨t,h,by show PyData.eqv (encT t) (encT t)=true;rw [eqv_T,decide_eq_true_iff]⟩
noncomputable def hasS(W:Wd)(z:Str):Bool:=(W.sights.find? fun s=>decide (s.1=z)).isSome
def in_S{W:Wd}{z:Str}:fInA false (.str z) (dicS (W.sights.map (eV eS)))=some (.bool (hasS W z)):=by
 show some (PyData.bool (getA _ (Sum.inr z)).isSome)=_;rw [qa9v,find?_map];unfold hasS;show some (PyData.bool (((W.sights.find? fun s=>decide (s.1=z)).map (eV eS)).map (·.2)).isSome)=_;cases W.sights.find? fun s=>decide (s.1=z)<;>rfl
def get_S{W:Wd}{z:Str}(h:hasS W z=true):fGetA (dicS (W.sights.map (eV eS))) (.str z)=some (eS (qa1i W z)):=by
 show getA _ (Sum.inr z)=_;rw [qa9v,find?_map];unfold hasS at h;unfold qa1i;show((W.sights.find? fun s=>decide (s.1=z)).map (eV eS)).map (·.2)=_
 revert h
 cases W.sights.find? fun s=>decide (s.1=z) with
 | none=>exact fun h=>nomatch h
 | some y=>exact fun _=>rfl
def cut_has{W:Wd}{z:Str}{ps:List Int}(g:Gw W)(h:hasS W z=true):srtV (putV W.sights z (cutP (qa1i W z) ps))=(W.cut [z] ps).sights:=by
 have hnd:=qa3c g.sn;obtain⟨y,hy⟩:=isSome_iff_exists.mp h;have hm:=List.mem_of_find?_eq_some hy;have hz:y.1=z:=by simpa using find?_some hy
 have hl:qa1i W z=y.2:=by unfold qa1i;rw [hy];rfl
 have hp:putV W.sights z (cutP (qa1i W z) ps)=W.sights.map (cutS [z] ps):=by
  unfold putV;rw [if_pos (any_eq_true.mpr ⟨y,hm,by simpa using hz⟩)];refine map_congr_left fun s hs=>?_;unfold cutS;by_cases c:s.1=z
  ·rw [if_pos c,if_pos (mem_singleton.mpr c)]
   have e:s=y:=by
    have hp2:=pairwise_map.mp hnd;obtain⟨i,hi,rfl⟩:=getElem_of_mem hs;obtain⟨j,hj,rfl⟩:=getElem_of_mem hm;have hp3:=pairwise_iff_getElem.mp hp2;rcases Nat.lt_trichotomy i j with k | k | k
    ·exact absurd (c.trans hz.symm) (hp3 i j hi hj k)
    ·subst k;rfl
    ·exact absurd (hz.trans c.symm) (hp3 j i hj hi k)
   rw [hl,e]
  ·rw [if_neg c,if_neg (fun x=>c (mem_singleton.mp x))]
 rw [hp];refine qb4h (p:="") ?_;rw [map_map,show W.sights.map ((·.1) ∘ cutS [z] ps)=W.sights.map (·.1) from map_congr_left fun s _=>qb3r _ _ s];exact g.sn
def cut_no{W:Wd}{z:Str}{ps:List Int}(h:hasS W z=false):(W.cut [z] ps).sights=W.sights:=by
 show W.sights.map (cutS [z] ps)=_;refine(map_congr_left fun s hs=>?_).trans (map_id _);unfold cutS;rw [if_neg]
 ·rfl
 intro c;unfold hasS at h;rw [Option.isSome_eq_false_iff,Option.isNone_iff_eq_none] at h;have:=find?_eq_none.mp h s hs;exact this (by simpa using mem_singleton.mp c)
noncomputable def fmT(f:List Int->Bool):PyData->Option PyData
 | .tuple xs=>(qa2x xs).bind fun t=>if f t=true then some (encT t) else none
 | _=>none
def qb7k{f:List Int->Bool}(t:List Int):fmT f (encT t)=if f t=true then some (encT t) else none:=by
 show(qa2x (t.map .int)).bind _=_;rw [ints_of];rfl
def qb1g(f:List Int->Bool):∀ ts:List 'f',(ts.map encT).filterMap (fmT f)=(ts.filter f).map encT
 | []=>rfl
 | t :: r=>by
  rw [map_cons,filterMap_cons,qb7k,List.filter_cons];by_cases c:f t=true
  ·rw [if_pos c,if_pos c,map_cons,← qb1g f r]
  ·rw [if_neg c,if_neg c,← qb1g f r]
def qd2j{p:Int}{t:List Int}:fIn true (.int p) (encT t)=some (.bool (!decide (p ∈ t))):=by
 rw [fIn_f (by rw [qb0c];rfl),qb2b];rfl
def ne_encT(t:List Int):fEqA true (encT t) (.tuple [])=some (.bool (!t.isEmpty)):=ne_unit t
def sgl_rng(m:Nat):(rngD 0 m).filterMap (fun y=>some (PyData.tuple [y]))=(sgl m).map encT:=by
 rw [qb5r];unfold sgl;rw [map_map,map_map];generalize List.range m=l;induction l with
 | nil=>rfl
 | cons p r ih=>rw [map_cons,filterMap_cons,ih];rfl
def qd6h{m:Nat}{tss:List 'f'}(h:Parts m tss)(p q:Nat):(tss.filter (qa2l p q)).flatten.length <= m:=by
 have h1:=(List.filter_append_perm (qa2l p q) tss).flatten.length_eq;have h2:=h.flat.length_eq;rw [length_map,length_range] at h2;rw [flatten_append,length_append] at h1;omega
abbrev qa6k:Stmt:=top 38
def qa2c:FnScope ["_law_world_here","_law_change_here","_law_sights_here","_law_hand","_law_alone","_law_parts_here","_law_near","_law_ones","_law_part","_law_found"] ["_law_world_here","_law_change_here"] (qa0l qa6k):='a'
def qc9d{f:Addr}{fd:FuncData} (F:FU K "_law_sights" qa6k f fd) (B:Bl mg):FO P w K mg base (n + 1) f fd ["_law_world_here","_law_change_here"] spLS:=by
 refine F.dok qa2c (fun cdv A outer s H E hr ls Qd h=>?_) 'i';obtain⟨W,c,rfl,g,hc,hs,q⟩:=h;refine⟨rfl,?_⟩;have hmv:=g.mv;have hm2:=g.m2;have hsl:=g.sl;have hnd:=qa3c g.sn;refine⟨_,(qb3g (i:=2) qa2c.nd rfl 'c' rfl rfl B.dict_ 'H'
  (qb1u (qa5r (qb4d (j:=3) 'd' qa2c.nd rfl 'c' 'u'))
  (qb1u (dpt_if (qa0w (qa1q hr.units) qa1p 'u' qa1e (qa0u _))
  (qa4u (qa5r (qb4d (j:=4) 'd' qa2c.nd rfl 'c' (qa0y qa0p qa1h rfl B.tuple_ qa0t (qa0a (qa1m (qa1g ["_law_q"] [] rfl (by rfl) 'k' (qa4f rfl B.range_ (qa0v qa1l qa3j rfl B.len_ qa2r 'H')) (fun _ _ _=>(qa0s (i:=0) (show(["_law_q"]:List Str).Nodup by decide +kernel) rfl 'c')) 'z' (fun _ _ _=>(qa1y 'y')))) qa0b))))
  (qa4u (qa5r (qb4d (j:=5) 'd' qa2c.nd rfl 'c' (qb7z (dv 2) (qa0a (dv 3) 'D'))))
  (qa4u (qa5r (qb4d (j:=6) 'd' qa2c.nd rfl (Or.inr rfl) (qa1m (qa1g ["_law_part"] [("_law_change_here",1)] rfl (by rfl) 'k' (qa1k (dv 5)) (fun _ _ _=>(qa0s (i:=0) (show(["_law_part","_law_change_here"]:List Str).Nodup by decide +kernel) rfl 'c')) (fun _ _ _=>(qa3h (DW.toT (qa5h (qa0w qa9k qa8a 'u' (dv 0) (by rfl)) (qa4t (qa0w qa9k qa8a 'u' (dv 0) (by rfl))))))) 'A'))))
  (qa4u (qa5r (qc2b (j:=7) 'd' qa2c.nd rfl 'c' (qa4n qa0b)))
  (qa4u (qa5r (qc6s PassesOwn.never rfl (qa1k (dv 6)) (qb5e (j:=8) 'd' qa2c.nd rfl 'c')
  (qc2c (qb5j (qc6g 7 rfl (dv 8))))))
  (qb5k (qb4e (i:=2) rfl hr.units (dv 3) (qa0y qa0p qa1h rfl B.tuple_ qa0t (qa0a (qa0v qa7s qb4c rfl B.sorted_ qa2q (qa0a (qa7a qa3w qa5x (qa1m (qa1g ["_law_part"] [("_law_near",6)] rfl (by rfl) 'k' (qa1k (dv 5)) (fun _ _ _=>(qa0s (i:=0) (show(["_law_part","_law_near"]:List Str).Nodup by decide +kernel) rfl 'c')) (fun _ _ _=>(qa3h (qa0w (op_ninP (u65 hr.units2)) ad_ninP (dv 0) (dv 1) (by rfl)))) 'A')) (qa1m (qa4n (qa0a (qa0y qa0p qa1h rfl B.tuple_ qa0t (qa0a (qa0v qa8g qb1v rfl B.sorted_ qa2q (qa0a (dv 7) qa0b)) qa0b)) qa0b)))) qa0b)) qa0b)))))))))
  (qb5k (dpt_if (qa0w (qc1k hr.units) ad_inA (dv 3) (dv 2) (by rfl))
  (qa4u (qa5r (qc2b (j:=9) 'd' qa2c.nd rfl 'c' (qa4n qa0b)))
  (qa4u (qa5r (qc6s PassesOwn.never rfl (qa1k (qc6n hr.units (dv 2) (dv 3) 'b')) (qb5e (j:=8) 'd' qa2c.nd rfl 'c')
  (qd1s (qb5j (qa7o 9 rfl (qa0y qa0p qa1h rfl B.tuple_ qa0t (qa0a (qa1m (qa1g ["_law_q"] [("_law_change_here",1)] rfl (by rfl) 'k' (qa1k (dv 8)) (fun _ _ _=>(qa0s (i:=0) (show(["_law_q","_law_change_here"]:List Str).Nodup by decide +kernel) rfl 'c')) (fun _ _ _=>(qa3h (qa0w qa9k qa8a (dv 0) 'u' (by rfl)))) 'A')) qa0b))))
  (qc2c (qb5j (qa7o 9 rfl (qa0y qa0p qa1h rfl B.tuple_ qa0t (qa0a (qa1m (qa1g ["_law_q"] [("_law_change_here",1)] rfl (by rfl) 'k' (qa1k (dv 8)) (fun _ _ _=>(qa0s (i:=0) (show(["_law_q","_law_change_here"]:List Str).Nodup by decide +kernel) rfl 'c')) (fun _ _ _=>(qa3h (qa0w qa7b qa8a (dv 0) 'u' (by rfl)))) 'A')) qa0b))))))))
  (qb5k (qb4e (i:=2) rfl hr.units (dv 3) (qa0y qa0p qa1h rfl B.tuple_ qa0t (qa0a (qa0v qa7s qb4c rfl B.sorted_ qa2q (qa0a (qa1m (qa1g ["_law_part"] [] rfl (by rfl) 'k' (qa1k (dv 9)) (fun _ _ _=>(qa0s (i:=0) (show(["_law_part"]:List Str).Nodup by decide +kernel) rfl 'c')) (fun _ _ _=>(qa3h (qa0w (qa9o hr.units) qa9n (dv 0) (qa1y qa0b) (qa0u _)))) 'A')) qa0b)) qa0b))))))
  qd5g)))
  (qb7x (qa0g (qa0o (qa0y qa0p qa1h rfl B.tuple_ qa0t (qa0a (qc1z rfl rfl B.sorted_ (dv 2)) qa0b)))))))),?_⟩
 cases c with
 | fact z p=>exact hs.elim
 | move p p2=>exact hs.elim
 | split z ps =>
  unfold Ch.enc;walk_at "dk";refine⟨W.sights.map (eV eS),by rw [map_map];rfl,by rw [length_map];omega,?_⟩;rw [show qa6a [] ((W.sights.map (eV eS)).map kQ)=(W.sights.map (eV eS)).map kQ from qa8y _ [] (by rw [nil_append,qa3i];exact hnd)];refine⟨by walk_at "nd",by walk_at "nd",?_⟩;walk_at "dk";rw [in_S];lia;cases hh:hasS W z with
  | true =>
   have hP:=qb0l g z;have hPl:=hP.len;walk_at "dk";refine⟨by walk_at "nd",by walk_at "nd",qa0r (get_S hh) ?_⟩;lia;refine qa3q (fun i ρ=>∃ v8,ρ=[some (L.d W.enc),some (L.d (PyData.tuple [PyData.str (Str.ofString "split"),PyData.str z,encT ps])),some (L.d (dicS (W.sights.map (eV eS)))),some (L.d (.str z)),none,none,none,none,v8,some (.own ((((qa1i W z).take i).flatMap (pcs ps)).map encT))]/\i <= (qa1i W z).length/\ndL v8=true) ⟨none,rfl,'o',rfl⟩ ?_ ?_
   ·rintro i x ρ N hx ⟨v8,rfl,hi,_⟩ hN
    rw [getElem?_map] at hx;obtain⟨t,hti,rfl⟩:=map_eq_some_iff.mp hx;have hi2:=(List.getElem?_eq_some_iff.mp hti).1;have htl:=(hP.inr t (mem_of_getElem? hti)).2.1;have hfl:=qb3k ps ((qa1i W z).take i);have hti4:((qa1i W z).take i).length <= 20:=by rw [length_take];omega
    lia;refine⟨by rw [length_map];omega,?_⟩;refine L2.qa1c (fun ρ=>∃ v0:Option L,ρ=[v0,some (L.d (PyData.tuple [PyData.str (Str.ofString "split"),PyData.str z,encT ps]))]) (fmI fun p=>decide (p ∈ ps)) ⟨_,rfl⟩ ?_ ?_
    ·rintro x ρ N2 hx ⟨v0,rfl⟩ hN2
     obtain⟨p,hp,rfl⟩:=mem_map.mp hx;lia;rw [qb5n];lia;rw [show fmI (fun p=>decide (p ∈ ps)) (.int p)=if decide (p ∈ ps)=true then some (PyData.int p) else none from rfl] at hN2;refine qa2v (fun c=>?_) (fun c=>?_)
     ·lia
      rw [if_pos (decide_eq_true c)] at hN2;exact hN2 _ ⟨_,rfl⟩
     ·rw [if_neg (by rw [decide_eq_false c];exact Bool.false_ne_true)] at hN2
      exact hN2 _ ⟨_,rfl⟩
    rintro ρ _;rw [qa5s];refine⟨by rw [length_map];omega,?_⟩;lia;refine⟨by rw [length_map];omega,?_⟩;refine L2.qa1c (fun ρ=>∃ v0:Option L,ρ=[v0,some (L.d (PyData.tuple [PyData.str (Str.ofString "split"),PyData.str z,encT ps]))]) (fmI fun p=>!decide (p ∈ ps)) ⟨_,rfl⟩ ?_ ?_
    ·rintro x ρ N2 hx ⟨v0,rfl⟩ hN2
     obtain⟨p,hp,rfl⟩:=mem_map.mp hx;lia;rw [qd2j];lia;rw [show fmI (fun p=>!decide (p ∈ ps)) (.int p)=if (!decide (p ∈ ps))=true then some (PyData.int p) else none from rfl] at hN2;refine ite_b (fun c=>?_) (fun c=>?_)
     ·lia
      rw [if_pos c] at hN2;exact hN2 _ ⟨_,rfl⟩
     ·rw [if_neg (by rw [c];exact Bool.false_ne_true)] at hN2
      exact hN2 _ ⟨_,rfl⟩
    rintro ρ _;rw [qa5s];refine⟨by rw [length_append,length_map];show _ + 1 <= _;omega,?_⟩;lia;refine hN _ ⟨some (.d (encT t)),?_,'o',nd_T t⟩;rw [take_add_one,hti,toList_some,List.flatMap_append,map_append,append_assoc];rfl
   ·rintro ρ ⟨v8,rfl,hi,hv8⟩
    rw [show(qa1i W z).take ((qa1i W z).map encT).length=qa1i W z by rw [length_map,take_length]];have hfl:=qb3k ps (qa1i W z);refine⟨show 2 < 10 by decide,by(simp only [hv8,ndR,all_cons,all_nil,ndL_d,ndL_o,ndL_n,nd_W,nd_sp,nd_TL,qb7j,Bool.and_true,Bool.and_self]),?_⟩;lia;refine⟨by rw [length_map,length_map];omega,by rw [length_map];omega,?_⟩;refine L2.qa1c (fun ρ=>∃ v0:Option L,ρ=[v0]) (fmT fun t=>!t.isEmpty) ⟨_,rfl⟩ ?_ ?_
    ·rintro x ρ N2 hx ⟨v0,rfl⟩ hN2
     obtain⟨t,ht,rfl⟩:=mem_map.mp hx;rw [qb7k] at hN2;lia;rw [ne_encT];lia;refine ite_b (fun c=>?_) (fun c=>?_)
     ·lia
      rw [if_pos c] at hN2;exact hN2 _ ⟨_,rfl⟩
     ·rw [if_neg (by rw [c];exact Bool.false_ne_true)] at hN2
      exact hN2 _ ⟨_,rfl⟩
    rintro ρ _;rw [qb1g];have hpc:=qc2n ps (qa1i W z);refine qa0r (qb1s (tss:=pc (qa1i W z) ps) (fun t ht=>(qb7d ht).1) 'o') ?_;lia;refine⟨by(simp only [hv8,ndR,all_cons,all_nil,ndL_d,ndL_o,ndL_n,nd_W,nd_sp,nd_LL,qb7j,Bool.and_true,Bool.and_self]),qb2g _,qa0r (x:=Sum.inr z) rfl ?_⟩;rw [qb3i,show(PyData.tuple ((Sx.srtT (pc (qa1i W z) ps)).map encT))=eS (cutP (qa1i W z) ps) from rfl,qa7v];lia;refine qa0r (qb2a ?_ ?_) ?_
    ·have:=qb1z (W.sights.map (eV eS)) z (eS (cutP (qa1i W z) ps))
     rw [qa7v,length_map,length_map] at this;rw [length_map];omega
    ·rw [qa3i];exact qa6h hnd
    rw [qb1f,map_map,cut_has g hh];lia;exact q
  | false =>
   walk_at "dk";refine⟨by walk_at "nd",?_⟩;lia;refine qa0r (qb2a 'q' (by rw [qa3i];exact hnd)) ?_;rw [qb1f,map_map,qb4h g.sn];lia;rw [show(W.chg (.split z ps)).sights=W.sights from cut_no hh] at q;exact q
 | join z p p2 =>
  unfold Ch.enc;walk_at "dk";refine⟨W.sights.map (eV eS),by rw [map_map];rfl,by rw [length_map];omega,?_⟩;rw [show qa6a [] ((W.sights.map (eV eS)).map kQ)=(W.sights.map (eV eS)).map kQ from qa8y _ [] (by rw [nil_append,qa3i];exact hnd)];refine⟨by walk_at "nd",by walk_at "nd",⟨by rw [length_map];omega,by rw [length_map];omega⟩,?_⟩;rw [show((((W.moves.map encT).length:Nat):Int)).toNat=W.moves.length by rw [length_map];omega];refine⟨by rw [qa5a];omega,?_⟩;refine L2.qa1c (fun ρ=>∃ v0:Option L,ρ=[v0]) (fun y=>some (.tuple [y])) ⟨_,rfl⟩ ?_ ?_
  ·rintro y ρ N hy ⟨v0,rfl⟩ hN
   lia;exact hN _ ⟨_,rfl⟩
  rintro ρ _;rw [sgl_rng,hmv];have hP:=qb0l g z;have hPl:=hP.len;refine⟨by walk_at "nd",⟨_,rfl⟩,qa0r getD_S ⟨by walk_at "nd",?_⟩⟩;lia;refine⟨by rw [length_map];omega,?_⟩;refine L2.qa1c (fun ρ=>∃ v0:Option L,ρ=[v0,some (L.d (PyData.tuple [PyData.str (Str.ofString "join"),PyData.str z,PyData.int (p:Int),PyData.int (p2:Int)]))]) (fmT (qa2l p p2)) ⟨_,rfl⟩ ?_ ?_
  ·rintro x ρ N2 hx ⟨v0,rfl⟩ hN2
   obtain⟨t,ht,rfl⟩:=mem_map.mp hx;rw [qb7k] at hN2;lia;rw [qb5n];lia;refine qa2v (fun c=>?_) (fun c=>?_)
   ·rw [if_pos (by unfold qa2l;rw [decide_eq_true c];rfl)] at hN2
    exact hN2 _ ⟨_,rfl⟩
   ·rw [qb5n]
    lia;rw [show qa2l p p2 t=decide ((p2:Int) ∈ t) by unfold qa2l;rw [decide_eq_false c];rfl] at hN2;refine qa2v (fun c2=>?_) (fun c2=>?_)
    ·rw [if_pos (decide_eq_true c2)] at hN2
     exact hN2 _ ⟨_,rfl⟩
    ·rw [if_neg (by rw [decide_eq_false c2];exact Bool.false_ne_true)] at hN2
     exact hN2 _ ⟨_,rfl⟩
  rintro ρ _;rw [qb1g];have hfl:=qd6h hP p p2;generalize eN:(qa1i W z).filter (qa2l p p2)=N at hfl;have hNl:N.length <= W.many:=by rw [← eN];exact le_trans (length_filter_le ..) hPl
  lia;refine⟨by walk_at "nd",by walk_at "nd",?_⟩;refine qa3q (fun i ρ=>∃ v8,ρ=[some (L.d W.enc),some (L.d (PyData.tuple [PyData.str (Str.ofString "join"),PyData.str z,PyData.int (p:Int),PyData.int (p2:Int)])),some (L.d (dicS (W.sights.map (eV eS)))),some (L.d (.str z)),some (L.d (PyData.tuple ((sgl W.many).map encT))),some (L.d (eS (qa1i W z))),some (L.d (PyData.list (N.map encT))),some (.own ((N.take i).flatten.map .int)),v8,none]/\ndL v8=true) ⟨none,rfl,rfl⟩ ?_ ?_
  ·rintro i x ρ N2 hx ⟨v8,rfl,_⟩ hN
   rw [getElem?_map] at hx;obtain⟨t,hti,rfl⟩:=map_eq_some_iff.mp hx;have hle:(N.take i).flatten.length + t.length <= N.flatten.length:=by
    have e:(N.take (i + 1)).flatten.length=(N.take i).flatten.length + t.length:=by
     rw [take_add_one,hti,toList_some,flatten_append,length_append,flatten_cons];simp
    rw [← e];have:=congrArg List.length (show N.flatten=(N.take (i + 1) ++ N.drop (i + 1)).flatten by rw [List.take_append_drop]);rw [flatten_append,length_append] at this;omega
   lia;refine⟨_,rfl,by rw [length_map,length_map];omega,?_⟩;refine hN _ ⟨some (.d (encT t)),?_,nd_T t⟩;rw [take_add_one,hti,toList_some,flatten_append,map_append];simp
  ·rintro ρ ⟨v8,rfl,hv8⟩
   rw [show N.take (N.map encT).length=N by rw [length_map,take_length]];have ndc:∀ {o:Option L},ndL o=true->ndR 2 [some (L.d W.enc),some (L.d (PyData.tuple [PyData.str (Str.ofString "join"),PyData.str z,PyData.int (p:Int),PyData.int (p2:Int)])),some (L.d (dicS (W.sights.map (eV eS)))),some (L.d (.str z)),some (L.d (PyData.tuple ((sgl W.many).map encT))),some (L.d (eS (qa1i W z))),some (L.d (PyData.list (N.map encT))),o,v8,none]=true:=fun h=>by simp only [h,hv8,ndR,all_cons,all_nil,ndL_d,ndL_o,ndL_n,nd_W,nd_jn,qb2g,nd_LL,qa9a,qb7j,Bool.and_true,Bool.and_self]
   refine⟨show 2 < 10 by decide,ndc (qa9a _),?_⟩;lia;refine⟨by rw [length_map,length_map];omega,by rw [length_map];omega,?_⟩;refine L2.qa1c (fun ρ=>∃ v0:Option L,ρ=[v0,some (L.d (PyData.list (N.map encT)))]) (fmT fun t=>!decide (t ∈ N)) ⟨_,rfl⟩ ?_ ?_
   ·rintro x ρ N2 hx ⟨v0,rfl⟩ hN2
    obtain⟨t,ht,rfl⟩:=mem_map.mp hx;rw [qb7k] at hN2;lia;rw [qd5r (qb2c t) (fun e he=>by obtain⟨u,_,rfl⟩:=mem_map.mp he;exact qb2c u),any_T];lia;refine ite_b (fun c=>?_) (fun c=>?_)
    ·rw [if_pos c] at hN2
     exact hN2 _ ⟨_,rfl⟩
    ·rw [if_neg (by rw [c];exact Bool.false_ne_true)] at hN2
     exact hN2 _ ⟨_,rfl⟩
   rintro ρ _;rw [qb1g];lia;have hfar:(qa1i W z).filter (fun t=>!decide (t ∈ N))=(qa1i W z).filter (fun t=>!qa2l p p2 t):=List.filter_congr fun t ht=>by
    congr 1
    rw [← eN,Bool.eq_iff_iff,decide_eq_true_iff,mem_filter];exact⟨fun h=>h.2,fun h=>⟨ht,h⟩⟩
   have hfl2:((qa1i W z).filter fun t=>!qa2l p p2 t).length <= W.many:=le_trans (length_filter_le ..) hPl;have hj:=qc9c hP hc.2.1 hc.2.2;unfold dueJ at hj;rw [eN] at hj;rw [hfar];generalize eF:(qa1i W z).filter (fun t=>!qa2l p p2 t)=F2 at hfl2 hj;have hne:∀ t ∈ F2 ++ [Sx.srtI N.flatten],t ≠ []:=fun t ht=>by
    rcases mem_append.mp ht with h | h
    ·rw [← eF] at h
     exact hP.ne t (mem_filter.mp h).1
    ·rw [mem_singleton.mp h,← eN]
     exact List.ne_nil_of_mem ((Sx.qa1d _).mem_iff.mpr (qc3k hP hc.2.1))
   refine qa0r (qb5m 'o') ?_;lia;refine qa0r (fAdd_l (by rw [sizeLine_eq,length_map];show _ + 1 <= _;omega)) ?_;rw [show F2.map encT ++ [PyData.tuple ((Sx.srtI N.flatten).map .int)]=(F2 ++ [Sx.srtI N.flatten]).map encT by rw [map_append];rfl];refine qa0r (qb1s hne (by rw [length_append];show _ + 1 < _;omega)) ?_;rw [hj];lia;refine⟨ndc (qa9a _),qb2g _,qa0r (x:=Sum.inr z) rfl ?_⟩;rw [qb3i,show(PyData.tuple ((Sx.srtT (grpD (jm W.many (qa1i W z) p p2))).map encT))=eS (Sx.srtT (grpD (jm W.many (qa1i W z) p p2))) from rfl,qa7v];lia;refine qa0r (qb2a ?_ ?_) ?_
   ·have:=qb1z (W.sights.map (eV eS)) z (eS (Sx.srtT (grpD (jm W.many (qa1i W z) p p2))))
    rw [qa7v,length_map,length_map] at this;rw [length_map];omega
   ·rw [qa3i];exact qa6h hnd
   rw [qb1f,map_map];lia;exact q
structure Lg(dp wt:Nat)(d:PyData):Prop where
 can:d.canLay0=true
 sho:d.intsShort 13=true
 shw:d.showable=true
 dep:d.depth <= dp
 wgt:d.weight <= wt
def Lg.up{dp wt dp' wt':Nat}{d:PyData}(h:Lg dp wt d)(h1:dp <= dp')(h2:wt <= wt'):Lg dp' wt' d:=⟨h.can,h.sho,h.shw,le_trans h.dep h1,le_trans h.wgt h2⟩
def lg_int{x:Int}(h0:0 <= x)(h1:x < 20):Lg 0 8 (.int x):=by
 have key:∀ n:Fin 20,(PyData.intsShort 13 (.int (n.val:Int)) && PyData.showable (.int (n.val:Int)) && decide (PyData.weight (.int (n.val:Int)) <= 8))=true:=by decide +kernel
 have k:=key ⟨x.toNat,'o'⟩;have e:((x.toNat:Nat):Int)=x:=by omega
 simp only [e,and_eq_true,decide_eq_true_eq] at k;exact⟨rfl,k.1.1,k.1.2,le_refl _,k.2⟩
def lg_all{dp wt:Nat}:∀ {xs:List PyData},(∀ x ∈ xs,Lg dp wt x)->PyData.canLayAll0 xs=true/\PyData.intsShortAll 13 xs=true/\PyData.showableAll xs=true/\PyData.depthAll xs <= dp/\PyData.weightAll xs <= xs.length * (wt + 1)
 | [],_=>⟨rfl,rfl,rfl,zero_le _,zero_le _⟩
 | x :: r,h=>by
  have hx:=h x mem_cons_self;obtain⟨a,b,c,d,e⟩:=lg_all (xs:=r) fun y hy=>h y (mem_cons_of_mem _ hy);refine⟨by rw [PyData.canLayAll0,hx.can,a];rfl,by rw [PyData.intsShortAll,hx.sho,b];rfl,by rw [PyData.showableAll,hx.shw,c];rfl,by rw [PyData.depthAll];exact Nat.max_le.mpr ⟨hx.dep,d⟩,?_⟩;rw [PyData.weightAll,length_cons,Nat.add_mul];have:=hx.wgt;omega
def qa9y{dp wt n:Nat}{xs:List PyData}(h:∀ x ∈ xs,Lg dp wt x)(hl:xs.length <= n):Lg (dp + 1) (n * (wt + 1)) (.tuple xs):=by
 obtain⟨a,b,c,d,e⟩:=lg_all h;refine⟨by rw [PyData.canLay0];exact a,by rw [PyData.intsShort];exact b,by rw [PyData.showable];exact c,by rw [PyData.depth];omega,?_⟩;rw [PyData.weight];exact le_trans e (Nat.mul_le_mul_right _ hl)
def lg_ok{dp wt:Nat}{d:PyData}(h:Lg dp wt d)(h1:dp <= 64)(h2:wt <= 100000):qa7r d=true:=by
 unfold qa7r PyData.layable0;have e:(2:Nat) ^ 20=1048576:=by decide
 have hd:=h.dep;have hw:=h.wgt;rw [h.can,h.sho,h.shw,decide_eq_true (show d.depth <= 64 by omega),decide_eq_true (show d.weight <= 2 ^ 20 by omega)];rfl
def lg_T{m:Nat}{t:List Int}(h:InR m t)(hm:m <= 20):Lg 1 (m * 9) (encT t):=by
 refine qa9y (fun x hx=>?_) (by rw [length_map];exact h.2.1);obtain⟨y,hy,rfl⟩:=mem_map.mp hx;have:=h.1 y hy;exact lg_int this.1 'o'
def qc7h{z:Str}(h:z ∈ NF ∨ z ∈ NS):Lg 0 8 (.str z):=by
 unfold NF NS at h;simp only [mem_cons,not_mem_nil,or_false] at h;rcases h with(rfl | rfl | rfl | rfl) | rfl | rfl | rfl | rfl<;>exact⟨'k',rfl,rfl,le_refl _,'k'⟩
def lg_two{dp wt:Nat}{x y:PyData}(hx:Lg dp wt x)(hy:Lg dp wt y):Lg (dp + 1) (2 * (wt + 1)) (.tuple [x,y]):=by
 refine qa9y (fun z hz=>?_) 'h';simp only [mem_cons,not_mem_nil,or_false] at hz;rcases hz with rfl | rfl
 ·exact hx
 ·exact hy
def qc3n{W:Wd}(G:Gw W)(N:Gn W):qa7r W.enc=true:=by
 have m9:=G.m2;have hf:Lg 3 660 (.tuple (W.facts.map encF)):=by
  refine qa9y (dp:=2) (wt:=164) (n:=4) (fun x hx=>?_) (by rw [length_map];exact G.fl);obtain⟨f,hfm,rfl⟩:=mem_map.mp hx;exact lg_two (dp:=1) (wt:=81) ((qc7h (.inl (N.nf f hfm))).up 'o' 'o') ((lg_T (G.fr f hfm) 'o').up 'o' 'o')
 have hm:Lg 4 5916 (.tuple (W.moves.map encT)):=by
  refine(qa9y (dp:=1) (wt:=81) (n:=9) (fun x hx=>?_) ?_).up 'o' 'o'
  ·obtain⟨t,ht,rfl⟩:=mem_map.mp hx
   exact(lg_T (G.mr t ht) 'o').up 'o' 'o'
  ·rw [length_map,G.mv];omega
 have hs:Lg 4 5916 (.tuple (W.sights.map encS)):=by
  refine qa9y (dp:=3) (wt:=1478) (n:=4) (fun x hx=>?_) (by rw [length_map];exact G.sl);obtain⟨f,hfm,rfl⟩:=mem_map.mp hx;have hp:=G.sr f hfm;have hl:=hp.len;refine lg_two (dp:=2) (wt:=738) ((qc7h (.inr (N.ns f hfm))).up 'o' 'o') ?_;refine(qa9y (dp:=1) (wt:=81) (n:=9) (fun x hx=>?_) 'q');obtain⟨t,ht,rfl⟩:=mem_map.mp hx;exact(lg_T (hp.inr t ht) 'o').up 'o' 'o'
 refine lg_ok (dp:=5) (wt:=3 * 5917) (qa9y (dp:=4) (wt:=5916) (n:=3) (fun x hx=>?_) 'h') 'o' 'o';simp only [mem_cons,not_mem_nil,or_false] at hx;rcases hx with rfl | rfl | rfl
 ·exact hf.up 'o' 'o'
 ·exact hm
 ·exact hs
def usS{α:Type}{us:List α}{n:Nat}(h:us.length=n + 1):∃ a r,us=a :: r/\r.length=n:=by
 cases us with
 | nil=>cases h
 | cons a r=>exact⟨a,r,rfl,Nat.succ.inj h⟩
noncomputable def alk:Nat->PyData->Prop
 | _ + 1,.int _=>True
 | _ + 1,.str _=>True
 | m + 1,.tuple xs=>xs.length <= 900/\∀ x ∈ xs,alk m x
 | _,_=>False
def alk_T{m:Nat}{t:List Int}(h:t.length <= 900):alk (m + 2) (encT t):=⟨by rw [length_map];exact h,fun x hx=>by obtain⟨y,_,rfl⟩:=mem_map.mp hx;exact trivial⟩
def alk_2{m:Nat}{x y:PyData}(hx:alk m x)(hy:alk m y):alk (m + 1) (.tuple [x,y]):=⟨by simp,fun z hz=>by
 simp only [mem_cons,not_mem_nil,or_false] at hz;rcases hz with rfl | rfl
 ·exact hx
 ·exact hy⟩
def alk_W{W:Wd}(G:Gw W):alk 6 W.enc:=by
 have m9:=G.m2;refine⟨by simp,fun x hx=>?_⟩;simp only [mem_cons,not_mem_nil,or_false] at hx;rcases hx with rfl | rfl | rfl
 ·have:=G.fl
  refine⟨by rw [length_map];omega,fun x hx=>?_⟩;obtain⟨f,hf,rfl⟩:=mem_map.mp hx;have:=(G.fr f hf).2.1;exact alk_2 (m:=3) trivial (alk_T (m:=1) 'o')
 ·have:=G.mv
  refine⟨by rw [length_map];omega,fun x hx=>?_⟩;obtain⟨t,ht,rfl⟩:=mem_map.mp hx;have:=(G.mr t ht).2.1;exact alk_T (m:=2) 'o'
 ·have:=G.sl
  refine⟨by rw [length_map];omega,fun x hx=>?_⟩;obtain⟨f,hf,rfl⟩:=mem_map.mp hx;have hP:=G.sr f hf;have:=hP.len;refine alk_2 (m:=3) trivial ⟨by rw [length_map];omega,fun x hx=>?_⟩;obtain⟨t,ht,rfl⟩:=mem_map.mp hx;have:=(hP.inr t ht).2.1;exact alk_T (m:=0) 'o'
def qc9e(xs:List PyData):fIn true (.bool false) (.list (xs.filterMap fun _=>some (.bool true)))=some (.bool true):=by
 have h1:(xs.filterMap fun _=>some (PyData.bool true)).all qa1n=true:=by
  rw [all_eq_true];intro y hy;obtain⟨_,_,e⟩:=List.mem_filterMap.mp hy;cases e;rfl
 have h2:inF (.bool false) (xs.filterMap fun _=>some (PyData.bool true))=false:=by
  unfold inF;rw [List.any_eq_false];intro y hy;obtain⟨_,_,e⟩:=List.mem_filterMap.mp hy;cases e;decide
 rw [fIn_fl (by rw [h1];rfl),h2];rfl
def spAl(m:Nat):DSp:=fun ls Q=>∃ x,ls=[.d x,.d x]/\alk m x/\Q (.d (.bool true)) [none,none]
abbrev qa5e:Stmt:=top 36
def qc3o:FnScope ["_law_found","_law_due"] ["_law_found","_law_due"] (qa0l qa5e):='a'
def qd6i{f f1:Addr}{fd fd1:FuncData}{m:Nat} (F:FU K "_law_alike" qa5e f fd) (B:Bl mg) (qa3o:Def K mg "_law_alike" qa5e ["_law_found","_law_due"] f1 fd1) (qa5f:FO P w K mg base n f1 fd1 ["_law_found","_law_due"] (spAl m)):FnOk P w K mg base CX0 (n + 1) f fd ["_law_found","_law_due"] (spD K (spAl (m + 1))):=by
 refine F.dok qc3o (fun cdv A outer s H E hr ls Qd h=>?_) 'p';obtain⟨x,rfl,hx,q⟩:=h;refine⟨rfl,?_⟩;refine⟨_,(qa0e (qa1r (qa2k (de_is2 rfl B.isinstance_ rfl B.tuple_ qa0t rfl rfl B.list_ qa8r rfl (dv 1)))
  (qa0e (qa1r (DW.toT (qa5h (qa0w (qa9o hr.units) qa9n (qa3b rfl B.isinstance_ rfl B.tuple_ qa0t rfl (dv 1)) (qa3b rfl B.isinstance_ rfl B.tuple_ qa0t rfl (dv 0)) (qa0u _)) (qa4t (qa0w (qa9o hr.units) qa9n (qa3b rfl B.isinstance_ rfl B.list_ qa8r rfl (dv 1)) (qa3b rfl B.isinstance_ rfl B.list_ qa8r rfl (dv 0)) (qa0u _)))))
  'v'
  qa0z)
  (qa0g (qa0o (qa2s (qa4d (qa1q hr.units) qa1p (qa0v qa1l qa3j rfl B.len_ qa2r 'y') (qa0v qa1l qa3j rfl B.len_ qa2r 'x') (qa0u _)) (qa3e (qa4d qa7b qa8a qa3a (qa1m (qa1g ["_law_k"] [("_law_found",0),("_law_due",1)] rfl (by rfl) 'k' (qa4f rfl B.range_ (qa0v qa1l qa3j rfl B.len_ qa2r 'x')) (fun _ _ _=>(qa0s (i:=0) (show(["_law_k","_law_found","_law_due"]:List Str).Nodup by decide +kernel) rfl 'c')) 'z' (fun _ _ _=>(qa0h [false,false] qa3o qa5f hr rfl (qa0a (qa0m qa0i qa0n (dv 1) (dv 0) 'b') (qa0a (qa0m qa0i qa0n (dv 2) (dv 0) 'b') qa0b)))))) (by rfl)))))))
  qa0z)
  (qa0e (qa1r (DW.toT (qa5h (qa0w qb6b qb6s (dv 1) qb6i (qa0u _)) (qa4t (qa0w qb6b qb6s (dv 0) qb6i (qa0u _)))))
  (qa0g (qa0o (qa2s (qa4d qb6b qb6s (dv 1) qb6i (qa0u _)) (qa3e (qa4d qb6b qb6s (dv 0) qb6i (qa0u _))))))
  qa0z)
  (qa0e (qa1r (DW.toT (qa5h (qa2k (qa3b rfl B.isinstance_ rfl B.bool_ qb0v rfl (dv 1))) (qa4t (qa2k (qa3b rfl B.isinstance_ rfl B.bool_ qb0v rfl (dv 0))))))
  (qa0g (qa0o (qa2s (qa3b rfl B.isinstance_ rfl B.bool_ qb0v rfl (dv 1)) (qa2s (qa3b rfl B.isinstance_ rfl B.bool_ qb0v rfl (dv 0)) (qa3e (qa4d (qa1q hr.units) qa1p (dv 1) (dv 0) (qa0u _)))))))
  qa0z)
  (qa0e (qa1r (qa2k (qa3b rfl B.isinstance_ rfl B.int_ qb6g rfl (dv 1)))
  (qa0g (qa0o (qa2s (qa3b rfl B.isinstance_ rfl B.int_ qb6g rfl (dv 0)) (qa3e (qa4d (qa1q hr.units) qa1p (dv 1) (dv 0) (qa0u _))))))
  qa0z)
  (qa0g (qa0o (qa2s (qa3b rfl B.isinstance_ rfl B.str_ bt_str rfl (dv 0)) (qa3e (qa4d (qa1q hr.units) qa1p (dv 1) (dv 0) (qa0u _)))))))))),?_⟩
 cases x with
 | int b =>
  walk_at "dk";rw [show(isD "tuple" (PyData.int b) || isD "list" (PyData.int b))=false from rfl];walk_at "dk";rw [show fIsN (PyData.int b) PyData.none=some (.bool false) from rfl];walk_at "dk";rw [show isD "bool" (PyData.int b)=false from rfl];walk_at "dk";rw [show isD "int" (PyData.int b)=true from rfl];walk_at "dk";exact q
 | str b =>
  walk_at "dk";rw [show(isD "tuple" (PyData.str b) || isD "list" (PyData.str b))=false from rfl];walk_at "dk";rw [show fIsN (PyData.str b) PyData.none=some (.bool false) from rfl];walk_at "dk";rw [show isD "bool" (PyData.str b)=false from rfl];walk_at "dk";rw [show isD "int" (PyData.str b)=false from rfl];walk_at "dk";rw [show isD "str" (PyData.str b)=true from rfl];walk_at "dk";exact q
 | tuple xs =>
  have hl:=hx.1;walk_at "dk";rw [show(isD "tuple" (PyData.tuple xs) || isD "list" (PyData.tuple xs))=true from rfl];walk_at "dk";refine⟨?_,?_,?_⟩
  ·have e62:(2:Int) ^ 62=4611686018427387904:=by decide
   exact⟨by rw [e62];omega,by rw [e62];omega⟩
  ·simp [rngD];omega
  refine L2.qa1c (fun ρ=>∃ v0:Option L,ρ=[v0,some (L.d (PyData.tuple xs)),some (L.d (PyData.tuple xs))]) (fun _=>some (.bool true)) ⟨_,rfl⟩ ?_ ?_
  ·rintro y ρ N hy ⟨v0,rfl⟩ hN
   obtain⟨j,hj,rfl⟩:=mem_map.mp hy;have hj':j < xs.length:=by
    have:=mem_range.mp hj;omega
   have e1:atI xs (0 + (j:Int))=some xs[j]:=by
    rw [Int.zero_add];exact qa6m (getElem?_eq_getElem hj')
   lia;rw [e1];lia;refine⟨_,rfl,hx.2 _ (getElem_mem hj'),?_⟩;lia;exact hN _ ⟨_,rfl⟩
  ·rintro ρ ⟨v0,rfl⟩
   rw [qc9e];lia;exact q
 | none=>exact hx.elim
 | bool b=>exact hx.elim
 | list xs=>exact hx.elim
 | dict xs=>exact hx.elim
def qc7i{W:Wd}(G:Good W):Gw W/\Gn W:=by
 have hf:∀ x ∈ W.facts.map (·.1),x ∈ NF:=fun x hx=>by
  have:=G.fn.subset hx;simp only [mem_cons,not_mem_nil,or_false] at this;rcases this with rfl | rfl | rfl<;>decide
 have hs:∀ x ∈ W.sights.map (·.1),x ∈ NS:=fun x hx=>by
  have:=G.sn.subset hx;simp only [mem_cons,not_mem_nil,or_false] at this;rcases this with rfl | rfl | rfl<;>decide
 have lf:=G.fn.length_le;have ls:=G.sn.length_le;rw [length_map] at lf ls;have lf:W.facts.length <= 3:=lf;have ls:W.sights.length <= 3:=ls;refine⟨⟨G.m1,G.m2,G.mv,G.mr,'o',qb4g (fun x hx=>nf_ok x (hf x hx)) (fun x hx=>?_) ?_,G.fr,'o',qb4g (fun x hx=>ns_ok x (hs x hx)) (fun x hx=>?_) ?_,G.sr⟩,⟨fun f h=>hf _ (mem_map.mpr ⟨f,h,rfl⟩),fun f h=>hs _ (mem_map.mpr ⟨f,h,rfl⟩)⟩⟩
 ·exact(by decide +kernel:∀ x ∈ NF,leC x "" = false) x (hf x hx)
 ·exact(by decide +kernel:(["p","pq","q"]:List Str).Pairwise (fun a b=>leC b a=false)).sublist G.fn
 ·exact(by decide +kernel:∀ x ∈ NS,leC x "" = false) x (hs x hx)
 ·exact(by decide +kernel:(["a","ab","b"]:List Str).Pairwise (fun a b=>leC b a=false)).sublist G.sn
noncomputable def hasF(W:Wd)(z:Str):Bool:=(W.facts.find? fun s=>decide (s.1=z)).isSome
def in_F{W:Wd}{z:Str}:fInA false (.str z) (dicS (W.facts.map (eV encT)))=some (.bool (hasF W z)):=by
 show some (PyData.bool (getA _ (Sum.inr z)).isSome)=_;rw [qa9v,find?_map];unfold hasF;show some (PyData.bool (((W.facts.find? fun s=>decide (s.1=z)).map (eV encT)).map (·.2)).isSome)=_;cases W.facts.find? fun s=>decide (s.1=z)<;>rfl
def qc9f{W:Wd}{p q:Nat}(g:Gw W)(hp:p < W.many):(W.chg (.move p q)).chg (.move p q)=W:=by
 have hpm:p < W.moves.length:=by rw [g.mv];exact hp
 have hin:InR W.many (W.moves.getD p []):=by
  rw [getD_eq_getElem?_getD,getElem?_eq_getElem hpm];exact g.mr _ (getElem_mem hpm)
 have e:∀ x:List Int,(W.moves.set p x).getD p []=x:=fun x=>by rw [getD_eq_getElem?_getD,getElem?_set_self hpm];rfl
 have em:((W.moves.set p (tog (W.moves.getD p []) (q:Int))).set p (tog ((W.moves.set p (tog (W.moves.getD p []) (q:Int))).getD p []) (q:Int)))=W.moves:=by
  rw [e,qc7c hin.2.2,set_set,getD_eq_getElem?_getD,getElem?_eq_getElem hpm];exact List.set_getElem_self hpm
 show({ many:=W.many,facts:=W.facts,moves:=(W.moves.set p (tog (W.moves.getD p []) (q:Int))).set p (tog ((W.moves.set p (tog (W.moves.getD p []) (q:Int))).getD p []) (q:Int)),sights:=W.sights }:Wd)=W;rw [em]
def lookF_V{fs:List (Str × List Int)}{z:Str}:qa1w fs z=qa4j fs z:=by
 unfold qa1w qa4j;rfl
def qc9g{W:Wd}{z:Str}{p:Nat}(g:Gw W)(hz:qa3k z=true)(h:hasF W z=true):(W.chg (.fact z p)).chg (.fact z p)=W:=by
 have hnd:=qa3c g.fn;have hr:=qb5v (d:=tog (qa1w W.facts z) (p:Int)) g.fn hz;obtain⟨y,hy⟩:=isSome_iff_exists.mp h;have hm:=List.mem_of_find?_eq_some hy;have hyz:y.1=z:=by simpa using find?_some hy
 have hn:z ∈ W.facts.map (·.1):=mem_map.mpr ⟨y,hm,hyz⟩;have hn1:((putV W.facts z (tog (qa1w W.facts z) (p:Int))).map (·.1))=W.facts.map (·.1):=by rw [qb2f,if_pos hn]
 have hs1:srtV (putV W.facts z (tog (qa1w W.facts z) (p:Int)))=putV W.facts z (tog (qa1w W.facts z) (p:Int)):=qb4h (p:="") (by rw [hn1];exact g.fn);have hl:qa1w (putV W.facts z (tog (qa1w W.facts z) (p:Int))) z=tog (qa1w W.facts z) (p:Int):=by rw [lookF_V,qd2b,if_pos rfl]
 have hpp:∀ d e:List Int,putV (putV W.facts z d) z e=putV W.facts z e:=fun d e=>by
  have ha:(W.facts.any fun q=>decide (q.1=z))=true:=any_eq_true.mpr ⟨y,hm,by simpa using hyz⟩;have h1:putV W.facts z d=W.facts.map (fun q=>if q.1=z then(q.1,d) else q):=if_pos ha;have ha2:((putV W.facts z d).any fun q=>decide (q.1=z))=true:=by
   refine any_eq_true.mpr ⟨(y.1,d),?_,by simpa using hyz⟩;rw [h1];exact mem_map.mpr ⟨y,hm,if_pos hyz⟩
  rw [show putV (putV W.facts z d) z e=(putV W.facts z d).map (fun q=>if q.1=z then(q.1,e) else q) from if_pos ha2,show putV W.facts z e=W.facts.map (fun q=>if q.1=z then(q.1,e) else q) from if_pos ha,h1,map_map];refine map_congr_left fun q _=>?_;show(if (if q.1=z then(q.1,d) else q).1=z then((if q.1=z then(q.1,d) else q).1,e) else(if q.1=z then(q.1,d) else q))=_;by_cases c:q.1=z
  ·rw [if_pos c,if_pos c,if_pos c]
  ·rw [if_neg c,if_neg c]
 have hid:putV W.facts z (qa1w W.facts z)=W.facts:=by
  have ha:(W.facts.any fun q=>decide (q.1=z))=true:=any_eq_true.mpr ⟨y,hm,by simpa using hyz⟩;rw [show putV W.facts z (qa1w W.facts z)=W.facts.map (fun q=>if q.1=z then(q.1,qa1w W.facts z) else q) from if_pos ha];refine(map_congr_left fun q hq=>?_).trans (map_id _);by_cases c:q.1=z
  ·rw [if_pos c]
   have e:q=y:=by
    have hp3:=pairwise_iff_getElem.mp (pairwise_map.mp hnd);obtain⟨i,hi,rfl⟩:=getElem_of_mem hq;obtain⟨j,hj,rfl⟩:=getElem_of_mem hm;rcases Nat.lt_trichotomy i j with k | k | k
    ·exact absurd (c.trans hyz.symm) (hp3 i j hi hj k)
    ·subst k;rfl
    ·exact absurd (hyz.trans c.symm) (hp3 j i hj hi k)
   have e2:qa1w W.facts z=y.2:=by unfold qa1w;rw [hy];rfl
   rw [e2,← e];rfl
  ·rw [if_neg c];rfl
 show({ many:=W.many,facts:=srtV (putV (srtV (putV W.facts z (tog (qa1w W.facts z) (p:Int)))) z (tog (qa1w (srtV (putV W.facts z (tog (qa1w W.facts z) (p:Int)))) z) (p:Int))),moves:=W.moves,sights:=W.sights }:Wd)=W;rw [hs1,hl,qc7c (qb2h g z).2.2,hpp,hid,qb4h g.fn]
abbrev qa8q:Stmt:=top 41
def qa6l:FnScope ["_law_script","_law_tape","_law_world_here","_law_k","_law_change_here","_law_kept","_law_due","_law_found"] ["_law_script"] (qa0l qa8q):='a'
def ok_law{f f2 f3 f4 f5 f6 f7:Addr}{fd fd2 fd3 fd4 fd5 fd6 fd7:FuncData} (F:FU K "law" qa8q f fd) (B:Bl mg)
  (qb0m:Def K mg "_law_world" qa7e ["_law_tape","_law_most"] f2 fd2) (qc4s:FO P w K mg base n f2 fd2 ["_law_tape","_law_most"] qb8d)
  (qa9z:Def K mg "_law_change" qa6j ["_law_tape","_law_world_here"] f3 fd3) (qc3p:FO P w K mg base n f3 fd3 ["_law_tape","_law_world_here"] qb5w)
  (qa7w:Def K mg "_law_changed" qa5k ["_law_world_here","_law_change_here"] f4 fd4) (qb9n:FO P w K mg base n f4 fd4 ["_law_world_here","_law_change_here"] spChd)
  (d_changed:Def K mg "changed" qb0g ["world","change"] f5 fd5) (g_changed:FO P w K mg base n f5 fd5 ["world","change"] spChd)
  (qa3o:Def K mg "_law_alike" qa5e ["_law_found","_law_due"] f6 fd6) (qa5f:FO P w K mg base n f6 fd6 ["_law_found","_law_due"] (spAl 6))
  (d_is_world:Def K mg "is_world" qa8m ["thing"] f7 fd7) (g_is_world:FO P w K mg base n f7 fd7 ["thing"] qb3o):FnOk P w K mg base CX0 (n + 1) f fd ["_law_script"] (spLaw K):=by
 refine F.law qa6l (fun cdv A outer s H E hr=>?_);refine⟨_,_,rfl,qa4l (i:=1) qa6l.nd rfl 'c' (qb9w (qa1f (pv 0) (qa1f qa2i qa2j))),_,(qa0e (qa1t (i:=2) qa6l.nd rfl 'c' (qa0h [true,false] qb0m qc4s hr rfl (qa0a (dv 1) 'C')))
  (qa0e (qa5z PassesOwn.never rfl (qa4f rfl B.range_ qa0d) (qa0s (i:=3) qa6l.nd rfl 'c')
  (qa0e (qa1t (i:=4) qa6l.nd rfl 'c' (qa0h [true,false] qa9z qc3p hr rfl (qa0a (dv 1) 'w')))
  (qa0e (qa1t (i:=5) qa6l.nd rfl 'c' (qa0v (qb7b hr.gd hr.units2) qc2j rfl B.repr_ qc5o 'w'))
  (qa0e (qa1t (i:=6) qa6l.nd rfl 'c' (qa0h [false,false] qa7w qb9n hr rfl (qa0a (dv 2) 'D')))
  (qa0e (qa1t (i:=7) qa6l.nd rfl 'c' (qa0h [false,false] d_changed g_changed hr rfl (qa0a (dv 2) 'D')))
  (qa0e (qa1r (DW.toT (qa5h (qa2z (qa2k (qa0h [false,false] qa3o qa5f hr rfl (qa0a (dv 7) (qa0a (dv 6) qa0b))))) (qa5h (qa0w (qa9o hr.units) qa9n (qa0v (qb7b hr.gd hr.units2) qc2j rfl B.repr_ qc5o 'w') (dv 5) (qa0u _)) (qa4t (qa2z (qa2k (qa0h [false] d_is_world g_is_world hr rfl (qa0a (dv 7) qa0b))))))))
  'v'
  qa0z)
  (qa0e (qa1r (DW.toT (qc0r (qa0w (qa1q hr.units) qa1p 'B' qa1e (qa0u _)) (qc5w (qa2z (qa2k (qa0h [false,false] qa3o qa5f hr rfl (qa0a (qa0h [false,false] d_changed g_changed hr rfl (qa0a (dv 7) 'D')) 'w')))))))
  'v'
  qa0z)
  (qa0e (qa1r (DW.toT (qc0r (qa0w (qa1q hr.units) qa1p 'B' qa1e (qa0u _)) (qc0r (qa0w (qc1k hr.units) ad_inA 'B' (qa0y (qb1t rfl) qc1t rfl B.dict_ qb7s (qa0a (qa0m qa0i qa0n (dv 2) qa0d 'b') qa0b)) (by rfl)) (qc5w (qa2z (qa2k (qa0h [false,false] qa3o qa5f hr rfl (qa0a (qa0h [false,false] d_changed g_changed hr rfl (qa0a (dv 7) 'D')) 'w'))))))))
  'v'
  qa0z)
  (qa0g (qa1t (i:=2) qa6l.nd rfl 'c' (dv 6)))))))))))
  'v')),?_⟩
 lia;refine⟨0,8,rfl,'o','o','o',fun W0 k0 hk0 G0 _=>?_⟩;lia;refine⟨⟨'d','d'⟩,?_⟩;refine qa3q (fun i ρ=>∃ (k:Nat) (W:Wd) (v3 v4 v5 v6 v7:Option L),ρ=[some .scr,some (.tape k),some (.d W.enc),v3,v4,v5,v6,v7]/\k <= 200 + 20 * i/\Gw W/\Gn W) ⟨k0,W0,none,none,none,none,none,rfl,'o',(qc7i G0).1,(qc7i G0).2⟩ ?_ ?_
 ·rintro i u ρ N hu ⟨k,W,v3,v4,v5,v6,v7,rfl,hk,g,gn⟩ hN
  obtain⟨hi2,rfl⟩:=rngI hu;have hi2:i < 10:=hi2;lia;refine⟨k,W,rfl,'o',g,fun c k' hk' hc hcn=>?_⟩;lia;obtain⟨g2,gn2⟩:=gw_chg c g gn hc hcn;refine qa0r (qc2k (qc3n g gn)) ?_;lia;refine⟨W,c,rfl,g,hc,?_⟩;lia;refine⟨W,c,rfl,g,hc,?_⟩;lia;refine⟨_,rfl,alk_W g2,?_⟩;lia;refine qa0r (qc2k (qc3n g gn)) ?_;walk_at "dk";refine⟨_,rfl,g2,?_⟩;walk_at "dk";cases c with
  | fact z p =>
   unfold Ch.enc;walk_at "dk";have hfl:=g.fl;have hnd:=qa3c g.fn;refine qa0r (x:=dicS (W.facts.map (eV encT))) ?_ ?_
   ·have:=qc3g (ps:=W.facts.map (eV encT)) (by rw [qa3i];exact hnd) 'q'
    rw [map_map] at this;exact this
   rw [in_F];lia;cases hh:hasF W z with
   | true =>
    walk_at "dk";refine⟨_,.fact z p,rfl,g2,hc,?_⟩;rw [qc9g g hc.1 hh];walk_at "dk";refine⟨_,rfl,alk_W g,?_⟩;walk_at "dk";exact hN _ ⟨_,_,_,_,_,_,_,rfl,'o',g2,gn2⟩
   | false =>
    walk_at "dk";exact hN _ ⟨_,_,_,_,_,_,_,rfl,'o',g2,gn2⟩
  | move p p2 =>
   unfold Ch.enc;walk_at "dk";refine⟨_,.move p p2,rfl,g2,hc,?_⟩;rw [qc9f g hc.1];walk_at "dk";refine⟨_,rfl,alk_W g,?_⟩;walk_at "dk";exact hN _ ⟨_,_,_,_,_,_,_,rfl,'o',g2,gn2⟩
  | split z ps =>
   unfold Ch.enc;walk_at "dk";exact hN _ ⟨_,_,_,_,_,_,_,rfl,'o',g2,gn2⟩
  | join z p p2 =>
   unfold Ch.enc;walk_at "dk";exact hN _ ⟨_,_,_,_,_,_,_,rfl,'o',g2,gn2⟩
 ·rintro ρ ⟨k,W,v3,v4,v5,v6,v7,rfl,hk,g,gn⟩
  lia
def Lies(K:W.Frag)(x:Str)(st:Stmt)(ps:List Str):Prop:=∃ f fd,Fun K x x st f fd/\W.nsIn K mainGlobals x=some (some (.ref f))/\Binds K fd ps []
abbrev fnX(x:Str)(st:Stmt)(kV dc pm:Value)(an:Option Addr)(cd ct:Value):FuncData:=W.fnOf x x (qa6n st) (qa4q st) (qa0l st) .none kV dc pm an cd ct
def qa5n{K:W.Frag}{x:Str}{st:Stmt}{ps:List Str}{f:Addr}{od an:Option Addr}{sl:Array (Option Value)}{oc kV dc pm cd ct:Value}
  (a:W.nsIn K mainGlobals x=some (some (.ref f))) (l:K.lookup f=some ⟨oc,od,.func (fnX x st kV dc pm an cd ct),sl⟩) (c:W.codeIn K cd x=true) (k:W.keepIn K (.ref f)=true) (hp:ps.length=1)
  (b:∀ (kV dc pm:Value) (an:Option Addr) (cd ct a0:Value),bindArgs (fnX x st kV dc pm an cd ct) ⟨[a0],[]⟩=pure (ps.zip [a0])):Lies K x st ps:=⟨f,_,qa9e l c k,a,(qa9e l c k).binds fun kV dc pm an cd ct us hl=>by
  rw [hp] at hl;obtain⟨a0,u0,rfl,h0⟩:=usS hl;obtain rfl:=eq_nil_of_length_eq_zero h0;exact b kV dc pm an cd ct a0⟩
def qa1u{K:W.Frag}{x:Str}{st:Stmt}{ps:List Str}{f:Addr}{od an:Option Addr}{sl:Array (Option Value)}{oc kV dc pm cd ct:Value}
  (a:W.nsIn K mainGlobals x=some (some (.ref f))) (l:K.lookup f=some ⟨oc,od,.func (fnX x st kV dc pm an cd ct),sl⟩) (c:W.codeIn K cd x=true) (k:W.keepIn K (.ref f)=true) (hp:ps.length=2)
  (b:∀ (kV dc pm:Value) (an:Option Addr) (cd ct a0 a1:Value),bindArgs (fnX x st kV dc pm an cd ct) ⟨[a0,a1],[]⟩=pure (ps.zip [a0,a1])):Lies K x st ps:=⟨f,_,qa9e l c k,a,(qa9e l c k).binds fun kV dc pm an cd ct us hl=>by
  rw [hp] at hl;obtain⟨a0,u0,rfl,h0⟩:=usS hl;obtain⟨a1,u1,rfl,h1⟩:=usS h0;obtain rfl:=eq_nil_of_length_eq_zero h1;exact b kV dc pm an cd ct a0 a1⟩
def qb0a{K:W.Frag}{x:Str}{st:Stmt}{ps:List Str}{f:Addr}{od an:Option Addr}{sl:Array (Option Value)}{oc kV dc pm cd ct:Value}
  (a:W.nsIn K mainGlobals x=some (some (.ref f))) (l:K.lookup f=some ⟨oc,od,.func (fnX x st kV dc pm an cd ct),sl⟩) (c:W.codeIn K cd x=true) (k:W.keepIn K (.ref f)=true) (hp:ps.length=3)
  (b:∀ (kV dc pm:Value) (an:Option Addr) (cd ct a0 a1 a2:Value),bindArgs (fnX x st kV dc pm an cd ct) ⟨[a0,a1,a2],[]⟩=pure (ps.zip [a0,a1,a2])):Lies K x st ps:=⟨f,_,qa9e l c k,a,(qa9e l c k).binds fun kV dc pm an cd ct us hl=>by
  rw [hp] at hl;obtain⟨a0,u0,rfl,h0⟩:=usS hl;obtain⟨a1,u1,rfl,h1⟩:=usS h0;obtain⟨a2,u2,rfl,h2⟩:=usS h1;obtain rfl:=eq_nil_of_length_eq_zero h2;exact b kV dc pm an cd ct a0 a1 a2⟩
def all_mk{P:Program}{w:World}{K:W.Frag}{h:Heap}{mg:Str->Option Value}{fa:Addr}(X:K.In h)(G:h.Ns mainGlobals mg) (hfa:mg "law" = some (.ref fa))
  (h_is_whole:Lies K "is_whole" qa6d ["thing"])
  (h_is_name:Lies K "is_name" qa7u ["thing"])
  (h_are_rising_names:Lies K "are_rising_names" qa3y ["things"])
  (h_is_world:Lies K "is_world" qa8m ["thing"])
  (h_is_points:Lies K "is_points" qa3z ["thing","many"])
  (h_is_parts:Lies K "is_parts" qa8k ["thing","many"])
  (h_is_named:Lies K "is_named" qa6g ["thing"])
  (h_is_facts:Lies K "is_facts" qa8l ["thing","many"])
  (h_is_sights:Lies K "is_sights" qa7j ["thing","many"])
  (h_many_points:Lies K "many_points" qa5j ["world"])
  (h_points_of:Lies K "points_of" qa7h ["world","name"])
  (h_marks_of:Lies K "marks_of" qa8n ["parts","many"])
  (h_parts_by:Lies K "parts_by" qa8o ["marks"])
  (h_cut:Lies K "cut" s_cut ["world","hands","points"])
  (h_cut_parts:Lies K "cut_parts" qa7g ["parts","points"])
  (h_changed:Lies K "changed" qb0g ["world","change"])
  (h_is_change:Lies K "is_change" qa7i ["thing","many"])
  (h_are_points:Lies K "are_points" qa6f ["things","many"])
  (h_toggled:Lies K "toggled" qb0d ["points","point"])
  (h_with_pair:Lies K "with_pair" qa7f ["pairs","name","value"])
  (h_joined_parts:Lies K "joined_parts" qa5b ["parts","one","other"])
  (h_law_cell_at:Lies K "_law_cell_at" qa4o ["_law_script","_law_k"])
  (h_law_by:Lies K "_law_by" qb1w ["_law_script","_law_k","_law_many"])
  (h_law_next:Lies K "_law_next" qa8h ["_law_tape","_law_many"])
  (h_law_some:Lies K "_law_some" qa6c ["_law_tape","_law_many","_law_few"])
  (h_law_parts:Lies K "_law_parts" qa7d ["_law_tape","_law_many"])
  (h_law_world:Lies K "_law_world" qa7e ["_law_tape","_law_most"])
  (h_law_alike:Lies K "_law_alike" qa5e ["_law_found","_law_due"])
  (h_law_flip:Lies K "_law_flip" qa8j ["_law_points","_law_p"])
  (h_law_sights:Lies K "_law_sights" qa6k ["_law_world_here","_law_change_here"])
  (h_law_changed:Lies K "_law_changed" qa5k ["_law_world_here","_law_change_here"])
  (h_law_change:Lies K "_law_change" qa6j ["_law_tape","_law_world_here"])
  {f_law:Addr} {od_law an_law:Option Addr} {sl_law:Array (Option Value)} {oc_law kV_law dc_law pm_law cd_law ct_law:Value}
  (a_law:W.nsIn K mainGlobals "law" = some (some (.ref f_law))) (l_law:K.lookup f_law=some ⟨oc_law,od_law,.func (W.fnOf "law" "law" (qa6n qa8q) (qa4q qa8q) (qa0l qa8q) .none kV_law dc_law pm_law an_law cd_law ct_law),sl_law⟩) (c_law:W.codeIn K cd_law "law" = true) (k_law:W.keepIn K (.ref f_law)=true)
  (z_len:W.nsIn K mainGlobals "len" = some none)
  (z_range:W.nsIn K mainGlobals "range" = some none)
  (z_tuple:W.nsIn K mainGlobals "tuple" = some none)
  (z_bool:W.nsIn K mainGlobals "bool" = some none)
  (z_isinstance:W.nsIn K mainGlobals "isinstance" = some none)
  (z_reversed:W.nsIn K mainGlobals "reversed" = some none)
  (z_max:W.nsIn K mainGlobals "max" = some none)
  (z_zip:W.nsIn K mainGlobals "zip" = some none)
  (z_list:W.nsIn K mainGlobals "list" = some none)
  (z_str:W.nsIn K mainGlobals "str" = some none)
  (z_enumerate:W.nsIn K mainGlobals "enumerate" = some none)
  (z_dict:W.nsIn K mainGlobals "dict" = some none)
  (z_sum:W.nsIn K mainGlobals "sum" = some none)
  (z_int:W.nsIn K mainGlobals "int" = some none)
  (z_min:W.nsIn K mainGlobals "min" = some none)
  (z_sorted:W.nsIn K mainGlobals "sorted" = some none)
  (z_all:W.nsIn K mainGlobals "all" = some none)
  (z_set:W.nsIn K mainGlobals "set" = some none)
  (z_repr:W.nsIn K mainGlobals "repr" = some none)
  {tk_LONGEST_NAME:Tok} (a_LONGEST_NAME:W.nsIn K mainGlobals "LONGEST_NAME" = some (some (.int 8 tk_LONGEST_NAME)))
  : ∃ fd:FuncData,(∀ (s:Shared) (v:Value),BindsTo s fd ⟨[v],[]⟩ [("_law_script",v)])/\∀ base:Heap,K.In base->base.Ns mainGlobals mg->FnOk P w K mg base CX0 40 fa fd ["_law_script"] (spLaw K):=by
 have e:=hfa.symm.trans (W.mg_of X G a_law);cases e;obtain⟨f_is_whole,_,F_is_whole,qc9h,b_is_whole⟩:=h_is_whole;have d_is_whole:Def K mg _ _ _ _ _:=⟨F_is_whole,b_is_whole,W.mg_of X G qc9h⟩;obtain⟨f_is_name,_,F_is_name,qd2k,b_is_name⟩:=h_is_name;have d_is_name:Def K mg _ _ _ _ _:=⟨F_is_name,b_is_name,W.mg_of X G qd2k⟩;obtain⟨f_are_rising_names,_,F_are_rising_names,qb3s,b_are_rising_names⟩:=h_are_rising_names;have d_are_rising_names:Def K mg _ _ _ _ _:=⟨F_are_rising_names,b_are_rising_names,W.mg_of X G qb3s⟩;obtain⟨f_is_world,_,F_is_world,qc9i,b_is_world⟩:=h_is_world;have d_is_world:Def K mg _ _ _ _ _:=⟨F_is_world,b_is_world,W.mg_of X G qc9i⟩;obtain⟨f_is_points,_,F_is_points,qc4t,b_is_points⟩:=h_is_points;have d_is_points:Def K mg _ _ _ _ _:=⟨F_is_points,b_is_points,W.mg_of X G qc4t⟩;obtain⟨f_is_parts,_,F_is_parts,qc9j,b_is_parts⟩:=h_is_parts;have d_is_parts:Def K mg _ _ _ _ _:=⟨F_is_parts,b_is_parts,W.mg_of X G qc9j⟩;obtain⟨f_is_named,_,F_is_named,qc9k,b_is_named⟩:=h_is_named;have d_is_named:Def K mg _ _ _ _ _:=⟨F_is_named,b_is_named,W.mg_of X G qc9k⟩;obtain⟨f_is_facts,_,F_is_facts,qc9l,b_is_facts⟩:=h_is_facts;have d_is_facts:Def K mg _ _ _ _ _:=⟨F_is_facts,b_is_facts,W.mg_of X G qc9l⟩;obtain⟨f_is_sights,_,F_is_sights,qc4u,b_is_sights⟩:=h_is_sights;have d_is_sights:Def K mg _ _ _ _ _:=⟨F_is_sights,b_is_sights,W.mg_of X G qc4u⟩;obtain⟨f_many_points,_,F_many_points,a_many_points,b_many_points⟩:=h_many_points;have d_many_points:Def K mg _ _ _ _ _:=⟨F_many_points,b_many_points,W.mg_of X G a_many_points⟩;obtain⟨f_points_of,_,F_points_of,a_points_of,b_points_of⟩:=h_points_of;have d_points_of:Def K mg _ _ _ _ _:=⟨F_points_of,b_points_of,W.mg_of X G a_points_of⟩;obtain⟨f_marks_of,_,F_marks_of,a_marks_of,b_marks_of⟩:=h_marks_of;have d_marks_of:Def K mg _ _ _ _ _:=⟨F_marks_of,b_marks_of,W.mg_of X G a_marks_of⟩;obtain⟨f_parts_by,_,F_parts_by,a_parts_by,b_parts_by⟩:=h_parts_by
 have d_parts_by:Def K mg _ _ _ _ _:=⟨F_parts_by,b_parts_by,W.mg_of X G a_parts_by⟩;obtain⟨f_cut,_,F_cut,a_cut,b_cut⟩:=h_cut;have d_cut:Def K mg _ _ _ _ _:=⟨F_cut,b_cut,W.mg_of X G a_cut⟩;obtain⟨f_cut_parts,_,F_cut_parts,a_cut_parts,b_cut_parts⟩:=h_cut_parts;have d_cut_parts:Def K mg _ _ _ _ _:=⟨F_cut_parts,b_cut_parts,W.mg_of X G a_cut_parts⟩;obtain⟨f_changed,_,F_changed,a_changed,b_changed⟩:=h_changed;have d_changed:Def K mg _ _ _ _ _:=⟨F_changed,b_changed,W.mg_of X G a_changed⟩;obtain⟨f_is_change,_,F_is_change,qc4v,b_is_change⟩:=h_is_change;have d_is_change:Def K mg _ _ _ _ _:=⟨F_is_change,b_is_change,W.mg_of X G qc4v⟩;obtain⟨f_are_points,_,F_are_points,qc3q,b_are_points⟩:=h_are_points;have d_are_points:Def K mg _ _ _ _ _:=⟨F_are_points,b_are_points,W.mg_of X G qc3q⟩;obtain⟨f_toggled,_,F_toggled,a_toggled,b_toggled⟩:=h_toggled;have d_toggled:Def K mg _ _ _ _ _:=⟨F_toggled,b_toggled,W.mg_of X G a_toggled⟩;obtain⟨f_with_pair,_,F_with_pair,a_with_pair,b_with_pair⟩:=h_with_pair;have d_with_pair:Def K mg _ _ _ _ _:=⟨F_with_pair,b_with_pair,W.mg_of X G a_with_pair⟩;obtain⟨f_joined_parts,_,F_joined_parts,a_joined_parts,b_joined_parts⟩:=h_joined_parts;have d_joined_parts:Def K mg _ _ _ _ _:=⟨F_joined_parts,b_joined_parts,W.mg_of X G a_joined_parts⟩;obtain⟨qd6l,_,qb9o,qb9p,b_law_cell_at⟩:=h_law_cell_at;have qa3v:Def K mg _ _ _ _ _:=⟨qb9o,b_law_cell_at,W.mg_of X G qb9p⟩;obtain⟨f_law_by,_,qd6j,qd6k,b_law_by⟩:=h_law_by
 have qb1x:Def K mg _ _ _ _ _:=⟨qd6j,b_law_by,W.mg_of X G qd6k⟩;obtain⟨qc9m,_,qb7l,qc9n,b_law_next⟩:=h_law_next;have qa1a:Def K mg _ _ _ _ _:=⟨qb7l,b_law_next,W.mg_of X G qc9n⟩;obtain⟨qc9o,_,qb7m,qc9p,b_law_some⟩:=h_law_some;have qa4i:Def K mg _ _ _ _ _:=⟨qb7m,b_law_some,W.mg_of X G qc9p⟩;obtain⟨qc4w,_,qb4q,qc4x,b_law_parts⟩:=h_law_parts;have qb0i:Def K mg _ _ _ _ _:=⟨qb4q,b_law_parts,W.mg_of X G qc4x⟩;obtain⟨qc4y,_,qb4r,qc4z,b_law_world⟩:=h_law_world;have qb0m:Def K mg _ _ _ _ _:=⟨qb4r,b_law_world,W.mg_of X G qc4z⟩;obtain⟨qc5a,_,qb4s,qc5b,b_law_alike⟩:=h_law_alike;have qa3o:Def K mg _ _ _ _ _:=⟨qb4s,b_law_alike,W.mg_of X G qc5b⟩;obtain⟨qc9q,_,qb7n,qc9r,b_law_flip⟩:=h_law_flip;have qa8p:Def K mg _ _ _ _ _:=⟨qb7n,b_law_flip,W.mg_of X G qc9r⟩;obtain⟨qc3r,_,qb3t,qc3s,b_law_sights⟩:=h_law_sights;have qa9x:Def K mg _ _ _ _ _:=⟨qb3t,b_law_sights,W.mg_of X G qc3s⟩;obtain⟨qb9q,_,qb2l,qb9r,b_law_changed⟩:=h_law_changed;have qa7w:Def K mg _ _ _ _ _:=⟨qb2l,b_law_changed,W.mg_of X G qb9r⟩;obtain⟨qc3t,_,qb3u,qc3u,b_law_change⟩:=h_law_change;have qa9z:Def K mg _ _ _ _ _:=⟨qb3u,b_law_change,W.mg_of X G qc3u⟩;have F_law:=qa9e (st:=qa8q) l_law c_law k_law;have B:Bl mg:=⟨W.mg_none_of X G z_len,W.mg_none_of X G z_range,W.mg_none_of X G z_tuple,W.mg_none_of X G z_bool,W.mg_none_of X G z_isinstance,W.mg_none_of X G z_reversed,W.mg_none_of X G z_max,W.mg_none_of X G z_zip,W.mg_none_of X G z_list,W.mg_none_of X G z_str,W.mg_none_of X G z_enumerate,W.mg_none_of X G z_dict,W.mg_none_of X G z_sum,W.mg_none_of X G z_int,W.mg_none_of X G z_min,W.mg_none_of X G z_sorted,W.mg_none_of X G z_all,W.mg_none_of X G z_set,W.mg_none_of X G z_repr⟩;have m_LONGEST_NAME:∃ t,mg "LONGEST_NAME" = some (.int 8 t):=⟨_,W.mg_of X G a_LONGEST_NAME⟩;refine⟨W.fnOf "law" "law" (qa6n qa8q) (qa4q qa8q) (qa0l qa8q) .none kV_law dc_law pm_law an_law cd_law ct_law,fun s v=>.of_eq rfl,fun base _ _=>?_⟩;have gn:FnOk P w K mg base CX0 3 qc9m _ _ _:=ok_next qb7l B qa3v qb1x;have gS:FnOk P w K mg base CX0 4 qc9o _ _ (spD K qb7c):=ok_some qb7m B qa1a gn
 have gP:FnOk P w K mg base CX0 4 qc4w _ _ (spD K qb8c):=qd5u qb4q B qa1a gn;have gW:FnOk P w K mg base CX0 5 qc4y _ _ (spD K qb8d):=qd5v qb4r B qa1a (gn.mono (by decide:3 <= 4)) qa4i gS qb0i gP;have hc:FnOk P w K mg base CX0 5 qc3t _ _ (spD K qb5w):=qd2f qb3u B qa1a (gn.mono (by decide:3 <= 4)) qa4i gS;have hf:FnOk P w K mg base CX0 4 qc9q _ _ (spD K qc2u):=ok_flip qb7n B;have hs:FnOk P w K mg base CX0 4 qc3r _ _ (spD K spLS):=qc9d qb3t B;have hd:FnOk P w K mg base CX0 5 qb9q _ _ (spD K spChd):=qc4r qb2l B qa8p hf qa9x hs;have hA:∀ m:Nat,FnOk P w K mg base CX0 (5 + m) qc5a _ _ (spD K (spAl m)):=fun m=>by
  induction m with
  | zero=>exact sp_none fun ls Q h=>by obtain⟨x,_,h,_⟩:=h;cases x<;>exact h.elim
  | succ m ih=>exact qd6i qb4s B qa3o ih
 have g1:FnOk P w K mg base CX0 1 f_is_whole _ _ (spD K qb4f):=qd6a F_is_whole B;have g2:FnOk P w K mg base CX0 1 f_is_name _ _ (spD K qb2d):=qc9a F_is_name B m_LONGEST_NAME;have g3:FnOk P w K mg base CX0 2 f_are_rising_names _ _ (spD K qc2v):=ok_rise F_are_rising_names B d_is_name g2;have g4:FnOk P w K mg base CX0 2 f_is_points _ _ (spD K qa8z):=qc2x F_is_points B d_is_whole g1;have g5:FnOk P w K mg base CX0 2 f_are_points _ _ (spD K qb5q):=qb9m F_are_points B d_is_whole g1;have g6:=qd6b F_is_named B d_are_rising_names g3;have g7:FnOk P w K mg base CX0 3 f_is_parts _ _ (spD K qb3m):=qc4m F_is_parts B d_is_points g4;have g8:FnOk P w K mg base CX0 4 f_is_facts _ _ (spD K qb3n):=qc4o F_is_facts B d_is_named g6 d_is_points (g4.mono (by decide:2 <= 3));have g9:FnOk P w K mg base CX0 4 f_is_sights _ _ (spD K qb2e):=qc3c F_is_sights B d_is_named g6 d_is_parts g7;have g10:FnOk P w K mg base CX0 5 f_is_world _ _ (spD K qb3o):=qc4p F_is_world B d_is_points (g4.mono (by decide:2 <= 4)) d_is_facts g8 d_is_sights g9;have g11:FnOk P w K mg base CX0 4 f_many_points _ _ (spD K qc2t):=ok_many F_many_points B;have g12:FnOk P w K mg base CX0 4 f_points_of _ _ (spD K qb5p):=qd1z F_points_of B;have g13:FnOk P w K mg base CX0 4 f_toggled _ _ (spD K spTog):=ok_tog F_toggled B;have g14:FnOk P w K mg base CX0 4 f_with_pair _ _ (spD K qc2m):=ok_with F_with_pair B;have g15:FnOk P w K mg base CX0 3 f_cut_parts _ _ (spD K qc2o):=qc2p F_cut_parts B;have g16:FnOk P w K mg base CX0 4 f_cut _ _ (spD K spCut):=ok_cut F_cut B d_cut_parts g15;have g17:FnOk P w K mg base CX0 3 f_marks_of _ _ (spD K qb8h):=qd6d F_marks_of B;have g18:FnOk P w K mg base CX0 3 f_parts_by _ _ (spD K qb3q):=qc4q F_parts_by B;have g19:FnOk P w K mg base CX0 4 f_joined_parts _ _ (spD K qc3e):=qd2d F_joined_parts B d_marks_of g17 d_parts_by g18;have g20:FnOk P w K mg base CX0 4 f_is_change _ _ (spD K qc2w):=qc2z F_is_change B d_is_name (g2.mono (by decide:1 <= 3)) d_are_points (g5.mono (by decide:2 <= 3)) d_is_points (g4.mono (by decide:2 <= 3))
 have g21:FnOk P w K mg base CX0 5 f_changed _ _ (spD K spChd):=qc9b F_changed B d_many_points g11 d_is_change g20 d_points_of g12 d_toggled g13 d_with_pair g14 d_cut g16 d_joined_parts g19;exact ok_law F_law B qb0m (gW.mono (by decide:5 <= 39)) qa9z (hc.mono (by decide:5 <= 39)) qa7w (hd.mono (by decide:5 <= 39)) d_changed (g21.mono (by decide:5 <= 39)) qa3o ((hA 6).mono (by decide:5 + 6 <= 39)) d_is_world (g10.mono (by decide:5 <= 39))
end K45
namespace PySem.W.Fast
def tw12814039250298648684:=()
def tw12205853400803744222:=()
def tw14424192464478227217:=()
def tw2150728896025178259:=PySem.Challenge.pw_worldsay_k45_worlds_changed
theorem te2150728896025178259:PySem.Challenge.pw_worldsay_k45_worlds_changed=tw2150728896025178259:=rfl
def tw4324318727717411359:=()
def tw3502186147161332605:=()
def tw8169007602193579142:=()
def tw586655928274821650:=()
def tw16268276183016563071:=()
def tw607996235598007558:=()
def tw15678084305075675821:=()
def tw3489357712949460139:=()
def tw4917931963517289292:=()
def tw1304117274455174860:=()
def tw6283247818109382567:=()
def tw2178865666314624804:=()
def tw10241641630803272999:=()
def tw5131914731254668699:=()
def tw12309618444363550877:=()
def tw11615327289575978752:=()
def tw1744232693999027708:=()
def tw14762008577865731233:=()
def tw5294157820552337505:=()
def tw16354564774945354488:=()
def tw13622645671538458054:=()
def tw17909179010150412056:=()
def tw14397334424974640272:=()
def tw6182405017032761718:=()
def tw7407104113834401016:=()
def tw4168516401744800993:=()
end PySem.W.Fast
open PySem PySem.W PyProof.Rows
set_option maxRecDepth 100000 in
set_option maxHeartbeats 0 in
theorem PySem.Challenge.cw_worldsay_k45_worlds_changed_holds : PySem.Challenge.rw_worldsay_k45_worlds_changed.Holds := by
 w_on;o_law;k_head;(case hw=>w_witness2)
 k_fill
 refine L2.walk_of (l:=PySem.Challenge.rw_worldsay_k45_worlds_changed) (n:=63) (k:=40) (x:="_law_script") (CX:=fun _=>L2.CX0) (sp:=fun w=>L2.spLaw (_:PySem.W.Frag)) rfl (by decide) rfl ⟨rfl,by decide,by decide,rfl⟩ (fun w h Y=>PySem.W.kIn_of Y) ?F (fun w H a ns hl hO hS=>⟨a,ns,rfl,hS,hO,hl,fun _=>rfl⟩) (fun _ _ _ _ _ z=>z)
 case F =>
  intro w mg fa h KX G hmg
  refine' K45.all_mk KX G hmg ?h_is_whole ?h_is_name ?h_are_rising_names ?h_is_world ?h_is_points ?h_is_parts ?h_is_named ?h_is_facts ?h_is_sights ?h_many_points ?h_points_of ?h_marks_of ?h_parts_by ?h_cut ?h_cut_parts ?h_changed ?h_is_change ?h_are_points ?h_toggled ?h_with_pair ?h_joined_parts ?h_law_cell_at ?h_law_by ?h_law_next ?h_law_some ?h_law_parts ?h_law_world ?h_law_alike ?h_law_flip ?h_law_sights ?h_law_changed ?h_law_change ?a_law ?l_law ?c_law ?k_law ?z_len ?z_range ?z_tuple ?z_bool ?z_isinstance ?z_reversed ?z_max ?z_zip ?z_list ?z_str ?z_enumerate ?z_dict ?z_sum ?z_int ?z_min ?z_sorted ?z_all ?z_set ?z_repr ?a_LONGEST_NAME
  (case h_is_whole=>refine' K45.qa5n ?h_is_wholea ?h_is_wholel ?h_is_wholec ?h_is_wholek rfl (fun _ _ _ _ _ _ _  => rfl);(case h_is_wholea=>k_is);(case h_is_wholel=>k_is);(case h_is_wholec=>k_is);(case h_is_wholek=>k_is))
  (case h_is_name=>refine' K45.qa5n ?h_is_namea ?h_is_namel ?h_is_namec ?h_is_namek rfl (fun _ _ _ _ _ _ _  => rfl);(case h_is_namea=>k_is);(case h_is_namel=>k_is);(case h_is_namec=>k_is);(case h_is_namek=>k_is))
  (case h_are_rising_names=>refine' K45.qa5n ?h_are_rising_namesa ?h_are_rising_namesl ?h_are_rising_namesc ?h_are_rising_namesk rfl (fun _ _ _ _ _ _ _  => rfl);(case h_are_rising_namesa=>k_is);(case h_are_rising_namesl=>k_is);(case h_are_rising_namesc=>k_is);(case h_are_rising_namesk=>k_is))
  (case h_is_world=>refine' K45.qa5n ?h_is_worlda ?h_is_worldl ?h_is_worldc ?h_is_worldk rfl (fun _ _ _ _ _ _ _  => rfl);(case h_is_worlda=>k_is);(case h_is_worldl=>k_is);(case h_is_worldc=>k_is);(case h_is_worldk=>k_is))
  (case h_is_points=>refine' K45.qa1u ?h_is_pointsa ?h_is_pointsl ?h_is_pointsc ?h_is_pointsk rfl (fun _ _ _ _ _ _ _ _  => rfl);(case h_is_pointsa=>k_is);(case h_is_pointsl=>k_is);(case h_is_pointsc=>k_is);(case h_is_pointsk=>k_is))
  (case h_is_parts=>refine' K45.qa1u ?h_is_partsa ?h_is_partsl ?h_is_partsc ?h_is_partsk rfl (fun _ _ _ _ _ _ _ _  => rfl);(case h_is_partsa=>k_is);(case h_is_partsl=>k_is);(case h_is_partsc=>k_is);(case h_is_partsk=>k_is))
  (case h_is_named=>refine' K45.qa5n ?h_is_nameda ?h_is_namedl ?h_is_namedc ?h_is_namedk rfl (fun _ _ _ _ _ _ _  => rfl);(case h_is_nameda=>k_is);(case h_is_namedl=>k_is);(case h_is_namedc=>k_is);(case h_is_namedk=>k_is))
  (case h_is_facts=>refine' K45.qa1u ?h_is_factsa ?h_is_factsl ?h_is_factsc ?h_is_factsk rfl (fun _ _ _ _ _ _ _ _  => rfl);(case h_is_factsa=>k_is);(case h_is_factsl=>k_is);(case h_is_factsc=>k_is);(case h_is_factsk=>k_is))
  (case h_is_sights=>refine' K45.qa1u ?h_is_sightsa ?h_is_sightsl ?h_is_sightsc ?h_is_sightsk rfl (fun _ _ _ _ _ _ _ _  => rfl);(case h_is_sightsa=>k_is);(case h_is_sightsl=>k_is);(case h_is_sightsc=>k_is);(case h_is_sightsk=>k_is))
  (case h_many_points=>refine' K45.qa5n ?h_many_pointsa ?h_many_pointsl ?h_many_pointsc ?h_many_pointsk rfl (fun _ _ _ _ _ _ _  => rfl);(case h_many_pointsa=>k_is);(case h_many_pointsl=>k_is);(case h_many_pointsc=>k_is);(case h_many_pointsk=>k_is))
  (case h_points_of=>refine' K45.qa1u ?h_points_ofa ?h_points_ofl ?h_points_ofc ?h_points_ofk rfl (fun _ _ _ _ _ _ _ _  => rfl);(case h_points_ofa=>k_is);(case h_points_ofl=>k_is);(case h_points_ofc=>k_is);(case h_points_ofk=>k_is))
  (case h_marks_of=>refine' K45.qa1u ?h_marks_ofa ?h_marks_ofl ?h_marks_ofc ?h_marks_ofk rfl (fun _ _ _ _ _ _ _ _  => rfl);(case h_marks_ofa=>k_is);(case h_marks_ofl=>k_is);(case h_marks_ofc=>k_is);(case h_marks_ofk=>k_is))
  (case h_parts_by=>refine' K45.qa5n ?h_parts_bya ?h_parts_byl ?h_parts_byc ?h_parts_byk rfl (fun _ _ _ _ _ _ _  => rfl);(case h_parts_bya=>k_is);(case h_parts_byl=>k_is);(case h_parts_byc=>k_is);(case h_parts_byk=>k_is))
  (case h_cut=>refine' K45.qb0a ?h_cuta ?h_cutl ?h_cutc ?h_cutk rfl (fun _ _ _ _ _ _ _ _ _  => rfl);(case h_cuta=>k_is);(case h_cutl=>k_is);(case h_cutc=>k_is);(case h_cutk=>k_is))
  (case h_cut_parts=>refine' K45.qa1u ?h_cut_partsa ?h_cut_partsl ?h_cut_partsc ?h_cut_partsk rfl (fun _ _ _ _ _ _ _ _  => rfl);(case h_cut_partsa=>k_is);(case h_cut_partsl=>k_is);(case h_cut_partsc=>k_is);(case h_cut_partsk=>k_is))
  (case h_changed=>refine' K45.qa1u ?h_changeda ?h_changedl ?h_changedc ?h_changedk rfl (fun _ _ _ _ _ _ _ _  => rfl);(case h_changeda=>k_is);(case h_changedl=>k_is);(case h_changedc=>k_is);(case h_changedk=>k_is))
  (case h_is_change=>refine' K45.qa1u ?h_is_changea ?h_is_changel ?h_is_changec ?h_is_changek rfl (fun _ _ _ _ _ _ _ _  => rfl);(case h_is_changea=>k_is);(case h_is_changel=>k_is);(case h_is_changec=>k_is);(case h_is_changek=>k_is))
  (case h_are_points=>refine' K45.qa1u ?h_are_pointsa ?h_are_pointsl ?h_are_pointsc ?h_are_pointsk rfl (fun _ _ _ _ _ _ _ _  => rfl);(case h_are_pointsa=>k_is);(case h_are_pointsl=>k_is);(case h_are_pointsc=>k_is);(case h_are_pointsk=>k_is))
  (case h_toggled=>refine' K45.qa1u ?h_toggleda ?h_toggledl ?h_toggledc ?h_toggledk rfl (fun _ _ _ _ _ _ _ _  => rfl);(case h_toggleda=>k_is);(case h_toggledl=>k_is);(case h_toggledc=>k_is);(case h_toggledk=>k_is))
  (case h_with_pair=>refine' K45.qb0a ?h_with_paira ?h_with_pairl ?h_with_pairc ?h_with_pairk rfl (fun _ _ _ _ _ _ _ _ _  => rfl);(case h_with_paira=>k_is);(case h_with_pairl=>k_is);(case h_with_pairc=>k_is);(case h_with_pairk=>k_is))
  (case h_joined_parts=>refine' K45.qb0a ?h_joined_partsa ?h_joined_partsl ?h_joined_partsc ?h_joined_partsk rfl (fun _ _ _ _ _ _ _ _ _  => rfl);(case h_joined_partsa=>k_is);(case h_joined_partsl=>k_is);(case h_joined_partsc=>k_is);(case h_joined_partsk=>k_is))
  (case h_law_cell_at=>refine' K45.qa1u ?h_law_cell_ata ?h_law_cell_atl ?h_law_cell_atc ?h_law_cell_atk rfl (fun _ _ _ _ _ _ _ _  => rfl);(case h_law_cell_ata=>k_is);(case h_law_cell_atl=>k_is);(case h_law_cell_atc=>k_is);(case h_law_cell_atk=>k_is))
  (case h_law_by=>refine' K45.qb0a ?h_law_bya ?h_law_byl ?h_law_byc ?h_law_byk rfl (fun _ _ _ _ _ _ _ _ _  => rfl);(case h_law_bya=>k_is);(case h_law_byl=>k_is);(case h_law_byc=>k_is);(case h_law_byk=>k_is))
  (case h_law_next=>refine' K45.qa1u ?h_law_nexta ?h_law_nextl ?h_law_nextc ?h_law_nextk rfl (fun _ _ _ _ _ _ _ _  => rfl);(case h_law_nexta=>k_is);(case h_law_nextl=>k_is);(case h_law_nextc=>k_is);(case h_law_nextk=>k_is))
  (case h_law_some=>refine' K45.qb0a ?h_law_somea ?h_law_somel ?h_law_somec ?h_law_somek rfl (fun _ _ _ _ _ _ _ _ _  => rfl);(case h_law_somea=>k_is);(case h_law_somel=>k_is);(case h_law_somec=>k_is);(case h_law_somek=>k_is))
  (case h_law_parts=>refine' K45.qa1u ?h_law_partsa ?h_law_partsl ?h_law_partsc ?h_law_partsk rfl (fun _ _ _ _ _ _ _ _  => rfl);(case h_law_partsa=>k_is);(case h_law_partsl=>k_is);(case h_law_partsc=>k_is);(case h_law_partsk=>k_is))
  (case h_law_world=>refine' K45.qa1u ?h_law_worlda ?h_law_worldl ?h_law_worldc ?h_law_worldk rfl (fun _ _ _ _ _ _ _ _  => rfl);(case h_law_worlda=>k_is);(case h_law_worldl=>k_is);(case h_law_worldc=>k_is);(case h_law_worldk=>k_is))
  (case h_law_alike=>refine' K45.qa1u ?h_law_alikea ?h_law_alikel ?h_law_alikec ?h_law_alikek rfl (fun _ _ _ _ _ _ _ _  => rfl);(case h_law_alikea=>k_is);(case h_law_alikel=>k_is);(case h_law_alikec=>k_is);(case h_law_alikek=>k_is))
  (case h_law_flip=>refine' K45.qa1u ?h_law_flipa ?h_law_flipl ?h_law_flipc ?h_law_flipk rfl (fun _ _ _ _ _ _ _ _  => rfl);(case h_law_flipa=>k_is);(case h_law_flipl=>k_is);(case h_law_flipc=>k_is);(case h_law_flipk=>k_is))
  (case h_law_sights=>refine' K45.qa1u ?h_law_sightsa ?h_law_sightsl ?h_law_sightsc ?h_law_sightsk rfl (fun _ _ _ _ _ _ _ _  => rfl);(case h_law_sightsa=>k_is);(case h_law_sightsl=>k_is);(case h_law_sightsc=>k_is);(case h_law_sightsk=>k_is))
  (case h_law_changed=>refine' K45.qa1u ?h_law_changeda ?h_law_changedl ?h_law_changedc ?h_law_changedk rfl (fun _ _ _ _ _ _ _ _  => rfl);(case h_law_changeda=>k_is);(case h_law_changedl=>k_is);(case h_law_changedc=>k_is);(case h_law_changedk=>k_is))
  (case h_law_change=>refine' K45.qa1u ?h_law_changea ?h_law_changel ?h_law_changec ?h_law_changek rfl (fun _ _ _ _ _ _ _ _  => rfl);(case h_law_changea=>k_is);(case h_law_changel=>k_is);(case h_law_changec=>k_is);(case h_law_changek=>k_is))
  (case a_law=>k_is)
  (case l_law=>k_is)
  (case c_law=>k_is)
  (case k_law=>k_is)
  (case z_len=>k_is)
  (case z_range=>k_is)
  (case z_tuple=>k_is)
  (case z_bool=>k_is)
  (case z_isinstance=>k_is)
  (case z_reversed=>k_is)
  (case z_max=>k_is)
  (case z_zip=>k_is)
  (case z_list=>k_is)
  (case z_str=>k_is)
  (case z_enumerate=>k_is)
  (case z_dict=>k_is)
  (case z_sum=>k_is)
  (case z_int=>k_is)
  (case z_min=>k_is)
  (case z_sorted=>k_is)
  (case z_all=>k_is)
  (case z_set=>k_is)
  (case z_repr=>k_is)
  (case a_LONGEST_NAME=>k_is)
end
end
