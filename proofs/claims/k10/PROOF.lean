import PyProof.Rows.All
import Wide.All
import OpenK.AllK
import Wide.FinOn
import Lean
import PyProof.EqAt
import PyProof.EqKinds
import PyProof.TupleCall
import PyProof.SetKind
import PyProof.SetNew
import PyProof.SetRoads
import PyProof.CollectIter
import PyProof.WalksMore
import PyProof.MakeMany
import PyProof.ZipIter
import PyProof.EnumMake
import PyProof.EnumFor
import KE.KDictOf
import KE.KEqDict
import PyProof.Rows.SortWalk
import PyProof.Rows.SortStr
import PyProof.ConsumeWalk
import KE.KItemsList
import PyProof.StrCalls
import PyProof.StrCaseBound
import PyProof.SetScanFacts
import KE.KSortTup
import PyProof.Rows.SortShellK
import PyProof.ReprRoads
import PyProof.ReprLen
import PyProof.CallFns
import KE.KIntText
import PyProof.Rows.StrWeight2
import PyProof.Rows.StrSplitAre
import PyProof.Rows.StrKeys3
import PyProof.ListRange
import PyProof.StrWalks
import PyProof.StrBlockI
import PyProof.SliceStr2
import PyProof.StrLawsIn
import OpenK.KOwn
import PyProof.NsDelKeeps
import KE.KIsAll
import PyProof.ExcArgsOwn
import PyProof.Ascii
import PyProof.P3Eq
import PyProof.TupleKey
import KE.KDictList
import PyProof.FactsAll.set
import PySem.Challenge.RW_worldsay_k10_sentences_written_and_read
open List (all_cons all_eq_true append_assoc append_eq_nil_iff append_nil cons_append cons_ne_nil drop_zero eq_nil_of_length_eq_zero find?_cons forIn_nil getElem?_append_left getElem?_append_right getElem?_eq_getElem getElem?_map getElem?_set_ne getElem?_set_self length_append length_cons length_map length_replicate length_reverse length_set length_singleton length_take lookup_cons map_append map_cons map_nil map_reverse mem_append mem_append_left mem_append_right mem_cons mem_cons_of_mem mem_cons_self mem_filterMap mem_map mem_of_getElem? mem_singleton nodup_cons not_mem_nil of_mem_zip size_toArray sum_append take_add_one take_length)
open PySem.Heap (get?_push_of_some get?_push_size lt_size size_push)
open Option (map_eq_some_iff map_some)
open Bool (and_eq_true)
open Array (toList_append toList_inj)
open Nat (le_add_right le_of_lt le_succ lt_irrefl lt_of_lt_of_le ne_of_gt ne_of_lt succ_le_succ zero_le)
open Int (emod_nonneg)
set_option Elab.async false
set_option linter.all false
set_option maxRecDepth 100000
set_option maxHeartbeats 4000000
noncomputable section
section
namespace L2
open PySem PySem.Spec PyProof.Rows
abbrev Key:=Sum Int Str
noncomputable def a9d:Key->Value->Bool
 | .inl k,v=>Value.isInt k v
 | .inr x,v=>Value.isStrOf x v
noncomputable def keyH(w:World):Key->Int
 | .inl k=>hashInt k
 | .inr x=>hashStr w x
theorem a2d:∀ {k:Key} {v:Value},a9d k v=true->(∃ i t,k=Sum.inl i/\v=Value.int i t) ∨ (∃ x t,k=Sum.inr x/\v=Value.str x t)
 | .inl i,v,h=>by
  obtain⟨t,e⟩:=Value.isInt_shape (k:=i) (v:=v) h
  exact .inl ⟨i,t,rfl,e⟩
 | .inr x,v,h=>by
  obtain⟨t,e⟩:=Value.isStrOf_shape (x:=x) (v:=v) h
  exact .inr ⟨x,t,rfl,e⟩
theorem c6e(i:Int)(t:Tok):a9d (.inl i) (.int i t)=true:=by simp [a9d,Value.isInt]
theorem c6f(x:Str)(t:Tok):a9d (.inr x) (.str x t)=true:=by simp [a9d,Value.isStrOf]
theorem d8u(a b:Int):decide ((Sum.inl a:Key)=Sum.inl b)=(a == b):=by
 by_cases e:a=b
 ·subst e;simp
 ·have h:¬ (Sum.inl a:Key)=Sum.inl b:=fun q=>e (Sum.inl.inj q)
  rw [decide_eq_false h]
  exact(beq_eq_false_iff_ne.mpr e).symm
theorem d8v(a b:Str):decide ((Sum.inr a:Key)=Sum.inr b)=decide (a=b):=by
 by_cases e:a=b
 ·subst e;simp
 ·have h:¬ (Sum.inr a:Key)=Sum.inr b:=fun q=>e (Sum.inr.inj q)
  rw [decide_eq_false h,decide_eq_false e]
theorem d8w(a:Int)(b:Str):decide ((Sum.inl a:Key)=Sum.inr b)=false:=decide_eq_false (fun q=>nomatch q)
theorem d8x(a:Str)(b:Int):decide ((Sum.inr a:Key)=Sum.inl b)=false:=decide_eq_false (fun q=>nomatch q)
noncomputable def a2k(prog:Program)(w:World):PySem.KeyKind prog w Key where
 is:=a9d
 hash:=keyH w
 inj:=fun v a b ha hb=>by
  rcases a2d ha with⟨i,t,rfl,rfl⟩ | ⟨x,t,rfl,rfl⟩
  ·rcases a2d hb with⟨j,u,rfl,e⟩ | ⟨y,u,rfl,e⟩
   ·injection e with e1 _;rw [e1]
   ·exact nomatch e
  ·rcases a2d hb with⟨j,u,rfl,e⟩ | ⟨y,u,rfl,e⟩
   ·exact nomatch e
   ·injection e with e1 _;rw [e1]
 byValue:=fun k v h=>by
  rcases a2d h with⟨i,t,rfl,rfl⟩ | ⟨x,t,rfl,rfl⟩<;>rfl
 pyHash:=fun hv h=>by
  rcases a2d hv with⟨i,t,rfl,rfl⟩ | ⟨x,t,rfl,rfl⟩
  ·exact wpAny_pyHash_int h
  ·exact wpAny_pyHash_str h
 eqBool:=fun hu hv h=>by
  rcases a2d hu with⟨i,t,rfl,rfl⟩ | ⟨x,t,rfl,rfl⟩
  ·rcases a2d hv with⟨j,u,rfl,rfl⟩ | ⟨y,u,rfl,rfl⟩
   ·rw [d8u] at h;exact wpAny_eqBool_int h
   ·rw [d8w] at h;exact SeqAt.EqAt.int_str i t y u _ _ _ _ h
  ·rcases a2d hv with⟨j,u,rfl,rfl⟩ | ⟨y,u,rfl,rfl⟩
   ·rw [d8x] at h;exact SeqAt.EqAt.str_int x t j u _ _ _ _ h
   ·rw [d8v] at h;exact wpAny_eqBool_str h
 «strs»:=fun k x t v h=>by
  rcases a2d h with⟨i,u,rfl,e⟩ | ⟨y,u,rfl,e⟩
  ·exact nomatch e
  ·injection e with e1 _
   subst e1
   cases v<;>rfl
theorem c1e(prog:Program)(w:World)(i:Int)(t:Tok):(a2k prog w).is (.inl i) (.int i t)=true:=c6e i t
theorem a9l(prog:Program)(w:World)(x:Str)(t:Tok):(a2k prog w).is (.inr x) (.str x t)=true:=c6f x t
end L2
namespace L2
open PySem PySem.Spec PyProof.Rows
inductive V where
 | non | bl (b:Bool) | int (i:Int) | str (x:Str) | byt (b:Array UInt8) | flt (b:UInt64) | ref (a:Addr) | ty (n:String)
 deriving DecidableEq
noncomputable def RelV:V->Value->Prop
 | .non,u=>u=Value.none
 | .bl b,u=>u=Value.bool b
 | .int i,u=>∃ t,u=Value.int i t
 | .str x,u=>∃ t,u=Value.str x t
 | .byt b,u=>∃ t,u=Value.bytes b t
 | .flt b,u=>∃ t,u=Value.float b t
 | .ref a,u=>u=Value.ref a
 | .ty n,u=>u=Value.type n
abbrev Vals:List V->List Value->Prop:=Paired RelV
theorem Vals.length{xs:List V}{us:List Value}(r:Vals xs us):xs.length=us.length:=Paired.length r
theorem Vals.get:∀ {xs:List V} {us:List Value} {i:Nat} {x:V},Vals xs us->xs[i]? = some x->∃ u,us[i]? = some u/\RelV x u
 | _,_,_,_,.nil,e=>by simp at e
 | _,_,0,_,.cons r _,e=>by simp at e;subst e;exact⟨_,rfl,r⟩
 | _,_,i + 1,x,.cons _ t,e=>by
  obtain⟨u,h1,h2⟩:=Vals.get (i:=i) (x:=x) t (by simpa using e)
  exact⟨u,by simpa using h1,h2⟩
theorem Vals.set{x:V}{u:Value}(r:RelV x u):∀ {xs:List V} {us:List Value} (i:Nat),Vals xs us->Vals (xs.set i x) (us.set i u)
 | _,_,_,.nil=>.nil
 | _,_,0,.cons _ t=>.cons r t
 | _,_,i + 1,.cons q t=>.cons q (Vals.set r i t)
theorem Vals.append:∀ {xs ys:List V} {us ws:List Value},Vals xs us->Vals ys ws->Vals (xs ++ ys) (us ++ ws)
 | _,_,_,_,.nil,s=>s
 | _,_,_,_,.cons r t,s=>.cons r (Vals.append t s)
theorem Vals.take:∀ {xs:List V} {us:List Value} (n:Nat),Vals xs us->Vals (xs.take n) (us.take n)
 | _,_,0,_=>.nil
 | _,_,_ + 1,.nil=>.nil
 | _,_,n + 1,.cons r t=>.cons r (Vals.take n t)
theorem Vals.drop:∀ {xs:List V} {us:List Value} (n:Nat),Vals xs us->Vals (xs.drop n) (us.drop n)
 | _,_,0,r=>r
 | _,_,_ + 1,.nil=>.nil
 | _,_,n + 1,.cons _ t=>Vals.drop n t
noncomputable def RelO:Option V->Option Value->Prop
 | some v,some u=>RelV v u
 | none,none=>True
 | _,_=>False
noncomputable def KV{κ:Type}:List (κ × V)->List (κ × Value)->Prop:=Paired fun(p:κ × V) (q:κ × Value)=>p.1=q.1/\RelV p.2 q.2
noncomputable def kV:Key->V
 | .inl i=>.int i
 | .inr x=>.str x
inductive HO where
 /-- a list -/
 | lst (xs:List V)
 /-- a tuple (never changes) -/
 | tup (xs:List V)
 /-- a dict whose keys are ints and texts; one whose keys are tuples of ints and texts (the empty one is both) -/
 | dK (kvs:List (Key × V)) | dT (kvs:List (List Key × V))
 /-- a set of ints: its members, its size -/
 | set (S:Int->Bool) (n:Nat)
 /-- an instance of the class at C, its dict at dx, its attributes -/
 | ins (C dx:Addr) (fs:List (Str × V))
 /-- the dict of the instance at x -/
 | own (x:Addr)
 /-- the dict of an exception -/
 | xd (fs:List (Str × V))
 /-- a bound method, f of x -/
 | met (f x:Addr)
 /-- a range object lo, lo + 1, .. below hi -/
 | rng (lo hi:Int)
 /-- a thing that is known to the object (the script; a dict while a loop walks it): read, never written while it is so -/
 | frz (o:Obj) (u:HO)
 /-- a code object's table -/
 | tbl (ps:Array Value)
 /-- any other thing, by what is true of its one object (a def of one's own: SetO a S n := HO.ext fun h => ..) -/
 | ext (φ:Heap->Prop)
abbrev Hp:=Addr->Option HO
noncomputable def upd(H:Hp)(a:Addr)(o:HO):Hp:=fun b=>if b=a then some o else H b
theorem a0j{H:Hp}{a:Addr}{o:HO}:upd H a o a=some o:=by unfold upd;rw [if_pos rfl]
theorem a0f{H:Hp}{a b:Addr}{o:HO}(h:b ≠ a):upd H a o b=H b:=by unfold upd;rw [if_neg h]
theorem b7r{H:Hp}{a b:Addr}{o u:HO}(h:H a=some o)(h':H b=some u)(d:o ≠ u):a ≠ b:=by
 intro e;subst e;rw [h] at h';exact d (Option.some.inj h')
theorem a1s{H:Hp}{a b:Addr}{o:HO}(h:H a=some o)(h':H b=none):a ≠ b:=by
 intro e;subst e;rw [h] at h';cases h'
def a5f(h:Heap)(a:Addr)(items:Array Value):Prop:=∃ o,h.get? a=some o/\(o.cls=.type "tuple" /\ o.dict=none)/\∃ n,o.data=.seq items n
theorem a5f.tup{h:Heap}{a:Addr}{items:Array Value}(x:a5f h a items):IsTup h a items:=by obtain⟨o,e,c,n,d⟩:=x;exact⟨o,e,c.1,n,d⟩
theorem a5f.new(h:Heap)(xs:Array Value):a5f (h.push { cls:=.type "tuple",data:=.seq xs }) h.objs.size xs:=⟨_,get?_push_size _ rfl,⟨rfl,rfl⟩,_,rfl⟩
def TabOk(H:Hp)(h:Heap)(a:Addr)(ps qs:Array Value):Prop:=h.get? a=some { cls:=.none,data:=.fields qs }/\TriplesOk qs.toList /\
 ∀ pos v,codeAmong pos qs.toList=some v->∃ c oc vs q t t',v=.ref c/\ps = #[.str q t]/\H c=some (.frz oc (.own c))/\oc.data=.fields vs/\vs[1]? = some (.str q t')
section
variable(P:Program)(w:World)
noncomputable def a1z(H:Hp)(h:Heap)(a:Addr):HO->Prop
 | .lst xs=>xs.length <= sizeLine/\∃ (its:List Value) (n:Nat),Vals xs its/\h.get? a=some { cls:=.type "list",data:=.seq its.toArray n }
 | .tup xs=>xs.length <= sizeLine/\∃ its:List Value,Vals xs its/\a5f h a its.toArray
 | .dK kvs=>kvs.length <= sizeLine/\(a == sysModules)=false/\∃ vs,KV kvs vs/\h.DictOf (a2k P w) a vs
 | .dT kvs=>kvs.length <= sizeLine/\(a == sysModules)=false/\∃ xs:List (List Key × Addr × Value),
   Paired (fun(p:List Key × V) (q:List Key × Addr × Value)=>p.1=q.1/\H q.2.1=some (.tup (p.1.map kV))/\RelV p.2 q.2.2) kvs xs /\
   ∃ o es ep,h.get? a=some o/\o.ExactDict/\o.data=.dict es ep/\es.toList=xs.map (entryOfKey (tupleKind (a2k P w)))/\(xs.map (·.1)).Nodup
 | .set S n=>h.SetOf (intKind P w) a S n
 | .ins C dx fs=>H dx=some (.own a)/\fs.length <= 1000/\dx ≠ a/\h.get? a=some (PySem.W.instObj C dx) /\
   ∃ mA,h.Ns1 dx mA/\(∀ f,RelO (fs.lookup f) (mA f))/\PySem.Within mA (fs.map (·.1))
 | .own _=>∃ o,h.get? a=some o
 | .xd fs=>∃ mA,h.Ns1 a mA/\∀ f,RelO (fs.lookup f) (mA f)
 | .rng lo hi=>∃ t u v,h.get? a=some { cls:=.type "range",data:=.fields #[.int lo t,.int hi u,.int 1 v] }
 | .frz o u=>(match u with
   | .tbl ps=>∃ qs:Array Value,TabOk H h a ps qs
   | _=>h.get? a=some o)/\a1z H h a u
 | .tbl ps=>∃ o,h.get? a=some o
 | .met f x=>h.get? a=some (PySem.W.methodObj (.ref f) (.ref x))
 | .ext φ=>φ h/\(∃ o,h.get? a=some o)/\∀ h1 h2:Heap,φ h1->(∀ o,h1.get? a=some o->h2.get? a=some o)->φ h2
def HOk(H:Hp)(h:Heap):Prop:=∀ a o,H a=some o->a1z P w H h a o
end
section
variable{P:Program}{w:World}{H H':Hp}{h h':Heap}{a:Addr}{o:HO}
theorem a1z.lt(x:a1z P w H h a o):a < h.objs.size:=by
 cases o with
 | lst xs=>obtain⟨_,_,_,_,e⟩:=x;exact lt_size e
 | tup xs=>obtain⟨_,_,_,p⟩:=x;exact p.tup.lt
 | dK kvs=>obtain⟨_,_,_,_,o,_,_,e,_⟩:=x;exact lt_size e
 | dT kvs=>obtain⟨_,_,_,_,o,_,_,e,_⟩:=x;exact lt_size e
 | set S n=>obtain⟨o,_,_,_,e,_⟩:=x;exact lt_size e
 | ins C dx fs=>obtain⟨_,_,_,e,_⟩:=x;exact lt_size e
 | own y=>obtain⟨_,e⟩:=x;exact lt_size e
 | xd fs=>obtain⟨_,⟨_,_,_,e,_⟩,_⟩:=x;exact lt_size e
 | rng lo hi=>obtain⟨_,_,_,e⟩:=x;exact lt_size e
 | frz ob u =>
  obtain⟨e,_⟩:=x
  cases u with
  | tbl ps=>obtain⟨_,e,_⟩:=e;exact lt_size e
  | _=>exact lt_size (show h.get? a=some _ from e)
 | tbl ps=>obtain⟨_,e⟩:=x;exact lt_size e
 | met f y=>exact lt_size (show h.get? a=some _ from x)
 | ext φ=>obtain⟨_,⟨_,e⟩,_⟩:=x;exact lt_size e
theorem Paired.mapP{α β:Type}{F G:α->β->Prop}:∀ {l₁:List α} {l₂:List β},Paired F l₁ l₂->(∀ a b,F a b->G a b)->Paired G l₁ l₂
 | _,_,.nil,_=>.nil
 | _,_,.cons r t,f=>.cons (f _ _ r) (Paired.mapP t f)
theorem Paired.imp'{α β:Type}{F G:α->β->Prop}(f:∀ a b,F a b->G a b){l₁:List α}{l₂:List β}(r:Paired F l₁ l₂):Paired G l₁ l₂:=Paired.mapP r f
theorem a1z.stay(x:a1z P w H h a o)(k:∀ b u,(b=a ∨ H b=some (.own a))->h.get? b=some u->h'.get? b=some u)
  (ho:∀ b,H b=some (.own a)->H' b=some (.own a)) (ht:∀ b xs,H b=some (.tup xs)->H' b=some (.tup xs)) (hf:∀ b ob u,H b=some (.frz ob u)->H' b=some (.frz ob u)):a1z P w H' h' a o:=by
 induction o with
 | lst xs=>obtain⟨z,its,n,r,e⟩:=x;exact⟨z,its,n,r,k _ _ (.inl rfl) e⟩
 | tup xs=>obtain⟨z,its,r,ob,e,c⟩:=x;exact⟨z,its,r,ob,k _ _ (.inl rfl) e,c⟩
 | dK kvs=>obtain⟨z,y,vs,r,ob,es,ep,e,c⟩:=x;exact⟨z,y,vs,r,ob,es,ep,k _ _ (.inl rfl) e,c⟩
 | dT kvs =>
  obtain⟨z,y,xs,r,ob,es,ep,e,c⟩:=x
  exact⟨z,y,xs,Paired.mapP r fun p q z=>⟨z.1,ht _ _ z.2.1,z.2.2⟩,ob,es,ep,k _ _ (.inl rfl) e,c⟩
 | set S n=>obtain⟨ob,es,ep,t,e,c⟩:=x;exact⟨ob,es,ep,t,k _ _ (.inl rfl) e,c⟩
 | ins C dx fs =>
  obtain⟨d,z,ne,e,mA,⟨od,es,ep,e2,c⟩,r⟩:=x
  exact⟨ho _ d,z,ne,k _ _ (.inl rfl) e,mA,⟨od,es,ep,k _ _ (.inr d) e2,c⟩,r⟩
 | own y=>obtain⟨ob,e⟩:=x;exact⟨ob,k _ _ (.inl rfl) e⟩
 | xd fs=>obtain⟨mA,⟨od,es,ep,e,c⟩,r⟩:=x;exact⟨mA,⟨od,es,ep,k _ _ (.inl rfl) e,c⟩,r⟩
 | rng lo hi=>obtain⟨t,u,v,e⟩:=x;exact⟨t,u,v,k _ _ (.inl rfl) e⟩
 | frz ob u ih =>
  obtain⟨e,q⟩:=x
  refine⟨?_,ih q⟩
  cases u with
  | tbl ps =>
   obtain⟨qs,e1,e2,e3⟩:=e
   exact⟨qs,k _ _ (.inl rfl) e1,e2,fun pos v hv=>by obtain⟨c,oc,vs,q,t,t',h1,h2,h3,h4⟩:=e3 pos v hv;exact⟨c,oc,vs,q,t,t',h1,h2,hf _ _ _ h3,h4⟩⟩
  | _=>exact k _ _ (.inl rfl) e
 | tbl ps=>obtain⟨o,e⟩:=x;exact⟨o,k a _ (.inl rfl) e⟩
 | met f y =>
  have e:h.get? a=some (PySem.W.methodObj (.ref f) (.ref y)):=x
  show h'.get? a=some (PySem.W.methodObj (.ref f) (.ref y))
  exact k a _ (.inl rfl) e
 | ext φ=>obtain⟨p,⟨o,e⟩,st⟩:=x;exact⟨st _ _ p fun o q=>k _ _ (.inl rfl) q,⟨o,k _ _ (.inl rfl) e⟩,st⟩
theorem HOk.lt(x:HOk P w H h)(e:H a=some o):a < h.objs.size:=(x a o e).lt
theorem HOk.fresh(x:HOk P w H h)(e:h.objs.size <= a):H a=none:=by
 cases q:H a with
 | none=>rfl
 | some u=>exact absurd (lt_of_lt_of_le (x.lt q) e) (lt_irrefl _)
theorem HOk.kept(x:HOk P w H h)(k:∀ b u,h.get? b=some u->h'.get? b=some u):HOk P w H h':=fun a o e =>
 (x a o e).stay (fun b u _ q=>k b u q) (fun _ q=>q) (fun _ _ q=>q) fun _ _ _ q=>q
theorem HOk.laid(x:HOk P w H h)(k:∀ b u,h.get? b=some u->h'.get? b=some u)(hp:h.objs.size <= a)(new:a1z P w (upd H a o) h' a o):HOk P w (upd H a o) h':=fun b u e=>by
 have hn:=x.fresh hp
 by_cases hb:b=a
 ·subst hb;rw [a0j] at e;cases e;exact new
 ·rw [a0f hb] at e
  exact(x b u e).stay (fun c v _ q=>k c v q) (fun c q=>by rw [a0f (a1s q hn)];exact q) (fun c xs q=>by rw [a0f (a1s q hn)];exact q) fun c ob u q=>by rw [a0f (a1s q hn)];exact q
end
def Rd(H:Hp)(a:Addr)(u:HO):Prop:=H a=some u ∨ ∃ o,H a=some (.frz o u)
theorem Rd.ok{P:Program}{w:World}{H:Hp}{h:Heap}{a:Addr}{u:HO}(r:Rd H a u)(x:HOk P w H h):a1z P w H h a u:=by
 rcases r with r | ⟨o,r⟩
 ·exact x a u r
 ·obtain⟨_,q⟩:=x a _ r
  exact q
noncomputable def Mut:Option HO->Prop
 | some (.lst _)=>True
 | some (.dK _)=>True
 | some (.dT _)=>True
 | some (.set _ _)=>True
 | some (.ins _ _ _)=>True
 | some (.ext _)=>True
 | _=>False
section
variable{P:Program}{w:World}{H:Hp}{h h':Heap}{x e:Addr}{o':HO}
theorem HOk.write(ok:HOk P w H h)(mu:Mut (H x))(he:e=x ∨ H e=some (.own x))(k:∀ b u,b ≠ e->h.get? b=some u->h'.get? b=some u)(heo:∃ u,h'.get? e=some u)
  (new:a1z P w (upd H x o') h' x o'):HOk P w (upd H x o') h':=fun b u q=>by
 have nown:∀ c y,H c=some (.own y)->c ≠ x:=fun c y r z=>by subst z;rw [r] at mu;exact mu
 have ntup:∀ c xs,H c=some (.tup xs)->c ≠ x:=fun c xs r z=>by subst z;rw [r] at mu;exact mu
 by_cases hb:b=x
 ·subst hb;rw [a0j] at q;cases q;exact new
 ·rw [a0f hb] at q
  by_cases hbe:b=e
  ·have q':H b=some (.own x):=by
    rcases he with z | z
    ·exact absurd (hbe.trans z) hb
    ·rw [hbe];exact z
   rw [q] at q';cases q'
   obtain⟨v,hv⟩:=heo
   exact⟨v,by rw [hbe];exact hv⟩
  ·refine(ok b u q).stay (fun c v hc r=>k c v ?_ r) (fun c r=>by rw [a0f (nown c b r)];exact r) (fun c xs r=>by rw [a0f (ntup c xs r)];exact r) fun c ob u r=>by rw [a0f (fun z=>by subst z;rw [r] at mu;exact mu)];exact r
   rcases hc with rfl | hc
   ·exact hbe
   ·rintro rfl
    rcases he with z | z
    ·exact nown c b hc z
    ·rw [hc] at z;cases z;exact hb rfl
end
structure Un(fs ex:List Addr)(H H':Hp)(h h':Heap):Prop where
 keep:∀ b o,h.get? b=some o->H b=none->b ∉ fs->b ∉ ex->h'.get? b=some o
 slot:∀ b o,h.get? b=some o->H b=none->b ∈ fs->b ∉ ex->∃ sl,h'.get? b=some { o with slots:=sl }
 free:∀ b o,h.get? b=some o->H b=none->b ∉ ex->H' b=none
 there:∀ b o,h.get? b=some o->b ∉ ex->∃ o',h'.get? b=some o'
 tups:∀ b xs,H b=some (.tup xs)->H' b=some (.tup xs)
 frzs:∀ b o u,H b=some (.frz o u)->H' b=some (.frz o u)
 tbls:∀ b ps,H b=some (.tbl ps)->∃ more,H' b=some (.tbl (ps ++ more))
section
variable{fs fs' ex ex':List Addr}{H H1 H2:Hp}{h h1 h2 h':Heap}{a x e:Addr}{o:HO}
theorem Un.any(u:Un fs ex H H1 h h1){b:Addr}{ob:Obj}(q:h.get? b=some ob)(n:H b=none)(hx:b ∉ ex):∃ sl,h1.get? b=some { ob with slots:=sl }:=by
 by_cases hb:b ∈ fs
 ·exact u.slot b ob q n hb hx
 ·exact⟨ob.slots,u.keep b ob q n hb hx⟩
theorem Un.kept(k:∀ b u,h.get? b=some u->h'.get? b=some u):Un fs ex H H h h':=
 ⟨fun b ob q _ _ _=>k b ob q,fun b ob q _ _ _=>⟨ob.slots,k b ob q⟩,fun _ _ _ n _=>n,fun b ob q _=>⟨ob,k b ob q⟩,fun _ _ q=>q,fun _ _ _ q=>q,fun _ ps q=>⟨#[],by rw [q];simp⟩⟩
theorem Un.refl:Un fs ex H H h h:=Un.kept fun _ _ q=>q
theorem Un.laid(k:∀ b u,h.get? b=some u->h'.get? b=some u)(hp:h.objs.size <= a)(hn:H a=none):Un fs ex H (upd H a o) h h' where
 keep:=fun b u q _ _ _=>k b u q
 slot:=fun b u q _ _ _=>⟨u.slots,k b u q⟩
 free:=fun b u q n _=>by rw [a0f (ne_of_lt (lt_of_lt_of_le (lt_size q) hp))];exact n
 there:=fun b u q _=>⟨u,k b u q⟩
 tups:=fun b xs q=>by rw [a0f (a1s q hn)];exact q
 frzs:=fun b u xs q=>by rw [a0f (a1s q hn)];exact q
 tbls:=fun b ps q=>⟨#[],by rw [a0f (a1s q hn),q];simp⟩
theorem Un.write(mu:Mut (H x))(he:e=x ∨ H e=some (.own x))(k:∀ b u,b ≠ e->h.get? b=some u->h'.get? b=some u)(heo:∃ u,h'.get? e=some u):Un fs ex H (upd H x o) h h':=by
 have hx:∀ b,H b=none->b ≠ x:=fun b n z=>by subst z;rw [n] at mu;exact mu
 have hb:∀ b,H b=none->b ≠ e:=fun b n z=>by
  subst z
  rcases he with r | r
  ·exact hx b n r
  ·rw [n] at r;cases r
 have hm:∀ b u,H b=some u->¬ Mut (some u)->b ≠ x:=fun b u q nm z=>by subst z;rw [q] at mu;exact nm mu
 refine⟨fun b u q n _ _=>k b u (hb b n) q,fun b u q n _ _=>⟨u.slots,k b u (hb b n) q⟩,fun b u q n _=>by rw [a0f (hx b n)];exact n,fun b u q _=>?_,
  fun b xs q=>by rw [a0f (hm b _ q fun z=>z)];exact q,fun b u xs q=>by rw [a0f (hm b _ q fun z=>z)];exact q,fun b ps q=>⟨#[],by rw [a0f (hm b _ q fun z=>z),q];simp⟩⟩
 by_cases hbe:b=e
 ·subst hbe;exact heo
 ·exact⟨u,k b u hbe q⟩
end
noncomputable def trk(h:Heap)(H:Hp):List Addr:=(List.range h.objs.size).filter fun a=>(H a).isSome
noncomputable def hidT(h:Heap)(H:Hp):Heap:=PySem.W.hideAll h (trk h H)
theorem c6g(h:Heap)(H:Hp):(hidT h H).objs.size=h.objs.size:=PySem.W.hideAll_size _ _
theorem c9e{h:Heap}{H:Hp}{b:Addr}{o:Obj}(e:h.get? b=some o)(n:H b=none):(hidT h H).get? b=some o:=
 PySem.W.hideAll_get _ e fun hm=>by
  have q:(H b).isSome=true:=(List.mem_filter.mp hm).2
  rw [n] at q;simp at q
theorem d3z{h:Heap}{H:Hp}{b:Addr}{o:Obj}(e:(hidT h H).get? b=some o):h.get? b=some o/\H b=none:=by
 have e':h.get? b=some o:=PySem.W.of_hideAll (trk h H) e
 refine⟨e',?_⟩
 cases q:H b with
 | none=>rfl
 | some x =>
  have hm:b ∈ trk h H:=List.mem_filter.mpr ⟨List.mem_range.mpr (lt_size e'),by simp [q]⟩
  have z:(hidT h H).get? b=none:=PySem.W.hideAll_none (trk h H) hm
  rw [z] at e;cases e
noncomputable def d4a(g h:Heap)(L:Addr):List (Addr × Obj):=(List.range h.objs.size).filterMap fun a=>if a=L ∨ (g.get? a).isSome=true then none else(h.get? a).map fun o=>(a,o)
noncomputable def rest(g h:Heap)(L d:Addr):List (Addr × Obj):=(d4a g h L).filter fun p=>decide (p.1 ≠ d)
end L2
namespace L2
open PySem PySem.Spec PyProof.Rows
structure Mod(K:W.Frag)(mg:Str->Option Value)(base:Heap):Prop where
 kin:K.In base
 glob:base.Ns mainGlobals mg
 blt:∃ mb,base.Ns builtinsNs mb/\∀ x:Str,x ≠ "__name__" -> mb x=bootBuiltins x
 nolimit:base.NoLimit
structure Cx where
 prog:Program
 w:World
 K:W.Frag
 mg:Str->Option Value
 base:Heap
 A:Around
 N:List Str
 s₀:Shared
 H₀:Hp
 env:Env
 outer:List Env
 stack:List Env
 ex:List Addr
 fn:Str->Bool
 calm:Bool
 pn:List (Addr × Obj)
 xe:Value->Shared->Prop
noncomputable def frs(l:List Env):List Addr:=l.filterMap (·.frame)
abbrev Cx.fs(X:Cx):List Addr:=frs X.outer
def Vis(sc:Scope)(x:Str):Prop:=sc.names.lookup x=some .local ∨ sc.names.lookup x=some .cell ∨ sc.names.lookup x=some .free
def Loc(sc:Scope)(x:Str):Prop:=sc.names.lookup x=some .local ∨ sc.names.lookup x=some .cell
def Look(env:Env)(h:Heap)(m:Str->Option Value)(x:Str)(u:Value):Prop:=
 (env.kindOf x=some .local/\m x=some u) ∨ ((env.kindOf x=some .cell ∨ env.kindOf x=some .free)/\∃ c,env.cells.lookup x=some c/\h.IsCell c (some u))
structure Cx.Ok(X:Cx):Prop where
 mod:Mod X.K X.mg X.base
 kind:X.env.scope.kind=.function
 glob:X.env.globals=mainGlobals
 blt:X.env.builtins=builtinsNs
 above:X.s₀.heap.objs.size <= X.env.locals
 inj:∀ x y c,X.env.cells.lookup x=some c->X.env.cells.lookup y=some c->x=y
 has:∀ x,(X.env.kindOf x=some .cell ∨ X.env.kindOf x=some .free)->∃ c,X.env.cells.lookup x=some c
 cab:∀ x c,X.fn x=true->X.env.cells.lookup x=some c->X.s₀.heap.objs.size <= c
 hd:X.calm=true->X.A.handled=none
 frames:X.A.frames=some X.stack
 stk:X.stack=X.outer ∨ (X.stack=X.env :: X.outer/\X.env.frame=some X.env.locals)
 exf:∀ b ∈ X.ex,b ≠ X.env.locals/\∀ x c,X.env.cells.lookup x=some c->c ≠ b
 bs:∀ b o,X.base.get? b=some o->X.s₀.heap.get? b=some o/\X.H₀ b=none
 bsz:X.base.objs.size <= X.s₀.heap.objs.size
 noex:∀ b o,X.base.get? b=some o->b ∉ X.ex
 exfs:∀ b ∈ X.ex,b ∉ X.fs
 funs:X.s₀.heap.FunFrames X.base X.outer
 frf:∀ b ∈ X.fs,X.H₀ b=none
structure Inv(X:Cx)(pins:List (Addr × Obj))(σ:List (Option V))(H:Hp)(s:Shared):Prop where
 ok:X.Ok
 os:s.os=X.s₀.os
 bare:AllBare s.gens
 base:Un X.fs X.ex X.H₀ H X.s₀.heap s.heap
 loc:∃ m,s.heap.Ns X.env.locals m/\∀ (i:Nat) (x:Str) (v:V),X.N[i]? = some x->σ[i]? = some (some v)->Vis X.env.scope x->∃ u,RelV v u/\Look X.env s.heap m x u
 cell:∀ x c,X.env.cells.lookup x=some c->∃ v,s.heap.IsCell c v
 free:H X.env.locals=none
 freeC:∀ x c,X.env.cells.lookup x=some c->H c=none
 pin:∀ p ∈ X.pn ++ pins,s.heap.get? p.1=some p.2/\H p.1=none/\p.1 ≠ X.env.locals/\p.1 ∉ X.fs/\∀ v,p.2.data ≠ .cell v
 hok:HOk X.prog X.w H s.heap
 len:σ.length=X.N.length
section
variable{X:Cx}{pins:List (Addr × Obj)}{σ:List (Option V)}{H H':Hp}{s:Shared}{h':Heap}
theorem Cx.Ok.nofr(ok:X.Ok){b:Addr}{o:Obj}(e:X.base.get? b=some o):b ∉ X.fs:=fun hb=>by
 have:=(ok.funs.mem hb).1
 rw [e] at this;cases this
theorem Inv.bs(I:Inv X pins σ H s):∀ b o,X.base.get? b=some o->s.heap.get? b=some o/\H b=none:=fun b o e =>
 ⟨I.base.keep b o (I.ok.bs b o e).1 (I.ok.bs b o e).2 (I.ok.nofr e) (I.ok.noex b o e),I.base.free b o (I.ok.bs b o e).1 (I.ok.bs b o e).2 (I.ok.noex b o e)⟩
theorem Inv.bk(I:Inv X pins σ H s):∀ b o,X.base.get? b=some o->s.heap.get? b=some o:=fun b o e=>(I.bs b o e).1
theorem Inv.mod(I:Inv X pins σ H s):Mod X.K X.mg X.base:=I.ok.mod
theorem Inv.kIn(I:Inv X pins σ H s):X.K.In s.heap:=I.ok.mod.kin.keeps I.bk
theorem Inv.lt(I:Inv X pins σ H s):X.env.locals < s.heap.objs.size:=by obtain⟨_,hn,_⟩:=I.loc;exact hn.lt
theorem Inv.sz(I:Inv X pins σ H s):X.s₀.heap.objs.size <= s.heap.objs.size:=Nat.le_trans I.ok.above (le_of_lt I.lt)
theorem Inv.nofs(I:Inv X pins σ H s){a:Addr}(h:s.heap.objs.size <= a):a ∉ X.fs:=fun hb=>by
 obtain⟨_,o,ho,_⟩:=I.ok.funs.mem hb
 exact absurd (lt_of_lt_of_le (lt_size ho) (Nat.le_trans I.sz h)) (lt_irrefl _)
theorem Inv.cne(I:Inv X pins σ H s):∀ x c,X.env.cells.lookup x=some c->c ≠ X.env.locals:=fun x c e z=>by
 obtain⟨v,o,ho,hd⟩:=I.cell x c e
 obtain⟨m,⟨o',es,ep,ho',hd',_⟩,_⟩:=I.loc
 rw [z,ho'] at ho;cases ho;rw [hd'] at hd;cases hd
theorem Inv.funs(I:Inv X pins σ H s):s.heap.FunFrames X.base X.outer:=by
 have all:∀ (l:List Env),(∀ b ∈ frs l,b ∈ X.fs)->X.s₀.heap.FunFrames X.base l->s.heap.FunFrames X.base l:=by
  intro l
  induction l with
  | nil=>intro _ _;trivial
  | cons env r ih =>
   intro hs hl
   obtain⟨hk,⟨L,o,hf,hn,ho,hd⟩,hr⟩:=hl
   have hL:L ∈ X.fs:=hs L (by unfold frs;rw [List.filterMap_cons,hf];exact mem_cons_self)
   obtain⟨sl,e⟩:=I.base.slot L o ho (I.ok.frf L hL) hL fun z=>I.ok.exfs L z hL
   exact⟨hk,⟨L,_,hf,hn,e,hd⟩,ih (fun b hb=>hs b (by unfold frs;rw [List.filterMap_cons,hf];exact mem_cons_of_mem _ hb)) hr⟩
 exact all X.outer (fun _ hb=>hb) I.ok.funs
theorem Inv.stack(I:Inv X pins σ H s):s.heap.FunFrames X.base X.stack:=by
 rcases I.ok.stk with e | ⟨e,hf⟩
 ·rw [e];exact I.funs
 ·rw [e]
  obtain⟨m,hn,_⟩:=I.loc
  refine .cons (by rw [I.ok.kind];decide) hf hn ?_ I.funs
  exact Heap.get?_none_of_le (Nat.le_trans I.ok.bsz I.ok.above)
theorem Inv.stkSub(I:Inv X pins σ H s):∀ b ∈ frs X.stack,b ∈ X.env.locals :: X.fs:=fun b hb=>by
 rcases I.ok.stk with e | ⟨e,hf⟩
 ·rw [e] at hb;exact mem_cons_of_mem _ hb
 ·rw [e] at hb
  unfold frs at hb
  rw [List.filterMap_cons,hf] at hb
  exact hb
theorem Inv.stkFree(I:Inv X pins σ H s):∀ b ∈ frs X.stack,H b=none:=fun b hb=>by
 rcases mem_cons.mp (I.stkSub b hb) with e | hb
 ·rw [e];exact I.free
 ·obtain⟨_,o,ho,_⟩:=I.ok.funs.mem hb
  exact I.base.free b o ho (I.ok.frf b hb) fun z=>I.ok.exfs b z hb
theorem Inv.step{g':Array GenState}{t':Nat}{d':Drawn}{ch:List Addr}(I:Inv X pins σ H s)
  (hch:∀ b ∈ ch,(b ∈ X.ex ∨ X.s₀.heap.objs.size <= b)/\b ≠ X.env.locals/\(∀ x c,X.env.cells.lookup x=some c->c ≠ b)/\∀ p ∈ X.pn ++ pins,p.1 ≠ b)
  (keep:∀ b o,b ≠ X.env.locals->b ∉ X.fs->b ∉ ch->s.heap.get? b=some o->H b=none->h'.get? b=some o)
  (slot:∀ b o,b ≠ X.env.locals->b ∈ X.fs->b ∉ ch->s.heap.get? b=some o->H b=none->∃ sl,h'.get? b=some { o with slots:=sl }) (free:∀ b o,b ∉ ch->s.heap.get? b=some o->H b=none->H' b=none)
  (there:∀ b o,b ∉ ch->s.heap.get? b=some o->∃ o',h'.get? b=some o')
  (tups:∀ b xs,H b=some (.tup xs)->H' b=some (.tup xs)) (frzs:∀ b o u,H b=some (.frz o u)->H' b=some (.frz o u)) (tbls:∀ b ps,H b=some (.tbl ps)->∃ more,H' b=some (.tbl (ps ++ more)))
  (ns:∀ m,s.heap.Ns X.env.locals m->h'.Ns X.env.locals m) (hok:HOk X.prog X.w H' h') (hg:AllBare g') :
  Inv X pins σ H' { s with heap:=h',gens:=g',drawn:=d',toks:=t' }:=by
 have neL:∀ b o,X.s₀.heap.get? b=some o->b ≠ X.env.locals:=fun b o e=>ne_of_lt (lt_of_lt_of_le (lt_size e) I.ok.above)
 have neC:∀ b o,X.s₀.heap.get? b=some o->b ∉ X.ex->b ∉ ch:=fun b o e hx hb=>by
  rcases (hch b hb).1 with z | z
  ·exact hx z
  ·exact absurd (lt_of_lt_of_le (lt_size e) z) (lt_irrefl _)
 have cellK:∀ x c,X.env.cells.lookup x=some c->∀ v,s.heap.IsCell c v->h'.IsCell c v:=fun x c e v hq8=>by
  obtain⟨o,ho,hd⟩:=hq8
  have nch:c ∉ ch:=fun z=>(hch c z).2.2.1 x c e rfl
  by_cases hc:c ∈ X.fs
  ·obtain⟨sl,q⟩:=slot c o (I.cne x c e) hc nch ho (I.freeC x c e)
   exact⟨_,q,hd⟩
  ·exact⟨o,keep c o (I.cne x c e) hc nch ho (I.freeC x c e),hd⟩
 refine⟨I.ok,I.os,hg,⟨fun b o e n hb hx=>?_,fun b o e n hb hx=>?_,fun b o e n hx=>?_,fun b o e hx=>?_,fun b xs e=>tups b xs (I.base.tups b xs e),fun b o xs e=>frzs b o xs (I.base.frzs b o xs e),fun b ps e=>?_⟩,?_,fun x c e=>?_,?_,fun x c e=>?_,fun p hp=>?_,hok,I.len⟩
 ·exact keep b o (neL b o e) hb (neC b o e hx) (I.base.keep b o e n hb hx) (I.base.free b o e n hx)
 ·obtain⟨sl,e1⟩:=I.base.slot b o e n hb hx
  obtain⟨sl',e2⟩:=slot b _ (neL b o e) hb (neC b o e hx) e1 (I.base.free b o e n hx)
  exact⟨sl',e2⟩
 ·obtain⟨o',e1⟩:=I.base.there b o e hx
  exact free b o' (neC b o e hx) e1 (I.base.free b o e n hx)
 ·obtain⟨o',e1⟩:=I.base.there b o e hx
  exact there b o' (neC b o e hx) e1
 ·obtain⟨m1,e1⟩:=I.base.tbls b ps e
  obtain⟨m2,e2⟩:=tbls b _ e1
  exact⟨m1 ++ m2,by rw [e2,Array.append_assoc]⟩
 ·obtain⟨m,hn,hl⟩:=I.loc
  refine⟨m,ns m hn,fun i x v e1 e2 e3=>?_⟩
  obtain⟨u,r,l⟩:=hl i x v e1 e2 e3
  refine⟨u,r,?_⟩
  rcases l with l | ⟨k,c,e,z⟩
  ·exact .inl l
  ·exact .inr ⟨k,c,e,cellK x c e _ z⟩
 ·obtain⟨v,z⟩:=I.cell x c e
  exact⟨v,cellK x c e v z⟩
 ·obtain⟨m,⟨o,_,_,ho,_⟩,_⟩:=I.loc
  exact free _ o (fun z=>(hch _ z).2.1 rfl) ho I.free
 ·obtain⟨v,o,ho,hd⟩:=I.cell x c e
  exact free c o (fun z=>(hch c z).2.2.1 x c e rfl) ho (I.freeC x c e)
 ·obtain⟨e,n,ne,nf,d⟩:=I.pin p hp
  have nch:p.1 ∉ ch:=fun z=>(hch p.1 z).2.2.2 p hp rfl
  exact⟨keep p.1 p.2 ne nf nch e n,free p.1 p.2 nch e n,ne,nf,d⟩
theorem Inv.un{t':Nat}(I:Inv X pins σ H s)(u:Un X.fs [] H H' s.heap h')(hok:HOk X.prog X.w H' h'):Inv X pins σ H' { s with heap:=h',toks:=t' }:=by
 obtain⟨m,⟨o,es,ep,ho,r⟩,_⟩:=id I.loc
 obtain⟨sl,hL⟩:=u.any ho I.free (by simp)
 exact I.step (g':=s.gens) (d':=s.drawn) (ch:=[]) (fun _ z=>nomatch z) (fun b o _ hb _ e n=>u.keep b o e n hb (by simp)) (fun b o _ hb _ e n=>u.slot b o e n hb (by simp)) (fun b o _ e n=>u.free b o e n (by simp)) (fun b o _ e=>u.there b o e (by simp)) u.tups u.frzs u.tbls (fun m' hm=>by
  obtain⟨o',es',ep',ho',r'⟩:=hm
  rw [ho] at ho';cases ho'
  exact⟨_,es',ep',hL,r'⟩) hok I.bare
theorem Inv.call{g':Array GenState}{t':Nat}{d':Drawn}{ch:List Addr}(I:Inv X pins σ H s)(u:Un (frs X.stack) ch H H' s.heap h')(hok:HOk X.prog X.w H' h')(hg:AllBare g')
  (hch:∀ b ∈ ch,(b ∈ X.ex ∨ X.s₀.heap.objs.size <= b)/\b ≠ X.env.locals/\(∀ x c,X.env.cells.lookup x=some c->c ≠ b)/\∀ p ∈ X.pn ++ pins,p.1 ≠ b) :
  Inv X pins σ H' { s with heap:=h',gens:=g',drawn:=d',toks:=t' }:=by
 obtain⟨m,⟨o,es,ep,ho,r⟩,_⟩:=id I.loc
 obtain⟨sl,hL⟩:=u.any ho I.free fun z=>(hch _ z).2.1 rfl
 exact I.step (ch:=ch) hch (fun b o hL hb hc e n=>u.keep b o e n (fun z=>(mem_cons.mp (I.stkSub b z)).elim hL hb) hc) (fun b o _ _ hc e n=>u.any e n hc) (fun b o hc e n=>u.free b o e n hc) (fun b o hc e=>u.there b o e hc) u.tups u.frzs u.tbls (fun m' hm=>by
  obtain⟨o',es',ep',ho',r'⟩:=hm
  rw [ho] at ho';cases ho'
  exact⟨_,es',ep',hL,r'⟩) hok hg
theorem Inv.turned{t':Nat}{it:Addr}(I:Inv X pins σ H s)(k:∀ b o,b ≠ it->s.heap.get? b=some o->h'.get? b=some o)(hn:H it=none)(hL:it ≠ X.env.locals)
  (h1:it ∈ X.ex ∨ X.s₀.heap.objs.size <= it) (h2:∀ x c,X.env.cells.lookup x=some c->c ≠ it) (h3:∀ p ∈ X.pn ++ pins,p.1 ≠ it):Inv X pins σ H { s with heap:=h',toks:=t' }:=by
 have nit:∀ b u,H b=some u->b ≠ it:=fun b u e z=>by rw [z,hn] at e;cases e
 refine I.step (g':=s.gens) (d':=s.drawn) (ch:=[it]) (fun b hb=>?_) (fun b o _ _ hc e _=>k b o (fun z=>hc (by simp [z])) e) (fun b o _ _ hc e _=>⟨o.slots,k b o (fun z=>hc (by simp [z])) e⟩) (fun _ _ _ _ n=>n)
  (fun b o hc e=>⟨o,k b o (fun z=>hc (by simp [z])) e⟩) (fun _ _ e=>e) (fun _ _ _ e=>e) (fun b ps e=>⟨#[],by rw [e];simp⟩) (fun m hm=>?_) (fun b u e=>?_) I.bare
 ·have e:b=it:=by simpa using hb
  subst e
  exact⟨h1,hL,h2,h3⟩
 ·obtain⟨o,es,ep,ho,r⟩:=hm
  exact⟨o,es,ep,k _ o (Ne.symm hL) ho,r⟩
 ·refine(I.hok b u e).stay (fun c v hc q=>k c v ?_ q) (fun _ q=>q) (fun _ _ q=>q) fun _ _ _ q=>q
  rcases hc with z | z
  ·rw [z];exact nit b u e
  ·exact nit c _ z
theorem Inv.tok(I:Inv X pins σ H s)(t:Nat):Inv X pins σ H { s with toks:=t }:=I.un (h':=s.heap) (t':=t) Un.refl I.hok
theorem Inv.kept{t':Nat}(I:Inv X pins σ H s)(k:∀ b u,s.heap.get? b=some u->h'.get? b=some u):Inv X pins σ H { s with heap:=h',toks:=t' }:=I.un (Un.kept k) (I.hok.kept k)
theorem Inv.laid{a:Addr}{o:HO}{t':Nat}(I:Inv X pins σ H s)(k:∀ b u,s.heap.get? b=some u->h'.get? b=some u)(hp:s.heap.objs.size <= a)(new:a1z X.prog X.w (upd H a o) h' a o) :
  Inv X pins σ (upd H a o) { s with heap:=h',toks:=t' }:=I.un (Un.laid k hp (I.hok.fresh hp)) (I.hok.laid k hp new)
theorem Inv.write{x e:Addr}{o:HO}{t':Nat}(I:Inv X pins σ H s)(mu:Mut (H x))(he:e=x ∨ H e=some (.own x))(k:∀ b u,b ≠ e->s.heap.get? b=some u->h'.get? b=some u)(heo:∃ u,h'.get? e=some u)
  (new:a1z X.prog X.w (upd H x o) h' x o):Inv X pins σ (upd H x o) { s with heap:=h',toks:=t' }:=I.un (Un.write mu he k heo) (I.hok.write mu he k heo new)
theorem Inv.pins_of{pins':List (Addr × Obj)}(I:Inv X pins σ H s)(h:∀ p ∈ pins',s.heap.get? p.1=some p.2/\H p.1=none/\p.1 ≠ X.env.locals/\p.1 ∉ X.fs/\∀ v,p.2.data ≠ .cell v):Inv X pins' σ H s:=
 ⟨I.ok,I.os,I.bare,I.base,I.loc,I.cell,I.free,I.freeC,fun p hp=>(mem_append.mp hp).elim (fun z=>I.pin p (mem_append_left _ z)) (h p),I.hok,I.len⟩
theorem b8l{N:List Str}(hN:N.Nodup){i j:Nat}{x:Str}(a:N[i]? = some x)(b:N[j]? = some x):i=j:=by
 obtain⟨h1,e1⟩:=List.getElem?_eq_some_iff.mp a
 obtain⟨h2,e2⟩:=List.getElem?_eq_some_iff.mp b
 exact(List.getElem_inj hN).mp (e1.trans e2.symm)
theorem b6u{M:Model}{A:Around}{E:Value->Shared->Prop}{i:Nat}{x:Str}{v:V}{u:Value}{Q:Unit->Shared->Prop}(I:Inv X pins σ H s)(hN:X.N.Nodup)(hi:X.N[i]? = some x)(hx:Loc X.env.scope x)(r:RelV v u)
  (h:∀ s',Inv X pins (σ.set i (some v)) H s'->(∃ a,Heap.SameBut a s.heap s'.heap/\(a=X.env.locals ∨ X.env.cells.lookup x=some a))->Q () s') (hf:X.fn x=true ∨ X.env.scope.names.lookup x=some .local:=by first | exact .inl rfl | exact .inr rfl | assumption):wpAny M A (storeName X.env x u) Q E s:=by
 obtain⟨m,hn,hl⟩:=id I.loc
 have hcls:(X.env.scope.kind == .class || (X.env.scope.kind == .module && X.env.locals != X.env.globals))=false:=by rw [I.ok.kind];rfl
 have hiσ:i < σ.length:=by rw [I.len];exact(List.getElem?_eq_some_iff.mp hi).1
 have cne:=I.cne
 have tracked:∀ {a:Addr} {h':Heap},(∃ o,s.heap.get? a=some o/\H a=none)->Heap.SameBut a s.heap h'->HOk X.prog X.w H h':=fun{a h'} ha hs b ob e=>by
  obtain⟨_,_,hfree⟩:=ha
  refine(I.hok b ob e).stay (fun c w' hc q=>(hs.2 c ?_).trans q) (fun _ q=>q) (fun _ _ q=>q) fun _ _ _ q=>q
  rintro rfl
  rcases hc with rfl | hc
  ·rw [hfree] at e;cases e
  ·rw [hfree] at hc;cases hc
 rcases hx with hk | hk
 ·refine wpAny_storeName_local hk hn (fun h' hn' hs=>?_) hcls
  obtain⟨oL,_,_,hoL,_⟩:=id hn
  refine h _ ⟨I.ok,I.os,I.bare,⟨fun b o e n hb hx=>?_,fun b o e n hb hx=>?_,I.base.free,fun b o e hx=>?_,I.base.tups,I.base.frzs,I.base.tbls⟩,⟨_,hn',fun j y v' e1 e2 e3=>?_⟩,fun y c e=>?_,I.free,I.freeC,fun p hp=>?_,tracked ⟨oL,hoL,I.free⟩ hs,by simpa using I.len⟩ ⟨_,hs,.inl rfl⟩
  ·exact(hs.2 b (ne_of_lt (lt_of_lt_of_le (lt_size e) I.ok.above))).trans (I.base.keep b o e n hb hx)
  ·obtain⟨sl,e1⟩:=I.base.slot b o e n hb hx
   exact⟨sl,(hs.2 b (ne_of_lt (lt_of_lt_of_le (lt_size e) I.ok.above))).trans e1⟩
  ·obtain⟨o',e1⟩:=I.base.there b o e hx
   exact⟨o',(hs.2 b (ne_of_lt (lt_of_lt_of_le (lt_size e) I.ok.above))).trans e1⟩
  ·by_cases hj:j=i
   ·subst hj
    rw [hi] at e1;cases e1
    rw [getElem?_set_self hiσ] at e2
    cases e2
    exact⟨u,r,.inl ⟨hk,by simp⟩⟩
   ·rw [getElem?_set_ne (Ne.symm hj)] at e2
    obtain⟨u',r',q⟩:=hl j y v' e1 e2 e3
    refine⟨u',r',?_⟩
    rcases q with⟨k,e⟩ | ⟨k,c,e,z⟩
    ·refine .inl ⟨k,?_⟩
     have:y ≠ x:=fun e=>hj (b8l hN e1 (e ▸ hi))
     simp [this,e]
    ·exact .inr ⟨k,c,e,z.sameBut hs (cne y c e)⟩
  ·obtain⟨w',z⟩:=I.cell y c e
   exact⟨w',z.sameBut hs (cne y c e)⟩
  ·obtain⟨e,n,ne,nf,d⟩:=I.pin p hp
   exact⟨(hs.2 p.1 ne).trans e,n,ne,nf,d⟩
 ·have hfn:X.fn x=true:=by
   rcases hf with z | z
   ·exact z
   ·rw [z] at hk;cases hk
  obtain⟨c,hc⟩:=I.ok.has x (.inl hk)
  obtain⟨w',z⟩:=I.cell x c hc
  refine wpAny_storeName_cell I.ok.kind hk hc z (fun h' hc' hs=>?_)
  obtain⟨oc,hoc,hocd⟩:=id z
  refine h { s with heap:=h' } ⟨I.ok,I.os,I.bare,⟨fun b o e n hb hx=>?_,fun b o e n hb hx=>?_,I.base.free,fun b o e hx=>?_,I.base.tups,I.base.frzs,I.base.tbls⟩,⟨m,hn.sameBut hs (Ne.symm (cne x c hc)),fun j y v' e1 e2 e3=>?_⟩,fun y c' e=>?_,I.free,I.freeC,fun p hp=>?_,tracked ⟨oc,hoc,I.freeC x c hc⟩ hs,by simpa using I.len⟩ ⟨c,hs,.inr hc⟩
  ·exact(hs.2 b (ne_of_lt (lt_of_lt_of_le (lt_size e) (I.ok.cab x c hfn hc)))).trans (I.base.keep b o e n hb hx)
  ·obtain⟨sl,e1⟩:=I.base.slot b o e n hb hx
   exact⟨sl,(hs.2 b (ne_of_lt (lt_of_lt_of_le (lt_size e) (I.ok.cab x c hfn hc)))).trans e1⟩
  ·obtain⟨o',e1⟩:=I.base.there b o e hx
   exact⟨o',(hs.2 b (ne_of_lt (lt_of_lt_of_le (lt_size e) (I.ok.cab x c hfn hc)))).trans e1⟩
  ·by_cases hj:j=i
   ·subst hj
    rw [hi] at e1;cases e1
    rw [getElem?_set_self hiσ] at e2
    cases e2
    exact⟨u,r,.inr ⟨.inl hk,c,hc,hc'⟩⟩
   ·rw [getElem?_set_ne (Ne.symm hj)] at e2
    obtain⟨u',r',q⟩:=hl j y v' e1 e2 e3
    refine⟨u',r',?_⟩
    rcases q with q | ⟨k,c',e,z'⟩
    ·exact .inl q
    ·refine .inr ⟨k,c',e,z'.sameBut hs ?_⟩
     rintro rfl
     exact hj (b8l hN e1 (I.ok.inj _ _ _ e hc ▸ hi))
  ·by_cases hcc:c'=c
   ·subst hcc;exact⟨_,hc'⟩
   ·obtain⟨w2,z2⟩:=I.cell y c' e
    exact⟨w2,z2.sameBut hs hcc⟩
  ·obtain⟨e,n,ne,nf,d⟩:=I.pin p hp
   refine⟨(hs.2 p.1 ?_).trans e,n,ne,nf,d⟩
   intro q
   rw [q,hoc] at e
   have q':oc=p.2:=Option.some.inj e
   exact d w' (by rw [← q'];exact hocd)
theorem b8m{M:Model}{A:Around}{E:Value->Shared->Prop}{i:Nat}{x:Str}{v:V}{u:Value}{Q:Unit->Shared->Prop}(I:Inv X pins σ H s)(hN:X.N.Nodup)(hi:X.N[i]? = some x)(hx:Loc X.env.scope x)(r:RelV v u)
  (h:∀ s',Inv X pins (σ.set i (some v)) H s'->Q () s') (hf:X.fn x=true ∨ X.env.scope.names.lookup x=some .local:=by first | exact .inl rfl | exact .inr rfl | assumption):wpAny M A (storeName X.env x u) Q E s:=
 b6u I hN hi hx r (fun s' I' _=>h s' I') hf
theorem Inv.call'{s':Shared}{ch:List Addr}(I:Inv X pins σ H s)(ho:s'.os=s.os)(u:Un (frs X.stack) ch H H' s.heap s'.heap)(hok:HOk X.prog X.w H' s'.heap)(hg:AllBare s'.gens)
  (hch:∀ b ∈ ch,(b ∈ X.ex ∨ X.s₀.heap.objs.size <= b)/\b ≠ X.env.locals/\(∀ x c,X.env.cells.lookup x=some c->c ≠ b)/\∀ p ∈ X.pn ++ pins,p.1 ≠ b):Inv X pins σ H' s':=by
 obtain⟨h',g',d',t',o'⟩:=s'
 have e:o'=s.os:=ho
 subst e
 exact I.call (g':=g') (t':=t') (d':=d') u hok hg hch
end
abbrev XK:=Value->Option Addr->Hp->Prop
abbrev St:=List (Option V)
abbrev VK:=V->Hp->Prop
abbrev TE:=St->Hp->VK->Prop
abbrev TT:=St->Hp->(Bool->Hp->Prop)->Prop
abbrev TA:=St->Hp->(List V->Hp->Prop)->Prop
structure Ends where
 nx:St->Hp->Prop
 rt:VK
 bk:St->Hp->Prop:=fun _ _=>False
 ct:St->Hp->Prop:=fun _ _=>False
abbrev TS:=Ends->St->Hp->Prop
def EP(X:Cx)(pins:List (Addr × Obj))(σ:St)(Q:VK)(u:Value)(s':Shared):Prop:=∃ v H',Inv X pins σ H' s'/\RelV v u/\Q v H'
def TP(X:Cx)(pins:List (Addr × Obj))(σ:St)(Q:Bool->Hp->Prop)(b:Bool)(s':Shared):Prop:=∃ H',Inv X pins σ H' s'/\Q b H'
def AP(X:Cx)(pins:List (Addr × Obj))(σ:St)(Q:List V->Hp->Prop)(us:List Value)(s':Shared):Prop:=∃ vs H',Inv X pins σ H' s'/\Vals vs us/\Q vs H'
def SP(X:Cx)(pins:List (Addr × Obj))(D:Ends)(f:Flow)(s':Shared):Prop:=
 match f with
 | .next=>∃ σ' H',Inv X pins σ' H' s'/\D.nx σ' H'
 | .brk=>∃ σ' H',Inv X pins σ' H' s'/\D.bk σ' H'
 | .cont=>∃ σ' H',Inv X pins σ' H' s'/\D.ct σ' H'
 | .ret u=>∃ v σ' H',Inv X pins σ' H' s'/\RelV v u/\D.rt v H'
def PE(X:Cx)(e:Expr)(t:TE):Prop:=
 ∀ (pins:List (Addr × Obj)) (s:Shared) (σ:St) (H:Hp) (Q:VK),Inv X pins σ H s->t σ H Q->wpAny (model X.prog X.w) X.A (eval e X.env) (EP X pins σ Q) X.xe s
def PT(X:Cx)(e:Expr)(t:TT):Prop:=
 ∀ (pins:List (Addr × Obj)) (s:Shared) (σ:St) (H:Hp) (Q:Bool->Hp->Prop),Inv X pins σ H s->t σ H Q->wpAny (model X.prog X.w) X.A (isTrue e X.env (eval e X.env)) (TP X pins σ Q) X.xe s
def PW(X:Cx)(e:Expr)(t:TT):Prop:=
 ∀ (whole:Sem Value) (pins:List (Addr × Obj)) (s:Shared) (σ:St) (H:Hp) (Q:Bool->Hp->Prop),Inv X pins σ H s->t σ H Q->wpAny (model X.prog X.w) X.A (isTrue e X.env whole) (TP X pins σ Q) X.xe s
theorem PW.pt{X:Cx}{e:Expr}{t:TT}(h:PW X e t):PT X e t:=h _
def PA(X:Cx)(es:List Expr)(t:TA):Prop:=
 ∀ (pos:Pos) (pins:List (Addr × Obj)) (s:Shared) (σ:St) (H:Hp) (Q:List V->Hp->Prop),Inv X pins σ H s->t σ H Q->wpAny (model X.prog X.w) X.A (spliced (backTo pos (starEach es X.env))) (AP X pins σ Q) X.xe s
def PS(X:Cx)(st:Stmt)(t:TS):Prop:=
 ∀ (pins:List (Addr × Obj)) (s:Shared) (σ:St) (H:Hp) (D:Ends),Inv X pins σ H s->t D σ H->wpAny (model X.prog X.w) X.A (exec st X.env) (SP X pins D) X.xe s
def PSs(X:Cx)(st:List Stmt)(t:TS):Prop:=
 ∀ (pins:List (Addr × Obj)) (s:Shared) (σ:St) (H:Hp) (D:Ends),Inv X pins σ H s->t D σ H->wpAny (model X.prog X.w) X.A (execs st X.env) (SP X pins D) X.xe s
theorem thn{α:Type}{t:Sem α}{Q Q':α->Shared->Prop}{M:Model}{A:Around}{E:Value->Shared->Prop}{s:Shared}(h:wpAny M A t Q E s)(hQ:∀ a s,Q a s->Q' a s):wpAny M A t Q' E s:=wpAny_mono h hQ fun _ _ x=>x
end L2
namespace L2
open PySem PySem.Spec PyProof.Rows
section
variable{X:Cx}
def tVar(i:Nat):TE:=fun σ H Q=>∃ v,σ[i]? = some (some v)/\Q v H
def tC(v:V):TE:=fun _ H Q=>Q v H
theorem b3w{i:Nat}{x:Str}{pos:Pos}(hN:X.N[i]? = some x)(hv:Vis X.env.scope x) (hd:(x == ("__debug__" : Str))=false:=by decide) (hcd:(x == ("__classdict__" : Str))=false:=by decide):PE X (.Name x pos) (tVar i):=by
 intro pins s σ H Q I h
 obtain⟨v,e,h⟩:=h
 obtain⟨m,hn,hl⟩:=I.loc
 obtain⟨u,r,l⟩:=hl i x v hN e hv
 have fin:EP X pins σ Q u s:=⟨v,H,I,r,h⟩
 rcases l with⟨hk,hm⟩ | ⟨hk,c,hc,hcell⟩
 ·exact wpAny_Name (wpAny_loadName_local I.ok.kind hk hn hm fin) hd
 ·rcases hk with hk | hk
  ·exact wpAny_Name (wpAny_loadName_cell I.ok.kind hk hc hcell fin) hd
  ·exact wpAny_Name (wpAny_loadName_free I.ok.kind hk hc hcell fin hcd) hd
theorem a1g{i j pos}:PE X (.Constant (.int i) j pos) (tC (.int i)):=fun _ _ _ H _ I h=>wpAny_Constant_int ⟨.int i,H,I.tok _,⟨_,rfl⟩,h⟩
theorem pe_bl{b j pos}:PE X (.Constant (.bool b) j pos) (tC (.bl b)):=fun _ _ _ H _ I h=>Constant_bool ⟨.bl b,H,I,rfl,h⟩
theorem a4k{x j pos}:PE X (.Constant (.str x) j pos) (tC (.str x)):=fun _ _ _ H _ I h=>Calls.Constant_str ⟨.str x,H,I.tok _,⟨_,rfl⟩,h⟩
def Gl(X:Cx)(x:Str):Prop:=X.env.kindOf x=some .globalImplicit
theorem b5o{E:Value->Shared->Prop}{pins:List (Addr × Obj)}{s:Shared}{σ:St}{H:Hp}{x:Str}{u:Value}{pos:Pos}{Q:Value->Shared->Prop}(I:Inv X pins σ H s)(hg:Gl X x)(hm:X.mg x=some u)(h:Q u s)
  (hd:(x == ("__debug__" : Str))=false:=by decide):wpAny (model X.prog X.w) X.A (eval (.Name x pos) X.env) Q E s:=
 Calls.Name_function_global I.ok.kind hg (Calls.loadGlobal_global (by rw [I.ok.glob];exact I.mod.glob.keeps I.bk) hm h) hd
theorem a9n{E:Value->Shared->Prop}{pins:List (Addr × Obj)}{s:Shared}{σ:St}{H:Hp}{x:Str}{u:Value}{pos:Pos}{Q:Value->Shared->Prop}(I:Inv X pins σ H s)(hg:Gl X x)(hm:X.mg x=none)(hv:bootBuiltins x=some u)(h:Q u s)
  (hn:x ≠ "__name__":=by decide) (hd:(x == ("__debug__" : Str))=false:=by decide):wpAny (model X.prog X.w) X.A (eval (.Name x pos) X.env) Q E s:=by
 obtain⟨mb,h1,h2⟩:=I.mod.blt
 exact Calls.Name_function_global I.ok.kind hg (Calls.loadGlobal_builtin (by rw [I.ok.glob];exact I.mod.glob.keeps I.bk) hm (by rw [I.ok.blt];exact h1.keeps I.bk) ((h2 x hn).trans hv) h) hd
theorem b1w{x:Str}{v:V}{u:Value}{pos:Pos}(hg:Gl X x)(hm:X.mg x=some u)(r:RelV v u) (hd:(x == ("__debug__" : Str))=false:=by decide):PE X (.Name x pos) (tC v):=
 fun _ _ _ H _ I h=>b5o I hg hm ⟨v,H,I,r,h⟩ hd
theorem d4b{x:Str}{v:V}{u:Value}{pos:Pos}(hg:Gl X x)(hm:X.mg x=none)(hv:bootBuiltins x=some u)(r:RelV v u) (hn:x ≠ "__name__":=by decide) (hd:(x == ("__debug__" : Str))=false:=by decide):PE X (.Name x pos) (tC v):=
 fun _ _ _ H _ I h=>a9n I hg hm hv ⟨v,H,I,r,h⟩ hn hd
variable{a b:Expr}{ta tb:TE}{pos:Pos}
def tB(t:TE):TT:=fun σ H Q=>t σ H fun x H1=>∃ c,x=.bl c/\Q c H1
theorem b3x{e:Expr}{t:TE}(h:PE X e t)(he:∀ whole,isTrue e X.env whole=(do let v ← whole;standAt e.pos;holding [v] (truthy v)):=by intro _;rfl):PT X e (tB t):=by
 intro pins s σ H Q I hw
 refine isTrue_plain (thn (h pins s σ H _ I hw) fun v s1 hq8=>?_) (he _)
 obtain⟨x,H1,I1,r1,q1⟩:=hq8
 obtain⟨d,rfl,q⟩:=q1
 cases r1
 exact wpAny_truthy_bool ⟨H1,I1,q⟩
variable{tA tB':TT}{rest:List Expr}
def tAnd(t u:TT):TT:=fun σ H Q=>t σ H fun c H1=>if c=true then u σ H1 Q else Q false H1
def tOr(t u:TT):TT:=fun σ H Q=>t σ H fun c H1=>if c=true then Q true H1 else u σ H1 Q
def tNot(t:TT):TT:=fun σ H Q=>t σ H fun c H1=>Q (!c) H1
theorem d4c(ha:PT X a tA):PW X (.BoolOp .And [a] pos) tA:=by
 intro wh pins s σ H Q I h
 refine isTrue_and (thn (ha pins s σ H Q I h) fun c s1 e=>?_)
 cases c with
 | true=>exact isTrue_and_nil e
 | false=>exact e
theorem c6h(ha:PT X a tA):PW X (.BoolOp .Or [a] pos) tA:=by
 intro wh pins s σ H Q I h
 refine isTrue_or (thn (ha pins s σ H Q I h) fun c s1 e=>?_)
 cases c with
 | false=>exact isTrue_or_nil e
 | true=>exact e
theorem d8y(ha:PT X a tA)(hb:PW X (.BoolOp .And (b :: rest) pos) tB'):PW X (.BoolOp .And (a :: b :: rest) pos) (tAnd tA tB'):=by
 intro wh pins s σ H Q I h
 refine isTrue_and (thn (ha pins s σ H _ I h) fun c s1 hq9=>?_)
 obtain⟨H1,I1,q1⟩:=hq9
 cases c with
 | true=>exact hb wh pins s1 σ H1 Q I1 q1
 | false=>exact⟨H1,I1,q1⟩
theorem d3a(ha:PT X a tA)(hb:PW X (.BoolOp .Or (b :: rest) pos) tB'):PW X (.BoolOp .Or (a :: b :: rest) pos) (tOr tA tB'):=by
 intro wh pins s σ H Q I h
 refine isTrue_or (thn (ha pins s σ H _ I h) fun c s1 hq9=>?_)
 obtain⟨H1,I1,q1⟩:=hq9
 cases c with
 | true=>exact⟨H1,I1,q1⟩
 | false=>exact hb wh pins s1 σ H1 Q I1 q1
theorem b8n(ha:PT X a tA):PT X (.UnaryOp .Not a pos) (tNot tA):=by
 intro pins s σ H Q I h
 exact isTrue_not (ha pins s σ H (fun c H1=>Q (!c) H1) I h)
def d3b(ta tb:TE):TE:=fun σ H Q=>ta σ H fun x H1=>∃ c,x=.bl c/\if c=true then tb σ H1 Q else Q (.bl false) H1
def d3c(ta:TE):TE:=fun σ H Q=>ta σ H fun x H1=>∃ c,x=.bl c/\Q (.bl (!c)) H1
theorem b8o{op}{t:TE}(h:PE X a t):PE X (.BoolOp op [a] pos) t:=fun pins s σ H Q I hw=>BoolOp_one (h pins s σ H Q I hw)
theorem b3y(ha:PE X a ta)(hb:PE X (.BoolOp .And (b :: rest) pos) tb):PE X (.BoolOp .And (a :: b :: rest) pos) (d3b ta tb):=by
 intro pins s σ H Q I h
 refine BoolOp_and (thn (ha pins s σ H _ I h) fun v s1 hq9=>?_)
 obtain⟨x,H1,I1,r1,q1⟩:=hq9
 obtain⟨c,rfl,q1⟩:=q1
 cases r1
 refine wpAny_truthy_bool ?_
 cases c with
 | true=>exact hb pins s1 σ H1 Q I1 q1
 | false=>exact⟨.bl false,H1,I1,rfl,q1⟩
theorem d8z(ha:PE X a ta):PE X (.UnaryOp .Not a pos) (d3c ta):=by
 intro pins s σ H Q I h
 refine UnaryOp_ (thn (ha pins s σ H _ I h) fun v s1 hq9=>?_)
 obtain⟨x,H1,I1,r1,q1⟩:=hq9
 obtain⟨c,rfl,q1⟩:=q1
 cases r1
 exact not_of (wpAny_truthy_bool ⟨.bl (!c),H1,I1,rfl,q1⟩)
end
end L2
namespace L2
open PySem PySem.Spec PyProof.Rows
def SqL(K:W.Frag)(H:Hp)(a:Addr)(xs:List V):Prop:=
 Rd H a (.lst xs) ∨
  ∃ (o:Obj) (its:Array Value) (n:Nat),K.lookup a=some o/\o.cls=.type "list" /\ o.dict=none/\o.data=.seq its n/\its.size <= sizeLine/\Vals xs its.toList
def SqT(K:W.Frag)(H:Hp)(a:Addr)(xs:List V):Prop:=
 Rd H a (.tup xs) ∨
  ∃ (o:Obj) (its:Array Value) (n:Nat),K.lookup a=some o/\(o.cls=.type "tuple" /\ o.dict=none)/\o.data=.seq its n/\its.size <= sizeLine/\Vals xs its.toList
noncomputable def absV:Value->Option V
 | .none=>some .non
 | .bool b=>some (.bl b)
 | .int i _=>some (.int i)
 | .str x _=>some (.str x)
 | .bytes b _=>some (.byt b)
 | .float b _=>some (.flt b)
 | .ref a=>some (.ref a)
 | .type n=>some (.ty n)
 | _=>none
theorem RelV.abs{x:V}{u:Value}(r:RelV x u):absV u=some x:=by
 cases x with
 | non=>cases r;rfl
 | bl _=>cases r;rfl
 | int _=>obtain⟨t,rfl⟩:=r;rfl
 | str _=>obtain⟨t,rfl⟩:=r;rfl
 | byt _=>obtain⟨t,rfl⟩:=r;rfl
 | flt _=>obtain⟨t,rfl⟩:=r;rfl
 | ref _=>cases r;rfl
 | ty _=>cases r;rfl
theorem RelV.inj{x y:V}{u:Value}(r:RelV x u)(q:RelV y u):x=y:=Option.some.inj (r.abs.symm.trans q.abs)
theorem Vals.inj:∀ {xs ys:List V} {us:List Value},Vals xs us->Vals ys us->xs=ys
 | _,_,_,.nil,.nil=>rfl
 | _,_,_,.cons r t,.cons r' t'=>by rw [r.inj r',Vals.inj t t']
section
variable{X:Cx}{pins:List (Addr × Obj)}{σ:St}{H:Hp}{s:Shared}{a:Addr}{xs ys:List V}
theorem SqL.of{K:W.Frag}(h:H a=some (.lst xs)):SqL K H a xs:=.inl (.inl h)
theorem SqT.of{K:W.Frag}(h:H a=some (.tup xs)):SqT K H a xs:=.inl (.inl h)
theorem Inv.list(I:Inv X pins σ H s)(h:SqL X.K H a xs):∃ its:List Value,Vals xs its/\PlainL s.heap a its.toArray/\xs.length <= sizeLine:=by
 rcases h with h | ⟨o,its,n,hk,hc,hd,hs,hz,r⟩
 ·obtain⟨z,its,n,r,e⟩:=h.ok I.hok
  exact⟨its,r,⟨_,n,e,rfl,rfl,rfl⟩,z⟩
 ·refine⟨its.toList,r,⟨o,n,I.kIn a o hk,hc,hd,by simpa using hs⟩,?_⟩
  have e:=r.length
  simp only [Array.length_toList] at e
  omega
theorem Inv.tupleP(I:Inv X pins σ H s)(h:SqT X.K H a xs):∃ its:List Value,Vals xs its/\a5f s.heap a its.toArray/\xs.length <= sizeLine:=by
 rcases h with h | ⟨o,its,n,hk,hc,hs,hz,r⟩
 ·obtain⟨z,its,r,p⟩:=h.ok I.hok
  exact⟨its,r,p,z⟩
 ·refine⟨its.toList,r,⟨o,I.kIn a o hk,hc,n,by simpa using hs⟩,?_⟩
  have e:=r.length
  simp only [Array.length_toList] at e
  omega
theorem Inv.tuple(I:Inv X pins σ H s)(h:SqT X.K H a xs):∃ its:List Value,Vals xs its/\IsTup s.heap a its.toArray/\xs.length <= sizeLine:=by obtain⟨its,r,p,z⟩:=I.tupleP h;exact⟨its,r,p.tup,z⟩
theorem Inv.list_inj(I:Inv X pins σ H s)(h:SqL X.K H a xs)(h':SqL X.K H a ys):xs=ys:=by
 obtain⟨its,r,⟨o,n,e,_,_,d⟩,_⟩:=I.list h
 obtain⟨its',r',⟨o',n',e',_,_,d'⟩,_⟩:=I.list h'
 rw [e] at e';cases e'
 rw [d] at d'
 injection d' with d1 _
 have:its=its':=by simpa using congrArg Array.toList d1
 subst this
 exact r.inj r'
theorem Inv.tuple_inj(I:Inv X pins σ H s)(h:SqT X.K H a xs)(h':SqT X.K H a ys):xs=ys:=by
 obtain⟨its,r,⟨o,e,_,n,d⟩,_⟩:=I.tuple h
 obtain⟨its',r',⟨o',e',_,n',d'⟩,_⟩:=I.tuple h'
 rw [e] at e';cases e'
 rw [d] at d'
 injection d' with d1 _
 have:its=its':=by simpa using congrArg Array.toList d1
 subst this
 exact r.inj r'
end
abbrev Cx.wish(X:Cx)(E:Value->Shared->Prop):Cx:={ X with xe:=E }
abbrev Cx.nox(X:Cx):Cx:=X.wish fun _ _=>False
theorem Cx.Ok.wish{X:Cx}(ok:X.Ok)(E:Value->Shared->Prop):(X.wish E).Ok:=
 ⟨ok.mod,ok.kind,ok.glob,ok.blt,ok.above,ok.inj,ok.has,ok.cab,ok.hd,ok.frames,ok.stk,ok.exf,ok.bs,ok.bsz,ok.noex,ok.exfs,ok.funs,ok.frf⟩
theorem Cx.Ok.unwish{X:Cx}{E:Value->Shared->Prop}(ok:(X.wish E).Ok):X.Ok:=
 ⟨ok.mod,ok.kind,ok.glob,ok.blt,ok.above,ok.inj,ok.has,ok.cab,ok.hd,ok.frames,ok.stk,ok.exf,ok.bs,ok.bsz,ok.noex,ok.exfs,ok.funs,ok.frf⟩
section
variable{X:Cx}{pins:List (Addr × Obj)}{σ:St}{H:Hp}{s:Shared}{E:Value->Shared->Prop}
theorem Inv.wish(I:Inv X pins σ H s)(E:Value->Shared->Prop):Inv (X.wish E) pins σ H s:=⟨I.ok.wish E,I.os,I.bare,I.base,I.loc,I.cell,I.free,I.freeC,I.pin,I.hok,I.len⟩
theorem Inv.unwish(I:Inv (X.wish E) pins σ H s):Inv X pins σ H s:=⟨I.ok.unwish,I.os,I.bare,I.base,I.loc,I.cell,I.free,I.freeC,I.pin,I.hok,I.len⟩
theorem SP.unwish{D:Ends}{f:Flow}{s':Shared}(h:SP (X.wish E) pins D f s'):SP X pins D f s':=by
 cases f with
 | next=>obtain⟨σ',H',I,q⟩:=h;exact⟨σ',H',I.unwish,q⟩
 | brk=>obtain⟨σ',H',I,q⟩:=h;exact⟨σ',H',I.unwish,q⟩
 | cont=>obtain⟨σ',H',I,q⟩:=h;exact⟨σ',H',I.unwish,q⟩
 | ret u=>obtain⟨v,σ',H',I,r,q⟩:=h;exact⟨v,σ',H',I.unwish,r,q⟩
theorem PSs.nox{st:List Stmt}{t:TS}(h:PSs X.nox st t):PSs X st t:=fun pins s σ H D I hw =>
 wpAny_mono (h pins s σ H D (I.wish _) hw) (fun _ _ q=>q.unwish) fun _ _ z=>False.elim z
end
section
variable{X:Cx}{st:Stmt}{rest:List Stmt}{t u:TS}{e:Expr}{te:TE}{pos:Pos}
def d3d:TS:=fun D σ H=>D.nx σ H
def tSeq(t u:TS):TS:=fun D σ H=>t { D with nx:=u D } σ H
theorem a4a:PSs X [] d3d:=fun _ _ σ H _ I h=>wpAny_execs_nil ⟨σ,H,I,h⟩
theorem a0v(h1:PS X st t)(h2:PSs X rest u):PSs X (st :: rest) (tSeq t u):=by
 intro pins s σ H D I h
 refine wpAny_execs_cons (thn (h1 pins s σ H { D with nx:=u D } I h) fun f s1 q=>?_)
 cases f with
 | next =>
  obtain⟨σ',H',I',q⟩:=q
  exact h2 pins s1 σ' H' D I' q
 | ret v=>exact q
 | brk=>exact q
 | cont=>exact q
theorem a1n(h1:PS X st t):PSs X [st] t:=by
 intro pins s σ H D I h
 refine wpAny_execs_cons (thn (h1 pins s σ H D I h) fun f s1 q=>?_)
 cases f with
 | next=>exact wpAny_execs_nil q
 | ret v=>exact q
 | brk=>exact q
 | cont=>exact q
theorem Inv.quiet{pins:List (Addr × Obj)}{σ:St}{H:Hp}{s:Shared}(I:Inv X pins σ H s):interactive X.env=false:=by simp [interactive,I.ok.kind]
def d3e(te:TE):TS:=fun D σ H=>te σ H fun _ H1=>D.nx σ H1
theorem b5p(he:PE X e te)(hs:swapsWith e none pos.line X.env=pure false:=by rfl):PS X (.Expr e pos) (d3e te):=by
 intro pins s σ H D I h
 exact wpAny_Expr_any (thn (he pins s σ H _ I h) fun v s1 hq8=>by obtain⟨x,H1,I1,r1,q1⟩:=hq8;exact⟨σ,H1,I1,q1⟩) I.quiet hs
def tRet(te:TE):TS:=fun D σ H=>te σ H D.rt
theorem a2j(he:PE X e te):PS X (.Return (some e) pos) (tRet te):=by
 intro pins s σ H D I h
 exact wpAny_Return_some (thn (he pins s σ H _ I h) fun v s1 hq8=>by obtain⟨x,H1,I1,r1,q1⟩:=hq8;exact⟨x,σ,H1,I1,r1,q1⟩)
def tIfS(c:TT)(t u:TS):TS:=fun D σ H=>c σ H fun b H1=>if b=true then t D σ H1 else u D σ H1
theorem a6w{c:Expr}{a b:List Stmt}{tc:TT}(hc:PT X c tc)(ha:PSs X a t)(hb:PSs X b u):PS X (.If c a b pos) (tIfS tc t u):=by
 intro pins s σ H D I h
 refine wpAny_If (thn (hc pins s σ H _ I h) fun d s1 hq9=>?_)
 obtain⟨H1,I1,q1⟩:=hq9
 cases d with
 | true=>exact ha pins s1 σ H1 D I1 q1
 | false=>exact hb pins s1 σ H1 D I1 q1
end
abbrev TG:=V->St->Hp->(St->Hp->Prop)->Prop
abbrev TGs:=List V->St->Hp->(St->Hp->Prop)->Prop
def PG(X:Cx)(target:Expr)(t:TG):Prop:=
 ∀ (pins:List (Addr × Obj)) (s:Shared) (σ:St) (H:Hp) (v:V) (u:Value) (Q:St->Hp->Prop),Inv X pins σ H s->RelV v u->t v σ H Q ->
  wpAny (model X.prog X.w) X.A (assign target X.env u) (fun _ s'=>∃ σ' H',Inv X pins σ' H' s'/\Q σ' H') X.xe s
def PGs(X:Cx)(ts:List Expr)(t:TGs):Prop:=
 ∀ (pins:List (Addr × Obj)) (s:Shared) (σ:St) (H:Hp) (vs:List V) (us:List Value) (Q:St->Hp->Prop),Inv X pins σ H s->Vals vs us->t vs σ H Q ->
  wpAny (model X.prog X.w) X.A (assignInOrder ((assignEach ts X.env).map (·.2)) us) (fun _ s'=>∃ σ' H',Inv X pins σ' H' s'/\Q σ' H') X.xe s
abbrev TSet:=V->V->V->Hp->(Hp->Prop)->Prop
def PSet(X:Cx)(t:TSet):Prop:=
 ∀ (pins:List (Addr × Obj)) (s:Shared) (σ:St) (H:Hp) (o i v:V) (ov iv u:Value) (Q:Hp->Prop),Inv X pins σ H s->RelV o ov->RelV i iv->RelV v u->t o i v H Q ->
  wpAny (model X.prog X.w) X.A (setItem ov iv u) (fun _ s'=>∃ H',Inv X pins σ H' s'/\Q H') X.xe s
section
variable{X:Cx}{pos:Pos}
noncomputable def a7o(i:Nat):TG:=fun v σ H Q=>Q (σ.set i (some v)) H
theorem d4d{i:Nat}{x:Str}(hN:X.N.Nodup)(hi:X.N[i]? = some x)(hx:Loc X.env.scope x)(hf:X.fn x=true ∨ X.env.scope.names.lookup x=some .local:=by first | exact .inl rfl | exact .inr rfl | assumption):PG X (.Name x pos) (a7o i):=by
 intro pins s σ H v u Q I r h
 exact wpAny_assign_Name (b8m I hN hi hx r (fun s' I'=>⟨_,H,I',h⟩) hf)
noncomputable def gNil:TGs:=fun vs σ H Q=>vs=[]/\Q σ H
noncomputable def d3f(t:TG)(u:TGs):TGs:=fun vs σ H Q=>∃ v r,vs=v :: r/\t v σ H fun σ' H'=>u r σ' H' Q
theorem d4e:PGs X [] gNil:=by
 intro pins s σ H vs us Q I r h
 obtain⟨e,h⟩:=h
 subst e
 cases r
 exact assignInOrder_nil ⟨σ,H,I,h⟩
theorem c9f{e:Expr}{es:List Expr}{t:TG}{u:TGs}(h1:PG X e t)(h2:PGs X es u)
  (hs:(assignEach (e :: es) X.env).map (·.2)=assign e X.env :: (assignEach es X.env).map (·.2):=by rfl):PGs X (e :: es) (d3f t u):=by
 intro pins s σ H vs us Q I r h
 obtain⟨v,vr,e1,h⟩:=h
 subst e1
 cases r with
 | cons r rr =>
  rw [hs]
  refine assignInOrder_cons (thn (h1 pins s σ H _ _ _ I r h) fun _ s1 hq9=>?_)
  obtain⟨σ1,H1,I1,q1⟩:=hq9
  exact h2 pins s1 σ1 H1 _ _ Q I1 rr q1
noncomputable def gTup(K:W.Frag)(n:Nat)(t:TGs):TG:=fun v σ H Q=>∃ a xs,v=.ref a/\SqT K H a xs/\xs.length=n/\t xs σ H Q
theorem d9a{es:List Expr}{k:Nat}{t:TGs}{n:Nat}(hc:X.calm=true)(h:PGs X es t)
  (hn:(assignEach es X.env).length=n:=by rfl) (hst:(assignEach es X.env).findIdx? (·.1)=none:=by rfl):PG X (.Tuple es k pos) (gTup X.K n t):=by
 intro pins s σ H v u Q I r hw
 obtain⟨a,xs,e1,hq,hl,hw⟩:=hw
 subst e1
 cases r
 obtain⟨its,rv,ht,hz⟩:=I.tuple hq
 refine assign_Tuple_tuple (I.ok.hd hc) ht (by simp [hn,← hl,rv.length]) hst fun h' hx=>?_
 have I1:Inv X pins σ H { s with heap:=h' }:=I.kept (t':=s.toks) fun b o e=>hx b o (ne_of_lt (lt_size e)) e
 exact h pins _ σ H xs _ Q I1 (by simpa using rv) hw
def gSub(to ti:TE)(t:TSet):TG:=fun v σ H Q=>to σ H fun o H1=>ti σ H1 fun i H2=>t o i v H2 fun H3=>Q σ H3
theorem d9b{o i:Expr}{to ti:TE}{t:TSet}(ho:PE X o to)(hi:PE X i ti)(hs:PSet X t)
  (ha:∀ v,assign (.Subscript o i pos) X.env v=(do
   let ov ← holding [v] (eval o X.env)
   let iv ← holding [v,ov] (eval i X.env)
   standAt pos
   holding [v,ov,iv] (setItem ov iv v)
   release [v,ov,iv] []):=by intro _;rfl):PG X (.Subscript o i pos) (gSub to ti t):=by
 intro pins s σ H v u Q I r h
 rw [ha]
 refine wpAny_bind (wpAny_holding (thn (ho pins s σ H _ I h) fun ov s1 hq9=>?_))
 obtain⟨x,H1,I1,r1,q1⟩:=hq9
 refine wpAny_bind (wpAny_holding (thn (hi pins s1 σ H1 _ I1 q1) fun iv s2 hq9=>?_))
 obtain⟨y,H2,I2,r2,q2⟩:=hq9
 refine wpAny_bind (wpAny_standAt (wpAny_bind (wpAny_holding (thn (hs pins s2 σ H2 x y v ov iv u _ I2 r1 r2 r q2) fun _ s3 hq9=>?_))))
 obtain⟨H3,I3,q3⟩:=hq9
 exact wpAny_release ⟨σ,H3,I3,q3⟩
def tAsg(te:TE)(g:TG):TS:=fun D σ H=>te σ H fun x H1=>g x σ H1 D.nx
theorem d9c{tg e:Expr}{te:TE}{g:TG}(he:PE X e te)(hg:PG X tg g)(hs:swapsWithSole [tg] e pos.line X.env=pure false:=by rfl)(hw:swappedStores [tg] e X.env=pure none:=by rfl)
  (h1:(assignEach [tg] X.env).map (·.2)=[assign tg X.env]:=by rfl):PS X (.Assign [tg] e pos) (tAsg te g):=by
 intro pins s σ H D I h
 refine wpAny_Assign_stores (thn (he pins s σ H _ I h) fun v s1 hq8=>?_) hs hw
 obtain⟨x,H1,I1,r1,q1⟩:=hq8
 rw [h1]
 exact thn (hg pins s1 σ H1 x v _ I1 r1 q1) fun _ s2 q=>q
theorem a2y{i:Nat}{x:Str}{e:Expr}{te:TE}{pos':Pos}(hN:X.N.Nodup)(hi:X.N[i]? = some x)(hx:Loc X.env.scope x)(he:PE X e te)(hs:swapsWith e (some (.Name x pos')) pos.line X.env=pure false:=by rfl)(hf:X.fn x=true ∨ X.env.scope.names.lookup x=some .local:=by first | exact .inl rfl | exact .inr rfl | assumption) :
  PS X (.Assign [.Name x pos'] e pos) (tAsg te (a7o i)):=by
 intro pins s σ H D I h
 refine wpAny_Assign_Name (thn (he pins s σ H _ I h) fun v s1 hq8=>?_) hs
 obtain⟨y,H1,I1,r1,q1⟩:=hq8
 exact b8m I1 hN hi hx r1 (fun s2 I2=>⟨_,H1,I2,q1⟩) hf
end
section
variable{X:Cx}{pos:Pos}
def c6i(c:TT)(tb:TS):TS:=fun D σ H=>∃ W:Nat->St->Hp->Prop,(∃ m,W m σ H)/\∀ m σ H,W m σ H ->
 c σ H fun b H1=>if b=true then ∃ N:St->Hp->Prop,(∀ σ' H',N σ' H'->∃ m',m' < m/\W m' σ' H')/\tb { D with nx:=N,ct:=N,bk:=D.nx } σ H1 else D.nx σ H1
theorem b8p{c:Expr}{body:List Stmt}{tc:TT}{tb:TS}(hp:PassesOwn (model X.prog X.w) X.A X.env X.xe)(hc:PT X c tc)(hb:PSs X body tb):PS X (.While c body [] pos) (c6i tc tb):=by
 intro pins s σ H D I h
 obtain⟨W,⟨m0,w0⟩,turn⟩:=h
 refine wpAny_While (codeAny_whileLoop (fun n s'=>∃ σ' H',Inv X pins σ' H' s'/\W n σ' H') ?_ m0 ⟨σ,H,I,w0⟩)
 rintro n s1 ⟨σ1,H1,I1,w1⟩
 refine wpAny_passesOwn hp (thn (hc pins s1 σ1 H1 _ I1 (turn n σ1 H1 w1)) fun b s2 hq9=>?_)
 obtain⟨H2,I2,q2⟩:=hq9
 cases b with
 | true =>
  obtain⟨N,hN,q2⟩:=q2
  rw [if_pos rfl]
  refine wpAny_passesOwn hp (thn (hb pins s2 σ1 H2 _ I2 q2) fun f s3 q3=>?_)
  cases f with
  | next =>
   obtain⟨σ3,H3,I3,n3⟩:=q3
   obtain⟨m',hm,w3⟩:=hN σ3 H3 n3
   exact⟨m',hm,σ3,H3,I3,w3⟩
  | cont =>
   obtain⟨σ3,H3,I3,n3⟩:=q3
   obtain⟨m',hm,w3⟩:=hN σ3 H3 n3
   exact⟨m',hm,σ3,H3,I3,w3⟩
  | brk=>exact q3
  | ret v=>exact q3
 | false =>
  rw [if_neg Bool.false_ne_true]
  exact wpAny_execs_nil ⟨σ1,H2,I2,q2⟩
end
structure It where
 go:Nat->Hp->Prop
 yld:Nat->Hp->V->Hp->Prop
 stop:Nat->Hp->Prop
def FpOk(X:Cx)(pins:List (Addr × Obj))(H:Hp)(b:Addr):Prop:=
 H b=none/\b ≠ X.env.locals/\b ∉ X.fs/\(b ∈ X.ex ∨ X.s₀.heap.objs.size <= b)/\(∀ x c,X.env.cells.lookup x=some c->c ≠ b)/\∀ p ∈ X.pn ++ pins,p.1 ≠ b
theorem Inv.fpOk{X:Cx}{pins:List (Addr × Obj)}{σ:St}{H H':Hp}{s:Shared}{b:Addr}(I:Inv X pins σ H s)(hb:s.heap.objs.size <= b)(hn:H' b=none):FpOk X pins H' b:=by
 refine⟨hn,ne_of_gt (lt_of_lt_of_le I.lt hb),I.nofs hb,.inr (Nat.le_trans I.sz hb),fun x c e z=>?_,fun p hp z=>?_⟩
 ·obtain⟨v,q⟩:=I.cell x c e
  exact absurd (lt_of_lt_of_le q.lt (by rw [z];exact hb)) (lt_irrefl _)
 ·exact absurd (lt_of_lt_of_le (lt_size (I.pin p hp).1) (by rw [z];exact hb)) (lt_irrefl _)
structure Turn(P:Program)(w:World)(K:W.Frag)(tg:Expr)(J:It)(fp:List Addr)(it:Addr)(tn:Nat->Heap->Prop):Prop where
 mem:it ∈ fp
 obj:∀ i h,tn i h->∀ b ∈ fp,∃ o,h.get? b=some o/\∀ v,o.data ≠ .cell v
 keep:∀ i h h',tn i h->(∀ b ∈ fp,∀ o,h.get? b=some o->h'.get? b=some o)->tn i h'
 item:∀ (X:Cx),X.prog=P->X.w=w->X.K=K->X.calm=true->∀ (i:Nat) (pins:List (Addr × Obj)) (s:Shared) (σ:St) (H:Hp) (E:Value->Shared->Prop),Inv X pins σ H s->(∀ b ∈ fp,FpOk X pins H b)->tn i s.heap->J.go i H ->
  wpAny (model P w) X.A (pyNext (.ref it)) (fun r s1=>∃ u,r=some u /\
   wpAny (model P w) X.A (letOwnedTupleGo tg (.ref it) u) (fun _ s2=>∃ x H',Inv X pins σ H' s2/\RelV x u/\J.yld i H x H'/\tn (i + 1) s2.heap/\∀ b ∈ fp,H' b=none) E s1) E s
 done:∀ (X:Cx),X.prog=P->X.w=w->X.K=K->X.calm=true->∀ (i:Nat) (pins:List (Addr × Obj)) (s:Shared) (σ:St) (H:Hp) (E:Value->Shared->Prop),Inv X pins σ H s->(∀ b ∈ fp,FpOk X pins H b)->tn i s.heap->J.stop i H ->
  wpAny (model P w) X.A (pyNext (.ref it)) (fun r s1=>r=none/\Inv X pins σ H s1) E s
 self:∀ (A:Around) (i:Nat) (s:Shared) (Q:Value->Shared->Prop) (E:Value->Shared->Prop),tn i s.heap->Q (.ref it) s->wpAny (model P w) A (pyIter (.ref it)) Q E s
abbrev TI:=St->Hp->(It->Hp->Prop)->Prop
def PIE(X:Cx)(pins:List (Addr × Obj))(σ:St)(tg:Expr)(R:It->Hp->Prop)(itv:Value)(s2:Shared):Prop:=
 ∃ (it:Addr) (fp:List Addr) (tn:Nat->Heap->Prop) (J:It) (H':Hp),itv=.ref it/\Inv X pins σ H' s2/\Turn X.prog X.w X.K tg J fp it tn/\tn 0 s2.heap/\(∀ b ∈ fp,FpOk X pins H' b)/\R J H'
def PI(X:Cx)(tg iter:Expr)(wi:TI):Prop:=
 ∀ (pins:List (Addr × Obj)) (s:Shared) (σ:St) (H:Hp) (R:It->Hp->Prop),Inv X pins σ H s->wi σ H R ->
  wpAny (model X.prog X.w) X.A (eval iter X.env) (fun v s1=>wpAny (model X.prog X.w) X.A (pyIter v) (PIE X pins σ tg R) X.xe s1) X.xe s
theorem b1x{M:Model}{A:Around}{E:Value->Shared->Prop}{s:Shared}{tg:Expr}{it:Addr}{u:Value}{o:Obj}{n:String}{vs:Array Value}{Q:Unit->Shared->Prop}(ho:s.heap.get? it=some o)(hc:o.cls=.type n)(hd:o.data=.fields vs)
  (hn:["enumerate","zip","dict_itemiterator","dict_reverseitemiterator","odict_iterator","itertools.zip_longest","itertools.pairwise"].contains n=false) (hQ:Q () s):wpAny M A (letOwnedTupleGo tg (.ref it) u) Q E s:=by
 unfold letOwnedTupleGo
 cases tg<;>first
  | exact wpAny_pure hQ
  | (cases u<;>first
    | exact wpAny_pure hQ
    | (
      refine wpAny_bind (wpAny_load ho ?_)
      rw [hc,hd]
      show wpAny M A (if (["enumerate","zip","dict_itemiterator","dict_reverseitemiterator","odict_iterator","itertools.zip_longest","itertools.pairwise"].contains n && vs[0]? == some (rawInt _))=true then _ else _) Q E s
      rw [if_neg (by intro h;rw [hn,Bool.false_and] at h;cases h)]
      exact wpAny_pure hQ))
noncomputable def Itl(K:W.Frag)(a:Addr):It:=
 ⟨fun i H=>∃ xs x,SqL K H a xs/\xs[i]? = some x,fun i H x H'=>H'=H/\∀ xs,SqL K H a xs->xs[i]? = some x,fun i H=>∃ xs,SqL K H a xs/\xs.length <= i⟩
noncomputable def Itt(K:W.Frag)(a:Addr):It:=
 ⟨fun i H=>∃ xs x,SqT K H a xs/\xs[i]? = some x,fun i H x H'=>H'=H/\∀ xs,SqT K H a xs->xs[i]? = some x,fun i H=>∃ xs,SqT K H a xs/\xs.length <= i⟩
noncomputable def Itr(lo:Int)(n:Nat):It:=⟨fun i _=>i < n,fun i H x H'=>H'=H/\x=.int (lo + i),fun i _=>n <= i⟩
theorem c6j{P:Program}{w:World}{K:W.Frag}{tg:Expr}(a it:Addr):Turn P w K tg (Itl K a) [it] it (fun i h=>h.IsListIter it a i) where
 mem:=by simp
 obj:=fun i h st b hb=>by
  have e:b=it:=by simpa using hb
  subst e
  obtain⟨o,e,c,d⟩:=st
  exact⟨o,e,fun v z=>by rw [d] at z;cases z⟩
 keep:=fun i h h' st k=>st.at fun o e=>k it (by simp) o e
 item:=by
  intro X hP hw hK hc i pins s σ H E I hf st hg
  subst hP hw hK
  obtain⟨xs,x,hq,hx⟩:=hg
  obtain⟨its,rv,p,hz⟩:=I.list hq
  obtain⟨u,hu,ru⟩:=rv.get hx
  obtain⟨f0,f1,f2,f3,f4,f5⟩:=hf it (by simp)
  refine wpAny_pyNext_list_item st p.isList (x:=u) (by simpa using hu) fun h' st' sb=>?_
  have I1:Inv X pins σ H { s with heap:=h' }:=I.turned (t':=s.toks) (fun b o hb e=>(sb.2 b hb).trans e) f0 f1 f3 f4 f5
  obtain⟨o,e,c,d⟩:=id st'
  exact⟨u,rfl,b1x (s:={ s with heap:=h' }) e c d (by decide) ⟨x,H,I1,ru,⟨rfl,fun ys hy=>by rw [I.list_inj hy hq];exact hx⟩,st',fun b hb=>(hf b hb).1⟩⟩
 done:=by
  intro X hP hw hK hc i pins s σ H E I hf st hg
  subst hP hw hK
  obtain⟨xs,hq,hx⟩:=hg
  obtain⟨its,rv,p,hz⟩:=I.list hq
  obtain⟨f0,f1,f2,f3,f4,f5⟩:=hf it (by simp)
  have hl:=rv.length
  exact wpAny_pyNext_list_end (I.ok.hd hc) st p.isList (by simp;omega) fun h' eb=>⟨rfl,I.turned (t':=s.toks) (fun b o hb e=>eb b o hb e) f0 f1 f3 f4 f5⟩
 self:=fun _ _ _ _ _ st h=>wpAny_pyIter_listiter st h
theorem c3i{P:Program}{w:World}{K:W.Frag}{tg:Expr}(a it:Addr):Turn P w K tg (Itt K a) [it] it (fun i h=>h.IsTupleIter it a i) where
 mem:=by simp
 obj:=fun i h st b hb=>by
  have e:b=it:=by simpa using hb
  subst e
  obtain⟨o,e,c,d⟩:=st
  exact⟨o,e,fun v z=>by rw [d] at z;cases z⟩
 keep:=fun i h h' st k=>st.at fun o e=>k it (by simp) o e
 item:=by
  intro X hP hw hK hc i pins s σ H E I hf st hg
  subst hP hw hK
  obtain⟨xs,x,hq,hx⟩:=hg
  obtain⟨its,rv,p,hz⟩:=I.tuple hq
  obtain⟨u,hu,ru⟩:=rv.get hx
  obtain⟨f0,f1,f2,f3,f4,f5⟩:=hf it (by simp)
  refine wpAny_pyNext_tuple_item st (show s.heap.IsTuple a its.toArray from p) (x:=u) (by simpa using hu) fun h' st' sb=>?_
  have I1:Inv X pins σ H { s with heap:=h' }:=I.turned (t':=s.toks) (fun b o hb e=>(sb.2 b hb).trans e) f0 f1 f3 f4 f5
  obtain⟨o,e,c,d⟩:=id st'
  exact⟨u,rfl,b1x (s:={ s with heap:=h' }) e c d (by decide) ⟨x,H,I1,ru,⟨rfl,fun ys hy=>by rw [I.tuple_inj hy hq];exact hx⟩,st',fun b hb=>(hf b hb).1⟩⟩
 done:=by
  intro X hP hw hK hc i pins s σ H E I hf st hg
  subst hP hw hK
  obtain⟨xs,hq,hx⟩:=hg
  obtain⟨its,rv,p,hz⟩:=I.tuple hq
  obtain⟨f0,f1,f2,f3,f4,f5⟩:=hf it (by simp)
  have hl:=rv.length
  exact wpAny_pyNext_tuple_end (I.ok.hd hc) st (show s.heap.IsTuple a its.toArray from p) (by simp;omega) fun h' eb=>⟨rfl,I.turned (t':=s.toks) (fun b o hb e=>eb b o hb e) f0 f1 f3 f4 f5⟩
 self:=fun _ _ _ _ _ st h=>wpAny_pyIter_tupleiter st h
theorem c3j{P:Program}{w:World}{K:W.Frag}{tg:Expr}(it:Addr)(lo:Int)(n:Nat):Turn P w K tg (Itr lo n) [it] it (fun i h=>IsRangeIter h it (lo + (i:Nat) * 1) ((n:Int) - (i:Nat)) 1) where
 mem:=by simp
 obj:=fun i h st b hb=>by
  have e:b=it:=by simpa using hb
  subst e
  exact⟨_,st,fun v z=>by
   have z':Data.fields _=Data.cell v:=z
   cases z'⟩
 keep:=fun i h h' st k=>k it (by simp) _ st
 item:=by
  intro X hP hw hK hc i pins s σ H E I hf st hg
  subst hP hw hK
  obtain⟨f0,f1,f2,f3,f4,f5⟩:=hf it (by simp)
  have W:=Walks.range (prog:=X.prog) (w:=X.w) (I.ok.hd hc) it lo 1 n
  refine W.item i s _ _ hg st fun v h' tk hv st' kk=>?_
  obtain⟨t,rfl⟩:=hv
  have I1:Inv X pins σ H { s with heap:=h',toks:=tk }:=I.turned (fun b o hb e=>kk b o (by simpa using hb) e) f0 f1 f3 f4 f5
  refine⟨_,rfl,b1x (s:={ s with heap:=h',toks:=tk }) (n:="range_iterator") st' rfl rfl (by decide) ⟨.int (lo + i),H,I1,⟨t,?_⟩,⟨rfl,rfl⟩,st',fun b hb=>(hf b hb).1⟩⟩
  rw [Int.mul_one]
 done:=by
  intro X hP hw hK hc i pins s σ H E I hf st hg
  subst hP hw hK
  obtain⟨f0,f1,f2,f3,f4,f5⟩:=hf it (by simp)
  exact wpAny_pyNext_range_end (I.ok.hd hc) st (by have:n <= i:=hg;omega) fun h' eb=>⟨rfl,I.turned (t':=s.toks) (fun b o hb e=>eb b o hb e) f0 f1 f3 f4 f5⟩
 self:=fun _ _ _ _ _ st h=>wpAny_pyIter_rangeiter st h
end L2
namespace L2
open PySem PySem.Spec PyProof.Rows
section
variable{X:Cx}{tg:Expr}
theorem c9g{pins:List (Addr × Obj)}{σ:St}{H:Hp}{s:Shared}{R:It->Hp->Prop}{E:Value->Shared->Prop}{lo hi:Int}{t u v:Tok}{tk:Nat}(I:Inv X pins σ H s)(h1:-(2 ^ 62) <= lo)(h2:lo < 2 ^ 62)(h3:-(2 ^ 62) <= hi)(h4:hi < 2 ^ 62)
  (q:R (Itr lo (hi - lo).toNat) H):wpAny (model X.prog X.w) X.A (pyIter (.ref s.heap.objs.size)) (PIE X pins σ tg R) E { s with heap:=s.heap.push { cls:=.type "range",data:=.fields #[.int lo t,.int hi u,.int 1 v] },toks:=tk }:=by
 refine wpAny_pyIter_range (IsRange.new ..) (small_one h1 h2 h3 h4) ?_
 have I1:Inv X pins σ H { s with heap:=s.heap.push { cls:=.type "range",data:=.fields #[.int lo t,.int hi u,.int 1 v] },toks:=tk }:=I.kept fun b o e=>get?_push_of_some _ e
 refine⟨(s.heap.push { cls:=.type "range",data:=.fields #[.int lo t,.int hi u,.int 1 v] }).objs.size,[(s.heap.push { cls:=.type "range",data:=.fields #[.int lo t,.int hi u,.int 1 v] }).objs.size],_,_,H,rfl,
  I1.kept (t':=tk) fun b o e=>get?_push_of_some _ e,c3j _ lo (hi - lo).toNat,?_,fun b hb=>?_,q⟩
 ·have e1:lo + ((0:Nat):Int) * 1=lo:=by simp
  have e2:(((hi - lo).toNat:Nat):Int) - ((0:Nat):Int)=Builtin.Range.rangeSize lo hi 1:=by rw [rangeSize_one];split<;>omega
  show IsRangeIter _ _ (lo + ((0:Nat):Int) * 1) ((((hi - lo).toNat:Nat):Int) - ((0:Nat):Int)) 1
  rw [e1,e2]
  exact get?_push_size _ rfl
 ·have e:b=(s.heap.push { cls:=.type "range",data:=.fields #[.int lo t,.int hi u,.int 1 v] }).objs.size:=by simpa using hb
  subst e
  exact I1.fpOk (Nat.le_refl _) (I1.hok.fresh (Nat.le_refl _))
def d3g(ta:TA):TI:=fun σ H R=>ta σ H fun vs H1=>∃ j:Int,vs=[.int j] /\ -(2 ^ 62) <= j/\j < 2 ^ 62/\R (Itr 0 j.toNat) H1
theorem c6k{a:Expr}{ta:TA}{p pos:Pos} (hg:Gl X "range") (hm:X.mg "range" = none) (ha:PA X [a] ta) (hs:starEach [a] X.env=[(false,eval a X.env)]:=by rfl):PI X tg (.Call (.Name "range" p) [a] [] pos) (d3g ta):=by
 intro pins s σ H R I h
 refine Call_ (a9n I hg hm boot_range (PyProof.Rows.callWith_type1 (thn (ha pos pins s σ H _ I h) fun us s1 hq8=>?_) hs rfl))
 obtain⟨vs,H1,I1,r1,q1⟩:=hq8
 obtain⟨j,e,q1,q2,q⟩:=q1
 subst e
 cases r1 with
 | cons r rr =>
  cases rr
  obtain⟨t,rfl⟩:=r
  exact call_range_1 (c9g I1 (by omega) (by omega) q1 q2 (by simpa using q))
def tFor(wi:TI)(g:TG)(tb:TS):TS:=fun D σ H=>wi σ H fun J H1=>∃ W:Nat->Nat->St->Hp->Prop,(∃ m,W 0 m σ H1)/\∀ i m σ H,W i m σ H ->
 (J.stop i H/\D.nx σ H) ∨ (J.go i H/\∃ N:St->Hp->Prop,(∀ σ' H',N σ' H'->∃ m',m' < m/\W (i + 1) m' σ' H')/\∀ x H',J.yld i H x H'->g x σ H' fun σ2 H2=>tb { D with nx:=N,ct:=N,bk:=D.nx } σ2 H2)
noncomputable def b1f(fp:List Addr)(h:Heap):List (Addr × Obj):=fp.filterMap fun b=>(h.get? b).map fun o=>(b,o)
theorem a7p{fp:List Addr}{h:Heap}{b:Addr}{o:Obj}(hb:b ∈ fp)(e:h.get? b=some o):(b,o) ∈ b1f fp h:=mem_filterMap.mpr ⟨b,hb,by rw [e];rfl⟩
theorem c6l{fp:List Addr}{h:Heap}{p:Addr × Obj}(hp:p ∈ b1f fp h):p.1 ∈ fp/\h.get? p.1=some p.2:=by
 obtain⟨b,hb,e⟩:=mem_filterMap.mp hp
 cases q:h.get? b with
 | none=>rw [q] at e;cases e
 | some o =>
  rw [q] at e
  have e':(b,o)=p:=Option.some.inj e
  subst e'
  exact⟨hb,q⟩
theorem Inv.pinned{pins:List (Addr × Obj)}{σ:St}{H:Hp}{s:Shared}{fp:List Addr}(I:Inv X pins σ H s)(hf:∀ b ∈ fp,FpOk X pins H b)(ho:∀ b ∈ fp,∃ o,s.heap.get? b=some o/\∀ v,o.data ≠ .cell v):Inv X (pins ++ b1f fp s.heap) σ H s:=
 I.pins_of fun p hp=>(mem_append.mp hp).elim (fun z=>I.pin p (mem_append_right _ z)) fun z=>by
  obtain⟨hb,e⟩:=c6l z
  obtain⟨f0,f1,f2,_⟩:=hf p.1 hb
  obtain⟨o,e',d⟩:=ho p.1 hb
  rw [e] at e';cases e'
  exact⟨e,f0,f1,f2,d⟩
theorem Inv.unpinned{pins pl:List (Addr × Obj)}{σ:St}{H:Hp}{s:Shared}(I:Inv X (pins ++ pl) σ H s):Inv X pins σ H s:=I.pins_of fun p hp=>I.pin p (mem_append_right _ (mem_append_left _ hp))
theorem d9d{iter:Expr}{body:List Stmt}{wi:TI}{g:TG}{tb:TS}{pos:Pos}(hp:PassesOwn (model X.prog X.w) X.A X.env X.xe)(hc:X.calm=true)(hi:PI X tg iter wi)(hg:PG X tg g)(hb:PSs X body tb)
  (hs:∀ x,foldedSetIterable iter X.env x=pure x:=by intro _;rfl):PS X (.For tg iter body [] pos) (tFor wi g tb):=by
 intro pins s σ H D I h
 refine wpAny_For (thn (hi pins s σ H _ I h) fun v s1 h1=>thn h1 fun itv s2 h2=>?_) hs
 obtain⟨it,fp,tn,J,H2,e,I2,T,st2,f2,W,⟨m0,w0⟩,turn⟩:=h2
 subst e
 -- what stays true of the iterator's objects through the loop
 have stat:∀ {H':Hp},(∀ b ∈ fp,H' b=none)->∀ b ∈ fp,FpOk X pins H' b:=fun hn b hb=>⟨hn b hb,(f2 b hb).2⟩
 refine codeAny_forLoop_any (fun n s'=>∃ i σ' H',Inv X pins σ' H' s'/\tn i s'.heap/\(∀ b ∈ fp,H' b=none)/\W i n σ' H') ?_ m0 ⟨0,σ,H2,I2,st2,fun b hb=>(f2 b hb).1,w0⟩
 rintro n s3 ⟨i,σ3,H3,I3,st3,fr3,w3⟩
 rcases turn i n σ3 H3 w3 with⟨stop,qn⟩ | ⟨go,N,hN,step⟩
 ·refine wpAny_passesOwn hp (thn (T.done X rfl rfl rfl hc i pins s3 σ3 H3 X.xe I3 (stat fr3) st3 stop) fun r s4 hq9=>?_)
  obtain⟨hr,I4⟩:=hq9
  subst hr
  exact wpAny_execs_nil ⟨σ3,H3,I4,qn⟩
 ·refine wpAny_passesOwn hp (thn (T.item X rfl rfl rfl hc i pins s3 σ3 H3 X.xe I3 (stat fr3) st3 go) fun r s4 hq9=>?_)
  obtain⟨u,hr,h4⟩:=hq9
  subst hr
  refine wpAny_passesOwn hp (thn h4 fun _ s5 hq9=>?_)
  obtain⟨x,H5,I5,r5,y5,st5,fr5⟩:=hq9
  have I5':=I5.pinned (stat fr5) (T.obj _ _ st5)
  refine wpAny_passesOwn hp (thn (hg _ s5 σ3 H5 x u _ I5' r5 (step x H5 y5)) fun _ s6 hq9=>?_)
  obtain⟨σ6,H6,I6,q6⟩:=hq9
  refine wpAny_passesOwn hp (thn (hb _ s6 σ6 H6 _ I6 q6) fun f s7 q7=>?_)
  have again:∀ {σ7:St} {H7:Hp},Inv X (pins ++ b1f fp s5.heap) σ7 H7 s7->N σ7 H7->∃ m,m < n/\∃ i σ' H',Inv X pins σ' H' s7/\tn i s7.heap/\(∀ b ∈ fp,H' b=none)/\W i m σ' H':=fun{σ7 H7} I7 n7=>by
   obtain⟨m',hm,w7⟩:=hN σ7 H7 n7
   refine⟨m',hm,i + 1,σ7,H7,I7.unpinned,T.keep _ _ _ st5 fun b hb o e=>(I7.pin (b,o) (mem_append_right _ (mem_append_right _ (a7p hb e)))).1,fun b hb=>?_,w7⟩
   obtain⟨o,e,d⟩:=T.obj _ _ st5 b hb
   exact(I7.pin (b,o) (mem_append_right _ (mem_append_right _ (a7p hb e)))).2.1
  cases f with
  | next=>obtain⟨σ7,H7,I7,n7⟩:=q7;exact again I7 n7
  | cont=>obtain⟨σ7,H7,I7,n7⟩:=q7;exact again I7 n7
  | brk=>obtain⟨σ7,H7,I7,q7⟩:=q7;exact⟨σ7,H7,I7.unpinned,q7⟩
  | ret v=>obtain⟨x7,σ7,H7,I7,r7,q7⟩:=q7;exact⟨x7,σ7,H7,I7.unpinned,r7,q7⟩
end
end L2
namespace L2
open PySem PySem.Spec PyProof.Rows
abbrev R2:=V->V->Hp->VK->Prop
def OpR(X:Cx)(f:Value->Value->Sem Value)(r:R2):Prop:=
 ∀ (pins:List (Addr × Obj)) (s:Shared) (σ:St) (H:Hp) (x y:V) (v u:Value) (Q:VK),Inv X pins σ H s->RelV x v->RelV y u->r x y H Q ->
  wpAny (model X.prog X.w) X.A (f v u) (EP X pins σ Q) X.xe s
def a3h(X:Cx)(f:Value)(r:List V->Hp->VK->Prop):Prop:=
 ∀ (pins:List (Addr × Obj)) (s:Shared) (σ:St) (H:Hp) (xs:List V) (us:List Value) (Q:VK),Inv X pins σ H s->Vals xs us->r xs H Q ->
  wpAny (model X.prog X.w) X.A (call f us) (EP X pins σ Q) X.xe s
def TruR(X:Cx)(r:V->Hp->(Bool->Hp->Prop)->Prop):Prop:=
 ∀ (pins:List (Addr × Obj)) (s:Shared) (σ:St) (H:Hp) (x:V) (v:Value) (Q:Bool->Hp->Prop),Inv X pins σ H s->RelV x v->r x H Q ->
  wpAny (model X.prog X.w) X.A (truthy v) (TP X pins σ Q) X.xe s
def tOp(r:R2)(ta tb:TE):TE:=fun σ H Q=>ta σ H fun x H1=>tb σ H1 fun y H2=>r x y H2 Q
def rI(C:Int->Int->Prop)(g:Int->Int->V):R2:=fun x y H Q=>∃ i j,x=.int i/\y=.int j/\C i j/\Q (g i j) H
def rI0(g:Int->Int->V):R2:=fun x y H Q=>∃ i j,x=.int i/\y=.int j/\Q (g i j) H
section
variable{X:Cx}{a b c:Expr}{ta tb tc:TE}{pos:Pos}
theorem binT(ha:PE X a ta)(hb:PE X b tb){pins:List (Addr × Obj)}{s:Shared}{σ:St}{H:Hp}{R:V->V->Hp->Prop}(I:Inv X pins σ H s)
  (h:ta σ H fun x H1=>tb σ H1 fun y H2=>R x y H2) {Q:Value->Shared->Prop} {f:Value->Value->Sem Value}
  (hf:∀ v u s2 x y H2,Inv X pins σ H2 s2->RelV x v->RelV y u->R x y H2->wpAny (model X.prog X.w) X.A (f v u) Q X.xe s2) :
  wpAny (model X.prog X.w) X.A (eval a X.env) (fun v s₁=>wpAny (model X.prog X.w) X.A (eval b X.env) (fun u s₂=>wpAny (model X.prog X.w) X.A (f v u) Q X.xe s₂) X.xe s₁) X.xe s:=by
 refine thn (ha pins s σ H _ I h) fun v s1 hq9=>?_
 obtain⟨x,H1,I1,r1,q1⟩:=hq9
 refine thn (hb pins s1 σ H1 _ I1 q1) fun u s2 hq9=>?_
 obtain⟨y,H2,I2,r2,q2⟩:=hq9
 exact hf v u s2 x y H2 I2 r1 r2 q2
theorem a2e{op:Operator}{r:R2}(ho:OpR X (binaryOp op) r)(ha:PE X a ta)(hb:PE X b tb):PE X (.BinOp a op b pos) (tOp r ta tb):=by
 intro pins s σ H Q I h
 exact wpAny_BinOp (binT ha hb I h fun v u s2 x y H2 I2 rx ry q=>ho pins s2 σ H2 x y v u Q I2 rx ry q)
theorem opI{f:Value->Value->Sem Value}{C:Int->Int->Prop}{g:Int->Int->Int}
  (rule:∀ (i j:Int) (t u:Tok) (s:Shared) (Q:Value->Shared->Prop) (E:Value->Shared->Prop),C i j->Q (.int (g i j) s.toks) { s with toks:=s.toks + 1 }->wpAny (model X.prog X.w) X.A (f (.int i t) (.int j u)) Q E s) :
  OpR X f (rI C fun i j=>.int (g i j)):=by
 intro pins s σ H x y v u Q I rx ry h
 obtain⟨i,j,rfl,rfl,hc,q⟩:=h
 obtain⟨t,rfl⟩:=rx
 obtain⟨t',rfl⟩:=ry
 exact rule i j t t' s _ _ hc ⟨.int (g i j),H,I.tok _,⟨_,rfl⟩,q⟩
theorem opI0{f:Value->Value->Sem Value}{g:Int->Int->Int}
  (rule:∀ (i j:Int) (t u:Tok) (s:Shared) (Q:Value->Shared->Prop) (E:Value->Shared->Prop),Q (.int (g i j) s.toks) { s with toks:=s.toks + 1 }->wpAny (model X.prog X.w) X.A (f (.int i t) (.int j u)) Q E s) :
  OpR X f (rI0 fun i j=>.int (g i j)):=by
 intro pins s σ H x y v u Q I rx ry h
 obtain⟨i,j,rfl,rfl,q⟩:=h
 obtain⟨t,rfl⟩:=rx
 obtain⟨t',rfl⟩:=ry
 exact rule i j t t' s _ _ ⟨.int (g i j),H,I.tok _,⟨_,rfl⟩,q⟩
theorem opB0{f:Value->Value->Sem Value}{g:Int->Int->Bool}
  (rule:∀ (i j:Int) (t u:Tok) (s:Shared) (Q:Value->Shared->Prop) (E:Value->Shared->Prop),Q (.bool (g i j)) s->wpAny (model X.prog X.w) X.A (f (.int i t) (.int j u)) Q E s) :
  OpR X f (rI0 fun i j=>.bl (g i j)):=by
 intro pins s σ H x y v u Q I rx ry h
 obtain⟨i,j,rfl,rfl,q⟩:=h
 obtain⟨t,rfl⟩:=rx
 obtain⟨t',rfl⟩:=ry
 exact rule i j t t' s _ _ ⟨.bl (g i j),H,I,rfl,q⟩
def CDiv(i j:Int):Prop:=0 < j/\j < 1073741824
def CPow(i j:Int):Prop:=0 <= j/\j <= 1000000/\i.natAbs < 2 ^ 64
def CMul(i j:Int):Prop:=(-(2 ^ 64) < i/\i < 2 ^ 64) ∨ (-(2 ^ 64) < j/\j < 2 ^ 64)
theorem CMul.ok{i j:Int}(h:CMul i j):IntMulOk i j:=by
 rcases h with⟨h1,h2⟩ | ⟨h1,h2⟩
 ·exact .of_left (intBits_le_64 h1 h2)
 ·exact .of_right (intBits_le_64 h1 h2)
theorem c3k(k:Nat):(0:Int) <= 2 ^ k:=by
 rw [two_pow_cast]
 exact Int.natCast_nonneg _
theorem b1g:OpR X (binaryOp .Add) (rI0 fun i j=>.int (i + j)):=opI0 fun _ _ _ _ _ _ _ q=>add_int q
theorem a3m:OpR X (binaryOp .Sub) (rI0 fun i j=>.int (i - j)):=opI0 fun _ _ _ _ _ _ _ q=>sub_int q
theorem b1h:OpR X (binaryOp .Mult) (rI CMul fun i j=>.int (i * j)):=opI fun _ _ _ _ _ _ _ hc q=>mul_int q hc.ok
theorem d4f:OpR X (binaryOp .FloorDiv) (rI CDiv fun i j=>.int (i / j)):=opI fun i j _ _ _ _ _ hc q=>by
 have h1:(0:Int) < j:=hc.1
 have h2:j < 1073741824:=hc.2
 exact floordiv_int (by omega) (by rw [Int.fdiv_eq_ediv_of_nonneg i (by omega)];exact q) (.inl (PyProof.noPylong_small (by omega)))
theorem a8n:OpR X (binaryOp .Mod) (rI (fun _ j=>0 < j) fun i j=>.int (i % j)):=opI fun i j _ _ _ _ _ hc q=>by
 have h1:(0:Int) < j:=hc
 exact mod_int' (by omega) (by rw [Int.fmod_eq_emod_of_nonneg i (by omega)];exact q)
theorem d9e:OpR X (binaryOp .Pow) (rI CPow fun i j=>.int (i ^ j.toNat)):=opI fun _ _ _ _ _ _ _ hc q=>pow_int_small hc.1 hc.2.1 hc.2.2 q
theorem d9f:OpR X (binaryOp .RShift) (rI (fun _ j=>0 <= j) fun i j=>.int (i / 2 ^ j.toNat)):=opI fun i j _ _ _ _ _ hc q =>
 rshift_int hc (by rw [Int.fdiv_eq_ediv_of_nonneg i (c3k _)];exact q)
end
noncomputable def scal:V->V->Bool
 | .non,.non=>true | .non,.int _=>true | .int _,.non=>true | .non,.bl _=>true | .bl _,.non=>true | .non,.str _=>true | .str _,.non=>true
 | .int _,.int _=>true | .bl _,.bl _=>true | .str _,.str _=>true | .byt _,.byt _=>true
 | .int _,.str _=>true | .str _,.int _=>true | .bl _,.str _=>true | .str _,.bl _=>true
 | _,_=>false
def rEq:R2:=fun x y H Q=>scal x y=true/\Q (.bl (decide (x=y))) H
def rNe:R2:=fun x y H Q=>scal x y=true/\Q (.bl (!decide (x=y))) H
theorem c1w{i j:Int}:decide (V.int i=V.int j)=(i == j):=by
 rw [Bool.eq_iff_iff]
 simp
theorem c6m{i j:Bool}:decide (V.bl i=V.bl j)=(i == j):=by
 rw [Bool.eq_iff_iff]
 simp
theorem c1x{i j:Str}:decide (V.str i=V.str j)=(i == j):=by
 rw [Bool.eq_iff_iff]
 simp
theorem c1y{i j:Array UInt8}:decide (V.byt i=V.byt j)=(i.toList == j.toList):=by
 rw [Bool.eq_iff_iff]
 cases i
 cases j
 simp
section
variable{X:Cx}{a b c:Expr}{ta tb tc:TE}{pos:Pos}
theorem a1f{pins:List (Addr × Obj)}{σ:St}{H:Hp}{s:Shared}{Q:VK}{k k':Bool}(I:Inv X pins σ H s)(q:Q (.bl k) H)(e:k=k'):EP X pins σ Q (.bool k') s:=by
 subst e
 exact⟨.bl k,H,I,rfl,q⟩
theorem b7s:OpR X (compareOp .Eq) rEq:=by
 intro pins s σ H x y v u Q I rx ry h
 obtain⟨hs,q⟩:=h
 cases x with
 | non =>
  cases rx
  cases y with
  | non=>cases ry;exact PySem.EqNone.eq_none_none (a1f I q (by simp))
  | bl j=>cases ry;exact PySem.EqNone.eq_none_bool (a1f I q (by simp))
  | int j=>obtain⟨t',rfl⟩:=ry;exact PySem.EqNone.eq_none_int (a1f I q (by simp))
  | str j=>obtain⟨t',rfl⟩:=ry;exact PySem.EqNone.eq_none_str (a1f I q (by simp))
  | _=>exact absurd (show false=true from hs) Bool.false_ne_true
 | bl i =>
  cases rx
  cases y with
  | non=>cases ry;exact PySem.EqNone.eq_bool_none (a1f I q (by simp))
  | bl j=>cases ry;exact eq_bool (a1f I q c6m)
  | str j=>obtain⟨t',rfl⟩:=ry;exact PySem.EqMixed.eq_bool_str (a1f I q (by simp))
  | _=>exact absurd (show false=true from hs) Bool.false_ne_true
 | int i =>
  obtain⟨t,rfl⟩:=rx
  cases y with
  | non=>cases ry;exact PySem.EqNone.eq_int_none (a1f I q (by simp))
  | int j=>obtain⟨t',rfl⟩:=ry;exact eq_int (a1f I q c1w)
  | str j=>obtain⟨t',rfl⟩:=ry;exact PySem.EqMixed.eq_int_str (a1f I q (by simp))
  | _=>exact absurd (show false=true from hs) Bool.false_ne_true
 | str i =>
  obtain⟨t,rfl⟩:=rx
  cases y with
  | non=>cases ry;exact PySem.EqNone.eq_str_none (a1f I q (by simp))
  | bl j=>cases ry;exact PySem.EqMixed.eq_str_bool (a1f I q (by simp))
  | int j=>obtain⟨t',rfl⟩:=ry;exact PySem.EqMixed.eq_str_int (a1f I q (by simp))
  | str j=>obtain⟨t',rfl⟩:=ry;exact eq_str (a1f I q c1x)
  | _=>exact absurd (show false=true from hs) Bool.false_ne_true
 | byt i =>
  obtain⟨t,rfl⟩:=rx
  cases y with
  | byt j=>obtain⟨t',rfl⟩:=ry;exact PySem.W.eq_bytes (a1f I q c1y)
  | _=>exact absurd (show false=true from hs) Bool.false_ne_true
 | _=>cases y<;>exact absurd (show false=true from hs) Bool.false_ne_true
theorem d3h:OpR X (compareOp .NotEq) rNe:=by
 intro pins s σ H x y v u Q I rx ry h
 obtain⟨hs,q⟩:=h
 cases x with
 | non =>
  cases rx
  cases y with
  | non=>cases ry;exact PySem.EqNone.ne_none_none (a1f I q (by simp))
  | bl j=>cases ry;exact PySem.EqNone.ne_none_bool (a1f I q (by simp))
  | int j=>obtain⟨t',rfl⟩:=ry;exact PySem.EqNone.ne_none_int (a1f I q (by simp))
  | str j=>obtain⟨t',rfl⟩:=ry;exact PySem.EqNone.ne_none_str (a1f I q (by simp))
  | _=>exact absurd (show false=true from hs) Bool.false_ne_true
 | bl i =>
  cases rx
  cases y with
  | non=>cases ry;exact PySem.EqNone.ne_bool_none (a1f I q (by simp))
  | bl j=>cases ry;exact ne_bool (a1f I q (congrArg not c6m))
  | str j=>obtain⟨t',rfl⟩:=ry;exact PySem.EqMixed.ne_bool_str (a1f I q (by simp))
  | _=>exact absurd (show false=true from hs) Bool.false_ne_true
 | int i =>
  obtain⟨t,rfl⟩:=rx
  cases y with
  | non=>cases ry;exact PySem.EqNone.ne_int_none (a1f I q (by simp))
  | int j=>obtain⟨t',rfl⟩:=ry;exact ne_int (a1f I q (congrArg not c1w))
  | str j=>obtain⟨t',rfl⟩:=ry;exact PySem.EqMixed.ne_int_str (a1f I q (by simp))
  | _=>exact absurd (show false=true from hs) Bool.false_ne_true
 | str i =>
  obtain⟨t,rfl⟩:=rx
  cases y with
  | non=>cases ry;exact PySem.EqNone.ne_str_none (a1f I q (by simp))
  | bl j=>cases ry;exact PySem.EqMixed.ne_str_bool (a1f I q (by simp))
  | int j=>obtain⟨t',rfl⟩:=ry;exact PySem.EqMixed.ne_str_int (a1f I q (by simp))
  | str j=>obtain⟨t',rfl⟩:=ry;exact ne_str (a1f I q (congrArg not c1x))
  | _=>exact absurd (show false=true from hs) Bool.false_ne_true
 | byt i =>
  obtain⟨t,rfl⟩:=rx
  cases y with
  | byt j=>obtain⟨t',rfl⟩:=ry;exact PySem.W.ne_bytes (a1f I q (congrArg not c1y))
  | _=>exact absurd (show false=true from hs) Bool.false_ne_true
 | _=>cases y<;>exact absurd (show false=true from hs) Bool.false_ne_true
theorem a6x:OpR X (compareOp .Lt) (rI0 fun i j=>.bl (decide (i < j))):=opB0 fun _ _ _ _ _ _ _ q=>lt_int q
theorem b7t:OpR X (compareOp .LtE) (rI0 fun i j=>.bl (decide (i <= j))):=opB0 fun _ _ _ _ _ _ _ q=>le_int q
theorem b3z:OpR X (compareOp .Gt) (rI0 fun i j=>.bl (decide (j < i))):=opB0 fun _ _ _ _ _ _ _ q=>gt_int q
theorem op_ge:OpR X (compareOp .GtE) (rI0 fun i j=>.bl (decide (j <= i))):=opB0 fun _ _ _ _ _ _ _ q=>ge_int q
theorem c6n:OpR X (compareOp .In) (fun x y H Q=>∃ i j,x=.str i/\y=.str j/\Q (.bl (!(Builtin.Str.occurrences j i 0 j.length 1).isEmpty)) H):=by
 intro pins s σ H x y v u Q I rx ry h
 obtain⟨i,j,rfl,rfl,q⟩:=h
 obtain⟨t,rfl⟩:=rx
 obtain⟨t',rfl⟩:=ry
 exact in_str (a1f I q rfl)
theorem OpR.or{f:Value->Value->Sem Value}{r r':R2}(h:OpR X f r)(h':OpR X f r'):OpR X f (fun x y H Q=>r x y H Q ∨ r' x y H Q):=by
 intro pins s σ H x y v u Q I rx ry q
 rcases q with q | q
 ·exact h pins s σ H x y v u Q I rx ry q
 ·exact h' pins s σ H x y v u Q I rx ry q
theorem a0u(b:Expr){op:CmpOp}(h:op ≠ .In:=by decide)(h2:op ≠ .NotIn:=by decide):behindInMarks op b=false:=by
 have e1:(op == CmpOp.In)=false:=by cases op<;>first | rfl | exact absurd rfl h
 have e2:(op == CmpOp.NotIn)=false:=by cases op<;>first | rfl | exact absurd rfl h2
 cases b<;>simp [behindInMarks,e1,e2]
theorem a9o{op:CmpOp}{r:R2}(ho:OpR X (compareOp op) r)(ha:PE X a ta)(hb:PE X b tb)(hm:behindInMarks op b=false):PE X (.Compare a [op] [b] pos) (tOp r ta tb):=by
 intro pins s σ H Q I h
 exact wpAny_Compare1 (binT ha hb I h fun v u s2 x y H2 I2 rx ry q=>ho pins s2 σ H2 x y v u Q I2 rx ry q) hm
def tTest(t:TE):TT:=fun σ H Q=>t σ H fun x H'=>∃ k,x=.bl k/\Q k H'
theorem a4y{op:CmpOp}{r:R2}(ho:OpR X (compareOp op) r)(ha:PE X a ta)(hb:PE X b tb)(hm:behindInMarks op b=false):PT X (.Compare a [op] [b] pos) (tTest (tOp r ta tb)):=by
 intro pins s σ H Q I h
 refine wpAny_isTrue_Compare1 (thn (ha pins s σ H _ I h) fun v s1 ⟨x,H1,I1,r1,q1⟩=>thn (hb pins s1 σ H1 _ I1 q1) fun u s2 ⟨y,H2,I2,r2,q2⟩ =>
  thn (ho pins s2 σ H2 x y v u _ I2 r1 r2 q2) fun c s3 ⟨z,H3,I3,r3,k,e,q3⟩=>?_) hm
 subst e
 cases r3
 exact wpAny_truthy_bool ⟨H3,I3,q3⟩
def c6o(r r':R2)(ta tb tc:TE):TE:=fun σ H Q=>ta σ H fun x H1=>tb σ H1 fun y H2=>r x y H2 fun z H3=>∃ k,z=.bl k /\
 (if k=true then tc σ H3 fun w' H4=>r' y w' H4 Q else Q (.bl false) H3)
theorem c9h{op op':CmpOp}{r r':R2}(ho:OpR X (compareOp op) r)(ho':OpR X (compareOp op') r')(ha:PE X a ta)(hb:PE X b tb)(hc:PE X c tc)
  (hm:lastMarks [op,op'] [b,c]=false:=by with_unfolding_all rfl):PE X (.Compare a [op,op'] [b,c] pos) (c6o r r' ta tb tc):=by
 intro pins s σ H Q I h
 refine Compare_chain (thn (ha pins s σ H _ I h) fun v s1 ⟨x,H1,I1,r1,q1⟩=>chain_link (thn (hb pins s1 σ H1 _ I1 q1) fun u s2 ⟨y,H2,I2,r2,q2⟩ =>
  thn (ho pins s2 σ H2 x y v u _ I2 r1 r2 q2) fun d s3 ⟨z,H3,I3,r3,k,e,q3⟩=>?_)) hm
 subst e
 cases r3
 refine wpAny_truthy_bool ?_
 cases k with
 | false=>exact ite_ff ⟨.bl false,H3,I3,rfl,q3⟩
 | true=>exact ite_tt (chain_last (thn (hc pins s3 σ H3 _ I3 q3) fun w' s4 hq8=>by obtain⟨z',H4,I4,r4,q4⟩:=hq8;exact ho' pins s4 σ H4 y z' u w' Q I4 r2 r4 q4))
def TruV(K:W.Frag)(x:V)(H:Hp)(k:Bool):Prop:=
 match x with
 | .non=>k=false
 | .bl b=>k=b
 | .int i=>k=(i != 0)
 | .str y=>y.length <= sizeLine/\k=((y.length:Int) != 0)
 | .byt y=>y.size <= sizeLine/\k=((y.size:Int) != 0)
 | .ref p=>(∃ xs,SqL K H p xs/\k = !xs.isEmpty) ∨ (∃ xs,SqT K H p xs/\k = !xs.isEmpty) ∨ ∃ kvs,H p=some (.dK kvs)/\k = !kvs.isEmpty
 | _=>False
theorem c3l{κ:Type}{kvs:List (κ × V)}{vs:List (κ × Value)}(r:KV kvs vs):(!vs.isEmpty) = !kvs.isEmpty:=by
 cases r<;>rfl
theorem b4a{xs:List V}{its:List Value}(r:Vals xs its):(!its.toArray.isEmpty) = !xs.isEmpty:=by
 cases r<;>simp
theorem a5v:(sizeLine:Nat) < 2 ^ 63:=by rw [sizeLine_eq];decide
theorem d9g:TruR X (fun x H Q=>∃ k,TruV X.K x H k/\Q k H):=by
 intro pins s σ H x v Q I rx h
 obtain⟨k,e,q⟩:=h
 have hl:=a5v
 have hs:sizeLine=16777216:=sizeLine_eq
 cases x with
 | non =>
  cases rx
  have e':k=false:=e
  subst e'
  exact truthy_none ⟨H,I,q⟩
 | bl b =>
  cases rx
  have e':k=b:=e
  subst e'
  exact wpAny_truthy_bool ⟨H,I,q⟩
 | int i =>
  obtain⟨t,rfl⟩:=rx
  have e':k=(i != 0):=e
  subst e'
  exact PySem.P.truthy_int ⟨H,I,q⟩
 | str y =>
  obtain⟨t,rfl⟩:=rx
  obtain⟨hy,e'⟩:y.length <= sizeLine/\k=((y.length:Int) != 0):=e
  subst e'
  exact PySem.P.truthy_str (by omega) ⟨H,I.tok _,q⟩
 | byt y =>
  obtain⟨t,rfl⟩:=rx
  obtain⟨hy,e'⟩:y.size <= sizeLine/\k=((y.size:Int) != 0):=e
  subst e'
  exact PySem.W.truthy_bytes (by omega) ⟨H,I.tok _,q⟩
 | ref p =>
  cases rx
  have e':(∃ xs,SqL X.K H p xs/\k = !xs.isEmpty) ∨ (∃ xs,SqT X.K H p xs/\k = !xs.isEmpty) ∨ ∃ kvs,H p=some (.dK kvs)/\k = !kvs.isEmpty:=e
  rcases e' with⟨xs,hx,e'⟩ | ⟨xs,hx,e'⟩ | ⟨kvs,hx,e'⟩
  ·subst e'
   obtain⟨its,r,pl,hz⟩:=I.list hx
   have hlen:=r.length
   exact wpAny_truthy_list pl.isList (by simp only [size_toArray];omega) ⟨H,I.tok _,by rw [b4a r];exact q⟩
  ·subst e'
   obtain⟨its,r,pl,hz⟩:=I.tuple hx
   have hlen:=r.length
   exact truthy_tuple pl (by simp only [size_toArray];omega) ⟨H,I.tok _,by rw [b4a r];exact q⟩
  ·subst e'
   obtain⟨hz,hS,vs,r,m⟩:kvs.length <= sizeLine/\(p == sysModules)=false/\∃ vs,KV kvs vs/\s.heap.DictOf (a2k X.prog X.w) p vs:=I.hok p _ hx
   have hlen:kvs.length=vs.length:=Paired.length r
   exact wpAny_truthy_dict hS m (by omega) ⟨H,I.tok _,by rw [c3l r];exact q⟩
 | _=>exact(show False from e).elim
theorem c9i(ha:PE X a ta)(he:∀ whole,isTrue a X.env whole=(do let v ← whole;standAt a.pos;holding [v] (truthy v))) :
  PT X a (fun σ H Q=>ta σ H fun x H'=>∃ k,TruV X.K x H' k/\Q k H'):=by
 intro pins s σ H Q I h
 exact isTrue_plain (thn (ha pins s σ H _ I h) fun v s1 hq8=>by obtain⟨x,H1,I1,r1,q1⟩:=hq8;exact d9g pins s1 σ H1 x v Q I1 r1 q1) (he _)
theorem c3m:OpR X (binaryOp .Add) (fun x y H Q=>∃ i j,x=.str i/\y=.str j/\i.length + j.length <= sizeLine/\Q (.str (i ++ j)) H):=by
 intro pins s σ H x y v u Q I rx ry h
 obtain⟨i,j,rfl,rfl,hz,q⟩:=h
 obtain⟨t,rfl⟩:=rx
 obtain⟨t',rfl⟩:=ry
 exact add_str (fun t' tk=>⟨.str (i ++ j),H,I.tok _,⟨_,rfl⟩,q⟩) hz
theorem vals1{x:V}{us:List Value}(r:Vals [x] us):∃ u,us=[u]/\RelV x u:=by
 cases r with
 | cons r1 r2=>cases r2;exact⟨_,rfl,r1⟩
end
end L2
namespace L2
open PySem PySem.Spec PyProof.Rows
structure ObjM(h:Heap)(x dx C:Addr)(mA:Str->Option Value):Prop where
 obj:h.get? x=some (PySem.W.instObj C dx)
 ns:h.Ns1 dx mA
 ne:dx ≠ x
theorem c6p{h:Heap}{dx:Addr}{mA:Str->Option Value}(n:h.Ns1 dx mA):∃ od,h.get? dx=some od/\∀ name,PySem.W.lookIn name od=some (mA name):=by
 obtain⟨o,es,ep,ho,hd,hk,_,hm⟩:=n
 refine⟨o,ho,fun name=>?_⟩
 have e:=hm name
 unfold nsFind findBy at e
 rw [← Array.find?_toList] at e
 unfold PySem.W.lookIn
 rw [hd]
 dsimp only
 split
 ·rename_i y q
  rw [q] at e
  exact congrArg some e
 ·rename_i q
  rw [q] at e
  have a:es.toList.any (·.refKey)=false:=by
   rw [List.any_eq_false]
   intro y hy
   obtain⟨z,t,hkey⟩:=hk y (Array.mem_toList_iff.mp hy)
   simp [DictEntry.refKey,hkey]
  have a':¬ es.toList.any (·.refKey)=true:=by rw [a];exact Bool.false_ne_true
  rw [if_neg a']
  exact congrArg some e
theorem ObjM.look{h:Heap}{x dx C:Addr}{mA:Str->Option Value}(I:ObjM h x dx C mA):∃ od,PySem.W.InstAt h x (PySem.W.instObj C dx) C (some od)/\∀ name,PySem.W.lookIn name od=some (mA name):=
 let ⟨od,ho,hl⟩:=c6p I.ns
 ⟨od,⟨I.obj,rfl,rfl,ho⟩,hl⟩
section
variable{prog:Program}{w:World}{A:Around}{E:Value->Shared->Prop}{s:Shared}{K:W.Frag}{x dx C f:Addr}{mA:Str->Option Value}{name:Str}{v:Value}
theorem d4g{expr:Bool}{Q:Value->Shared->Prop}(X:K.In s.heap)(I:ObjM s.heap x dx C mA)(hg:PySem.W.plainGet K C name=true)(hh:PySem.W.hasDictIn K C=true)
  (ha:PySem.W.findIn K (.ref C) name=some none) (hv:mA name=some v) (hv':PySem.W.handedIn v=true) (h:Q v { s with toks:=s.toks + 1 }) :
  wpAny (model prog w) A (getAttr (.ref x) name expr) Q E s:=by
 obtain⟨od,J,hl⟩:=I.look
 exact PySem.W.get_value X J (PySem.W.plainGet_of hg).1 (PySem.W.findObj_own hh ha rfl (by rw [hl,hv])) hv' h
theorem c9j{pl:Sem Bool}{Q:Value × List Value->Shared->Prop}(X:K.In s.heap)(I:ObjM s.heap x dx C mA)(hg:PySem.W.plainGet K C name=true)
  (hf:PySem.W.findIn K (.ref C) name=some (some (.ref f))) (ht:PySem.W.isFn K (.ref f)=true) (hv:mA name=none) (h:Q (.ref f,[.ref x]) s) :
  wpAny (model prog w) A (getMethod (.ref x) name pl) Q E s:=by
 obtain⟨od,J,hl⟩:=I.look
 exact PySem.W.method_fn X J (PySem.W.plainGet_of hg).1 (PySem.W.plainGet_of hg).2 hf (beq_iff_eq.mp ht) (by show(PySem.W.lookIn name od).map (·.isSome)=some false;rw [hl,hv];rfl) h
theorem d4h{ns:List Str}{Q:Unit->Shared->Prop}(X:K.In s.heap)(I:ObjM s.heap x dx C mA)
  (hs:PySem.W.findIn K (.ref C) "__setattr__" = some (some (.builtin "object.__setattr__"))) (hp:PySem.W.plainOver K C=true) (ht:PySem.W.takerIn K C name=some none) (hh:PySem.W.hasDictIn K C=true)
  (hw:PySem.Within mA ns) (hsz:ns.length <= sizeLine)
  (h:∀ h',ObjM h' x dx C (fun y=>if y=name then some v else mA y)->Heap.SameBut dx s.heap h'->Q () { s with heap:=h',toks:=s.toks + 2 }) :
  wpAny (model prog w) A (setAttr (.ref x) name v) Q E s:=by
 obtain⟨od,J,hl⟩:=I.look
 refine PySem.W.set_plain X J hs (PySem.W.osa_open (s:={ s with toks:=s.toks + 1 }) (r:=none) X J hp ht fun b=>?_)
 obtain⟨cd,hc,hd'⟩:=PySem.W.any_some hh
 have hx:s.heap.get? x=some ⟨.ref C,some dx,.plain,#[]⟩:=I.obj
 refine wpAny_bind (wpAny_pure (wpAny_bind (wpAny_bind (wpAny_loadPart hx (wpAny_bind (PySem.W.Looks.here (s:={ s with toks:=s.toks + 1 }) (PySem.W.looks_clsIn X hc) ?_))))))
 rw [hd']
 refine wpAny_pure (a:=some dx) (wpAny_bind (wpAny_pure (wpAny_bind ?_)))
 refine wpAny_nsSet1 (s:={ s with toks:=s.toks + 1 }) I.ns fun h' hn2 hs2=>?_
 obtain⟨oD,esD,epD,hoD,hdD,hcD⟩:=hn2.count (PySem.Within.cons name v hw)
 refine wpAny_bind (wpAny_lookBehind hoD (by rw [hdD];exact pastItsLine_dict (Nat.le_trans hcD (by rw [length_cons];omega))) ?_)
 exact wpAny_pure (h _ ⟨(hs2.2 _ (Ne.symm I.ne)).trans I.obj,hn2,I.ne⟩ hs2)
theorem c9k{R:Result->Shared->Prop}{vs:List Value}{kw:List (Str × Value)}(X:K.In s.heap)(hm:PySem.W.makesIn K C=true)
  (hi:PySem.W.findIn K (.ref C) "__init__" = some (some (.ref f))) (hf:PySem.W.typeIn K (.ref f)=some (.type "function"))
  (h:codeAny (model prog w) (A.under (.builtin "type.__call__" ⟨.ref C :: vs,kw⟩)) (.call (.ref f) ⟨.ref (s.heap.objs.size + 1) :: vs,kw⟩) (PySem.W.InitBack (s.heap.objs.size + 1) R)
   { s with heap:=(s.heap.push PySem.W.emptyDict).push (PySem.W.instObj C s.heap.objs.size) }) :
  codeAny (model prog w) A (.call (.ref C) ⟨vs,kw⟩) R s:=by
 obtain⟨hh,g,d,t,os⟩:=s
 exact PySem.W.make_core (PySem.W.makes_of X hm) (PySem.W.looks_findIn X hi) (fun self=>PySem.W.bind_fn X self hf) (.inl rfl) h
end
noncomputable def putF(f:Str)(v:V):List (Str × V)->List (Str × V)
 | []=>[(f,v)]
 | (g,x) :: r=>if g=f then(g,v) :: r else(g,x) :: putF f v r
theorem b2p(f g:Str)(v:V):∀ fs:List (Str × V),(putF f v fs).lookup g=if g=f then some v else fs.lookup g
 | []=>by
  show List.lookup g [(f,v)]=_
  by_cases h:g=f
  ·have hb:(g == f)=true:=beq_iff_eq.mpr h
   simp only [List.lookup,hb,if_pos h]
  ·have hb:(g == f)=false:=beq_eq_false_iff_ne.mpr h
   simp only [List.lookup,hb,if_neg h]
 | (k,x) :: r=>by
  have ih:=b2p f g v r
  rw [show putF f v ((k,x) :: r)=(if k=f then(k,v) :: r else(k,x) :: putF f v r) from rfl]
  by_cases hk:k=f
  ·rw [if_pos hk]
   by_cases h:g=k
   ·have hb:(g == k)=true:=beq_iff_eq.mpr h
    simp only [List.lookup,hb,if_pos (h.trans hk)]
   ·have hb:(g == k)=false:=beq_eq_false_iff_ne.mpr h
    simp only [List.lookup,hb,if_neg (fun e:g=f=>h (e.trans hk.symm))]
  ·rw [if_neg hk]
   by_cases h:g=k
   ·have hb:(g == k)=true:=beq_iff_eq.mpr h
    simp only [List.lookup,hb,if_neg (fun e:g=f=>hk (h.symm.trans e))]
   ·have hb:(g == k)=false:=beq_eq_false_iff_ne.mpr h
    simp only [List.lookup,hb]
    exact ih
theorem b1i(f:Str)(v:V):∀ fs:List (Str × V),f ∈ (putF f v fs).map (·.1)/\∀ g,g ∈ fs.map (·.1)->g ∈ (putF f v fs).map (·.1)
 | []=>⟨by simp [putF],fun g h=>by simp at h⟩
 | (k,x) :: r=>by
  obtain⟨i1,i2⟩:=b1i f v r
  rw [show putF f v ((k,x) :: r)=(if k=f then(k,v) :: r else(k,x) :: putF f v r) from rfl]
  by_cases hk:k=f
  ·rw [if_pos hk]
   subst hk
   exact⟨by simp,fun g h=>by simpa using h⟩
  ·rw [if_neg hk]
   refine⟨?_,fun g h=>?_⟩
   ·rw [map_cons]
    exact mem_cons_of_mem _ i1
   ·rw [map_cons] at h ⊢
    rcases mem_cons.mp h with e | e
    ·exact mem_cons.mpr (.inl e)
    ·exact mem_cons_of_mem _ (i2 g e)
theorem b2q(f:Str)(v:V):∀ fs:List (Str × V),(putF f v fs).length <= fs.length + 1
 | []=>by simp [putF]
 | (k,x) :: r=>by
  have ih:=b2q f v r
  rw [show putF f v ((k,x) :: r)=(if k=f then(k,v) :: r else(k,x) :: putF f v r) from rfl]
  by_cases hk:k=f
  ·rw [if_pos hk,length_cons,length_cons];omega
  ·rw [if_neg hk,length_cons,length_cons];omega
theorem RelO.some_of{v:V}{o:Option Value}(r:RelO (some v) o):∃ u,o=some u/\RelV v u:=by
 cases o with
 | none=>exact(show False from r).elim
 | some u=>exact⟨u,rfl,r⟩
theorem RelO.none_of{o:Option Value}(r:RelO none o):o=none:=by
 cases o with
 | none=>rfl
 | some u=>exact(show False from r).elim
theorem c6q{v:V}{u:Value}(r:RelV v u):PySem.W.handedIn u=true:=by
 cases v with
 | non=>cases (show u=Value.none from r);rfl
 | bl b=>cases (show u=Value.bool b from r);rfl
 | int i=>obtain⟨t,e⟩:=(show ∃ t,u=Value.int i t from r);cases e;rfl
 | str x=>obtain⟨t,e⟩:=(show ∃ t,u=Value.str x t from r);cases e;rfl
 | byt b=>obtain⟨t,e⟩:=(show ∃ t,u=Value.bytes b t from r);cases e;rfl
 | flt b=>obtain⟨t,e⟩:=(show ∃ t,u=Value.float b t from r);cases e;rfl
 | ref a=>cases (show u=Value.ref a from r);rfl
 | ty n=>cases (show u=Value.type n from r);rfl
section
variable{P:Program}{w:World}{H H':Hp}{h h':Heap}{a C dx:Addr}{fs fs':List (Str × V)}
theorem b5q(hok:HOk P w H h)(e:H a=some (.ins C dx fs)):∃ mA,ObjM h a dx C mA/\(∀ f,RelO (fs.lookup f) (mA f))/\PySem.Within mA (fs.map (·.1))/\fs.length <= 1000/\H dx=some (.own a):=by
 obtain⟨d,z,ne,ob,mA,n,r,q⟩:=(show a1z P w H h a (.ins C dx fs) from hok a _ e)
 exact⟨mA,⟨ob,n,ne⟩,r,q,z,d⟩
end
structure Cls(K:W.Frag)(C:Addr):Prop where
 pg:PySem.W.plainGet K C Str.empty=true
 hd:PySem.W.hasDictIn K C=true
 po:PySem.W.plainOver K C=true
 sa:PySem.W.findIn K (.ref C) "__setattr__" = some (some (.builtin "object.__setattr__"))
theorem Cls.get{K:W.Frag}{C:Addr}(c:Cls K C)(f:Str):PySem.W.plainGet K C f=true:=c.pg
def a3v(K:W.Frag)(C:Addr)(f:Str):Prop:=PySem.W.findIn K (.ref C) f=some none
theorem a3v.taker{K:W.Frag}{C:Addr}{f:Str}(n:a3v K C f):PySem.W.takerIn K C f=some none:=by
 unfold PySem.W.takerIn
 rw [show PySem.W.findIn K (.ref C) f=some none from n]
 rfl
structure Meth(K:W.Frag)(C:Addr)(m:Str)(f:Addr):Prop where
 at_:PySem.W.findIn K (.ref C) m=some (some (.ref f))
 fn:PySem.W.isFn K (.ref f)=true
 kp:PySem.W.keepIn K (.ref f)=true
section
variable{X:Cx}{pins:List (Addr × Obj)}{σ:St}{H:Hp}{s:Shared}{a C dx:Addr}{fs:List (Str × V)}{f:Str}{v:V}{A:Around}{E:Value->Shared->Prop}
theorem c3n{b:Bool}{Q:Value->Shared->Prop}(I:Inv X pins σ H s)(e:H a=some (.ins C dx fs))(c:Cls X.K C)(n:a3v X.K C f)(l:fs.lookup f=some v)
  (h:∀ u s',Inv X pins σ H s'->RelV v u->Q u s'):wpAny (model X.prog X.w) A (getAttr (.ref a) f b) Q E s:=by
 obtain⟨mA,O,r,_,_,_⟩:=b5q I.hok e
 obtain⟨u,hu,ru⟩:=RelO.some_of (v:=v) (o:=mA f) (by rw [← l];exact r f)
 exact d4g I.kIn O (c.get f) c.hd n hu (c6q ru) (h u _ (I.tok _) ru)
theorem b0f{m:Str}{g:Addr}{pl:Sem Bool}{Q:Value × List Value->Shared->Prop}(I:Inv X pins σ H s)(e:H a=some (.ins C dx fs))(c:Cls X.K C)(k:Meth X.K C m g)(l:fs.lookup m=none)
  (h:Q (.ref g,[.ref a]) s):wpAny (model X.prog X.w) A (getMethod (.ref a) m pl) Q E s:=by
 obtain⟨mA,O,r,_,_,_⟩:=b5q I.hok e
 have hn:mA m=none:=RelO.none_of (by rw [← l];exact r m)
 exact c9j I.kIn O (c.get m) k.at_ k.fn hn h
theorem c3o{y:V}{u:Value}{Q:Unit->Shared->Prop}(I:Inv X pins σ H s)(e:H a=some (.ins C dx fs))(c:Cls X.K C)(n:a3v X.K C f)(hl:fs.length < 1000)(ry:RelV y u)
  (h:∀ s',Inv X pins σ (upd H a (.ins C dx (putF f y fs))) s'->Q () s'):wpAny (model X.prog X.w) A (setAttr (.ref a) f u) Q E s:=by
 obtain⟨mA,O,r,wi,_,ho⟩:=b5q I.hok e
 have hz:(fs.map (·.1)).length <= sizeLine:=by rw [length_map,sizeLine_eq];omega
 refine d4h I.kIn O c.sa c.po n.taker c.hd wi hz fun h' O' sb=>h _ ?_
 have hd:∃ o,h'.get? dx=some o:=by obtain⟨o,_,_,e',_⟩:=O'.ns;exact⟨o,e'⟩
 refine I.write (x:=a) (e:=dx) (by rw [e];exact True.intro) (.inr ho) (fun b q hb z=>(sb.2 b hb).trans z) hd ?_
 refine⟨by rw [a0f O.ne];exact ho,?_,O.ne,O'.obj,_,O'.ns,fun g=>?_,fun g hg=>?_⟩
 ·have:=b2q f y fs;omega
 ·show RelO ((putF f y fs).lookup g) (if g=f then some u else mA g)
  rw [b2p]
  by_cases q:g=f
  ·rw [if_pos q,if_pos q];exact ry
  ·rw [if_neg q,if_neg q];exact r g
 ·by_cases q:g=f
  ·rw [q];exact(b1i f y fs).1
  ·refine(b1i f y fs).2 g (wi g fun z=>hg ?_)
   show(if g=f then some u else mA g)=none
   rw [if_neg q];exact z
theorem Inv.made(I:Inv X pins σ H s):Inv X pins σ (upd (upd H s.heap.objs.size (.own (s.heap.objs.size + 1))) (s.heap.objs.size + 1) (.ins C s.heap.objs.size []))
  { s with heap:=(s.heap.push PySem.W.emptyDict).push (PySem.W.instObj C s.heap.objs.size) }:=by
 have e1:(s.heap.push PySem.W.emptyDict).get? s.heap.objs.size=some PySem.W.emptyDict:=get?_push_size s.heap rfl
 have e2:((s.heap.push PySem.W.emptyDict).push (PySem.W.instObj C s.heap.objs.size)).get? (s.heap.objs.size + 1)=some (PySem.W.instObj C s.heap.objs.size):=by
  have:=get?_push_size (s.heap.push PySem.W.emptyDict) (o:=PySem.W.instObj C s.heap.objs.size) rfl
  rwa [size_push] at this
 have e3:(s.heap.push PySem.W.emptyDict).Ns s.heap.objs.size (fun _=>none):=⟨PySem.W.emptyDict,#[],_,e1,rfl,(fun e he=>absurd he (by simp)),fun _=>rfl⟩
 have I1:=I.laid (a:=s.heap.objs.size) (o:=.own (s.heap.objs.size + 1)) (h':=s.heap.push PySem.W.emptyDict) (t':=s.toks) (fun b u q=>get?_push_of_some _ q) (Nat.le_refl _) ⟨_,e1⟩
 refine I1.laid (a:=s.heap.objs.size + 1) (o:=.ins C s.heap.objs.size []) (t':=s.toks) (fun b u q=>get?_push_of_some _ q) (Nat.le_of_eq (size_push _ _)) ?_
 have ne:s.heap.objs.size ≠ s.heap.objs.size + 1:=ne_of_lt (Nat.lt_succ_self _)
 refine⟨by rw [a0f ne,a0j],zero_le _,ne,e2,fun _=>none,(Heap.Ns1.of_empty e3).at fun o q=>get?_push_of_some _ q,fun _=>True.intro,fun y hy=>absurd rfl hy⟩
theorem d4i{prog:Program}{w:World}{env:Env}{e:Expr}{f:Str}{pos:Pos}{s:Shared}{Q:Value->Shared->Prop}(hb:attributeBase e f env (eval e env)=eval e env)
  (h:wpAny (model prog w) A (eval e env) (fun o s₁=>wpAny (model prog w) A (getAttr o f true) Q E s₁) E s):wpAny (model prog w) A (eval (.Attribute e f pos) env) Q E s:=
 Attribute_any_ h (by rw [arm_eval_Attribute,hb])
end
def tFld(K:W.Frag)(ta:TE)(f:Str):TE:=fun σ H Q=>ta σ H fun x H1=>∃ a C dx fs v,x=.ref a/\H1 a=some (.ins C dx fs)/\Cls K C/\a3v K C f/\fs.lookup f=some v/\Q v H1
def sFld(K:W.Frag)(ta tv:TE)(f:Str):TS:=fun D σ H=>tv σ H fun y H1=>ta σ H1 fun x H2=>∃ a C dx fs,x=.ref a/\H2 a=some (.ins C dx fs)/\Cls K C/\a3v K C f/\fs.length < 1000 /\
 D.nx σ (upd H2 a (.ins C dx (putF f y fs)))
section
variable{X:Cx}{o e value:Expr}{f:Str}{pos pos' tpos:Pos}{ta tv:TE}
theorem a2z(he:PE X e ta)(hb:attributeBase e f X.env (eval e X.env)=eval e X.env):PE X (.Attribute e f pos) (tFld X.K ta f):=by
 intro pins s σ H Q I h
 refine d4i hb (thn (he pins s σ H _ I h) fun u s1 hq9=>?_)
 obtain⟨x,H1,I1,rx,a,C,dx,fs,v,ex,ea,c,n,l,q⟩:=hq9
 subst ex
 obtain rfl:u=Value.ref a:=rx
 exact c3n I1 ea c n l fun u' s2 I2 ru=>⟨v,H1,I2,ru,q⟩
theorem a7f(ha:PE X o ta)(hv:PE X value tv)(hs:swapsWith value (some (.Attribute o f pos')) pos.line X.env=pure false):PS X (.Assign [.Attribute o f pos'] value pos) (sFld X.K ta tv f):=by
 intro pins s σ H D I h
 refine plainObj_wpAny_Assign_Attribute (thn (hv pins s σ H _ I h) fun u s1 ⟨y,H1,I1,ry,q⟩=>thn (ha pins s1 σ H1 _ I1 q) fun ov s2 hq8=>?_) hs
 obtain⟨x,H2,I2,rx,a,C,dx,fs,ex,ea,c,n,l,q2⟩:=hq8
 subst ex
 obtain rfl:ov=Value.ref a:=rx
 exact c3o I2 ea c n l ry fun s3 I3=>⟨σ,_,I3,q2⟩
end
section
variable{X:Cx}{pins:List (Addr × Obj)}{σ:St}{H:Hp}{s:Shared}{A:Around}{E:Value->Shared->Prop}{Q:Value->Shared->Prop}{c:Value}{b:Bool}
end
end L2
namespace L2
open PySem PySem.Spec PyProof.Rows
structure Room(k:Nat)(A:Around):Prop where
 hd:A.handled=none
 dp:A.depth + 3 * k + 5 < recursionLimit
 un:A.units + 16 * k + 200 < cLine
 gd:A.guards=some []
theorem Room.mono{j k:Nat}{A:Around}(r:Room k A)(h:j <= k):Room j A:=⟨r.hd,by have:=r.dp;omega,by have:=r.un;omega,r.gd⟩
theorem Room.deeper{k:Nat}{A:Around}(r:Room (k + 1) A)(env:Env):Room k (A.deeper env):=
 ⟨r.hd,by have:=r.dp;show A.depth + 1 + 3 * k + 5 < _;omega,by have:=r.un;show A.units + 3 + 16 * k + 200 < _;omega,r.gd⟩
theorem c3p{A:Around}{C:Addr}{us:List Value}{kw:List (Str × Value)}:(A.under (.builtin "type.__call__" ⟨.ref C :: us,kw⟩)).depth=A.depth + 1:=by
 first | rfl | simp [Around.under,Code.weight,Code.isCreation,Code.isGuard,Code.isCaller,Code.frames,Code.isFrame,guardIds]
theorem c3q{A:Around}{C:Addr}{us:List Value}{kw:List (Str × Value)}:(A.under (.builtin "type.__call__" ⟨.ref C :: us,kw⟩)).units=A.units + 1:=by
 first | rfl | simp [Around.under,Code.cUnits,Code.frames,Code.isFrame]
theorem Room.make{k:Nat}{A:Around}(r:Room (k + 1) A)(C:Addr)(us:List Value)(kw:List (Str × Value)):Room k (A.under (.builtin "type.__call__" ⟨.ref C :: us,kw⟩)):=
 ⟨r.hd,by have:=r.dp;rw [c3p];omega,by have:=r.un;rw [c3q];omega,by rw [show(A.under (.builtin "type.__call__" ⟨.ref C :: us,kw⟩)).guards=A.guards from by first | rfl | simp [Around.under,Code.guards,Code.isGuard,guardIds,pushGuards]];exact r.gd⟩
theorem Room.depth{k:Nat}{A:Around}(r:Room k A):A.depth < recursionLimit:=by have:=r.dp;omega
theorem Room.units{k:Nat}{A:Around}(r:Room k A):A.units + 64 < cLine:=by have:=r.un;omega
def tNil:TA:=fun _ H Q=>Q [] H
def a5l(ta:TE)(tr:TA):TA:=fun σ H Q=>ta σ H fun x H1=>tr σ H1 fun xs H2=>Q (x :: xs) H2
section
variable{X:Cx}{e:Expr}{es:List Expr}{te:TE}{t:TA}{pos:Pos}
theorem a0r:PA X [] tNil:=fun _ _ _ _ H Q I h=>Calls.spliced_nil ⟨[],H,I,.nil,h⟩
theorem a0i(ha:PE X e te)(hr:PA X es t)(hs:starEach (e :: es) X.env=(false,eval e X.env) :: starEach es X.env:=by rfl):PA X (e :: es) (a5l te t):=by
 intro pos pins s σ H Q I h
 rw [hs]
 show wpAny _ _ (spliced ((false,eval e X.env) :: backTo pos (starEach es X.env))) _ _ s
 refine Calls.spliced_cons (thn (ha pins s σ H _ I h) fun u s1 hq9=>?_)
 obtain⟨x,H1,I1,r1,q1⟩:=hq9
 exact thn (hr pos pins s1 σ H1 _ I1 q1) fun us s2 hq8=>by obtain⟨xs,H2,I2,r2,q2⟩:=hq8;exact⟨x :: xs,H2,I2,.cons r1 r2,q2⟩
def tTup(t:TA):TE:=fun σ H Q=>t σ H fun xs H1=>xs.length <= sizeLine/\∀ p,H1 p=none->Q (.ref p) (upd H1 p (.tup xs))
def tLst(t:TA):TE:=fun σ H Q=>t σ H fun xs H1=>xs.length <= sizeLine/\∀ p,H1 p=none->Q (.ref p) (upd H1 p (.lst xs))
theorem a5g{x1}(h:PA X es t):PE X (.Tuple es x1 pos) (tTup t):=by
 intro pins s σ H Q I hq
 refine wpAny_Tuple_spliced (thn (h pos pins s σ H _ I hq) fun us s1 ⟨xs,H1,I1,r,z,q⟩=>⟨by rw [← r.length];exact z,?_⟩)
 have hf:H1 s1.heap.objs.size=none:=I1.hok.fresh (Nat.le_refl _)
 refine⟨.ref s1.heap.objs.size,upd H1 s1.heap.objs.size (.tup xs),I1.laid (t':=s1.toks) (fun b u e=>get?_push_of_some _ e) (Nat.le_refl _) ?_,rfl,q _ hf⟩
 exact⟨z,us,r,⟨_,get?_push_size _ rfl,⟨rfl,rfl⟩,_,rfl⟩⟩
theorem b8q(h:PA X es t):PE X (.List es pos) (tLst t):=by
 intro pins s σ H Q I hq
 refine wpAny_List_spliced (thn (h pos pins s σ H _ I hq) fun us s1 ⟨xs,H1,I1,r,z,q⟩=>⟨by rw [← r.length];exact z,?_⟩)
 have hf:H1 s1.heap.objs.size=none:=I1.hok.fresh (Nat.le_refl _)
 refine⟨.ref s1.heap.objs.size,upd H1 s1.heap.objs.size (.lst xs),I1.laid (t':=s1.toks) (fun b u e=>get?_push_of_some _ e) (Nat.le_refl _) ?_,rfl,q _ hf⟩
 exact⟨z,us,0,r,get?_push_size _ rfl⟩
end
abbrev Sp:=List V->Hp->VK->XK->Prop
abbrev CXT:=List Env->Hp->Shared->XK->Value->Shared->Prop
structure Env0(P:Program)(w:World)(K:W.Frag)(mg:Str->Option Value)(base:Heap)(A:Around)(outer:List Env)(s:Shared)(H:Hp):Prop where
 frames:A.frames=some outer
 mod:Mod K mg base
 bs:∀ b o,base.get? b=some o->s.heap.get? b=some o/\H b=none
 bsz:base.objs.size <= s.heap.objs.size
 funs:s.heap.FunFrames base outer
 frf:∀ b ∈ frs outer,H b=none
 hok:HOk P w H s.heap
 bare:AllBare s.gens
def CE(outer:List Env)(P:Program)(w:World)(H:Hp)(s:Shared)(Q:VK)(u:Value)(s':Shared):Prop:=
 ∃ v H',s'.os=s.os/\AllBare s'.gens/\Un (frs outer) [] H H' s.heap s'.heap/\HOk P w H' s'.heap/\RelV v u/\Q v H'
def CR(CX:CXT)(outer:List Env)(P:Program)(w:World)(H:Hp)(s:Shared)(Q:VK)(E:XK)(r:Result)(s':Shared):Prop:=
 match r with
 | .ok (.ret u)=>CE outer P w H s Q u s'
 | .ok _=>False
 | .error e=>CX outer H s E e s'
structure FnOk(P:Program)(w:World)(K:W.Frag)(mg:Str->Option Value)(base:Heap)(CX:CXT)(k:Nat)(f:Addr)(fd:FuncData)(ps:List Str)(sp:Sp):Prop where
 len:∀ vs H Q E,sp vs H Q E->vs.length=ps.length
 run:∀ (A:Around) (outer:List Env) (s:Shared) (H:Hp) (args:Args) (us:List Value) (vs:List V) (Q:VK) (E:XK),Room k A->Env0 P w K mg base A outer s H->BindsTo s fd args (ps.zip us)->Vals vs us->sp vs H Q E ->
  codeAny (model P w) A (.call (.ref f) args) (CR CX outer P w H s Q E) s
theorem FnOk.mono{P:Program}{w:World}{K:W.Frag}{mg:Str->Option Value}{base:Heap}{CX:CXT}{j k:Nat}{f:Addr}{fd:FuncData}{ps:List Str}{sp:Sp}(F:FnOk P w K mg base CX j f fd ps sp)(h:j <= k) :
  FnOk P w K mg base CX k f fd ps sp:=⟨F.len,fun A outer s H args us vs Q E hr=>F.run A outer s H args us vs Q E (hr.mono h)⟩
theorem Env0.make{P:Program}{w:World}{K:W.Frag}{mg:Str->Option Value}{base:Heap}{A:Around}{outer:List Env}{s:Shared}{H:Hp}(e:Env0 P w K mg base A outer s H)(C:Addr)(us:List Value)(kw:List (Str × Value)) :
  Env0 P w K mg base (A.under (.builtin "type.__call__" ⟨.ref C :: us,kw⟩)) outer s H:=⟨by first | exact e.frames | (simpa [Around.under,Code.envs,Code.isFrame,pushEnvs] using e.frames),e.mod,e.bs,e.bsz,e.funs,e.frf,e.hok,e.bare⟩
section
variable{X:Cx}{pins:List (Addr × Obj)}{σ:St}{H:Hp}{s s':Shared}
theorem Inv.env0(I:Inv X pins σ H s):Env0 X.prog X.w X.K X.mg X.base X.A X.stack s H:=
 ⟨I.ok.frames,I.ok.mod,I.bs,Nat.le_trans I.ok.bsz I.sz,I.stack,I.stkFree,I.hok,I.bare⟩
theorem Inv.after{Q:VK}{u:Value}(I:Inv X pins σ H s)(h:CE X.stack X.prog X.w H s Q u s'):EP X pins σ Q u s':=by
 obtain⟨v,H',os,bare,un,hok,r,q⟩:=h
 obtain⟨hh,g,d,t,os'⟩:=s'
 obtain rfl:os'=s.os:=os
 exact⟨v,H',I.call (h':=hh) (g':=g) (d':=d) (t':=t) (ch:=[]) un hok bare (fun b z=>absurd z (by simp)),r,q⟩
end
def b4b(sp:Sp)(dvs:List V)(E:XK)(t:TA):TE:=fun σ H Q=>t σ H fun vs H1=>sp (vs ++ dvs) H1 Q E
def d3i(C:Addr)(m:Str)(sp:Sp)(dvs:List V)(E:XK)(ta:TE)(t:TA):TE:=fun σ H Q=>ta σ H fun x H1=>∃ a dx fs,x=.ref a/\H1 a=some (.ins C dx fs)/\fs.lookup m=none /\
 t σ H1 fun vs H2=>sp (x :: (vs ++ dvs)) H2 Q E
def tMake(C:Addr)(sp:Sp)(dvs:List V)(E:XK)(t:TA):TE:=fun σ H Q=>t σ H fun vs H1=>∀ x dx,H1 x=none->H1 dx=none->dx ≠ x ->
 sp (.ref x :: (vs ++ dvs)) (upd (upd H1 dx (.own x)) x (.ins C dx [])) (fun v H2=>v=.non/\Q (.ref x) H2) E
def Binds(K:W.Frag)(fd:FuncData)(ps:List Str)(ds:List Value):Prop:=
 ∀ (s:Shared) (us:List Value),K.In s.heap->(us ++ ds).length=ps.length->BindsTo s fd ⟨us,[]⟩ (ps.zip (us ++ ds))
theorem Binds.all{K:W.Frag}{fd:FuncData}{ps:List Str}(h:∀ us:List Value,us.length=ps.length->bindArgs fd ⟨us,[]⟩=pure (ps.zip us)):Binds K fd ps []:=fun s us _ hl=>by
 rw [append_nil] at hl ⊢
 exact .of_eq (h us hl)
def a4l(CX:CXT)(X:Cx)(E:XK):Prop:=∀ (pins:List (Addr × Obj)) (σ:St) (H:Hp) (s:Shared) (e:Value) (s':Shared),Inv X pins σ H s->CX X.stack H s E e s'->X.xe e s'
section
variable{X:Cx}{CX:CXT}{k:Nat}{f C:Addr}{fd:FuncData}{ps:List Str}{sp:Sp}{dvs:List V}{ds:List Value}{E:XK}{x m:Str}{p pos apos:Pos}{e o:Expr}{es:List Expr}{ta:TE}{t:TA}
theorem b4c{pins:List (Addr × Obj)}{σ:St}{H:Hp}{s:Shared}{Q:VK}{us:List Value}{vs:List V}(F:FnOk X.prog X.w X.K X.mg X.base CX k f fd ps sp)(hr:Room k X.A)(hb:Binds X.K fd ps ds)(hd:Vals dvs ds)(hx:a4l CX X E)
  (I:Inv X pins σ H s) (r:Vals vs us) (h:sp (vs ++ dvs) H Q E):wpAny (model X.prog X.w) X.A (call (.ref f) us) (EP X pins σ Q) X.xe s:=by
 have r2:Vals (vs ++ dvs) (us ++ ds):=r.append hd
 have hl:(us ++ ds).length=ps.length:=by rw [← r2.length];exact F.len _ _ _ _ h
 refine wpAny_call (codeAny_mono (F.run X.A X.stack s H ⟨us,[]⟩ (us ++ ds) (vs ++ dvs) Q E hr I.env0 (hb s us I.kIn hl) r2 h) fun r s' hq=>?_)
 cases r with
 | error e=>exact hx pins σ H s e s' I hq
 | ok fl =>
  cases fl with
  | ret u=>exact I.after hq
  | next=>exact False.elim hq
  | brk=>exact False.elim hq
  | cont=>exact False.elim hq
theorem d4j(F:FnOk X.prog X.w X.K X.mg X.base CX k f fd ps sp)(hr:Room k X.A)(hg:Gl X x)(hm:X.mg x=some (.ref f))(hk:PySem.W.keepIn X.K (.ref f)=true)(hb:Binds X.K fd ps ds)(hd:Vals dvs ds)(hx:a4l CX X E)
  (ha:PA X (e :: es) t) (hdb:(x == ("__debug__" : Str))=false:=by decide) (he:starEach (e :: es) X.env=(false,eval e X.env) :: starEach es X.env:=by rfl) (hpl:(backTo pos (starEach es X.env)).any (·.1)=false:=by rfl) :
  PE X (.Call (.Name x p) (e :: es) [] pos) (b4b sp dvs E t):=by
 intro pins s σ H Q I h
 refine wpAny_Call_Name_kw (b5o I hg hm ?_ hdb)
 refine PySem.W.callWith_K (h₀:=X.base) I.ok.mod.kin hk (thn (ha pos pins s σ H _ I h) fun us s1 ⟨vs,H1,I1,r,q⟩=>⟨I1.kIn,?_⟩) he hpl
 exact b4c F hr hb hd hx I1 r q
theorem a9p{pl:Sem Bool}(he:PE X o ta)(c:Cls X.K C)(hm:Meth X.K C m f)(F:FnOk X.prog X.w X.K X.mg X.base CX k f fd ps sp)(hr:Room k X.A)(hb:Binds X.K fd ps ds)(hd:Vals dvs ds)(hx:a4l CX X E)(ha:PA X (e :: es) t)
  (hst:starEach (e :: es) X.env=(false,eval e X.env) :: starEach es X.env:=by rfl) (hpl:(backTo pos (starEach es X.env)).any (·.1)=false:=by rfl)
  (ht:eval (.Call (.Attribute o m apos) (e :: es) [] pos) X.env=(do
   let ov ← eval o X.env
   standAt apos.atName
   let (f,first) ← holding [ov] (getMethod ov m pl)
   callWith pos f first (backTo pos (starEach (e :: es) X.env)) (backToKw pos (keywordEach [] X.env))):=by rfl) :
  PE X (.Call (.Attribute o m apos) (e :: es) [] pos) (d3i C m sp dvs E ta t):=by
 intro pins s σ H Q I h
 refine PySem.W.methodCall_KW (pl:=pl) (thn (he pins s σ H _ I h) fun u s1 hq8=>?_) ht
 obtain⟨x,H1,I1,rx,a,dx,fs,ex,ea,l,q⟩:=hq8
 subst ex
 obtain rfl:u=Value.ref a:=rx
 refine b0f I1 ea c hm l ?_
 refine PySem.W.callWith_K (first:=[.ref a]) (h₀:=X.base) I.ok.mod.kin hm.kp (thn (ha pos pins s1 σ H1 _ I1 q) fun us s2 ⟨vs,H2,I2,r,q2⟩=>⟨I2.kIn,?_⟩) hst hpl
 exact b4c (us:=.ref a :: us) (vs:=.ref a :: vs) F hr hb hd hx I2 (.cons rfl r) q2
theorem a8o{pl:Sem Bool}(he:PE X o ta)(c:Cls X.K C)(hm:Meth X.K C m f)(F:FnOk X.prog X.w X.K X.mg X.base CX k f fd ps sp)(hr:Room k X.A)(hb:Binds X.K fd ps ds)(hd:Vals dvs ds)(hx:a4l CX X E)
  (ht:eval (.Call (.Attribute o m apos) [] [] pos) X.env=(do
   let ov ← eval o X.env
   standAt apos.atName
   let (f,first) ← holding [ov] (getMethod ov m pl)
   callWith pos f first (backTo pos (starEach [] X.env)) (backToKw pos (keywordEach [] X.env))):=by rfl) :
  PE X (.Call (.Attribute o m apos) [] [] pos) (d3i C m sp dvs E ta tNil):=by
 intro pins s σ H Q I h
 refine PySem.W.methodCall_KW (pl:=pl) (thn (he pins s σ H _ I h) fun u s1 hq8=>?_) ht
 obtain⟨x,H1,I1,rx,a,dx,fs,ex,ea,l,q⟩:=hq8
 subst ex
 obtain rfl:u=Value.ref a:=rx
 refine b0f I1 ea c hm l ?_
 exact PySem.W.callWith_K0 (first:=[.ref a]) I1.kIn hm.kp (b4c (us:=[.ref a]) (vs:=[.ref a]) F hr hb hd hx I1 (.cons rfl .nil) q)
structure Mk(K:W.Frag)(C f:Addr):Prop where
 makes:PySem.W.makesIn K C=true
 init:PySem.W.findIn K (.ref C) "__init__" = some (some (.ref f))
 fn:PySem.W.isFn K (.ref f)=true
 kp:PySem.W.keepIn K (.ref C)=true
theorem c9l{pins:List (Addr × Obj)}{σ:St}{H:Hp}{s:Shared}{Q:VK}{us:List Value}{vs:List V}(M:Mk X.K C f)(F:FnOk X.prog X.w X.K X.mg X.base CX k f fd ps sp)(hr:Room (k + 1) X.A)(hb:Binds X.K fd ps ds)(hd:Vals dvs ds)
  (hx:a4l CX X E) (I:Inv X pins σ H s) (r:Vals vs us)
  (h:∀ x dx,H x=none->H dx=none->dx ≠ x->sp (.ref x :: (vs ++ dvs)) (upd (upd H dx (.own x)) x (.ins C dx [])) (fun v H2=>v=.non/\Q (.ref x) H2) E) :
  wpAny (model X.prog X.w) X.A (call (.ref C) us) (EP X pins σ Q) X.xe s:=by
 have hq:=h (s.heap.objs.size + 1) s.heap.objs.size (I.hok.fresh (le_succ _)) (I.hok.fresh (Nat.le_refl _)) (ne_of_lt (Nat.lt_succ_self _))
 have I2:=Inv.made (C:=C) I
 have r2:Vals (V.ref (s.heap.objs.size + 1) :: (vs ++ dvs)) (Value.ref (s.heap.objs.size + 1) :: (us ++ ds)):=.cons rfl (r.append hd)
 have hl:(Value.ref (s.heap.objs.size + 1) :: us ++ ds).length=ps.length:=by
  have e:=r2.length
  rw [F.len _ _ _ _ hq] at e
  exact e.symm
 refine wpAny_call (c9k (f:=f) I.kIn M.makes M.init (beq_iff_eq.mp M.fn) (codeAny_mono (F.run _ X.stack _ _ ⟨Value.ref (s.heap.objs.size + 1) :: us,[]⟩ (Value.ref (s.heap.objs.size + 1) :: (us ++ ds)) _ _ E (hr.make C us [])
  (I2.env0.make C us []) (hb _ (Value.ref (s.heap.objs.size + 1) :: us) I2.kIn hl) r2 hq) fun r s' hq'=>?_))
 cases r with
 | error e=>exact hx pins σ _ _ e s' I2 hq'
 | ok fl =>
  cases fl with
  | ret u =>
   obtain⟨v,H',I3,rv,ev,q3⟩:=I2.after hq'
   subst ev
   exact⟨rv,⟨V.ref (s.heap.objs.size + 1),H',I3,rfl,q3⟩⟩
  | next=>exact False.elim hq'
  | brk=>exact False.elim hq'
  | cont=>exact False.elim hq'
theorem c1z(M:Mk X.K C f)(F:FnOk X.prog X.w X.K X.mg X.base CX k f fd ps sp)(hr:Room (k + 1) X.A)(hg:Gl X x)(hm:X.mg x=some (.ref C))(hb:Binds X.K fd ps ds)(hd:Vals dvs ds)(hx:a4l CX X E)
  (ha:PA X (e :: es) t) (hdb:(x == ("__debug__" : Str))=false:=by decide) (he:starEach (e :: es) X.env=(false,eval e X.env) :: starEach es X.env:=by rfl) (hpl:(backTo pos (starEach es X.env)).any (·.1)=false:=by rfl) :
  PE X (.Call (.Name x p) (e :: es) [] pos) (tMake C sp dvs E t):=by
 intro pins s σ H Q I h
 refine wpAny_Call_Name_kw (b5o I hg hm ?_ hdb)
 refine PySem.W.callWith_K (h₀:=X.base) I.ok.mod.kin M.kp (thn (ha pos pins s σ H _ I h) fun us s1 ⟨vs,H1,I1,r,q⟩=>⟨I1.kIn,?_⟩) he hpl
 exact c9l M F hr hb hd hx I1 r q
end
section
variable{X:Cx}{CX:CXT}{k:Nat}{f C:Addr}{fd:FuncData}{ps ks:List Str}{sp:Sp}{E:XK}{x m:Str}{p pos apos kpos:Pos}{e o:Expr}{es:List Expr}{kws:List Keyword}{te ta:TE}{t tk:TA}{nm:Option Str}
variable{g:List Value->List Value->List Value}{gV:List V->List V->List V}
end
structure FnScope(N P:List Str)(sc:Scope):Prop where
 kind:sc.kind=.function
 co:sc.isCoroutine=false
 gen:sc.isGenerator=false
 nd:N.Nodup
 pre:N.take P.length=P
 par:∀ x ∈ P,sc.names.lookup x=some .local ∨ sc.names.lookup x=some .cell
 nofree:∀ y ∈ sc.names,y.2 ≠ .free
theorem b6v{kindOf:Str->Option NameKind}{x:Str}:∀ {binds:List (Str × Value)} {m:Str->Option Value},(∀ v,(x,v) ∉ binds)->bindL kindOf binds m x=m x
 | [],_,_=>rfl
 | (n,v) :: r,m,h=>by
  unfold bindL
  rw [b6v fun w hw=>h w (mem_cons_of_mem _ hw)]
  split
  ·have:x ≠ n:=by rintro rfl;exact h v mem_cons_self
   simp [this]
  ·rfl
theorem b6w{kindOf:Str->Option NameKind}{x:Str}:∀ {binds:List (Str × Value)} {m:Str->Option Value},(∀ v,(x,v) ∉ binds)->bindC kindOf binds m x=m x
 | [],_,_=>rfl
 | (n,v) :: r,m,h=>by
  unfold bindC
  rw [b6w fun w hw=>h w (mem_cons_of_mem _ hw)]
  split
  ·rfl
  ·have:x ≠ n:=by rintro rfl;exact h v mem_cons_self
   simp [this]
theorem b6x{kindOf:Str->Option NameKind}{x:Str}{v:Value}:∀ {P:List Str} {vs:List Value} {i:Nat} {m:Str->Option Value},P.Nodup->P[i]? = some x->vs[i]? = some v->kindOf x=some .local ->
  bindL kindOf (P.zip vs) m x=some v
 | [],_,_,_,_,h,_,_=>by simp at h
 | _ :: _,[],_,_,_,_,h,_=>by simp at h
 | p :: P,w :: vs,0,m,nd,h1,h2,hk=>by
  simp at h1 h2;subst h1;subst h2
  show bindL kindOf ((p,w) :: P.zip vs) m p=_
  unfold bindL
  rw [b6v fun v hv=>(nodup_cons.mp nd).1 (of_mem_zip hv).1,if_pos hk]
  simp
 | p :: P,w :: vs,i + 1,m,nd,h1,h2,hk=>by
  show bindL kindOf ((p,w) :: P.zip vs) m x=_
  unfold bindL
  exact b6x (i:=i) (nodup_cons.mp nd).2 (by simpa using h1) (by simpa using h2) hk
theorem b6y{kindOf:Str->Option NameKind}{x:Str}{v:Value}:∀ {P:List Str} {vs:List Value} {i:Nat} {m:Str->Option Value},P.Nodup->P[i]? = some x->vs[i]? = some v->kindOf x ≠ some .local ->
  bindC kindOf (P.zip vs) m x=some v
 | [],_,_,_,_,h,_,_=>by simp at h
 | _ :: _,[],_,_,_,_,h,_=>by simp at h
 | p :: P,w :: vs,0,m,nd,h1,h2,hk=>by
  simp at h1 h2;subst h1;subst h2
  show bindC kindOf ((p,w) :: P.zip vs) m p=_
  unfold bindC
  rw [b6w fun v hv=>(nodup_cons.mp nd).1 (of_mem_zip hv).1,if_neg hk]
  simp
 | p :: P,w :: vs,i + 1,m,nd,h1,h2,hk=>by
  show bindC kindOf ((p,w) :: P.zip vs) m x=_
  unfold bindC
  exact b6y (i:=i) (nodup_cons.mp nd).2 (by simpa using h1) (by simpa using h2) hk
noncomputable def start(N:List Str)(vs:List V):St:=vs.map some ++ List.replicate (N.length - vs.length) none
noncomputable def cxOf(CX:CXT)(P:Program)(w:World)(K:W.Frag)(mg:Str->Option Value)(base:Heap)(N:List Str)(qual:Str)(scope:Scope)(f:Addr)(cd:Value)(A:Around)(outer:List Env)(s:Shared)(H:Hp)(E:XK):Cx where
 prog:=P
 w:=w
 K:=K
 mg:=mg
 base:=base
 A:=A.deeper (envOfC qual scope s.heap.objs.size f cd)
 N:=N
 s₀:=s
 H₀:=H
 env:=envOfC qual scope s.heap.objs.size f cd
 outer:=outer
 stack:=envOfC qual scope s.heap.objs.size f cd :: outer
 ex:=[]
 calm:=true
 fn:=fun _=>true
 pn:=[]
 xe:=fun e s'=>wpAny (model P w) (A.deeper (envOfC qual scope s.heap.objs.size f cd)) (leaving (envOfC qual scope s.heap.objs.size f cd) e) (fun _ s''=>CX outer H s E e s'') (fun e' s''=>CX outer H s E e' s'') s'
theorem b8r{sc:Scope}{n:Nat}{x:Str}(h:sc.names.lookup x=some .cell):∃ c,(cellsFrom n sc.names []).lookup x=some c:=by
 have q:=PySem.W.cellsFrom_some sc.names n [] (.inl h)
 exact Option.isSome_iff_exists.mp q
theorem b6z{CX:CXT}{P:Program}{w:World}{K:W.Frag}{mg:Str->Option Value}{base:Heap}{N ps:List Str}{qual:Str}{scope:Scope}{f:Addr}{cd:Value}{A:Around}{outer:List Env}{s s1:Shared}{H:Hp}{E:XK}{us:List Value}{vs:List V}
  (S:FnScope N ps scope) (hd:A.handled=none) (e0:Env0 P w K mg base A outer s H) (hl:vs.length=ps.length) (r:Vals vs us)
  (x:InCallC s s.heap.objs.size (bindL (envOfC qual scope s.heap.objs.size f cd).kindOf (ps.zip us) fun _=>none) (cellsFrom (s.heap.objs.size + 1) scope.names []) (bindC (envOfC qual scope s.heap.objs.size f cd).kindOf (ps.zip us) fun _=>none) s1) :
  Inv (cxOf CX P w K mg base N qual scope f cd A outer s H E) [] (start N vs) H s1:=by
 have hpl:ps.length <= N.length:=by have:=congrArg List.length S.pre;rw [length_take] at this;omega
 obtain⟨h1,tk,rfl,hk⟩:=x.done
 have noA:∀ b:Addr,b ∉ (cxOf CX P w K mg base N qual scope f cd A outer s H E).ex:=fun b z=>absurd (show b ∈ ([]:List Addr) from z) (by simp)
 refine⟨⟨e0.mod,S.kind,rfl,rfl,Nat.le_refl _,fun y z c h1 h2=>?_,fun y hy=>?_,fun y c _ h=>?_,fun _=>hd,Around.frames_deeper e0.frames,.inr ⟨rfl,rfl⟩,fun b z=>absurd z (noA b),e0.bs,e0.bsz,fun b _ _=>noA b,fun b z=>absurd z (noA b),e0.funs,e0.frf⟩,
  rfl,e0.bare,Un.kept hk,⟨_,x.toInCall.ns,fun i y v h1 h2 h3=>?_⟩,fun y c h=>⟨_,x.cell y c h⟩,e0.hok.fresh (Nat.le_refl _),fun y c h=>?_,fun p hp=>absurd (show p ∈ ([]:List (Addr × Obj)) from hp) (by simp),e0.hok.kept hk,?_⟩
 ·exact name_of_addr x.apart (PySem.mem_of_lookup h1) (PySem.mem_of_lookup h2)
 ·have hy:scope.names.lookup y=some .cell ∨ scope.names.lookup y=some .free:=hy
  rcases hy with hy | hy
  ·exact b8r hy
  ·exact absurd rfl (S.nofree _ (PySem.mem_of_lookup hy))
 ·exact le_of_lt (x.above y c (PySem.mem_of_lookup h))
 ·have hi:i < vs.length:=by
   unfold start at h2
   by_cases hi:i < vs.length
   ·exact hi
   ·rw [getElem?_append_right (by simpa using hi)] at h2
    rw [List.getElem?_replicate] at h2
    split at h2<;>cases h2
  have ha:vs[i]? = some v:=by
   unfold start at h2
   rw [getElem?_append_left (by simpa using hi),getElem?_map] at h2
   cases e:vs[i]? with
   | none=>rw [e] at h2;cases h2
   | some a=>rw [e] at h2;cases h2;rfl
  obtain⟨u,hu,rv⟩:=r.get ha
  have hp:ps[i]? = some y:=by
   rw [← S.pre,List.getElem?_take_of_lt (by omega)];exact h1
  have ndP:ps.Nodup:=by rw [← S.pre];exact S.nd.sublist (List.take_sublist _ _)
  refine⟨u,rv,?_⟩
  rcases S.par y (mem_of_getElem? hp) with k | k
  ·exact .inl ⟨k,b6x ndP hp hu k⟩
  ·obtain⟨c,e⟩:=b8r (n:=s.heap.objs.size + 1) k
   refine .inr ⟨.inl k,c,e,?_⟩
   have q:=x.cell y c e
   rw [b6y ndP hp hu (by show scope.names.lookup y ≠ _;rw [k];decide)] at q
   exact q
 ·exact e0.hok.fresh (le_of_lt (x.above y c (PySem.mem_of_lookup h)))
 ·unfold start
  show _=N.length
  rw [length_append,length_map,length_replicate]
  omega
theorem d3j{CX:CXT}{P:Program}{w:World}{K:W.Frag}{mg:Str->Option Value}{base:Heap}{k:Nat}{f:Addr}{name qual:Str}{params:Arguments}{body:List Stmt}{scope:Scope}{dV kV doc pm cdv ct oc:Value}{an od:Option Addr}
  {osl:Array (Option Value)} {N ps:List Str} {sp:Sp} (lk:K.lookup f=some ⟨oc,od,.func (PySem.W.fnOf name qual params body scope dV kV doc pm an cdv ct),osl⟩) (hcd:PySem.W.codeIn K cdv qual=true) (S:FnScope N ps scope)
  (len:∀ vs H Q E,sp vs H Q E->vs.length=ps.length)
  (hbody:∀ (A:Around) (outer:List Env) (s:Shared) (H:Hp) (vs:List V) (Q:VK) (E:XK),Room k (A.deeper (envOfC qual scope s.heap.objs.size f cdv))->sp vs H Q E ->
   ∃ t,PSs (cxOf CX P w K mg base N qual scope f cdv A outer s H E) body t/\t { nx:=fun _ H'=>Q .non H',rt:=Q } (start N vs) H) :
  FnOk P w K mg base CX (k + 1) f (PySem.W.fnOf name qual params body scope dV kV doc pm an cdv ct) ps sp:=by
 refine⟨len,fun A outer s H args us vs Q E hr e0 hb r hsp=>?_⟩
 have hl:=len _ _ _ _ hsp
 have KX:K.In s.heap:=e0.mod.kin.keeps fun b o e=>(e0.bs b o e).1
 have lim:s.heap.NoLimit:=e0.mod.nolimit.keeps fun b o e=>(e0.bs b o e).1
 have hkind:∀ y ∈ ps.zip us,scope.names.lookup y.1=some .local ∨ (scope.names.lookup y.1=some .cell/\((cellsFrom (s.heap.objs.size + 1) scope.names []).lookup y.1).isSome=true):=fun⟨n,v⟩ hy=>by
  rcases S.par n (of_mem_zip hy).1 with q | q
  ·exact .inl q
  ·exact .inr ⟨q,PySem.W.cellsFrom_some _ _ _ (.inl q)⟩
 refine codeAny_call_function hr.depth (KX _ _ lk) rfl S.co S.gen rfl (PySem.W.codeRec_of KX hcd) (hb _ _ _ _ ?_)
 refine wpAny_newFunctionEnv_cells S.kind hkind fun env he s1 x=>?_
 subst he
 refine⟨lim.keeps x.toInCall.keep,codeAny_func ?_⟩
 obtain⟨t,ht,hq⟩:=hbody A outer s H vs Q E (hr.deeper _) hsp
 have I:Inv (cxOf CX P w K mg base N qual scope f cdv A outer s H E) [] (start N vs) H s1:=b6z S hr.hd e0 hl r x
 refine wpAny_mono (ht [] s1 (start N vs) H _ I hq) (fun fl s' hs=>?_) fun e s' hs=>hs
 have fin:∀ {σ':St} {H':Hp} {v:V} {u:Value},Inv (cxOf CX P w K mg base N qual scope f cdv A outer s H E) [] σ' H' s'->RelV v u->Q v H'->CE outer P w H s Q u s':=
  fun{σ' H' v u} J rv q=>⟨v,H',J.os,J.bare,J.base,J.hok,rv,q⟩
 cases fl with
 | ret u =>
  obtain⟨v,σ',H',J,rv,q⟩:=hs
  exact fin J rv q
 | next =>
  obtain⟨σ',H',J,q⟩:=hs
  exact fin (v:=V.non) (u:=Value.none) J rfl q
 | brk =>
  obtain⟨_,_,_,q⟩:=hs
  exact False.elim q
 | cont =>
  obtain⟨_,_,_,q⟩:=hs
  exact False.elim q
end L2
namespace L2
open PySem PySem.Spec PyProof.Rows
section
variable{X:Cx}{x:Str}{p pos:Pos}{e:Expr}{es:List Expr}{t:TA}{id T:String}{r:List V->Hp->VK->Prop}
def tCB(r:List V->Hp->VK->Prop)(t:TA):TE:=fun σ H Q=>t σ H fun vs H1=>r vs H1 Q
theorem a4m(hc:a3h X (.builtin id) r)(hg:Gl X x)(hm:X.mg x=none)(hv:bootBuiltins x=some (.builtin id))(ha:PA X (e :: es) t) (hn:x ≠ "__name__":=by decide) (hdb:(x == ("__debug__" : Str))=false:=by decide)
  (he:starEach (e :: es) X.env=(false,eval e X.env) :: starEach es X.env:=by rfl) (hpl:(backTo pos (starEach es X.env)).any (·.1)=false:=by rfl):PE X (.Call (.Name x p) (e :: es) [] pos) (tCB r t):=by
 intro pins s σ H Q I h
 refine wpAny_Call_Name_kw (a9n I hg hm hv ?_ hn hdb)
 exact PyProof.Rows.callWith_builtin1 (thn (ha pos pins s σ H _ I h) fun us s1 hq8=>by obtain⟨vs,H1,I1,r1,q1⟩:=hq8;exact hc pins s1 σ H1 vs us Q I1 r1 q1) he hpl
theorem a9e(hc:a3h X (.type T) r)(hg:Gl X x)(hm:X.mg x=none)(hv:bootBuiltins x=some (.type T))(ha:PA X (e :: es) t) (hn:x ≠ "__name__":=by decide) (hdb:(x == ("__debug__" : Str))=false:=by decide)
  (he:starEach (e :: es) X.env=(false,eval e X.env) :: starEach es X.env:=by rfl) (hpl:(backTo pos (starEach es X.env)).any (·.1)=false:=by rfl):PE X (.Call (.Name x p) (e :: es) [] pos) (tCB r t):=by
 intro pins s σ H Q I h
 refine wpAny_Call_Name_kw (a9n I hg hm hv ?_ hn hdb)
 exact PyProof.Rows.callWith_type1 (thn (ha pos pins s σ H _ I h) fun us s1 hq8=>by obtain⟨vs,H1,I1,r1,q1⟩:=hq8;exact hc pins s1 σ H1 vs us Q I1 r1 q1) he hpl
end
end L2
namespace HT
open PySem PyProof.Rows
section
open PySem.SeqAt
open PySem.AutoSeq1 (wpAny_loadPart')
open PySem.MeetsSeq PySem.MeetsSeq2 PySem.MeetsSeq3
end
section
variable{prog:Program}{w:World}{A:Around}{E:Value->Shared->Prop}{s:Shared}
theorem d4k{t b:Addr}{vs ws:List Value}{Q:Value->Shared->Prop}(ht:IsTup s.heap t vs.toArray)(hb:IsTup s.heap b ws.toArray)(hv:vs ≠ [])
  (h1:ws=[]->Q (.ref t) s) (h2:ws ≠ []->Q (.ref s.heap.objs.size) { s with heap:=s.heap.push { cls:=.type "tuple",data:=.seq (vs ++ ws).toArray } })
  (hsz:vs.length + ws.length <= sizeLine):wpAny (model prog w) A (binaryOp .Add (.ref t) (.ref b)) Q E s:=by
 obtain⟨⟨cls,dd,data,sl⟩,ho,hc,n,hd⟩:=id ht
 obtain⟨⟨cls2,dd2,data2,sl2⟩,ho2,hc2,n2,hd2⟩:=id hb
 simp only at hc hd hc2 hd2
 subst hc hd hc2 hd2
 have e:vs.toArray ++ ws.toArray=(vs ++ ws).toArray:=by simp
 by_cases hw:ws=[]
 ·exact concat_meets ⟨_,ho,rfl⟩ ⟨_,ho2,rfl⟩ noFill_tuple_add seq_tuple_add PySem.F.slot_tuple_add PySem.F.entry_tuple_add (PySem.F.args_tuple_add_2 _ _)
   (tuple_addW1 t b vs.toArray ws.toArray n n2 dd dd2 sl sl2 (by simpa using hv) (by simp [hw])) ⟨ho,ho2,h1 hw⟩
 ·refine concat_meets ⟨_,ho,rfl⟩ ⟨_,ho2,rfl⟩ noFill_tuple_add seq_tuple_add PySem.F.slot_tuple_add PySem.F.entry_tuple_add (PySem.F.args_tuple_add_2 _ _)
   (tuple_addW2 t b vs.toArray ws.toArray n n2 dd dd2 sl sl2 (by simpa using hv) (by simpa using hw) (by rw [size_toArray,size_toArray];exact hsz)) ⟨ho,ho2,?_⟩
  rw [e]
  exact h2 hw
noncomputable def sIx(n d:Nat):Option Int->Nat
 | none=>d
 | some v=>if v < 0 then(v + (n:Int)).toNat else min v.toNat n
theorem d9h(n d:Nat)(hd:d <= n)(o:Option Int):sIx n d o <= n:=by
 cases o with
 | none=>exact hd
 | some v =>
  show(if v < 0 then(v + (n:Int)).toNat else min v.toNat n) <= n
  by_cases hv:v < 0
  ·rw [if_pos hv];omega
  ·rw [if_neg hv];exact Nat.min_le_right _ _
theorem c2a(v:Int)(n d:Nat):(if v < 0 then max (v + (n:Int)) 0 else min v (n:Int))=((sIx n d (some v):Nat):Int):=by
 show(if v < 0 then max (v + (n:Int)) 0 else min v (n:Int))=(((if v < 0 then(v + (n:Int)).toNat else min v.toNat n):Nat):Int)
 by_cases hv:v < 0
 ·simp only [if_pos hv];omega
 ·simp only [if_neg hv];omega
theorem c3r(lo hi:Option Int)(n:Nat):Builtin.Slice.sliceAdjust lo hi 1 (n:Int)=(((sIx n 0 lo:Nat):Int),((sIx n n hi:Nat):Int)):=by
 have h1:¬ ((1:Int) < 0):=by omega
 unfold Builtin.Slice.sliceAdjust
 simp only [h1,if_false]
 refine Prod.ext ?_ ?_
 ·cases lo with
  | none=>rfl
  | some v=>exact c2a v n 0
 ·cases hi with
  | none=>rfl
  | some v=>exact c2a v n n
theorem c3s(i j:Nat):Builtin.Slice.slicePlaces (i:Int) (j:Int) 1=j - i:=by
 unfold Builtin.Slice.slicePlaces
 have h1:(1:Int) > 0:=by omega
 simp only [h1,if_true,Int.ediv_one]
 split<;>omega
theorem b4d{v:Value}{o:Option Int}{Q:Option Int->Shared->Prop}(p:IsPart v o)(h:Q o s):wpAny (model prog w) A (Builtin.Slice.slicePartIndex v) Q E s:=by
 cases p with
 | none=>exact slicePart_none h
 | int i t=>exact slicePart_int h
theorem a8p{sl:Addr}{vl vu:Value}{lo hi:Option Int}{n:Nat}{Q:Int × Int × Nat->Shared->Prop}(hs:s.heap.IsSliceOf sl vl vu .none)(pl:IsPart vl lo)(pu:IsPart vu hi)
  (h:Q (((sIx n 0 lo:Nat):Int),1,sIx n n hi - sIx n 0 lo) s):wpAny (model prog w) A (Builtin.Slice.sliceApplied (.ref sl) (pure (n:Int))) Q E s:=by
 obtain⟨os,hos,hcs,hds⟩:=id hs
 unfold Builtin.Slice.sliceApplied Builtin.Slice.sliceFields
 refine wpAny_bind (wpAny_bind (wpAny_field hos hds (x:=vl) rfl (wpAny_bind (wpAny_field hos hds (x:=vu) rfl (wpAny_bind (wpAny_field hos hds (x:=.none) rfl (wpAny_pure ?_)))))))
 refine wpAny_bind (slicePart_none ?_)
 show wpAny _ _ (if ((1:Int) == 0)=true then _ else _) _ _ s
 rw [if_neg (by decide)]
 refine wpAny_bind (b4d pl (wpAny_bind (b4d pu (wpAny_bind (wpAny_pure ?_)))))
 show wpAny _ _ (match Builtin.Slice.sliceAdjust lo hi 1 (n:Int) with | (lo,hi)=>pure (lo,(1:Int),Builtin.Slice.slicePlaces lo hi 1)) _ _ s
 rw [c3r lo hi n]
 show wpAny _ _ (pure (((sIx n 0 lo:Nat):Int),(1:Int),Builtin.Slice.slicePlaces ((sIx n 0 lo:Nat):Int) ((sIx n n hi:Nat):Int) 1)) _ _ s
 rw [c3s]
 exact wpAny_pure h
theorem c9m(xs:Array Value)(i k:Nat):((List.range k).filterMap fun(m:Nat)=>xs[((i:Int) + (m:Int) * 1).toNat]?).toArray=((xs.toList.drop i).take k).toArray:=by
 have e:(fun(m:Nat)=>xs[((i:Int) + (m:Int) * 1).toNat]?)=fun m=>xs[i + m]?:=by
  funext m
  have:((i:Int) + (m:Int) * 1).toNat=i + m:=by omega
  rw [this]
 rw [e]
 have:=pick_run xs i k
 rw [List.filterMap_map] at this
 have e2:((fun x=>xs[x]?) ∘ fun x=>i + x)=fun m=>xs[i + m]?:=rfl
 rw [e2] at this
 rw [this]
theorem b2l{t sl:Addr}{items:Array Value}{vl vu:Value}{lo hi:Option Int}{Q:Value->Shared->Prop}(ht:IsTup s.heap t items)(hs:s.heap.IsSliceOf sl vl vu .none)(pl:IsPart vl lo)(pu:IsPart vu hi)
  (hw:¬ (sIx items.size 0 lo=0/\sIx items.size items.size hi=items.size))
  (h:Q (.ref s.heap.objs.size) { s with heap:=s.heap.push { cls:=.type "tuple",data:=.seq ((items.toList.drop (sIx items.size 0 lo)).take (sIx items.size items.size hi - sIx items.size 0 lo)).toArray } })
  (hsz:items.size <= sizeLine):wpAny (model prog w) A (getItem (.ref t) (.ref sl)) Q E s:=by
 have htake:sizeOk (.seq ((items.toList.drop (sIx items.size 0 lo)).take (sIx items.size items.size hi - sIx items.size 0 lo)).toArray):=by
  show((items.toList.drop (sIx items.size 0 lo)).take (sIx items.size items.size hi - sIx items.size 0 lo)).toArray.size <= sizeLine
  rw [size_toArray,length_take,List.length_drop,Array.length_toList]
  omega
 have hj:sIx items.size items.size hi <= items.size:=d9h _ _ (Nat.le_refl _) hi
 obtain⟨os,hos,hcs,hds⟩:=id hs
 have hTs:s.TypeIs (.ref sl) "slice":=⟨os,hos,hcs⟩
 unfold getItem
 try with_reducible refine wpAny_holding ?_
 first | refine wpAny_bind (wpAny_pure ?_) | skip
 refine wpAny_bind (wpAny_sequenceKey ht.typeIs (by decide) ?_)
 refine wpAny_bind (wpAny_callSpecial?_slot (name:=Str.ofString "__getitem__") ht.typeIs PyProof.Rows.slot_tuple_getitem
  (wpAny_call_entry PyProof.Rows.slot_tuple_getitem ht.typeIs entry_tuple_getitem ?_ (args_tuple_getitem _ _)))
 show wpAny _ _ (Builtin.Tuple.tupleItemsOf (.ref t) >>= _) _ _ s
 refine wpAny_bind (tupleItemsOf_ ht ?_)
 refine wpAny_bind (wpAny_typeOf hTs ?_)
 rw [if_pos (by decide)]
 refine wpAny_bind (a8p hs pl pu ?_)
 have hno:¬ ((((sIx items.size 0 lo:Nat):Int) == 0 && (1:Int) == 1 && (sIx items.size items.size hi - sIx items.size 0 lo) == items.size)=true):=by
  intro q
  rw [and_eq_true,and_eq_true] at q
  have q1:((sIx items.size 0 lo:Nat):Int)=0:=eq_of_beq q.1.1
  have q2:sIx items.size items.size hi - sIx items.size 0 lo=items.size:=eq_of_beq q.2
  exact hw ⟨by omega,by omega⟩
 show wpAny _ _ (if (((sIx items.size 0 lo:Nat):Int) == 0 && (1:Int) == 1 && (sIx items.size items.size hi - sIx items.size 0 lo) == items.size)=true then _ else _) _ _ s
 rw [if_neg hno,c9m]
 first
  | exact wpAny_bind (m:=Builtin.Tuple.tupleExact _) (wpAny_newObj_type (wpAny_pure ⟨_,rfl,wpAny_pure h⟩) htake)
  | exact wpAny_bind (m:=Builtin.Tuple.tupleExact _) (wpAny_newObj_type (wpAny_bind (wpAny_pure (wpAny_pure ⟨_,rfl,wpAny_pure h⟩))) htake)
  | exact wpAny_bind (wpAny_bind (m:=Builtin.Tuple.tupleExact _) (wpAny_newObj_type (wpAny_pure (wpAny_pure ⟨_,rfl,wpAny_pure h⟩)) htake))
  | exact wpAny_bind (wpAny_bind (m:=Builtin.Tuple.tupleExact _) (wpAny_newObj_type (wpAny_pure ⟨_,rfl,wpAny_pure h⟩) htake))
end
end HT
namespace L2
open PySem PySem.Spec PyProof.Rows
abbrev TO:=St->Hp->(Option Int->Hp->Prop)->Prop
def PO(X:Cx)(e:Option Expr)(t:TO):Prop:=
 ∀ (pins:List (Addr × Obj)) (s:Shared) (σ:St) (H:Hp) (Q:Option Int->Hp->Prop),Inv X pins σ H s->t σ H Q ->
  wpAny (model X.prog X.w) X.A (evalPart e X.env) (fun u s'=>∃ o H',Inv X pins σ H' s'/\IsPart u o/\Q o H') X.xe s
noncomputable def c2b:TO:=fun _ H Q=>Q none H
def d3k(t:TE):TO:=fun σ H Q=>t σ H fun x H1=>∃ i,x=.int i/\Q (some i) H1
section
variable{X:Cx}{e:Expr}{te:TE}{lo hi:Option Expr}{tl th:TO}{pos p2:Pos}
theorem d4l:PO X none c2b:=by
 intro pins s σ H Q I h
 rw [evalPart_none]
 exact wpAny_pure ⟨none,H,I,.none,h⟩
theorem d4m(h:PE X e te):PO X (some e) (d3k te):=by
 intro pins s σ H Q I hw
 rw [evalPart_some]
 refine thn (h pins s σ H _ I hw) fun u s1 hq9=>?_
 obtain⟨x,H1,I1,r1,q1⟩:=hq9
 obtain⟨i,rfl,q⟩:=q1
 obtain⟨t,rfl⟩:=r1
 exact⟨some i,H1,I1,.int i t,q⟩
def SlR(X:Cx)(r:V->Option Int->Option Int->Hp->VK->Prop):Prop:=
 ∀ (pins:List (Addr × Obj)) (s:Shared) (σ:St) (H:Hp) (x:V) (v vl vu:Value) (lo hi:Option Int) (sl:Addr) (Q:VK),Inv X pins σ H s->RelV x v->s.heap.IsSliceOf sl vl vu .none->IsPart vl lo->IsPart vu hi->r x lo hi H Q ->
  ∃ T id,typeLookup (.type T) "__getitem__" = pure (some (.builtin id))/\s.TypeIs v T/\wpAny (model X.prog X.w) X.A (getItem v (.ref sl)) (EP X pins σ Q) X.xe s
theorem SlR.or{r r':V->Option Int->Option Int->Hp->VK->Prop}(h:SlR X r)(h':SlR X r'):SlR X (fun x lo hi H Q=>r x lo hi H Q ∨ r' x lo hi H Q):=by
 intro pins s σ H x v vl vu lo hi sl Q I rx hs pl pu q
 rcases q with q | q
 ·exact h pins s σ H x v vl vu lo hi sl Q I rx hs pl pu q
 ·exact h' pins s σ H x v vl vu lo hi sl Q I rx hs pl pu q
def tSl(r:V->Option Int->Option Int->Hp->VK->Prop)(te:TE)(tl th:TO):TE:=fun σ H Q=>te σ H fun x H1=>tl σ H1 fun l H2=>th σ H2 fun u H3=>r x l u H3 Q
theorem c9n{r:V->Option Int->Option Int->Hp->VK->Prop}(hr:SlR X r)(he:PE X e te)(hl:PO X lo tl)(hu:PO X hi th):PE X (.Subscript e (.Slice lo hi none p2) pos) (tSl r te tl th):=by
 intro pins s σ H Q I h
 refine Subscript_ (thn (he pins s σ H _ I h) fun v s1 hq9=>?_)
 obtain⟨x,H1,I1,r1,q1⟩:=hq9
 refine wpAny_Slice (thn (hl pins s1 σ H1 _ I1 q1) fun vl s2 ⟨l,H2,I2,pl,q2⟩=>thn (hu pins s2 σ H2 _ I2 q2) fun vu s3 hq9=>?_)
 obtain⟨u,H3,I3,pu,q3⟩:=hq9
 rw [evalPart_none]
 refine wpAny_pure ?_
 have I4:Inv X pins σ H3 { s3 with heap:=s3.heap.push { cls:=.type "slice",data:=.fields #[vl,vu,.none] } }:=I3.kept (t':=s3.toks) fun b ob q=>get?_push_of_some _ q
 obtain⟨T,id,hT,ht,hg⟩:=hr pins { s3 with heap:=s3.heap.push { cls:=.type "slice",data:=.fields #[vl,vu,.none] } } σ H3 x v vl vu l u s3.heap.objs.size Q I4 r1 (Heap.IsSliceOf.new ..) pl pu q3
 show wpAny (model X.prog X.w) X.A (subscriptTail e (.Slice lo hi none p2) v (.ref s3.heap.objs.size)) (EP X pins σ Q) X.xe { s3 with heap:=s3.heap.push { cls:=.type "slice",data:=.fields #[vl,vu,.none] } }
 exact tail_any (ops:=[.ref s3.heap.objs.size,v]) ht hT hg (by with_unfolding_all rfl)
noncomputable def cutV(xs:List V)(lo hi:Option Int):List V:=(xs.drop (HT.sIx xs.length 0 lo)).take (HT.sIx xs.length xs.length hi - HT.sIx xs.length 0 lo)
theorem b2r(xs:List V)(lo hi:Option Int):(cutV xs lo hi).length <= xs.length:=by
 unfold cutV
 rw [length_take,List.length_drop]
 omega
noncomputable def rSlT(K:W.Frag):V->Option Int->Option Int->Hp->VK->Prop:=fun x lo hi H Q=>∃ a xs,x=.ref a/\SqT K H a xs /\
 ¬ (HT.sIx xs.length 0 lo=0/\HT.sIx xs.length xs.length hi=xs.length)/\∀ p,H p=none->Q (.ref p) (upd H p (.tup (cutV xs lo hi)))
theorem d9i:SlR X (rSlT X.K):=by
 intro pins s σ H x v vl vu lo hi sl Q I rx hs pl pu h
 obtain⟨a,xs,rfl,hx,hw,q⟩:=h
 cases rx
 obtain⟨its,r,ht,hz⟩:=I.tuple hx
 have hlen:its.toArray.size=xs.length:=by rw [size_toArray];exact r.length.symm
 refine⟨"tuple",_,PyProof.Rows.slot_tuple_getitem.lookup,ht.typeIs,?_⟩
 refine HT.b2l ht hs pl pu (by rw [hlen];exact hw) ?_ (by rw [hlen];exact hz)
 rw [hlen]
 refine⟨.ref s.heap.objs.size,_,I.laid (t':=s.toks) (o:=.tup (cutV xs lo hi)) (fun b ob q=>get?_push_of_some _ q) (Nat.le_refl _) ?_,rfl,q _ (I.hok.fresh (Nat.le_refl _))⟩
 exact⟨Nat.le_trans (b2r xs lo hi) hz,_,(r.drop (HT.sIx xs.length 0 lo)).take (HT.sIx xs.length xs.length hi - HT.sIx xs.length 0 lo),a5f.new _ _⟩
def d3l(K:W.Frag):R2:=fun x y H Q=>∃ a b xs ys,x=.ref a/\y=.ref b/\SqT K H a xs/\SqT K H b ys/\xs ≠ []/\xs.length + ys.length <= sizeLine /\
 (ys=[]->Q (.ref a) H)/\(ys ≠ []->∀ p,H p=none->Q (.ref p) (upd H p (.tup (xs ++ ys))))
theorem Vals.nil_iff{xs:List V}{us:List Value}(r:Vals xs us):us=[] ↔ xs=[]:=by
 cases r with
 | nil=>simp
 | cons _ _=>simp
theorem d4n:OpR X (binaryOp .Add) (d3l X.K):=by
 intro pins s σ H x y v u Q I rx ry h
 obtain⟨a,b,xs,ys,rfl,rfl,ha,hb,hx,hz,q1,q2⟩:=h
 cases rx
 cases ry
 obtain⟨its,r1,p1,_⟩:=I.tuple ha
 obtain⟨its2,r2,p2,_⟩:=I.tuple hb
 refine HT.d4k p1 p2 (fun z=>hx (r1.nil_iff.mp z)) (fun z=>⟨.ref a,H,I,rfl,q1 (r2.nil_iff.mp z)⟩) (fun z=>?_) (by rw [← r1.length,← r2.length];exact hz)
 refine⟨.ref s.heap.objs.size,_,I.laid (t':=s.toks) (o:=.tup (xs ++ ys)) (fun b ob q=>get?_push_of_some _ q) (Nat.le_refl _) ?_,rfl,q2 (fun w=>z (r2.nil_iff.mpr w)) _ (I.hok.fresh (Nat.le_refl _))⟩
 exact⟨by rw [length_append];exact hz,_,r1.append r2,a5f.new _ _⟩
end
end L2
namespace L2
open PySem PySem.Spec PyProof.Rows
noncomputable def ixN(n:Nat)(i:Int):Option Nat:=if 0 <= i then(if i < n then some i.toNat else none) else if -(n:Int) <= i then some (i + n).toNat else none
noncomputable def atI{α:Type}(xs:List α)(i:Int):Option α:=(ixN xs.length i).bind fun j=>xs[j]?
theorem c2c{n:Nat}{i:Int}{j:Nat}(h:ixN n i=some j):seqIndex? i n=some j/\j < n /\ -(n:Int) <= i/\i < n:=by
 unfold ixN at h
 by_cases h0:0 <= i
 ·rw [if_pos h0] at h
  by_cases h1:i < n
  ·rw [if_pos h1] at h
   have e:i.toNat=j:=Option.some.inj h
   exact⟨by rw [seqIndex_of h0 h1,e],by omega,by omega,h1⟩
  ·rw [if_neg h1] at h;cases h
 ·rw [if_neg h0] at h
  by_cases h1:-(n:Int) <= i
  ·rw [if_pos h1] at h
   have e:(i + n).toNat=j:=Option.some.inj h
   exact⟨by rw [seqIndex_neg (by omega) h1,e],by omega,h1,by omega⟩
  ·rw [if_neg h1] at h;cases h
theorem b5r{α:Type}{xs:List α}{i:Int}{v:α}(h:atI xs i=some v):∃ j,seqIndex? i xs.length=some j/\xs[j]? = some v/\j < xs.length /\ -(xs.length:Int) <= i/\i < xs.length:=by
 unfold atI at h
 cases e:ixN xs.length i with
 | none=>rw [e] at h;cases h
 | some j =>
  rw [e] at h
  obtain⟨h1,h2,h3,h4⟩:=c2c e
  exact⟨j,h1,h,h2,h3,h4⟩
theorem a5s{α:Type}{xs:List α}{j:Nat}{v:α}(h:xs[j]? = some v):atI xs (j:Int)=some v:=by
 have hj:j < xs.length:=(List.getElem?_eq_some_iff.mp h).1
 have e:ixN xs.length (j:Int)=some j:=by
  unfold ixN
  rw [if_pos (by omega),if_pos (by omega)];simp
 unfold atI;rw [e];exact h
def c2d(b:Expr):Prop:=∀ o i,subscripted b false o i=operate [o,i] (getItem o i)
def IxR(X:Cx)(r:R2):Prop:=
 ∀ (value slice:Expr) (pins:List (Addr × Obj)) (s:Shared) (σ:St) (H:Hp) (x y:V) (v u:Value) (Q:VK),Inv X pins σ H s->RelV x v->RelV y u->r x y H Q ->
  subscripted slice false v u=operate [v,u] (getItem v u)->wpAny (model X.prog X.w) X.A (subscriptTail value slice v u) (EP X pins σ Q) X.xe s
def MtR(X:Cx)(id:String)(r:V->List V->Hp->VK->Prop):Prop:=
 ∀ (pins:List (Addr × Obj)) (s:Shared) (σ:St) (H:Hp) (x:V) (xs:List V) (v:Value) (us:List Value) (Q:VK),Inv X pins σ H s->RelV x v->Vals xs us->r x xs H Q ->
  wpAny (model X.prog X.w) X.A (call (.builtin id) (v :: us)) (EP X pins σ Q) X.xe s
section
variable{X:Cx}{a b:Expr}{ta tb:TE}{pos:Pos}
theorem IxR.or{r r':R2}(h:IxR X r)(h':IxR X r'):IxR X (fun x y H Q=>r x y H Q ∨ r' x y H Q):=by
 intro value slice pins s σ H x y v u Q I rx ry q hs
 rcases q with q | q
 ·exact h value slice pins s σ H x y v u Q I rx ry q hs
 ·exact h' value slice pins s σ H x y v u Q I rx ry q hs
theorem a6y{r:R2}(hr:IxR X r)(ha:PE X a ta)(hb:PE X b tb)(hs:c2d b):PE X (.Subscript a b pos) (tOp r ta tb):=by
 intro pins s σ H Q I h
 exact Subscript_ (binT ha hb I h fun v u s2 x y H2 I2 rx ry q=>hr a b pins s2 σ H2 x y v u Q I2 rx ry q (hs _ _))
def rIxL(K:W.Frag):R2:=fun x y H Q=>∃ p xs i v,x=.ref p/\y=.int i/\SqL K H p xs/\atI xs i=some v/\Q v H
def rIxT(K:W.Frag):R2:=fun x y H Q=>∃ p xs i v,x=.ref p/\y=.int i/\SqT K H p xs/\atI xs i=some v/\Q v H
def rIxS:R2:=fun x y H Q=>∃ z i c,x=.str z/\y=.int i/\z.length <= sizeLine/\atI z.cps.toList i=some c/\Q (.str ⟨#[c]⟩) H
theorem a6j:IxR X (rIxL X.K):=by
 intro value slice pins s σ H x y v u Q I rx ry h hs
 obtain⟨p,xs,i,z,rfl,rfl,hq,he,q⟩:=h
 cases rx
 obtain⟨t,rfl⟩:=ry
 obtain⟨its,r,pl,hz⟩:=I.list hq
 obtain⟨j,h1,h2,h3,h4,h5⟩:=b5r he
 obtain⟨w,ew,rw'⟩:=r.get h2
 have hl:=r.length
 have hn:=a5v
 have fin:EP X pins σ Q w s:=⟨z,H,I,rw',q⟩
 by_cases h0:0 <= i
 ·have hj:i.toNat=j:=by
   rw [seqIndex_of h0 h5] at h1
   exact Option.some.inj h1
  exact item_listR pl.isList h0 (by omega) (by rw [hj];simpa using ew) fin hs
 ·have hj:(i + (its.toArray.size:Int)).toNat=j:=by
   rw [seqIndex_neg (by omega) h4] at h1
   rw [size_toArray,← hl]
   exact Option.some.inj h1
  exact subscriptTail_builtinR (x:=w) pl.isList.typeIs slot_list_getitem.lookup
   (wpAny_getItem_list_neg (Q:=fun r s'=>r=w/\EP X pins σ Q r s') pl.isList (by omega) (by rw [size_toArray]<;>omega) (by omega) (by rw [hj];simpa using ew) ⟨rfl,fin⟩) hs
theorem b4e:IxR X (rIxT X.K):=by
 intro value slice pins s σ H x y v u Q I rx ry h hs
 obtain⟨p,xs,i,z,rfl,rfl,hq,he,q⟩:=h
 cases rx
 obtain⟨t,rfl⟩:=ry
 obtain⟨its,r,pl,hz⟩:=I.tuple hq
 obtain⟨j,h1,h2,h3,h4,h5⟩:=b5r he
 obtain⟨w,ew,rw'⟩:=r.get h2
 have hl:=r.length
 have hn:=a5v
 have fin:EP X pins σ Q w s:=⟨z,H,I,rw',q⟩
 exact subscriptTail_builtinR (x:=w) pl.typeIs slot_tuple_getitem.lookup
  (getItem_tuple (j:=j) (Q:=fun r s'=>r=w/\EP X pins σ Q r s') pl (by omega) (by omega) (by rw [size_toArray,← hl];exact h1) (by simpa using ew) ⟨rfl,fin⟩) hs
theorem d9j:IxR X rIxS:=by
 intro value slice pins s σ H x y v u Q I rx ry h hs
 obtain⟨z,i,c,rfl,rfl,hz,he,q⟩:=h
 obtain⟨t,rfl⟩:=rx
 obtain⟨t',rfl⟩:=ry
 obtain⟨j,h1,h2,h3,h4,h5⟩:=b5r he
 have hl:z.cps.toList.length=z.length:=by simp [Str.length]
 rw [hl] at h1 h4 h5
 have hn:=a5v
 exact tail_any (typeIs_str s z t) slot_str_getitem.lookup (getItem_str (c:=c) (by
  have e1:decide (i < -(2 ^ 63:Int))=false:=decide_eq_false (by omega)
  have e2:decide (i ≥ 2 ^ 63)=false:=decide_eq_false (by omega)
  rw [e1,e2,Bool.or_false]) (by rw [h1];simpa using h2) ⟨.str ⟨#[c]⟩,H,I.tok _,⟨_,rfl⟩,q⟩) hs
def rIx(K:W.Frag):R2:=fun x y H Q=>rIxL K x y H Q ∨ rIxT K x y H Q ∨ rIxS x y H Q
theorem a0t:IxR X (rIx X.K):=a6j.or (b4e.or d9j)
theorem c3t(its:List Value)(n j:Nat)(u:Value):Obj.mapSeq (·.setIfInBounds j u) { cls:=.type "list",data:=.seq its.toArray n }={ cls:=.type "list",data:=.seq (its.set j u).toArray n }:=by
 simp [Obj.mapSeq]
theorem Inv.lst{pins:List (Addr × Obj)}{σ:St}{H:Hp}{s:Shared}{p:Addr}{xs:List V}(I:Inv X pins σ H s)(h:H p=some (.lst xs)) :
  ∃ (its:List Value) (n:Nat),Vals xs its/\s.heap.get? p=some { cls:=.type "list",data:=.seq its.toArray n }/\xs.length <= sizeLine:=by
 obtain⟨z,its,n,r,e⟩:=I.hok p _ h
 exact⟨its,n,r,e,z⟩
theorem Inv.lstUpd{pins:List (Addr × Obj)}{σ:St}{H:Hp}{s:Shared}{p:Addr}{xs ys:List V}{its its':List Value}{n n':Nat}{f:Obj->Obj}(I:Inv X pins σ H s)(h:H p=some (.lst xs))
  (ho:s.heap.get? p=some { cls:=.type "list",data:=.seq its.toArray n }) (hf:f { cls:=.type "list",data:=.seq its.toArray n }={ cls:=.type "list",data:=.seq its'.toArray n' }) (r:Vals ys its') (hz:ys.length <= sizeLine) (t:Nat) :
  Inv X pins σ (upd H p (.lst ys)) { s with heap:=s.heap.update p f,toks:=t }:=by
 have e:(s.heap.update p f).get? p=some { cls:=.type "list",data:=.seq its'.toArray n' }:=by
  rw [Heap.get?_update_self f ho (by rw [hf]<;>rfl),hf]
 refine I.write (x:=p) (e:=p) (by rw [h];trivial) (.inl rfl) (fun b u hb q=>(Heap.get?_update_other _ _ (Ne.symm hb)).trans q) ⟨_,e⟩ ?_
 exact⟨hz,its',n',r,e⟩
noncomputable def rSetL:V->V->V->Hp->(Hp->Prop)->Prop:=fun o i v H Q=>∃ p xs k j,o=.ref p/\i=.int k/\H p=some (.lst xs)/\ixN xs.length k=some j/\Q (upd H p (.lst (xs.set j v)))
theorem set_list:PSet X rSetL:=by
 intro pins s σ H o i v ov iv u Q I ro ri rv h
 obtain⟨p,xs,k,j,rfl,rfl,hp,hj,q⟩:=h
 cases ro
 obtain⟨t,rfl⟩:=ri
 obtain⟨its,n,r,ho,hz⟩:=I.lst hp
 obtain⟨h1,h2,h3,h4⟩:=c2c hj
 have hl:=r.length
 have hn:=a5v
 have I':Inv X pins σ (upd H p (.lst (xs.set j v))) { s with heap:=s.heap.update p (Obj.mapSeq (·.setIfInBounds j u)) }:=
  I.lstUpd hp ho (c3t its n j u) (r.set rv j) (by rw [length_set];exact hz) s.toks
 by_cases h0:0 <= k
 ·have hk:k.toNat=j:=by
   rw [seqIndex_of h0 h4] at h1
   exact Option.some.inj h1
  exact PySem.W.ki_setAt ho h0 (by omega) (by rw [size_toArray,← hl];exact h4) (by rw [hk];exact⟨_,I',q⟩)
 ·have hk:(k + (its.toArray.size:Int)).toNat=j:=by
   rw [seqIndex_neg (by omega) h3] at h1
   rw [size_toArray,← hl]
   exact Option.some.inj h1
  exact PySem.W.ki_setBack ho (by omega) (by rw [size_toArray,← hl];exact h3) (by omega) (by rw [hk];exact⟨_,I',q⟩)
theorem b8s(lo hi:Option Int)(n:Nat):(sliceBounds lo hi none n).1=((HT.sIx n 0 lo:Nat):Int)/\(sliceBounds lo hi none n).2.1=((HT.sIx n n hi:Nat):Int)/\(sliceBounds lo hi none n).2.2=1:=by
 refine⟨?_,?_,rfl⟩
 ·cases lo with
  | none=>simp [sliceBounds,HT.sIx]
  | some i =>
   simp only [sliceBounds,HT.sIx,Option.getD_none,show(1:Int) > 0 by decide,if_true]
   by_cases h:i < 0
   ·simp only [h,if_true]<;>omega
   ·simp only [h,if_false]<;>omega
 ·cases hi with
  | none=>simp [sliceBounds,HT.sIx]
  | some i =>
   simp only [sliceBounds,HT.sIx,Option.getD_none,show(1:Int) > 0 by decide,if_true]
   by_cases h:i < 0
   ·simp only [h,if_true]<;>omega
   ·simp only [h,if_false]<;>omega
theorem b7l(its:List Value)(lo hi:Option Int):slicePick its.toArray lo hi none=((its.drop (HT.sIx its.length 0 lo)).take (HT.sIx its.length its.length hi - HT.sIx its.length 0 lo)).toArray:=by
 obtain⟨h1,h2,h3⟩:=b8s lo hi its.toArray.size
 unfold slicePick
 rw [h1,h2,h3]
 simp only [sliceRange_one,pick_run,size_toArray]<;>rfl
noncomputable def rSlL(K:W.Frag):V->Option Int->Option Int->Hp->VK->Prop:=fun x lo hi H Q=>∃ a xs,x=.ref a/\SqL K H a xs/\∀ p,H p=none->Q (.ref p) (upd H p (.lst (cutV xs lo hi)))
theorem d4o:SlR X (rSlL X.K):=by
 intro pins s σ H x v vl vu lo hi sl Q I rx hs pl pu h
 obtain⟨a,xs,rfl,hx,q⟩:=h
 cases rx
 obtain⟨its,r,ht,hz⟩:=I.list hx
 have hlen:=r.length
 refine⟨"list",_,slot_list_getitem.lookup,ht.isList.typeIs,?_⟩
 refine wpAny_getItem_list_slice ht.isList hs pl pu .none (by simp) ?_ (by rw [size_toArray]<;>omega)
 rw [b7l,← hlen]
 refine⟨.ref s.heap.objs.size,_,I.laid (t':=s.toks) (o:=.lst (cutV xs lo hi)) (fun b ob q=>get?_push_of_some _ q) (Nat.le_refl _) ?_,rfl,q _ (I.hok.fresh (Nat.le_refl _))⟩
 exact⟨Nat.le_trans (b2r xs lo hi) hz,_,0,(r.drop (HT.sIx xs.length 0 lo)).take (HT.sIx xs.length xs.length hi - HT.sIx xs.length 0 lo),get?_push_size _ rfl⟩
noncomputable def a6z:V->Bool
 | .non=>true
 | .bl _=>true
 | .int _=>true
 | .str _=>true
 | _=>false
noncomputable def eqV:V->V->Bool
 | .non,.non=>true
 | .bl a,.bl b=>a == b
 | .bl a,.int b=>(if a then 1 else 0) == b
 | .int a,.bl b=>a == (if b then 1 else 0)
 | .int a,.int b=>a == b
 | .str a,.str b=>a == b
 | _,_=>false
theorem d9k{A:Around}{s:Shared}{y x:V}{u v:Value}(ry:RelV y u)(rx:RelV x v)(fy:a6z y=true)(fx:a6z x=true):SeqAt.EqAt A s u v (eqV y x):=by
 cases y with
 | non =>
  cases ry
  cases x with
  | non=>cases rx;exact SeqAt.EqAt.same _
  | bl b=>cases rx;exact SeqAt.EqAt.none_bool b
  | int b=>obtain⟨t,rfl⟩:=rx;exact SeqAt.EqAt.none_int b t
  | str b=>obtain⟨t,rfl⟩:=rx;exact SeqAt.EqAt.none_str b t
  | _=>exact absurd (show false=true from fx) Bool.false_ne_true
 | bl a =>
  cases ry
  cases x with
  | non=>cases rx;exact SeqAt.EqAt.bool_none a
  | bl b=>cases rx;exact SeqAt.EqAt.bool_bool a b
  | int b=>obtain⟨t,rfl⟩:=rx;exact SeqAt.EqAt.bool_int a b t
  | str b=>obtain⟨t,rfl⟩:=rx;exact SeqAt.EqAt.bool_str a b t
  | _=>exact absurd (show false=true from fx) Bool.false_ne_true
 | int a =>
  obtain⟨t',rfl⟩:=ry
  cases x with
  | non=>cases rx;exact SeqAt.EqAt.int_none a t'
  | bl b=>cases rx;exact SeqAt.EqAt.int_bool a t' b
  | int b=>obtain⟨t,rfl⟩:=rx;exact SeqAt.EqAt.int_int a t' b t
  | str b=>obtain⟨t,rfl⟩:=rx;exact SeqAt.EqAt.int_str a t' b t
  | _=>exact absurd (show false=true from fx) Bool.false_ne_true
 | str a =>
  obtain⟨t',rfl⟩:=ry
  cases x with
  | non=>cases rx;exact SeqAt.EqAt.str_none a t'
  | bl b=>cases rx;exact SeqAt.EqAt.str_bool a t' b
  | int b=>obtain⟨t,rfl⟩:=rx;exact SeqAt.EqAt.str_int a t' b t
  | str b=>obtain⟨t,rfl⟩:=rx;exact SeqAt.EqAt.str_str a t' b t
  | _=>exact absurd (show false=true from fx) Bool.false_ne_true
 | _=>exact absurd (show false=true from fy) Bool.false_ne_true
noncomputable def eqU(x:V)(u:Value):Bool:=match u with
 | .none=>eqV .non x
 | .bool b=>eqV (.bl b) x
 | .int i _=>eqV (.int i) x
 | .str z _=>eqV (.str z) x
 | _=>false
theorem c6r{x y:V}{u:Value}(r:RelV y u)(f:a6z y=true):eqU x u=eqV y x:=by
 cases y with
 | non=>cases r;rfl
 | bl b=>cases r;rfl
 | int i=>obtain⟨t,rfl⟩:=r;rfl
 | str z=>obtain⟨t,rfl⟩:=r;rfl
 | _=>exact absurd (show false=true from f) Bool.false_ne_true
theorem a9q{x:V}:∀ {xs:List V} {us:List Value},Vals xs us->xs.all a6z=true->us.any (eqU x)=xs.any fun y=>eqV y x
 | _,_,.nil,_=>rfl
 | y :: xs,u :: us,.cons r t,f=>by
  rw [all_cons,and_eq_true] at f
  rw [List.any_cons,List.any_cons,c6r r f.1,a9q t f.2]
theorem a8q{A:Around}{s:Shared}{x:V}{v:Value}(rx:RelV x v)(fx:a6z x=true):∀ {xs:List V} {us:List Value},Vals xs us->xs.all a6z=true->∀ u ∈ us,SeqAt.EqAt A s u v (eqU x u)
 | _,_,.nil,_=>fun u hu=>by cases hu
 | y :: xs,u :: us,.cons r t,f=>fun u' hu=>by
  rw [all_cons,and_eq_true] at f
  rcases mem_cons.mp hu with rfl | hu
  ·rw [c6r r f.1];exact d9k r rx f.1 fx
  ·exact a8q rx fx t f.2 u' hu
noncomputable def inV(x:V)(xs:List V):Bool:=xs.any fun y=>eqV y x
def rIn(K:W.Frag)(neg:Bool):R2:=fun x y H Q=>∃ p xs,y=.ref p/\(SqL K H p xs ∨ SqT K H p xs)/\a6z x=true/\xs.all a6z=true/\Q (.bl (if neg then !inV x xs else inV x xs)) H
theorem b1j:OpR X (compareOp .In) (rIn X.K false):=by
 intro pins s σ H x y v u Q I rx ry h
 obtain⟨p,xs,rfl,hq,fx,fs,q⟩:=h
 cases ry
 rcases hq with hq | hq
 ·obtain⟨its,r,pl,hz⟩:=I.list hq
  refine SeqAt.in_listAt (eqU x) pl.isList (fun w hw=>a8q rx fx r fs w (by simpa using hw)) ⟨.bl _,H,I,rfl,?_⟩
  rw [show its.toArray.any (eqU x)=its.any (eqU x) by simp,a9q r fs]
  exact q
 ·obtain⟨its,r,pl,hz⟩:=I.tuple hq
  refine SeqAt.in_tupleAt (eqU x) pl (fun w hw=>a8q rx fx r fs w (by simpa using hw)) ⟨.bl _,H,I,rfl,?_⟩
  rw [show its.toArray.any (eqU x)=its.any (eqU x) by simp,a9q r fs]
  exact q
theorem b8t:OpR X (compareOp .NotIn) (rIn X.K true):=by
 intro pins s σ H x y v u Q I rx ry h
 obtain⟨p,xs,rfl,hq,fx,fs,q⟩:=h
 cases ry
 rcases hq with hq | hq
 ·obtain⟨its,r,pl,hz⟩:=I.list hq
  refine SeqAt.notIn_listAt (eqU x) pl.isList (fun w hw=>a8q rx fx r fs w (by simpa using hw)) ⟨.bl _,H,I,rfl,?_⟩
  rw [show its.toArray.any (eqU x)=its.any (eqU x) by simp,a9q r fs]
  exact q
 ·obtain⟨its,r,pl,hz⟩:=I.tuple hq
  refine SeqAt.notIn_tupleAt (eqU x) pl (fun w hw=>a8q rx fx r fs w (by simpa using hw)) ⟨.bl _,H,I,rfl,?_⟩
  rw [show its.toArray.any (eqU x)=its.any (eqU x) by simp,a9q r fs]
  exact q
theorem b8u:OpR X (compareOp .NotIn) (fun x y H Q=>∃ i j,x=.str i/\y=.str j/\Q (.bl (!(!(Builtin.Str.occurrences j i 0 j.length 1).isEmpty))) H):=by
 intro pins s σ H x y v u Q I rx ry h
 obtain⟨i,j,rfl,rfl,q⟩:=h
 obtain⟨t,rfl⟩:=rx
 obtain⟨t',rfl⟩:=ry
 exact notIn_str ⟨.bl _,H,I,rfl,q⟩
theorem a3n:a3h X (.builtin "len") (fun xs H Q=>∃ p ys,xs=[.ref p]/\(SqL X.K H p ys ∨ SqT X.K H p ys)/\Q (.int ys.length) H):=by
 intro pins s σ H xs us Q I r h
 obtain⟨p,ys,rfl,hq,q⟩:=h
 obtain⟨u,rfl,rx⟩:=vals1 r
 cases rx
 have hn:=a5v
 rcases hq with hq | hq
 ·obtain⟨its,r',pl,hz⟩:=I.list hq
  have hlen:=r'.length
  exact Calls.call_len_list pl.isList (by simp only [size_toArray]<;>omega) ⟨.int ys.length,H,I.tok _,⟨s.toks + 1,by rw [size_toArray,hlen]⟩,q⟩
 ·obtain⟨its,r',pl,hz⟩:=I.tuple hq
  have hlen:=r'.length
  exact len_tuple pl (by simp only [size_toArray]<;>omega) ⟨.int ys.length,H,I.tok _,⟨s.toks + 1,by rw [size_toArray,hlen]⟩,q⟩
theorem b8v:a3h X (.builtin "len") (fun xs H Q=>∃ z,xs=[.str z]/\z.length <= sizeLine/\Q (.int z.length) H):=by
 intro pins s σ H xs us Q I r h
 obtain⟨z,rfl,hz,q⟩:=h
 obtain⟨u,rfl,t,rfl⟩:=vals1 r
 have hn:=a5v
 exact len_str (by omega) ⟨.int z.length,H,I.tok _,⟨_,rfl⟩,q⟩
theorem a3h.or{f:Value}{r r':List V->Hp->VK->Prop}(h:a3h X f r)(h':a3h X f r'):a3h X f (fun xs H Q=>r xs H Q ∨ r' xs H Q):=by
 intro pins s σ H xs us Q I rs q
 rcases q with q | q
 ·exact h pins s σ H xs us Q I rs q
 ·exact h' pins s σ H xs us Q I rs q
theorem b1b:a3h X (.type "tuple") (fun xs H Q=>∃ p ys,xs=[.ref p]/\((SqL X.K H p ys/\∀ l,H l=none->Q (.ref l) (upd H l (.tup ys))) ∨ (SqT X.K H p ys/\Q (.ref p) H))):=by
 intro pins s σ H xs us Q I r h
 obtain⟨p,ys,rfl,h⟩:=h
 obtain⟨u,rfl,rx⟩:=vals1 r
 cases rx
 rcases h with⟨hq,q⟩ | ⟨hq,q⟩
 ·obtain⟨its,r',pl,hz⟩:=I.list hq
  have hlen:=r'.length
  refine call_tuple_list pl.isList (fun h' kp=>?_) (by simp only [size_toArray]<;>omega)
  have I1:Inv X pins σ H { s with heap:=h' }:=I.kept (t':=s.toks) kp
  have I2:Inv X pins σ (upd H h'.objs.size (.tup ys)) { s with heap:=h'.push { cls:=.type "tuple",data:=.seq its.toArray } }:=
   I1.laid (t':=s.toks) (fun b o e=>get?_push_of_some _ e) (Nat.le_refl _) (show a1z X.prog X.w _ _ _ (.tup ys) from⟨hz,its,r',a5f.new _ _⟩)
  exact⟨.ref h'.objs.size,_,I2,rfl,q _ (I1.hok.fresh (Nat.le_refl _))⟩
 ·obtain⟨its,r',pl,hz⟩:=I.tuple hq
  exact call_tuple_same pl ⟨.ref p,H,I,rfl,q⟩
def tyV(K:W.Frag)(T:String)(x:V)(H:Hp):Prop:=match x with
 | .str _=>T = "str"
 | .int _=>T = "int"
 | .ref p=>(T = "list" /\ ∃ xs,SqL K H p xs) ∨ (T = "tuple" /\ ∃ o,K.lookup p=some o/\o.cls=.type "tuple" /\ o.dict=none) ∨
   (T = "dict" /\ ((∃ kvs,H p=some (.dK kvs)) ∨ ∃ kvs,H p=some (.dT kvs))) ∨ (T = "set" /\ ∃ S n,H p=some (.set S n))
 | _=>False
theorem c6s{pins:List (Addr × Obj)}{σ:St}{H:Hp}{s:Shared}{T:String}{x:V}{v:Value}(I:Inv X pins σ H s)(r:RelV x v)(ty:tyV X.K T x H) :
  s.TypeIs v T/\∀ a,v=.ref a->∃ ob,s.heap.get? a=some ob/\ob.dict=none:=by
 cases x with
 | str z =>
  obtain⟨t,rfl⟩:=r
  cases (show T = "str" from ty)
  exact⟨typeIs_str s z t,fun _ e=>nomatch e⟩
 | int i =>
  obtain⟨t,rfl⟩:=r
  cases (show T = "int" from ty)
  exact⟨typeIs_int s i t,fun _ e=>nomatch e⟩
 | ref p =>
  cases r
  rcases ty with⟨rfl,xs,hq⟩ | ⟨rfl,o,hk,hc,hd⟩ | ⟨rfl,hk⟩ | ⟨rfl,S,n,hk⟩
  ·obtain⟨its,_,pl,_⟩:=I.list hq
   refine⟨pl.isList.typeIs,fun a e=>?_⟩
   cases e
   obtain⟨o,n,e,c,hd,_⟩:=pl
   exact⟨o,e,hd⟩
  ·refine⟨⟨o,I.kIn p o hk,hc⟩,fun a e=>?_⟩
   cases e
   exact⟨o,I.kIn _ o hk,hd⟩
  ·have z:∃ o,s.heap.get? p=some o/\o.ExactDict:=by
    rcases hk with⟨kvs,hk⟩ | ⟨kvs,hk⟩
    ·obtain⟨_,_,_,_,o,_,_,e,ex,_⟩:=I.hok p _ hk
     exact⟨o,e,ex⟩
    ·obtain⟨_,_,_,_,o,_,_,e,ex,_⟩:=I.hok p _ hk
     exact⟨o,e,ex⟩
   obtain⟨o,e,ex⟩:=z
   refine⟨⟨o,e,ex.1⟩,fun a e2=>?_⟩
   cases e2
   exact⟨o,e,ex.2.1⟩
  ·obtain⟨o,_,_,_,e,ex,_⟩:=I.hok p _ hk
   refine⟨⟨o,e,ex.1⟩,fun a e2=>?_⟩
   cases e2
   exact⟨o,e,ex.2.1⟩
 | _=>exact False.elim ty
def tBM0(K:W.Frag)(T:String)(r:V->List V->Hp->VK->Prop)(to:TE):TE:=fun σ H Q=>to σ H fun x H1=>tyV K T x H1/\r x [] H1 Q
def tBM(K:W.Frag)(T:String)(r:V->List V->Hp->VK->Prop)(to:TE)(t:TA):TE:=fun σ H Q=>to σ H fun x H1=>tyV K T x H1/\t σ H1 fun xs H2=>r x xs H2 Q
variable{o e:Expr}{es:List Expr}{to:TE}{t:TA}{name:Str}{apos cpos:Pos}{T id:String}{r:V->List V->Hp->VK->Prop}
theorem d9l(pa:PlainAttrs T)(slot:Slot T name id) (hty:typeOf (.builtin id)=pure (.type "method_descriptor")) (hm:MtR X id r) (ho:PE X o to)
  (hbase:attributeBase o name X.env (eval o X.env)=eval o X.env:=by rfl) (hline:(apos.endLine == cpos.line)=true:=by rfl):PE X (.Call (.Attribute o name apos) [] [] cpos) (tBM0 X.K T r to):=by
 intro pins s σ H Q I h
 refine wpAny_Call_method0_late hbase hline (thn (ho pins s σ H _ I h) fun v s1 hq9=>?_)
 obtain⟨x,H1,I1,r1,ty,q1⟩:=hq9
 obtain⟨h1,h2⟩:=c6s I1 r1 ty
 exact⟨T,id,pa,slot,hty,h1,h2,Calls.callWith_builtin rfl (PySem.evalArgs_none (hm pins s1 σ H1 x [] v [] Q I1 r1 .nil q1))⟩
theorem b1y(pa:PlainAttrs T)(slot:Slot T name id) (hty:typeOf (.builtin id)=pure (.type "method_descriptor")) (hm:MtR X id r) (ho:PE X o to) (ha:PA X (e :: es) t)
  (hbase:attributeBase o name X.env (eval o X.env)=eval o X.env:=by rfl)
  (hfew:((backTo cpos (starEach (e :: es) X.env)).all (fun x=>!x.1) && (backToKw cpos (keywordEach [] X.env)).all (fun x=>x.1.isSome)
   && decide ((e :: es).length + ([]:List Keyword).length + (if ([]:List Keyword).isEmpty then 0 else 1) < 30))=true:=by rfl)
  (hline:(apos.endLine == cpos.line)=true:=by rfl) (hs:starEach (e :: es) X.env=(false,eval e X.env) :: starEach es X.env:=by rfl) (hplain:(backTo cpos (starEach es X.env)).any (·.1)=false:=by rfl) :
  PE X (.Call (.Attribute o name apos) (e :: es) [] cpos) (tBM X.K T r to t):=by
 intro pins s σ H Q I h
 refine wpAny_Call_method_late hbase hfew hline rfl (thn (ho pins s σ H _ I h) fun v s1 hq9=>?_)
 obtain⟨x,H1,I1,r1,ty,q1⟩:=hq9
 obtain⟨h1,h2⟩:=c6s I1 r1 ty
 refine⟨T,id,pa,slot,hty,h1,h2,?_⟩
 have hA:=ha cpos pins s1 σ H1 _ I1 q1
 rw [hs] at hA ⊢
 refine Calls.callWith_builtin (by show(false || (backTo cpos (starEach es X.env)).any (·.1))=false;rw [hplain]<;>rfl) (Calls.evalArgs_plain ?_)
 exact thn hA fun us s2 hq8=>by obtain⟨vs,H2,I2,r2,q2⟩:=hq8;exact hm pins s2 σ H2 x vs v us Q I2 r1 r2 q2
end
end L2
namespace L2
open PySem PySem.Spec PyProof.Rows
def MtM(X:Cx)(id:String)(r:V->List V->Hp->VK->Prop):Prop:=
 ∀ (pins:List (Addr × Obj)) (s:Shared) (σ:St) (H:Hp) (x:V) (xs:List V) (v:Value) (us:List Value) (Q:VK),Inv X pins σ H s->RelV x v->Vals xs us->r x xs H Q ->
  wpAny (model X.prog X.w) X.A (call (.builtin id) (v :: us)) (EP X pins σ Q) X.xe s
theorem Vals.one:∀ {x:V} {us:List Value},Vals [x] us->∃ u,us=[u]/\RelV x u
 | _,_,.cons r .nil=>⟨_,rfl,r⟩
theorem Vals.two:∀ {x y:V} {us:List Value},Vals [x,y] us->∃ u v,us=[u,v]/\RelV x u/\RelV y v
 | _,_,_,.cons r (.cons q .nil)=>⟨_,_,rfl,r,q⟩
theorem Vals.zero:∀ {us:List Value},Vals [] us->us=[]
 | _,.nil=>rfl
theorem Vals.dropLast{xs:List V}{us:List Value}(h:Vals xs us):Vals xs.dropLast us.dropLast:=by
 induction h with
 | nil=>exact .nil
 | cons r t ih =>
  cases t with
  | nil=>exact .nil
  | cons q t'=>exact .cons r ih
theorem c3u{α:Type}(l:List α):l.eraseIdx (l.length - 1)=l.dropLast:=by
 induction l with
 | nil=>rfl
 | cons a r ih =>
  cases r with
  | nil=>rfl
  | cons b r =>
   have e:(a :: b :: r).length - 1=((b :: r).length - 1) + 1:=by
    have h1:(a :: b :: r).length=r.length + 2:=rfl
    have h2:(b :: r).length=r.length + 1:=rfl
    omega
   rw [e,List.eraseIdx_cons_succ,ih]
   all_goals rfl
section
variable{X:Cx}{pins:List (Addr × Obj)}{σ:St}{H:Hp}{s:Shared}{l b:Addr}{xs ys zs:List V}
theorem Inv.lset{its its':List Value}{n:Nat}{f:Array Value->Array Value}{t':Nat}(I:Inv X pins σ H s)(hH:H l=some (.lst xs))
  (e:s.heap.get? l=some { cls:=.type "list",data:=.seq its.toArray n }) (hf:f its.toArray=its'.toArray) (hv:Vals ys its') (hz:ys.length <= sizeLine) :
  Inv X pins σ (upd H l (.lst ys)) { s with heap:=s.heap.update l (Obj.mapSeq f),toks:=t' }:=by
 have q:=PySem.IsL.update e f
 rw [hf] at q
 refine I.write (x:=l) (e:=l) (by rw [hH];exact trivial) (.inl rfl) (fun b' u hb hu=>(Heap.get?_update_other s.heap (Obj.mapSeq f) (Ne.symm hb)).trans hu) ⟨_,q⟩ ?_
 exact⟨hz,its',_,hv,q⟩
theorem Inv.lnew{its:List Value}{t':Nat}(I:Inv X pins σ H s)(hv:Vals ys its)(hz:ys.length <= sizeLine) :
  Inv X pins σ (upd H s.heap.objs.size (.lst ys)) { s with heap:=s.heap.push { cls:=.type "list",data:=.seq its.toArray },toks:=t' }:=
 I.laid (fun _ _ q=>get?_push_of_some _ q) (Nat.le_refl _) ⟨hz,its,0,hv,get?_push_size _ rfl⟩
theorem Inv.fresh(I:Inv X pins σ H s):H s.heap.objs.size=none:=I.hok.fresh (Nat.le_refl _)
theorem Inv.lstM(I:Inv X pins σ H s)(hH:H l=some (.lst xs)):xs.length <= sizeLine/\∃ (its:List Value) (n:Nat),Vals xs its/\xs.length=its.length/\s.heap.get? l=some { cls:=.type "list",data:=.seq its.toArray n }:=by
 obtain⟨z,its,n,r,e⟩:=I.hok l _ hH
 exact⟨z,its,n,r,r.length,e⟩
end
section
variable{X:Cx}
noncomputable def c2e:V->List V->Hp->VK->Prop:=fun x vs H Q=>∃ l xs y,x=.ref l/\vs=[y]/\H l=some (.lst xs)/\xs.length < sizeLine/\Q .non (upd H l (.lst (xs ++ [y])))
theorem b1k:MtM X "list.append" c2e:=by
 intro pins s σ H x vs v us Q I rx rv h
 obtain⟨l,xs,y,rfl,rfl,hH,hz,q⟩:=h
 cases rx
 obtain⟨u,rfl,ru⟩:=rv.one
 obtain⟨z,its,n,r,hl,e⟩:=I.lstM hH
 refine call_meets F.slot_list_append ⟨_,e,rfl⟩ F.entry_list_append (F.args_list_append_2 _ _) (PySem.list_append l its.toArray n u (by rw [size_toArray];omega)) ⟨e,?_⟩
 refine⟨.non,_,I.lset (its':=its ++ [u]) hH e (by simp) (r.append (.cons ru .nil)) ?_,rfl,q⟩
 rw [length_append,length_singleton]
 omega
noncomputable def rPop:V->List V->Hp->VK->Prop:=fun x vs H Q=>∃ l xs y,x=.ref l/\vs=[]/\H l=some (.lst xs)/\xs[xs.length - 1]? = some y/\Q y (upd H l (.lst xs.dropLast))
theorem d9m:MtM X "list.pop" rPop:=by
 intro pins s σ H x vs v us Q I rx rv h
 obtain⟨l,xs,y,rfl,rfl,hH,hy,q⟩:=h
 cases rx
 have hus:=rv.zero
 subst hus
 obtain⟨z,its,n,r,hl,e⟩:=I.lstM hH
 obtain⟨u,hu,ru⟩:=r.get hy
 have hy':its.toArray[its.toArray.size - 1]? = some u:=by
  show its.toArray[its.length - 1]? = some u
  rw [← Array.getElem?_toList,← hl]
  exact hu
 refine call_meets F.slot_list_pop ⟨_,e,rfl⟩ F.entry_list_pop (F.args_list_pop_1 _) (MeetsSeq.list_pop_last l its.toArray n u hy' (by rw [size_toArray];omega)) ⟨e,?_⟩
 refine⟨y,_,I.lset (its':=its.dropLast) hH e ?_ r.dropLast ?_,ru,q⟩
 ·show its.toArray.eraseIdxIfInBounds (its.toArray.size - 1)=its.dropLast.toArray
  rw [size_toArray,List.eraseIdxIfInBounds_toArray,c3u]
 ·rw [List.length_dropLast]
  omega
def rCat:R2:=fun x y H Q=>∃ l b xs zs,x=.ref l/\y=.ref b/\H l=some (.lst xs)/\H b=some (.lst zs)/\xs.length + zs.length <= sizeLine/\∀ p,H p=none->Q (.ref p) (upd H p (.lst (xs ++ zs)))
theorem d9n:OpR X (binaryOp .Add) rCat:=by
 intro pins s σ H x y v u Q I rx ry h
 obtain⟨l,b,xs,zs,rfl,rfl,hH,hB,hz,q⟩:=h
 cases rx
 cases ry
 obtain⟨z,its,n,r,hl,e⟩:=I.lstM hH
 obtain⟨z2,its2,n2,r2,hl2,e2⟩:=I.lstM hB
 refine PySem.P.add_list e e2 ?_ (by rw [size_toArray,size_toArray];omega)
 have ea:its.toArray ++ its2.toArray=(its ++ its2).toArray:=by simp
 rw [ea]
 exact⟨.ref _,_,I.lnew (t':=s.toks) (r.append r2) (by rw [length_append];omega),rfl,q _ I.fresh⟩
end
section
variable{prog:Program}{w:World}{A:Around}{E:Value->Shared->Prop}{s:Shared}
set_option maxRecDepth 100000 in
end
section
variable{X:Cx}
end
end L2
namespace Att
open PySem PySem.W PySem.Calls PyProof.Rows
theorem b4f{P:Params}{h:Heap}:∀ (ns:List Int) (vs:List Value),WellAll P h vs (ns.map WData.int)->IntsAre vs ns:=by
 intro ns
 induction ns with
 | nil =>
  intro vs w
  rw [map_nil] at w
  cases w
  exact .nil
 | cons n ns ih =>
  intro vs w
  rw [map_cons] at w
  cases w with
  | cons a b =>
   cases a
   exact .cons _ _ (ih _ b)
theorem c6t{l:OpenLaw}{n:Nat}(hn:l.most=some n){P:Params}{h:Heap}{args:List WData}{vals:List Value}
  (hpre:l.row.toRowW.claim.pre args=true) (hwl:WellAll P h vals args) :
  ∃ a vs ns,vals=[Value.ref a]/\args=[WData.list (ns.map WData.int)]/\h.get? a=some { cls:=.type "list",data:=.seq vs.toArray }/\IntsAre vs ns/\ns.length <= n:=by
 have hsh:WShape.hasAll [] args [.list .int]=true:=(pre_splitW hpre).1
 have hc:l.pre.holds [] { args:=args }=true:=(pre_splitW hpre).2
 obtain⟨d,r,rfl,h1,h2⟩:=hasAllW_cons hsh
 obtain rfl:=hasAllW_nil h2
 obtain⟨xs,rfl,h3⟩:=hasW_list h1
 obtain⟨ns,rfl⟩:=items_int h3
 have hlen:ns.length <= n:=by
  unfold OpenLaw.pre at hc
  have h4:(WTm.not (.lt (.lit (.int (n:Int))) (.len (.arg 0)))).holds [] { args:=[.list (ns.map .int)] }=true:=by
   have h4:=(holds_andW hc).1
   rw [hn] at h4
   exact h4
  have h5:=condW_of h4 (w_not (w_lt w_lit (w_len_list (w_arg rfl))))
  rw [length_map] at h5
  refine Nat.le_of_not_lt fun q=>?_
  have q':(n:Int) < ((ns.length:Nat):Int):=by omega
  first
   | (rw [decide_eq_true q'] at h5;exact absurd h5 (by decide))
   | (simp at h5;omega)
 cases hwl with
 | cons w1 w2 =>
  cases w2
  cases w1 with
  | list ho hall=>exact⟨_,_,ns,rfl,rfl,ho,b4f ns _ hall,hlen⟩
theorem c6u(l:OpenLaw)(args:List WData):l.row.toRowW.claim.post args (.bool true) args=true:=
 postW_of (r:=l.row.toRowW) (X:=(true == true))
  (show WShape.has [] (.bool true) .bool=true by first | rfl | decide | simp [WShape.has,WShape.arms,WShape.armsAll])
  (show(WTm.eq .res (.lit (.bool true))).value [] { args:=args,res:=some (.bool true),after:=args }=some (.bool (true == true)) from w_eq_bool (w_res rfl) w_lit) rfl
theorem attach_call{l:OpenLaw}{n:Nat}{q:Program}{loose:List Str}{XP:(Str->Option Value)->Heap->Prop}{YP:World->Heap->Prop}{d:DefRec}
  (hn:l.most=some n) (hdf:d.params.defaults=[])
  (call:∀ (w:World) (s₀ s₁:Shared) (mg mb:Str->Option Value) (fa:Addr) (o:Obj) (pm cd doc:Value) (a:Addr) (vs:List Value) (ns:List Int),
   Ground q loose [] XP w s₀ mg mb s₁.heap->YP w s₁.heap ->
   s₁.heap.get? fa=some o->o.data=.func (docDef d.name d.params d.body d.scope pm cd doc)->s₁.heap.CodeRec cd d.name->mg d.name=some (.ref fa) ->
   s₁.heap.get? a=some { cls:=.type "list",data:=.seq vs.toArray }->IntsAre vs ns->ns.length <= n->s₁.gens = #[] ->
   codeAny (model l.prog w) callerA (.call (.ref fa) ⟨[.ref a],[]⟩) (fun r s'=>r=.ok (.ret (.bool true))/\OldK s₁.heap s'.heap/\s'.os=s₁.os/\AllBare s'.gens) s₁) :
  WalkO q loose XP YP l.row.toRowW d [] (fun f vs=>PySem.call f vs):=by
 intro w s₀ s₁ mg mb G Y fa o pm cd doc dV kV ho hd hcd hD hmg hg args vals as hpre hlay hrd hwl hlo
 obtain rfl:dV=.none:=Dflts.none hD hdf
 obtain rfl:kV=.none:=Dflts.noKw hD
 obtain⟨a,vs,ns,rfl,rfl,hobj,hints,hlen⟩:=c6t hn hpre hwl
 refine enter_call (codeAny_mono (call w s₀ s₁ mg mb fa o pm cd doc a vs ns G Y ho (fd_plain hd) hcd hmg hobj hints hlen hg) fun r s' hq=>?_)
 obtain⟨rfl,h2,h3,h4⟩:=hq
 exact⟨.inl ⟨.bool true,.bool true,[],rfl,fun _=>rfl,.bool true,c6u l _,fun _=>⟨List.Pairwise.nil,fun _ hm=>(nomatch hm)⟩⟩,h2,h3,h4⟩
section
variable{prog:Program}{w:World}{A:Around}{E:Value->Shared->Prop}{s:Shared}{K:Frag}
end
end Att
namespace L2
open PySem PySem.Spec PyProof.Rows
theorem b7a:∀ {vs:List Value} {ns:List Int},IntsAre vs ns->Vals (ns.map V.int) vs
 | _,_,.nil=>.nil
 | _,_,.cons n t h=>.cons ⟨t,rfl⟩ (b7a h)
end L2
namespace L2
open PySem PySem.Spec PyProof.Rows
end L2
namespace L2
open PySem PySem.Spec PyProof.Rows
noncomputable def inClass(s:Stmt)(j:Nat):Stmt:=match s with
 | .ClassDef _ _ _ body _ _ _ _ _ _ _=>body.getD j (.Pass ⟨0,0,0,0⟩)
 | _=>.Pass ⟨0,0,0,0⟩
noncomputable def a2l(s:Stmt):Arguments:=match s with
 | .FunctionDef _ a _ _ _ _ _ _ _ _=>a
 | _=>{ posonlyargs:=[],args:=[],vararg:=none,kwonlyargs:=[],kw_defaults:=[],kwarg:=none,defaults:=[] }
noncomputable def a1t(s:Stmt):List Stmt:=match s with
 | .FunctionDef _ _ b _ _ _ _ _ _ _=>b
 | _=>[]
noncomputable def a0e(s:Stmt):Scope:=match s with
 | .FunctionDef _ _ _ _ _ _ sc _ _ _=>sc
 | _=>{ kind:=.function,names:=[],isGenerator:=false,isCoroutine:=false }
abbrev CX0:CXT:=fun _ _ _ _ _ _=>False
abbrev E0:XK:=fun _ _ _=>False
theorem a4f{X:Cx}:a4l CX0 X E0:=fun _ _ _ _ _ _ _ h=>h.elim
structure Fun(K:W.Frag)(x qual:Str)(st:Stmt)(f:Addr)(fd:FuncData):Prop where
 ex:∃ (oc:Value) (od:Option Addr) (kV doc pm:Value) (an:Option Addr) (cdv ct:Value) (osl:Array (Option Value)),
  fd=PySem.W.fnOf x qual (a2l st) (a1t st) (a0e st) .none kV doc pm an cdv ct/\K.lookup f=some ⟨oc,od,.func fd,osl⟩/\PySem.W.codeIn K cdv qual=true
 kp:PySem.W.keepIn K (.ref f)=true
section
variable{P:Program}{w:World}{K:W.Frag}{mg:Str->Option Value}{base:Heap}
theorem Fun.ok{x qual:Str}{st:Stmt}{f:Addr}{fd:FuncData}{N ps:List Str}{k:Nat}{sp:Sp}(F:Fun K x qual st f fd)(S:FnScope N ps (a0e st))(len:∀ vs H Q E,sp vs H Q E->vs.length=ps.length)
  (hbody:∀ (cdv:Value) (A:Around) (outer:List Env) (s:Shared) (H:Hp) (vs:List V) (Q:VK) (E:XK),Room k (A.deeper (envOfC qual (a0e st) s.heap.objs.size f cdv))->sp vs H Q E ->
   ∃ t,PSs (cxOf CX0 P w K mg base N qual (a0e st) f cdv A outer s H E).nox (a1t st) t/\t { nx:=fun _ H'=>Q .non H',rt:=Q } (start N vs) H):FnOk P w K mg base CX0 (k + 1) f fd ps sp:=by
 obtain⟨oc,od,kV,doc,pm,an,cdv,ct,osl,rfl,lk,hcd⟩:=F.ex
 refine d3j lk hcd S len fun A outer s H vs Q E hr hsp=>?_
 obtain⟨t,h,q⟩:=hbody cdv A outer s H vs Q E hr hsp
 exact⟨t,h.nox,q⟩
theorem Fun.binds{x qual:Str}{st:Stmt}{f:Addr}{fd:FuncData}{ps:List Str}(F:Fun K x qual st f fd)
  (h:∀ (kV doc pm:Value) (an:Option Addr) (cdv ct:Value) (us:List Value),us.length=ps.length->bindArgs (PySem.W.fnOf x qual (a2l st) (a1t st) (a0e st) .none kV doc pm an cdv ct) ⟨us,[]⟩=pure (ps.zip us)):Binds K fd ps []:=by
 obtain⟨oc,od,kV,doc,pm,an,cdv,ct,osl,rfl,lk,hcd⟩:=F.ex
 exact .all (h kV doc pm an cdv ct)
theorem a2r{x qual:Str}{st:Stmt}{f:Addr}{oc:Value}{od an:Option Addr}{osl:Array (Option Value)}{kV doc pm cdv ct:Value}(l:K.lookup f=some ⟨oc,od,.func (PySem.W.fnOf x qual (a2l st) (a1t st) (a0e st) .none kV doc pm an cdv ct),osl⟩)
  (c:PySem.W.codeIn K cdv qual=true) (k:PySem.W.keepIn K (.ref f)=true):Fun K x qual st f (PySem.W.fnOf x qual (a2l st) (a1t st) (a0e st) .none kV doc pm an cdv ct):=⟨⟨oc,od,kV,doc,pm,an,cdv,ct,osl,rfl,l,c⟩,k⟩
end
theorem hu_of{A:Around}{k:Nat}(hr:Room k A):A.units + 1 < cLine:=Nat.lt_of_le_of_lt (Nat.add_le_add_left (by decide:1 <= 64) _) hr.units
section
variable{X:Cx}
theorem pv(i:Nat){x:Str}{pos:Pos}(hN:X.N[i]? = some x:=by rfl)(hv:Vis X.env.scope x:=by first | exact Or.inl rfl | exact Or.inr (Or.inl rfl) | exact Or.inr (Or.inr rfl)) (hd:(x == ("__debug__" : Str))=false:=by decide)
  (hcd:(x == ("__classdict__" : Str))=false:=by decide):PE X (.Name x pos) (tVar i):=b3w hN hv hd hcd
end
theorem iteF{A B:Prop}(h:B):if false=true then A else B:=by
 rw [if_neg Bool.false_ne_true]
 exact h
theorem iteT{A B:Prop}(h:A):if true=true then A else B:=by
 rw [if_pos rfl]
 exact h
theorem ite2{c A B:Prop}[Decidable c](h1:c->A)(h2:¬ c->B):if c then A else B:=by
 by_cases h:c
 ·rw [if_pos h]
  exact h1 h
 ·rw [if_neg h]
  exact h2 h
def Same(H H':Hp):Prop:=∀ b o,H b=some o->H' b=some o
theorem Same.refl(H:Hp):Same H H:=fun _ _ h=>h
theorem Same.trans{H H1 H2:Hp}(a:Same H H1)(b:Same H1 H2):Same H H2:=fun c o h=>b c o (a c o h)
theorem Same.free{H H':Hp}(e:Same H H'){l:Addr}(h:H' l=Option.none):H l=Option.none:=by
 cases q:H l with
 | none=>rfl
 | some o =>
  rw [e l o q] at h
  cases h
end L2
end
section
namespace Sx
open PySem
abbrev Up(xs:Array Nat):Prop:=∀ i k:Nat,i < k->∀ hk:k < xs.size,∀ hi:i < xs.size,xs[i] < xs[k]
structure Bel(xs:Array Nat)(j r:Nat):Prop where
 le:r <= xs.size
 lo:∀ i,i < r->∀ h:i < xs.size,xs[i] < j
 hi:∀ i,r <= i->∀ h:i < xs.size,j <= xs[i]
abbrev UpL(xs:List Nat):Prop:=xs.Pairwise (· < ·)
structure TOk(t:SetTable):Prop where
 none:t.dummies = #[]
 up:UpL t.place.toList
end Sx
end
section
namespace Sx
open PySem
section
variable{prog:Program}{w:World}{K:Type}[DecidableEq K](knd:KeyKind prog w K)(dec:Value->K)
structure Fc(ks:List K)(es:Array (Int × Value))(t:SetTable):Prop where
 el:ElemsOf knd es.toList
 pm:(es.toList.map fun e=>dec e.2).Perm ks
 nd:ks.Nodup
 sz:es.size < scanBound
 ft:t.fits es.size=true
 ok:TOk t
 ld:t.led = !w.params.followText "set-order"
abbrev setO(es:Array (Int × Value))(ep:Nat)(t:SetTable):Obj:={ cls:=.type "set",dict:=none,data:=.set es ep t,slots:=#[] }
def SetV(h:Heap)(a:Addr)(ks:List K):Prop:=∃ es ep t,h.get? a=some (setO es ep t)/\Fc knd dec ks es t
noncomputable def ins(ks:List K)(k:K):List K:=if k ∈ ks then ks else ks ++ [k]
variable{knd dec}
variable{A:Around}{E:Value->Shared->Prop}{s:Shared}
end
end Sx
end
section
namespace Sx
open PySem
section
variable{K:Type}[DecidableEq K]
noncomputable def uniq(ks:List K):List K:=ks.foldl ins []
end
section
variable{prog:Program}{w:World}{K:Type}[DecidableEq K]{knd:KeyKind prog w K}{dec:Value->K}{A:Around}{R:Result->Shared->Prop}{I:Addr}{fp wr:List Addr}{G:Array GenState->Array GenState->Prop}{St:Nat->Shared->Prop}{items:Array Value}{ks:List K}
end
section
variable{prog:Program}{w:World}{A:Around}{E:Value->Shared->Prop}{s:Shared}
end
end Sx
end
section
namespace Sx
open PySem
section
variable{M:Model}{A:Around}{E:Value->Shared->Prop}{s:Shared}
end
section
variable{prog:Program}{w:World}{A:Around}{E:Value->Shared->Prop}{s:Shared}{I S:Addr}{es:Array (Int × Value)}{ep i n:Nat}{t:SetTable}{first:Value}
end
end Sx
end
section
namespace Sx
open PySem
section
variable{prog:Program}{w:World}{A:Around}{I S:Addr}{es:Array (Int × Value)}{ep:Nat}{t:SetTable}
end
section
variable{prog:Program}{w:World}{A:Around}{E:Value->Shared->Prop}{s:Shared}{S:Addr}{es:Array (Int × Value)}{ep:Nat}{t:SetTable}
end
end Sx
end
section
namespace Sx
open PySem
section
variable{prog:Program}{w:World}{A:Around}{E:Value->Shared->Prop}{s:Shared}{S:Addr}{es:Array (Int × Value)}{ep:Nat}{t:SetTable}
end
end Sx
end
section
namespace L2
open PySem PySem.Spec PyProof.Rows
noncomputable def clOf(env:Env):List (Str × NameKind)->List (Str × Addr)->List (Str × Addr)
 | [],acc=>acc
 | (n,k) :: r,acc=>if k == .free then clOf env r ((n,(env.cells.lookup n).getD 0) :: acc) else clOf env r acc
theorem b0g(env:Env)(f:Str × NameKind->List (Str × Addr)->Sem (ForInStep (List (Str × Addr)))) :
  ∀ (names:List (Str × NameKind)) (acc:List (Str × Addr)),
   (∀ y ∈ names,∀ c,f y c=if (y.2 == .free)=true then pure (.yield ((y.1,(env.cells.lookup y.1).getD 0) :: c)) else pure (.yield c)) ->
   (forIn names acc f:Sem _)=pure (clOf env names acc)
 | [],acc,_=>by rw [forIn_nil];rfl
 | (n,k) :: r,acc,h=>by
  rw [List.forIn_cons,h (n,k) mem_cons_self]
  have hr:∀ y ∈ r,∀ c,f y c=if (y.2 == .free)=true then pure (.yield ((y.1,(env.cells.lookup y.1).getD 0) :: c)) else pure (.yield c):=fun y hy=>h y (mem_cons_of_mem _ hy)
  unfold clOf
  by_cases hk:(k == NameKind.free)=true
  ·rw [if_pos hk,if_pos hk,← b0g env f r _ hr]
   all_goals rfl
  ·rw [if_neg hk,if_neg hk,← b0g env f r _ hr]
   all_goals rfl
theorem a7n{env:Env}{scope:Scope}(h:∀ y ∈ scope.names,y.2=.free->∃ c,env.cells.lookup y.1=some c) :
  closureFor scope env=pure (clOf env scope.names []):=by
 simp only [closureFor]
 rw [b0g env _ scope.names [] (fun y hy c=>by
  obtain⟨n,k⟩:=y
  by_cases hk:k=.free
  ·subst hk
   obtain⟨a,ha⟩:=h (n,.free) hy rfl
   have e:cellOf env n=pure a:=by unfold cellOf;rw [ha]
   simp only [beq_self_eq_true,if_true,e,ha,Option.getD_some]
   rfl
  ·have hb:(k == NameKind.free)=false:=by simpa using hk
   simp only [hb,Bool.false_eq_true,if_false])]
 rfl
theorem a6k(env:Env):∀ (names:List (Str × NameKind)) (acc:List (Str × Addr)),clOf env names acc=clOf env names [] ++ acc
 | [],acc=>rfl
 | (n,k) :: r,acc=>by
  unfold clOf
  split
  ·rw [a6k env r,a6k env r [_],append_assoc];rfl
  ·exact a6k env r acc
theorem a4n{env:Env}:∀ {names:List (Str × NameKind)} {x:Str} {c:Addr},(x,c) ∈ clOf env names []->(x,NameKind.free) ∈ names/\c=(env.cells.lookup x).getD 0
 | [],x,c,h=>by cases h
 | (n,k) :: r,x,c,h=>by
  unfold clOf at h
  split at h
  ·rename_i hk
   rw [a6k] at h
   rcases mem_append.mp h with h | h
   ·exact⟨mem_cons_of_mem _ (a4n h).1,(a4n h).2⟩
   ·have e:(x,c)=(n,(env.cells.lookup n).getD 0):=by simpa using h
    have hk':k=.free:=by simpa using hk
    cases e
    exact⟨by rw [hk'];exact mem_cons_self,rfl⟩
  ·exact⟨mem_cons_of_mem _ (a4n h).1,(a4n h).2⟩
theorem b1z{env:Env}:∀ {names:List (Str × NameKind)} {x:Str},(x,NameKind.free) ∈ names->(x,(env.cells.lookup x).getD 0) ∈ clOf env names []
 | [],x,h=>by cases h
 | (n,k) :: r,x,h=>by
  unfold clOf
  rcases mem_cons.mp h with e | h
  ·cases e
   rw [if_pos (by rfl),a6k]
   exact mem_append_right _ (by simp)
  ·split
   ·rw [a6k];exact mem_append_left _ (b1z h)
   ·exact b1z h
theorem a3w:∀ (names:List (Str × NameKind)) (n:Nat) (acc:List (Str × Addr)),cellsFrom n names acc=cellsFrom n names [] ++ acc
 | [],_,acc=>rfl
 | (x,k) :: r,n,acc=>by
  unfold cellsFrom
  split
  ·rw [a3w r,a3w r _ [_],append_assoc];rfl
  ·exact a3w r n acc
theorem a2i:∀ {names:List (Str × NameKind)} {n:Nat} {x:Str} {c:Addr},(x,c) ∈ cellsFrom n names []->(x,NameKind.cell) ∈ names/\n <= c
 | [],n,x,c,h=>by cases h
 | (y,k) :: r,n,x,c,h=>by
  unfold cellsFrom at h
  split at h
  ·rename_i hk
   rw [a3w] at h
   rcases mem_append.mp h with h | h
   ·have q:=a2i h
    exact⟨mem_cons_of_mem _ q.1,by omega⟩
   ·have e:(x,c)=(y,n):=by simpa using h
    have hk':k=.cell:=by simpa using hk
    cases e
    exact⟨by rw [hk'];exact mem_cons_self,Nat.le_refl _⟩
  ·have q:=a2i h
   exact⟨mem_cons_of_mem _ q.1,q.2⟩
theorem a6l{α:Type}(x:Str):∀ (a b:List (Str × α)),(a ++ b).lookup x=(a.lookup x).or (b.lookup x)
 | [],b=>by simp
 | (k,v) :: r,b=>by
  rw [cons_append,lookup_cons,lookup_cons]
  cases x == k with
  | true=>rfl
  | false=>exact a6l x r b
theorem lookup_mem{α:Type}:∀ {l:List (Str × α)} {x:Str} {v:α},(x,v) ∈ l->∃ u,l.lookup x=some u
 | (k,w) :: r,x,v,h=>by
  rw [lookup_cons]
  cases e:x == k with
  | true=>exact⟨w,rfl⟩
  | false =>
   rcases mem_cons.mp h with q | q
   ·cases q;simp at e
   ·exact lookup_mem q
theorem a4o{α:Type}:∀ {l:List (Str × α)} {x:Str} {v:α},(l.map (·.1)).Nodup->(x,v) ∈ l->l.lookup x=some v
 | (k,w) :: r,x,v,hn,h=>by
  rw [lookup_cons]
  rw [map_cons,nodup_cons] at hn
  rcases mem_cons.mp h with q | q
  ·cases q;simp
  ·have:(x == k)=false:=by
    refine beq_eq_false_iff_ne.mpr ?_
    rintro rfl
    exact hn.1 (mem_map.mpr ⟨(x,v),q,rfl⟩)
   rw [this]
   exact a4o hn.2 q
theorem a9r(env:Env)(x:Str):∀ (names:List (Str × NameKind)),
  (names.map fun(n,k)=>if (k == NameKind.free && env.scope.kind == .function && env.kindOf n == some .cell) then(n,NameKind.cell) else(n,k)).lookup x =
   (names.lookup x).map fun k=>if (k == NameKind.free && env.scope.kind == .function && env.kindOf x == some .cell) then NameKind.cell else k
 | []=>rfl
 | (n,k) :: r=>by
  rw [map_cons,lookup_cons]
  cases hx:x == n with
  | true =>
   have e:x=n:=by simpa using hx
   subst e
   by_cases hc:(k == NameKind.free && env.scope.kind == .function && env.kindOf x == some .cell)=true
   ·simp only [if_pos hc,lookup_cons,hx,map_some]
   ·simp only [if_neg hc,lookup_cons,hx,map_some]
  | false =>
   have ih:=a9r env x r
   by_cases hc:(k == NameKind.free && env.scope.kind == .function && env.kindOf n == some .cell)=true
   ·simp only [if_pos hc,lookup_cons,hx];exact ih
   ·simp only [if_neg hc,lookup_cons,hx];exact ih
theorem c1f{M:Model}{A:Around}{E:Value->Shared->Prop}{s:Shared}{scope:Scope}{globals:Addr}{cl:List (Str × Addr)}{qual:Str}{outer:Env}{Q:Env->Shared->Prop}
  (hQ:Q (newEnv scope s.heap.objs.size globals (cellsFrom (s.heap.objs.size + 1) scope.names cl) qual none .none (some outer) builtinsNs)
    { s with heap:=pushCells (s.heap.push { cls:=.type "dict",data:=.dict #[] }) scope.names }) :
  wpAny M A (newFunctionEnv scope globals cl [] qual none .none (some outer)) Q E s:=by
 simp only [newFunctionEnv,Option.isSome_some,if_true]
 refine wpAny_bind (wpAny_alloc ?_)
 refine wpAny_bind (wpAny_layCells _ (fun name kind cells=>by cases hkc:kind == NameKind.cell<;>simp [hkc]) _ _ _ _ ?_)
 rw [show({ s with heap:=s.heap.push { cls:=.type "dict",data:=.dict #[] } }:Shared).heap.objs.size=s.heap.objs.size + 1 from size_push ..]
 rw [forIn_nil]
 exact wpAny_bind (wpAny_pure (wpAny_pure hQ))
section
variable{prog:Program}{w:World}{A:Around}{R:Result->Shared->Prop}{s:Shared}
theorem c1g{elt target iter:Expr}{ifs:List Expr}{scope:Scope}{pos:Pos}{it acc:Value}{env:Env}(I:Nat->Shared->Prop)
  (turn:∀ n s,I n s->wpAny (model prog w) A (pyNext it) (fun r s₁=>match r with
   | none=>R (.ok .next) s₁
   | some v=>wpAny (model prog w) A (letOwnedTupleGo target it v) (fun _ s₂'=>wpAny (model prog w) A (assign target env v) (fun _ s₂ =>
     wpAny (model prog w) A (forIn ifs true fun c r=>if r=true then do let ok ← isTrue c env (eval c env);pure (ForInStep.yield ok) else pure (ForInStep.yield r)) (fun ok s₃ =>
      if ok=true then wpAny (model prog w) A (eval elt env) (fun x s₄ =>
       wpAny (model prog w) A (call (.builtin "list.append") [acc,x]) (fun _ s₅=>∃ m,m < n/\I m s₅) (notedBy (model prog w) A env fun e s'=>R (.error e) s') s₄) (notedBy (model prog w) A env fun e s'=>R (.error e) s') s₃
      else ∃ m,m < n/\I m s₃) (notedBy (model prog w) A env fun e s'=>R (.error e) s') s₂) (notedBy (model prog w) A env fun e s'=>R (.error e) s') s₂') (notedBy (model prog w) A env fun e s'=>R (.error e) s') s₁) (notedBy (model prog w) A env fun e s'=>R (.error e) s') s)
  (n:Nat) (h:I n s) :
  codeAny (model prog w) A (.compLoop (.ListComp elt [⟨target,iter,ifs,0⟩] scope pos) 0 it acc env) R s:=by
 refine codeAny_loop rfl I (fun n s hI=>?_) n h
 show wpAny _ A ((compTurn (.ListComp elt [⟨target,iter,ifs,0⟩] scope pos) 0 it acc env).onRaise (fun x=>do noteFrame x env;theTreesLotGoes x)) _ _ s
 refine wpAny_noted ?_
 rw [compTurn_list]
 refine wpAny_bind (wpAny_standAt (wpAny_bind (wpAny_mono (turn n s hI) (fun r s₁ h₁=>?_) fun _ _ h'=>h')))
 cases r with
 | none=>exact wpAny_pure h₁
 | some v =>
  refine wpAny_bind (wpAny_mono h₁ (fun _ s₂' h₂'=>?_) fun _ _ h'=>h')
  refine wpAny_bind (wpAny_mono h₂' (fun _ s₂ h₂=>wpAny_bind (wpAny_mono h₂ (fun ok s₃ h₃=>?_) fun _ _ h'=>h')) fun _ _ h'=>h')
  cases ok with
  | false=>exact wpAny_pure ⟨rfl,h₃⟩
  | true =>
   exact wpAny_bind (wpAny_bind (wpAny_mono h₃ (fun x s₄ h₄=>wpAny_bind (wpAny_mono h₄ (fun _ s₅ h₅=>wpAny_pure (wpAny_pure ⟨rfl,h₅⟩)) fun _ _ h'=>h')) fun _ _ h'=>h'))
end
theorem nlt{a b:Nat}(h:b <= a):¬ a < b:=Nat.not_lt.mpr h
noncomputable def cxC(X:Cx)(scope:Scope)(own:List Str)(cap:List (Str × Nat))(fp:List Addr)(s2:Shared)(H2:Hp):Cx where
 prog:=X.prog
 w:=X.w
 K:=X.K
 mg:=X.mg
 base:=X.base
 A:=X.A
 N:=own ++ cap.map (·.1)
 s₀:=s2
 H₀:=H2
 env:={ scope:=relabel scope X.env,locals:=s2.heap.objs.size + 1,globals:=X.env.globals,cells:=cellsFrom (s2.heap.objs.size + 1 + 1) scope.names (clOf X.env scope.names []),qual:=X.env.qual,func:=none,code:=X.env.code,frame:=X.env.frame,builtins:=X.env.builtins }
 outer:=X.stack
 stack:=X.stack
 ex:=fp
 fn:=fun x=>scope.names.lookup x == some .cell
 calm:=X.calm
 pn:=[]
 xe:=fun _ _=>False
noncomputable def a7q(own:List Str)(cap:List (Str × Nat))(σ:St):St:=List.replicate own.length none ++ cap.map fun p=>(σ[p.2]?).join
noncomputable def a5m(X:Cx)(scope:Scope)(own:List Str)(cap:List (Str × Nat)):Bool:=
 scope.kind == .function && (scope.names.all fun y=>y.2 != .free || X.env.kindOf y.1 == some .cell || X.env.kindOf y.1 == some .free) &&
 (cap.all fun p=>X.N[p.2]? == some p.1 && scope.names.lookup p.1 == some .free) && (own.all fun x=>!((cap.map (·.1)).contains x))
section
variable{X:Cx}{pins:List (Addr × Obj)}{σ:St}{H2:Hp}{s2:Shared}{scope:Scope}{own:List Str}{cap:List (Str × Nat)}{fp:List Addr}
theorem b0h(h:a5m X scope own cap=true):scope.kind=.function:=by
 simp only [a5m,and_eq_true,beq_iff_eq] at h
 exact h.1.1.1
theorem b0i(h:a5m X scope own cap=true):∀ y ∈ scope.names,y.2=.free->X.env.kindOf y.1=some .cell ∨ X.env.kindOf y.1=some .free:=by
 simp only [a5m,and_eq_true,beq_iff_eq] at h
 intro y hy hf
 have q:=all_eq_true.mp h.1.1.2 y hy
 simp only [hf,bne_self_eq_false,Bool.false_or,Bool.or_eq_true,beq_iff_eq] at q
 exact q
theorem c6v(h:a5m X scope own cap=true):∀ p ∈ cap,X.N[p.2]? = some p.1/\scope.names.lookup p.1=some .free:=by
 simp only [a5m,and_eq_true,beq_iff_eq] at h
 intro p hp
 have q:=all_eq_true.mp h.1.2 p hp
 simp only [and_eq_true,beq_iff_eq] at q
 exact q
theorem c9o(I:Inv X pins σ H2 s2)(hok:a5m X scope own cap=true)(hnd:(scope.names.map (·.1)).Nodup)(hfp:∀ b ∈ fp,FpOk X pins H2 b)(hob:∀ b ∈ fp,∃ o,s2.heap.get? b=some o) :
  Inv (cxC X scope own cap fp s2 H2) [] (a7q own cap σ) (upd H2 s2.heap.objs.size (.lst []))
   { s2 with heap:=pushCells ((s2.heap.push { cls:=.type "list",dict:=none,data:=.seq ([]:List Value).toArray }).push { cls:=.type "dict",data:=.dict #[] }) scope.names }:=by
 have hkind:=b0h hok
 have hfree:=b0i hok
 have hcap:=c6v hok
 have hdf:H2 s2.heap.objs.size=none:=I.fresh
 generalize hh1:s2.heap.push { cls:=.type "list",dict:=none,data:=.seq ([]:List Value).toArray }=h1
 have z1:h1.objs.size=s2.heap.objs.size + 1:=by rw [← hh1,size_push]
 generalize hh2:h1.push { cls:=.type "dict",data:=.dict #[] }=h2
 have z2:h2.objs.size=s2.heap.objs.size + 1 + 1:=by rw [← hh2,size_push,z1]
 have k1:∀ b o,s2.heap.get? b=some o->h1.get? b=some o:=fun b o e=>by rw [← hh1];exact get?_push_of_some _ e
 have k2:∀ b o,h1.get? b=some o->h2.get? b=some o:=fun b o e=>by rw [← hh2];exact get?_push_of_some _ e
 have k3:∀ b o,h2.get? b=some o->(pushCells h2 scope.names).get? b=some o:=fun b o e=>pushCells_keeps _ _ b o e
 have k:∀ b o,s2.heap.get? b=some o->(pushCells h2 scope.names).get? b=some o:=fun b o e=>k3 b o (k2 b o (k1 b o e))
 have hD:(pushCells h2 scope.names).get? s2.heap.objs.size=some { cls:=.type "list",dict:=none,data:=.seq ([]:List Value).toArray }:=by
  refine k3 _ _ (k2 _ _ ?_)
  rw [← hh1];exact get?_push_size _ rfl
 have hC:(pushCells h2 scope.names).Ns (s2.heap.objs.size + 1) fun _=>none:=by
  have q:h2.Ns h1.objs.size fun _=>none:=by rw [← hh2];exact Heap.Ns.new h1 (.type "dict")
  rw [z1] at q
  exact q.keeps k3
 have own_ok:=cellsFrom_ok scope.names h2 (s2.heap.objs.size + 1 + 1) [] ⟨fun _ _ hm=>(nomatch hm),List.Pairwise.nil⟩ (by rw [z2];exact Nat.le_refl _)
 rw [z2] at own_ok
 have ec:(cxC X scope own cap fp s2 H2).env.cells=cellsFrom (s2.heap.objs.size + 1 + 1) scope.names [] ++ clOf X.env scope.names []:=a3w _ _ _
 -- an entry is a new cell, or one of the names around
 have split:∀ x c,(cxC X scope own cap fp s2 H2).env.cells.lookup x=some c->((x,c) ∈ cellsFrom (s2.heap.objs.size + 1 + 1) scope.names []) ∨ ((x,NameKind.free) ∈ scope.names/\X.env.cells.lookup x=some c):=fun x c e=>by
  rw [ec,a6l] at e
  cases e1:(cellsFrom (s2.heap.objs.size + 1 + 1) scope.names []).lookup x with
  | some c'=>rw [e1] at e;cases e;exact .inl (mem_of_lookup e1)
  | none =>
   rw [e1] at e
   have e':(clOf X.env scope.names []).lookup x=some c:=e
   obtain⟨m1,m2⟩:=a4n (mem_of_lookup e')
   obtain⟨c',hc'⟩:=I.ok.has x (hfree _ m1 rfl)
   rw [hc'] at m2
   exact .inr ⟨m1,by rw [hc',m2];rfl⟩
 have capCell:∀ x,(x,NameKind.free) ∈ scope.names->∀ c,X.env.cells.lookup x=some c->(cxC X scope own cap fp s2 H2).env.cells.lookup x=some c:=fun x hx c hc=>by
  rw [ec,a6l]
  cases e1:(cellsFrom (s2.heap.objs.size + 1 + 1) scope.names []).lookup x with
  | some c' =>
   have q:=(a2i (mem_of_lookup e1)).1
   have q1:=a4o hnd q
   have q2:=a4o hnd hx
   rw [q1] at q2;cases q2
  | none =>
   obtain⟨u,hu⟩:=lookup_mem (b1z (env:=X.env) hx)
   have m2:=(a4n (mem_of_lookup hu)).2
   rw [hc] at m2
   show(clOf X.env scope.names []).lookup x=some c
   rw [hu,m2];rfl
 have lt_of_around:∀ x c,X.env.cells.lookup x=some c->c < s2.heap.objs.size:=fun x c e=>by
  obtain⟨v,q⟩:=I.cell x c e
  exact q.lt
 have kof:∀ x,(cxC X scope own cap fp s2 H2).env.kindOf x=(scope.names.lookup x).map fun k=>if (k == NameKind.free && X.env.scope.kind == .function && X.env.kindOf x == some .cell) then NameKind.cell else k:=fun x=>a9r X.env x scope.names
 have fpLt:∀ b ∈ fp,b < s2.heap.objs.size:=fun b hb=>by obtain⟨o,e⟩:=hob b hb;exact lt_size e
 have hokH:HOk X.prog X.w (upd H2 s2.heap.objs.size (.lst [])) (pushCells h2 scope.names):=I.hok.laid k (Nat.le_refl _) ⟨zero_le _,[],_,.nil,hD⟩
 refine⟨⟨I.ok.mod,?_,I.ok.glob,I.ok.blt,le_succ _,fun x y c e1 e2=>?_,fun x hx=>?_,fun x c hf e=>?_,I.ok.hd,I.ok.frames,.inl rfl,fun b hb=>⟨?_,fun x c e=>?_⟩,I.bs,Nat.le_trans I.ok.bsz I.sz,fun b o e hb=>?_,fun b hb hb2=>?_,I.stack,I.stkFree⟩,
  rfl,I.bare,Un.laid k (Nat.le_refl _) hdf,⟨_,hC,fun i x v e1 e2 e3=>?_⟩,fun x c e=>?_,?_,fun x c e=>?_,fun p hp=>?_,hokH,?_⟩
 ·exact hkind
 ·rcases split x c e1 with m1 | ⟨m1,q1⟩<;>rcases split y c e2 with m2 | ⟨m2,q2⟩
  ·exact name_of_addr own_ok.apart m1 m2
  ·exact absurd (lt_of_around y c q2) (nlt (by have:=(a2i m1).2;omega))
  ·exact absurd (lt_of_around x c q1) (nlt (by have:=(a2i m2).2;omega))
  ·exact I.ok.inj x y c q1 q2
 ·rw [kof x] at hx
  cases e1:scope.names.lookup x with
  | none=>rw [e1] at hx;rcases hx with z | z<;>cases z
  | some kx =>
   have mx:=mem_of_lookup e1
   cases kx with
   | free =>
    obtain⟨c,hc⟩:=I.ok.has x (hfree _ mx rfl)
    exact⟨c,capCell x mx c hc⟩
   | cell =>
    have q:=PySem.W.cellsFrom_some scope.names (s2.heap.objs.size + 1 + 1) (clOf X.env scope.names []) (x:=x) (.inl e1)
    exact Option.isSome_iff_exists.mp q
   | _=>rw [e1] at hx;rcases hx with z | z<;>simp at z
 ·rcases split x c e with m1 | ⟨m1,q1⟩
  ·have:=(a2i m1).2;show s2.heap.objs.size <= c;omega
  ·have q2:=a4o hnd m1
   have hf':(scope.names.lookup x == some NameKind.cell)=true:=hf
   rw [q2] at hf';simp at hf'
 ·exact ne_of_lt (Nat.lt_succ_of_lt (fpLt b hb))
 ·have h1:=fpLt b hb
  rcases split x c e with m1 | ⟨m1,q1⟩
  ·exact ne_of_gt (lt_of_lt_of_le h1 (by have:=(a2i m1).2;omega))
  ·exact(hfp b hb).2.2.2.2.1 x c q1
 ·rcases (hfp b hb).2.2.2.1 with z | z
  ·exact I.ok.noex b o e z
  ·exact absurd (lt_of_lt_of_le (lt_size e) (Nat.le_trans I.ok.bsz z)) (lt_irrefl _)
 ·rcases mem_cons.mp (I.stkSub b hb2) with z | z
  ·exact(hfp b hb).2.1 z
  ·exact(hfp b hb).2.2.1 z
 ·-- names that are closed over
  have ei:own.length <= i:=by
   by_cases hi:i < own.length
   ·unfold a7q at e2
    rw [getElem?_append_left (by simpa using hi),List.getElem?_replicate,if_pos hi] at e2
    cases e2
   ·omega
  have e1':(cap.map (·.1))[i - own.length]? = some x:=by
   have:(own ++ cap.map (·.1))[i]? = some x:=e1
   rwa [getElem?_append_right ei] at this
  have e2':(cap.map fun p=>(σ[p.2]?).join)[i - own.length]? = some (some v):=by
   unfold a7q at e2
   rw [getElem?_append_right (by simpa using ei)] at e2
   simpa using e2
  rw [getElem?_map] at e1' e2'
  cases ep:cap[i - own.length]? with
  | none=>rw [ep] at e1';cases e1'
  | some p =>
   rw [ep] at e1' e2'
   have hx:p.1=x:=by simpa using e1'
   have hv:(σ[p.2]?).join=some v:=by simpa using e2'
   have hσ:σ[p.2]? = some (some v):=by
    cases eσ:σ[p.2]? with
    | none=>rw [eσ] at hv;cases hv
    | some w'=>rw [eσ] at hv;simp at hv;rw [hv]
   obtain⟨hN,hl⟩:=hcap p (mem_of_getElem? ep)
   rw [hx] at hN hl
   have mx:=mem_of_lookup hl
   have hvis:Vis X.env.scope x:=by
    rcases hfree _ mx rfl with z | z
    ·exact .inr (.inl z)
    ·exact .inr (.inr z)
   obtain⟨m,_,hl'⟩:=I.loc
   obtain⟨u,r,lk⟩:=hl' p.2 x v hN hσ hvis
   refine⟨u,r,.inr ?_⟩
   rcases lk with⟨z,_⟩ | ⟨z,c,hc,hcell⟩
   ·rcases hfree _ mx rfl with z' | z'<;>rw [z'] at z<;>cases z
   ·refine⟨?_,c,capCell x mx c hc,hcell.keeps k⟩
    rw [kof x,hl]
    by_cases hcc:(NameKind.free == NameKind.free && X.env.scope.kind == .function && X.env.kindOf x == some .cell)=true
    ·left;simp only [map_some,if_pos hcc]
    ·right;simp only [map_some,if_neg hcc]
 ·rcases split x c e with m1 | ⟨m1,q1⟩
  ·exact⟨_,(own_ok.empty x c m1).1⟩
  ·obtain⟨v,q⟩:=I.cell x c q1
   exact⟨v,q.keeps k⟩
 ·show upd H2 s2.heap.objs.size (.lst []) (s2.heap.objs.size + 1)=none
  rw [a0f (Nat.succ_ne_self _)]
  exact I.hok.fresh (le_succ _)
 ·rcases split x c e with m1 | ⟨m1,q1⟩
  ·have hle:=(a2i m1).2
   rw [a0f (ne_of_gt (lt_of_lt_of_le (Nat.lt_succ_self _) (by omega)))]
   exact I.hok.fresh (by omega)
  ·rw [a0f (ne_of_lt (lt_of_around x c q1))]
   exact I.freeC x c q1
 ·exact absurd (show p ∈ ([]:List (Addr × Obj)) from hp) (by simp)
 ·unfold a7q
  show _=(own ++ cap.map (·.1)).length
  simp
end
def PIf(X:Cx)(ifs:List Expr)(t:TT):Prop:=
 ∀ (pins:List (Addr × Obj)) (s:Shared) (σ:St) (H:Hp) (Q:Bool->Hp->Prop),Inv X pins σ H s->t σ H Q ->
  wpAny (model X.prog X.w) X.A (forIn ifs true fun c r=>if r=true then do let ok ← isTrue c X.env (eval c X.env);pure (ForInStep.yield ok) else pure (ForInStep.yield r)) (TP X pins σ Q) X.xe s
def tYes:TT:=fun _ H Q=>Q true H
theorem d4p{X:Cx}:PIf X [] tYes:=fun _ _ _ H _ I h=>wpAny_tests_nil ⟨H,I,h⟩
theorem d4q{X:Cx}{c:Expr}{t:TT}(h:PT X c t):PIf X [c] t:=fun pins s σ H Q I hq=>wpAny_tests_one (h pins s σ H Q I hq)
def b8w(own:List Str)(cap:List (Str × Nat))(g:TG)(tt:TT)(te:TE)(J:It)(D:Addr)(σ:St)(H1:Hp)(Z:Hp->Prop):Prop:=
 ∃ W:Nat->Nat->St->Hp->Prop,(∃ m,W 0 m (a7q own cap σ) (upd H1 D (.lst [])))/\∀ i m σ' H',W i m σ' H' ->
  (J.stop i H'/\Z H') ∨ (J.go i H'/\∃ N:St->Hp->Prop,(∀ σ'' H'',N σ'' H''->∃ m',m' < m/\W (i + 1) m' σ'' H'')/\∀ x H'',J.yld i H' x H'' ->
   g x σ' H'' fun σ2 H2=>tt σ2 H2 fun b H3=>if b=true then te σ2 H3 fun y H4=>∃ ys,H4 D=some (.lst ys)/\ys.length < sizeLine/\N σ2 (upd H4 D (.lst (ys ++ [y]))) else N σ2 H3)
def c3v(own:List Str)(cap:List (Str × Nat))(wi:TI)(g:TG)(tt:TT)(te:TE):TE:=fun σ H Q=>wi σ H fun J H1=>∀ D,H1 D=none->b8w own cap g tt te J D σ H1 (Q (.ref D))
theorem b8x{X:Cx}{elt tg iter:Expr}{ifs:List Expr}{scope:Scope}{pos:Pos}{own:List Str}{cap:List (Str × Nat)}{g:TG}{tt:TT}{te:TE}
  (hc:X.calm=true) (hok:a5m X scope own cap=true) (hnd:(scope.names.map (·.1)).Nodup)
  (hg:∀ fp s2 H2,PG (cxC X scope own cap fp s2 H2) tg g) (ht:∀ fp s2 H2,PIf (cxC X scope own cap fp s2 H2) ifs tt) (he:∀ fp s2 H2,PE (cxC X scope own cap fp s2 H2) elt te)
  {pins:List (Addr × Obj)} {σ:St} {H1:Hp} {s2:Shared} {it:Addr} {fp:List Addr} {tn:Nat->Heap->Prop} {J:It} {Z:Hp->Prop} {RR:Result->Shared->Prop}
  (I:Inv X pins σ H1 s2) (T:Turn X.prog X.w X.K tg J fp it tn) (h0:tn 0 s2.heap) (hfp:∀ b ∈ fp,FpOk X pins H1 b)
  (hb:b8w own cap g tt te J s2.heap.objs.size σ H1 Z)
  (hR:∀ s' H' m,(∀ h',Heap.SameBut (s2.heap.objs.size + 1) s'.heap h'->Inv X pins σ H' { s' with heap:=h' })->s'.heap.Ns (s2.heap.objs.size + 1) m->H' (s2.heap.objs.size + 1)=none->Z H'->RR (.ok .next) s') :
  wpAny (model X.prog X.w) X.A (newFunctionEnv scope X.env.globals (clOf X.env scope.names []) [] X.env.qual none .none (some X.env)) (fun cenv s₄ =>
   cenv.locals=s2.heap.objs.size + 1/\codeAny (model X.prog X.w) X.A (.compStart (.ListComp elt [⟨tg,iter,ifs,0⟩] scope pos) 0 (.ref it) (.ref s2.heap.objs.size) { cenv with scope:=relabel scope X.env }) RR s₄)
   X.xe { s2 with heap:=s2.heap.push { cls:=.type "list",dict:=none,data:=.seq ([]:List Value).toArray } }:=by
 have hob:∀ b ∈ fp,∃ o,s2.heap.get? b=some o:=fun b hb=>let ⟨o,e,_⟩:=T.obj _ _ h0 b hb;⟨o,e⟩
 have I0:=c9o (own:=own) (cap:=cap) I hok hnd hfp hob
 refine c1f ?_
 have z1:(s2.heap.push { cls:=.type "list",dict:=none,data:=.seq ([]:List Value).toArray }).objs.size=s2.heap.objs.size + 1:=size_push ..
 dsimp only
 rw [z1]
 refine⟨rfl,?_⟩
 show codeAny (model X.prog X.w) X.A (.compStart (.ListComp elt [⟨tg,iter,ifs,0⟩] scope pos) 0 (.ref it) (.ref s2.heap.objs.size) (cxC X scope own cap fp s2 H1).env) RR _
 generalize hs4:({ s2 with heap:=pushCells ((s2.heap.push { cls:=.type "list",dict:=none,data:=.seq ([]:List Value).toArray }).push { cls:=.type "dict",data:=.dict #[] }) scope.names }:Shared)=s4 at I0 ⊢
 have kp:∀ b o,s2.heap.get? b=some o->s4.heap.get? b=some o:=fun b o e=>by
  rw [← hs4];exact pushCells_keeps _ _ b o (get?_push_of_some _ (get?_push_of_some _ e))
 have st4:tn 0 s4.heap:=T.keep _ _ _ h0 fun b _ o e=>kp b o e
 obtain⟨W,⟨m0,w0⟩,turn⟩:=hb
 -- the iterator's records are the block's own
 have stat:∀ {H':Hp},(∀ b ∈ fp,H' b=none)->∀ b ∈ fp,FpOk (cxC X scope own cap fp s2 H1) [] H' b:=fun hn b hb =>
  ⟨hn b hb,(I0.ok.exf b hb).1,I0.ok.exfs b hb,.inl hb,fun x c e=>(I0.ok.exf b hb).2 x c e,fun p hp=>absurd (show p ∈ ([]:List (Addr × Obj)) from hp) (by simp)⟩
 have fr0:∀ b ∈ fp,upd H1 s2.heap.objs.size (.lst []) b=none:=fun b hb=>by
  obtain⟨o,e⟩:=hob b hb
  rw [a0f (ne_of_lt (lt_size e))]
  exact(hfp b hb).1
 have loop:codeAny (model X.prog X.w) X.A (.compLoop (.ListComp elt [⟨tg,iter,ifs,0⟩] scope pos) 0 (.ref it) (.ref s2.heap.objs.size) (cxC X scope own cap fp s2 H1).env) RR s4:=by
  refine c1g (fun n s'=>∃ i σ' H',Inv (cxC X scope own cap fp s2 H1) [] σ' H' s'/\tn i s'.heap/\(∀ b ∈ fp,H' b=none)/\W i n σ' H') ?_ m0 ⟨0,_,_,I0,st4,fr0,w0⟩
  rintro n s3 ⟨i,σ3,H3,I3,st3,fr3,w3⟩
  rcases turn i n σ3 H3 w3 with⟨stop,qn⟩ | ⟨go,N,hN,step⟩
  ·refine wpAny_noRaise (thn (T.done (cxC X scope own cap fp s2 H1) rfl rfl rfl hc i [] s3 σ3 H3 _ I3 (stat fr3) st3 stop) fun r s5 hq9=>?_)
   obtain⟨hr,I5⟩:=hq9
   subst hr
   obtain⟨m5,hm5,_⟩:=id I5.loc
   refine hR s5 H3 m5 (fun h' hs'=>?_) hm5 I5.free qn
   ·have un:Un (frs X.stack) fp H1 H3 s2.heap s5.heap:=I5.base
    have low:∀ b o,s2.heap.get? b=some o->b ≠ s2.heap.objs.size + 1:=fun b o e=>ne_of_lt (Nat.lt_succ_of_lt (lt_size e))
    refine I.call' (s':={ s5 with heap:=h' }) (ch:=fp) I5.os ⟨fun b o e n hb hx=>(hs'.2 b (low b o e)).trans (un.keep b o e n hb hx),fun b o e n hb hx=>?_,un.free,fun b o e hx=>?_,un.tups,un.frzs,un.tbls⟩ ?_ I5.bare fun b hb=>⟨(hfp b hb).2.2.2.1,(hfp b hb).2.1,(hfp b hb).2.2.2.2.1,(hfp b hb).2.2.2.2.2⟩
    ·obtain⟨sl,q⟩:=un.slot b o e n hb hx
     exact⟨sl,(hs'.2 b (low b o e)).trans q⟩
    ·obtain⟨o',q⟩:=un.there b o e hx
     exact⟨o',(hs'.2 b (low b o e)).trans q⟩
    ·intro b ob e
     refine(I5.hok b ob e).stay (fun c w' hc' q=>(hs'.2 c ?_).trans q) (fun _ q=>q) (fun _ _ q=>q) fun _ _ _ q=>q
     have nC:H3 (s2.heap.objs.size + 1)=none:=I5.free
     rintro rfl
     rcases hc' with rfl | hc'
     ·rw [nC] at e;cases e
     ·rw [nC] at hc';cases hc'
  ·refine wpAny_noRaise (thn (T.item (cxC X scope own cap fp s2 H1) rfl rfl rfl hc i [] s3 σ3 H3 (fun _ _=>False) I3 (stat fr3) st3 go) fun r s5 hq9=>?_)
   obtain⟨u,hr,h5⟩:=hq9
   subst hr
   refine wpAny_noRaise (thn h5 fun _ s6 hq9=>?_)
   obtain⟨x,H6,I6,r6,y6,st6,fr6⟩:=hq9
   have I6':=I6.pinned (stat fr6) (T.obj _ _ st6)
   refine wpAny_noRaise (thn (hg fp s2 H1 _ s6 σ3 H6 x u _ I6' r6 (step x H6 y6)) fun _ s7 hq9=>?_)
   obtain⟨σ7,H7,I7,q7⟩:=hq9
   refine wpAny_noRaise (thn (ht fp s2 H1 _ s7 σ7 H7 _ I7 q7) fun ok s8 hq9=>?_)
   obtain⟨H8,I8,q8⟩:=hq9
   have again:∀ {σ9:St} {H9:Hp} {s9:Shared},Inv (cxC X scope own cap fp s2 H1) ([] ++ b1f fp s6.heap) σ9 H9 s9->N σ9 H9->∃ m,m < n/\∃ i σ' H',Inv (cxC X scope own cap fp s2 H1) [] σ' H' s9/\tn i s9.heap/\(∀ b ∈ fp,H' b=none)/\W i m σ' H':=fun{σ9 H9 s9} I9 n9=>by
    obtain⟨m',hm,w9⟩:=hN σ9 H9 n9
    refine⟨m',hm,i + 1,σ9,H9,I9.unpinned,T.keep _ _ _ st6 fun b hb o e=>(I9.pin (b,o) (mem_append_right _ (mem_append_right _ (a7p hb e)))).1,fun b hb=>?_,w9⟩
    obtain⟨o,e,d⟩:=T.obj _ _ st6 b hb
    exact(I9.pin (b,o) (mem_append_right _ (mem_append_right _ (a7p hb e)))).2.1
   cases ok with
   | false=>exact again I8 q8
   | true =>
    rw [if_pos rfl] at q8
    rw [if_pos rfl]
    refine wpAny_noRaise (thn (he fp s2 H1 _ s8 σ7 H8 _ I8 q8) fun y s9 hq9=>?_)
    obtain⟨yv,H9,I9,r9,ys,hD,hz,q9⟩:=hq9
    refine wpAny_noRaise (thn (b1k _ s9 σ7 H9 (.ref s2.heap.objs.size) [yv] (.ref s2.heap.objs.size) [y] (fun _ H'=>N σ7 H') I9 rfl (.cons r9 .nil) ⟨_,ys,yv,rfl,rfl,hD,hz,q9⟩) fun _ s10 hq9=>?_)
    obtain⟨_,H10,I10,_,q10⟩:=hq9
    exact again I10 q10
 exact codeAny_compStart_list loop (T.self X.A 0 _ _ _ st4 loop)
theorem b2s{scope:Scope}(hnd:(scope.names.map (·.1)).Nodup):∀ x ∈ scope.names,x.2=.local->scope.names.lookup x.1=some .local:=fun x hx e=>by
 obtain⟨n,k⟩:=x
 have e':k=.local:=e
 subst e'
 exact a4o hnd hx
theorem d4r{X:Cx}{elt tg iter:Expr}{ifs:List Expr}{scope:Scope}{pos:Pos}{own:List Str}{cap:List (Str × Nat)}{wi:TI}{g:TG}{tt:TT}{te:TE}
  (hc:X.calm=true) (hok:a5m X scope own cap=true) (hnd:(scope.names.map (·.1)).Nodup) (hi:PI X tg iter wi)
  (hg:∀ fp s2 H2,PG (cxC X scope own cap fp s2 H2) tg g) (ht:∀ fp s2 H2,PIf (cxC X scope own cap fp s2 H2) ifs tt) (he:∀ fp s2 H2,PE (cxC X scope own cap fp s2 H2) elt te)
  (hs:∀ x,foldedSetIterable iter X.env x=pure x:=by intro _;rfl) :
  PE X (.ListComp elt [⟨tg,iter,ifs,0⟩] scope pos) (c3v own cap wi g tt te):=by
 intro pins s σ H Q I h
 have hkind:=b0h hok
 have hclos:closureFor scope X.env=pure (clOf X.env scope.names []):=a7n fun y hy hf=>I.ok.has y.1 (b0i hok y hy hf)
 rw [eval_ListComp]
 refine wpAny_comprehension_free (use:=none) rfl hs hclos hkind (b2s hnd) (thn (hi pins s σ H _ I h) fun xv s1 h1=>thn h1 fun itv s2 h2=>?_)
 obtain⟨it,fp,tn,J,H1,e,I2,T,st2,f2,hb⟩:=h2
 subst e
 refine wpAny_newObj_type (thn (b8x (iter:=iter) (pos:=pos) (RR:=compPost (model X.prog X.w) X.A X.xe none (EP X pins σ Q) (.ref s2.heap.objs.size) (s2.heap.objs.size + 1)) hc hok hnd hg ht he I2 T st2 f2 (hb _ I2.fresh) fun s' H' m hI hm hnC z=>?_) fun cenv s4 ⟨e,q⟩=>?_)
 ·exact⟨m,hm,fun h' hs'=>⟨.ref s2.heap.objs.size,H',hI h' hs',rfl,z⟩⟩
 ·rw [← e] at q;exact q
theorem d4s{X:Cx}{i:Nat}{y:Str}{py spos:Pos}{elt tg iter:Expr}{ifs:List Expr}{scope:Scope}{pos:Pos}{own:List Str}{cap:List (Str × Nat)}{wi:TI}{g:TG}{tt:TT}{te:TE}
  (hN:X.N.Nodup) (hi':X.N[i]? = some y) (hy:X.env.scope.names.lookup y=some .local)
  (hc:X.calm=true) (hok:a5m X scope own cap=true) (hnd:(scope.names.map (·.1)).Nodup) (hi:PI X tg iter wi)
  (hg:∀ fp s2 H2,PG (cxC X scope own cap fp s2 H2) tg g) (ht:∀ fp s2 H2,PIf (cxC X scope own cap fp s2 H2) ifs tt) (he:∀ fp s2 H2,PE (cxC X scope own cap fp s2 H2) elt te)
  (hsw:swapsWith (.ListComp elt [⟨tg,iter,ifs,0⟩] scope pos) (some (.Name y py)) spos.line X.env=pure true:=by rfl)
  (hs:∀ x,foldedSetIterable iter X.env x=pure x:=by intro _;rfl) :
  PS X (.Assign [.Name y py] (.ListComp elt [⟨tg,iter,ifs,0⟩] scope pos) spos) (tAsg (c3v own cap wi g tt te) (a7o i)):=by
 intro pins s σ H D I h
 have hkind:=b0h hok
 have hclos:closureFor scope X.env=pure (clOf X.env scope.names []):=a7n fun y hy hf=>I.ok.has y.1 (b0i hok y hy hf)
 rw [exec_Assign_Name_used _ _ _ _ hsw]
 refine wpAny_bind (wpAny_standAt (wpAny_bind ?_))
 show wpAny _ X.A (do let _ ← comprehension (.ListComp elt [⟨tg,iter,ifs,0⟩] scope pos) scope X.env _ (newList []) false (eval iter X.env) (some (assign (.Name y py) X.env))) _ _ s
 refine wpAny_bind (wpAny_mono (wpAny_comprehension_free (use:=some (assign (.Name y py) X.env)) (Q:=fun _ s'=>SP X pins D .next s') rfl hs hclos hkind (b2s hnd)
  (thn (hi pins s σ H _ I h) fun xv s1 h1=>thn h1 fun itv s2 h2=>?_)) (fun _ s' hq=>wpAny_pure (wpAny_pure hq)) fun _ _ e=>e)
 obtain⟨it,fp,tn,J,H1,e,I2,T,st2,f2,hb⟩:=h2
 subst e
 refine wpAny_newObj_type (thn (b8x (iter:=iter) (pos:=pos) (RR:=compPost (model X.prog X.w) X.A X.xe (some (assign (.Name y py) X.env)) (fun _ s'=>SP X pins D .next s') (.ref s2.heap.objs.size) (s2.heap.objs.size + 1)) hc hok hnd hg ht he I2 T st2 f2 (hb _ I2.fresh) fun s' H' m hI hm hnC z=>?_) fun cenv s4 ⟨e,q⟩=>?_)
 ·show wpAny _ _ (assign (.Name y py) X.env (.ref s2.heap.objs.size)) _ _ s'
  have I':Inv X pins σ H' s':=hI s'.heap (Heap.SameBut.refl ..)
  refine wpAny_assign_Name (b6u I' hN hi' (.inl hy) (v:=.ref s2.heap.objs.size) rfl (fun s'' I'' hsb=>?_) (.inr hy))
  obtain⟨a,hs1,ha⟩:=hsb
  have nC:s2.heap.objs.size + 1 ≠ a:=by
   rintro rfl
   rcases ha with ha | ha
   ·have q:=I2.lt
    rw [← ha] at q
    exact absurd q (nlt (le_succ _))
   ·obtain⟨v,q⟩:=I2.cell _ _ ha
    exact absurd q.lt (nlt (le_succ _))
  refine⟨m,hm.sameBut hs1 nC,fun h' hs'=>⟨_,H',?_,z⟩⟩
  obtain⟨_,f1,f2,f3,f4,f5⟩:=I2.fpOk (b:=s2.heap.objs.size + 1) (le_succ _) hnC
  exact I''.turned (t':=s''.toks) (it:=s2.heap.objs.size + 1) (fun b o hb e=>(hs'.2 b hb).trans e) hnC f1 f3 f4 f5
 ·rw [← e] at q;exact q
end L2
end
section
namespace L2
open PySem PySem.Spec PyProof.Rows
theorem a3i:bootBuiltins "len" = some (.builtin "len"):=by decide +kernel
theorem b1c:bootBuiltins "isinstance" = some (.builtin "isinstance"):=by decide +kernel
theorem c1h:bootBuiltins "reversed" = some (.type "reversed"):=by decide +kernel
theorem d9o:bootBuiltins "int" = some (.type "int"):=by decide +kernel
theorem d4t:bootBuiltins "bool" = some (.type "bool"):=by decide +kernel
theorem c6w:bootBuiltins "str" = some (.type "str"):=by decide +kernel
theorem c2f:bootBuiltins "list" = some (.type "list"):=by decide +kernel
theorem a8r:bootBuiltins "tuple" = some (.type "tuple"):=by decide +kernel
theorem c2g:bootBuiltins "dict" = some (.type "dict"):=by decide +kernel
noncomputable def kvE(p:Str × Int):Key × V:=(Sum.inr p.1,V.int p.2)
noncomputable def kvD(p:Str × Int):PyData × PyData:=(.str p.1,.int p.2)
inductive FD where
 | none
 | bool (b:Bool)
 | int (n:Int)
 | str (x:Str)
noncomputable def FD.v:FD->V
 | .none=>.non
 | .bool b=>.bl b
 | .int n=>.int n
 | .str x=>.str x
noncomputable def FD.d:FD->PyData
 | .none=>.none
 | .bool b=>.bool b
 | .int n=>.int n
 | .str x=>.str x
noncomputable def keyD:Key->PyData
 | .inl i=>.int i
 | .inr x=>.str x
noncomputable def gE(p:Key × FD):Key × V:=(p.1,p.2.v)
noncomputable def gD(p:Key × FD):PyData × PyData:=(keyD p.1,p.2.d)
noncomputable def emb(p:Str × Int):Key × FD:=(Sum.inr p.1,FD.int p.2)
mutual
noncomputable def AtD(K:W.Frag)(H:Hp)(S:Addr->Prop):PyData->V->Prop
 | .none,v=>v=.non
 | .bool b,v=>v=.bl b
 | .int i,v=>v=.int i
 | .str x,v=>v=.str x
 | .list ds,v=>∃ a xs,v=.ref a/\S a/\H a=some (.lst xs)/\a0b K H S ds xs
 | .tuple ds,v=>∃ a xs,v=.ref a/\SqT K H a xs/\a0b K H S ds xs
 | .dict kvs,v=>∃ (a:Addr) (κ:List (Key × V)),v=.ref a/\S a/\H a=some (.dK κ)/\a0s K H S kvs κ
noncomputable def a0b(K:W.Frag)(H:Hp)(S:Addr->Prop):List PyData->List V->Prop
 | [],vs=>vs=[]
 | d :: ds,vs=>∃ v r,vs=v :: r/\AtD K H S d v/\a0b K H S ds r
noncomputable def a0s(K:W.Frag)(H:Hp)(S:Addr->Prop):List (PyData × PyData)->List (Key × V)->Prop
 | [],κ=>κ=[]
 | (x,d) :: r,κ=>∃ k v t,κ=(k,v) :: t/\x=keyD k/\AtD K H S d v/\a0s K H S r t
end
abbrev Any:Addr->Prop:=fun _=>True
abbrev But(t:Addr):Addr->Prop:=fun b=>b ≠ t
def Keep(S:Addr->Prop)(H H':Hp):Prop:=(∀ b xs,H b=some (.tup xs)->H' b=some (.tup xs))/\(∀ b o u,H b=some (.frz o u)->H' b=some (.frz o u))/\∀ b o,S b->H b=some o->H' b=some o
section
variable{K:W.Frag}{H H':Hp}{S S':Addr->Prop}
theorem Keep.refl(S:Addr->Prop)(H:Hp):Keep S H H:=⟨fun _ _ h=>h,fun _ _ _ h=>h,fun _ _ _ h=>h⟩
theorem Keep.trans{H1:Hp}(a:Keep S H H1)(b:Keep S H1 H'):Keep S H H':=⟨fun c xs h=>b.1 c xs (a.1 c xs h),fun c o xs h=>b.2.1 c o xs (a.2.1 c o xs h),fun c xs s h=>b.2.2 c xs s (a.2.2 c xs s h)⟩
theorem Keep.less(e:Keep S H H')(h:∀ b,S' b->S b):Keep S' H H':=⟨e.1,e.2.1,fun b xs s q=>e.2.2 b xs (h b s) q⟩
theorem Same.keep(e:Same H H'):Keep S H H':=⟨fun b xs h=>e b _ h,fun b o xs h=>e b _ h,fun b xs _ h=>e b _ h⟩
theorem c6x{p:Addr}{xs ys:List V}(h:H p=some (.lst xs)):Keep (But p) H (upd H p (.lst ys)):=
 ⟨fun b zs q=>by rw [a0f (b7r q h (by intro z;cases z))];exact q,fun b o zs q=>by rw [a0f (b7r q h (by intro z;cases z))];exact q,fun b zs hb q=>by rw [a0f hb];exact q⟩
theorem Keep.seqT{a:Addr}{xs:List V}(e:Keep S H H')(h:SqT K H a xs):SqT K H' a xs:=by
 rcases h with(h | ⟨o,h⟩) | h
 ·exact .inl (.inl (e.1 _ _ h))
 ·exact .inl (.inr ⟨o,e.2.1 _ _ _ h⟩)
 ·exact .inr h
theorem a0o{H:Hp}{p:Addr}(h:H p=none)(o:HO):Same H (upd H p o):=fun b u q=>by rw [a0f (a1s q h)];exact q
mutual
theorem AtD.mono(e:Keep S H H'):∀ (d:PyData) (v:V),AtD K H S d v->AtD K H' S d v
 | .none,_,h=>by unfold AtD at h ⊢;exact h
 | .bool _,_,h=>by unfold AtD at h ⊢;exact h
 | .int _,_,h=>by unfold AtD at h ⊢;exact h
 | .str _,_,h=>by unfold AtD at h ⊢;exact h
 | .list ds,v,h=>by
  unfold AtD at h ⊢
  obtain⟨a,xs,e1,s,q,r⟩:=h
  exact⟨a,xs,e1,s,e.2.2 _ _ s q,a0b.mono e ds xs r⟩
 | .tuple ds,v,h=>by
  unfold AtD at h ⊢
  obtain⟨a,xs,e1,q,r⟩:=h
  exact⟨a,xs,e1,e.seqT q,a0b.mono e ds xs r⟩
 | .dict kvs,v,h=>by
  unfold AtD at h ⊢
  obtain⟨a,ν,e1,s,q,e2⟩:=h
  exact⟨a,ν,e1,s,e.2.2 a _ s q,a0s.mono e kvs ν e2⟩
theorem a0b.mono(e:Keep S H H'):∀ (ds:List PyData) (vs:List V),a0b K H S ds vs->a0b K H' S ds vs
 | [],_,h=>by unfold a0b at h ⊢;exact h
 | d :: ds,vs,h=>by
  unfold a0b at h ⊢
  obtain⟨v,r,e1,h1,h2⟩:=h
  exact⟨v,r,e1,AtD.mono e d v h1,a0b.mono e ds r h2⟩
theorem a0s.mono(e:Keep S H H'):∀ (kvs:List (PyData × PyData)) (κ:List (Key × V)),a0s K H S kvs κ->a0s K H' S kvs κ
 | [],_,h=>by unfold a0s at h ⊢;exact h
 | (x,d) :: r,κ,h=>by
  unfold a0s at h ⊢
  obtain⟨k,v,t,e1,e2,h1,h2⟩:=h
  exact⟨k,v,t,e1,e2,AtD.mono e d v h1,a0s.mono e r t h2⟩
end
mutual
theorem AtD.more(e:∀ b,S b->S' b):∀ (d:PyData) (v:V),AtD K H S d v->AtD K H S' d v
 | .none,_,h=>by unfold AtD at h ⊢;exact h
 | .bool _,_,h=>by unfold AtD at h ⊢;exact h
 | .int _,_,h=>by unfold AtD at h ⊢;exact h
 | .str _,_,h=>by unfold AtD at h ⊢;exact h
 | .list ds,v,h=>by
  unfold AtD at h ⊢
  obtain⟨a,xs,e1,s,q,r⟩:=h
  exact⟨a,xs,e1,e a s,q,a0b.more e ds xs r⟩
 | .tuple ds,v,h=>by
  unfold AtD at h ⊢
  obtain⟨a,xs,e1,q,r⟩:=h
  exact⟨a,xs,e1,q,a0b.more e ds xs r⟩
 | .dict kvs,v,h=>by
  unfold AtD at h ⊢
  obtain⟨a,ν,e1,s,q,e2⟩:=h
  exact⟨a,ν,e1,e a s,q,a0s.more e kvs ν e2⟩
theorem a0b.more(e:∀ b,S b->S' b):∀ (ds:List PyData) (vs:List V),a0b K H S ds vs->a0b K H S' ds vs
 | [],_,h=>by unfold a0b at h ⊢;exact h
 | d :: ds,vs,h=>by
  unfold a0b at h ⊢
  obtain⟨v,r,e1,h1,h2⟩:=h
  exact⟨v,r,e1,AtD.more e d v h1,a0b.more e ds r h2⟩
theorem a0s.more(e:∀ b,S b->S' b):∀ (kvs:List (PyData × PyData)) (κ:List (Key × V)),a0s K H S kvs κ->a0s K H S' kvs κ
 | [],_,h=>by unfold a0s at h ⊢;exact h
 | (x,d) :: r,κ,h=>by
  unfold a0s at h ⊢
  obtain⟨k,v,t,e1,e2,h1,h2⟩:=h
  exact⟨k,v,t,e1,e2,AtD.more e d v h1,a0s.more e r t h2⟩
end
mutual
noncomputable def a8s:PyData->Bool
 | .none=>true | .bool _=>true | .int _=>true | .str _=>true
 | .list _=>false
 | .tuple ds=>b2a ds
 | .dict _=>false
noncomputable def b2a:List PyData->Bool
 | []=>true
 | d :: ds=>a8s d && b2a ds
end
mutual
theorem AtD.tups:∀ (d:PyData) (v:V),a8s d=true->AtD K H S d v->AtD K H S' d v
 | .none,_,_,h=>by unfold AtD at h ⊢;exact h
 | .bool _,_,_,h=>by unfold AtD at h ⊢;exact h
 | .int _,_,_,h=>by unfold AtD at h ⊢;exact h
 | .str _,_,_,h=>by unfold AtD at h ⊢;exact h
 | .list ds,v,t,h=>by unfold a8s at t;cases t
 | .tuple ds,v,t,h=>by
  unfold a8s at t
  unfold AtD at h ⊢
  obtain⟨a,xs,e1,q,r⟩:=h
  exact⟨a,xs,e1,q,a0b.tups ds xs t r⟩
 | .dict _,_,t,_=>by unfold a8s at t;cases t
theorem a0b.tups:∀ (ds:List PyData) (vs:List V),b2a ds=true->a0b K H S ds vs->a0b K H S' ds vs
 | [],_,_,h=>by unfold a0b at h ⊢;exact h
 | d :: ds,vs,t,h=>by
  unfold b2a at t
  rw [and_eq_true] at t
  unfold a0b at h ⊢
  obtain⟨v,r,e1,h1,h2⟩:=h
  exact⟨v,r,e1,AtD.tups d v t.1 h1,a0b.tups ds r t.2 h2⟩
end
theorem a0b.nil:a0b K H S [] []:=by unfold a0b;rfl
theorem a0b.cons{d:PyData}{ds:List PyData}{v:V}{vs:List V}(h:AtD K H S d v)(t:a0b K H S ds vs):a0b K H S (d :: ds) (v :: vs):=by
 unfold a0b;exact⟨v,vs,rfl,h,t⟩
theorem a0b.uncons{d:PyData}{ds:List PyData}{vs:List V}(h:a0b K H S (d :: ds) vs):∃ v r,vs=v :: r/\AtD K H S d v/\a0b K H S ds r:=by
 unfold a0b at h;exact h
theorem a0b.unnil{vs:List V}(h:a0b K H S [] vs):vs=[]:=by unfold a0b at h;exact h
theorem a0b.length:∀ {ds:List PyData} {vs:List V},a0b K H S ds vs->vs.length=ds.length
 | [],_,h=>by rw [h.unnil];rfl
 | d :: ds,vs,h=>by
  obtain⟨v,r,e,_,t⟩:=h.uncons
  rw [e,length_cons,length_cons,a0b.length t]
theorem a0b.get:∀ {ds:List PyData} {vs:List V} {i:Nat} {d:PyData},a0b K H S ds vs->ds[i]? = some d->∃ v,vs[i]? = some v/\AtD K H S d v
 | [],_,i,d,_,e=>by simp at e
 | d' :: ds,vs,0,d,h,e=>by
  obtain⟨v,r,rfl,hd,t⟩:=h.uncons
  simp at e;subst e
  exact⟨v,by simp,hd⟩
 | d' :: ds,vs,i + 1,d,h,e=>by
  obtain⟨v,r,rfl,hd,t⟩:=h.uncons
  obtain⟨w,e1,e2⟩:=a0b.get (i:=i) t (by simpa using e)
  exact⟨w,by simpa using e1,e2⟩
theorem a0b.append:∀ {ds es:List PyData} {vs ws:List V},a0b K H S ds vs->a0b K H S es ws->a0b K H S (ds ++ es) (vs ++ ws)
 | [],_,_,_,h,t=>by rw [h.unnil];exact t
 | d :: ds,es,vs,ws,h,t=>by
  obtain⟨v,r,rfl,hd,q⟩:=h.uncons
  exact .cons hd (a0b.append q t)
theorem a0b.snoc{ds:List PyData}{vs:List V}{d:PyData}{v:V}(h:a0b K H S ds vs)(hd:AtD K H S d v):a0b K H S (ds ++ [d]) (vs ++ [v]):=h.append (.cons hd .nil)
theorem a0b.drop:∀ {ds:List PyData} {vs:List V} (n:Nat),a0b K H S ds vs->a0b K H S (ds.drop n) (vs.drop n)
 | _,_,0,h=>by simpa using h
 | [],vs,n + 1,h=>by rw [h.unnil];exact .nil
 | d :: ds,vs,n + 1,h=>by
  obtain⟨v,r,rfl,hd,q⟩:=h.uncons
  exact a0b.drop n q
theorem a0b.take:∀ {ds:List PyData} {vs:List V} (n:Nat),a0b K H S ds vs->a0b K H S (ds.take n) (vs.take n)
 | _,_,0,h=>by simpa using a0b.nil
 | [],vs,n + 1,h=>by rw [h.unnil];exact .nil
 | d :: ds,vs,n + 1,h=>by
  obtain⟨v,r,rfl,hd,q⟩:=h.uncons
  exact .cons hd (a0b.take n q)
theorem a0b.reverse:∀ {ds:List PyData} {vs:List V},a0b K H S ds vs->a0b K H S ds.reverse vs.reverse
 | [],_,h=>by rw [h.unnil];exact .nil
 | d :: ds,vs,h=>by
  obtain⟨v,r,rfl,hd,q⟩:=h.uncons
  rw [List.reverse_cons,List.reverse_cons]
  exact(a0b.reverse q).snoc hd
theorem b8y:AtD K H S .none .non:=by unfold AtD;rfl
theorem a3k(b:Bool):AtD K H S (.bool b) (.bl b):=by unfold AtD;rfl
theorem a3o(i:Int):AtD K H S (.int i) (.int i):=by unfold AtD;rfl
theorem a1p(x:Str):AtD K H S (.str x) (.str x):=by unfold AtD;rfl
theorem a9s{v:V}(h:AtD K H S .none v):v=.non:=by unfold AtD at h;exact h
theorem a6m{b:Bool}{v:V}(h:AtD K H S (.bool b) v):v=.bl b:=by unfold AtD at h;exact h
theorem a9t{i:Int}{v:V}(h:AtD K H S (.int i) v):v=.int i:=by unfold AtD at h;exact h
theorem a9u{x:Str}{v:V}(h:AtD K H S (.str x) v):v=.str x:=by unfold AtD at h;exact h
theorem a2s{ds:List PyData}{v:V}(h:AtD K H S (.tuple ds) v):∃ a xs,v=.ref a/\SqT K H a xs/\a0b K H S ds xs:=by unfold AtD at h;exact h
theorem a3x{ds:List PyData}{v:V}(h:AtD K H S (.list ds) v):∃ a xs,v=.ref a/\S a/\H a=some (.lst xs)/\a0b K H S ds xs:=by unfold AtD at h;exact h
theorem a1o{ds:List PyData}{a:Addr}{xs:List V}(q:SqT K H a xs)(h:a0b K H S ds xs):AtD K H S (.tuple ds) (.ref a):=by unfold AtD;exact⟨a,xs,rfl,q,h⟩
theorem a4z{ds:List PyData}{a:Addr}{xs:List V}(s:S a)(q:H a=some (.lst xs))(h:a0b K H S ds xs):AtD K H S (.list ds) (.ref a):=by unfold AtD;exact⟨a,xs,rfl,s,q,h⟩
theorem a8e{kvs:List (PyData × PyData)}{v:V}(h:AtD K H S (.dict kvs) v):∃ (a:Addr) (κ:List (Key × V)),v=.ref a/\S a/\H a=some (.dK κ)/\a0s K H S kvs κ:=by unfold AtD at h;exact h
theorem b1l{kvs:List (PyData × PyData)}{κ:List (Key × V)}{a:Addr}(s:S a)(q:H a=some (.dK κ))(h:a0s K H S kvs κ):AtD K H S (.dict kvs) (.ref a):=by unfold AtD;exact⟨a,κ,rfl,s,q,h⟩
theorem a0s.nil:a0s K H S [] []:=by unfold a0s;rfl
theorem a0s.cons{k:Key}{v:V}{d:PyData}{r:List (PyData × PyData)}{t:List (Key × V)}(h:AtD K H S d v)(hr:a0s K H S r t):a0s K H S ((keyD k,d) :: r) ((k,v) :: t):=by
 unfold a0s;exact⟨k,v,t,rfl,rfl,h,hr⟩
theorem a0s.uncons{x d:PyData}{r:List (PyData × PyData)}{κ:List (Key × V)}(h:a0s K H S ((x,d) :: r) κ):∃ k v t,κ=(k,v) :: t/\x=keyD k/\AtD K H S d v/\a0s K H S r t:=by unfold a0s at h;exact h
theorem a0s.unnil{κ:List (Key × V)}(h:a0s K H S [] κ):κ=[]:=by unfold a0s at h;exact h
theorem b0j{ds:List PyData}{p:Addr}{xs:List V}(hp:H p=none)(h:a0b K H S ds xs):AtD K (upd H p (.tup xs)) S (.tuple ds) (.ref p):=
 a1o (SqT.of a0j) (a0b.mono (a0o hp _).keep _ _ h)
theorem b8z{ds:List PyData}{p:Addr}{xs:List V}(s:S p)(hp:H p=none)(h:a0b K H S ds xs):AtD K (upd H p (.lst xs)) S (.list ds) (.ref p):=
 a4z s a0j (a0b.mono (a0o hp _).keep _ _ h)
end
theorem c6y(h:Heap){k:Key}{u:Value}(q:a9d k u=true):Reads h u (keyD k) []:=by
 rcases a2d q with⟨i,t,e',h'⟩ | ⟨x,t,e',h'⟩
 ·rw [e',h'];exact .int i t
 ·rw [e',h'];exact .str x t
section
variable{X:Cx}{pins:List (Addr × Obj)}{σ:St}{H:Hp}{s:Shared}{S:Addr->Prop}
mutual
theorem AtD.reads(I:Inv X pins σ H s):∀ (d:PyData) (v:V) (u:Value),AtD X.K H S d v->RelV v u->∃ as,Reads s.heap u d as
 | .none,v,u,h,r=>by cases a9s h;cases r;exact⟨_,.none⟩
 | .bool b,v,u,h,r=>by cases a6m h;cases r;exact⟨_,.bool b⟩
 | .int i,v,u,h,r=>by cases a9t h;obtain⟨t,rfl⟩:=r;exact⟨_,.int i t⟩
 | .str x,v,u,h,r=>by cases a9u h;obtain⟨t,rfl⟩:=r;exact⟨_,.str x t⟩
 | .list ds,v,u,h,r=>by
  obtain⟨a,xs,rfl,_,q,t⟩:=a3x h
  cases r
  obtain⟨its,rv,⟨o,n,e,hc,_,hd⟩,_⟩:=I.list (SqL.of q)
  obtain⟨as,ra⟩:=a0b.reads I ds xs its t rv
  exact⟨_,.list e hc hd (by simpa using ra)⟩
 | .tuple ds,v,u,h,r=>by
  obtain⟨a,xs,rfl,q,t⟩:=a2s h
  cases r
  obtain⟨its,rv,⟨o,e,hc,n,hd⟩,_⟩:=I.tuple q
  obtain⟨as,ra⟩:=a0b.reads I ds xs its t rv
  exact⟨_,.tuple e hc hd (by simpa using ra)⟩
 | .dict kvs,v,u,h,r=>by
  obtain⟨a,ν,rfl,_,q,t⟩:=a8e h
  cases r
  obtain⟨_,_,vs,kv,o,es,ep,e,hc,hd,_,hp,_⟩:=(show a1z X.prog X.w H s.heap a (.dK ν) from I.hok a _ q)
  obtain⟨as,bs,r1,r2⟩:=a0s.reads I kvs ν vs es.toList t kv hp
  exact⟨_,.dict e hc.1 hd r1 r2⟩
theorem a0b.reads(I:Inv X pins σ H s):∀ (ds:List PyData) (vs:List V) (us:List Value),a0b X.K H S ds vs->Vals vs us->∃ as,ReadsAll s.heap us ds as
 | [],vs,us,h,r=>by
  cases h.unnil
  cases r
  exact⟨_,.nil⟩
 | d :: ds,vs,us,h,r=>by
  obtain⟨v,vr,rfl,hd,t⟩:=h.uncons
  cases r with
  | cons r1 r2 =>
   obtain⟨as,q1⟩:=AtD.reads I d v _ hd r1
   obtain⟨bs,q2⟩:=a0b.reads I ds vr _ t r2
   exact⟨_,.cons q1 q2⟩
theorem a0s.reads(I:Inv X pins σ H s):∀ (kvs:List (PyData × PyData)) (κ:List (Key × V)) (vs:List (Key × Value)) (es:List DictEntry),a0s X.K H S kvs κ->KV κ vs->Pairs (a2k X.prog X.w) es vs->∃ as bs,ReadsAll s.heap (es.map (·.key)) (kvs.map (·.1)) as/\ReadsAll s.heap (es.map (·.val)) (kvs.map (·.2)) bs
 | [],κ,vs,es,h,r,q=>by
  cases h.unnil
  cases r
  cases q
  exact⟨_,_,.nil,.nil⟩
 | (x,d) :: kr,κ,vs,es,h,r,q=>by
  obtain⟨k,v,t,rfl,rfl,h1,h2⟩:=h.uncons
  cases r with
  | cons r1 r2 =>
   cases q with
   | cons q1 q2 q3 =>
    rename_i kv _ e _
    obtain⟨kk,kv2⟩:=kv
    obtain⟨e1,e2⟩:=r1
    cases e1
    obtain⟨a1,w1⟩:=AtD.reads I d v kv2 h1 e2
    obtain⟨as,bs,c1,c2⟩:=a0s.reads I kr t _ _ h2 r2 q3
    have hk:Reads s.heap e.key (keyD k) []:=c6y _ (show a9d k e.key=true from q1)
    have g1:=ReadsAll.cons hk c1
    have g2:=ReadsAll.cons w1 c2
    rw [show kv2=e.val from q2.symm] at g2
    exact⟨_,_,g1,g2⟩
end
end
section
variable{X:Cx}
theorem c2h{K:W.Frag}{H:Hp}{S:Addr->Prop}{ds:List PyData}{xs:List V}{i:Int}{d:PyData}(h:a0b K H S ds xs)(e:atI ds i=some d):∃ v,atI xs i=some v/\AtD K H S d v:=by
 unfold atI at e ⊢
 rw [h.length]
 cases q:ixN ds.length i with
 | none=>rw [q] at e;cases e
 | some j =>
  rw [q] at e
  obtain⟨v,e1,e2⟩:=h.get (show ds[j]? = some d from e)
  exact⟨v,e1,e2⟩
def rEqD(K:W.Frag)(neg:Bool):R2:=fun x y H Q=>∃ S S' d e,AtD K H S d x/\AtD K H S' e y/\SeqAt.shaped d=true/\SeqAt.shaped e=true/\Q (.bl (if neg then !PyData.eqv d e else PyData.eqv d e)) H
theorem d9p(hu:X.A.units + 64 < cLine):OpR X (compareOp .Eq) (rEqD X.K false):=by
 intro pins s σ H x y v u Q I rx ry h
 obtain⟨S,S',d,e,hd,he,sd,se,q⟩:=h
 obtain⟨as,ra⟩:=AtD.reads I d x v hd rx
 obtain⟨bs,rb⟩:=AtD.reads I e y u he ry
 exact SeqAt.compareEq_shaped ra rb sd se hu ⟨.bl _,H,I,rfl,q⟩
theorem d9q(hu:X.A.units + 64 < cLine):OpR X (compareOp .NotEq) (rEqD X.K true):=by
 intro pins s σ H x y v u Q I rx ry h
 obtain⟨S,S',d,e,hd,he,sd,se,q⟩:=h
 obtain⟨as,ra⟩:=AtD.reads I d x v hd rx
 obtain⟨bs,rb⟩:=AtD.reads I e y u he ry
 exact SeqAt.compareNe_shaped ra rb sd se hu ⟨.bl _,H,I,rfl,q⟩
noncomputable def tyD:PyData->String
 | .none => "NoneType" | .bool _ => "bool" | .int _ => "int" | .str _ => "str" | .list _ => "list" | .tuple _ => "tuple" | .dict _ => "dict"
noncomputable def isD(T:String)(d:PyData):Bool:=tyD d == T || (T == "int" && tyD d == "bool")
theorem c3w{x:Str}{T:String}{pos:Pos}(hg:Gl X x)(hm:X.mg x=none)(hv:bootBuiltins x=some (.type T)) (hn:x ≠ "__name__":=by decide) (hd:(x == ("__debug__" : Str))=false:=by decide):PE X (.Name x pos) (tC (.ty T)):=
 d4b hg hm hv rfl hn hd
theorem c9p{pins:List (Addr × Obj)}{s:Shared}{σ:St}{H:Hp}{S:Addr->Prop}{d:PyData}{v:V}{u:Value}{T:String}{Q:VK}(I:Inv X pins σ H s)(h:AtD X.K H S d v)(r:RelV v u)
  (ht:PySem.W.kitOne X.K (.type (tyD d)) (.type T)=some (isD T d)) (q:Q (.bl (isD T d)) H) :
  wpAny (model X.prog X.w) X.A (call (.builtin "isinstance") [u,.type T]) (EP X pins σ Q) X.xe s:=by
 have fin:∀ tk,EP X pins σ Q (.bool (isD T d)) { s with toks:=tk }:=fun tk=>⟨.bl _,H,I.tok tk,rfl,q⟩
 cases d with
 | none=>cases a9s h;cases r;exact PySem.W.kia_one PySem.W.kitx_none I.kIn True.intro ht (fun z=>nomatch z) fin
 | bool b=>cases a6m h;cases r;exact PySem.W.kia_one PySem.W.kitx_bool I.kIn True.intro ht (fun z=>nomatch z) fin
 | int i=>cases a9t h;obtain⟨t,rfl⟩:=r;exact PySem.W.kia_one PySem.W.kitx_int I.kIn True.intro ht (fun z=>nomatch z) fin
 | str x=>cases a9u h;obtain⟨t,rfl⟩:=r;exact PySem.W.kia_one PySem.W.kitx_str I.kIn True.intro ht (fun z=>nomatch z) fin
 | list ds =>
  obtain⟨a,xs,rfl,_,hq,_⟩:=a3x h
  cases r
  obtain⟨its,_,⟨o,n,e,hc,_,hd⟩,_⟩:=I.list (SqL.of hq)
  exact PySem.W.kia_one PySem.W.kitx_list I.kIn ⟨o,e,hc⟩ ht (fun z=>nomatch z) fin
 | tuple ds =>
  obtain⟨a,xs,rfl,hq,_⟩:=a2s h
  cases r
  obtain⟨its,_,⟨o,e,hc,n,hd⟩,_⟩:=I.tuple hq
  exact PySem.W.kia_one PySem.W.kitx_tuple I.kIn ⟨o,e,hc⟩ ht (fun z=>nomatch z) fin
 | dict kvs =>
  obtain⟨a,ν,rfl,_,hq,_⟩:=a8e h
  cases r
  obtain⟨_,_,vs,kv,o,es,ep,e,hc,hd,_,hp,_⟩:=(show a1z X.prog X.w H s.heap a (.dK ν) from I.hok a _ hq)
  exact PySem.W.kia_one PySem.W.kitx_dict I.kIn ⟨o,e,hc.1⟩ ht (fun z=>nomatch z) fin
noncomputable def a1w(T:String):Bool:=T == "int" || T == "str" || T == "bool" || T == "list" || T == "tuple" || T == "dict"
theorem b9a(K:W.Frag)(d:PyData)(T:String)(hT:a1w T=true):PySem.W.kitOne K (.type (tyD d)) (.type T)=some (isD T d):=by
 simp only [a1w,Bool.or_eq_true,beq_iff_eq] at hT
 rcases hT with((((rfl | rfl) | rfl) | rfl) | rfl) | rfl<;>cases d<;>rfl
theorem c9q:a3h X (.builtin "isinstance") (fun xs H Q=>∃ v S d T,xs=[v,.ty T]/\AtD X.K H S d v/\a1w T=true/\Q (.bl (isD T d)) H):=by
 intro pins s σ H xs us Q I rs h
 obtain⟨v,S,d,T,rfl,hd,hT,q⟩:=h
 obtain⟨u,u2,rfl,r1,r2⟩:=rs.two
 cases r2
 exact c9p I hd r1 (b9a X.K d T hT) q
end
section
variable{X:Cx}{tg:Expr}
def iDat(K:W.Frag)(tl:TE):TI:=fun σ H R=>tl σ H fun x H1=>(∃ a,x=.ref a/\(∃ xs,SqT K H1 a xs)/\R (Itt K a) H1) ∨ (∃ a,x=.ref a/\(∃ xs,SqL K H1 a xs)/\R (Itl K a) H1)
theorem d9r{l:Expr}{tl:TE}(hl:PE X l tl):PI X tg l (iDat X.K tl):=by
 intro pins s σ H R I h
 refine thn (hl pins s σ H (fun x H1=>(∃ a,x=.ref a/\(∃ xs,SqT X.K H1 a xs)/\R (Itt X.K a) H1) ∨ (∃ a,x=.ref a/\(∃ xs,SqL X.K H1 a xs)/\R (Itl X.K a) H1)) I h) fun v s1 hq9=>?_
 obtain⟨x,H1,I1,r1,q1⟩:=hq9
 rcases q1 with⟨a,rfl,⟨xs,hq⟩,q⟩ | ⟨a,rfl,⟨xs,hq⟩,q⟩
 ·cases r1
  obtain⟨its,rv,p,hz⟩:=I1.tuple hq
  refine wpAny_pyIter_tuple (show s1.heap.IsTuple a its.toArray from p) ?_
  refine⟨s1.heap.objs.size,[s1.heap.objs.size],_,_,H1,rfl,I1.kept (t':=s1.toks) fun b o e=>get?_push_of_some _ e,c3i a _,⟨_,get?_push_size _ rfl,rfl,rfl⟩,fun b hb=>?_,q⟩
  have e:b=s1.heap.objs.size:=by simpa using hb
  subst e
  exact I1.fpOk (Nat.le_refl _) (I1.hok.fresh (Nat.le_refl _))
 ·cases r1
  obtain⟨its,rv,p,hz⟩:=I1.list hq
  refine wpAny_pyIter_list p.isList ?_
  refine⟨s1.heap.objs.size,[s1.heap.objs.size],_,_,H1,rfl,I1.kept (t':=s1.toks) fun b o e=>get?_push_of_some _ e,c6j a _,⟨_,get?_push_size _ rfl,rfl,rfl⟩,fun b hb=>?_,q⟩
  have e:b=s1.heap.objs.size:=by simpa using hb
  subst e
  exact I1.fpOk (Nat.le_refl _) (I1.hok.fresh (Nat.le_refl _))
end
end L2
end
section
namespace L2
open PySem PySem.Spec PyProof.Rows
structure Def(K:W.Frag)(mg:Str->Option Value)(x:Str)(st:Stmt)(ps:List Str)(f:Addr)(fd:FuncData):Prop where
 fn:Fun K x x st f fd
 bd:Binds K fd ps []
 gl:mg x=some (.ref f)
section
variable{X:Cx}{k:Nat}{f:Addr}{fd:FuncData}{ps:List Str}{sp:Sp}{x:Str}{st:Stmt}{p pos:Pos}{e:Expr}{es:List Expr}{t:TA}
theorem a3c(d:Def X.K X.mg x st ps f fd)(g:FnOk X.prog X.w X.K X.mg X.base CX0 k f fd ps sp)(hr:Room k X.A)(hg:Gl X x)(ha:PA X (e :: es) t) (hdb:(x == ("__debug__" : Str))=false:=by decide)
  (he:starEach (e :: es) X.env=(false,eval e X.env) :: starEach es X.env:=by rfl) (hpl:(backTo pos (starEach es X.env)).any (·.1)=false:=by rfl):PE X (.Call (.Name x p) (e :: es) [] pos) (b4b sp [] E0 t):=
 d4j g hr hg d.gl d.fn.kp d.bd .nil a4f ha hdb he hpl
end
section
variable{X:Cx}{tg:Expr}
end
section
variable{X:Cx}
end
end L2
namespace L2
open PySem PySem.Spec PyProof.Rows
def Frs(S:Addr->Prop)(H:Hp):Prop:=∀ p,H p=none->S p
section
variable{K:W.Frag}{S:Addr->Prop}{σ:St}{H:Hp}{d:PyData}{ds:List PyData}{t te:TE}{ta:TA}
theorem c6z{α:Type}{xs:List α}{i:Int}(h0:0 <= i)(h1:i < xs.length):∃ x,atI xs i=some x/\x ∈ xs/\xs[i.toNat]? = some x:=by
 have hk:i.toNat < xs.length:=by omega
 have ei:i=((i.toNat:Nat):Int):=by omega
 have q:atI xs ((i.toNat:Nat):Int)=some xs[i.toNat]:=a5s (getElem?_eq_getElem hk)
 rw [← ei] at q
 exact⟨_,q,List.getElem_mem hk,getElem?_eq_getElem hk⟩
end
end L2
end
section
namespace L2
open PySem PySem.Spec PyProof.Rows
theorem a9v:typeLookup (.type "tuple") "__reversed__" = pure none:=by rw [typeLookup_type,builtinLookup_eq_fast];kernel_rfl
theorem a5w:typeLookup (.type "tuple") "__getitem__" = pure (some (.builtin "tuple.__getitem__")):=by rw [typeLookup_type,builtinLookup_eq_fast];kernel_rfl
theorem sub_tuple_dict:isSubtype (.type "tuple") (.type "dict")=pure false:=by rw [isSubtype_type];kernel_rfl
theorem b1m:Slot "reversed" "__init__" "object.__init__":=
 .of (owner:="object") (n:="__init__") (by rw [typeLookup_type,builtinLookup_eq_fast];kernel_rfl) (by decide +kernel) (by decide +kernel) (by decide +kernel)
  (by first | exact .inl (by decide +kernel) | exact .inr (by decide +kernel)) (by rw [isSubtype_type];kernel_rfl)
theorem b4g:TypeCalled "reversed" "reversed.__new__" "object.__init__":=
 ⟨by decide +kernel,by decide +kernel,⟨_,_,F.mro_reversed⟩,F.made_reversed,by decide +kernel,F.sub_reversed_self,b1m⟩
theorem a2t:Slot "reversed" "__next__" "reversed.__next__":=
 .of (owner:="reversed") (n:="__next__") (by rw [typeLookup_type,builtinLookup_eq_fast];kernel_rfl) (by decide +kernel) (by decide +kernel) (by decide +kernel)
  (by first | exact .inl (by decide +kernel) | exact .inr (by decide +kernel)) (by rw [isSubtype_type];kernel_rfl)
theorem a7g:Slot "reversed" "__iter__" "reversed.__iter__":=
 .of (owner:="reversed") (n:="__iter__") (by rw [typeLookup_type,builtinLookup_eq_fast];kernel_rfl) (by decide +kernel) (by decide +kernel) (by decide +kernel)
  (by first | exact .inl (by decide +kernel) | exact .inr (by decide +kernel)) (by rw [isSubtype_type];kernel_rfl)
theorem a6i:entryFor table "reversed.__next__" = some Builtin.«reversed.__next__»:=entryFor_of_tree (by kernel_rfl)
theorem b1d:entryFor table "reversed.__iter__" = some Builtin.«dict_keyiterator.__iter__»:=
 entryFor_alias (id':="dict_keyiterator.__iter__") (by kernel_rfl) (by first | rfl | decide +kernel | (unfold String.splitOn;simp +decide [String.splitOnAux])) (by decide +kernel) (by kernel_rfl)
theorem a7h(a:Value):argsOk "reversed.__next__" ⟨[a],[]⟩:=by unfold argsOk;kernel_rfl
theorem b1n(a:Value):argsOk "reversed.__iter__" ⟨[a],[]⟩:=by unfold argsOk;kernel_rfl
section
variable{prog:Program}{w:World}{A:Around}{E:Value->Shared->Prop}{s:Shared}
noncomputable def revT(l:Addr)(i:Int):Obj:={ cls:=.type "reversed",data:=.fields #[.ref l,rawInt i] }
theorem IsTup.typeIs'{h:Heap}{a:Addr}{items:Array Value}{s:Shared}(e:s.heap=h)(x:IsTup h a items):s.TypeIs (.ref a) "tuple":=by
 obtain⟨o,ho,hc,_⟩:=x
 subst e
 exact⟨o,ho,hc⟩
theorem b0k{l:Addr}{items:Array Value}(hfit:(items.size:Int) < 2 ^ 63) :
  MeetsIn prog w (Builtin.«reversed.__new__» ⟨[.type "reversed",.ref l],[]⟩) (fun A R s=>IsTup s.heap l items/\∀ tk,R (.ok (.ret (Value.ref s.heap.objs.size))) { s with heap:=s.heap.push (revT l ((items.size:Int) - 1)),toks:=tk }):=by
 intro A R s ⟨ht,h⟩
 unfold Builtin.«reversed.__new__»
 refine wpAny_bind (wpAny_of_eq (newClass_reversed _) ?_)
 try dsimp only
 refine wpAny_bind (wpAny_of_eq (a:=()) (by first | rfl | kernel_rfl) ?_)
 refine wpAny_bind (wpAny_of_eq (a:=()) (by first | rfl | kernel_rfl) ?_)
 try dsimp only
 refine wpAny_bind (wpAny_specialOf (IsTup.typeIs' rfl ht) a9v ?_)
 try dsimp only
 refine wpAny_bind ?_
 show wpAny _ _ (isInstance (.ref l) (.type "dict") >>= _) _ _ _
 refine wpAny_bind (wpAny_isInstance (IsTup.typeIs' rfl ht) sub_tuple_dict ?_)
 show wpAny _ _ (specialOf (.ref l) "__getitem__" >>= _) _ _ _
 refine wpAny_bind (wpAny_specialOf (IsTup.typeIs' rfl ht) a5w ?_)
 refine wpAny_pure ?_
 show wpAny _ _ (call (Value.builtin "len") [Value.ref l] >>= _) _ _ _
 refine wpAny_bind (len_tuple ht hfit ?_)
 show wpAny _ _ (asInt? (Value.int _ _) >>= _) _ _ _
 refine wpAny_bind (wpAny_of_eq (a:=some (items.size:Int)) (by rfl) ?_)
 show wpAny _ _ (Builtin.SmallTypes.newRecord (Value.type "reversed") [Value.ref l,rawInt ((items.size:Int) - 1)] >>= _) _ _ _
 refine wpAny_bind ?_
 show wpAny _ _ (newObj (Value.type "reversed") (.fields [Value.ref l,rawInt ((items.size:Int) - 1)].toArray)) _ _ _
 refine wpAny_newObj_type ?_
 exact wpAny_pure (h _)
theorem b1e{l:Addr}{items:Array Value}{Q:Value->Shared->Prop}(ht:IsTup s.heap l items)(hfit:(items.size:Int) < 2 ^ 63)
  (h:∀ tk,Q (.ref s.heap.objs.size) { s with heap:=s.heap.push (revT l ((items.size:Int) - 1)),toks:=tk }):wpAny (model prog w) A (call (.type "reversed") [.ref l]) Q E s:=
 callType_newIn b4g (by decide) (F.typeCall_reversed_1 _) (F.newCall_reversed_1 _) (fun obj=>F.args_object_init_2 obj _) F.entry_reversed_new
  (b0k hfit) ⟨ht,fun tk=>⟨⟨_,get?_push_size _ rfl,rfl⟩,h tk⟩⟩
theorem b2t{it l:Addr}{i:Int}{Q:Value->Shared->Prop}(hit:s.heap.get? it=some (revT l i))(h:Q (.ref it) s):wpAny (model prog w) A (pyIter (.ref it)) Q E s:=by
 have hT:s.TypeIs (.ref it) "reversed":=⟨_,hit,rfl⟩
 refine wpAny_pyIter_slot hT a7g (wpAny_call_entry a7g hT b1d ?_ (b1n _))
 show wpAny _ _ (ret (.ref it)) _ _ s
 exact wpAny_pure ⟨_,rfl,"reversed",_,hT,a2t.lookup,h⟩
theorem b3a{it l:Addr}{i:Nat}{items:Array Value}{x:Value}{Q:Option Value->Shared->Prop}(hit:s.heap.get? it=some (revT l (i:Int)))(ht:IsTup s.heap l items)(hx:items[i]? = some x)(hne:l ≠ it)(hfit:(i:Int) < 2 ^ 63)
  (hQ:∀ h' tk,h'.get? it=some (revT l ((i:Int) - 1))->Heap.SameBut it s.heap h'->Q (some x) { s with heap:=h',toks:=tk }):wpAny (model prog w) A (pyNext (.ref it)) Q E s:=by
 have hT:s.TypeIs (.ref it) "reversed":=⟨_,hit,rfl⟩
 unfold pyNext
 refine wpAny_bind (wpAny_attempt (wpAny_callSpecial?_slot (name:=Str.ofString "__next__") hT a2t
  (wpAny_call_entry a2t hT a6i ?_ (a7h _))))
 unfold Builtin.«reversed.__next__»
 refine wpAny_bind (wpAny_of_eq (a:=(Value.ref it,[])) rfl ?_)
 try dsimp only
 refine wpAny_bind (wpAny_field hit rfl (x:=.ref l) rfl ?_)
 refine wpAny_bind (wpAny_field hit rfl (x:=rawInt (i:Int)) rfl ?_)
 show wpAny _ _ (if (i:Int) < 0 then _ else _) _ _ s
 rw [if_neg (by omega)]
 show wpAny _ _ (specialOf (.ref l) "__getitem__" >>= _) _ _ _
 refine wpAny_bind (wpAny_specialOf (IsTup.typeIs' rfl ht) a5w ?_)
 rw [if_neg (by decide)]
 refine wpAny_bind (wpAny_mkInt ?_)
 refine wpAny_bind (wpAny_attempt (getItem_tuple (j:=i) (x:=x) ht (by omega) hfit (by
  unfold seqIndex?
  have hlt:i < items.size:=by
   by_cases q:i < items.size
   ·exact q
   ·rw [Array.getElem?_eq_none (by omega)] at hx;cases hx
  first | (rw [if_pos (by omega)];simp;omega) | (simp;omega) | (split<;>simp_all<;>omega)) hx ?_))
 show wpAny _ _ (field (.ref it) 1 >>= _) _ _ _
 refine wpAny_bind (wpAny_field hit rfl (x:=rawInt (i:Int)) rfl ?_)
 show wpAny _ _ (setField (.ref it) 1 (rawInt ((i:Int) - 1)) >>= _) _ _ _
 refine wpAny_bind (wpAny_setField hit rfl (by simp) ?_)
 refine wpAny_pure ⟨x,rfl,wpAny_pure (hQ _ _ ?_ (Heap.SameBut.update ..))⟩
 exact Heap.get?_update_self _ hit rfl
theorem b4h{it l:Addr}{Q:Option Value->Shared->Prop}(hh:A.handled=none)(hit:s.heap.get? it=some (revT l (-1)))
  (hQ:∀ h',Heap.ExtBut it s.heap h'->Q none { s with heap:=h' }):wpAny (model prog w) A (pyNext (.ref it)) Q E s:=by
 have hT:s.TypeIs (.ref it) "reversed":=⟨_,hit,rfl⟩
 unfold pyNext
 refine wpAny_bind (wpAny_attempt (wpAny_callSpecial?_slot (name:=Str.ofString "__next__") hT a2t
  (wpAny_call_entry a2t hT a6i ?_ (a7h _))))
 unfold Builtin.«reversed.__next__»
 refine wpAny_bind (wpAny_of_eq (a:=(Value.ref it,[])) rfl ?_)
 try dsimp only
 refine wpAny_bind (wpAny_field hit rfl (x:=.ref l) rfl ?_)
 refine wpAny_bind (wpAny_field hit rfl (x:=rawInt (-1)) rfl ?_)
 show wpAny _ _ (if (-1:Int) < 0 then _ else _) _ _ s
 rw [if_pos (by decide)]
 refine wpAny_bind (wpAny_rule ?_)
 refine wpAny_bind ?_
 show wpAny _ _ (setField (.ref it) 1 (rawInt (-1)) >>= _) _ _ _
 refine wpAny_bind (wpAny_setField hit rfl (by simp) ?_)
 have h2:(s.heap.update it (Obj.mapFields fun vs=>vs.setIfInBounds 1 (rawInt (-1)))).get? it=some (revT l (-1)):=by
  exact Heap.get?_update_self _ hit rfl
 refine wpAny_setField h2 rfl (by simp) ?_
 show wpAny _ _ ((newExc (.type "StopIteration") [] >>= _) >>= _) _ _ _
 refine wpAny_bind ?_
 refine wpAny_bind ?_
 simp only [newExc,newTuple]
 refine wpAny_bind (wpAny_newObj_type ?_ (by size_fits))
 refine wpAny_bind (m:=firstArgMember _ _) (wpAny_of_eq (a:=Value.none) (by first | rfl | (simp only [firstArgMember];rfl)) ?_)
 refine wpAny_newObj_type ?_ (by size_fits)
 simp only [raiseNew]
 refine wpAny_bind (wpAny_handled ?_)
 first | rw [show A.in1.handled=none from hh] | rw [hh]
 refine wpAny_bind (wpAny_pure (wpAny_throw ?_))
 refine wpAny_bind (wpAny_isInstance (T:="StopIteration") (b:=true) ⟨_,get?_push_size _ rfl,rfl⟩ isSubtype_stop ?_)
 refine wpAny_pure (hQ _ ?_)
 refine((?_:Heap.ExtBut it s.heap _).push _).push _
 intro b o hb e
 rw [Heap.get?_update_other _ _ (Ne.symm hb),Heap.get?_update_other _ _ (Ne.symm hb)]
 exact e
end
noncomputable def Itrv(K:W.Frag)(a:Addr)(n:Nat):It:=
 ⟨fun i H=>∃ xs x,SqT K H a xs/\xs.length=n/\xs.reverse[i]? = some x,fun i H x H'=>H'=H/\∀ xs,SqT K H a xs->xs.reverse[i]? = some x,fun i _=>n=i⟩
theorem d9s{α:Type}{xs:List α}{i:Nat}{x:α}(h:xs.reverse[i]? = some x):xs[xs.length - 1 - i]? = some x/\i < xs.length:=by
 have hi:i < xs.reverse.length:=(List.getElem?_eq_some_iff.mp h).1
 rw [length_reverse] at hi
 rw [List.getElem?_reverse hi] at h
 exact⟨h,hi⟩
theorem c9r{P:Program}{w:World}{K:W.Frag}{tg:Expr}(a it:Addr)(n:Nat)(hn:n <= sizeLine):Turn P w K tg (Itrv K a n) [it] it (fun i h=>h.get? it=some (revT a ((n:Int) - 1 - (i:Nat)))) where
 mem:=by simp
 obj:=fun i h st b hb=>by
  have e:b=it:=by simpa using hb
  subst e
  exact⟨_,st,fun v z=>by
   have z':Data.fields _=Data.cell v:=z
   cases z'⟩
 keep:=fun i h h' st k=>k it (by simp) _ st
 item:=by
  intro X hP hw hK hc i pins s σ H E I hf st hg
  subst hP hw hK
  obtain⟨f0,f1,f2,f3,f4,f5⟩:=hf it (by simp)
  obtain⟨xs,x,hq,hl,hx⟩:=hg
  obtain⟨its,rv,pl,hz⟩:=I.tuple hq
  obtain⟨hx',hi⟩:=d9s hx
  obtain⟨u,hu,ru⟩:=rv.get hx'
  have e0:(n:Int) - 1 - (i:Nat)=((xs.length - 1 - i:Nat):Int):=by omega
  have ne:a ≠ it:=by
   rintro rfl
   obtain⟨o,ho,hco,_⟩:=pl
   rw [st] at ho
   cases ho
   exact absurd hco (by show ¬ (Value.type "reversed" = Value.type "tuple");decide)
  refine b3a (l:=a) (i:=xs.length - 1 - i) (items:=its.toArray) (x:=u) (by rw [← e0];exact st) pl (by simpa using hu) ne ?_ fun h' tk st' sb=>?_
  ·have:=a5v;omega
  ·have I1:Inv X pins σ H { s with heap:=h',toks:=tk }:=I.turned (fun b o hb e=>(sb.2 b hb).trans e) f0 f1 f3 f4 f5
   have st2:h'.get? it=some (revT a ((n:Int) - 1 - ((i + 1:Nat):Int))):=by
    rw [st'];congr 2;omega
   refine⟨u,rfl,b1x (s:={ s with heap:=h',toks:=tk }) (n:="reversed") st2 rfl rfl (by decide) ⟨x,H,I1,ru,⟨rfl,fun ys hys=>?_⟩,st2,fun b hb=>(hf b hb).1⟩⟩
   rw [I.tuple_inj hys hq];exact hx
 done:=by
  intro X hP hw hK hc i pins s σ H E I hf st hg
  subst hP hw hK
  obtain⟨f0,f1,f2,f3,f4,f5⟩:=hf it (by simp)
  have e:n=i:=hg
  have st':s.heap.get? it=some (revT a (-1)):=by rw [st];congr 2;omega
  exact b4h (I.ok.hd hc) st' fun h' eb=>⟨rfl,I.turned (t':=s.toks) (fun b o hb e=>eb b o hb e) f0 f1 f3 f4 f5⟩
 self:=fun _ _ _ _ _ st h=>b2t st h
section
variable{X:Cx}{tg:Expr}
def iRev(K:W.Frag)(tl:TE):TI:=fun σ H R=>tl σ H fun x H1=>∃ a xs,x=.ref a/\SqT K H1 a xs/\R (Itrv K a xs.length) H1
theorem d9t{l:Expr}{tl:TE}{p pos:Pos} (hg:Gl X "reversed") (hm:X.mg "reversed" = none) (hl:PE X l tl) (hs:starEach [l] X.env=[(false,eval l X.env)]:=by rfl):PI X tg (.Call (.Name "reversed" p) [l] [] pos) (iRev X.K tl):=by
 intro pins s σ H R I h
 refine Call_ (a9n I hg hm c1h (PyProof.Rows.callWith_type1 (thn ((a0i (t:=tNil) hl a0r hs) pos pins s σ H (fun vs H1=>match vs with | [x]=>(∃ a xs,x=.ref a/\SqT X.K H1 a xs/\R (Itrv X.K a xs.length) H1) | _=>False) I ?_) fun us s1 ⟨vs,H1,I1,r1,q1⟩=>?_) hs rfl))
 ·exact h
 ·cases r1 with
  | nil=>exact q1.elim
  | cons r rr =>
   cases rr with
   | cons _ _=>exact q1.elim
   | nil =>
   obtain⟨a,xs,rfl,hq,q⟩:=q1
   cases r
   obtain⟨its,rv,pl,hz⟩:=I1.tuple hq
   have hlen:=rv.length
   refine b1e pl (by have:=a5v;rw [size_toArray];omega) fun tk=>?_
   have I2:Inv X pins σ H1 { s1 with heap:=s1.heap.push (revT a ((its.toArray.size:Int) - 1)),toks:=tk }:=I1.kept fun b o e=>get?_push_of_some _ e
   have st:({ s1 with heap:=s1.heap.push (revT a ((its.toArray.size:Int) - 1)),toks:=tk }:Shared).heap.get? s1.heap.objs.size=some (revT a ((xs.length:Int) - 1 - ((0:Nat):Int))):=by
    have e:(its.toArray.size:Int) - 1=(xs.length:Int) - 1 - ((0:Nat):Int):=by rw [size_toArray];omega
    rw [← e];exact get?_push_size _ rfl
   refine b2t st ⟨s1.heap.objs.size,[s1.heap.objs.size],_,_,H1,rfl,I2,c9r a _ xs.length hz,st,fun b hb=>?_,q⟩
   have e:b=s1.heap.objs.size:=by simpa using hb
   subst e
   exact I1.fpOk (Nat.le_refl _) (I1.hok.fresh (Nat.le_refl _))
end
end L2
end
section
namespace L2
open PySem PySem.Spec PyProof.Rows
inductive Ents (w:World):List DictEntry->List (Str × V)->Prop where
 | nil:Ents w [] []
 | cons {x:Str} {t:Tok} {u:Value} {v:V} {es:List DictEntry} {kvs:List (Str × V)}:RelV v u->Ents w es kvs->Ents w (⟨PyData.keyHash w.params x,.str x t,u⟩ :: es) ((x,v) :: kvs)
def KDict(K:W.Frag)(w:World)(a:Addr)(kvs:List (Str × V)):Prop:=(kvs.map (·.1)).Nodup/\∃ (es:Array DictEntry) (ep:Nat),K.lookup a=some ⟨.type "dict",none,.dict es ep,#[]⟩/\Ents w es.toList kvs
section
variable{X:Cx}
end
end L2
end
section
namespace L2
open PySem PySem.Spec PyProof.Rows
inductive L where
 /-- data that nobody changes any more -/
 | d (x:PyData)
 /-- a list that this name alone has -/
 | own (xs:List PyData)
 /-- a list of a caller's, lent to be changed -/
 | bor (xs:List PyData)
 /-- the tape: the script and how many draws were made -/
 | tape (k:Nat)
 /-- the script -/
 | scr
abbrev Rho:=List (Option L)
abbrev Own:=Nat->Option Addr
structure Rc where
 H0:Hp
 S:Addr->Prop
 P:Addr->Prop
 M:Addr->Prop
 A:Addr->Prop
 B:Addr->Prop
 lent:Own
 sa:Addr
 ns:List Int
noncomputable def isIO:L->Bool
 | .bor _=>true
 | .tape _=>true
 | _=>false
noncomputable def live(c:Rc)(O:Own):Addr->Prop:=fun a=>c.S a/\¬ c.P a/\∀ i,O i ≠ some a
def b0l(c:Rc)(p:Addr):Prop:=¬ c.B p/\c.S p/\¬ c.P p
noncomputable def LAMS:List Str:=["read_row","Reading.read_thing","Reading.read_taken","Reading.read_hands","WorldReading.__init__","WorldReading.read_row","WorldReading.read_point","WorldReading.read_parts","read_rising_name","MachineReading.read_row","MachineReading.read_box","MachineReading.read_seer","MachineReading.read_reckoning","read_number","Ranking.best_option"]
abbrev a7r(q:Str):HO:=.frz { cls:=.none,data:=.fields #[] } (.tbl #[.str q 0])
noncomputable def lamOf(K:W.Frag)(p:Addr × Obj):Option (Addr × Addr × Str):=match p.2.data with
 | .func fd=>if LAMS.any (· == fd.qualname) then(match fd.code with
   | .ref c=>(match K.lookup c with
    | some ⟨.type "code",_,.fields vs,_⟩=>(match (vs[11]?:Option Value) with
     | some (.ref P)=>some (c,P,fd.qualname ++ ".<locals>.<lambda>")
     | _=>none)
    | _=>none)
   | _=>none) else none
 | _=>none
noncomputable def a9w(K:W.Frag):List (Addr × Addr × Str):=K.filterMap (lamOf K)
def TB(K:W.Frag)(H:Hp):Prop:=∀ p ∈ a9w K,H p.2.1=some (a7r p.2.2)
def Scr(K:W.Frag)(H:Hp)(a:Addr)(xs:List V):Prop:=TB K H/\xs.length <= 63 /\
 ((∃ o,H a=some (.frz o (.lst xs))) ∨ ∃ (o:Obj) (its:Array Value) (n:Nat),K.lookup a=some o/\o.cls=.type "list" /\ o.dict=none/\o.data=.seq its n/\its.size <= sizeLine/\Vals xs its.toList)
theorem Scr.seq{K:W.Frag}{H:Hp}{a:Addr}{xs:List V}(h:Scr K H a xs):SqL K H a xs:=by
 rcases h.2.2 with⟨o,h⟩ | h
 ·exact .inl (.inr ⟨o,h⟩)
 ·exact .inr h
structure Rel(K:W.Frag)(c:Rc)(O:Own)(ρ:Rho)(σ:St)(H:Hp):Prop where
 dat:∀ (i:Nat) (x:PyData),ρ[i]? = some (some (L.d x))->∃ v,σ[i]? = some (some v)/\AtD K H (live c O) x v
 own:∀ (i:Nat) (xs:List PyData),ρ[i]? = some (some (.own xs))->∃ p vs,O i=some p/\b0l c p/\σ[i]? = some (some (.ref p))/\H p=some (.lst vs)/\a0b K H (live c O) xs vs
 bor:∀ (i:Nat) (xs:List PyData),ρ[i]? = some (some (.bor xs))->∃ p vs,O i=some p/\σ[i]? = some (some (.ref p))/\H p=some (.lst vs)/\a0b K H (live c O) xs vs
 tap:∀ (i k:Nat),ρ[i]? = some (some (.tape k))->∃ p,O i=some p/\σ[i]? = some (some (.ref p))/\H p=some (.lst [.ref c.sa,.int k])
 scr:∀ i:Nat,ρ[i]? = some (some .scr)->σ[i]? = some (some (.ref c.sa))
 inj:∀ i j p,O i=some p->O j=some p->i=j
 has':∀ i p,O i=some p->c.A p/\∃ vs,H p=some (.lst vs)
 am:∀ p,c.A p->c.M p ∨ c.H0 p=none
 frs:∀ p,c.H0 p=none->c.S p
 same:∀ b o,¬ c.M b->c.H0 b=some o->H b=some o
 kept:∀ b,c.H0 b ≠ none->H b ≠ none
 ml:∀ p,c.M p->∃ vs,H p=some (.lst vs)
 pin:∀ p,c.P p ∨ c.B p->H p ≠ none
 lnt:∀ (i:Nat) (p:Addr),c.lent i=some p->∀ l:L,ρ[i]? = some (some l)->isIO l=true->O i=some p
 sc:Scr K H c.sa (c.ns.map V.int)
 len:σ.length=ρ.length
theorem Rel.has{K:W.Frag}{c:Rc}{O:Own}{ρ:Rho}{σ:St}{H:Hp}(R:Rel K c O ρ σ H)(i:Nat)(p:Addr)(h:O i=some p):(c.M p ∨ c.H0 p=none)/\∃ vs,H p=some (.lst vs):=⟨R.am p (R.has' i p h).1,(R.has' i p h).2⟩
def Pers(K:W.Frag)(S:Addr->Prop)(H:Hp)(S':Addr->Prop)(H':Hp):Prop:=∀ d v,AtD K H S d v->AtD K H' S' d v
section
variable{K:W.Frag}{S S' S2:Addr->Prop}{H H' H2:Hp}
theorem Pers.refl:Pers K S H S H:=fun _ _ h=>h
theorem Pers.trans(a:Pers K S H S' H')(b:Pers K S' H' S2 H2):Pers K S H S2 H2:=fun d v h=>b d v (a d v h)
theorem Pers.all(a:Pers K S H S' H'):∀ {ds:List PyData} {vs:List V},a0b K H S ds vs->a0b K H' S' ds vs
 | [],_,h=>by rw [h.unnil];exact .nil
 | d :: ds,vs,h=>by
  obtain⟨v,r,rfl,h1,h2⟩:=h.uncons
  exact .cons (a d v h1) (Pers.all a h2)
theorem Pers.of(e:Keep S H H')(m:∀ a,S a->S' a):Pers K S H S' H':=fun d v h=>AtD.more m d v (AtD.mono e d v h)
theorem Pers.same(e:Same H H'):Pers K S H S H':=.of e.keep fun _ h=>h
mutual
theorem AtD.less{p:Addr}(hp:H p=none)(hs:∀ a,S a->a ≠ p->S' a):∀ (d:PyData) (v:V),AtD K H S d v->AtD K H S' d v
 | .none,_,h=>by unfold AtD at h ⊢;exact h
 | .bool _,_,h=>by unfold AtD at h ⊢;exact h
 | .int _,_,h=>by unfold AtD at h ⊢;exact h
 | .str _,_,h=>by unfold AtD at h ⊢;exact h
 | .list ds,v,h=>by
  obtain⟨a,xs,e1,s,q,r⟩:=a3x h
  subst e1
  exact a4z (hs a s (a1s q hp)) q (a0b.less hp hs ds xs r)
 | .tuple ds,v,h=>by
  obtain⟨a,xs,e1,q,r⟩:=a2s h
  subst e1
  exact a1o q (a0b.less hp hs ds xs r)
 | .dict kvs,v,h=>by
  obtain⟨a,ν,e1,s,q,e2⟩:=a8e h
  subst e1
  exact b1l (hs a s (a1s q hp)) q (a0s.less hp hs kvs ν e2)
theorem a0b.less{p:Addr}(hp:H p=none)(hs:∀ a,S a->a ≠ p->S' a):∀ (ds:List PyData) (vs:List V),a0b K H S ds vs->a0b K H S' ds vs
 | [],_,h=>by rw [h.unnil];exact .nil
 | d :: ds,vs,h=>by
  obtain⟨v,r,rfl,h1,h2⟩:=h.uncons
  exact .cons (AtD.less hp hs d v h1) (a0b.less hp hs ds r h2)
theorem a0s.less{p:Addr}(hp:H p=none)(hs:∀ a,S a->a ≠ p->S' a):∀ (kvs:List (PyData × PyData)) (κ:List (Key × V)),a0s K H S kvs κ->a0s K H S' kvs κ
 | [],_,h=>by rw [h.unnil];exact .nil
 | (x,d) :: r,κ,h=>by
  obtain⟨k,v,t,rfl,rfl,h1,h2⟩:=h.uncons
  exact .cons (AtD.less hp hs d v h1) (a0s.less hp hs r t h2)
end
theorem Pers.new{p:Addr}(hp:H p=none)(hs:∀ a,S a->a ≠ p->S' a)(o:HO):Pers K S H S' (upd H p o):=fun d v h =>
 AtD.mono (a0o hp o).keep d v (AtD.less hp hs d v h)
end
section
variable{K:W.Frag}{c:Rc}{O:Own}{ρ:Rho}{σ:St}{H H':Hp}
theorem Scr.keep{a:Addr}{xs:List V}{S:Addr->Prop}(h:Scr K H a xs)(e:Keep S H H'):Scr K H' a xs:=by
 refine⟨fun p hp=>e.2.1 _ _ _ (h.1 p hp),h.2.1,?_⟩
 rcases h.2.2 with⟨o,h⟩ | h
 ·exact .inl ⟨o,e.2.1 _ _ _ h⟩
 ·exact .inr h
theorem Rel.to{c':Rc}{O':Own}(R:Rel K c O ρ σ H)(hO:∀ i,O' i=O i)(hB:∀ i p,O i=some p->b0l c p->b0l c' p)(hsa:c'.sa=c.sa)(hns:c'.ns=c.ns)
  (hp:Pers K (live c O) H (live c' O') H') (ho:∀ i p vs,O i=some p->H p=some (.lst vs)->H' p=some (.lst vs))
  (hA:∀ i p,O i=some p->c.A p->c'.A p) (am:∀ p,c'.A p->c'.M p ∨ c'.H0 p=none) (frs:∀ p,c'.H0 p=none->c'.S p) (same:∀ b o,¬ c'.M b->c'.H0 b=some o->H' b=some o) (kept:∀ b,c'.H0 b ≠ none->H' b ≠ none) (ml:∀ p,c'.M p->∃ vs,H' p=some (.lst vs))
  (pin:∀ p,c'.P p ∨ c'.B p->H' p ≠ none) (hl:∀ i,c'.lent i=c.lent i) (sc:Scr K H' c.sa (c.ns.map V.int)):Rel K c' O' ρ σ H' where
 dat i x e:=by obtain⟨v,h1,h2⟩:=R.dat i x e;exact⟨v,h1,hp _ _ h2⟩
 own i xs e:=by obtain⟨p,vs,h1,h2,h3,h4,h5⟩:=R.own i xs e;exact⟨p,vs,(hO i).trans h1,hB i p h1 h2,h3,ho i p vs h1 h4,hp.all h5⟩
 bor i xs e:=by obtain⟨p,vs,h1,h3,h4,h5⟩:=R.bor i xs e;exact⟨p,vs,(hO i).trans h1,h3,ho i p vs h1 h4,hp.all h5⟩
 tap i k e:=by obtain⟨p,h1,h2,h3⟩:=R.tap i k e;exact⟨p,(hO i).trans h1,h2,by rw [hsa];exact ho i p _ h1 h3⟩
 scr i e:=by rw [hsa];exact R.scr i e
 inj i j p e1 e2:=R.inj i j p ((hO i).symm.trans e1) ((hO j).symm.trans e2)
 has' i p e:=by
  have e':=(hO i).symm.trans e
  obtain⟨h0,vs,h⟩:=R.has' i p e'
  exact⟨hA i p e' h0,vs,ho i p vs e' h⟩
 am:=am
 frs:=frs
 same:=same
 kept:=kept
 ml:=ml
 pin:=pin
 lnt i p e l h1 h2:=(hO i).trans (R.lnt i p ((hl i).symm.trans e) l h1 h2)
 sc:=by rw [hsa,hns];exact sc
 len:=R.len
theorem c9s{i:Nat}{p:Addr}(h:O i=some p):¬ live c O p:=fun z=>z.2.2 i h
theorem Rel.grow(R:Rel K c O ρ σ H)(e:Same H H'):Rel K c O ρ σ H':=
 R.to (fun _=>rfl) (fun _ _ _ z=>z) rfl rfl (.same e) (fun i p vs _ q=>e _ _ q) (fun _ _ _ z=>z) R.am R.frs (fun b o n q=>e _ _ (R.same b o n q))
  (fun b n z=>R.kept b n (e.free z)) (fun p h=>let ⟨vs,q⟩:=R.ml p h;⟨vs,e _ _ q⟩) (fun p h z=>R.pin p h (e.free z)) (fun _=>rfl) (R.sc.keep (S:=Any) e.keep)
theorem Rel.free0(R:Rel K c O ρ σ H){p:Addr}(h:H p=none):c.H0 p=none:=by
 cases q:c.H0 p with
 | none=>rfl
 | some o=>exact absurd h (R.kept p (by rw [q];exact fun z=>nomatch z))
theorem Rel.liveNew(R:Rel K c O ρ σ H){p:Addr}(h:H p=none):live c O p:=
 ⟨R.frs p (R.free0 h),fun z=>R.pin p (.inl z) h,fun i e=>by obtain⟨_,vs,q⟩:=R.has i p e;rw [h] at q;cases q⟩
theorem Rel.frsLive(R:Rel K c O ρ σ H):Frs (live c O) H:=fun _ h=>R.liveNew h
theorem Rel.write{i:Nat}{p:Addr}{xs:List PyData}{vs vs':List V}{l:L}(R:Rel K c O ρ σ H)(hO:O i=some p)(hH:H p=some (.lst vs))
  (hl:ρ[i]? = some (some (.own xs)) ∨ ρ[i]? = some (some (.bor xs)) ∨ ∃ k:Nat,ρ[i]? = some (some (.tape k)))
  (hl':(∃ ys,ρ[i]? = some (some (.own xs))/\l=.own ys/\a0b K H (live c O) ys vs') ∨ (∃ ys,ρ[i]? = some (some (.bor xs))/\l=.bor ys/\a0b K H (live c O) ys vs') ∨ (∃ k k':Nat,ρ[i]? = some (some (.tape k))/\l=.tape k'/\vs'=[.ref c.sa,.int k'])) :
  Rel K c O (ρ.set i (some l)) σ (upd H p (.lst vs'))/\Pers K (live c O) H (live c O) (upd H p (.lst vs')):=by
 have hi:i < ρ.length:=by
  rcases hl with h | h | ⟨k,h⟩<;>exact(List.getElem?_eq_some_iff.mp h).1
 have kp:Keep (live c O) H (upd H p (.lst vs')):=(c6x hH).less fun b hb e=>by
  subst e;exact c9s hO hb
 have P:Pers K (live c O) H (live c O) (upd H p (.lst vs')):=.of kp fun _ h=>h
 have at_i:(ρ.set i (some l))[i]? = some (some l):=by rw [getElem?_set_self hi]
 have at_j:∀ j,j ≠ i->(ρ.set i (some l))[j]? = ρ[j]?:=fun j hj=>getElem?_set_ne (Ne.symm hj)
 have other:∀ j q,j ≠ i->O j=some q->q ≠ p:=fun j q hj e z=>hj (R.inj j i p (by rw [← z];exact e) hO)
 have hσ:σ[i]? = some (some (.ref p)):=by
  rcases hl with h | h | ⟨k,h⟩
  ·obtain⟨p',_,h1,_,h3,_⟩:=R.own i xs h;rw [hO] at h1;cases h1;exact h3
  ·obtain⟨p',_,h1,h3,_⟩:=R.bor i xs h;rw [hO] at h1;cases h1;exact h3
  ·obtain⟨p',h1,h3,_⟩:=R.tap i k h;rw [hO] at h1;cases h1;exact h3
 refine⟨⟨fun j x e=>?_,fun j ys e=>?_,fun j ys e=>?_,fun j k e=>?_,fun j e=>?_,R.inj,fun j q e=>?_,R.am,R.frs,fun b o n q=>?_,fun b n z=>?_,fun q h=>?_,fun q h z=>?_,fun j q e l2 h1 h2=>?_,?_,?_⟩,P⟩
 ·by_cases hj:j=i
  ·subst hj;rw [at_i] at e
   rcases hl' with⟨ys,_,rfl,_⟩ | ⟨ys,_,rfl,_⟩ | ⟨k,k',_,rfl,_⟩<;>cases e
  ·rw [at_j j hj] at e
   obtain⟨v,h1,h2⟩:=R.dat j x e
   exact⟨v,h1,P _ _ h2⟩
 ·by_cases hj:j=i
  ·subst hj;rw [at_i] at e
   rcases hl' with⟨zs,h0,rfl,h⟩ | ⟨zs,_,rfl,_⟩ | ⟨k,k',_,rfl,_⟩<;>cases e
   obtain⟨p',_,h1,h2,h3,_⟩:=R.own j xs h0
   rw [hO] at h1;cases h1
   exact⟨p,vs',hO,h2,h3,a0j,P.all h⟩
  ·rw [at_j j hj] at e
   obtain⟨q,ws,h1,h2,h3,h4,h5⟩:=R.own j ys e
   exact⟨q,ws,h1,h2,h3,by rw [a0f (other j q hj h1)];exact h4,P.all h5⟩
 ·by_cases hj:j=i
  ·subst hj;rw [at_i] at e
   rcases hl' with⟨zs,_,rfl,_⟩ | ⟨zs,h0,rfl,h⟩ | ⟨k,k',_,rfl,_⟩<;>cases e
   exact⟨p,vs',hO,hσ,a0j,P.all h⟩
  ·rw [at_j j hj] at e
   obtain⟨q,ws,h1,h3,h4,h5⟩:=R.bor j ys e
   exact⟨q,ws,h1,h3,by rw [a0f (other j q hj h1)];exact h4,P.all h5⟩
 ·by_cases hj:j=i
  ·subst hj;rw [at_i] at e
   rcases hl' with⟨zs,_,rfl,_⟩ | ⟨zs,_,rfl,_⟩ | ⟨k1,k',_,rfl,h⟩<;>cases e
   exact⟨p,hO,hσ,by rw [a0j,h]⟩
  ·rw [at_j j hj] at e
   obtain⟨q,h1,h3,h4⟩:=R.tap j k e
   exact⟨q,h1,h3,by rw [a0f (other j q hj h1)];exact h4⟩
 ·by_cases hj:j=i
  ·subst hj;rw [at_i] at e
   rcases hl' with⟨ys,_,rfl,_⟩ | ⟨ys,_,rfl,_⟩ | ⟨k,k',_,rfl,_⟩<;>cases e
  ·rw [at_j j hj] at e
   exact R.scr j e
 ·obtain⟨h1,ws,h2⟩:=R.has' j q e
  refine⟨h1,?_⟩
  by_cases hq:q=p
  ·subst hq;exact⟨vs',a0j⟩
  ·exact⟨ws,by rw [a0f hq];exact h2⟩
 ·have hb:b ≠ p:=by
   rintro rfl
   rcases (R.has i b hO).1 with z | z
   ·exact n z
   ·rw [z] at q;cases q
  rw [a0f hb];exact R.same b o n q
 ·by_cases hb:b=p
  ·subst hb;rw [a0j] at z;cases z
  ·rw [a0f hb] at z;exact R.kept b n z
 ·obtain⟨ws,h2⟩:=R.ml q h
  by_cases hq:q=p
  ·subst hq;exact⟨vs',a0j⟩
  ·exact⟨ws,by rw [a0f hq];exact h2⟩
 ·by_cases hb:q=p
  ·subst hb;rw [a0j] at z;cases z
  ·rw [a0f hb] at z;exact R.pin q h z
 ·by_cases hj:j=i
  ·subst hj;rw [at_i] at h1;cases h1
   rcases hl' with⟨zs,_,rfl,_⟩ | ⟨zs,h0,rfl,_⟩ | ⟨k1,k',h0,rfl,_⟩
   ·cases h2
   ·exact R.lnt j q e _ h0 rfl
   ·exact R.lnt j q e _ h0 rfl
  ·rw [at_j j hj] at h1;exact R.lnt j q e _ h1 h2
 ·exact R.sc.keep kp
 ·rw [length_set];exact R.len
noncomputable def a5x(O:Own)(i:Nat):Own:=fun j=>if j=i then none else O j
theorem b4i{i:Nat}{a:Addr}(h:live c O a):live c (a5x O i) a:=⟨h.1,h.2.1,fun j e=>by
 unfold a5x at e
 by_cases hj:j=i
 ·rw [if_pos hj] at e;cases e
 ·rw [if_neg hj] at e;exact h.2.2 j e⟩
theorem a3q{i j:Nat}(h:j ≠ i):a5x O i j=O j:=if_neg h
theorem c3x{i:Nat}:a5x O i i=none:=if_pos rfl
theorem a3r{i j:Nat}{p:Addr}(e:a5x O i j=some p):j ≠ i/\O j=some p:=by
 by_cases hj:j=i
 ·subst hj;rw [c3x] at e;cases e
 ·rw [a3q hj] at e;exact⟨hj,e⟩
theorem Rel.freeze{i:Nat}{xs:List PyData}(R:Rel K c O ρ σ H)(hl:ρ[i]? = some (some (.own xs))) :
  Rel K c (a5x O i) (ρ.set i (some (.d (.list xs)))) σ H/\Pers K (live c O) H (live c (a5x O i)) H:=by
 obtain⟨p,vs,hO,hB,hσ,hH,hA⟩:=R.own i xs hl
 have hi:i < ρ.length:=(List.getElem?_eq_some_iff.mp hl).1
 have P:Pers K (live c O) H (live c (a5x O i)) H:=.of (Keep.refl _ _) fun _ h=>b4i h
 have at_i:(ρ.set i (some (.d (.list xs))))[i]? = some (some (.d (.list xs))):=by rw [getElem?_set_self hi]
 have at_j:∀ j,j ≠ i->(ρ.set i (some (.d (.list xs))))[j]? = ρ[j]?:=fun j hj=>getElem?_set_ne (Ne.symm hj)
 have ne:∀ {j:Nat} {l:L},(ρ.set i (some (.d (.list xs))))[j]? = some (some l)->(∀ x,l ≠ .d x)->j ≠ i/\ρ[j]? = some (some l):=fun{j l} e n=>by
  by_cases hj:j=i
  ·subst hj;rw [at_i] at e;cases e;exact absurd rfl (n _)
  ·rw [at_j j hj] at e;exact⟨hj,e⟩
 refine⟨⟨fun j x e=>?_,fun j ys e=>?_,fun j ys e=>?_,fun j k e=>?_,fun j e=>?_,fun a b q e1 e2=>R.inj a b q (a3r e1).2 (a3r e2).2,fun j q e=>R.has' j q (a3r e).2,R.am,R.frs,R.same,R.kept,R.ml,R.pin,fun j q e l h1 h2=>?_,R.sc,?_⟩,P⟩
 ·by_cases hj:j=i
  ·subst hj;rw [at_i] at e;cases e
   refine⟨.ref p,hσ,a4z ⟨hB.2.1,hB.2.2,fun k e=>?_⟩ hH (P.all hA)⟩
   obtain⟨h1,h2⟩:=a3r e
   exact h1 (R.inj k j p h2 hO)
  ·rw [at_j j hj] at e
   obtain⟨v,h1,h2⟩:=R.dat j x e
   exact⟨v,h1,P _ _ h2⟩
 ·obtain⟨hj,e⟩:=ne e fun _ z=>nomatch z
  obtain⟨q,ws,h1,h2,h3,h4,h5⟩:=R.own j ys e
  exact⟨q,ws,(a3q hj).trans h1,h2,h3,h4,P.all h5⟩
 ·obtain⟨hj,e⟩:=ne e fun _ z=>nomatch z
  obtain⟨q,ws,h1,h3,h4,h5⟩:=R.bor j ys e
  exact⟨q,ws,(a3q hj).trans h1,h3,h4,P.all h5⟩
 ·obtain⟨hj,e⟩:=ne e fun _ z=>nomatch z
  obtain⟨q,h1,h3,h4⟩:=R.tap j k e
  exact⟨q,(a3q hj).trans h1,h3,h4⟩
 ·obtain⟨hj,e⟩:=ne e fun _ z=>nomatch z
  exact R.scr j e
 ·obtain⟨hj,e'⟩:=ne h1 fun x z=>by subst z;cases h2
  rw [a3q hj];exact R.lnt j q e _ e' h2
 ·rw [length_set];exact R.len
theorem Rel.setD{i:Nat}{x:PyData}{v:V}(R:Rel K c O ρ σ H)(hi:i < ρ.length)(h:AtD K H (live c O) x v) :
  Rel K c (a5x O i) (ρ.set i (some (.d x))) (σ.set i (some v)) H/\Pers K (live c O) H (live c (a5x O i)) H:=by
 have P:Pers K (live c O) H (live c (a5x O i)) H:=.of (Keep.refl _ _) fun _ h=>b4i h
 have at_i:∀ l:Option L,(ρ.set i l)[i]? = some l:=fun l=>by rw [getElem?_set_self hi]
 have at_j:∀ (l:Option L) j,j ≠ i->(ρ.set i l)[j]? = ρ[j]?:=fun l j hj=>getElem?_set_ne (Ne.symm hj)
 have st_j:∀ j,j ≠ i->(σ.set i (some v))[j]? = σ[j]?:=fun j hj=>getElem?_set_ne (Ne.symm hj)
 have ne:∀ {j:Nat} {l:L},(ρ.set i (some (.d x)))[j]? = some (some l)->(∀ x,l ≠ .d x)->j ≠ i/\ρ[j]? = some (some l):=fun{j l} e n=>by
  by_cases hj:j=i
  ·subst hj;rw [at_i] at e;cases e;exact absurd rfl (n _)
  ·rw [at_j _ j hj] at e;exact⟨hj,e⟩
 refine⟨⟨fun j y e=>?_,fun j ys e=>?_,fun j ys e=>?_,fun j k e=>?_,fun j e=>?_,fun a b q e1 e2=>R.inj a b q (a3r e1).2 (a3r e2).2,fun j q e=>R.has' j q (a3r e).2,R.am,R.frs,R.same,R.kept,R.ml,R.pin,fun j q e l h1 h2=>?_,R.sc,?_⟩,P⟩
 ·by_cases hj:j=i
  ·subst hj;rw [at_i] at e;cases e
   exact⟨v,by rw [getElem?_set_self (by rw [R.len];exact hi)],P _ _ h⟩
  ·rw [at_j _ j hj] at e
   obtain⟨v,h1,h2⟩:=R.dat j y e
   exact⟨v,by rw [st_j j hj];exact h1,P _ _ h2⟩
 ·obtain⟨hj,e⟩:=ne e fun _ z=>nomatch z
  obtain⟨q,ws,h1,h2,h3,h4,h5⟩:=R.own j ys e
  exact⟨q,ws,(a3q hj).trans h1,h2,by rw [st_j j hj];exact h3,h4,P.all h5⟩
 ·obtain⟨hj,e⟩:=ne e fun _ z=>nomatch z
  obtain⟨q,ws,h1,h3,h4,h5⟩:=R.bor j ys e
  exact⟨q,ws,(a3q hj).trans h1,by rw [st_j j hj];exact h3,h4,P.all h5⟩
 ·obtain⟨hj,e⟩:=ne e fun _ z=>nomatch z
  obtain⟨q,h1,h3,h4⟩:=R.tap j k e
  exact⟨q,(a3q hj).trans h1,by rw [st_j j hj];exact h3,h4⟩
 ·obtain⟨hj,e⟩:=ne e fun _ z=>nomatch z
  rw [st_j j hj];exact R.scr j e
 ·obtain⟨hj,e'⟩:=ne h1 fun x z=>by subst z;cases h2
  rw [a3q hj];exact R.lnt j q e _ e' h2
 ·rw [length_set,length_set];exact R.len
noncomputable def Rc.add(c:Rc)(p:Addr):Rc:={ c with P:=fun a=>c.P a ∨ a=p }
theorem b0m{p a:Addr}(h:live c O a)(n:a ≠ p):live (c.add p) O a:=⟨h.1,fun z=>z.elim h.2.1 n,h.2.2⟩
theorem a5a{p a:Addr}(h:live (c.add p) O a):live c O a/\a ≠ p:=⟨⟨h.1,fun z=>h.2.1 (.inl z),h.2.2⟩,fun z=>h.2.1 (.inr z)⟩
theorem Rel.lay{p:Addr}{o:HO}(R:Rel K c O ρ σ H)(hp:H p=none):Rel K (c.add p) O ρ σ (upd H p o)/\Pers K (live c O) H (live (c.add p) O) (upd H p o):=by
 have P:Pers K (live c O) H (live (c.add p) O) (upd H p o):=.new hp (fun a h n=>b0m h n) o
 have S:=a0o hp o
 refine⟨R.to (fun _=>rfl) (fun i q hq z=>⟨z.1,z.2.1,fun w=>w.elim z.2.2 fun e=>?_⟩) rfl rfl P (fun i q vs _ h=>S _ _ h) (fun _ _ _ z=>z) R.am R.frs (fun b ob n q=>S _ _ (R.same b ob n q))
  (fun b n z=>R.kept b n (S.free z)) (fun p h=>let ⟨vs,q⟩:=R.ml p h;⟨vs,S _ _ q⟩) (fun q h z=>?_) (fun _=>rfl) (R.sc.keep (S:=Any) S.keep),P⟩
 ·obtain⟨_,vs,h⟩:=R.has i q hq
  rw [e,hp] at h;cases h
 ·rcases h with(h | rfl) | h
  ·exact R.pin q (.inl h) (S.free z)
  ·rw [a0j] at z;cases z
  ·exact R.pin q (.inr h) (S.free z)
theorem Rel.unadd{p:Addr}(R:Rel K (c.add p) O ρ σ H):Rel K c O ρ σ H/\Pers K (live (c.add p) O) H (live c O) H:=by
 have P:Pers K (live (c.add p) O) H (live c O) H:=.of (Keep.refl _ _) fun a h=>(a5a h).1
 exact⟨R.to (fun _=>rfl) (fun i q _ z=>⟨z.1,z.2.1,fun w=>z.2.2 (.inl w)⟩) rfl rfl P (fun _ _ _ _ h=>h) (fun _ _ _ z=>z) R.am R.frs R.same R.kept R.ml (fun q h=>R.pin q (h.elim (fun z=>.inl (.inl z)) .inr)) (fun _=>rfl) R.sc,P⟩
noncomputable def owned(O:Own)(i:Nat)(p:Addr):Own:=fun j=>if j=i then some p else O j
theorem a6n{i j:Nat}{p:Addr}(h:j ≠ i):owned O i p j=O j:=if_neg h
theorem b0n{i:Nat}{p:Addr}:owned O i p i=some p:=if_pos rfl
theorem Rel.setOwn{i:Nat}{p:Addr}{xs:List PyData}{vs:List V}(R:Rel K (c.add p) O ρ σ H)(hi:i < ρ.length)(h0:c.H0 p=none)(hB:¬ c.B p)(hP:¬ c.P p)(hn:∀ j,O j ≠ some p)(hAp:c.A p)(hH:H p=some (.lst vs))(hA:a0b K H (live (c.add p) O) xs vs) :
  Rel K c (owned O i p) (ρ.set i (some (.own xs))) (σ.set i (some (.ref p))) H/\Pers K (live (c.add p) O) H (live c (owned O i p)) H:=by
 have P:Pers K (live (c.add p) O) H (live c (owned O i p)) H:=.of (Keep.refl _ _) fun a h=>by
  obtain⟨h1,h2⟩:=a5a h
  refine⟨h1.1,h1.2.1,fun j e=>?_⟩
  by_cases hj:j=i
  ·subst hj;rw [b0n] at e;cases e;exact h2 rfl
  ·rw [a6n hj] at e;exact h1.2.2 j e
 have at_i:(ρ.set i (some (.own xs)))[i]? = some (some (.own xs)):=by rw [getElem?_set_self hi]
 have at_j:∀ j,j ≠ i->(ρ.set i (some (.own xs)))[j]? = ρ[j]?:=fun j hj=>getElem?_set_ne (Ne.symm hj)
 have st_j:∀ j,j ≠ i->(σ.set i (some (.ref p)))[j]? = σ[j]?:=fun j hj=>getElem?_set_ne (Ne.symm hj)
 have ne:∀ {j:Nat} {l:L},(ρ.set i (some (.own xs)))[j]? = some (some l)->(∀ x,l ≠ .own x)->j ≠ i/\ρ[j]? = some (some l):=fun{j l} e n=>by
  by_cases hj:j=i
  ·subst hj;rw [at_i] at e;cases e;exact absurd rfl (n _)
  ·rw [at_j j hj] at e;exact⟨hj,e⟩
 have ow:∀ {j:Nat} {q:Addr},owned O i p j=some q->(j=i/\q=p) ∨ (j ≠ i/\O j=some q):=fun{j q} e=>by
  by_cases hj:j=i
  ·subst hj;rw [b0n] at e;cases e;exact .inl ⟨rfl,rfl⟩
  ·rw [a6n hj] at e;exact .inr ⟨hj,e⟩
 refine⟨⟨fun j y e=>?_,fun j ys e=>?_,fun j ys e=>?_,fun j k e=>?_,fun j e=>?_,fun a b q e1 e2=>?_,fun j q e=>?_,R.am,R.frs,R.same,R.kept,R.ml,fun q h=>R.pin q (h.elim (fun z=>.inl (.inl z)) .inr),fun j q e l h1 h2=>?_,R.sc,?_⟩,P⟩
 ·obtain⟨hj,e⟩:=ne e fun _ z=>nomatch z
  obtain⟨v,h1,h2⟩:=R.dat j y e
  exact⟨v,by rw [st_j j hj];exact h1,P _ _ h2⟩
 ·by_cases hj:j=i
  ·subst hj;rw [at_i] at e;cases e
   exact⟨p,vs,b0n,⟨hB,R.frs p h0,hP⟩,by rw [getElem?_set_self (by rw [R.len];exact hi)],hH,P.all hA⟩
  ·rw [at_j j hj] at e
   obtain⟨q,ws,h1,h2,h3,h4,h5⟩:=R.own j ys e
   exact⟨q,ws,(a6n hj).trans h1,⟨h2.1,h2.2.1,fun z=>h2.2.2 (.inl z)⟩,by rw [st_j j hj];exact h3,h4,P.all h5⟩
 ·obtain⟨hj,e⟩:=ne e fun _ z=>nomatch z
  obtain⟨q,ws,h1,h3,h4,h5⟩:=R.bor j ys e
  exact⟨q,ws,(a6n hj).trans h1,by rw [st_j j hj];exact h3,h4,P.all h5⟩
 ·obtain⟨hj,e⟩:=ne e fun _ z=>nomatch z
  obtain⟨q,h1,h3,h4⟩:=R.tap j k e
  exact⟨q,(a6n hj).trans h1,by rw [st_j j hj];exact h3,h4⟩
 ·obtain⟨hj,e⟩:=ne e fun _ z=>nomatch z
  rw [st_j j hj];exact R.scr j e
 ·rcases ow e1 with⟨h1,h2⟩ | ⟨h1,h2⟩<;>rcases ow e2 with⟨h3,h4⟩ | ⟨h3,h4⟩
  ·rw [h1,h3]
  ·rw [h2] at h4;exact absurd h4 (hn b)
  ·rw [h4] at h2;exact absurd h2 (hn a)
  ·exact R.inj a b q h2 h4
 ·rcases ow e with⟨h1,h2⟩ | ⟨h1,h2⟩
  ·subst h2;exact⟨hAp,vs,hH⟩
  ·exact R.has' j q h2
 ·obtain⟨hj,e'⟩:=ne h1 fun x z=>by subst z;cases h2
  rw [a6n hj];exact R.lnt j q e _ e' h2
 ·rw [length_set,length_set];exact R.len
end
end L2
end
section
namespace L2
open PySem PySem.Spec PyProof.Rows
inductive DV where
 | d (x:PyData)
 | sl (i:Nat)
noncomputable def AtV(K:W.Frag)(S:Addr->Prop)(σ:St)(H:Hp):DV->V->Prop
 | .d x,v=>AtD K H S x v
 | .sl i,v=>σ[i]? = some (some v)
noncomputable def a9x:L->Option PyData
 | .d x=>some x
 | .own xs=>some (.list xs)
 | .bor xs=>some (.list xs)
 | _=>none
noncomputable def a0n(ρ:Rho):DV->Option PyData
 | .d x=>some x
 | .sl i=>(ρ[i]?.join).bind a9x
def AtT(K:W.Frag)(H:Hp)(S:Addr->Prop)(x:PyData)(v:V):Prop:=AtD K H S x v ∨ ∃ ds a vs,x=.list ds/\v=.ref a/\H a=some (.lst vs)/\a0b K H S ds vs
def need{α:Type}(o:Option α)(k:α->Prop):Prop:=match o with
 | some a=>k a
 | none=>False
theorem a0m{α:Type}{a:α}{k:α->Prop}:need (some a) k=k a:=rfl
theorem c7a{α:Type}{k:α->Prop}:need (none:Option α) k=False:=rfl
theorem ne{α:Type}{o:Option α}{k:α->Prop}(h:need o k):∃ a,o=some a/\k a:=by
 cases o with
 | none=>exact h.elim
 | some a=>exact⟨a,rfl,h⟩
theorem d4u{α:Type}{o:Option α}{k:α->Prop}{a:α}(e:o=some a)(h:k a):need o k:=by rw [e];exact h
theorem itT{a b:Prop}:(if true=true then a else b)=a:=rfl
theorem itF{a b:Prop}:(if false=true then a else b)=b:=rfl
theorem mapC{α β:Type}{f:α->β}{a:α}{l:List α}:(a :: l).map f=f a :: l.map f:=rfl
theorem mapN{α β:Type}{f:α->β}:([]:List α).map f=[]:=rfl
abbrev TDE:=Rho->(DV->Rho->Prop)->Prop
abbrev TDF:=Rho->(List PyData->Rho->Prop)->Prop
abbrev TDT:=Rho->(Bool->Rho->Prop)->Prop
abbrev TDA:=Rho->(List DV->Rho->Prop)->Prop
def b2b(c:Rc)(O:Own)(p:Addr):Prop:=c.H0 p=none/\¬ c.B p/\¬ c.P p/\∀ j,O j ≠ some p
def AdE(K:W.Frag)(t:TE)(dt:TDE):Prop:=∀ (c:Rc) (O:Own) (ρ:Rho) (σ:St) (H:Hp) (Qd:DV->Rho->Prop) (Q:VK),Rel K c O ρ σ H->dt ρ Qd ->
 (∀ x ρ' O' v H',Qd x ρ'->Rel K c O' ρ' σ H'->Pers K (live c O) H (live c O') H'->AtV K (live c O') σ H' x v->Q v H')->t σ H Q
def AdF(K:W.Frag)(t:TE)(dt:TDF):Prop:=∀ (c:Rc) (O:Own) (ρ:Rho) (σ:St) (H:Hp) (Qd:List PyData->Rho->Prop) (Q:VK),Rel K c O ρ σ H->dt ρ Qd ->
 (∀ xs ρ' O' p vs H',Qd xs ρ'->Rel K (c.add p) O' ρ' σ H'->Pers K (live c O) H (live (c.add p) O') H'->b2b c O' p->H' p=some (.lst vs)->a0b K H' (live (c.add p) O') xs vs->Q (.ref p) H')->t σ H Q
def AdT(K:W.Frag)(t:TT)(dt:TDT):Prop:=∀ (c:Rc) (O:Own) (ρ:Rho) (σ:St) (H:Hp) (Qd:Bool->Rho->Prop) (Q:Bool->Hp->Prop),Rel K c O ρ σ H->dt ρ Qd ->
 (∀ b ρ' O' H',Qd b ρ'->Rel K c O' ρ' σ H'->Pers K (live c O) H (live c O') H'->Q b H')->t σ H Q
noncomputable def AtVs(K:W.Frag)(S:Addr->Prop)(σ:St)(H:Hp):List DV->List V->Prop:=Paired (AtV K S σ H)
def AdA(K:W.Frag)(t:TA)(dt:TDA):Prop:=∀ (c:Rc) (O:Own) (ρ:Rho) (σ:St) (H:Hp) (Qd:List DV->Rho->Prop) (Q:List V->Hp->Prop),Rel K c O ρ σ H->dt ρ Qd ->
 (∀ xs ρ' O' vs H',Qd xs ρ'->Rel K c O' ρ' σ H'->Pers K (live c O) H (live c O') H'->AtVs K (live c O') σ H' xs vs->Q vs H')->t σ H Q
def DE(X:Cx)(e:Expr)(dt:TDE):Prop:=∃ t,PE X e t/\AdE X.K t dt
def DF(X:Cx)(e:Expr)(dt:TDF):Prop:=∃ t,PE X e t/\AdF X.K t dt
def DT(X:Cx)(e:Expr)(dt:TDT):Prop:=∃ t,PT X e t/\AdT X.K t dt
def DW(X:Cx)(e:Expr)(dt:TDT):Prop:=∃ t,PW X e t/\AdT X.K t dt
def DA(X:Cx)(es:List Expr)(dt:TDA):Prop:=∃ t,PA X es t/\AdA X.K t dt
section
variable{K:W.Frag}{c:Rc}{O:Own}{ρ:Rho}{σ:St}{H H':Hp}{S S':Addr->Prop}
theorem AtV.pers{x:DV}{v:V}(h:AtV K S σ H x v)(P:Pers K S H S' H'):AtV K S' σ H' x v:=by
 cases x with
 | d x=>exact P _ _ h
 | sl i=>exact h
theorem AtVs.pers{xs:List DV}{vs:List V}(h:AtVs K S σ H xs vs)(P:Pers K S H S' H'):AtVs K S' σ H' xs vs:=Paired.imp' (fun _ _ q=>q.pers P) h
theorem Rel.top(R:Rel K c O ρ σ H){x:DV}{v:V}{d:PyData}(h:AtV K (live c O) σ H x v)(e:a0n ρ x=some d):AtT K H (live c O) d v:=by
 cases x with
 | d x=>cases e;exact .inl h
 | sl i =>
  have h':σ[i]? = some (some v):=h
  have e':(ρ[i]?.join).bind a9x=some d:=e
  cases q:ρ[i]? with
  | none=>rw [q] at e';cases e'
  | some ol =>
   cases ol with
   | none=>rw [q] at e';cases e'
   | some l =>
    rw [q] at e'
    cases l with
    | d x =>
     cases e'
     obtain⟨w,h1,h2⟩:=R.dat i _ q
     rw [h'] at h1;cases h1
     exact .inl h2
    | own xs =>
     cases e'
     obtain⟨p,vs,_,_,h1,h2,h3⟩:=R.own i _ q
     rw [h'] at h1;cases h1
     exact .inr ⟨xs,p,vs,rfl,rfl,h2,h3⟩
    | bor xs =>
     cases e'
     obtain⟨p,vs,_,h1,h2,h3⟩:=R.bor i _ q
     rw [h'] at h1;cases h1
     exact .inr ⟨xs,p,vs,rfl,rfl,h2,h3⟩
    | tape k=>cases e'
    | scr=>cases e'
theorem AtT.list{ds:List PyData}{v:V}(h:AtT K H S (.list ds) v):∃ a vs,v=.ref a/\H a=some (.lst vs)/\a0b K H S ds vs:=by
 rcases h with h | ⟨ds',a,vs,e,e2,h1,h2⟩
 ·obtain⟨a,vs,e,_,h1,h2⟩:=a3x h
  exact⟨a,vs,e,h1,h2⟩
 ·cases e;exact⟨a,vs,e2,h1,h2⟩
theorem AtT.at{x:PyData}{v:V}(h:AtT K H S x v)(n:∀ ds,x ≠ .list ds):AtD K H S x v:=by
 rcases h with h | ⟨ds',a,vs,e,_⟩
 ·exact h
 ·exact absurd e (n ds')
theorem AtT.any{x:PyData}{v:V}(h:AtT K H S x v):AtD K H Any x v:=by
 rcases h with h | ⟨ds',a,vs,e,e2,h1,h2⟩
 ·exact AtD.more (fun _ _=>trivial) _ _ h
 ·subst e e2;exact a4z trivial h1 (a0b.more (fun _ _=>trivial) _ _ h2)
def dVar(i:Nat):TDE:=fun ρ Q=>(ρ[i]?.join).isSome=true/\Q (.sl i) ρ
theorem d9u{i:Nat}:AdE K (tVar i) (dVar i):=by
 intro c O ρ σ H Qd Q R h k
 obtain⟨h0,h⟩:=h
 have ex:∃ v,σ[i]? = some (some v):=by
  cases q:ρ[i]? with
  | none=>rw [q] at h0;cases h0
  | some ol =>
   cases ol with
   | none=>rw [q] at h0;cases h0
   | some l =>
    cases l with
    | d x=>obtain⟨w,h1,_⟩:=R.dat i _ q;exact⟨w,h1⟩
    | own xs=>obtain⟨p,vs,_,_,h1,_⟩:=R.own i _ q;exact⟨_,h1⟩
    | bor xs=>obtain⟨p,vs,_,h1,_⟩:=R.bor i _ q;exact⟨_,h1⟩
    | tape k=>obtain⟨p,_,h1,_⟩:=R.tap i _ q;exact⟨_,h1⟩
    | scr=>exact⟨_,R.scr i q⟩
 obtain⟨v,hv⟩:=ex
 exact⟨v,hv,k _ _ _ _ _ h R .refl hv⟩
def dC(x:PyData):TDE:=fun ρ Q=>Q (.d x) ρ
theorem ad_c{x:PyData}{v:V}(hx:∀ (S:Addr->Prop) H,AtD K H S x v):AdE K (tC v) (dC x):=fun c O ρ σ H Qd Q R h k=>k _ _ _ _ _ h R .refl (hx _ _)
end
section
variable{X:Cx}{a b e:Expr}{es:List Expr}{da db:TDE}{pos:Pos}
theorem dv(i:Nat){x:Str}(hN:X.N[i]? = some x:=by rfl)(hv:Vis X.env.scope x:=by first | exact Or.inl rfl | exact Or.inr (Or.inl rfl) | exact Or.inr (Or.inr rfl)) (hd:(x == ("__debug__" : Str))=false:=by decide)
  (hcd:(x == ("__classdict__" : Str))=false:=by decide):DE X (.Name x pos) (dVar i):=⟨_,b3w hN hv hd hcd,d9u⟩
theorem a0h{i j}:DE X (.Constant (.int i) j pos) (dC (.int i)):=⟨_,a1g,ad_c fun _ _=>a3o i⟩
theorem a0d{i j}:DE X (.Constant (.str i) j pos) (dC (.str i)):=⟨_,a4k,ad_c fun _ _=>a1p i⟩
theorem a4g{i j}:DE X (.Constant (.bool i) j pos) (dC (.bool i)):=⟨_,pe_bl,ad_c fun _ _=>a3k i⟩
theorem b2c{x:Str}{i:Int}(hg:Gl X x)(hm:∃ t,X.mg x=some (.int i t)) (hd:(x == ("__debug__" : Str))=false:=by decide):DE X (.Name x pos) (dC (.int i)):=by
 obtain⟨t,hm⟩:=hm
 exact⟨_,b1w hg hm (v:=.int i) ⟨t,rfl⟩ hd,ad_c fun _ _=>a3o i⟩
abbrev F2:=PyData->PyData->Option PyData
def AdR(K:W.Frag)(r:R2)(f:F2):Prop:=∀ (S:Addr->Prop) (H:Hp) (x y:V) (dx dy z:PyData) (Q:VK),Frs S H->AtT K H S dx x->AtT K H S dy y->f dx dy=some z ->
 (∀ v H',Same H H'->AtD K H' S z v->Q v H')->r x y H Q
def dOp(f:F2)(da db:TDE):TDE:=fun ρ Q=>da ρ fun x ρ1=>db ρ1 fun y ρ2=>need (a0n ρ2 x) fun dx=>need (a0n ρ2 y) fun dy=>need (f dx dy) fun z=>Q (.d z) ρ2
theorem b7u{K:W.Frag}{r:R2}{f:F2}{ta tb:TE}(hr:AdR K r f)(ha:AdE K ta da)(hb:AdE K tb db):AdE K (tOp r ta tb) (dOp f da db):=by
 intro c O ρ σ H Qd Q R h k
 refine ha c O ρ σ H _ _ R h fun x ρ1 O1 v H1 h1 R1 P1 a1=>?_
 refine hb c O1 ρ1 σ H1 _ _ R1 h1 fun y ρ2 O2 u H2 h2 R2 P2 a2=>?_
 obtain⟨dx,e1,hn1⟩:=ne (h2)
 obtain⟨dy,e2,hn2⟩:=ne (hn1)
 obtain⟨z,e3,h3⟩:=ne (hn2)
 refine hr (live c O2) H2 v u dx dy z Q R2.frsLive (R2.top (a1.pers P2) e1) (R2.top a2 e2) e3 fun w H3 s3 a3=>?_
 exact k _ _ _ _ _ h3 (R2.grow s3) ((P1.trans P2).trans (.same s3)) a3
theorem a0z{op:Operator}{r:R2}{f:F2}(ho:OpR X (binaryOp op) r)(hr:AdR X.K r f)(ha:DE X a da)(hb:DE X b db):DE X (.BinOp a op b pos) (dOp f da db):=by
 obtain⟨ta,pa,aa⟩:=ha
 obtain⟨tb,pb,ab⟩:=hb
 exact⟨_,a2e ho pa pb,b7u hr aa ab⟩
theorem a7i{op:CmpOp}{r:R2}{f:F2}(ho:OpR X (compareOp op) r)(hr:AdR X.K r f)(ha:DE X a da)(hb:DE X b db)(hm:behindInMarks op b=false):DE X (.Compare a [op] [b] pos) (dOp f da db):=by
 obtain⟨ta,pa,aa⟩:=ha
 obtain⟨tb,pb,ab⟩:=hb
 exact⟨_,a9o ho pa pb hm,b7u hr aa ab⟩
theorem a1b{r:R2}{f:F2}(ho:IxR X r)(hr:AdR X.K r f)(ha:DE X a da)(hb:DE X b db)(hs:c2d b):DE X (.Subscript a b pos) (dOp f da db):=by
 obtain⟨ta,pa,aa⟩:=ha
 obtain⟨tb,pb,ab⟩:=hb
 exact⟨_,a6y ho pa pb hs,b7u hr aa ab⟩
end
section
variable{K:W.Frag}
theorem AtT.int{H:Hp}{S:Addr->Prop}{i:Int}{v:V}(h:AtT K H S (.int i) v):v=.int i:=a9t (h.at fun _ z=>nomatch z)
theorem AtT.str{H:Hp}{S:Addr->Prop}{i:Str}{v:V}(h:AtT K H S (.str i) v):v=.str i:=a9u (h.at fun _ z=>nomatch z)
theorem AtT.bool{H:Hp}{S:Addr->Prop}{i:Bool}{v:V}(h:AtT K H S (.bool i) v):v=.bl i:=a6m (h.at fun _ z=>nomatch z)
theorem AtT.none{H:Hp}{S:Addr->Prop}{v:V}(h:AtT K H S .none v):v=.non:=a9s (h.at fun _ z=>nomatch z)
theorem AtT.tup{H:Hp}{S:Addr->Prop}{ds:List PyData}{v:V}(h:AtT K H S (.tuple ds) v):∃ a xs,v=.ref a/\SqT K H a xs/\a0b K H S ds xs:=a2s (h.at fun _ z=>nomatch z)
theorem a0b.eq_nil{H:Hp}{S:Addr->Prop}{ds:List PyData}(h:a0b K H S ds []):ds=[]:=eq_nil_of_length_eq_zero h.length.symm
noncomputable def fAdd:F2
 | .int i,.int j=>some (.int (i + j))
 | .str x,.str y=>if x.length + y.length <= sizeLine then some (.str (x ++ y)) else none
 | .list xs,.list ys=>if xs.length + ys.length <= sizeLine then some (.list (xs ++ ys)) else none
 | .tuple xs,.tuple ys=>if xs.length + ys.length <= sizeLine then some (.tuple (xs ++ ys)) else none
 | _,_=>none
noncomputable def fSub:F2
 | .int i,.int j=>some (.int (i - j))
 | _,_=>none
noncomputable def fMod:F2
 | .int i,.int j=>if 0 < j then some (.int (i % j)) else none
 | _,_=>none
noncomputable def fCmp(p:Int->Int->Bool):F2
 | .int i,.int j=>some (.bool (p i j))
 | _,_=>none
theorem a4p:AdR K (rI0 fun i j=>.int (i - j)) fSub:=by
 intro S H x y dx dy z Q f hx hy e k
 unfold fSub at e
 split at e<;>cases e
 rw [hx.int,hy.int]
 exact⟨_,_,rfl,rfl,k _ _ (Same.refl _) (a3o _)⟩
theorem a3d(p:Int->Int->Bool):AdR K (rI0 fun i j=>.bl (p i j)) (fCmp p):=by
 intro S H x y dx dy z Q f hx hy e k
 unfold fCmp at e
 split at e<;>cases e
 rw [hx.int,hy.int]
 exact⟨_,_,rfl,rfl,k _ _ (Same.refl _) (a3k _)⟩
theorem d9v:AdR K (rI (fun _ j=>0 < j) fun i j=>.int (i % j)) fMod:=by
 intro S H x y dx dy z Q f hx hy e k
 unfold fMod at e
 split at e
 ·split at e
  ·rename_i hc
   cases e
   rw [hx.int,hy.int]
   exact⟨_,_,rfl,rfl,hc,k _ _ (Same.refl _) (a3o _)⟩
  ·cases e
 ·cases e
def d3m(K:W.Frag):R2:=fun x y H Q=>∃ a b ys,x=.ref a/\y=.ref b/\SqT K H a []/\SqT K H b ys/\Q (.ref b) H
theorem d4v{X:Cx}:OpR X (binaryOp .Add) (d3m X.K):=by
 intro pins s σ H x y v u Q I rx ry h
 obtain⟨a,b,ys,rfl,rfl,ha,hb,q⟩:=h
 cases rx
 cases ry
 obtain⟨its,r1,p1,_⟩:=I.tuple ha
 obtain⟨its2,r2,p2,_⟩:=I.tuple hb
 cases r1
 obtain⟨⟨cls,dd,data,sl⟩,ho,hc,n,hd⟩:=id p1
 obtain⟨⟨cls2,dd2,data2,sl2⟩,ho2,hc2,n2,hd2⟩:=id p2
 simp only at hc hd hc2 hd2
 subst hc hd hc2 hd2
 exact concat_meets ⟨_,ho,rfl⟩ ⟨_,ho2,rfl⟩ noFill_tuple_add seq_tuple_add PySem.F.slot_tuple_add PySem.F.entry_tuple_add (PySem.F.args_tuple_add_2 _ _)
   (tuple_addW0 a b _ its2.toArray n n2 dd dd2 sl sl2 (by simp)) ⟨ho,ho2,⟨.ref b,H,I,rfl,q⟩⟩
def b5s(K:W.Frag):R2:=fun x y H Q=>rI0 (fun i j=>.int (i + j)) x y H Q ∨ (∃ i j,x=.str i/\y=.str j/\i.length + j.length <= sizeLine/\Q (.str (i ++ j)) H) ∨ rCat x y H Q ∨ d3l K x y H Q ∨ d3m K x y H Q
theorem a0p{X:Cx}:OpR X (binaryOp .Add) (b5s X.K):=b1g.or (c3m.or (d9n.or (d4n.or d4v)))
theorem a1e:AdR K (b5s K) fAdd:=by
 intro S H x y dx dy z Q f hx hy e k
 unfold fAdd at e
 split at e
 ·cases e
  rw [hx.int,hy.int]
  exact .inl ⟨_,_,rfl,rfl,k _ _ (Same.refl _) (a3o _)⟩
 ·split at e
  ·rename_i hc
   cases e
   rw [hx.str,hy.str]
   exact .inr (.inl ⟨_,_,rfl,rfl,hc,k _ _ (Same.refl _) (a1p _)⟩)
  ·cases e
 ·split at e
  ·rename_i hc
   cases e
   obtain⟨a,vs,rfl,h1,h2⟩:=hx.list
   obtain⟨b,ws,rfl,h3,h4⟩:=hy.list
   refine .inr (.inr (.inl ⟨a,b,vs,ws,rfl,rfl,h1,h3,by rw [h2.length,h4.length];exact hc,fun p hp=>k _ _ (a0o hp _) (b8z (f p hp) hp (h2.append h4))⟩))
  ·cases e
 ·split at e
  ·rename_i hc
   cases e
   obtain⟨a,vs,rfl,h1,h2⟩:=hx.tup
   obtain⟨b,ws,rfl,h3,h4⟩:=hy.tup
   by_cases hv:vs=[]
   ·subst hv
    obtain rfl:=h2.eq_nil
    refine .inr (.inr (.inr (.inr ⟨a,b,ws,rfl,rfl,h1,h3,k _ _ (Same.refl _) ?_⟩)))
    exact a1o h3 h4
   ·refine .inr (.inr (.inr (.inl ⟨a,b,vs,ws,rfl,rfl,h1,h3,hv,by rw [h2.length,h4.length];exact hc,fun ew=>k _ _ (Same.refl _) ?_,fun ew p hp=>k _ _ (a0o hp _) (b0j hp (h2.append h4))⟩)))
    subst ew
    obtain rfl:=h4.eq_nil
    rw [append_nil]
    exact a1o h1 h2
  ·cases e
 ·cases e
noncomputable def fEq(neg:Bool):F2:=fun d e=>if SeqAt.shaped d=true/\SeqAt.shaped e=true then some (.bool (if neg then !PyData.eqv d e else PyData.eqv d e)) else none
theorem d3n{neg:Bool}:AdR K (rEqD K neg) (fEq neg):=by
 intro S H x y dx dy z Q f hx hy e k
 unfold fEq at e
 split at e
 ·rename_i hc
  cases e
  exact⟨Any,Any,dx,dy,hx.any,hy.any,hc.1,hc.2,k _ _ (Same.refl _) (a3k _)⟩
 ·cases e
noncomputable def fIx:F2
 | .list xs,.int i=>atI xs i
 | .tuple xs,.int i=>atI xs i
 | .str x,.int i=>if x.length <= sizeLine then(atI x.cps.toList i).map fun c=>.str ⟨#[c]⟩ else none
 | _,_=>none
theorem a1c:AdR K (rIx K) fIx:=by
 intro S H x y dx dy z Q f hx hy e k
 unfold fIx at e
 split at e
 ·obtain⟨a,vs,rfl,h1,h2⟩:=hx.list
  rw [hy.int]
  obtain⟨v,e1,e2⟩:=c2h h2 e
  exact .inl ⟨a,vs,_,v,rfl,rfl,SqL.of h1,e1,k _ _ (Same.refl _) e2⟩
 ·obtain⟨a,vs,rfl,h1,h2⟩:=hx.tup
  rw [hy.int]
  obtain⟨v,e1,e2⟩:=c2h h2 e
  exact .inr (.inl ⟨a,vs,_,v,rfl,rfl,h1,e1,k _ _ (Same.refl _) e2⟩)
 ·split at e
  ·rename_i hc
   rw [hx.str,hy.int]
   cases q:atI (PySem.Str.cps _).toList _ with
   | none=>rw [q] at e;cases e
   | some cc =>
    rw [q] at e
    cases e
    exact .inr (.inr ⟨_,_,cc,rfl,rfl,hc,q,k _ _ (Same.refl _) (a1p _)⟩)
  ·cases e
 ·cases e
noncomputable def a1l:PyData->Bool
 | .none=>true | .bool _=>true | .int _=>true | .str _=>true
 | _=>false
noncomputable def seqD:PyData->Option (List PyData)
 | .list xs=>some xs
 | .tuple xs=>some xs
 | _=>none
noncomputable def eqF:PyData->PyData->Bool
 | .none,.none=>true
 | .bool a,.bool b=>a == b
 | .int a,.int b=>a == b
 | .bool a,.int b=>(if a then(1:Int) else 0) == b
 | .int a,.bool b=>a == (if b then(1:Int) else 0)
 | .str a,.str b=>a == b
 | _,_=>false
noncomputable def inF(x:PyData)(xs:List PyData):Bool:=xs.any fun y=>eqF y x
noncomputable def fIn(neg:Bool):F2:=fun x y=>match y with
 | .str z=>match x with
  | .str w=>some (.bool (if neg then !(!(Builtin.Str.occurrences z w 0 z.length 1).isEmpty) else !(Builtin.Str.occurrences z w 0 z.length 1).isEmpty))
  | _=>none
 | y=>match seqD y with
  | some xs=>if a1l x && xs.all a1l then some (.bool (if neg then !inF x xs else inF x xs)) else none
  | none=>none
end
end L2
end
section
namespace L2
open PySem PySem.Spec PyProof.Rows
section
variable{K:W.Frag}{c:Rc}{O:Own}{ρ:Rho}{σ:St}{H H':Hp}{S S':Addr->Prop}
noncomputable def toV:PyData->V
 | .bool b=>.bl b
 | .int i=>.int i
 | .str x=>.str x
 | _=>.non
theorem a8f{d:PyData}{v:V}(h:AtD K H S d v)(f:a1l d=true):v=toV d/\a6z v=true:=by
 cases d with
 | none=>rw [a9s h];exact⟨rfl,rfl⟩
 | bool b=>rw [a6m h];exact⟨rfl,rfl⟩
 | int i=>rw [a9t h];exact⟨rfl,rfl⟩
 | str x=>rw [a9u h];exact⟨rfl,rfl⟩
 | _=>cases f
theorem d4w{x y:PyData}(fx:a1l x=true)(fy:a1l y=true):eqV (toV y) (toV x)=eqF y x:=by
 cases x<;>cases y<;>first | rfl | (cases fx;done) | (cases fy;done)
theorem b9b{x:PyData}(fx:a1l x=true):∀ {ds:List PyData} {vs:List V},a0b K H S ds vs->ds.all a1l=true->vs.all a6z=true/\inV (toV x) vs=inF x ds
 | [],vs,h,_=>by rw [h.unnil];exact⟨rfl,rfl⟩
 | d :: ds,vs,h,f=>by
  obtain⟨v,r,rfl,h1,h2⟩:=h.uncons
  rw [all_cons,and_eq_true] at f
  obtain⟨e1,e2⟩:=a8f h1 f.1
  obtain⟨e3,e4⟩:=b9b fx h2 f.2
  refine⟨by rw [all_cons,e2,e3];rfl,?_⟩
  show(eqV v (toV x) || inV (toV x) r)=(eqF d x || inF x ds)
  rw [e1,d4w fx f.1,e4]
def b9c(K:W.Frag)(neg:Bool):R2:=fun x y H Q=>rIn K neg x y H Q ∨ (∃ i j,x=.str i/\y=.str j/\Q (.bl (if neg then !(!(Builtin.Str.occurrences j i 0 j.length 1).isEmpty) else !(Builtin.Str.occurrences j i 0 j.length 1).isEmpty)) H)
theorem a4q{X:Cx}:OpR X (compareOp .In) (b9c X.K false):=b1j.or c6n
theorem b2u{X:Cx}:OpR X (compareOp .NotIn) (b9c X.K true):=b8t.or b8u
theorem AtT.seq{x:PyData}{ds:List PyData}{v:V}(h:AtT K H S x v)(e:seqD x=some ds):∃ a vs,v=.ref a/\(SqL K H a vs ∨ SqT K H a vs)/\a0b K H S ds vs:=by
 cases x with
 | list xs=>cases e;obtain⟨a,vs,e1,h1,h2⟩:=h.list;exact⟨a,vs,e1,.inl (SqL.of h1),h2⟩
 | tuple xs=>cases e;obtain⟨a,vs,e1,h1,h2⟩:=h.tup;exact⟨a,vs,e1,.inr h1,h2⟩
 | _=>cases e
theorem a7a{neg:Bool}:AdR K (b9c K neg) (fIn neg):=by
 intro S H x y dx dy z Q f hx hy e k
 unfold fIn at e
 split at e
 ·split at e
  ·cases e
   rw [hx.str,hy.str]
   exact .inr ⟨_,_,rfl,rfl,k _ _ (Same.refl _) (a3k _)⟩
  ·cases e
 ·split at e
  ·rename_i xs es
   split at e
   ·rename_i hf
    cases e
    rw [and_eq_true] at hf
    obtain⟨a,vs,rfl,h1,h2⟩:=hy.seq es
    obtain⟨e1,e2⟩:=a8f (hx.at fun ds z=>by subst z;exact absurd hf.1 (by simp [a1l])) hf.1
    obtain⟨e3,e4⟩:=b9b hf.1 h2 hf.2
    refine .inl ⟨a,vs,rfl,h1,e2,e3,?_⟩
    rw [e1,e4]
    exact k _ _ (Same.refl _) (a3k _)
   ·cases e
  ·cases e
def fz(ρ:Rho)(x:DV)(Q:PyData->Rho->Prop):Prop:=match x with
 | .d y=>Q y ρ
 | .sl i=>match ρ[i]?.join with
  | some (.d y)=>Q y ρ
  | some (.own xs)=>Q (.list xs) (ρ.set i (some (.d (.list xs))))
  | _=>False
theorem a2b{i:Nat}{l:L}(h:ρ[i]?.join=some l):ρ[i]? = some (some l):=by
 cases q:ρ[i]? with
 | none=>rw [q] at h;cases h
 | some o=>rw [q] at h;cases o with
  | none=>cases h
  | some l'=>cases h;rfl
theorem Rel.fz{x:DV}{v:V}{Q:PyData->Rho->Prop}(R:Rel K c O ρ σ H)(a:AtV K (live c O) σ H x v)(h:fz ρ x Q):∃ y ρ' O',Q y ρ'/\Rel K c O' ρ' σ H/\Pers K (live c O) H (live c O') H/\AtD K H (live c O') y v:=by
 cases x with
 | d y=>exact⟨y,ρ,O,h,R,.refl,a⟩
 | sl i =>
  have a':σ[i]? = some (some v):=a
  simp only [L2.fz] at h
  split at h
  ·rename_i y e
   have e':=a2b e
   obtain⟨w,h1,h2⟩:=R.dat i y e'
   rw [a'] at h1;cases h1
   exact⟨y,ρ,O,h,R,.refl,h2⟩
  ·rename_i xs e
   have e':=a2b e
   obtain⟨R',P⟩:=R.freeze e'
   have hi:i < ρ.length:=(List.getElem?_eq_some_iff.mp e').1
   obtain⟨w,h1,h2⟩:=R'.dat i (.list xs) (by rw [getElem?_set_self hi])
   rw [a'] at h1;cases h1
   exact⟨_,_,_,h,R',P,h2⟩
  ·exact h.elim
noncomputable def fzs:Rho->List DV->(List PyData->Rho->Prop)->Prop
 | ρ,[],Q=>Q [] ρ
 | ρ,x :: xs,Q=>fz ρ x fun y ρ1=>fzs ρ1 xs fun ys ρ2=>Q (y :: ys) ρ2
theorem b5t{xs:List DV}:∀ {vs:List V} {ρ:Rho} {O:Own} {Q:List PyData->Rho->Prop},Rel K c O ρ σ H->AtVs K (live c O) σ H xs vs->fzs ρ xs Q->∃ ys ρ' O',Q ys ρ'/\Rel K c O' ρ' σ H/\Pers K (live c O) H (live c O') H/\a0b K H (live c O') ys vs:=by
 induction xs with
 | nil =>
  intro vs ρ O Q R a h
  cases a
  exact⟨[],ρ,O,h,R,.refl,.nil⟩
 | cons x xs ih =>
  intro vs ρ O Q R a h
  cases a with
  | cons a as =>
   obtain⟨y,ρ1,O1,h1,R1,P1,a1⟩:=R.fz a h
   obtain⟨ys,ρ2,O2,h2,R2,P2,a2⟩:=ih R1 (AtVs.pers as P1) h1
   exact⟨y :: ys,ρ2,O2,h2,R2,P1.trans P2,.cons (P2 _ _ a1) a2⟩
def dNil:TDA:=fun ρ Q=>Q [] ρ
def a5y(de:TDE)(dr:TDA):TDA:=fun ρ Q=>de ρ fun x ρ1=>dr ρ1 fun xs ρ2=>Q (x :: xs) ρ2
theorem d9w:AdA K tNil dNil:=fun c O ρ σ H Qd Q R h k=>k _ _ _ _ _ h R .refl .nil
theorem d4x{te:TE}{ta:TA}{de:TDE}{da:TDA}(he:AdE K te de)(ha:AdA K ta da):AdA K (a5l te ta) (a5y de da):=by
 intro c O ρ σ H Qd Q R h k
 refine he c O ρ σ H _ _ R h fun x ρ1 O1 v H1 h1 R1 P1 a1=>?_
 refine ha c O1 ρ1 σ H1 _ _ R1 h1 fun xs ρ2 O2 vs H2 h2 R2 P2 a2=>?_
 exact k _ _ _ _ _ h2 R2 (P1.trans P2) (.cons (a1.pers P2) a2)
def dTup(da:TDA):TDE:=fun ρ Q=>da ρ fun xs ρ1=>fzs ρ1 xs fun ys ρ2=>ys.length <= 1000000/\Q (.d (.tuple ys)) ρ2
def dLst(da:TDA):TDF:=fun ρ Q=>da ρ fun xs ρ1=>fzs ρ1 xs fun ys ρ2=>ys.length <= 1000000/\Q ys ρ2
theorem mil{n:Nat}(h:n <= 1000000):n < sizeLine:=Nat.lt_of_le_of_lt h (by decide +kernel)
theorem d9x{ta:TA}{da:TDA}(ha:AdA K ta da):AdE K (tTup ta) (dTup da):=by
 intro c O ρ σ H Qd Q R h k
 refine ha c O ρ σ H _ _ R h fun xs ρ1 O1 vs H1 h1 R1 P1 a1=>?_
 obtain⟨ys,ρ2,O2,⟨hz,h2⟩,R2,P2,a2⟩:=b5t R1 a1 h1
 refine⟨by rw [a2.length];exact le_of_lt (mil hz),fun p hp=>?_⟩
 have s:=a0o hp (.tup vs)
 exact k _ _ _ _ _ h2 (R2.grow s) ((P1.trans P2).trans (.same s)) (b0j hp a2)
theorem b3b{p:Addr}(R:Rel K c O ρ σ H)(hp:H p=none):b2b c O p:=⟨R.free0 hp,fun z=>R.pin p (.inr z) hp,fun z=>R.pin p (.inl z) hp,fun j e=>by obtain⟨_,vs,q⟩:=R.has j p e;rw [hp] at q;cases q⟩
theorem Rel.newL{p:Addr}{ys:List PyData}{vs:List V}(R:Rel K c O ρ σ H)(hp:H p=none)(h:a0b K H (live c O) ys vs) :
  Rel K (c.add p) O ρ σ (upd H p (.lst vs))/\Pers K (live c O) H (live (c.add p) O) (upd H p (.lst vs))/\b2b c O p/\a0b K (upd H p (.lst vs)) (live (c.add p) O) ys vs:=by
 obtain⟨R1,P1⟩:=R.lay (o:=.lst vs) hp
 exact⟨R1,P1,b3b R hp,P1.all h⟩
theorem d9y{ta:TA}{da:TDA}(ha:AdA K ta da):AdF K (tLst ta) (dLst da):=by
 intro c O ρ σ H Qd Q R h k
 refine ha c O ρ σ H _ _ R h fun xs ρ1 O1 vs H1 h1 R1 P1 a1=>?_
 obtain⟨ys,ρ2,O2,⟨hz,h2⟩,R2,P2,a2⟩:=b5t R1 a1 h1
 refine⟨by rw [a2.length];exact le_of_lt (mil hz),fun p hp=>?_⟩
 obtain⟨R3,P3,f3,a3⟩:=R2.newL hp a2
 exact k _ _ _ _ _ _ h2 R3 ((P1.trans P2).trans P3) f3 a0j a3
def dFz(df:TDF):TDE:=fun ρ Q=>df ρ fun xs ρ1=>Q (.d (.list xs)) ρ1
theorem ad_fz{t:TE}{df:TDF}(h:AdF K t df):AdE K t (dFz df):=by
 intro c O ρ σ H Qd Q R h0 k
 refine h c O ρ σ H _ _ R h0 fun xs ρ1 O1 p vs H1 h1 R1 P1 f1 hp a1=>?_
 obtain⟨R2,P2⟩:=R1.unadd
 exact k _ _ _ _ _ h1 R2 (P1.trans P2) (a4z ⟨R1.frs p f1.1,f1.2.2.1,f1.2.2.2⟩ hp (P2.all a1))
abbrev F2L:=PyData->PyData->Option (List PyData)
def dOpF(f:F2L)(da db:TDE):TDF:=fun ρ Q=>da ρ fun x ρ1=>db ρ1 fun y ρ2=>need (a0n ρ2 x) fun dx=>need (a0n ρ2 y) fun dy=>need (f dx dy) fun z=>Q z ρ2
noncomputable def a1a(ρ:Rho):List DV->Option (List PyData)
 | []=>some []
 | x :: xs=>(a0n ρ x).bind fun y=>(a1a ρ xs).map (y :: ·)
noncomputable def AtTs(K:W.Frag)(H:Hp)(S:Addr->Prop):List PyData->List V->Prop:=Paired (AtT K H S)
theorem Rel.tops(R:Rel K c O ρ σ H){xs:List DV}:∀ {vs:List V} {ds:List PyData},AtVs K (live c O) σ H xs vs->a1a ρ xs=some ds->AtTs K H (live c O) ds vs:=by
 induction xs with
 | nil =>
  intro vs ds a e
  cases a;cases e;exact .nil
 | cons x xs ih =>
  intro vs ds a e
  cases a with
  | cons a as =>
   unfold a1a at e
   cases q:a0n ρ x with
   | none=>rw [q] at e;cases e
   | some y =>
    rw [q] at e
    have e':(a1a ρ xs).map (y :: ·)=some ds:=e
    cases q2:a1a ρ xs with
    | none=>rw [q2] at e';cases e'
    | some ys =>
     rw [q2] at e'
     cases e'
     exact .cons (R.top a q) (ih as q2)
abbrev FC:=List PyData->Option PyData
abbrev FCL:=List PyData->Option (List PyData)
def AdC(K:W.Frag)(r:List V->Hp->VK->Prop)(f:FC):Prop:=∀ (S:Addr->Prop) (H:Hp) (vs:List V) (ds:List PyData) (z:PyData) (Q:VK),Frs S H->AtTs K H S ds vs->f ds=some z ->
 (∀ v H',Same H H'->AtD K H' S z v->Q v H')->r vs H Q
def dCB(f:FC)(da:TDA):TDE:=fun ρ Q=>da ρ fun xs ρ1=>need (a1a ρ1 xs) fun ds=>need (f ds) fun z=>Q (.d z) ρ1
def dCBF(f:FCL)(da:TDA):TDF:=fun ρ Q=>da ρ fun xs ρ1=>need (a1a ρ1 xs) fun ds=>need (f ds) fun z=>Q z ρ1
theorem d3o{r:List V->Hp->VK->Prop}{f:FC}{ta:TA}{da:TDA}(hr:AdC K r f)(ha:AdA K ta da):AdE K (tCB r ta) (dCB f da):=by
 intro c O ρ σ H Qd Q R h k
 refine ha c O ρ σ H _ _ R h fun xs ρ1 O1 vs H1 h1 R1 P1 a1=>?_
 obtain⟨ds,e1,hn2⟩:=ne (h1)
 obtain⟨z,e2,h2⟩:=ne (hn2)
 refine hr (live c O1) H1 vs ds z Q R1.frsLive (R1.tops a1 e1) e2 fun v H2 s2 a2=>?_
 exact k _ _ _ _ _ h2 (R1.grow s2) (P1.trans (.same s2)) a2
theorem AtTs.one{d:PyData}{vs:List V}(h:AtTs K H S [d] vs):∃ v,vs=[v]/\AtT K H S d v:=by
 cases h with
 | cons h t=>cases t;exact⟨_,rfl,h⟩
noncomputable def fLen:FC
 | [.list xs]=>some (.int xs.length)
 | [.tuple xs]=>some (.int xs.length)
 | [.str x]=>if x.length <= sizeLine then some (.int x.length) else none
 | _=>none
noncomputable def c2i(K:W.Frag):List V->Hp->VK->Prop:=fun xs H Q=>(∃ p ys,xs=[.ref p]/\(SqL K H p ys ∨ SqT K H p ys)/\Q (.int ys.length) H) ∨ (∃ z,xs=[.str z]/\z.length <= sizeLine/\Q (.int z.length) H)
theorem a2p{X:Cx}:a3h X (.builtin "len") (c2i X.K):=a3n.or b8v
theorem a5z:AdC K (c2i K) fLen:=by
 intro S H vs ds z Q f h e k
 unfold fLen at e
 split at e
 ·cases e
  obtain⟨v,rfl,h1⟩:=h.one
  obtain⟨a,ws,rfl,h2,h3⟩:=h1.list
  exact .inl ⟨a,ws,rfl,.inl (SqL.of h2),by rw [h3.length];exact k _ _ (Same.refl _) (a3o _)⟩
 ·cases e
  obtain⟨v,rfl,h1⟩:=h.one
  obtain⟨a,ws,rfl,h2,h3⟩:=h1.tup
  exact .inl ⟨a,ws,rfl,.inr h2,by rw [h3.length];exact k _ _ (Same.refl _) (a3o _)⟩
 ·split at e
  ·rename_i hc
   cases e
   obtain⟨v,rfl,h1⟩:=h.one
   rw [h1.str]
   exact .inr ⟨_,rfl,hc,k _ _ (Same.refl _) (a3o _)⟩
  ·cases e
 ·cases e
noncomputable def b4j:FC
 | [.list xs]=>some (.tuple xs)
 | [.tuple xs]=>some (.tuple xs)
 | _=>none
theorem c9t:AdC K (fun xs H Q=>∃ p ys,xs=[.ref p]/\((SqL K H p ys/\∀ l,H l=none->Q (.ref l) (upd H l (.tup ys))) ∨ (SqT K H p ys/\Q (.ref p) H))) b4j:=by
 intro S H vs ds z Q f h e k
 unfold b4j at e
 split at e
 ·cases e
  obtain⟨v,rfl,h1⟩:=h.one
  obtain⟨a,ws,rfl,h2,h3⟩:=h1.list
  exact⟨a,ws,rfl,.inl ⟨SqL.of h2,fun l hl=>k _ _ (a0o hl _) (b0j hl h3)⟩⟩
 ·cases e
  obtain⟨v,rfl,h1⟩:=h.one
  obtain⟨a,ws,rfl,h2,h3⟩:=h1.tup
  exact⟨a,ws,rfl,.inr ⟨h2,k _ _ (Same.refl _) (a1o h2 h3)⟩⟩
 ·cases e
noncomputable def d3p:FCL
 | [.list xs]=>some xs
 | [.tuple xs]=>some xs
 | _=>none
end
section
variable{X:Cx}{a b e:Expr}{es:List Expr}{da db de:TDE}{daa:TDA}{pos:Pos}
theorem a0c:DA X [] dNil:=⟨_,a0r,d9w⟩
theorem a0a(he:DE X e de)(ha:DA X es daa)(hs:starEach (e :: es) X.env=(false,eval e X.env) :: starEach es X.env:=by rfl):DA X (e :: es) (a5y de daa):=by
 obtain⟨te,p1,a1⟩:=he
 obtain⟨ta,p2,a2⟩:=ha
 exact⟨_,a0i p1 p2 hs,d4x a1 a2⟩
theorem a0w{x1}(ha:DA X es daa):DE X (.Tuple es x1 pos) (dTup daa):=by obtain⟨t,p,a⟩:=ha;exact⟨_,a5g p,d9x a⟩
theorem a2f(ha:DA X es daa):DF X (.List es pos) (dLst daa):=by obtain⟨t,p,a⟩:=ha;exact⟨_,b8q p,d9y a⟩
theorem a3a{df:TDF}(h:DF X e df):DE X e (dFz df):=by obtain⟨t,p,a⟩:=h;exact⟨t,p,ad_fz a⟩
theorem a3l{x:Str}{p:Pos}{id:String}{r:List V->Hp->VK->Prop}{f:FC}(hc:a3h X (.builtin id) r)(hr:AdC X.K r f)(hg:Gl X x)(hm:X.mg x=none)(hv:bootBuiltins x=some (.builtin id))(ha:DA X (e :: es) daa) (hn:x ≠ "__name__":=by decide) (hdb:(x == ("__debug__" : Str))=false:=by decide)
  (he:starEach (e :: es) X.env=(false,eval e X.env) :: starEach es X.env:=by rfl) (hpl:(backTo pos (starEach es X.env)).any (·.1)=false:=by rfl):DE X (.Call (.Name x p) (e :: es) [] pos) (dCB f daa):=by
 obtain⟨ta,pa,aa⟩:=ha
 exact⟨_,a4m hc hg hm hv pa hn hdb he hpl,d3o hr aa⟩
theorem b7b{x:Str}{p:Pos}{T:String}{r:List V->Hp->VK->Prop}{f:FC}(hc:a3h X (.type T) r)(hr:AdC X.K r f)(hg:Gl X x)(hm:X.mg x=none)(hv:bootBuiltins x=some (.type T))(ha:DA X (e :: es) daa) (hn:x ≠ "__name__":=by decide) (hdb:(x == ("__debug__" : Str))=false:=by decide)
  (he:starEach (e :: es) X.env=(false,eval e X.env) :: starEach es X.env:=by rfl) (hpl:(backTo pos (starEach es X.env)).any (·.1)=false:=by rfl):DE X (.Call (.Name x p) (e :: es) [] pos) (dCB f daa):=by
 obtain⟨ta,pa,aa⟩:=ha
 exact⟨_,a9e hc hg hm hv pa hn hdb he hpl,d3o hr aa⟩
end
end L2
end
section
namespace L2
open PySem PySem.Spec PyProof.Rows
section
variable{K:W.Frag}{c:Rc}{O:Own}{ρ:Rho}{σ:St}{H H':Hp}{S S':Addr->Prop}
noncomputable def asB:PyData->Option Bool
 | .bool b=>some b
 | _=>none
def dB(de:TDE):TDT:=fun ρ Q=>de ρ fun x ρ1=>need (a0n ρ1 x) fun d=>need (asB d) fun b=>Q b ρ1
theorem ad_b{t:TE}{de:TDE}(h:AdE K t de):AdT K (fun σ H Q=>t σ H fun x H'=>∃ k,x=.bl k/\Q k H') (dB de):=by
 intro c O ρ σ H Qd Q R h0 k
 refine h c O ρ σ H _ _ R h0 fun x ρ1 O1 v H1 h1 R1 P1 a1=>?_
 obtain⟨d,e1,hn12⟩:=ne (h1)
 obtain⟨b,e2,h2⟩:=ne (hn12)
 have a2:=R1.top a1 e1
 cases d with
 | bool b'=>cases e2;exact⟨b,a2.bool,k _ _ _ _ h2 R1 P1⟩
 | _=>cases e2
noncomputable def tru:PyData->Option Bool
 | .none=>some false
 | .bool b=>some b
 | .int i=>some (i != 0)
 | .str x=>if x.length <= sizeLine then some ((x.length:Int) != 0) else none
 | .list xs=>some (!xs.isEmpty)
 | .tuple xs=>some (!xs.isEmpty)
 | .dict _=>none
def dTru(de:TDE):TDT:=fun ρ Q=>de ρ fun x ρ1=>need (a0n ρ1 x) fun d=>need (tru d) fun b=>Q b ρ1
theorem a0b.empty{ds:List PyData}{vs:List V}(h:a0b K H S ds vs):(!vs.isEmpty) = !ds.isEmpty:=by
 have:=h.length
 cases ds<;>cases vs<;>simp at this ⊢
theorem d9z{t:TE}{de:TDE}(h:AdE K t de):AdT K (fun σ H Q=>t σ H fun x H'=>∃ k,TruV K x H' k/\Q k H') (dTru de):=by
 intro c O ρ σ H Qd Q R h0 k
 refine h c O ρ σ H _ _ R h0 fun x ρ1 O1 v H1 h1 R1 P1 a1=>?_
 obtain⟨d,e1,hn11⟩:=ne (h1)
 obtain⟨b,e2,h2⟩:=ne (hn11)
 have a2:=R1.top a1 e1
 refine⟨b,?_,k _ _ _ _ h2 R1 P1⟩
 cases d with
 | none=>cases e2;rw [a2.none];rfl
 | bool b'=>cases e2;rw [a2.bool];rfl
 | int i=>cases e2;rw [a2.int];rfl
 | str x =>
  simp only [tru] at e2
  split at e2
  ·rename_i hc
   cases e2;rw [a2.str];exact⟨hc,rfl⟩
  ·cases e2
 | list xs =>
  cases e2
  obtain⟨a,vs,rfl,h3,h4⟩:=a2.list
  exact .inl ⟨vs,SqL.of h3,h4.empty.symm⟩
 | tuple xs =>
  cases e2
  obtain⟨a,vs,rfl,h3,h4⟩:=a2.tup
  exact .inr (.inl ⟨vs,h3,h4.empty.symm⟩)
 | dict _=>cases e2
def dAnd(t u:TDT):TDT:=fun ρ Q=>t ρ fun b ρ1=>if b=true then u ρ1 Q else Q false ρ1
def dOr(t u:TDT):TDT:=fun ρ Q=>t ρ fun b ρ1=>if b=true then Q true ρ1 else u ρ1 Q
def dNot(t:TDT):TDT:=fun ρ Q=>t ρ fun b ρ1=>Q (!b) ρ1
theorem e0a{t u:TT}{dt du:TDT}(h:AdT K t dt)(h':AdT K u du):AdT K (tAnd t u) (dAnd dt du):=by
 intro c O ρ σ H Qd Q R h0 k
 refine h c O ρ σ H _ _ R h0 fun b ρ1 O1 H1 h1 R1 P1=>?_
 cases b with
 | true=>rw [if_pos rfl] at h1 ⊢;exact h' c O1 ρ1 σ H1 _ _ R1 h1 fun b ρ2 O2 H2 h2 R2 P2=>k _ _ _ _ h2 R2 (P1.trans P2)
 | false=>rw [if_neg Bool.false_ne_true] at h1 ⊢;exact k _ _ _ _ h1 R1 P1
theorem ad_or{t u:TT}{dt du:TDT}(h:AdT K t dt)(h':AdT K u du):AdT K (tOr t u) (dOr dt du):=by
 intro c O ρ σ H Qd Q R h0 k
 refine h c O ρ σ H _ _ R h0 fun b ρ1 O1 H1 h1 R1 P1=>?_
 cases b with
 | true=>rw [if_pos rfl] at h1 ⊢;exact k _ _ _ _ h1 R1 P1
 | false=>rw [if_neg Bool.false_ne_true] at h1 ⊢;exact h' c O1 ρ1 σ H1 _ _ R1 h1 fun b ρ2 O2 H2 h2 R2 P2=>k _ _ _ _ h2 R2 (P1.trans P2)
theorem e0b{t:TT}{dt:TDT}(h:AdT K t dt):AdT K (tNot t) (dNot dt):=by
 intro c O ρ σ H Qd Q R h0 k
 exact h c O ρ σ H _ _ R h0 fun b ρ1 O1 H1 h1 R1 P1=>k _ _ _ _ h1 R1 P1
def dIfE(c:TDT)(a b:TDE):TDE:=fun ρ Q=>c ρ fun k ρ1=>if k=true then a ρ1 Q else b ρ1 Q
theorem c9u:AtV K S σ H (.d .none) .non:=(b8y:AtD K H S .none .non)
theorem a8t{b:Bool}:AtV K S σ H (.d (.bool b)) (.bl b):=(a3k b:AtD K H S (.bool b) (.bl b))
def c3y(a b:TDE):TDE:=fun ρ Q=>a ρ fun x ρ1=>need (a0n ρ1 x) fun d=>need (asB d) fun k=>if k=true then b ρ1 Q else Q (.d (.bool false)) ρ1
def dOrV(a b:TDE):TDE:=fun ρ Q=>a ρ fun x ρ1=>need (a0n ρ1 x) fun d=>need (asB d) fun k=>if k=true then Q (.d (.bool true)) ρ1 else b ρ1 Q
theorem b9d{d:PyData}{v:V}{b:Bool}(h:AtT K H S d v)(e:asB d=some b):v=.bl b:=by
 cases d with
 | bool b'=>cases e;exact h.bool
 | _=>cases e
theorem d4y{ta tb:TE}{da db:TDE}(ha:AdE K ta da)(hb:AdE K tb db):AdE K (d3b ta tb) (c3y da db):=by
 intro c O ρ σ H Qd Q R h0 k
 refine ha c O ρ σ H _ _ R h0 fun x ρ1 O1 v H1 h1 R1 P1 a1=>?_
 obtain⟨d,e1,hn10⟩:=ne (h1)
 obtain⟨b,e2,h2⟩:=ne (hn10)
 refine⟨b,b9d (R1.top a1 e1) e2,?_⟩
 cases b with
 | true=>rw [if_pos rfl] at h2 ⊢;exact hb c O1 ρ1 σ H1 _ _ R1 h2 fun x ρ2 O2 v H2 h2 R2 P2 a2=>k _ _ _ _ _ h2 R2 (P1.trans P2) a2
 | false=>rw [if_neg Bool.false_ne_true] at h2 ⊢;exact k _ _ _ _ _ h2 R1 P1 a8t
def c3z(a:TDE):TDE:=fun ρ Q=>a ρ fun x ρ1=>need (a0n ρ1 x) fun d=>need (asB d) fun k=>Q (.d (.bool (!k))) ρ1
theorem d4z{ta:TE}{da:TDE}(ha:AdE K ta da):AdE K (d3c ta) (c3z da):=by
 intro c O ρ σ H Qd Q R h0 k
 refine ha c O ρ σ H _ _ R h0 fun x ρ1 O1 v H1 h1 R1 P1 a1=>?_
 obtain⟨d,e1,hn8⟩:=ne (h1)
 obtain⟨b,e2,h2⟩:=ne (hn8)
 exact⟨b,b9d (R1.top a1 e1) e2,k _ _ _ _ _ h2 R1 P1 a8t⟩
def b9e(f f':F2)(da db dc:TDE):TDE:=fun ρ Q=>da ρ fun x ρ1=>db ρ1 fun y ρ2=>need (a0n ρ2 x) fun dx=>need (a0n ρ2 y) fun dy=>need (f dx dy) fun z=>need (asB z) fun k =>
 if k=true then dc ρ2 fun w ρ3=>need (a0n ρ3 y) fun dy=>need (a0n ρ3 w) fun dw=>need (f' dy dw) fun z'=>Q (.d z') ρ3 else Q (.d (.bool false)) ρ2
theorem c9v{r r':R2}{f f':F2}{ta tb tc:TE}{da db dc:TDE}(hr:AdR K r f)(hr':AdR K r' f')(ha:AdE K ta da)(hb:AdE K tb db)(hc:AdE K tc dc):AdE K (c6o r r' ta tb tc) (b9e f f' da db dc):=by
 intro c O ρ σ H Qd Q R h k
 refine ha c O ρ σ H _ _ R h fun x ρ1 O1 v H1 h1 R1 P1 a1=>?_
 refine hb c O1 ρ1 σ H1 _ _ R1 h1 fun y ρ2 O2 u H2 h2 R2 P2 a2=>?_
 obtain⟨dx,e1,hn7⟩:=ne (h2)
 obtain⟨dy,e2,hn17⟩:=ne (hn7)
 obtain⟨z,e3,hn20⟩:=ne (hn17)
 obtain⟨b,e4,h3⟩:=ne (hn20)
 refine hr (live c O2) H2 v u dx dy z _ R2.frsLive (R2.top (a1.pers P2) e1) (R2.top a2 e2) e3 fun w H3 s3 a3=>?_
 have R3:=R2.grow s3
 have P3:Pers K (live c O2) H2 (live c O2) H3:=.same s3
 refine⟨b,b9d (.inl a3) e4,?_⟩
 cases b with
 | false=>rw [if_neg Bool.false_ne_true] at h3 ⊢;exact k _ _ _ _ _ h3 R3 ((P1.trans P2).trans P3) a8t
 | true =>
  rw [if_pos rfl] at h3 ⊢
  refine hc c O2 ρ2 σ H3 _ _ R3 h3 fun w ρ4 O4 u4 H4 h4 R4 P4 a4=>?_
  obtain⟨dy',e5,hn26⟩:=ne (h4)
  obtain⟨dw,e6,hn28⟩:=ne (hn26)
  obtain⟨z',e7,h5⟩:=ne (hn28)
  refine hr' (live c O4) H4 u u4 dy' dw z' Q R4.frsLive (R4.top ((a2.pers P3).pers P4) e5) (R4.top a4 e6) e7 fun w5 H5 s5 a5=>?_
  exact k _ _ _ _ _ h5 (R4.grow s5) ((((P1.trans P2).trans P3).trans P4).trans (.same s5)) a5
end
section
variable{X:Cx}{a b c e:Expr}{rest:List Expr}{da db dc de:TDE}{dt du:TDT}{pos:Pos}
theorem a7j(h:DE X e de)(he:∀ whole,isTrue e X.env whole=(do let v ← whole;standAt e.pos;holding [v] (truthy v)):=by intro _;rfl):DT X e (dB de):=by
 obtain⟨t,p,a⟩:=h
 exact⟨_,b3x p he,ad_b a⟩
theorem b9f(h:DE X e de)(he:∀ whole,isTrue e X.env whole=(do let v ← whole;standAt e.pos;holding [v] (truthy v)):=by intro _;rfl):DT X e (dTru de):=by
 obtain⟨t,p,a⟩:=h
 exact⟨_,c9i p he,d9z a⟩
theorem a1d{op:CmpOp}{r:R2}{f:F2}(ho:OpR X (compareOp op) r)(hr:AdR X.K r f)(ha:DE X a da)(hb:DE X b db)(hm:behindInMarks op b=false):DT X (.Compare a [op] [b] pos) (dB (dOp f da db)):=by
 obtain⟨ta,pa,aa⟩:=ha
 obtain⟨tb,pb,ab⟩:=hb
 exact⟨_,a4y ho pa pb hm,ad_b (b7u hr aa ab)⟩
theorem b3c{op op':CmpOp}{r r':R2}{f f':F2}(ho:OpR X (compareOp op) r)(hr:AdR X.K r f)(ho':OpR X (compareOp op') r')(hr':AdR X.K r' f')(ha:DE X a da)(hb:DE X b db)(hc:DE X c dc)
  (hm:lastMarks [op,op'] [b,c]=false:=by with_unfolding_all rfl):DE X (.Compare a [op,op'] [b,c] pos) (b9e f f' da db dc):=by
 obtain⟨ta,pa,aa⟩:=ha
 obtain⟨tb,pb,ab⟩:=hb
 obtain⟨tc,pc,ac⟩:=hc
 exact⟨_,c9h ho ho' pa pb pc hm,c9v hr hr' aa ab ac⟩
theorem DW.toT(h:DW X e dt):DT X e dt:=by obtain⟨t,p,a⟩:=h;exact⟨t,p.pt,a⟩
theorem b2d(ha:DT X a dt):DW X (.BoolOp .And [a] pos) dt:=by obtain⟨t,p,a⟩:=ha;exact⟨t,d4c p,a⟩
theorem b4k(ha:DT X a dt):DW X (.BoolOp .Or [a] pos) dt:=by obtain⟨t,p,a⟩:=ha;exact⟨t,c6h p,a⟩
theorem b4l(ha:DT X a dt)(hb:DW X (.BoolOp .And (b :: rest) pos) du):DW X (.BoolOp .And (a :: b :: rest) pos) (dAnd dt du):=by obtain⟨_,p,a⟩:=ha;obtain⟨_,p',a'⟩:=hb;exact⟨_,d8y p p',e0a a a'⟩
theorem b7v(ha:DT X a dt)(hb:DW X (.BoolOp .Or (b :: rest) pos) du):DW X (.BoolOp .Or (a :: b :: rest) pos) (dOr dt du):=by obtain⟨_,p,a⟩:=ha;obtain⟨_,p',a'⟩:=hb;exact⟨_,d3a p p',ad_or a a'⟩
theorem a8u(ha:DT X a dt):DT X (.UnaryOp .Not a pos) (dNot dt):=by obtain⟨_,p,a⟩:=ha;exact⟨_,b8n p,e0b a⟩
theorem c7b{op}(h:DE X a da):DE X (.BoolOp op [a] pos) da:=by obtain⟨t,p,a⟩:=h;exact⟨t,b8o p,a⟩
theorem c7c(ha:DE X a da)(hb:DE X (.BoolOp .And (b :: rest) pos) db):DE X (.BoolOp .And (a :: b :: rest) pos) (c3y da db):=by obtain⟨_,p,a⟩:=ha;obtain⟨_,p',a'⟩:=hb;exact⟨_,b3y p p',d4y a a'⟩
theorem e0c(ha:DE X a da):DE X (.UnaryOp .Not a pos) (c3z da):=by obtain⟨_,p,a⟩:=ha;exact⟨_,d8z p,d4z a⟩
end
inductive RV where
 | d (x:PyData)
 | new (xs:List PyData)
structure DEnds where
 nx:Rho->Prop
 rt:RV->Rho->Prop
 bk:Rho->Prop:=fun _=>False
 ct:Rho->Prop:=fun _=>False
abbrev TDS:=DEnds->Rho->Prop
noncomputable def b7w(K:W.Frag)(c:Rc)(O:Own)(ρ:Rho)(σ:St)(H:Hp):RV->V->Prop
 | .d x,v=>Rel K c O ρ σ H/\AtD K H (live c O) x v
 | .new xs,v=>∃ p vs,v=.ref p/\Rel K (c.add p) O ρ σ H/\b2b c O p/\H p=some (.lst vs)/\a0b K H (live (c.add p) O) xs vs
structure EndsOk(K:W.Frag)(c:Rc)(S0:Addr->Prop)(H0:Hp)(D:Ends)(Dd:DEnds):Prop where
 nx:∀ O ρ σ H,Rel K c O ρ σ H->Pers K S0 H0 (live c O) H->Dd.nx ρ->D.nx σ H
 rt:∀ r O ρ σ H v,b7w K c O ρ σ H r v->Dd.rt r ρ->D.rt v H
 bk:∀ O ρ σ H,Rel K c O ρ σ H->Pers K S0 H0 (live c O) H->Dd.bk ρ->D.bk σ H
 ct:∀ O ρ σ H,Rel K c O ρ σ H->Pers K S0 H0 (live c O) H->Dd.ct ρ->D.ct σ H
 mb:∀ p,c.M p->c.B p
 oa:∀ p,c.H0 p=none->c.A p
theorem EndsOk.later{K:W.Frag}{c:Rc}{S0 S1:Addr->Prop}{H0 H1:Hp}{D:Ends}{Dd:DEnds}(E:EndsOk K c S0 H0 D Dd)(P:Pers K S0 H0 S1 H1):EndsOk K c S1 H1 D Dd:=
 ⟨fun O ρ σ H R q=>E.nx O ρ σ H R (P.trans q),E.rt,fun O ρ σ H R q=>E.bk O ρ σ H R (P.trans q),fun O ρ σ H R q=>E.ct O ρ σ H R (P.trans q),E.mb,E.oa⟩
def AdS(K:W.Frag)(t:TS)(dt:TDS):Prop:=∀ (c:Rc) (O:Own) (ρ:Rho) (σ:St) (H:Hp) (D:Ends) (Dd:DEnds),Rel K c O ρ σ H->EndsOk K c (live c O) H D Dd->dt Dd ρ->t D σ H
def DS(X:Cx)(st:Stmt)(dt:TDS):Prop:=∃ t,PS X st t/\AdS X.K t dt
def DSs(X:Cx)(st:List Stmt)(dt:TDS):Prop:=∃ t,PSs X st t/\AdS X.K t dt
section
variable{K:W.Frag}{c:Rc}{O:Own}{ρ:Rho}{σ:St}{H H':Hp}{S S':Addr->Prop}
def c4a:TDS:=fun D ρ=>D.nx ρ
def dSeq(t u:TDS):TDS:=fun D ρ=>t { D with nx:=u D } ρ
theorem d5a:AdS K d3d c4a:=fun c O ρ σ H D Dd R E h=>E.nx O ρ σ H R .refl h
theorem e0d{t u:TS}{dt du:TDS}(h:AdS K t dt)(h':AdS K u du):AdS K (tSeq t u) (dSeq dt du):=fun c O ρ σ H D Dd R E q =>
 h c O ρ σ H { D with nx:=u D } { Dd with nx:=du Dd } R ⟨fun O1 ρ1 σ1 H1 R1 P1 q1=>h' c O1 ρ1 σ1 H1 D Dd R1 (E.later P1) q1,E.rt,E.bk,E.ct,E.mb,E.oa⟩ q
def e0e:TDS:=fun D ρ=>D.bk ρ
def dCont:TDS:=fun D ρ=>D.ct ρ
def c4b(de:TDE):TDS:=fun D ρ=>de ρ fun _ ρ1=>D.nx ρ1
theorem d5b{t:TE}{de:TDE}(h:AdE K t de):AdS K (d3e t) (c4b de):=fun c O ρ σ H D Dd R E q =>
 h c O ρ σ H _ _ R q fun x ρ1 O1 v H1 h1 R1 P1 a1=>E.nx O1 ρ1 σ H1 R1 P1 h1
def dRet(de:TDE):TDS:=fun D ρ=>de ρ fun x ρ1=>fz ρ1 x fun y ρ2=>D.rt (.d y) ρ2
theorem e0f{t:TE}{de:TDE}(h:AdE K t de):AdS K (tRet t) (dRet de):=fun c O ρ σ H D Dd R E q =>
 h c O ρ σ H _ _ R q fun x ρ1 O1 v H1 h1 R1 P1 a1=>by
  obtain⟨y,ρ2,O2,h2,R2,P2,a2⟩:=R1.fz a1 h1
  exact E.rt (.d y) O2 ρ2 σ H1 v ⟨R2,a2⟩ h2
def c4c(df:TDF):TDS:=fun D ρ=>df ρ fun xs ρ1=>D.rt (.new xs) ρ1
theorem d5c{t:TE}{df:TDF}(h:AdF K t df):AdS K (tRet t) (c4c df):=fun c O ρ σ H D Dd R E q =>
 h c O ρ σ H _ _ R q fun xs ρ1 O1 p vs H1 h1 R1 P1 f1 hp a1=>E.rt (.new xs) O1 ρ1 σ H1 _ ⟨p,vs,rfl,R1,f1,hp,a1⟩ h1
noncomputable def ownAt(ρ:Rho)(i:Nat):Option (List PyData):=match ρ[i]?.join with
 | some (.own xs)=>some xs
 | _=>none
def d5d(i:Nat):TDS:=fun D ρ=>need (ownAt ρ i) fun xs=>D.rt (.new xs) (ρ.set i none)
def dIf(c:TDT)(t u:TDS):TDS:=fun D ρ=>c ρ fun b ρ1=>if b=true then t D ρ1 else u D ρ1
theorem ad_if{tc:TT}{t u:TS}{dc:TDT}{dt du:TDS}(hc:AdT K tc dc)(h:AdS K t dt)(h':AdS K u du):AdS K (tIfS tc t u) (dIf dc dt du):=fun c O ρ σ H D Dd R E q =>
 hc c O ρ σ H _ _ R q fun b ρ1 O1 H1 h1 R1 P1=>by
  cases b with
  | true=>rw [if_pos rfl] at h1 ⊢;exact h c O1 ρ1 σ H1 D Dd R1 (E.later P1) h1
  | false=>rw [if_neg Bool.false_ne_true] at h1 ⊢;exact h' c O1 ρ1 σ H1 D Dd R1 (E.later P1) h1
def dRetN:TDS:=fun D ρ=>D.rt (.d .none) ρ
def dSet(i:Nat)(de:TDE):TDS:=fun D ρ=>de ρ fun x ρ1=>fz ρ1 x fun y ρ2=>i < ρ2.length/\D.nx (ρ2.set i (some (.d y)))
theorem e0g{i:Nat}{t:TE}{de:TDE}(h:AdE K t de):AdS K (tAsg t (a7o i)) (dSet i de):=fun c O ρ σ H D Dd R E q =>
 h c O ρ σ H _ _ R q fun x ρ1 O1 v H1 h1 R1 P1 a1=>by
  obtain⟨y,ρ2,O2,⟨hi,h2⟩,R2,P2,a2⟩:=R1.fz a1 h1
  obtain⟨R3,P3⟩:=R2.setD hi a2
  exact E.nx _ _ _ H1 R3 ((P1.trans P2).trans P3) h2
def b7x(i:Nat)(df:TDF):TDS:=fun D ρ=>df ρ fun xs ρ1=>i < ρ1.length/\D.nx (ρ1.set i (some (.own xs)))
theorem c2j{i:Nat}{t:TE}{df:TDF}(h:AdF K t df):AdS K (tAsg t (a7o i)) (b7x i df):=fun c O ρ σ H D Dd R E q =>
 h c O ρ σ H _ _ R q fun xs ρ1 O1 p vs H1 h1 R1 P1 f1 hp a1=>by
  obtain⟨hi,h2⟩:=h1
  obtain⟨R3,P3⟩:=R1.setOwn hi f1.1 f1.2.1 f1.2.2.1 f1.2.2.2 (E.oa _ f1.1) hp a1
  exact E.nx _ _ _ H1 R3 (P1.trans P3) h2
abbrev TDG:=PyData->Rho->(Rho->Prop)->Prop
abbrev TDGs:=List PyData->Rho->(Rho->Prop)->Prop
def AdG(K:W.Frag)(g:TG)(dg:TDG):Prop:=∀ (c:Rc) (O:Own) (ρ:Rho) (σ:St) (H:Hp) (x:PyData) (v:V) (Qd:Rho->Prop) (Q:St->Hp->Prop),Rel K c O ρ σ H->AtD K H (live c O) x v->dg x ρ Qd ->
 (∀ O' ρ' σ' ,Rel K c O' ρ' σ' H->Pers K (live c O) H (live c O') H->Qd ρ'->Q σ' H)->g v σ H Q
def AdGs(K:W.Frag)(g:TGs)(dg:TDGs):Prop:=∀ (c:Rc) (O:Own) (ρ:Rho) (σ:St) (H:Hp) (x:List PyData) (v:List V) (Qd:Rho->Prop) (Q:St->Hp->Prop),Rel K c O ρ σ H->a0b K H (live c O) x v->dg x ρ Qd ->
 (∀ O' ρ' σ' ,Rel K c O' ρ' σ' H->Pers K (live c O) H (live c O') H->Qd ρ'->Q σ' H)->g v σ H Q
def b9g(i:Nat):TDG:=fun x ρ Q=>i < ρ.length/\Q (ρ.set i (some (.d x)))
theorem d5e{i:Nat}:AdG K (a7o i) (b9g i):=fun c O ρ σ H x v Qd Q R a h k=>by
 obtain⟨R1,P1⟩:=R.setD h.1 a
 exact k _ _ _ R1 P1 h.2
noncomputable def b7y:TDGs:=fun xs ρ Q=>xs=[]/\Q ρ
def b9h(t:TDG)(u:TDGs):TDGs:=fun xs ρ Q=>match xs with
 | x :: r=>t x ρ fun ρ1=>u r ρ1 Q
 | []=>False
theorem e0h:AdGs K gNil b7y:=fun c O ρ σ H x v Qd Q R a h k=>by
 obtain⟨rfl,h⟩:=h
 exact⟨a.unnil,k _ _ _ R .refl h⟩
theorem d5f{t:TG}{u:TGs}{dt:TDG}{du:TDGs}(h:AdG K t dt)(h':AdGs K u du):AdGs K (d3f t u) (b9h dt du):=fun c O ρ σ H x v Qd Q R a q k=>by
 cases x with
 | nil=>exact(show False from q).elim
 | cons x r =>
  obtain⟨w,ws,rfl,a1,a2⟩:=a.uncons
  exact⟨w,ws,rfl,h c O ρ σ H x w _ _ R a1 q fun O1 ρ1 σ1 R1 P1 q1=>h' c O1 ρ1 σ1 H r ws _ _ R1 (P1.all a2) q1 fun O2 ρ2 σ2 R2 P2 q2=>k _ _ _ R2 (P1.trans P2) q2⟩
def c4d(n:Nat)(t:TDGs):TDG:=fun x ρ Q=>match x with
 | .tuple xs=>xs.length=n/\t xs ρ Q
 | _=>False
theorem e0i{n:Nat}{t:TGs}{dt:TDGs}(h:AdGs K t dt):AdG K (gTup K n t) (c4d n dt):=fun c O ρ σ H x v Qd Q R a q k=>by
 cases x with
 | tuple xs =>
  obtain⟨hn,q⟩:=q
  obtain⟨b,ws,rfl,h1,h2⟩:=a2s a
  exact⟨b,ws,rfl,h1,by rw [h2.length];exact hn,h c O ρ σ H xs ws _ _ R h2 q k⟩
 | _=>exact(show False from q).elim
def dAsg(de:TDE)(g:TDG):TDS:=fun D ρ=>de ρ fun x ρ1=>fz ρ1 x fun y ρ2=>g y ρ2 D.nx
inductive OK where | o | b
noncomputable def ownB(ρ:Rho)(i:Nat):Option (OK × List PyData):=match ρ[i]?.join with
 | some (.own xs)=>some (.o,xs)
 | some (.bor xs)=>some (.b,xs)
 | _=>none
noncomputable def okL:OK->List PyData->L
 | .o,xs=>.own xs
 | .b,xs=>.bor xs
theorem b5u{i:Nat}{o:OK}{xs:List PyData}(R:Rel K c O ρ σ H)(h:ownB ρ i=some (o,xs)):ρ[i]? = some (some (okL o xs))/\∃ p vs,O i=some p/\σ[i]? = some (some (.ref p))/\H p=some (.lst vs)/\a0b K H (live c O) xs vs:=by
 unfold ownB at h
 split at h
 ·rename_i ys e
  cases h
  have e':=a2b e
  obtain⟨p,vs,h1,_,h3,h4,h5⟩:=R.own i _ e'
  exact⟨e',p,vs,h1,h3,h4,h5⟩
 ·rename_i ys e
  cases h
  have e':=a2b e
  obtain⟨p,vs,h1,h3,h4,h5⟩:=R.bor i _ e'
  exact⟨e',p,vs,h1,h3,h4,h5⟩
 ·cases h
theorem Rel.writeB{i:Nat}{o:OK}{p:Addr}{xs ys:List PyData}{vs vs':List V}(R:Rel K c O ρ σ H)(hO:O i=some p)(hH:H p=some (.lst vs))(e:ρ[i]? = some (some (okL o xs)))(h:a0b K H (live c O) ys vs') :
  Rel K c O (ρ.set i (some (okL o ys))) σ (upd H p (.lst vs'))/\Pers K (live c O) H (live c O) (upd H p (.lst vs')):=by
 cases o with
 | o=>exact R.write hO hH (.inl e) (.inl ⟨ys,e,rfl,h⟩)
 | b=>exact R.write hO hH (.inr (.inl e)) (.inr (.inl ⟨ys,e,rfl,h⟩))
def b5v(i:Nat)(de:TDE):TDE:=fun ρ Q=>need (ownB ρ i) fun _=>de ρ fun x ρ1=>fz ρ1 x fun y ρ2=>need (ownB ρ2 i) fun o=>o.2.length <= 1000000/\Q (.d .none) (ρ2.set i (some (okL o.1 (o.2 ++ [y]))))
theorem c7d{i:Nat}{t:TE}{de:TDE}(h:AdE K t de):AdE K (tBM K "list" c2e (tVar i) (a5l t tNil)) (b5v i de):=by
 intro c O ρ σ H Qd Q R q k
 obtain⟨hz6,e,q⟩:=ne (q)
 obtain⟨o,xs⟩:=hz6
 obtain⟨e0,p,vs,hO,hσ,hH,hA⟩:=b5u R e
 refine⟨.ref p,hσ,.inl ⟨rfl,vs,SqL.of hH⟩,?_⟩
 refine h c O ρ σ H _ _ R q fun x ρ1 O1 v H1 h1 R1 P1 a1=>?_
 obtain⟨y,ρ2,O2,hz19,R2,P2,a2⟩:=R1.fz a1 h1
 obtain⟨hz23,e2,hn25⟩:=ne (hz19)
 obtain⟨hz,h2⟩:=hn25
 obtain⟨o2,xs2⟩:=hz23
 obtain⟨e3,p2,vs2,hO2,hσ2,hH2,hA2⟩:=b5u R2 e2
 rw [hσ] at hσ2;cases hσ2
 refine⟨p,vs2,v,rfl,rfl,hH2,by rw [hA2.length];exact mil hz,?_⟩
 obtain⟨R3,P3⟩:=R2.writeB hO2 hH2 e3 (hA2.snoc a2)
 exact k _ _ _ _ _ h2 R3 ((P1.trans P2).trans P3) c9u
def dPop(i:Nat):TDE:=fun ρ Q=>need (ownB ρ i) fun o=>need o.2.getLast? fun y=>Q (.d y) (ρ.set i (some (okL o.1 o.2.dropLast)))
theorem a0b.dropLast{ds:List PyData}{vs:List V}(h:a0b K H S ds vs):a0b K H S ds.dropLast vs.dropLast:=by
 rw [List.dropLast_eq_take,List.dropLast_eq_take,h.length];exact h.take _
theorem e0j{i:Nat}:AdE K (tBM0 K "list" rPop (tVar i)) (dPop i):=by
 intro c O ρ σ H Qd Q R q k
 obtain⟨hz5,e,hn16⟩:=ne (q)
 obtain⟨y,ey,q⟩:=ne (hn16)
 obtain⟨o,xs⟩:=hz5
 obtain⟨e0,p,vs,hO,hσ,hH,hA⟩:=b5u R e
 have ey':xs[xs.length - 1]? = some y:=by rw [← List.getLast?_eq_getElem?];exact ey
 obtain⟨v,ev,av⟩:=hA.get ey'
 refine⟨.ref p,hσ,.inl ⟨rfl,vs,SqL.of hH⟩,p,vs,v,rfl,rfl,hH,by rw [hA.length];exact ev,?_⟩
 obtain⟨R3,P3⟩:=R.writeB hO hH e0 hA.dropLast
 exact k _ _ _ _ _ q R3 P3 (P3 _ _ av:AtD _ _ _ y v)
def b9i(i:Nat)(di de:TDE):TDS:=fun D ρ=>de ρ fun x ρ1=>fz ρ1 x fun y ρ2=>need (ownB ρ2 i) fun _=>di ρ2 fun z ρ3=>need (a0n ρ3 z) fun dz=>need (asI dz) fun n=>need (ownB ρ3 i) fun o=>need (ixN o.2.length n) fun j=>D.nx (ρ3.set i (some (okL o.1 (o.2.set j y))))
 where asI:PyData->Option Int
  | .int i=>some i
  | _=>none
def b9j(c:TDT)(b:TDS):TDS:=fun D ρ=>∃ W:Nat->Rho->Prop,(∃ m,W m ρ)/\∀ m ρ,W m ρ->c ρ fun k ρ1=>if k=true then b { D with nx:=fun ρ2=>∃ m',m' < m/\W m' ρ2,ct:=fun ρ2=>∃ m',m' < m/\W m' ρ2,bk:=D.nx } ρ1 else D.nx ρ1
theorem c9w{tc:TT}{tb:TS}{dc:TDT}{db:TDS}(hc:AdT K tc dc)(hb:AdS K tb db):AdS K (c6i tc tb) (b9j dc db):=fun c O ρ σ H D Dd R E q=>by
 obtain⟨W,⟨m0,w0⟩,turn⟩:=q
 refine⟨fun m σ' H'=>∃ O' ρ',Rel K c O' ρ' σ' H'/\Pers K (live c O) H (live c O') H'/\W m ρ',⟨m0,O,ρ,R,.refl,w0⟩,?_⟩
 rintro m σ1 H1 ⟨O1,ρ1,R1,P1,w1⟩
 refine hc c O1 ρ1 σ1 H1 _ _ R1 (turn m ρ1 w1) fun b ρ2 O2 H2 h2 R2 P2=>?_
 have P:=P1.trans P2
 cases b with
 | true =>
  rw [if_pos rfl] at h2 ⊢
  refine⟨fun σ' H'=>∃ O' ρ' m',Rel K c O' ρ' σ' H'/\Pers K (live c O) H (live c O') H'/\m' < m/\W m' ρ',fun σ' H' hq8=>by obtain⟨O',ρ',m',R',P',hm,w'⟩:=hq8;exact⟨m',hm,O',ρ',R',P',w'⟩,?_⟩
  exact hb c O2 ρ2 σ1 H2 _ { Dd with nx:=fun ρ2=>∃ m',m' < m/\W m' ρ2,ct:=fun ρ2=>∃ m',m' < m/\W m' ρ2,bk:=Dd.nx } R2 ⟨fun O3 ρ3 σ3 H3 R3 P3 hq8=>by obtain⟨m',hm,w3⟩:=hq8;exact⟨O3,ρ3,m',R3,P.trans P3,hm,w3⟩,E.rt,fun O3 ρ3 σ3 H3 R3 P3=>E.nx _ _ _ _ R3 (P.trans P3),fun O3 ρ3 σ3 H3 R3 P3 hq8=>by obtain⟨m',hm,w3⟩:=hq8;exact⟨O3,ρ3,m',R3,P.trans P3,hm,w3⟩,E.mb,E.oa⟩ h2
 | false =>
  rw [if_neg Bool.false_ne_true] at h2 ⊢
  exact E.nx _ _ _ _ R2 P h2
abbrev TDI:=Rho->(List PyData->Rho->Prop)->Prop
def a8v(K:W.Frag)(S:Addr->Prop)(H:Hp)(J:It)(xs:List PyData):Prop:=∀ (S':Addr->Prop) (H':Hp),Pers K S H S' H' ->
 (∀ (i:Nat) (x:PyData),xs[i]? = some x->J.go i H'/\∀ v H'',J.yld i H' v H''->Same H' H''/\AtD K H'' S' x v)/\J.stop xs.length H'
def AdI(K:W.Frag)(t:TI)(di:TDI):Prop:=∀ (c:Rc) (O:Own) (ρ:Rho) (σ:St) (H:Hp) (Qd:List PyData->Rho->Prop) (Q:It->Hp->Prop),Rel K c O ρ σ H->di ρ Qd ->
 (∀ xs ρ' O' J H',Qd xs ρ'->Rel K c O' ρ' σ H'->Pers K (live c O) H (live c O') H'->a8v K (live c O') H' J xs->Q J H')->t σ H Q
def DI(X:Cx)(tg iter:Expr)(di:TDI):Prop:=∃ t,PI X tg iter t/\AdI X.K t di
theorem c4e{a:Addr}{vs:List V}{xs:List PyData}(h1:SqT K H a vs)(h2:a0b K H S xs vs):a8v K S H (Itt K a) xs:=fun S' H' P=>by
 obtain⟨b,ws,e,h3,h4⟩:=a2s (P _ _ (a1o h1 h2))
 cases e
 refine⟨fun i x e=>?_,⟨ws,h3,by rw [h4.length];exact Nat.le_refl _⟩⟩
 obtain⟨w,e1,e2⟩:=h4.get e
 refine⟨⟨ws,w,h3,e1⟩,fun v H'' y=>?_⟩
 obtain⟨rfl,y⟩:=y
 have e3:=y ws h3
 rw [e1] at e3;cases e3
 exact⟨Same.refl _,e2⟩
theorem c4f{a:Addr}{vs:List V}{xs:List PyData}(hS:S a)(h1:H a=some (.lst vs))(h2:a0b K H S xs vs):a8v K S H (Itl K a) xs:=fun S' H' P=>by
 obtain⟨b,ws,e,_,h3,h4⟩:=a3x (P _ _ (a4z hS h1 h2))
 cases e
 refine⟨fun i x e=>?_,⟨ws,SqL.of h3,by rw [h4.length];exact Nat.le_refl _⟩⟩
 obtain⟨w,e1,e2⟩:=h4.get e
 refine⟨⟨ws,w,SqL.of h3,e1⟩,fun v H'' y=>?_⟩
 obtain⟨rfl,y⟩:=y
 have e3:=y ws (SqL.of h3)
 rw [e1] at e3;cases e3
 exact⟨Same.refl _,e2⟩
def c4g(de:TDE):TDI:=fun ρ Q=>de ρ fun x ρ1=>fz ρ1 x fun y ρ2=>need (seqD y) fun xs=>Q xs ρ2
theorem e0k{t:TE}{de:TDE}(h:AdE K t de):AdI K (iDat K t) (c4g de):=fun c O ρ σ H Qd Q R q k =>
 h c O ρ σ H _ _ R q fun x ρ1 O1 v H1 h1 R1 P1 a1=>by
  obtain⟨y,ρ2,O2,hz3,R2,P2,a2⟩:=R1.fz a1 h1
  obtain⟨xs,e,h2⟩:=ne (hz3)
  cases y with
  | list ys =>
   cases e
   obtain⟨a,vs,rfl,hS,h3,h4⟩:=a3x a2
   exact .inr ⟨a,rfl,⟨vs,SqL.of h3⟩,k _ _ _ _ _ h2 R2 (P1.trans P2) (c4f hS h3 h4)⟩
  | tuple ys =>
   cases e
   obtain⟨a,vs,rfl,h3,h4⟩:=a2s a2
   exact .inl ⟨a,rfl,⟨vs,h3⟩,k _ _ _ _ _ h2 R2 (P1.trans P2) (c4e h3 h4)⟩
  | _=>cases e
noncomputable def rngD(lo:Int)(n:Nat):List PyData:=(List.range n).map fun i=>.int (lo + (i:Nat))
theorem c4h{lo:Int}{n:Nat}:a8v K S H (Itr lo n) (rngD lo n):=fun S' H' P=>by
 have hl:(rngD lo n).length=n:=by simp [rngD]
 refine⟨fun i x e=>?_,by rw [hl];exact Nat.le_refl _⟩
 have hi:i < n:=by rw [← hl];exact(List.getElem?_eq_some_iff.mp e).1
 have ex:x=.int (lo + (i:Nat)):=by
  simp only [rngD,getElem?_map,List.getElem?_range hi,map_some] at e
  exact(Option.some.inj e).symm
 subst ex
 refine⟨hi,fun v H'' y=>?_⟩
 obtain⟨rfl,rfl⟩:=y
 exact⟨Same.refl _,a3o _⟩
noncomputable def asI:PyData->Option Int
 | .int i=>some i
 | _=>none
theorem c7e{d:PyData}{v:V}{i:Int}(h:AtT K H S d v)(e:asI d=some i):v=.int i:=by
 cases d with
 | int i'=>cases e;exact h.int
 | _=>cases e
def sm62(i:Int):Prop:=-(2 ^ 62) <= i/\i < 2 ^ 62
def b9k(de:TDE):TDI:=fun ρ Q=>de ρ fun x ρ1=>need (a0n ρ1 x) fun d=>need (asI d) fun j=>sm62 j/\Q (rngD 0 j.toNat) ρ1
theorem d5g{t:TE}{de:TDE}(h:AdE K t de):AdI K (d3g (a5l t tNil)) (b9k de):=fun c O ρ σ H Qd Q R q k =>
 h c O ρ σ H _ _ R q fun x ρ1 O1 v H1 h1 R1 P1 a1=>by
  obtain⟨d,e1,hn2⟩:=ne (h1)
  obtain⟨j,e2,hn14⟩:=ne (hn2)
  obtain⟨hj,h2⟩:=hn14
  have ev:=c7e (R1.top a1 e1) e2
  exact⟨j,by rw [ev],hj.1,hj.2,k _ _ _ _ _ h2 R1 P1 c4h⟩
def a5n(g:TDG)(b:TDS)(D:DEnds):List PyData->Rho->Prop
 | [],ρ=>D.nx ρ
 | x :: r,ρ=>g x ρ fun ρ1=>b { D with nx:=a5n g b D r,ct:=a5n g b D r,bk:=D.nx } ρ1
def dFor(di:TDI)(g:TDG)(b:TDS):TDS:=fun D ρ=>di ρ fun xs ρ1=>a5n g b D xs ρ1
theorem e0l{ti:TI}{tg:TG}{tb:TS}{di:TDI}{dg:TDG}{db:TDS}(hi:AdI K ti di)(hg:AdG K tg dg)(hb:AdS K tb db):AdS K (tFor ti tg tb) (dFor di dg db):=fun c O ρ σ H D Dd R E q =>
 hi c O ρ σ H _ _ R q fun xs ρ1 O1 J H1 h1 R1 P1 I1=>by
  refine⟨fun i m σ' H'=>m=xs.length - i/\i <= xs.length/\∃ O' ρ',Rel K c O' ρ' σ' H'/\Pers K (live c O1) H1 (live c O') H'/\a5n dg db Dd (xs.drop i) ρ',⟨xs.length,by simp,zero_le _,O1,ρ1,R1,.refl,by rw [drop_zero];exact h1⟩,?_⟩
  rintro i m σ2 H2 ⟨rfl,hle,O2,ρ2,R2,P2,h2⟩
  obtain⟨it,stop⟩:=I1 _ _ P2
  by_cases hlt:i < xs.length
  ·rw [List.drop_eq_getElem_cons hlt] at h2
   obtain⟨go,yld⟩:=it i xs[i] (getElem?_eq_getElem hlt)
   have h2':dg xs[i] ρ2 fun ρ1=>db { Dd with nx:=a5n dg db Dd (xs.drop (i + 1)),ct:=a5n dg db Dd (xs.drop (i + 1)),bk:=Dd.nx } ρ1:=h2
   refine .inr ⟨go,fun σ' H'=>∃ O' ρ',Rel K c O' ρ' σ' H'/\Pers K (live c O1) H1 (live c O') H'/\a5n dg db Dd (xs.drop (i + 1)) ρ',fun σ' H' hq8=>by obtain⟨O',ρ',R',P',q'⟩:=hq8;exact⟨xs.length - (i + 1),by omega,rfl,hlt,O',ρ',R',P',q'⟩,fun v H3 y=>?_⟩
   obtain⟨s3,a3⟩:=yld v H3 y
   refine hg c O2 ρ2 σ2 H3 xs[i] v _ _ (R2.grow s3) a3 h2' fun O4 ρ4 σ4 R4 P4 h4=>?_
   have P5:Pers K (live c O1) H1 (live c O4) H3:=(P2.trans (.same s3)).trans P4
   exact hb c O4 ρ4 σ4 H3 _ { Dd with nx:=a5n dg db Dd (xs.drop (i + 1)),ct:=a5n dg db Dd (xs.drop (i + 1)),bk:=Dd.nx } R4 ⟨fun O6 ρ6 σ6 H6 R6 P6 q6=>⟨O6,ρ6,R6,P5.trans P6,q6⟩,E.rt,fun O6 ρ6 σ6 H6 R6 P6=>E.nx _ _ _ _ R6 ((P1.trans P5).trans P6),fun O6 ρ6 σ6 H6 R6 P6 q6=>⟨O6,ρ6,R6,P5.trans P6,q6⟩,E.mb,E.oa⟩ h4
  ·have e:i=xs.length:=by omega
   subst e
   rw [List.drop_eq_nil_of_le (Nat.le_refl _)] at h2
   exact .inl ⟨stop,E.nx _ _ _ _ R2 (P1.trans P2) h2⟩
end
end L2
end
section
namespace L2
open PySem PySem.Spec PyProof.Rows
noncomputable def a6a:L->L->Option L
 | .own _,.bor xs=>some (.own xs)
 | .bor _,.bor xs=>some (.bor xs)
 | .tape _,.tape k=>some (.tape k)
 | _,_=>none
noncomputable def lend:L->L
 | .own xs=>.bor xs
 | l=>l
noncomputable def isOw:L->Bool
 | .own _=>true
 | .bor _=>true
 | .tape _=>true
 | _=>false
abbrev Lent:=Nat->Option Nat
section
variable{K:W.Frag}{c:Rc}{O:Own}{ρ:Rho}{σ:St}{H H':Hp}{S S':Addr->Prop}
theorem Rel.ow{i:Nat}{l:L}(R:Rel K c O ρ σ H)(h:ρ[i]? = some (some l))(ho:isOw l=true):∃ p,O i=some p/\σ[i]? = some (some (.ref p)):=by
 cases l with
 | own xs=>obtain⟨p,vs,h1,_,h3,_⟩:=R.own i xs h;exact⟨p,h1,h3⟩
 | bor xs=>obtain⟨p,vs,h1,h3,_⟩:=R.bor i xs h;exact⟨p,h1,h3⟩
 | tape k=>obtain⟨p,h1,h3,_⟩:=R.tap i k h;exact⟨p,h1,h3⟩
 | _=>cases ho
noncomputable def Holds(K:W.Frag)(c:Rc)(S:Addr->Prop)(H:Hp)(p:Addr):L->Prop
 | .own xs=>∃ vs,H p=some (.lst vs)/\a0b K H S xs vs
 | .bor xs=>∃ vs,H p=some (.lst vs)/\a0b K H S xs vs
 | .tape k=>H p=some (.lst [.ref c.sa,.int k])
 | _=>False
theorem Rel.holds{i:Nat}{l:L}(R:Rel K c O ρ σ H)(h:ρ[i]? = some (some l))(ho:isOw l=true):∃ p,O i=some p/\σ[i]? = some (some (.ref p))/\Holds K c (live c O) H p l/\(∀ xs,l=.own xs->b0l c p):=by
 cases l with
 | own xs=>obtain⟨p,vs,h1,h2,h3,h4,h5⟩:=R.own i xs h;exact⟨p,h1,h3,⟨vs,h4,h5⟩,fun _ _=>h2⟩
 | bor xs=>obtain⟨p,vs,h1,h3,h4,h5⟩:=R.bor i xs h;exact⟨p,h1,h3,⟨vs,h4,h5⟩,fun _ z=>nomatch z⟩
 | tape k=>obtain⟨p,h1,h3,h4⟩:=R.tap i k h;exact⟨p,h1,h3,h4,fun _ z=>nomatch z⟩
 | _=>cases ho
mutual
theorem AtD.inH(hs:∀ a,S a->H a ≠ none->S' a):∀ (d:PyData) (v:V),AtD K H S d v->AtD K H S' d v
 | .none,_,h=>by unfold AtD at h ⊢;exact h
 | .bool _,_,h=>by unfold AtD at h ⊢;exact h
 | .int _,_,h=>by unfold AtD at h ⊢;exact h
 | .str _,_,h=>by unfold AtD at h ⊢;exact h
 | .list ds,v,h=>by
  obtain⟨a,xs,e1,s,q,r⟩:=a3x h
  subst e1
  exact a4z (hs a s (by rw [q];exact fun z=>nomatch z)) q (a0b.inH hs ds xs r)
 | .tuple ds,v,h=>by
  obtain⟨a,xs,e1,q,r⟩:=a2s h
  subst e1
  exact a1o q (a0b.inH hs ds xs r)
 | .dict kvs,v,h=>by
  obtain⟨a,ν,e1,s,q,e2⟩:=a8e h
  subst e1
  exact b1l (hs a s (by rw [q];exact fun z=>nomatch z)) q (a0s.inH hs kvs ν e2)
theorem a0b.inH(hs:∀ a,S a->H a ≠ none->S' a):∀ (ds:List PyData) (vs:List V),a0b K H S ds vs->a0b K H S' ds vs
 | [],_,h=>by rw [h.unnil];exact .nil
 | d :: ds,vs,h=>by
  obtain⟨v,r,rfl,h1,h2⟩:=h.uncons
  exact .cons (AtD.inH hs d v h1) (a0b.inH hs ds r h2)
theorem a0s.inH(hs:∀ a,S a->H a ≠ none->S' a):∀ (kvs:List (PyData × PyData)) (κ:List (Key × V)),a0s K H S kvs κ->a0s K H S' kvs κ
 | [],_,h=>by rw [h.unnil];exact .nil
 | (x,d) :: r,κ,h=>by
  obtain⟨k,v,t,rfl,rfl,h1,h2⟩:=h.uncons
  exact .cons (AtD.inH hs d v h1) (a0s.inH hs r t h2)
end
noncomputable def a1j(O:Own)(ρ:Rho)(f:Lent):Own:=fun j=>(f j).bind fun i=>match ρ[i]?.join with
 | some l=>if isOw l then O i else none
 | none=>none
noncomputable def Rc.in(c:Rc)(O Oc:Own)(P:Addr->Prop)(b:Bool)(H:Hp):Rc:={ A:=fun p=>(∃ j,Oc j=some p) ∨ (b=true/\H p=none),H0:=H,S:=live c O,P:=P,M:=fun p=>∃ j,Oc j=some p,B:=fun p=>∃ j,Oc j=some p,lent:=Oc,sa:=c.sa,ns:=c.ns }
theorem a2g{f:Lent}{j:Nat}{p:Addr}(h:a1j O ρ f j=some p):∃ i l,f j=some i/\ρ[i]? = some (some l)/\isOw l=true/\O i=some p:=by
 unfold a1j at h
 cases e:f j with
 | none=>rw [e] at h;cases h
 | some i =>
  rw [e] at h
  have h':(match ρ[i]?.join with | some l=>if isOw l then O i else none | none=>none)=some p:=h
  split at h'
  ·rename_i l el
   split at h'
   ·rename_i ho
    exact⟨i,l,rfl,a2b el,ho,h'⟩
   ·cases h'
  ·cases h'
theorem b3d{f:Lent}{j i:Nat}{l:L}(e:f j=some i)(h:ρ[i]? = some (some l))(ho:isOw l=true):a1j O ρ f j=O i:=by
 unfold a1j
 rw [e]
 show(match ρ[i]?.join with | some l=>if isOw l then O i else none | none=>none)=O i
 rw [h]
 show(if isOw l then O i else none)=O i
 rw [if_pos ho]
structure Begins(K:W.Frag)(c:Rc)(O:Own)(ρ:Rho)(σ:St)(H:Hp)(f:Lent)(ρi:Rho)(σi:St):Prop where
 io:∀ (j:Nat) (l:L),ρi[j]? = some (some l)->isOw l=true->∃ i l0,f j=some i/\ρ[i]? = some (some l0)/\isOw l0=true/\l=lend l0/\σi[j]? = σ[i]?
 dat:∀ (j:Nat) (x:PyData),ρi[j]? = some (some (.d x))->∃ v,σi[j]? = some (some v)/\AtD K H (live c O) x v
 scr:∀ j:Nat,ρi[j]? = some (some .scr)->σi[j]? = some (some (.ref c.sa))
 inj:∀ j k i,f j=some i->f k=some i->j=k
 len:σi.length=ρi.length
theorem Rel.begin{b:Bool}{f:Lent}{ρi:Rho}{σi:St}{P:Addr->Prop}{H':Hp}(R:Rel K c O ρ σ H)(B:Begins K c O ρ σ H f ρi σi)(hs:Same H H')(hP:∀ p,P p->H p=none/\H' p ≠ none) :
  Rel K (c.in O (a1j O ρ f) P b H') (a1j O ρ f) ρi σi H'/\Pers K (live c O) H (live (c.in O (a1j O ρ f) P b H') (a1j O ρ f)) H':=by
 have hl:∀ a,live c O a->H a ≠ none->live (c.in O (a1j O ρ f) P b H') (a1j O ρ f) a:=fun a h n=>⟨h,fun z=>n (hP a z).1,fun j e=>by
  obtain⟨i,l,_,_,_,e2⟩:=a2g e
  exact h.2.2 i e2⟩
 have P1:Pers K (live c O) H (live (c.in O (a1j O ρ f) P b H') (a1j O ρ f)) H':=fun d v h =>
  AtD.mono hs.keep _ _ (AtD.inH hl d v h)
 refine⟨⟨fun j x e=>?_,fun j xs e=>?_,fun j xs e=>?_,fun j k e=>?_,fun j e=>B.scr j e,fun j k p e1 e2=>?_,fun j p e=>?_,fun p hp=>hp.elim .inl fun z=>.inr z.2,fun p hp=>?_,fun b o _ q=>q,fun b n=>n,fun p h=>?_,fun p h=>?_,fun j p e l h1 h2=>e,?_,B.len⟩,P1⟩
 ·obtain⟨v,h1,h2⟩:=B.dat j x e
  exact⟨v,h1,P1 _ _ h2⟩
 ·obtain⟨i,l0,_,h2,h3,h4,_⟩:=B.io j _ e rfl
  cases l0<;>cases h4
 ·obtain⟨i,l0,h1,h2,h3,h4,h5⟩:=B.io j _ e rfl
  obtain⟨p,e1,e2,e3,_⟩:=R.holds h2 h3
  have eO:a1j O ρ f j=some p:=(b3d h1 h2 h3).trans e1
  cases l0 with
  | own ys=>cases h4;obtain⟨vs,e4,e5⟩:=e3;exact⟨p,vs,eO,by rw [h5];exact e2,hs _ _ e4,P1.all e5⟩
  | bor ys=>cases h4;obtain⟨vs,e4,e5⟩:=e3;exact⟨p,vs,eO,by rw [h5];exact e2,hs _ _ e4,P1.all e5⟩
  | _=>cases h4
 ·obtain⟨i,l0,h1,h2,h3,h4,h5⟩:=B.io j _ e rfl
  obtain⟨p,e1,e2,e3,_⟩:=R.holds h2 h3
  have eO:a1j O ρ f j=some p:=(b3d h1 h2 h3).trans e1
  cases l0 with
  | tape k0=>cases h4;exact⟨p,eO,by rw [h5];exact e2,hs _ _ e3⟩
  | _=>cases h4
 ·obtain⟨i1,_,f1,_,_,o1⟩:=a2g e1
  obtain⟨i2,_,f2,_,_,o2⟩:=a2g e2
  have:=R.inj i1 i2 p o1 o2
  subst this
  exact B.inj j k i1 f1 f2
 ·obtain⟨i1,_,f1,_,_,o1⟩:=a2g e
  obtain⟨_,vs,h⟩:=R.has i1 p o1
  exact⟨.inl ⟨j,e⟩,vs,hs _ _ h⟩
 ·have hp':H p=none:=hs.free hp
  exact R.liveNew hp'
 ·obtain⟨j,e⟩:=h
  obtain⟨i1,_,f1,_,_,o1⟩:=a2g e
  obtain⟨_,vs,h⟩:=R.has i1 p o1
  exact⟨vs,hs _ _ h⟩
 ·rcases h with h | ⟨j,e⟩
  ·exact(hP p h).2
  ·obtain⟨i1,_,f1,_,_,o1⟩:=a2g e
   obtain⟨_,vs,h⟩:=R.has i1 p o1
   rw [hs _ _ h];exact fun z=>nomatch z
 ·exact R.sc.keep (S:=Any) hs.keep
end
end L2
end
section
namespace L2
open PySem PySem.Spec PyProof.Rows
noncomputable def a6b(ρi:Rho)(l0:L)(j:Nat):Option L:=(ρi[j]?.join).bind (a6a l0)
noncomputable def a5b(ρi:Rho)(j i:Nat)(ρ:Rho):Rho:=match ρ[i]?.join with
 | some l0=>if isOw l0 then ρ.set i (a6b ρi l0 j) else ρ
 | none=>ρ
noncomputable def fills(ρi:Rho):List (Nat × Nat)->Rho->Rho
 | [],ρ=>ρ
 | (j,i) :: r,ρ=>fills ρi r (a5b ρi j i ρ)
theorem b9l{ρi ρ:Rho}{j i k:Nat}(h:k ≠ i):(a5b ρi j i ρ)[k]? = ρ[k]?:=by
 unfold a5b
 split
 ·split
  ·exact getElem?_set_ne (Ne.symm h)
  ·rfl
 ·rfl
theorem c9x{ρi ρ:Rho}{j i:Nat}{l0:L}(h:ρ[i]? = some (some l0))(ho:isOw l0=true):(a5b ρi j i ρ)[i]? = some (a6b ρi l0 j):=by
 have hi:i < ρ.length:=(List.getElem?_eq_some_iff.mp h).1
 unfold a5b
 rw [h]
 show(if isOw l0 then ρ.set i (a6b ρi l0 j) else ρ)[i]? = _
 rw [if_pos ho,getElem?_set_self hi]
theorem c9y{ρi ρ:Rho}{j i:Nat}(h:∀ l0,ρ[i]? = some (some l0)->isOw l0=false):a5b ρi j i ρ=ρ:=by
 unfold a5b
 split
 ·rename_i l0 e
  rw [h l0 (a2b e)]
  rfl
 ·rfl
theorem c7f{ρi ρ:Rho}{j i:Nat}:(a5b ρi j i ρ).length=ρ.length:=by
 unfold a5b
 split
 ·split
  ·rw [length_set]
  ·rfl
 ·rfl
theorem b7c{ρi:Rho}:∀ {fl:List (Nat × Nat)} {ρ:Rho},(fills ρi fl ρ).length=ρ.length
 | [],_=>rfl
 | (j,i) :: r,ρ=>by unfold fills;rw [b7c,c7f]
theorem a7b{ρi:Rho}:∀ {fl:List (Nat × Nat)} {ρ:Rho} {k:Nat},(∀ j,(j,k) ∈ fl->∀ l0,ρ[k]? = some (some l0)->isOw l0=false)->(fills ρi fl ρ)[k]? = ρ[k]?
 | [],_,_,_=>rfl
 | (j,i) :: r,ρ,k,h=>by
  unfold fills
  by_cases hk:k=i
  ·subst hk
   have e:=c9y (ρi:=ρi) (j:=j) (h j mem_cons_self)
   rw [e]
   exact a7b fun j' m=>h j' (mem_cons_of_mem _ m)
  ·have e:=b9l (ρi:=ρi) (ρ:=ρ) (j:=j) hk
   rw [a7b (ρ:=a5b ρi j i ρ) (fun j' m l0 q=>h j' (mem_cons_of_mem _ m) l0 (by rw [← e];exact q)),e]
theorem b9m{ρi:Rho}:∀ {fl:List (Nat × Nat)} {ρ:Rho} {j i:Nat} {l0:L},(fl.map (·.2)).Nodup->(j,i) ∈ fl->ρ[i]? = some (some l0)->isOw l0=true->(fills ρi fl ρ)[i]? = some (a6b ρi l0 j)
 | (j',i') :: r,ρ,j,i,l0,nd,m,h,ho=>by
  rw [map_cons,nodup_cons] at nd
  unfold fills
  rcases mem_cons.mp m with e | m2
  ·cases e
   rw [a7b fun j2 m2=>absurd (mem_map.mpr ⟨(j2,_),m2,rfl⟩) nd.1]
   exact c9x h ho
  ·have ne:i ≠ i':=by
    rintro rfl
    exact nd.1 (mem_map.mpr ⟨(j,_),m2,rfl⟩)
   exact b9m nd.2 m2 (by rw [b9l ne];exact h) ho
section
variable{K:W.Frag}{c:Rc}{O:Own}{ρ:Rho}{σ:St}{H H':Hp}{S S':Addr->Prop}
theorem b9n{l:L}(h:isIO l=true):isOw l=true:=by cases l<;>first | rfl | cases h
theorem Rel.finish{P':Addr->Prop}{fl:List (Nat × Nat)}{f:Lent}{ρi:Rho}{Oi:Own}{ci:Rc}{σi:St}(R:Rel K c O ρ σ H)(nd:(fl.map (·.2)).Nodup)(hf:∀ j i,(j,i) ∈ fl->f j=some i)(hf':∀ j i,f j=some i->(j,i) ∈ fl)
  (Ri:Rel K ci Oi ρi σi H') (hln:∀ j,ci.lent j=a1j O ρ f j) (hsa:ci.sa=c.sa) (hns:ci.ns=c.ns)
  (fr:∀ b o,(∀ j,a1j O ρ f j ≠ some b)->H b=some o->H' b=some o) (hk:∀ j p,a1j O ρ f j=some p->∃ vs,H' p=some (.lst vs))
  (hP:Pers K (live ci Oi) H' (live { c with P:=P' } O) H') (hp:Pers K (live c O) H (live { c with P:=P' } O) H')
  (hP':∀ p,P' p->c.P p ∨ (H' p ≠ none/\∀ i,O i ≠ some p)):Rel K { c with P:=P' } O (fills ρi fl ρ) σ H':=by
 -- a slot is lent, or it is as it was
 have cases_:∀ i:Nat,(∃ j l0,(j,i) ∈ fl/\ρ[i]? = some (some l0)/\isOw l0=true/\(fills ρi fl ρ)[i]? = some (a6b ρi l0 j)) ∨ ((fills ρi fl ρ)[i]? = ρ[i]? /\ ∀ p,O i=some p->(∃ l,ρ[i]? = some (some l)/\isOw l=true)->∀ j,a1j O ρ f j ≠ some p):=fun i=>by
  by_cases h:∃ j l0,(j,i) ∈ fl/\ρ[i]? = some (some l0)/\isOw l0=true
  ·obtain⟨j,l0,h1,h2,h3⟩:=h
   exact .inl ⟨j,l0,h1,h2,h3,b9m nd h1 h2 h3⟩
  ·refine .inr ⟨a7b fun j m l0 q=>?_,fun p hO ⟨l,e1,e2⟩ j z=>?_⟩
   ·cases q2:isOw l0 with
    | false=>rfl
    | true=>exact absurd ⟨j,l0,m,q,q2⟩ h
   ·obtain⟨i2,l2,g1,g2,g3,g4⟩:=a2g z
    have:=R.inj i2 i p g4 hO
    subst this
    exact h ⟨j,l2,hf' j _ g1,g2,g3⟩
 -- what a lent slot has now
 have lent_:∀ {i j:Nat} {l0 l:L},(j,i) ∈ fl->ρ[i]? = some (some l0)->isOw l0=true->a6b ρi l0 j=some l->∃ p l',O i=some p/\σ[i]? = some (some (.ref p))/\isIO l'=true/\a6a l0 l'=some l/\Holds K c (live { c with P:=P' } O) H' p l'/\(∀ xs,l0=.own xs->b0l c p):=fun{i j l0 l} m h2 h3 e=>by
  obtain⟨p,e1,e2,e3,e4⟩:=R.holds h2 h3
  unfold a6b at e
  cases el:ρi[j]?.join with
  | none=>rw [el] at e;cases e
  | some l' =>
   rw [el] at e
   have e':a6a l0 l'=some l:=e
   have hio:isIO l'=true:=by cases l0<;>cases l'<;>first | rfl | cases e'
   have el':=a2b el
   have elent:ci.lent j=some p:=(hln j).trans ((b3d (hf j i m) h2 h3).trans e1)
   have eO:=Ri.lnt j p elent l' el' hio
   obtain⟨p',g1,_,g3,_⟩:=Ri.holds el' (b9n hio)
   rw [eO] at g1;cases g1
   refine⟨p,l',e1,e2,hio,e',?_,e4⟩
   cases l' with
   | bor xs=>obtain⟨vs,q1,q2⟩:=g3;exact⟨vs,q1,hP.all q2⟩
   | tape k=>show H' p=_;rw [← hsa];exact g3
   | _=>cases hio
 have ok':∀ i p,O i=some p->b0l c p->b0l { c with P:=P' } p:=fun i p e h=>⟨h.1,h.2.1,fun z=>(hP' p z).elim h.2.2 fun w=>w.2 i e⟩
 have stay:∀ i p o,O i=some p->(∃ l,ρ[i]? = some (some l)/\isOw l=true)->(∀ p,O i=some p->(∃ l,ρ[i]? = some (some l)/\isOw l=true)->∀ j,a1j O ρ f j ≠ some p)->H p=some o->H' p=some o:=fun i p o e l n q=>fr p o (n p e l) q
 refine⟨fun i x e=>?_,fun i xs e=>?_,fun i xs e=>?_,fun i k e=>?_,fun i e=>?_,R.inj,fun i p e=>⟨(R.has' i p e).1,?_⟩,R.am,R.frs,fun b o n q=>?_,fun b n=>?_,fun p h=>?_,fun p h=>?_,fun i p e l h1 h2=>?_,?_,?_⟩
 ·rcases cases_ i with⟨j,l0,m,h2,h3,h4⟩ | ⟨h1,_⟩
  ·rw [h4] at e
   obtain⟨p,l',_,_,hio,hl,_⟩:=lent_ m h2 h3 (Option.some.inj e)
   cases l'<;>first | (cases hio;done) | (cases l0<;>cases hl)
  ·rw [h1] at e
   obtain⟨v,e1,e2⟩:=R.dat i x e
   exact⟨v,e1,hp _ _ e2⟩
 ·rcases cases_ i with⟨j,l0,m,h2,h3,h4⟩ | ⟨h1,h2⟩
  ·rw [h4] at e
   obtain⟨p,l',g1,g2,hio,hl,g3,g4⟩:=lent_ m h2 h3 (Option.some.inj e)
   cases l' with
   | bor ys =>
    cases l0 with
    | own zs=>cases hl;obtain⟨vs,q1,q2⟩:=g3;exact⟨p,vs,g1,ok' i p g1 (g4 _ rfl),g2,q1,q2⟩
    | _=>cases hl
   | tape k=>cases l0<;>cases hl
   | _=>cases hio
  ·rw [h1] at e
   obtain⟨p,vs,g1,g2,g3,g4,g5⟩:=R.own i xs e
   exact⟨p,vs,g1,ok' i p g1 g2,g3,stay i p _ g1 ⟨_,e,rfl⟩ h2 g4,hp.all g5⟩
 ·rcases cases_ i with⟨j,l0,m,h2,h3,h4⟩ | ⟨h1,h2⟩
  ·rw [h4] at e
   obtain⟨p,l',g1,g2,hio,hl,g3,g4⟩:=lent_ m h2 h3 (Option.some.inj e)
   cases l' with
   | bor ys =>
    cases l0<;>cases hl<;>(obtain⟨vs,q1,q2⟩:=g3;exact⟨p,vs,g1,g2,q1,q2⟩)
   | tape k=>cases l0<;>cases hl
   | _=>cases hio
  ·rw [h1] at e
   obtain⟨p,vs,g1,g3,g4,g5⟩:=R.bor i xs e
   exact⟨p,vs,g1,g3,stay i p _ g1 ⟨_,e,rfl⟩ h2 g4,hp.all g5⟩
 ·rcases cases_ i with⟨j,l0,m,h2,h3,h4⟩ | ⟨h1,h2⟩
  ·rw [h4] at e
   obtain⟨p,l',g1,g2,hio,hl,g3,g4⟩:=lent_ m h2 h3 (Option.some.inj e)
   cases l' with
   | bor ys=>cases l0<;>cases hl
   | tape k2=>cases l0<;>cases hl<;>exact⟨p,g1,g2,g3⟩
   | _=>cases hio
  ·rw [h1] at e
   obtain⟨p,g1,g3,g4⟩:=R.tap i k e
   exact⟨p,g1,g3,stay i p _ g1 ⟨_,e,rfl⟩ h2 g4⟩
 ·rcases cases_ i with⟨j,l0,m,h2,h3,h4⟩ | ⟨h1,h2⟩
  ·rw [h4] at e
   obtain⟨p,l',g1,g2,hio,hl,g3,g4⟩:=lent_ m h2 h3 (Option.some.inj e)
   cases l'<;>first | (cases hio;done) | (cases l0<;>cases hl)
  ·rw [h1] at e;exact R.scr i e
 ·obtain⟨_,vs,q⟩:=R.has i p e
  by_cases hlt:∃ j,a1j O ρ f j=some p
  ·obtain⟨j,hj⟩:=hlt;exact hk j p hj
  ·exact⟨vs,fr p _ (fun j z=>hlt ⟨j,z⟩) q⟩
 ·refine fr b o (fun j z=>?_) (R.same b o n q)
  obtain⟨i,l,_,_,_,hO⟩:=a2g z
  rcases (R.has i b hO).1 with w | w
  ·exact n w
  ·rw [w] at q;cases q
 ·have n':=R.kept b n
  by_cases hlt:∃ j,a1j O ρ f j=some b
  ·obtain⟨j,hj⟩:=hlt
   obtain⟨vs,q⟩:=hk j b hj
   rw [q];exact fun z=>nomatch z
  ·cases q:H b with
   | none=>exact absurd q n'
   | some o=>rw [fr b o (fun j z=>hlt ⟨j,z⟩) q];exact fun z=>nomatch z
 ·obtain⟨vs,q⟩:=R.ml p h
  by_cases hlt:∃ j,a1j O ρ f j=some p
  ·obtain⟨j,hj⟩:=hlt;exact hk j p hj
  ·exact⟨vs,fr p _ (fun j z=>hlt ⟨j,z⟩) q⟩
 ·have fin:∀ q,(c.P q ∨ c.B q)->H' q ≠ none:=fun q hq=>by
   have n':=R.pin q hq
   by_cases hlt:∃ j,a1j O ρ f j=some q
   ·obtain⟨j,hj⟩:=hlt
    obtain⟨vs,q⟩:=hk j q hj
    rw [q];exact fun z=>nomatch z
   ·cases q2:H q with
    | none=>exact absurd q2 n'
    | some o=>rw [fr q o (fun j z=>hlt ⟨j,z⟩) q2];exact fun z=>nomatch z
  rcases h with h | h
  ·rcases hP' p h with w | w
   ·exact fin p (.inl w)
   ·exact w.1
  ·exact fin p (.inr h)
 ·rcases cases_ i with⟨j,l0,m,h3,h4,h5⟩ | ⟨h3,h4⟩
  ·rw [h5] at h1
   obtain⟨p',l',g1,g2,hio,hl,g3,g4⟩:=lent_ m h3 h4 (Option.some.inj h1)
   cases l0 with
   | own zs=>cases l'<;>cases hl;cases h2
   | bor zs=>exact R.lnt i p e _ h3 rfl
   | tape k=>exact R.lnt i p e _ h3 rfl
   | _=>cases h4
  ·rw [h3] at h1;exact R.lnt i p e l h1 h2
 ·have:=Ri.sc
  rw [hsa,hns] at this
  exact this
 ·rw [b7c];exact R.len
end
end L2
end
section
namespace L2
open PySem PySem.Spec PyProof.Rows
abbrev DSp:=List L->(RV->Rho->Prop)->Prop
noncomputable def mask:List L->Rho->Rho
 | [],_=>[]
 | l :: ls,ρ=>(if isIO l then ρ.head?.join else none) :: mask ls ρ.tail
noncomputable def b4m(N:List Str)(ls:List L):Rho:=ls.map some ++ List.replicate (N.length - ls.length) none
def spD(K:W.Frag)(ds:DSp):Sp:=fun vs H Q _=>∃ (c:Rc) (O:Own) (ls:List L) (Qd:RV->Rho->Prop),c.H0=H/\(∀ p,¬ c.P p)/\(∀ p,c.M p->c.B p)/\(∀ p,c.H0 p=none->c.A p)/\(∀ i,c.lent i=O i)/\Rel K c O (ls.map some) (vs.map some) H/\ds ls Qd /\
 ∀ r O' ρ' σ' v H',Qd r (mask ls ρ')->b7w K c O' ρ' σ' H' r v->Q v H'
section
variable{K:W.Frag}{c:Rc}{O:Own}{ρ:Rho}{σ:St}{H H':Hp}{S S':Addr->Prop}
theorem Rel.more{n:Nat}(R:Rel K c O ρ σ H):Rel K c O (ρ ++ List.replicate n none) (σ ++ List.replicate n none) H:=by
 have at_:∀ {i:Nat} {l:L},(ρ ++ List.replicate n none)[i]? = some (some l)->ρ[i]? = some (some l):=fun{i l} e=>by
  by_cases hi:i < ρ.length
  ·rwa [getElem?_append_left hi] at e
  ·rw [getElem?_append_right (by omega),List.getElem?_replicate] at e
   split at e<;>cases e
 have st:∀ {i:Nat} {v:V},σ[i]? = some (some v)->(σ ++ List.replicate n none)[i]? = some (some v):=fun{i v} e=>by
  rw [getElem?_append_left (List.getElem?_eq_some_iff.mp e).1];exact e
 refine⟨fun i x e=>?_,fun i xs e=>?_,fun i xs e=>?_,fun i k e=>?_,fun i e=>st (R.scr i (at_ e)),R.inj,R.has',R.am,R.frs,R.same,R.kept,R.ml,R.pin,fun i p e l h1 h2=>R.lnt i p e l (at_ h1) h2,R.sc,?_⟩
 ·obtain⟨v,h1,h2⟩:=R.dat i x (at_ e);exact⟨v,st h1,h2⟩
 ·obtain⟨p,vs,h1,h2,h3,h4⟩:=R.own i xs (at_ e);exact⟨p,vs,h1,h2,st h3,h4⟩
 ·obtain⟨p,vs,h1,h3,h4⟩:=R.bor i xs (at_ e);exact⟨p,vs,h1,st h3,h4⟩
 ·obtain⟨p,h1,h3,h4⟩:=R.tap i k (at_ e);exact⟨p,h1,st h3,h4⟩
 ·rw [length_append,length_append,R.len,length_replicate,length_replicate]
end
section
variable{P:Program}{w:World}{K:W.Frag}{mg:Str->Option Value}{base:Heap}
theorem Fun.dok{x qual:Str}{st:Stmt}{f:Addr}{fd:FuncData}{N ps:List Str}{k:Nat}{ds:DSp}(F:Fun K x qual st f fd)(S:FnScope N ps (a0e st))
  (hbody:∀ (cdv:Value) (A:Around) (outer:List Env) (s:Shared) (H:Hp) (E:XK),Room k (A.deeper (envOfC qual (a0e st) s.heap.objs.size f cdv)) ->
   ∀ (ls:List L) (Qd:RV->Rho->Prop),ds ls Qd->ls.length=ps.length/\∃ dt,DSs (cxOf CX0 P w K mg base N qual (a0e st) f cdv A outer s H E).nox (a1t st) dt/\dt { nx:=fun ρ=>Qd (.d .none) (mask ls ρ),rt:=fun r ρ=>Qd r (mask ls ρ) } (b4m N ls)) (len:∀ ls Qd,ds ls Qd->ls.length=ps.length):FnOk P w K mg base CX0 (k + 1) f fd ps (spD K ds):=by
 refine F.ok S (fun vs H Q E h=>?_) (fun cdv A outer s H vs Q E hr h=>?_)
 ·obtain⟨c,O,ls,Qd,_,_,_,_,_,R,h1,_⟩:=h
  have:=R.len
  rw [length_map,length_map] at this
  rw [this];exact len ls Qd h1
 ·obtain⟨c,O,ls,Qd,h0,hP,hM,hA,hL,R,h1,fin⟩:=h
  obtain⟨hl,dt,⟨t,p,a⟩,q⟩:=hbody cdv A outer s H E hr ls Qd h1
  have hlv:vs.length=ls.length:=by have:=R.len;rwa [length_map,length_map] at this
  refine⟨t,p,a c O (b4m N ls) (start N vs) H _ { nx:=fun ρ=>Qd (.d .none) (mask ls ρ),rt:=fun r ρ=>Qd r (mask ls ρ) } ?_ ⟨fun O1 ρ1 σ1 H1 R1 _ q1=>?_,fun r O1 ρ1 σ1 H1 v h q1=>?_,fun _ _ _ _ _ _ z=>(show False from z).elim,fun _ _ _ _ _ _ z=>(show False from z).elim,hM,hA⟩ q⟩
  ·unfold b4m start
   rw [hlv]
   exact R.more
  ·exact fin (.d .none) O1 ρ1 σ1 .non H1 q1 ⟨R1,b8y⟩
  ·exact fin r O1 ρ1 σ1 v H1 q1 h
end
def fzL(ρ:Rho)(x:DV)(Q:L->Rho->Prop):Prop:=match x with
 | .d y=>Q (.d y) ρ
 | .sl i=>match ρ[i]?.join with
  | some (.d y)=>Q (.d y) ρ
  | some (.own xs)=>Q (.d (.list xs)) (ρ.set i (some (.d (.list xs))))
  | some .scr=>Q .scr ρ
  | _=>False
noncomputable def ioAt(ρ:Rho)(i:Nat):Option L:=match ρ[i]?.join with
 | some l=>if isOw l then some (lend l) else none
 | none=>none
noncomputable def pass:List Bool->List DV->Rho->(List L->Rho->Prop)->Prop
 | [],[],ρ,Q=>Q [] ρ
 | false :: fs,x :: xs,ρ,Q=>fzL ρ x fun l ρ1=>pass fs xs ρ1 fun ls ρ2=>Q (l :: ls) ρ2
 | true :: fs,.sl i :: xs,ρ,Q=>pass fs xs ρ fun ls ρ2=>need (ioAt ρ2 i) fun l=>Q (l :: ls) ρ2
 | _,_,_,_=>False
noncomputable def a1x:List Bool->List DV->Lent
 | true :: _,.sl i :: _,0=>some i
 | _ :: fs,_ :: xs,j + 1=>a1x fs xs j
 | _,_,_=>none
noncomputable def flOf:Nat->List Bool->List DV->List (Nat × Nat)
 | j,true :: fs,.sl i :: xs=>(j,i) :: flOf (j + 1) fs xs
 | j,true :: fs,.d _ :: xs=>flOf (j + 1) fs xs
 | j,false :: fs,_ :: xs=>flOf (j + 1) fs xs
 | _,_,_=>[]
theorem b0o{fs:List Bool}:∀ {xs:List DV} {j0 j i:Nat},(j,i) ∈ flOf j0 fs xs ↔ ∃ k,j=j0 + k/\a1x fs xs k=some i:=by
 induction fs with
 | nil =>
  intro xs j0 j i
  have e1:flOf j0 [] xs=[]:=by cases xs<;>rfl
  have e2:∀ k,a1x [] xs k=none:=fun k=>by cases xs<;>cases k<;>rfl
  rw [e1]
  exact⟨fun h=>absurd h (not_mem_nil),fun hq8=>by obtain⟨k,_,h⟩:=hq8;rw [e2] at h;cases h⟩
 | cons f fs ih =>
  intro xs j0 j i
  cases xs with
  | nil =>
   have e1:flOf j0 (f :: fs) []=[]:=by cases f<;>rfl
   have e2:∀ k,a1x (f :: fs) [] k=none:=fun k=>by cases f<;>cases k<;>rfl
   rw [e1]
   exact⟨fun h=>absurd h (not_mem_nil),fun hq8=>by obtain⟨k,_,h⟩:=hq8;rw [e2] at h;cases h⟩
  | cons x xs =>
   have step:(∃ k,j=j0 + 1 + k/\a1x fs xs k=some i)->∃ k,j=j0 + k/\a1x (f :: fs) (x :: xs) k=some i:=fun hq8=>by obtain⟨k,e1,e2⟩:=hq8;exact⟨k + 1,by omega,by cases f<;>cases x<;>exact e2⟩
   have back:∀ k,j=j0 + (k + 1)->a1x (f :: fs) (x :: xs) (k + 1)=some i->∃ k,j=j0 + 1 + k/\a1x fs xs k=some i:=fun k e1 e2=>⟨k,by omega,by cases f<;>cases x<;>exact e2⟩
   cases f with
   | false =>
    have e:flOf j0 (false :: fs) (x :: xs)=flOf (j0 + 1) fs xs:=by cases x<;>rfl
    rw [e,ih]
    refine⟨step,fun hq8=>?_⟩
    obtain⟨k,e1,e2⟩:=hq8
    cases k with
    | zero=>cases x<;>cases e2
    | succ k=>exact back k e1 e2
   | true =>
    cases x with
    | d y =>
     show(j,i) ∈ flOf (j0 + 1) fs xs ↔ _
     rw [ih]
     refine⟨step,fun hq8=>?_⟩
     obtain⟨k,e1,e2⟩:=hq8
     cases k with
     | zero=>cases e2
     | succ k=>exact back k e1 e2
    | sl i0 =>
     show(j,i) ∈ (j0,i0) :: flOf (j0 + 1) fs xs ↔ _
     rw [mem_cons,ih]
     constructor
     ·rintro(e | h)
      ·cases e;exact⟨0,rfl,rfl⟩
      ·exact step h
     ·rintro⟨k,e1,e2⟩
      cases k with
      | zero =>
       have e3:some i0=some i:=e2
       cases e3
       exact .inl (by rw [e1];rfl)
      | succ k=>exact .inr (back k e1 e2)
inductive Args (K:W.Frag) (S:Addr->Prop) (sa:Addr) (ρ:Rho) (σ:St) (H:Hp):List Bool->List DV->List L->List V->Prop where
 | nil:Args K S sa ρ σ H [] [] [] []
 | dat {fs xs ls vs x y v}:AtD K H S y v->Args K S sa ρ σ H fs xs ls vs->Args K S sa ρ σ H (false :: fs) (x :: xs) (.d y :: ls) (v :: vs)
 | scr {fs xs ls vs x}:Args K S sa ρ σ H fs xs ls vs->Args K S sa ρ σ H (false :: fs) (x :: xs) (.scr :: ls) (.ref sa :: vs)
 | io {fs xs ls vs v} {i:Nat} {l0:L}:ρ[i]? = some (some l0)->isOw l0=true->σ[i]? = some (some v)->Args K S sa ρ σ H fs xs ls vs->Args K S sa ρ σ H (true :: fs) (.sl i :: xs) (lend l0 :: ls) (v :: vs)
section
variable{K:W.Frag}{c:Rc}{O:Own}{ρ:Rho}{σ:St}{H H':Hp}{S S':Addr->Prop}
theorem Rel.fzL{x:DV}{v:V}{Q:L->Rho->Prop}(R:Rel K c O ρ σ H)(a:AtV K (live c O) σ H x v)(h:fzL ρ x Q):∃ l ρ' O',Q l ρ'/\Rel K c O' ρ' σ H/\Pers K (live c O) H (live c O') H/\((∃ y,l=.d y/\AtD K H (live c O') y v) ∨ (l=.scr/\v=.ref c.sa)):=by
 cases x with
 | d y=>exact⟨.d y,ρ,O,h,R,.refl,.inl ⟨y,rfl,a⟩⟩
 | sl i =>
  have a':σ[i]? = some (some v):=a
  simp only [L2.fzL] at h
  split at h
  ·rename_i y e
   obtain⟨w,h1,h2⟩:=R.dat i y (a2b e)
   rw [a'] at h1;cases h1
   exact⟨.d y,ρ,O,h,R,.refl,.inl ⟨y,rfl,h2⟩⟩
  ·rename_i xs e
   have e':=a2b e
   obtain⟨R',P⟩:=R.freeze e'
   have hi:i < ρ.length:=(List.getElem?_eq_some_iff.mp e').1
   obtain⟨w,h1,h2⟩:=R'.dat i (.list xs) (by rw [getElem?_set_self hi])
   rw [a'] at h1;cases h1
   exact⟨_,_,_,h,R',P,.inl ⟨_,rfl,h2⟩⟩
  ·rename_i e
   have:=R.scr i (a2b e)
   rw [a'] at this;cases this
   exact⟨_,ρ,O,h,R,.refl,.inr ⟨rfl,rfl⟩⟩
  ·exact h.elim
theorem d5h{fs:List Bool}:∀ {xs:List DV} {vs:List V} {ρ:Rho} {O:Own} {Q:List L->Rho->Prop},Rel K c O ρ σ H->AtVs K (live c O) σ H xs vs->pass fs xs ρ Q ->
  ∃ ls ρ' O',Q ls ρ'/\Rel K c O' ρ' σ H/\Pers K (live c O) H (live c O') H/\Args K (live c O') c.sa ρ' σ H fs xs ls vs:=by
 induction fs with
 | nil =>
  intro xs vs ρ O Q R a h
  cases xs with
  | nil=>cases a;exact⟨[],ρ,O,h,R,.refl,.nil⟩
  | cons _ _=>exact(show False from h).elim
 | cons f fs ih =>
  intro xs vs ρ O Q R a h
  cases xs with
  | nil=>cases f<;>exact(show False from h).elim
  | cons x xs =>
   cases a with
   | @cons _ _ v vs a as =>
   cases f with
   | false =>
    have h':L2.fzL ρ x fun l ρ1=>pass fs xs ρ1 fun ls ρ2=>Q (l :: ls) ρ2:=h
    obtain⟨l,ρ1,O1,h1,R1,P1,a1⟩:=R.fzL a h'
    obtain⟨ls,ρ2,O2,h2,R2,P2,a2⟩:=ih R1 (AtVs.pers as P1) h1
    refine⟨l :: ls,ρ2,O2,h2,R2,P1.trans P2,?_⟩
    rcases a1 with⟨y,rfl,a1⟩ | ⟨rfl,rfl⟩
    ·exact .dat (P2 _ _ a1) a2
    ·exact .scr a2
   | true =>
    cases x with
    | d y=>exact(show False from h).elim
    | sl i =>
     have h':pass fs xs ρ fun ls ρ2=>need (ioAt ρ2 i) fun l=>Q (l :: ls) ρ2:=h
     obtain⟨ls,ρ2,O2,hz1,R2,P2,a2⟩:=ih R as h'
     obtain⟨l,e,h2⟩:=ne (hz1)
     refine⟨l :: ls,ρ2,O2,h2,R2,P2,?_⟩
     unfold ioAt at e
     split at e
     ·rename_i l0 el
      split at e
      ·rename_i ho
       cases e
       exact .io (a2b el) ho a a2
      ·cases e
     ·cases e
theorem Args.begins{fs:List Bool}{xs:List DV}{ls:List L}{vs:List V}(a:Args K (live c O) c.sa ρ σ H fs xs ls vs)(inj:∀ j k i,a1x fs xs j=some i->a1x fs xs k=some i->j=k) :
  Begins K c O ρ σ H (a1x fs xs) (ls.map some) (vs.map some):=by
 refine⟨?_,?_,?_,inj,?_⟩
 ·clear inj
  induction a with
  | nil=>intro j l e;simp at e
  | dat h _ ih =>
   intro j l e ho
   cases j with
   | zero=>cases e;cases ho
   | succ j=>obtain⟨i,l0,h1,h2⟩:=ih j l (by simpa using e) ho;exact⟨i,l0,h1,by simpa using h2⟩
  | scr _ ih =>
   intro j l e ho
   cases j with
   | zero=>cases e;cases ho
   | succ j=>obtain⟨i,l0,h1,h2⟩:=ih j l (by simpa using e) ho;exact⟨i,l0,h1,by simpa using h2⟩
  | @io fs xs ls vs v i l0 h1 h2 h3 _ ih =>
   intro j l e ho
   cases j with
   | zero=>cases e;exact⟨i,l0,rfl,h1,h2,rfl,by simpa using h3.symm⟩
   | succ j=>obtain⟨i,l0,h1,h2⟩:=ih j l (by simpa using e) ho;exact⟨i,l0,h1,by simpa using h2⟩
 ·clear inj
  induction a with
  | nil=>intro j x e;simp at e
  | dat h _ ih =>
   intro j x e
   cases j with
   | zero=>cases e;exact⟨_,rfl,h⟩
   | succ j=>obtain⟨v,h1,h2⟩:=ih j x (by simpa using e);exact⟨v,by simpa using h1,h2⟩
  | scr _ ih =>
   intro j x e
   cases j with
   | zero=>cases e
   | succ j=>obtain⟨v,h1,h2⟩:=ih j x (by simpa using e);exact⟨v,by simpa using h1,h2⟩
  | @io fs xs ls vs v i l0 h1 h2 h3 _ ih =>
   intro j x e
   cases j with
   | zero=>cases l0<;>first | (cases h2;done) | cases e
   | succ j=>obtain⟨v,h1,h2⟩:=ih j x (by simpa using e);exact⟨v,by simpa using h1,h2⟩
 ·clear inj
  induction a with
  | nil=>intro j e;simp at e
  | dat h _ ih =>
   intro j e
   cases j with
   | zero=>cases e
   | succ j=>have:=ih j (by simpa using e);simpa using this
  | scr _ ih =>
   intro j e
   cases j with
   | zero=>rfl
   | succ j=>have:=ih j (by simpa using e);simpa using this
  | @io fs xs ls vs v i l0 h1 h2 h3 _ ih =>
   intro j e
   cases j with
   | zero=>cases l0<;>first | (cases h2;done) | cases e
   | succ j=>have:=ih j (by simpa using e);simpa using this
 ·clear inj
  rw [length_map,length_map]
  induction a with
  | nil=>rfl
  | dat _ _ ih=>simp [ih]
  | scr _ ih=>simp [ih]
  | io _ _ _ _ ih=>simp [ih]
theorem Args.mask{fs:List Bool}{xs:List DV}{ls:List L}{vs:List V}(a:Args K (live c O) c.sa ρ σ H fs xs ls vs):∀ (ρ':Rho) {j i:Nat},a1x fs xs j=some i->(L2.mask ls ρ')[j]?.join=ρ'[j]?.join:=by
 have hd:∀ ρ':Rho,ρ'.head?.join=ρ'[0]?.join:=fun ρ'=>by cases ρ'<;>rfl
 have tl:∀ (ρ':Rho) (j:Nat),ρ'.tail[j]? = ρ'[j + 1]?:=fun ρ' j=>by cases ρ'<;>simp
 induction a with
 | nil=>intro ρ' j i e;cases e
 | dat h _ ih =>
  intro ρ' j i e
  cases j with
  | zero=>cases e
  | succ j =>
   have:=ih ρ'.tail (j:=j) (i:=i) e
   rw [tl] at this
   rw [← this];simp [L2.mask]
 | scr _ ih =>
  intro ρ' j i e
  cases j with
  | zero=>cases e
  | succ j =>
   have:=ih ρ'.tail (j:=j) (i:=i) e
   rw [tl] at this
   rw [← this];simp [L2.mask]
 | @io fs xs ls vs v i0 l0 h1 h2 h3 _ ih =>
  intro ρ' j i e
  cases j with
  | zero =>
   have hio:isIO (lend l0)=true:=by cases l0<;>first | rfl | cases h2
   simp only [L2.mask,hio,if_true,List.getElem?_cons_zero]
   show ρ'.head?.join=_
   exact hd ρ'
  | succ j =>
   have:=ih ρ'.tail (j:=j) (i:=i) e
   rw [tl] at this
   rw [← this];simp [L2.mask]
end
theorem b2v{ρi ρj:Rho}:∀ {fl:List (Nat × Nat)} {ρ:Rho},(∀ j i,(j,i) ∈ fl->ρi[j]?.join=ρj[j]?.join)->fills ρi fl ρ=fills ρj fl ρ
 | [],_,_=>rfl
 | (j,i) :: r,ρ,h=>by
  have e:a5b ρi j i ρ=a5b ρj j i ρ:=by
   unfold a5b a6b
   rw [h j i mem_cons_self]
  unfold fills
  rw [e]
  exact b2v fun j' i' m=>h j' i' (mem_cons_of_mem _ m)
def dCall(fs:List Bool)(sp:DSp)(da:TDA)(ρ:Rho)(Q:RV->Rho->Prop):Prop:=da ρ fun xs ρ1=>pass fs xs ρ1 fun ls ρ2=>((flOf 0 fs xs).map (·.2)).Nodup/\sp ls fun r outs=>Q r (fills outs (flOf 0 fs xs) ρ2)
def b4n(fs:List Bool)(sp:DSp)(da:TDA):TDE:=fun ρ Q=>dCall fs sp da ρ fun r ρ1=>match r with
 | .d x=>Q (.d x) ρ1
 | .new xs=>Q (.d (.list xs)) ρ1
def e0m(fs:List Bool)(sp:DSp)(da:TDA):TDF:=fun ρ Q=>dCall fs sp da ρ fun r ρ1=>match r with
 | .d _=>False
 | .new xs=>Q xs ρ1
section
variable{K:W.Frag}{c:Rc}{O:Own}{ρ:Rho}{σ:St}{H H':Hp}{S S':Addr->Prop}
theorem c7g{fs:List Bool}{xs:List DV}(nd:((flOf 0 fs xs).map (·.2)).Nodup):∀ j k i,a1x fs xs j=some i->a1x fs xs k=some i->j=k:=fun j k i e1 e2=>by
 have m1:(j,i) ∈ flOf 0 fs xs:=b0o.mpr ⟨j,by omega,e1⟩
 have m2:(k,i) ∈ flOf 0 fs xs:=b0o.mpr ⟨k,by omega,e2⟩
 exact congrArg Prod.fst (key _ nd m1 m2 rfl)
where
 key:∀ (l:List (Nat × Nat)) {a b:Nat × Nat},(l.map (·.2)).Nodup->a ∈ l->b ∈ l->a.2=b.2->a=b:=fun l=>by
  induction l with
  | nil=>intro a b _ h;cases h
  | cons x l ih =>
   intro a b nd ha hb e
   rw [map_cons,nodup_cons] at nd
   rcases mem_cons.mp ha with ea | ha2<;>rcases mem_cons.mp hb with eb | hb2
   ·rw [ea,eb]
   ·exact absurd (mem_map.mpr ⟨b,hb2,by rw [← e,ea]⟩) nd.1
   ·exact absurd (mem_map.mpr ⟨a,ha2,by rw [e,eb]⟩) nd.1
   ·exact ih nd.2 ha2 hb2 e
theorem c4i{fs:List Bool}{sp:DSp}{ta:TA}{da:TDA}(ha:∀ (Qa:List DV->Rho->Prop) (Qv:List V->Hp->Prop),da ρ Qa->(∀ xs ρ1 O1 vs H1,Qa xs ρ1->Rel K c O1 ρ1 σ H1->Pers K (live c O) H (live c O1) H1->AtVs K (live c O1) σ H1 xs vs->Qv vs H1)->ta σ H Qv)
  {Qd:RV->Rho->Prop} {Q:VK} (h:dCall fs sp da ρ Qd)
  (k:∀ r ρ' O' v H',Qd r ρ'->b7w K c O' ρ' σ H' r v->Pers K (live c O) H (match r with | .d _=>live c O' | .new _=>fun a=>live c O' a/\v ≠ .ref a) H'->Q v H'):b4b (spD K sp) [] E0 ta σ H Q:=by
 refine ha _ _ h fun xs ρ1 O1 vs H1 h1 R1 P1 a1=>?_
 obtain⟨ls,ρ2,O2,⟨nd,h2⟩,R2,P2,as⟩:=d5h R1 a1 h1
 have inj:=c7g nd
 obtain⟨Ri,Pi⟩:=R2.begin (b:=true) (P:=fun _=>False) (H':=H1) (as.begins inj) (Same.refl _) (fun p z=>z.elim)
 rw [append_nil]
 have hf:∀ j i,(j,i) ∈ flOf 0 fs xs->a1x fs xs j=some i:=fun j i m=>by
  obtain⟨k,e1,e2⟩:=b0o.mp m
  have:j=k:=by omega
  subst this;exact e2
 have hf':∀ j i,a1x fs xs j=some i->(j,i) ∈ flOf 0 fs xs:=fun j i e=>b0o.mpr ⟨j,by omega,e⟩
 refine⟨c.in O2 (a1j O2 ρ2 (a1x fs xs)) (fun _=>False) true H1,a1j O2 ρ2 (a1x fs xs),ls,_,rfl,fun p z=>z,fun p z=>z,fun p z=>.inr ⟨rfl,z⟩,fun i=>rfl,Ri,h2,fun r O' ρ' σ' v H' q ok=>?_⟩
 have ef:fills (mask ls ρ') (flOf 0 fs xs) ρ2=fills ρ' (flOf 0 fs xs) ρ2:=b2v fun j i m=>as.mask ρ' (hf j i m)
 rw [ef] at q
 have P12:=P1.trans P2
 have lentM:∀ {b:Addr},(∃ j,a1j O2 ρ2 (a1x fs xs) j=some b)->∃ vs,H1 b=some (.lst vs):=fun hq8=>by
  obtain⟨j,e⟩:=hq8
  obtain⟨i,_,_,_,_,hO⟩:=a2g e
  exact(R2.has i _ hO).2
 have hsame:∀ {ci:Rc},Rel K ci O' ρ' σ' H'->ci.H0=H1->(∀ p,ci.M p->∃ j,a1j O2 ρ2 (a1x fs xs) j=some p)->(∀ b o,(∀ j,a1j O2 ρ2 (a1x fs xs) j ≠ some b)->H1 b=some o->H' b=some o):=fun{ci} Rf h0 hM b o n q=>by
  refine Rf.same b o (fun z=>?_) (by rw [h0];exact q)
  obtain⟨j,e⟩:=hM b z
  exact n j e
 have keep:(∀ b o,(∀ j,a1j O2 ρ2 (a1x fs xs) j ≠ some b)->H1 b=some o->H' b=some o)->Keep (live c O2) H1 H':=fun fr =>
  ⟨fun b ws e=>fr b _ (fun j z=>by obtain⟨vs,w⟩:=lentM ⟨j,z⟩;rw [e] at w;cases w) e,fun b o u e=>fr b _ (fun j z=>by obtain⟨vs,w⟩:=lentM ⟨j,z⟩;rw [e] at w;cases w) e,
   fun b ws hl e=>fr b _ (fun j z=>by obtain⟨i,_,_,_,_,hO⟩:=a2g z;exact hl.2.2 i hO) e⟩
 cases r with
 | d x =>
  obtain⟨Rf,ax⟩:=ok
  have fr:=hsame Rf rfl (fun p z=>z)
  have hl:∀ a,live (c.in O2 (a1j O2 ρ2 (a1x fs xs)) (fun _=>False) true H1) O' a->live c O2 a:=fun a z=>z.1
  have hp:Pers K (live c O2) H1 (live c O2) H':=.of (keep fr) fun _ z=>z
  have hP:Pers K (live (c.in O2 (a1j O2 ρ2 (a1x fs xs)) (fun _=>False) true H1) O') H' (live c O2) H':=.of (Keep.refl _ _) hl
  have Rn:=R2.finish (P':=c.P) nd hf hf' Rf (fun _=>rfl) rfl rfl fr (fun j p e=>Rf.ml p ⟨j,e⟩) hP hp (fun p z=>.inl z)
  exact k (.d x) _ O2 v H' q ⟨Rn,hP _ _ ax⟩ (P12.trans hp)
 | new ys =>
  obtain⟨p,ws,rfl,Rf,ff,hH,ax⟩:=ok
  have fr:=hsame Rf rfl (fun p z=>z)
  have h1p:H1 p=none:=ff.1
  have hl:∀ a,live ((c.in O2 (a1j O2 ρ2 (a1x fs xs)) (fun _=>False) true H1).add p) O' a->live (c.add p) O2 a:=fun a z=>by
   have z1:live c O2 a:=z.1
   exact b0m z1 fun e=>z.2.1 (.inr e)
  have hp:Pers K (live c O2) H1 (live (c.add p) O2) H':=fun d u h=>by
   refine AtD.mono (S:=live (c.add p) O2) ((keep fr).less fun b z=>(a5a z).1) _ _ (AtD.less h1p (fun a z n=>b0m z n) _ _ h)
  have hP:Pers K (live ((c.in O2 (a1j O2 ρ2 (a1x fs xs)) (fun _=>False) true H1).add p) O') H' (live (c.add p) O2) H':=.of (Keep.refl _ _) hl
  have fp:=b3b R2 h1p
  have Rn:Rel K (c.add p) O2 (fills ρ' (flOf 0 fs xs) ρ2) σ H':=R2.finish (P':=fun a=>c.P a ∨ a=p) nd hf hf' Rf (fun _=>rfl) rfl rfl fr (fun j q e=>Rf.ml q ⟨j,e⟩) hP hp (fun q z=>z.elim .inl fun e=>.inr (by subst e;exact⟨by rw [hH];exact(fun z=>nomatch z),fp.2.2.2⟩))
  refine k (.new ys) _ O2 _ H' q ⟨p,ws,rfl,Rn,fp,hH,hP.all ax⟩ ((P12.trans hp).trans (.of (Keep.refl _ _) fun a z=>⟨(a5a z).1,fun e=>(a5a z).2 (by cases e;rfl)⟩))
theorem c7h{fs:List Bool}{sp:DSp}{ta:TA}{da:TDA}(ha:AdA K ta da)(R:Rel K c O ρ σ H){Qd:RV->Rho->Prop}{Q:VK}(h:dCall fs sp da ρ Qd)
  (k:∀ r ρ' O' v H',Qd r ρ'->b7w K c O' ρ' σ H' r v->Pers K (live c O) H (match r with | .d _=>live c O' | .new _=>fun a=>live c O' a/\v ≠ .ref a) H'->Q v H'):b4b (spD K sp) [] E0 ta σ H Q:=
 c4i (fun Qa Qv q k'=>ha c O ρ σ H Qa Qv R q k') h k
theorem c9z{fs:List Bool}{sp:DSp}{ta:TA}{da:TDA}(ha:AdA K ta da):AdE K (b4b (spD K sp) [] E0 ta) (b4n fs sp da):=fun c O ρ σ H Qd Q R h k =>
 c7h ha R h fun r ρ' O' v H' q ok P=>by
  cases r with
  | d x=>exact k _ _ _ _ _ q ok.1 P ok.2
  | new xs =>
   obtain⟨p,ws,rfl,Rn,fp,hH,ax⟩:=ok
   obtain⟨R2,P2⟩:=Rn.unadd
   exact k _ _ _ _ _ q R2 (P.trans (.of (Keep.refl _ _) fun a z=>z.1)) (a4z ⟨Rn.frs p fp.1,fp.2.2.1,fp.2.2.2⟩ hH (P2.all ax))
end
section
variable{X:Cx}{k:Nat}{f:Addr}{fd:FuncData}{ps:List Str}{sp:DSp}{x:Str}{st:Stmt}{p pos:Pos}{e:Expr}{es:List Expr}{da:TDA}
theorem a0l(fs:List Bool)(d:Def X.K X.mg x st ps f fd)(g:FnOk X.prog X.w X.K X.mg X.base CX0 k f fd ps (spD X.K sp))(hr:Room k X.A)(hg:Gl X x)(ha:DA X (e :: es) da) (hdb:(x == ("__debug__" : Str))=false:=by decide)
  (he:starEach (e :: es) X.env=(false,eval e X.env) :: starEach es X.env:=by rfl) (hpl:(backTo pos (starEach es X.env)).any (·.1)=false:=by rfl):DE X (.Call (.Name x p) (e :: es) [] pos) (b4n fs sp da):=by
 obtain⟨t,pt,at_⟩:=ha
 exact⟨_,a3c d g hr hg pt hdb he hpl,c9z at_⟩
end
end L2
end
section
namespace L2
open PySem PySem.Spec PyProof.Rows
noncomputable def capR(n:Nat)(cap:List (Str × Nat))(ρ:Rho):Rho:=List.replicate n none ++ cap.map fun p=>(ρ[p.2]?.join).map lend
noncomputable def flC:Nat->List (Str × Nat)->List (Nat × Nat)
 | _,[]=>[]
 | j,p :: r=>(j,p.2) :: flC (j + 1) r
noncomputable def a7s(n:Nat)(cap:List (Str × Nat)):Lent:=fun j=>if j < n then none else(cap[j - n]?).map (·.2)
theorem c2k:∀ {cap:List (Str × Nat)} {n j i:Nat},(j,i) ∈ flC n cap ↔ n <= j/\(cap[j - n]?).map (·.2)=some i:=by
 intro cap
 induction cap with
 | nil=>intro n j i;simp [flC]
 | cons p r ih =>
  intro n j i
  unfold flC
  rw [mem_cons,ih]
  constructor
  ·rintro(e | ⟨h1,h2⟩)
   ·cases e;simp
   ·refine⟨by omega,?_⟩
    have:j - n=(j - (n + 1)) + 1:=by omega
    rw [this,List.getElem?_cons_succ];exact h2
  ·rintro⟨h1,h2⟩
   by_cases e:j=n
   ·subst e
    simp at h2
    exact .inl (by rw [h2])
   ·refine .inr ⟨by omega,?_⟩
    have:j - n=(j - (n + 1)) + 1:=by omega
    rw [this,List.getElem?_cons_succ] at h2;exact h2
theorem c2l:∀ {cap:List (Str × Nat)} {n:Nat},(flC n cap).map (·.2)=cap.map (·.2)
 | [],_=>rfl
 | p :: r,n=>by unfold flC;rw [map_cons,map_cons,c2l]
def a1y(g:TDG)(tt:TDT)(te:TDE)(Q:List PyData->Rho->Prop):List PyData->Rho->List PyData->Prop
 | [],ρ,acc=>Q acc ρ
 | x :: r,ρ,acc=>g x ρ fun ρ1=>tt ρ1 fun b ρ2=>if b=true then te ρ2 fun y ρ3=>fz ρ3 y fun z ρ4=>a1y g tt te Q r ρ4 (acc ++ [z]) else a1y g tt te Q r ρ2 acc
def b7z(n:Nat)(cap:List (Str × Nat))(di:TDI)(g:TDG)(tt:TDT)(te:TDE):TDF:=fun ρ Q=>di ρ fun xs ρ1=>xs.length <= 1000000/\(cap.map (·.2)).Nodup/\a1y g tt te (fun acc ρ'=>Q acc (fills ρ' (flC n cap) ρ1)) xs (capR n cap ρ1) []
section
variable{K:W.Frag}{c:Rc}{O:Own}{ρ:Rho}{σ:St}{H H':Hp}{S S':Addr->Prop}
theorem c7i{l:L}:isOw (lend l)=isOw l:=by cases l<;>rfl
theorem c4j{n:Nat}{cap:List (Str × Nat)}{own:List Str}(hn:own.length=n)(R:Rel K c O ρ σ H)(nd:(cap.map (·.2)).Nodup):Begins K c O ρ σ H (a7s n cap) (capR n cap ρ) (a7q own cap σ):=by
 have at_:∀ {j:Nat} {l:L},(capR n cap ρ)[j]? = some (some l)->n <= j/\∃ p l0,cap[j - n]? = some p/\ρ[p.2]? = some (some l0)/\l=lend l0:=fun{j l} e=>by
  unfold capR at e
  by_cases hj:j < n
  ·rw [getElem?_append_left (by simpa using hj),List.getElem?_replicate,if_pos hj] at e;cases e
  ·rw [getElem?_append_right (by simpa using Nat.le_of_not_lt hj),length_replicate,getElem?_map] at e
   cases q:cap[j - n]? with
   | none=>rw [q] at e;cases e
   | some p =>
    rw [q] at e
    have e':(ρ[p.2]?.join).map lend=some l:=Option.some.inj e
    cases q2:ρ[p.2]?.join with
    | none=>rw [q2] at e';cases e'
    | some l0=>rw [q2] at e';cases e';exact⟨by omega,p,l0,rfl,a2b q2,rfl⟩
 have st:∀ {j:Nat} {p:Str × Nat},n <= j->cap[j - n]? = some p->(a7q own cap σ)[j]? = some (σ[p.2]?).join:=fun{j p} h1 h2=>by
  unfold a7q
  rw [getElem?_append_right (by simp;omega),length_replicate,hn,getElem?_map,h2];rfl
 refine⟨fun j l e ho=>?_,fun j x e=>?_,fun j e=>?_,fun j k i e1 e2=>?_,?_⟩
 ·obtain⟨h1,p,l0,h2,h3,h4⟩:=at_ e
  have ho':isOw l0=true:=by rw [h4,c7i] at ho;exact ho
  obtain⟨q,_,hq⟩:=R.ow h3 ho'
  refine⟨p.2,l0,?_,h3,ho',h4,?_⟩
  ·unfold a7s;rw [if_neg (by omega),h2];rfl
  ·rw [st h1 h2,hq];rfl
 ·obtain⟨h1,p,l0,h2,h3,h4⟩:=at_ e
  cases l0 with
  | d y =>
   cases h4
   obtain⟨v,e1,e2⟩:=R.dat _ _ h3
   exact⟨v,by rw [st h1 h2,e1];rfl,e2⟩
  | _=>cases h4
 ·obtain⟨h1,p,l0,h2,h3,h4⟩:=at_ e
  cases l0 with
  | scr=>rw [st h1 h2,R.scr _ h3];rfl
  | _=>cases h4
 ·unfold a7s at e1 e2
  split at e1
  ·cases e1
  ·split at e2
   ·cases e2
   ·rename_i h1 h2
    rw [← getElem?_map] at e1 e2
    obtain⟨a1,b1⟩:=List.getElem?_eq_some_iff.mp e1
    obtain⟨a2,b2⟩:=List.getElem?_eq_some_iff.mp e2
    have:=(List.getElem_inj nd).mp (b1.trans b2.symm)
    omega
 ·unfold a7q capR;simp [hn]
theorem c2m{n:Nat}{own:List Str}{cap:List (Str × Nat)}{wi:TI}{g:TG}{tt:TT}{te:TE}{di:TDI}{dg:TDG}{dt:TDT}{de:TDE}(hn:own.length=n)(hi:AdI K wi di)(hg:AdG K g dg)(ht:AdT K tt dt)(he:AdE K te de) :
  AdF K (c3v own cap wi g tt te) (b7z n cap di dg dt de):=by
 intro c O ρ σ H Qd Q R h k
 refine hi c O ρ σ H _ _ R h fun xs ρ1 O1 J H1 h1 R1 P1 I1 D hD=>?_
 obtain⟨hz,nd,hloop⟩:=h1
 have B:=c4j (own:=own) hn R1 nd
 generalize hOc:a1j O1 ρ1 (a7s n cap)=Oc
 have s0:=a0o hD (.lst [])
 obtain⟨R2,P2⟩:=R1.begin (b:=false) (P:=fun a=>a=D) B s0 (fun p e=>by subst e;exact⟨hD,by rw [a0j];exact fun z=>nomatch z⟩)
 rw [hOc] at R2 P2
 have lentM:∀ {b:Addr},(∃ j,Oc j=some b)->∃ vs,H1 b=some (.lst vs):=fun hq8=>by
  obtain⟨j,e⟩:=hq8
  rw [← hOc] at e
  obtain⟨i,_,_,_,_,hO⟩:=a2g e
  exact(R1.has i _ hO).2
 have nD:∀ j,Oc j ≠ some D:=fun j e=>by
  obtain⟨vs,q⟩:=lentM ⟨j,e⟩
  rw [hD] at q;cases q
 -- what holds between two turns
 let Jn:St->Hp->Own->Rho->List PyData->List V->Prop:=fun σ' H' O' ρ' acc ys=>Rel K (c.in O1 Oc (fun a=>a=D) false H') O' ρ' σ' H'/\H' D=some (.lst ys)/\a0b K H' (live (c.in O1 Oc (fun a=>a=D) false H') O') acc ys /\
  (∀ b o,(∀ j,Oc j ≠ some b)->b ≠ D->H1 b=some o->H' b=some o)/\Pers K (live c O1) H1 (live (c.in O1 Oc (fun a=>a=D) false H') O') H'
 refine⟨fun i m σ' H'=>m=xs.length - i/\i <= xs.length/\∃ O' ρ' acc ys,Jn σ' H' O' ρ' acc ys/\acc.length <= i/\a1y dg dt de (fun acc ρ'=>Qd acc (fills ρ' (flC n cap) ρ1)) (xs.drop i) ρ' acc,⟨xs.length,by simp,zero_le _,Oc,_,[],[],⟨R2,a0j,.nil,fun b o _ nb q=>by rw [a0f nb];exact q,P2⟩,Nat.le_refl _,by rw [drop_zero];exact hloop⟩,?_⟩
 rintro i m σ' H' ⟨rfl,hle,O',ρ',acc,ys,⟨R3,hDy,hacc,fr3,P3⟩,hal,q3⟩
 obtain⟨it,stop⟩:=I1 _ _ P3
 by_cases hlt:i < xs.length
 ·rw [List.drop_eq_getElem_cons hlt] at q3
  obtain⟨go,yld⟩:=it i xs[i] (getElem?_eq_getElem hlt)
  have q3':dg xs[i] ρ' fun ρ1'=>dt ρ1' fun b ρ2=>if b=true then de ρ2 fun y ρ3=>fz ρ3 y fun z ρ4=>a1y dg dt de (fun acc ρ'=>Qd acc (fills ρ' (flC n cap) ρ1)) (xs.drop (i + 1)) ρ4 (acc ++ [z]) else a1y dg dt de (fun acc ρ'=>Qd acc (fills ρ' (flC n cap) ρ1)) (xs.drop (i + 1)) ρ2 acc:=q3
  -- to the next turn, at a heap that differs from H4 at D alone
  have next:∀ (σ4:St) (H4 H5:Hp) (O4:Own) (ρ4:Rho) (acc':List PyData) (ys':List V),Rel K (c.in O1 Oc (fun a=>a=D) false H') O4 ρ4 σ4 H4->Pers K (live (c.in O1 Oc (fun a=>a=D) false H') O') H' (live (c.in O1 Oc (fun a=>a=D) false H') O4) H4 ->
    H5 D=some (.lst ys')->(∀ b,b ≠ D->H5 b=H4 b)->a0b K H4 (live (c.in O1 Oc (fun a=>a=D) false H') O4) acc' ys'->Jn σ4 H5 O4 ρ4 acc' ys':=fun σ4 H4 H5 O4 ρ4 acc' ys' R4 P4 h5 ne a4=>by
   have h4D:H4 D ≠ none:=R4.kept D (by show H' D ≠ none;rw [hDy];exact fun z=>nomatch z)
   have kp:Keep (live (c.in O1 Oc (fun a=>a=D) false H') O4) H4 H5:=by
    have hDl:∃ zs,H4 D=some (.lst zs):=⟨ys,R4.same D _ (fun hq8=>by obtain⟨j,e⟩:=hq8;exact nD j e) hDy⟩
    obtain⟨zs,hDl⟩:=hDl
    exact⟨fun b ws e=>by rw [ne b (b7r e hDl (by intro z;cases z))];exact e,fun b o u e=>by rw [ne b (b7r e hDl (by intro z;cases z))];exact e,fun b ws hl e=>by rw [ne b (fun z=>hl.2.1 z)];exact e⟩
   have hl:∀ a,live (c.in O1 Oc (fun a=>a=D) false H') O4 a->live (c.in O1 Oc (fun a=>a=D) false H5) O4 a:=fun a z=>z
   have P5:Pers K (live (c.in O1 Oc (fun a=>a=D) false H') O4) H4 (live (c.in O1 Oc (fun a=>a=D) false H5) O4) H5:=.of kp hl
   have inM:∀ i p,O4 i=some p->∃ j,Oc j=some p:=fun i p e=>by
    rcases (R4.has' i p e).1 with z | z
    ·exact z
    ·exact absurd z.1 Bool.false_ne_true
   refine⟨R4.to (fun _=>rfl) (fun _ _ _ z=>z) rfl rfl P5 (fun i p vs e q=>?_) (fun i p e _=>.inl (inM i p e)) (fun p z=>z.elim .inl fun w=>absurd w.1 Bool.false_ne_true) (fun p z=>?_) (fun b o _ z=>z) (fun b z=>z) (fun p z=>?_) (fun p z=>?_) (fun _=>rfl) (R4.sc.keep kp),h5,P5.all a4,fun b o n1 n2 q=>?_,(P3.trans P4).trans P5⟩
   ·obtain⟨j,ej⟩:=inM i p e
    rw [ne p (fun z=>nD j (by rw [← z];exact ej))];exact q
   ·have z':H5 p=none:=z
    have np:p ≠ D:=by rintro rfl;rw [h5] at z';cases z'
    rw [ne p np] at z'
    exact R4.frs p (R4.free0 z')
   ·obtain⟨j,ej⟩:=z
    obtain⟨vs,q⟩:=R4.ml p ⟨j,ej⟩
    exact⟨vs,by rw [ne p (fun w=>nD j (by rw [← w];exact ej))];exact q⟩
   ·rcases z with z | ⟨j,ej⟩
    ·rw [show p=D from z,h5];exact fun w=>nomatch w
    ·obtain⟨vs,q⟩:=R4.ml p ⟨j,ej⟩
     rw [ne p (fun w=>nD j (by rw [← w];exact ej)),q];exact fun w=>nomatch w
   ·rw [ne b n2]
    exact R4.same b o (fun hq8=>by obtain⟨j,e⟩:=hq8;exact n1 j e) (fr3 b o n1 n2 q)
  refine .inr ⟨go,fun σ'' H''=>∃ O'' ρ'' acc' ys',Jn σ'' H'' O'' ρ'' acc' ys'/\acc'.length <= i + 1/\a1y dg dt de (fun acc ρ'=>Qd acc (fills ρ' (flC n cap) ρ1)) (xs.drop (i + 1)) ρ'' acc',fun σ'' H'' hq8=>by obtain⟨O'',ρ'',acc',ys',a1,a2,a3⟩:=hq8;exact⟨xs.length - (i + 1),by omega,rfl,hlt,O'',ρ'',acc',ys',a1,a2,a3⟩,fun v H4 y=>?_⟩
  obtain⟨s4,a4⟩:=yld v H4 y
  refine hg _ O' ρ' σ' H4 xs[i] v _ _ (R3.grow s4) a4 q3' fun O5 ρ5 σ5 R5 P5 q5=>?_
  refine ht _ O5 ρ5 σ5 H4 _ _ R5 q5 fun b ρ6 O6 H6 q6 R6 P6=>?_
  have P06:=((Pers.same s4).trans P5).trans P6
  have dAt:∀ {O9:Own} {ρ9:Rho} {σ9:St} {H9:Hp},Rel K (c.in O1 Oc (fun a=>a=D) false H') O9 ρ9 σ9 H9->H9 D=some (.lst ys):=fun Rx=>Rx.same D _ (fun hq8=>by obtain⟨j,e⟩:=hq8;exact nD j e) hDy
  cases b with
  | false =>
   rw [if_neg Bool.false_ne_true] at q6 ⊢
   exact⟨O6,ρ6,acc,ys,next σ5 H6 H6 O6 ρ6 acc ys R6 P06 (dAt R6) (fun _ _=>rfl) (P06.all hacc),by omega,q6⟩
  | true =>
   rw [if_pos rfl] at q6 ⊢
   refine he _ O6 ρ6 σ5 H6 _ _ R6 q6 fun y ρ7 O7 u H7 q7 R7 P7 a7=>?_
   obtain⟨z,ρ8,O8,q8,R8,P8,a8⟩:=R7.fz a7 q7
   have P08:=(P06.trans P7).trans P8
   have accl:ys.length=acc.length:=hacc.length
   refine⟨ys,dAt R8,by rw [accl];exact mil (by omega),O8,ρ8,acc ++ [z],ys ++ [u],next σ5 H7 _ O8 ρ8 _ _ R8 P08 a0j (fun b nb=>a0f nb) ((P08.all hacc).snoc a8),by rw [length_append,length_singleton];omega,q8⟩
 ·have e:i=xs.length:=by omega
  subst e
  rw [List.drop_eq_nil_of_le (Nat.le_refl _)] at q3
  refine .inl ⟨stop,?_⟩
  have fr:∀ b o,(∀ j,a1j O1 ρ1 (a7s n cap) j ≠ some b)->H1 b=some o->H' b=some o:=fun b o n1 q=>fr3 b o (by rw [← hOc];exact n1) (a1s q hD) q
  have fp:=b3b R1 hD
  have hl:∀ a,live (c.in O1 Oc (fun a=>a=D) false H') O' a->live (c.add D) O1 a:=fun a z=>b0m z.1 z.2.1
  have hP:Pers K (live (c.in O1 Oc (fun a=>a=D) false H') O') H' (live (c.add D) O1) H':=.of (Keep.refl _ _) hl
  have hp:Pers K (live c O1) H1 (live (c.add D) O1) H':=P3.trans hP
  have hf:∀ j i,(j,i) ∈ flC n cap->a7s n cap j=some i:=fun j i m=>by
   obtain⟨h1,h2⟩:=c2k.mp m
   unfold a7s;rw [if_neg (by omega)];exact h2
  have hf':∀ j i,a7s n cap j=some i->(j,i) ∈ flC n cap:=fun j i e=>by
   unfold a7s at e
   split at e
   ·cases e
   ·exact c2k.mpr ⟨by omega,e⟩
  have Rn:Rel K (c.add D) O1 (fills ρ' (flC n cap) ρ1) σ H':=R1.finish (P':=fun a=>c.P a ∨ a=D) (by rw [c2l];exact nd) hf hf' R3 (fun j=>by rw [hOc];rfl) rfl rfl fr (fun j p e=>R3.ml p ⟨j,by rw [← hOc];exact e⟩) hP hp (fun q z=>z.elim .inl fun e=>.inr (by subst e;exact⟨by rw [hDy];exact(fun z=>nomatch z),fp.2.2.2⟩))
  exact k _ _ O1 D ys H' q3 Rn (P1.trans hp) fp hDy (hP.all hacc)
end
end L2
end
section
namespace L2
open PySem PySem.Spec PyProof.Rows
def DG(X:Cx)(target:Expr)(dg:TDG):Prop:=∃ g,PG X target g/\AdG X.K g dg
def DGs(X:Cx)(ts:List Expr)(dg:TDGs):Prop:=∃ g,PGs X ts g/\AdGs X.K g dg
def DIf(X:Cx)(ifs:List Expr)(dt:TDT):Prop:=∃ t,PIf X ifs t/\AdT X.K t dt
section
variable{X:Cx}{st:Stmt}{rest:List Stmt}{e tg iter a b c:Expr}{es ifs:List Expr}{de da db dc:TDE}{df:TDF}{dt du:TDS}{dg:TDG}{dgs:TDGs}{di:TDI}{dtt:TDT}{daa:TDA}{pos:Pos}
theorem a0y:DSs X [] c4a:=⟨_,a4a,d5a⟩
theorem a0g(h1:DS X st dt)(h2:DSs X rest du):DSs X (st :: rest) (dSeq dt du):=by obtain⟨_,p,a⟩:=h1;obtain⟨_,p',a'⟩:=h2;exact⟨_,a0v p p',e0d a a'⟩
theorem a0k(h1:DS X st dt):DSs X [st] dt:=by obtain⟨_,p,a⟩:=h1;exact⟨_,a1n p,a⟩
theorem a8g(he:DE X e de)(hs:swapsWith e none pos.line X.env=pure false:=by rfl):DS X (.Expr e pos) (c4b de):=by obtain⟨_,p,a⟩:=he;exact⟨_,b5p p hs,d5b a⟩
theorem a0q(he:DE X e de):DS X (.Return (some e) pos) (dRet de):=by obtain⟨_,p,a⟩:=he;exact⟨_,a2j p,e0f a⟩
theorem c2n(he:DF X e df):DS X (.Return (some e) pos) (c4c df):=by obtain⟨_,p,a⟩:=he;exact⟨_,a2j p,d5c a⟩
theorem a1m{c:Expr}{a b:List Stmt}(hc:DT X c dtt)(ha:DSs X a dt)(hb:DSs X b du):DS X (.If c a b pos) (dIf dtt dt du):=by obtain⟨_,p,a⟩:=hc;obtain⟨_,p',a'⟩:=ha;obtain⟨_,p2,a2⟩:=hb;exact⟨_,a6w p p' p2,ad_if a a' a2⟩
theorem a2c{i:Nat}{x:Str}{pos':Pos}(hN:X.N.Nodup)(hi:X.N[i]? = some x)(hx:Loc X.env.scope x)(he:DE X e de)(hs:swapsWith e (some (.Name x pos')) pos.line X.env=pure false:=by rfl)(hf:X.fn x=true ∨ X.env.scope.names.lookup x=some .local:=by first | exact .inl rfl | exact .inr rfl) :
  DS X (.Assign [.Name x pos'] e pos) (dSet i de):=by obtain⟨_,p,a⟩:=he;exact⟨_,a2y hN hi hx p hs hf,e0g a⟩
theorem b5w{i:Nat}{x:Str}{pos':Pos}(hN:X.N.Nodup)(hi:X.N[i]? = some x)(hx:Loc X.env.scope x)(he:DF X e df)(hs:swapsWith e (some (.Name x pos')) pos.line X.env=pure false:=by rfl)(hf:X.fn x=true ∨ X.env.scope.names.lookup x=some .local:=by first | exact .inl rfl | exact .inr rfl) :
  DS X (.Assign [.Name x pos'] e pos) (b7x i df):=by obtain⟨_,p,a⟩:=he;exact⟨_,a2y hN hi hx p hs hf,c2j a⟩
theorem a2x{i:Nat}{x:Str}(hN:X.N.Nodup)(hi:X.N[i]? = some x)(hx:Loc X.env.scope x)(hf:X.fn x=true ∨ X.env.scope.names.lookup x=some .local:=by first | exact .inl rfl | exact .inr rfl | assumption):DG X (.Name x pos) (b9g i):=⟨_,d4d hN hi hx hf,d5e⟩
theorem b5x:DGs X [] b7y:=⟨_,d4e,e0h⟩
theorem a6o(h1:DG X e dg)(h2:DGs X es dgs)(hs:(assignEach (e :: es) X.env).map (·.2)=assign e X.env :: (assignEach es X.env).map (·.2):=by rfl):DGs X (e :: es) (b9h dg dgs):=by obtain⟨_,p,a⟩:=h1;obtain⟨_,p',a'⟩:=h2;exact⟨_,c9f p p' hs,d5f a a'⟩
theorem b9o{k n:Nat}(hc:X.calm=true)(h:DGs X es dgs)(hn:(assignEach es X.env).length=n:=by rfl)(hst:(assignEach es X.env).findIdx? (·.1)=none:=by rfl):DG X (.Tuple es k pos) (c4d n dgs):=by obtain⟨_,p,a⟩:=h;exact⟨_,d9a hc p hn hst,e0i a⟩
theorem a5t(i:Nat){x:Str}{p p2:Pos}(hN:X.N[i]? = some x)(he:DE X e de)(hv:Vis X.env.scope x:=by first | exact Or.inl rfl | exact Or.inr (Or.inl rfl) | exact Or.inr (Or.inr rfl)) (hd:(x == ("__debug__" : Str))=false:=by decide)
  (hcd:(x == ("__classdict__" : Str))=false:=by decide) (hs:starEach [e] X.env=[(false,eval e X.env)]:=by rfl)
  (hbase:attributeBase (.Name x p) "append" X.env (eval (.Name x p) X.env)=eval (.Name x p) X.env:=by rfl)
  (hfew:((backTo pos (starEach [e] X.env)).all (fun x=>!x.1) && (backToKw pos (keywordEach [] X.env)).all (fun x=>x.1.isSome)
   && decide (([e]:List Expr).length + ([]:List Keyword).length + (if ([]:List Keyword).isEmpty then 0 else 1) < 30))=true:=by rfl)
  (hline:(p2.endLine == pos.line)=true:=by rfl):DE X (.Call (.Attribute (.Name x p) "append" p2) [e] [] pos) (b5v i de):=by
 obtain⟨te,pe,ae⟩:=he
 exact⟨_,b1y PySem.F.plainAttrs_list PySem.F.slot_list_append PySem.F.type_list_append b1k (b3w hN hv hd hcd) (a0i pe a0r hs) hbase hfew hline hs rfl,c7d ae⟩
theorem e0n(i:Nat){x:Str}{p p2:Pos}(hN:X.N[i]? = some x)(hv:Vis X.env.scope x:=by first | exact Or.inl rfl | exact Or.inr (Or.inl rfl) | exact Or.inr (Or.inr rfl)) (hd:(x == ("__debug__" : Str))=false:=by decide)
  (hcd:(x == ("__classdict__" : Str))=false:=by decide) (hbase:attributeBase (.Name x p) "pop" X.env (eval (.Name x p) X.env)=eval (.Name x p) X.env:=by rfl) (hline:(p2.endLine == pos.line)=true:=by rfl):DE X (.Call (.Attribute (.Name x p) "pop" p2) [] [] pos) (dPop i):=
 ⟨_,d9l PySem.F.plainAttrs_list PySem.F.slot_list_pop PySem.F.type_list_pop d9m (b3w hN hv hd hcd) hbase hline,e0j⟩
theorem d0a{c:Expr}{body:List Stmt}(hp:PassesOwn (model X.prog X.w) X.A X.env X.xe)(hc:DT X c dtt)(hb:DSs X body dt):DS X (.While c body [] pos) (b9j dtt dt):=by obtain⟨_,p,a⟩:=hc;obtain⟨_,p',a'⟩:=hb;exact⟨_,b8p hp p p',c9w a a'⟩
theorem b1o{body:List Stmt}(hp:PassesOwn (model X.prog X.w) X.A X.env X.xe)(hc:X.calm=true)(hi:DI X tg iter di)(hg:DG X tg dg)(hb:DSs X body dt)(hs:∀ x,foldedSetIterable iter X.env x=pure x:=by intro _;rfl):DS X (.For tg iter body [] pos) (dFor di dg dt):=
 by obtain⟨_,p,a⟩:=hi;obtain⟨_,p',a'⟩:=hg;obtain⟨_,p2,a2⟩:=hb;exact⟨_,d9d hp hc p p' p2 hs,e0l a a' a2⟩
theorem a9y(h:DE X e de):DI X tg e (c4g de):=by obtain⟨_,p,a⟩:=h;exact⟨_,d9r p,e0k a⟩
theorem c7j{p:Pos} (hg:Gl X "range") (hm:X.mg "range" = none) (ha:DE X a da) (hs:starEach [a] X.env=[(false,eval a X.env)]:=by rfl):DI X tg (.Call (.Name "range" p) [a] [] pos) (b9k da):=
 by obtain⟨_,p,a⟩:=ha;exact⟨_,c6k hg hm (a0i p a0r hs) hs,d5g a⟩
theorem b5y:DIf X [] (fun ρ Q=>Q true ρ):=⟨_,d4p,fun c O ρ σ H Qd Q R h k=>k _ _ _ _ h R .refl⟩
theorem b5z(h:DT X e dtt):DIf X [e] dtt:=by obtain⟨_,p,a⟩:=h;exact⟨_,d4q p,a⟩
end
def upE(K:W.Frag)(dt:TDE):TE:=fun σ H Q=>∃ c O ρ Qd,Rel K c O ρ σ H/\dt ρ Qd/\(∀ x ρ' O' v H',Qd x ρ'->Rel K c O' ρ' σ H'->Pers K (live c O) H (live c O') H'->AtV K (live c O') σ H' x v->Q v H')
def upT(K:W.Frag)(dt:TDT):TT:=fun σ H Q=>∃ c O ρ Qd,Rel K c O ρ σ H/\dt ρ Qd/\(∀ b ρ' O' H',Qd b ρ'->Rel K c O' ρ' σ H'->Pers K (live c O) H (live c O') H'->Q b H')
def upG(K:W.Frag)(dg:TDG):TG:=fun v σ H Q=>∃ c O ρ x Qd,Rel K c O ρ σ H/\AtD K H (live c O) x v/\dg x ρ Qd/\(∀ O' ρ' σ' ,Rel K c O' ρ' σ' H->Pers K (live c O) H (live c O') H->Qd ρ'->Q σ' H)
theorem c7k{K:W.Frag}{dt:TDE}:AdE K (upE K dt) dt:=fun c O ρ σ H Qd Q R h k=>⟨c,O,ρ,Qd,R,h,k⟩
theorem c7l{K:W.Frag}{dt:TDT}:AdT K (upT K dt) dt:=fun c O ρ σ H Qd Q R h k=>⟨c,O,ρ,Qd,R,h,k⟩
theorem c7m{K:W.Frag}{dg:TDG}:AdG K (upG K dg) dg:=fun c O ρ σ H x v Qd Q R a h k=>⟨c,O,ρ,x,Qd,R,a,h,k⟩
theorem DE.up{X:Cx}{e:Expr}{de:TDE}(h:DE X e de):PE X e (upE X.K de):=fun pins s σ H Q I q=>by
 obtain⟨t,p,a⟩:=h
 obtain⟨c,O,ρ,Qd,R,q,k⟩:=q
 exact p pins s σ H Q I (a c O ρ σ H Qd Q R q k)
theorem DIf.up{X:Cx}{e:List Expr}{de:TDT}(h:DIf X e de):PIf X e (upT X.K de):=fun pins s σ H Q I q=>by
 obtain⟨t,p,a⟩:=h
 obtain⟨c,O,ρ,Qd,R,q,k⟩:=q
 exact p pins s σ H Q I (a c O ρ σ H Qd Q R q k)
theorem DG.up{X:Cx}{e:Expr}{dg:TDG}(h:DG X e dg):PG X e (upG X.K dg):=fun pins s σ H v u Q I r q=>by
 obtain⟨t,p,a⟩:=h
 obtain⟨c,O,ρ,x,Qd,R,ax,q,k⟩:=q
 exact p pins s σ H v u Q I r (a c O ρ σ H x v Qd Q R ax q k)
section
variable{X:Cx}{elt tg iter:Expr}{ifs:List Expr}{scope:Scope}{pos:Pos}{own:List Str}{cap:List (Str × Nat)}{di:TDI}{dg:TDG}{dt:TDT}{de:TDE}
theorem b2e(own:List Str)(cap:List (Str × Nat))(hc:X.calm=true)(hok:a5m X scope own cap=true)(hnd:(scope.names.map (·.1)).Nodup)(hi:DI X tg iter di)
  (hg:∀ fp s2 H2,DG (cxC X scope own cap fp s2 H2) tg dg) (ht:∀ fp s2 H2,DIf (cxC X scope own cap fp s2 H2) ifs dt) (he:∀ fp s2 H2,DE (cxC X scope own cap fp s2 H2) elt de)
  (hs:∀ x,foldedSetIterable iter X.env x=pure x:=by intro _;rfl):DF X (.ListComp elt [⟨tg,iter,ifs,0⟩] scope pos) (b7z own.length cap di dg dt de):=by
 obtain⟨ti,pi,ai⟩:=hi
 exact⟨_,d4r hc hok hnd pi (fun a b c=>(hg a b c).up) (fun a b c=>(ht a b c).up) (fun a b c=>(he a b c).up) hs,c2m rfl ai c7m c7l c7k⟩
theorem c2o{i:Nat}{y:Str}{py spos:Pos}(hN:X.N.Nodup)(hi':X.N[i]? = some y)(hy:X.env.scope.names.lookup y=some .local)
  (own:List Str) (cap:List (Str × Nat)) (hc:X.calm=true) (hok:a5m X scope own cap=true) (hnd:(scope.names.map (·.1)).Nodup) (hi:DI X tg iter di)
  (hg:∀ fp s2 H2,DG (cxC X scope own cap fp s2 H2) tg dg) (ht:∀ fp s2 H2,DIf (cxC X scope own cap fp s2 H2) ifs dt) (he:∀ fp s2 H2,DE (cxC X scope own cap fp s2 H2) elt de)
  (hsw:swapsWith (.ListComp elt [⟨tg,iter,ifs,0⟩] scope pos) (some (.Name y py)) spos.line X.env=pure true:=by rfl)
  (hs:∀ x,foldedSetIterable iter X.env x=pure x:=by intro _;rfl):DS X (.Assign [.Name y py] (.ListComp elt [⟨tg,iter,ifs,0⟩] scope pos) spos) (b7x i (b7z own.length cap di dg dt de)):=by
 obtain⟨ti,pi,ai⟩:=hi
 exact⟨_,d4s hN hi' hy hc hok hnd pi (fun a b c=>(hg a b c).up) (fun a b c=>(ht a b c).up) (fun a b c=>(he a b c).up) hsw hs,c2j (c2m rfl ai c7m c7l c7k)⟩
end
section
variable{K:W.Frag}
def dIs(T:String)(de:TDE):TDE:=fun ρ Q=>de ρ fun x ρ1=>need (a0n ρ1 x) fun d=>Q (.d (.bool (isD T d))) ρ1
theorem ad_is{t:TE}{de:TDE}{T:String}(hT:a1w T=true)(h:AdE K t de):AdE K (tCB (fun xs H Q=>∃ v S d T,xs=[v,.ty T]/\AtD K H S d v/\a1w T=true/\Q (.bl (isD T d)) H) (a5l t (a5l (tC (.ty T)) tNil))) (dIs T de):=fun c O ρ σ H Qd Q R q k =>
 h c O ρ σ H _ _ R q fun x ρ1 O1 v H1 h1 R1 P1 a1=>by
  obtain⟨d,e1,h2⟩:=ne (h1)
  exact⟨v,Any,d,T,rfl,(R1.top a1 e1).any,hT,k _ _ _ _ _ h2 R1 P1 a8t⟩
end
theorem b2f{X:Cx}{e:Expr}{de:TDE}{x:Str}{T:String}{p p2 pos:Pos} (hg:Gl X "isinstance") (hm:X.mg "isinstance" = none) (hg2:Gl X x) (hm2:X.mg x=none) (hv:bootBuiltins x=some (.type T)) (hT:a1w T=true) (he:DE X e de) (hn:x ≠ "__name__":=by decide) (hd:(x == ("__debug__" : Str))=false:=by decide)
  (hs:starEach [e,.Name x p2] X.env=(false,eval e X.env) :: starEach [.Name x p2] X.env:=by rfl):DE X (.Call (.Name "isinstance" p) [e,.Name x p2] [] pos) (dIs T de):=by
 obtain⟨t,pe,ae⟩:=he
 exact⟨_,a4m c9q hg hm b1c (a0i pe (a0i (c3w hg2 hm2 hv hn hd) a0r) hs) (by decide) (by decide) hs rfl,ad_is hT ae⟩
end L2
end
section
namespace L2
open PySem PySem.Spec PyProof.Rows
noncomputable def fEqA(neg:Bool):F2:=fun x y=>if (a1l x && a1l y && scal (toV x) (toV y))=true then some (.bool (if neg then !decide (toV x=toV y) else decide (toV x=toV y))) else fEq neg x y
section
variable{K:W.Frag}
theorem a2u:AdR K (fun x y H Q=>rEq x y H Q ∨ rEqD K false x y H Q) (fEqA false):=by
 intro S H x y dx dy z Q f hx hy e k
 unfold fEqA at e
 split at e
 ·rename_i hc
  rw [and_eq_true,and_eq_true] at hc
  cases e
  obtain⟨e1,_⟩:=a8f (hx.at fun ds z=>by subst z;exact absurd hc.1.1 (by simp [a1l])) hc.1.1
  obtain⟨e2,_⟩:=a8f (hy.at fun ds z=>by subst z;exact absurd hc.1.2 (by simp [a1l])) hc.1.2
  rw [e1,e2]
  exact .inl ⟨hc.2,k _ _ (Same.refl _) (a3k _)⟩
 ·exact .inr (d3n S H x y dx dy z Q f hx hy e k)
theorem b4o:AdR K (fun x y H Q=>rNe x y H Q ∨ rEqD K true x y H Q) (fEqA true):=by
 intro S H x y dx dy z Q f hx hy e k
 unfold fEqA at e
 split at e
 ·rename_i hc
  rw [and_eq_true,and_eq_true] at hc
  cases e
  obtain⟨e1,_⟩:=a8f (hx.at fun ds z=>by subst z;exact absurd hc.1.1 (by simp [a1l])) hc.1.1
  obtain⟨e2,_⟩:=a8f (hy.at fun ds z=>by subst z;exact absurd hc.1.2 (by simp [a1l])) hc.1.2
  rw [e1,e2]
  exact .inl ⟨hc.2,k _ _ (Same.refl _) (a3k _)⟩
 ·exact .inr (d3n S H x y dx dy z Q f hx hy e k)
theorem a2v{X:Cx}(hu:X.A.units + 64 < cLine):OpR X (compareOp .Eq) (fun x y H Q=>rEq x y H Q ∨ rEqD X.K false x y H Q):=b7s.or (d9p hu)
theorem b4p{X:Cx}(hu:X.A.units + 64 < cLine):OpR X (compareOp .NotEq) (fun x y H Q=>rNe x y H Q ∨ rEqD X.K true x y H Q):=d3h.or (d9q hu)
end
theorem d0b{neg:Bool}{x y:Str}:fEqA neg (.str x) (.str y)=some (.bool (if neg then !decide (x=y) else decide (x=y))):=by
 have e:decide (V.str x=V.str y)=decide (x=y):=by simp
 unfold fEqA
 rw [if_pos (show(a1l (.str x) && a1l (.str y) && scal (toV (.str x)) (toV (.str y)))=true from rfl)]
 show some (PyData.bool (if neg=true then !decide (V.str x=V.str y) else decide (V.str x=V.str y)))=_
 rw [e]
theorem d0c{neg:Bool}{x y:Int}:fEqA neg (.int x) (.int y)=some (.bool (if neg then !decide (x=y) else decide (x=y))):=by
 have e:decide (V.int x=V.int y)=decide (x=y):=by simp
 unfold fEqA
 rw [if_pos (show(a1l (.int x) && a1l (.int y) && scal (toV (.int x)) (toV (.int y)))=true from rfl)]
 show some (PyData.bool (if neg=true then !decide (V.int x=V.int y) else decide (V.int x=V.int y)))=_
 rw [e]
theorem c7n{neg:Bool}{x y:Bool}:fEqA neg (.bool x) (.bool y)=some (.bool (if neg then !decide (x=y) else decide (x=y))):=by
 have e:decide (V.bl x=V.bl y)=decide (x=y):=by simp
 unfold fEqA
 rw [if_pos (show(a1l (.bool x) && a1l (.bool y) && scal (toV (.bool x)) (toV (.bool y)))=true from rfl)]
 show some (PyData.bool (if neg=true then !decide (V.bl x=V.bl y) else decide (V.bl x=V.bl y)))=_
 rw [e]
theorem b9p{neg:Bool}{x y:PyData}(h:(a1l x && a1l y)=false)(hx:SeqAt.shaped x=true)(hy:SeqAt.shaped y=true):fEqA neg x y=some (.bool (if neg then !PyData.eqv x y else PyData.eqv x y)):=by
 unfold fEqA fEq
 rw [h,Bool.false_and,if_neg Bool.false_ne_true,if_pos ⟨hx,hy⟩]
theorem fIx_l{xs:List PyData}{i:Int}:fIx (.list xs) (.int i)=atI xs i:=rfl
theorem fIx_t{xs:List PyData}{i:Int}:fIx (.tuple xs) (.int i)=atI xs i:=rfl
theorem e0o{i j:Int}:fAdd (.int i) (.int j)=some (.int (i + j)):=rfl
theorem e0p{i j:Int}:fSub (.int i) (.int j)=some (.int (i - j)):=rfl
theorem e0q{p:Int->Int->Bool}{i j:Int}:fCmp p (.int i) (.int j)=some (.bool (p i j)):=rfl
theorem e0r{xs:List PyData}:fLen [.list xs]=some (.int xs.length):=rfl
theorem e0s{xs:List PyData}:fLen [.tuple xs]=some (.int xs.length):=rfl
theorem d0d{xs:List PyData}:b4j [.list xs]=some (.tuple xs):=rfl
theorem d0e{xs:List PyData}:b4j [.tuple xs]=some (.tuple xs):=rfl
theorem d5i{xs:List PyData}:d3p [.list xs]=some xs:=rfl
theorem d5j{xs:List PyData}:d3p [.tuple xs]=some xs:=rfl
theorem fIn_f{neg:Bool}{x:PyData}{xs:List PyData}(h:(a1l x && xs.all a1l)=true):fIn neg x (.tuple xs)=some (.bool (if neg then !inF x xs else inF x xs)):=by
 show(if a1l x && xs.all a1l then some (PyData.bool (if neg then !inF x xs else inF x xs)) else none)=_
 rw [if_pos h]
theorem b9q{neg:Bool}{x:PyData}{xs:List PyData}(h:(a1l x && xs.all a1l)=true):fIn neg x (.list xs)=some (.bool (if neg then !inF x xs else inF x xs)):=by
 show(if a1l x && xs.all a1l then some (PyData.bool (if neg then !inF x xs else inF x xs)) else none)=_
 rw [if_pos h]
theorem c7o{xs ys:List PyData}(h:xs.length + ys.length <= sizeLine):fAdd (.list xs) (.list ys)=some (.list (xs ++ ys)):=by
 show(if xs.length + ys.length <= sizeLine then some (PyData.list (xs ++ ys)) else none)=_
 rw [if_pos h]
theorem e0t{i j:Int}(h:0 < j):fMod (.int i) (.int j)=some (.int (i % j)):=by
 show(if 0 < j then some (PyData.int (i % j)) else none)=_
 rw [if_pos h]
theorem a4b{xs:List PyData}{i:Int}{k:PyData->Prop}(h0:0 <= i)(h1:i < xs.length)(h:∀ d,d ∈ xs->xs[i.toNat]? = some d->k d):need (atI xs i) k:=by
 obtain⟨x,e1,e2,e3⟩:=c6z h0 h1
 exact d4u e1 (h x e2 e3)
theorem b7d{α:Type}{xs r:List α}{i:Nat}{x:α}(h:xs.drop i=x :: r):xs[i]? = some x/\xs.drop (i + 1)=r:=by
 have hi:i < xs.length:=by
  by_cases h':i < xs.length
  ·exact h'
  ·rw [List.drop_eq_nil_of_le (by omega)] at h;cases h
 rw [List.drop_eq_getElem_cons hi] at h
 injection h with h1 h2
 exact⟨by rw [getElem?_eq_getElem hi,h1],h2⟩
theorem b9r{α:Type}{xs:List α}{i:Nat}(hi:i <= xs.length)(h:xs.drop i=[]):i=xs.length:=by
 have:=congrArg List.length h
 simp at this
 omega
theorem a6p{g:TDG}{b:TDS}{D:DEnds}{xs:List PyData}{ρ:Rho}(Pv:Nat->Rho->Prop)(h0:Pv 0 ρ)
  (hs:∀ (i:Nat) (x:PyData) (ρ:Rho) (N:Rho->Prop),xs[i]? = some x->Pv i ρ->(∀ ρ',Pv (i + 1) ρ'->N ρ')->g x ρ fun ρ1=>b { D with nx:=N,ct:=N,bk:=D.nx } ρ1)
  (hd:∀ ρ,Pv xs.length ρ->D.nx ρ):a5n g b D xs ρ:=by
 have key:∀ (r:List PyData) (i:Nat),i <= xs.length->xs.drop i=r->∀ ρ,Pv i ρ->a5n g b D r ρ:=fun r=>by
  induction r with
  | nil =>
   intro i hi e ρ p
   rw [b9r hi e] at p
   exact hd ρ p
  | cons x r ih =>
   intro i hi e ρ p
   obtain⟨e1,e2⟩:=b7d e
   have hlt:i < xs.length:=(List.getElem?_eq_some_iff.mp e1).1
   exact hs i x ρ _ e1 p fun ρ' p'=>ih (i + 1) hlt e2 ρ' p'
 exact key xs 0 (zero_le _) (by simp) ρ h0
theorem b9s{g:TDG}{tt:TDT}{te:TDE}{Q:List PyData->Rho->Prop}{xs:List PyData}{ρ:Rho}(Pv:Nat->Rho->List PyData->Prop)(h0:Pv 0 ρ [])
  (hs:∀ (i:Nat) (x:PyData) (ρ:Rho) (acc:List PyData) (N:Rho->List PyData->Prop),xs[i]? = some x->Pv i ρ acc->(∀ ρ' acc',Pv (i + 1) ρ' acc'->N ρ' acc') ->
   g x ρ fun ρ1=>tt ρ1 fun b ρ2=>if b=true then te ρ2 fun y ρ3=>fz ρ3 y fun z ρ4=>N ρ4 (acc ++ [z]) else N ρ2 acc)
  (hd:∀ ρ acc,Pv xs.length ρ acc->Q acc ρ):a1y g tt te Q xs ρ []:=by
 have key:∀ (r:List PyData) (i:Nat),i <= xs.length->xs.drop i=r->∀ ρ acc,Pv i ρ acc->a1y g tt te Q r ρ acc:=fun r=>by
  induction r with
  | nil =>
   intro i hi e ρ acc p
   rw [b9r hi e] at p
   exact hd ρ acc p
  | cons x r ih =>
   intro i hi e ρ acc p
   obtain⟨e1,e2⟩:=b7d e
   have hlt:i < xs.length:=(List.getElem?_eq_some_iff.mp e1).1
   exact hs i x ρ acc _ e1 p fun ρ' acc' p'=>ih (i + 1) hlt e2 ρ' acc' p'
 exact key xs 0 (zero_le _) (by simp) ρ [] h0
end L2
end
section
namespace L2
open PySem PySem.Spec PyProof.Rows
def later(u:TDS)(D:DEnds)(ρ:Rho):Prop:=u D ρ
theorem c2p{u:TDS}{D:DEnds}{ρ:Rho}(h:u D ρ):later u D ρ:=h
section
variable{t u b:TDS}{c tt:TDT}{D:DEnds}{ρ ρi:Rho}{i j n:Nat}{da db dc de te:TDE}{df:TDF}{daa:TDA}{f f':F2}{fl:F2L}{fc:FC}{fcl:FCL}{T:String}{dg g:TDG}{dgs:TDGs}{di:TDI}{x:PyData}{y:DV}{xs:List PyData}{ys:List DV}{fs:List Bool}{sp:DSp}
 {Q:DV->Rho->Prop} {QF:List PyData->Rho->Prop} {QB:Bool->Rho->Prop} {QA:List DV->Rho->Prop} {QR:RV->Rho->Prop} {QD:PyData->Rho->Prop} {N:Rho->Prop} {QL:L->Rho->Prop} {QLs:List L->Rho->Prop}
theorem e0u:dSeq t u D ρ=t { D with nx:=later u D } ρ:=rfl
theorem d5k:c4a D ρ=D.nx ρ:=rfl
theorem d0f:e0e D ρ=D.bk ρ:=rfl
theorem d5l:dCont D ρ=D.ct ρ:=rfl
theorem dIf_a:dIf c t u D ρ=c ρ fun b ρ1=>if b=true then t D ρ1 else u D ρ1:=rfl
theorem d5m:c4b de D ρ=de ρ fun _ ρ1=>D.nx ρ1:=rfl
theorem e0v:dRet de D ρ=de ρ fun x ρ1=>fz ρ1 x fun y ρ2=>D.rt (.d y) ρ2:=rfl
theorem d5n:c4c df D ρ=df ρ fun xs ρ1=>D.rt (.new xs) ρ1:=rfl
theorem d5o:dRetN D ρ=D.rt (.d .none) ρ:=rfl
noncomputable def c7p:Option L->Option (List PyData)
 | some (.own xs)=>some xs
 | _=>none
theorem d0g:c7p (some (.own xs))=some xs:=rfl
theorem c7q:d5d i D ρ=need (c7p (ρ[i]?.join)) fun xs=>D.rt (.new xs) (ρ.set i none):=rfl
theorem e0w:dSet i de D ρ=de ρ fun x ρ1=>fz ρ1 x fun y ρ2=>i < ρ2.length/\D.nx (ρ2.set i (some (.d y))):=rfl
theorem d5p:b7x i df D ρ=df ρ fun xs ρ1=>i < ρ1.length/\D.nx (ρ1.set i (some (.own xs))):=rfl
theorem e0x:dAsg de dg D ρ=de ρ fun x ρ1=>fz ρ1 x fun y ρ2=>dg y ρ2 D.nx:=rfl
theorem e0y:dFor di dg b D ρ=di ρ fun xs ρ1=>a5n dg b D xs ρ1:=rfl
theorem e0z:dVar i ρ Q=((ρ[i]?.join).isSome=true/\Q (.sl i) ρ):=rfl
theorem dC_a:dC x ρ Q=Q (.d x) ρ:=rfl
theorem dOp_a:dOp f da db ρ Q=da ρ fun x ρ1=>db ρ1 fun y ρ2=>need (a0n ρ2 x) fun dx=>need (a0n ρ2 y) fun dy=>need (f dx dy) fun z=>Q (.d z) ρ2:=rfl
theorem e1a:dOpF fl da db ρ QF=da ρ fun x ρ1=>db ρ1 fun y ρ2=>need (a0n ρ2 x) fun dx=>need (a0n ρ2 y) fun dy=>need (fl dx dy) fun z=>QF z ρ2:=rfl
theorem dCB_a:dCB fc daa ρ Q=daa ρ fun xs ρ1=>need (a1a ρ1 xs) fun ds=>need (fc ds) fun z=>Q (.d z) ρ1:=rfl
theorem e1b:dCBF fcl daa ρ QF=daa ρ fun xs ρ1=>need (a1a ρ1 xs) fun ds=>need (fcl ds) fun z=>QF z ρ1:=rfl
theorem e1c:dTup daa ρ Q=daa ρ fun xs ρ1=>fzs ρ1 xs fun ys ρ2=>ys.length <= 1000000/\Q (.d (.tuple ys)) ρ2:=rfl
theorem e1d:dLst daa ρ QF=daa ρ fun xs ρ1=>fzs ρ1 xs fun ys ρ2=>ys.length <= 1000000/\QF ys ρ2:=rfl
theorem dFz_a:dFz df ρ Q=df ρ fun xs ρ1=>Q (.d (.list xs)) ρ1:=rfl
theorem e1e:dNil ρ QA=QA [] ρ:=rfl
theorem d5q:a5y de daa ρ QA=de ρ fun x ρ1=>daa ρ1 fun xs ρ2=>QA (x :: xs) ρ2:=rfl
theorem dB_a:dB de ρ QB=de ρ fun x ρ1=>need (a0n ρ1 x) fun d=>need (asB d) fun b=>QB b ρ1:=rfl
theorem e1f:dTru de ρ QB=de ρ fun x ρ1=>need (a0n ρ1 x) fun d=>need (tru d) fun b=>QB b ρ1:=rfl
theorem e1g{v w:TDT}:dAnd v w ρ QB=v ρ fun b ρ1=>if b=true then w ρ1 QB else QB false ρ1:=rfl
theorem dOr_a{v w:TDT}:dOr v w ρ QB=v ρ fun b ρ1=>if b=true then QB true ρ1 else w ρ1 QB:=rfl
theorem e1h{v:TDT}:dNot v ρ QB=v ρ fun b ρ1=>QB (!b) ρ1:=rfl
theorem e1i:dIfE c da db ρ Q=c ρ fun k ρ1=>if k=true then da ρ1 Q else db ρ1 Q:=rfl
theorem d5r:c3y da db ρ Q=da ρ fun x ρ1=>need (a0n ρ1 x) fun d=>need (asB d) fun k=>if k=true then db ρ1 Q else Q (.d (.bool false)) ρ1:=rfl
theorem e1j:dOrV da db ρ Q=da ρ fun x ρ1=>need (a0n ρ1 x) fun d=>need (asB d) fun k=>if k=true then Q (.d (.bool true)) ρ1 else db ρ1 Q:=rfl
theorem d5s:c3z da ρ Q=da ρ fun x ρ1=>need (a0n ρ1 x) fun d=>need (asB d) fun k=>Q (.d (.bool (!k))) ρ1:=rfl
theorem d0h:b9e f f' da db dc ρ Q=da ρ fun x ρ1=>db ρ1 fun y ρ2=>need (a0n ρ2 x) fun dx=>need (a0n ρ2 y) fun dy=>need (f dx dy) fun z=>need (asB z) fun k =>
 if k=true then dc ρ2 fun w ρ3=>need (a0n ρ3 y) fun dy=>need (a0n ρ3 w) fun dw=>need (f' dy dw) fun z'=>Q (.d z') ρ3 else Q (.d (.bool false)) ρ2:=rfl
theorem dIs_a:dIs T de ρ Q=de ρ fun x ρ1=>need (a0n ρ1 x) fun d=>Q (.d (.bool (isD T d))) ρ1:=rfl
noncomputable def a4h:Option L->Option (OK × List PyData)
 | some (.own xs)=>some (.o,xs)
 | some (.bor xs)=>some (.b,xs)
 | _=>none
theorem e1k:ownB ρ i=a4h (ρ[i]?.join):=rfl
theorem d5t:a4h (some (.own xs))=some (.o,xs):=rfl
theorem d5u:a4h (some (.bor xs))=some (.b,xs):=rfl
theorem okL_o:okL .o xs=.own xs:=rfl
theorem okL_b:okL .b xs=.bor xs:=rfl
theorem c7r:b5v i de ρ Q=need (a4h (ρ[i]?.join)) fun _=>de ρ fun x ρ1=>fz ρ1 x fun y ρ2=>need (a4h (ρ2[i]?.join)) fun o=>o.2.length <= 1000000/\Q (.d .none) (ρ2.set i (some (okL o.1 (o.2 ++ [y])))):=rfl
theorem e1l:dPop i ρ Q=need (a4h (ρ[i]?.join)) fun o=>need o.2.getLast? fun y=>Q (.d y) (ρ.set i (some (okL o.1 o.2.dropLast))):=rfl
theorem d0i:b9i i di' de D ρ=de ρ fun x ρ1=>fz ρ1 x fun y ρ2=>need (a4h (ρ2[i]?.join)) fun _=>di' ρ2 fun z ρ3=>need (a0n ρ3 z) fun dz=>need (b9i.asI dz) fun n=>need (a4h (ρ3[i]?.join)) fun o=>need (ixN o.2.length n) fun j=>D.nx (ρ3.set i (some (okL o.1 (o.2.set j y)))):=rfl
theorem e1m{n:Int}:b9i.asI (.int n)=some n:=rfl
theorem asI_i{n:Int}:asI (.int n)=some n:=rfl
theorem d0j:b9g i x ρ N=(i < ρ.length/\N (ρ.set i (some (.d x)))):=rfl
theorem d5v:c4d n dgs (.tuple xs) ρ N=(xs.length=n/\dgs xs ρ N):=rfl
theorem d0k:b9h dg dgs (x :: xs) ρ N=dg x ρ fun ρ1=>dgs xs ρ1 N:=rfl
theorem d5w:b7y [] ρ N=N ρ:=by unfold b7y;simp
theorem d5x:c4g de ρ QF=de ρ fun x ρ1=>fz ρ1 x fun y ρ2=>need (seqD y) fun xs=>QF xs ρ2:=rfl
theorem d0l:b9k de ρ QF=de ρ fun x ρ1=>need (a0n ρ1 x) fun d=>need (asI d) fun j=>sm62 j/\QF (rngD 0 j.toNat) ρ1:=rfl
theorem d0m:b4n fs sp daa ρ Q=daa ρ fun xs ρ1=>pass fs xs ρ1 fun ls ρ2=>((flOf 0 fs xs).map (·.2)).Nodup/\sp ls fun r outs=>match r with
 | .d x=>Q (.d x) (fills outs (flOf 0 fs xs) ρ2)
 | .new ys=>Q (.d (.list ys)) (fills outs (flOf 0 fs xs) ρ2):=rfl
theorem d0n:e0m fs sp daa ρ QF=daa ρ fun xs ρ1=>pass fs xs ρ1 fun ls ρ2=>((flOf 0 fs xs).map (·.2)).Nodup/\sp ls fun r outs=>match r with
 | .d _=>False
 | .new ys=>QF ys (fills outs (flOf 0 fs xs) ρ2):=rfl
theorem e1n:pass [] [] ρ QLs=QLs [] ρ:=rfl
theorem e1o:pass (false :: fs) (y :: ys) ρ QLs=fzL ρ y fun l ρ1=>pass fs ys ρ1 fun ls ρ2=>QLs (l :: ls) ρ2:=by cases y<;>rfl
noncomputable def ioJ:Option L->Option L
 | some l=>if isOw l then some (lend l) else none
 | none=>none
theorem e1p:pass (true :: fs) (.sl i :: ys) ρ QLs=pass fs ys ρ fun ls ρ2=>need (ioJ (ρ2[i]?.join)) fun l=>QLs (l :: ls) ρ2:=rfl
theorem ioJ_o:ioJ (some (.own xs))=some (.bor xs):=rfl
theorem ioJ_b:ioJ (some (.bor xs))=some (.bor xs):=rfl
theorem ioJ_t:ioJ (some (.tape n))=some (.tape n):=rfl
def fzJ(l:Option L)(ρ:Rho)(i:Nat)(Q:PyData->Rho->Prop):Prop:=match l with
 | some (.d y)=>Q y ρ
 | some (.own xs)=>Q (.list xs) (ρ.set i (some (.d (.list xs))))
 | _=>False
theorem fz_d:fz ρ (.d x) QD=QD x ρ:=rfl
theorem fz_sl:fz ρ (.sl i) QD=fzJ (ρ[i]?.join) ρ i QD:=rfl
theorem fzJ_d:fzJ (some (.d x)) ρ i QD=QD x ρ:=rfl
theorem fzJ_o:fzJ (some (.own xs)) ρ i QD=QD (.list xs) (ρ.set i (some (.d (.list xs)))):=rfl
def fzLJ(l:Option L)(ρ:Rho)(i:Nat)(Q:L->Rho->Prop):Prop:=match l with
 | some (.d y)=>Q (.d y) ρ
 | some (.own xs)=>Q (.d (.list xs)) (ρ.set i (some (.d (.list xs))))
 | some .scr=>Q .scr ρ
 | _=>False
theorem fzL_d:fzL ρ (.d x) QL=QL (.d x) ρ:=rfl
theorem e1q:fzL ρ (.sl i) QL=fzLJ (ρ[i]?.join) ρ i QL:=rfl
theorem e1r:fzLJ (some (.d x)) ρ i QL=QL (.d x) ρ:=rfl
theorem e1s:fzLJ (some (.own xs)) ρ i QL=QL (.d (.list xs)) (ρ.set i (some (.d (.list xs)))):=rfl
theorem e1t:fzLJ (some .scr) ρ i QL=QL .scr ρ:=rfl
theorem fzs_n:fzs ρ [] QF=QF [] ρ:=rfl
theorem fzs_c:fzs ρ (y :: ys) QF=fz ρ y fun z ρ1=>fzs ρ1 ys fun zs ρ2=>QF (z :: zs) ρ2:=rfl
theorem e1u:flOf n [] ys=[]:=by cases ys<;>rfl
theorem e1v:flOf n (false :: fs) (y :: ys)=flOf (n + 1) fs ys:=by cases y<;>rfl
theorem e1w:flOf n (true :: fs) (.sl i :: ys)=(n,i) :: flOf (n + 1) fs ys:=rfl
noncomputable def a8w(l:Option L)(ρi:Rho)(j i:Nat)(ρ:Rho):Rho:=match l with
 | some l0=>if isOw l0 then ρ.set i (a6b ρi l0 j) else ρ
 | none=>ρ
theorem d5y:fills ρi [] ρ=ρ:=rfl
theorem d5z{r:List (Nat × Nat)}:fills ρi ((j,i) :: r) ρ=fills ρi r (a8w (ρ[i]?.join) ρi j i ρ):=rfl
theorem d0o:a8w (some (.own xs)) ρi j i ρ=ρ.set i ((ρi[j]?.join).bind (a6a (.own xs))):=rfl
theorem d0p:a8w (some (.bor xs)) ρi j i ρ=ρ.set i ((ρi[j]?.join).bind (a6a (.bor xs))):=rfl
theorem d0q:a8w (some (.tape n)) ρi j i ρ=ρ.set i ((ρi[j]?.join).bind (a6a (.tape n))):=rfl
theorem d0r:a8w (some (.d x)) ρi j i ρ=ρ:=rfl
theorem d0s:a8w (some .scr) ρi j i ρ=ρ:=rfl
theorem d0t:a8w none ρi j i ρ=ρ:=rfl
theorem d6a:a6a (.own xs) (.bor x')=some (.own x'):=rfl
theorem d6b:a6a (.bor xs) (.bor x')=some (.bor x'):=rfl
theorem d6c{m:Nat}:a6a (.tape n) (.tape m)=some (.tape m):=rfl
theorem e1x:lend (.own xs)=.bor xs:=rfl
theorem e1y:lend (.bor xs)=.bor xs:=rfl
theorem e1z:lend (.tape n)=.tape n:=rfl
theorem e2a:lend (.d x)=.d x:=rfl
theorem e2b:lend .scr=.scr:=rfl
theorem d6d{cap:List (Str × Nat)}:b7z n cap di g tt te ρ QF=di ρ fun xs ρ1=>xs.length <= 1000000/\(cap.map (·.2)).Nodup/\a1y g tt te (fun acc ρ'=>QF acc (fills ρ' (flC n cap) ρ1)) xs (capR n cap ρ1) []:=rfl
theorem flC_n:flC n []=[]:=rfl
theorem flC_c{p:Str × Nat}{r:List (Str × Nat)}:flC n (p :: r)=(n,p.2) :: flC (n + 1) r:=rfl
theorem e2c{cap:List (Str × Nat)}:capR n cap ρ=List.replicate n none ++ cap.map fun p=>(ρ[p.2]?.join).map lend:=rfl
theorem d6e:a0n ρ (.d x)=some x:=rfl
theorem d0u:a0n ρ (.sl i)=(ρ[i]?.join).bind a9x:=rfl
theorem d0v:a9x (.d x)=some x:=rfl
theorem d0w:a9x (.own xs)=some (.list xs):=rfl
theorem d0x:a9x (.bor xs)=some (.list xs):=rfl
theorem d0y:a1a ρ []=some []:=rfl
theorem d0z:a1a ρ (y :: ys)=(a0n ρ y).bind fun z=>(a1a ρ ys).map (z :: ·):=rfl
theorem asB_b{b:Bool}:asB (.bool b)=some b:=rfl
theorem tru_b{b:Bool}:tru (.bool b)=some b:=rfl
theorem tru_n:tru .none=some false:=rfl
theorem tru_i{i:Int}:tru (.int i)=some (i != 0):=rfl
theorem tru_l:tru (.list xs)=some (!xs.isEmpty):=rfl
theorem tru_t:tru (.tuple xs)=some (!xs.isEmpty):=rfl
theorem e2d:seqD (.list xs)=some xs:=rfl
theorem e2e:seqD (.tuple xs)=some xs:=rfl
theorem e2f:mask [] ρ=[]:=rfl
theorem e2g{ls:List L}{l:Option L}:mask (.d x :: ls) (l :: ρ)=none :: mask ls ρ:=rfl
theorem e2h{ls:List L}{l:Option L}:mask (.scr :: ls) (l :: ρ)=none :: mask ls ρ:=rfl
theorem e2i{ls:List L}{l:Option L}:mask (.tape n :: ls) (l :: ρ)=l :: mask ls ρ:=rfl
theorem e2j{ls:List L}{l:Option L}:mask (.bor xs :: ls) (l :: ρ)=l :: mask ls ρ:=rfl
end
end L2
namespace L2
open PySem
theorem b0p{g:TDG}{tt:TDT}{te:TDE}{Q:List PyData->Rho->Prop}{xs:List PyData}{ρ:Rho}(Sh:Rho->Prop)(fm:PyData->Option PyData)(h0:Sh ρ)
  (hs:∀ (x:PyData) (ρ:Rho) (N:Rho->Option PyData->Prop),x ∈ xs->Sh ρ->(∀ ρ',Sh ρ'->N ρ' (fm x))->g x ρ fun ρ1=>tt ρ1 fun b ρ2=>if b=true then te ρ2 fun y ρ3=>fz ρ3 y fun z ρ4=>N ρ4 (some z) else N ρ2 none)
  (hd:∀ ρ,Sh ρ->Q (xs.filterMap fm) ρ):a1y g tt te Q xs ρ []:=by
 have key:∀ (r:List PyData) (acc:List PyData) (ρ:Rho),(∀ x ∈ r,x ∈ xs)->Sh ρ->(∀ ρ,Sh ρ->Q (acc ++ r.filterMap fm) ρ)->a1y g tt te Q r ρ acc:=fun r=>by
  induction r with
  | nil=>intro acc ρ _ h hq;have:=hq ρ h;show Q acc ρ;simpa using this
  | cons x r ih =>
   intro acc ρ hm h hq
   have step:=hs x ρ (fun ρ' o=>match o with | some z=>a1y g tt te Q r ρ' (acc ++ [z]) | none=>a1y g tt te Q r ρ' acc) (hm x mem_cons_self) h fun ρ' h'=>?_
   ·exact step
   ·cases e:fm x with
    | none =>
     refine ih acc ρ' (fun y hy=>hm y (mem_cons_of_mem _ hy)) h' fun ρ2 h2=>?_
     have:=hq ρ2 h2
     rwa [List.filterMap_cons_none e] at this
    | some z =>
     refine ih (acc ++ [z]) ρ' (fun y hy=>hm y (mem_cons_of_mem _ hy)) h' fun ρ2 h2=>?_
     have:=hq ρ2 h2
     rw [List.filterMap_cons_some e] at this
     simpa using this
 exact key xs [] ρ (fun _ h=>h) h0 fun ρ h=>by simpa using hd ρ h
theorem a5c{c A B:Prop}[Decidable c](h1:c->A)(h2:¬ c->B):if decide c=true then A else B:=by
 by_cases h:c
 ·rw [if_pos (decide_eq_true h)];exact h1 h
 ·rw [if_neg (by simpa using h)];exact h2 h
theorem b4q{b:Bool}{A B:Prop}(h1:b=true->A)(h2:b=false->B):if b=true then A else B:=by
 cases b
 ·rw [if_neg Bool.false_ne_true];exact h2 rfl
 ·rw [if_pos rfl];exact h1 rfl
end L2
namespace L2
theorem c7s{a b A B:Prop}[Decidable a][Decidable b](h1:a ∨ b->A)(h2:¬ a->¬ b->B):if decide a=true then A else if decide b=true then A else B:=
 a5c (fun c=>h1 (.inl c)) fun c=>a5c (fun c'=>h1 (.inr c')) fun c'=>h2 c c'
theorem c2q{a b A B:Prop}[Decidable a][Decidable b](h1:a->b->A)(h2:¬ (a/\b)->B):if decide a=true then(if decide b=true then A else B) else B:=
 a5c (fun c=>a5c (fun c'=>h1 c c') fun c'=>h2 fun z=>c' z.2) fun c=>h2 fun z=>c z.1
end L2
end
section
namespace L2
open PySem PySem.Spec PyProof.Rows
abbrev TDO:=Rho->(Option Int->Rho->Prop)->Prop
section
variable{K:W.Frag}{c:Rc}{O:Own}{ρ:Rho}{σ:St}{H H':Hp}{S S':Addr->Prop}
def AdO(K:W.Frag)(t:TO)(dt:TDO):Prop:=∀ (c:Rc) (O:Own) (ρ:Rho) (σ:St) (H:Hp) (Qd:Option Int->Rho->Prop) (Q:Option Int->Hp->Prop),Rel K c O ρ σ H->dt ρ Qd ->
 (∀ o ρ' O' H',Qd o ρ'->Rel K c O' ρ' σ H'->Pers K (live c O) H (live c O') H'->Q o H')->t σ H Q
noncomputable def b9t:TDO:=fun ρ Q=>Q none ρ
def b9u(de:TDE):TDO:=fun ρ Q=>de ρ fun x ρ1=>need (a0n ρ1 x) fun d=>need (asI d) fun i=>Q (some i) ρ1
theorem d6f:AdO K c2b b9t:=fun c O ρ σ H Qd Q R h k=>k _ _ _ _ h R .refl
theorem d6g{t:TE}{de:TDE}(h:AdE K t de):AdO K (d3k t) (b9u de):=fun c O ρ σ H Qd Q R q k =>
 h c O ρ σ H _ _ R q fun x ρ1 O1 v H1 h1 R1 P1 a1=>by
  obtain⟨d,e1,hn6⟩:=ne (h1)
  obtain⟨i,e2,h2⟩:=ne (hn6)
  exact⟨i,c7e (R1.top a1 e1) e2,k _ _ _ _ h2 R1 P1⟩
noncomputable def cutD(xs:List PyData)(lo hi:Option Int):List PyData:=(xs.drop (HT.sIx xs.length 0 lo)).take (HT.sIx xs.length xs.length hi - HT.sIx xs.length 0 lo)
theorem a0b.cut{ds:List PyData}{vs:List V}(h:a0b K H S ds vs)(lo hi:Option Int):a0b K H S (cutD ds lo hi) (cutV vs lo hi):=by
 unfold cutD cutV
 rw [h.length]
 exact(h.drop _).take _
abbrev FSl:=PyData->Option Int->Option Int->Option PyData
def dSl(f:FSl)(de:TDE)(dl dh:TDO):TDE:=fun ρ Q=>de ρ fun x ρ1=>dl ρ1 fun lo ρ2=>dh ρ2 fun hi ρ3=>need (a0n ρ3 x) fun d=>need (f d lo hi) fun z=>Q (.d z) ρ3
def AdSl(K:W.Frag)(r:V->Option Int->Option Int->Hp->VK->Prop)(f:FSl):Prop:=∀ (S:Addr->Prop) (H:Hp) (x:V) (d z:PyData) (lo hi:Option Int) (Q:VK),Frs S H->AtT K H S d x->f d lo hi=some z->(∀ v H',Same H H'->AtD K H' S z v->Q v H')->r x lo hi H Q
theorem ad_sl{r:V->Option Int->Option Int->Hp->VK->Prop}{f:FSl}{te:TE}{tl th:TO}{de:TDE}{dl dh:TDO}(hr:AdSl K r f)(he:AdE K te de)(hl:AdO K tl dl)(hh:AdO K th dh):AdE K (tSl r te tl th) (dSl f de dl dh):=by
 intro c O ρ σ H Qd Q R h k
 refine he c O ρ σ H _ _ R h fun x ρ1 O1 v H1 h1 R1 P1 a1=>?_
 refine hl c O1 ρ1 σ H1 _ _ R1 h1 fun lo ρ2 O2 H2 h2 R2 P2=>?_
 refine hh c O2 ρ2 σ H2 _ _ R2 h2 fun hi ρ3 O3 H3 h3 R3 P3=>?_
 obtain⟨d,e1,hn5⟩:=ne (h3)
 obtain⟨z,e2,h4⟩:=ne (hn5)
 refine hr (live c O3) H3 v d z lo hi Q R3.frsLive (R3.top ((a1.pers P2).pers P3) e1) e2 fun w H4 s4 a4=>?_
 exact k _ _ _ _ _ h4 (R3.grow s4) (((P1.trans P2).trans P3).trans (.same s4)) a4
noncomputable def fTab(tab:List (Str × PyData)):PyData->Option PyData
 | .str x=>tab.lookup x
 | _=>none
def dTab(tab:List (Str × PyData))(de:TDE):TDE:=fun ρ Q=>de ρ fun x ρ1=>need (a0n ρ1 x) fun d=>need (fTab tab d) fun z=>Q (.d z) ρ1
def b4r(de:TDE):TDI:=fun ρ Q=>de ρ fun x ρ1=>need (a0n ρ1 x) fun d=>need (asT d) fun xs=>Q xs.reverse ρ1
 where asT:PyData->Option (List PyData)
  | .tuple xs=>some xs
  | _=>none
theorem c4k{a:Addr}{vs:List V}{xs:List PyData}(h1:SqT K H a vs)(h2:a0b K H S xs vs):a8v K S H (Itrv K a vs.length) xs.reverse:=fun S' H' P=>by
 obtain⟨b,ws,e,h3,h4⟩:=a2s (P _ _ (a1o h1 h2))
 cases e
 have hl:ws.length=vs.length:=by rw [h4.length,h2.length]
 refine⟨fun i x e=>?_,?_⟩
 ·obtain⟨w,e1,e2⟩:=h4.reverse.get e
  refine⟨⟨ws,w,h3,hl,e1⟩,fun v H'' y=>?_⟩
  obtain⟨rfl,y⟩:=y
  have e3:=y ws h3
  rw [e1] at e3;cases e3
  exact⟨Same.refl _,e2⟩
 ·show vs.length=xs.reverse.length
  rw [length_reverse,h2.length]
theorem e2k{t:TE}{de:TDE}(h:AdE K t de):AdI K (iRev K t) (b4r de):=fun c O ρ σ H Qd Q R q k =>
 h c O ρ σ H _ _ R q fun x ρ1 O1 v H1 h1 R1 P1 a1=>by
  obtain⟨d,e1,hn3⟩:=ne (h1)
  obtain⟨xs,e2,h2⟩:=ne (hn3)
  have a2:=R1.top a1 e1
  cases d with
  | tuple ys =>
   cases e2
   obtain⟨a,vs,rfl,h3,h4⟩:=a2.tup
   exact⟨a,vs,rfl,h3,k _ _ _ _ _ h2 R1 P1 (c4k h3 h4)⟩
  | _=>cases e2
noncomputable def d3q(hi:Int)(n:Nat):List PyData:=(List.range n).map fun i=>.int (hi - (i:Nat))
def sm60(i:Int):Prop:=-(2 ^ 60) <= i/\i < 2 ^ 60
def b9v(da:TDA):TDI:=fun ρ Q=>da ρ fun xs ρ1=>need (a1a ρ1 xs) fun ds=>need (three ds) fun p=>(sm60 p.1/\sm60 p.2)/\Q (d3q p.1 (p.1 - p.2).toNat) ρ1
 where three:List PyData->Option (Int × Int)
  | [.int i,.int j,.int (-1)]=>some (i,j)
  | _=>none
def dNeg(de:TDE):TDE:=fun ρ Q=>de ρ fun x ρ1=>need (a0n ρ1 x) fun d=>need (asI d) fun i=>Q (.d (.int (-i))) ρ1
end
section
variable{X:Cx}{e a b:Expr}{de da db:TDE}{lo hi:Option Expr}{dl dh:TDO}{tg:Expr}{pos p2:Pos}
def DO(X:Cx)(e:Option Expr)(dt:TDO):Prop:=∃ t,PO X e t/\AdO X.K t dt
theorem c2r:DO X none b9t:=⟨_,d4l,d6f⟩
theorem c2s(h:DE X e de):DO X (some e) (b9u de):=by obtain⟨_,p,a⟩:=h;exact⟨_,d4m p,d6g a⟩
theorem b9w{r:V->Option Int->Option Int->Hp->VK->Prop}{f:FSl}(hr:SlR X r)(ha:AdSl X.K r f)(he:DE X e de)(hl:DO X lo dl)(hu:DO X hi dh):DE X (.Subscript e (.Slice lo hi none p2) pos) (dSl f de dl dh):=
 by obtain⟨_,p,a⟩:=he;obtain⟨_,p',a'⟩:=hl;obtain⟨_,p3,a3⟩:=hu;exact⟨_,c9n hr p p' p3,ad_sl ha a a' a3⟩
theorem c7t{p:Pos} (hg:Gl X "reversed") (hm:X.mg "reversed" = none) (hl:DE X e de) (hs:starEach [e] X.env=[(false,eval e X.env)]:=by rfl):DI X tg (.Call (.Name "reversed" p) [e] [] pos) (b4r de):=
 by obtain⟨_,p,a⟩:=hl;exact⟨_,d9t hg hm p hs,e2k a⟩
end
section
variable{ρ:Rho}{de:TDE}{daa:TDA}{dl dh:TDO}{f:FSl}{tab:List (Str × PyData)}{Q:DV->Rho->Prop}{QF:List PyData->Rho->Prop}{QO:Option Int->Rho->Prop}{xs:List PyData}{x:Str}{i j:Int}
theorem dSl_a:dSl f de dl dh ρ Q=de ρ fun x ρ1=>dl ρ1 fun lo ρ2=>dh ρ2 fun hi ρ3=>need (a0n ρ3 x) fun d=>need (f d lo hi) fun z=>Q (.d z) ρ3:=rfl
theorem d1a:b9t ρ QO=QO none ρ:=rfl
theorem d1b:b9u de ρ QO=de ρ fun x ρ1=>need (a0n ρ1 x) fun d=>need (asI d) fun i=>QO (some i) ρ1:=rfl
theorem e2l:dTab tab de ρ Q=de ρ fun x ρ1=>need (a0n ρ1 x) fun d=>need (fTab tab d) fun z=>Q (.d z) ρ1:=rfl
theorem e2m:fTab tab (.str x)=tab.lookup x:=rfl
theorem d6h:b4r de ρ QF=de ρ fun x ρ1=>need (a0n ρ1 x) fun d=>need (b4r.asT d) fun xs=>QF xs.reverse ρ1:=rfl
theorem asT_t:b4r.asT (.tuple xs)=some xs:=rfl
theorem d1c:b9v daa ρ QF=daa ρ fun xs ρ1=>need (a1a ρ1 xs) fun ds=>need (b9v.three ds) fun p=>(sm60 p.1/\sm60 p.2)/\QF (d3q p.1 (p.1 - p.2).toNat) ρ1:=rfl
theorem d6i:b9v.three [.int i,.int j,.int (-1)]=some (i,j):=rfl
theorem e2n:dNeg de ρ Q=de ρ fun x ρ1=>need (a0n ρ1 x) fun d=>need (asI d) fun i=>Q (.d (.int (-i))) ρ1:=rfl
end
end L2
namespace L2
open PySem
theorem c7u{c:TDT}{b:TDS}{D:DEnds}{ρ:Rho}(W:Nat->Rho->Prop)(m:Nat)(h0:W m ρ)
  (hs:∀ (m:Nat) (ρ:Rho) (N:Rho->Prop),W m ρ->(∀ m' ρ',m' < m->W m' ρ'->N ρ')->c ρ fun k ρ1=>if k=true then b { D with nx:=N,ct:=N,bk:=D.nx } ρ1 else D.nx ρ1):b9j c b D ρ:=
 ⟨W,⟨m,h0⟩,fun m ρ h=>hs m ρ _ h fun m' ρ' hm h'=>⟨m',hm,h'⟩⟩
end L2
end
section
namespace L2
open PySem PySem.Spec PyProof.Rows
section
variable{α:Type}{a b c d e:α}{l:List α}{x y:Str}{i j:Int}{r:List PyData}
theorem atI_0:atI (a :: l) 0=some a:=a5s (j:=0) rfl
theorem atI_1:atI (a :: b :: l) 1=some b:=a5s (j:=1) rfl
theorem atI_2:atI (a :: b :: c :: l) 2=some c:=a5s (j:=2) rfl
theorem atI_3:atI (a :: b :: c :: d :: l) 3=some d:=a5s (j:=3) rfl
theorem atI_4:atI (a :: b :: c :: d :: e :: l) 4=some e:=a5s (j:=4) rfl
theorem d6j:a1l (.str x)=true:=rfl
theorem d6k:a1l (.int i)=true:=rfl
theorem d6l{z:PyData}:inF z []=false:=rfl
theorem d3r:inF (.str x) (.str y :: r)=(decide (y=x) || inF (.str x) r):=by
 show((y == x) || inF (.str x) r)=_
 congr 1
theorem inF_i:inF (.int i) (.int j :: r)=(decide (j=i) || inF (.int i) r):=by
 show((j == i) || inF (.int i) r)=_
 congr 1
end
end L2
namespace L2
open PySem PySem.Spec PyProof.Rows
def b8a(K:W.Frag):Sp:=fun vs H Q _=>∃ (a:Addr) (ns:List Int),vs=[.ref a]/\SqL K H a (ns.map V.int)/\((∀ xs,H a ≠ some (.lst xs))/\TB K H)/\ns.length <= 63/\∀ H',Q (.bl true) H'
section
variable{P:Program}{w:World}{K:W.Frag}{mg:Str->Option Value}{base:Heap}
theorem d6m{H:Hp}{a p:Addr}{ns:List Int}{n:Nat}(hO:(∀ xs,H a ≠ some (.lst xs))/\TB K H)(hS:SqL K H a (ns.map V.int))(hl:ns.length <= 63)(hp:H p=none) :
  Rel K { H0:=upd H p (.lst [.ref a,.int 0]),S:=fun b=>b ≠ p,P:=fun _=>False,M:=fun b=>b=p,A:=fun b=>b=p ∨ upd H p (.lst [.ref a,.int 0]) b=none,B:=fun b=>b=p,lent:=fun i=>if i=1 then some p else none,sa:=a,ns:=ns }
   (fun i=>if i=1 then some p else none) (some .scr :: some (.tape 0) :: List.replicate n none) (some (.ref a) :: some (.ref p) :: List.replicate n none) (upd H p (.lst [.ref a,.int 0])):=by
 have at_:∀ {i:Nat} {l:L},(some L.scr :: some (L.tape 0) :: List.replicate n none:Rho)[i]? = some (some l)->(i=0/\l=.scr) ∨ (i=1/\l=.tape 0):=fun{i l} e=>by
  match i,e with
  | 0,e=>cases e;exact .inl ⟨rfl,rfl⟩
  | 1,e=>cases e;exact .inr ⟨rfl,rfl⟩
  | i + 2,e =>
   rw [List.getElem?_cons_succ,List.getElem?_cons_succ,List.getElem?_replicate] at e
   split at e<;>cases e
 have own:∀ {i:Nat} {q:Addr},(if i=1 then some p else none)=some q->i=1/\q=p:=fun{i q} e=>by
  split at e
  ·cases e;exact⟨by assumption,rfl⟩
  ·cases e
 have sc:Scr K H a (ns.map V.int):=by
  refine⟨hO.2,by simpa using hl,?_⟩
  rcases hS with(h | h) | h
  ·exact absurd h (hO.1 _)
  ·exact .inl h
  ·exact .inr h
 refine⟨fun i x e=>?_,fun i x e=>?_,fun i x e=>?_,fun i k e=>?_,fun i e=>?_,fun i j q e1 e2=>?_,fun i q e=>?_,fun q h=>?_,fun q h=>?_,fun b o _ h=>h,fun b h=>h,fun q h=>?_,fun q h=>?_,fun i q e l h1 h2=>e,sc.keep (S:=Any) (a0o hp _).keep,by simp⟩
 ·rcases at_ e with⟨_,z⟩ | ⟨_,z⟩<;>cases z
 ·rcases at_ e with⟨_,z⟩ | ⟨_,z⟩<;>cases z
 ·rcases at_ e with⟨_,z⟩ | ⟨_,z⟩<;>cases z
 ·rcases at_ e with⟨_,z⟩ | ⟨rfl,z⟩
  ·cases z
  ·cases z;exact⟨p,if_pos rfl,rfl,a0j⟩
 ·rcases at_ e with⟨rfl,_⟩ | ⟨_,z⟩
  ·rfl
  ·cases z
 ·rw [(own e1).1,(own e2).1]
 ·rw [(own e).2];exact⟨.inl rfl,_,a0j⟩
 ·rcases h with h | h
  ·exact .inl h
  ·exact .inr h
 ·rintro rfl
  have h':upd H q (.lst [.ref a,.int 0]) q=none:=h
  rw [a0j] at h';cases h'
 ·have h':q=p:=h
  subst h';exact⟨_,a0j⟩
 ·rcases h with h | h
  ·exact h.elim
  ·have h':q=p:=h
   subst h';rw [a0j];exact fun z=>nomatch z
theorem Fun.law{st:Stmt}{f:Addr}{fd:FuncData}{N':List Str}{k:Nat} (F:Fun K "law" "law" st f fd) (S:FnScope ("_law_script" :: "_law_tape" :: N') ["_law_script"] (a0e st))
  (hbody:∀ (cdv:Value) (A:Around) (outer:List Env) (s:Shared) (H:Hp) (E:XK),Room k (A.deeper (envOfC "law" (a0e st) s.heap.objs.size f cdv)) ->
   ∃ (st0:Stmt) (rest:List Stmt),a1t st=st0 :: rest/\PS (cxOf CX0 P w K mg base ("_law_script" :: "_law_tape" :: N') "law" (a0e st) f cdv A outer s H E).nox st0 (tAsg (tLst (a5l (tVar 0) (a5l (tC (.int 0)) tNil))) (a7o 1)) /\
    ∃ dt,DSs (cxOf CX0 P w K mg base ("_law_script" :: "_law_tape" :: N') "law" (a0e st) f cdv A outer s H E).nox rest dt/\dt { nx:=fun _=>False,rt:=fun r _=>r=.d (.bool true) } (some .scr :: some (.tape 0) :: List.replicate N'.length none)) :
  FnOk P w K mg base CX0 (k + 1) f fd ["_law_script"] (b8a K):=by
 refine F.ok S (fun vs H Q E h=>?_) (fun cdv A outer s H vs Q E hr h=>?_)
 ·obtain⟨a,ns,rfl,_⟩:=h;rfl
 obtain⟨a,ns,rfl,hS,hO,hl,q⟩:=h
 obtain⟨st0,rest,eb,p0,dt,⟨t,pt,at_⟩,hd⟩:=hbody cdv A outer s H E hr
 rw [eb]
 refine⟨_,a0v p0 pt,⟨.ref a,rfl,by show 2 <= sizeLine;decide,fun p hp=>?_⟩⟩
 have e:(start ("_law_script" :: "_law_tape" :: N') [.ref a]).set 1 (some (.ref p))=some (.ref a) :: some (.ref p) :: List.replicate N'.length none:=by
  unfold start
  simp [List.replicate_succ]
 show t _ ((start ("_law_script" :: "_law_tape" :: N') [.ref a]).set 1 (some (.ref p))) (upd H p (.lst [.ref a,.int 0]))
 rw [e]
 refine at_ _ _ _ _ _ _ _ (d6m hO hS hl hp) ⟨fun _ _ _ _ _ _ z=>(show False from z).elim,fun r O1 ρ1 σ1 H1 v h z=>?_,fun _ _ _ _ _ _ z=>(show False from z).elim,fun _ _ _ _ _ _ z=>(show False from z).elim,fun _ z=>z,fun _ z=>.inr z⟩ hd
 have z':r=.d (.bool true):=z
 subst z'
 have ev:=a6m h.2
 subst ev
 exact q H1
end
end L2
end
section
namespace L2
open PySem PySem.Spec PyProof.Rows
section
variable{P:Program}{w:World}{K:W.Frag}{mg:Str->Option Value}{base:Heap}
theorem b6a{n:Nat}{f:Addr}{fd:FuncData}{ps:List Str}{ds:DSp}(h:∀ ls Q,¬ ds ls Q):FnOk P w K mg base CX0 n f fd ps (spD K ds):=by
 have no:∀ vs H Q E,¬ spD K ds vs H Q E:=fun vs H Q E z=>by
  obtain⟨c,O,ls,Qd,_,_,_,_,_,_,z,_⟩:=z
  exact h _ _ z
 exact⟨fun vs H Q E h=>absurd h (no vs H Q E),fun A outer s H args us vs Q E _ _ _ _ h=>absurd h (no vs H Q E)⟩
theorem a5h{p:Addr}{its:Array Value}{n:Nat}{o:Obj}{ds:List PyData}{vs:List V}(l:K.lookup p=some o) (hc:o.cls=.type "tuple") (hd:o.data=.seq its n) (hz:its.size <= sizeLine) (hv:Vals vs its.toList) (ha:∀ (S:Addr->Prop) (H:Hp),a0b K H S ds vs) (hn:o.dict=none:=by rfl):∀ (S:Addr->Prop) (H:Hp),AtD K H S (.tuple ds) (.ref p):=fun S H =>
 a1o (.inr ⟨o,its,n,l,⟨hc,hn⟩,hd,hz,hv⟩) (ha S H)
end
end L2
end
section
namespace L2
open PySem PySem.Spec PyProof.Rows
def ItX(b:Bool)(h:Heap)(it a:Addr)(k:Nat):Prop:=match b with | true=>h.IsListIter it a k | false=>h.IsTupleIter it a k
def SqX(b:Bool)(h:Heap)(a:Addr)(xs:Array Value):Prop:=match b with | true=>h.IsList a xs | false=>h.IsTuple a xs
theorem ItX.move{b:Bool}{h h':Heap}{it a:Addr}{k:Nat}(x:ItX b h it a k)(e:∀ o,h.get? it=some o->h'.get? it=some o):ItX b h' it a k:=by
 cases b<;>(obtain⟨o,ho,r⟩:=x;exact⟨o,e o ho,r⟩)
theorem SqX.move{b:Bool}{h h':Heap}{a:Addr}{xs:Array Value}(x:SqX b h a xs)(e:∀ o,h.get? a=some o->h'.get? a=some o):SqX b h' a xs:=by
 cases b<;>(obtain⟨o,ho,r⟩:=x;exact⟨o,e o ho,r⟩)
theorem ItX.at{b:Bool}{h:Heap}{it a:Addr}{k:Nat}(x:ItX b h it a k):∃ o,h.get? it=some o:=by
 cases b<;>(obtain⟨o,ho,r⟩:=x;exact⟨o,ho⟩)
theorem SqX.at{b:Bool}{h:Heap}{a:Addr}{xs:Array Value}(x:SqX b h a xs):∃ o,h.get? a=some o:=by
 cases b<;>(obtain⟨o,ho,r⟩:=x;exact⟨o,ho⟩)
section
variable{prog:Program}{w:World}{A:Around}{E:Value->Shared->Prop}{s:Shared}
theorem d1d{it t:Addr}{i:Nat}{items:Array Value}{x:Value}{Q:Value->Shared->Prop}(hit:s.heap.IsTupleIter it t i)(ht:s.heap.IsTuple t items)(hx:items[i]? = some x)
  (hQ:∀ h',h'.IsTupleIter it t (i + 1)->Heap.SameBut it s.heap h'->Q x { s with heap:=h' }):wpAny (model prog w) A (Builtin.SmallTypes.nextOf (.ref it)) Q E s:=by
 obtain⟨oi,gi,ci,di⟩:=id hit
 obtain⟨ot,gt,_,nt,dt⟩:=ht
 unfold Builtin.SmallTypes.nextOf
 refine wpAny_bind (wpAny_callSpecial?_slot (name:=Str.ofString "__next__") hit.typeIs F.slot_tuple_iterator_next (wpAny_call_entry F.slot_tuple_iterator_next hit.typeIs F.entry_tuple_iterator_next ?_ (F.args_tuple_iterator_next_1 _)))
 refine wpAny_bind (m:=field (.ref it) 0) (wpAny_field gi di (x:=.ref t) rfl ?_)
 show wpAny (model prog w) _ (if (Value.ref t == Value.none)=true then _ else _) _ E s
 rw [if_neg (show ¬ ((Value.ref t == Value.none)=true) from nofun)]
 refine wpAny_bind (m:=field (.ref it) 1) (wpAny_field gi di (x:=.int i 0) rfl (wpAny_bind (m:=seqItems? (.ref t)) (wpAny_seqItems gt dt ?_)))
 simp only [hx,Int.toNat_natCast]
 exact wpAny_bind (wpAny_setField gi di (by simp) (wpAny_pure ⟨x,rfl,wpAny_pure (hQ _ ⟨_,Heap.get?_update_self _ gi (Obj.isFreed_of_fields (Obj.data_mapFields di _)),(Obj.cls_mapFields ..).trans ci,by rw [Obj.data_mapFields di];simp [rawInt]⟩ (Heap.SameBut.update ..))⟩))
theorem d6n{it t:Addr}{i:Nat}{items:Array Value}{Q:Value->Shared->Prop}(hh:A.handled=none)(hit:s.heap.IsTupleIter it t i)(ht:s.heap.IsTuple t items)(hx:items[i]? = none)
  (hE:∀ h' e,Heap.ExtBut it s.heap h'->(∃ o,h'.get? e=some o/\o.cls=.type "StopIteration")->E (.ref e) { s with heap:=h' }):wpAny (model prog w) A (Builtin.SmallTypes.nextOf (.ref it)) Q E s:=by
 obtain⟨oi,gi,ci,di⟩:=id hit
 obtain⟨ot,gt,_,nt,dt⟩:=ht
 unfold Builtin.SmallTypes.nextOf
 refine wpAny_bind (wpAny_callSpecial?_slot (name:=Str.ofString "__next__") hit.typeIs F.slot_tuple_iterator_next (wpAny_call_entry F.slot_tuple_iterator_next hit.typeIs F.entry_tuple_iterator_next ?_ (F.args_tuple_iterator_next_1 _)))
 refine wpAny_bind (m:=field (.ref it) 0) (wpAny_field gi di (x:=.ref t) rfl ?_)
 show wpAny (model prog w) _ (if (Value.ref t == Value.none)=true then _ else _) _ E s
 rw [if_neg (show ¬ ((Value.ref t == Value.none)=true) from nofun)]
 refine wpAny_bind (m:=field (.ref it) 1) (wpAny_field gi di (x:=.int i 0) rfl (wpAny_bind (m:=seqItems? (.ref t)) (wpAny_seqItems gt dt ?_)))
 simp only [hx,Int.toNat_natCast]
 refine wpAny_bind (wpAny_rule (wpAny_bind (wpAny_setField gi di (by simp) (wpAny_bind (m:=newExc (.type "StopIteration") []) ?_))))
 simp only [newTuple,newExc]
 refine wpAny_bind (wpAny_newObj_type (wpAny_bind (m:=firstArgMember _ _) (wpAny_of_eq (a:=Value.none) (by first | rfl | (simp only [firstArgMember];rfl)) (wpAny_newObj_type ?_ (by size_fits)))) (by size_fits))
 simp only [raiseNew]
 refine wpAny_bind (wpAny_handled ?_)
 rw [show A.in1.handled=none from hh]
 exact wpAny_bind (wpAny_pure (wpAny_throw (hE _ _ (((Heap.SameBut.update ..).extBut.push _).push _) ⟨_,get?_push_size _ rfl,rfl⟩)))
theorem c2t{b:Bool}{it t:Addr}{i:Nat}{items:Array Value}{x:Value}{Q:Value->Shared->Prop}(hit:ItX b s.heap it t i)(ht:SqX b s.heap t items)(hx:items[i]? = some x)
  (hQ:∀ h',ItX b h' it t (i + 1)->Heap.SameBut it s.heap h'->Q x { s with heap:=h' }):wpAny (model prog w) A (Builtin.SmallTypes.nextOf (.ref it)) Q E s:=by
 cases b
 ·exact d1d hit ht hx hQ
 ·exact wpAny_nextOf_list_item hit ht hx hQ
theorem e2o{b:Bool}{it t:Addr}{i:Nat}{items:Array Value}{Q:Value->Shared->Prop}(hh:A.handled=none)(hit:ItX b s.heap it t i)(ht:SqX b s.heap t items)(hx:items[i]? = none)
  (hE:∀ h' e,Heap.ExtBut it s.heap h'->(∃ o,h'.get? e=some o/\o.cls=.type "StopIteration")->E (.ref e) { s with heap:=h' }):wpAny (model prog w) A (Builtin.SmallTypes.nextOf (.ref it)) Q E s:=by
 cases b
 ·exact d6n hh hit ht hx hE
 ·exact wpAny_nextOf_list_end hh hit ht hx hE
structure ZApart(z TI TO i1 i2 l1 l2:Addr):Prop where
 zs:TI ≠ z/\TO ≠ z/\i1 ≠ z/\i2 ≠ z/\l1 ≠ z/\l2 ≠ z
 os:TI ≠ TO/\i1 ≠ TO/\i2 ≠ TO/\l1 ≠ TO/\l2 ≠ TO
 as:TI ≠ i1/\i2 ≠ i1/\l1 ≠ i1/\l2 ≠ i1
 bs:TI ≠ i2/\l1 ≠ i2/\l2 ≠ i2
theorem d1e{b1 b2:Bool}{z TI TO i1 i2 l1 l2:Addr}{k:Nat}{xs ys:Array Value}{x y p q:Value}{Q:Value->Shared->Prop}(D:ZApart z TI TO i1 i2 l1 l2)
  (hz:IsZip s.heap z TI TO .none) (hI:IsPair s.heap TI (.ref i1) (.ref i2)) (hO:IsPair s.heap TO p q) (g1:ItX b1 s.heap i1 l1 k) (g2:ItX b2 s.heap i2 l2 k) (q1:SqX b1 s.heap l1 xs) (q2:SqX b2 s.heap l2 ys) (hx:xs[k]? = some x) (hy:ys[k]? = some y)
  (hQ:∀ h',IsZip h' z TI TO (rawInt s.heap.objs.size)->IsPair h' TO x y->ItX b1 h' i1 l1 (k + 1)->ItX b2 h' i2 l2 (k + 1)->IsPair h' s.heap.objs.size x y->h'.objs.size=s.heap.objs.size + 1->(∀ c o,c ≠ z/\c ≠ TO/\c ≠ i1/\c ≠ i2->s.heap.get? c=some o->h'.get? c=some o)->Q (.ref s.heap.objs.size) { s with heap:=h' }) :
  wpAny (model prog w) A (Builtin.«zip.__next__» ⟨[.ref z],[]⟩) (fun fin s'=>∃ v,fin=.done (.ret v)/\Q v s') E s:=by
 obtain⟨z1,z2,z3,z4,z5,z6⟩:=D.zs
 obtain⟨o1,o2,o3,o4,o5⟩:=D.os
 obtain⟨a1,a2,a3,a4⟩:=D.as
 obtain⟨c1,c2,c3⟩:=D.bs
 refine wpAny_bind (m:=field (.ref z) 2) (wpAny_field hz rfl (x:=.bool false) rfl (wpAny_bind (m:=field (.ref z) 3) (wpAny_field hz rfl (x:=.ref TI) rfl (wpAny_bind (wpAny_seqItems hI rfl (wpAny_bind (m:=Builtin.SmallTypes.ownedTupleIsFree (.ref z)) ?_))))))
 unfold Builtin.SmallTypes.ownedTupleIsFree;refine wpAny_bind (wpAny_field hz rfl (x:=.none) rfl (wpAny_pure ?_));simp only [if_true]
 refine wpAny_bind (wpAny_rule (wpAny_bind (wpAny_field hz rfl (x:=.ref TO) rfl (wpAny_bind (wpAny_setField_rec hz (by simp) fun h1 e1 s1=>?_)))))
 have e1:IsZip h1 z TI TO .ellipsis:=e1
 refine wpAny_bind ?_;simp only [List.forIn_cons,forIn_nil,List.zipIdx_cons,List.zipIdx_nil]
 refine wpAny_bind (wpAny_bind (wpAny_onRaise (wpAny_bind (m:=Builtin.SmallTypes.nextOf (.ref i1)) (c2t (g1.move fun o e=>s1.extBut _ _ z3 e) (q1.move fun o e=>s1.extBut _ _ z5 e) hx fun h2 n1 s2=>wpAny_pure ?_))))
 have p2:IsPair h2 TO p q:=s2.extBut _ _ (Ne.symm o2) (s1.extBut _ _ z2 hO)
 refine wpAny_bind (wpAny_seqItems p2 rfl (wpAny_bind (wpAny_updateSeq_pair p2 fun h3 p3 s3=>wpAny_bind (wpAny_letGo (wpAny_pure ?_)))))
 have p3:IsPair h3 TO x q:=p3
 refine wpAny_bind (wpAny_bind (wpAny_onRaise (wpAny_bind (m:=Builtin.SmallTypes.nextOf (.ref i2)) (c2t (g2.move fun o e=>s3.extBut _ _ o3 (s2.extBut _ _ a2 (s1.extBut _ _ z4 e))) (q2.move fun o e=>s3.extBut _ _ o5 (s2.extBut _ _ a4 (s1.extBut _ _ z6 e))) hy fun h4 n2 s4=>wpAny_pure ?_))))
 have p4:IsPair h4 TO x q:=s4.extBut _ _ (Ne.symm o3) p3
 refine wpAny_bind (wpAny_seqItems p4 rfl (wpAny_bind (wpAny_updateSeq_pair p4 fun h5 p5 s5=>wpAny_bind (wpAny_letGo (wpAny_pure (wpAny_pure ?_))))))
 have p5:IsPair h5 TO x y:=p5
 refine wpAny_bind (wpAny_seqItems p5 rfl (wpAny_bind (wpAny_newTuple ?_)))
 have sz:h5.objs.size=s.heap.objs.size:=by rw [s5.1,s4.1,s3.1,s2.1,s1.1]
 have kp:∀ c o,c ≠ z/\c ≠ TO/\c ≠ i1/\c ≠ i2->s.heap.get? c=some o->h5.get? c=some o:=fun c o ⟨d1,d2,d3,d4⟩ e =>
  s5.extBut _ _ d2 (s4.extBut _ _ d4 (s3.extBut _ _ d2 (s2.extBut _ _ d3 (s1.extBut _ _ d1 e))))
 have e5:IsZip h5 z TI TO .ellipsis:=s5.extBut _ _ (Ne.symm z2) (s4.extBut _ _ (Ne.symm z4) (s3.extBut _ _ (Ne.symm z2) (s2.extBut _ _ (Ne.symm z3) e1)))
 have n1':ItX b1 h5 i1 l1 (k + 1):=n1.move fun o e=>s5.extBut _ _ o2 (s4.extBut _ _ (Ne.symm a2) (s3.extBut _ _ o2 e))
 have n2':ItX b2 h5 i2 l2 (k + 1):=n2.move fun o e=>s5.extBut _ _ o3 e
 refine wpAny_bind (m:=Builtin.SmallTypes.ownedTupleHandOut (.ref z) (.ref h5.objs.size)) ?_
 unfold Builtin.SmallTypes.ownedTupleHandOut;skip
 have zl:z < h5.objs.size:=lt_size e5
 have e6:IsZip (h5.push { cls:=.type "tuple",data:=.seq #[x,y] }) z TI TO .ellipsis:=get?_push_of_some _ e5
 refine wpAny_bind (wpAny_setField_rec e6 (by simp) fun h7 e7 s7=>?_)
 have e7:IsZip h7 z TI TO (rawInt h5.objs.size):=e7
 refine wpAny_setField_rec e7 (by simp) fun h8 e8 s8=>?_
 have e8:IsZip h8 z TI TO (rawInt h5.objs.size):=e8
 have up:∀ c o,c ≠ z->h5.get? c=some o->h8.get? c=some o:=fun c o d e=>s8.extBut _ _ d (s7.extBut _ _ d (get?_push_of_some _ e))
 have t8:IsPair h8 h5.objs.size x y:=s8.extBut _ _ (ne_of_gt zl) (s7.extBut _ _ (ne_of_gt zl) (get?_push_size _ rfl))
 have r8:h8.objs.size=h5.objs.size + 1:=by rw [s8.1,s7.1,size_push]
 rw [sz] at e8 t8 r8
 refine wpAny_pure ⟨_,rfl,?_⟩
 have fin:=hQ h8 e8 (up _ _ z2 p5) (n1'.move fun o e=>up _ o z3 e) (n2'.move fun o e=>up _ o z4 e) t8 r8 fun c o d e=>up c o d.1 (kp c o d e)
 rw [← sz] at fin
 exact fin
theorem d6o{b1:Bool}{z TI TO i1 i2 l1 l2:Addr}{k:Nat}{xs:Array Value}{p q:Value}{Q:Fin->Shared->Prop}(hh:A.handled=none)(D:ZApart z TI TO i1 i2 l1 l2)
  (hz:IsZip s.heap z TI TO .none) (hI:IsPair s.heap TI (.ref i1) (.ref i2)) (hO:IsPair s.heap TO p q) (g1:ItX b1 s.heap i1 l1 k) (q1:SqX b1 s.heap l1 xs) (hx:xs[k]? = none)
  (hE:∀ h' e,(∀ c o,c ≠ z/\c ≠ TO/\c ≠ i1/\c ≠ i2->s.heap.get? c=some o->h'.get? c=some o)->(∃ o,h'.get? e=some o/\o.cls=.type "StopIteration")->E (.ref e) { s with heap:=h' }) :
  wpAny (model prog w) A (Builtin.«zip.__next__» ⟨[.ref z],[]⟩) Q E s:=by
 obtain⟨z1,z2,z3,z4,z5,z6⟩:=D.zs
 refine wpAny_bind (m:=field (.ref z) 2) (wpAny_field hz rfl (x:=.bool false) rfl (wpAny_bind (m:=field (.ref z) 3) (wpAny_field hz rfl (x:=.ref TI) rfl (wpAny_bind (wpAny_seqItems hI rfl (wpAny_bind (m:=Builtin.SmallTypes.ownedTupleIsFree (.ref z)) ?_))))))
 unfold Builtin.SmallTypes.ownedTupleIsFree;refine wpAny_bind (wpAny_field hz rfl (x:=.none) rfl (wpAny_pure ?_));simp only [if_true]
 refine wpAny_bind (wpAny_rule (wpAny_bind (wpAny_field hz rfl (x:=.ref TO) rfl (wpAny_bind (wpAny_setField_rec hz (by simp) fun h1 e1 s1=>?_)))))
 have e1:IsZip h1 z TI TO .ellipsis:=e1
 refine wpAny_bind ?_;simp only [List.forIn_cons,forIn_nil,List.zipIdx_cons,List.zipIdx_nil]
 refine wpAny_bind (wpAny_bind (wpAny_onRaise (wpAny_bind (m:=Builtin.SmallTypes.nextOf (.ref i1)) (e2o hh (g1.move fun o e=>s1.extBut _ _ z3 e) (q1.move fun o e=>s1.extBut _ _ z5 e) hx fun h2 e s2 he=>?_))))
 obtain⟨oe,hoe,hce⟩:=he
 have e2:IsZip h2 z TI TO .ellipsis:=s2 _ _ (Ne.symm z3) e1
 have hez:e ≠ z:=fun x=>by subst x;rw [e2] at hoe;cases hoe;simp at hce
 exact wpAny_setField_rec e2 (by simp) fun h3 _ s3=>hE h3 e (fun c o d x=>s3.extBut _ _ d.1 (s2 _ _ d.2.2.1 (s1.extBut _ _ d.1 x))) ⟨oe,s3.extBut _ _ hez hoe,hce⟩
abbrev zt1(h:Heap)(a:Addr):Heap:=h.push { cls:=.type "tuple_iterator",data:=.fields #[.ref a,.int 0 0] }
abbrev zt3(h:Heap)(a b:Addr):Heap:=(zt1 (zt1 h a) b).push { cls:=.type "tuple",data:=.seq #[.ref h.objs.size,.ref (zt1 h a).objs.size] }
abbrev zt4(h:Heap)(a b:Addr):Heap:=(zt3 h a b).push { cls:=.type "tuple",data:=.seq #[.none,.none] }
abbrev zt5(h:Heap)(a b:Addr):Heap:=(zt4 h a b).push { cls:=.type "zip",data:=.fields #[.none,.bool false,.bool false,.ref (zt1 (zt1 h a) b).objs.size,.ref (zt3 h a b).objs.size] }
theorem c4l(l1 l2:Addr)(xs ys:Array Value):Meets (Builtin.«zip.__new__» ⟨[.type "zip",.ref l1,.ref l2],[]⟩) (fun _ R s=>s.heap.IsTuple l1 xs/\s.heap.IsTuple l2 ys/\R (.ok (.ret (.ref (zt4 s.heap l1 l2).objs.size))) { s with heap:=zt5 s.heap l1 l2 }):=
 .of_wp fun prog w A R s h=>by
  obtain⟨hp,g,d,tk,os⟩:=s;obtain⟨hl1,hl2,h⟩:=h;have hsub:=sub_zip
  have t1:Heap.IsTuple (Shared.heap ⟨hp,g,d,tk,os⟩) l1 xs:=hl1
  have t2:Heap.IsTuple (Shared.heap ⟨zt1 hp l1,g,d,tk,os⟩) l2 ys:=Heap.IsTuple.push hl2 _
  wp_walk using wpAny_pyIter_tuple t1,wpAny_pyIter_tuple t2
  exact⟨_,rfl,h⟩
theorem d1f{b:Bool}{l1 l2:Addr}{xs ys:Array Value}{Q:Value->Shared->Prop}(q1:SqX b s.heap l1 xs)(q2:SqX b s.heap l2 ys)
  (h:∀ h',IsZip h' (s.heap.objs.size + 4) (s.heap.objs.size + 2) (s.heap.objs.size + 3) .none->IsPair h' (s.heap.objs.size + 2) (.ref s.heap.objs.size) (.ref (s.heap.objs.size + 1))->IsPair h' (s.heap.objs.size + 3) .none .none ->
   ItX b h' s.heap.objs.size l1 0->ItX b h' (s.heap.objs.size + 1) l2 0->(∀ c o,s.heap.get? c=some o->h'.get? c=some o)->Q (.ref (s.heap.objs.size + 4)) { s with heap:=h' }):wpAny (model prog w) A (call (.type "zip") [.ref l1,.ref l2]) Q E s:=by
 cases b with
 | true=>exact call_zip_2 q1 q2 fun h' a1 a2 a3 a4 a5 _ a7=>h h' a1 a2 a3 a4 a5 a7
 | false =>
  refine callType_new F.called_zip (by decide) (F.typeCall_zip_2 _ _) (F.newCall_zip_2 _ _) (fun obj=>F.args_object_init_3 obj _ _) F.entry_zip_new (c4l l1 l2 xs ys) ⟨q1,q2,?_⟩
  have r1:(zt1 s.heap l1).objs.size=s.heap.objs.size + 1:=size_push ..
  have r2:(zt1 (zt1 s.heap l1) l2).objs.size=s.heap.objs.size + 2:=by rw [size_push,r1]
  have r3:(zt3 s.heap l1 l2).objs.size=s.heap.objs.size + 3:=by rw [size_push,r2]
  have r4:(zt4 s.heap l1 l2).objs.size=s.heap.objs.size + 4:=by rw [size_push,r3]
  have y5:(zt5 s.heap l1 l2).get? (zt4 s.heap l1 l2).objs.size=some _:=get?_push_size _ rfl
  have y4:(zt5 s.heap l1 l2).get? (zt3 s.heap l1 l2).objs.size=some _:=get?_push_of_some _ (get?_push_size _ rfl)
  have y3:(zt5 s.heap l1 l2).get? (zt1 (zt1 s.heap l1) l2).objs.size=some _:=get?_push_of_some _ (get?_push_of_some _ (get?_push_size _ rfl))
  have y2:(zt5 s.heap l1 l2).get? (zt1 s.heap l1).objs.size=some _:=get?_push_of_some _ (get?_push_of_some _ (get?_push_of_some _ (get?_push_size _ rfl)))
  have y1:(zt5 s.heap l1 l2).get? s.heap.objs.size=some _:=get?_push_of_some _ (get?_push_of_some _ (get?_push_of_some _ (get?_push_of_some _ (get?_push_size _ rfl))))
  rw [r2,r3,r4] at y5
  rw [r3] at y4
  rw [r1,r2] at y3
  rw [r1] at y2
  show _/\_
  rw [r4]
  exact⟨⟨_,y5,rfl⟩,h _ y5 y3 y4 ⟨_,y1,rfl,rfl⟩ ⟨_,y2,rfl,rfl⟩ fun c o x=>get?_push_of_some _ (get?_push_of_some _ (get?_push_of_some _ (get?_push_of_some _ (get?_push_of_some _ x))))⟩
end
section
variable{X:Cx}{pins:List (Addr × Obj)}{σ:List (Option V)}{H H':Hp}{s:Shared}{h':Heap}
theorem Inv.turnedL{t':Nat}{ch:List Addr}(I:Inv X pins σ H s)(k:∀ b o,b ∉ ch->s.heap.get? b=some o->h'.get? b=some o)(hf:∀ b ∈ ch,FpOk X pins H b):Inv X pins σ H { s with heap:=h',toks:=t' }:=by
 have nit:∀ b u,H b=some u->b ∉ ch:=fun b u e z=>by have:=(hf b z).1;rw [e] at this;cases this
 have nl:X.env.locals ∉ ch:=fun z=>(hf _ z).2.1 rfl
 refine I.step (g':=s.gens) (d':=s.drawn) (ch:=ch) (fun b hb=>⟨(hf b hb).2.2.2.1,(hf b hb).2.1,(hf b hb).2.2.2.2.1,(hf b hb).2.2.2.2.2⟩) (fun b o _ _ hc e _=>k b o hc e) (fun b o _ _ hc e _=>⟨o.slots,k b o hc e⟩) (fun _ _ _ _ n=>n)
  (fun b o hc e=>⟨o,k b o hc e⟩) (fun _ _ e=>e) (fun _ _ _ e=>e) (fun b ps e=>⟨#[],by rw [e];simp⟩) (fun m hm=>?_) (fun b u e=>?_) I.bare
 ·obtain⟨o,es,ep,ho,r⟩:=hm
  exact⟨o,es,ep,k _ o nl ho,r⟩
 ·refine(I.hok b u e).stay (fun c v hc q=>k c v ?_ q) (fun _ q=>q) (fun _ _ q=>q) fun _ _ _ q=>q
  rcases hc with z | z
  ·rw [z];exact nit b u e
  ·exact nit c _ z
def SqB(b:Bool)(K:W.Frag)(H:Hp)(a:Addr)(xs:List V):Prop:=match b with | true=>SqL K H a xs | false=>SqT K H a xs
theorem Inv.seqB{b:Bool}{a:Addr}{xs:List V}(I:Inv X pins σ H s)(h:SqB b X.K H a xs):∃ its:List Value,Vals xs its/\SqX b s.heap a its.toArray:=by
 cases b
 ·obtain⟨its,r,p,_⟩:=I.tuple h
  exact⟨its,r,p⟩
 ·obtain⟨its,r,p,_⟩:=I.list h
  exact⟨its,r,p.isList⟩
theorem Inv.seqB_inj{b:Bool}{a:Addr}{xs ys:List V}(I:Inv X pins σ H s)(h:SqB b X.K H a xs)(h':SqB b X.K H a ys):xs=ys:=by
 cases b
 ·exact I.tuple_inj h h'
 ·exact I.list_inj h h'
end
noncomputable def Itz(K:W.Frag)(b:Bool)(a1 a2:Addr):It:=
 ⟨fun i H=>∃ xs ys x y,SqB b K H a1 xs/\SqB b K H a2 ys/\xs[i]? = some x/\ys[i]? = some y,
  fun i H v H'=>∃ T x y,v=.ref T/\H T=none/\H'=upd H T (.tup [x,y])/\(∀ xs,SqB b K H a1 xs->xs[i]? = some x)/\∀ ys,SqB b K H a2 ys->ys[i]? = some y,
  fun i H=>∃ xs,SqB b K H a1 xs/\xs.length <= i⟩
def ZSt(b:Bool)(z TI TO i1 i2 a1 a2:Addr)(i:Nat)(h:Heap):Prop:=IsZip h z TI TO .none/\IsPair h TI (.ref i1) (.ref i2)/\(∃ p q,IsPair h TO p q)/\ItX b h i1 a1 i/\ItX b h i2 a2 i
theorem ZSt.move{b:Bool}{z TI TO i1 i2 a1 a2:Addr}{i:Nat}{h h':Heap}(x:ZSt b z TI TO i1 i2 a1 a2 i h)(k:∀ c ∈ [z,TI,TO,i1,i2],∀ o,h.get? c=some o->h'.get? c=some o):ZSt b z TI TO i1 i2 a1 a2 i h':=by
 obtain⟨x1,x2,⟨p,q,x3⟩,x4,x5⟩:=x
 exact⟨k z (by simp) _ x1,k TI (by simp) _ x2,⟨p,q,k TO (by simp) _ x3⟩,x4.move fun o e=>k i1 (by simp) o e,x5.move fun o e=>k i2 (by simp) o e⟩
theorem d1g{P:Program}{w:World}{K:W.Frag}{elts:List Expr}{kk:Nat}{tp:Pos}{b:Bool}{z TI TO i1 i2 a1 a2:Addr}(D:ZApart z TI TO i1 i2 a1 a2) :
  Turn P w K (.Tuple elts kk tp) (Itz K b a1 a2) [z,TI,TO,i1,i2] z (ZSt b z TI TO i1 i2 a1 a2) where
 mem:=by simp
 obj:=fun i h st c hc=>by
  obtain⟨x1,x2,⟨p,q,x3⟩,x4,x5⟩:=st
  have hc:c=z ∨ c=TI ∨ c=TO ∨ c=i1 ∨ c=i2:=by simpa using hc
  rcases hc with rfl | rfl | rfl | rfl | rfl
  ·exact⟨_,x1,fun v y=>by cases (show Data.fields _=Data.cell v from y)⟩
  ·exact⟨_,x2,fun v y=>by cases (show Data.seq _ _=Data.cell v from y)⟩
  ·exact⟨_,x3,fun v y=>by cases (show Data.seq _ _=Data.cell v from y)⟩
  ·cases b<;>(obtain⟨o,e,c,d⟩:=x4;exact⟨o,e,fun v y=>by rw [d] at y;cases y⟩)
  ·cases b<;>(obtain⟨o,e,c,d⟩:=x5;exact⟨o,e,fun v y=>by rw [d] at y;cases y⟩)
 keep:=fun i h h' st k=>st.move k
 item:=by
  intro X hP hw hK hc i pins s σ H E I hf st hg
  subst hP hw hK
  obtain⟨xs,ys,x,y,m1,m2,hx,hy⟩:=hg
  obtain⟨x1,x2,⟨p,q,x3⟩,x4,x5⟩:=id st
  obtain⟨its1,v1,n1⟩:=I.seqB m1
  obtain⟨its2,v2,n2⟩:=I.seqB m2
  obtain⟨u,hu,ru⟩:=v1.get hx
  obtain⟨u',hu',ru'⟩:=v2.get hy
  have hT:s.TypeIs (.ref z) "zip":=⟨_,x1,rfl⟩
  unfold pyNext
  refine wpAny_bind (wpAny_attempt (wpAny_callSpecial?_slot (name:=Str.ofString "__next__") hT F.slot_zip_next (wpAny_call_entry F.slot_zip_next hT F.entry_zip_next
   (d1e D x1 x2 x3 x4 x5 n1 n2 (by simpa using hu) (by simpa using hu') fun h1 j1 j2 j3 j4 j5 j6 j7=>wpAny_pure ⟨_,rfl,wpAny_letOwnedTupleGo_zip j1 fun h2 e2 s2=>?_⟩) (F.args_zip_next_1 _))))
  have lt:∀ c ∈ [z,TI,TO,i1,i2],c < s.heap.objs.size:=fun c hc=>by
   have hc:c=z ∨ c=TI ∨ c=TO ∨ c=i1 ∨ c=i2:=by simpa using hc
   rcases hc with rfl | rfl | rfl | rfl | rfl
   ·exact lt_size x1
   ·exact lt_size x2
   ·exact lt_size x3
   ·exact lt_size x4.at.choose_spec
   ·exact lt_size x5.at.choose_spec
  have nT:s.heap.objs.size ≠ z:=ne_of_gt (lt z (by simp))
  have up:∀ c o,c ≠ z->h1.get? c=some o->h2.get? c=some o:=fun c o d e=>s2.extBut _ _ d e
  have I1:Inv X pins σ (upd H s.heap.objs.size (.tup [x,y])) { s with heap:=s.heap.push { cls:=.type "tuple",data:=.seq [u,u'].toArray } }:=
   I.laid (t':=s.toks) (fun b o e=>get?_push_of_some _ e) (Nat.le_refl _) (show a1z X.prog X.w _ _ _ (.tup [x,y]) from⟨by show 2 <= sizeLine;decide,[u,u'],.cons ru (.cons ru' .nil),a5f.new _ _⟩)
  have fpn:∀ c ∈ [z,TI,TO,i1,i2],(upd H s.heap.objs.size (.tup [x,y])) c=none:=fun c hc=>by rw [a0f (ne_of_lt (lt c hc))];exact(hf c hc).1
  have I2:Inv X pins σ (upd H s.heap.objs.size (.tup [x,y])) { s with heap:=h2 }:=by
   refine Inv.turnedL (s:={ s with heap:=s.heap.push { cls:=.type "tuple",data:=.seq [u,u'].toArray } }) (t':=s.toks) (ch:=[z,TI,TO,i1,i2]) I1 (fun c o hc e=>?_) fun c hc=>⟨fpn c hc,(hf c hc).2⟩
   have e:(s.heap.push { cls:=.type "tuple",data:=.seq [u,u'].toArray }).get? c=some o:=e
   have hc:c ≠ z/\c ≠ TI/\c ≠ TO/\c ≠ i1/\c ≠ i2:=by simpa using hc
   refine up c o hc.1 ?_
   rcases Heap.get?_push_cases e with⟨rfl,rfl⟩ | e'
   ·exact j5
   ·exact j7 c o ⟨hc.1,hc.2.2.1,hc.2.2.2.1,hc.2.2.2.2⟩ e'
  refine⟨.ref s.heap.objs.size,_,I2,rfl,⟨_,x,y,rfl,I.hok.fresh (Nat.le_refl _),rfl,fun zs hz=>by rw [I.seqB_inj hz m1];exact hx,fun zs hz=>by rw [I.seqB_inj hz m2];exact hy⟩,?_,fpn⟩
  exact⟨e2,up _ _ D.zs.1 (j7 _ _ ⟨D.zs.1,D.os.1,D.as.1,D.bs.1⟩ x2),⟨_,_,up _ _ D.zs.2.1 j2⟩,j3.move fun o e=>up _ _ D.zs.2.2.1 e,j4.move fun o e=>up _ _ D.zs.2.2.2.1 e⟩
 done:=by
  intro X hP hw hK hc i pins s σ H E I hf st hg
  subst hP hw hK
  obtain⟨xs,m1,hx⟩:=hg
  obtain⟨x1,x2,⟨p,q,x3⟩,x4,x5⟩:=id st
  obtain⟨its1,v1,n1⟩:=I.seqB m1
  have hl:=v1.length
  have hT:s.TypeIs (.ref z) "zip":=⟨_,x1,rfl⟩
  unfold pyNext
  refine wpAny_bind (wpAny_attempt (wpAny_callSpecial?_slot (name:=Str.ofString "__next__") hT F.slot_zip_next (wpAny_call_entry F.slot_zip_next hT F.entry_zip_next
   (d6o (I.ok.hd hc) D x1 x2 x3 x4 n1 (by simp;omega) fun h1 e j7 he=>?_) (F.args_zip_next_1 _))))
  obtain⟨o,ho,hco⟩:=he
  refine wpAny_bind (wpAny_isInstance (T:="StopIteration") (b:=true) ⟨o,ho,hco⟩ isSubtype_stop (wpAny_pure ⟨rfl,?_⟩))
  refine I.turnedL (t':=s.toks) (ch:=[z,TI,TO,i1,i2]) (fun c o hc e=>?_) hf
  have hc:c ≠ z/\c ≠ TI/\c ≠ TO/\c ≠ i1/\c ≠ i2:=by simpa using hc
  exact j7 c o ⟨hc.1,hc.2.2.1,hc.2.2.2.1,hc.2.2.2.2⟩ e
 self:=fun _ _ _ _ _ st h=>wpAny_pyIter_zip st.1 h
end L2
end
section
namespace L2
open PySem PySem.Spec PyProof.Rows
theorem e2p:bootBuiltins "zip" = some (.type "zip"):=by decide +kernel
theorem c4m{n a1 a2:Nat}(h1:a1 < n)(h2:a2 < n):ZApart (n + 4) (n + 2) (n + 3) n (n + 1) a1 a2:=
 ⟨⟨ne_of_lt (by omega),ne_of_lt (by omega),ne_of_lt (by omega),ne_of_lt (by omega),ne_of_lt (by omega),ne_of_lt (by omega)⟩,⟨ne_of_lt (by omega),ne_of_lt (by omega),ne_of_lt (by omega),ne_of_lt (by omega),ne_of_lt (by omega)⟩,
  ⟨ne_of_gt (by omega),ne_of_gt (by omega),ne_of_lt (by omega),ne_of_lt (by omega)⟩,ne_of_gt (by omega),ne_of_lt (by omega),ne_of_lt (by omega)⟩
section
variable{X:Cx}
def iZip(K:W.Frag)(ta:TA):TI:=fun σ H R=>ta σ H fun vs H1=>∃ b a1 a2 xs ys,vs=[.ref a1,.ref a2]/\SqB b K H1 a1 xs/\SqB b K H1 a2 ys/\R (Itz K b a1 a2) H1
theorem e2q{a b:Expr}{ta:TA}{p pos tp:Pos}{elts:List Expr}{kk:Nat} (hg:Gl X "zip") (hm:X.mg "zip" = none) (ha:PA X [a,b] ta) (hs:starEach [a,b] X.env=(false,eval a X.env) :: starEach [b] X.env:=by rfl) (hs2:(backTo pos (starEach [b] X.env)).any (·.1)=false:=by rfl) :
  PI X (.Tuple elts kk tp) (.Call (.Name "zip" p) [a,b] [] pos) (iZip X.K ta):=by
 intro pins s σ H R I h
 refine Call_ (a9n I hg hm e2p (PyProof.Rows.callWith_type1 (thn (ha pos pins s σ H _ I h) fun us s1 hq8=>?_) hs hs2))
 obtain⟨vs,H1,I1,r1,q1⟩:=hq8
 obtain⟨b,a1,a2,xs,ys,rfl,m1,m2,q⟩:=q1
 obtain⟨u1,u2,rfl,r1,r2⟩:=r1.two
 cases r1;cases r2
 obtain⟨its1,v1,n1⟩:=I1.seqB m1
 obtain⟨its2,v2,n2⟩:=I1.seqB m2
 have l1:a1 < s1.heap.objs.size:=lt_size n1.at.choose_spec
 have l2:a2 < s1.heap.objs.size:=lt_size n2.at.choose_spec
 refine d1f n1 n2 fun h' j1 j2 j3 j4 j5 j6=>?_
 have D:=c4m l1 l2
 refine wpAny_pyIter_zip j1 ⟨s1.heap.objs.size + 4,[s1.heap.objs.size + 4,s1.heap.objs.size + 2,s1.heap.objs.size + 3,s1.heap.objs.size,s1.heap.objs.size + 1],_,_,H1,rfl,I1.kept (t':=s1.toks) j6,d1g D,⟨j1,j2,⟨_,_,j3⟩,j4,j5⟩,fun c hc=>?_,q⟩
 have hc:c=s1.heap.objs.size + 4 ∨ c=s1.heap.objs.size + 2 ∨ c=s1.heap.objs.size + 3 ∨ c=s1.heap.objs.size ∨ c=s1.heap.objs.size + 1:=by simpa using hc
 have ge:s1.heap.objs.size <= c:=by rcases hc with rfl | rfl | rfl | rfl | rfl<;>first | exact Nat.le_refl _ | exact le_add_right _ _
 exact I1.fpOk ge (I1.hok.fresh ge)
end
section
variable{K:W.Frag}{S:Addr->Prop}{H:Hp}
noncomputable def zipP(xs ys:List PyData):List PyData:=List.zipWith (fun x y=>.tuple [x,y]) xs ys
noncomputable def zipD:List PyData->Option (List PyData)
 | [.list xs,.list ys]=>if xs.length=ys.length then some (zipP xs ys) else none
 | [.tuple xs,.tuple ys]=>if xs.length=ys.length then some (zipP xs ys) else none
 | _=>none
def SqS(b:Bool)(K:W.Frag)(S:Addr->Prop)(H:Hp)(a:Addr)(vs:List V):Prop:=match b with | true=>S a/\H a=some (.lst vs) | false=>SqT K H a vs
theorem SqB.pers{b:Bool}{a:Addr}{vs:List V}{xs:List PyData}(h:SqS b K S H a vs)(h2:a0b K H S xs vs){S':Addr->Prop}{H':Hp}(P:Pers K S H S' H'):∃ ws,SqB b K H' a ws/\a0b K H' S' xs ws:=by
 cases b
 ·obtain⟨_,ws,e,h3,h4⟩:=a2s (P _ _ (a1o h h2))
  cases e
  exact⟨ws,h3,h4⟩
 ·obtain⟨_,ws,e,_,h3,h4⟩:=a3x (P _ _ (a4z h.1 h.2 h2))
  cases e
  exact⟨ws,SqL.of h3,h4⟩
theorem b4s{b:Bool}{a1 a2:Addr}{vs us:List V}{xs ys:List PyData}(g1:SqS b K S H a1 vs)(g2:SqS b K S H a2 us)
  (h1:a0b K H S xs vs) (h2:a0b K H S ys us) (hl:xs.length=ys.length):a8v K S H (Itz K b a1 a2) (zipP xs ys):=fun S' H' P=>by
 obtain⟨w1,s1,d1⟩:=SqB.pers g1 h1 P
 obtain⟨w2,s2,d2⟩:=SqB.pers g2 h2 P
 have ll:(zipP xs ys).length=xs.length:=by unfold zipP;rw [List.length_zipWith];omega
 refine⟨fun i x e=>?_,⟨w1,s1,by rw [ll,d1.length];exact Nat.le_refl _⟩⟩
 unfold zipP at e
 rw [List.getElem?_zipWith] at e
 cases ex:xs[i]? with
 | none=>rw [ex] at e;cases e
 | some x1 =>
  cases ey:ys[i]? with
  | none=>rw [ex,ey] at e;cases e
  | some y1 =>
   rw [ex,ey] at e
   cases e
   obtain⟨v1,e1,f1⟩:=d1.get ex
   obtain⟨v2,e2,f2⟩:=d2.get ey
   refine⟨⟨w1,w2,v1,v2,s1,s2,e1,e2⟩,fun v H'' y=>?_⟩
   obtain⟨T,x',y',rfl,hT,rfl,k1,k2⟩:=y
   have q1:=k1 _ s1;rw [e1] at q1;cases q1
   have q2:=k2 _ s2;rw [e2] at q2;cases q2
   refine⟨a0o hT _,a1o (SqT.of a0j) ?_⟩
   have m:∀ d v,AtD K H' S' d v->AtD K (upd H' T (.tup [v1,v2])) S' d v:=fun d v h=>AtD.mono (a0o hT _).keep d v h
   unfold a0b;refine⟨_,_,rfl,m _ _ f1,?_⟩;unfold a0b;refine⟨_,_,rfl,m _ _ f2,?_⟩;unfold a0b;rfl
def c4n(da:TDA):TDI:=fun ρ Q=>da ρ fun xs ρ1=>fzs ρ1 xs fun ds ρ2=>need (zipD ds) fun zs=>Q zs ρ2
theorem e2r{ta:TA}{da:TDA}(ha:AdA K ta da):AdI K (iZip K ta) (c4n da):=fun c O ρ σ H Qd Q R q k =>
 ha c O ρ σ H _ _ R q fun xs ρ1 O1 vs H1 h1 R1 P1 a1=>by
  obtain⟨ds,ρ2,O2,hz1,R2,P2,a2⟩:=b5t R1 a1 h1
  obtain⟨zs,e,h2⟩:=ne (hz1)
  unfold zipD at e
  split at e
  ·rename_i xs ys
   split at e
   ·rename_i hl
    cases e
    obtain⟨v1,r1,rfl,d1,a3⟩:=a2.uncons
    obtain⟨v2,r2,rfl,d2,a4⟩:=a3.uncons
    cases a4.unnil
    obtain⟨p1,w1,rfl,hS1,g1,f1⟩:=a3x d1
    obtain⟨p2,w2,rfl,hS2,g2,f2⟩:=a3x d2
    exact⟨true,p1,p2,w1,w2,rfl,SqL.of g1,SqL.of g2,k _ _ _ _ _ h2 R2 (P1.trans P2) (b4s (b:=true) ⟨hS1,g1⟩ ⟨hS2,g2⟩ f1 f2 hl)⟩
   ·cases e
  ·rename_i xs ys
   split at e
   ·rename_i hl
    cases e
    obtain⟨v1,r1,rfl,d1,a3⟩:=a2.uncons
    obtain⟨v2,r2,rfl,d2,a4⟩:=a3.uncons
    cases a4.unnil
    obtain⟨p1,w1,rfl,g1,f1⟩:=a2s d1
    obtain⟨p2,w2,rfl,g2,f2⟩:=a2s d2
    exact⟨false,p1,p2,w1,w2,rfl,g1,g2,k _ _ _ _ _ h2 R2 (P1.trans P2) (b4s (b:=false) g1 g2 f1 f2 hl)⟩
   ·cases e
  ·cases e
end
theorem e2s{X:Cx}{a b:Expr}{daa:TDA}{p pos tp:Pos}{elts:List Expr}{kk:Nat} (hg:Gl X "zip") (hm:X.mg "zip" = none) (ha:DA X [a,b] daa) (hs:starEach [a,b] X.env=(false,eval a X.env) :: starEach [b] X.env:=by rfl) (hs2:(backTo pos (starEach [b] X.env)).any (·.1)=false:=by rfl) :
  DI X (.Tuple elts kk tp) (.Call (.Name "zip" p) [a,b] [] pos) (c4n daa):=by obtain⟨_,p,a⟩:=ha;exact⟨_,e2q hg hm p hs hs2,e2r a⟩
section
variable{ρ:Rho}{daa:TDA}{Q:List PyData->Rho->Prop}
theorem d6p:c4n daa ρ Q=daa ρ fun xs ρ1=>fzs ρ1 xs fun ds ρ2=>need (zipD ds) fun zs=>Q zs ρ2:=rfl
theorem e2t{xs ys:List PyData}(h:xs.length=ys.length):zipD [.tuple xs,.tuple ys]=some (zipP xs ys):=if_pos h
end
end L2
end
section
namespace L2
open PySem PySem.Spec PyProof.Rows
section
variable{X:Cx}
theorem kit2(K:W.Frag)(d:PyData)(T U:String)(hT:a1w T=true)(hU:a1w U=true):PySem.W.kitAny K (.type (tyD d)) [.type T,.type U]=some (isD T d || isD U d):=by
 have e1:=b9a K d T hT
 have e2:=b9a K d U hU
 simp only [PySem.W.kitAny,e1,e2]
 cases isD T d<;>cases isD U d<;>rfl
theorem c7v{pins:List (Addr × Obj)}{s:Shared}{σ:St}{H:Hp}{S:Addr->Prop}{d:PyData}{v:V}{u:Value}{tp:Addr}{T U:String}{Q:VK}(I:Inv X pins σ H s)(h:AtD X.K H S d v)(r:RelV v u)(ht:SqT X.K H tp [.ty T,.ty U])
  (hT:a1w T=true) (hU:a1w U=true) (q:Q (.bl (isD T d || isD U d)) H):wpAny (model X.prog X.w) X.A (call (.builtin "isinstance") [u,.ref tp]) (EP X pins σ Q) X.xe s:=by
 obtain⟨its,rv,⟨⟨oc,od,odt,osl⟩,e,hc,n,hd⟩,_⟩:=I.tuple ht
 obtain⟨t1,t2,rfl,q1,q2⟩:=rv.two
 cases q1;cases q2
 simp only at hc hd
 subst hc;subst hd
 have fin:∀ tk,EP X pins σ Q (.bool (isD T d || isD U d)) { s with toks:=tk }:=fun tk=>⟨.bl _,H,I.tok tk,rfl,q⟩
 have k2:=kit2 X.K d T U hT hU
 cases d with
 | none=>cases a9s h;cases r;exact PySem.W.kia_tup PySem.W.kitx_none I.kIn True.intro e k2 (fun z=>nomatch z) fin
 | bool b=>cases a6m h;cases r;exact PySem.W.kia_tup PySem.W.kitx_bool I.kIn True.intro e k2 (fun z=>nomatch z) fin
 | int i=>cases a9t h;obtain⟨t,rfl⟩:=r;exact PySem.W.kia_tup PySem.W.kitx_int I.kIn True.intro e k2 (fun z=>nomatch z) fin
 | str x=>cases a9u h;obtain⟨t,rfl⟩:=r;exact PySem.W.kia_tup PySem.W.kitx_str I.kIn True.intro e k2 (fun z=>nomatch z) fin
 | list ds =>
  obtain⟨a,xs,rfl,_,hq,_⟩:=a3x h
  cases r
  obtain⟨its,_,⟨o,n,e',hc,_,hd⟩,_⟩:=I.list (SqL.of hq)
  exact PySem.W.kia_tup PySem.W.kitx_list I.kIn ⟨o,e',hc⟩ e k2 (fun z=>nomatch z) fin
 | tuple ds =>
  obtain⟨a,xs,rfl,hq,_⟩:=a2s h
  cases r
  obtain⟨its,_,⟨o,e',hc,n,hd⟩,_⟩:=I.tuple hq
  exact PySem.W.kia_tup PySem.W.kitx_tuple I.kIn ⟨o,e',hc⟩ e k2 (fun z=>nomatch z) fin
 | dict kvs =>
  obtain⟨a,ν,rfl,_,hq,_⟩:=a8e h
  cases r
  obtain⟨_,_,vs,kv,o,es,ep,e',hc,hd,_,hp,_⟩:=(show a1z X.prog X.w H s.heap a (.dK ν) from I.hok a _ hq)
  exact PySem.W.kia_tup PySem.W.kitx_dict I.kIn ⟨o,e',hc.1⟩ e k2 (fun z=>nomatch z) fin
noncomputable def rIs2(K:W.Frag):List V->Hp->VK->Prop:=fun xs H Q=>∃ v S d tp T U,xs=[v,.ref tp]/\AtD K H S d v/\SqT K H tp [.ty T,.ty U]/\a1w T=true/\a1w U=true/\Q (.bl (isD T d || isD U d)) H
theorem c7w:a3h X (.builtin "isinstance") (rIs2 X.K):=by
 intro pins s σ H xs us Q I rs h
 obtain⟨v,S,d,tp,T,U,rfl,hd,ht,hT,hU,q⟩:=h
 obtain⟨u,u2,rfl,r1,r2⟩:=rs.two
 cases r2
 exact c7v I hd r1 ht hT hU q
end
section
variable{K:W.Frag}
def dIs2(T U:String)(de:TDE):TDE:=fun ρ Q=>de ρ fun x ρ1=>need (a0n ρ1 x) fun d=>Q (.d (.bool (isD T d || isD U d))) ρ1
theorem e2u{t:TE}{de:TDE}{T U:String}(hT:a1w T=true)(hU:a1w U=true)(h:AdE K t de):AdE K (tCB (rIs2 K) (a5l t (a5l (tTup (a5l (tC (.ty T)) (a5l (tC (.ty U)) tNil))) tNil))) (dIs2 T U de):=fun c O ρ σ H Qd Q R q k =>
 h c O ρ σ H _ _ R q fun x ρ1 O1 v H1 h1 R1 P1 a1=>by
  obtain⟨d,e1,h2⟩:=ne (h1)
  refine⟨by show 2 <= sizeLine;decide,fun p hp=>?_⟩
  have e:=a0o hp (.tup [V.ty T,V.ty U])
  exact⟨v,Any,d,p,T,U,rfl,AtD.mono e.keep _ _ (R1.top a1 e1).any,SqT.of a0j,hT,hU,k _ _ _ _ _ h2 (R1.grow e) (P1.trans (Pers.of e.keep fun _ z=>z)) a8t⟩
end
theorem e2v{X:Cx}{e:Expr}{de:TDE}{x y:Str}{T U:String}{p p2 p3 pt pos:Pos}{kk:Nat} (hg:Gl X "isinstance") (hm:X.mg "isinstance" = none) (hg2:Gl X x) (hm2:X.mg x=none) (hv:bootBuiltins x=some (.type T)) (hT:a1w T=true)
  (hg3:Gl X y) (hm3:X.mg y=none) (hv3:bootBuiltins y=some (.type U)) (hU:a1w U=true) (he:DE X e de) (hn:x ≠ "__name__":=by decide) (hd:(x == ("__debug__" : Str))=false:=by decide) (hn3:y ≠ "__name__":=by decide) (hd3:(y == ("__debug__" : Str))=false:=by decide)
  (hs:starEach [e,.Tuple [.Name x p2,.Name y p3] kk pt] X.env=(false,eval e X.env) :: starEach [.Tuple [.Name x p2,.Name y p3] kk pt] X.env:=by rfl):DE X (.Call (.Name "isinstance" p) [e,.Tuple [.Name x p2,.Name y p3] kk pt] [] pos) (dIs2 T U de):=by
 obtain⟨t,pe,ae⟩:=he
 exact⟨_,a4m c7w hg hm b1c (a0i pe (a0i (a5g (a0i (c3w hg2 hm2 hv hn hd) (a0i (c3w hg3 hm3 hv3 hn3 hd3) a0r))) a0r) hs) (by decide) (by decide) hs rfl,e2u hT hU ae⟩
theorem e2w{T U:String}{de:TDE}{ρ:Rho}{Q:DV->Rho->Prop}:dIs2 T U de ρ Q=de ρ fun x ρ1=>need (a0n ρ1 x) fun d=>Q (.d (.bool (isD T d || isD U d))) ρ1:=rfl
section
variable{K:W.Frag}{H:Hp}
end
end L2
end
section
namespace L2
open PySem PySem.Spec PyProof.Rows
section
variable{K:W.Frag}{c:Rc}{O:Own}{ρ:Rho}{σ:St}{H H':Hp}
end
end L2
end
section
namespace L2
open PySem PySem.Spec PyProof.Rows
section
variable{X:Cx}
end
section
variable{K:W.Frag}{S:Addr->Prop}{H:Hp}
noncomputable def d3s(xs:List PyData):List PyData:=xs.zipIdx.map fun p=>.tuple [.int (p.2:Int),p.1]
def e2x(de:TDE):TDI:=fun ρ Q=>de ρ fun x ρ1=>fz ρ1 x fun y ρ2=>need (match y with | .list xs=>some xs | _=>none) fun xs=>Q (d3s xs) ρ2
end
theorem d1h{de:TDE}{ρ:Rho}{Q:List PyData->Rho->Prop}:e2x de ρ Q=de ρ fun x ρ1=>fz ρ1 x fun y ρ2=>need (match y with | .list xs=>some xs | _=>none) fun xs=>Q (d3s xs) ρ2:=rfl
end L2
end
section
namespace L2
open PySem PySem.Spec PyProof.Rows
section
variable{K:W.Frag}{c:Rc}{O:Own}{ρ:Rho}{σ:St}{H H':Hp}
end
end L2
end
section
namespace L2
open PySem PySem.Spec PyProof.Rows
section
variable{κ:Type}[DecidableEq κ]
noncomputable def valV(kvs:List (κ × V))(k:κ):Option V:=(kvs.find? fun kv=>decide (kv.1=k)).map (·.2)
noncomputable def putK(kvs:List (κ × V))(k:κ)(v:V):List (κ × V):=
 if (kvs.any fun kv=>decide (kv.1=k))=true then kvs.map (fun kv=>if kv.1=k then(kv.1,v) else kv) else kvs ++ [(k,v)]
noncomputable def dropK(kvs:List (κ × V))(k:κ):List (κ × V):=kvs.filter fun kv=>decide (kv.1 ≠ k)
theorem b3e{p:κ × V}{r:List (κ × V)}{k:κ}(e:p.1=k):valV (p :: r) k=some p.2:=by simp [valV,find?_cons,e]
theorem b3f{p:κ × V}{r:List (κ × V)}{k:κ}(e:¬ p.1=k):valV (p :: r) k=valV r k:=by simp [valV,find?_cons,e]
theorem RelO.isSome_eq{o:Option V}{u:Option Value}(r:RelO o u):o.isSome=u.isSome:=by
 cases o with
 | none=>cases u with
  | none=>rfl
  | some _=>exact(show False from r).elim
 | some _=>cases u with
  | none=>exact(show False from r).elim
  | some _=>rfl
theorem KV.val{kvs:List (κ × V)}{vs:List (κ × Value)}(r:KV kvs vs)(k:κ):RelO (valV kvs k) (valueAt vs k):=by
 unfold KV at r
 induction r with
 | nil=>exact True.intro
 | @cons p q ps qs h t ih =>
  obtain⟨h1,h2⟩:=h
  by_cases e:p.1=k
  ·have e':q.1=k:=h1.symm.trans e
   have b:valueAt (q :: qs) k=some q.2:=by simp [valueAt,find?_cons,e']
   rw [b3e e,b];exact h2
  ·have e':¬ q.1=k:=fun z=>e (h1.trans z)
   have b:valueAt (q :: qs) k=valueAt qs k:=by simp [valueAt,find?_cons,e']
   rw [b3f e,b];exact ih
theorem KV.length{kvs:List (κ × V)}{vs:List (κ × Value)}(r:KV kvs vs):kvs.length=vs.length:=Paired.length r
end
theorem c4o{P:Program}{w:World}{k:Key}{u:Value}(r:RelV (kV k) u):(a2k P w).is k u=true:=by
 cases k with
 | inl i=>obtain⟨t,e⟩:=(show ∃ t,u=Value.int i t from r);subst e;exact c1e P w i t
 | inr x=>obtain⟨t,e⟩:=(show ∃ t,u=Value.str x t from r);subst e;exact a9l P w x t
theorem b7e{P:Program}{w:World}:∀ {ks:List Key} {us:List Value},Vals (ks.map kV) us->ItemsAre (a2k P w) ks us
 | [],_,r=>by rw [map_nil] at r;cases r;exact .nil
 | k :: ks,_,r=>by
  rw [map_cons] at r
  cases r with
  | cons h t=>exact .cons (c4o h) (b7e t)
abbrev KT(H:Hp):List (List Key × V)->List (List Key × Addr × Value)->Prop:=Paired fun p q=>p.1=q.1/\H q.2.1=some (.tup (p.1.map kV))/\RelV p.2 q.2.2
theorem KT.val{H:Hp}{kvs:List (List Key × V)}{xs:List (List Key × Addr × Value)}(r:KT H kvs xs)(k:List Key):RelO (valV kvs k) ((atKey xs k).map (·.2)):=by
 induction r with
 | nil=>exact True.intro
 | @cons p q ps qs h t ih =>
  obtain⟨h1,_,h2⟩:=h
  by_cases e:p.1=k
  ·have e':q.1=k:=h1.symm.trans e
   have b:atKey (q :: qs) k=some q.2:=by simp [atKey,find?_cons,e']
   rw [b3e e,b];exact h2
  ·have e':¬ q.1=k:=fun z=>e (h1.trans z)
   have b:atKey (q :: qs) k=atKey qs k:=by simp [atKey,find?_cons,e']
   rw [b3f e,b];exact ih
section
variable{P:Program}{w:World}{H:Hp}{h:Heap}{a:Addr}
theorem d3t{u:HO}(ok:HOk P w H h)(e:Rd H a u):a1z P w H h a u:=e.ok ok
theorem c4p{kvs:List (Key × V)}(ok:HOk P w H h)(e:Rd H a (.dK kvs)):kvs.length <= sizeLine/\(a == sysModules)=false/\∃ vs,KV kvs vs/\h.DictOf (a2k P w) a vs:=
 show a1z P w H h a (.dK kvs) from d3t ok e
theorem b9x{ks:List Key}(ok:HOk P w H h)(e:H a=some (.tup (ks.map kV))):(tupleKind (a2k P w)).is h ks a:=by
 obtain⟨_,its,r,o,h1,h2,n,h3⟩:=(show a1z P w H h a (.tup (ks.map kV)) from ok a _ e)
 exact⟨o,its.toArray,n,h1,h2.1,h3,by simpa using b7e r⟩
theorem c4q{kvs:List (List Key × V)}(ok:HOk P w H h)(e:Rd H a (.dT kvs)):kvs.length <= sizeLine/\(a == sysModules)=false /\
  ∃ xs,KT H kvs xs/\h.DictOfH (tupleKind (a2k P w)) a xs:=by
 obtain⟨z,y,xs,r,o,es,ep,h1,h2,h3,h4,h5⟩:=(show a1z P w H h a (.dT kvs) from d3t ok e)
 refine⟨z,y,xs,r,o,es,ep,h1,h2,h3,h4,fun x hx=>?_,h5⟩
 have all:∀ {l:List (List Key × V)} {m:List (List Key × Addr × Value)},KT H l m->∀ x ∈ m,(tupleKind (a2k P w)).is h x.1 x.2.1:=by
  intro l m q
  induction q with
  | nil=>intro x hx;exact nomatch hx
  | @cons p q ps qs hq t ih =>
   intro x hx
   rcases mem_cons.mp hx with e | hx
   ·subst e
    exact b9x ok (by rw [← hq.1];exact hq.2.1)
   ·exact ih x hx
 exact all r x hx
end
def DGet(H:Hp)(a:Addr)(y:V)(r:Option V):Prop:=
 (∃ kvs k,Rd H a (.dK kvs)/\y=kV k/\r=valV kvs k) ∨ ∃ kvs k b,Rd H a (.dT kvs)/\y=.ref b/\H b=some (.tup (k.map kV))/\r=valV kvs k
def DPut(H:Hp)(a:Addr)(y v:V)(H':Hp):Prop:=
 (∃ kvs k,H a=some (.dK kvs)/\y=kV k/\kvs.length < sizeLine/\H'=upd H a (.dK (putK kvs k v))) ∨
 ∃ kvs k b,H a=some (.dT kvs)/\y=.ref b/\H b=some (.tup (k.map kV))/\kvs.length < sizeLine/\H'=upd H a (.dT (putK kvs k v))
theorem DGet.k{H:Hp}{a:Addr}{kvs:List (Key × V)}{k:Key}(e:H a=some (.dK kvs)):DGet H a (kV k) (valV kvs k):=.inl ⟨kvs,k,.inl e,rfl,rfl⟩
section
variable{X:Cx}{pins:List (Addr × Obj)}{σ:St}{H:Hp}{s:Shared}{a:Addr}{y v:V}{u r:Value}{o:Option V}{A:Around}{E:Value->Shared->Prop}
theorem Inv.big(I:Inv X pins σ H s):sysModules < s.heap.objs.size:=by
 have h:mainGlobals < s.heap.objs.size:=(I.mod.glob.keeps I.bk).lt
 exact Nat.lt_trans (by decide) h
theorem c7x{Q:Value->Shared->Prop}(hu:A.units + 1 < cLine)(I:Inv X pins σ H s)(g:DGet H a y (some v))(ry:RelV y u)(h:∀ w' s',Inv X pins σ H s'->RelV v w'->Q w' s') :
  wpAny (model X.prog X.w) A (getItem (.ref a) u) Q E s:=by
 rcases g with⟨kvs,k,e,ey,l⟩ | ⟨kvs,k,b,e,ey,eb,l⟩
 ·subst ey
  obtain⟨z,hd,vs,rel,dd⟩:=c4p I.hok e
  obtain⟨w',hw,rw'⟩:=RelO.some_of (v:=v) (o:=valueAt vs k) (by rw [l];exact rel.val k)
  exact wpAny_getItem_of (c4o ry) dd.mapOf hw (h w' _ (I.tok _) rw')
 ·subst ey
  cases (show u=Value.ref b from ry)
  obtain⟨z,hd,xs,rel,dd⟩:=c4q I.hok e
  obtain⟨w',hw,rw'⟩:=RelO.some_of (v:=v) (o:=(atKey xs k).map (·.2)) (by rw [l];exact rel.val k)
  obtain⟨p,hp,hp2⟩:=map_eq_some_iff.mp hw
  refine wpAny_getItem_heap (tupleKind_room_in1 hu) (b9x I.hok eb) dd hp ?_
  rw [hp2]
  exact h w' _ (I.tok _) rw'
theorem d_in{Q:Value->Shared->Prop}(hu:A.units + 1 < cLine)(I:Inv X pins σ H s)(g:DGet H a y o)(ry:RelV y u)(h:∀ s',Inv X pins σ H s'->Q (.bool o.isSome) s') :
  wpAny (model X.prog X.w) A (compareOp .In u (.ref a)) Q E s:=by
 rcases g with⟨kvs,k,e,ey,l⟩ | ⟨kvs,k,b,e,ey,eb,l⟩
 ·subst ey
  obtain⟨z,hd,vs,rel,dd⟩:=c4p I.hok e
  refine wpAny_in_of (c4o ry) hd dd.mapOf ?_
  rw [← (rel.val k).isSome_eq,← l]
  exact h _ (I.tok _)
 ·subst ey
  cases (show u=Value.ref b from ry)
  obtain⟨z,hd,xs,rel,dd⟩:=c4q I.hok e
  refine wpAny_in_heap (tupleKind_room_in1 hu) (b9x I.hok eb) hd dd ?_
  have q:=(rel.val k).isSome_eq
  rw [Option.isSome_map] at q
  rw [← q,← l]
  exact h _ (I.tok _)
end
section
variable{X:Cx}{pins:List (Addr × Obj)}{σ:St}{H:Hp}{s:Shared}{a:Addr}{kvs:List (Key × V)}{k:Key}{u:Value}{A:Around}{E:Value->Shared->Prop}
end
def NoSl(i:Expr):Prop:=∀ ov iv,subscripted i false ov iv=operate [ov,iv] (getItem ov iv)
theorem d6q{prog:Program}{w:World}{A:Around}{E:Value->Shared->Prop}{s:Shared}{env:Env}{value slice:Expr}{pos:Pos}{T id:String}{Q:Value->Shared->Prop}
  (hl:typeLookup (.type T) "__getitem__" = pure (some (.builtin id))) (hs:NoSl slice)
  (h:wpAny (model prog w) A (eval value env) (fun o s₁=>wpAny (model prog w) A (eval slice env) (fun i s₂=>s₂.TypeIs o T/\wpAny (model prog w) A (getItem o i) Q E s₂) E s₁) E s) :
  wpAny (model prog w) A (eval (.Subscript value slice pos) env) Q E s:=by
 refine Subscript_ (wpAny_mono h (fun o s₁ h₁=>wpAny_mono h₁ (fun i s₂ h₂=>?_) fun _ _ x=>x) fun _ _ x=>x)
 obtain⟨hT,h₂⟩:=h₂
 unfold subscriptTail
 refine wpAny_bind ?_
 rw [getitemInPython_of_ne hT.not_modules]
 refine wpAny_bind (wpAny_specialOf hT hl ?_)
 have fin:wpAny (model prog w) A (subscripted slice false o i) (fun r s₃=>wpAny (model prog w) A (letTemporaryGo value o r >>= fun _=>pure r) Q E s₃) E s₂:=by
  rw [hs o i]
  exact wpAny_operating (wpAny_mono h₂ (fun r s₃ h₃=>wpAny_bind (wpAny_letTemporaryGo (wpAny_pure h₃))) fun _ _ x=>x)
 first
  | exact wpAny_pure (wpAny_bind fin)
  | exact wpAny_bind (wpAny_pure (wpAny_bind fin))
  | exact wpAny_bind fin
theorem c1i{X:Cx}{pins:List (Addr × Obj)}{σ:St}{H:Hp}{s:Shared}{a:Addr}{y:V}{o:Option V}(I:Inv X pins σ H s)(g:DGet H a y o):s.TypeIs (.ref a) "dict":=by
 rcases g with⟨kvs,k,e,_,_⟩ | ⟨kvs,k,b,e,_,_,_⟩
 ·obtain⟨_,_,vs,_,dd⟩:=c4p I.hok e
  exact dd.typeIs
 ·obtain⟨_,_,xs,_,dd⟩:=c4q I.hok e
  exact dd.typeIs
def d3u(td ty:TE):TE:=fun σ H Q=>td σ H fun x H1=>ty σ H1 fun y H2=>∃ a v,x=.ref a/\DGet H2 a y (some v)/\Q v H2
section
variable{X:Cx}{o i e value:Expr}{pos pos' tpos:Pos}{td ty tv:TE}
theorem c2u(hu:X.A.units + 1 < cLine)(ho:PE X o td)(hi:PE X i ty)(hs:NoSl i):PE X (.Subscript o i pos) (d3u td ty):=by
 intro pins s σ H Q I h
 refine d6q PySem.F.slot_dict_getitem.lookup hs (thn (ho pins s σ H _ I h) fun u s1 ⟨x,H1,I1,rx,q1⟩=>thn (hi pins s1 σ H1 _ I1 q1) fun iv s2 hq9=>?_)
 obtain⟨y,H2,I2,ry,a,v,ex,g,q2⟩:=hq9
 subst ex
 obtain rfl:u=Value.ref a:=rx
 exact⟨c1i I2 g,c7x hu I2 g ry fun w' s3 I3 rw'=>⟨v,H2,I3,rw',q2⟩⟩
end
section
variable{X:Cx}{pos:Pos}
end
end L2
end
section
namespace L2
open PySem PySem.Spec PyProof.Rows
section
variable{X:Cx}
theorem c7y:a3h X (.type "int") (fun xs H Q=>∃ b:Bool,xs=[.bl b]/\Q (.int (if b then 1 else 0)) H):=by
 intro pins s σ H xs us Q I rs h
 obtain⟨b,rfl,q⟩:=h
 obtain⟨u,rfl,r⟩:=vals1 rs
 cases r
 exact call_int_bool ⟨.int _,H,I.tok _,⟨_,rfl⟩,q⟩
end
noncomputable def c4r:FC:=fun ds=>match ds with
 | [.bool b]=>some (.int (if b then 1 else 0))
 | _=>none
noncomputable def unD:List (PyData × PyData)->Option (List (Str × Int))
 | []=>some []
 | (.str k,.int n) :: r=>(unD r).map ((k,n) :: ·)
 | _ :: _=>none
theorem c7z:∀ ν:List (Str × Int),unD (ν.map kvD)=some ν
 | []=>rfl
 | (k,n) :: r=>by
  show(unD (r.map kvD)).map _=_
  rw [c7z r];rfl
section
variable{K:W.Frag}{H:Hp}{S:Addr->Prop}
theorem d6r:AdC K (fun xs H Q=>∃ b:Bool,xs=[.bl b]/\Q (.int (if b then 1 else 0)) H) c4r:=by
 intro S H vs ds z Q f h e k
 unfold c4r at e
 split at e
 ·rename_i b
  cases e
  obtain⟨v,rfl,h1⟩:=h.one
  rw [h1.bool]
  exact⟨b,rfl,k _ _ (Same.refl _) (a3o _)⟩
 ·cases e
theorem AtT.dict{H:Hp}{S:Addr->Prop}{kvs:List (PyData × PyData)}{v:V}(h:AtT K H S (.dict kvs) v):∃ (a:Addr) (κ:List (Key × V)),v=.ref a/\S a/\H a=some (.dK κ)/\a0s K H S kvs κ:=a8e (h.at fun _ z=>nomatch z)
end
noncomputable def fSlL:FSl:=fun x lo hi=>match x with
 | .list xs=>some (.list (cutD xs lo hi))
 | _=>none
theorem e2y{K:W.Frag}:AdSl K (rSlL K) fSlL:=by
 intro S H x d z lo hi Q f hx e k
 unfold fSlL at e
 split at e
 ·cases e
  obtain⟨a,vs,rfl,h1,h2⟩:=hx.list
  exact⟨a,vs,rfl,SqL.of h1,fun p hp=>k _ _ (a0o hp _) (b8z (f p hp) hp (h2.cut lo hi))⟩
 ·cases e
section
variable{K:W.Frag}{da db:TDE}
end
end L2
end
section
namespace L2
open PySem PySem.Spec PyProof.Rows
noncomputable def Rc.reb(c:Rc)(O:Own)(p:Addr)(H:Hp):Rc:={ c with H0:=H,P:=fun a=>c.P a ∨ a=p,M:=fun a=>∃ j,O j=some a,A:=fun a=>∃ j,O j=some a }
structure Pin(K:W.Frag)(c:Rc)(p:Addr)(ν:List (Str × Int))(i:Nat)(O:Own)(ρ:Rho)(σ:St)(H:Hp):Prop where
 rel:Rel K (c.reb O p H) O ρ σ H
 at_:H p=some (.dK (ν.map kvE))
 slot:σ[i]? = some (some (.ref p))
 nul:ρ[i]? = some none
 bA:∀ j q,O j=some q->c.A q
 bS:∀ b o,¬ c.M b->c.H0 b=some o->H b=some o
 bK:∀ b,c.H0 b ≠ none->H b ≠ none
 bM:∀ q,c.M q->∃ vs,H q=some (.lst vs)
 am:∀ q,c.A q->c.M q ∨ c.H0 q=none
 frs:∀ q,c.H0 q=none->c.S q
 fr0:c.H0 p=none
 np:¬ c.P p
section
variable{K:W.Frag}{c:Rc}{O O1:Own}{ρ ρ1:Rho}{σ σ1:St}{H H1 H2:Hp}{p:Addr}{ν μ:List (Str × Int)}{i:Nat}
end
section
variable{K:W.Frag}
end
section
variable{X:Cx}{iter kE vE:Expr}{rest:List Stmt}{di:TDI}{dk dv:TDE}{du:TDS}{x y:Str}{p1 p2 p3 p4 p5 p6 p7 p8 p9 p10 p11 p12 p13:Pos}
end
end L2
end
section
namespace L2
open PySem PySem.Spec PyProof.Rows
section
variable{prog:Program}{w:World}{A:Around}{R:Result->Shared->Prop}{I:Addr}{fp wr:List Addr}{G:Array GenState->Array GenState->Prop}{St:Nat->Shared->Prop}{items:Array Value}{ps:List (Str × Int)}
end
section
variable{prog:Program}{w:World}{A:Around}{E:Value->Shared->Prop}{s:Shared}
end
end L2
end
section
namespace L2
open PySem PySem.Spec PyProof.Rows
def NotSq(o:HO):Prop:=(∀ xs,o ≠ .lst xs)/\(∀ xs,o ≠ .tup xs)/\∀ a u,o ≠ .frz a u
structure PinG(K:W.Frag)(c:Rc)(p:Addr)(o:HO)(O:Own)(ρ:Rho)(σ:St)(H:Hp):Prop where
 rel:Rel K (c.reb O p H) O ρ σ H
 at_:H p=some o
 nsq:NotSq o
 bA:∀ j q,O j=some q->c.A q
 bS:∀ b o,¬ c.M b->c.H0 b=some o->H b=some o
 bK:∀ b,c.H0 b ≠ none->H b ≠ none
 bM:∀ q,c.M q->∃ vs,H q=some (.lst vs)
 am:∀ q,c.A q->c.M q ∨ c.H0 q=none
 frs:∀ q,c.H0 q=none->c.S q
 fr0:c.H0 p=none
 np:¬ c.P p
section
variable{K:W.Frag}{c:Rc}{O O1:Own}{ρ ρ1:Rho}{σ σ1:St}{H H1 H2:Hp}{p:Addr}{o o2:HO}
end
end L2
end
section
namespace L2
open PySem PySem.Spec PyProof.Rows
section
variable{X:Cx}
end
end L2
end
section
namespace L2
open PySem PySem.Spec PyProof.Rows
section
variable{X:Cx}
theorem e2z:bootBuiltins "all" = some (.builtin "all"):=by decide +kernel
end
noncomputable def fMax2:FC:=fun ds=>match ds with
 | [.int a,.int b]=>some (.int (max a b))
 | _=>none
noncomputable def fMin2:FC:=fun ds=>match ds with
 | [.int a,.int b]=>some (.int (min a b))
 | _=>none
noncomputable def c4s:PyData->List PyData->Option PyData:=fun x ds=>match x,ds with
 | .dict kvs,[.str k,.int n]=>(unD kvs).map fun ν=>.int ((ν.lookup k).getD n)
 | _,_=>none
section
variable{K:W.Frag}{H:Hp}{S:Addr->Prop}
def e3a(da:TDA):TDE:=fun ρ Q=>da ρ fun xs ρ1=>need (a1a ρ1 xs) fun ds=>∃ ss:List Str,ds=[.list (ss.map .str)]/\ss.length < 64/\∀ ss':List Str,ss'.Perm ss->Q (.d (.list (ss'.map .str))) ρ1
def dGet2(dd:TDE)(da:TDA):TDE:=fun ρ Q=>dd ρ fun x ρ1=>need (a0n ρ1 x) fun dx=>(∃ kvs,dx=.dict kvs)/\da ρ1 fun ys ρ2=>need (a0n ρ2 x) fun dx2=>need (a1a ρ2 ys) fun ds=>need (c4s dx2 ds) fun z=>Q (.d z) ρ2
def d6s(i:Nat)(di de:TDE):TDE:=fun ρ Q=>need (ownB ρ i) fun _=>di ρ fun x ρ1=>need (a0n ρ1 x) fun dx=>need (asI dx) fun j=>de ρ1 fun y ρ2=>fz ρ2 y fun z ρ3=>need (ownB ρ3 i) fun o=>(0 <= j/\j <= o.2.length/\o.2.length <= 1000000)/\Q (.d .none) (ρ3.set i (some (okL o.1 (o.2.take j.toNat ++ z :: o.2.drop j.toNat))))
end
section
variable{X:Cx}{e e1 e2:Expr}{es:List Expr}{daa:TDA}{de d1 d2:TDE}{pos:Pos}
end
section
variable{i:Nat}{de di da dd:TDA}{ρ:Rho}{Q:DV->Rho->Prop}{d1 d2:TDE}
theorem d1i:e3a da ρ Q=da ρ fun xs ρ1=>need (a1a ρ1 xs) fun ds=>∃ ss:List Str,ds=[.list (ss.map .str)]/\ss.length < 64/\∀ ss':List Str,ss'.Perm ss->Q (.d (.list (ss'.map .str))) ρ1:=rfl
theorem d6t:dGet2 d1 da ρ Q=d1 ρ fun x ρ1=>need (a0n ρ1 x) fun dx=>(∃ kvs,dx=.dict kvs)/\da ρ1 fun ys ρ2=>need (a0n ρ2 x) fun dx2=>need (a1a ρ2 ys) fun ds=>need (c4s dx2 ds) fun z=>Q (.d z) ρ2:=rfl
theorem c8a:d6s i d1 d2 ρ Q=need (a4h (ρ[i]?.join)) fun _=>d1 ρ fun x ρ1=>need (a0n ρ1 x) fun dx=>need (asI dx) fun j=>d2 ρ1 fun y ρ2=>fz ρ2 y fun z ρ3=>need (a4h (ρ3[i]?.join)) fun o=>(0 <= j/\j <= o.2.length/\o.2.length <= 1000000)/\Q (.d .none) (ρ3.set i (some (okL o.1 (o.2.take j.toNat ++ z :: o.2.drop j.toNat)))):=rfl
theorem d6u{ν:List (Str × Int)}{k:Str}{n:Int}:c4s (.dict (ν.map kvD)) [.str k,.int n]=some (.int ((ν.lookup k).getD n)):=by
 show(unD (ν.map kvD)).map _=_
 rw [c7z];rfl
end
section
variable{K:W.Frag}
end
section
variable{X:Cx}{iter kE vE tg:Expr}{rest:List Stmt}{di:TDI}{dg:TDG}{dk dv:TDE}{du:TDS}{x y z:Str}{pos p1 p2 p3 p4 p5 p6 p7 p8 p9 p10 p11 p12 p13:Pos}
end
end L2
end
section
namespace L2
open PySem PySem.Spec PyProof.Rows
section
variable{prog:Program}{w:World}{A:Around}{E:Value->Shared->Prop}{s:Shared}
def IsZ2(h:Heap)(z TI TO T:Addr)(b:Bool):Prop:=h.get? z=some { cls:=.type "zip",dict:=none,data:=.fields #[rawInt T,.bool b,.bool false,.ref TI,.ref TO],slots:=#[] }
def ZF(h:Heap)(z TI TO:Addr):Prop:=(IsZip h z TI TO .none/\∃ p q,IsPair h TO p q) ∨ ∃ T b o,IsZ2 h z TI TO T b/\h.get? T=some o
def ZW(h:Heap)(z TI TO i1 i2 l1 l2:Addr)(k:Nat):Prop:=ZF h z TI TO/\IsPair h TI (.ref i1) (.ref i2)/\ItX true h i1 l1 k/\ItX false h i2 l2 k
end
end L2
end
section
namespace L2
open PySem PySem.Spec PyProof.Rows
section
variable{prog:Program}{w:World}{A:Around}{R:Result->Shared->Prop}{ps:List (Str × Int)}{z TI TO i1 i2 l1 l2:Addr}{xs ys:Array Value}
end
section
variable{prog:Program}{w:World}{A:Around}{E:Value->Shared->Prop}{s:Shared}
end
section
variable{X:Cx}
end
noncomputable def a6c:List PyData->Option (List Str)
 | []=>some []
 | .str x :: r=>(a6c r).map (x :: ·)
 | _ :: _=>none
theorem b3g:∀ ss:List Str,a6c (ss.map .str)=some ss
 | []=>rfl
 | x :: r=>by show(a6c (r.map .str)).map (x :: ·)=_;rw [b3g r];rfl
theorem b1p:∀ {xs:List PyData} {ss:List Str},a6c xs=some ss->xs=ss.map .str
 | [],ss,h=>by cases h;rfl
 | .str x :: r,ss,h=>by
  have h':(a6c r).map (x :: ·)=some ss:=h
  obtain⟨qs,h1,rfl⟩:=map_eq_some_iff.mp h'
  rw [b1p h1];rfl
end L2
end
section
namespace L2
open PySem
theorem d6v{a b:Int}:fMax2 [.int a,.int b]=some (.int (max a b)):=rfl
theorem d6w{a b:Int}:fMin2 [.int a,.int b]=some (.int (min a b)):=rfl
noncomputable def a6q:PyData->Bool
 | .none=>true
 | _=>false
noncomputable def fIsN:F2:=fun x y=>match y with
 | .none=>some (.bool (a6q x))
 | _=>none
noncomputable def fNotN:F2:=fun x y=>match y with
 | .none=>some (.bool (!a6q x))
 | _=>none
theorem e3b{x:PyData}:fIsN x .none=some (.bool (a6q x)):=rfl
theorem d6x{x:PyData}:fNotN x .none=some (.bool (!a6q x)):=rfl
theorem c8b:a6q .none=true:=rfl
theorem c8c{i:Int}:a6q (.int i)=false:=rfl
theorem c8d{xs:List PyData}:a6q (.tuple xs)=false:=rfl
section
variable{K:W.Frag}{H:Hp}{S:Addr->Prop}
end
end L2
end
section
namespace L2
open PySem PySem.Spec PyProof.Rows
section
variable{prog:Program}{w:World}{A:Around}{E:Value->Shared->Prop}{s:Shared}
theorem b7m{t sl:Addr}{items:Array Value}{vl vu:Value}{lo hi:Option Int}{Q:Value->Shared->Prop}(ht:IsTup s.heap t items)(hs:s.heap.IsSliceOf sl vl vu .none)(pl:IsPart vl lo)(pu:IsPart vu hi)
  (hw:HT.sIx items.size 0 lo=0/\HT.sIx items.size items.size hi=items.size) (h:Q (.ref t) s):wpAny (model prog w) A (getItem (.ref t) (.ref sl)) Q E s:=by
 have hTs:s.TypeIs (.ref sl) "slice":=by obtain⟨os,hos,hcs,_⟩:=id hs;exact⟨os,hos,hcs⟩
 unfold getItem
 try with_reducible refine wpAny_holding ?_
 first | refine wpAny_bind (wpAny_pure ?_) | skip
 refine wpAny_bind (wpAny_sequenceKey ht.typeIs (by decide) ?_)
 refine wpAny_bind (wpAny_callSpecial?_slot (name:=Str.ofString "__getitem__") ht.typeIs slot_tuple_getitem (wpAny_call_entry slot_tuple_getitem ht.typeIs entry_tuple_getitem ?_ (args_tuple_getitem _ _)))
 show wpAny _ _ (Builtin.Tuple.tupleItemsOf (.ref t) >>= _) _ _ s
 refine wpAny_bind (tupleItemsOf_ ht (wpAny_bind (wpAny_typeOf hTs ?_)))
 rw [if_pos (by decide)]
 refine wpAny_bind (HT.a8p hs pl pu ?_)
 rw [hw.1,hw.2]
 show wpAny _ _ (if (((0:Nat):Int) == 0 && (1:Int) == 1 && (items.size - 0) == items.size)=true then _ else _) _ _ s
 rw [if_pos (by simp)]
 refine wpAny_bind (m:=Builtin.Tuple.tupleIsExact (.ref t)) (wpAny_bind (wpAny_typeOf ht.typeIs (wpAny_pure ?_)))
 rw [if_pos (by decide)]
 exact wpAny_bind (wpAny_rule (wpAny_pure ⟨_,rfl,wpAny_pure h⟩))
end
section
variable{X:Cx}{e:Expr}{te:TE}{pos p2:Pos}
noncomputable def rSlW(K:W.Frag):V->Option Int->Option Int->Hp->VK->Prop:=fun x lo hi H Q=>∃ a xs,x=.ref a/\SqT K H a xs/\(HT.sIx xs.length 0 lo=0/\HT.sIx xs.length xs.length hi=xs.length)/\Q x H
theorem d1j:SlR X (rSlW X.K):=by
 intro pins s σ H x v vl vu lo hi sl Q I rx hs pl pu h
 obtain⟨a,xs,rfl,hx,hw,q⟩:=h
 cases rx
 obtain⟨its,r,ht,hz⟩:=I.tuple hx
 have hlen:its.toArray.size=xs.length:=by rw [size_toArray];exact r.length.symm
 exact⟨"tuple",_,slot_tuple_getitem.lookup,ht.typeIs,b7m ht hs pl pu (by rw [hlen];exact hw) ⟨.ref a,H,I,rfl,q⟩⟩
end
end L2
end
section
namespace L2
open PySem PySem.Spec PyProof.Rows
theorem c4t{xs:List PyData}{lo hi:Option Int}(h:HT.sIx xs.length 0 lo=0/\HT.sIx xs.length xs.length hi=xs.length):cutD xs lo hi=xs:=by
 unfold cutD
 rw [h.1,h.2,drop_zero,Nat.sub_zero,take_length]
noncomputable def fSlA:FSl:=fun x lo hi=>match x with
 | .tuple xs=>some (.tuple (cutD xs lo hi))
 | _=>none
theorem e3c{xs:List PyData}{lo hi:Option Int}:fSlA (.tuple xs) lo hi=some (.tuple (cutD xs lo hi)):=rfl
section
variable{K:W.Frag}{H:Hp}{S:Addr->Prop}
theorem e3d:AdSl K (fun x lo hi H Q=>rSlT K x lo hi H Q ∨ rSlW K x lo hi H Q) fSlA:=by
 intro S H x d z lo hi Q f hx e k
 unfold fSlA at e
 split at e
 ·rename_i xs
  cases e
  obtain⟨a,vs,rfl,h1,h2⟩:=hx.tup
  by_cases hw:HT.sIx xs.length 0 lo=0/\HT.sIx xs.length xs.length hi=xs.length
  ·refine .inr ⟨a,vs,rfl,h1,by rw [h2.length];exact hw,k _ _ (Same.refl _) ?_⟩
   rw [c4t hw]
   exact a1o h1 h2
  ·exact .inl ⟨a,vs,rfl,h1,by rw [h2.length];exact hw,fun p hp=>k _ _ (a0o hp _) (b0j hp (h2.cut lo hi))⟩
 ·cases e
def dNilD:TDE:=fun ρ Q=>Q (.d (.dict [])) ρ
def e3e(de:TDE):TDE:=fun ρ Q=>de ρ fun x ρ1=>need (a0n ρ1 x) fun dx=>∃ z:Str,dx=.str z/\z.length <= 1000/\Q (.d (.str (Txt.upper z))) ρ1
def dExtT(i:Nat)(de:TDE):TDE:=fun ρ Q=>need (ownB ρ i) fun _=>de ρ fun x ρ1=>need (a0n ρ1 x) fun dx=>∃ ys,dx=.tuple ys/\need (ownB ρ1 i) fun o=>o.2.length + ys.length <= 1000000/\Q (.d .none) (ρ1.set i (some (okL o.1 (o.2 ++ ys))))
def dInK(keys:List Str)(de:TDE):TDE:=fun ρ Q=>de ρ fun x ρ1=>need (a0n ρ1 x) fun dx=>∃ z:Str,dx=.str z/\Q (.d (.bool (keys.contains z))) ρ1
end
section
variable{X:Cx}{e st:Expr}{de ds:TDE}{pos p2:Pos}
end
section
variable{i:Nat}{ρ:Rho}{Q:DV->Rho->Prop}{d1 d2:TDE}{keys:List Str}
theorem d6y:dNilD ρ Q=Q (.d (.dict [])) ρ:=rfl
theorem d1k:e3e d1 ρ Q=d1 ρ fun x ρ1=>need (a0n ρ1 x) fun dx=>∃ z:Str,dx=.str z/\z.length <= 1000/\Q (.d (.str (Txt.upper z))) ρ1:=rfl
theorem d6z:dExtT i d1 ρ Q=need (a4h (ρ[i]?.join)) fun _=>d1 ρ fun x ρ1=>need (a0n ρ1 x) fun dx=>∃ ys,dx=.tuple ys/\need (a4h (ρ1[i]?.join)) fun o=>o.2.length + ys.length <= 1000000/\Q (.d .none) (ρ1.set i (some (okL o.1 (o.2 ++ ys)))):=rfl
theorem e3f:dInK keys d1 ρ Q=d1 ρ fun x ρ1=>need (a0n ρ1 x) fun dx=>∃ z:Str,dx=.str z/\Q (.d (.bool (keys.contains z))) ρ1:=rfl
end
end L2
end
section
namespace L2
open PySem PySem.Spec PyProof.Rows
end L2
end
section
namespace L2
open PySem PySem.Spec PyProof.Rows
end L2
end
section
namespace L2
open PySem PySem.Spec PyProof.Rows
section
variable{X:Cx}
end
end L2
end
section
namespace Sx
open PySem PySem.Spec PyProof.Rows
def leS(a b:Str):Prop:=a.cps.toList <= b.cps.toList
instance (a b:Str):Decidable (leS a b):=by unfold leS;infer_instance
noncomputable def srtS(ss:List Str):List Str:=ss.mergeSort (fun a b=>decide (leS a b))
section
variable{prog:Program}{w:World}{A:Around}{E:Value->Shared->Prop}{s:Shared}{S:Addr}
end
end Sx
end
section
namespace L2
open PySem PySem.Spec PyProof.Rows
section
variable{X:Cx}{pins:List (Addr × Obj)}{σ:List (Option V)}{H:Hp}{s:Shared}
end
section
variable{K:W.Frag}{H:Hp}{S:Addr->Prop}
end
section
variable{X:Cx}{a:Expr}{daa:TDA}{p p2 pos pos2:Pos}
end
end L2
end
section
namespace Sx
open PySem PySem.W PyProof.Rows
section
variable{n:Nat}(hn:0 < n)
include hn
end
section
variable{prog:Program}{w:World}{A:Around}{E:Value->Shared->Prop}{s:Shared}
end
end Sx
end
section
namespace L2
open PySem PySem.Spec PyProof.Rows
abbrev encT(t:List Int):PyData:=.tuple (t.map .int)
section
variable{prog:Program}{w:World}{A:Around}{E:Value->Shared->Prop}{s:Shared}
end
section
variable{K:W.Frag}{H:Hp}{S:Addr->Prop}
end
section
variable{X:Cx}
end
def e3g(da:TDA):TDE:=fun ρ Q=>da ρ fun xs ρ1=>need (a1a ρ1 xs) fun ds=>∃ tss:List (List Int),ds=[.list (tss.map encT)]/\(∀ t ∈ tss,t ≠ [])/\tss.length < 64/\∀ tss':List (List Int),tss'.Perm tss->Q (.d (.list (tss'.map encT))) ρ1
section
variable{K:W.Frag}
end
theorem d1l{da:TDA}{ρ:Rho}{Q:DV->Rho->Prop}:e3g da ρ Q=(da ρ fun xs ρ1=>need (a1a ρ1 xs) fun ds=>∃ tss:List (List Int),ds=[.list (tss.map encT)]/\(∀ t ∈ tss,t ≠ [])/\tss.length < 64/\∀ tss':List (List Int),tss'.Perm tss->Q (.d (.list (tss'.map encT))) ρ1):=rfl
section
variable{X:Cx}{e:Expr}{es:List Expr}{daa:TDA}{pos:Pos}
end
end L2
namespace Sn
instance stands:Nonempty Unit:=⟨()⟩
end Sn
end
section
namespace L2
open PySem PySem.Spec PyProof.Rows
end L2
end
section
namespace L2
open PySem PySem.Spec PyProof.Rows PySem.Builtin PySem.Builtin.Str
section
variable{X:Cx}
theorem b6b:∀ {ys:List Str} {us:List Value},Vals (ys.map V.str) us->StrsAre us ys
 | [],_,h=>by cases h;exact .nil
 | y :: ys,_,h=>by
  cases h with
  | cons r t =>
   obtain⟨k,rfl⟩:=r
   exact .cons y k (b6b t)
theorem c2v:∀ {ys:List Str} {us:List Value},StrsAre us ys->Vals (ys.map V.str) us
 | _,_,.nil=>.nil
 | _,_,.cons y k h=>.cons ⟨k,rfl⟩ (c2v h)
noncomputable def rJoin(K:W.Frag):V->List V->Hp->VK->Prop:=fun x vs H Q=>∃ (z:Str) (p:Addr) (ys:List Str),x=.str z/\vs=[.ref p]/\SqL K H p (ys.map V.str)/\z.length <= 16/\(ys.map (·.length)).sum + ys.length <= 1048576/\Q (.str (Txt.join z ys)) H
theorem d7a:MtM X "str.join" (rJoin X.K):=by
 intro pins s σ H x vs v us Q I rx rv h
 obtain⟨z,p,ys,rfl,rfl,hp,hz,hw,q⟩:=h
 obtain⟨t,rfl⟩:=rx
 obtain⟨u,rfl,r⟩:=vals1 rv
 cases r
 obtain⟨its,rs,⟨o,n,e,hc,hd,hda⟩,_⟩:=I.list hp
 exact join_listW (ys:=ys) (items:=its.toArray) ⟨o,e,hc,n,hda⟩ (b6b rs) hz hw fun t' k=>⟨.str _,H,I.tok _,⟨_,rfl⟩,q⟩
noncomputable def c8e:V->List V->Hp->VK->Prop:=fun x vs H Q=>∃ (z y:Str),x=.str z/\vs=[.str y]/\(y.length == 0)=false/\z.length <= 1000000/\∀ p,H p=none->Q (.ref p) (upd H p (.lst ((Txt.split z y).map V.str)))
theorem c8f{prog:Program}{w:World}{A:Around}{E:Value->Shared->Prop}{s:Shared}{x y:Str}{t u:Tok}{Q:Value->Shared->Prop}(hy:(y.length == 0)=false)(hz:x.length + 2 <= sizeLine)
  (h:∀ l k,l.map (·.1)=Txt.split x y->l.length <= sizeLine->Q (.ref s.heap.objs.size) { s with heap:=s.heap.push { cls:=.type "list",data:=.seq (strValues l).toArray },toks:=k }):wpAny (model prog w) A (call (.builtin "str.split") [.str x t,.str y u]) Q E s:=by
 have T:=typeIs_str s x t
 cases c:(decide (x.length < y.length) || decide (PySem.Builtin.Str.strKind x < PySem.Builtin.Str.strKind y)) with
 | true=>exact call_meets F.slot_str_split T F.entry_str_split (F.args_str_split_2 _ _) (meets_str_split_cannot_occur x y t u c) (h [(x,t)] s.toks (if_pos c).symm (by rw [sizeLine_eq];show 1 <= _;omega))
 | false =>
  have c0:¬ (decide (x.length < y.length) || decide (PySem.Builtin.Str.strKind x < PySem.Builtin.Str.strKind y))=true:=by rw [c];decide
  cases o:(occurrences x y 0 x.length (x.length + 1)).isEmpty with
  | true=>exact call_meets F.slot_str_split T F.entry_str_split (F.args_str_split_2 _ _) (meets_str_split_not_found x y t u c hy o) (h [(x,t)] s.toks ((if_neg c0).trans (if_pos o)).symm (by rw [sizeLine_eq];show 1 <= _;omega))
  | false =>
   have o0:¬ (occurrences x y 0 x.length (x.length + 1)).isEmpty=true:=by rw [o];decide
   have le:=StrLaws.occ_length_le x y 0 x.length (x.length + 1)
   have n0:(partsBetween x (occurrences x y 0 x.length (x.length + 1)) y.length).length <= sizeLine:=by
    rw [length_partsBetween];omega
   refine call_meets F.slot_str_split T F.entry_str_split (F.args_str_split_2 _ _) (meets_str_split_sep x y t u c hy o (by omega) n0) ?_
   have k:=h (numbered s.toks (partsBetween x (occurrences x y 0 x.length (x.length + 1)) y.length)) (s.toks + (partsBetween x (occurrences x y 0 x.length (x.length + 1)) y.length).length) ((numbered_texts _ _).trans ((if_neg c0).trans (if_neg o0)).symm) (by
    have e:=congrArg List.length (numbered_texts s.toks (partsBetween x (occurrences x y 0 x.length (x.length + 1)) y.length))
    rw [length_map] at e
    rw [e];exact n0)
   rw [← strsFrom_eq] at k
   exact k
theorem b9y:MtM X "str.split" c8e:=by
 intro pins s σ H x vs v us Q I rx rv h
 obtain⟨z,y,rfl,rfl,hy,hz,q⟩:=h
 obtain⟨t,rfl⟩:=rx
 obtain⟨u,rfl,r⟩:=vals1 rv
 obtain⟨k,rfl⟩:=r
 refine c8f hy (by rw [sizeLine_eq];omega) fun l tk e hl=>?_
 refine⟨.ref s.heap.objs.size,_,I.laid (a:=s.heap.objs.size) (o:=.lst ((Txt.split z y).map V.str)) (fun b o q=>get?_push_of_some _ q) (Nat.le_refl _) ?_,rfl,q _ (I.hok.fresh (Nat.le_refl _))⟩
 refine⟨?_,strValues l,0,?_,get?_push_size _ rfl⟩
 ·rw [length_map,← e,length_map];exact hl
 ·rw [← e]
  exact c2v (strsAre_of_values l)
end
end L2
end
section
namespace L2
open PySem PySem.Spec PyProof.Rows
section
variable{X:Cx}
end
end L2
end
section
namespace L2
open PySem PySem.Spec PyProof.Rows
noncomputable def Its(x:Str):It:=⟨fun i _=>i < x.cps.size,fun i H y H'=>H'=H/\∃ c,x.cps[i]? = some c/\y=.str ⟨#[c]⟩,fun i _=>x.cps.size <= i⟩
theorem c8g{P:Program}{w:World}{K:W.Frag}{tg:Expr}(it:Addr)(x:Str)(t:Tok):Turn P w K tg (Its x) [it] it (fun i h=>h.IsStrIter it "str_ascii_iterator" x t i) where
 mem:=by simp
 obj:=fun i h st b hb=>by
  have e:b=it:=by simpa using hb
  subst e
  obtain⟨o,e,c,d⟩:=st
  exact⟨o,e,fun v z=>by rw [d] at z;cases z⟩
 keep:=fun i h h' st k=>let ⟨o,ho,r⟩:=st;⟨o,k it (by simp) o ho,r⟩
 item:=by
  intro X hP hw hK hc i pins s σ H E I hf st hg
  subst hP hw hK
  obtain⟨f0,f1,f2,f3,f4,f5⟩:=hf it (by simp)
  refine(Walks.strAscii (prog:=X.prog) (w:=X.w) (I.ok.hd hc) it x t).item i s _ _ hg st fun v h' tk hv st' kk=>?_
  obtain⟨c,u,hcu,rfl⟩:=hv
  have I1:Inv X pins σ H { s with heap:=h',toks:=tk }:=I.turned (fun b o hb e=>kk b o (by simpa using hb) e) f0 f1 f3 f4 f5
  obtain⟨o,e,c1,d⟩:=id st'
  exact⟨_,rfl,b1x (s:={ s with heap:=h',toks:=tk }) e c1 d (by decide) ⟨.str ⟨#[c]⟩,H,I1,⟨u,rfl⟩,⟨rfl,c,hcu,rfl⟩,st',fun b hb=>(hf b hb).1⟩⟩
 done:=by
  intro X hP hw hK hc i pins s σ H E I hf st hg
  subst hP hw hK
  obtain⟨f0,f1,f2,f3,f4,f5⟩:=hf it (by simp)
  have hn:x.cps[i]? = none:=Array.getElem?_eq_none hg
  exact wpAny_pyNext_ascii_end (I.ok.hd hc) st hn fun h' eb=>⟨rfl,I.turned (t':=s.toks) (fun b o hb e=>eb b o hb e) f0 f1 f3 f4 f5⟩
 self:=fun _ _ _ _ _ st h=>wpAny_pyIter_striter_ascii st h
theorem c8h{P:Program}{w:World}{K:W.Frag}{tg:Expr}(it:Addr)(x:Str)(t:Tok):Turn P w K tg (Its x) [it] it (fun i h=>h.IsStrIter it "str_iterator" x t i) where
 mem:=by simp
 obj:=fun i h st b hb=>by
  have e:b=it:=by simpa using hb
  subst e
  obtain⟨o,e,c,d⟩:=st
  exact⟨o,e,fun v z=>by rw [d] at z;cases z⟩
 keep:=fun i h h' st k=>let ⟨o,ho,r⟩:=st;⟨o,k it (by simp) o ho,r⟩
 item:=by
  intro X hP hw hK hc i pins s σ H E I hf st hg
  subst hP hw hK
  obtain⟨f0,f1,f2,f3,f4,f5⟩:=hf it (by simp)
  refine(Walks.strWide (prog:=X.prog) (w:=X.w) (I.ok.hd hc) it x t).item i s _ _ hg st fun v h' tk hv st' kk=>?_
  obtain⟨c,u,hcu,rfl⟩:=hv
  have I1:Inv X pins σ H { s with heap:=h',toks:=tk }:=I.turned (fun b o hb e=>kk b o (by simpa using hb) e) f0 f1 f3 f4 f5
  obtain⟨o,e,c1,d⟩:=id st'
  exact⟨_,rfl,b1x (s:={ s with heap:=h',toks:=tk }) e c1 d (by decide) ⟨.str ⟨#[c]⟩,H,I1,⟨u,rfl⟩,⟨rfl,c,hcu,rfl⟩,st',fun b hb=>(hf b hb).1⟩⟩
 done:=by
  intro X hP hw hK hc i pins s σ H E I hf st hg
  subst hP hw hK
  obtain⟨f0,f1,f2,f3,f4,f5⟩:=hf it (by simp)
  have hn:x.cps[i]? = none:=Array.getElem?_eq_none hg
  exact wpAny_pyNext_wide_end (I.ok.hd hc) st hn fun h' eb=>⟨rfl,I.turned (t':=s.toks) (fun b o hb e=>eb b o hb e) f0 f1 f3 f4 f5⟩
 self:=fun _ _ _ _ _ st h=>wpAny_pyIter_striter_wide st h
section
variable{X:Cx}{tg:Expr}
def iStr(tl:TE):TI:=fun σ H R=>tl σ H fun x H1=>∃ z,x=.str z/\R (Its z) H1
theorem e3h{l:Expr}{tl:TE}(hl:PE X l tl):PI X tg l (iStr tl):=by
 intro pins s σ H R I h
 refine thn (hl pins s σ H _ I h) fun v s1 hq9=>?_
 obtain⟨x,H1,I1,r1,q1⟩:=hq9
 obtain⟨z,rfl,q⟩:=q1
 obtain⟨t,rfl⟩:=r1
 have fp:∀ b ∈ [s1.heap.objs.size],FpOk X pins H1 b:=fun b hb=>by
  have e:b=s1.heap.objs.size:=by simpa using hb
  subst e
  exact I1.fpOk (Nat.le_refl _) (I1.hok.fresh (Nat.le_refl _))
 cases ha:z.cps.all (· < 128) with
 | true=>exact wpAny_pyIter_ascii ha ⟨s1.heap.objs.size,[s1.heap.objs.size],_,_,H1,rfl,I1.kept (t':=s1.toks) fun b o e=>get?_push_of_some _ e,c8g _ z t,⟨_,get?_push_size _ rfl,rfl,rfl⟩,fp,q⟩
 | false=>exact wpAny_pyIter_wide ha ⟨s1.heap.objs.size,[s1.heap.objs.size],_,_,H1,rfl,I1.kept (t':=s1.toks) fun b o e=>get?_push_of_some _ e,c8h _ z t,⟨_,get?_push_size _ rfl,rfl,rfl⟩,fp,q⟩
end
abbrev signs(x:Str):List PyData:=x.cps.toList.map fun c=>.str ⟨#[c]⟩
noncomputable def asSt:PyData->Option Str
 | .str x=>some x
 | _=>none
theorem e3i{x:Str}:asSt (.str x)=some x:=rfl
def c4u(de:TDE):TDI:=fun ρ Q=>de ρ fun x ρ1=>need (a0n ρ1 x) fun d=>need (asSt d) fun z=>Q (signs z) ρ1
section
variable{K:W.Frag}{H:Hp}{S:Addr->Prop}
theorem c4v{z:Str}:a8v K S H (Its z) (signs z):=fun S' H' P=>by
 refine⟨fun i x e=>?_,by simp [Its]⟩
 rw [getElem?_map,Array.getElem?_toList] at e
 obtain⟨c,hc,rfl⟩:=map_eq_some_iff.mp e
 refine⟨(Array.getElem?_eq_some_iff.mp hc).1,fun v H'' y=>?_⟩
 obtain⟨rfl,c',hc',rfl⟩:=y
 rw [hc] at hc'
 cases hc'
 exact⟨Same.refl _,a1p _⟩
theorem e3j{t:TE}{de:TDE}(h:AdE K t de):AdI K (iStr t) (c4u de):=fun c O ρ σ H Qd Q R q k =>
 h c O ρ σ H _ _ R q fun x ρ1 O1 v H1 h1 R1 P1 a1=>by
  obtain⟨d,e1,hn1⟩:=ne (h1)
  obtain⟨z,e2,h2⟩:=ne (hn1)
  cases d with
  | str z' =>
   cases e2
   exact⟨z,(R1.top a1 e1).str,k _ _ _ _ _ h2 R1 P1 c4v⟩
  | _=>cases e2
end
theorem e3k{X:Cx}{tg e:Expr}{de:TDE}(h:DE X e de):DI X tg e (c4u de):=by obtain⟨_,p,a⟩:=h;exact⟨_,e3h p,e3j a⟩
theorem d7b{de:TDE}{ρ:Rho}{Q:List PyData->Rho->Prop}:c4u de ρ Q=(de ρ fun x ρ1=>need (a0n ρ1 x) fun d=>need (asSt d) fun z=>Q (signs z) ρ1):=rfl
noncomputable def leC(x y:Str):Bool:=decide (x.cps.toList <= y.cps.toList)
def rLeS:R2:=fun x y H Q=>∃ i j,x=.str i/\y=.str j/\Q (.bl (leC i j)) H
theorem b9z{X:Cx}:OpR X (compareOp .LtE) rLeS:=by
 intro pins s σ H x y v u Q I rx ry h
 obtain⟨i,j,rfl,rfl,q⟩:=h
 obtain⟨t,rfl⟩:=rx
 obtain⟨t',rfl⟩:=ry
 refine P.le_str ⟨.bl _,H,I,?_,q⟩
 show Value.bool _=Value.bool (leC i j)
 congr 1
 unfold leC
 rw [Bool.eq_iff_iff]
 simp [List.not_lt]
noncomputable def fLeS:F2
 | .str i,.str j=>some (.bool (leC i j))
 | _,_=>none
theorem e3l{x y:Str}:fLeS (.str x) (.str y)=some (.bool (leC x y)):=rfl
theorem c0a{K:W.Frag}:AdR K rLeS fLeS:=by
 intro S H x y dx dy z Q f hx hy e k
 unfold fLeS at e
 split at e
 ·cases e
  exact⟨_,_,hx.str,hy.str,k _ _ (Same.refl _) (a3k _)⟩
 ·cases e
section
variable{X:Cx}
noncomputable def d3v(K:W.Frag):List V->Hp->VK->Prop:=fun xs H Q=>∃ v S,∃ bs:List Bool,xs=[v]/\AtD K H S (.list (bs.map .bool)) v/\Q (.bl (bs.all id)) H
theorem bools_of_all{K:W.Frag}{H:Hp}{S:Addr->Prop}:∀ {bs:List Bool} {xs:List V},a0b K H S (bs.map .bool) xs->xs=bs.map V.bl
 | [],xs,h=>by rw [h.unnil];rfl
 | n :: r,xs,h=>by
  obtain⟨v,vr,rfl,hd,t⟩:=h.uncons
  rw [a6m hd,bools_of_all t];rfl
theorem b4t:∀ {bs:List Bool} {us:List Value},Vals (bs.map V.bl) us->us=bs.map Value.bool
 | [],us,h=>by rw [Vals.zero h];rfl
 | x :: r,us,h=>by
  cases h with
  | cons h1 h2 =>
   rw [b4t h2,map_cons]
   congr 1
theorem c8i(hc:X.calm=true):a3h X (.builtin "all") (d3v X.K):=by
 intro pins s σ H xs us Q I rs h
 obtain⟨v,S,bs,rfl,hd,q⟩:=h
 obtain⟨u,rfl,r⟩:=vals1 rs
 obtain⟨a,ys,rfl,_,hq,t⟩:=a3x hd
 cases r
 have ey:=bools_of_all t
 subst ey
 obtain⟨its,rv,pl,hz⟩:=I.list (SqL.of hq)
 have ei:=b4t rv
 subst ei
 have la:a < s.heap.objs.size:=lt_size pl.isList.choose_spec.1
 refine call_all_walk (wpAny_pyIter_list pl.isList ⟨s.heap.objs.size,_,_,_,_,_,fun i=>bs.getD i true,rfl,Walks.list (by simpa using I.ok.hd hc) s.heap.objs.size a (ne_of_lt la) (bs.map Value.bool).toArray,⟨⟨_,get?_push_size _ rfl,rfl,rfl⟩,pl.isList.push _⟩,fun i v s' Q' E' hP hQ=>?_,fun h' tk hk=>?_⟩)
 ·have hP:(bs.map Value.bool).toArray[i]? = some v:=hP
  rw [List.getElem?_toArray,getElem?_map] at hP
  obtain⟨b,hb,rfl⟩:=map_eq_some_iff.mp hP
  have e:bs.getD i true=b:=by rw [List.getD_eq_getElem?_getD,hb];rfl
  have hQ:Q' (bs.getD i true) s':=hQ
  rw [e] at hQ
  exact wpAny_truthy_bool hQ
 ·have e:((List.range (bs.map Value.bool).toArray.size).all fun i=>bs.getD i true)=bs.all id:=by
   rw [size_toArray,length_map,Bool.eq_iff_iff,all_eq_true,all_eq_true]
   constructor
   ·intro h b hb
    obtain⟨i,hi,rfl⟩:=List.getElem_of_mem hb
    have:=h i (List.mem_range.mpr hi)
    rw [List.getD_eq_getElem?_getD,getElem?_eq_getElem hi] at this
    exact this
   ·intro h i hi
    have hi':=List.mem_range.mp hi
    rw [List.getD_eq_getElem?_getD,getElem?_eq_getElem hi']
    exact h _ (List.getElem_mem hi')
  rw [e]
  refine⟨.bl _,H,I.kept fun b o e=>hk b o ?_ (get?_push_of_some _ e),rfl,q⟩
  rw [mem_singleton]
  exact ne_of_lt (lt_size e)
end
noncomputable def a8x:List PyData->Option (List Bool)
 | []=>some []
 | .bool b :: r=>(a8x r).map (b :: ·)
 | _ :: _=>none
theorem b7f:∀ bs:List Bool,a8x (bs.map .bool)=some bs
 | []=>rfl
 | x :: r=>by show(a8x (r.map .bool)).map (x :: ·)=_;rw [b7f r];rfl
theorem b4u:∀ {xs:List PyData} {bs:List Bool},a8x xs=some bs->xs=bs.map .bool
 | [],bs,h=>by cases h;rfl
 | .bool x :: r,bs,h=>by
  have h':(a8x r).map (x :: ·)=some bs:=h
  obtain⟨qs,h1,rfl⟩:=map_eq_some_iff.mp h'
  rw [b4u h1];rfl
noncomputable def c4w:FC:=fun ds=>match ds with
 | [.list xs]=>(a8x xs).map fun bs=>.bool (bs.all id)
 | _=>none
theorem d1m(bs:List Bool):c4w [.list (bs.map .bool)]=some (.bool (bs.all id)):=by
 show(a8x (bs.map .bool)).map _=_
 rw [b7f];rfl
theorem d7c{K:W.Frag}:AdC K (d3v K) c4w:=by
 intro S H vs ds z Q f h e k
 unfold c4w at e
 split at e
 ·rename_i xs
  obtain⟨bs,q1,rfl⟩:=map_eq_some_iff.mp e
  obtain⟨v,rfl,h1⟩:=h.one
  have e1:=b4u q1
  subst e1
  exact⟨v,Any,bs,rfl,h1.any,k _ _ (Same.refl _) (a3k _)⟩
 ·cases e
end L2
end
section
namespace L2
open PySem PySem.Spec PyProof.Rows
section
variable{X:Cx}
end
end L2
end
section
namespace L2
open PySem PySem.Spec PyProof.Rows
section
variable{X:Cx}
end
end L2
end
section
namespace L2
open PySem PySem.Spec PyProof.Rows
noncomputable def b8b:PyData->Option Key
 | .int i=>some (.inl i)
 | .str x=>some (.inr x)
 | _=>none
theorem d1n{K:W.Frag}{H:Hp}{S:Addr->Prop}{d:PyData}{v:V}{k:Key}(h:AtT K H S d v)(e:b8b d=some k):v=kV k:=by
 cases d with
 | int i=>cases e;exact h.int
 | str x=>cases e;exact h.str
 | _=>cases e
structure PinK(K:W.Frag)(c:Rc)(p:Addr)(ν:List (Key × V))(i:Nat)(O:Own)(ρ:Rho)(σ:St)(H:Hp):Prop where
 rel:Rel K (c.reb O p H) O ρ σ H
 at_:H p=some (.dK ν)
 slot:σ[i]? = some (some (.ref p))
 nul:ρ[i]? = some none
 bA:∀ j q,O j=some q->c.A q
 bS:∀ b o,¬ c.M b->c.H0 b=some o->H b=some o
 bK:∀ b,c.H0 b ≠ none->H b ≠ none
 bM:∀ q,c.M q->∃ vs,H q=some (.lst vs)
 am:∀ q,c.A q->c.M q ∨ c.H0 q=none
 frs:∀ q,c.H0 q=none->c.S q
 fr0:c.H0 p=none
 np:¬ c.P p
section
variable{K:W.Frag}{c:Rc}{O O1:Own}{ρ ρ1:Rho}{σ σ1:St}{H H1 H2:Hp}{p:Addr}{ν μ:List (Key × V)}{i:Nat}
end
section
variable{K:W.Frag}
end
section
variable{X:Cx}{iter kE vE tg:Expr}{rest:List Stmt}{di:TDI}{dg:TDG}{dk dv:TDE}{du:TDS}{x y z:Str}{pos p1 p2 p3 p4 p5 p6 p7 p8 p9 p10 p11 p12 p13:Pos}
end
section
variable{X:Cx}
def rInD(neg:Bool):R2:=fun x y H Q=>∃ a kvs k,y=.ref a/\H a=some (.dK kvs)/\x=kV k/\Q (.bl (if neg then !(valV kvs k).isSome else(valV kvs k).isSome)) H
theorem e3m(hu:X.A.units + 64 < cLine):OpR X (compareOp .In) (rInD false):=by
 intro pins s σ H x y v u Q I rx ry h
 obtain⟨a,kvs,k,rfl,ha,rfl,q⟩:=h
 cases ry
 exact d_in (by omega) I (DGet.k ha) rx fun s' I'=>⟨.bl _,H,I',rfl,q⟩
end
theorem c0b(k:Key):b8b (keyD k)=some k:=by cases k<;>rfl
end L2
end
section
namespace L2
open PySem PySem.Spec PyProof.Rows
open AutoSeq1 (wpAny_loadPart')
section
variable{X:Cx}
end
section
variable{K:W.Frag}
def dExtL(i:Nat)(de:TDE):TDE:=fun ρ Q=>need (ownB ρ i) fun _=>de ρ fun x ρ1=>need (a0n ρ1 x) fun dx=>∃ ys,dx=.list ys/\need (ownB ρ1 i) fun o=>o.2.length + ys.length <= 1000000/\Q (.d .none) (ρ1.set i (some (okL o.1 (o.2 ++ ys))))
end
section
variable{X:Cx}{e:Expr}{de:TDE}{pos:Pos}
theorem d7d{i:Nat}{ρ:Rho}{Q:DV->Rho->Prop}{d1:TDE}:dExtL i d1 ρ Q=need (a4h (ρ[i]?.join)) fun _=>d1 ρ fun x ρ1=>need (a0n ρ1 x) fun dx=>∃ ys,dx=.list ys/\need (a4h (ρ1[i]?.join)) fun o=>o.2.length + ys.length <= 1000000/\Q (.d .none) (ρ1.set i (some (okL o.1 (o.2 ++ ys)))):=rfl
end
end L2
end
section
namespace L2
open PySem PySem.Spec PyProof.Rows
section
variable{X:Cx}
open Classical in
end
end L2
end
section
namespace L2
open PySem PySem.Spec PyProof.Rows
section
variable{X:Cx}{pins:List (Addr × Obj)}{σ:List (Option V)}{H:Hp}{s:Shared}
end
end L2
end
section
namespace L2
open PySem PySem.Spec PyProof.Rows
section
variable{fs:List Bool}{y:PyData}{i n:Nat}{ys:List DV}{ρ:Rho}{QLs:List L->Rho->Prop}
theorem d7e:pass (false :: fs) (.d y :: ys) ρ QLs=fzL ρ (.d y) fun l ρ1=>pass fs ys ρ1 fun ls ρ2=>QLs (l :: ls) ρ2:=rfl
theorem d7f:pass (false :: fs) (.sl i :: ys) ρ QLs=fzL ρ (.sl i) fun l ρ1=>pass fs ys ρ1 fun ls ρ2=>QLs (l :: ls) ρ2:=rfl
theorem d7g:flOf n [] []=[]:=rfl
theorem d7h:flOf n (false :: fs) (.d y :: ys)=flOf (n + 1) fs ys:=rfl
theorem d7i:flOf n (false :: fs) (.sl i :: ys)=flOf (n + 1) fs ys:=rfl
end
end L2
end
section
namespace L2
open PySem PySem.Spec PyProof.Rows
section
open PySem.SeqAt PySem.MeetsSeq
variable{A:Around}{s:Shared}
end
section
variable{X:Cx}
open Classical in
end
section
variable{X:Cx}
open Classical in
end
section
variable{X:Cx}
end
section
variable{X:Cx}
end
section
variable{K:W.Frag}
theorem b0q{H:Hp}{S:Addr->Prop}:∀ {ss:List Str} {xs:List V},a0b K H S (ss.map .str) xs->xs=ss.map V.str
 | [],xs,h=>by rw [h.unnil];rfl
 | n :: r,xs,h=>by
  obtain⟨v,vr,rfl,hd,t⟩:=h.uncons
  rw [a9u hd,b0q t];rfl
variable{X:Cx}{e1:Expr}{daa:TDA}{pos:Pos}
variable{d1:TDE}{da:TDA}{ρ:Rho}{Q:DV->Rho->Prop}
end
end L2
end
section
namespace L2
open PySem PySem.Spec PyProof.Rows
section
variable{X:Cx}{K:W.Frag}
noncomputable def b8c(z:Str):FC:=fun ds=>match ds with
 | [.list xs]=>(a6c xs).bind fun ss=>if z.length <= 16/\(ss.map (·.length)).sum + ss.length <= 1048576 then some (.str (Txt.join z ss)) else none
 | _=>none
theorem d7j{z:Str}{ss:List Str}(h1:z.length <= 16)(h2:(ss.map (·.length)).sum + ss.length <= 1048576):b8c z [.list (ss.map .str)]=some (.str (Txt.join z ss)):=by
 show((a6c (ss.map .str)).bind _)=_
 rw [b3g]
 exact if_pos ⟨h1,h2⟩
def c4x(dd:TDE)(da:TDA):TDE:=fun ρ Q=>dd ρ fun x ρ1=>need (a0n ρ1 x) fun dx=>∃ z:Str,dx=.str z/\da ρ1 fun ys ρ2=>need (a1a ρ2 ys) fun ds=>need (b8c z ds) fun r=>Q (.d r) ρ2
theorem d7k{td:TE}{ta:TA}{dd:TDE}{da:TDA}(hd:AdE K td dd)(ha:AdA K ta da):AdE K (tBM K "str" (rJoin K) td ta) (c4x dd da):=by
 intro c O ρ σ H Qd Q R h k
 refine hd c O ρ σ H _ _ R h fun x ρ1 O1 v H1 h1 R1 P1 a1=>?_
 obtain⟨dx,e1,hn6⟩:=ne (h1)
 obtain⟨z,rfl,h1⟩:=hn6
 have ev:=(R1.top a1 e1).str
 subst ev
 refine⟨rfl,ha c O1 ρ1 σ H1 _ _ R1 h1 fun ys ρ2 O2 vs H2 h2 R2 P2 a2=>?_⟩
 obtain⟨ds,e3,hn9⟩:=ne (h2)
 obtain⟨r,e4,h2⟩:=ne (hn9)
 have t2:=R2.tops a2 e3
 unfold b8c at e4
 split at e4
 ·rename_i xs
  obtain⟨ss,q1,q2⟩:=Option.bind_eq_some_iff.mp e4
  split at q2
  ·rename_i hl
   cases q2
   have e5:=b1p q1
   subst e5
   obtain⟨v1,rfl,h7⟩:=t2.one
   obtain⟨b,vs1,rfl,hb,hall⟩:=h7.list
   have e6:=b0q hall
   subst e6
   exact⟨z,b,ss,rfl,rfl,SqL.of hb,hl.1,hl.2,k _ _ _ _ _ h2 R2 (P1.trans P2) (show AtD K H2 (live c O2) (.str _) (.str _) from a1p _)⟩
  ·cases q2
 ·cases e4
def c0c(dd:TDE)(da:TDA):TDF:=fun ρ Q=>dd ρ fun x ρ1=>need (a0n ρ1 x) fun dx=>∃ z:Str,dx=.str z/\z.length <= 1000000/\da ρ1 fun ys ρ2=>need (a1a ρ2 ys) fun ds=>∃ y:Str,ds=[.str y]/\(y.length == 0)=false/\Q ((Txt.split z y).map .str) ρ2
theorem all_strs{H:Hp}{S:Addr->Prop}:∀ {ss:List Str},a0b K H S (ss.map .str) (ss.map V.str)
 | []=>.nil
 | s :: r=>.cons (a1p _) all_strs
theorem d1o{td:TE}{ta:TA}{dd:TDE}{da:TDA}(hd:AdE K td dd)(ha:AdA K ta da):AdF K (tBM K "str" c8e td ta) (c0c dd da):=by
 intro c O ρ σ H Qd Q R h k
 refine hd c O ρ σ H _ _ R h fun x ρ1 O1 v H1 h1 R1 P1 a1=>?_
 obtain⟨dx,e1,hn6⟩:=ne (h1)
 obtain⟨z,rfl,hz,h1⟩:=hn6
 have ev:=(R1.top a1 e1).str
 subst ev
 refine⟨rfl,ha c O1 ρ1 σ H1 _ _ R1 h1 fun ys ρ2 O2 vs H2 h2 R2 P2 a2=>?_⟩
 obtain⟨ds,e3,hn9⟩:=ne (h2)
 obtain⟨y,rfl,hy,h2⟩:=hn9
 obtain⟨v1,rfl,h7⟩:=(R2.tops a2 e3).one
 have ev:=h7.str
 subst ev
 refine⟨z,y,rfl,rfl,hy,hz,fun p hp=>?_⟩
 obtain⟨R3,P3,f3,a4⟩:=R2.newL hp (all_strs (K:=K) (H:=H2) (S:=live c O2) (ss:=Txt.split z y))
 exact k _ _ _ _ _ _ h2 R3 ((P1.trans P2).trans P3) f3 a0j a4
theorem d7l{o e1:Expr}{dd:TDE}{daa:TDA}{p2 pos:Pos}(ho:DE X o dd)(ha:DA X [e1] daa)
  (hbase:attributeBase o "join" X.env (eval o X.env)=eval o X.env:=by rfl)
  (hfew:((backTo pos (starEach [e1] X.env)).all (fun x=>!x.1) && (backToKw pos (keywordEach [] X.env)).all (fun x=>x.1.isSome) && decide ([e1].length + ([]:List Keyword).length + (if ([]:List Keyword).isEmpty then 0 else 1) < 30))=true:=by rfl)
  (hline:(p2.endLine == pos.line)=true:=by rfl) (hs:starEach [e1] X.env=(false,eval e1 X.env) :: starEach [] X.env:=by rfl) (hpl:(backTo pos (starEach [] X.env)).any (·.1)=false:=by rfl):DE X (.Call (.Attribute o "join" p2) [e1] [] pos) (c4x dd daa):=by
 obtain⟨_,pd,ad⟩:=ho
 obtain⟨_,pa,aa⟩:=ha
 exact⟨_,b1y PySem.F.plainAttrs_str PySem.F.slot_str_join PySem.F.type_str_join d7a pd pa hbase hfew hline hs hpl,d7k ad aa⟩
theorem d1p{o e1:Expr}{dd:TDE}{daa:TDA}{p2 pos:Pos}(ho:DE X o dd)(ha:DA X [e1] daa)
  (hbase:attributeBase o "split" X.env (eval o X.env)=eval o X.env:=by rfl)
  (hfew:((backTo pos (starEach [e1] X.env)).all (fun x=>!x.1) && (backToKw pos (keywordEach [] X.env)).all (fun x=>x.1.isSome) && decide ([e1].length + ([]:List Keyword).length + (if ([]:List Keyword).isEmpty then 0 else 1) < 30))=true:=by rfl)
  (hline:(p2.endLine == pos.line)=true:=by rfl) (hs:starEach [e1] X.env=(false,eval e1 X.env) :: starEach [] X.env:=by rfl) (hpl:(backTo pos (starEach [] X.env)).any (·.1)=false:=by rfl):DF X (.Call (.Attribute o "split" p2) [e1] [] pos) (c0c dd daa):=by
 obtain⟨_,pd,ad⟩:=ho
 obtain⟨_,pa,aa⟩:=ha
 exact⟨_,b1y PySem.F.plainAttrs_str PySem.F.slot_str_split PySem.F.type_str_split b9y pd pa hbase hfew hline hs hpl,d1o ad aa⟩
variable{ρ:Rho}{d1:TDE}{da:TDA}
theorem d7m{Q:DV->Rho->Prop}:c4x d1 da ρ Q=d1 ρ fun x ρ1=>need (a0n ρ1 x) fun dx=>∃ z:Str,dx=.str z/\da ρ1 fun ys ρ2=>need (a1a ρ2 ys) fun ds=>need (b8c z ds) fun r=>Q (.d r) ρ2:=rfl
theorem d1q{Q:List PyData->Rho->Prop}:c0c d1 da ρ Q=d1 ρ fun x ρ1=>need (a0n ρ1 x) fun dx=>∃ z:Str,dx=.str z/\z.length <= 1000000/\da ρ1 fun ys ρ2=>need (a1a ρ2 ys) fun ds=>∃ y:Str,ds=[.str y]/\(y.length == 0)=false/\Q ((Txt.split z y).map .str) ρ2:=rfl
end
end L2
end
section
namespace L2
open PySem PySem.Spec PyProof.Rows
theorem c4y{pos:Pos}{a b:Int}{c v:Value}(l:List Value)(h:TriplesOk l)(hv:codeAmong pos (l ++ [rawInt a,rawInt b,c])=some v):codeAmong pos l=some v ∨ v=c:=by
 fun_induction TriplesOk l with
 | case1 =>
  simp only [List.nil_append,codeAmong,rawInt] at hv
  split at hv
  ·exact .inr (Option.some.inj hv).symm
  ·cases hv
 | case2 a t b u x rest ih =>
  simp only [cons_append,codeAmong] at hv ⊢
  split at hv
  ·rename_i hc;rw [if_pos hc];exact .inl hv
  ·rename_i hc;rw [if_neg hc];exact ih h hv
 | case3 l h1 h2=>exact h.elim
abbrev a8y(q:Str)(params:Arguments)(body:Expr)(scope:Scope)(cl:List (Str × Addr))(pm:Value)(c:Addr)(ct:Value):Obj:=PySem.W.kla_obj "<lambda>" q params body scope cl pm c ct
abbrev b8d(q:Str)(params:Arguments)(body:Expr)(scope:Scope)(cl:List (Str × Addr))(pm:Value)(c:Addr)(ct:Value):FuncData:=PySem.W.kla_fn "<lambda>" q params body scope cl pm (.ref c) ct
def Lam(H:Hp)(f:Addr)(q:Str)(params:Arguments)(body:Expr)(scope:Scope)(cl:List (Str × Addr))(pm:Value)(c:Addr)(ct:Value):Prop:=
 H f=some (.frz (a8y q params body scope cl pm c ct) (.own f))/\∃ oc vs t,H c=some (.frz oc (.own c))/\oc.data=.fields vs/\vs[1]? = some (.str q t)
section
variable{H H':Hp}{f c:Addr}{q:Str}{params:Arguments}{body:Expr}{scope:Scope}{cl:List (Str × Addr)}{pm ct:Value}
theorem Lam.keep{S:Addr->Prop}(L:Lam H f q params body scope cl pm c ct)(k:Keep S H H'):Lam H' f q params body scope cl pm c ct:=
 by obtain⟨h,oc,vs,t,e,r⟩:=L;exact⟨k.2.1 _ _ _ h,oc,vs,t,k.2.1 _ _ _ e,r⟩
theorem e3n{CX:CXT}{P:Program}{w:World}{K:W.Frag}{mg:Str->Option Value}{base:Heap}{k:Nat}{N ps:List Str}{sp:Sp}(S:FnScope N ps scope)(len:∀ vs H Q E,sp vs H Q E->vs.length=ps.length)
  (hbody:∀ (A:Around) (outer:List Env) (s:Shared) (H:Hp) (vs:List V) (Q:VK) (E:XK),Room k (A.deeper (envOfC q scope s.heap.objs.size f (.ref c)))->sp vs H Q E ->
   ∃ t,PE (cxOf CX P w K mg base N q scope f (.ref c) A outer s H E) body t/\t (start N vs) H Q) :
  FnOk P w K mg base CX (k + 1) f (b8d q params body scope [] pm c ct) ps (fun vs H Q E=>Lam H f q params body scope [] pm c ct/\sp vs H Q E):=by
 refine⟨fun vs H Q E h=>len _ _ _ _ h.2,fun A outer s H args us vs Q E hr e0 hb r hsp=>?_⟩
 obtain⟨⟨hf,oc,vc,tc,hc,hd,hv⟩,hsp⟩:=hsp
 have hl:=len _ _ _ _ hsp
 have lim:s.heap.NoLimit:=e0.mod.nolimit.keeps fun b o e=>(e0.bs b o e).1
 have ef:s.heap.get? f=some (a8y q params body scope [] pm c ct):=(e0.hok f _ hf).1
 have ec:s.heap.get? c=some oc:=(e0.hok c _ hc).1
 have hkind:∀ y ∈ ps.zip us,scope.names.lookup y.1=some .local ∨ (scope.names.lookup y.1=some .cell/\((cellsFrom (s.heap.objs.size + 1) scope.names []).lookup y.1).isSome=true):=fun⟨n,v⟩ hy=>by
  rcases S.par n (of_mem_zip hy).1 with q | q
  ·exact .inl q
  ·exact .inr ⟨q,PySem.W.cellsFrom_some _ _ _ (.inl q)⟩
 refine PySem.W.kla_callFunE hr.depth ef rfl S.co S.gen rfl ⟨c,oc,vc,tc,rfl,ec,hd,hv⟩ (hb _ _ _ _ ?_)
 refine wpAny_newFunctionEnv_cells S.kind hkind fun env he s1 x=>?_
 subst he
 refine⟨lim.keeps x.toInCall.keep,PySem.W.kla_codeExpr ?_⟩
 obtain⟨t,ht,hq⟩:=hbody A outer s H vs Q E (hr.deeper _) hsp
 have I:Inv (cxOf CX P w K mg base N q scope f (.ref c) A outer s H E) [] (start N vs) H s1:=b6z S hr.hd e0 hl r x
 refine wpAny_mono (ht [] s1 (start N vs) H _ I hq) (fun u s' hs=>?_) fun e s' hs=>hs
 obtain⟨v,H',J,rv,q⟩:=hs
 exact⟨v,H',J.os,J.bare,J.base,J.hok,rv,q⟩
end
section
variable{X:Cx}{x:Str}{i k:Nat}{f:Addr}{o:Obj}{fd:FuncData}{ps:List Str}{sp:Sp}{CX:CXT}{E:XK}{e:Expr}{es:List Expr}{t:TA}{p pos:Pos}
def e3o(i:Nat)(f:Addr)(o:Obj)(sp:Sp)(E:XK)(t:TA):TE:=fun σ H Q=>σ[i]? = some (some (.ref f))/\t σ H fun vs H1=>H1 f=some (.frz o (.own f))/\sp vs H1 Q E
theorem d1r(F:FnOk X.prog X.w X.K X.mg X.base CX k f fd ps sp)(hr:Room k X.A)(hN:X.N[i]? = some x)(hb:Binds X.K fd ps [])(hx:a4l CX X E)(hfo:∃ g,o.data=.func g)(ha:PA X (e :: es) t)
  (hv:Vis X.env.scope x:=by first | exact Or.inl rfl | exact Or.inr (Or.inl rfl) | exact Or.inr (Or.inr rfl)) (hd:(x == ("__debug__" : Str))=false:=by decide) (hcd:(x == ("__classdict__" : Str))=false:=by decide)
  (he:starEach (e :: es) X.env=(false,eval e X.env) :: starEach es X.env:=by rfl) (hpl:(backTo pos (starEach es X.env)).any (·.1)=false:=by rfl) :
  PE X (.Call (.Name x p) (e :: es) [] pos) (e3o i f o sp E t):=by
 intro pins s σ H Q I h
 obtain⟨e1,h⟩:=h
 obtain⟨m,hn,hl⟩:=I.loc
 obtain⟨u,r,l⟩:=hl i x (.ref f) hN e1 hv
 obtain rfl:u=Value.ref f:=r
 obtain⟨g,hg⟩:=hfo
 have fin:wpAny (model X.prog X.w) X.A (callWith pos (.ref f) [] (backTo pos (starEach (e :: es) X.env)) (backToKw pos (keywordEach [] X.env))) (EP X pins σ Q) X.xe s:=by
  have h2:wpAny (model X.prog X.w) X.A (spliced (backTo pos (starEach (e :: es) X.env))) (fun vs s₁=>s₁.heap.get? f=some o/\wpAny (model X.prog X.w) X.A (call (.ref f) ([] ++ vs)) (EP X pins σ Q) X.xe s₁) X.xe s:=
   thn (ha pos pins s σ H _ I h) fun us s1 ⟨vs,H1,I1,r,q⟩=>⟨(I1.hok f _ q.1).1,b4c F hr hb .nil hx I1 r (by rw [append_nil];exact q.2)⟩
  rw [he] at h2 ⊢
  refine PySem.W.callWith_of (P:=fun h=>h.get? f=some o) (by show((false || (backTo pos (starEach es X.env)).any (·.1)) || false)=false;rw [hpl];rfl) (fun h q=>⟨.frame,.inl rfl,?_⟩) (Calls.evalArgs_plain h2)
  obtain⟨oc,od,odt,osl⟩:=o
  obtain rfl:odt=.func g:=hg
  exact(PySem.W.Looks.ld (part:=none) q).andThen .now
 refine wpAny_Call_Name_kw ?_
 rcases l with⟨hk,hm⟩ | ⟨hk,c,hc,hcell⟩
 ·exact wpAny_Name (wpAny_loadName_local I.ok.kind hk hn hm fin) hd
 ·rcases hk with hk | hk
  ·exact wpAny_Name (wpAny_loadName_cell I.ok.kind hk hc hcell fin) hd
  ·exact wpAny_Name (wpAny_loadName_free I.ok.kind hk hc hcell fin hcd) hd
end
def BMain(mg:Str->Option Value)(base:Heap):Prop:=∃ bm ob,mg "__builtins__" = some (.ref bm)/\bm ≠ builtinsNs/\base.get? bm=some ob/\ob.cls=.type "module" /\ ob.dict=some builtinsNs/\ob.data=.plain
def d3w(P:Addr)(q:Str)(params:Arguments)(body:Expr)(scope:Scope)(cl:List (Str × Addr))(pm:Value):TE:=fun _ H Q=>H P=some (a7r q)/\∀ f c ct H',Same H H'->H f=none->Lam H' f q params body scope cl pm c ct->Q (.ref f) H'
def tLam(P:Addr)(q:Str)(params:Arguments)(body:Expr)(scope:Scope)(pm:Value):TE:=d3w P q params body scope [] pm
section
variable{X:Cx}{c P:Addr}{q:Str}{params:Arguments}{body:Expr}{scope:Scope}{cl:List (Str × Addr)}{pos:Pos}
theorem c2w(bm:BMain X.mg X.base)(hcd:X.env.code=.ref c)(hC:PySem.W.codeHdIn X.K c P=true) (hq:X.env.qual ++ "<lambda>" = q) (hcl:closureFor scope X.env=pure cl) (hdef:defaultsOf params X.env=([],[]):=by rfl) :
  PE X (.Lambda params body scope pos) (d3w P q params body scope cl ((X.mg "__name__").getD .none)):=by
 intro pins s σ H Q I h
 obtain⟨hP,h⟩:=h
 subst hq
 refine PySem.W.kla_eval hdef ?_
 obtain⟨qs,e1,e2,e3⟩:∃ qs,TabOk H s.heap P #[.str (X.env.qual ++ "<lambda>") 0] qs:=(I.hok P _ hP).1
 have C:=PySem.W.codeHd_of_K I.kIn hC
 have hg:s.heap.Ns mainGlobals X.mg:=I.mod.glob.keeps I.bk
 obtain⟨b,ob,b1,b2,b3,b4,b5,b6⟩:=bm
 have bh:=I.bk _ _ b3
 have hgP:mainGlobals ≠ P:=fun z=>by
  obtain⟨o,es,ep,e,hd,_⟩:=hg
  rw [z,e1] at e;cases e;cases hd
 have hbP:b ≠ P:=fun z=>by rw [z,e1] at bh;cases bh;cases b4
 have hbG:b ≠ mainGlobals:=fun z=>by
  obtain⟨o,es,ep,e,hd,_⟩:=hg
  rw [z,e] at bh;cases bh;rw [hd] at b6;cases b6
 have hB:s.heap.BuiltinsAt X.mg P:=⟨b,ob,b1,b2,hbG,hbP,bh,b4,b5,b6⟩
 cases hA:codeAmong pos qs.toList with
 | some v =>
  obtain⟨c',oc,vs,q,t,t',rfl,hps,hc',hd,hv⟩:=e3 pos v hA
  have eq1:q=X.env.qual ++ "<lambda>":=by
   have:=congrArg Array.toList hps
   simp only [List.cons.injEq,and_true] at this
   injection this with z1 _
   exact z1.symm
  subst eq1
  refine PySem.W.kla_makeFunctionHit (mg:=X.mg) hcl I.ok.glob hg hcd C e1 e2 hA hB fun ctv h' tk hk hsz=>?_
  have hn:H h'.objs.size=none:=I.hok.fresh hsz
  have I2:=I.laid (a:=h'.objs.size) (o:=.frz (a8y (X.env.qual ++ "<lambda>") params body scope cl ((X.mg "__name__").getD .none) c' ctv) (.own h'.objs.size)) (t':=tk) (h':=h'.push (a8y (X.env.qual ++ "<lambda>") params body scope cl ((X.mg "__name__").getD .none) c' ctv))
   (fun b o e=>get?_push_of_some _ (hk _ _ e)) hsz ⟨get?_push_size _ rfl,_,get?_push_size _ rfl⟩
  refine⟨.ref h'.objs.size,_,I2,rfl,h _ c' ctv _ (a0o hn _) hn ⟨a0j,oc,vs,t',?_,hd,hv⟩⟩
  rw [a0f (a1s hc' hn)];exact hc'
 | none =>
  refine PySem.W.kla_makeFunction (mg:=X.mg) hcl I.ok.glob hg hcd C e1 e2 hA hgP hB fun c' ctv h' tk hx hge hlt hrec htb=>?_
  obtain⟨c2,oc,vs,t,ec2,hoc,hd,hv⟩:=hrec
  cases ec2
  obtain⟨fo,hfo⟩:∃ fo,fo=a8y (X.env.qual ++ "<lambda>") params body scope cl ((X.mg "__name__").getD .none) c' ctv:=⟨_,rfl⟩
  show EP X pins σ Q (.ref h'.objs.size) { s with heap:=h'.push (a8y (X.env.qual ++ "<lambda>") params body scope cl ((X.mg "__name__").getD .none) c' ctv),toks:=tk }
  rw [← hfo]
  have hn1:H c'=none:=I.hok.fresh hge
  have hn2:H h'.objs.size=none:=I.hok.fresh (Nat.le_trans hge (le_of_lt hlt))
  have nfc:h'.objs.size ≠ c':=ne_of_gt hlt
  obtain⟨H',hH'⟩:∃ H',H'=upd (upd H c' (.frz oc (.own c'))) h'.objs.size (.frz fo (.own h'.objs.size)):=⟨_,rfl⟩
  have kp:∀ b o,b ≠ P->s.heap.get? b=some o->(h'.push fo).get? b=some o:=fun b o n e=>get?_push_of_some _ (hx b o n e)
  have nP:∀ b,H b=none->b ≠ P:=fun b n z=>by rw [z,hP] at n;cases n
  have sm:Same H H':=fun b o e=>by
   rw [hH',a0f (a1s e hn2),a0f (a1s e hn1)];exact e
  have pushP:(h'.push fo).get? P=some (PySem.W.tabObj (qs ++ #[rawInt pos.line,rawInt pos.col,.ref c'])):=get?_push_of_some _ htb
  have pushF:(h'.push fo).get? h'.objs.size=some fo:=get?_push_size _ (by rw [hfo];rfl)
  have H'c:H' c'=some (.frz oc (.own c')):=by rw [hH',a0f (Ne.symm nfc),a0j]
  have H'f:H' h'.objs.size=some (.frz fo (.own h'.objs.size)):=by rw [hH',a0j]
  have un:Un X.fs [] H H' s.heap (h'.push fo):={
   keep:=fun b o e n _ _=>kp b o (nP b n) e
   slot:=fun b o e n _ _=>⟨o.slots,kp b o (nP b n) e⟩
   free:=fun b o e n _=>by
    have lt:=lt_size e
    rw [hH',a0f (ne_of_lt (Nat.lt_trans (lt_of_lt_of_le lt hge) hlt)),a0f (ne_of_lt (lt_of_lt_of_le lt hge))];exact n
   there:=fun b o e _=>by
    by_cases z:b=P
    ·exact⟨_,by rw [z];exact pushP⟩
    ·exact⟨o,kp b o z e⟩
   tups:=fun b xs e=>sm _ _ e
   frzs:=fun b o u e=>sm _ _ e
   tbls:=fun b ps e=>⟨#[],by rw [sm _ _ e];simp⟩ }
  have hok:HOk X.prog X.w H' (h'.push fo):=fun b o e=>by
   by_cases z1:b=h'.objs.size
   ·subst z1
    rw [H'f] at e
    cases e
    exact⟨pushF,_,pushF⟩
   ·by_cases z2:b=c'
    ·subst z2
     rw [H'c] at e
     cases e
     exact⟨get?_push_of_some _ hoc,_,get?_push_of_some _ hoc⟩
    ·rw [hH',a0f z1,a0f z2] at e
     by_cases z3:b=P
     ·subst z3
      rw [hP] at e
      cases e
      refine⟨⟨_,pushP,?_,fun pos' v hv'=>?_⟩,_,pushP⟩
      ·rw [toList_append];exact TriplesOk_snoc _ _ _ _ e2
      ·rw [toList_append] at hv'
       rcases c4y _ e2 hv' with z | rfl
       ·obtain⟨c0,oc0,vs0,q0,t0,t0',y1,y2,y3,y4⟩:=e3 pos' v z
        exact⟨c0,oc0,vs0,q0,t0,t0',y1,y2,sm _ _ y3,y4⟩
       ·exact⟨c',oc,vs,_,_,t,rfl,rfl,H'c,hd,hv⟩
     ·refine(I.hok b o e).stay (fun b' u hb' e'=>kp b' u ?_ e') (fun b' e'=>sm _ _ e') (fun b' xs e'=>sm _ _ e') fun b' ob u e'=>sm _ _ e'
      rcases hb' with rfl | hb'
      ·exact z3
      ·rintro rfl
       rw [hP] at hb';cases hb'
  exact⟨.ref h'.objs.size,_,I.un un hok,rfl,h _ c' ctv _ sm hn2 ⟨by rw [H'f,hfo],oc,vs,t,H'c,hd,hv⟩⟩
theorem c8j(bm:BMain X.mg X.base)(hcd:X.env.code=.ref c)(hC:PySem.W.codeHdIn X.K c P=true) (hq:X.env.qual ++ "<lambda>" = q) (hdef:defaultsOf params X.env=([],[]):=by rfl) (hcl:closureFor scope X.env=pure []:=by rfl) :
  PE X (.Lambda params body scope pos) (tLam P q params body scope ((X.mg "__name__").getD .none)):=c2w bm hcd hC hq hcl hdef
end
end L2
end
section
namespace L2
open PySem PySem.Spec PyProof.Rows
theorem c8k{K:W.Frag}{c P:Addr}{q:Str}(h:(c,P,q) ∈ a9w K):∃ od vs sl,K.lookup c=some ⟨.type "code",od,.fields vs,sl⟩/\vs[11]? = some (.ref P):=by
 obtain⟨p,_,e⟩:=mem_filterMap.mp h
 unfold lamOf at e
 split at e
 ·split at e
  ·split at e
   ·split at e
    ·rename_i hk
     split at e
     ·rename_i hv
      cases e
      exact⟨_,_,_,hk,hv⟩
     ·cases e
    ·cases e
   ·cases e
  ·cases e
 ·cases e
theorem c8l{P:Program}{w:World}{K:W.Frag}{mg mb:Str->Option Value}{CX:CXT}{k:Nat}{fa a:Addr}{fd:FuncData}{x:Str}{sp:Sp}{s₁:Shared}{vs:List Value}{ns:List Int}{tl:List (Addr × Addr × Str)}
  (KX:K.In s₁.heap) (hns:s₁.heap.Ns mainGlobals mg) (hb:s₁.heap.Ns builtinsNs mb) (hbb:∀ x:Str,x ≠ "__name__" -> mb x=bootBuiltins x) (hlim:s₁.heap.NoLimit) (hg:s₁.gens = #[]) (hB:BMain mg s₁.heap)
  (ha:s₁.heap.get? a=some { cls:=.type "list",data:=.seq vs.toArray }) (hi:IntsAre vs ns) (hl:ns.length <= sizeLine) (hr:Room k callerA)
  (htl:a9w K=tl) (hT:∀ p ∈ tl,s₁.heap.get? p.2.1=some (PySem.W.tabObj #[])) (hU:tl.Pairwise fun p p'=>p.2.1 ≠ p'.2.1) (hN:tl.all (fun p=>(K.lookup p.2.1).isNone)=true)
  (F:∀ base:Heap,K.In base->base.Ns mainGlobals mg->BMain mg base->FnOk P w K mg base CX k fa fd [x] sp) (hbind:∀ (s:Shared) (u:Value),BindsTo s fd ⟨[u],[]⟩ [(x,u)])
  (hsp:∀ H:Hp,((∀ xs,H a ≠ some (.lst xs))/\TB K H)->SqL K H a (ns.map V.int)->sp [.ref a] H (fun v _=>v=.bl true) fun _ _ _=>False)
  (hCX:∀ H e s',CX [] H s₁ (fun _ _ _=>False) e s'->False) :
  codeAny (model P w) callerA (.call (.ref fa) ⟨[.ref a],[]⟩) (fun r s'=>r=.ok (.ret (.bool true))/\OldK s₁.heap s'.heap/\s'.os=s₁.os/\AllBare s'.gens) s₁:=by
 have rv:=b7a hi
 have lenV:=hi.length
 have Tn:∀ {q q':Addr × Addr × Str},q ∈ tl->q' ∈ tl->q.2.1=q'.2.1->q=q':=by
  clear hT hN htl
  induction tl with
  | nil=>intro q q' h;cases h
  | cons y r ih =>
   rw [List.pairwise_cons] at hU
   intro q q' h h' e
   rcases mem_cons.mp h with h1 | h1<;>rcases mem_cons.mp h' with h2 | h2
   ·rw [h1,h2]
   ·exact absurd (h1 ▸ e) (hU.1 _ h2)
   ·exact absurd (h2 ▸ e.symm) (hU.1 _ h1)
   ·exact ih hU.2 h1 h2 e
 obtain⟨Ht,hHt⟩:∃ Ht:Hp,Ht=fun b=>(tl.find? (fun p=>decide (p.2.1=b))).map fun p=>a7r p.2.2:=⟨_,rfl⟩
 have Ht1:∀ p ∈ tl,Ht p.2.1=some (a7r p.2.2):=fun p hp=>by
  rw [hHt]
  show(tl.find? _).map _=_
  cases e:tl.find? (fun q=>decide (q.2.1=p.2.1)) with
  | none=>rw [List.find?_eq_none] at e;exact absurd (decide_eq_true rfl) (e p hp)
  | some q =>
   have h1:=of_decide_eq_true (List.find?_some (p:=fun q:Addr × Addr × Str=>decide (q.2.1=p.2.1)) e)
   rw [Tn (List.mem_of_find?_eq_some e) hp h1];rfl
 have Ht2:∀ b u,Ht b=some u->∃ p ∈ tl,p.2.1=b/\u=a7r p.2.2:=fun b u e=>by
  rw [hHt] at e
  obtain⟨p,e1,e2⟩:=map_eq_some_iff.mp e
  exact⟨p,List.mem_of_find?_eq_some e1,of_decide_eq_true (List.find?_some (p:=fun q:Addr × Addr × Str=>decide (q.2.1=b)) e1),e2.symm⟩
 have aT:Ht a=none:=by
  cases q:Ht a with
  | none=>rfl
  | some u =>
   obtain⟨p,hp,e,_⟩:=Ht2 a u q
   have:=hT p hp
   rw [e,ha] at this
   cases this
 have core:∀ H:Hp,((∀ xs,H a ≠ some (.lst xs))/\TB K H)->SqL K H a (ns.map V.int)->HOk P w H s₁.heap->(∀ b u,H b=some u->(b=a/\∃ o xs,u=.frz o (.lst xs)) ∨ Ht b=some u)->(H a ≠ none->K.lookup a=none) ->
   codeAny (model P w) callerA (.call (.ref fa) ⟨[.ref a],[]⟩) (fun r s'=>r=.ok (.ret (.bool true))/\OldK s₁.heap s'.heap/\s'.os=s₁.os/\AllBare s'.gens) s₁:=by
  intro H hO hS hok hA hK
  have base_of:∀ {b:Addr} {o:Obj},s₁.heap.get? b=some o->H b=none->(hidT s₁.heap H).get? b=some o:=fun e n=>c9e e n
  have noC:∀ {b:Addr} {o:Obj},s₁.heap.get? b=some o->(o.cls ≠ .none)->(o.cls ≠ .type "list")->H b=none:=fun{b o} e c1 c2=>by
   cases q:H b with
   | none=>rfl
   | some u =>
    rcases hA b u q with⟨e',_⟩ | e'
    ·subst e'
     rw [ha] at e;cases e
     exact absurd rfl c2
    ·obtain⟨p,hp,e2,_⟩:=Ht2 b u e'
     have:=hT p hp
     rw [e2,e] at this
     cases this
     exact absurd rfl c1
  have noA:∀ {b:Addr} {o:Obj} {es:Array DictEntry} {ep:Nat},s₁.heap.get? b=some o->o.data=.dict es ep->H b=none:=fun{b o es ep} e d=>by
   cases q:H b with
   | none=>rfl
   | some u =>
    rcases hA b u q with⟨e',_⟩ | e'
    ·subst e'
     rw [ha] at e;cases e
     have d':Data.seq vs.toArray _=Data.dict es ep:=d
     cases d'
    ·obtain⟨p,hp,e2,_⟩:=Ht2 b u e'
     have:=hT p hp
     rw [e2,e] at this
     cases this
     cases d
  have nsK:∀ {b:Addr} {m:Str->Option Value},s₁.heap.Ns b m->(hidT s₁.heap H).Ns b m:=fun{b m} ⟨o,es,ep,e,d,r⟩=>⟨o,es,ep,base_of e (noA e d),d,r⟩
  have hKb:K.In (hidT s₁.heap H):=fun b o e=>base_of (KX b o e) (by
   cases q:H b with
   | none=>rfl
   | some u =>
    rcases hA b u q with⟨e',_⟩ | e'
    ·subst e'
     rw [hK (by rw [q];simp)] at e;cases e
    ·obtain⟨p,hp,e2,_⟩:=Ht2 b u e'
     have:=all_eq_true.mp hN p hp
     rw [e2,e] at this
     cases this)
  have hM:Mod K mg (hidT s₁.heap H):=⟨hKb,nsK hns,⟨mb,nsK hb,hbb⟩,let ⟨mc,h1,h2⟩:=hlim;⟨mc,nsK h1,h2⟩⟩
  have hB':BMain mg (hidT s₁.heap H):=by obtain⟨bm,ob,h1,h2,h3,h4,h5⟩:=hB;exact⟨bm,ob,h1,h2,base_of h3 (noC h3 (by rw [h4];exact fun z=>nomatch z) (by rw [h4];decide)),h4,h5⟩
  have e0:Env0 P w K mg (hidT s₁.heap H) callerA [] s₁ H:=⟨rfl,hM,fun b o e=>d3z e,Nat.le_of_eq (c6g _ _),trivial,fun b hb=>absurd (show b ∈ ([]:List Addr) from hb) (by simp),hok,.of_eq hg⟩
  refine codeAny_mono ((F _ hKb (nsK hns) hB').run callerA [] s₁ H ⟨[.ref a],[]⟩ [.ref a] [.ref a] _ _ hr e0 (hbind s₁ (.ref a)) (.cons rfl .nil) (hsp H hO hS)) fun r s' h=>?_
  cases r with
  | error e=>exact(hCX H e s' h).elim
  | ok fl =>
   cases fl with
   | next=>exact False.elim h
   | brk=>exact False.elim h
   | cont=>exact False.elim h
   | ret u =>
    obtain⟨v,H',os,bare,un,hok',r',q⟩:=h
    have q':v=.bl true:=q
    subst q'
    obtain rfl:u=Value.bool true:=r'
    refine⟨rfl,⟨fun b o e=>?_,fun b o e=>un.there b o e (by simp)⟩,os,bare⟩
    cases q:H b with
    | none=>exact .inl (un.keep b o e q (by intro z;exact absurd (show b ∈ ([]:List Addr) from z) (by simp)) (by simp))
    | some u =>
     rcases hA b u q with⟨_,ob,xs,rfl⟩ | e'
     ·have z2:=un.frzs b ob _ q
      obtain⟨e1,_⟩:=hok b _ q
      obtain⟨e2,_⟩:=hok' b _ z2
      have e1:s₁.heap.get? b=some ob:=e1
      rw [e] at e1;cases e1
      exact .inl e2
     ·obtain⟨p,hp,e2,rfl⟩:=Ht2 b u e'
      have z2:=un.frzs b _ _ q
      obtain⟨⟨qs,y1,_⟩,_⟩:=hok' b _ z2
      have e3:=hT p hp
      rw [e2,e] at e3
      cases e3
      obtain⟨od,cs,sl,k1,k2⟩:=c8k (show(p.1,p.2.1,p.2.2) ∈ a9w K by rw [htl];exact hp)
      exact .inr (.inl ⟨⟨p.1,_,cs,KX _ _ k1,rfl,rfl,by rw [← e2];exact k2⟩,rfl,#[],qs,rfl,by rw [y1];simp⟩)
 have tbO:∀ H:Hp,(∀ b u,Ht b=some u->H b=some u)->TB K H:=fun H h p hp=>by
  rw [htl] at hp
  exact h _ _ (Ht1 p hp)
 have tabok:∀ (H:Hp) b u,Ht b=some u->a1z P w H s₁.heap b u:=fun H b u e=>by
  obtain⟨p,hp,e2,rfl⟩:=Ht2 b u e
  have:=hT p hp
  rw [e2] at this
  exact⟨⟨#[],this,trivial,fun pos v hv=>by cases hv⟩,_,this⟩
 cases hk:K.lookup a with
 | some o =>
  have e:=KX a o hk
  rw [ha] at e
  cases e
  exact core Ht ⟨(fun xs=>by rw [aT];exact(fun z=>nomatch z)),tbO _ fun b u z=>z⟩ (.inr ⟨_,vs.toArray,_,hk,rfl,rfl,rfl,by rw [size_toArray,lenV];exact hl,by simpa using rv⟩) (fun b u z=>tabok _ b u z) (fun b u z=>.inr z) fun z=>absurd aT z
 | none =>
  refine core (fun b=>if b=a then some (.frz { cls:=.type "list",data:=.seq vs.toArray } (.lst (ns.map V.int))) else Ht b) ⟨fun xs z=>?_,tbO _ fun b u z=>?_⟩ (.inl (.inr ⟨{ cls:=.type "list",data:=.seq vs.toArray },if_pos rfl⟩)) (fun b u z=>?_) (fun b u z=>?_) fun _=>hk
  ·have z':=(if_pos rfl).symm.trans z
   cases z'
  ·by_cases hb:b=a
   ·rw [hb,aT] at z;cases z
   ·exact(if_neg hb).trans z
  ·by_cases hb:b=a
   ·have z':=(if_pos hb).symm.trans z
    cases z'
    subst hb
    exact⟨ha,by rw [length_map];exact hl,vs,_,rv,ha⟩
   ·exact tabok _ b u ((if_neg hb).symm.trans z)
  ·by_cases hb:b=a
   ·have z':=(if_pos hb).symm.trans z
    cases z'
    exact .inl ⟨hb,_,_,rfl⟩
   ·exact .inr ((if_neg hb).symm.trans z)
theorem d1s{l:PySem.W.OpenLaw}{n k:Nat}{q:Program}{loose:List Str}{XP:(Str->Option Value)->Heap->Prop}{YP:World->Heap->Prop}{d:DefRec}{K:Params->W.Frag}{CX:World->CXT}{sp:World->Sp}{x:Str}{tl:List (Addr × Addr × Str)}
  (hn:l.most=some n) (hn2:n <= sizeLine) (hdf:d.params.defaults=[]) (hr:Room k callerA)
  (hY:∀ (w:World) (h:Heap),YP w h->(K w.params).In h/\∀ p ∈ tl,h.get? p.2.1=some (PySem.W.tabObj #[]))
  (htl:∀ w:World,a9w (K w.params)=tl) (hU:tl.Pairwise fun p p'=>p.2.1 ≠ p'.2.1) (hN:∀ w:World,tl.all (fun p=>((K w.params).lookup p.2.1).isNone)=true)
  (F:∀ (w:World) (mg:Str->Option Value) (fa:Addr) (h:Heap),(K w.params).In h->h.Ns mainGlobals mg->mg d.name=some (.ref fa) ->
   ∃ fd:FuncData,(∀ (s:Shared) (u:Value),BindsTo s fd ⟨[u],[]⟩ [(x,u)]) /\
    ∀ base:Heap,(K w.params).In base->base.Ns mainGlobals mg->BMain mg base->FnOk l.prog w (K w.params) mg base (CX w) k fa fd [x] (sp w))
  (hsp:∀ (w:World) (H:Hp) (a:Addr) (ns:List Int),ns.length <= n->((∀ xs,H a ≠ some (.lst xs))/\TB (K w.params) H)->SqL (K w.params) H a (ns.map V.int)->sp w [.ref a] H (fun v _=>v=.bl true) fun _ _ _=>False)
  (hCX:∀ (w:World) (H:Hp) (s:Shared) (e:Value) (s':Shared),CX w [] H s (fun _ _ _=>False) e s'->False) :
  PySem.W.WalkO q loose XP YP l.row.toRowW d [] (fun f vs=>PySem.call f vs):=by
 refine Att.attach_call hn hdf fun w s₀ s₁ mg mb fa o pm cd doc a vs ns G Y ho hd hcd hmg hobj hints hlen hg=>?_
 obtain⟨KX,hT⟩:=hY w _ Y
 obtain⟨fd,hb,hF⟩:=F w mg fa _ KX G.T.g hmg
 obtain⟨bm,ob,b1,b2,b3,b4,b5,b6⟩:=G.T.bmain
 exact c8l KX G.T.g G.T.b G.T.builtins G.T.nolimit hg ⟨bm,ob,b1,b2,b3,b4,b5,b6⟩ hobj hints (Nat.le_trans hlen hn2) hr (htl w) hT hU (hN w) hF hb (fun H hO hS=>hsp w H a ns hlen hO hS) fun H e s'=>hCX w H s₁ e s'
end L2
end
section
namespace L2
open PySem PySem.Spec PyProof.Rows
def Cov(l:List Env)(H:Hp)(h0 B h:Heap):Prop:=∀ b o,h.get? b=some o->(H b ≠ none ∨ ∃ o',h0.get? b=some o')->b ∉ frs l->B.get? b=some o
section
variable{X:Cx}{pins:List (Addr × Obj)}{σ:St}{H H':Hp}{s s':Shared}{h1 B:Heap}
end
end L2
end
section
namespace L2
open PySem PySem.Spec PyProof.Rows
section
variable{X:Cx}{x:Str}{C:Addr}{E:XK}{np cpos pos:Pos}
end
section
variable{P:Program}{w:World}{K:W.Frag}{mg:Str->Option Value}{base:Heap}
end
end L2
end
section
namespace L2
open PySem PySem.Spec PyProof.Rows
section
variable{X:Cx}{pins:List (Addr × Obj)}{σ:St}{H H':Hp}{s s':Shared}{h1 B:Heap}
end
section
variable{X:Cx}{k:Nat}{f:Addr}{fd:FuncData}{ps:List Str}{sp:Sp}{E:XK}{x:Str}{p pos:Pos}{e:Expr}{es:List Expr}{t:TA}
end
section
variable{X:Cx}{e:Expr}{te:XK->TE}{wx n:Str}{Wk:Addr}{bw:List Value}{j:Nat}{b₀:Stmt}{suite:List Stmt}{th:TS}{p2 np hp tp:Pos}
end
end L2
end
section
namespace L2
open PySem PySem.Spec
noncomputable def Tame{α:Type}:Sem α->Prop
 | .pure _ | .raise _ | .unsupported _ | .finish _ | .yield .. | .fork .. | .await .. | .register .. => True
 | .call .. | .resume .. => False
 | .rule _ k | .at _ k | .point _ k=>Tame (k ())
 | .load _ _ k=>∀ o,Tame (k o)
 | .update _ _ f k=>(∀ o,(f o).dict=o.dict)/\Tame (k ())
 | .alloc _ k=>∀ a,Tame (k a)
 | .loadIfAlive _ k=>∀ o,Tame (k o)
 | .fresh k=>∀ t,Tame (k t)
 | .ask k=>∀ x,Tame (k x)
 | .choose _ _ k=>∀ x,Tame (k x)
 | .os _ _ k=>∀ x,Tame (k x)
 | .handled _ k=>∀ x,Tame (k x)
 | .newGen _ k=>∀ x,Tame (k x)
 | .genState _ k=>∀ x,Tame (k x)
 | .stack k=>∀ x,Tame (k x)
 | .thread k=>∀ x,Tame (k x)
def DK(h h':Heap):Prop:=h.objs.size <= h'.objs.size/\∀ a o',h'.get? a=some o'->(∃ o,h.get? a=some o/\o'.dict=o.dict) ∨ h.objs.size <= a
end L2
end
section
namespace L2
open PySem PySem.Spec PyProof.Rows
def nsq(d:Addr)(fs:List (Str × V))(h:Heap):Prop:=∃ mA,h.Ns1 d mA/\∀ f,RelO (fs.lookup f) (mA f)
noncomputable def drop(H:Hp)(a:Addr):Hp:=fun b=>if b=a then none else H b
noncomputable def CX2(P:Program)(w:World):CXT:=fun outer H s E e s'=>∃ (a C:Addr) (t:Value) (B:Heap) (H':Hp) (oe:Obj),e=.ref a/\s'.os=s.os/\AllBare s'.gens/\Un (frs outer) [] H H' s.heap s'.heap/\HOk P w H' s'.heap/\H' a=none /\
 Heap.FlyingW B outer a (.ref C) t s'.heap/\Cov outer H' s.heap B s'.heap/\s'.heap.get? a=some oe/\E (.ref C) oe.dict H'
section
variable{X:Cx}{pins:List (Addr × Obj)}{σ:St}{H H':Hp}{s s':Shared}{h1 B:Heap}
end
end L2
end
section
namespace L2
open PySem PySem.Spec PySem.Calls PyProof.Rows PySem.W
section
variable{prog:Program}{w:World}{A:Around}{E:Value->Shared->Prop}{K:Frag}{h:Heap}{g:Array GenState}{d:Drawn}{t:Nat}{os:OsState}{C f:Addr}{rest:List Value}{Q:Value->Shared->Prop}
end
end L2
end
section
namespace L2
open PySem PySem.Spec PySem.Calls PyProof.Rows PySem.W PySem.Builtin PySem.Builtin.ObjectAttr PySem.Builtin.Getset_descriptor
section
variable{prog:Program}{w:World}{A:Around}{E:Value->Shared->Prop}{K:Frag}{a C:Addr}{s:Shared}
end
end L2
end
section
namespace L2
open PySem PySem.Spec PySem.Calls PyProof.Rows PySem.W PySem.Builtin PySem.Builtin.ObjectAttr
section
variable{prog:Program}{w:World}{A:Around}{E:Value->Shared->Prop}{K:Frag}{s:Shared}{x C:Addr}{ox:Obj}{od:Option Obj}{name:Str}{v:Value}
end
section
variable{X:Cx}{pins:List (Addr × Obj)}{σ:St}{H:Hp}{s:Shared}{a C t d:Addr}{f:Str}{y:V}{u:Value}{A:Around}{E:Value->Shared->Prop}{fs:List (Str × V)}
end
end L2
end
section
namespace L2
open PySem PySem.Spec PyProof.Rows
section
variable{X:Cx}{o value:Expr}{f:Str}{pos pos':Pos}{ta tv:TE}
end
section
variable{X:Cx}{k:Nat}{x:Str}{C f:Addr}{fd:FuncData}{ps:List Str}{sp:Sp}{E:XK}{np cpos pos:Pos}{e:Expr}{es:List Expr}{t:TA}
end
end L2
end
section
namespace L2
open PySem PySem.Spec PyProof.Rows
section
variable{X:Cx}{pins:List (Addr × Obj)}{σ:St}{H H':Hp}{s s':Shared}{h1 B:Heap}
end
section
variable{X:Cx}{x:Str}{C:Addr}{E:XK}{np cpos pos:Pos}
end
section
variable{P:Program}{w:World}{K:W.Frag}{mg:Str->Option Value}{base:Heap}
end
section
variable{X:Cx}{k:Nat}{f:Addr}{fd:FuncData}{ps:List Str}{sp:Sp}{E:XK}{x:Str}{p pos:Pos}{e:Expr}{es:List Expr}{t:TA}
end
section
variable{X:Cx}{e:Expr}{te:XK->TE}{wx n:Str}{Wk:Addr}{bw:List Value}{j:Nat}{b₀:Stmt}{suite:List Stmt}{th:TS}{p2 np hp tp:Pos}
end
end L2
end
section
namespace L2
open PySem PySem.Spec PyProof.Rows
section
variable{P:Program}{w:World}{K:W.Frag}{mg:Str->Option Value}{base:Heap}
theorem b6c{x qual:Str}{st:Stmt}{f c T:Addr}{fd:FuncData}(F:Fun K x qual st f fd)(hL:LAMS.any (· == qual)=true)(hc:fd.code=.ref c)(hC:PySem.W.codeHdIn K c T=true):(c,T,qual ++ ".<locals>.<lambda>") ∈ a9w K:=by
 obtain⟨oc,od,kV,doc,pm,an,cdv,ct,osl,rfl,lk,hcd⟩:=F.ex
 refine mem_filterMap.mpr ⟨_,PySem.W.mem_of_lookupK lk,?_⟩
 obtain rfl:cdv=.ref c:=hc
 unfold lamOf
 show(if LAMS.any (· == qual)=true then _ else _)=_
 rw [if_pos hL]
 unfold PySem.W.codeHdIn at hC
 split at hC
 ·rename_i vs hk
  simp only [and_eq_true] at hC
  obtain⟨⟨⟨⟨⟨e1,_⟩,_⟩,_⟩,_⟩,_⟩:=hC
  split at e1
  ·rename_i P' h11
   obtain rfl:P'=T:=beq_iff_eq.mp e1
   dsimp only
   rw [hk]
   simp only [h11]
  ·cases e1
 ·cases hC
end
end L2
end
section
namespace L2
open PySem PySem.Spec PyProof.Rows
noncomputable def hid(H:Hp)(cs:List Addr):Hp:=fun a=>if a ∈ cs then none else H a
noncomputable def a6d(h:Heap)(H:Hp)(cs:List Addr):Hp:=fun a=>if a ∈ cs then(h.get? a).map fun o=>.frz o (.own a) else H a
noncomputable def b0r(H1 H':Hp)(cs:List Addr):Hp:=fun a=>if a ∈ cs then H1 a else H' a
def a4c(H:Hp)(cs:List Addr):Prop:=∀ c ∈ cs,∃ o u,H c=some (.frz o (.own c))/\o.data=.cell u
section
variable{H H1 H2 H':Hp}{h h':Heap}{cs fs:List Addr}{a b:Addr}{o:Obj}
theorem a9z(m:a ∈ cs):hid H cs a=none:=if_pos m
theorem a1r(m:a ∉ cs):hid H cs a=H a:=if_neg m
theorem a8z(m:a ∈ cs)(e:h.get? a=some o):a6d h H cs a=some (.frz o (.own a)):=by unfold a6d;rw [if_pos m,e];rfl
theorem a4r(m:a ∉ cs):a6d h H cs a=H a:=if_neg m
theorem a6r(m:a ∈ cs):b0r H1 H' cs a=H1 a:=if_pos m
theorem a4s(m:a ∉ cs):b0r H1 H' cs a=H' a:=if_neg m
theorem a4c.out(hc:a4c H cs){u:HO}(e:H b=some u)(n:∀ ob v,u=.frz ob (.own b)->ob.data ≠ .cell v):b ∉ cs:=fun m=>by
 obtain⟨o,v,e1,d⟩:=hc b m
 rw [e1] at e
 exact n _ _ (Option.some.inj e).symm d
theorem d1t(s:Same H1 H2):Same (hid H1 cs) (hid H2 cs):=fun b o e=>by
 by_cases m:b ∈ cs
 ·rw [a9z m] at e;cases e
 ·rw [a1r m] at e ⊢;exact s _ _ e
theorem c0d(s:Same H1 H2)(n:∀ c ∈ cs,H1 c=none):Same H1 (hid H2 cs):=fun b o e=>by
 rw [a1r fun m=>by rw [n b m] at e;cases e];exact s _ _ e
theorem c4z(s:Same (hid H1 cs) H2):Same H1 (b0r H1 H2 cs):=fun b o e=>by
 by_cases m:b ∈ cs
 ·rw [a6r m];exact e
 ·rw [a4s m];exact s b o (by rw [a1r m];exact e)
end
section
variable{P:Program}{w:World}{H H1 H2 H':Hp}{h h':Heap}{cs fs:List Addr}{a b:Addr}{o:Obj}
theorem d7n{a:Addr}{o:HO}(hc:a4c H cs)(x:a1z P w H h a o):a1z P w (hid H cs) h a o:=by
 induction o with
 | dT kvs =>
  obtain⟨z,y,xs,r,ob,es,ep,e,c⟩:=x
  exact⟨z,y,xs,Paired.mapP r fun p q z=>⟨z.1,by rw [a1r (hc.out z.2.1 fun _ _ n=>by cases n)];exact z.2.1,z.2.2⟩,ob,es,ep,e,c⟩
 | ins C dx fs =>
  obtain⟨d,r⟩:=x
  exact⟨by rw [a1r (hc.out d fun _ _ n=>by cases n)];exact d,r⟩
 | frz ob u ih =>
  obtain⟨e,q⟩:=x
  refine⟨?_,ih q⟩
  cases u with
  | tbl ps =>
   obtain⟨qs,e1,e2,e3⟩:=e
   exact⟨qs,e1,e2,fun pos v hv=>by
    obtain⟨c,oc,vs,q,t,t',h1,h2,h3,h4,h5⟩:=e3 pos v hv
    exact⟨c,oc,vs,q,t,t',h1,h2,by rw [a1r (hc.out h3 fun _ _ n=>by injection n with n1 _;rw [← n1,h4];intro z;cases z)];exact h3,h4,h5⟩⟩
  | _=>exact e
 | _=>exact x
theorem b6d(x:HOk P w H h)(hc:a4c H cs):HOk P w (hid H cs) h:=fun a o e=>by
 by_cases m:a ∈ cs
 ·rw [a9z m] at e;cases e
 ·rw [a1r m] at e;exact d7n hc (x a o e)
def a7c(h:Heap)(H:Hp)(cs:List Addr):Prop:=∀ c ∈ cs,H c=none/\∃ o u,h.get? c=some o/\o.data=.cell u
theorem a7c.out(l:a7c h H cs){u:HO}(e:H b=some u):b ∉ cs:=fun m=>by rw [(l b m).1] at e;cases e
theorem a7c.same(l:a7c h H cs):Same H (a6d h H cs):=fun b o e=>by rw [a4r (l.out e)];exact e
theorem a7c.cells(l:a7c h H cs):a4c (a6d h H cs) cs:=fun c m=>let ⟨_,o,u,e,d⟩:=l c m;⟨o,u,a8z m e,d⟩
theorem c8m(x:HOk P w H h)(l:a7c h H cs):HOk P w (a6d h H cs) h:=fun a o e=>by
 by_cases m:a ∈ cs
 ·obtain⟨_,ob,u,e1,d⟩:=l a m
  rw [a8z m e1] at e
  cases e
  exact⟨e1,_,e1⟩
 ·rw [a4r m] at e
  exact(x a o e).stay (fun _ _ _ q=>q) (fun b q=>l.same _ _ q) (fun b xs q=>l.same _ _ q) fun b ob u q=>l.same _ _ q
theorem c2x(l:a7c h H cs)(nf:∀ c ∈ cs,c ∉ fs)(u:Un fs [] (a6d h H cs) H' h h')(x:HOk P w H' h'):Un fs [] H (hid H' cs) h h' where
 keep b o e n f ex:=by
  by_cases m:b ∈ cs
  ·exact(x b _ (u.frzs _ _ _ (a8z m e))).1
  ·exact u.keep b o e (by rw [a4r m];exact n) f ex
 slot b o e n f ex:=u.slot b o e (by rw [a4r fun m=>nf b m f];exact n) f ex
 free b o e n ex:=by
  by_cases m:b ∈ cs
  ·exact a9z m
  ·rw [a1r m];exact u.free b o e (by rw [a4r m];exact n) ex
 there b o e ex:=u.there b o e ex
 tups b xs e:=by rw [a1r (l.out e)];exact u.tups _ _ (l.same _ _ e)
 frzs b o v e:=by rw [a1r (l.out e)];exact u.frzs _ _ _ (l.same _ _ e)
 tbls b ps e:=by rw [a1r (l.out e)];exact u.tbls _ _ (l.same _ _ e)
theorem c0e(l:a7c h H cs)(u:Un fs [] (a6d h H cs) H' h h'):a4c H' cs:=fun c m=>let ⟨_,o,v,e,d⟩:=l c m;⟨o,v,u.frzs _ _ _ (a8z m e),d⟩
theorem d1u(hc:a4c H1 cs)(u:Un fs [] (hid H1 cs) H' h h'):Un fs [] H1 (b0r H1 H' cs) h h' where
 keep b o e n f ex:=u.keep b o e (by unfold hid;split<;>first | rfl | exact n) f ex
 slot b o e n f ex:=u.slot b o e (by unfold hid;split<;>first | rfl | exact n) f ex
 free b o e n ex:=by
  by_cases m:b ∈ cs
  ·rw [a6r m];exact n
  ·rw [a4s m];exact u.free b o e (by rw [a1r m];exact n) ex
 there b o e ex:=u.there b o e ex
 tups b xs e:=by
  by_cases m:b ∈ cs
  ·rw [a6r m];exact e
  ·rw [a4s m];exact u.tups _ _ (by rw [a1r m];exact e)
 frzs b o v e:=by
  by_cases m:b ∈ cs
  ·rw [a6r m];exact e
  ·rw [a4s m];exact u.frzs _ _ _ (by rw [a1r m];exact e)
 tbls b ps e:=by
  by_cases m:b ∈ cs
  ·exact⟨#[],by rw [a6r m,e];simp⟩
  ·rw [a4s m];exact u.tbls _ _ (by rw [a1r m];exact e)
theorem c8n(hc:a4c H1 cs)(x1:HOk P w H1 h)(nf:∀ c ∈ cs,c ∉ fs)(u:Un fs [] (hid H1 cs) H' h h')(x:HOk P w H' h'):HOk P w (b0r H1 H' cs) h':=by
 have no:∀ c ∈ cs,H' c=none:=fun c m=>by
  obtain⟨o,v,e,d⟩:=hc c m
  exact u.free c o (x1 c _ e).1 (a9z m) (by simp)
 have sm:Same H' (b0r H1 H' cs):=fun b o e=>by rw [a4s fun m=>by rw [no b m] at e;cases e];exact e
 intro a o e
 by_cases m:a ∈ cs
 ·rw [a6r m] at e
  obtain⟨ob,v,e1,d⟩:=hc a m
  rw [e1] at e
  cases e
  have q:=u.keep a ob (x1 a _ e1).1 (a9z m) (nf a m) (by simp)
  exact⟨q,_,q⟩
 ·rw [a4s m] at e
  exact(x a o e).stay (fun _ _ _ q=>q) (fun b q=>sm _ _ q) (fun b xs q=>sm _ _ q) fun b ob u q=>sm _ _ q
end
section
variable{X:Cx}{k:Nat}{f:Addr}{fd:FuncData}{ps:List Str}{sp:Sp}{ds:List Value}{dvs:List V}{E:XK}
theorem Inv.lent{pins:List (Addr × Obj)}{σ:St}{H:Hp}{s:Shared}{cs:List Addr}(I:Inv X pins σ H s)(hcs:∀ c ∈ cs,∃ x,X.fn x=true/\X.env.cells.lookup x=some c) :
  a7c s.heap H cs/\(∀ c ∈ cs,c ∉ frs X.stack)/\∀ c ∈ cs,X.base.get? c=none:=by
 refine⟨fun c m=>?_,fun c m z=>?_,fun c m=>?_⟩
 ·obtain⟨x,hf,e⟩:=hcs c m
  obtain⟨v,o,ho,hd⟩:=I.cell x c e
  exact⟨I.freeC x c e,o,v,ho,hd⟩
 ·obtain⟨x,hf,e⟩:=hcs c m
  rcases mem_cons.mp (I.stkSub c z) with q | q
  ·exact I.cne x c e q
  ·obtain⟨_,o,ho,_⟩:=I.ok.funs.mem q
   exact absurd (lt_size ho) (Nat.not_lt.mpr (I.ok.cab x c hf e))
 ·obtain⟨x,hf,e⟩:=hcs c m
  exact Heap.get?_none_of_le (Nat.le_trans I.ok.bsz (I.ok.cab x c hf e))
theorem d7o{pins:List (Addr × Obj)}{σ:St}{H:Hp}{s:Shared}{Q:VK}{us:List Value}{vs:List V}{cs:List Addr}(F:FnOk X.prog X.w X.K X.mg X.base (CX2 X.prog X.w) k f fd ps sp)(hr:Room k X.A)(hb:Binds X.K fd ps [])(hx:a4l (CX2 X.prog X.w) X E)
  (I:Inv X pins σ H s) (hcs:∀ c ∈ cs,∃ x,X.fn x=true/\X.env.cells.lookup x=some c) (r:Vals vs us) (h:sp vs (a6d s.heap H cs) (fun v H3=>Q v (hid H3 cs)) (fun C d H3=>E C d (hid H3 cs))) :
  wpAny (model X.prog X.w) X.A (call (.ref f) us) (EP X pins σ Q) X.xe s:=by
 obtain⟨l,nf,nb⟩:=I.lent hcs
 have hl:us.length=ps.length:=by rw [← r.length];exact F.len _ _ _ _ h
 have e0:=I.env0
 have e1:Env0 X.prog X.w X.K X.mg X.base X.A X.stack s (a6d s.heap H cs):=⟨e0.frames,e0.mod,fun b o e=>⟨(e0.bs b o e).1,by rw [a4r fun m=>by rw [nb b m] at e;cases e];exact(e0.bs b o e).2⟩,e0.bsz,e0.funs,fun b m=>by rw [a4r fun z=>nf b z m];exact e0.frf b m,c8m e0.hok l,e0.bare⟩
 refine wpAny_call (codeAny_mono (F.run X.A X.stack s (a6d s.heap H cs) ⟨us,[]⟩ us vs _ _ hr e1 (by have:=hb s us I.kIn (by rw [append_nil];exact hl);rwa [append_nil] at this) r h) fun r s' hq=>?_)
 cases r with
 | error e =>
  obtain⟨a,C,t,B,H',oe,ee,os,bare,un,hok,ha,fl,cov,ho,hE⟩:=hq
  refine hx pins σ H s e s' I ⟨a,C,t,B,hid H' cs,oe,ee,os,bare,c2x l nf un hok,b6d hok (c0e l un),?_,fl,fun b o e1 e2 e3=>cov b o e1 ?_ e3,ho,hE⟩
  ·unfold hid;split
   ·rfl
   ·exact ha
  ·rcases e2 with z | z
   ·exact .inl fun y=>z (by unfold hid;split;rfl;exact y)
   ·exact .inr z
 | ok fl =>
  cases fl with
  | ret u =>
   obtain⟨v,H',os,bare,un,hok,rv,q⟩:=hq
   exact I.after ⟨v,hid H' cs,os,bare,c2x l nf un hok,b6d hok (c0e l un),rv,q⟩
  | next=>exact False.elim hq
  | brk=>exact False.elim hq
  | cont=>exact False.elim hq
end
end L2
end
section
namespace L2
open PySem PySem.Spec PyProof.Rows
noncomputable def envL(q:Str)(scope:Scope)(L f:Addr)(cd:Value)(cl:List (Str × Addr)):Env:=
 { scope:=scope,locals:=L,globals:=mainGlobals,cells:=cl,qual:=q ++ ".<locals>.",func:=some f,code:=cd,frame:=some L,builtins:=builtinsNs }
noncomputable def cxL(P:Program)(w:World)(K:W.Frag)(mg:Str->Option Value)(base:Heap)(N:List Str)(q:Str)(scope:Scope)(f:Addr)(cd:Value)(cl:List (Str × Addr))(A:Around)(outer:List Env)(s:Shared)(H:Hp):Cx where
 prog:=P
 w:=w
 K:=K
 mg:=mg
 base:=base
 A:=A.deeper (envL q scope s.heap.objs.size f cd cl)
 N:=N
 s₀:=s
 H₀:=H
 env:=envL q scope s.heap.objs.size f cd cl
 outer:=outer
 stack:=envL q scope s.heap.objs.size f cd cl :: outer
 ex:=[]
 calm:=true
 fn:=fun _=>false
 pn:=[]
 xe:=fun e s'=>wpAny (model P w) (A.deeper (envL q scope s.heap.objs.size f cd cl)) (leaving (envL q scope s.heap.objs.size f cd cl) e) (fun _ _=>False) (fun _ _=>False) s'
structure LScope(pn:Str)(cn:List Str)(sc:Scope):Prop where
 kind:sc.kind=.function
 co:sc.isCoroutine=false
 gen:sc.isGenerator=false
 noc:∀ y ∈ sc.names,y.2 ≠ .cell
 par:sc.names.lookup pn=some .local
 fr:∀ n ∈ cn,sc.names.lookup n=some .free
structure ClOk(H:Hp)(scope:Scope)(cl:List (Str × Addr)):Prop where
 cell:a4c H (cl.map (·.2))
 inj:∀ x y c,cl.lookup x=some c->cl.lookup y=some c->x=y
 has:∀ x,scope.names.lookup x=some .free->∃ c,cl.lookup x=some c
def CapH(H:Hp)(cl:List (Str × Addr))(n:Str)(v:V):Prop:=∃ c o u,cl.lookup n=some c/\H c=some (.frz o (.own c))/\o.data=.cell (some u)/\RelV v u
theorem b4v{cl:List (Str × Addr)}{x:Str}{c:Addr}(e:cl.lookup x=some c):c ∈ cl.map (·.2):=mem_map.mpr ⟨_,mem_of_lookup e,rfl⟩
section
variable{P:Program}{w:World}{K:W.Frag}{mg:Str->Option Value}{base:Heap}
theorem c5a{pn q:Str}{cn:List Str}{cv:List V}{scope:Scope}{f:Addr}{cd:Value}{cl:List (Str × Addr)}{A:Around}{outer:List Env}{s:Shared}{H:Hp}{v0:V}{u0:Value}{h':Heap}{tk:Nat}{Hc:Hp}
  (S:LScope pn cn scope) (hd:A.handled=none) (e0:Env0 P w K mg base A outer s H) (co:ClOk Hc scope cl) (hc:∀ c ∈ cl.map (·.2),∃ o u,Hc c=some (.frz o (.own c))/\o.data=.cell u/\s.heap.get? c=some o) (hn:∀ c ∈ cl.map (·.2),H c=none)
  (hl:cn.length=cv.length) (hcap:∀ (j:Nat) n v,cn[j]? = some n->cv[j]? = some v->CapH Hc cl n v) (rv:RelV v0 u0) (ns:h'.Ns s.heap.objs.size fun x=>[(pn,u0)].reverse.lookup x)
  (kp:∀ b o,s.heap.get? b=some o->h'.get? b=some o) :
  Inv (cxL P w K mg base (pn :: cn) q scope f cd cl A outer s H) [] (some v0 :: cv.map some) H { s with heap:=h',toks:=tk }:=by
 have noA:∀ b:Addr,b ∉ (cxL P w K mg base (pn :: cn) q scope f cd cl A outer s H).ex:=fun b z=>absurd (show b ∈ ([]:List Addr) from z) (by simp)
 refine⟨⟨e0.mod,S.kind,rfl,rfl,Nat.le_refl _,fun y z c h1 h2=>co.inj y z c h1 h2,fun y hy=>?_,fun y c z h=>absurd z (by simp [cxL]),fun _=>hd,Around.frames_deeper e0.frames,.inr ⟨rfl,rfl⟩,fun b z=>absurd z (noA b),e0.bs,e0.bsz,fun b _ _=>noA b,fun b z=>absurd z (noA b),e0.funs,e0.frf⟩,
  rfl,e0.bare,Un.kept kp,⟨_,ns,fun i y v h1 h2 h3=>?_⟩,fun y c h=>?_,e0.hok.fresh (Nat.le_refl _),fun y c h=>hn c (b4v h),fun p hp=>absurd (show p ∈ ([]:List (Addr × Obj)) from hp) (by simp),e0.hok.kept kp,?_⟩
 ·have hy:scope.names.lookup y=some .cell ∨ scope.names.lookup y=some .free:=hy
  rcases hy with hy | hy
  ·exact absurd rfl (S.noc _ (PySem.mem_of_lookup hy))
  ·exact co.has y hy
 ·have h1:(pn :: cn)[i]? = some y:=h1
  cases i with
  | zero =>
   cases h1
   cases h2
   exact⟨u0,rv,.inl ⟨S.par,by show List.lookup pn [(pn,u0)]=_;simp⟩⟩
  | succ j =>
   have h1:cn[j]? = some y:=h1
   have h2:(cv.map some)[j]? = some (some v):=h2
   have h2:cv[j]? = some v:=by
    rw [getElem?_map] at h2
    cases e:cv[j]? with
    | none=>rw [e] at h2;cases h2
    | some a=>rw [e] at h2;cases h2;rfl
   obtain⟨c,o,u,e1,e2,e3,e4⟩:=hcap j y v h1 h2
   obtain⟨o',u',z1,z2,z3⟩:=hc c (b4v e1)
   rw [z1] at e2
   cases e2
   exact⟨u,e4,.inr ⟨.inr (S.fr y (mem_of_getElem? h1)),c,e1,_,kp _ _ z3,e3⟩⟩
 ·obtain⟨o',u',z1,z2,z3⟩:=hc c (b4v h)
  exact⟨u',_,kp _ _ z3,z2⟩
 ·show(some v0 :: cv.map some).length=(pn :: cn).length
  simp [hl]
def c5b(P:Program)(w:World)(K:W.Frag)(mg:Str->Option Value)(base:Heap)(n:Nat)(H:Hp)(f:Addr)(p:Str->Prop)(g:Str->Bool):Prop:=∃ (o:Obj) (fd:FuncData) (pn:Str) (sp:Sp),(∃ gd,o.data=.func gd)/\H f=some (.frz o (.own f))/\FnOk P w K mg base CX0 n f fd [pn] sp/\Binds K fd [pn] [] /\
 ∀ (x:Str) (H1:Hp) (Q:VK),p x->Same H H1->(∀ H2,Same H1 H2->Q (.bl (g x)) H2)->sp [.str x] H1 Q E0
theorem c2y{p:Str->Prop}{g:Str->Bool}{pn q:Str}{cn:List Str}{cv:List V}{H:Hp}{f c:Addr}{params:Arguments}{body:Expr}{scope:Scope}{cl:List (Str × Addr)}{pm ct:Value}{k:Nat}(L:Lam H f q params body scope cl pm c ct)(co:ClOk H scope cl)(hl:cn.length=cv.length)
  (hcap:∀ (j:Nat) n v,cn[j]? = some n->cv[j]? = some v->CapH H cl n v) (S:LScope pn cn scope) (hbind:∀ u:Value,bindArgs (b8d q params body scope cl pm c ct) ⟨[u],[]⟩=pure [(pn,u)])
  (hb:∀ (A:Around) (outer:List Env) (s:Shared) (H1:Hp) (x:Str),Room k (A.deeper (envL q scope s.heap.objs.size f (.ref c) cl))->p x->Same (hid H (cl.map (·.2))) H1 ->
   ∃ t,PE (cxL P w K mg base (pn :: cn) q scope f (.ref c) cl A outer s H1) body t/\∀ Q:VK,(∀ H2,Same H1 H2->Q (.bl (g x)) H2)->t (some (.str x) :: cv.map some) H1 Q):c5b P w K mg base (k + 1) H f p g:=by
 refine⟨_,b8d q params body scope cl pm c ct,pn,fun vs H1 Q E=>∃ x:Str,vs=[.str x]/\p x/\Same H H1/\∀ H2,Same H1 H2->Q (.bl (g x)) H2,⟨_,rfl⟩,L.1,⟨fun vs H Q E hq8=>by obtain⟨x,e,_⟩:=hq8;rw [e];rfl,fun A outer s H1 args us vs Q E hr e0 hb' r hsp=>?_⟩,Binds.all fun us hl=>?_,fun x H1 Q hx s1 hq=>⟨x,rfl,hx,s1,hq⟩⟩
 ·obtain⟨x,rfl,hx,s1,hq⟩:=hsp
  obtain⟨hf,oc,vc,tc,hc,hd,hv⟩:=L
  have cells:a4c H1 (cl.map (·.2)):=fun c m=>let ⟨o,u,e,d⟩:=co.cell c m;⟨o,u,s1 _ _ e,d⟩
  have lim:s.heap.NoLimit:=e0.mod.nolimit.keeps fun b o e=>(e0.bs b o e).1
  have ef:s.heap.get? f=some (a8y q params body scope cl pm c ct):=(e0.hok f _ (s1 _ _ hf)).1
  have ec:s.heap.get? c=some oc:=(e0.hok c _ (s1 _ _ hc)).1
  obtain⟨u0,rfl,rv⟩:∃ u0,us=[u0]/\RelV (.str x) u0:=by
   cases r with
   | cons a b=>cases b;exact⟨_,rfl,a⟩
  refine PySem.W.kla_callFunE hr.depth ef rfl S.co S.gen rfl ⟨c,oc,vc,tc,rfl,ec,hd,hv⟩ (hb' _ _ _ _ ?_)
  refine wpAny_newFunctionEnv S.noc (fun y hy=>by
   obtain rfl:y=(pn,u0):=by simpa using hy
   exact S.par) (fun h' ns sb=>?_) S.kind
  have kp:∀ b o,s.heap.get? b=some o->h'.get? b=some o:=fun b o e=>by
   rw [sb.2 b (ne_of_lt (lt_size e))];exact get?_push_of_some _ e
  refine⟨lim.keeps kp,PySem.W.kla_codeExpr ?_⟩
  have nf:∀ c ∈ cl.map (·.2),c ∉ frs outer:=fun c m z=>by
   obtain⟨o,u,e,d⟩:=cells c m
   rw [e0.frf c z] at e;cases e
  have e1:Env0 P w K mg base A outer s (hid H1 (cl.map (·.2))):=⟨e0.frames,e0.mod,fun b o e=>⟨(e0.bs b o e).1,by unfold hid;split;rfl;exact(e0.bs b o e).2⟩,e0.bsz,e0.funs,fun b m=>by unfold hid;split;rfl;exact e0.frf b m,b6d e0.hok cells,e0.bare⟩
  obtain⟨t,ht,hq2⟩:=hb A outer s (hid H1 (cl.map (·.2))) x (hr.deeper _) hx (d1t s1)
  have I:=c5a (q:=q) (f:=f) (cd:=.ref c) (tk:=s.toks + ([pn].zip [u0]).length) S hr.hd e1 co (fun c m=>by
   obtain⟨o,u,e,d⟩:=co.cell c m
   exact⟨o,u,e,d,(e0.hok c _ (s1 _ _ e)).1⟩) (fun c m=>a9z m) hl hcap rv ns kp
  refine wpAny_mono (ht [] _ _ _ (fun v H'=>Q v (b0r H1 H' (cl.map (·.2)))) I (hq2 _ fun H2 s2=>hq _ (c4z s2))) (fun u s' hs=>?_) fun e s' hs=>hs
  obtain⟨v,H',J,rv,q⟩:=hs
  exact⟨v,_,J.os,J.bare,d1u cells J.base,c8n cells e0.hok nf J.base J.hok,rv,q⟩
 ·obtain⟨u,rfl⟩:∃ u,us=[u]:=by
   rcases us with _ | ⟨u,_ | ⟨_,_⟩⟩
   ·cases hl
   ·exact⟨u,rfl⟩
   ·cases hl
  exact hbind u
end
section
variable{P:Program}{w:World}{K:W.Frag}{mg:Str->Option Value}{base:Heap}
theorem c8o{p:Str->Prop}{g:Str->Bool}{pn q:Str}{H:Hp}{f c:Addr}{params:Arguments}{body:Expr}{scope:Scope}{pm ct:Value}{k:Nat}(L:Lam H f q params body scope [] pm c ct)(S:FnScope [pn] [pn] scope)
  (hbind:∀ u:Value,bindArgs (b8d q params body scope [] pm c ct) ⟨[u],[]⟩=pure [(pn,u)])
  (hb:∀ (A:Around) (outer:List Env) (s:Shared) (H1:Hp) (E:XK) (x:Str),Room k (A.deeper (envOfC q scope s.heap.objs.size f (.ref c)))->p x->Same H H1 ->
   ∃ t,PE (cxOf CX0 P w K mg base [pn] q scope f (.ref c) A outer s H1 E) body t/\∀ Q:VK,(∀ H2,Same H1 H2->Q (.bl (g x)) H2)->t [some (.str x)] H1 Q):c5b P w K mg base (k + 1) H f p g:=by
 refine⟨_,_,pn,_,⟨_,rfl⟩,L.1,e3n (f:=f) (c:=c) (q:=q) (params:=params) (body:=body) (scope:=scope) (pm:=pm) (ct:=ct) (sp:=fun vs H1 Q E=>∃ x:Str,vs=[.str x]/\p x/\Same H H1/\∀ H2,Same H1 H2->Q (.bl (g x)) H2) S (fun vs H Q E hq8=>by obtain⟨x,e,_⟩:=hq8;rw [e];rfl) (fun A outer s H1 vs Q E hr h=>?_),Binds.all fun us hl=>?_,fun x H1 Q hx s1 hq=>⟨L.keep (S:=Any) s1.keep,x,rfl,hx,s1,hq⟩⟩
 ·obtain⟨x,rfl,hx,s1,hq⟩:=h
  obtain⟨t,ht,hq2⟩:=hb A outer s H1 E x hr hx s1
  exact⟨t,ht,hq2 Q hq⟩
 ·obtain⟨u,rfl⟩:∃ u,us=[u]:=by
   rcases us with _ | ⟨u,_ | ⟨_,_⟩⟩
   ·cases hl
   ·exact⟨u,rfl⟩
   ·cases hl
  exact hbind u
end
theorem FnOk.bold{P:Program}{w:World}{K:W.Frag}{mg:Str->Option Value}{base:Heap}{CX:CXT}{n:Nat}{f:Addr}{fd:FuncData}{ps:List Str}{sp:Sp}(F:FnOk P w K mg base CX0 n f fd ps sp):FnOk P w K mg base CX n f fd ps sp:=
 ⟨F.len,fun A outer s H args us vs Q E hr e0 hb r hsp=>codeAny_mono (F.run A outer s H args us vs Q E hr e0 hb r hsp) fun r s' hq=>by
  cases r with
  | error e=>exact False.elim hq
  | ok fl=>cases fl<;>exact hq⟩
theorem c8p{X:Cx}{P:Program}{w:World}:a4l (CX2 P w) X E0:=fun _ _ _ _ _ _ _ h=>by
 obtain⟨a,C,t,B,H',oe,_,_,_,_,_,_,_,_,_,z⟩:=h
 exact z.elim
def e3p(C:Addr)(m:Str)(sp:Sp)(E:XK)(ta:TE)(T:Addr)(q:Str)(params:Arguments)(body:Expr)(scope:Scope)(pm:Value)(cp:List (Str × Nat)):TE:=fun σ H Q=>ta σ H fun x H1=>∃ a dx fs,x=.ref a/\H1 a=some (.ins C dx fs)/\fs.lookup m=none/\H1 T=some (a7r q) /\
 ∀ f c ct cl H2,Same H1 H2->H1 f=none->Lam H2 f q params body scope cl pm c ct->ClOk H2 scope cl->(∀ p ∈ cp,∀ v,σ[p.2]? = some (some v)->CapH H2 cl p.1 v)->(∀ c ∈ cl.map (·.2),H1 c=none) ->
  sp [x,.ref f] H2 (fun v H3=>Q v (hid H3 (cl.map (·.2)))) (fun C d H3=>E C d (hid H3 (cl.map (·.2))))
section
variable{X:Cx}{k:Nat}{f C c T:Addr}{fd:FuncData}{ps:List Str}{sp:Sp}{E:XK}{m q:Str}{pos apos lpos:Pos}{o:Expr}{ta:TE}{params:Arguments}{body:Expr}{scope:Scope}{cp:List (Str × Nat)}
theorem c0f{pl:Sem Bool}(bm:BMain X.mg X.base)(hcd:X.env.code=.ref c)(hC:PySem.W.codeHdIn X.K c T=true) (hq:X.env.qual ++ "<lambda>" = q) (hfr:∀ y ∈ scope.names,y.2=.free->X.env.scope.names.lookup y.1=some .cell/\X.fn y.1=true)
  (hcp:∀ p ∈ cp,X.N[p.2]? = some p.1/\(p.1,NameKind.free) ∈ scope.names) (he:PE X o ta) (cc:Cls X.K C) (hm:Meth X.K C m f) (F:FnOk X.prog X.w X.K X.mg X.base (CX2 X.prog X.w) k f fd ps sp) (hr:Room k X.A) (hb:Binds X.K fd ps []) (hx:a4l (CX2 X.prog X.w) X E)
  (hdef:defaultsOf params X.env=([],[]):=by rfl)
  (hst:starEach [.Lambda params body scope lpos] X.env=(false,eval (.Lambda params body scope lpos) X.env) :: starEach [] X.env:=by rfl) (hpl:(backTo pos (starEach [] X.env)).any (·.1)=false:=by rfl)
  (ht:eval (.Call (.Attribute o m apos) [.Lambda params body scope lpos] [] pos) X.env=(do
   let ov ← eval o X.env
   standAt apos.atName
   let (f,first) ← holding [ov] (getMethod ov m pl)
   callWith pos f first (backTo pos (starEach [.Lambda params body scope lpos] X.env)) (backToKw pos (keywordEach [] X.env))):=by rfl) :
  PE X (.Call (.Attribute o m apos) [.Lambda params body scope lpos] [] pos) (e3p C m sp E ta T q params body scope ((X.mg "__name__").getD .none) cp):=by
 intro pins s σ H Q I h
 refine PySem.W.methodCall_KW (pl:=pl) (thn (he pins s σ H _ I h) fun u s1 hq8=>?_) ht
 obtain⟨x,H1,I1,rx,a,dx,fs,ex,ea,l,hT,q0⟩:=hq8
 subst ex
 obtain rfl:u=Value.ref a:=rx
 refine b0f I1 ea cc hm l ?_
 have hclos:closureFor scope X.env=pure (clOf X.env scope.names []):=a7n fun y hy hf=>I1.ok.has y.1 (.inl (hfr y hy hf).1)
 have cells:∀ y ∈ scope.names,y.2=.free->X.env.cells.lookup y.1=some ((X.env.cells.lookup y.1).getD 0):=fun y hy hf=>by
  obtain⟨c,e⟩:=I1.ok.has y.1 (.inl (hfr y hy hf).1)
  rw [e];rfl
 have cs:∀ c ∈ (clOf X.env scope.names []).map (·.2),∃ x,X.fn x=true/\X.env.cells.lookup x=some c:=fun c m=>by
  obtain⟨⟨n,c'⟩,m1,rfl⟩:=mem_map.mp m
  obtain⟨m2,e⟩:=a4n m1
  exact⟨n,(hfr _ m2 rfl).2,by rw [show(n,c').2=_ from e];exact cells _ m2 rfl⟩
 have lk:∀ n c,(clOf X.env scope.names []).lookup n=some c->X.env.cells.lookup n=some c/\(n,NameKind.free) ∈ scope.names:=fun n c e=>by
  obtain⟨m2,e⟩:=a4n (mem_of_lookup e)
  exact⟨by rw [e];exact cells _ m2 rfl,m2⟩
 have lk2:∀ n,(n,NameKind.free) ∈ scope.names->∃ c,(clOf X.env scope.names []).lookup n=some c:=fun n m2=>lookup_mem (b1z (env:=X.env) m2)
 have ha:PA X [.Lambda params body scope lpos] _:=a0i (c2w bm hcd hC hq hclos hdef) a0r hst
 refine PySem.W.callWith_K (first:=[.ref a]) (h₀:=X.base) I.ok.mod.kin hm.kp (thn (ha pos pins s1 σ H1 (fun vs H2=>∃ f c ct,vs=[V.ref f]/\Same H1 H2/\H1 f=none/\Lam H2 f q params body scope (clOf X.env scope.names []) ((X.mg "__name__").getD .none) c ct) I1 ⟨hT,fun f c ct H' s hf L=>⟨f,c,ct,rfl,s,hf,L⟩⟩) fun us s2 ⟨vs,H2,I2,r,f,c,ct,ev,s12,hf,L⟩=>⟨I2.kIn,?_⟩) hst hpl
 subst ev
 obtain⟨le,nf,nb⟩:=I2.lent cs
 refine d7o (us:=.ref a :: us) (vs:=[.ref a,.ref f]) (cs:=(clOf X.env scope.names []).map (·.2)) F hr hb hx I2 cs (.cons rfl r) (q0 f c ct _ _ (s12.trans le.same) hf (L.keep (S:=Any) le.same.keep) ⟨le.cells,fun x y c h1 h2=>I2.ok.inj x y c (lk x c h1).1 (lk y c h2).1,fun x hx=>lk2 x (PySem.mem_of_lookup hx)⟩ (fun p hp v hv=>?_) fun c m=>?_)
 ·obtain⟨hN,hfree⟩:=hcp p hp
  obtain⟨ms,ns,hl⟩:=I2.loc
  have kc:=(hfr _ hfree rfl).1
  obtain⟨u,rv,lo⟩:=hl p.2 p.1 v hN hv (.inr (.inl kc))
  rcases lo with⟨z,_⟩ | ⟨_,c,e,ob,ho,hd⟩
  ·rw [show X.env.kindOf p.1=some .cell from kc] at z;cases z
  ·obtain⟨c',e'⟩:=lk2 _ hfree
   have:=(lk _ _ e').1
   rw [e] at this
   cases this
   exact⟨c,ob,u,e',a8z (b4v e') ho,hd,rv⟩
 ·obtain⟨x,_,e⟩:=cs c m
  exact I1.freeC x c e
end
end L2
end
section
namespace L2
open PySem PySem.Spec PyProof.Rows
end L2
end
section
namespace Kd
open PySem PyProof.Rows
noncomputable def TK(h:Heap):Nat->PyData->Value->Prop
 | _,.int i,v=>∃ t,v=.int i t
 | _,.str x,v=>∃ t,v=.str x t
 | n + 1,.tuple ds,v=>∃ a o items m,v=.ref a/\h.get? a=some o/\o.cls=.type "tuple" /\ o.data=.seq items m/\Paired (TK h n) ds items.toList
 | _,_,_=>False
noncomputable def kr:Nat->PyData->Nat
 | _,.int _=>1
 | _,.str _=>1
 | n + 1,.tuple ds=>(ds.map (kr n)).sum + 1
 | _,_=>0
section
variable{prog:Program}{w:World}{E:Value->Shared->Prop}
end
end Kd
end
section
namespace Kd
open PySem PyProof.Rows
section
variable{prog:Program}{w:World}{E:Value->Shared->Prop}
end
noncomputable instance:DecidableEq PyData:=fun a b=>Classical.propDecidable (a=b)
def isK(h:Heap)(d:PyData)(a:Addr):Prop:=d.canLay0=true/\TK h 8 d (.ref a)
end Kd
end
section
namespace L2
open PySem PySem.Spec PyProof.Rows Kd
noncomputable def kd:Nat->PyData->Bool
 | _,.int _=>true
 | _,.str _=>true
 | n + 1,.tuple ds=>ds.all (kd n)
 | _,_=>false
section
variable{X:Cx}{pins:List (Addr × Obj)}{σ:St}{H:Hp}{s:Shared}{S:Addr->Prop}
end
abbrev KX:=PyData × Addr × V
def KOk(K:W.Frag)(H:Hp)(d:PyData)(a:Addr):Prop:=kd 8 d=true/\d.canLay0=true/\∃ S,AtD K H S d (.ref a)
section
variable{X:Cx}{pins:List (Addr × Obj)}{σ:St}{H:Hp}{s:Shared}{d b:Addr}{xs:List KX}{k:PyData}{v:V}{r:Value}{A:Around}{E:Value->Shared->Prop}
end
end L2
end
section
namespace L2
open PySem PySem.Spec PyProof.Rows Kd
section
variable{X:Cx}
end
section
variable{K:W.Frag}{H:Hp}{S:Addr->Prop}{sa:Addr}{ns:List Int}
noncomputable def RcA(H:Hp)(S:Addr->Prop)(sa:Addr)(ns:List Int):Rc:={ H0:=H,S:=fun a=>S a ∨ H a=none,P:=fun _=>False,M:=fun _=>False,A:=fun p=>H p=none,B:=fun _=>False,lent:=fun _=>none,sa:=sa,ns:=ns }
theorem d1v(sc:Scr K H sa (ns.map V.int)){ds:List PyData}{vs:List V}(h:a0b K H S ds vs):Rel K (RcA H S sa ns) (fun _=>none) ((ds.map L.d).map some) (vs.map some) H:=by
 have hat:∀ (i:Nat) (x:PyData),ds[i]? = some x->∃ v,vs[i]? = some v/\AtD K H (live (RcA H S sa ns) fun _=>none) x v:=fun i x e=>by
  obtain⟨v,e1,e2⟩:=h.get e
  exact⟨v,e1,AtD.more (fun a z=>⟨.inl z,fun z=>z,fun i z=>nomatch z⟩) _ _ e2⟩
 have no:∀ (i:Nat) (l:L),((ds.map L.d).map some)[i]? = some (some l)->∃ x,l=.d x/\ds[i]? = some x:=fun i l e=>by
  rw [getElem?_map,getElem?_map] at e
  cases q:ds[i]? with
  | none=>rw [q] at e;cases e
  | some x=>rw [q] at e;cases e;exact⟨x,rfl,rfl⟩
 refine⟨fun i x e=>?_,fun i xs e=>?_,fun i xs e=>?_,fun i k e=>?_,fun i e=>?_,(fun i j p e=>nomatch e),(fun i p e=>nomatch e),fun p z=>.inr z,fun p z=>.inr z,fun b o _ e=>e,fun b z=>z,fun p z=>z.elim,fun p z=>z.elim (fun z=>z.elim) fun z=>z.elim,(fun i p e=>nomatch e),sc,?_⟩
 ·obtain⟨y,e1,e2⟩:=no i _ e
  cases e1
  obtain⟨v,h1,h2⟩:=hat i x e2
  exact⟨v,by rw [getElem?_map,h1];rfl,h2⟩
 ·obtain⟨_,e1,_⟩:=no i _ e;cases e1
 ·obtain⟨_,e1,_⟩:=no i _ e;cases e1
 ·obtain⟨_,e1,_⟩:=no i _ e;cases e1
 ·obtain⟨_,e1,_⟩:=no i _ e;cases e1
 ·rw [length_map,length_map,length_map,h.length]
noncomputable def Ret(K:W.Frag)(H:Hp)(S:Addr->Prop)(H':Hp):RV->V->Prop
 | .d x,v=>AtD K H' (fun a=>S a ∨ H a=none) x v
 | .new xs,v=>∃ p vs,v=.ref p/\H p=none/\H' p=some (.lst vs)/\a0b K H' (fun a=>(S a ∨ H a=none)/\a ≠ p) xs vs
theorem a8h{sp:DSp}{ds:List PyData}{vs:List V}{Q:VK}{E:XK}{Qd:RV->Rho->Prop}(sc:Scr K H sa (ns.map V.int))(h:a0b K H S ds vs)(hs:sp (ds.map L.d) Qd)
  (hq:∀ r v H' ρ',Qd r ρ'->Same H H'->Ret K H S H' r v->Q v H'):spD K sp vs H Q E:=by
 refine⟨RcA H S sa ns,fun _=>none,ds.map L.d,Qd,rfl,fun p z=>z,fun p z=>z.elim,fun p z=>z,fun _=>rfl,d1v sc h,hs,fun r O' ρ' σ' v H' q ro=>?_⟩
 cases r with
 | d x=>exact hq _ v H' _ q (fun b o e=>ro.1.same b o (fun z=>z) e) (AtD.more (fun a z=>z.1) _ _ ro.2)
 | new xs =>
  obtain⟨p,vs,rfl,R',fr,hp,ha⟩:=ro
  refine hq _ _ H' _ q (fun b o e=>R'.same b o (fun z=>z) e) ⟨p,vs,rfl,?_,hp,?_⟩
  ·exact fr.1
  ·exact a0b.more (fun a z=>⟨z.1,(a5a z).2⟩) _ _ ha
end
end L2
end
section
namespace L2
open PySem PySem.Spec PySem.Calls PyProof.Rows PySem.W PySem.Builtin PySem.Builtin.ObjectAttr
section
variable{X:Cx}{pins:List (Addr × Obj)}{σ:St}{H:Hp}{s:Shared}{a C d:Addr}{f:Str}{v:V}{A:Around}{E:Value->Shared->Prop}{fs:List (Str × V)}{od:Option Addr}
end
end L2
end
section
namespace L2
open PySem PySem.Spec PyProof.Rows
noncomputable def kD(q:Key × PyData):PyData × PyData:=(keyD q.1,q.2)
noncomputable def putA(ν:List (Key × PyData))(k:Key)(d:PyData):List (Key × PyData):=if (ν.any fun q=>decide (q.1=k))=true then ν.map (fun q=>if q.1=k then(q.1,d) else q) else ν ++ [(k,d)]
section
variable{K:W.Frag}{H:Hp}{S:Addr->Prop}
end
abbrev TDP:=DEnds->Rho->List (Key × PyData)->Prop
noncomputable def notL:PyData->Bool
 | .list _=>false
 | _=>true
section
variable{K:W.Frag}
end
section
variable{X:Cx}{iter kE vE tg:Expr}{rest:List Stmt}{di:TDI}{dg:TDG}{dk dv:TDE}{du:TDS}{dp:TDP}{x y z:Str}{pos p1 p2 p3 p4 p5 p6 p7 p8 p9 p13:Pos}{i:Nat}
end
section
variable{X:Cx}
end
noncomputable def getA:List (PyData × PyData)->Key->Option PyData
 | [],_=>none
 | q :: r,k=>if b8b q.1=some k then some q.2 else getA r k
noncomputable def b8e:F2:=fun x y=>match x with
 | .dict kvs=>(b8b y).bind fun k=>getA kvs k
 | _=>none
section
variable{K:W.Frag}{H:Hp}{S:Addr->Prop}
theorem a0s.get(k:Key):∀ {kvs:List (PyData × PyData)} {κ:List (Key × V)},a0s K H S kvs κ->(getA kvs k=none/\valV κ k=none) ∨ ∃ d v,getA kvs k=some d/\valV κ k=some v/\AtD K H S d v
 | [],κ,h=>by rw [h.unnil];exact .inl ⟨rfl,rfl⟩
 | (x,d) :: r,κ,h=>by
  obtain⟨a,v,t,rfl,rfl,h1,h2⟩:=h.uncons
  by_cases c:a=k
  ·subst c
   exact .inr ⟨d,v,if_pos (c0b a),b3e rfl,h1⟩
  ·rw [b3f (p:=(a,v)) c,show getA ((keyD a,d) :: r) k=getA r k from if_neg (by rw [c0b];exact fun z=>c (Option.some.inj z))]
   exact a0s.get k h2
theorem d7p{ta tb:TE}{da db:TDE}(ha:AdE K ta da)(hb:AdE K tb db):AdE K (d3u ta tb) (dOp b8e da db):=by
 intro c O ρ σ H Qd Q R h k
 refine ha c O ρ σ H _ _ R h fun x ρ1 O1 v H1 h1 R1 P1 a1=>?_
 refine hb c O1 ρ1 σ H1 _ _ R1 h1 fun y ρ2 O2 u H2 h2 R2 P2 a2=>?_
 obtain⟨dx,e1,hn2⟩:=ne (h2)
 obtain⟨dy,e2,hn4⟩:=ne (hn2)
 obtain⟨z,e3,h3⟩:=ne (hn4)
 have t1:=R2.top (a1.pers P2) e1
 have t2:=R2.top a2 e2
 unfold b8e at e3
 split at e3
 ·rename_i kvs
  obtain⟨kk,e5,e3⟩:=Option.bind_eq_some_iff.mp e3
  obtain⟨a,κ,rfl,_,q,t⟩:=t1.dict
  rcases t.get kk with⟨g1,g2⟩ | ⟨d,v,g1,g2,g3⟩
  ·rw [g1] at e3;cases e3
  ·rw [g1] at e3
   cases e3
   refine⟨a,v,rfl,?_,k (.d z) ρ2 O2 v H2 h3 R2 (P1.trans P2) (show AtD K H2 (live c O2) z v from g3)⟩
   rw [d1n t2 e5]
   have g:=DGet.k (k:=kk) q
   rw [g2] at g
   exact g
 ·cases e3
end
theorem d7q{X:Cx}{a b:Expr}{da db:TDE}{pos:Pos}(hu:X.A.units + 64 < cLine)(ha:DE X a da)(hb:DE X b db)(hs:NoSl b):DE X (.Subscript a b pos) (dOp b8e da db):=by
 obtain⟨ta,pa,aa⟩:=ha
 obtain⟨tb,pb,ab⟩:=hb
 exact⟨_,c2u (by omega) pa pb hs,d7p aa ab⟩
end L2
end
section
namespace Sx
open PySem
end Sx
end
section
namespace Sx
open PySem
section
variable{prog:Program}{w:World}{K:Type}[DecidableEq K]{knd:KeyKind prog w K}{dec:Value->K}
variable{A:Around}{E:Value->Shared->Prop}{s:Shared}
end
end Sx
end
section
namespace Sx
open PySem
section
variable{prog:Program}{w:World}{K:Type}[DecidableEq K]{knd:KeyKind prog w K}{dec:Value->K}
variable{A:Around}{E:Value->Shared->Prop}{s:Shared}
end
end Sx
end
section
namespace Sx
open PySem
section
variable{prog:Program}{w:World}{K:Type}[DecidableEq K]{knd:KeyKind prog w K}{dec:Value->K}
variable{A:Around}{E:Value->Shared->Prop}{s:Shared}
end
end Sx
end
section
namespace Sx
open PySem
section
variable{prog:Program}{w:World}{K:Type}[DecidableEq K]{knd:KeyKind prog w K}{dec:Value->K}
variable{A:Around}{E:Value->Shared->Prop}{s:Shared}
end
end Sx
end
section
namespace L2
open PySem PySem.Spec PyProof.Rows
noncomputable def unS(a b:List Str):List Str:=Sx.srtS (Sx.uniq (a ++ b))
section
variable{X:Cx}{a b:Expr}{ta tb:TA}{p p' p2 pos pos' pos2 posB:Pos}
end
noncomputable def txD:List PyData->Option (List Str)
 | [.list xs]=>a6c xs
 | [.tuple xs]=>a6c xs
 | _=>none
def dSU(da db:TDA):TDE:=fun ρ Q=>da ρ fun xs ρ1=>need (a1a ρ1 xs) fun ds=>need (txD ds) fun a=>a.length <= 3/\db ρ1 fun ys ρ2=>need (a1a ρ2 ys) fun es=>need (txD es) fun b=>b.length <= 3/\Q (.d (.list ((unS a b).map .str))) ρ2
section
variable{X:Cx}{a b:Expr}{daa dab:TDA}{p p' p2 pos pos' pos2 posB:Pos}
end
end L2
end
section
namespace L2
open PySem PySem.Spec PyProof.Rows
section
variable{prog:Program}{w:World}{A:Around}{R:Result->Shared->Prop}{I:Addr}{fp wr:List Addr}{G:Array GenState->Array GenState->Prop}{St:Nat->Shared->Prop}{items:Array Value}{ps:List (Str × V)}
end
section
variable{prog:Program}{w:World}{A:Around}{E:Value->Shared->Prop}{s:Shared}
end
noncomputable def kQ(p:Str × PyData):Key × PyData:=(Sum.inr p.1,p.2)
section
variable{K:W.Frag}{H:Hp}{S:Addr->Prop}
noncomputable def d3x:PyData->List PyData->Option PyData:=fun x ds=>match x,ds with
 | .dict kvs,[.str k,d]=>if notL d=true then some ((getA kvs (Sum.inr k)).getD d) else none
 | _,_=>none
def dGetD(dd:TDE)(da:TDA):TDE:=fun ρ Q=>dd ρ fun x ρ1=>need (a0n ρ1 x) fun dx=>(∃ kvs,dx=.dict kvs)/\da ρ1 fun ys ρ2=>need (a0n ρ2 x) fun dx2=>need (a1a ρ2 ys) fun ds=>need (d3x dx2 ds) fun z=>Q (.d z) ρ2
end
theorem d7r{d1:TDE}{da:TDA}{ρ:Rho}{Q:DV->Rho->Prop}:dGetD d1 da ρ Q=d1 ρ fun x ρ1=>need (a0n ρ1 x) fun dx=>(∃ kvs,dx=.dict kvs)/\da ρ1 fun ys ρ2=>need (a0n ρ2 x) fun dx2=>need (a1a ρ2 ys) fun ds=>need (d3x dx2 ds) fun z=>Q (.d z) ρ2:=rfl
theorem dSU_a{da db:TDA}{ρ:Rho}{Q:DV->Rho->Prop}:dSU da db ρ Q=da ρ fun xs ρ1=>need (a1a ρ1 xs) fun ds=>need (txD ds) fun a=>a.length <= 3/\db ρ1 fun ys ρ2=>need (a1a ρ2 ys) fun es=>need (txD es) fun b=>b.length <= 3/\Q (.d (.list ((unS a b).map .str))) ρ2:=rfl
section
variable{X:Cx}{e1 e2:Expr}{daa:TDA}{pos:Pos}
end
end L2
end
section
namespace L2
open PySem PySem.Spec PyProof.Rows
section
variable{K:W.Frag}
def e3q(i:Nat)(da:TDA)(dp:TDP):TDS:=fun D ρ=>da ρ fun xs ρ1=>need (a1a ρ1 xs) fun ds=>i < ρ1.length/\∃ ν:List (Key × PyData),ds=[.dict (ν.map kD)]/\dp D (ρ1.set i none) ν
end
section
variable{X:Cx}{kE vE e:Expr}{rest:List Stmt}{daa:TDA}{dk dv:TDE}{dp:TDP}{x:Str}{pos p1 p2 p4 p5 p6 p9:Pos}{i:Nat}
end
theorem d1w{i:Nat}{da:TDA}{dp:TDP}{D:DEnds}{ρ:Rho}:e3q i da dp D ρ=da ρ fun xs ρ1=>need (a1a ρ1 xs) fun ds=>i < ρ1.length/\∃ ν:List (Key × PyData),ds=[.dict (ν.map kD)]/\dp D (ρ1.set i none) ν:=rfl
end L2
end
section
namespace L2
open PySem PySem.Spec PyProof.Rows
noncomputable def c5c(tab:List (Str × Str)):List PyData->Option PyData
 | [.str z,.str d]=>some (.str ((tab.lookup z).getD d))
 | _=>none
def dGetK(tab:List (Str × Str))(da:TDA):TDE:=fun ρ Q=>da ρ fun ys ρ1=>need (a1a ρ1 ys) fun ds=>need (c5c tab ds) fun z=>Q (.d z) ρ1
theorem d7s{tab:List (Str × Str)}{da:TDA}{ρ:Rho}{Q:DV->Rho->Prop}:dGetK tab da ρ Q=da ρ fun ys ρ1=>need (a1a ρ1 ys) fun ds=>need (c5c tab ds) fun z=>Q (.d z) ρ1:=rfl
theorem d7t{tab:List (Str × Str)}{z d:Str}:c5c tab [.str z,.str d]=some (.str ((tab.lookup z).getD d)):=rfl
section
variable{X:Cx}{e1 e2:Expr}{daa:TDA}{pos p p2:Pos}{x:Str}
end
end L2
end
section
namespace Tr
variable{N:Type}[DecidableEq N]
inductive Stp (N:Type) where
 | on
 | back
 | one (hs:List N)
 | pool (hs:List N)
inductive Fm (N:Type) where
 | fact (z:N)
 | wish (z:N)
 | neg (a:Fm N)
 | two (c:Bool) (a b:Fm N)
 | mod (c:Bool) (st:Stp N) (a:Fm N)
 | bind (m:Bool) (x:N) (a:Fm N)
 | sho (hs:List N) (a b:Fm N)
structure Mdl(N:Type) where
 n:Nat
 fact:N->Nat->Bool
 move:Nat->Nat->Bool
 same:N->Nat->Nat->Bool
abbrev Vec:=Nat->Bool
abbrev Room(N:Type):=List (List N × Vec)
abbrev Env(N:Type):=N->Vec
noncomputable def blind(M:Mdl N)(r:Room N)(h:N)(p q:Nat):Bool:=M.same h p q && r.all fun e=>!decide (h ∈ e.1) || e.2 p == e.2 q
noncomputable def lead(M:Mdl N)(r:Room N)(st:Stp N)(p q:Nat):Bool:=match st with
 | .on=>M.move p q
 | .back=>M.move q p
 | .one hs=>hs.any fun h=>blind M r h p q
 | .pool hs=>hs.all fun h=>blind M r h p q
noncomputable def iter(F:Vec->Vec):Nat->Vec->Vec
 | 0,X=>X
 | k + 1,X=>iter F k (F X)
noncomputable def upd(e:Env N)(x:N)(X:Vec):Env N:=fun y=>if y=x then X else e y
noncomputable def no:Env N:=fun _ _=>false
noncomputable def ev(M:Mdl N):Fm N->Room N->Env N->Vec
 | .fact z,_,_=>M.fact z
 | .wish z,_,e=>e z
 | .neg a,r,e=>fun p=>!ev M a r e p
 | .two c a b,r,e=>fun p=>if c=true then ev M a r e p && ev M b r e p else ev M a r e p || ev M b r e p
 | .mod c st a,r,e=>fun p=>if c=true then(List.range M.n).all fun q=>!lead M r st p q || ev M a r e q else(List.range M.n).any fun q=>lead M r st p q && ev M a r e q
 | .bind m x a,r,e=>iter (fun X=>ev M a r (upd e x X)) (M.n + 2) fun _=>m
 | .sho hs a b,r,e=>ev M b (r ++ [(hs,ev M a r no)]) no
noncomputable def flip(F:List (N × Bool)):List (N × Bool):=F.map fun q=>(q.1,!q.2)
noncomputable def okS:Stp N->Prop
 | .one hs=>hs ≠ []
 | .pool hs=>hs ≠ []
 | _=>True
noncomputable def Pos:Fm N->List (N × Bool)->Prop
 | .fact _,_=>True
 | .wish x,F=>(x,false) ∈ F
 | .neg a,F=>Pos a (flip F)
 | .two _ a b,F=>Pos a F/\Pos b F
 | .mod _ st a,F=>okS st/\Pos a F
 | .bind _ x a,F=>x ∉ F.map (·.1)/\Pos a (F ++ [(x,false)])
 | .sho _ a b,_=>Pos a []/\Pos b []
def le(n:Nat)(X Y:Vec):Prop:=∀ p,p < n->X p=true->Y p=true
def eqv(n:Nat)(X Y:Vec):Prop:=∀ p,p < n->X p=Y p
theorem le_refl{n:Nat}(X:Vec):le n X X:=fun _ _ h=>h
theorem le_trans{n:Nat}{X Y Z:Vec}(a:le n X Y)(b:le n Y Z):le n X Z:=fun p hp h=>b p hp (a p hp h)
def LeE(n:Nat)(F:List (N × Bool))(e e':Env N):Prop:=∀ q ∈ F,if q.2=true then le n (e' q.1) (e q.1) else le n (e q.1) (e' q.1)
noncomputable def cnt(n:Nat)(X:Vec):Nat:=((List.range n).filter X).length
structure Emb(U S:Mdl N)(i:Nat->Nat):Prop where
 lt:∀ p,p < U.n->i p < S.n
 le:U.n <= S.n
 fact:∀ z p,p < U.n->S.fact z (i p)=U.fact z p
 mv:∀ p q,p < U.n->q < U.n->S.move (i p) (i q)=U.move p q
 out:∀ p q,p < U.n->q < S.n->(∀ q',q' < U.n->i q' ≠ q)->S.move (i p) q=false/\S.move q (i p)=false/\∀ h,S.same h (i p) q=false
 sm:∀ h p q,p < U.n->q < U.n->S.same h (i p) (i q)=U.same h p q
noncomputable def RelR(n:Nat)(i:Nat->Nat):Room N->Room N->Prop
 | [],[]=>True
 | a :: r,b :: s=>a.1=b.1/\(∀ p,p < n->b.2 (i p)=a.2 p)/\RelR n i r s
 | _,_=>False
end Tr
end
section
namespace L2
open PySem PySem.Spec PyProof.Rows
theorem c2z{c:Nat}:∀ {a b x y:List Nat},c ∉ a->c ∉ b->a ++ c :: x=b ++ c :: y->a=b/\x=y
 | [],[],x,y,_,_,e=>⟨rfl,(List.cons.inj e).2⟩
 | [],b :: bs,x,y,_,hb,e=>absurd (mem_cons.mpr (.inl (List.cons.inj e).1)) hb
 | a :: as,[],x,y,ha,_,e=>absurd (mem_cons.mpr (.inl (List.cons.inj e).1.symm)) ha
 | a :: as,b :: bs,x,y,ha,hb,e=>by
  obtain⟨e1,e2⟩:=List.cons.inj e
  obtain⟨r1,r2⟩:=c2z (a:=as) (b:=bs) (fun h=>ha (mem_cons_of_mem _ h)) (fun h=>hb (mem_cons_of_mem _ h)) e2
  exact⟨by rw [e1,r1],r2⟩
theorem a6s{sep x y:Str}{r:List Str}:(Str.join sep (x :: y :: r)).cps.toList=x.cps.toList ++ (sep.cps.toList ++ (Str.join sep (y :: r)).cps.toList):=by
 show(x ++ sep ++ Str.join sep (y :: r)).cps.toList=_
 show((x.cps ++ sep.cps) ++ (Str.join sep (y :: r)).cps).toList=_
 rw [toList_append,toList_append,append_assoc]
theorem c0g{c:Nat}:∀ {A B:List Str},A ≠ []->B ≠ []->(∀ p ∈ A,c ∉ p.cps.toList)->(∀ p ∈ B,c ∉ p.cps.toList)->Str.join ⟨#[c]⟩ A=Str.join ⟨#[c]⟩ B->A=B
 | [],_,h,_,_,_,_=>absurd rfl h
 | _,[],_,h,_,_,_=>absurd rfl h
 | [a],[b],_,_,_,_,e=>by rw [show a=b from e]
 | [a],b :: b' :: s,_,_,ha,_,e=>by
  have e2:=congrArg (fun z:Str=>z.cps.toList) e
  rw [a6s] at e2
  refine absurd ?_ (ha a (mem_cons_self ..))
  show c ∈ a.cps.toList
  have e3:a.cps.toList=_:=e2
  rw [e3]
  exact mem_append_right _ (mem_append_left _ (mem_cons_self ..))
 | a :: a' :: r,[b],_,_,_,hb,e=>by
  have e2:=congrArg (fun z:Str=>z.cps.toList) e
  rw [a6s] at e2
  refine absurd ?_ (hb b (mem_cons_self ..))
  show c ∈ b.cps.toList
  have e3:_=b.cps.toList:=e2
  rw [← e3]
  exact mem_append_right _ (mem_append_left _ (mem_cons_self ..))
 | a :: a' :: r,b :: b' :: s,_,_,ha,hb,e=>by
  have e2:=congrArg (fun z:Str=>z.cps.toList) e
  rw [a6s,a6s] at e2
  obtain⟨r1,r2⟩:=c2z (ha a (mem_cons_self ..)) (hb b (mem_cons_self ..)) e2
  have e4:Str.join ⟨#[c]⟩ (a' :: r)=Str.join ⟨#[c]⟩ (b' :: s):=Str.ext' (toList_inj.mp r2)
  have e5:a=b:=Str.ext' (toList_inj.mp r1)
  rw [e5,c0g (A:=a' :: r) (B:=b' :: s) (fun z=>nomatch z) (fun z=>nomatch z) (fun p hp=>ha p (mem_cons_of_mem _ hp)) (fun p hp=>hb p (mem_cons_of_mem _ hp)) e4]
theorem a2m(sep:Str)(l:List Str):Txt.join sep l=Str.join sep l:=eq_of_beq (PyProof.Rows.join_plain_closes sep l)
theorem b4w{c:Nat}{ws:List Str}(hn:ws ≠ [])(h:∀ p ∈ ws,c ∉ p.cps.toList):Txt.split (Txt.join ⟨#[c]⟩ ws) ⟨#[c]⟩=ws:=by
 rw [a2m]
 refine(c0g (c:=c) ?_ hn (StrLaws.split_free _ c) h (StrLaws.join_split _ _))
 intro e
 have:=PyProof.Rows.split_pos (Str.join ⟨#[c]⟩ ws) ⟨#[c]⟩
 rw [e] at this
 simp at this
end L2
end
section
namespace L2
open PySem PySem.Spec PyProof.Rows
noncomputable def c8q(K:W.Frag):V->List V->Hp->VK->Prop:=fun x vs H Q=>∃ (z:Str) (p:Addr) (ys:List Str),x=.str z/\vs=[.ref p]/\SqT K H p (ys.map V.str)/\z.length <= 16/\(ys.map (·.length)).sum + ys.length <= 1048576/\Q (.str (Txt.join z ys)) H
section
variable{X:Cx}
theorem d1x:MtM X "str.join" (c8q X.K):=by
 intro pins s σ H x vs v us Q I rx rv h
 obtain⟨z,p,ys,rfl,rfl,hp,hz,hw,q⟩:=h
 obtain⟨t,rfl⟩:=rx
 obtain⟨u,rfl,r⟩:=vals1 rv
 cases r
 obtain⟨its,rs,tp,_⟩:=I.tuple hp
 exact join_tupleW (ys:=ys) (items:=its.toArray) tp (b6b rs) hz hw fun t' k=>⟨.str _,H,I.tok _,⟨_,rfl⟩,q⟩
end
noncomputable def b4x(z:Str):FC:=fun ds=>match ds with
 | [.tuple xs]=>(a6c xs).bind fun ss=>if z.length <= 16/\(ss.map (·.length)).sum + ss.length <= 1048576 then some (.str (Txt.join z ss)) else none
 | _=>none
theorem a6t{z:Str}{ss:List Str}(h1:z.length <= 16)(h2:(ss.map (·.length)).sum + ss.length <= 1048576):b4x z [.tuple (ss.map .str)]=some (.str (Txt.join z ss)):=by
 show((a6c (ss.map .str)).bind _)=_
 rw [b3g]
 exact if_pos ⟨h1,h2⟩
section
variable{K:W.Frag}
def c0h(dd:TDE)(da:TDA):TDE:=fun ρ Q=>dd ρ fun x ρ1=>need (a0n ρ1 x) fun dx=>∃ z:Str,dx=.str z/\da ρ1 fun ys ρ2=>need (a1a ρ2 ys) fun ds=>need (b4x z ds) fun r=>Q (.d r) ρ2
theorem d1y{td:TE}{ta:TA}{dd:TDE}{da:TDA}(hd:AdE K td dd)(ha:AdA K ta da):AdE K (tBM K "str" (c8q K) td ta) (c0h dd da):=by
 intro c O ρ σ H Qd Q R h k
 refine hd c O ρ σ H _ _ R h fun x ρ1 O1 v H1 h1 R1 P1 a1=>?_
 obtain⟨dx,e1,hn6⟩:=ne (h1)
 obtain⟨z,rfl,h1⟩:=hn6
 have ev:=(R1.top a1 e1).str
 subst ev
 refine⟨rfl,ha c O1 ρ1 σ H1 _ _ R1 h1 fun ys ρ2 O2 vs H2 h2 R2 P2 a2=>?_⟩
 obtain⟨ds,e3,hn9⟩:=ne (h2)
 obtain⟨r,e4,h2⟩:=ne (hn9)
 have t2:=R2.tops a2 e3
 unfold b4x at e4
 split at e4
 ·rename_i xs
  obtain⟨ss,q1,q2⟩:=Option.bind_eq_some_iff.mp e4
  split at q2
  ·rename_i hl
   cases q2
   have e5:=b1p q1
   subst e5
   obtain⟨v1,rfl,h7⟩:=t2.one
   obtain⟨b,vs1,rfl,hb,hall⟩:=h7.tup
   have e6:=b0q hall
   subst e6
   exact⟨z,b,ss,rfl,rfl,hb,hl.1,hl.2,k _ _ _ _ _ h2 R2 (P1.trans P2) (show AtD K H2 (live c O2) (.str _) (.str _) from a1p _)⟩
  ·cases q2
 ·cases e4
end
section
variable{X:Cx}
theorem b0s{o e1:Expr}{dd:TDE}{daa:TDA}{p2 pos:Pos}(ho:DE X o dd)(ha:DA X [e1] daa)
  (hbase:attributeBase o "join" X.env (eval o X.env)=eval o X.env:=by rfl)
  (hfew:((backTo pos (starEach [e1] X.env)).all (fun x=>!x.1) && (backToKw pos (keywordEach [] X.env)).all (fun x=>x.1.isSome) && decide ([e1].length + ([]:List Keyword).length + (if ([]:List Keyword).isEmpty then 0 else 1) < 30))=true:=by rfl)
  (hline:(p2.endLine == pos.line)=true:=by rfl) (hs:starEach [e1] X.env=(false,eval e1 X.env) :: starEach [] X.env:=by rfl) (hpl:(backTo pos (starEach [] X.env)).any (·.1)=false:=by rfl):DE X (.Call (.Attribute o "join" p2) [e1] [] pos) (c0h dd daa):=by
 obtain⟨_,pd,ad⟩:=ho
 obtain⟨_,pa,aa⟩:=ha
 exact⟨_,b1y PySem.F.plainAttrs_str PySem.F.slot_str_join PySem.F.type_str_join d1x pd pa hbase hfew hline hs hpl,d1y ad aa⟩
variable{ρ:Rho}{d1:TDE}{da:TDA}
theorem d1z{Q:DV->Rho->Prop}:c0h d1 da ρ Q=d1 ρ fun x ρ1=>need (a0n ρ1 x) fun dx=>∃ z:Str,dx=.str z/\da ρ1 fun ys ρ2=>need (a1a ρ2 ys) fun ds=>need (b4x z ds) fun r=>Q (.d r) ρ2:=rfl
end
end L2
end
section
namespace L2
open PySem PySem.Spec PyProof.Rows
noncomputable def kR(p:Str × V):Key × V:=(Sum.inr p.1,p.2)
theorem Ents.pairsM{prog:Program}{w:World}{es:List DictEntry}{kvs:List (Str × V)}(h:Ents w es kvs):∃ vs:List (Key × Value),Pairs (a2k prog w) es vs/\KV (kvs.map kR) vs/\vs.map (·.1)=kvs.map (fun p=>Sum.inr p.1)/\(∀ e ∈ es,∃ x t,e.key=.str x t/\e.hash=hashStr w x):=by
 induction h with
 | nil=>exact⟨[],.nil,.nil,rfl,fun e he=>by cases he⟩
 | @cons x t u v es kvs r _ ih =>
  obtain⟨vs,p,q,n,k⟩:=ih
  refine⟨(.inr x,u) :: vs,.cons (a9l prog w x t) rfl p,.cons ⟨rfl,r⟩ q,by rw [map_cons,map_cons,n],fun e he=>?_⟩
  rcases mem_cons.mp he with rfl | he
  ·exact⟨x,t,rfl,rfl⟩
  ·exact k e he
theorem b7g:∀ {l:List Str},l.Nodup->(l.map (Sum.inr:Str->Key)).Nodup
 | [],_=>List.nodup_nil
 | x :: r,h=>by
  rw [nodup_cons] at h
  rw [map_cons,nodup_cons]
  refine⟨fun m=>?_,b7g h.2⟩
  obtain⟨y,hy,e⟩:=mem_map.mp m
  cases e
  exact h.1 hy
noncomputable def e3r(K:W.Frag)(w:World):List V->Hp->VK->Prop:=fun xs H Q=>∃ a kvs,xs=[.ref a]/\KDict K w a kvs/\kvs.length <= 1000/\(a == sysModules)=false/\∀ p,H p=none->Q (.ref p) (upd H p (.dK (kvs.map kR)))
theorem b4y{X:Cx}:a3h X (.type "dict") (e3r X.K X.w):=by
 intro pins s σ H xs us Q I rs h
 obtain⟨a,kvs,rfl,⟨hnd,es,ep,hk,he⟩,hz,hd,q⟩:=h
 obtain⟨u,rfl,r⟩:=vals1 rs
 cases r
 obtain⟨vs,hp,hkv,hn,hkeys⟩:=he.pairsM (prog:=X.prog)
 have ho:=I.kIn a _ hk
 have zl:(kvs.map kR).length <= sizeLine:=by rw [length_map,sizeLine_eq];omega
 have dd:s.heap.DictOf (a2k X.prog X.w) a vs:=by
  refine⟨_,es,ep,ho,⟨rfl,rfl,rfl⟩,rfl,?_,hp,by
   rw [hn,show kvs.map (fun p=>(Sum.inr p.1:Key))=(kvs.map (·.1)).map Sum.inr by rw [List.map_map];rfl]
   exact b7g hnd⟩
  intro e hm
  obtain⟨x',t',e2,e3⟩:=hkeys e (by simpa using hm)
  exact⟨.inr x',by rw [e2];exact a9l _ _ _ _,e3⟩
 refine kt_call_dict (knd:=a2k X.prog X.w) hd dd (by rw [← hkv.length];exact zl) fun h' dd' hs=>?_
 have keep:∀ b o,s.heap.get? b=some o->h'.get? b=some o:=fun b o g=>(hs.2 b (ne_of_lt (lt_size g))).trans (get?_push_of_some _ g)
 exact⟨.ref _,_,I.laid (a:=s.heap.objs.size) (o:=.dK (kvs.map kR)) (t':=s.toks) keep (Nat.le_refl _) ⟨zl,beq_eq_false_iff_ne.mpr (Ne.symm (ne_of_lt I.big)),vs,hkv,dd'⟩,rfl,q _ (I.hok.fresh (Nat.le_refl _))⟩
end L2
end
section
namespace K10
open PySem L2 Sn
open Lean in
def c5d (p : Bool) : MacroM (TSyntaxArray `Lean.Parser.Tactic.simpLemma) := (("↓d1z ↓d7s d7t ↓d7m ↓d1q ↓d1k ↓d1i ↓c8a d6v d6w ↓d0f ↓d5l ↓d6p ↓d1c ↓d0n ↓c7q ↓d5o ↓d6t e3b d6x c8b c8c c8d ↓itT ↓itF ↓d6z ↓d1h ↓d0i ↓e1a ↓e2w ↓dSU_a ↓e2n mapC mapN d0g d5t d5u ↓d1w ↓d7r ↓d1l ↓d6h ↓d7d ↓d7e ↓d7f d7g d7h d7i ↓d7b e3i e3l ↓e0u ↓d6y ↓e3f e3c ↓d5k ↓dIf_a ↓d5m ↓e0v ↓d5n ↓e0w ↓d5p ↓e0x ↓e0y ↓e0z ↓dC_a ↓dOp_a ↓dCB_a ↓e1b ↓e1c ↓e1d ↓dFz_a ↓e1e ↓d5q ↓dB_a ↓e1f ↓e1g ↓dOr_a ↓e1h ↓e1i ↓d5r ↓e1j ↓d5s ↓d0h ↓dIs_a ↓c7r ↓e1l ↓d0j ↓d5v ↓d0k ↓d5x ↓d0l ↓d0m ↓e1n ↓e1p ↓fz_d ↓fz_sl ↓fzL_d ↓e1q ↓fzs_n ↓fzs_c ↓d6d ↓dSl_a ↓d1a ↓d1b ↓e2l e2m asT_t d6j d6k d6l List.all_cons List.all_nil d6i e1k okL_o okL_b e1m asI_i ioJ_o ioJ_b ioJ_t fzJ_d fzJ_o e1r e1s e1t e1w d5y d5z d0o d0p d0q d0r d0s d0t d6a d6b d6c e1x e1y e1z e2a e2b flC_n flC_c e2c d6e d0u d0v d0w d0x d0y d0z asB_b tru_b tru_n tru_i tru_l tru_t e2d e2e e2f e2g e2h e2i e2j a0m c7a e0o e0p e0q e0r e0s d0d d0e d5i d5j fIx_l fIx_t List.getElem?_cons_zero List.getElem?_cons_succ List.getElem?_nil List.set_cons_zero List.set_cons_succ Option.join_some Option.join_none Option.bind_some Option.bind_none Option.map_some Option.map_none Option.isSome_some List.length_cons List.length_nil List.cons_append List.nil_append b4m Nat.reduceAdd Nat.reduceSub Bool.not_true Bool.not_false" ++ (if p then " ↓d5w ↓e1o atI_0 atI_1 atI_2 atI_3 atI_4 fIn_f b9q d3r inF_i Bool.and_self Bool.and_true Bool.or_false Bool.or_true Bool.true_or Bool.false_or e1u e1v d0b d0c c7n List.map_cons List.map_nil List.replicate if_true if_false Bool.false_eq_true true_and and_true List.nodup_cons List.nodup_nil List.not_mem_nil not_false_eq_true List.mem_cons Nat.reduceLeDiff Nat.reduceLT reduceCtorEq Nat.zero_add Nat.reduceEqDiff false_or or_false d6u" else "")).splitOn " ").toArray.mapM fun s => if s.startsWith "↓" then `(Parser.Tactic.simpLemma| ↓$(mkIdent (s.drop 1).toName):ident) else `(Parser.Tactic.simpLemma| $(mkIdent s.toName):ident)
local macro_rules | `(tactic| walk_at "p1") => do let a ← c5d true; `(tactic| simp only [$[$a:simpLemma],*])
local macro_rules | `(tactic| walk_at "d1") => do let a ← c5d false; `(tactic| first | dsimp only [$[$a:simpLemma],*] | walk_at "p1")
local macro_rules | `(tactic| walk_at "dd") => `(tactic| (repeat first | (with_reducible refine c2p ?_) | walk_at "d1"))
local macro_rules | `(tactic| walk_at "k1") => do let a ← c5d true; `(tactic| simp +decide only [$[$a:simpLemma],*])
local macro_rules | `(tactic| walk_at "dk") => `(tactic| (repeat first | (with_reducible refine c2p ?_) | walk_at "k1"))
noncomputable def top(i:Nat):Stmt:=PySem.Challenge.pw_worldsay_k10_sentences_written_and_read.main.body.getD i (.Pass ⟨0,0,0,0⟩)
--TOP
theorem usS{α:Type}{us:List α}{n:Nat}(h:us.length=n + 1):∃ a r,us=a :: r/\r.length=n:=by
 cases us with
 | nil=>cases h
 | cons a r=>exact⟨a,r,rfl,Nat.succ.inj h⟩
structure Bl(mg:Str->Option Value):Prop where
 len_:mg "len" = none
 range_:mg "range" = none
 tuple_:mg "tuple" = none
 bool_:mg "bool" = none
 isinstance_:mg "isinstance" = none
 reversed_:mg "reversed" = none
 max_:mg "max" = none
 zip_:mg "zip" = none
 list_:mg "list" = none
 str_:mg "str" = none
 enumerate_:mg "enumerate" = none
 dict_:mg "dict" = none
 sum_:mg "sum" = none
 int_:mg "int" = none
 min_:mg "min" = none
 sorted_:mg "sorted" = none
 all_:mg "all" = none
 set_:mg "set" = none
 repr_:mg "repr" = none
 any_:mg "any" = none
def c8r(K:W.Frag):Sp:=fun vs H Q _=>∃ (v:Addr) (ns:List Int) (k:Int),vs=[.ref v,.int k]/\SqL K H v (ns.map V.int)/\0 <= k/\∀ c:Int,(ns=[]->c=0)->Q (.int c) H
def spBy(K:W.Frag):Sp:=fun vs H Q _=>∃ (v:Addr) (ns:List Int) (k many:Int),vs=[.ref v,.int k,.int many]/\SqL K H v (ns.map V.int)/\ns.length <= 63/\0 <= k/\k <= 1000000/\0 < many/\∀ r:Int,0 <= r->r < many->Q (.int r) H
def c0i:DSp:=fun ls Q=>∃ (k:Nat) (many:Int),ls=[.tape k,.d (.int many)]/\0 < many/\k < 1000000/\∀ r:Int,0 <= r->r < many->Q (.d (.int r)) [some (.tape (k + 1)),none]
section
variable{P:Program}{w:World}{K:W.Frag}{mg:Str->Option Value}{base:Heap}
abbrev a3y:Stmt:=top 30
theorem b6e:FnScope ["_law_script","_law_k"] ["_law_script","_law_k"] (a0e a3y):=⟨rfl,rfl,rfl,by decide +kernel,rfl,by decide +kernel,by decide +kernel⟩
theorem c5e{f:Addr}{fd:FuncData} (F:Fun K "_law_cell_at" "_law_cell_at" a3y f fd) (B:Bl mg):FnOk P w K mg base CX0 1 f fd ["_law_script","_law_k"] (c8r K):=by
 refine F.ok b6e (fun vs H Q E h=>?_) (fun cdv A outer s H vs Q E hr h=>?_)
 ·obtain⟨v,ns,k,rfl,_⟩:=h
  rfl
 obtain⟨v,ns,k,rfl,hv,hk,q⟩:=h
 refine⟨_,(a0v (a6w (a4y b3z (a4m a3n rfl B.len_ a3i (a0i (pv 0) a0r)) a1g (a0u _))
  (a1n (a2j (a6y a6j (pv 0) (a2e a8n (pv 1) (a4m a3n rfl B.len_ a3i (a0i (pv 0) a0r))) (fun _ _=>rfl))))
  a4a)
  (a1n (a2j a1g))),?_⟩
 have hl:(ns.map V.int).length=ns.length:=length_map _
 refine⟨_,rfl,v,_,rfl,.inl hv,_,_,rfl,rfl,_,rfl,?_⟩
 rw [hl]
 refine ite2 (fun c=>?_) (fun c=>?_)
 ·have c':(0:Int) < (ns.length:Int):=of_decide_eq_true c
  refine⟨_,rfl,_,rfl,_,rfl,v,_,rfl,.inl hv,_,_,rfl,rfl,?_,?_⟩
  ·rw [hl];exact c'
  ·rw [hl]
   have m0:0 <= k % (ns.length:Int):=emod_nonneg _ (by omega)
   have m1:k % (ns.length:Int) < (ns.length:Int):=Int.emod_lt_of_pos _ c'
   obtain⟨d,e1,e2,_⟩:=c6z (xs:=ns.map V.int) m0 (by rw [hl];exact m1)
   obtain⟨n,_,rfl⟩:=mem_map.mp e2
   exact⟨v,_,_,_,rfl,rfl,hv,e1,q n fun e=>by rw [e] at c';exact absurd c' (by decide)⟩
 ·exact q 0 fun _=>rfl
abbrev b0t:Stmt:=top 31
theorem a7k:FnScope ["_law_script","_law_k","_law_many","_law_cell","_law_part","_law_seed"] ["_law_script","_law_k","_law_many"] (a0e b0t):=⟨rfl,rfl,rfl,by decide +kernel,rfl,by decide +kernel,by decide +kernel⟩
theorem ok_by{f f1:Addr}{fd fd1:FuncData} (F:Fun K "_law_by" "_law_by" b0t f fd) (B:Bl mg) (a3g:Def K mg "_law_cell_at" a3y ["_law_script","_law_k"] f1 fd1):FnOk P w K mg base CX0 2 f fd ["_law_script","_law_k","_law_many"] (spBy K):=by
 have b7n:FnOk P w K mg base CX0 1 f1 fd1 ["_law_script","_law_k"] (c8r K):=c5e a3g.fn B
 refine F.ok a7k (fun vs H Q E h=>?_) (fun cdv A outer s H vs Q E hr h=>?_)
 ·obtain⟨v,ns,k,many,rfl,_⟩:=h
  rfl
 obtain⟨v,ns,k,many,rfl,hv,hl,hk,hk2,hm,q⟩:=h
 refine⟨_,(a0v (a2y (i:=3) a7k.nd rfl (Or.inl rfl) (a3c a3g b7n hr rfl (a0i (pv 0) (a0i (pv 1) a0r))))
  (a0v (a2y (i:=4) a7k.nd rfl (Or.inl rfl) a1g)
  (a0v (a6w (a4y op_ge (pv 3) (a2e d9e a1g a1g) (a0u _))
  (a1n (a2y (i:=4) a7k.nd rfl (Or.inl rfl) (a2e d9f (pv 3) (a2e b1h a1g (a2e d4f (pv 1) (a4m a3n rfl B.len_ a3i (a0i (pv 0) a0r)))))))
  a4a)
  (a0v (a6w (a4y b3z (pv 4) a1g (a0u _))
  (a1n (a2j (a2e a8n (pv 4) (pv 2))))
  a4a)
  (a0v (a2y (i:=5) a7k.nd rfl (Or.inl rfl) (a2e b1g (a2e b1g (a2e a8n (pv 3) a1g) (a2e b1h (a2e b1h a1g (pv 1)) (pv 1))) a1g))
  (a1n (a2j (a2e a8n (a2e a8n (a2e b1h (a2e a8n (a2e b1h (pv 5) a1g) a1g) a1g) a1g) (pv 2))))))))),?_⟩
 have hln:(ns.map V.int).length=ns.length:=length_map _
 refine⟨_,rfl,_,rfl,v,ns,k,rfl,hv,hk,fun c hc=>?_⟩
 have e64:(2:Int) ^ 64=18446744073709551616:=by decide
 refine⟨_,rfl,_,_,rfl,rfl,⟨by decide,by decide,by decide⟩,_,_,rfl,rfl,_,rfl,?_⟩
 refine ite2 (fun c1=>?_) (fun c1=>?_)
 ·have c1':(10:Int) ^ (18:Int).toNat <= c:=of_decide_eq_true c1
  have hne:0 < ns.length:=by
   cases ns with
   | nil=>rw [hc rfl] at c1';exact absurd c1' (by decide)
   | cons _ _=>exact Nat.succ_pos _
  have hd0:0 <= k / (ns.length:Int):=Int.ediv_nonneg hk (by omega)
  refine⟨_,rfl,_,rfl,_,rfl,v,_,rfl,.inl hv,_,_,rfl,rfl,?_,_,_,rfl,rfl,.inl ⟨by decide,by decide⟩,_,_,rfl,rfl,?_,?_⟩
  ·rw [hln];exact⟨by omega,by omega⟩
  ·rw [hln];show(0:Int) <= 20 * (k / (ns.length:Int));omega
  refine⟨_,rfl,_,_,rfl,rfl,_,rfl,?_⟩
  refine ite2 (fun c2=>?_) (fun c2=>?_)
  ·exact⟨_,rfl,_,rfl,_,_,rfl,rfl,hm,q _ (emod_nonneg _ (by omega)) (Int.emod_lt_of_pos _ hm)⟩
  ·refine⟨_,rfl,_,_,rfl,rfl,(by show(0:Int) < 1000003;decide),_,rfl,_,_,rfl,rfl,.inl ⟨by decide,by decide⟩,_,rfl,_,_,rfl,rfl,.inr ⟨by omega,by omega⟩,_,_,rfl,rfl,_,_,rfl,rfl,?_⟩
   refine⟨_,rfl,_,_,rfl,rfl,.inr ⟨by decide,by decide⟩,_,_,rfl,rfl,(by show(0:Int) < 999983;decide),_,_,rfl,rfl,.inr ⟨by decide,by decide⟩,_,_,rfl,rfl,(by show(0:Int) < 524287;decide),_,rfl,_,_,rfl,rfl,hm,?_⟩
   exact q _ (emod_nonneg _ (by omega)) (Int.emod_lt_of_pos _ hm)
 ·refine⟨_,rfl,_,_,rfl,rfl,_,rfl,?_⟩
  refine ite2 (fun c2=>?_) (fun c2=>?_)
  ·exact⟨_,rfl,_,rfl,_,_,rfl,rfl,hm,q _ (emod_nonneg _ (by omega)) (Int.emod_lt_of_pos _ hm)⟩
  ·refine⟨_,rfl,_,_,rfl,rfl,(by show(0:Int) < 1000003;decide),_,rfl,_,_,rfl,rfl,.inl ⟨by decide,by decide⟩,_,rfl,_,_,rfl,rfl,.inr ⟨by omega,by omega⟩,_,_,rfl,rfl,_,_,rfl,rfl,?_⟩
   refine⟨_,rfl,_,_,rfl,rfl,.inr ⟨by decide,by decide⟩,_,_,rfl,rfl,(by show(0:Int) < 999983;decide),_,_,rfl,rfl,.inr ⟨by decide,by decide⟩,_,_,rfl,rfl,(by show(0:Int) < 524287;decide),_,rfl,_,_,rfl,rfl,hm,?_⟩
   exact q _ (emod_nonneg _ (by omega)) (Int.emod_lt_of_pos _ hm)
abbrev a7t:Stmt:=top 32
theorem c1j:FnScope ["_law_tape","_law_many"] ["_law_tape","_law_many"] (a0e a7t):=⟨rfl,rfl,rfl,by decide +kernel,rfl,by decide +kernel,by decide +kernel⟩
theorem d7u{f f1 f2:Addr}{fd fd1 fd2:FuncData} (F:Fun K "_law_next" "_law_next" a7t f fd) (B:Bl mg) (a3g:Def K mg "_law_cell_at" a3y ["_law_script","_law_k"] f1 fd1)
  (b0u:Def K mg "_law_by" b0t ["_law_script","_law_k","_law_many"] f2 fd2):FnOk P w K mg base CX0 3 f fd ["_law_tape","_law_many"] (spD K c0i):=by
 have d2a:FnOk P w K mg base CX0 2 f2 fd2 ["_law_script","_law_k","_law_many"] (spBy K):=ok_by b0u.fn B a3g
 refine F.ok c1j (fun vs H Q E h=>?_) (fun cdv A outer s H vs Q E hr h=>?_)
 ·obtain⟨c,O,ls,Qd,_,_,_,_,_,R,⟨k,many,rfl,_⟩,_⟩:=h
  have:=R.len
  rw [length_map] at this
  exact this
 obtain⟨c,O,ls,Qd,_,_,_,_,_,R,⟨k,many,rfl,hm,hk2,q⟩,fin⟩:=h
 obtain⟨t,hO,hσ0,ht⟩:=R.tap 0 k rfl
 obtain⟨v1,hσ1,a1⟩:=R.dat 1 _ rfl
 have e1:=a9t a1
 subst e1
 have hvs:vs=[.ref t,.int many]:=by
  have hl:=R.len
  rw [length_map] at hl
  obtain⟨x,us,rfl,h1⟩:=usS (n:=1) (by first | exact hl | exact hl.symm)
  obtain⟨y,us,rfl,h2⟩:=usS (n:=0) h1
  obtain rfl:=eq_nil_of_length_eq_zero h2
  have e0:x=.ref t:=by simpa using hσ0
  have e1:y=.int many:=by simpa using hσ1
  rw [e0,e1]
 subst hvs
 have hs:=R.sc
 have hl:c.ns.length <= 63:=by simpa using hs.2.1
 refine⟨_,(a0v (d9c (a2e b1g (a6y a6j (pv 0) a1g (fun _ _=>rfl)) a1g) (d9b (pv 0) a1g set_list))
  (a1n (a2j (a3c b0u d2a hr rfl (a0i (a6y a6j (pv 0) a1g (fun _ _=>rfl)) (a0i (a6y a6j (pv 0) a1g (fun _ _=>rfl)) (a0i (pv 1) a0r))))))),?_⟩
 have ht':(upd H t (.lst ([V.ref c.sa,V.int k].set 1 (.int ((k:Int) + 1))))) t=some (.lst [.ref c.sa,.int ((k:Int) + 1)]):=a0j
 obtain⟨R2,P2⟩:=R.write (l:=.tape (k + 1)) (xs:=[]) (vs':=[.ref c.sa,.int ((k + 1:Nat):Int)]) hO ht (.inr (.inr ⟨k,rfl⟩)) (.inr (.inr ⟨k,k + 1,rfl,rfl,rfl⟩))
 have ek:((k + 1:Nat):Int)=(k:Int) + 1:=by omega
 rw [ek] at R2
 refine⟨_,rfl,t,_,1,_,rfl,rfl,SqL.of ht,rfl,_,_,rfl,rfl,_,rfl,t,_,1,1,rfl,rfl,ht,rfl,?_⟩
 refine⟨_,rfl,t,_,0,_,rfl,rfl,SqL.of ht',rfl,_,rfl,t,_,1,_,rfl,rfl,SqL.of ht',rfl,_,rfl,?_⟩
 refine⟨_,c.ns,_,_,rfl,R2.sc.seq,hl,by omega,by omega,hm,fun r h0 h1=>?_⟩
 exact fin (.d (.int r)) O [some (.tape (k + 1)),some (.d (.int many))] _ _ _ (q r h0 h1) ⟨R2,a3o r⟩
end
abbrev b4z(P:Program)(w:World)(K:W.Frag)(mg:Str->Option Value)(base:Heap)(n:Nat)(f:Addr)(fd:FuncData):Prop:=FnOk P w K mg base CX0 n f fd ["_law_tape","_law_many"] (spD K c0i)
abbrev b5a(K:W.Frag)(mg:Str->Option Value)(f:Addr)(fd:FuncData):Prop:=Def K mg "_law_next" a7t ["_law_tape","_law_many"] f fd
open Tr
abbrev encH(hs:List Str):PyData:=.tuple (hs.map .str)
noncomputable def a4i:Stp Str->PyData
 | .on=>.tuple [.str "on"]
 | .back=>.tuple [.str "back"]
 | .one hs=>.tuple [.str "one",encH hs]
 | .pool hs=>.tuple [.str "pool",encH hs]
noncomputable def enc:Fm Str->PyData
 | .fact z=>.tuple [.str "fact",.str z]
 | .wish z=>.tuple [.str "wish",.str z]
 | .neg a=>.tuple [.str "not",enc a]
 | .two c a b=>.tuple [.str (if c then "and" else "or"),enc a,enc b]
 | .mod c st a=>.tuple [.str (if c then "every" else "some"),a4i st,enc a]
 | .bind m x a=>.tuple [.str (if m then "most" else "least"),.str x,enc a]
 | .sho hs a b=>.tuple [.str "show",encH hs,enc a,enc b]
noncomputable def szF:Fm Str->Nat
 | .fact _=>1
 | .wish _=>1
 | .neg a=>szF a + 1
 | .two _ a b=>szF a + szF b + 1
 | .mod _ _ a=>szF a + 1
 | .bind _ _ a=>szF a + 1
 | .sho _ a b=>szF a + szF b + 1
theorem a8i:∀ a:Fm Str,1 <= szF a
 | .fact _=>Nat.le_refl _
 | .wish _=>Nat.le_refl _
 | .neg a=>succ_le_succ (zero_le _)
 | .two _ a b=>succ_le_succ (zero_le _)
 | .mod _ _ a=>succ_le_succ (zero_le _)
 | .bind _ _ a=>succ_le_succ (zero_le _)
 | .sho _ a b=>succ_le_succ (zero_le _)
noncomputable def nmAt(b:Nat):List Str:=match b with
 | 0=>["x","p"]
 | 1=>["xy","pq"]
 | _=>["y","q"]
def Lv(F:List (Str × Bool))(b:Nat):Prop:=∀ q ∈ F,∃ c,c < b/\q.1 ∈ nmAt c
noncomputable def NM:List Str:=["p","pq","q","zz","x","xy","y"]
noncomputable def HL:List (List Str):=[["a"],["ab"],["b"],["a","b"],["a","ab"],["a","ab","b"],["ab","b"],["a","zz"]]
noncomputable def smS:Stp Str->Prop
 | .one hs=>hs.length <= 3
 | .pool hs=>hs.length <= 3
 | _=>True
noncomputable def wS:Stp Str->Prop
 | .one hs=>hs ∈ HL
 | .pool hs=>hs ∈ HL
 | _=>True
noncomputable def Wl:Fm Str->Nat->Nat->Prop
 | .fact z,_,_=>z ∈ NM
 | .wish z,_,_=>z ∈ NM
 | .neg a,b,s=>Wl a b s
 | .two _ a c,b,s=>Wl a b s/\Wl c b s
 | .mod _ st a,b,s=>wS st/\Wl a b s
 | .bind _ x a,b,s=>(b < 3/\x ∈ nmAt b)/\Wl a (b + 1) s
 | .sho hs a c,b,s=>(s < 2/\hs ∈ HL)/\Wl a b (s + 1)/\Wl c b (s + 1)
noncomputable def smF:Fm Str->Prop
 | .fact _=>True
 | .wish _=>True
 | .neg a=>smF a
 | .two _ a b=>smF a/\smF b
 | .mod _ st a=>smS st/\smF a
 | .bind _ _ a=>smF a
 | .sho hs a b=>hs.length <= 3/\smF a/\smF b
theorem c5f:∀ hs ∈ HL,hs ≠ []/\hs.length <= 3:=by decide +kernel
theorem e3s:∀ z ∈ NM,PyData.strOk z=true:=by decide +kernel
theorem d3y:∀ b < 3,∀ z ∈ nmAt b,z ∈ NM:=by decide +kernel
theorem wS.ok:∀ {st:Stp Str},wS st->okS st/\smS st
 | .on,_=>⟨trivial,trivial⟩
 | .back,_=>⟨trivial,trivial⟩
 | .one hs,h=>c5f hs h
 | .pool hs,h=>c5f hs h
theorem Wl.sm:∀ (a:Fm Str) {b s:Nat},Wl a b s->smF a
 | .fact _,_,_,_=>trivial
 | .wish _,_,_,_=>trivial
 | .neg a,_,_,h=>Wl.sm a h
 | .two _ a c,_,_,h=>⟨Wl.sm a h.1,Wl.sm c h.2⟩
 | .mod _ _ a,_,_,h=>⟨h.1.ok.2,Wl.sm a h.2⟩
 | .bind _ _ a,_,_,h=>Wl.sm a h.2
 | .sho hs a c,_,_,h=>⟨(c5f hs h.1.2).2,Wl.sm a h.2.1,Wl.sm c h.2.2⟩
structure FOk(F:List (Str × Bool))(n b s:Nat)(a:Fm Str):Prop where
 pos:Pos a F
 size:szF a <= n
 wl:Wl a b s
def b2g:DSp:=fun ls Q=>∃ k:Nat,ls=[.tape k]/\k < 999999/\∀ hs:List Str,hs ∈ HL->Q (.d (encH hs)) [some (.tape (k + 1))]
def c0j:DSp:=fun ls Q=>∃ k:Nat,ls=[.tape k]/\k < 999990/\∀ (st:Stp Str) (k':Nat),k' <= k + 2->wS st->Q (.d (a4i st)) [some (.tape k')]
section
variable{P:Program}{w:World}{K:W.Frag}{mg:Str->Option Value}{base:Heap}{n:Nat}
abbrev a5i:Stmt:=top 33
theorem b1q:FnScope ["_law_tape","_law_some"] ["_law_tape"] (a0e a5i):=⟨rfl,rfl,rfl,by decide +kernel,rfl,by decide +kernel,by decide +kernel⟩
theorem d2b{f f1:Addr}{fd fd1:FuncData} (F:Fun K "_law_hands" "_law_hands" a5i f fd) (B:Bl mg) (a0x:b5a K mg f1 fd1) (a1k:b4z P w K mg base n f1 fd1) :
  FnOk P w K mg base CX0 (n + 1) f fd ["_law_tape"] (spD K b2g):=by
 refine F.dok b1q (fun cdv A outer s H E hr ls Qd h=>?_) (fun ls Qd h=>by obtain⟨k,e,_⟩:=h;rw [e];rfl)
 obtain⟨k,rfl,hk,q⟩:=h
 refine⟨rfl,?_⟩
 refine⟨_,(a0g (a2c (i:=1) b1q.nd rfl (Or.inl rfl) (a3a (a2f (a0a (a0w (a0a a0d a0c)) (a0a (a0w (a0a a0d a0c)) (a0a (a0w (a0a a0d a0c)) (a0a (a0w (a0a a0d (a0a a0d a0c))) (a0a (a0w (a0a a0d (a0a a0d a0c))) (a0a (a0w (a0a a0d (a0a a0d (a0a a0d a0c)))) (a0a (a0w (a0a a0d (a0a a0d a0c))) (a0a (a0w (a0a a0d (a0a a0d a0c))) a0c)))))))))))
  (a0k (a0q (a1b a0t a1c (dv 1) (a0l [true,false] a0x a1k hr rfl (a0a (dv 0) (a0a a0h a0c))) (fun _ _=>rfl))))),?_⟩
 walk_at "dd"
 refine⟨k,8,rfl,by decide,by omega,fun r h0 h1=>?_⟩
 walk_at "dd"
 refine a4b h0 h1 fun d hd _=>?_
 simp only [mem_cons,not_mem_nil,or_false] at hd
 rcases hd with rfl | rfl | rfl | rfl | rfl | rfl | rfl | rfl
 ·exact q ["a"] (by decide +kernel)
 ·exact q ["ab"] (by decide +kernel)
 ·exact q ["b"] (by decide +kernel)
 ·exact q ["a","b"] (by decide +kernel)
 ·exact q ["a","ab"] (by decide +kernel)
 ·exact q ["a","ab","b"] (by decide +kernel)
 ·exact q ["ab","b"] (by decide +kernel)
 ·exact q ["a","zz"] (by decide +kernel)
abbrev a7u:Stmt:=top 34
theorem b2w:FnScope ["_law_tape","_law_way"] ["_law_tape"] (a0e a7u):=⟨rfl,rfl,rfl,by decide +kernel,rfl,by decide +kernel,by decide +kernel⟩
theorem d7v{f f1 f2:Addr}{fd fd1 fd2:FuncData} (F:Fun K "_law_step" "_law_step" a7u f fd) (B:Bl mg) (a0x:b5a K mg f1 fd1) (a1k:b4z P w K mg base n f1 fd1)
  (a4d:Def K mg "_law_hands" a5i ["_law_tape"] f2 fd2) (a9m:FnOk P w K mg base CX0 n f2 fd2 ["_law_tape"] (spD K b2g)):FnOk P w K mg base CX0 (n + 1) f fd ["_law_tape"] (spD K c0j):=by
 refine F.dok b2w (fun cdv A outer s H E hr ls Qd h=>?_) (fun ls Qd h=>by obtain⟨k,e,_⟩:=h;rw [e];rfl)
 obtain⟨k,rfl,hk,q⟩:=h
 refine⟨rfl,?_⟩
 refine⟨_,(a0g (a2c (i:=1) b2w.nd rfl (Or.inl rfl) (a0l [true,false] a0x a1k hr rfl (a0a (dv 0) (a0a a0h a0c))))
  (a0g (a1m (a1d a6x (a3d _) (dv 1) a0h (a0u _))
  (a0k (a0q (a0w (a0a a0d a0c))))
  a0y)
  (a0g (a1m (a1d (a2v hr.units) a2u (dv 1) a0h (a0u _))
  (a0k (a0q (a0w (a0a a0d a0c))))
  a0y)
  (a0k (a0q (a0w (a0a (a1b a0t a1c (a3a (a2f (a0a a0d (a0a a0d (a0a a0d a0c))))) (a0z a3m a4p (dv 1) a0h) (fun _ _=>rfl)) (a0a (a0l [true] a4d a9m hr rfl (a0a (dv 0) a0c)) a0c)))))))),?_⟩
 walk_at "dd"
 refine⟨k,6,rfl,by decide,by omega,fun r h0 h1=>?_⟩
 walk_at "dd"
 refine a5c (fun c=>q .on _ (by omega) trivial) fun c'=>?_
 walk_at "dd"
 refine a5c (fun c2=>q .back _ (by omega) trivial) fun c2'=>?_
 walk_at "dd"
 refine a4b (by omega) (by simp;omega) fun d hd _=>?_
 refine⟨k + 1,rfl,by omega,fun hs h1=>?_⟩
 walk_at "dd"
 simp at hd
 rcases hd with rfl | rfl
 ·exact q (.one hs) _ (by omega) h1
 ·exact q (.pool hs) _ (by omega) h1
noncomputable def a2h(F:List (Str × Bool)):List PyData:=F.map fun p=>.tuple [.str p.1,.bool p.2]
def b5b:DSp:=fun ls Q=>∃ (k:Nat) (F:List (Str × Bool)),ls=[.tape k,.d (.list (a2h F))]/\k < 999990/\F.length <= 1000/\(∀ p ∈ F,p.1 ∈ NM)/\∀ (s:Fm Str) (k':Nat),k' <= k + 3->(∀ b sh,FOk F 1 b sh s)->Q (.d (enc s)) [some (.tape k'),none]
noncomputable def b5c:PyData->Option PyData
 | .tuple [.str m,.bool false]=>some (.str m)
 | _=>none
theorem b7h{F:List (Str × Bool)}{x:PyData}(h:x ∈ (a2h F).filterMap b5c):∃ m,x=.str m/\(m,false) ∈ F:=by
 obtain⟨y,hy,e⟩:=mem_filterMap.mp h
 obtain⟨⟨m,b⟩,hp,rfl⟩:=mem_map.mp hy
 cases b with
 | true=>cases e
 | false=>cases e;exact⟨m,rfl,hp⟩
theorem c8s{F:List (Str × Bool)}(hS:∀ p ∈ F,p.1 ∈ NM):SeqAt.shaped (.list ((a2h F).filterMap b5c))=true:=by
 have key:∀ xs:List PyData,(∀ x ∈ xs,∃ m,x=.str m/\PyData.strOk m=true)->PyData.canLayAll0 xs=true/\PyData.depthAll xs=0:=fun xs=>by
  induction xs with
  | nil=>intro _;exact⟨rfl,rfl⟩
  | cons x r ih =>
   intro h
   obtain⟨m,rfl,hm⟩:=h x mem_cons_self
   obtain⟨h1,h2⟩:=ih fun y hy=>h y (mem_cons_of_mem _ hy)
   simp [PyData.canLayAll0,PyData.canLay0,PyData.depthAll,PyData.depth,hm,h1,h2]
 obtain⟨h1,h2⟩:=key ((a2h F).filterMap b5c) fun x hx=>by
  obtain⟨m,e,hm⟩:=b7h hx
  exact⟨m,e,e3s _ (hS _ hm)⟩
 simp [SeqAt.shaped,PyData.canLay0,PyData.depth,h1,h2]
abbrev a7v:Stmt:=top 35
theorem b2x:FnScope ["_law_tape","_law_free","_law_some"] ["_law_tape","_law_free"] (a0e a7v):=⟨rfl,rfl,rfl,by decide +kernel,rfl,by decide +kernel,by decide +kernel⟩
theorem d7w{f f1:Addr}{fd fd1:FuncData} (F:Fun K "_law_leaf" "_law_leaf" a7v f fd) (B:Bl mg) (a0x:b5a K mg f1 fd1) (a1k:b4z P w K mg base n f1 fd1) :
  FnOk P w K mg base CX0 (n + 1) f fd ["_law_tape","_law_free"] (spD K b5b):=by
 refine F.dok b2x (fun cdv A outer s H E hr ls Qd h=>?_) (fun ls Qd h=>by obtain⟨k,F,e,_⟩:=h;rw [e];rfl)
 obtain⟨k,F,rfl,hk,hF,hS,q⟩:=h
 refine⟨rfl,?_⟩
 refine⟨_,(a0g (c2o (i:=2) b2x.nd rfl rfl ["_law_name","_law_odd"] [] rfl (by rfl) (by decide +kernel) (a9y (dv 1)) (fun _ _ _=>(b9o (n:=2) rfl (a6o (a2x (i:=0) (show(["_law_name","_law_odd"]:List Str).Nodup by decide +kernel) rfl (Or.inl rfl)) (a6o (a2x (i:=1) (show(["_law_name","_law_odd"]:List Str).Nodup by decide +kernel) rfl (Or.inl rfl)) b5x)))) (fun _ _ _=>(b5z (a8u (b9f (dv 1))))) (fun _ _ _=>(dv 0)))
  (a0g (a1m (DW.toT (b4l (a1d (b4p hr.units) b4o (dv 2) (a3a (a2f a0c)) (a0u _)) (b2d (a1d b3z (a3d _) (a0l [true,false] a0x a1k hr rfl (a0a (dv 0) (a0a a0h a0c))) a0h (a0u _)))))
  (a0k (a0q (a0w (a0a a0d (a0a (a1b a0t a1c (dv 2) (a0l [true,false] a0x a1k hr rfl (a0a (dv 0) (a0a (a3l a2p a5z rfl B.len_ a3i (a0a (dv 2) a0c)) a0c))) (fun _ _=>rfl)) a0c)))))
  a0y)
  (a0k (a0q (a0w (a0a a0d (a0a (a1b a0t a1c (a3a (a2f (a0a a0d (a0a a0d (a0a a0d (a0a a0d a0c)))))) (a0l [true,false] a0x a1k hr rfl (a0a (dv 0) (a0a a0h a0c))) (fun _ _=>rfl)) a0c))))))),?_⟩
 walk_at "dd"
 refine⟨by simp [a2h];omega,b0p (fun ρ=>∃ a b,ρ=[a,b]) b5c ⟨none,none,rfl⟩ (fun x ρ N hx hρ hN=>?_) fun ρ _=>?_⟩
 ·obtain⟨a,b,rfl⟩:=hρ
  obtain⟨⟨m,o⟩,_,rfl⟩:=mem_map.mp hx
  walk_at "dd"
  cases o with
  | true=>exact hN _ ⟨_,_,rfl⟩
  | false=>exact hN _ ⟨_,_,rfl⟩
 generalize hE:(a2h F).filterMap b5c=ev
 have hev:∀ x ∈ ev,∃ m,x=.str m/\(m,false) ∈ F:=fun x hx=>b7h (by rw [hE];exact hx)
 have hsh:=c8s hS
 rw [hE] at hsh
 walk_at "dd"
 rw [b9p rfl hsh rfl]
 walk_at "dd"
 have fact:∀ k',k' <= k + 1->later (dRet (dTup (a5y (dC (PyData.str "fact")) (a5y (dOp fIx (dFz (dLst (a5y (dC (PyData.str "p")) (a5y (dC (PyData.str "pq")) (a5y (dC (PyData.str "q")) (a5y (dC (PyData.str "zz")) dNil)))))) (b4n [true,false] c0i (a5y (dVar 0) (a5y (dC (PyData.int 4)) dNil)))) dNil))))
   { nx:=fun ρ=>Qd (RV.d PyData.none) (mask [L.tape k,L.d (PyData.list (a2h F))] ρ),rt:=fun r ρ=>Qd r (mask [L.tape k,L.d (PyData.list (a2h F))] ρ) } [some (L.tape k'),some (L.d (PyData.list (a2h F))),some (L.own ev)]:=fun k' hk'=>by
  walk_at "dd"
  refine⟨k',4,rfl,by decide,by omega,fun r h0 h1=>?_⟩
  walk_at "dd"
  refine a4b h0 h1 fun d hd _=>?_
  walk_at "dd"
  simp at hd
  rcases hd with rfl | rfl | rfl | rfl<;>exact q (.fact _) _ (by omega) fun _ _=>⟨trivial,Nat.le_refl _,(by decide +kernel:_ ∈ NM)⟩
 refine b4q (fun c=>?_) (fun c=>?_)
 ·have hne:0 < ev.length:=by
   cases ev with
   | nil=>simp [PyData.eqv,PyData.eqvAll] at c
   | cons _ _=>simp
  have hle:ev.length <= F.length:=by
   rw [← hE]
   exact Nat.le_trans (List.length_filterMap_le _ _) (by simp [a2h])
  refine⟨k,3,rfl,by decide,by omega,fun r h0 h1=>?_⟩
  walk_at "dd"
  refine a5c (fun c2=>?_) (fun c2=>fact _ (by omega))
  refine⟨k + 1,ev.length,rfl,by omega,by omega,fun r2 h2 h3=>?_⟩
  walk_at "dd"
  refine a4b h2 h3 fun d hd _=>?_
  walk_at "dd"
  obtain⟨m,rfl,hm⟩:=hev d hd
  exact q (.wish m) _ (by omega) fun _ _=>⟨hm,Nat.le_refl _,hS _ hm⟩
 ·exact fact _ (by omega)
end
open Tr
def b8f(m:Nat):DSp:=fun ls Q=>∃ (k size b sh:Nat) (F:List (Str × Bool)),ls=[.tape k,.d (.int size),.d (.list (a2h F)),.d (.int b),.d (.int sh)]/\1 <= size/\size <= m/\size <= 100/\b <= 3/\F.length <= b/\Lv F b/\k + 10 * size <= 990000/\(∀ p ∈ F,p.1 ∈ NM) /\
 ∀ (s:Fm Str) (k':Nat),k' <= k + 10 * size->FOk F size b sh s->Q (.d (enc s)) [some (.tape k'),none,none,none,none]
noncomputable def b8g:PyData->Option PyData
 | .tuple [.str m,.bool o]=>some (.tuple [.str m,.bool !o])
 | _=>none
theorem d2c(F:List (Str × Bool)):(a2h F).filterMap b8g=a2h (flip F):=by
 induction F with
 | nil=>rfl
 | cons p r ih =>
  obtain⟨m,o⟩:=p
  show(PyData.tuple [.str m,.bool o] :: a2h r).filterMap b8g=_
  have e:b8g (PyData.tuple [.str m,.bool o])=some (PyData.tuple [.str m,.bool !o]):=rfl
  rw [List.filterMap_cons_some e,ih]
  rfl
theorem d7x{F:List (Str × Bool)}(h:∀ p ∈ F,p.1 ∈ NM):∀ p ∈ flip F,p.1 ∈ NM:=fun p hp=>by
 obtain⟨q,hq,rfl⟩:=mem_map.mp hp
 exact h q hq
theorem Lv.flip{F:List (Str × Bool)}{b:Nat}(h:Lv F b):Lv (Tr.flip F) b:=fun q hq=>by
 obtain⟨u,hu,rfl⟩:=mem_map.mp hq
 exact h u hu
theorem e3t{F:List (Str × Bool)}{b:Nat}{x:Str}(h:Lv F b)(hb:b < 3)(hx:x ∈ nmAt b):x ∉ F.map (·.1):=fun hm=>by
 obtain⟨q,hq,e⟩:=mem_map.mp hm
 obtain⟨c,hc,hn⟩:=h q hq
 rw [e] at hn
 have:∀ a < 3,∀ c < a,∀ y ∈ nmAt a,y ∉ nmAt c:=by decide +kernel
 exact this b hb c hc x hx hn
theorem Lv.snoc{F:List (Str × Bool)}{b:Nat}{x:Str}(h:Lv F b)(hx:x ∈ nmAt b):Lv (F ++ [(x,false)]) (b + 1):=fun q hq=>by
 rcases mem_append.mp hq with hq | hq
 ·obtain⟨c,hc,hn⟩:=h q hq
  exact⟨c,by omega,hn⟩
 ·rw [mem_singleton.mp hq];exact⟨b,by omega,hx⟩
theorem zE(j:Nat):((j + 1:Nat):Int) - 1=((j:Nat):Int):=by omega
theorem zT(fi s2:Nat):((1 + fi + s2 + 1:Nat):Int) - 1 - (1 + (fi:Int))=((s2:Nat):Int):=by omega
theorem ykD{k j i:Nat}(h:k + 10 * (j + 1) <= 990000)(hi:i <= 10):k + i + 10 * j <= 990000:=by omega
theorem ykB{k j i:Nat}(h:k + 10 * (j + 1) <= 990000)(hi:i <= 10):k + i < 1000000:=by omega
theorem ykC{k j i:Nat}(h:k + 10 * (j + 1) <= 990000)(hi:i <= 10):k + i < 999990:=by omega
theorem ykR{k j i k':Nat}(hi:i <= 10)(h:k' <= k + i + 10 * j):k' <= k + 10 * (j + 1):=by omega
theorem ykS{k j i k':Nat}(hi:i <= 9)(h:k' <= k + i + 10 * j):k' + 1 <= k + 10 * (j + 1):=by omega
theorem ykN{k j i k':Nat}(h:k + 10 * (j + 1) <= 990000)(hi:i <= 9)(h':k' <= k + i + 10 * j):k' < 1000000:=by omega
theorem ykP{k p s:Nat}(h:k + 10 * (p + s + 1) <= 990000):k + 2 + 10 * p <= 990000:=by omega
theorem ykV{k p s k':Nat}(h:k + 10 * (p + s + 1) <= 990000)(h':k' <= k + 2 + 10 * p):k' < 999999:=by omega
theorem ykW{k p s k':Nat}(h:k + 10 * (p + s + 1) <= 990000)(h':k' <= k + 2 + 10 * p):k' < 1000000:=by omega
theorem ykT{k p s k':Nat}(h:k + 10 * (p + s + 1) <= 990000)(h':k' <= k + 2 + 10 * p):k' + 1 + 10 * s <= 990000:=by omega
theorem ykU{k p s k' k2:Nat}(h':k' <= k + 2 + 10 * p)(h2:k2 <= k' + 1 + 10 * s):k2 <= k + 10 * (p + s + 1):=by omega
theorem b012{b:Nat}(h:b < 3):b=0 ∨ b=1 ∨ b=2:=by omega
theorem frL{F:List (Str × Bool)}{b:Nat}(h:F.length <= b)(hb:b <= 3):(a2h F).length <= 1000000:=by simp [a2h];omega
theorem frA{F:List (Str × Bool)}{b:Nat}{x:PyData}(h:F.length <= b)(hb:b <= 3):(a2h F).length + [x].length <= sizeLine:=by
 have:(a2h F).length=F.length:=by simp [a2h]
 rw [this,sizeLine_eq,length_singleton];omega
section
variable{P:Program}{w:World}{K:W.Frag}{mg:Str->Option Value}{base:Heap}{n:Nat}
abbrev a3p:Stmt:=top 36
theorem a1q:FnScope ["_law_tape","_law_size","_law_free","_law_binders","_law_shows","_law_way","_law_flipped","_law_word","_law_name","_law_body","_law_first","_law_told","_law_one"] ["_law_tape","_law_size","_law_free","_law_binders","_law_shows"] (a0e a3p):=⟨rfl,rfl,rfl,by decide +kernel,rfl,by decide +kernel,by decide +kernel⟩
theorem c1k{f f1 f2 f3 f4:Addr}{fd fd1 fd2 fd3 fd4:FuncData} (F:Fun K "_law_sentence" "_law_sentence" a3p f fd) (B:Bl mg) (a0x:b5a K mg f1 fd1)
  (a4d:Def K mg "_law_hands" a5i ["_law_tape"] f2 fd2) (b0v:Def K mg "_law_step" a7u ["_law_tape"] f3 fd3) (b0w:Def K mg "_law_leaf" a7v ["_law_tape","_law_free"] f4 fd4)
  (a1i:Def K mg "_law_sentence" a3p ["_law_tape","_law_size","_law_free","_law_binders","_law_shows"] f fd) {m:Nat} (a1k:b4z P w K mg base n f1 fd1) (a9m:FnOk P w K mg base CX0 n f2 fd2 ["_law_tape"] (spD K b2g))
  (c5g:FnOk P w K mg base CX0 n f3 fd3 ["_law_tape"] (spD K c0j)) (c5h:FnOk P w K mg base CX0 n f4 fd4 ["_law_tape","_law_free"] (spD K b5b)) (a1u:FnOk P w K mg base CX0 n f fd ["_law_tape","_law_size","_law_free","_law_binders","_law_shows"] (spD K (b8f m))) :
  FnOk P w K mg base CX0 (n + 1) f fd ["_law_tape","_law_size","_law_free","_law_binders","_law_shows"] (spD K (b8f (m + 1))):=by
 refine F.dok a1q (fun cdv A outer s H E hr ls Qd h=>?_) (fun ls Qd h=>by obtain⟨k,_,_,_,F,e,_⟩:=h;rw [e];rfl)
 obtain⟨k,size,b,sh,F,rfl,hs1,hs2,hs3,hb,hF,hv,hk,hS,q⟩:=h
 refine⟨rfl,?_⟩
 refine⟨_,(a0g (a2c (i:=5) a1q.nd rfl (Or.inl rfl) (a0l [true,false] a0x a1k hr rfl (a0a (dv 0) (a0a a0h a0c))))
  (a0g (a1m (DW.toT (b7v (a1d a6x (a3d _) (dv 1) a0h (a0u _)) (b4k (a1d (a2v hr.units) a2u (dv 5) a0h (a0u _)))))
  (a0k (a0q (a0l [true,false] b0w c5h hr rfl (a0a (dv 0) (a0a (dv 2) a0c)))))
  a0y)
  (a0g (a1m (a1d (a2v hr.units) a2u (dv 5) a0h (a0u _))
  (a0g (c2o (i:=6) a1q.nd rfl rfl ["_law_name","_law_odd"] [] rfl (by rfl) (by decide +kernel) (a9y (dv 2)) (fun _ _ _=>(b9o (n:=2) rfl (a6o (a2x (i:=0) (show(["_law_name","_law_odd"]:List Str).Nodup by decide +kernel) rfl (Or.inl rfl)) (a6o (a2x (i:=1) (show(["_law_name","_law_odd"]:List Str).Nodup by decide +kernel) rfl (Or.inl rfl)) b5x)))) (fun _ _ _=>b5y) (fun _ _ _=>(a0w (a0a (dv 0) (a0a (e0c (dv 1)) a0c)))))
  (a0k (a0q (a0w (a0a a0d (a0a (a0l [true,false,false,false,false] a1i a1u hr rfl (a0a (dv 0) (a0a (a0z a3m a4p (dv 1) a0h) (a0a (dv 6) (a0a (dv 3) (a0a (dv 4) a0c)))))) a0c))))))
  a0y)
  (a0g (a1m (DW.toT (b7v (a1d a6x (a3d _) (dv 5) a0h (a0u _)) (b4k (a1d a6x (a3d _) (dv 1) a0h (a0u _)))))
  (a0g (a2c (i:=7) a1q.nd rfl (Or.inl rfl) (a1b a0t a1c (a3a (a2f (a0a a0d (a0a a0d a0c)))) (a0l [true,false] a0x a1k hr rfl (a0a (dv 0) (a0a a0h a0c))) (fun _ _=>rfl)))
  (a0k (a0q (a0w (a0a (dv 7) (a0a (a0l [true] b0v c5g hr rfl (a0a (dv 0) a0c)) (a0a (a0l [true,false,false,false,false] a1i a1u hr rfl (a0a (dv 0) (a0a (a0z a3m a4p (dv 1) a0h) (a0a (dv 2) (a0a (dv 3) (a0a (dv 4) a0c)))))) a0c)))))))
  a0y)
  (a0g (a1m (DW.toT (b4l (a1d a6x (a3d _) (dv 5) a0h (a0u _)) (b2d (a1d a6x (a3d _) (dv 3) a0h (a0u _)))))
  (a0g (a2c (i:=8) a1q.nd rfl (Or.inl rfl) (a1b a0t a1c (a1b a0t a1c (a3a (a2f (a0a (a3a (a2f (a0a a0d (a0a a0d (a0a a0d a0c))))) (a0a (a3a (a2f (a0a a0d (a0a a0d (a0a a0d a0c))))) a0c)))) (a0l [true,false] a0x a1k hr rfl (a0a (dv 0) (a0a a0h a0c))) (fun _ _=>rfl)) (dv 3) (fun _ _=>rfl)))
  (a0g (a2c (i:=9) a1q.nd rfl (Or.inl rfl) (a0l [true,false,false,false,false] a1i a1u hr rfl (a0a (dv 0) (a0a (a0z a3m a4p (dv 1) a0h) (a0a (a0z a0p a1e (dv 2) (a3a (a2f (a0a (a0w (a0a (dv 8) (a0a a4g a0c))) a0c)))) (a0a (a0z a0p a1e (dv 3) a0h) (a0a (dv 4) a0c)))))))
  (a0k (a0q (a0w (a0a (a1b a0t a1c (a3a (a2f (a0a a0d (a0a a0d a0c)))) (a0l [true,false] a0x a1k hr rfl (a0a (dv 0) (a0a a0h a0c))) (fun _ _=>rfl)) (a0a (dv 8) (a0a (dv 9) a0c))))))))
  a0y)
  (a0g (a2c (i:=10) a1q.nd rfl (Or.inl rfl) (a0z a0p a1e a0h (a0l [true,false] a0x a1k hr rfl (a0a (dv 0) (a0a (a0z a3m a4p (dv 1) a0h) a0c)))))
  (a0g (a1m (DW.toT (b4l (a1d (a2v hr.units) a2u (dv 5) a0h (a0u _)) (b2d (a1d a6x (a3d _) (dv 4) a0h (a0u _)))))
  (a0g (a2c (i:=11) a1q.nd rfl (Or.inl rfl) (a0l [true,false,false,false,false] a1i a1u hr rfl (a0a (dv 0) (a0a (dv 10) (a0a (a3a (a2f a0c)) (a0a (dv 3) (a0a (a0z a0p a1e (dv 4) a0h) a0c)))))))
  (a0k (a0q (a0w (a0a a0d (a0a (a0l [true] a4d a9m hr rfl (a0a (dv 0) a0c)) (a0a (dv 11) (a0a (a0l [true,false,false,false,false] a1i a1u hr rfl (a0a (dv 0) (a0a (a0z a3m a4p (a0z a3m a4p (dv 1) a0h) (dv 10)) (a0a (a3a (a2f a0c)) (a0a (dv 3) (a0a (a0z a0p a1e (dv 4) a0h) a0c)))))) a0c))))))))
  a0y)
  (a0g (a2c (i:=12) a1q.nd rfl (Or.inl rfl) (a0l [true,false,false,false,false] a1i a1u hr rfl (a0a (dv 0) (a0a (dv 10) (a0a (dv 2) (a0a (dv 3) (a0a (dv 4) a0c)))))))
  (a0k (a0q (a0w (a0a (a1b a0t a1c (a3a (a2f (a0a a0d (a0a a0d a0c)))) (a0l [true,false] a0x a1k hr rfl (a0a (dv 0) (a0a a0h a0c))) (fun _ _=>rfl)) (a0a (dv 12) (a0a (a0l [true,false,false,false,false] a1i a1u hr rfl (a0a (dv 0) (a0a (a0z a3m a4p (a0z a3m a4p (dv 1) a0h) (dv 10)) (a0a (dv 2) (a0a (dv 3) (a0a (dv 4) a0c)))))) a0c)))))))))))))),?_⟩
 walk_at "dd"
 refine⟨k,12,rfl,by decide,by omega,fun way h0 h1=>?_⟩
 walk_at "dd"
 have leaf:b5b [L.tape (k + 1),L.d (PyData.list (a2h F))] fun r outs=>match r with
   | RV.d x=>Qd (RV.d x) [outs[0]?.join.bind (a6a (L.tape (k + 1))),none,none,none,none]
   | RV.new ys=>Qd (RV.d (PyData.list ys)) [outs[0]?.join.bind (a6a (L.tape (k + 1))),none,none,none,none]:=by
  refine⟨k + 1,F,rfl,by omega,by omega,hS,fun s k' hk' ok=>?_⟩
  walk_at "dd"
  exact q s k' (by omega) ⟨(ok b sh).pos,Nat.le_trans (ok b sh).size hs1,(ok b sh).wl⟩
 refine c7s (fun _=>leaf) fun c1 c2=>?_
 obtain⟨j,rfl,hj1⟩:∃ j,size=j + 1/\1 <= j:=⟨size - 1,by omega,by omega⟩
 have hjm:j <= m:=Nat.le_of_succ_le_succ hs2
 have hj3:j <= 100:=Nat.le_of_succ_le hs3
 have e1:((j + 1:Nat):Int) - 1=((j:Nat):Int):=zE j
 walk_at "dd"
 refine a5c (fun c3=>?_) fun c3=>?_
 ·-- not
  walk_at "dd"
  refine⟨frL hF hb,b0p (fun ρ=>∃ a b,ρ=[a,b]) b8g ⟨none,none,rfl⟩ (fun x ρ N hx hρ hN=>?_) fun ρ _=>?_⟩
  ·obtain⟨a,b,rfl⟩:=hρ
   obtain⟨⟨m,o⟩,_,rfl⟩:=mem_map.mp hx
   walk_at "dd"
   exact hN _ ⟨_,_,rfl⟩
  rw [d2c]
  walk_at "dd"
  refine⟨k + 1,j,b,sh,flip F,by rw [e1],hj1,hjm,hj3,hb,by simpa [Tr.flip] using hF,hv.flip,ykD hk (by decide:1 <= 10),d7x hS,fun s k' hk' ok=>?_⟩
  walk_at "dd"
  exact q (.neg s) k' (ykR (by decide:1 <= 10) hk') ⟨ok.pos,succ_le_succ ok.size,ok.wl⟩
 walk_at "dd"
 refine c7s (fun c4=>?_) fun c4 c5=>?_
 ·-- some, every
  refine⟨k + 1,2,rfl,by decide,ykB hk (by decide:1 <= 10),fun r g0 g1=>?_⟩
  walk_at "dd"
  refine a4b g0 g1 fun wd hwd _=>?_
  walk_at "dd"
  refine⟨k + 2,rfl,ykC hk (by decide:2 <= 10),fun st k2 hk2 hst=>?_⟩
  walk_at "dd"
  refine⟨k2,j,b,sh,F,by rw [e1],hj1,hjm,hj3,hb,hF,hv,Nat.le_trans (Nat.add_le_add_right hk2 _) (ykD (k:=k) (i:=4) hk (by decide)),hS,fun s k' hk' ok=>?_⟩
  have hk3:=ykR (i:=4) (by decide) (Nat.le_trans hk' (Nat.add_le_add_right hk2 _))
  walk_at "dd"
  obtain⟨c,rfl⟩:∃ c:Bool,wd=.str (if c then "every" else "some"):=by
   simp only [mem_cons,not_mem_nil,or_false] at hwd
   rcases hwd with rfl | rfl
   ·exact⟨false,rfl⟩
   ·exact⟨true,rfl⟩
  exact q (.mod c st s) k' hk3 ⟨⟨hst.ok.1,ok.pos⟩,succ_le_succ ok.size,hst,ok.wl⟩
 walk_at "dd"
 refine c2q (fun c6 c7=>?_) fun c6=>?_
 ·-- least, most
  have hb3:b < 3:=by omega
  refine⟨k + 1,2,rfl,by decide,ykB hk (by decide:1 <= 10),fun r g0 g1=>?_⟩
  walk_at "dd"
  refine a4b g0 g1 fun nms hnms _=>?_
  have hx:∃ xs,nms=.list xs/\xs.length=3/\∀ d,xs[b]? = some d->∃ m,d=.str m/\m ∈ nmAt b:=by
   have cb:=b012 hb3
   simp only [mem_cons,not_mem_nil,or_false] at hnms
   rcases hnms with rfl | rfl<;>refine⟨_,rfl,rfl,fun d hd=>?_⟩<;>rcases cb with rfl | rfl | rfl<;>cases hd<;>exact⟨_,rfl,by decide +kernel⟩
  obtain⟨xs,rfl,hxl,hxs⟩:=hx
  walk_at "dd"
  refine a4b (Int.natCast_nonneg b) (by rw [hxl];exact Int.ofNat_lt.mpr hb3) fun d _ hd=>?_
  obtain⟨nm,rfl,hnm⟩:=hxs d (by simpa using hd)
  walk_at "dd"
  have e2:(b:Int) + 1=((b + 1:Nat):Int):=rfl
  have eF:a2h F ++ [PyData.tuple [.str nm,.bool false]]=a2h (F ++ [(nm,false)]):=by simp [a2h]
  rw [c7o (frA hF hb),eF]
  walk_at "dd"
  refine⟨k + 1 + 1,j,b + 1,sh,F ++ [(nm,false)],by rw [e1,e2],hj1,hjm,hj3,hb3,by rw [length_append,length_singleton];exact succ_le_succ hF,hv.snoc hnm,ykD (k:=k) (i:=2) hk (by decide),fun p hp=>?_,fun s k' hk' ok=>?_⟩
  ·rcases mem_append.mp hp with hp | hp
   ·exact hS p hp
   ·rw [mem_singleton.mp hp];exact d3y b hb3 _ hnm
  walk_at "dd"
  refine⟨k',2,rfl,by decide,ykN hk (by decide:2 <= 9) hk',fun r2 g2 g3=>?_⟩
  walk_at "dd"
  refine a4b g2 g3 fun wd hwd _=>?_
  walk_at "dd"
  obtain⟨c,rfl⟩:∃ c:Bool,wd=.str (if c then "most" else "least"):=by
   simp only [mem_cons,not_mem_nil,or_false] at hwd
   rcases hwd with rfl | rfl
   ·exact⟨false,rfl⟩
   ·exact⟨true,rfl⟩
  exact q (.bind c nm s) _ (ykS (by decide:2 <= 9) hk') ⟨⟨e3t hv hb3 hnm,ok.pos⟩,succ_le_succ ok.size,⟨hb3,hnm⟩,ok.wl⟩
 walk_at "dd"
 refine⟨k + 1,((j - 1:Nat):Int),by rw [show((j + 1:Nat):Int) - 2=((j - 1:Nat):Int) by omega],by omega,ykB hk (by decide:1 <= 10),fun r g0 g1=>?_⟩
 walk_at "dd"
 obtain⟨fi,s2,rfl,rfl,hs21⟩:∃ fi s2:Nat,r=fi/\j=1 + fi + s2/\1 <= s2:=⟨r.toNat,j - (1 + r.toNat),by omega,by omega,by omega⟩
 have e3:(1:Int) + (fi:Int)=((1 + fi:Nat):Int):=rfl
 have e4:((1 + fi + s2 + 1:Nat):Int) - 1 - (1 + (fi:Int))=((s2:Nat):Int):=zT fi s2
 have p1:1 <= 1 + fi:=le_add_right 1 fi
 have pm:1 + fi <= m:=Nat.le_trans (le_add_right _ s2) hjm
 have pc:1 + fi <= 100:=Nat.le_trans (le_add_right _ s2) hj3
 have sm:s2 <= m:=Nat.le_trans (Nat.le_add_left s2 _) hjm
 have sc:s2 <= 100:=Nat.le_trans (Nat.le_add_left s2 _) hj3
 refine c2q (fun c7 c8=>?_) fun c7=>?_
 ·-- show
  have e5:(sh:Int) + 1=((sh + 1:Nat):Int):=rfl
  walk_at "dd"
  refine⟨k + 1 + 1,1 + fi,b,sh + 1,[],by rw [e3,e5];rfl,p1,pm,pc,hb,zero_le _,fun p hp=>(by cases hp),ykP hk,fun p hp=>(by cases hp),fun s k' hk' ok=>?_⟩
  walk_at "dd"
  refine⟨k',rfl,ykV hk hk',fun h hl=>?_⟩
  walk_at "dd"
  refine⟨k' + 1,s2,b,sh + 1,[],by rw [e4,e5];rfl,hs21,sm,sc,hb,zero_le _,fun p hp=>(by cases hp),ykT hk hk',fun p hp=>(by cases hp),fun t k2 hk2 ok2=>?_⟩
  walk_at "dd"
  exact q (.sho h s t) _ (ykU hk' hk2) ⟨⟨ok.pos,ok2.pos⟩,succ_le_succ (Nat.add_le_add ok.size ok2.size),⟨Int.ofNat_lt.mp c8,hl⟩,ok.wl,ok2.wl⟩
 ·walk_at "dd"
  refine⟨k + 1 + 1,1 + fi,b,sh,F,by rw [e3],p1,pm,pc,hb,hF,hv,ykP hk,hS,fun s k' hk' ok=>?_⟩
  walk_at "dd"
  refine⟨k',2,rfl,by decide,ykW hk hk',fun r2 g2 g3=>?_⟩
  walk_at "dd"
  refine a4b g2 g3 fun wd hwd _=>?_
  walk_at "dd"
  refine⟨k' + 1,s2,b,sh,F,by rw [e4],hs21,sm,sc,hb,hF,hv,ykT hk hk',hS,fun t k2 hk2 ok2=>?_⟩
  walk_at "dd"
  obtain⟨c,rfl⟩:∃ c:Bool,wd=.str (if c then "and" else "or"):=by
   simp only [mem_cons,not_mem_nil,or_false] at hwd
   rcases hwd with rfl | rfl
   ·exact⟨true,rfl⟩
   ·exact⟨false,rfl⟩
  exact q (.two c s t) _ (ykU hk' hk2) ⟨⟨ok.pos,ok2.pos⟩,succ_le_succ (Nat.add_le_add ok.size ok2.size),ok.wl,ok2.wl⟩
end
open Tr
theorem c0k(h:Str):∀ hs:List Str,inF (.str h) (hs.map .str)=decide (h ∈ hs)
 | []=>rfl
 | x :: r=>by
  rw [map_cons,d3r,c0k h r]
  by_cases c:x=h
  ·subst c;simp
  ·have c2:¬ h=x:=fun e=>c e.symm
   simp [c,c2]
theorem b7i:∀ hs:List Str,(hs.map PyData.str).all a1l=true
 | []=>rfl
 | x :: r=>by rw [map_cons,all_cons,b7i r];rfl
noncomputable def sw:Stp Str->Str
 | .on => "on"
 | .back => "back"
 | .one _ => "one"
 | .pool _ => "pool"
noncomputable def low(c:Nat):Bool:=decide (97 <= c) && decide (c <= 122)
noncomputable def a1v(x:Str):Bool:=decide (1 <= x.length) && decide (x.length <= 8) && x.cps.toList.all low
theorem leC_a(c:Nat):leC "a" ⟨#[c]⟩=decide (97 <= c):=by
 have e:(Str.ofString "a").cps.toList=[97]:=by decide +kernel
 unfold leC
 rw [e]
 show decide ([97] <= [c])=_
 rw [Bool.eq_iff_iff]
 simp [List.cons_le_cons_iff]
 omega
theorem leC_z(c:Nat):leC ⟨#[c]⟩ "z" = decide (c <= 122):=by
 have e:(Str.ofString "z").cps.toList=[122]:=by decide +kernel
 unfold leC
 rw [e]
 show decide ([c] <= [122])=_
 rw [Bool.eq_iff_iff]
 simp [List.cons_le_cons_iff]
 omega
theorem e3u{x:Str}(h:x.length <= 1000):fLen [.str x]=some (.int (x.length:Int)):=if_pos (by rw [sizeLine_eq];omega)
theorem d7y(x:Str):x.cps.toList.length=x.length:=by simp [Str.length]
noncomputable def a9f(p:Str):List Str->Bool
 | []=>true
 | x :: r=>a1v x && !leC x p && a9f x r
theorem d7z:∀ hs ∈ HL,a9f "" hs=true/\1 <= hs.length:=by decide +kernel
theorem b6f:∀ z ∈ NM,a1v z=true:=by decide +kernel
def a9a:DSp:=fun ls Q=>∃ z:Str,ls=[.d (.str z)]/\a1v z=true/\Q (.d (.bool true)) [none]
def c0l:DSp:=fun ls Q=>∃ hs:List Str,ls=[.d (encH hs)]/\a9f "" hs=true/\Q (.d (.bool true)) [none]
def a9g:DSp:=fun ls Q=>∃ hs:List Str,ls=[.d (encH hs)]/\(a9f "" hs=true/\1 <= hs.length/\hs.length <= 4)/\Q (.d (.bool true)) [none]
section
variable{P:Program}{w:World}{K:W.Frag}{mg:Str->Option Value}{base:Heap}{n:Nat}
abbrev a7l:Stmt:=top 2
theorem c5i:FnScope ["thing"] ["thing"] (a0e a7l):=⟨rfl,rfl,rfl,by decide +kernel,rfl,by decide +kernel,by decide +kernel⟩
theorem c5j{f:Addr}{fd:FuncData} (F:Fun K "is_name" "is_name" a7l f fd) (B:Bl mg) (m_LONGEST_NAME:∃ t,mg "LONGEST_NAME" = some (.int 8 t)):FnOk P w K mg base CX0 (n + 1) f fd ["thing"] (spD K a9a):=by
 refine F.dok c5i (fun cdv A outer s H E hr ls Qd h=>?_) (fun ls Qd h=>by obtain⟨_,e,_⟩:=h;rw [e];rfl)
 obtain⟨x,rfl,hx,q⟩:=h
 refine⟨rfl,?_⟩
 refine⟨_,(a0g (a1m (a8u (a7j (b2f rfl B.isinstance_ rfl B.str_ c6w rfl (dv 0))))
  (a0k (a0q a4g))
  a0y)
  (a0k (a0q (c7c (b3c b7t (a3d _) b7t (a3d _) a0h (a3l a2p a5z rfl B.len_ a3i (a0a (dv 0) a0c)) (b2c rfl m_LONGEST_NAME)) (c7b (a3l (c8i rfl) d7c rfl B.all_ e2z (a0a (a3a (b2e ["sign"] [] rfl (by rfl) (by decide +kernel) (e3k (dv 0)) (fun _ _ _=>(a2x (i:=0) (show(["sign"]:List Str).Nodup by decide +kernel) rfl (Or.inl rfl))) (fun _ _ _=>b5y) (fun _ _ _=>(b3c b9z c0a b9z c0a a0d (dv 0) a0d)))) a0c))))))),?_⟩
 unfold a1v at hx
 rw [and_eq_true,and_eq_true,decide_eq_true_eq,decide_eq_true_eq] at hx
 obtain⟨⟨h1,h8⟩,hall⟩:=hx
 walk_at "dd"
 rw [show isD "str" (.str x)=true from rfl]
 walk_at "dd"
 rw [e3u (by omega),a0m]
 walk_at "dd"
 rw [decide_eq_true (show(1:Int) <= (x.length:Int) by omega),decide_eq_true (show(x.length:Int) <= 8 by omega)]
 walk_at "dd"
 refine⟨by rw [length_map,d7y];omega,?_⟩
 refine L2.b0p (fun ρ=>∃ v0:Option L,ρ=[v0]) (fun _=>some (.bool true)) ⟨_,rfl⟩ ?_ ?_
 ·rintro y ρ N hy ⟨v0,rfl⟩ hN
  obtain⟨c,hc,rfl⟩:=mem_map.mp hy
  have hl:=all_eq_true.mp hall c hc
  unfold low at hl
  rw [and_eq_true] at hl
  walk_at "dd"
  rw [leC_a,leC_z,hl.1,hl.2]
  walk_at "dd"
  exact hN _ ⟨_,rfl⟩
 ·rintro ρ _
  have ef:(signs x).filterMap (fun _=>some (PyData.bool true))=(x.cps.toList.map fun _=>true).map .bool:=by
   unfold signs
   generalize x.cps.toList=l
   induction l with
   | nil=>rfl
   | cons c r ih=>rw [map_cons,List.filterMap_cons,ih];simp
  rw [ef,d1m,a0m,show(x.cps.toList.map fun _=>true).all id=true by simp]
  exact q
abbrev a3j:Stmt:=top 3
theorem a3e:FnScope ["things","ahead","thing"] ["things"] (a0e a3j):=⟨rfl,rfl,rfl,by decide +kernel,rfl,by decide +kernel,by decide +kernel⟩
theorem d8a{f f1:Addr}{fd fd1:FuncData} (F:Fun K "are_rising_names" "are_rising_names" a3j f fd) (B:Bl mg) (d_is_name:Def K mg "is_name" a7l ["thing"] f1 fd1) (g_is_name:FnOk P w K mg base CX0 n f1 fd1 ["thing"] (spD K a9a)):FnOk P w K mg base CX0 (n + 1) f fd ["things"] (spD K c0l):=by
 refine F.dok a3e (fun cdv A outer s H E hr ls Qd h=>?_) (fun ls Qd h=>by obtain⟨_,e,_⟩:=h;rw [e];rfl)
 obtain⟨xs,rfl,hf,q⟩:=h
 refine⟨rfl,?_⟩
 refine⟨_,(a0g (a2c (i:=1) a3e.nd rfl (Or.inl rfl) a0d)
  (a0g (b1o PassesOwn.never rfl (a9y (dv 0)) (a2x (i:=2) a3e.nd rfl (Or.inl rfl))
  (a0g (a1m (DW.toT (b7v (a8u (a7j (a0l [false] d_is_name g_is_name hr rfl (a0a (dv 2) a0c)))) (b4k (a1d b9z c0a (dv 2) (dv 1) (a0u _)))))
  (a0k (a0q a4g))
  a0y)
  (a0k (a2c (i:=1) a3e.nd rfl (Or.inl rfl) (dv 2)))))
  (a0k (a0q a4g)))),?_⟩
 walk_at "dd"
 refine a6p (fun i ρ=>∃ (v2:Option L) (p:Str),ρ=[some (.d (encH xs)),some (.d (.str p)),v2]/\a9f p (xs.drop i)=true) ⟨none,"",rfl,hf⟩ ?_ ?_
 ·rintro i x ρ N hx ⟨v2,p,rfl,hr⟩ hN
  rw [getElem?_map] at hx
  obtain⟨z,hz,rfl⟩:=map_eq_some_iff.mp hx
  obtain⟨hi,ex⟩:=List.getElem?_eq_some_iff.mp hz
  rw [List.drop_eq_getElem_cons hi,ex] at hr
  unfold a9f at hr
  rw [and_eq_true,and_eq_true] at hr
  walk_at "dd"
  refine⟨z,rfl,hr.1.1,?_⟩
  walk_at "dd"
  rw [show leC z p=false by have:=hr.1.2;simpa using this]
  walk_at "dd"
  exact hN _ ⟨_,z,rfl,hr.2⟩
 ·rintro ρ ⟨v2,p,rfl,hr⟩
  walk_at "dd"
  exact q
abbrev a7w:Stmt:=top 10
theorem c1l:FnScope ["thing"] ["thing"] (a0e a7w):=⟨rfl,rfl,rfl,by decide +kernel,rfl,by decide +kernel,by decide +kernel⟩
theorem c1m{f f1:Addr}{fd fd1:FuncData} (F:Fun K "is_hands" "is_hands" a7w f fd) (B:Bl mg) (m_MOST_HANDS:∃ t,mg "MOST_HANDS" = some (.int 4 t)) (d_are_rising_names:Def K mg "are_rising_names" a3j ["things"] f1 fd1) (g_are_rising_names:FnOk P w K mg base CX0 n f1 fd1 ["things"] (spD K c0l)):FnOk P w K mg base CX0 (n + 1) f fd ["thing"] (spD K a9g):=by
 refine F.dok c1l (fun cdv A outer s H E hr ls Qd h=>?_) (fun ls Qd h=>by obtain⟨_,e,_⟩:=h;rw [e];rfl)
 obtain⟨xs,rfl,hf,q⟩:=h
 refine⟨rfl,?_⟩
 refine⟨_,(a0g (a1m (a8u (a7j (b2f rfl B.isinstance_ rfl B.tuple_ a8r rfl (dv 0))))
  (a0k (a0q a4g))
  a0y)
  (a0k (a0q (c7c (b3c b7t (a3d _) b7t (a3d _) a0h (a3l a2p a5z rfl B.len_ a3i (a0a (dv 0) a0c)) (b2c rfl m_MOST_HANDS)) (c7b (a0l [false] d_are_rising_names g_are_rising_names hr rfl (a0a (dv 0) a0c))))))),?_⟩
 walk_at "dd"
 rw [show isD "tuple" (encH xs)=true from rfl]
 obtain⟨h1,h2,h3⟩:=hf
 walk_at "dd"
 rw [length_map,decide_eq_true (show(1:Int) <= (xs.length:Int) by omega),decide_eq_true (show(xs.length:Int) <= 4 by omega)]
 walk_at "dd"
 refine⟨xs,rfl,h1,?_⟩
 walk_at "dd"
 exact q
end
open Tr
noncomputable def b1r:List (Str × PyData):=[("fact",.tuple [.str "name",.int 0]),("wish",.tuple [.str "name",.int 0]),("not",.tuple [.str "",.int 1]),("and",.tuple [.str "",.int 2]),("or",.tuple [.str "",.int 2]),("some",.tuple [.str "step",.int 1]),("every",.tuple [.str "step",.int 1]),("least",.tuple [.str "name",.int 1]),("most",.tuple [.str "name",.int 1]),("show",.tuple [.str "hands",.int 2])]
noncomputable def wd:Fm Str->Str
 | .fact _ => "fact"
 | .wish _ => "wish"
 | .neg _ => "not"
 | .two c _ _=>if c then "and" else "or"
 | .mod c _ _=>if c then "every" else "some"
 | .bind m _ _=>if m then "most" else "least"
 | .sho _ _ _ => "show"
noncomputable def ag:Fm Str->PyData
 | .fact z=>.str z
 | .wish z=>.str z
 | .neg a=>enc a
 | .two _ a _=>enc a
 | .mod _ st _=>a4i st
 | .bind _ x _=>.str x
 | .sho hs _ _=>encH hs
noncomputable def mr:Fm Str->List PyData
 | .fact _=>[]
 | .wish _=>[]
 | .neg _=>[]
 | .two _ _ b=>[enc b]
 | .mod _ _ a=>[enc a]
 | .bind _ _ a=>[enc a]
 | .sho _ a b=>[enc a,enc b]
noncomputable def kids:Fm Str->List (Fm Str)
 | .fact _=>[]
 | .wish _=>[]
 | .neg a=>[a]
 | .two _ a b=>[a,b]
 | .mod _ _ a=>[a]
 | .bind _ _ a=>[a]
 | .sho _ a b=>[a,b]
theorem c0m(k:Fm Str):enc k=.tuple (.str (wd k) :: ag k :: mr k):=by cases k<;>rfl
noncomputable def fk:Fm Str->Str × Nat
 | .fact _=>("name",0)
 | .wish _=>("name",0)
 | .neg _=>("",1)
 | .two _ _ _=>("",2)
 | .mod _ _ _=>("step",1)
 | .bind _ _ _=>("name",1)
 | .sho _ _ _=>("hands",2)
noncomputable def arg:Fm Str->List PyData
 | .fact z=>[.str z]
 | .wish z=>[.str z]
 | .neg _=>[]
 | .two _ _ _=>[]
 | .mod _ st _=>[a4i st]
 | .bind _ x _=>[.str x]
 | .sho hs _ _=>[encH hs]
noncomputable def encP(k:Fm Str):PyData:=.tuple (.str (wd k) :: arg k)
theorem a8j(k:Fm Str):encP k=.tuple (.str (wd k) :: arg k):=rfl
theorem c0n(k:Fm Str):cutD (.str (wd k) :: ag k :: mr k) (some (((mr k).length + 1 + 1:Nat) - ((fk k).2:Int))) none=(kids k).map enc:=by
 cases k<;>rfl
noncomputable def pick(a b c d e f g:Bool):Fm Str->Bool
 | .fact _=>a
 | .wish _=>b
 | .neg _=>c
 | .two _ _ _=>d
 | .mod _ _ _=>e
 | .bind _ _ _=>f
 | .sho _ _ _=>g
noncomputable def isB:=pick false false false false false true false
noncomputable def isS:=pick false false false false false false true
noncomputable def isN:=pick false false true false false false false
noncomputable def isW:=pick false true false false false false false
theorem b3h(k:Fm Str):(decide (Str.ofString "least" = wd k) || decide (Str.ofString "most" = wd k))=isB k:=by
 rcases k with _ | _ | _ | ⟨c,_,_⟩ | ⟨c,_,_⟩ | ⟨c,_,_⟩ | _<;>first | rfl | (cases c<;>rfl)
theorem b3i(k:Fm Str):decide (wd k=Str.ofString "show")=isS k:=by
 rcases k with _ | _ | _ | ⟨c,_,_⟩ | ⟨c,_,_⟩ | ⟨c,_,_⟩ | _<;>first | rfl | (cases c<;>rfl)
theorem c0o(k:Fm Str):decide (wd k=Str.ofString "not")=isN k:=by
 rcases k with _ | _ | _ | ⟨c,_,_⟩ | ⟨c,_,_⟩ | ⟨c,_,_⟩ | _<;>first | rfl | (cases c<;>rfl)
theorem d2d(k:Fm Str):decide (wd k=Str.ofString "wish")=isW k:=by
 rcases k with _ | _ | _ | ⟨c,_,_⟩ | ⟨c,_,_⟩ | ⟨c,_,_⟩ | _<;>first | rfl | (cases c<;>rfl)
noncomputable def bn:Fm Str->Option Str
 | .fact _=>none
 | .wish _=>none
 | .neg _=>none
 | .two _ _ _=>none
 | .mod _ _ _=>none
 | .bind _ x _=>some x
 | .sho _ _ _=>none
theorem c3a{k:Fm Str}(h:isB k=true):∃ x,bn k=some x/\arg k=[.str x]:=by
 cases k with
 | bind m x a=>exact⟨x,rfl,rfl⟩
 | _=>cases h
theorem c3b{k:Fm Str}(h:isB k=false):bn k=none:=by
 cases k with
 | bind m x a=>cases h
 | _=>rfl
def b8h:DSp:=fun ls Q=>∃ k:Fm Str,ls=[.d (encP k)]/\Q (.d (.bool (isB k))) [none]
section
variable{P:Program}{w:World}{K:W.Frag}{mg:Str->Option Value}{base:Heap}{n:Nat}
abbrev a5j:Stmt:=top 11
theorem c0p:FnScope ["sentence"] ["sentence"] (a0e a5j):=⟨rfl,rfl,rfl,by decide +kernel,rfl,by decide +kernel,by decide +kernel⟩
theorem c0q{f:Addr}{fd:FuncData} (F:Fun K "is_binder" "is_binder" a5j f fd) (B:Bl mg):FnOk P w K mg base CX0 (n + 1) f fd ["sentence"] (spD K b8h):=by
 refine F.dok c0p (fun cdv A outer s H E hr ls Qd h=>?_) (fun ls Qd h=>by obtain⟨x,e,_⟩:=h;rw [e];rfl)
 obtain⟨k,rfl,q⟩:=h
 refine⟨rfl,?_⟩
 refine⟨_,(a0k (a0q (a7i a4q a7a (a1b a0t a1c (dv 0) a0h (fun _ _=>rfl)) (a0w (a0a a0d (a0a a0d a0c))) (by rfl)))),?_⟩
 rw [a8j]
 walk_at "dd"
 rw [b3h k]
 exact q
end
open Tr
abbrev encA(As:List (Fm Str)):PyData:=.tuple (As.map encP)
noncomputable def a2w(As:List (Fm Str)):List Str:=As.filterMap bn
noncomputable def shows(As:List (Fm Str)):Nat:=(As.filter isS).length
noncomputable def mw(z:Str):Nat->List (Fm Str)->Bool
 | _,[]=>false
 | c,k :: r=>if isS k=true then false else if bn k=some z then decide (c % 2=0) else mw z (if isN k=true then c + 1 else c) r
theorem d8b{z:Str}{c:Nat}{k:Fm Str}{r:List (Fm Str)}:mw z c (k :: r)=if isS k=true then false else if bn k=some z then decide (c % 2=0) else mw z (if isN k=true then c + 1 else c) r:=rfl
noncomputable def mayB(k:Fm Str)(As:List (Fm Str)):Bool:=if isB k=true then decide ((a2w As).length < 4) else if isS k=true then decide (shows As < 3) else true
noncomputable def mayT:Fm Str->List (Fm Str)->Bool
 | .fact _,_=>true
 | .wish z,As=>mw z 0 As.reverse
 | .neg _,_=>true
 | .two _ _ _,_=>true
 | .mod _ _ _,_=>true
 | .bind _ x _,As=>!decide (x ∈ a2w As)
 | .sho _ _ _,_=>true
noncomputable def may(k:Fm Str)(As:List (Fm Str)):Bool:=mayB k As && mayT k As
theorem a2q{As:List (Fm Str)}{k:Fm Str}:a2w (As ++ [k])=a2w As ++ (bn k).toList:=by
 unfold a2w
 rw [List.filterMap_append]
 cases h:bn k<;>simp [h]
theorem a5d{As:List (Fm Str)}{k:Fm Str}:shows (As ++ [k])=shows As + (if isS k=true then 1 else 0):=by
 unfold shows
 rw [List.filter_append,length_append]
 cases h:isS k<;>simp [h]
theorem d2e{neg:Bool}{p:Str}{t:List Str}:fIn neg (.str p) (.list (t.map .str))=some (.bool (if neg then !decide (p ∈ t) else decide (p ∈ t))):=by
 rw [b9q (by rw [b7i];rfl),c0k]
def b2h:DSp:=fun ls Q=>∃ As:List (Fm Str),ls=[.d (encA As)]/\As.length <= 100/\Q (.new ((a2w As).map .str)) [none]
def b6g:DSp:=fun ls Q=>∃ (z:Str) (As:List (Fm Str)),ls=[.d (.str z),.d (encA As)]/\As.length <= 100/\Q (.d (.bool (mw z 0 As.reverse))) [none,none]
def b2j:DSp:=fun ls Q=>∃ (k:Fm Str) (As:List (Fm Str)),ls=[.d (.str (wd k)),.d (encA As)]/\As.length <= 100/\Q (.d (.bool (mayB k As))) [none,none]
def b5d:DSp:=fun ls Q=>∃ (k:Fm Str) (As:List (Fm Str)),ls=[.d (.str (wd k)),.d (ag k),.d (encA As)]/\As.length <= 100/\Q (.d (.bool (mayT k As))) [none,none,none]
section
variable{P:Program}{w:World}{K:W.Frag}{mg:Str->Option Value}{base:Heap}{n:Nat}
abbrev a3z:Stmt:=top 15
theorem b6h:FnScope ["around"] ["around"] (a0e a3z):=⟨rfl,rfl,rfl,by decide +kernel,rfl,by decide +kernel,by decide +kernel⟩
theorem d2f{f f1:Addr}{fd fd1:FuncData} (F:Fun K "names_bound" "names_bound" a3z f fd) (B:Bl mg) (d_is_binder:Def K mg "is_binder" a5j ["sentence"] f1 fd1) (g_is_binder:FnOk P w K mg base CX0 n f1 fd1 ["sentence"] (spD K b8h)):FnOk P w K mg base CX0 (n + 1) f fd ["around"] (spD K b2h):=by
 refine F.dok b6h (fun cdv A outer s H E hr ls Qd h=>?_) (fun ls Qd h=>by obtain⟨_,e,_⟩:=h;rw [e];rfl)
 obtain⟨As,rfl,hl,q⟩:=h
 refine⟨rfl,?_⟩
 refine⟨_,(a0k (c2n (b2e ["thing"] [] rfl (by rfl) (by decide +kernel) (a9y (dv 0)) (fun _ _ _=>(a2x (i:=0) (show(["thing"]:List Str).Nodup by decide +kernel) rfl (Or.inl rfl))) (fun _ _ _=>(b5z (a7j (a0l [false] d_is_binder g_is_binder hr rfl (a0a (dv 0) a0c))))) (fun _ _ _=>(a1b a0t a1c (dv 0) a0h (fun _ _=>rfl)))))),?_⟩
 walk_at "dd"
 refine⟨by rw [length_map];omega,?_⟩
 refine b9s (fun i ρ acc=>∃ v0:Option L,ρ=[v0]/\acc=(a2w (As.take i)).map .str) ⟨none,rfl,rfl⟩ ?_ ?_
 ·rintro i x ρ acc N hx ⟨v0,rfl,rfl⟩ hN
  rw [getElem?_map] at hx
  obtain⟨k,hk,rfl⟩:=map_eq_some_iff.mp hx
  walk_at "dd"
  refine⟨k,rfl,?_⟩
  walk_at "dd"
  have et:As.take (i + 1)=As.take i ++ [k]:=by rw [take_add_one,hk];rfl
  cases hb:isB k with
  | true =>
   obtain⟨x,e1,e2⟩:=c3a hb
   rw [a8j,e2]
   walk_at "dd"
   refine hN _ _ ⟨_,rfl,?_⟩
   rw [et,a2q,map_append,e1];rfl
  | false =>
   walk_at "dd"
   refine hN _ _ ⟨_,rfl,?_⟩
   rw [et,a2q,map_append,c3b hb]
   exact(append_nil _).symm
 ·rintro ρ acc ⟨v0,rfl,rfl⟩
  rw [length_map,take_length]
  walk_at "dd"
  exact q
abbrev a7x:Stmt:=top 14
theorem a7d:FnScope ["name","around","nots","thing"] ["name","around"] (a0e a7x):=⟨rfl,rfl,rfl,by decide +kernel,rfl,by decide +kernel,by decide +kernel⟩
theorem d2g{f f1:Addr}{fd fd1:FuncData} (F:Fun K "may_wish" "may_wish" a7x f fd) (B:Bl mg) (d_is_binder:Def K mg "is_binder" a5j ["sentence"] f1 fd1) (g_is_binder:FnOk P w K mg base CX0 n f1 fd1 ["sentence"] (spD K b8h)):FnOk P w K mg base CX0 (n + 1) f fd ["name","around"] (spD K b6g):=by
 refine F.dok a7d (fun cdv A outer s H E hr ls Qd h=>?_) (fun ls Qd h=>by obtain⟨_,_,e,_⟩:=h;rw [e];rfl)
 obtain⟨z,As,rfl,hl,q⟩:=h
 refine⟨rfl,?_⟩
 refine⟨_,(a0g (a2c (i:=2) a7d.nd rfl (Or.inl rfl) a0h)
  (a0g (b1o PassesOwn.never rfl (c7t rfl B.reversed_ (dv 1)) (a2x (i:=3) a7d.nd rfl (Or.inl rfl))
  (a0g (a1m (a1d (a2v hr.units) a2u (a1b a0t a1c (dv 3) a0h (fun _ _=>rfl)) a0d (a0u _))
  (a0k (a0q a4g))
  a0y)
  (a0g (a1m (DW.toT (b4l (a7j (a0l [false] d_is_binder g_is_binder hr rfl (a0a (dv 3) a0c))) (b2d (a1d (a2v hr.units) a2u (a1b a0t a1c (dv 3) a0h (fun _ _=>rfl)) (dv 0) (a0u _)))))
  (a0k (a0q (a7i (a2v hr.units) a2u (a0z a8n d9v (dv 2) a0h) a0h (a0u _))))
  a0y)
  (a0k (a1m (a1d (a2v hr.units) a2u (a1b a0t a1c (dv 3) a0h (fun _ _=>rfl)) a0d (a0u _))
  (a0k (a2c (i:=2) a7d.nd rfl (Or.inl rfl) (a0z a0p a1e (dv 2) a0h)))
  a0y)))))
  (a0k (a0q a4g)))),?_⟩
 walk_at "dd"
 rw [← map_reverse]
 generalize As.reverse=Rs at q ⊢
 refine a6p (fun i ρ=>∃ (c:Nat) (v3:Option L),ρ=[some (.d (.str z)),some (.d (encA As)),some (.d (.int (c:Int))),v3]/\mw z c (Rs.drop i)=mw z 0 Rs) ⟨0,none,rfl,rfl⟩ ?_ ?_
 ·rintro i x ρ N hx ⟨c,v3,rfl,hc⟩ hN
  rw [getElem?_map] at hx
  obtain⟨k,hk,rfl⟩:=map_eq_some_iff.mp hx
  obtain⟨hi,ek⟩:=List.getElem?_eq_some_iff.mp hk
  rw [List.drop_eq_getElem_cons hi,ek] at hc
  rw [← hc] at q
  rw [d8b] at hc q
  rw [a8j]
  walk_at "dd"
  rw [b3i k]
  refine b4q (fun hs=>?_) (fun hs=>?_)
  ·rw [if_pos hs] at q
   exact q
  ·rw [if_neg (by rw [hs];exact Bool.false_ne_true)] at q hc
   rw [← a8j]
   walk_at "dd"
   refine⟨k,rfl,?_⟩
   rw [a8j]
   walk_at "dd"
   have go:¬ bn k=some z->mw z (if isN k=true then c + 1 else c) (Rs.drop (i + 1))=mw z 0 Rs:=fun h=>by rw [if_neg h] at hc;exact hc
   cases hb:isB k with
   | true =>
    obtain⟨x,e1,e2⟩:=c3a hb
    have hN':isN k=false:=by cases k<;>first | rfl | cases hb
    rw [e2]
    walk_at "dd"
    refine a5c (fun e=>?_) (fun e=>?_)
    ·walk_at "dd"
     rw [e0t (by decide)]
     walk_at "dd"
     rw [if_pos (by rw [e1,e])] at q
     rw [show decide ((c:Int) % 2=0)=decide (c % 2=0) from decide_eq_decide.mpr (by omega)]
     exact q
    ·walk_at "dd"
     rw [c0o k,hN']
     walk_at "dd"
     have:=go (by rw [e1];exact fun h=>e (Option.some.inj h))
     rw [hN'] at this
     exact hN _ ⟨c,_,rfl,this⟩
   | false =>
    have:=go (by rw [c3b hb];exact fun h=>nomatch h)
    walk_at "dd"
    rw [c0o k]
    cases hn:isN k with
    | true =>
     rw [hn] at this
     walk_at "dd"
     exact hN _ ⟨c + 1,_,rfl,this⟩
    | false =>
     rw [hn] at this
     walk_at "dd"
     exact hN _ ⟨c,_,rfl,this⟩
 ·rintro ρ ⟨c,v3,rfl,hc⟩
  rw [length_map,List.drop_length] at hc
  walk_at "dd"
  rw [← hc] at q
  exact q
abbrev a7e:Stmt:=top 12
theorem c0r:FnScope ["head","around"] ["head","around"] (a0e a7e):=⟨rfl,rfl,rfl,by decide +kernel,rfl,by decide +kernel,by decide +kernel⟩
theorem d2h{f f1:Addr}{fd fd1:FuncData} (F:Fun K "may_begin" "may_begin" a7e f fd) (B:Bl mg) (m_MOST_BINDERS:∃ t,mg "MOST_BINDERS" = some (.int 4 t)) (m_MOST_SHOWS:∃ t,mg "MOST_SHOWS" = some (.int 3 t)) (d_names_bound:Def K mg "names_bound" a3z ["around"] f1 fd1) (g_names_bound:FnOk P w K mg base CX0 n f1 fd1 ["around"] (spD K b2h)):FnOk P w K mg base CX0 (n + 1) f fd ["head","around"] (spD K b2j):=by
 refine F.dok c0r (fun cdv A outer s H E hr ls Qd h=>?_) (fun ls Qd h=>by obtain⟨_,_,e,_⟩:=h;rw [e];rfl)
 obtain⟨k,As,rfl,hl,q⟩:=h
 refine⟨rfl,?_⟩
 refine⟨_,(a0g (a1m (a1d a4q a7a (dv 0) (a0w (a0a a0d (a0a a0d a0c))) (by rfl))
  (a0k (a0q (a7i a6x (a3d _) (a3l a2p a5z rfl B.len_ a3i (a0a (a0l [false] d_names_bound g_names_bound hr rfl (a0a (dv 1) a0c)) a0c)) (b2c rfl m_MOST_BINDERS) (a0u _))))
  a0y)
  (a0g (a1m (a1d (a2v hr.units) a2u (dv 0) a0d (a0u _))
  (a0k (a0q (a7i a6x (a3d _) (a3l a2p a5z rfl B.len_ a3i (a0a (a3a (b2e ["thing"] [] rfl (by rfl) (by decide +kernel) (a9y (dv 1)) (fun _ _ _=>(a2x (i:=0) (show(["thing"]:List Str).Nodup by decide +kernel) rfl (Or.inl rfl))) (fun _ _ _=>(b5z (a1d (a2v hr.units) a2u (a1b a0t a1c (dv 0) a0h (fun _ _=>rfl)) a0d (a0u _)))) (fun _ _ _=>(dv 0)))) a0c)) (b2c rfl m_MOST_SHOWS) (a0u _))))
  a0y)
  (a0k (a0q a4g)))),?_⟩
 unfold mayB at q
 walk_at "dd"
 rw [b3h k]
 refine b4q (fun hb=>?_) (fun hb=>?_)
 ·rw [if_pos hb] at q
  walk_at "dd"
  refine⟨As,rfl,hl,?_⟩
  walk_at "dd"
  rw [length_map,show decide (((a2w As).length:Int) < 4)=decide ((a2w As).length < 4) from decide_eq_decide.mpr (by omega)]
  exact q
 ·rw [if_neg (by rw [hb];exact Bool.false_ne_true)] at q
  walk_at "dd"
  rw [b3i k]
  refine b4q (fun hs=>?_) (fun hs=>?_)
  ·rw [if_pos hs] at q
   walk_at "dd"
   refine⟨by rw [length_map];omega,?_⟩
   refine b9s (fun i ρ acc=>∃ v0:Option L,ρ=[v0]/\acc.length=shows (As.take i)) ⟨none,rfl,rfl⟩ ?_ ?_
   ·rintro i x ρ acc N hx ⟨v0,rfl,ha⟩ hN
    rw [getElem?_map] at hx
    obtain⟨j,hj,rfl⟩:=map_eq_some_iff.mp hx
    have et:As.take (i + 1)=As.take i ++ [j]:=by rw [take_add_one,hj];rfl
    rw [a8j]
    walk_at "dd"
    rw [b3i j]
    refine b4q (fun hs2=>?_) (fun hs2=>?_)
    ·walk_at "dd"
     refine hN _ _ ⟨_,rfl,?_⟩
     rw [length_append,ha,et,a5d,if_pos hs2];rfl
    ·refine hN _ _ ⟨_,rfl,?_⟩
     rw [ha,et,a5d,if_neg (by rw [hs2];exact Bool.false_ne_true)];rfl
   ·rintro ρ acc ⟨v0,rfl,ha⟩
    rw [length_map,take_length] at ha
    walk_at "dd"
    rw [ha,show decide ((shows As:Int) < 3)=decide (shows As < 3) from decide_eq_decide.mpr (by omega)]
    exact q
  ·rw [if_neg (by rw [hs];exact Bool.false_ne_true)] at q
   walk_at "dd"
   exact q
abbrev a7y:Stmt:=top 13
theorem c1n:FnScope ["head","taken","around"] ["head","taken","around"] (a0e a7y):=⟨rfl,rfl,rfl,by decide +kernel,rfl,by decide +kernel,by decide +kernel⟩
theorem d8c{f f1 f2:Addr}{fd fd1 fd2:FuncData} (F:Fun K "may_take" "may_take" a7y f fd) (B:Bl mg) (d_names_bound:Def K mg "names_bound" a3z ["around"] f1 fd1) (g_names_bound:FnOk P w K mg base CX0 n f1 fd1 ["around"] (spD K b2h))
  (d_may_wish:Def K mg "may_wish" a7x ["name","around"] f2 fd2) (g_may_wish:FnOk P w K mg base CX0 n f2 fd2 ["name","around"] (spD K b6g)):FnOk P w K mg base CX0 (n + 1) f fd ["head","taken","around"] (spD K b5d):=by
 refine F.dok c1n (fun cdv A outer s H E hr ls Qd h=>?_) (fun ls Qd h=>by obtain⟨_,_,e,_⟩:=h;rw [e];rfl)
 obtain⟨k,As,rfl,hl,q⟩:=h
 refine⟨rfl,?_⟩
 refine⟨_,(a0g (a1m (a1d (a2v hr.units) a2u (dv 0) a0d (a0u _))
  (a0k (a0q (a0l [false,false] d_may_wish g_may_wish hr rfl (a0a (dv 1) (a0a (dv 2) a0c)))))
  a0y)
  (a0g (a1m (a1d a4q a7a (dv 0) (a0w (a0a a0d (a0a a0d a0c))) (by rfl))
  (a0k (a0q (a7i b2u a7a (dv 1) (a0l [false] d_names_bound g_names_bound hr rfl (a0a (dv 2) a0c)) (by rfl))))
  a0y)
  (a0k (a0q a4g)))),?_⟩
 walk_at "dd"
 rw [d2d k]
 cases hb:isW k with
 | true =>
  obtain⟨z,rfl⟩:∃ z,k=.wish z:=by
   cases k with
   | wish z=>exact⟨z,rfl⟩
   | _=>cases hb
  walk_at "dd"
  refine⟨z,As,rfl,hl,?_⟩
  walk_at "dd"
  exact q
 | false =>
  walk_at "dd"
  rw [b3h k]
  cases hs:isB k with
  | true =>
   obtain⟨m,x,p,rfl⟩:∃ m x p,k=.bind m x p:=by
    cases k with
    | bind m x p=>exact⟨m,x,p,rfl⟩
    | _=>cases hs
   walk_at "dd"
   refine⟨As,rfl,hl,?_⟩
   walk_at "dd"
   rw [show ag (.bind m x p)=.str x from rfl,d2e]
   walk_at "dd"
   exact q
  | false =>
   walk_at "dd"
   have e:mayT k As=true:=by
    cases k with
    | wish m=>cases hb
    | bind w m p=>cases hs
    | _=>rfl
   rw [e] at q
   exact q
end
structure TxtF(K:W.Frag)(mg:Str->Option Value)(C:Addr):Prop where
 cl:Cls K C
 n1:a3v K C "row"
 n2:a3v K C "words"
 n3:a3v K C "place"
 mgC:mg "Words" = some (.ref C)
noncomputable def wfs(r:Int)(wl:Addr)(p:Int):List (Str × V):=[("row",.int r),("words",.ref wl),("place",.int p)]
theorem b1s{r:Int}{wl:Addr}{p:Int}:(wfs r wl p).lookup ("words" : Str)=some (.ref wl):=rfl
theorem a9h{r:Int}{wl:Addr}{p:Int}:(wfs r wl p).lookup ("place" : Str)=some (.int p):=rfl
theorem c8t{r:Int}{wl:Addr}{p q:Int}:putF "place" (.int q) (wfs r wl p)=wfs r wl q:=rfl
def WOk(C:Addr)(H:Hp)(x dx:Addr)(r:Int)(wl:Addr)(p:Nat)(ws:List Str):Prop:=H x=some (.ins C dx (wfs r wl (p:Int)))/\H wl=some (.lst (ws.map V.str))
def But(x:Addr)(H H':Hp):Prop:=∀ c o,c ≠ x->H c=some o->H' c=some o
abbrev a8k:Stmt:=inClass (top 20) 0
abbrev a8l:Stmt:=inClass (top 20) 1
abbrev b0a:Stmt:=inClass (top 20) 2
abbrev b0b:Stmt:=inClass (top 20) 3
theorem d2i:FnScope ["self","row","text"] ["self","row","text"] (a0e a8k):=⟨rfl,rfl,rfl,by decide +kernel,rfl,by decide +kernel,by decide +kernel⟩
theorem d2j:FnScope ["self","fits"] ["self","fits"] (a0e a8l):=⟨rfl,rfl,rfl,by decide +kernel,rfl,by decide +kernel,by decide +kernel⟩
theorem d8d:FnScope ["self"] ["self"] (a0e b0a):=⟨rfl,rfl,rfl,by decide +kernel,rfl,by decide +kernel,by decide +kernel⟩
theorem d8e:FnScope ["self"] ["self"] (a0e b0b):=⟨rfl,rfl,rfl,by decide +kernel,rfl,by decide +kernel,by decide +kernel⟩
def b6i(C:Addr):Sp:=fun vs H Q _=>∃ (x dx:Addr) (r:Int) (t:Str),vs=[.ref x,.int r,.str t]/\H x=some (.ins C dx [])/\t.length <= 1000000/\∀ wl H',H wl=none->But x H H'->WOk C H' x dx r wl 0 (Txt.split t " ")->Q .non H'
def b5e(C:Addr):Sp:=fun vs H Q _=>∃ (x dx:Addr) (r:Int) (wl:Addr) (p:Nat) (ws:List Str),vs=[.ref x]/\WOk C H x dx r wl p ws/\Q (.bl (decide (p=ws.length))) H
def c0s(C:Addr):Sp:=fun vs H Q _=>∃ (x dx:Addr) (r:Int) (wl:Addr) (ws:List Str),vs=[.ref x]/\WOk C H x dx r wl ws.length ws/\Q .non H
def b0c(P:Program)(w:World)(K:W.Frag)(mg:Str->Option Value)(base:Heap)(n:Nat)(C:Addr):Sp:=fun vs H Q _=>∃ (x dx f:Addr) (r:Int) (wl:Addr) (p:Nat) (ws:List Str) (z:Str),vs=[.ref x,.ref f]/\WOk C H x dx r wl p ws/\ws[p]? = some z/\c5b P w K mg base n H f (fun x=>x=z) (fun _=>true) /\
 ∀ H',But x H H'->WOk C H' x dx r wl (p + 1) ws->Q (.str z) H'
theorem c0t{X:Cx}{ss:List Stmt}:PSs X ss (fun _ _ _=>False):=fun _ _ _ _ _ _ h=>h.elim
theorem b8i{p A B:Prop}[Decidable p](h:p)(a:A):if decide p=true then A else B:=by rw [decide_eq_true h];exact iteT a
theorem b8j{p A B:Prop}[Decidable p](h:¬ p)(b:B):if decide p=true then A else B:=by rw [decide_eq_false h];exact iteF b
section
variable{P:Program}{w:World}{K:W.Frag}{mg:Str->Option Value}{base:Heap}{n:Nat}{C NT:Addr}
theorem d2k{f:Addr}{fd:FuncData} (F:Fun K "__init__" "Words.__init__" a8k f fd) (T:TxtF K mg C):FnOk P w K mg base CX0 (n + 1) f fd ["self","row","text"] (b6i C):=by
 refine F.ok d2i (fun vs H Q E h=>?_) (fun cdv A outer s H vs Q E hr h=>?_)
 ·obtain⟨x,dx,r,t,rfl,_⟩:=h
  rfl
 obtain⟨x,dx,r,t,rfl,hx,ht,q⟩:=h
 refine⟨_,a0v (a7f (pv 0) (pv 1) rfl) (a0v (a7f (pv 0) (b1y PySem.F.plainAttrs_str PySem.F.slot_str_split PySem.F.type_str_split b9y (pv 2) (a0i a4k a0r)) rfl) (a1n (a7f (pv 0) a1g rfl))),?_⟩
 refine⟨_,rfl,_,rfl,x,C,dx,[],rfl,hx,T.cl,T.n1,by decide,?_⟩
 refine⟨_,rfl,rfl,t,_,rfl,rfl,by decide,ht,fun wl hwl=>?_⟩
 have nx:wl ≠ x:=fun z=>by rw [z,a0j] at hwl;cases hwl
 refine⟨_,rfl,x,C,dx,putF "row" (.int r) [],rfl,by rw [a0f (Ne.symm nx),a0j],T.cl,T.n2,(show(1:Nat) < 1000 by decide),?_⟩
 refine⟨_,rfl,x,C,dx,_,rfl,a0j,T.cl,T.n3,(show(2:Nat) < 1000 by decide),?_⟩
 rw [a0f nx] at hwl
 refine q wl _ hwl (fun c o n e=>?_) ⟨a0j,?_⟩
 ·rw [a0f n,a0f n,a0f (fun z=>by rw [z,hwl] at e;cases e),a0f n];exact e
 ·rw [a0f nx,a0f nx,a0j]
theorem d8f{f:Addr}{fd:FuncData} (F:Fun K "are_over" "Words.are_over" b0a f fd) (B:Bl mg) (T:TxtF K mg C):FnOk P w K mg base CX0 (n + 1) f fd ["self"] (b5e C):=by
 refine F.ok d8d (fun vs H Q E h=>?_) (fun cdv A outer s H vs Q E hr h=>?_)
 ·obtain⟨x,dx,r,wl,p,ws,rfl,_⟩:=h
  rfl
 obtain⟨x,dx,r,wl,p,ws,rfl,⟨h1,h2⟩,q⟩:=h
 refine⟨_,a1n (a2j (a9o b7s (a2z (pv 0) rfl) (a4m a3n rfl B.len_ a3i (a0i (a2z (pv 0) rfl) a0r)) (a0u _))),?_⟩
 refine⟨_,rfl,x,C,dx,_,_,rfl,h1,T.cl,T.n3,a9h,?_⟩
 refine⟨_,rfl,x,C,dx,_,_,rfl,h1,T.cl,T.n2,b1s,wl,_,rfl,.inl (SqL.of h2),rfl,?_⟩
 have e:decide (V.int (p:Int)=V.int ((ws.map V.str).length:Int))=decide (p=ws.length):=by
  rw [length_map]
  by_cases c:p=ws.length
  ·rw [c];simp
  ·rw [decide_eq_false c,decide_eq_false (fun z=>c (by injection z with z;omega))]
 rw [e]
 exact q
theorem d2l{f f1:Addr}{fd fd1:FuncData} (F:Fun K "taken" "Words.taken" a8l f fd) (T:TxtF K mg C) (m_over:Meth K C "are_over" f1) (b_over:Binds K fd1 ["self"] []) (g_over:FnOk P w K mg base CX0 n f1 fd1 ["self"] (b5e C)):FnOk P w K mg base CX0 (n + 2) f fd ["self","fits"] (b0c P w K mg base (n + 1) C):=by
 refine F.ok d2j (fun vs H Q E h=>?_) (fun cdv A outer s H vs Q E hr h=>?_)
 ·obtain⟨x,dx,f,r,wl,p,ws,z,rfl,_⟩:=h
  rfl
 obtain⟨x,dx,f,r,wl,p,ws,z,rfl,⟨h1,h2⟩,hz,⟨o,fdl,pn,spl,ho,hf,gl,bl,hl⟩,q⟩:=h
 refine⟨_,a0v (a6w (PW.pt (d3a (L2.b3x (a8o (pv 0) T.cl m_over g_over (hr.mono (le_succ _)) b_over .nil a4f)) (c6h (b8n (L2.b3x (d1r (i:=1) gl hr rfl bl a4f ho (a0i (a6y a6j (a2z (pv 0) rfl) (a2z (pv 0) rfl) (fun _ _=>rfl)) a0r)))))))
   c0t a4a)
  (a0v (a7f (pv 0) (a2e b1g (a2z (pv 0) rfl) a1g) rfl)
  (a1n (a2j (a6y a6j (a2z (pv 0) rfl) (a2e a3m (a2z (pv 0) rfl) a1g) (fun _ _=>rfl))))),?_⟩
 refine⟨_,rfl,x,dx,_,rfl,h1,rfl,x,dx,r,wl,p,ws,rfl,⟨h1,h2⟩,_,rfl,?_⟩
 have pl:p < ws.length:=(List.getElem?_eq_some_iff.mp hz).1
 refine b8j (by omega) ?_
 refine⟨rfl,_,rfl,x,C,dx,_,_,rfl,h1,T.cl,T.n2,b1s,_,rfl,x,C,dx,_,_,rfl,h1,T.cl,T.n3,a9h,wl,_,(p:Int),.str z,rfl,rfl,SqL.of h2,a5s (j:=p) (by rw [getElem?_map,hz];rfl),hf,?_⟩
 refine hl z H _ rfl (Same.refl _) fun H2 s2=>⟨_,rfl,?_⟩
 have k1:=s2 _ _ h1
 have k2:=s2 _ _ h2
 have nx:wl ≠ x:=fun z=>by rw [z,k1] at k2;cases k2
 refine iteF ?_
 refine⟨_,rfl,x,C,dx,_,_,rfl,k1,T.cl,T.n3,a9h,_,_,rfl,rfl,_,rfl,x,C,dx,_,rfl,k1,T.cl,T.n3,(show(3:Nat) < 1000 by decide),?_⟩
 rw [c8t]
 have k3:(upd H2 x (.ins C dx (wfs r wl ((p:Int) + 1)))) wl=some (.lst (ws.map V.str)):=by rw [a0f nx];exact k2
 refine⟨_,rfl,x,C,dx,_,_,rfl,a0j,T.cl,T.n2,b1s,_,rfl,x,C,dx,_,_,rfl,a0j,T.cl,T.n3,a9h,_,_,rfl,rfl,wl,_,(p:Int),.str z,rfl,?_,SqL.of k3,a5s (j:=p) (by rw [getElem?_map,hz];rfl),?_⟩
 ·show V.int (((p:Int) + 1) - 1)=V.int (p:Int)
  rw [Int.add_sub_cancel]
 ·exact q _ (fun c o n e=>by rw [a0f n];exact s2 _ _ e) ⟨by rw [a0j];rfl,k3⟩
theorem d8g{f f1:Addr}{fd fd1:FuncData} (F:Fun K "finish" "Words.finish" b0b f fd) (T:TxtF K mg C) (m_over:Meth K C "are_over" f1) (b_over:Binds K fd1 ["self"] []) (g_over:FnOk P w K mg base CX0 n f1 fd1 ["self"] (b5e C)):FnOk P w K mg base CX0 (n + 2) f fd ["self"] (c0s C):=by
 refine F.ok d8e (fun vs H Q E h=>?_) (fun cdv A outer s H vs Q E hr h=>?_)
 ·obtain⟨x,dx,r,wl,ws,rfl,_⟩:=h
  rfl
 obtain⟨x,dx,r,wl,ws,rfl,⟨h1,h2⟩,q⟩:=h
 refine⟨_,a1n (a6w (b8n (L2.b3x (a8o (pv 0) T.cl m_over g_over (hr.mono (le_succ _)) b_over .nil a4f))) c0t a4a),?_⟩
 refine⟨_,rfl,x,dx,_,rfl,h1,rfl,x,dx,r,wl,ws.length,ws,rfl,⟨h1,h2⟩,_,rfl,?_⟩
 rw [decide_eq_true rfl]
 exact iteF q
end
open Tr
abbrev sp1:Str:=" "
abbrev cm1:Str:=","
noncomputable def jn(hs:List Str):Str:=Txt.join cm1 hs
noncomputable def stW:Stp Str->List Str
 | .on=>["on"]
 | .back=>["back"]
 | .one hs=>["one",jn hs]
 | .pool hs=>["pool",jn hs]
noncomputable def wds:Fm Str->List Str
 | .fact z=>["fact",z]
 | .wish z=>["wish",z]
 | .neg a => "not" :: wds a
 | .two c a b=>(if c then "and" else "or") :: (wds a ++ wds b)
 | .mod c st a=>(if c then "every" else "some") :: (stW st ++ wds a)
 | .bind m x a=>(if m then "most" else "least") :: x :: wds a
 | .sho hs a b => "show" :: jn hs :: (wds a ++ wds b)
noncomputable def txt(a:Fm Str):Str:=Txt.join sp1 (wds a)
theorem a4t(a:Fm Str):wds a ≠ []:=by cases a<;>exact fun h=>nomatch h
theorem c8u(a:Stp Str):stW a ≠ []:=by cases a<;>exact fun h=>nomatch h
theorem a3f{x:Str}:∀ {r:List Str},r ≠ []->Txt.join sp1 (x :: r)=x ++ (sp1 ++ Txt.join sp1 r)
 | [],h=>absurd rfl h
 | y :: r,_=>by
  rw [a2m,a2m]
  refine Str.ext' (toList_inj.mp ?_)
  rw [a6s]
  show _=(x.cps ++ (sp1.cps ++ (Str.join sp1 (y :: r)).cps)).toList
  rw [toList_append,toList_append]
theorem a5k{x y:Str}{r:List Str}:Txt.join sp1 (x :: y :: r)=x ++ (sp1 ++ Txt.join sp1 (y :: r)):=a3f (cons_ne_nil _ _)
theorem jone{x:Str}:Txt.join sp1 [x]=x:=by rw [a2m];rfl
theorem japp:∀ {a b:List Str},a ≠ []->b ≠ []->Txt.join sp1 (a ++ b)=Txt.join sp1 a ++ (sp1 ++ Txt.join sp1 b)
 | [],_,h,_=>absurd rfl h
 | [x],b,_,hb=>by rw [List.singleton_append,a3f hb,jone]
 | x :: y :: r,b,_,hb=>by
  have ih:=japp (a:=y :: r) (cons_ne_nil _ _) hb
  rw [cons_append,cons_append,a5k,a5k,← cons_append,ih,Str.append_assoc,Str.append_assoc]
theorem len_app(a b:Str):(a ++ b).length=a.length + b.length:=by
 show(a.cps ++ b.cps).size=_
 rw [Array.size_append];rfl
theorem a1h{x y:Str}(h:x.length + y.length <= 1000000):fAdd (.str x) (.str y)=some (.str (x ++ y)):=if_pos (by rw [sizeLine_eq];omega)
noncomputable def stT(st:Stp Str):Str:=Txt.join sp1 (stW st)
def bigH(hs:List Str):Prop:=hs.length <= 4/\∀ z ∈ hs,z.length <= 8
noncomputable def bigS:Stp Str->Prop
 | .one hs=>bigH hs
 | .pool hs=>bigH hs
 | _=>True
noncomputable def bigF:Fm Str->Prop
 | .fact z=>z.length <= 8
 | .wish z=>z.length <= 8
 | .neg a=>bigF a
 | .two _ a b=>bigF a/\bigF b
 | .mod _ st a=>bigS st/\bigF a
 | .bind _ x a=>x.length <= 8/\bigF a
 | .sho hs a b=>bigH hs/\bigF a/\bigF b
theorem a4u{hs:List Str}(h:bigH hs):(hs.map (·.length)).sum + hs.length <= 1048576/\(jn hs).length <= 40:=by
 obtain⟨h1,h2⟩:=h
 rcases hs with _ | ⟨a,_ | ⟨b,_ | ⟨c,_ | ⟨d,_ | ⟨e,r⟩⟩⟩⟩⟩
 ·exact⟨by decide,by unfold jn;rw [a2m];decide⟩
 ·have ha:=h2 a (by simp)
  refine⟨by simp;omega,?_⟩
  unfold jn;rw [a2m]
  show a.length <= 40
  omega
 ·have ha:=h2 a (by simp)
  have hb:=h2 b (by simp)
  refine⟨by simp;omega,?_⟩
  unfold jn;rw [a2m]
  show(a ++ cm1 ++ b).length <= 40
  rw [len_app,len_app]
  show a.length + 1 + b.length <= 40
  omega
 ·have ha:=h2 a (by simp)
  have hb:=h2 b (by simp)
  have hc:=h2 c (by simp)
  refine⟨by simp;omega,?_⟩
  unfold jn;rw [a2m]
  show(a ++ cm1 ++ (b ++ cm1 ++ c)).length <= 40
  rw [len_app,len_app,len_app,len_app]
  show a.length + 1 + (b.length + 1 + c.length) <= 40
  omega
 ·have ha:=h2 a (by simp)
  have hb:=h2 b (by simp)
  have hc:=h2 c (by simp)
  have hd:=h2 d (by simp)
  refine⟨by simp;omega,?_⟩
  unfold jn;rw [a2m]
  show(a ++ cm1 ++ (b ++ cm1 ++ (c ++ cm1 ++ d))).length <= 40
  rw [len_app,len_app,len_app,len_app,len_app,len_app]
  show a.length + 1 + (b.length + 1 + (c.length + 1 + d.length)) <= 40
  omega
 ·exact absurd h1 (by simp)
theorem b6j{st:Stp Str}(h:bigS st):(stT st).length <= 50:=by
 cases st with
 | on=>show(Txt.join sp1 ["on"]).length <= 50;rw [jone];decide
 | back=>show(Txt.join sp1 ["back"]).length <= 50;rw [jone];decide
 | one hs =>
  have:=(a4u (hs:=hs) h).2
  show(Txt.join sp1 ["one",jn hs]).length <= 50
  rw [a5k,jone,len_app,len_app]
  show 3 + (1 + (jn hs).length) <= 50
  omega
 | pool hs =>
  have:=(a4u (hs:=hs) h).2
  show(Txt.join sp1 ["pool",jn hs]).length <= 50
  rw [a5k,jone,len_app,len_app]
  show 4 + (1 + (jn hs).length) <= 50
  omega
def b6k:DSp:=fun ls Q=>∃ st:Stp Str,ls=[.d (a4i st)]/\bigS st/\Q (.d (.str (stT st))) [none]
section
variable{P:Program}{w:World}{K:W.Frag}{mg:Str->Option Value}{base:Heap}{n:Nat}
abbrev a3s:Stmt:=top 39
theorem b2m:FnScope ["_law_step_here"] ["_law_step_here"] (a0e a3s):=⟨rfl,rfl,rfl,by decide +kernel,rfl,by decide +kernel,by decide +kernel⟩
theorem d2m{f:Addr}{fd:FuncData} (F:Fun K "_law_step_words" "_law_step_words" a3s f fd) (B:Bl mg):FnOk P w K mg base CX0 (n + 1) f fd ["_law_step_here"] (spD K b6k):=by
 refine F.dok b2m (fun cdv A outer s H E hr ls Qd h=>?_) (fun ls Qd h=>by obtain⟨_,e,_⟩:=h;rw [e];rfl)
 obtain⟨st,rfl,hb,q⟩:=h
 refine⟨rfl,?_⟩
 refine⟨_,(a0g (a1m (a1d a4q a7a (a1b a0t a1c (dv 0) a0h (fun _ _=>rfl)) (a0w (a0a a0d (a0a a0d a0c))) (by rfl))
  (a0k (a0q (a0z a0p a1e (a0z a0p a1e (a1b a0t a1c (dv 0) a0h (fun _ _=>rfl)) a0d) (b0s a0d (a0a (a1b a0t a1c (dv 0) a0h (fun _ _=>rfl)) a0c)))))
  a0y)
  (a0k (a0q (a1b a0t a1c (dv 0) a0h (fun _ _=>rfl))))),?_⟩
 cases st with
 | on =>
  rw [show stT .on = "on" from jone] at q
  simp only [a4i]
  walk_at "dk"
  exact q
 | back =>
  rw [show stT .back = "back" from jone] at q
  simp only [a4i]
  walk_at "dk"
  exact q
 | one hs =>
  have hj:=a4u (hs:=hs) hb
  rw [show stT (.one hs) = "one" ++ sp1 ++ jn hs from a5k.trans (by rw [jone,Str.append_assoc])] at q
  simp only [a4i]
  walk_at "dk"
  rw [a1h (by decide),a0m]
  refine⟨_,rfl,?_⟩
  rw [a6t (by decide) hj.1,a0m,a1h (by rw [len_app];show 3 + 1 + (jn hs).length <= _;omega),a0m]
  exact q
 | pool hs =>
  have hj:=a4u (hs:=hs) hb
  rw [show stT (.pool hs) = "pool" ++ sp1 ++ jn hs from a5k.trans (by rw [jone,Str.append_assoc])] at q
  simp only [a4i]
  walk_at "dk"
  rw [a1h (by decide),a0m]
  refine⟨_,rfl,?_⟩
  rw [a6t (by decide) hj.1,a0m,a1h (by rw [len_app];show 4 + 1 + (jn hs).length <= _;omega),a0m]
  exact q
end
open Tr
theorem c0u(z:Str):txt (.fact z) = "fact" ++ sp1 ++ z:=a5k.trans (by rw [jone,Str.append_assoc])
theorem c0v(z:Str):txt (.wish z) = "wish" ++ sp1 ++ z:=a5k.trans (by rw [jone,Str.append_assoc])
theorem w_not:(Str.ofString "not ")=Str.ofString "not" ++ sp1:=by decide +kernel
theorem c8v:(Str.ofString "show ")=Str.ofString "show" ++ sp1:=by decide +kernel
theorem c3c(a:Fm Str):txt (.neg a) = "not " ++ txt a:=(a3f (a4t a)).trans (by rw [← Str.append_assoc,w_not,txt])
theorem b6l(c:Bool)(a b:Fm Str):txt (.two c a b)=wd (.two c a b) ++ sp1 ++ txt a ++ sp1 ++ txt b:=by
 refine(a3f (x:=if c then "and" else "or") (r:=wds a ++ wds b) (fun h=>a4t a (append_eq_nil_iff.mp h).1)).trans ?_
 rw [japp (a4t a) (a4t b)]
 simp only [Str.append_assoc,txt,wd]
theorem b6m(c:Bool)(st:Stp Str)(a:Fm Str):txt (.mod c st a)=wd (.mod c st a) ++ sp1 ++ stT st ++ sp1 ++ txt a:=by
 refine(a3f (x:=if c then "every" else "some") (r:=stW st ++ wds a) (fun h=>c8u st (append_eq_nil_iff.mp h).1)).trans ?_
 rw [japp (c8u st) (a4t a)]
 simp only [Str.append_assoc,txt,wd,stT]
theorem b3j(m:Bool)(x:Str)(a:Fm Str):txt (.bind m x a)=wd (.bind m x a) ++ sp1 ++ x ++ sp1 ++ txt a:=by
 refine(a3f (x:=if m then "most" else "least") (r:=x :: wds a) (cons_ne_nil _ _)).trans ?_
 rw [a3f (a4t a)]
 simp only [Str.append_assoc,txt,wd]
theorem b6n(hs:List Str)(a b:Fm Str):txt (.sho hs a b) = "show " ++ jn hs ++ sp1 ++ txt a ++ sp1 ++ txt b:=by
 refine(a3f (x:="show") (r:=jn hs :: (wds a ++ wds b)) (cons_ne_nil _ _)).trans ?_
 rw [a3f (fun h=>a4t a (append_eq_nil_iff.mp h).1),japp (a4t a) (a4t b),c8v]
 simp only [Str.append_assoc,txt]
theorem a9b(a:Fm Str):(wd a).length <= 5:=by
 cases a with
 | two c _ _=>cases c<;>(simp only [wd];decide +kernel)
 | mod c _ _=>cases c<;>(simp only [wd];decide +kernel)
 | bind c _ _=>cases c<;>(simp only [wd];decide +kernel)
 | _=>simp only [wd];decide +kernel
theorem a2n:∀ {a:Fm Str},bigF a->(txt a).length <= 70 * szF a
 | .fact z,h=>by
  have h:z.length <= 8:=h
  rw [c0u,len_app,len_app]
  show 4 + 1 + z.length <= 70 * 1
  omega
 | .wish z,h=>by
  have h:z.length <= 8:=h
  rw [c0v,len_app,len_app]
  show 4 + 1 + z.length <= 70 * 1
  omega
 | .neg a,h=>by
  have:=a2n (a:=a) h
  rw [c3c,len_app]
  show 4 + (txt a).length <= 70 * (szF a + 1)
  omega
 | .two c a b,h=>by
  have h1:=a2n (a:=a) h.1
  have h2:=a2n (a:=b) h.2
  have h3:=a9b (.two c a b)
  rw [b6l,len_app,len_app,len_app,len_app]
  show _ + 1 + _ + 1 + _ <= 70 * (szF a + szF b + 1)
  omega
 | .mod c st a,h=>by
  have h1:=b6j h.1
  have h2:=a2n (a:=a) h.2
  have h3:=a9b (.mod c st a)
  rw [b6m,len_app,len_app,len_app,len_app]
  show _ + 1 + _ + 1 + _ <= 70 * (szF a + 1)
  omega
 | .bind m x a,h=>by
  have h1:x.length <= 8:=h.1
  have h2:=a2n (a:=a) h.2
  have h3:=a9b (.bind m x a)
  rw [b3j,len_app,len_app,len_app,len_app]
  show _ + 1 + _ + 1 + _ <= 70 * (szF a + 1)
  omega
 | .sho hs a b,h=>by
  have h1:=(a4u h.1).2
  have h2:=a2n (a:=a) h.2.1
  have h3:=a2n (a:=b) h.2.2
  rw [b6n,len_app,len_app,len_app,len_app,len_app]
  show 5 + _ + 1 + _ + 1 + _ <= 70 * (szF a + szF b + 1)
  omega
open Tr
theorem l_or:(Str.ofString "or").length=2:=by decide +kernel
theorem l_and:(Str.ofString "and").length=3:=by decide +kernel
theorem e3v:(Str.ofString "some").length=4:=by decide +kernel
theorem d8h:(Str.ofString "every").length=5:=by decide +kernel
theorem d8i:(Str.ofString "least").length=5:=by decide +kernel
theorem e3w:(Str.ofString "most").length=4:=by decide +kernel
theorem e3x:(Str.ofString "show ").length=5:=by decide +kernel
theorem l_sp:(Str.ofString " ").length=1:=by decide +kernel
theorem l_fact:(Str.ofString "fact").length=4:=by decide +kernel
theorem c8w:(Str.ofString "wish").length=4:=by decide +kernel
theorem l_not:(Str.ofString "not ").length=4:=by decide +kernel
local macro_rules | `(tactic| walk_at "ln") => `(tactic| (simp only [len_app, l_or, l_and, e3v, d8h, d8i, e3w, e3x, l_sp, l_fact, c8w, l_not]; omega))
def b5f(m:Nat):DSp:=fun ls Q=>∃ a:Fm Str,ls=[.d (enc a)]/\szF a <= m/\szF a <= 100/\bigF a/\Q (.d (.str (txt a))) [none]
section
variable{P:Program}{w:World}{K:W.Frag}{mg:Str->Option Value}{base:Heap}{n:Nat}
abbrev a6e:Stmt:=top 40
theorem b2y:FnScope ["_law_one","_law_word"] ["_law_one"] (a0e a6e):=⟨rfl,rfl,rfl,by decide +kernel,rfl,by decide +kernel,by decide +kernel⟩
theorem d8j{f f1:Addr}{fd fd1:FuncData} (F:Fun K "_law_text" "_law_text" a6e f fd) (B:Bl mg) (a5p:Def K mg "_law_step_words" a3s ["_law_step_here"] f1 fd1) (b3k:FnOk P w K mg base CX0 n f1 fd1 ["_law_step_here"] (spD K b6k))
  (a2a:Def K mg "_law_text" a6e ["_law_one"] f fd) {m:Nat} (a3b:FnOk P w K mg base CX0 n f fd ["_law_one"] (spD K (b5f m))):FnOk P w K mg base CX0 (n + 1) f fd ["_law_one"] (spD K (b5f (m + 1))):=by
 refine F.dok b2y (fun cdv A outer s H E hr ls Qd h=>?_) (fun ls Qd h=>by obtain⟨_,e,_⟩:=h;rw [e];rfl)
 obtain⟨a,rfl,hm,h100,hb,q⟩:=h
 refine⟨rfl,?_⟩
 refine⟨_,(a0g (a2c (i:=1) b2y.nd rfl (Or.inl rfl) (a1b a0t a1c (dv 0) a0h (fun _ _=>rfl)))
  (a0g (a1m (a1d a4q a7a (dv 1) (a0w (a0a a0d (a0a a0d a0c))) (by rfl))
  (a0k (a0q (a0z a0p a1e (a0z a0p a1e (dv 1) a0d) (a1b a0t a1c (dv 0) a0h (fun _ _=>rfl)))))
  a0y)
  (a0g (a1m (a1d (a2v hr.units) a2u (dv 1) a0d (a0u _))
  (a0k (a0q (a0z a0p a1e a0d (a0l [false] a2a a3b hr rfl (a0a (a1b a0t a1c (dv 0) a0h (fun _ _=>rfl)) a0c)))))
  a0y)
  (a0g (a1m (a1d a4q a7a (dv 1) (a0w (a0a a0d (a0a a0d a0c))) (by rfl))
  (a0k (a0q (a0z a0p a1e (a0z a0p a1e (a0z a0p a1e (a0z a0p a1e (dv 1) a0d) (a0l [false] a2a a3b hr rfl (a0a (a1b a0t a1c (dv 0) a0h (fun _ _=>rfl)) a0c))) a0d) (a0l [false] a2a a3b hr rfl (a0a (a1b a0t a1c (dv 0) a0h (fun _ _=>rfl)) a0c)))))
  a0y)
  (a0g (a1m (a1d a4q a7a (dv 1) (a0w (a0a a0d (a0a a0d a0c))) (by rfl))
  (a0k (a0q (a0z a0p a1e (a0z a0p a1e (a0z a0p a1e (a0z a0p a1e (dv 1) a0d) (a0l [false] a5p b3k hr rfl (a0a (a1b a0t a1c (dv 0) a0h (fun _ _=>rfl)) a0c))) a0d) (a0l [false] a2a a3b hr rfl (a0a (a1b a0t a1c (dv 0) a0h (fun _ _=>rfl)) a0c)))))
  a0y)
  (a0g (a1m (a1d a4q a7a (dv 1) (a0w (a0a a0d (a0a a0d a0c))) (by rfl))
  (a0k (a0q (a0z a0p a1e (a0z a0p a1e (a0z a0p a1e (a0z a0p a1e (dv 1) a0d) (a1b a0t a1c (dv 0) a0h (fun _ _=>rfl))) a0d) (a0l [false] a2a a3b hr rfl (a0a (a1b a0t a1c (dv 0) a0h (fun _ _=>rfl)) a0c)))))
  a0y)
  (a0k (a0q (a0z a0p a1e (a0z a0p a1e (a0z a0p a1e (a0z a0p a1e (a0z a0p a1e a0d (b0s a0d (a0a (a1b a0t a1c (dv 0) a0h (fun _ _=>rfl)) a0c))) a0d) (a0l [false] a2a a3b hr rfl (a0a (a1b a0t a1c (dv 0) a0h (fun _ _=>rfl)) a0c))) a0d) (a0l [false] a2a a3b hr rfl (a0a (a1b a0t a1c (dv 0) a0h (fun _ _=>rfl)) a0c))))))))))),?_⟩
 match a,hm,h100,hb,q with
 | .fact z,hm,h100,hb,q =>
  have hz:z.length <= 8:=hb
  rw [c0u] at q
  simp only [enc]
  walk_at "dk"
  rw [a1h (by decide),a0m,a1h (by rw [len_app];show 4 + 1 + _ <= _;omega),a0m]
  exact q
 | .wish z,hm,h100,hb,q =>
  have hz:z.length <= 8:=hb
  rw [c0v] at q
  simp only [enc]
  walk_at "dk"
  rw [a1h (by decide),a0m,a1h (by rw [len_app];show 4 + 1 + _ <= _;omega),a0m]
  exact q
 | .neg a,hm,h100,hb,q =>
  have h1:=a2n (a:=a) hb
  have hs:szF a + 1 <= m + 1:=hm
  have hl:szF a + 1 <= 100:=h100
  rw [c3c] at q
  simp only [enc]
  walk_at "dk"
  refine⟨a,rfl,by omega,by omega,hb,?_⟩
  walk_at "dk"
  rw [a1h (by show 4 + _ <= _;omega),a0m]
  exact q
 | .two c a b,hm,h100,hb,q =>
  have h1:=a2n (a:=a) hb.1
  have h2:=a2n (a:=b) hb.2
  have hs:szF a + szF b + 1 <= m + 1:=hm
  have hl:szF a + szF b + 1 <= 100:=h100
  rw [b6l] at q
  cases c
  all_goals
   simp only [enc]
   walk_at "dk"
   rw [a1h (by walk_at "ln"),a0m]
   refine⟨a,rfl,by omega,by omega,hb.1,?_⟩
   walk_at "dk"
   rw [a1h (by walk_at "ln"),a0m,a1h (by walk_at "ln"),a0m]
   refine⟨b,rfl,by omega,by omega,hb.2,?_⟩
   walk_at "dk"
   rw [a1h (by walk_at "ln"),a0m]
   exact q
 | .mod c st a,hm,h100,hb,q =>
  have h1:=b6j hb.1
  have h2:=a2n (a:=a) hb.2
  have hs:szF a + 1 <= m + 1:=hm
  have hl:szF a + 1 <= 100:=h100
  rw [b6m] at q
  cases c
  all_goals
   simp only [enc]
   walk_at "dk"
   rw [a1h (by walk_at "ln"),a0m]
   refine⟨st,rfl,hb.1,?_⟩
   walk_at "dk"
   rw [a1h (by walk_at "ln"),a0m,a1h (by walk_at "ln"),a0m]
   refine⟨a,rfl,by omega,by omega,hb.2,?_⟩
   walk_at "dk"
   rw [a1h (by walk_at "ln"),a0m]
   exact q
 | .bind c x a,hm,h100,hb,q =>
  have h1:x.length <= 8:=hb.1
  have h2:=a2n (a:=a) hb.2
  have hs:szF a + 1 <= m + 1:=hm
  have hl:szF a + 1 <= 100:=h100
  rw [b3j] at q
  cases c
  all_goals
   simp only [enc]
   walk_at "dk"
   rw [a1h (by walk_at "ln"),a0m,a1h (by walk_at "ln"),a0m,a1h (by walk_at "ln"),a0m]
   refine⟨a,rfl,by omega,by omega,hb.2,?_⟩
   walk_at "dk"
   rw [a1h (by walk_at "ln"),a0m]
   exact q
 | .sho hs a b,hm,h100,hb,q =>
  have hj:=a4u hb.1
  have h1:=a2n (a:=a) hb.2.1
  have h2:=a2n (a:=b) hb.2.2
  have hs':szF a + szF b + 1 <= m + 1:=hm
  have hl:szF a + szF b + 1 <= 100:=h100
  rw [b6n] at q
  simp only [enc]
  walk_at "dk"
  refine⟨_,rfl,?_⟩
  rw [a6t (by decide) hj.1,a0m]
  rw [show Txt.join (Str.ofString ",") hs=jn hs from rfl,a1h (by walk_at "ln"),a0m,a1h (by walk_at "ln"),a0m]
  refine⟨a,rfl,by omega,by omega,hb.2.1,?_⟩
  walk_at "dk"
  rw [a1h (by walk_at "ln"),a0m,a1h (by walk_at "ln"),a0m]
  refine⟨b,rfl,by omega,by omega,hb.2.2,?_⟩
  walk_at "dk"
  rw [a1h (by walk_at "ln"),a0m]
  exact q
end
open Tr
noncomputable def tk:Fm Str->Str
 | .fact z=>z
 | .wish z=>z
 | .mod _ st _=>stT st
 | .bind _ x _=>x
 | .sho hs _ _=>jn hs
 | _ => ""
def b3l:DSp:=fun ls Q=>∃ (k:Fm Str) (d:PyData),arg k=[d]/\ls=[.d d,.d (.str (fk k).1)]/\bigF k/\Q (.d (.str (tk k))) [none,none]
def a9i:DSp:=fun ls Q=>∃ hs:List Str,ls=[.d (.str (jn hs))]/\hs ≠ []/\bigH hs/\(∀ z ∈ hs,a1v z=true)/\Q (.d (encH hs)) [none]
theorem a6u{z:Str}(h:a1v z=true):(44:Nat) ∉ z.cps.toList/\32 ∉ z.cps.toList:=by
 unfold a1v at h
 rw [and_eq_true] at h
 have ha:=all_eq_true.mp h.2
 exact⟨fun m=>by have:=ha _ m;revert this;decide,fun m=>by have:=ha _ m;revert this;decide⟩
theorem cm_eq:cm1=⟨#[44]⟩:=by decide +kernel
theorem c5k{hs:List Str}(hn:hs ≠ [])(h:∀ z ∈ hs,a1v z=true):Txt.split (jn hs) cm1=hs:=by
 unfold jn
 rw [cm_eq]
 exact b4w hn fun p hp=>(a6u (h p hp)).1
section
variable{P:Program}{w:World}{K:W.Frag}{mg:Str->Option Value}{base:Heap}{n:Nat}
abbrev a7z:Stmt:=top 28
theorem c1o:FnScope ["word"] ["word"] (a0e a7z):=⟨rfl,rfl,rfl,by decide +kernel,rfl,by decide +kernel,by decide +kernel⟩
theorem c1p{f:Addr}{fd:FuncData} (F:Fun K "hands_in" "hands_in" a7z f fd) (B:Bl mg):FnOk P w K mg base CX0 (n + 1) f fd ["word"] (spD K a9i):=by
 refine F.dok c1o (fun cdv A outer s H E hr ls Qd h=>?_) (fun ls Qd h=>by obtain⟨_,e,_⟩:=h;rw [e];rfl)
 obtain⟨hs,rfl,hn,hb,hk,q⟩:=h
 refine⟨rfl,?_⟩
 refine⟨_,(a0k (a0q (b7b b1b c9t rfl B.tuple_ a8r (a0a (a3a (d1p (dv 0) (a0a a0d a0c))) a0c)))),?_⟩
 have hj:=a4u hb
 walk_at "dd"
 refine⟨_,rfl,by omega,_,rfl,by decide +kernel,?_⟩
 rw [show Txt.split (jn hs) (Str.ofString ",")=hs from c5k hn hk]
 walk_at "dd"
 exact q
abbrev a5o:Stmt:=top 25
theorem b6o:FnScope ["taken","sort"] ["taken","sort"] (a0e a5o):=⟨rfl,rfl,rfl,by decide +kernel,rfl,by decide +kernel,by decide +kernel⟩
theorem b6p{f:Addr}{fd:FuncData} (F:Fun K "shown_taken" "shown_taken" a5o f fd) (B:Bl mg):FnOk P w K mg base CX0 (n + 1) f fd ["taken","sort"] (spD K b3l):=by
 refine F.dok b6o (fun cdv A outer s H E hr ls Qd h=>?_) (fun ls Qd h=>by obtain⟨_,_,_,e,_⟩:=h;rw [e];rfl)
 obtain⟨k,d,ed,rfl,hb,q⟩:=h
 refine⟨rfl,?_⟩
 refine⟨_,(a0g (a1m (a1d (a2v hr.units) a2u (dv 1) a0d (a0u _))
  (a0k (a0q (dv 0)))
  a0y)
  (a0g (a1m (a1d (a2v hr.units) a2u (dv 1) a0d (a0u _))
  (a0k (a0q (b0s a0d (a0a (dv 0) a0c))))
  a0y)
  (a0g (a1m (a1d (a2v hr.units) a2u (a3l a2p a5z rfl B.len_ a3i (a0a (dv 0) a0c)) a0h (a0u _))
  (a0k (a0q (a1b a0t a1c (dv 0) a0h (fun _ _=>rfl))))
  a0y)
  (a0k (a0q (a0z a0p a1e (a0z a0p a1e (a1b a0t a1c (dv 0) a0h (fun _ _=>rfl)) a0d) (b0s a0d (a0a (a1b a0t a1c (dv 0) a0h (fun _ _=>rfl)) a0c)))))))),?_⟩
 cases k with
 | fact z =>
  cases ed
  simp only [fk]
  walk_at "dk"
  exact q
 | wish z =>
  cases ed
  simp only [fk]
  walk_at "dk"
  exact q
 | bind m x a =>
  cases ed
  simp only [fk]
  walk_at "dk"
  exact q
 | sho hs a b =>
  cases ed
  have hj:=a4u hb.1
  simp only [fk]
  walk_at "dk"
  refine⟨_,rfl,?_⟩
  rw [a6t (by decide) hj.1,a0m]
  exact q
 | mod c st a =>
  cases ed
  simp only [fk]
  cases st with
  | on =>
   rw [show tk (.mod c .on a) = "on" from jone] at q
   simp only [a4i]
   walk_at "dk"
   exact q
  | back =>
   rw [show tk (.mod c .back a) = "back" from jone] at q
   simp only [a4i]
   walk_at "dk"
   exact q
  | one hs =>
   have hj:=a4u (hs:=hs) hb.1
   rw [show tk (.mod c (.one hs) a) = "one" ++ sp1 ++ jn hs from a5k.trans (by rw [jone,Str.append_assoc])] at q
   simp only [a4i]
   walk_at "dk"
   rw [a1h (by decide),a0m]
   refine⟨_,rfl,?_⟩
   rw [a6t (by decide) hj.1,a0m,a1h (by rw [len_app];show 3 + 1 + (jn hs).length <= _;omega),a0m]
   exact q
  | pool hs =>
   have hj:=a4u (hs:=hs) hb.1
   rw [show tk (.mod c (.pool hs) a) = "pool" ++ sp1 ++ jn hs from a5k.trans (by rw [jone,Str.append_assoc])] at q
   simp only [a4i]
   walk_at "dk"
   rw [a1h (by decide),a0m]
   refine⟨_,rfl,?_⟩
   rw [a6t (by decide) hj.1,a0m,a1h (by rw [len_app];show 4 + 1 + (jn hs).length <= _;omega),a0m]
   exact q
 | neg a=>cases ed
 | two c a b=>cases ed
end
open Tr
noncomputable def els:Fm Str->List Str
 | .fact z=>["fact",z]
 | .wish z=>["wish",z]
 | .neg a => "not" :: els a
 | .two c a b=>(if c then "and" else "or") :: (els a ++ els b)
 | .mod c st a=>(if c then "every" else "some") :: stT st :: els a
 | .bind m x a=>(if m then "most" else "least") :: x :: els a
 | .sho hs a b => "show" :: jn hs :: (els a ++ els b)
theorem a6f(a:Fm Str):els a ≠ []:=by cases a<;>exact fun h=>nomatch h
theorem a4v:∀ a:Fm Str,Txt.join sp1 (els a)=txt a
 | .fact z=>rfl
 | .wish z=>rfl
 | .neg a=>(a3f (a6f a)).trans (by rw [a4v a];exact(a3f (a4t a)).symm)
 | .two c a b=>by
  refine(a3f (fun h=>a6f a (append_eq_nil_iff.mp h).1)).trans ?_
  rw [japp (a6f a) (a6f b),a4v a,a4v b,b6l]
  simp only [Str.append_assoc,wd]
 | .mod c st a=>by
  refine(a3f (cons_ne_nil _ _)).trans ?_
  rw [a3f (a6f a),a4v a,b6m]
  simp only [Str.append_assoc,wd]
 | .bind m x a=>by
  refine(a3f (cons_ne_nil _ _)).trans ?_
  rw [a3f (a6f a),a4v a,b3j]
  simp only [Str.append_assoc,wd]
 | .sho hs a b=>by
  refine(a3f (cons_ne_nil _ _)).trans ?_
  rw [a3f (fun h=>a6f a (append_eq_nil_iff.mp h).1),japp (a6f a) (a6f b),a4v a,a4v b,b6n,c8v]
  simp only [Str.append_assoc]
noncomputable def hasT:Fm Str->Bool:=pick true true false false true true true
theorem d2n(k:Fm Str):els k=wd k :: ((if hasT k=true then [tk k] else []) ++ (kids k).flatMap els):=by
 cases k<;>simp [els,wd,hasT,pick,tk,kids]
theorem c8x(k:Fm Str):decide ((fk k).1=Str.ofString "") = !hasT k:=by cases k<;>rfl
theorem c3d{k:Fm Str}(h:hasT k=true):arg k=[ag k]:=by cases k<;>first | rfl | cases h
theorem c0w{k:Fm Str}(h:bigF k):∀ y ∈ kids k,bigF y:=fun y hy=>by
 cases k with
 | fact z=>cases hy
 | wish z=>cases hy
 | neg a=>cases mem_singleton.mp hy;exact h
 | two c a b=>rcases mem_cons.mp hy with rfl | hy;exact h.1;cases mem_singleton.mp hy;exact h.2
 | mod c st a=>cases mem_singleton.mp hy;exact h.2
 | bind m x a=>cases mem_singleton.mp hy;exact h.2
 | sho hs a b=>rcases mem_cons.mp hy with rfl | hy;exact h.2.1;cases mem_singleton.mp hy;exact h.2.2
theorem b2k(k:Fm Str):szF k=((kids k).map szF).sum + 1:=by cases k<;>simp [szF,kids]
theorem b0x(k:Fm Str):(kids k).length <= 2:=by cases k<;>(simp only [kids,length_cons,List.length_nil];omega)
theorem a5u:∀ {a:Fm Str},bigF a->((els a).map (·.length)).sum + (els a).length <= 70 * szF a
 | .fact z,h=>by have h:z.length <= 8:=h;simp [els,szF,l_fact];omega
 | .wish z,h=>by have h:z.length <= 8:=h;simp [els,szF,c8w];omega
 | .neg a,h=>by
  have:=a5u (a:=a) h
  have e:(Str.ofString "not").length=3:=by decide +kernel
  simp [els,szF,e];omega
 | .two c a b,h=>by
  have h1:=a5u (a:=a) h.1
  have h2:=a5u (a:=b) h.2
  have h3:=a9b (.two c a b)
  have e:els (.two c a b)=wd (.two c a b) :: (els a ++ els b):=rfl
  rw [e]
  simp [szF];omega
 | .mod c st a,h=>by
  have h1:=b6j h.1
  have h2:=a5u (a:=a) h.2
  have h3:=a9b (.mod c st a)
  have e:els (.mod c st a)=wd (.mod c st a) :: stT st :: els a:=rfl
  rw [e]
  simp [szF];omega
 | .bind m x a,h=>by
  have h1:x.length <= 8:=h.1
  have h2:=a5u (a:=a) h.2
  have h3:=a9b (.bind m x a)
  have e:els (.bind m x a)=wd (.bind m x a) :: x :: els a:=rfl
  rw [e]
  simp [szF];omega
 | .sho hs a b,h=>by
  have h1:=(a4u h.1).2
  have h2:=a5u (a:=a) h.2.1
  have h3:=a5u (a:=b) h.2.2
  have h4:=a9b (.sho hs a b)
  have e:els (.sho hs a b)=wd (.sho hs a b) :: jn hs :: (els a ++ els b):=rfl
  rw [e]
  simp [szF];omega
noncomputable def b0d:PyData:=.dict ((b1r.map kQ).map kD)
theorem b1t(k:Fm Str):getA ((b1r.map kQ).map kD) (Sum.inr (wd k))=some (.tuple [.str (fk k).1,.int (fk k).2]):=by
 rcases k with _ | _ | _ | ⟨c,_,_⟩ | ⟨c,_,_⟩ | ⟨c,_,_⟩ | _<;>first | rfl | (cases c<;>rfl)
def b1u:DSp:=fun ls Q=>∃ a:Fm Str,ls=[.d (enc a),.d b0d]/\szF a <= 100/\bigF a/\Q (.d (.str (txt a))) [none,none]
open Tr
theorem d8k(k:Fm Str):b8e b0d (.str (wd k))=some (.tuple [.str (fk k).1,.int (fk k).2]):=b1t k
theorem c0x:∀ ws:List (Fm Str),ws.length <= (ws.map szF).sum
 | []=>Nat.le_refl _
 | y :: r=>by
  have h1:=c0x r
  have h2:=a8i y
  rw [map_cons,List.sum_cons,length_cons]
  omega
section
variable{P:Program}{w:World}{K:W.Frag}{mg:Str->Option Value}{base:Heap}{n:Nat}
abbrev a9j:Stmt:=top 24
theorem a5e:FnScope ["sentence","forms","words","waiting","thing","form","part"] ["sentence","forms"] (a0e a9j):=⟨rfl,rfl,rfl,by decide +kernel,rfl,by decide +kernel,by decide +kernel⟩
theorem c5l{f f1:Addr}{fd fd1:FuncData} (F:Fun K "written" "written" a9j f fd) (B:Bl mg) (d_shown_taken:Def K mg "shown_taken" a5o ["taken","sort"] f1 fd1) (g_shown_taken:FnOk P w K mg base CX0 n f1 fd1 ["taken","sort"] (spD K b3l)):FnOk P w K mg base CX0 (n + 1) f fd ["sentence","forms"] (spD K b1u):=by
 refine F.dok a5e (fun cdv A outer s H E hr ls Qd h=>?_) (fun ls Qd hq8=>by obtain⟨x,e,_⟩:=hq8;rw [e];rfl)
 obtain⟨x,rfl,hsz,hx,q⟩:=h
 refine⟨rfl,?_⟩
 refine⟨_,(a0g (b5w (i:=2) a5e.nd rfl (Or.inl rfl) (a2f a0c))
  (a0g (b5w (i:=3) a5e.nd rfl (Or.inl rfl) (a2f (a0a (dv 0) a0c)))
  (a0g (d0a PassesOwn.never (b9f (dv 3))
  (a0g (a2c (i:=4) a5e.nd rfl (Or.inl rfl) (e0n 3 rfl))
  (a0g (a2c (i:=5) a5e.nd rfl (Or.inl rfl) (d7q hr.units (dv 1) (a1b a0t a1c (dv 4) a0h (fun _ _=>rfl)) (fun _ _=>rfl)))
  (a0g (a8g (a5t 2 rfl (a1b a0t a1c (dv 4) a0h (fun _ _=>rfl))))
  (a0g (a1m (a1d (b4p hr.units) b4o (a1b a0t a1c (dv 5) a0h (fun _ _=>rfl)) a0d (a0u _))
  (a0k (a8g (a5t 2 rfl (a0l [false,false] d_shown_taken g_shown_taken hr rfl (a0a (a1b a0t a1c (dv 4) a0h (fun _ _=>rfl)) (a0a (a1b a0t a1c (dv 5) a0h (fun _ _=>rfl)) a0c))))))
  a0y)
  (a0k (b1o PassesOwn.never rfl (c7t rfl B.reversed_ (b9w (d9i.or d1j) e3d (dv 4) (c2s (a0z a3m a4p (a3l a2p a5z rfl B.len_ a3i (a0a (dv 4) a0c)) (a1b a0t a1c (dv 5) a0h (fun _ _=>rfl)))) c2r)) (a2x (i:=6) a5e.nd rfl (Or.inl rfl))
  (a0k (a8g (a5t 3 rfl (dv 6)))))))))))
  (a0k (a0q (d7l a0d (a0a (dv 2) a0c))))))),?_⟩
 walk_at "dd"
 refine c7u (fun m ρ=>∃ (us:List Str) (ws:List (Fm Str)) (v4 v5 v6:Option L),ρ=[some (.d (enc x)),some (.d b0d),some (.own (us.map .str)),some (.own (ws.map enc)),v4,v5,v6]/\us ++ ws.reverse.flatMap els=els x/\m=(ws.map szF).sum/\m <= 100/\us.length <= 2 * (100 - m)/\∀ y ∈ ws,bigF y) (szF x)
  ⟨[],[x],none,none,none,rfl,by simp,by simp,hsz,by simp,fun y hy=>by simp at hy;subst hy;exact hx⟩ ?_
 rintro m ρ N ⟨us,ws,v4,v5,v6,rfl,hall,hm,hm1,hu,hok⟩ hN
 walk_at "dd"
 rcases List.eq_nil_or_concat ws with rfl | ⟨ws0,y,rfl⟩
 ·refine iteF ?_
  walk_at "dd"
  have e:us=els x:=by simpa using hall
  have hs:=a5u hx
  refine⟨_,rfl,?_⟩
  rw [e,d7j (by decide) (by omega),a0m,show Txt.join (Str.ofString " ") (els x)=txt x from a4v x]
  exact q
 ·rw [List.concat_eq_append] at *
  have hall':us ++ (els y ++ ws0.reverse.flatMap els)=els x:=by simpa using hall
  have hyok:bigF y:=hok y (by simp)
  have hm':m=(ws0.map szF).sum + szF y:=by rw [hm];simp
  have lw:=c0x ws0
  have eb:(!(List.map enc (ws0 ++ [y])).isEmpty)=true:=by simp
  rw [eb]
  refine iteT ?_
  rw [map_append,map_cons,map_nil,List.getLast?_concat,List.dropLast_concat]
  walk_at "dd"
  rw [c0m y]
  walk_at "dd"
  rw [d8k]
  walk_at "dd"
  refine⟨by rw [length_map];omega,?_⟩
  walk_at "dd"
  rw [c8x]
  have hek:=d2n y
  cases hT:hasT y with
  | false =>
   rw [hT,if_neg (by decide)] at hek
   obtain⟨us2,hus2,hl2,e2⟩:∃ us2:List Str,us2 ++ ((kids y).flatMap els ++ ws0.reverse.flatMap els)=els x/\us2.length <= us.length + 2/\List.map PyData.str us ++ [PyData.str (wd y)]=us2.map .str:=⟨us ++ [wd y],by rw [← hall',hek];simp,by simp,by simp⟩
   rw [e2]
   walk_at "dd"
   have lk:=b0x y
   have szy:=b2k y
   walk_at "dd"
   rw [c0n]
   refine a6p (fun i ρ=>∃ v6,ρ=[some (.d (enc x)),some (.d b0d),some (.own (us2.map .str)),some (.own ((ws0 ++ (kids y).reverse.take i).map enc)),some (.d (PyData.tuple (PyData.str (wd y) :: ag y :: mr y))),some (.d (PyData.tuple [PyData.str (fk y).1,PyData.int ((fk y).2:Int)])),v6]) ⟨v6,by simp⟩ ?_ ?_
   ·rintro i u ρ N2 hu ⟨v6',rfl⟩ hN2
    have hi:i < (kids y).length:=by
     have:=(List.getElem?_eq_some_iff.mp hu).1
     rwa [length_reverse,length_map] at this
    rw [← map_reverse,getElem?_map] at hu
    obtain⟨kid,ek,rfl⟩:=map_eq_some_iff.mp hu
    walk_at "dd"
    refine⟨by simp;omega,hN2 _ ⟨some (.d (enc kid)),?_⟩⟩
    rw [take_add_one,ek,Option.toList_some,← append_assoc,map_append (l₁:=ws0 ++ _)]
    rfl
   ·rintro ρ ⟨v6',rfl⟩
    refine hN (m - 1) _ (by omega) ⟨us2,ws0 ++ (kids y).reverse,some (.d (PyData.tuple (PyData.str (wd y) :: ag y :: mr y))),some (.d (PyData.tuple [PyData.str (fk y).1,PyData.int ((fk y).2:Int)])),v6',?_,?_,?_,by omega,by omega,?_⟩
    ·rw [length_reverse,length_map,List.take_of_length_le (by rw [length_reverse];exact Nat.le_refl _)]
    ·rw [← hus2];simp
    ·rw [map_append,sum_append,map_reverse,List.sum_reverse];omega
    ·intro z hz
     rcases mem_append.mp hz with hz | hz
     ·exact hok z (mem_append_left _ hz)
     ·exact c0w hyok z (List.mem_reverse.mp hz)
  | true =>
   rw [hT,if_pos rfl] at hek
   walk_at "dd"
   refine⟨y,ag y,c3d hT,rfl,hyok,?_⟩
   walk_at "dd"
   refine⟨by simp;omega,?_⟩
   obtain⟨us2,hus2,hl2,e2⟩:∃ us2:List Str,us2 ++ ((kids y).flatMap els ++ ws0.reverse.flatMap els)=els x/\us2.length <= us.length + 2/\List.map PyData.str us ++ [PyData.str (wd y)] ++ [PyData.str (tk y)]=us2.map .str:=⟨us ++ [wd y,tk y],by rw [← hall',hek];simp,by simp,by simp⟩
   try rw [e2]
   have lk:=b0x y
   have szy:=b2k y
   walk_at "dd"
   rw [c0n]
   refine a6p (fun i ρ=>∃ v6,ρ=[some (.d (enc x)),some (.d b0d),some (.own (us2.map .str)),some (.own ((ws0 ++ (kids y).reverse.take i).map enc)),some (.d (PyData.tuple (PyData.str (wd y) :: ag y :: mr y))),some (.d (PyData.tuple [PyData.str (fk y).1,PyData.int ((fk y).2:Int)])),v6]) ⟨v6,by simp⟩ ?_ ?_
   ·rintro i u ρ N2 hu ⟨v6',rfl⟩ hN2
    have hi:i < (kids y).length:=by
     have:=(List.getElem?_eq_some_iff.mp hu).1
     rwa [length_reverse,length_map] at this
    rw [← map_reverse,getElem?_map] at hu
    obtain⟨kid,ek,rfl⟩:=map_eq_some_iff.mp hu
    walk_at "dd"
    refine⟨by simp;omega,hN2 _ ⟨some (.d (enc kid)),?_⟩⟩
    rw [take_add_one,ek,Option.toList_some,← append_assoc,map_append (l₁:=ws0 ++ _)]
    rfl
   ·rintro ρ ⟨v6',rfl⟩
    refine hN (m - 1) _ (by omega) ⟨us2,ws0 ++ (kids y).reverse,some (.d (PyData.tuple (PyData.str (wd y) :: ag y :: mr y))),some (.d (PyData.tuple [PyData.str (fk y).1,PyData.int ((fk y).2:Int)])),v6',?_,?_,?_,by omega,by omega,?_⟩
    ·rw [length_reverse,length_map,List.take_of_length_le (by rw [length_reverse];exact Nat.le_refl _)]
    ·rw [← hus2];simp
    ·rw [map_append,sum_append,map_reverse,List.sum_reverse];omega
    ·intro z hz
     rcases mem_append.mp hz with hz | hz
     ·exact hok z (mem_append_left _ hz)
     ·exact c0w hyok z (List.mem_reverse.mp hz)
end
open Tr
structure RdF(K:W.Frag)(mg:Str->Option Value)(CR:Addr):Prop where
 cl:Cls K CR
 n1:a3v K CR "words"
 n2:a3v K CR "forms"
 n3:a3v K CR "left"
 mgC:mg "Reading" = some (.ref CR)
noncomputable def rfs(wx fo:Addr)(l:Int):List (Str × V):=[("words",.ref wx),("forms",.ref fo),("left",.int l)]
theorem a7m{wx fo:Addr}{l:Int}:(rfs wx fo l).lookup ("words" : Str)=some (.ref wx):=rfl
theorem b7j{wx fo:Addr}{l:Int}:(rfs wx fo l).lookup ("forms" : Str)=some (.ref fo):=rfl
theorem c0y{wx fo:Addr}{l:Int}:(rfs wx fo l).lookup ("left" : Str)=some (.int l):=rfl
theorem d2o{wx fo:Addr}{l q:Int}:putF "left" (.int q) (rfs wx fo l)=rfs wx fo q:=rfl
abbrev a6v:Stmt:=inClass (top 27) 3
theorem c8y:FnScope ["self"] ["self"] (a0e a6v):=⟨rfl,rfl,rfl,by decide +kernel,rfl,by decide +kernel,by decide +kernel⟩
theorem But.of{x:Addr}{H H':Hp}(s:Same H H'):But x H H':=fun c o _ e=>s c o e
theorem But.trans{x:Addr}{H H1 H':Hp}(a:But x H H1)(b:But x H1 H'):But x H H':=fun c o n e=>b c o n (a c o n e)
theorem But.keep{x C dx:Addr}{fs:List (Str × V)}{H H':Hp}(b:But x H H')(hx:H x=some (.ins C dx fs)):Keep (fun a=>a ≠ x) H H':=
 ⟨fun c xs e=>b _ _ (fun z=>by rw [z,hx] at e;cases e) e,fun c o u e=>b _ _ (fun z=>by rw [z,hx] at e;cases e) e,fun c o n e=>b _ _ n e⟩
def okH(hs:List Str):Prop:=a9f "" hs=true/\hs ≠ []/\bigH hs/\∀ z ∈ hs,a1v z=true
def b3m(K:W.Frag)(C CR:Addr):Sp:=fun vs H Q _=>∃ (x dx wx dw fo:Addr) (l r:Int) (wl:Addr) (p:Nat) (ws:List Str) (hs:List Str) (sa:Addr) (ns:List Int),vs=[.ref x]/\H x=some (.ins CR dx (rfs wx fo l))/\WOk C H wx dw r wl p ws/\ws[p]? = some (jn hs)/\okH hs/\L2.Scr K H sa (ns.map V.int) /\
 ∀ v H',But wx H H'->WOk C H' wx dw r wl (p + 1) ws->AtD K H' (fun _=>False) (encH hs) v->Q v H'
section
variable{P:Program}{w:World}{K:W.Frag}{mg:Str->Option Value}{base:Heap}{n:Nat}{C CR:Addr}
theorem _root_.L2.Fun.okC{CX:CXT}{x qual:Str}{st:Stmt}{f:Addr}{fd:FuncData}{N ps:List Str}{k:Nat}{sp:Sp}(F:Fun K x qual st f fd)(S:FnScope N ps (a0e st))(len:∀ vs H Q E,sp vs H Q E->vs.length=ps.length)
  (hbody:∀ (cdv:Value) (A:Around) (outer:List Env) (s:Shared) (H:Hp) (vs:List V) (Q:VK) (E:XK),fd.code=cdv->Room k (A.deeper (PyProof.Rows.envOfC qual (a0e st) s.heap.objs.size f cdv))->sp vs H Q E ->
   ∃ t,PSs (cxOf CX P w K mg base N qual (a0e st) f cdv A outer s H E) (a1t st) t/\t { nx:=fun _ H'=>Q .non H',rt:=Q } (start N vs) H):FnOk P w K mg base CX (k + 1) f fd ps sp:=by
 obtain⟨oc,od,kV,doc,pm,an,cdv,ct,osl,rfl,lk,hcd⟩:=F.ex
 exact d3j lk hcd S len fun A outer s H vs Q E hr hsp=>hbody cdv A outer s H vs Q E rfl hr hsp
theorem c8z{H:Hp}{S S':Addr->Prop}{hs:List Str}{v:V}(h:AtD K H S (encH hs) v):AtD K H S' (encH hs) v:=by
 obtain⟨b,ys,rfl,sq,al⟩:=a2s h
 have e:=b0q al
 subst e
 exact a1o sq all_strs
theorem c0z{H1:Hp}{sa:Addr}{ns:List Int}{hs:List Str}{Q:VK}(sc:L2.Scr K H1 sa (ns.map V.int))(h:okH hs)(hq:∀ v H2,Same H1 H2->AtD K H2 (fun _=>False) (encH hs) v->Q v H2):spD K a9i [.str (jn hs)] H1 Q E0:=
 a8h (E:=E0) (S:=fun _=>False) (ds:=[.str (jn hs)]) (Qd:=fun r _=>r=.d (encH hs)) sc (.cons (a1p _) (by unfold a0b;rfl)) ⟨hs,rfl,h.2.1,h.2.2.1,h.2.2.2,rfl⟩ (fun r v H2 ρ' e s2 ret=>by
  subst e
  exact hq v H2 s2 (c8z (show AtD K H2 (fun a=>(fun x=>False) a ∨ H1 a=none) (encH hs) v from ret)))
theorem d2p{H1:Hp}{sa:Addr}{ns:List Int}{hs:List Str}{v:V}{Q:VK}(sc:L2.Scr K H1 sa (ns.map V.int))(h:okH hs)(hv:AtD K H1 (fun _=>False) (encH hs) v)(hq:∀ H2,Same H1 H2->Q (.bl true) H2):spD K a9g [v] H1 Q E0:=
 a8h (E:=E0) (S:=fun _=>False) (ds:=[encH hs]) (Qd:=fun r _=>r=.d (.bool true)) sc (.cons hv (by unfold a0b;rfl)) ⟨hs,rfl,⟨h.1,by have:=h.2.1;cases hs with | nil=>exact absurd rfl this | cons a b=>simp,h.2.2.1.1⟩,rfl⟩ (fun r v H2 ρ' e s2 ret=>by
  subst e
  have ev:v=.bl true:=by unfold Ret at ret;unfold AtD at ret;exact ret
  rw [ev];exact hq H2 s2)
theorem c9a{f f1 f2 f3 cR T:Addr}{fd fd1 fd2 fd3:FuncData} (F:Fun K "read_hands" "Reading.read_hands" a6v f fd) (B:Bl mg) (TX:TxtF K mg C) (RF:RdF K mg CR) (bm:BMain mg base) (hcR:fd.code=.ref cR) (hCR:W.codeHdIn K cR T=true)
  (m_taken:Meth K C "taken" f1) (b_taken:Binds K fd1 ["self","fits"] []) (g_taken:FnOk P w K mg base CX0 (n + 2) f1 fd1 ["self","fits"] (b0c P w K mg base (n + 1) C))
  (d_hands_in:Def K mg "hands_in" a7z ["word"] f2 fd2) (g_hands_in:FnOk P w K mg base CX0 n f2 fd2 ["word"] (spD K a9i)) (d_is_hands:Def K mg "is_hands" a7w ["thing"] f3 fd3) (g_is_hands:FnOk P w K mg base CX0 n f3 fd3 ["thing"] (spD K a9g)) :
  FnOk P w K mg base CX0 (n + 3) f fd ["self"] (b3m K C CR):=by
 refine F.okC c8y (fun vs H Q E h=>?_) (fun cdv A outer s H vs Q E hcd hr h=>?_)
 ·obtain⟨x,dx,wx,dw,fo,l,r,wl,p,ws,hs,sa,ns,rfl,_⟩:=h
  rfl
 rw [hcR] at hcd
 subst hcd
 obtain⟨x,dx,wx,dw,fo,l,r,wl,p,ws,hs,sa,ns,rfl,h1,hw,hz,ho,sc,q⟩:=h
 have hT:H T=some (a7r "Reading.read_hands.<locals>.<lambda>"):=by
  have h:=sc.1 _ (b6c F (by decide +kernel) hcR hCR)
  rw [show(("Reading.read_hands" : Str) ++ (".<locals>.<lambda>" : Str)) = "Reading.read_hands.<locals>.<lambda>" by decide +kernel] at h
  exact h
 refine⟨_,a1n (a2j (a3c d_hands_in g_hands_in (hr.mono (by omega)) rfl (a0i (a9p (a2z (pv 0) rfl) TX.cl m_taken g_taken hr b_taken .nil a4f (a0i (c8j bm rfl hCR (q:="Reading.read_hands.<locals>.<lambda>") (by rfl)) a0r)) a0r))),?_⟩
 refine⟨_,rfl,x,CR,dx,_,_,rfl,h1,RF.cl,RF.n1,a7m,wx,dw,_,rfl,hw.1,rfl,hT,fun f c ct H1 s1 hf L=>?_⟩
 refine⟨wx,dw,f,r,wl,p,ws,jn hs,rfl,⟨s1 _ _ hw.1,s1 _ _ hw.2⟩,hz,c8o L ⟨rfl,rfl,rfl,by decide +kernel,rfl,by decide +kernel,by decide +kernel⟩ (fun u=>rfl) (fun A outer s H2 E z hr hz s2=>⟨_,a3c d_is_hands g_is_hands hr rfl (a0i (a3c d_hands_in g_hands_in hr rfl (a0i (pv 0) a0r)) a0r),fun Q hq=>?lam⟩),fun H' b k=>?_⟩
 case lam =>
  have hz:z=jn hs:=hz
  subst hz
  refine⟨_,rfl,?_⟩
  refine c0z (sc.keep (S:=Any) (s1.trans s2).keep) ho fun v H3 s3 hv=>?_
  exact d2p (sc.keep (S:=Any) ((s1.trans s2).trans s3).keep) ho hv fun H4 s4=>hq H4 (s3.trans s4)
 ·have b1:=(But.of (x:=wx) s1).trans b
  refine c0z (sc.keep (b1.keep hw.1)) ho fun v H3 s3 hv=>?_
  exact q v H3 (b1.trans (But.of s3)) ⟨s3 _ _ k.1,s3 _ _ k.2⟩ hv
end
open Tr
abbrev a5q:Stmt:=inClass (top 27) 2
theorem b7k:FnScope ["self","head","sort","around","step"] ["self","head","sort","around"] (a0e a5q):=⟨rfl,rfl,rfl,by decide +kernel,rfl,by decide +kernel,by decide +kernel⟩
noncomputable def tw:Fm Str->List Str
 | .fact z=>[z]
 | .wish z=>[z]
 | .mod _ st _=>stW st
 | .bind _ x _=>[x]
 | .sho hs _ _=>[jn hs]
 | _=>[]
noncomputable def okSt:Stp Str->Prop
 | .one hs=>okH hs
 | .pool hs=>okH hs
 | _=>True
noncomputable def okT(As:List (Fm Str)):Fm Str->Prop
 | .fact z=>a1v z=true
 | .wish z=>a1v z=true/\mayT (.wish z) As=true
 | .mod _ st _=>okSt st
 | .bind m x a=>a1v x=true/\mayT (.bind m x a) As=true
 | .sho hs _ _=>okH hs
 | _=>True
def b3n(K:W.Frag)(C CR:Addr):Sp:=fun vs H Q _=>∃ (x dx wx dw fo:Addr) (l r:Int) (wl:Addr) (p:Nat) (ws:List Str) (k:Fm Str) (As:List (Fm Str)) (vA:V) (sa:Addr) (ns:List Int),vs=[.ref x,.str (wd k),.str (fk k).1,vA]/\H x=some (.ins CR dx (rfs wx fo l))/\WOk C H wx dw r wl p ws /\
 hasT k=true/\okT As k/\As.length <= 100/\AtD K H (fun _=>False) (encA As) vA/\(∀ i z,(tw k)[i]? = some z->ws[p + i]? = some z)/\L2.Scr K H sa (ns.map V.int) /\
 ∀ v H',But wx H H'->WOk C H' wx dw r wl (p + (tw k).length) ws->AtD K H' (fun _=>False) (ag k) v->Q v H'
theorem sdec{a b:Str}:decide (V.str a=V.str b)=decide (a=b):=by
 by_cases e:a=b
 ·rw [e];simp
 ·rw [decide_eq_false e,decide_eq_false fun z=>e (V.str.inj z)]
section
variable{P:Program}{w:World}{K:W.Frag}{mg:Str->Option Value}{base:Heap}{n:Nat}{C CR:Addr}
theorem d8l{H1:Hp}{sa:Addr}{ns:List Int}{z:Str}{Q:VK}(sc:L2.Scr K H1 sa (ns.map V.int))(h:a1v z=true)(hq:∀ H2,Same H1 H2->Q (.bl true) H2):spD K a9a [.str z] H1 Q E0:=
 a8h (E:=E0) (S:=fun _=>False) (ds:=[.str z]) (Qd:=fun r _=>r=.d (.bool true)) sc (.cons (a1p _) (by unfold a0b;rfl)) ⟨z,rfl,h,rfl⟩ (fun r v H2 ρ' e s2 ret=>by
  subst e
  have ev:v=.bl true:=by unfold Ret at ret;unfold AtD at ret;exact ret
  rw [ev];exact hq H2 s2)
theorem d8m{H1:Hp}{sa:Addr}{ns:List Int}{k:Fm Str}{z:Str}{As:List (Fm Str)}{vA:V}{Q:VK}(sc:L2.Scr K H1 sa (ns.map V.int))(ea:ag k=.str z)(hl:As.length <= 100)(hA:AtD K H1 (fun _=>False) (encA As) vA)(hq:∀ H2,Same H1 H2->Q (.bl (mayT k As)) H2):spD K b5d [.str (wd k),.str z,vA] H1 Q E0:=
 a8h (E:=E0) (S:=fun _=>False) (ds:=[.str (wd k),.str z,encA As]) (Qd:=fun r _=>r=.d (.bool (mayT k As))) sc (.cons (a1p _) (.cons (a1p _) (.cons hA (by unfold a0b;rfl)))) ⟨k,As,by rw [ea];rfl,hl,rfl⟩ (fun r v H2 ρ' e s2 ret=>by
  subst e
  have ev:v=.bl (mayT k As):=by unfold Ret at ret;unfold AtD at ret;exact ret
  rw [ev];exact hq H2 s2)
theorem c3e{x:Addr}{H H2 H':Hp}{cs:List Addr}(s:Same H H2)(b:But x H2 H')(hn:∀ c ∈ cs,H c=none):But x H (hid H' cs):=fun c o n e=>by
 rw [a1r fun m=>by rw [hn c m] at e;cases e];exact b _ _ n (s _ _ e)
theorem c9b{f f1 f2 f3 f4 cR T:Addr}{fd fd1 fd2 fd3 fd4:FuncData} (F:Fun K "read_taken" "Reading.read_taken" a5q f fd) (B:Bl mg) (TX:TxtF K mg C) (RF:RdF K mg CR) (bm:BMain mg base) (hcR:fd.code=.ref cR) (hCR:W.codeHdIn K cR T=true)
  (m_taken:Meth K C "taken" f1) (b_taken:Binds K fd1 ["self","fits"] []) (g_taken:FnOk P w K mg base CX0 (n + 2) f1 fd1 ["self","fits"] (b0c P w K mg base (n + 1) C))
  (m_rhands:Meth K CR "read_hands" f2) (b_rhands:Binds K fd2 ["self"] []) (g_rhands:FnOk P w K mg base CX0 (n + 3) f2 fd2 ["self"] (b3m K C CR))
  (d_is_name:Def K mg "is_name" a7l ["thing"] f3 fd3) (g_is_name:FnOk P w K mg base CX0 n f3 fd3 ["thing"] (spD K a9a)) (d_may_take:Def K mg "may_take" a7y ["head","taken","around"] f4 fd4) (g_may_take:FnOk P w K mg base CX0 n f4 fd4 ["head","taken","around"] (spD K b5d)) :
  FnOk P w K mg base CX0 (n + 4) f fd ["self","head","sort","around"] (b3n K C CR):=by
 refine F.okC b7k (fun vs H Q E h=>?_) (fun cdv A outer s H vs Q E hcd hr h=>?_)
 ·obtain⟨x,dx,wx,dw,fo,l,r,wl,p,ws,k,As,vA,sa,ns,rfl,_⟩:=h
  rfl
 rw [hcR] at hcd
 subst hcd
 obtain⟨x,dx,wx,dw,fo,l,r,wl,p,ws,k,As,vA,sa,ns,rfl,h1,hw,hh,ho,hl,hA,hz,sc,q⟩:=h
 have hT:H T=some (a7r "Reading.read_taken.<locals>.<lambda>"):=by
  have h:=sc.1 _ (b6c F (by decide +kernel) hcR hCR)
  rw [show(("Reading.read_taken" : Str) ++ (".<locals>.<lambda>" : Str)) = "Reading.read_taken.<locals>.<lambda>" by decide +kernel] at h
  exact h
 refine⟨_,a0v (a6w (a4y b7s (pv 2) a4k (a0u _)) (a1n (a2j (c0f (cp:=[("head",1),("around",3)]) bm rfl hCR (q:="Reading.read_taken.<locals>.<lambda>") (by rfl) (by intro y hy hf;refine⟨?_,rfl⟩;revert y;show ∀ y:Str × NameKind,y ∈ _->y.2=NameKind.free->(a0e a5q).names.lookup y.1=some .cell;decide +kernel) (by intro y hy;revert y;show ∀ y:Str × Nat,y ∈ _->(["self","head","sort","around","step"]:List Str)[y.2]? = some y.1/\(y.1,NameKind.free) ∈ _;decide +kernel) (a2z (pv 0) rfl) TX.cl m_taken g_taken.bold (hr.mono (by omega)) b_taken c8p))) a4a)
  (a0v (a6w (a4y b7s (pv 2) a4k (a0u _)) (a1n (a2j (a8o (pv 0) RF.cl m_rhands g_rhands hr b_rhands .nil a4f))) a4a)
  (a0v (a2y (i:=4) b7k.nd rfl (Or.inl rfl) (a9p (a2z (pv 0) rfl) TX.cl m_taken g_taken (hr.mono (by omega)) b_taken .nil a4f (a0i (c8j bm rfl hCR (q:="Reading.read_taken.<locals>.<lambda>") (by rfl)) a0r)))
  (a0v (a6w (a4y b1j (pv 4) (a5g (a0i a4k (a0i a4k a0r))) (by rfl)) (a1n (a2j (a5g (a0i (pv 4) a0r)))) a4a)
  (a1n (a2j (a5g (a0i (pv 4) (a0i (a8o (pv 0) RF.cl m_rhands g_rhands hr b_rhands .nil a4f) a0r)))))))),?_⟩
 refine⟨_,rfl,rfl,_,rfl,?_⟩
 rw [sdec]
 by_cases e1:(fk k).1 = "name"
 ·refine b8i e1 ?_
  obtain⟨z,ez,ea,hzn,hm⟩:∃ z,tw k=[z]/\ag k=.str z/\a1v z=true/\mayT k As=true:=by
   cases k with
   | fact z=>exact⟨z,rfl,rfl,ho,rfl⟩
   | wish z=>exact⟨z,rfl,rfl,ho.1,ho.2⟩
   | bind m z a=>exact⟨z,rfl,rfl,ho.1,ho.2⟩
   | _=>simp only [fk] at e1;exact absurd e1 (by decide +kernel)
  have hz0:ws[p]? = some z:=hz 0 z (by rw [ez];rfl)
  refine⟨_,rfl,x,CR,dx,_,_,rfl,h1,RF.cl,RF.n1,a7m,wx,dw,_,rfl,hw.1,rfl,hT,fun f c ct cl H2 s2 hf L co cap hn=>?_⟩
  refine⟨wx,dw,f,r,wl,p,ws,z,rfl,⟨s2 _ _ hw.1,s2 _ _ hw.2⟩,hz0,c2y (cn:=["head","around"]) (cv:=[.str (wd k),vA]) L co rfl (fun j n v j1 j2=>?cap) ⟨rfl,rfl,rfl,by decide +kernel,by decide +kernel,by decide +kernel⟩ (fun u=>rfl) (fun A outer s H3 zz hr hzz s3=>⟨_,b3y (a3c d_is_name g_is_name hr rfl (a0i (pv 0) a0r)) (b8o (a3c d_may_take g_may_take hr rfl (a0i (pv 1) (a0i (pv 0) (a0i (pv 2) a0r))))),fun Q hq=>?lam⟩),fun H' b k1=>?_⟩
  case cap =>
   match j with
   | 0=>cases j1;cases j2;exact cap ("head",1) (by simp) _ rfl
   | 1=>cases j1;cases j2;exact cap ("around",3) (by simp) _ rfl
   | j + 2=>cases j1
  case lam =>
   have hzz:zz=z:=hzz
   subst hzz
   have s4:Same H H3:=(c0d s2 hn).trans s3
   refine⟨_,rfl,?_⟩
   refine d8l (sc.keep (S:=Any) s4.keep) hzn fun H4 s5=>?_
   refine⟨_,rfl,?_⟩
   refine iteT ?_
   refine⟨_,rfl,_,rfl,_,rfl,?_⟩
   refine d8m (sc.keep (S:=Any) (s4.trans s5).keep) ea hl (AtD.mono (s4.trans s5).keep _ _ hA) fun H5 s6=>?_
   rw [hm]
   exact hq H5 (s5.trans s6)
  ·have bo:=c3e s2 b hn
   have nw:∀ a o,H a=some o->a ∉ cl.map (·.2):=fun a o e m=>by rw [hn a m] at e;cases e
   refine q (.str z) _ bo ⟨by rw [a1r (nw _ _ hw.1),ez];exact k1.1,by rw [a1r (nw _ _ hw.2)];exact k1.2⟩ (by rw [ea];exact a1p _)
 refine b8j e1 ?_
 refine⟨_,rfl,rfl,_,rfl,?_⟩
 rw [sdec]
 by_cases e2:(fk k).1 = "hands"
 ·refine b8i e2 ?_
  obtain⟨hs,ez,ea,hk⟩:∃ hs,tw k=[jn hs]/\ag k=encH hs/\okH hs:=by
   cases k with
   | sho hs a b=>exact⟨hs,rfl,rfl,ho⟩
   | _=>simp only [fk] at e2;exact absurd e2 (by decide +kernel)
  have hz0:ws[p]? = some (jn hs):=hz 0 _ (by rw [ez];rfl)
  refine⟨_,rfl,x,dx,_,rfl,h1,rfl,x,dx,wx,dw,fo,l,r,wl,p,ws,hs,sa,ns,rfl,h1,hw,hz0,hk,sc,fun v H' b k1 hv=>?_⟩
  exact q v H' b (by rw [ez];exact k1) (by rw [ea];exact hv)
 ·refine b8j e2 ?_
  obtain⟨c0,st,a0,rfl⟩:∃ c st a,k=.mod c st a:=by
   cases k with
   | mod c st a=>exact⟨c,st,a,rfl⟩
   | neg a=>cases hh
   | two c a b=>cases hh
   | fact z=>exact absurd rfl e1
   | wish z=>exact absurd rfl e1
   | bind m z a=>exact absurd rfl e1
   | sho hs a b=>exact absurd rfl e2
  have hz0:ws[p]? = some (sw st):=hz 0 _ (by cases st<;>rfl)
  refine⟨_,rfl,x,CR,dx,_,_,rfl,h1,RF.cl,RF.n1,a7m,wx,dw,_,rfl,hw.1,rfl,hT,fun f c ct H1 s1 hf L=>?_⟩
  refine⟨wx,dw,f,r,wl,p,ws,sw st,rfl,⟨s1 _ _ hw.1,s1 _ _ hw.2⟩,hz0,c8o L ⟨rfl,rfl,rfl,by decide +kernel,rfl,by decide +kernel,by decide +kernel⟩ (fun u=>rfl) (fun A outer s H2 E z hr hz s2=>⟨_,a9o b1j (pv 0) (a5g (a0i a4k (a0i a4k (a0i a4k (a0i a4k a0r))))) (by rfl),fun Q hq=>?lam⟩),fun H' b k1=>?_⟩
  case lam =>
   have hz:z=sw st:=hz
   subst hz
   refine⟨_,rfl,by decide,fun t ht=>⟨t,_,rfl,.inr (SqT.of a0j),rfl,rfl,?_⟩⟩
   have e:(V.bl (if false=true then !inV (V.str (sw st)) [V.str "on",V.str "back",V.str "one",V.str "pool"] else inV (V.str (sw st)) [V.str "on",V.str "back",V.str "one",V.str "pool"]))=V.bl true:=by cases st<;>rfl
   rw [e]
   exact hq _ (a0o ht _)
  ·have b1:=(But.of (x:=wx) s1).trans b
   have nx:x ≠ wx:=fun z=>by
    have:=hw.1
    rw [← z,h1] at this
    injection (Option.some.inj this) with _ _ e
    exact absurd (congrArg (fun l=>l.head?.map (·.1)) e) (by show ¬ (some ("words" : Str)=some "row");decide +kernel)
   have h1':=b1 _ _ nx h1
   refine⟨_,rfl,by decide,fun t ht=>⟨t,_,rfl,.inr (SqT.of a0j),rfl,rfl,_,rfl,?_⟩⟩
   have st1:Same H' (upd H' t _):=a0o ht (.tup [V.str "on",V.str "back"])
   have k2:WOk C (upd H' t (.tup [V.str "on",V.str "back"])) wx dw r wl (p + 1) ws:=⟨st1 _ _ k1.1,st1 _ _ k1.2⟩
   have b2:=b1.trans (But.of st1)
   have fin1:∀ z:Str,AtD K (upd H' t (.tup [V.str "on",V.str "back"])) (fun _=>False) (.str z) (.str z):=fun z=>a1p _
   cases st with
   | on =>
    refine iteT ?_
    refine⟨_,rfl,by decide,fun t2 ht2=>q (.ref t2) _ (b2.trans (But.of (a0o ht2 _))) ⟨a0o ht2 _ _ _ k2.1,a0o ht2 _ _ _ k2.2⟩ ?_⟩
    exact a1o (SqT.of a0j) (.cons (a1p _) (by unfold a0b;rfl))
   | back =>
    refine iteT ?_
    refine⟨_,rfl,by decide,fun t2 ht2=>q (.ref t2) _ (b2.trans (But.of (a0o ht2 _))) ⟨a0o ht2 _ _ _ k2.1,a0o ht2 _ _ _ k2.2⟩ ?_⟩
    exact a1o (SqT.of a0j) (.cons (a1p _) (by unfold a0b;rfl))
   | one hs =>
    refine iteF ?_
    have hz1:ws[p + 1]? = some (jn hs):=hz 1 _ rfl
    refine⟨_,rfl,_,rfl,x,dx,_,rfl,st1 _ _ h1',rfl,x,dx,wx,dw,fo,l,r,wl,p + 1,ws,hs,sa,ns,rfl,st1 _ _ h1',k2,hz1,ho,sc.keep (b2.keep hw.1),fun v H4 b4 k4 hv=>?_⟩
    refine⟨(show(2:Nat) <= sizeLine by decide),fun t2 ht2=>q (.ref t2) _ ((b2.trans b4).trans (But.of (a0o ht2 _))) ⟨a0o ht2 _ _ _ k4.1,a0o ht2 _ _ _ k4.2⟩ ?_⟩
    exact a1o (SqT.of a0j) (.cons (a1p _) (.cons (AtD.mono (a0o ht2 _).keep _ _ hv) (by unfold a0b;rfl)))
   | pool hs =>
    refine iteF ?_
    have hz1:ws[p + 1]? = some (jn hs):=hz 1 _ rfl
    refine⟨_,rfl,_,rfl,x,dx,_,rfl,st1 _ _ h1',rfl,x,dx,wx,dw,fo,l,r,wl,p + 1,ws,hs,sa,ns,rfl,st1 _ _ h1',k2,hz1,ho,sc.keep (b2.keep hw.1),fun v H4 b4 k4 hv=>?_⟩
    refine⟨(show(2:Nat) <= sizeLine by decide),fun t2 ht2=>q (.ref t2) _ ((b2.trans b4).trans (But.of (a0o ht2 _))) ⟨a0o ht2 _ _ _ k4.1,a0o ht2 _ _ _ k4.2⟩ ?_⟩
    exact a1o (SqT.of a0j) (.cons (a1p _) (.cons (AtD.mono (a0o ht2 _).keep _ _ hv) (by unfold a0b;rfl)))
end
open Tr
abbrev a5r:Stmt:=inClass (top 27) 1
theorem a4w:FnScope ["self","around","head","form","thing","within","parts"] ["self","around"] (a0e a5r):=⟨rfl,rfl,rfl,by decide +kernel,rfl,by decide +kernel,by decide +kernel⟩
def Bt2(x y:Addr)(H H':Hp):Prop:=∀ c o,c ≠ x->c ≠ y->H c=some o->H' c=some o
theorem Bt2.of{x y:Addr}{H H':Hp}(s:Same H H'):Bt2 x y H H':=fun c o _ _ e=>s c o e
theorem Bt2.but{x y:Addr}{H H':Hp}(s:But y H H'):Bt2 x y H H':=fun c o _ n e=>s c o n e
theorem Bt2.trans{x y:Addr}{H H1 H':Hp}(a:Bt2 x y H H1)(b:Bt2 x y H1 H'):Bt2 x y H H':=fun c o n m e=>b c o n m (a c o n m e)
theorem Bt2.keep{x y C1 d1 C2 d2:Addr}{f1 f2:List (Str × V)}{H H':Hp}(b:Bt2 x y H H')(hx:H x=some (.ins C1 d1 f1))(hy:H y=some (.ins C2 d2 f2)):Keep (fun _=>False) H H':=
 ⟨fun c xs e=>b _ _ (fun z=>by rw [z,hx] at e;cases e) (fun z=>by rw [z,hy] at e;cases e) e,fun c o u e=>b _ _ (fun z=>by rw [z,hx] at e;cases e) (fun z=>by rw [z,hy] at e;cases e) e,fun _ _ z=>z.elim⟩
def Pfx(u:List Str)(p:Nat)(ws:List Str):Prop:=∀ i z,u[i]? = some z->ws[p + i]? = some z
theorem Pfx.left{u v ws:List Str}{p:Nat}(h:Pfx (u ++ v) p ws):Pfx u p ws:=fun i z e=>h i z (by rw [getElem?_append_left (List.getElem?_eq_some_iff.mp e).1];exact e)
theorem Pfx.right{u v ws:List Str}{p:Nat}(h:Pfx (u ++ v) p ws):Pfx v (p + u.length) ws:=fun i z e=>by
 rw [Nat.add_assoc]
 exact h (u.length + i) z (by rw [getElem?_append_right (le_add_right _ _),Nat.add_sub_cancel_left];exact e)
theorem c1a(k:Fm Str):wds k=[wd k] ++ (tw k ++ (kids k).flatMap wds):=by cases k<;>simp [wds,wd,tw,kids]
theorem c1b(k:Fm Str):enc k=.tuple ((.str (wd k) :: arg k) ++ (kids k).map enc):=by cases k<;>rfl
theorem d8n(k:Fm Str):(fk k).2=(kids k).length:=by cases k<;>rfl
theorem c3f{k:Fm Str}(h:hasT k=false):tw k=[]/\arg k=[]:=by cases k<;>first | exact⟨rfl,rfl⟩ | cases h
noncomputable def okR(As:List (Fm Str)):Fm Str->Prop
 | .fact z=>okT As (.fact z)
 | .wish z=>okT As (.wish z)
 | .neg a=>okR (As ++ [.neg a]) a
 | .two c a b=>okR (As ++ [.two c a b]) a/\okR (As ++ [.two c a b]) b
 | .mod c st a=>okT As (.mod c st a)/\okR (As ++ [.mod c st a]) a
 | .bind m x a=>mayB (.bind m x a) As=true/\okT As (.bind m x a)/\okR (As ++ [.bind m x a]) a
 | .sho hs a b=>mayB (.sho hs a b) As=true/\okT As (.sho hs a b)/\okR (As ++ [.sho hs a b]) a/\okR (As ++ [.sho hs a b]) b
theorem okR.all{As:List (Fm Str)}{k:Fm Str}(h:okR As k):mayB k As=true/\okT As k/\∀ y ∈ kids k,okR (As ++ [k]) y:=by
 cases k with
 | fact z=>exact⟨rfl,h,fun y hy=>by cases hy⟩
 | wish z=>exact⟨rfl,h,fun y hy=>by cases hy⟩
 | neg a=>exact⟨rfl,trivial,fun y hy=>by cases mem_singleton.mp hy;exact h⟩
 | two c a b =>
  refine⟨rfl,trivial,fun y hy=>?_⟩
  rcases mem_cons.mp hy with rfl | hy
  ·exact h.1
  ·cases mem_singleton.mp hy;exact h.2
 | mod c st a=>exact⟨rfl,h.1,fun y hy=>by cases mem_singleton.mp hy;exact h.2⟩
 | bind m x a=>exact⟨h.1,h.2.1,fun y hy=>by cases mem_singleton.mp hy;exact h.2.2⟩
 | sho hs a b =>
  refine⟨h.1,h.2.1,fun y hy=>?_⟩
  rcases mem_cons.mp hy with rfl | hy
  ·exact h.2.2.1
  ·cases mem_singleton.mp hy;exact h.2.2.2
def FmK(K:W.Frag)(kvs:List (Key × V)):Prop:=∀ k:Fm Str,∃ fa,valV kvs (Sum.inr (wd k))=some (.ref fa)/\∀ H:Hp,SqT K H fa [.str (fk k).1,.int (fk k).2]
theorem e3y{c:TT}{t u rs:TS}{D:Ends}{σ:St}{H:Hp}(R:St->Hp->Prop)(hr:∀ σ' H',R σ' H'->rs D σ' H')
  (h:(∀ σ' H',R σ' H'->rs D σ' H')->c σ H fun b H1=>if b=true then t { D with nx:=rs D } σ H1 else u { D with nx:=rs D } σ H1):tSeq (tIfS c t u) rs D σ H:=h hr
def b0y(K:W.Frag)(C CR:Addr)(m:Nat):Sp:=fun vs H Q _=>∃ (x dx wx dw fo:Addr) (l:Nat) (r:Int) (wl:Addr) (p:Nat) (ws:List Str) (a:Fm Str) (As:List (Fm Str)) (vA:V) (sa:Addr) (ns:List Int) (kvs:List (Key × V)),vs=[.ref x,vA]/\H x=some (.ins CR dx (rfs wx fo (l:Int)))/\WOk C H wx dw r wl p ws/\H fo=some (.dK kvs)/\FmK K kvs /\
 szF a <= m/\szF a <= l/\okR As a/\As.length + szF a <= 100/\AtD K H (fun _=>False) (encA As) vA/\Pfx (wds a) p ws/\L2.Scr K H sa (ns.map V.int) /\
 ∀ v H',Bt2 x wx H H'->H' x=some (.ins CR dx (rfs wx fo ((l - szF a:Nat):Int)))->WOk C H' wx dw r wl (p + (wds a).length) ws->AtD K H' (fun _=>False) (enc a) v->Q v H'
section
variable{P:Program}{w:World}{K:W.Frag}{mg:Str->Option Value}{base:Heap}{n:Nat}{C CR:Addr}
theorem d8o{H1:Hp}{sa:Addr}{ns:List Int}{k:Fm Str}{As:List (Fm Str)}{vA:V}{Q:VK}(sc:L2.Scr K H1 sa (ns.map V.int))(hl:As.length <= 100)(hA:AtD K H1 (fun _=>False) (encA As) vA)(hq:∀ H2,Same H1 H2->Q (.bl (mayB k As)) H2):spD K b2j [.str (wd k),vA] H1 Q E0:=
 a8h (E:=E0) (S:=fun _=>False) (ds:=[.str (wd k),encA As]) (Qd:=fun r _=>r=.d (.bool (mayB k As))) sc (.cons (a1p _) (.cons hA (by unfold a0b;rfl))) ⟨k,As,rfl,hl,rfl⟩ (fun r v H2 ρ' e s2 ret=>by
  subst e
  have ev:v=.bl (mayB k As):=by unfold Ret at ret;unfold AtD at ret;exact ret
  rw [ev];exact hq H2 s2)
theorem c3g{H:Hp}{ds es:List PyData}{v u:V}{Q:VK}(hv:AtD K H (fun _=>False) (.tuple ds) v)(hu:AtD K H (fun _=>False) (.tuple es) u)(hl:ds.length + es.length <= 1000)(q:∀ t' H',Same H H'->AtD K H' (fun _=>False) (.tuple (ds ++ es)) (.ref t')->Q (.ref t') H'):b5s K v u H Q:=by
 obtain⟨a,xs,rfl,sa,al⟩:=a2s hv
 obtain⟨b,ys,rfl,sb,bl⟩:=a2s hu
 have l1:=al.length
 have l2:=bl.length
 by_cases hx:xs=[]
 ·subst hx
  have e:=al.eq_nil
  subst e
  exact .inr (.inr (.inr (.inr ⟨a,b,ys,rfl,rfl,sa,sb,q b H (Same.refl _) hu⟩)))
 ·refine .inr (.inr (.inr (.inl ⟨a,b,xs,ys,rfl,rfl,sa,sb,hx,by rw [l1,l2,sizeLine_eq];omega,fun e=>?_,fun _ p hp=>q p _ (a0o hp _) (a1o (SqT.of a0j) (a0b.mono (a0o hp _).keep _ _ (al.append bl)))⟩)))
  subst e
  have e:=bl.eq_nil
  subst e
  rw [append_nil] at q
  exact q a H (Same.refl _) hv
theorem sub_l{l s:Nat}(h:s + 1 <= l):((l:Int) - 1)=((l - 1:Nat):Int):=by omega
theorem d2q{k:Fm Str}{i:Nat}{y:Fm Str}(hy:(kids k)[i]? = some y):(((kids k).take i).map szF).sum + szF y <= ((kids k).map szF).sum:=by
 have e:kids k=(kids k).take i ++ y :: (kids k).drop (i + 1):=by
  obtain⟨h1,h2⟩:=List.getElem?_eq_some_iff.mp hy
  rw [← h2,List.getElem_cons_drop,List.take_append_drop]
 have e2:=congrArg (fun l=>(l.map szF).sum) e
 simp only [map_append,map_cons,sum_append,List.sum_cons] at e2
 omega
theorem d2r{k:Fm Str}{i:Nat}{y:Fm Str}(hy:(kids k)[i]? = some y):(kids k).flatMap wds=((kids k).take i).flatMap wds ++ (wds y ++ ((kids k).drop (i + 1)).flatMap wds):=by
 have e:kids k=(kids k).take i ++ y :: (kids k).drop (i + 1):=by
  obtain⟨h1,h2⟩:=List.getElem?_eq_some_iff.mp hy
  rw [← h2,List.getElem_cons_drop,List.take_append_drop]
 have e2:=congrArg (fun l=>l.flatMap wds) e
 simp only [List.flatMap_append,List.flatMap_cons] at e2
 exact e2
theorem c9c{f f1 f2 f3 cR T:Addr}{fd fd1 fd2 fd3:FuncData}{m N:Nat}(hN:n + 4 <= N) (F:Fun K "read_thing" "Reading.read_thing" a5r f fd) (B:Bl mg) (TX:TxtF K mg C) (RF:RdF K mg CR) (bm:BMain mg base) (hcR:fd.code=.ref cR) (hCR:W.codeHdIn K cR T=true)
  (m_taken:Meth K C "taken" f1) (b_taken:Binds K fd1 ["self","fits"] []) (g_taken:FnOk P w K mg base CX0 (n + 2) f1 fd1 ["self","fits"] (b0c P w K mg base (n + 1) C))
  (m_rtaken:Meth K CR "read_taken" f2) (b_rtaken:Binds K fd2 ["self","head","sort","around"] []) (g_rtaken:FnOk P w K mg base CX0 (n + 4) f2 fd2 ["self","head","sort","around"] (b3n K C CR))
  (d_may_begin:Def K mg "may_begin" a7e ["head","around"] f3 fd3) (g_may_begin:FnOk P w K mg base CX0 n f3 fd3 ["head","around"] (spD K b2j))
  (m_rthing:Meth K CR "read_thing" f) (b_rthing:Binds K fd ["self","around"] []) (g_rthing:FnOk P w K mg base CX0 N f fd ["self","around"] (b0y K C CR m)) :
  FnOk P w K mg base CX0 (N + 1) f fd ["self","around"] (b0y K C CR (m + 1)):=by
 refine F.okC a4w (fun vs H Q E h=>?_) (fun cdv A outer s H vs Q E hcd hr h=>?_)
 ·obtain⟨x,dx,wx,dw,fo,l,r,wl,p,ws,a,As,vA,sa,ns,kvs,rfl,_⟩:=h
  rfl
 rw [hcR] at hcd
 subst hcd
 obtain⟨x,dx,wx,dw,fo,l,r,wl,p,ws,a,As,vA,sa,ns,kvs,rfl,h1,hw,hfo,hF,hm,hsl,hok,hlen,hA,hz,sc,q⟩:=h
 obtain⟨okb,okt,okk⟩:=hok.all
 have hT:H T=some (a7r "Reading.read_thing.<locals>.<lambda>"):=by
  have h:=sc.1 _ (b6c F (by decide +kernel) hcR hCR)
  rw [show(("Reading.read_thing" : Str) ++ (".<locals>.<lambda>" : Str)) = "Reading.read_thing.<locals>.<lambda>" by decide +kernel] at h
  exact h
 refine⟨_,a0v (a2y (i:=2) a4w.nd rfl (Or.inl rfl) (c0f (cp:=[("self",0),("around",1)]) bm rfl hCR (q:="Reading.read_thing.<locals>.<lambda>") (by rfl) (by intro y hy hf;refine⟨?_,rfl⟩;revert y;show ∀ y:Str × NameKind,y ∈ _->y.2=NameKind.free->(a0e a5r).names.lookup y.1=some .cell;decide +kernel) (by intro y hy;revert y;show ∀ y:Str × Nat,y ∈ _->(["self","around","head","form","thing","within","parts"]:List Str)[y.2]? = some y.1/\(y.1,NameKind.free) ∈ _;decide +kernel) (a2z (pv 0) rfl) TX.cl m_taken g_taken.bold (hr.mono (by omega)) b_taken c8p))
  (a0v (a7f (pv 0) (a2e a3m (a2z (pv 0) rfl) a1g) rfl)
  (a0v (a2y (i:=3) a4w.nd rfl (Or.inl rfl) (c2u (hu_of hr) (a2z (pv 0) rfl) (pv 2) (fun _ _=>rfl)))
  (a0v (a2y (i:=4) a4w.nd rfl (Or.inl rfl) (a5g (a0i (pv 2) a0r)))
  (a0v (a6w (a4y d3h (a6y b4e (pv 3) a1g (fun _ _=>rfl)) a4k (a0u _)) (a1n (a2y (i:=4) a4w.nd rfl (Or.inl rfl) (a5g (a0i (pv 2) (a0i (a9p (pv 0) RF.cl m_rtaken g_rtaken (hr.mono hN) b_rtaken .nil a4f (a0i (pv 2) (a0i (a6y b4e (pv 3) a1g (fun _ _=>rfl)) (a0i (pv 1) a0r)))) a0r))))) a4a)
  (a0v (a2y (i:=5) a4w.nd rfl (Or.inl rfl) (a2e a0p (pv 1) (a5g (a0i (pv 4) a0r))))
  (a0v (a2y (i:=6) a4w.nd rfl (Or.inl rfl) (b8q a0r))
  (a0v (b8p PassesOwn.leaving (a4y a6x (a4m a3n rfl B.len_ a3i (a0i (pv 6) a0r)) (a6y b4e (pv 3) a1g (fun _ _=>rfl)) (a0u _)) (a1n (b5p (b1y PySem.F.plainAttrs_list PySem.F.slot_list_append PySem.F.type_list_append b1k (pv 6) (a0i (a9p (pv 0) RF.cl m_rthing g_rthing hr b_rthing .nil a4f (a0i (pv 5) a0r)) a0r)))))
  (a1n (a2j (a2e a0p (pv 4) (a9e b1b rfl B.tuple_ a8r (a0i (pv 6) a0r)))))))))))),?_⟩
 have ek:=c1a a
 have hz0:ws[p]? = some (wd a):=hz 0 _ (by rw [ek];rfl)
 have nx:x ≠ wx:=fun z=>by
  have:=hw.1
  rw [← z,h1] at this
  injection (Option.some.inj this) with _ _ e
  exact absurd (congrArg (fun l=>l.head?.map (·.1)) e) (by show ¬ (some ("words" : Str)=some "row");decide +kernel)
 obtain⟨fa,hfv,hfd⟩:=hF a
 have spos:=a8i a
 refine⟨_,rfl,x,CR,dx,_,_,rfl,h1,RF.cl,RF.n1,a7m,wx,dw,_,rfl,hw.1,rfl,hT,fun fl c ct cl H2 s2 hf L co cap hn=>?_⟩
 refine⟨wx,dw,fl,r,wl,p,ws,wd a,rfl,⟨s2 _ _ hw.1,s2 _ _ hw.2⟩,hz0,c2y (cn:=["self","around"]) (cv:=[.ref x,vA]) L co rfl (fun j n v j1 j2=>?cap) ⟨rfl,rfl,rfl,by decide +kernel,by decide +kernel,by decide +kernel⟩ (fun u=>rfl) (fun A outer s H3 zz hr hzz s3=>⟨_,b3y (a9o b3z (a2z (pv 1) rfl) a1g (a0u _)) (b3y (a9o (e3m hr.units) (pv 0) (a2z (pv 1) rfl) (by rfl)) (b8o (a3c d_may_begin g_may_begin hr rfl (a0i (pv 0) (a0i (pv 2) a0r))))),fun Q hq=>?lam⟩),fun H' b k1=>?_⟩
 case cap =>
  match j with
  | 0=>cases j1;cases j2;exact cap ("self",0) (by simp) _ rfl
  | 1=>cases j1;cases j2;exact cap ("around",1) (by simp) _ rfl
  | j + 2=>cases j1
 case lam =>
  have hzz:zz=wd a:=hzz
  subst hzz
  have s4:Same H H3:=(c0d s2 hn).trans s3
  refine⟨_,rfl,x,CR,dx,_,_,rfl,s4 _ _ h1,RF.cl,RF.n3,c0y,_,_,rfl,rfl,?_⟩
  refine⟨_,rfl,b8i (by omega) ?_⟩
  refine⟨_,rfl,_,rfl,x,CR,dx,_,_,rfl,s4 _ _ h1,RF.cl,RF.n2,b7j,fo,kvs,.inr (wd a),rfl,s4 _ _ hfo,rfl,?_⟩
  rw [hfv]
  refine⟨_,rfl,iteT ?_⟩
  refine⟨_,rfl,_,rfl,?_⟩
  refine d8o (sc.keep (S:=Any) s4.keep) (by omega) (AtD.mono s4.keep _ _ hA) fun H5 s6=>?_
  rw [okb]
  exact hq H5 s6
 have bo:=c3e s2 b hn
 have nw:∀ a o,H a=some o->a ∉ cl.map (·.2):=fun a o e m=>by rw [hn a m] at e;cases e
 have w1:WOk C (hid H' (cl.map (·.2))) wx dw r wl (p + 1) ws:=⟨by rw [a1r (nw _ _ hw.1)];exact k1.1,by rw [a1r (nw _ _ hw.2)];exact k1.2⟩
 clear k1
 show a7o 2 _ _ (hid H' (cl.map (·.2))) _
 generalize hid H' (cl.map (·.2))=H1 at bo w1 ⊢
 have b1:Bt2 x wx H H1:=.but bo
 have x1:H1 x=some (.ins CR dx (rfs wx fo (l:Int))):=bo _ _ nx h1
 refine⟨_,rfl,x,CR,dx,_,_,rfl,x1,RF.cl,RF.n3,c0y,_,_,rfl,rfl,_,rfl,x,CR,dx,_,rfl,x1,RF.cl,RF.n3,(show(3:Nat) < 1000 by decide),?_⟩
 rw [d2o,sub_l (s:=0) (by omega)]
 have nwl:wl ≠ x:=fun z=>by have:=w1.2;rw [z,x1] at this;cases this
 obtain⟨H3,eH3⟩:∃ H3,H3=upd H1 x (.ins CR dx (rfs wx fo ((l - 1:Nat):Int))):=⟨_,rfl⟩
 rw [← eH3]
 have x3:H3 x=some (.ins CR dx (rfs wx fo ((l - 1:Nat):Int))):=by rw [eH3,a0j]
 have w3:WOk C H3 wx dw r wl (p + 1) ws:=⟨by rw [eH3,a0f (Ne.symm nx)];exact w1.1,by rw [eH3,a0f nwl];exact w1.2⟩
 have b3:Bt2 x wx H H3:=fun c o n1 n2 e=>by rw [eH3,a0f n1];exact b1 c o n1 n2 e
 clear eH3 x1 w1 b1 bo
 have kp3:=b3.keep h1 hw.1
 have nfo:fo ≠ x/\fo ≠ wx:=⟨(fun z=>by rw [z,h1] at hfo;cases hfo),(fun z=>by rw [z,hw.1] at hfo;cases hfo)⟩
 refine⟨_,rfl,x,CR,dx,_,_,rfl,x3,RF.cl,RF.n2,b7j,_,rfl,fo,.ref fa,rfl,by rw [← hfv];exact DGet.k (k:=.inr (wd a)) (b3 _ _ nfo.1 nfo.2 hfo),?_⟩
 refine⟨_,rfl,(show(1:Nat) <= sizeLine by decide),fun t ht=>?_⟩
 have st:=a0o ht (.tup [V.str (wd a)])
 dsimp only [a7o]
 refine e3y (fun σ' H'=>∃ t argv,σ'=[some (.ref x),some vA,some (.str (wd a)),some (.ref fa),some (.ref t),none,none]/\Bt2 x wx H H'/\H' x=some (.ins CR dx (rfs wx fo ((l - 1:Nat):Int)))/\WOk C H' wx dw r wl (p + 1 + (tw a).length) ws/\H' t=some (.tup (.str (wd a) :: argv))/\a0b K H' (fun _=>False) (arg a) argv) ?_ ?_
 ·clear ht st
  rintro σ' H4 ⟨t,argv,rfl,b4,x4,w4,ht4,ha4⟩
  have hP:AtD K H4 (fun _=>False) (encP a) (.ref t):=a1o (SqT.of ht4) (.cons (a1p _) ha4)
  have hA4:=AtD.mono (b4.keep h1 hw.1) _ _ hA
  refine⟨_,rfl,_,rfl,(show(1:Nat) <= sizeLine by decide),fun t1 ht1=>?_⟩
  have s41:=a0o ht1 (.tup [V.ref t])
  refine c3g (AtD.mono s41.keep _ _ hA4) (es:=[encP a]) (a1o (SqT.of a0j) (.cons (AtD.mono s41.keep _ _ hP) .nil)) (by simp;omega) fun t5 H5 s45 hA5=>?_
  have s5:=s41.trans s45
  rw [← List.map_singleton (f:=encP),← map_append] at hA5
  refine⟨(show(0:Nat) <= sizeLine by decide),fun pa hpa=>?_⟩
  have s6:=a0o hpa (.lst [])
  have bH:Bt2 x wx H (upd H5 pa (.lst [])):=b4.trans (.of (s5.trans s6))
  have Hpa:H pa=none:=by
   cases e:H pa with
   | none=>rfl
   | some o =>
    exfalso
    by_cases e1:pa=x
    ·rw [e1] at hpa;rw [s5 _ _ x4] at hpa;cases hpa
    ·by_cases e2:pa=wx
     ·rw [e2] at hpa;rw [s5 _ _ w4.1] at hpa;cases hpa
     ·rw [s5 _ _ (b4 _ _ e1 e2 e)] at hpa;cases hpa
  have npx:pa ≠ x:=fun z=>by rw [z,h1] at Hpa;cases Hpa
  have npw:pa ≠ wx:=fun z=>by rw [z,hw.1] at Hpa;cases Hpa
  have npl:pa ≠ wl:=fun z=>by rw [z,hw.2] at Hpa;cases Hpa
  have npt:pa ≠ t:=fun z=>by rw [← z] at ht4;rw [s5 _ _ ht4] at hpa;cases hpa
  have nwx:t ≠ x/\t ≠ wx:=⟨(fun z=>by rw [z,x4] at ht4;cases ht4),(fun z=>by rw [z,w4.1] at ht4;cases ht4)⟩
  have nk:=d8n a
  have few:=b0x a
  have ks:=b2k a
  have hz1:Pfx (tw a ++ (kids a).flatMap wds) (p + 1) ws:=by rw [ek] at hz;exact hz.right
  have hz2:Pfx ((kids a).flatMap wds) (p + 1 + (tw a).length) ws:=hz1.right
  refine⟨fun m' σ' H'=>∃ (i:Nat) (vs:List V),m'=(kids a).length - i/\i <= (kids a).length/\σ'=[some (.ref x),some vA,some (.str (wd a)),some (.ref fa),some (.ref t),some (.ref t5),some (.ref pa)]/\Bt2 x wx H H'/\H' x=some (.ins CR dx (rfs wx fo ((l - 1 - (((kids a).take i).map szF).sum:Nat):Int)))/\WOk C H' wx dw r wl (p + 1 + (tw a).length + (((kids a).take i).flatMap wds).length) ws /\
   H' t=some (.tup (.str (wd a) :: argv))/\a0b K H' (fun _=>False) (arg a) argv/\AtD K H' (fun _=>False) (encA (As ++ [a])) (.ref t5)/\H' pa=some (.lst vs)/\a0b K H' (fun _=>False) (((kids a).take i).map enc) vs,⟨_,0,[],rfl,zero_le _,rfl,bH,(s5.trans s6) _ _ x4,⟨(s5.trans s6) _ _ w4.1,(s5.trans s6) _ _ w4.2⟩,(s5.trans s6) _ _ ht4,a0b.mono (s5.trans s6).keep _ _ ha4,AtD.mono s6.keep _ _ hA5,a0j,.nil⟩,?_⟩
  rintro m' σ' H7 ⟨i,vs,rfl,hi,rfl,b7,x7,w7,ht7,ha7,hA7,hpa7,hv7⟩
  have lv:=hv7.length
  rw [length_map,length_take,Nat.min_eq_left hi] at lv
  refine⟨_,rfl,pa,vs,rfl,.inl (SqL.of hpa7),_,rfl,fa,_,1,_,rfl,rfl,hfd H7,rfl,_,_,rfl,rfl,?_⟩
  rw [lv,nk]
  by_cases hlt:i < (kids a).length
  ·refine⟨_,rfl,?_⟩
   refine b8i (by omega) ?_
   obtain⟨y,hy⟩:∃ y,(kids a)[i]? = some y:=⟨_,getElem?_eq_getElem hlt⟩
   have ts:=d2q hy
   have tws:=d2r hy
   rw [tws] at hz2
   have hz3:=hz2.right.left
   refine⟨fun σ' H'=>∃ vs,σ'=[some (.ref x),some vA,some (.str (wd a)),some (.ref fa),some (.ref t),some (.ref t5),some (.ref pa)]/\Bt2 x wx H H'/\H' x=some (.ins CR dx (rfs wx fo ((l - 1 - (((kids a).take (i + 1)).map szF).sum:Nat):Int)))/\WOk C H' wx dw r wl (p + 1 + (tw a).length + (((kids a).take (i + 1)).flatMap wds).length) ws /\
   H' t=some (.tup (.str (wd a) :: argv))/\a0b K H' (fun _=>False) (arg a) argv/\AtD K H' (fun _=>False) (encA (As ++ [a])) (.ref t5)/\H' pa=some (.lst vs)/\a0b K H' (fun _=>False) (((kids a).take (i + 1)).map enc) vs,?_,?_⟩
   ·rintro σ' H' ⟨vs',rfl,c1,c2,c3,c4,c5,c6,c7,c8⟩
    exact⟨_,by omega,i + 1,vs',rfl,hlt,rfl,c1,c2,c3,c4,c5,c6,c7,c8⟩
   refine⟨_,rfl,.inl ⟨rfl,_,SqL.of hpa7⟩,_,rfl,x,dx,_,rfl,x7,rfl,_,rfl,?_⟩
   refine⟨x,dx,wx,dw,fo,_,r,wl,_,ws,y,As ++ [a],.ref t5,sa,ns,kvs,rfl,x7,w7,b7 _ _ nfo.1 nfo.2 hfo,hF,by omega,by omega,okk y (mem_of_getElem? hy),by simp;omega,hA7,hz3,sc.keep (b7.keep h1 hw.1),fun v H8 b8 x8 w8 hv8=>?_⟩
   have kp8:=b8.keep x7 w7.1
   have hpa8:H8 pa=some (.lst vs):=b8 _ _ npx npw hpa7
   have kpp:Keep (fun _=>False) H8 (upd H8 pa (.lst (vs ++ [v]))):=⟨fun b ys e=>by rw [a0f (fun z=>by rw [z,hpa8] at e;cases e)];exact e,fun b o u e=>by rw [a0f (fun z=>by rw [z,hpa8] at e;cases e)];exact e,fun _ _ z=>z.elim⟩
   refine⟨pa,vs,v,rfl,rfl,hpa8,by rw [lv,sizeLine_eq];omega,?_⟩
   have et:(kids a).take (i + 1)=(kids a).take i ++ [y]:=by rw [take_add_one,hy];rfl
   refine⟨vs ++ [v],rfl,fun c o n1 n2 e=>?_,?_,⟨?_,?_⟩,?_,a0b.mono (kp8.trans kpp) _ _ ha7,AtD.mono (kp8.trans kpp) _ _ hA7,a0j,?_⟩
   ·rw [a0f (fun z=>by rw [z,Hpa] at e;cases e)];exact b8 _ _ n1 n2 (b7 _ _ n1 n2 e)
   ·rw [a0f (Ne.symm npx),x8,et,map_append,sum_append,List.map_singleton,List.sum_singleton,Nat.sub_sub (l - 1)]
   ·rw [a0f (Ne.symm npw),w8.1,et,List.flatMap_append,List.flatMap_singleton,length_append,Nat.add_assoc _ _ (wds y).length]
   ·rw [a0f (Ne.symm npl)];exact w8.2
   ·rw [a0f (Ne.symm npt)];exact b8 _ _ nwx.1 nwx.2 ht7
   ·rw [et,map_append]
    exact(a0b.mono (kp8.trans kpp) _ _ hv7).append (.cons (AtD.mono kpp _ _ hv8) .nil)
  ·refine⟨_,rfl,?_⟩
   refine b8j (by omega) ?_
   obtain rfl:i=(kids a).length:=by omega
   rw [take_length] at x7 w7 hv7
   refine⟨_,rfl,_,rfl,pa,vs,rfl,.inl ⟨SqL.of hpa7,fun l9 hl9=>?_⟩⟩
   have s9:=a0o hl9 (.tup vs)
   refine c3g (ds:=.str (wd a) :: arg a) (es:=(kids a).map enc) (a1o (SqT.of (s9 _ _ ht7)) (.cons (a1p _) (a0b.mono s9.keep _ _ ha7))) (a1o (SqT.of a0j) (a0b.mono s9.keep _ _ hv7)) (by have:(arg a).length <= 1:=(by cases a<;>first | exact Nat.le_refl _ | exact zero_le _);simp;omega) fun t10 H10 s10 hv10=>?_
   have s11:=s9.trans s10
   refine q _ H10 (b7.trans (.of s11)) ?_ ⟨?_,s11 _ _ w7.2⟩ (by rw [c1b];exact hv10)
   ·rw [s11 _ _ x7,ks,Nat.sub_sub,Nat.add_comm 1]
   ·rw [s11 _ _ w7.1,ek,length_append,length_append,length_singleton,Nat.add_assoc,Nat.add_assoc]
 ·intro hR
  refine⟨_,rfl,fa,_,0,_,rfl,rfl,hfd _,rfl,rfl,_,rfl,?_⟩
  rw [sdec,c8x]
  cases hT:hasT a with
  | false =>
   refine iteF (hR _ _ ⟨t,[],rfl,b3.trans (.of st),st _ _ x3,?_,a0j,?_⟩)
   ·rw [(c3f hT).1];exact⟨st _ _ w3.1,st _ _ w3.2⟩
   ·rw [(c3f hT).2];exact .nil
  | true =>
   refine iteT ?_
   have hz1:Pfx (tw a ++ (kids a).flatMap wds) (p + 1) ws:=by rw [ek] at hz;exact hz.right
   refine⟨_,rfl,_,rfl,x,dx,_,rfl,st _ _ x3,rfl,_,rfl,_,rfl,fa,_,0,_,rfl,rfl,hfd _,rfl,_,rfl,?_⟩
   refine⟨x,dx,wx,dw,fo,_,r,wl,p + 1,ws,a,As,vA,sa,ns,rfl,st _ _ x3,⟨st _ _ w3.1,st _ _ w3.2⟩,hT,okt,by omega,AtD.mono (kp3.trans st.keep) _ _ hA,hz1.left,sc.keep (kp3.trans st.keep),fun v H5 b5 w5 hv5=>?_⟩
   refine⟨(show(2:Nat) <= sizeLine by decide),fun t6 ht6=>hR _ _ ⟨t6,[v],rfl,?_,?_,?_,a0j,?_⟩⟩
   ·exact(b3.trans (.of st)).trans ((Bt2.but b5).trans (.of (a0o ht6 _)))
   ·exact a0o ht6 _ _ _ (b5 _ _ nx (st _ _ x3))
   ·exact⟨a0o ht6 _ _ _ w5.1,a0o ht6 _ _ _ w5.2⟩
   ·rw [c3d hT]
    exact .cons (AtD.mono (a0o ht6 _).keep _ _ hv5) .nil
end
open Tr
def FmW(K:W.Frag)(w:World)(mg:Str->Option Value):Prop:=∃ (a:Addr) (kvs:List (Str × V)),mg "FORMS" = some (.ref a)/\KDict K w a kvs/\(a == sysModules)=false/\kvs.length <= 1000/\∀ (S:Addr->Prop) (H:Hp),a0s K H S ((b1r.map kQ).map kD) (kvs.map kR)
theorem e3z{K:W.Frag}{κ:List (Key × V)}(h:∀ (S:Addr->Prop) (H:Hp),a0s K H S ((b1r.map kQ).map kD) κ):FmK K κ:=fun k=>by
 have key:∀ H:Hp,∃ fa,valV κ (Sum.inr (wd k))=some (.ref fa)/\SqT K H fa [.str (fk k).1,.int (fk k).2]:=fun H=>by
  rcases a0s.get (Sum.inr (wd k)) (h (fun _=>False) H) with⟨e,_⟩ | ⟨d,v,e,e2,a⟩
  ·rw [b1t] at e;cases e
  ·rw [b1t] at e
   cases e
   obtain⟨b,ys,rfl,sq,al⟩:=a2s a
   obtain⟨v1,r1,rfl,b1,al⟩:=al.uncons
   obtain⟨v2,r2,rfl,b2,al⟩:=al.uncons
   obtain rfl:=al.unnil
   unfold AtD at b1 b2
   rw [b1,b2] at sq
   exact⟨b,e2,sq⟩
 obtain⟨fa,e,_⟩:=key (fun _=>none)
 refine⟨fa,e,fun H=>?_⟩
 obtain⟨fb,e2,sq⟩:=key H
 rw [e] at e2
 cases e2
 exact sq
abbrev a8m:Stmt:=inClass (top 27) 0
theorem d2s:FnScope ["self","text","forms","most"] ["self","text","forms","most"] (a0e a8m):=⟨rfl,rfl,rfl,by decide +kernel,rfl,by decide +kernel,by decide +kernel⟩
theorem sp_eq:sp1=⟨#[32]⟩:=by decide +kernel
def okN(a:Fm Str):Prop:=∀ z ∈ wds a,(32:Nat) ∉ z.cps.toList
theorem d2t{a:Fm Str}(h:okN a):Txt.split (txt a) " " = wds a:=by
 unfold txt
 show Txt.split _ sp1=_
 rw [sp_eq]
 exact b4w (a4t a) h
def b6q(C CR:Addr):Sp:=fun vs H Q _=>∃ (x dx fo:Addr) (t:Str) (l:Nat),vs=[.ref x,.str t,.ref fo,.int (l:Int)]/\H x=some (.ins CR dx [])/\t.length <= 1000000/\∀ wx dw wl H',H wx=none->H wl=none->But x H H'->H' x=some (.ins CR dx (rfs wx fo (l:Int)))->WOk C H' wx dw 0 wl 0 (Txt.split t " ")->Q .non H'
def b3o(K:W.Frag):Sp:=fun vs H Q _=>∃ (fo:Addr) (a:Fm Str) (l:Nat) (sa:Addr) (ns:List Int) (kvs:List (Key × V)),vs=[.str (txt a),.ref fo,.int (l:Int)]/\H fo=some (.dK kvs)/\FmK K kvs/\szF a <= l/\szF a <= 60/\okR [] a/\bigF a/\okN a/\L2.Scr K H sa (ns.map V.int)/\∀ v H',Same H H'->AtD K H' (fun _=>False) (enc a) v->Q v H'
def b6r:DSp:=fun ls Q=>∃ a:Fm Str,ls=[.d (.str (txt a))]/\szF a <= 60/\okR [] a/\bigF a/\okN a/\Q (.d (enc a)) [none]
def b3p:DSp:=fun ls Q=>∃ a:Fm Str,ls=[.d (enc a)]/\szF a <= 100/\bigF a/\Q (.d (.str (txt a))) [none]
section
variable{P:Program}{w:World}{K:W.Frag}{mg:Str->Option Value}{base:Heap}{n:Nat}{C CR:Addr}
theorem d2u{f f1:Addr}{fd fd1:FuncData} (F:Fun K "__init__" "Reading.__init__" a8m f fd) (TX:TxtF K mg C) (RF:RdF K mg CR) (M:Mk K C f1) (b_winit:Binds K fd1 ["self","row","text"] []) (g_winit:FnOk P w K mg base CX0 n f1 fd1 ["self","row","text"] (b6i C)):FnOk P w K mg base CX0 (n + 2) f fd ["self","text","forms","most"] (b6q C CR):=by
 refine F.ok d2s (fun vs H Q E h=>?_) (fun cdv A outer s H vs Q E hr h=>?_)
 ·obtain⟨x,dx,fo,t,l,rfl,_⟩:=h
  rfl
 obtain⟨x,dx,fo,t,l,rfl,hx,ht,q⟩:=h
 refine⟨_,a0v (a7f (pv 0) (c1z M g_winit hr rfl TX.mgC b_winit .nil a4f (a0i a1g (a0i (pv 1) a0r))) rfl) (a0v (a7f (pv 0) (pv 2) rfl) (a1n (a7f (pv 0) (pv 3) rfl))),?_⟩
 refine⟨_,rfl,fun wx dw hwx hdw ne=>⟨wx,dw,0,t,rfl,a0j,ht,fun wl H3 hwl b3 k3=>⟨rfl,?_⟩⟩⟩
 have nx:x ≠ wx:=fun z=>by rw [← z,hx] at hwx;cases hwx
 have nd:x ≠ dw:=fun z=>by rw [← z,hx] at hdw;cases hdw
 have hx3:H3 x=some (.ins CR dx []):=b3 _ _ nx (by rw [a0f nx,a0f nd];exact hx)
 have nl:wl ≠ x:=fun z=>by have:=k3.2;rw [z,hx3] at this;cases this
 have b4:But x H H3:=fun c o nc e=>b3 _ _ (fun z=>by rw [z,hwx] at e;cases e) (by rw [a0f (fun z=>by rw [z,hwx] at e;cases e),a0f (fun z=>by rw [z,hdw] at e;cases e)];exact e)
 have hwl0:H wl=none:=by
  cases e:H wl with
  | none=>rfl
  | some o =>
   rw [a0f (fun z=>by rw [z,hwx] at e;cases e),a0f (fun z=>by rw [z,hdw] at e;cases e),e] at hwl
   cases hwl
 refine⟨_,rfl,x,CR,dx,[],rfl,hx3,RF.cl,RF.n1,by decide,?_⟩
 refine⟨_,rfl,_,rfl,x,CR,dx,_,rfl,a0j,RF.cl,RF.n2,(show(1:Nat) < 1000 by decide),?_⟩
 refine⟨_,rfl,_,rfl,x,CR,dx,_,rfl,a0j,RF.cl,RF.n3,(show(2:Nat) < 1000 by decide),?_⟩
 refine q wx dw wl _ hwx hwl0 (fun c o nc e=>?_) a0j ⟨?_,?_⟩
 ·rw [a0f nc,a0f nc,a0f nc];exact b4 _ _ nc e
 ·rw [a0f (Ne.symm nx),a0f (Ne.symm nx),a0f (Ne.symm nx)];exact k3.1
 ·rw [a0f nl,a0f nl,a0f nl];exact k3.2
abbrev a9k:Stmt:=top 26
theorem b0z:FnScope ["text","forms","most","reading","sentence"] ["text","forms","most"] (a0e a9k):=⟨rfl,rfl,rfl,by decide +kernel,rfl,by decide +kernel,by decide +kernel⟩
theorem c5m{f f1 f2 f3:Addr}{fd fd1 fd2 fd3:FuncData} (F:Fun K "read_by" "read_by" a9k f fd) (TX:TxtF K mg C) (RF:RdF K mg CR) (M:Mk K CR f1) (b_rinit:Binds K fd1 ["self","text","forms","most"] []) (g_rinit:FnOk P w K mg base CX0 n f1 fd1 ["self","text","forms","most"] (b6q C CR))
  (m_rthing:Meth K CR "read_thing" f2) (b_rthing:Binds K fd2 ["self","around"] []) (g_rthing:FnOk P w K mg base CX0 (n + 1) f2 fd2 ["self","around"] (b0y K C CR 60)) (m_wfin:Meth K C "finish" f3) (b_wfin:Binds K fd3 ["self"] []) (g_wfin:FnOk P w K mg base CX0 (n + 1) f3 fd3 ["self"] (c0s C)) :
  FnOk P w K mg base CX0 (n + 2) f fd ["text","forms","most"] (b3o K):=by
 refine F.ok b0z (fun vs H Q E h=>?_) (fun cdv A outer s H vs Q E hr h=>?_)
 ·obtain⟨fo,a,l,sa,ns,kvs,rfl,_⟩:=h
  rfl
 obtain⟨fo,a,l,sa,ns,kvs,rfl,hfo,hF,hl,h60,okr,big,okn,sc,q⟩:=h
 refine⟨_,a0v (a2y (i:=3) b0z.nd rfl (Or.inl rfl) (c1z M g_rinit hr rfl RF.mgC b_rinit .nil a4f (a0i (pv 0) (a0i (pv 1) (a0i (pv 2) a0r)))))
  (a0v (a2y (i:=4) b0z.nd rfl (Or.inl rfl) (a9p (pv 3) RF.cl m_rthing g_rthing hr b_rthing .nil a4f (a0i (a5g a0r) a0r)))
  (a0v (b5p (a8o (a2z (pv 3) rfl) TX.cl m_wfin g_wfin hr b_wfin .nil a4f))
  (a1n (a2j (pv 4))))),?_⟩
 have tl:=a2n big
 have hlen:(txt a).length <= 1000000:=by omega
 refine⟨_,rfl,_,rfl,_,rfl,fun x dx hx hdx ne=>⟨x,dx,fo,txt a,l,rfl,a0j,hlen,fun wx dw wl H3 hwx hwl b3 x3 w3=>⟨rfl,?_⟩⟩⟩
 rw [d2t okn] at w3
 have s3:Same H H3:=fun c o e=>b3 c o (fun z=>by rw [z,hx] at e;cases e) (by rw [a0f (fun z=>by rw [z,hx] at e;cases e),a0f (fun z=>by rw [z,hdx] at e;cases e)];exact e)
 have hwx0:H wx=none:=by
  cases e:H wx with
  | none=>rfl
  | some o =>
   rw [a0f (fun z=>by rw [z,hx] at e;cases e),a0f (fun z=>by rw [z,hdx] at e;cases e),e] at hwx
   cases hwx
 refine⟨_,rfl,x,dx,_,rfl,x3,rfl,(show(0:Nat) <= sizeLine by decide),fun t ht=>?_⟩
 have st:=a0o ht (.tup [])
 refine⟨x,dx,wx,dw,fo,l,0,wl,0,wds a,a,[],.ref t,sa,ns,kvs,rfl,st _ _ x3,⟨st _ _ w3.1,st _ _ w3.2⟩,(s3.trans st) _ _ hfo,hF,h60,hl,okr,by simp;omega,a1o (SqT.of a0j) .nil,fun i z e=>by rw [Nat.zero_add];exact e,sc.keep (S:=Any) (s3.trans st).keep,fun v H5 b5 x5 w5 hv5=>?_⟩
 rw [Nat.zero_add] at w5
 refine⟨_,rfl,x,CR,dx,_,_,rfl,x5,RF.cl,RF.n1,a7m,wx,dw,_,rfl,w5.1,rfl,wx,dw,0,wl,wds a,rfl,w5,_,rfl,?_⟩
 exact q v H5 (fun c o e=>b5 _ _ (fun z=>by rw [z,hx] at e;cases e) (fun z=>by rw [z,hwx0] at e;cases e) ((s3.trans st) _ _ e)) hv5
abbrev a4j:Stmt:=top 23
theorem b3q:FnScope ["text"] ["text"] (a0e a4j):=⟨rfl,rfl,rfl,by decide +kernel,rfl,by decide +kernel,by decide +kernel⟩
theorem b3r{f f1:Addr}{fd fd1:FuncData} (F:Fun K "read_sentence" "read_sentence" a4j f fd) (B:Bl mg) (W:FmW K w mg) (m_MOST_THINGS:∃ t,mg "MOST_THINGS" = some (.int 60 t)) (d_read_by:Def K mg "read_by" a9k ["text","forms","most"] f1 fd1) (g_read_by:FnOk P w K mg base CX0 n f1 fd1 ["text","forms","most"] (b3o K)):FnOk P w K mg base CX0 (n + 1) f fd ["text"] (spD K b6r):=by
 refine F.ok b3q (fun vs H Q E h=>?_) (fun cdv A outer s H vs Q E hr h=>?_)
 ·obtain⟨c,O,ls,Qd,h0,hP,hM,hA,hL,R,⟨a,rfl,_⟩,fin⟩:=h
  have:=R.len
  simpa using this
 obtain⟨c,O,ls,Qd,h0,hP,hM,hA,hL,R,⟨a,rfl,h60,okr,big,okn,qd⟩,fin⟩:=h
 have hl2:vs.length=1:=by simpa using R.len
 obtain⟨v0,rfl⟩:∃ v0,vs=[v0]:=by
  rcases vs with _ | ⟨a,_ | ⟨_,_⟩⟩<;>simp at hl2
  exact⟨a,rfl⟩
 obtain⟨w0,e0,a0⟩:=R.dat 0 _ rfl
 obtain rfl:v0=w0:=Option.some.inj (Option.some.inj e0)
 obtain rfl:v0=.str (txt a):=by unfold AtD at a0;exact a0
 obtain⟨af,kvs,hm,hD,hsy,hl,hk⟩:=W
 refine⟨_,a1n (a2j (a3c d_read_by g_read_by hr rfl (a0i (pv 0) (a0i (a9e b4y rfl B.dict_ c2g (a0i (b1w rfl hm (v:=.ref af) rfl) a0r)) (a0i (b1w rfl m_MOST_THINGS.choose_spec (v:=.int 60) ⟨_,rfl⟩) a0r))))),?_⟩
 refine⟨_,rfl,af,kvs,rfl,hD,hl,hsy,fun p hp=>?_⟩
 have sp:=a0o hp (.dK (kvs.map kR))
 refine⟨p,a,60,c.sa,c.ns,kvs.map kR,rfl,a0j,e3z hk,h60,h60,okr,big,okn,R.sc.keep (S:=Any) sp.keep,fun v H' s' hv=>?_⟩
 exact fin (.d _) O _ _ _ _ qd ⟨R.grow (sp.trans s'),AtD.more (fun _ z=>z.elim) _ _ hv⟩
abbrev a3t:Stmt:=top 22
theorem b2n:FnScope ["sentence"] ["sentence"] (a0e a3t):=⟨rfl,rfl,rfl,by decide +kernel,rfl,by decide +kernel,by decide +kernel⟩
theorem b2o{f f1:Addr}{fd fd1:FuncData} (F:Fun K "shown_sentence" "shown_sentence" a3t f fd) (B:Bl mg) (W:FmW K w mg) (d_written:Def K mg "written" a9j ["sentence","forms"] f1 fd1) (g_written:FnOk P w K mg base CX0 n f1 fd1 ["sentence","forms"] (spD K b1u)):FnOk P w K mg base CX0 (n + 1) f fd ["sentence"] (spD K b3p):=by
 refine F.ok b2n (fun vs H Q E h=>?_) (fun cdv A outer s H vs Q E hr h=>?_)
 ·obtain⟨c,O,ls,Qd,h0,hP,hM,hA,hL,R,⟨a,rfl,_⟩,fin⟩:=h
  have:=R.len
  simpa using this
 obtain⟨c,O,ls,Qd,h0,hP,hM,hA,hL,R,⟨a,rfl,h60,big,qd⟩,fin⟩:=h
 have hl2:vs.length=1:=by simpa using R.len
 obtain⟨v0,rfl⟩:∃ v0,vs=[v0]:=by
  rcases vs with _ | ⟨a,_ | ⟨_,_⟩⟩<;>simp at hl2
  exact⟨a,rfl⟩
 obtain⟨w0,e0,a0⟩:=R.dat 0 _ rfl
 obtain rfl:v0=w0:=Option.some.inj (Option.some.inj e0)
 obtain⟨af,kvs,hm,hD,hsy,hl,hk⟩:=W
 refine⟨_,a1n (a2j (a3c d_written g_written hr rfl (a0i (pv 0) (a0i (a9e b4y rfl B.dict_ c2g (a0i (b1w rfl hm (v:=.ref af) rfl) a0r)) a0r)))),?_⟩
 refine⟨_,rfl,af,kvs,rfl,hD,hl,hsy,fun p hp=>?_⟩
 have sp:=a0o hp (.dK (kvs.map kR))
 refine a8h (E:=E0) (S:=fun b=>live c O b ∨ b=p) (ds:=[enc a,b0d]) (Qd:=fun r _=>r=.d (.str (txt a))) (R.sc.keep (S:=Any) sp.keep) (.cons (AtD.more (fun _ z=>.inl z) _ _ (AtD.mono sp.keep _ _ a0)) (.cons (b1l (.inr rfl) a0j (hk _ _)) .nil)) ⟨a,rfl,h60,big,rfl⟩ (fun r v H' ρ' e s2 ret=>?_)
 subst e
 have ev:v=.str (txt a):=by unfold Ret at ret;unfold AtD at ret;exact ret
 rw [ev]
 exact fin (.d _) O _ _ _ _ qd ⟨R.grow (sp.trans s2),a1p _⟩
end
noncomputable def b8k(x:PyData):List PyData:=[.bool (isD "tuple" x),.bool (isD "list" x),.bool (isD "str" x),.bool (isD "bool" x)]
def c1c:DSp:=fun ls Q=>∃ x:PyData,ls=[.d x]/\Q (.new (b8k x)) [none]
noncomputable def SmT:Nat->PyData->Prop
 | 0,_=>False
 | m + 1,d=>(∃ s:Str,d=.str s) ∨ ∃ ds:List PyData,d=.tuple ds/\ds.length <= 1000/\∀ e ∈ ds,SmT m e
def b5g(m:Nat):DSp:=fun ls Q=>∃ x:PyData,ls=[.d x,.d x]/\SmT m x/\Q (.d (.bool true)) [none,none]
theorem d2v(xs:List PyData):zipP xs xs=xs.map fun x=>.tuple [x,x]:=by
 unfold zipP;induction xs with
 | nil=>rfl
 | cons x r ih=>rw [List.zipWith_cons_cons,ih];rfl
theorem c5n(xs:List PyData):fIn true (.bool false) (.list (xs.filterMap fun _=>some (.bool true)))=some (.bool true):=by
 have h1:(xs.filterMap fun _=>some (PyData.bool true)).all a1l=true:=by
  rw [all_eq_true]
  intro y hy
  obtain⟨_,_,e⟩:=mem_filterMap.mp hy
  cases e;rfl
 have h2:inF (.bool false) (xs.filterMap fun _=>some (PyData.bool true))=false:=by
  unfold inF
  rw [List.any_eq_false]
  intro y hy
  obtain⟨_,_,e⟩:=mem_filterMap.mp hy
  cases e;decide
 rw [b9q (by rw [h1];rfl),h2]
 rfl
theorem d8p(x:PyData):fEqA true (.list (b8k x)) (.list (b8k x))=some (.bool false):=by
 unfold b8k
 generalize isD "tuple" x=b1;generalize isD "list" x=b2;generalize isD "str" x=b3;generalize isD "bool" x=b4
 rw [b9p rfl (by rfl) (by rfl)]
 cases b1<;>cases b2<;>cases b3<;>cases b4<;>rfl
section
variable{P:Program}{w:World}{K:W.Frag}{mg:Str->Option Value}{base:Heap}{n:Nat}
abbrev a8a:Stmt:=top 37
theorem c1q:FnScope ["_law_thing"] ["_law_thing"] (a0e a8a):=⟨rfl,rfl,rfl,by decide +kernel,rfl,by decide +kernel,by decide +kernel⟩
theorem d8q{f:Addr}{fd:FuncData} (F:Fun K "_law_kind" "_law_kind" a8a f fd) (B:Bl mg):FnOk P w K mg base CX0 (n + 1) f fd ["_law_thing"] (spD K c1c):=by
 refine F.dok c1q (fun cdv A outer s H E hr ls Qd h=>?_) (fun ls Qd hq8=>by obtain⟨x,e,_⟩:=hq8;rw [e];rfl)
 obtain⟨x,rfl,q⟩:=h
 refine⟨rfl,?_⟩
 refine⟨_,(a0k (c2n (a2f (a0a (b2f rfl B.isinstance_ rfl B.tuple_ a8r rfl (dv 0)) (a0a (b2f rfl B.isinstance_ rfl B.list_ c2f rfl (dv 0)) (a0a (b2f rfl B.isinstance_ rfl B.str_ c6w rfl (dv 0)) (a0a (b2f rfl B.isinstance_ rfl B.bool_ d4t rfl (dv 0)) a0c))))))),?_⟩
 walk_at "dd"
 exact q
abbrev a6g:Stmt:=top 38
theorem c1r:FnScope ["_law_found","_law_due"] ["_law_found","_law_due"] (a0e a6g):=⟨rfl,rfl,rfl,by decide +kernel,rfl,by decide +kernel,by decide +kernel⟩
theorem d8r{f f1:Addr}{fd fd1:FuncData} (F:Fun K "_law_same" "_law_same" a6g f fd) (B:Bl mg) (a8b:Def K mg "_law_kind" a8a ["_law_thing"] f1 fd1) (b5h:FnOk P w K mg base CX0 n f1 fd1 ["_law_thing"] (spD K c1c))
  (a3u:Def K mg "_law_same" a6g ["_law_found","_law_due"] f fd) {m:Nat} (a8c:FnOk P w K mg base CX0 n f fd ["_law_found","_law_due"] (spD K (b5g m))):FnOk P w K mg base CX0 (n + 1) f fd ["_law_found","_law_due"] (spD K (b5g (m + 1))):=by
 refine F.dok c1r (fun cdv A outer s H E hr ls Qd h=>?_) (fun ls Qd hq8=>by obtain⟨x,e,_⟩:=hq8;rw [e];rfl)
 obtain⟨x,rfl,hd,q⟩:=h
 refine⟨rfl,?_⟩
 refine⟨_,(a0g (a1m (a1d (b4p hr.units) b4o (a0l [false] a8b b5h hr rfl (a0a (dv 0) a0c)) (a0l [false] a8b b5h hr rfl (a0a (dv 1) a0c)) (a0u _))
  (a0k (a0q a4g))
  a0y)
  (a0g (a1m (a8u (a7j (e2v rfl B.isinstance_ rfl B.tuple_ a8r rfl rfl B.list_ c2f rfl (dv 1))))
  (a0k (a0q (a7i (a2v hr.units) a2u (dv 0) (dv 1) (a0u _))))
  a0y)
  (a0g (a1m (a1d (b4p hr.units) b4o (a3l a2p a5z rfl B.len_ a3i (a0a (dv 0) a0c)) (a3l a2p a5z rfl B.len_ a3i (a0a (dv 1) a0c)) (a0u _))
  (a0k (a0q a4g))
  a0y)
  (a0k (a0q (a7i b2u a7a a4g (a3a (b2e ["_law_one","_law_other"] [] rfl (by rfl) (by decide +kernel) (e2s rfl B.zip_ (a0a (dv 0) (a0a (dv 1) a0c))) (fun _ _ _=>(b9o (n:=2) rfl (a6o (a2x (i:=0) (show(["_law_one","_law_other"]:List Str).Nodup by decide +kernel) rfl (Or.inl rfl)) (a6o (a2x (i:=1) (show(["_law_one","_law_other"]:List Str).Nodup by decide +kernel) rfl (Or.inl rfl)) b5x)))) (fun _ _ _=>b5y) (fun _ _ _=>(a0l [false,false] a3u a8c hr rfl (a0a (dv 0) (a0a (dv 1) a0c)))))) (by rfl))))))),?_⟩
 walk_at "dd"
 refine⟨x,rfl,?_⟩
 walk_at "dd"
 refine⟨x,rfl,?_⟩
 walk_at "dd"
 rw [d8p]
 walk_at "dd"
 rcases hd with⟨z,rfl⟩ | ⟨xs,rfl,hl,hs⟩
 ·walk_at "dk"
  exact q
 ·walk_at "dk"
  rw [show(!(isD "tuple" (PyData.tuple xs) || isD "list" (PyData.tuple xs)))=false from rfl]
  walk_at "dd"
  rw [show(!decide True)=false from rfl]
  walk_at "dd"
  rw [e2t rfl,d2v]
  walk_at "dd"
  refine⟨by rw [length_map];omega,?_⟩
  refine L2.b0p (fun ρ=>∃ v0 v1:Option L,ρ=[v0,v1]) (fun _=>some (.bool true)) ⟨_,_,rfl⟩ ?_ ?_
  ·rintro y ρ N hy ⟨v0,v1,rfl⟩ hN
   obtain⟨z,hz,rfl⟩:=mem_map.mp hy
   walk_at "dd"
   refine⟨z,rfl,hs z hz,?_⟩
   walk_at "dd"
   exact hN _ ⟨_,_,rfl⟩
  ·rintro ρ ⟨v0,v1,rfl⟩
   rw [c5n]
   walk_at "dd"
   exact q
end
open Tr
theorem SmT.up:∀ {m:Nat} {d:PyData},SmT m d->SmT (m + 1) d
 | 0,_,h=>h.elim
 | m + 1,_,.inl h=>.inl h
 | m + 1,_,.inr ⟨ds,e,l,h⟩=>.inr ⟨ds,e,l,fun x hx=>(h x hx).up⟩
theorem SmT.le{m k:Nat}{d:PyData}(h:SmT m d)(hk:m <= k):SmT k d:=by
 induction hk with
 | refl=>exact h
 | step _ ih=>exact ih.up
theorem a4e{m:Nat}(s:Str):SmT (m + 1) (.str s):=.inl ⟨s,rfl⟩
theorem c5o{m:Nat}{hs:List Str}(h:hs.length <= 1000):SmT (m + 2) (encH hs):=.inr ⟨_,rfl,by rw [length_map];exact h,fun e he=>by
 obtain⟨z,_,rfl⟩:=mem_map.mp he
 exact a4e z⟩
theorem e4a{x y:Str}{r:List Str}:Txt.join cm1 (x :: y :: r)=x ++ (cm1 ++ Txt.join cm1 (y :: r)):=by
 rw [a2m,a2m]
 refine Str.ext' (toList_inj.mp ?_)
 rw [a6s]
 show _=(x.cps ++ (cm1.cps ++ (Str.join cm1 (y :: r)).cps)).toList
 rw [toList_append,toList_append]
theorem c3h(a b:Str):(a ++ b).cps.toList=a.cps.toList ++ b.cps.toList:=by
 show(a.cps ++ b.cps).toList=_
 rw [toList_append]
theorem b1a:∀ {hs:List Str},(∀ z ∈ hs,a1v z=true)->(32:Nat) ∉ (jn hs).cps.toList
 | [],_=>by unfold jn;rw [a2m];decide +kernel
 | [x],h=>by
  unfold jn;rw [a2m]
  exact(a6u (h x (by simp))).2
 | x :: y :: r,h=>by
  unfold jn
  rw [e4a,c3h,c3h,mem_append,mem_append]
  rintro(m | m | m)
  ·exact(a6u (h x (by simp))).2 m
  ·exact absurd m (by decide +kernel)
  ·exact b1a (hs:=y :: r) (fun z hz=>h z (mem_cons_of_mem _ hz)) m
theorem b3s{z:Str}(h:a1v z=true):z.length <= 8:=by
 unfold a1v at h
 rw [and_eq_true,and_eq_true] at h
 exact of_decide_eq_true h.1.2
theorem okSt.big{st:Stp Str}(h:okSt st):bigS st:=by
 cases st with
 | on=>trivial
 | back=>trivial
 | one hs=>exact h.2.2.1
 | pool hs=>exact h.2.2.1
theorem okSt.sm{st:Stp Str}{m:Nat}(h:okSt st):SmT (m + 3) (a4i st):=by
 cases st with
 | on=>exact .inr ⟨_,rfl,(by decide:1 <= 1000),fun e he=>by cases mem_singleton.mp he;exact a4e _⟩
 | back=>exact .inr ⟨_,rfl,(by decide:1 <= 1000),fun e he=>by cases mem_singleton.mp he;exact a4e _⟩
 | one hs =>
  refine .inr ⟨_,rfl,(by decide:2 <= 1000),fun e he=>?_⟩
  rcases mem_cons.mp he with rfl | he
  ·exact a4e _
  ·cases mem_singleton.mp he;exact c5o (Nat.le_trans h.2.2.1.1 (by decide))
 | pool hs =>
  refine .inr ⟨_,rfl,(by decide:2 <= 1000),fun e he=>?_⟩
  rcases mem_cons.mp he with rfl | he
  ·exact a4e _
  ·cases mem_singleton.mp he;exact c5o (Nat.le_trans h.2.2.1.1 (by decide))
theorem okSt.nb{st:Stp Str}(h:okSt st):∀ z ∈ stW st,(32:Nat) ∉ z.cps.toList:=by
 intro z hz
 cases st with
 | on=>cases mem_singleton.mp hz;decide +kernel
 | back=>cases mem_singleton.mp hz;decide +kernel
 | one hs =>
  rcases mem_cons.mp hz with rfl | hz
  ·decide +kernel
  ·cases mem_singleton.mp hz;exact b1a h.2.2.2
 | pool hs =>
  rcases mem_cons.mp hz with rfl | hz
  ·decide +kernel
  ·cases mem_singleton.mp hz;exact b1a h.2.2.2
theorem okT.big{As:List (Fm Str)}{k:Fm Str}(h:okT As k):(∀ z ∈ tw k,(32:Nat) ∉ z.cps.toList)/\∀ {m:Nat},∀ e ∈ arg k,SmT (m + 3) e:=by
 cases k with
 | fact z=>exact⟨fun y hy=>by cases mem_singleton.mp hy;exact(a6u h).2,fun e he=>by cases mem_singleton.mp he;exact a4e _⟩
 | wish z=>exact⟨fun y hy=>by cases mem_singleton.mp hy;exact(a6u h.1).2,fun e he=>by cases mem_singleton.mp he;exact a4e _⟩
 | bind m z a=>exact⟨fun y hy=>by cases mem_singleton.mp hy;exact(a6u h.1).2,fun e he=>by cases mem_singleton.mp he;exact a4e _⟩
 | mod c st a=>exact⟨okSt.nb h,fun e he=>by cases mem_singleton.mp he;exact okSt.sm h⟩
 | sho hs a b=>exact⟨fun y hy=>by cases mem_singleton.mp hy;exact b1a h.2.2.2,fun e he=>by cases mem_singleton.mp he;exact c5o (Nat.le_trans h.2.2.1.1 (by decide))⟩
 | neg a=>exact⟨(fun y hy=>by cases hy),fun e he=>by cases he⟩
 | two c a b=>exact⟨(fun y hy=>by cases hy),fun e he=>by cases he⟩
theorem d2w(k:Fm Str):(32:Nat) ∉ (wd k).cps.toList:=by
 rcases k with _ | _ | _ | ⟨c,_,_⟩ | ⟨c,_,_⟩ | ⟨c,_,_⟩ | _<;>first | (simp only [wd];decide +kernel) | (cases c<;>(simp only [wd];decide +kernel))
theorem okR.big:∀ {a:Fm Str} {As:List (Fm Str)},okR As a->bigF a
 | .fact z,_,h=>b3s h
 | .wish z,_,h=>b3s h.1
 | .neg a,_,h=>okR.big (a:=a) h
 | .two c a b,_,h=>⟨okR.big (a:=a) h.1,okR.big (a:=b) h.2⟩
 | .mod c st a,_,h=>⟨okSt.big h.1,okR.big (a:=a) h.2⟩
 | .bind m x a,_,h=>⟨b3s h.2.1.1,okR.big (a:=a) h.2.2⟩
 | .sho hs a b,_,h=>⟨h.2.1.2.2.1,okR.big (a:=a) h.2.2.1,okR.big (a:=b) h.2.2.2⟩
theorem d8s{k y:Fm Str}(h:y ∈ kids k):szF y < szF k:=by
 have e:=b2k k
 have:szF y <= ((kids k).map szF).sum:=by
  generalize kids k=l at h
  induction l with
  | nil=>cases h
  | cons x r ih =>
   rw [map_cons,List.sum_cons]
   rcases mem_cons.mp h with rfl | h
   ·omega
   ·have:=ih h;omega
 omega
theorem okR.more(n:Nat):∀ {a:Fm Str} {As:List (Fm Str)},szF a <= n->okR As a->okN a/\SmT (n + 3) (enc a):=by
 induction n with
 | zero=>intro a As h;have:=a8i a;omega
 | succ n ih =>
  intro a As hs h
  obtain⟨_,ht,hk⟩:=h.all
  have kd:∀ y ∈ kids a,okN y/\SmT (n + 3) (enc y):=fun y hy=>ih (by have:=d8s hy;omega) (hk y hy)
  refine⟨fun z hz=>?_,?_⟩
  ·rw [c1a,mem_append,mem_append] at hz
   rcases hz with hz | hz | hz
   ·cases mem_singleton.mp hz;exact d2w a
   ·exact ht.big.1 z hz
   ·obtain⟨y,hy,hz⟩:=List.mem_flatMap.mp hz
    exact(kd y hy).1 z hz
  ·rw [c1b]
   have few:=b0x a
   refine .inr ⟨_,rfl,?_,fun e he=>?_⟩
   ·have:(arg a).length <= 1:=by cases a<;>first | exact Nat.le_refl _ | exact zero_le _
    simp;omega
   ·rcases mem_append.mp he with he | he
    ·rcases mem_cons.mp he with rfl | he
     ·exact a4e _
     ·exact ht.big.2 e he
    ·obtain⟨y,hy,rfl⟩:=mem_map.mp he
     exact(kd y hy).2
structure Ar(As:List (Fm Str))(b s:Nat)(F:List (Str × Bool)):Prop where
 nb:(a2w As).length <= b
 lv:∀ x ∈ a2w As,∃ c,c < b/\x ∈ nmAt c
 sh:shows As <= s
 fr:∀ q ∈ F,∀ k,mw q.1 k As.reverse=decide ((k + if q.2=true then 1 else 0) % 2=0)
theorem Ar.plain{As:List (Fm Str)}{b s:Nat}{F:List (Str × Bool)}(h:Ar As b s F){k:Fm Str}(h1:bn k=none)(h2:isS k=false)(h3:isN k=false):Ar (As ++ [k]) b s F:=
 ⟨by rw [a2q,h1];simpa using h.nb,by rw [a2q,h1];simpa using h.lv,by rw [a5d,h2];simpa using h.sh,fun q hq c=>by
  rw [List.reverse_append]
  show mw q.1 c (k :: As.reverse)=_
  unfold mw
  rw [h1,h2,h3]
  simpa using h.fr q hq c⟩
theorem e4b{As:List (Fm Str)}{b:Nat}{x:Str}(h:∀ x ∈ a2w As,∃ c,c < b/\x ∈ nmAt c)(hb:b < 3)(hx:x ∈ nmAt b):x ∉ a2w As:=fun hm=>by
 obtain⟨c,hc,hn⟩:=h x hm
 have:∀ a < 3,∀ c < a,∀ y ∈ nmAt a,y ∉ nmAt c:=by decide +kernel
 exact this b hb c hc x hx hn
theorem c1d:∀ hs ∈ HL,okH hs:=by
 intro hs h
 obtain⟨h1,h2⟩:=d7z hs h
 have h3:∀ hs ∈ HL,(hs.length <= 4/\∀ z ∈ hs,z.length <= 8)/\∀ z ∈ hs,a1v z=true:=by decide +kernel
 exact⟨h1,(fun e=>by rw [e] at h2;exact absurd h2 (by decide)),(h3 hs h).1,(h3 hs h).2⟩
theorem wS.okSt{st:Stp Str}(h:wS st):okSt st:=by
 cases st with
 | on=>trivial
 | back=>trivial
 | one hs=>exact c1d hs h
 | pool hs=>exact c1d hs h
theorem fits:∀ (a:Fm Str) (As:List (Fm Str)) (b s:Nat) (F:List (Str × Bool)),Wl a b s->Pos a F->b <= 3->Ar As b s F->okR As a
 | .fact z,As,b,s,F,hw,_,_,_=>b6f z hw
 | .wish z,As,b,s,F,hw,hp,_,h=>⟨b6f z hw,by
  show mw z 0 As.reverse=true
  rw [h.fr _ hp 0];rfl⟩
 | .neg a,As,b,s,F,hw,hp,hb,h=>by
  refine fits a _ b s (Tr.flip F) hw hp hb ⟨by rw [a2q];simpa [bn] using h.nb,by rw [a2q];simpa [bn] using h.lv,by rw [a5d];simpa [isS,pick] using h.sh,fun q hq c=>?_⟩
  obtain⟨u,hu,rfl⟩:=mem_map.mp hq
  rw [List.reverse_append]
  show mw u.1 (c + 1) As.reverse=_
  rw [h.fr u hu]
  cases u.2<;>exact decide_eq_decide.mpr (by simp<;>omega)
 | .two c a d,As,b,s,F,hw,hp,hb,h=>by
  have h':Ar (As ++ [.two c a d]) b s F:=h.plain rfl rfl rfl
  exact⟨fits a _ b s F hw.1 hp.1 hb h',fits d _ b s F hw.2 hp.2 hb h'⟩
 | .mod c st a,As,b,s,F,hw,hp,hb,h=>by
  have h':Ar (As ++ [.mod c st a]) b s F:=h.plain rfl rfl rfl
  exact⟨hw.1.okSt,fits a _ b s F hw.2 hp.2 hb h'⟩
 | .bind m x a,As,b,s,F,hw,hp,hb,h=>by
  have hb3:=hw.1.1
  have hx:=e4b h.lv hb3 hw.1.2
  have nb:=h.nb
  have h':Ar (As ++ [.bind m x a]) (b + 1) s (F ++ [(x,false)]):=by
   refine⟨by rw [a2q];simp [bn];omega,?_,by rw [a5d];simpa [isS,pick] using h.sh,fun q hq c=>?_⟩
   ·rw [a2q]
    intro y hy
    rcases mem_append.mp hy with hy | hy
    ·obtain⟨c,hc,e⟩:=h.lv y hy
     exact⟨c,by omega,e⟩
    ·rw [show y=x by simpa [bn] using hy];exact⟨b,by omega,hw.1.2⟩
   ·rw [List.reverse_append]
    show(if (false=true) then false else if some x=some q.1 then decide (c % 2=0) else mw q.1 (if (false=true) then c + 1 else c) As.reverse)=_
    rw [if_neg Bool.false_ne_true,if_neg Bool.false_ne_true]
    rcases mem_append.mp hq with hq | hq
    ·have hne:¬ some x=some q.1:=fun e=>hp.1 (mem_map.mpr ⟨q,hq,(Option.some.inj e).symm⟩)
     rw [if_neg hne]
     exact h.fr q hq c
    ·rw [mem_singleton.mp hq,if_pos rfl];rfl
  refine⟨?_,⟨b6f x (d3y b hb3 x hw.1.2),?_⟩,fits a _ (b + 1) s _ hw.2 hp.2 hb3 h'⟩
  ·show decide ((a2w As).length < 4)=true
   exact decide_eq_true (by omega)
  ·show(!decide (x ∈ a2w As))=true
   rw [decide_eq_false hx];rfl
 | .sho hs a d,As,b,s,F,hw,hp,hb,h=>by
  have hs2:=hw.1.1
  have sh:=h.sh
  have h':Ar (As ++ [.sho hs a d]) b (s + 1) []:=⟨by rw [a2q];simpa [bn] using h.nb,by rw [a2q];simpa [bn] using h.lv,by rw [a5d];simp [isS,pick];exact sh,fun q hq=>by cases hq⟩
  refine⟨?_,c1d hs hw.1.2,fits a _ b (s + 1) [] hw.2.1 hp.1 hb h',fits d _ b (s + 1) [] hw.2.2 hp.2 hb h'⟩
  show decide (shows As < 3)=true
  exact decide_eq_true (by omega)
open Tr
theorem rngI{m:Nat}{i:Nat}{x:PyData}(h:(rngD 0 m)[i]? = some x):i < m/\x=.int (i:Int):=by
 unfold rngD at h
 rw [getElem?_map] at h
 obtain⟨y,hy,rfl⟩:=map_eq_some_iff.mp h
 obtain⟨h1,h2⟩:=List.getElem?_eq_some_iff.mp hy
 simp at h1 h2
 exact⟨h1,by rw [← h2];simp⟩
def Gd(a:Fm Str):Prop:=szF a <= 60/\okR [] a
noncomputable def innF:Fm Str:=.mod true (.pool ["a","ab","b","one"]) (.fact "on")
noncomputable def outF:Fm Str:=.mod false (.one ["a","ab","abc","b"]) innF
theorem h4:okH ["a","ab","b","one"]/\okH ["a","ab","abc","b"]/\okH ["a","back","on","pool"]:=by
 have key:∀ hs ∈ ([["a","ab","b","one"],["a","ab","abc","b"],["a","back","on","pool"]]:List (List Str)),a9f "" hs=true/\hs ≠ []/\(hs.length <= 4/\∀ z ∈ hs,z.length <= 8)/\∀ z ∈ hs,a1v z=true:=by decide +kernel
 exact⟨key _ (by simp),key _ (by simp),key _ (by simp)⟩
theorem e4c:Gd outF:=⟨by decide,h4.2.1,h4.1,(by decide +kernel:a1v "on" = true)⟩
section
variable{P:Program}{w:World}{K:W.Frag}{mg:Str->Option Value}{base:Heap}{n:Nat}
abbrev a8d:Stmt:=top 41
theorem a6h:FnScope ["_law_script","_law_tape","_law_some","_law_k","_law_sentence_here","_law_inner","_law_text_here"] ["_law_script"] (a0e a8d):=⟨rfl,rfl,rfl,by decide +kernel,rfl,by decide +kernel,by decide +kernel⟩
theorem e4d{f f1 f2 f3 f4 f5 f6:Addr}{fd fd1 fd2 fd3 fd4 fd5 fd6:FuncData} (F:Fun K "law" "law" a8d f fd) (B:Bl mg)
  (a0x:b5a K mg f1 fd1) (a1k:b4z P w K mg base n f1 fd1)
  (a1i:Def K mg "_law_sentence" a3p ["_law_tape","_law_size","_law_free","_law_binders","_law_shows"] f2 fd2) (a1u:FnOk P w K mg base CX0 n f2 fd2 ["_law_tape","_law_size","_law_free","_law_binders","_law_shows"] (spD K (b8f 40)))
  (a2a:Def K mg "_law_text" a6e ["_law_one"] f3 fd3) (a3b:FnOk P w K mg base CX0 n f3 fd3 ["_law_one"] (spD K (b5f 60)))
  (a3u:Def K mg "_law_same" a6g ["_law_found","_law_due"] f4 fd4) (a8c:FnOk P w K mg base CX0 n f4 fd4 ["_law_found","_law_due"] (spD K (b5g 63)))
  (d_shown_sentence:Def K mg "shown_sentence" a3t ["sentence"] f5 fd5) (g_shown_sentence:FnOk P w K mg base CX0 n f5 fd5 ["sentence"] (spD K b3p))
  (d_read_sentence:Def K mg "read_sentence" a4j ["text"] f6 fd6) (g_read_sentence:FnOk P w K mg base CX0 n f6 fd6 ["text"] (spD K b6r)):FnOk P w K mg base CX0 (n + 1) f fd ["_law_script"] (b8a K):=by
 refine F.law a6h (fun cdv A outer s H E hr=>?_)
 refine⟨_,_,rfl,a2y (i:=1) a6h.nd rfl (Or.inl rfl) (b8q (a0i (pv 0) (a0i a1g a0r))),_,(a0g (b5w (i:=2) a6h.nd rfl (Or.inl rfl) (a2f a0c))
  (a0g (b1o PassesOwn.never rfl (c7j rfl B.range_ a0h) (a2x (i:=3) a6h.nd rfl (Or.inl rfl))
  (a0g (a2c (i:=4) a6h.nd rfl (Or.inl rfl) (a0l [true,false,false,false,false] a1i a1u hr rfl (a0a (dv 1) (a0a (a0z a0p a1e a0h (a0l [true,false] a0x a1k hr rfl (a0a (dv 1) (a0a a0h a0c)))) (a0a (a3a (a2f a0c)) (a0a a0h (a0a (a0z a3m a4p a0h (b7b c7y d6r rfl B.int_ d9o (a0a (a7i b3z (a3d _) (dv 3) a0h (a0u _)) a0c))) a0c)))))))
  (a0g (a1m (a1d (a2v hr.units) a2u (a1b a0t a1c (dv 4) a0h (fun _ _=>rfl)) a0d (a0u _))
  (a0k (a2c (i:=4) a6h.nd rfl (Or.inl rfl) (a0w (a0a a0d (a0a (a1b a0t a1c (a3a (a2f (a0a a0d (a0a a0d (a0a a0d (a0a a0d (a0a a0d a0c))))))) (a0l [true,false] a0x a1k hr rfl (a0a (dv 1) (a0a a0h a0c))) (fun _ _=>rfl)) a0c)))))
  a0y)
  (a0k (a8g (a5t 2 rfl (dv 4)))))))
  (a0g (a2c (i:=5) a6h.nd rfl (Or.inl rfl) (a0w (a0a a0d (a0a (a0w (a0a a0d (a0a (a0w (a0a a0d (a0a a0d (a0a a0d (a0a a0d a0c))))) a0c))) (a0a (a0w (a0a a0d (a0a a0d a0c))) a0c)))))
  (a0g (a8g (a5t 2 rfl (a0w (a0a a0d (a0a (a0w (a0a a0d (a0a (a0w (a0a a0d (a0a a0d (a0a a0d (a0a a0d a0c))))) a0c))) (a0a (dv 5) a0c))))))
  (a0g (a8g (a5t 2 rfl (a0w (a0a a0d (a0a (a0w (a0a a0d (a0a a0d (a0a a0d (a0a a0d a0c))))) (a0a (a1b a0t a1c (dv 2) a0h (fun _ _=>rfl)) (a0a (a0w (a0a a0d (a0a a0d a0c))) a0c)))))))
  (a0g (b1o PassesOwn.never rfl (a9y (a0z a0p a1e (dv 2) (b9w d4o e2y (dv 2) c2r (c2s a0h)))) (a2x (i:=4) a6h.nd rfl (Or.inl rfl))
  (a0g (a2c (i:=6) a6h.nd rfl (Or.inl rfl) (a0l [false] a2a a3b hr rfl (a0a (dv 4) a0c)))
  (a0k (a1m (DW.toT (b7v (a8u (a7j (a0l [false,false] a3u a8c hr rfl (a0a (a0l [false] d_shown_sentence g_shown_sentence hr rfl (a0a (dv 4) a0c)) (a0a (dv 6) a0c))))) (b4k (a8u (a7j (a0l [false,false] a3u a8c hr rfl (a0a (a0l [false] d_read_sentence g_read_sentence hr rfl (a0a (dv 6) a0c)) (a0a (dv 4) a0c))))))))
  (a0k (a0q a4g))
  a0y))))
  (a0k (a0q a4g)))))))),?_⟩
 walk_at "dd"
 refine⟨⟨by decide,by decide⟩,?_⟩
 refine a6p (fun i ρ=>∃ (k:Nat) (Us:List (Fm Str)) (v3 v4 v5 v6:Option L),ρ=[some .scr,some (.tape k),some (.own (Us.map enc)),v3,v4,v5,v6]/\Us.length=i/\i <= 12/\k <= 500 * i/\(∀ a ∈ Us,Gd a/\szF a <= 40)/\∀ a,Us[0]? = some a->okR [.sho ["a","back","on","pool"] a (.fact "show")] a) ⟨0,[],none,none,none,none,rfl,rfl,by omega,by omega,fun a h=>(by cases h),fun a h=>(by cases h)⟩ ?_ ?_
 ·rintro i u ρ N hu ⟨k,Us,v3,v4,v5,v6,rfl,hl,hi12,hk,hU,h0⟩ hN
  obtain⟨hi,rfl⟩:=rngI hu
  have hi:i < 12:=hi
  walk_at "dd"
  refine⟨k,40,rfl,by decide,by omega,fun r g0 g1=>?_⟩
  obtain⟨r0,rfl⟩:∃ r0:Nat,r=(r0:Int):=⟨r.toNat,by omega⟩
  walk_at "dd"
  rw [show c4r [.bool (decide (0 < (i:Int)))]=some (.int (if decide (0 < (i:Int))=true then 1 else 0)) from rfl,a0m]
  walk_at "dd"
  obtain⟨sh,esh,hsh,hs0⟩:∃ sh:Nat,(1:Int) - (if decide (0 < (i:Int))=true then 1 else 0)=(sh:Int)/\sh <= 1/\(i=0->sh=1):=by
   by_cases c:0 < (i:Int)
   ·exact⟨0,by rw [decide_eq_true c];rfl,by omega,by omega⟩
   ·exact⟨1,by rw [decide_eq_false c];rfl,by omega,by omega⟩
  rw [esh]
  refine⟨k + 1,1 + r0,0,sh,[],rfl,by omega,by omega,by omega,by omega,zero_le _,(fun p hp=>by cases hp),by omega,(fun p hp=>by cases hp),fun a k' hk' ok=>?_⟩
  walk_at "dd"
  have sa:=ok.size
  have A0:Ar [] 0 sh []:=⟨Nat.le_refl _,(fun x hx=>by simp [a2w] at hx),zero_le _,fun q hq=>by cases hq⟩
  have okr:=fits a [] 0 sh [] ok.wl ok.pos (by omega) A0
  have hN':∀ (b:Fm Str) (k2:Nat) (v4 v5 v6:Option L),k2 <= k' + 1->Gd b->szF b <= 40->(i=0->okR [.sho ["a","back","on","pool"] b (.fact "show")] b)->N [some .scr,some (.tape k2),some (.own (Us.map enc ++ [enc b])),some (.d (.int (i:Int))),v4,v5,v6]:=fun b k2 v4 v5 v6 hk2 hb hb4 hb0=>by
   refine hN _ ⟨k2,Us ++ [b],_,v4,v5,v6,by rw [map_append];rfl,by simp;omega,by omega,by omega,fun c hc=>?_,fun c hc=>?_⟩
   ·rcases mem_append.mp hc with hc | hc
    ·exact hU c hc
    ·cases mem_singleton.mp hc;exact⟨hb,hb4⟩
   ·by_cases e:i=0
    ·have:Us=[]:=eq_nil_of_length_eq_zero (by omega)
     subst this
     cases hc
     exact hb0 e
    ·rw [getElem?_append_left (by omega)] at hc
     exact h0 c hc
  rw [c0m a]
  walk_at "dd"
  by_cases c:wd a=Str.ofString "fact"
  ·rw [decide_eq_true c]
   refine iteT ?_
   refine⟨k',5,rfl,by decide,by omega,fun r2 g2 g3=>?_⟩
   walk_at "dd"
   refine a4b g2 g3 fun d hd _=>?_
   obtain⟨z,rfl,hz⟩:∃ z,d=.str z/\a1v z=true:=by
    simp only [mem_cons,not_mem_nil,or_false] at hd
    rcases hd with rfl | rfl | rfl | rfl | rfl<;>exact⟨_,rfl,by decide +kernel⟩
   walk_at "dd"
   refine⟨by rw [length_map];omega,?_⟩
   exact hN' (.fact z) _ _ _ _ (Nat.le_refl _) ⟨(by show 1 <= 60;decide),hz⟩ (by show 1 <= 40;decide) (fun _=>hz)
  ·rw [decide_eq_false c]
   refine iteF ?_
   walk_at "dd"
   refine⟨by rw [length_map];omega,?_⟩
   rw [← c0m a]
   refine hN' a _ _ _ _ (le_succ _) ⟨by omega,okr⟩ (by omega) fun e=>?_
   have e1:=hs0 e
   subst e1
   exact fits a _ 0 1 [] ok.wl ok.pos (by omega) ⟨Nat.le_refl _,(fun x hx=>by simp [a2w,bn] at hx),Nat.le_refl _,fun q hq=>by cases hq⟩
 ·rintro ρ ⟨k,Us,v3,v4,v5,v6,rfl,hl,hi12,hk,hU,h0⟩
  have hl:Us.length=12:=hl
  obtain⟨a0,Ur,rfl⟩:∃ a0 Ur,Us=a0 :: Ur:=by
   cases Us with
   | nil=>cases hl
   | cons a b=>exact⟨a,b,rfl⟩
  have r0:=h0 a0 rfl
  obtain⟨g0,s0⟩:=hU a0 (by simp)
  have hlr:Ur.length=11:=by simpa using hl
  walk_at "dd"
  refine⟨by simp;omega,?_⟩
  rw [show PyData.tuple [PyData.str (Str.ofString "some"),PyData.tuple [PyData.str (Str.ofString "one"),PyData.tuple [PyData.str (Str.ofString "a"),PyData.str (Str.ofString "ab"),PyData.str (Str.ofString "abc"),PyData.str (Str.ofString "b")]],PyData.tuple [PyData.str (Str.ofString "every"),PyData.tuple [PyData.str (Str.ofString "pool"),PyData.tuple [PyData.str (Str.ofString "a"),PyData.str (Str.ofString "ab"),PyData.str (Str.ofString "b"),PyData.str (Str.ofString "one")]],PyData.tuple [PyData.str (Str.ofString "fact"),PyData.str (Str.ofString "on")]]]=enc outF from rfl]
  walk_at "dd"
  refine⟨by simp;omega,?_⟩
  rw [show PyData.tuple [PyData.str (Str.ofString "show"),PyData.tuple [PyData.str (Str.ofString "a"),PyData.str (Str.ofString "back"),PyData.str (Str.ofString "on"),PyData.str (Str.ofString "pool")],enc a0,PyData.tuple [PyData.str (Str.ofString "fact"),PyData.str (Str.ofString "show")]]=enc (.sho ["a","back","on","pool"] a0 (.fact "show")) from rfl]
  obtain⟨Vs,eV,hV,lV⟩:∃ Vs:List (Fm Str),enc a0 :: (List.map enc Ur ++ [enc outF] ++ [enc (.sho ["a","back","on","pool"] a0 (.fact "show"))])=Vs.map enc/\(∀ a ∈ Vs,Gd a)/\Vs.length=14:=by
   refine⟨a0 :: (Ur ++ [outF] ++ [.sho ["a","back","on","pool"] a0 (.fact "show")]),by simp,fun a ha=>?_,by simp;omega⟩
   rcases mem_cons.mp ha with rfl | ha
   ·exact g0
   rcases mem_append.mp ha with ha | ha
   ·rcases mem_append.mp ha with ha | ha
    ·exact(hU a (mem_cons_of_mem _ ha)).1
    ·cases mem_singleton.mp ha;exact e4c
   ·cases mem_singleton.mp ha
    exact⟨by show szF a0 + 1 + 1 <= 60;omega,by show decide (0 < 3)=true;rfl,h4.2.2,r0,(by decide +kernel:a1v "show" = true)⟩
  rw [eV]
  walk_at "dd"
  rw [show fSlL (.list (Vs.map enc)) none (some 3)=some (.list ((Vs.take 3).map enc)) from ?sl,a0m,c7o (by simp [sizeLine_eq];omega),a0m,← map_append]
  walk_at "dd"
  refine a6p (fun i ρ=>∃ (v4 v6:Option L),ρ=[some .scr,some (.tape k),some (.own (Vs.map enc)),v3,v4,some (.d (enc innF)),v6]) ⟨v4,v6,rfl⟩ ?_ ?_
  ·rintro i u ρ N hu ⟨v4,v6,rfl⟩ hN
   rw [getElem?_map] at hu
   obtain⟨a,ha,rfl⟩:=map_eq_some_iff.mp hu
   have ga:Gd a:=by
    rcases mem_append.mp (mem_of_getElem? ha) with h | h
    ·exact hV a h
    ·exact hV a (List.mem_of_mem_take h)
   obtain⟨g1,g2⟩:=ga
   have big:=g2.big
   obtain⟨okn,sm⟩:=g2.more 60 g1
   walk_at "dd"
   refine⟨a,rfl,g1,by omega,big,?_⟩
   walk_at "dd"
   refine⟨a,rfl,by omega,big,?_⟩
   walk_at "dd"
   refine⟨_,rfl,a4e _,?_⟩
   walk_at "dd"
   refine⟨a,rfl,g1,g2,big,okn,?_⟩
   walk_at "dd"
   refine⟨_,rfl,sm,?_⟩
   walk_at "dd"
   exact hN _ ⟨_,_,rfl⟩
  ·rintro ρ ⟨v4,v6,rfl⟩
   walk_at "dd"
  case sl =>
   show some (PyData.list (cutD (Vs.map enc) none (some 3)))=_
   unfold cutD
   rw [length_map,lV,show HT.sIx 14 0 none=0 from rfl,show HT.sIx 14 14 (some 3)=3 from by decide,drop_zero,List.map_take]
end
def Lies(K:W.Frag)(x:Str)(st:Stmt)(ps:List Str):Prop:=∃ f fd,Fun K x x st f fd/\W.nsIn K mainGlobals x=some (some (.ref f))/\Binds K fd ps []
abbrev fnX(x:Str)(st:Stmt)(kV dc pm:Value)(an:Option Addr)(cd ct:Value):FuncData:=W.fnOf x x (a2l st) (a1t st) (a0e st) .none kV dc pm an cd ct
theorem a2o{K:W.Frag}{x:Str}{st:Stmt}{ps:List Str}{f:Addr}{od an:Option Addr}{sl:Array (Option Value)}{oc kV dc pm cd ct:Value}
  (a:W.nsIn K mainGlobals x=some (some (.ref f))) (l:K.lookup f=some ⟨oc,od,.func (fnX x st kV dc pm an cd ct),sl⟩) (c:W.codeIn K cd x=true) (k:W.keepIn K (.ref f)=true) (hp:ps.length=1)
  (b:∀ (kV dc pm:Value) (an:Option Addr) (cd ct a0:Value),bindArgs (fnX x st kV dc pm an cd ct) ⟨[a0],[]⟩=pure (ps.zip [a0])):Lies K x st ps:=⟨f,_,a2r l c k,a,(a2r l c k).binds fun kV dc pm an cd ct us hl=>by
  rw [hp] at hl
  obtain⟨a0,u0,rfl,h0⟩:=usS hl
  obtain rfl:=eq_nil_of_length_eq_zero h0
  exact b kV dc pm an cd ct a0⟩
theorem a4x{K:W.Frag}{x:Str}{st:Stmt}{ps:List Str}{f:Addr}{od an:Option Addr}{sl:Array (Option Value)}{oc kV dc pm cd ct:Value}
  (a:W.nsIn K mainGlobals x=some (some (.ref f))) (l:K.lookup f=some ⟨oc,od,.func (fnX x st kV dc pm an cd ct),sl⟩) (c:W.codeIn K cd x=true) (k:W.keepIn K (.ref f)=true) (hp:ps.length=2)
  (b:∀ (kV dc pm:Value) (an:Option Addr) (cd ct a0 a1:Value),bindArgs (fnX x st kV dc pm an cd ct) ⟨[a0,a1],[]⟩=pure (ps.zip [a0,a1])):Lies K x st ps:=⟨f,_,a2r l c k,a,(a2r l c k).binds fun kV dc pm an cd ct us hl=>by
  rw [hp] at hl
  obtain⟨a0,u0,rfl,h0⟩:=usS hl
  obtain⟨a1,u1,rfl,h1⟩:=usS h0
  obtain rfl:=eq_nil_of_length_eq_zero h1
  exact b kV dc pm an cd ct a0 a1⟩
theorem b3t{K:W.Frag}{x:Str}{st:Stmt}{ps:List Str}{f:Addr}{od an:Option Addr}{sl:Array (Option Value)}{oc kV dc pm cd ct:Value}
  (a:W.nsIn K mainGlobals x=some (some (.ref f))) (l:K.lookup f=some ⟨oc,od,.func (fnX x st kV dc pm an cd ct),sl⟩) (c:W.codeIn K cd x=true) (k:W.keepIn K (.ref f)=true) (hp:ps.length=3)
  (b:∀ (kV dc pm:Value) (an:Option Addr) (cd ct a0 a1 a2:Value),bindArgs (fnX x st kV dc pm an cd ct) ⟨[a0,a1,a2],[]⟩=pure (ps.zip [a0,a1,a2])):Lies K x st ps:=⟨f,_,a2r l c k,a,(a2r l c k).binds fun kV dc pm an cd ct us hl=>by
  rw [hp] at hl
  obtain⟨a0,u0,rfl,h0⟩:=usS hl
  obtain⟨a1,u1,rfl,h1⟩:=usS h0
  obtain⟨a2,u2,rfl,h2⟩:=usS h1
  obtain rfl:=eq_nil_of_length_eq_zero h2
  exact b kV dc pm an cd ct a0 a1 a2⟩
theorem d2x{K:W.Frag}{x:Str}{st:Stmt}{ps:List Str}{f:Addr}{od an:Option Addr}{sl:Array (Option Value)}{oc kV dc pm cd ct:Value}
  (a:W.nsIn K mainGlobals x=some (some (.ref f))) (l:K.lookup f=some ⟨oc,od,.func (fnX x st kV dc pm an cd ct),sl⟩) (c:W.codeIn K cd x=true) (k:W.keepIn K (.ref f)=true) (hp:ps.length=5)
  (b:∀ (kV dc pm:Value) (an:Option Addr) (cd ct a0 a1 a2 a3 a4:Value),bindArgs (fnX x st kV dc pm an cd ct) ⟨[a0,a1,a2,a3,a4],[]⟩=pure (ps.zip [a0,a1,a2,a3,a4])):Lies K x st ps:=⟨f,_,a2r l c k,a,(a2r l c k).binds fun kV dc pm an cd ct us hl=>by
  rw [hp] at hl
  obtain⟨a0,u0,rfl,h0⟩:=usS hl
  obtain⟨a1,u1,rfl,h1⟩:=usS h0
  obtain⟨a2,u2,rfl,h2⟩:=usS h1
  obtain⟨a3,u3,rfl,h3⟩:=usS h2
  obtain⟨a4,u4,rfl,h4⟩:=usS h3
  obtain rfl:=eq_nil_of_length_eq_zero h4
  exact b kV dc pm an cd ct a0 a1 a2 a3 a4⟩
theorem e4e{P:Program}{w:World}{K:W.Frag}{h:Heap}{mg:Str->Option Value}{fa:Addr}(X:K.In h)(G:h.Ns mainGlobals mg) (hfa:mg "law" = some (.ref fa))
  (h_is_name:Lies K "is_name" a7l ["thing"])
  (h_are_rising_names:Lies K "are_rising_names" a3j ["things"])
  (h_is_hands:Lies K "is_hands" a7w ["thing"])
  (h_is_binder:Lies K "is_binder" a5j ["sentence"])
  (h_may_begin:Lies K "may_begin" a7e ["head","around"])
  (h_may_take:Lies K "may_take" a7y ["head","taken","around"])
  (h_may_wish:Lies K "may_wish" a7x ["name","around"])
  (h_names_bound:Lies K "names_bound" a3z ["around"])
  (h_shown_sentence:Lies K "shown_sentence" a3t ["sentence"])
  (h_read_sentence:Lies K "read_sentence" a4j ["text"])
  (h_written:Lies K "written" a9j ["sentence","forms"])
  (h_shown_taken:Lies K "shown_taken" a5o ["taken","sort"])
  (h_read_by:Lies K "read_by" a9k ["text","forms","most"])
  (h_hands_in:Lies K "hands_in" a7z ["word"])
  (h_law_cell_at:Lies K "_law_cell_at" a3y ["_law_script","_law_k"])
  (h_law_by:Lies K "_law_by" b0t ["_law_script","_law_k","_law_many"])
  (h_law_next:Lies K "_law_next" a7t ["_law_tape","_law_many"])
  (h_law_hands:Lies K "_law_hands" a5i ["_law_tape"])
  (h_law_step:Lies K "_law_step" a7u ["_law_tape"])
  (h_law_leaf:Lies K "_law_leaf" a7v ["_law_tape","_law_free"])
  (h_law_sentence:Lies K "_law_sentence" a3p ["_law_tape","_law_size","_law_free","_law_binders","_law_shows"])
  (h_law_kind:Lies K "_law_kind" a8a ["_law_thing"])
  (h_law_same:Lies K "_law_same" a6g ["_law_found","_law_due"])
  (h_law_step_words:Lies K "_law_step_words" a3s ["_law_step_here"])
  (h_law_text:Lies K "_law_text" a6e ["_law_one"])
  {f_law:Addr} {od_law an_law:Option Addr} {sl_law:Array (Option Value)} {oc_law kV_law dc_law pm_law cd_law ct_law:Value}
  (a_law:W.nsIn K mainGlobals "law" = some (some (.ref f_law))) (l_law:K.lookup f_law=some ⟨oc_law,od_law,.func (W.fnOf "law" "law" (a2l a8d) (a1t a8d) (a0e a8d) .none kV_law dc_law pm_law an_law cd_law ct_law),sl_law⟩) (c_law:W.codeIn K cd_law "law" = true) (k_law:W.keepIn K (.ref f_law)=true)
  {C_Words:Addr} (aC_Words:W.nsIn K mainGlobals "Words" = some (some (.ref C_Words)))
  {f_winit:Addr} {od_winit an_winit:Option Addr} {sl_winit:Array (Option Value)} {oc_winit kV_winit dc_winit pm_winit cd_winit ct_winit:Value}
  (a_winit:W.findIn K (.ref C_Words) "__init__" = some (some (.ref f_winit))) (i_winit:W.isFn K (.ref f_winit)=true) (l_winit:K.lookup f_winit=some ⟨oc_winit,od_winit,.func (W.fnOf "__init__" "Words.__init__" (a2l a8k) (a1t a8k) (a0e a8k) .none kV_winit dc_winit pm_winit an_winit cd_winit ct_winit),sl_winit⟩) (c_winit:W.codeIn K cd_winit "Words.__init__" = true) (k_winit:W.keepIn K (.ref f_winit)=true)
  {f_taken:Addr} {od_taken an_taken:Option Addr} {sl_taken:Array (Option Value)} {oc_taken kV_taken dc_taken pm_taken cd_taken ct_taken:Value}
  (a_taken:W.findIn K (.ref C_Words) "taken" = some (some (.ref f_taken))) (i_taken:W.isFn K (.ref f_taken)=true) (l_taken:K.lookup f_taken=some ⟨oc_taken,od_taken,.func (W.fnOf "taken" "Words.taken" (a2l a8l) (a1t a8l) (a0e a8l) .none kV_taken dc_taken pm_taken an_taken cd_taken ct_taken),sl_taken⟩) (c_taken:W.codeIn K cd_taken "Words.taken" = true) (k_taken:W.keepIn K (.ref f_taken)=true)
  {f_over:Addr} {od_over an_over:Option Addr} {sl_over:Array (Option Value)} {oc_over kV_over dc_over pm_over cd_over ct_over:Value}
  (a_over:W.findIn K (.ref C_Words) "are_over" = some (some (.ref f_over))) (i_over:W.isFn K (.ref f_over)=true) (l_over:K.lookup f_over=some ⟨oc_over,od_over,.func (W.fnOf "are_over" "Words.are_over" (a2l b0a) (a1t b0a) (a0e b0a) .none kV_over dc_over pm_over an_over cd_over ct_over),sl_over⟩) (c_over:W.codeIn K cd_over "Words.are_over" = true) (k_over:W.keepIn K (.ref f_over)=true)
  {f_wfin:Addr} {od_wfin an_wfin:Option Addr} {sl_wfin:Array (Option Value)} {oc_wfin kV_wfin dc_wfin pm_wfin cd_wfin ct_wfin:Value}
  (a_wfin:W.findIn K (.ref C_Words) "finish" = some (some (.ref f_wfin))) (i_wfin:W.isFn K (.ref f_wfin)=true) (l_wfin:K.lookup f_wfin=some ⟨oc_wfin,od_wfin,.func (W.fnOf "finish" "Words.finish" (a2l b0b) (a1t b0b) (a0e b0b) .none kV_wfin dc_wfin pm_wfin an_wfin cd_wfin ct_wfin),sl_wfin⟩) (c_wfin:W.codeIn K cd_wfin "Words.finish" = true) (k_wfin:W.keepIn K (.ref f_wfin)=true)
  (pg_Words:W.plainGet K C_Words Str.empty=true) (hd_Words:W.hasDictIn K C_Words=true) (po_Words:W.plainOver K C_Words=true) (sa_Words:W.findIn K (.ref C_Words) "__setattr__" = some (some (.builtin "object.__setattr__"))) (mk_Words:W.makesIn K C_Words=true) (kc_Words:W.keepIn K (.ref C_Words)=true)
  (n_Words_row:W.findIn K (.ref C_Words) "row" = some none)
  (n_Words_words:W.findIn K (.ref C_Words) "words" = some none)
  (n_Words_place:W.findIn K (.ref C_Words) "place" = some none)
  {C_Reading:Addr} (aC_Reading:W.nsIn K mainGlobals "Reading" = some (some (.ref C_Reading)))
  {f_rinit:Addr} {od_rinit an_rinit:Option Addr} {sl_rinit:Array (Option Value)} {oc_rinit kV_rinit dc_rinit pm_rinit cd_rinit ct_rinit:Value}
  (a_rinit:W.findIn K (.ref C_Reading) "__init__" = some (some (.ref f_rinit))) (i_rinit:W.isFn K (.ref f_rinit)=true) (l_rinit:K.lookup f_rinit=some ⟨oc_rinit,od_rinit,.func (W.fnOf "__init__" "Reading.__init__" (a2l a8m) (a1t a8m) (a0e a8m) .none kV_rinit dc_rinit pm_rinit an_rinit cd_rinit ct_rinit),sl_rinit⟩) (c_rinit:W.codeIn K cd_rinit "Reading.__init__" = true) (k_rinit:W.keepIn K (.ref f_rinit)=true)
  {f_rthing:Addr} {od_rthing an_rthing:Option Addr} {sl_rthing:Array (Option Value)} {oc_rthing kV_rthing dc_rthing pm_rthing cd_rthing ct_rthing:Value}
  (a_rthing:W.findIn K (.ref C_Reading) "read_thing" = some (some (.ref f_rthing))) (i_rthing:W.isFn K (.ref f_rthing)=true) (l_rthing:K.lookup f_rthing=some ⟨oc_rthing,od_rthing,.func (W.fnOf "read_thing" "Reading.read_thing" (a2l a5r) (a1t a5r) (a0e a5r) .none kV_rthing dc_rthing pm_rthing an_rthing cd_rthing ct_rthing),sl_rthing⟩) (c_rthing:W.codeIn K cd_rthing "Reading.read_thing" = true) (k_rthing:W.keepIn K (.ref f_rthing)=true)
  (hc_rthing:cd_rthing=.ref 204) (hC_rthing:W.codeHdIn K 204 200=true)
  {f_rtaken:Addr} {od_rtaken an_rtaken:Option Addr} {sl_rtaken:Array (Option Value)} {oc_rtaken kV_rtaken dc_rtaken pm_rtaken cd_rtaken ct_rtaken:Value}
  (a_rtaken:W.findIn K (.ref C_Reading) "read_taken" = some (some (.ref f_rtaken))) (i_rtaken:W.isFn K (.ref f_rtaken)=true) (l_rtaken:K.lookup f_rtaken=some ⟨oc_rtaken,od_rtaken,.func (W.fnOf "read_taken" "Reading.read_taken" (a2l a5q) (a1t a5q) (a0e a5q) .none kV_rtaken dc_rtaken pm_rtaken an_rtaken cd_rtaken ct_rtaken),sl_rtaken⟩) (c_rtaken:W.codeIn K cd_rtaken "Reading.read_taken" = true) (k_rtaken:W.keepIn K (.ref f_rtaken)=true)
  (hc_rtaken:cd_rtaken=.ref 211) (hC_rtaken:W.codeHdIn K 211 207=true)
  {f_rhands:Addr} {od_rhands an_rhands:Option Addr} {sl_rhands:Array (Option Value)} {oc_rhands kV_rhands dc_rhands pm_rhands cd_rhands ct_rhands:Value}
  (a_rhands:W.findIn K (.ref C_Reading) "read_hands" = some (some (.ref f_rhands))) (i_rhands:W.isFn K (.ref f_rhands)=true) (l_rhands:K.lookup f_rhands=some ⟨oc_rhands,od_rhands,.func (W.fnOf "read_hands" "Reading.read_hands" (a2l a6v) (a1t a6v) (a0e a6v) .none kV_rhands dc_rhands pm_rhands an_rhands cd_rhands ct_rhands),sl_rhands⟩) (c_rhands:W.codeIn K cd_rhands "Reading.read_hands" = true) (k_rhands:W.keepIn K (.ref f_rhands)=true)
  (hc_rhands:cd_rhands=.ref 218) (hC_rhands:W.codeHdIn K 218 214=true)
  (pg_Reading:W.plainGet K C_Reading Str.empty=true) (hd_Reading:W.hasDictIn K C_Reading=true) (po_Reading:W.plainOver K C_Reading=true) (sa_Reading:W.findIn K (.ref C_Reading) "__setattr__" = some (some (.builtin "object.__setattr__"))) (mk_Reading:W.makesIn K C_Reading=true) (kc_Reading:W.keepIn K (.ref C_Reading)=true)
  (n_Reading_words:W.findIn K (.ref C_Reading) "words" = some none)
  (n_Reading_forms:W.findIn K (.ref C_Reading) "forms" = some none)
  (n_Reading_left:W.findIn K (.ref C_Reading) "left" = some none)
  (z_len:W.nsIn K mainGlobals "len" = some none)
  (z_range:W.nsIn K mainGlobals "range" = some none)
  (z_tuple:W.nsIn K mainGlobals "tuple" = some none)
  (z_bool:W.nsIn K mainGlobals "bool" = some none)
  (z_isinstance:W.nsIn K mainGlobals "isinstance" = some none)
  (z_reversed:W.nsIn K mainGlobals "reversed" = some none)
  (z_max:W.nsIn K mainGlobals "max" = some none)
  (z_zip:W.nsIn K mainGlobals "zip" = some none)
  (z_list:W.nsIn K mainGlobals "list" = some none)
  (z_str:W.nsIn K mainGlobals "str" = some none)
  (z_enumerate:W.nsIn K mainGlobals "enumerate" = some none)
  (z_dict:W.nsIn K mainGlobals "dict" = some none)
  (z_sum:W.nsIn K mainGlobals "sum" = some none)
  (z_int:W.nsIn K mainGlobals "int" = some none)
  (z_min:W.nsIn K mainGlobals "min" = some none)
  (z_sorted:W.nsIn K mainGlobals "sorted" = some none)
  (z_all:W.nsIn K mainGlobals "all" = some none)
  (z_set:W.nsIn K mainGlobals "set" = some none)
  (z_repr:W.nsIn K mainGlobals "repr" = some none)
  (z_any:W.nsIn K mainGlobals "any" = some none)
  {aT_FORMS:Addr} {ep_FORMS:Nat} {kt_FORMS_0 kt_FORMS_1 kt_FORMS_2 kt_FORMS_3 kt_FORMS_4 kt_FORMS_5 kt_FORMS_6 kt_FORMS_7 kt_FORMS_8 kt_FORMS_9:Tok} {p_FORMS_0 p_FORMS_1 p_FORMS_2 p_FORMS_3 p_FORMS_4 p_FORMS_5 p_FORMS_6 p_FORMS_7 p_FORMS_8 p_FORMS_9:Addr}
  (a_FORMS:W.nsIn K mainGlobals "FORMS" = some (some (.ref aT_FORMS)))
  (l_FORMS:K.lookup aT_FORMS=some ⟨.type "dict",none,.dict #[⟨PyData.keyHash w.params "fact",.str "fact" kt_FORMS_0,.ref p_FORMS_0⟩,⟨PyData.keyHash w.params "wish",.str "wish" kt_FORMS_1,.ref p_FORMS_1⟩,⟨PyData.keyHash w.params "not",.str "not" kt_FORMS_2,.ref p_FORMS_2⟩,⟨PyData.keyHash w.params "and",.str "and" kt_FORMS_3,.ref p_FORMS_3⟩,⟨PyData.keyHash w.params "or",.str "or" kt_FORMS_4,.ref p_FORMS_4⟩,⟨PyData.keyHash w.params "some",.str "some" kt_FORMS_5,.ref p_FORMS_5⟩,⟨PyData.keyHash w.params "every",.str "every" kt_FORMS_6,.ref p_FORMS_6⟩,⟨PyData.keyHash w.params "least",.str "least" kt_FORMS_7,.ref p_FORMS_7⟩,⟨PyData.keyHash w.params "most",.str "most" kt_FORMS_8,.ref p_FORMS_8⟩,⟨PyData.keyHash w.params "show",.str "show" kt_FORMS_9,.ref p_FORMS_9⟩] ep_FORMS,#[]⟩)
  {n_FORMS_0:Nat} {slp_FORMS_0:Array (Option Value)} {tk_FORMS_0_0 tk_FORMS_0_1:Tok} (l_FORMS_0:K.lookup p_FORMS_0=some ⟨.type "tuple",none,.seq #[.str "name" tk_FORMS_0_0,.int 0 tk_FORMS_0_1] n_FORMS_0,slp_FORMS_0⟩)
  {n_FORMS_1:Nat} {slp_FORMS_1:Array (Option Value)} {tk_FORMS_1_0 tk_FORMS_1_1:Tok} (l_FORMS_1:K.lookup p_FORMS_1=some ⟨.type "tuple",none,.seq #[.str "name" tk_FORMS_1_0,.int 0 tk_FORMS_1_1] n_FORMS_1,slp_FORMS_1⟩)
  {n_FORMS_2:Nat} {slp_FORMS_2:Array (Option Value)} {tk_FORMS_2_0 tk_FORMS_2_1:Tok} (l_FORMS_2:K.lookup p_FORMS_2=some ⟨.type "tuple",none,.seq #[.str "" tk_FORMS_2_0,.int 1 tk_FORMS_2_1] n_FORMS_2,slp_FORMS_2⟩)
  {n_FORMS_3:Nat} {slp_FORMS_3:Array (Option Value)} {tk_FORMS_3_0 tk_FORMS_3_1:Tok} (l_FORMS_3:K.lookup p_FORMS_3=some ⟨.type "tuple",none,.seq #[.str "" tk_FORMS_3_0,.int 2 tk_FORMS_3_1] n_FORMS_3,slp_FORMS_3⟩)
  {n_FORMS_4:Nat} {slp_FORMS_4:Array (Option Value)} {tk_FORMS_4_0 tk_FORMS_4_1:Tok} (l_FORMS_4:K.lookup p_FORMS_4=some ⟨.type "tuple",none,.seq #[.str "" tk_FORMS_4_0,.int 2 tk_FORMS_4_1] n_FORMS_4,slp_FORMS_4⟩)
  {n_FORMS_5:Nat} {slp_FORMS_5:Array (Option Value)} {tk_FORMS_5_0 tk_FORMS_5_1:Tok} (l_FORMS_5:K.lookup p_FORMS_5=some ⟨.type "tuple",none,.seq #[.str "step" tk_FORMS_5_0,.int 1 tk_FORMS_5_1] n_FORMS_5,slp_FORMS_5⟩)
  {n_FORMS_6:Nat} {slp_FORMS_6:Array (Option Value)} {tk_FORMS_6_0 tk_FORMS_6_1:Tok} (l_FORMS_6:K.lookup p_FORMS_6=some ⟨.type "tuple",none,.seq #[.str "step" tk_FORMS_6_0,.int 1 tk_FORMS_6_1] n_FORMS_6,slp_FORMS_6⟩)
  {n_FORMS_7:Nat} {slp_FORMS_7:Array (Option Value)} {tk_FORMS_7_0 tk_FORMS_7_1:Tok} (l_FORMS_7:K.lookup p_FORMS_7=some ⟨.type "tuple",none,.seq #[.str "name" tk_FORMS_7_0,.int 1 tk_FORMS_7_1] n_FORMS_7,slp_FORMS_7⟩)
  {n_FORMS_8:Nat} {slp_FORMS_8:Array (Option Value)} {tk_FORMS_8_0 tk_FORMS_8_1:Tok} (l_FORMS_8:K.lookup p_FORMS_8=some ⟨.type "tuple",none,.seq #[.str "name" tk_FORMS_8_0,.int 1 tk_FORMS_8_1] n_FORMS_8,slp_FORMS_8⟩)
  {n_FORMS_9:Nat} {slp_FORMS_9:Array (Option Value)} {tk_FORMS_9_0 tk_FORMS_9_1:Tok} (l_FORMS_9:K.lookup p_FORMS_9=some ⟨.type "tuple",none,.seq #[.str "hands" tk_FORMS_9_0,.int 2 tk_FORMS_9_1] n_FORMS_9,slp_FORMS_9⟩)
  (sy_FORMS:(aT_FORMS == sysModules)=false)
  {tk_LONGEST_NAME:Tok} (a_LONGEST_NAME:W.nsIn K mainGlobals "LONGEST_NAME" = some (some (.int 8 tk_LONGEST_NAME)))
  {tk_MOST_HANDS:Tok} (a_MOST_HANDS:W.nsIn K mainGlobals "MOST_HANDS" = some (some (.int 4 tk_MOST_HANDS)))
  {tk_MOST_THINGS:Tok} (a_MOST_THINGS:W.nsIn K mainGlobals "MOST_THINGS" = some (some (.int 60 tk_MOST_THINGS)))
  {tk_MOST_BINDERS:Tok} (a_MOST_BINDERS:W.nsIn K mainGlobals "MOST_BINDERS" = some (some (.int 4 tk_MOST_BINDERS)))
  {tk_MOST_SHOWS:Tok} (a_MOST_SHOWS:W.nsIn K mainGlobals "MOST_SHOWS" = some (some (.int 3 tk_MOST_SHOWS)))
  : ∃ fd:FuncData,(∀ (s:Shared) (v:Value),BindsTo s fd ⟨[v],[]⟩ [("_law_script",v)])/\∀ base:Heap,K.In base->base.Ns mainGlobals mg->BMain mg base->FnOk P w K mg base CX0 100 fa fd ["_law_script"] (b8a K):=by
 have e:=hfa.symm.trans (W.mg_of X G a_law)
 cases e
 obtain⟨f_is_name,_,F_is_name,c9d,b_is_name⟩:=h_is_name
 have d_is_name:Def K mg _ _ _ _ _:=⟨F_is_name,b_is_name,W.mg_of X G c9d⟩
 obtain⟨f_are_rising_names,_,F_are_rising_names,b1v,b_are_rising_names⟩:=h_are_rising_names
 have d_are_rising_names:Def K mg _ _ _ _ _:=⟨F_are_rising_names,b_are_rising_names,W.mg_of X G b1v⟩
 obtain⟨f_is_hands,_,F_is_hands,c5p,b_is_hands⟩:=h_is_hands
 have d_is_hands:Def K mg _ _ _ _ _:=⟨F_is_hands,b_is_hands,W.mg_of X G c5p⟩
 obtain⟨f_is_binder,_,F_is_binder,c1s,b_is_binder⟩:=h_is_binder
 have d_is_binder:Def K mg _ _ _ _ _:=⟨F_is_binder,b_is_binder,W.mg_of X G c1s⟩
 obtain⟨f_may_begin,_,F_may_begin,c1t,b_may_begin⟩:=h_may_begin
 have d_may_begin:Def K mg _ _ _ _ _:=⟨F_may_begin,b_may_begin,W.mg_of X G c1t⟩
 obtain⟨f_may_take,_,F_may_take,c5q,b_may_take⟩:=h_may_take
 have d_may_take:Def K mg _ _ _ _ _:=⟨F_may_take,b_may_take,W.mg_of X G c5q⟩
 obtain⟨f_may_wish,_,F_may_wish,c5r,b_may_wish⟩:=h_may_wish
 have d_may_wish:Def K mg _ _ _ _ _:=⟨F_may_wish,b_may_wish,W.mg_of X G c5r⟩
 obtain⟨f_names_bound,_,F_names_bound,b7o,b_names_bound⟩:=h_names_bound
 have d_names_bound:Def K mg _ _ _ _ _:=⟨F_names_bound,b_names_bound,W.mg_of X G b7o⟩
 obtain⟨f_shown_sentence,_,F_shown_sentence,a_shown_sentence,b_shown_sentence⟩:=h_shown_sentence
 have d_shown_sentence:Def K mg _ _ _ _ _:=⟨F_shown_sentence,b_shown_sentence,W.mg_of X G a_shown_sentence⟩
 obtain⟨f_read_sentence,_,F_read_sentence,a_read_sentence,b_read_sentence⟩:=h_read_sentence
 have d_read_sentence:Def K mg _ _ _ _ _:=⟨F_read_sentence,b_read_sentence,W.mg_of X G a_read_sentence⟩
 obtain⟨f_written,_,F_written,a_written,b_written⟩:=h_written
 have d_written:Def K mg _ _ _ _ _:=⟨F_written,b_written,W.mg_of X G a_written⟩
 obtain⟨f_shown_taken,_,F_shown_taken,a_shown_taken,b_shown_taken⟩:=h_shown_taken
 have d_shown_taken:Def K mg _ _ _ _ _:=⟨F_shown_taken,b_shown_taken,W.mg_of X G a_shown_taken⟩
 obtain⟨f_read_by,_,F_read_by,a_read_by,b_read_by⟩:=h_read_by
 have d_read_by:Def K mg _ _ _ _ _:=⟨F_read_by,b_read_by,W.mg_of X G a_read_by⟩
 obtain⟨f_hands_in,_,F_hands_in,a_hands_in,b_hands_in⟩:=h_hands_in
 have d_hands_in:Def K mg _ _ _ _ _:=⟨F_hands_in,b_hands_in,W.mg_of X G a_hands_in⟩
 obtain⟨d8t,_,b7p,b7q,b_law_cell_at⟩:=h_law_cell_at
 have a3g:Def K mg _ _ _ _ _:=⟨b7p,b_law_cell_at,W.mg_of X G b7q⟩
 obtain⟨e4f,_,d2y,d2z,b_law_by⟩:=h_law_by
 have b0u:Def K mg _ _ _ _ _:=⟨d2y,b_law_by,W.mg_of X G d2z⟩
 obtain⟨c5s,_,b5i,c5t,b_law_next⟩:=h_law_next
 have a0x:Def K mg _ _ _ _ _:=⟨b5i,b_law_next,W.mg_of X G c5t⟩
 obtain⟨c1u,_,b2z,c1v,b_law_hands⟩:=h_law_hands
 have a4d:Def K mg _ _ _ _ _:=⟨b2z,b_law_hands,W.mg_of X G c1v⟩
 obtain⟨c5u,_,b5j,c5v,b_law_step⟩:=h_law_step
 have b0v:Def K mg _ _ _ _ _:=⟨b5j,b_law_step,W.mg_of X G c5v⟩
 obtain⟨c5w,_,b5k,c5x,b_law_leaf⟩:=h_law_leaf
 have b0w:Def K mg _ _ _ _ _:=⟨b5k,b_law_leaf,W.mg_of X G c5x⟩
 obtain⟨b6s,_,b0e,b6t,b_law_sentence⟩:=h_law_sentence
 have a1i:Def K mg _ _ _ _ _:=⟨b0e,b_law_sentence,W.mg_of X G b6t⟩
 obtain⟨c5y,_,b5l,c5z,b_law_kind⟩:=h_law_kind
 have a8b:Def K mg _ _ _ _ _:=⟨b5l,b_law_kind,W.mg_of X G c5z⟩
 obtain⟨c6a,_,b5m,c6b,b_law_same⟩:=h_law_same
 have a3u:Def K mg _ _ _ _ _:=⟨b5m,b_law_same,W.mg_of X G c6b⟩
 obtain⟨b3u,_,a9c,b3v,b_law_step_words⟩:=h_law_step_words
 have a5p:Def K mg _ _ _ _ _:=⟨a9c,b_law_step_words,W.mg_of X G b3v⟩
 obtain⟨c6c,_,b5n,c6d,b_law_text⟩:=h_law_text
 have a2a:Def K mg _ _ _ _ _:=⟨b5n,b_law_text,W.mg_of X G c6d⟩
 have F_law:=a2r (st:=a8d) l_law c_law k_law
 have F_winit:=a2r (st:=a8k) l_winit c_winit k_winit
 have b_winit:=F_winit.binds (ps:=["self","row","text"]) fun _ _ _ _ _ _ us hl=>match us,hl with | [_,_,_],_=>rfl
 have F_taken:=a2r (st:=a8l) l_taken c_taken k_taken
 have b_taken:=F_taken.binds (ps:=["self","fits"]) fun _ _ _ _ _ _ us hl=>match us,hl with | [_,_],_=>rfl
 have m_taken:Meth K C_Words "taken" f_taken:=⟨a_taken,i_taken,k_taken⟩
 have F_over:=a2r (st:=b0a) l_over c_over k_over
 have b_over:=F_over.binds (ps:=["self"]) fun _ _ _ _ _ _ us hl=>match us,hl with | [_],_=>rfl
 have m_over:Meth K C_Words "are_over" f_over:=⟨a_over,i_over,k_over⟩
 have F_wfin:=a2r (st:=b0b) l_wfin c_wfin k_wfin
 have b_wfin:=F_wfin.binds (ps:=["self"]) fun _ _ _ _ _ _ us hl=>match us,hl with | [_],_=>rfl
 have m_wfin:Meth K C_Words "finish" f_wfin:=⟨a_wfin,i_wfin,k_wfin⟩
 have T_Words:TxtF K mg C_Words:=⟨⟨pg_Words,hd_Words,po_Words,sa_Words⟩,n_Words_row,n_Words_words,n_Words_place,W.mg_of X G aC_Words⟩
 have M_Words:Mk K C_Words f_winit:=⟨mk_Words,a_winit,i_winit,kc_Words⟩
 have F_rinit:=a2r (st:=a8m) l_rinit c_rinit k_rinit
 have b_rinit:=F_rinit.binds (ps:=["self","text","forms","most"]) fun _ _ _ _ _ _ us hl=>match us,hl with | [_,_,_,_],_=>rfl
 have F_rthing:=a2r (st:=a5r) l_rthing c_rthing k_rthing
 have b_rthing:=F_rthing.binds (ps:=["self","around"]) fun _ _ _ _ _ _ us hl=>match us,hl with | [_,_],_=>rfl
 have m_rthing:Meth K C_Reading "read_thing" f_rthing:=⟨a_rthing,i_rthing,k_rthing⟩
 have F_rtaken:=a2r (st:=a5q) l_rtaken c_rtaken k_rtaken
 have b_rtaken:=F_rtaken.binds (ps:=["self","head","sort","around"]) fun _ _ _ _ _ _ us hl=>match us,hl with | [_,_,_,_],_=>rfl
 have m_rtaken:Meth K C_Reading "read_taken" f_rtaken:=⟨a_rtaken,i_rtaken,k_rtaken⟩
 have F_rhands:=a2r (st:=a6v) l_rhands c_rhands k_rhands
 have b_rhands:=F_rhands.binds (ps:=["self"]) fun _ _ _ _ _ _ us hl=>match us,hl with | [_],_=>rfl
 have m_rhands:Meth K C_Reading "read_hands" f_rhands:=⟨a_rhands,i_rhands,k_rhands⟩
 have T_Reading:RdF K mg C_Reading:=⟨⟨pg_Reading,hd_Reading,po_Reading,sa_Reading⟩,n_Reading_words,n_Reading_forms,n_Reading_left,W.mg_of X G aC_Reading⟩
 have M_Reading:Mk K C_Reading f_rinit:=⟨mk_Reading,a_rinit,i_rinit,kc_Reading⟩
 have B:Bl mg:=⟨W.mg_none_of X G z_len,W.mg_none_of X G z_range,W.mg_none_of X G z_tuple,W.mg_none_of X G z_bool,W.mg_none_of X G z_isinstance,W.mg_none_of X G z_reversed,W.mg_none_of X G z_max,W.mg_none_of X G z_zip,W.mg_none_of X G z_list,W.mg_none_of X G z_str,W.mg_none_of X G z_enumerate,W.mg_none_of X G z_dict,W.mg_none_of X G z_sum,W.mg_none_of X G z_int,W.mg_none_of X G z_min,W.mg_none_of X G z_sorted,W.mg_none_of X G z_all,W.mg_none_of X G z_set,W.mg_none_of X G z_repr,W.mg_none_of X G z_any⟩
 have e_FORMS_0:∀ (S:Addr->Prop) (H:Hp),AtD K H S (.tuple [.str "name",.int 0]) (.ref p_FORMS_0):=a5h (vs:=[.str "name",.int 0]) l_FORMS_0 rfl rfl (by show 2 <= sizeLine;decide) (.cons ⟨_,rfl⟩ (.cons ⟨_,rfl⟩ .nil)) (fun S H=>by simp [a0b,AtD])
 have e_FORMS_1:∀ (S:Addr->Prop) (H:Hp),AtD K H S (.tuple [.str "name",.int 0]) (.ref p_FORMS_1):=a5h (vs:=[.str "name",.int 0]) l_FORMS_1 rfl rfl (by show 2 <= sizeLine;decide) (.cons ⟨_,rfl⟩ (.cons ⟨_,rfl⟩ .nil)) (fun S H=>by simp [a0b,AtD])
 have e_FORMS_2:∀ (S:Addr->Prop) (H:Hp),AtD K H S (.tuple [.str "",.int 1]) (.ref p_FORMS_2):=a5h (vs:=[.str "",.int 1]) l_FORMS_2 rfl rfl (by show 2 <= sizeLine;decide) (.cons ⟨_,rfl⟩ (.cons ⟨_,rfl⟩ .nil)) (fun S H=>by simp [a0b,AtD])
 have e_FORMS_3:∀ (S:Addr->Prop) (H:Hp),AtD K H S (.tuple [.str "",.int 2]) (.ref p_FORMS_3):=a5h (vs:=[.str "",.int 2]) l_FORMS_3 rfl rfl (by show 2 <= sizeLine;decide) (.cons ⟨_,rfl⟩ (.cons ⟨_,rfl⟩ .nil)) (fun S H=>by simp [a0b,AtD])
 have e_FORMS_4:∀ (S:Addr->Prop) (H:Hp),AtD K H S (.tuple [.str "",.int 2]) (.ref p_FORMS_4):=a5h (vs:=[.str "",.int 2]) l_FORMS_4 rfl rfl (by show 2 <= sizeLine;decide) (.cons ⟨_,rfl⟩ (.cons ⟨_,rfl⟩ .nil)) (fun S H=>by simp [a0b,AtD])
 have e_FORMS_5:∀ (S:Addr->Prop) (H:Hp),AtD K H S (.tuple [.str "step",.int 1]) (.ref p_FORMS_5):=a5h (vs:=[.str "step",.int 1]) l_FORMS_5 rfl rfl (by show 2 <= sizeLine;decide) (.cons ⟨_,rfl⟩ (.cons ⟨_,rfl⟩ .nil)) (fun S H=>by simp [a0b,AtD])
 have e_FORMS_6:∀ (S:Addr->Prop) (H:Hp),AtD K H S (.tuple [.str "step",.int 1]) (.ref p_FORMS_6):=a5h (vs:=[.str "step",.int 1]) l_FORMS_6 rfl rfl (by show 2 <= sizeLine;decide) (.cons ⟨_,rfl⟩ (.cons ⟨_,rfl⟩ .nil)) (fun S H=>by simp [a0b,AtD])
 have e_FORMS_7:∀ (S:Addr->Prop) (H:Hp),AtD K H S (.tuple [.str "name",.int 1]) (.ref p_FORMS_7):=a5h (vs:=[.str "name",.int 1]) l_FORMS_7 rfl rfl (by show 2 <= sizeLine;decide) (.cons ⟨_,rfl⟩ (.cons ⟨_,rfl⟩ .nil)) (fun S H=>by simp [a0b,AtD])
 have e_FORMS_8:∀ (S:Addr->Prop) (H:Hp),AtD K H S (.tuple [.str "name",.int 1]) (.ref p_FORMS_8):=a5h (vs:=[.str "name",.int 1]) l_FORMS_8 rfl rfl (by show 2 <= sizeLine;decide) (.cons ⟨_,rfl⟩ (.cons ⟨_,rfl⟩ .nil)) (fun S H=>by simp [a0b,AtD])
 have e_FORMS_9:∀ (S:Addr->Prop) (H:Hp),AtD K H S (.tuple [.str "hands",.int 2]) (.ref p_FORMS_9):=a5h (vs:=[.str "hands",.int 2]) l_FORMS_9 rfl rfl (by show 2 <= sizeLine;decide) (.cons ⟨_,rfl⟩ (.cons ⟨_,rfl⟩ .nil)) (fun S H=>by simp [a0b,AtD])
 have tw_FORMS:∃ (a:Addr) (kvs:List (Str × V)),mg "FORMS" = some (.ref a)/\KDict K w a kvs/\(a == sysModules)=false/\kvs.length <= 1000/\∀ (S:Addr->Prop) (H:Hp),a0s K H S ((b1r.map kQ).map kD) (kvs.map kR):=⟨aT_FORMS,[("fact",.ref p_FORMS_0),("wish",.ref p_FORMS_1),("not",.ref p_FORMS_2),("and",.ref p_FORMS_3),("or",.ref p_FORMS_4),("some",.ref p_FORMS_5),("every",.ref p_FORMS_6),("least",.ref p_FORMS_7),("most",.ref p_FORMS_8),("show",.ref p_FORMS_9)],W.mg_of X G a_FORMS,⟨show(["fact","wish","not","and","or","some","every","least","most","show"]:List Str).Nodup by decide +kernel,_,_,l_FORMS,(.cons (by rfl) (.cons (by rfl) (.cons (by rfl) (.cons (by rfl) (.cons (by rfl) (.cons (by rfl) (.cons (by rfl) (.cons (by rfl) (.cons (by rfl) (.cons (by rfl) .nil))))))))))⟩,sy_FORMS,(by show 10 <= 1000;decide),fun S H=>(.cons (k:=Sum.inr "fact") (e_FORMS_0 S H) (.cons (k:=Sum.inr "wish") (e_FORMS_1 S H) (.cons (k:=Sum.inr "not") (e_FORMS_2 S H) (.cons (k:=Sum.inr "and") (e_FORMS_3 S H) (.cons (k:=Sum.inr "or") (e_FORMS_4 S H) (.cons (k:=Sum.inr "some") (e_FORMS_5 S H) (.cons (k:=Sum.inr "every") (e_FORMS_6 S H) (.cons (k:=Sum.inr "least") (e_FORMS_7 S H) (.cons (k:=Sum.inr "most") (e_FORMS_8 S H) (.cons (k:=Sum.inr "show") (e_FORMS_9 S H) .nil))))))))))⟩
 have m_LONGEST_NAME:∃ t,mg "LONGEST_NAME" = some (.int 8 t):=⟨_,W.mg_of X G a_LONGEST_NAME⟩
 have m_MOST_HANDS:∃ t,mg "MOST_HANDS" = some (.int 4 t):=⟨_,W.mg_of X G a_MOST_HANDS⟩
 have m_MOST_THINGS:∃ t,mg "MOST_THINGS" = some (.int 60 t):=⟨_,W.mg_of X G a_MOST_THINGS⟩
 have m_MOST_BINDERS:∃ t,mg "MOST_BINDERS" = some (.int 4 t):=⟨_,W.mg_of X G a_MOST_BINDERS⟩
 have m_MOST_SHOWS:∃ t,mg "MOST_SHOWS" = some (.int 3 t):=⟨_,W.mg_of X G a_MOST_SHOWS⟩
 refine⟨W.fnOf "law" "law" (a2l a8d) (a1t a8d) (a0e a8d) .none kV_law dc_law pm_law an_law cd_law ct_law,fun s v=>.of_eq rfl,fun base _ _ bm=>?_⟩
 have gn:FnOk P w K mg base CX0 3 c5s _ _ _:=d7u b5i B a3g b0u
 have gH:FnOk P w K mg base CX0 4 c1u _ _ (spD K b2g):=d2b b2z B a0x gn
 have gS:FnOk P w K mg base CX0 5 c5u _ _ (spD K c0j):=d7v b5j B a0x (gn.mono (by decide:3 <= 4)) a4d gH
 have gL:FnOk P w K mg base CX0 4 c5w _ _ (spD K b5b):=d7w b5k B a0x gn
 have gA:∀ m,FnOk P w K mg base CX0 (m + 5) b6s _ _ (spD K (b8f m)):=fun m=>by
  induction m with
  | zero=>exact b6a fun ls Q h=>by obtain⟨_,size,_,_,_,_,h1,h2,_⟩:=h;omega
  | succ m ih=>exact c1k b0e B a0x a4d b0v b0w a1i (gn.mono (by omega)) (gH.mono (by omega)) (gS.mono (by omega)) (gL.mono (by omega)) ih
 have gN:FnOk P w K mg base CX0 1 f_is_name _ _ (spD K a9a):=c5j F_is_name B m_LONGEST_NAME
 have gR:FnOk P w K mg base CX0 2 f_are_rising_names _ _ (spD K c0l):=d8a F_are_rising_names B d_is_name gN
 have gI:FnOk P w K mg base CX0 3 f_is_hands _ _ (spD K a9g):=c1m F_is_hands B m_MOST_HANDS d_are_rising_names gR
 have gB:FnOk P w K mg base CX0 1 f_is_binder _ _ (spD K b8h):=c0q F_is_binder B
 have gU:FnOk P w K mg base CX0 2 f_names_bound _ _ (spD K b2h):=d2f F_names_bound B d_is_binder gB
 have gW:FnOk P w K mg base CX0 2 f_may_wish _ _ (spD K b6g):=d2g F_may_wish B d_is_binder gB
 have gG:FnOk P w K mg base CX0 3 f_may_begin _ _ (spD K b2j):=d2h F_may_begin B m_MOST_BINDERS m_MOST_SHOWS d_names_bound gU
 have gK:FnOk P w K mg base CX0 3 f_may_take _ _ (spD K b5d):=d8c F_may_take B d_names_bound gU d_may_wish gW
 have gD:FnOk P w K mg base CX0 1 f_hands_in _ _ (spD K a9i):=c1p F_hands_in B
 have g1:FnOk P w K mg base CX0 1 f_winit _ _ (b6i C_Words):=d2k F_winit T_Words
 have g2:FnOk P w K mg base CX0 1 f_over _ _ (b5e C_Words):=d8f F_over B T_Words
 have g3:FnOk P w K mg base CX0 5 f_taken _ _ (b0c P w K mg base 4 C_Words):=d2l F_taken T_Words m_over b_over (g2.mono (by decide:1 <= 3))
 have g4:FnOk P w K mg base CX0 3 f_wfin _ _ (c0s C_Words):=d8g F_wfin T_Words m_over b_over g2
 have g5:FnOk P w K mg base CX0 6 f_rhands _ _ (b3m K C_Words C_Reading):=c9a F_rhands B T_Words T_Reading bm hc_rhands hC_rhands m_taken b_taken g3 d_hands_in (gD.mono (by decide:1 <= 3)) d_is_hands gI
 have g6:FnOk P w K mg base CX0 7 f_rtaken _ _ (b3n K C_Words C_Reading):=c9b F_rtaken B T_Words T_Reading bm hc_rtaken hC_rtaken m_taken b_taken g3 m_rhands b_rhands g5 d_is_name (gN.mono (by decide:1 <= 3)) d_may_take gK
 have g7:∀ m,FnOk P w K mg base CX0 (m + 7) f_rthing _ _ (b0y K C_Words C_Reading m):=fun m=>by
  induction m with
  | zero=>exact⟨fun vs H Q E h=>by obtain⟨_,_,_,_,_,_,_,_,_,_,a,_,_,_,_,_,_,_,_,_,_,h0,_⟩:=h;exact absurd h0 (by have:=a8i a;omega),fun A outer s H args us vs Q E _ _ _ _ h=>by obtain⟨_,_,_,_,_,_,_,_,_,_,a,_,_,_,_,_,_,_,_,_,_,h0,_⟩:=h;exact absurd h0 (by have:=a8i a;omega)⟩
  | succ m ih=>exact c9c (n:=3) (by omega:3 + 4 <= m + 7) F_rthing B T_Words T_Reading bm hc_rthing hC_rthing m_taken b_taken g3 m_rtaken b_rtaken g6 d_may_begin gG m_rthing b_rthing ih
 have g8:FnOk P w K mg base CX0 66 f_rinit _ _ (b6q C_Words C_Reading):=d2u F_rinit T_Words T_Reading M_Words b_winit (g1.mono (by decide:1 <= 64))
 have g9:FnOk P w K mg base CX0 68 f_read_by _ _ (b3o K):=c5m F_read_by T_Words T_Reading M_Reading b_rinit g8 m_rthing b_rthing (g7 60) m_wfin b_wfin (g4.mono (by decide:3 <= 67))
 have i1:FnOk P w K mg base CX0 69 f_read_sentence _ _ (spD K b6r):=b3r F_read_sentence B tw_FORMS m_MOST_THINGS d_read_by g9
 have i2:FnOk P w K mg base CX0 1 f_shown_taken _ _ (spD K b3l):=b6p F_shown_taken B
 have i3:FnOk P w K mg base CX0 2 f_written _ _ (spD K b1u):=c5l F_written B d_shown_taken i2
 have i4:FnOk P w K mg base CX0 3 f_shown_sentence _ _ (spD K b3p):=b2o F_shown_sentence B tw_FORMS d_written i3
 have i5:FnOk P w K mg base CX0 1 b3u _ _ (spD K b6k):=d2m a9c B
 have i6:∀ m,FnOk P w K mg base CX0 (m + 1) c6c _ _ (spD K (b5f m)):=fun m=>by
  induction m with
  | zero=>exact b6a fun ls Q h=>by obtain⟨a,_,h0,_⟩:=h;have:=a8i a;omega
  | succ m ih=>exact d8j b5n B a5p (i5.mono (by omega:1 <= m + 1)) a2a ih
 have i7:FnOk P w K mg base CX0 1 c5y _ _ (spD K c1c):=d8q b5l B
 have i8:∀ m,FnOk P w K mg base CX0 (m + 1) c6a _ _ (spD K (b5g m)):=fun m=>by
  induction m with
  | zero=>exact b6a fun ls Q h=>by obtain⟨a,_,h0,_⟩:=h;exact h0
  | succ m ih=>exact d8r b5m B a8b (i7.mono (by omega:1 <= m + 1)) a3u ih
 exact e4d F_law B a0x (gn.mono (by decide:3 <= 99)) a1i ((gA 40).mono (by decide:45 <= 99)) a2a ((i6 60).mono (by decide:61 <= 99)) a3u ((i8 63).mono (by decide:64 <= 99)) d_shown_sentence (i4.mono (by decide:3 <= 99)) d_read_sentence (i1.mono (by decide:69 <= 99))
end K10
namespace PySem.W.Fast
def tw11923278460166937590:=()
def tw18271464832364092503:=()
def tw8140101346933186442:=()
def tw14588177694461698949:=PySem.Challenge.pw_worldsay_k10_sentences_written_and_read
theorem te14588177694461698949:PySem.Challenge.pw_worldsay_k10_sentences_written_and_read=tw14588177694461698949:=rfl
def tw1076748894499724242:=()
def tw1916348519345775710:=()
def tw14335530953026371300:=()
def tw7483966124467877613:=()
def tw2340076092700544887:=()
def tw4406446140427901015:=()
def tw5940932746722506505:=()
def tw4546497590902002109:=()
def tw11430395473173789718:=()
def tw14046813578707753365:=()
def tw16411296418848034100:=()
def tw3223275572941631510:=()
def tw7407566019864305052:=()
def tw6290650104692035163:=()
def tw6422842495601994971:=()
def tw4672202668964954577:=()
def tw14903424995118986882:=()
def tw16292578799648139301:=()
def tw1298172780466903515:=()
def tw6305089522390998497:=()
def tw7135330944236279762:=()
def tw6878911804512297743:=()
def tw10048574826374301505:=()
def tw15197357944695624073:=()
def tw2823932883859046163:=()
def tw6698120114825647656:=()
def tw1869221336640932122:=()
def tw11050510527270545573:=()
def tw7163308483200762530:=()
def tw8379830132414872732:=()
def tw8086822980629206852:=()
def tw6396091946931553973:=()
def tw18142689432705543452:=()
def tw5440727080146879195:=()
def tw8252264439239913436:=()
def tw14572621081314301122:=()
def tw12109186600832826827:=()
def tw6035036792092949207:=()
def tw16469416873712274849:=()
def tw17775962033406470699:=()
def tw12640757057859395693:=()
def tw13426793093411850883:=()
def tw15385347339099232239:=()
def tw11751722030514682988:=()
def tw6835647280076470732:=()
def tw17877623205398268951:=()
def tw14075428069468131421:=()
def tw3822915432989674484:=()
def tw9858388960368788180:=()
def tw2820766522968360691:=()
def tw6963698633124270355:=()
def tw8511229048298368289:=()
def tw17356514822278907380:=()
def tw11663936721646174370:=()
def tw4156714763034631726:=()
def tw14609502059864361543:=()
def tw7766846039805666362:=()
def tw9109293207899515700:=()
def tw3537385893132103193:=()
def tw5068470586554850962:=()
def tw806333982458284117:=()
def tw11650208633299299059:=()
def tw5759746777128496656:=()
def tw10487995064833339173:=()
def tw326233151812683673:=()
def tw8143456660317784857:=()
def tw9205265038745577155:=()
def tw13738021526868760406:=()
def tw12540147599122989953:=()
def tw11570732395070158867:=()
def tw5796489086675627232:=()
def tw6633291168581904523:=()
def tw12947151294881401073:=()
def tw2388775438360349911:=()
def tw8832488848296684801:=()
def tw139503008076339613:=()
def tw17383884071340792475:=()
def tw17122230681173449172:=()
def tw14768966782300927844:=()
def tw18438698355971886823:=()
def tw6523839381777350700:=()
def tw1679164761942080897:=()
def tw14446467049344365141:=()
def tw463730507641407198:=()
def tw14849848349486265814:=()
def tw1242643149081599719:=()
def tw2781187668155648202:=()
def tw10171178424648844459:=()
def tw16694197728149230259:=()
def tw13029966409046784872:=()
def tw525800388290532739:=()
def tw957315079217548881:=()
def tw7131314796551671631:=()
def tw3086733802758306281:=()
def tw313271161215063415:=()
def tw15167694706878815658:=()
end PySem.W.Fast
open PySem PySem.W PyProof.Rows
set_option maxRecDepth 100000 in
set_option maxHeartbeats 0 in
theorem PySem.Challenge.cw_worldsay_k10_sentences_written_and_read_holds : PySem.Challenge.rw_worldsay_k10_sentences_written_and_read.Holds := by
 w_on;o_law;k_head;(case hw=>w_witness2)
 k_fill
 refine L2.d1s (tl:=[(204,200,"Reading.read_thing.<locals>.<lambda>"),(211,207,"Reading.read_taken.<locals>.<lambda>"),(218,214,"Reading.read_hands.<locals>.<lambda>")]) (l:=PySem.Challenge.rw_worldsay_k10_sentences_written_and_read) (n:=63) (k:=100) (x:="_law_script") (CX:=fun _=>L2.CX0) (sp:=fun w=>L2.b8a (_:PySem.W.Frag)) rfl (by decide) rfl ⟨rfl,by decide,by decide,rfl⟩ (fun w h Y=>⟨PySem.W.km_in_of Y,fun p hp=>PySem.W.km_tabs_of Y _ (by revert p;decide)⟩) (fun w=>by rfl) (by decide) (fun w=>by rfl) ?F (fun w H a ns hl hO hS=>⟨a,ns,rfl,hS,hO,hl,fun _=>rfl⟩) (fun _ _ _ _ _ z=>z)
 case F =>
  intro w mg fa h KX G hmg
  refine' K10.e4e KX G hmg ?h_is_name ?h_are_rising_names ?h_is_hands ?h_is_binder ?h_may_begin ?h_may_take ?h_may_wish ?h_names_bound ?h_shown_sentence ?h_read_sentence ?h_written ?h_shown_taken ?h_read_by ?h_hands_in ?h_law_cell_at ?h_law_by ?h_law_next ?h_law_hands ?h_law_step ?h_law_leaf ?h_law_sentence ?h_law_kind ?h_law_same ?h_law_step_words ?h_law_text ?a_law ?l_law ?c_law ?k_law ?aC_Words ?a_winit ?i_winit ?l_winit ?c_winit ?k_winit ?a_taken ?i_taken ?l_taken ?c_taken ?k_taken ?a_over ?i_over ?l_over ?c_over ?k_over ?a_wfin ?i_wfin ?l_wfin ?c_wfin ?k_wfin ?pg_Words ?hd_Words ?po_Words ?sa_Words ?mk_Words ?kc_Words ?n_Words_row ?n_Words_words ?n_Words_place ?aC_Reading ?a_rinit ?i_rinit ?l_rinit ?c_rinit ?k_rinit ?a_rthing ?i_rthing ?l_rthing ?c_rthing ?k_rthing ?hc_rthing ?hC_rthing ?a_rtaken ?i_rtaken ?l_rtaken ?c_rtaken ?k_rtaken ?hc_rtaken ?hC_rtaken ?a_rhands ?i_rhands ?l_rhands ?c_rhands ?k_rhands ?hc_rhands ?hC_rhands ?pg_Reading ?hd_Reading ?po_Reading ?sa_Reading ?mk_Reading ?kc_Reading ?n_Reading_words ?n_Reading_forms ?n_Reading_left ?z_len ?z_range ?z_tuple ?z_bool ?z_isinstance ?z_reversed ?z_max ?z_zip ?z_list ?z_str ?z_enumerate ?z_dict ?z_sum ?z_int ?z_min ?z_sorted ?z_all ?z_set ?z_repr ?z_any ?a_FORMS ?l_FORMS ?l_FORMS_0 ?l_FORMS_1 ?l_FORMS_2 ?l_FORMS_3 ?l_FORMS_4 ?l_FORMS_5 ?l_FORMS_6 ?l_FORMS_7 ?l_FORMS_8 ?l_FORMS_9 ?sy_FORMS ?a_LONGEST_NAME ?a_MOST_HANDS ?a_MOST_THINGS ?a_MOST_BINDERS ?a_MOST_SHOWS
  (case h_is_name=>refine' K10.a2o ?h_is_namea ?h_is_namel ?h_is_namec ?h_is_namek rfl (fun _ _ _ _ _ _ _  => rfl);(case h_is_namea=>k_is);(case h_is_namel=>k_is);(case h_is_namec=>k_is);(case h_is_namek=>k_is))
  (case h_are_rising_names=>refine' K10.a2o ?h_are_rising_namesa ?h_are_rising_namesl ?h_are_rising_namesc ?h_are_rising_namesk rfl (fun _ _ _ _ _ _ _  => rfl);(case h_are_rising_namesa=>k_is);(case h_are_rising_namesl=>k_is);(case h_are_rising_namesc=>k_is);(case h_are_rising_namesk=>k_is))
  (case h_is_hands=>refine' K10.a2o ?h_is_handsa ?h_is_handsl ?h_is_handsc ?h_is_handsk rfl (fun _ _ _ _ _ _ _  => rfl);(case h_is_handsa=>k_is);(case h_is_handsl=>k_is);(case h_is_handsc=>k_is);(case h_is_handsk=>k_is))
  (case h_is_binder=>refine' K10.a2o ?h_is_bindera ?h_is_binderl ?h_is_binderc ?h_is_binderk rfl (fun _ _ _ _ _ _ _  => rfl);(case h_is_bindera=>k_is);(case h_is_binderl=>k_is);(case h_is_binderc=>k_is);(case h_is_binderk=>k_is))
  (case h_may_begin=>refine' K10.a4x ?h_may_begina ?h_may_beginl ?h_may_beginc ?h_may_begink rfl (fun _ _ _ _ _ _ _ _  => rfl);(case h_may_begina=>k_is);(case h_may_beginl=>k_is);(case h_may_beginc=>k_is);(case h_may_begink=>k_is))
  (case h_may_take=>refine' K10.b3t ?h_may_takea ?h_may_takel ?h_may_takec ?h_may_takek rfl (fun _ _ _ _ _ _ _ _ _  => rfl);(case h_may_takea=>k_is);(case h_may_takel=>k_is);(case h_may_takec=>k_is);(case h_may_takek=>k_is))
  (case h_may_wish=>refine' K10.a4x ?h_may_wisha ?h_may_wishl ?h_may_wishc ?h_may_wishk rfl (fun _ _ _ _ _ _ _ _  => rfl);(case h_may_wisha=>k_is);(case h_may_wishl=>k_is);(case h_may_wishc=>k_is);(case h_may_wishk=>k_is))
  (case h_names_bound=>refine' K10.a2o ?h_names_bounda ?h_names_boundl ?h_names_boundc ?h_names_boundk rfl (fun _ _ _ _ _ _ _  => rfl);(case h_names_bounda=>k_is);(case h_names_boundl=>k_is);(case h_names_boundc=>k_is);(case h_names_boundk=>k_is))
  (case h_shown_sentence=>refine' K10.a2o ?h_shown_sentencea ?h_shown_sentencel ?h_shown_sentencec ?h_shown_sentencek rfl (fun _ _ _ _ _ _ _  => rfl);(case h_shown_sentencea=>k_is);(case h_shown_sentencel=>k_is);(case h_shown_sentencec=>k_is);(case h_shown_sentencek=>k_is))
  (case h_read_sentence=>refine' K10.a2o ?h_read_sentencea ?h_read_sentencel ?h_read_sentencec ?h_read_sentencek rfl (fun _ _ _ _ _ _ _  => rfl);(case h_read_sentencea=>k_is);(case h_read_sentencel=>k_is);(case h_read_sentencec=>k_is);(case h_read_sentencek=>k_is))
  (case h_written=>refine' K10.a4x ?h_writtena ?h_writtenl ?h_writtenc ?h_writtenk rfl (fun _ _ _ _ _ _ _ _  => rfl);(case h_writtena=>k_is);(case h_writtenl=>k_is);(case h_writtenc=>k_is);(case h_writtenk=>k_is))
  (case h_shown_taken=>refine' K10.a4x ?h_shown_takena ?h_shown_takenl ?h_shown_takenc ?h_shown_takenk rfl (fun _ _ _ _ _ _ _ _  => rfl);(case h_shown_takena=>k_is);(case h_shown_takenl=>k_is);(case h_shown_takenc=>k_is);(case h_shown_takenk=>k_is))
  (case h_read_by=>refine' K10.b3t ?h_read_bya ?h_read_byl ?h_read_byc ?h_read_byk rfl (fun _ _ _ _ _ _ _ _ _  => rfl);(case h_read_bya=>k_is);(case h_read_byl=>k_is);(case h_read_byc=>k_is);(case h_read_byk=>k_is))
  (case h_hands_in=>refine' K10.a2o ?h_hands_ina ?h_hands_inl ?h_hands_inc ?h_hands_ink rfl (fun _ _ _ _ _ _ _  => rfl);(case h_hands_ina=>k_is);(case h_hands_inl=>k_is);(case h_hands_inc=>k_is);(case h_hands_ink=>k_is))
  (case h_law_cell_at=>refine' K10.a4x ?h_law_cell_ata ?h_law_cell_atl ?h_law_cell_atc ?h_law_cell_atk rfl (fun _ _ _ _ _ _ _ _  => rfl);(case h_law_cell_ata=>k_is);(case h_law_cell_atl=>k_is);(case h_law_cell_atc=>k_is);(case h_law_cell_atk=>k_is))
  (case h_law_by=>refine' K10.b3t ?h_law_bya ?h_law_byl ?h_law_byc ?h_law_byk rfl (fun _ _ _ _ _ _ _ _ _  => rfl);(case h_law_bya=>k_is);(case h_law_byl=>k_is);(case h_law_byc=>k_is);(case h_law_byk=>k_is))
  (case h_law_next=>refine' K10.a4x ?h_law_nexta ?h_law_nextl ?h_law_nextc ?h_law_nextk rfl (fun _ _ _ _ _ _ _ _  => rfl);(case h_law_nexta=>k_is);(case h_law_nextl=>k_is);(case h_law_nextc=>k_is);(case h_law_nextk=>k_is))
  (case h_law_hands=>refine' K10.a2o ?h_law_handsa ?h_law_handsl ?h_law_handsc ?h_law_handsk rfl (fun _ _ _ _ _ _ _  => rfl);(case h_law_handsa=>k_is);(case h_law_handsl=>k_is);(case h_law_handsc=>k_is);(case h_law_handsk=>k_is))
  (case h_law_step=>refine' K10.a2o ?h_law_stepa ?h_law_stepl ?h_law_stepc ?h_law_stepk rfl (fun _ _ _ _ _ _ _  => rfl);(case h_law_stepa=>k_is);(case h_law_stepl=>k_is);(case h_law_stepc=>k_is);(case h_law_stepk=>k_is))
  (case h_law_leaf=>refine' K10.a4x ?h_law_leafa ?h_law_leafl ?h_law_leafc ?h_law_leafk rfl (fun _ _ _ _ _ _ _ _  => rfl);(case h_law_leafa=>k_is);(case h_law_leafl=>k_is);(case h_law_leafc=>k_is);(case h_law_leafk=>k_is))
  (case h_law_sentence=>refine' K10.d2x ?h_law_sentencea ?h_law_sentencel ?h_law_sentencec ?h_law_sentencek rfl (fun _ _ _ _ _ _ _ _ _ _ _  => rfl);(case h_law_sentencea=>k_is);(case h_law_sentencel=>k_is);(case h_law_sentencec=>k_is);(case h_law_sentencek=>k_is))
  (case h_law_kind=>refine' K10.a2o ?h_law_kinda ?h_law_kindl ?h_law_kindc ?h_law_kindk rfl (fun _ _ _ _ _ _ _  => rfl);(case h_law_kinda=>k_is);(case h_law_kindl=>k_is);(case h_law_kindc=>k_is);(case h_law_kindk=>k_is))
  (case h_law_same=>refine' K10.a4x ?h_law_samea ?h_law_samel ?h_law_samec ?h_law_samek rfl (fun _ _ _ _ _ _ _ _  => rfl);(case h_law_samea=>k_is);(case h_law_samel=>k_is);(case h_law_samec=>k_is);(case h_law_samek=>k_is))
  (case h_law_step_words=>refine' K10.a2o ?h_law_step_wordsa ?h_law_step_wordsl ?h_law_step_wordsc ?h_law_step_wordsk rfl (fun _ _ _ _ _ _ _  => rfl);(case h_law_step_wordsa=>k_is);(case h_law_step_wordsl=>k_is);(case h_law_step_wordsc=>k_is);(case h_law_step_wordsk=>k_is))
  (case h_law_text=>refine' K10.a2o ?h_law_texta ?h_law_textl ?h_law_textc ?h_law_textk rfl (fun _ _ _ _ _ _ _  => rfl);(case h_law_texta=>k_is);(case h_law_textl=>k_is);(case h_law_textc=>k_is);(case h_law_textk=>k_is))
  (case a_law=>k_is)
  (case l_law=>k_is)
  (case c_law=>k_is)
  (case k_law=>k_is)
  (case aC_Words=>k_is)
  (case a_winit=>k_is)
  (case i_winit=>k_is)
  (case l_winit=>k_is)
  (case c_winit=>k_is)
  (case k_winit=>k_is)
  (case a_taken=>k_is)
  (case i_taken=>k_is)
  (case l_taken=>k_is)
  (case c_taken=>k_is)
  (case k_taken=>k_is)
  (case a_over=>k_is)
  (case i_over=>k_is)
  (case l_over=>k_is)
  (case c_over=>k_is)
  (case k_over=>k_is)
  (case a_wfin=>k_is)
  (case i_wfin=>k_is)
  (case l_wfin=>k_is)
  (case c_wfin=>k_is)
  (case k_wfin=>k_is)
  (case pg_Words=>k_is)
  (case hd_Words=>k_is)
  (case po_Words=>k_is)
  (case sa_Words=>k_is)
  (case mk_Words=>k_is)
  (case kc_Words=>k_is)
  (case n_Words_row=>k_is)
  (case n_Words_words=>k_is)
  (case n_Words_place=>k_is)
  (case aC_Reading=>k_is)
  (case a_rinit=>k_is)
  (case i_rinit=>k_is)
  (case l_rinit=>k_is)
  (case c_rinit=>k_is)
  (case k_rinit=>k_is)
  (case a_rthing=>k_is)
  (case i_rthing=>k_is)
  (case l_rthing=>k_is)
  (case c_rthing=>k_is)
  (case k_rthing=>k_is)
  (case hc_rthing=>rfl)
  (case hC_rthing=>first | rfl | decide)
  (case a_rtaken=>k_is)
  (case i_rtaken=>k_is)
  (case l_rtaken=>k_is)
  (case c_rtaken=>k_is)
  (case k_rtaken=>k_is)
  (case hc_rtaken=>rfl)
  (case hC_rtaken=>first | rfl | decide)
  (case a_rhands=>k_is)
  (case i_rhands=>k_is)
  (case l_rhands=>k_is)
  (case c_rhands=>k_is)
  (case k_rhands=>k_is)
  (case hc_rhands=>rfl)
  (case hC_rhands=>first | rfl | decide)
  (case pg_Reading=>k_is)
  (case hd_Reading=>k_is)
  (case po_Reading=>k_is)
  (case sa_Reading=>k_is)
  (case mk_Reading=>k_is)
  (case kc_Reading=>k_is)
  (case n_Reading_words=>k_is)
  (case n_Reading_forms=>k_is)
  (case n_Reading_left=>k_is)
  (case z_len=>k_is)
  (case z_range=>k_is)
  (case z_tuple=>k_is)
  (case z_bool=>k_is)
  (case z_isinstance=>k_is)
  (case z_reversed=>k_is)
  (case z_max=>k_is)
  (case z_zip=>k_is)
  (case z_list=>k_is)
  (case z_str=>k_is)
  (case z_enumerate=>k_is)
  (case z_dict=>k_is)
  (case z_sum=>k_is)
  (case z_int=>k_is)
  (case z_min=>k_is)
  (case z_sorted=>k_is)
  (case z_all=>k_is)
  (case z_set=>k_is)
  (case z_repr=>k_is)
  (case z_any=>k_is)
  (case a_FORMS=>k_is)
  (case l_FORMS=>k_is)
  (case l_FORMS_0=>k_is)
  (case l_FORMS_1=>k_is)
  (case l_FORMS_2=>k_is)
  (case l_FORMS_3=>k_is)
  (case l_FORMS_4=>k_is)
  (case l_FORMS_5=>k_is)
  (case l_FORMS_6=>k_is)
  (case l_FORMS_7=>k_is)
  (case l_FORMS_8=>k_is)
  (case l_FORMS_9=>k_is)
  (case sy_FORMS=>first | decide | rfl | k_is)
  (case a_LONGEST_NAME=>k_is)
  (case a_MOST_HANDS=>k_is)
  (case a_MOST_THINGS=>k_is)
  (case a_MOST_BINDERS=>k_is)
  (case a_MOST_SHOWS=>k_is)
end
end
