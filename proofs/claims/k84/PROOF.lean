import PyProof.Rows.All
import Wide.All
import OpenK.AllK
import Wide.FinOn
import Lean
import PyProof.EqAt
import PyProof.EqKinds
import PyProof.TupleCall
import PyProof.SetKind
import PyProof.SetNew
import PyProof.SetRoads
import PyProof.CollectIter
import PyProof.WalksMore
import PyProof.MakeMany
import PyProof.ZipIter
import PyProof.EnumMake
import PyProof.EnumFor
import KE.KDictOf
import KE.KEqDict
import PyProof.Rows.SortWalk
import PyProof.Rows.SortStr
import PyProof.ConsumeWalk
import KE.KItemsList
import PyProof.StrCalls
import PyProof.StrCaseBound
import PyProof.SetScanFacts
import KE.KSortTup
import PyProof.Rows.SortShellK
import PyProof.ReprRoads
import PyProof.ReprLen
import PyProof.CallFns
import KE.KIntText
import PyProof.Rows.StrWeight2
import PyProof.Rows.StrSplitAre
import PyProof.Rows.StrKeys3
import PyProof.ListRange
import PyProof.StrWalks
import PyProof.StrBlockI
import PyProof.SliceStr2
import PyProof.StrLawsIn
import OpenK.KOwn
import PyProof.NsDelKeeps
import KE.KIsAll
import PyProof.ExcArgsOwn
import PyProof.Ascii
import PyProof.P3Eq
import PyProof.TupleKey
import PySem.Challenge.RW_worldsay_k84_papers_written
open List (all_eq_true all_map append_nil filterMap_cons getElem?_append_right getElem?_eq_getElem getElem?_map getElem?_set_ne getElem?_set_self getElem_mem length_append length_cons length_map length_replicate length_set length_take lookup_cons map_append map_cons map_map map_nil mem_append mem_append_left mem_append_right mem_cons mem_cons_of_mem mem_cons_self mem_filterMap mem_map mem_of_getElem? mem_singleton nodup_cons of_mem_zip reverse_cons size_toArray sum_cons take_add_one take_length)
open PySem.Heap (get?_push_of_some get?_push_size lt_size size_push)
open Option (map_eq_some_iff map_some toList_some)
open Bool (and_eq_true)
open Array (toList_append)
open Nat (le_of_lt le_refl le_succ le_trans lt_irrefl lt_of_lt_of_le ne_of_gt ne_of_lt zero_le)
open Int (emod_nonneg)
set_option Elab.async false
set_option linter.all false
set_option maxRecDepth 100000
set_option maxHeartbeats 4000000
noncomputable section
section
namespace L2
open PySem PySem.Spec PyProof.Rows
abbrev Key:=Sum Int Str
noncomputable def b3i:Key->Value->Bool
 | .inl k,v=>Value.isInt k v
 | .inr x,v=>Value.isStrOf x v
noncomputable def keyH(w:World):Key->Int
 | .inl k=>hashInt k
 | .inr x=>hashStr w x
theorem a1d:∀ {k:Key} {v:Value},b3i k v=true->(∃ i t,k=Sum.inl i/\v=Value.int i t) ∨ (∃ x t,k=Sum.inr x/\v=Value.str x t)
 | .inl i,v,h=>by
  obtain⟨t,e⟩:=Value.isInt_shape (k:=i) (v:=v) h
  exact .inl ⟨i,t,rfl,e⟩
 | .inr x,v,h=>by
  obtain⟨t,e⟩:=Value.isStrOf_shape (x:=x) (v:=v) h
  exact .inr ⟨x,t,rfl,e⟩
theorem d0b(a b:Int):decide ((Sum.inl a:Key)=Sum.inl b)=(a == b):=by
 by_cases e:a=b
 ·subst e;simp
 ·have h:¬ (Sum.inl a:Key)=Sum.inl b:=fun q=>e (Sum.inl.inj q)
  rw [decide_eq_false h]
  exact(beq_eq_false_iff_ne.mpr e).symm
theorem d0c(a b:Str):decide ((Sum.inr a:Key)=Sum.inr b)=decide (a=b):=by
 by_cases e:a=b
 ·subst e;simp
 ·have h:¬ (Sum.inr a:Key)=Sum.inr b:=fun q=>e (Sum.inr.inj q)
  rw [decide_eq_false h,decide_eq_false e]
theorem d0d(a:Int)(b:Str):decide ((Sum.inl a:Key)=Sum.inr b)=false:=decide_eq_false (fun q=>nomatch q)
theorem d0e(a:Str)(b:Int):decide ((Sum.inr a:Key)=Sum.inl b)=false:=decide_eq_false (fun q=>nomatch q)
noncomputable def a8y(prog:Program)(w:World):PySem.KeyKind prog w Key where
 is:=b3i
 hash:=keyH w
 inj:=fun v a b ha hb=>by
  rcases a1d ha with⟨i,t,rfl,rfl⟩ | ⟨x,t,rfl,rfl⟩
  ·rcases a1d hb with⟨j,u,rfl,e⟩ | ⟨y,u,rfl,e⟩
   ·injection e with e1 _;rw [e1]
   ·exact nomatch e
  ·rcases a1d hb with⟨j,u,rfl,e⟩ | ⟨y,u,rfl,e⟩
   ·exact nomatch e
   ·injection e with e1 _;rw [e1]
 byValue:=fun k v h=>by
  rcases a1d h with⟨i,t,rfl,rfl⟩ | ⟨x,t,rfl,rfl⟩<;>rfl
 pyHash:=fun hv h=>by
  rcases a1d hv with⟨i,t,rfl,rfl⟩ | ⟨x,t,rfl,rfl⟩
  ·exact wpAny_pyHash_int h
  ·exact wpAny_pyHash_str h
 eqBool:=fun hu hv h=>by
  rcases a1d hu with⟨i,t,rfl,rfl⟩ | ⟨x,t,rfl,rfl⟩
  ·rcases a1d hv with⟨j,u,rfl,rfl⟩ | ⟨y,u,rfl,rfl⟩
   ·rw [d0b] at h;exact wpAny_eqBool_int h
   ·rw [d0d] at h;exact SeqAt.EqAt.int_str i t y u _ _ _ _ h
  ·rcases a1d hv with⟨j,u,rfl,rfl⟩ | ⟨y,u,rfl,rfl⟩
   ·rw [d0e] at h;exact SeqAt.EqAt.str_int x t j u _ _ _ _ h
   ·rw [d0c] at h;exact wpAny_eqBool_str h
 «strs»:=fun k x t v h=>by
  rcases a1d h with⟨i,u,rfl,e⟩ | ⟨y,u,rfl,e⟩
  ·exact nomatch e
  ·injection e with e1 _
   subst e1
   cases v<;>rfl
end L2
namespace L2
open PySem PySem.Spec PyProof.Rows
inductive V where
 | non | bl (b:Bool) | int (i:Int) | str (x:Str) | byt (b:Array UInt8) | flt (b:UInt64) | ref (a:Addr) | ty (n:String)
 deriving DecidableEq
noncomputable def RelV:V->Value->Prop
 | .non,u=>u=Value.none
 | .bl b,u=>u=Value.bool b
 | .int i,u=>∃ t,u=Value.int i t
 | .str x,u=>∃ t,u=Value.str x t
 | .byt b,u=>∃ t,u=Value.bytes b t
 | .flt b,u=>∃ t,u=Value.float b t
 | .ref a,u=>u=Value.ref a
 | .ty n,u=>u=Value.type n
abbrev Vals:List V->List Value->Prop:=Paired RelV
theorem Vals.length{xs:List V}{us:List Value}(r:Vals xs us):xs.length=us.length:=Paired.length r
theorem Vals.get:∀ {xs:List V} {us:List Value} {i:Nat} {x:V},Vals xs us->xs[i]? = some x->∃ u,us[i]? = some u/\RelV x u
 | _,_,_,_,.nil,e=>by simp at e
 | _,_,0,_,.cons r _,e=>by simp at e;subst e;exact⟨_,rfl,r⟩
 | _,_,i + 1,x,.cons _ t,e=>by
  obtain⟨u,h1,h2⟩:=Vals.get (i:=i) (x:=x) t (by simpa using e)
  exact⟨u,by simpa using h1,h2⟩
theorem Vals.set{x:V}{u:Value}(r:RelV x u):∀ {xs:List V} {us:List Value} (i:Nat),Vals xs us->Vals (xs.set i x) (us.set i u)
 | _,_,_,.nil=>.nil
 | _,_,0,.cons _ t=>.cons r t
 | _,_,i + 1,.cons q t=>.cons q (Vals.set r i t)
theorem Vals.append:∀ {xs ys:List V} {us ws:List Value},Vals xs us->Vals ys ws->Vals (xs ++ ys) (us ++ ws)
 | _,_,_,_,.nil,s=>s
 | _,_,_,_,.cons r t,s=>.cons r (Vals.append t s)
theorem Vals.take:∀ {xs:List V} {us:List Value} (n:Nat),Vals xs us->Vals (xs.take n) (us.take n)
 | _,_,0,_=>.nil
 | _,_,_ + 1,.nil=>.nil
 | _,_,n + 1,.cons r t=>.cons r (Vals.take n t)
theorem Vals.drop:∀ {xs:List V} {us:List Value} (n:Nat),Vals xs us->Vals (xs.drop n) (us.drop n)
 | _,_,0,r=>r
 | _,_,_ + 1,.nil=>.nil
 | _,_,n + 1,.cons _ t=>Vals.drop n t
noncomputable def RelO:Option V->Option Value->Prop
 | some v,some u=>RelV v u
 | none,none=>True
 | _,_=>False
noncomputable def KV{κ:Type}:List (κ × V)->List (κ × Value)->Prop:=Paired fun(p:κ × V) (q:κ × Value)=>p.1=q.1/\RelV p.2 q.2
noncomputable def kV:Key->V
 | .inl i=>.int i
 | .inr x=>.str x
inductive HO where
 /-- a list -/
 | lst (xs:List V)
 /-- a tuple (never changes) -/
 | tup (xs:List V)
 /-- a dict whose keys are ints and texts; one whose keys are tuples of ints and texts (the empty one is both) -/
 | dK (kvs:List (Key × V)) | dT (kvs:List (List Key × V))
 /-- a set of ints: its members, its size -/
 | set (S:Int->Bool) (n:Nat)
 /-- an instance of the class at C, its dict at dx, its attributes -/
 | ins (C dx:Addr) (fs:List (Str × V))
 /-- the dict of the instance at x -/
 | own (x:Addr)
 /-- the dict of an exception -/
 | xd (fs:List (Str × V))
 /-- a bound method, f of x -/
 | met (f x:Addr)
 /-- a range object lo, lo + 1, .. below hi -/
 | rng (lo hi:Int)
 /-- a thing that is known to the object (the script; a dict while a loop walks it): read, never written while it is so -/
 | frz (o:Obj) (u:HO)
 /-- a code object's table -/
 | tbl (ps:Array Value)
 /-- any other thing, by what is true of its one object (a def of one's own: SetO a S n := HO.ext fun h => ..) -/
 | ext (φ:Heap->Prop)
abbrev Hp:=Addr->Option HO
noncomputable def upd(H:Hp)(a:Addr)(o:HO):Hp:=fun b=>if b=a then some o else H b
theorem a0c{H:Hp}{a:Addr}{o:HO}:upd H a o a=some o:=by unfold upd;rw [if_pos rfl]
theorem a0d{H:Hp}{a b:Addr}{o:HO}(h:b ≠ a):upd H a o b=H b:=by unfold upd;rw [if_neg h]
theorem b3j{H:Hp}{a b:Addr}{o u:HO}(h:H a=some o)(h':H b=some u)(d:o ≠ u):a ≠ b:=by
 intro e;subst e;rw [h] at h';exact d (Option.some.inj h')
theorem a0q{H:Hp}{a b:Addr}{o:HO}(h:H a=some o)(h':H b=none):a ≠ b:=by
 intro e;subst e;rw [h] at h';cases h'
def a3d(h:Heap)(a:Addr)(items:Array Value):Prop:=∃ o,h.get? a=some o/\(o.cls=.type "tuple" /\ o.dict=none)/\∃ n,o.data=.seq items n
theorem a3d.tup{h:Heap}{a:Addr}{items:Array Value}(x:a3d h a items):IsTup h a items:=by obtain⟨o,e,c,n,d⟩:=x;exact⟨o,e,c.1,n,d⟩
theorem a3d.new(h:Heap)(xs:Array Value):a3d (h.push { cls:=.type "tuple",data:=.seq xs }) h.objs.size xs:=⟨_,get?_push_size _ rfl,⟨rfl,rfl⟩,_,rfl⟩
def TabOk(H:Hp)(h:Heap)(a:Addr)(ps qs:Array Value):Prop:=h.get? a=some { cls:=.none,data:=.fields qs }/\TriplesOk qs.toList /\
 ∀ pos v,codeAmong pos qs.toList=some v->∃ c oc vs q t t',v=.ref c/\ps = #[.str q t]/\H c=some (.frz oc (.own c))/\oc.data=.fields vs/\vs[1]? = some (.str q t')
section
variable(P:Program)(w:World)
noncomputable def a1c(H:Hp)(h:Heap)(a:Addr):HO->Prop
 | .lst xs=>xs.length <= sizeLine/\∃ (its:List Value) (n:Nat),Vals xs its/\h.get? a=some { cls:=.type "list",data:=.seq its.toArray n }
 | .tup xs=>xs.length <= sizeLine/\∃ its:List Value,Vals xs its/\a3d h a its.toArray
 | .dK kvs=>kvs.length <= sizeLine/\(a == sysModules)=false/\∃ vs,KV kvs vs/\h.DictOf (a8y P w) a vs
 | .dT kvs=>kvs.length <= sizeLine/\(a == sysModules)=false/\∃ xs:List (List Key × Addr × Value),
   Paired (fun(p:List Key × V) (q:List Key × Addr × Value)=>p.1=q.1/\H q.2.1=some (.tup (p.1.map kV))/\RelV p.2 q.2.2) kvs xs /\
   ∃ o es ep,h.get? a=some o/\o.ExactDict/\o.data=.dict es ep/\es.toList=xs.map (entryOfKey (tupleKind (a8y P w)))/\(xs.map (·.1)).Nodup
 | .set S n=>h.SetOf (intKind P w) a S n
 | .ins C dx fs=>H dx=some (.own a)/\fs.length <= 1000/\dx ≠ a/\h.get? a=some (PySem.W.instObj C dx) /\
   ∃ mA,h.Ns1 dx mA/\(∀ f,RelO (fs.lookup f) (mA f))/\PySem.Within mA (fs.map (·.1))
 | .own _=>∃ o,h.get? a=some o
 | .xd fs=>∃ mA,h.Ns1 a mA/\∀ f,RelO (fs.lookup f) (mA f)
 | .rng lo hi=>∃ t u v,h.get? a=some { cls:=.type "range",data:=.fields #[.int lo t,.int hi u,.int 1 v] }
 | .frz o u=>(match u with
   | .tbl ps=>∃ qs:Array Value,TabOk H h a ps qs
   | _=>h.get? a=some o)/\a1c H h a u
 | .tbl ps=>∃ o,h.get? a=some o
 | .met f x=>h.get? a=some (PySem.W.methodObj (.ref f) (.ref x))
 | .ext φ=>φ h/\(∃ o,h.get? a=some o)/\∀ h1 h2:Heap,φ h1->(∀ o,h1.get? a=some o->h2.get? a=some o)->φ h2
def HOk(H:Hp)(h:Heap):Prop:=∀ a o,H a=some o->a1c P w H h a o
end
section
variable{P:Program}{w:World}{H H':Hp}{h h':Heap}{a:Addr}{o:HO}
theorem a1c.lt(x:a1c P w H h a o):a < h.objs.size:=by
 cases o with
 | lst xs=>obtain⟨_,_,_,_,e⟩:=x;exact lt_size e
 | tup xs=>obtain⟨_,_,_,p⟩:=x;exact p.tup.lt
 | dK kvs=>obtain⟨_,_,_,_,o,_,_,e,_⟩:=x;exact lt_size e
 | dT kvs=>obtain⟨_,_,_,_,o,_,_,e,_⟩:=x;exact lt_size e
 | set S n=>obtain⟨o,_,_,_,e,_⟩:=x;exact lt_size e
 | ins C dx fs=>obtain⟨_,_,_,e,_⟩:=x;exact lt_size e
 | own y=>obtain⟨_,e⟩:=x;exact lt_size e
 | xd fs=>obtain⟨_,⟨_,_,_,e,_⟩,_⟩:=x;exact lt_size e
 | rng lo hi=>obtain⟨_,_,_,e⟩:=x;exact lt_size e
 | frz ob u =>
  obtain⟨e,_⟩:=x
  cases u with
  | tbl ps=>obtain⟨_,e,_⟩:=e;exact lt_size e
  | _=>exact lt_size (show h.get? a=some _ from e)
 | tbl ps=>obtain⟨_,e⟩:=x;exact lt_size e
 | met f y=>exact lt_size (show h.get? a=some _ from x)
 | ext φ=>obtain⟨_,⟨_,e⟩,_⟩:=x;exact lt_size e
theorem Paired.mapP{α β:Type}{F G:α->β->Prop}:∀ {l₁:List α} {l₂:List β},Paired F l₁ l₂->(∀ a b,F a b->G a b)->Paired G l₁ l₂
 | _,_,.nil,_=>.nil
 | _,_,.cons r t,f=>.cons (f _ _ r) (Paired.mapP t f)
theorem Paired.imp'{α β:Type}{F G:α->β->Prop}(f:∀ a b,F a b->G a b){l₁:List α}{l₂:List β}(r:Paired F l₁ l₂):Paired G l₁ l₂:=Paired.mapP r f
theorem a1c.stay(x:a1c P w H h a o)(k:∀ b u,(b=a ∨ H b=some (.own a))->h.get? b=some u->h'.get? b=some u)
  (ho:∀ b,H b=some (.own a)->H' b=some (.own a)) (ht:∀ b xs,H b=some (.tup xs)->H' b=some (.tup xs)) (hf:∀ b ob u,H b=some (.frz ob u)->H' b=some (.frz ob u)):a1c P w H' h' a o:=by
 induction o with
 | lst xs=>obtain⟨z,its,n,r,e⟩:=x;exact⟨z,its,n,r,k _ _ (.inl rfl) e⟩
 | tup xs=>obtain⟨z,its,r,ob,e,c⟩:=x;exact⟨z,its,r,ob,k _ _ (.inl rfl) e,c⟩
 | dK kvs=>obtain⟨z,y,vs,r,ob,es,ep,e,c⟩:=x;exact⟨z,y,vs,r,ob,es,ep,k _ _ (.inl rfl) e,c⟩
 | dT kvs =>
  obtain⟨z,y,xs,r,ob,es,ep,e,c⟩:=x
  exact⟨z,y,xs,Paired.mapP r fun p q z=>⟨z.1,ht _ _ z.2.1,z.2.2⟩,ob,es,ep,k _ _ (.inl rfl) e,c⟩
 | set S n=>obtain⟨ob,es,ep,t,e,c⟩:=x;exact⟨ob,es,ep,t,k _ _ (.inl rfl) e,c⟩
 | ins C dx fs =>
  obtain⟨d,z,ne,e,mA,⟨od,es,ep,e2,c⟩,r⟩:=x
  exact⟨ho _ d,z,ne,k _ _ (.inl rfl) e,mA,⟨od,es,ep,k _ _ (.inr d) e2,c⟩,r⟩
 | own y=>obtain⟨ob,e⟩:=x;exact⟨ob,k _ _ (.inl rfl) e⟩
 | xd fs=>obtain⟨mA,⟨od,es,ep,e,c⟩,r⟩:=x;exact⟨mA,⟨od,es,ep,k _ _ (.inl rfl) e,c⟩,r⟩
 | rng lo hi=>obtain⟨t,u,v,e⟩:=x;exact⟨t,u,v,k _ _ (.inl rfl) e⟩
 | frz ob u ih =>
  obtain⟨e,q⟩:=x
  refine⟨?_,ih q⟩
  cases u with
  | tbl ps =>
   obtain⟨qs,e1,e2,e3⟩:=e
   exact⟨qs,k _ _ (.inl rfl) e1,e2,fun pos v hv=>by obtain⟨c,oc,vs,q,t,t',h1,h2,h3,h4⟩:=e3 pos v hv;exact⟨c,oc,vs,q,t,t',h1,h2,hf _ _ _ h3,h4⟩⟩
  | _=>exact k _ _ (.inl rfl) e
 | tbl ps=>obtain⟨o,e⟩:=x;exact⟨o,k a _ (.inl rfl) e⟩
 | met f y =>
  have e:h.get? a=some (PySem.W.methodObj (.ref f) (.ref y)):=x
  show h'.get? a=some (PySem.W.methodObj (.ref f) (.ref y))
  exact k a _ (.inl rfl) e
 | ext φ=>obtain⟨p,⟨o,e⟩,st⟩:=x;exact⟨st _ _ p fun o q=>k _ _ (.inl rfl) q,⟨o,k _ _ (.inl rfl) e⟩,st⟩
theorem HOk.lt(x:HOk P w H h)(e:H a=some o):a < h.objs.size:=(x a o e).lt
theorem HOk.fresh(x:HOk P w H h)(e:h.objs.size <= a):H a=none:=by
 cases q:H a with
 | none=>rfl
 | some u=>exact absurd (lt_of_lt_of_le (x.lt q) e) (lt_irrefl _)
theorem HOk.kept(x:HOk P w H h)(k:∀ b u,h.get? b=some u->h'.get? b=some u):HOk P w H h':=fun a o e =>
 (x a o e).stay (fun b u _ q=>k b u q) (fun _ q=>q) (fun _ _ q=>q) fun _ _ _ q=>q
theorem HOk.laid(x:HOk P w H h)(k:∀ b u,h.get? b=some u->h'.get? b=some u)(hp:h.objs.size <= a)(new:a1c P w (upd H a o) h' a o):HOk P w (upd H a o) h':=fun b u e=>by
 have hn:=x.fresh hp
 by_cases hb:b=a
 ·subst hb;rw [a0c] at e;cases e;exact new
 ·rw [a0d hb] at e
  exact(x b u e).stay (fun c v _ q=>k c v q) (fun c q=>by rw [a0d (a0q q hn)];exact q) (fun c xs q=>by rw [a0d (a0q q hn)];exact q) fun c ob u q=>by rw [a0d (a0q q hn)];exact q
end
def Rd(H:Hp)(a:Addr)(u:HO):Prop:=H a=some u ∨ ∃ o,H a=some (.frz o u)
theorem Rd.ok{P:Program}{w:World}{H:Hp}{h:Heap}{a:Addr}{u:HO}(r:Rd H a u)(x:HOk P w H h):a1c P w H h a u:=by
 rcases r with r | ⟨o,r⟩
 ·exact x a u r
 ·obtain⟨_,q⟩:=x a _ r
  exact q
noncomputable def Mut:Option HO->Prop
 | some (.lst _)=>True
 | some (.dK _)=>True
 | some (.dT _)=>True
 | some (.set _ _)=>True
 | some (.ins _ _ _)=>True
 | some (.ext _)=>True
 | _=>False
section
variable{P:Program}{w:World}{H:Hp}{h h':Heap}{x e:Addr}{o':HO}
theorem HOk.write(ok:HOk P w H h)(mu:Mut (H x))(he:e=x ∨ H e=some (.own x))(k:∀ b u,b ≠ e->h.get? b=some u->h'.get? b=some u)(heo:∃ u,h'.get? e=some u)
  (new:a1c P w (upd H x o') h' x o'):HOk P w (upd H x o') h':=fun b u q=>by
 have nown:∀ c y,H c=some (.own y)->c ≠ x:=fun c y r z=>by subst z;rw [r] at mu;exact mu
 have ntup:∀ c xs,H c=some (.tup xs)->c ≠ x:=fun c xs r z=>by subst z;rw [r] at mu;exact mu
 by_cases hb:b=x
 ·subst hb;rw [a0c] at q;cases q;exact new
 ·rw [a0d hb] at q
  by_cases hbe:b=e
  ·have q':H b=some (.own x):=by
    rcases he with z | z
    ·exact absurd (hbe.trans z) hb
    ·rw [hbe];exact z
   rw [q] at q';cases q'
   obtain⟨v,hv⟩:=heo
   exact⟨v,by rw [hbe];exact hv⟩
  ·refine(ok b u q).stay (fun c v hc r=>k c v ?_ r) (fun c r=>by rw [a0d (nown c b r)];exact r) (fun c xs r=>by rw [a0d (ntup c xs r)];exact r) fun c ob u r=>by rw [a0d (fun z=>by subst z;rw [r] at mu;exact mu)];exact r
   rcases hc with rfl | hc
   ·exact hbe
   ·rintro rfl
    rcases he with z | z
    ·exact nown c b hc z
    ·rw [hc] at z;cases z;exact hb rfl
end
structure Un(fs ex:List Addr)(H H':Hp)(h h':Heap):Prop where
 keep:∀ b o,h.get? b=some o->H b=none->b ∉ fs->b ∉ ex->h'.get? b=some o
 slot:∀ b o,h.get? b=some o->H b=none->b ∈ fs->b ∉ ex->∃ sl,h'.get? b=some { o with slots:=sl }
 free:∀ b o,h.get? b=some o->H b=none->b ∉ ex->H' b=none
 there:∀ b o,h.get? b=some o->b ∉ ex->∃ o',h'.get? b=some o'
 tups:∀ b xs,H b=some (.tup xs)->H' b=some (.tup xs)
 frzs:∀ b o u,H b=some (.frz o u)->H' b=some (.frz o u)
 tbls:∀ b ps,H b=some (.tbl ps)->∃ more,H' b=some (.tbl (ps ++ more))
section
variable{fs fs' ex ex':List Addr}{H H1 H2:Hp}{h h1 h2 h':Heap}{a x e:Addr}{o:HO}
theorem Un.any(u:Un fs ex H H1 h h1){b:Addr}{ob:Obj}(q:h.get? b=some ob)(n:H b=none)(hx:b ∉ ex):∃ sl,h1.get? b=some { ob with slots:=sl }:=by
 by_cases hb:b ∈ fs
 ·exact u.slot b ob q n hb hx
 ·exact⟨ob.slots,u.keep b ob q n hb hx⟩
theorem Un.trans(a:Un fs ex H H1 h h1)(b:Un fs ex H1 H2 h1 h2):Un fs ex H H2 h h2 where
 keep:=fun c ob q n hc hx=>b.keep c ob (a.keep c ob q n hc hx) (a.free c ob q n hx) hc hx
 slot:=fun c ob q n hc hx=>by
  obtain⟨sl,e1⟩:=a.slot c ob q n hc hx
  obtain⟨sl',e2⟩:=b.slot c _ e1 (a.free c ob q n hx) hc hx
  exact⟨sl',e2⟩
 free:=fun c ob q n hx=>by
  obtain⟨o',e1⟩:=a.there c ob q hx
  exact b.free c o' e1 (a.free c ob q n hx) hx
 there:=fun c ob q hx=>by
  obtain⟨o',e1⟩:=a.there c ob q hx
  exact b.there c o' e1 hx
 tups:=fun c xs q=>b.tups c xs (a.tups c xs q)
 frzs:=fun c ob xs q=>b.frzs c ob xs (a.frzs c ob xs q)
 tbls:=fun c ps q=>by
  obtain⟨m1,e1⟩:=a.tbls c ps q
  obtain⟨m2,e2⟩:=b.tbls c _ e1
  exact⟨m1 ++ m2,by rw [e2,Array.append_assoc]⟩
theorem Un.kept(k:∀ b u,h.get? b=some u->h'.get? b=some u):Un fs ex H H h h':=
 ⟨fun b ob q _ _ _=>k b ob q,fun b ob q _ _ _=>⟨ob.slots,k b ob q⟩,fun _ _ _ n _=>n,fun b ob q _=>⟨ob,k b ob q⟩,fun _ _ q=>q,fun _ _ _ q=>q,fun _ ps q=>⟨#[],by rw [q];simp⟩⟩
theorem Un.refl:Un fs ex H H h h:=Un.kept fun _ _ q=>q
theorem Un.laid(k:∀ b u,h.get? b=some u->h'.get? b=some u)(hp:h.objs.size <= a)(hn:H a=none):Un fs ex H (upd H a o) h h' where
 keep:=fun b u q _ _ _=>k b u q
 slot:=fun b u q _ _ _=>⟨u.slots,k b u q⟩
 free:=fun b u q n _=>by rw [a0d (ne_of_lt (lt_of_lt_of_le (lt_size q) hp))];exact n
 there:=fun b u q _=>⟨u,k b u q⟩
 tups:=fun b xs q=>by rw [a0d (a0q q hn)];exact q
 frzs:=fun b u xs q=>by rw [a0d (a0q q hn)];exact q
 tbls:=fun b ps q=>⟨#[],by rw [a0d (a0q q hn),q];simp⟩
theorem Un.write(mu:Mut (H x))(he:e=x ∨ H e=some (.own x))(k:∀ b u,b ≠ e->h.get? b=some u->h'.get? b=some u)(heo:∃ u,h'.get? e=some u):Un fs ex H (upd H x o) h h':=by
 have hx:∀ b,H b=none->b ≠ x:=fun b n z=>by subst z;rw [n] at mu;exact mu
 have hb:∀ b,H b=none->b ≠ e:=fun b n z=>by
  subst z
  rcases he with r | r
  ·exact hx b n r
  ·rw [n] at r;cases r
 have hm:∀ b u,H b=some u->¬ Mut (some u)->b ≠ x:=fun b u q nm z=>by subst z;rw [q] at mu;exact nm mu
 refine⟨fun b u q n _ _=>k b u (hb b n) q,fun b u q n _ _=>⟨u.slots,k b u (hb b n) q⟩,fun b u q n _=>by rw [a0d (hx b n)];exact n,fun b u q _=>?_,
  fun b xs q=>by rw [a0d (hm b _ q fun z=>z)];exact q,fun b u xs q=>by rw [a0d (hm b _ q fun z=>z)];exact q,fun b ps q=>⟨#[],by rw [a0d (hm b _ q fun z=>z),q];simp⟩⟩
 by_cases hbe:b=e
 ·subst hbe;exact heo
 ·exact⟨u,k b u hbe q⟩
end
noncomputable def trk(h:Heap)(H:Hp):List Addr:=(List.range h.objs.size).filter fun a=>(H a).isSome
noncomputable def hidT(h:Heap)(H:Hp):Heap:=PySem.W.hideAll h (trk h H)
theorem b9x(h:Heap)(H:Hp):(hidT h H).objs.size=h.objs.size:=PySem.W.hideAll_size _ _
theorem c2p{h:Heap}{H:Hp}{b:Addr}{o:Obj}(e:h.get? b=some o)(n:H b=none):(hidT h H).get? b=some o:=
 PySem.W.hideAll_get _ e fun hm=>by
  have q:(H b).isSome=true:=(List.mem_filter.mp hm).2
  rw [n] at q;simp at q
theorem c6l{h:Heap}{H:Hp}{b:Addr}{o:Obj}(e:(hidT h H).get? b=some o):h.get? b=some o/\H b=none:=by
 have e':h.get? b=some o:=PySem.W.of_hideAll (trk h H) e
 refine⟨e',?_⟩
 cases q:H b with
 | none=>rfl
 | some x =>
  have hm:b ∈ trk h H:=List.mem_filter.mpr ⟨List.mem_range.mpr (lt_size e'),by simp [q]⟩
  have z:(hidT h H).get? b=none:=PySem.W.hideAll_none (trk h H) hm
  rw [z] at e;cases e
noncomputable def c6m(g h:Heap)(L:Addr):List (Addr × Obj):=(List.range h.objs.size).filterMap fun a=>if a=L ∨ (g.get? a).isSome=true then none else(h.get? a).map fun o=>(a,o)
noncomputable def rest(g h:Heap)(L d:Addr):List (Addr × Obj):=(c6m g h L).filter fun p=>decide (p.1 ≠ d)
end L2
namespace L2
open PySem PySem.Spec PyProof.Rows
structure Mod(K:W.Frag)(mg:Str->Option Value)(base:Heap):Prop where
 kin:K.In base
 glob:base.Ns mainGlobals mg
 blt:∃ mb,base.Ns builtinsNs mb/\∀ x:Str,x ≠ "__name__" -> mb x=bootBuiltins x
 nolimit:base.NoLimit
structure Cx where
 prog:Program
 w:World
 K:W.Frag
 mg:Str->Option Value
 base:Heap
 A:Around
 N:List Str
 s₀:Shared
 H₀:Hp
 env:Env
 outer:List Env
 stack:List Env
 ex:List Addr
 fn:Str->Bool
 calm:Bool
 pn:List (Addr × Obj)
 xe:Value->Shared->Prop
noncomputable def frs(l:List Env):List Addr:=l.filterMap (·.frame)
abbrev Cx.fs(X:Cx):List Addr:=frs X.outer
def Vis(sc:Scope)(x:Str):Prop:=sc.names.lookup x=some .local ∨ sc.names.lookup x=some .cell ∨ sc.names.lookup x=some .free
def Loc(sc:Scope)(x:Str):Prop:=sc.names.lookup x=some .local ∨ sc.names.lookup x=some .cell
def Look(env:Env)(h:Heap)(m:Str->Option Value)(x:Str)(u:Value):Prop:=
 (env.kindOf x=some .local/\m x=some u) ∨ ((env.kindOf x=some .cell ∨ env.kindOf x=some .free)/\∃ c,env.cells.lookup x=some c/\h.IsCell c (some u))
structure Cx.Ok(X:Cx):Prop where
 mod:Mod X.K X.mg X.base
 kind:X.env.scope.kind=.function
 glob:X.env.globals=mainGlobals
 blt:X.env.builtins=builtinsNs
 above:X.s₀.heap.objs.size <= X.env.locals
 inj:∀ x y c,X.env.cells.lookup x=some c->X.env.cells.lookup y=some c->x=y
 has:∀ x,(X.env.kindOf x=some .cell ∨ X.env.kindOf x=some .free)->∃ c,X.env.cells.lookup x=some c
 cab:∀ x c,X.fn x=true->X.env.cells.lookup x=some c->X.s₀.heap.objs.size <= c
 hd:X.calm=true->X.A.handled=none
 frames:X.A.frames=some X.stack
 stk:X.stack=X.outer ∨ (X.stack=X.env :: X.outer/\X.env.frame=some X.env.locals)
 exf:∀ b ∈ X.ex,b ≠ X.env.locals/\∀ x c,X.env.cells.lookup x=some c->c ≠ b
 bs:∀ b o,X.base.get? b=some o->X.s₀.heap.get? b=some o/\X.H₀ b=none
 bsz:X.base.objs.size <= X.s₀.heap.objs.size
 noex:∀ b o,X.base.get? b=some o->b ∉ X.ex
 exfs:∀ b ∈ X.ex,b ∉ X.fs
 funs:X.s₀.heap.FunFrames X.base X.outer
 frf:∀ b ∈ X.fs,X.H₀ b=none
structure Inv(X:Cx)(pins:List (Addr × Obj))(σ:List (Option V))(H:Hp)(s:Shared):Prop where
 ok:X.Ok
 os:s.os=X.s₀.os
 bare:AllBare s.gens
 base:Un X.fs X.ex X.H₀ H X.s₀.heap s.heap
 loc:∃ m,s.heap.Ns X.env.locals m/\∀ (i:Nat) (x:Str) (v:V),X.N[i]? = some x->σ[i]? = some (some v)->Vis X.env.scope x->∃ u,RelV v u/\Look X.env s.heap m x u
 cell:∀ x c,X.env.cells.lookup x=some c->∃ v,s.heap.IsCell c v
 free:H X.env.locals=none
 freeC:∀ x c,X.env.cells.lookup x=some c->H c=none
 pin:∀ p ∈ X.pn ++ pins,s.heap.get? p.1=some p.2/\H p.1=none/\p.1 ≠ X.env.locals/\p.1 ∉ X.fs/\∀ v,p.2.data ≠ .cell v
 hok:HOk X.prog X.w H s.heap
 len:σ.length=X.N.length
section
variable{X:Cx}{pins:List (Addr × Obj)}{σ:List (Option V)}{H H':Hp}{s:Shared}{h':Heap}
theorem Cx.Ok.nofr(ok:X.Ok){b:Addr}{o:Obj}(e:X.base.get? b=some o):b ∉ X.fs:=fun hb=>by
 have:=(ok.funs.mem hb).1
 rw [e] at this;cases this
theorem Inv.bs(I:Inv X pins σ H s):∀ b o,X.base.get? b=some o->s.heap.get? b=some o/\H b=none:=fun b o e =>
 ⟨I.base.keep b o (I.ok.bs b o e).1 (I.ok.bs b o e).2 (I.ok.nofr e) (I.ok.noex b o e),I.base.free b o (I.ok.bs b o e).1 (I.ok.bs b o e).2 (I.ok.noex b o e)⟩
theorem Inv.bk(I:Inv X pins σ H s):∀ b o,X.base.get? b=some o->s.heap.get? b=some o:=fun b o e=>(I.bs b o e).1
theorem Inv.mod(I:Inv X pins σ H s):Mod X.K X.mg X.base:=I.ok.mod
theorem Inv.kIn(I:Inv X pins σ H s):X.K.In s.heap:=I.ok.mod.kin.keeps I.bk
theorem Inv.lt(I:Inv X pins σ H s):X.env.locals < s.heap.objs.size:=by obtain⟨_,hn,_⟩:=I.loc;exact hn.lt
theorem Inv.sz(I:Inv X pins σ H s):X.s₀.heap.objs.size <= s.heap.objs.size:=le_trans I.ok.above (le_of_lt I.lt)
theorem Inv.nofs(I:Inv X pins σ H s){a:Addr}(h:s.heap.objs.size <= a):a ∉ X.fs:=fun hb=>by
 obtain⟨_,o,ho,_⟩:=I.ok.funs.mem hb
 exact absurd (lt_of_lt_of_le (lt_size ho) (le_trans I.sz h)) (lt_irrefl _)
theorem Inv.cne(I:Inv X pins σ H s):∀ x c,X.env.cells.lookup x=some c->c ≠ X.env.locals:=fun x c e z=>by
 obtain⟨v,o,ho,hd⟩:=I.cell x c e
 obtain⟨m,⟨o',es,ep,ho',hd',_⟩,_⟩:=I.loc
 rw [z,ho'] at ho;cases ho;rw [hd'] at hd;cases hd
theorem Inv.funs(I:Inv X pins σ H s):s.heap.FunFrames X.base X.outer:=by
 have all:∀ (l:List Env),(∀ b ∈ frs l,b ∈ X.fs)->X.s₀.heap.FunFrames X.base l->s.heap.FunFrames X.base l:=by
  intro l
  induction l with
  | nil=>intro _ _;trivial
  | cons env r ih =>
   intro hs hl
   obtain⟨hk,⟨L,o,hf,hn,ho,hd⟩,hr⟩:=hl
   have hL:L ∈ X.fs:=hs L (by unfold frs;rw [filterMap_cons,hf];exact mem_cons_self)
   obtain⟨sl,e⟩:=I.base.slot L o ho (I.ok.frf L hL) hL fun z=>I.ok.exfs L z hL
   exact⟨hk,⟨L,_,hf,hn,e,hd⟩,ih (fun b hb=>hs b (by unfold frs;rw [filterMap_cons,hf];exact mem_cons_of_mem _ hb)) hr⟩
 exact all X.outer (fun _ hb=>hb) I.ok.funs
theorem Inv.stack(I:Inv X pins σ H s):s.heap.FunFrames X.base X.stack:=by
 rcases I.ok.stk with e | ⟨e,hf⟩
 ·rw [e];exact I.funs
 ·rw [e]
  obtain⟨m,hn,_⟩:=I.loc
  refine .cons (by rw [I.ok.kind];decide) hf hn ?_ I.funs
  exact Heap.get?_none_of_le (le_trans I.ok.bsz I.ok.above)
theorem Inv.stkSub(I:Inv X pins σ H s):∀ b ∈ frs X.stack,b ∈ X.env.locals :: X.fs:=fun b hb=>by
 rcases I.ok.stk with e | ⟨e,hf⟩
 ·rw [e] at hb;exact mem_cons_of_mem _ hb
 ·rw [e] at hb
  unfold frs at hb
  rw [filterMap_cons,hf] at hb
  exact hb
theorem Inv.stkFree(I:Inv X pins σ H s):∀ b ∈ frs X.stack,H b=none:=fun b hb=>by
 rcases mem_cons.mp (I.stkSub b hb) with e | hb
 ·rw [e];exact I.free
 ·obtain⟨_,o,ho,_⟩:=I.ok.funs.mem hb
  exact I.base.free b o ho (I.ok.frf b hb) fun z=>I.ok.exfs b z hb
theorem Inv.step{g':Array GenState}{t':Nat}{d':Drawn}{ch:List Addr}(I:Inv X pins σ H s)
  (hch:∀ b ∈ ch,(b ∈ X.ex ∨ X.s₀.heap.objs.size <= b)/\b ≠ X.env.locals/\(∀ x c,X.env.cells.lookup x=some c->c ≠ b)/\∀ p ∈ X.pn ++ pins,p.1 ≠ b)
  (keep:∀ b o,b ≠ X.env.locals->b ∉ X.fs->b ∉ ch->s.heap.get? b=some o->H b=none->h'.get? b=some o)
  (slot:∀ b o,b ≠ X.env.locals->b ∈ X.fs->b ∉ ch->s.heap.get? b=some o->H b=none->∃ sl,h'.get? b=some { o with slots:=sl }) (free:∀ b o,b ∉ ch->s.heap.get? b=some o->H b=none->H' b=none)
  (there:∀ b o,b ∉ ch->s.heap.get? b=some o->∃ o',h'.get? b=some o')
  (tups:∀ b xs,H b=some (.tup xs)->H' b=some (.tup xs)) (frzs:∀ b o u,H b=some (.frz o u)->H' b=some (.frz o u)) (tbls:∀ b ps,H b=some (.tbl ps)->∃ more,H' b=some (.tbl (ps ++ more)))
  (ns:∀ m,s.heap.Ns X.env.locals m->h'.Ns X.env.locals m) (hok:HOk X.prog X.w H' h') (hg:AllBare g') :
  Inv X pins σ H' { s with heap:=h',gens:=g',drawn:=d',toks:=t' }:=by
 have neL:∀ b o,X.s₀.heap.get? b=some o->b ≠ X.env.locals:=fun b o e=>ne_of_lt (lt_of_lt_of_le (lt_size e) I.ok.above)
 have neC:∀ b o,X.s₀.heap.get? b=some o->b ∉ X.ex->b ∉ ch:=fun b o e hx hb=>by
  rcases (hch b hb).1 with z | z
  ·exact hx z
  ·exact absurd (lt_of_lt_of_le (lt_size e) z) (lt_irrefl _)
 have cellK:∀ x c,X.env.cells.lookup x=some c->∀ v,s.heap.IsCell c v->h'.IsCell c v:=fun x c e v hq8=>by
  obtain⟨o,ho,hd⟩:=hq8
  have nch:c ∉ ch:=fun z=>(hch c z).2.2.1 x c e rfl
  by_cases hc:c ∈ X.fs
  ·obtain⟨sl,q⟩:=slot c o (I.cne x c e) hc nch ho (I.freeC x c e)
   exact⟨_,q,hd⟩
  ·exact⟨o,keep c o (I.cne x c e) hc nch ho (I.freeC x c e),hd⟩
 refine⟨I.ok,I.os,hg,⟨fun b o e n hb hx=>?_,fun b o e n hb hx=>?_,fun b o e n hx=>?_,fun b o e hx=>?_,fun b xs e=>tups b xs (I.base.tups b xs e),fun b o xs e=>frzs b o xs (I.base.frzs b o xs e),fun b ps e=>?_⟩,?_,fun x c e=>?_,?_,fun x c e=>?_,fun p hp=>?_,hok,I.len⟩
 ·exact keep b o (neL b o e) hb (neC b o e hx) (I.base.keep b o e n hb hx) (I.base.free b o e n hx)
 ·obtain⟨sl,e1⟩:=I.base.slot b o e n hb hx
  obtain⟨sl',e2⟩:=slot b _ (neL b o e) hb (neC b o e hx) e1 (I.base.free b o e n hx)
  exact⟨sl',e2⟩
 ·obtain⟨o',e1⟩:=I.base.there b o e hx
  exact free b o' (neC b o e hx) e1 (I.base.free b o e n hx)
 ·obtain⟨o',e1⟩:=I.base.there b o e hx
  exact there b o' (neC b o e hx) e1
 ·obtain⟨m1,e1⟩:=I.base.tbls b ps e
  obtain⟨m2,e2⟩:=tbls b _ e1
  exact⟨m1 ++ m2,by rw [e2,Array.append_assoc]⟩
 ·obtain⟨m,hn,hl⟩:=I.loc
  refine⟨m,ns m hn,fun i x v e1 e2 e3=>?_⟩
  obtain⟨u,r,l⟩:=hl i x v e1 e2 e3
  refine⟨u,r,?_⟩
  rcases l with l | ⟨k,c,e,z⟩
  ·exact .inl l
  ·exact .inr ⟨k,c,e,cellK x c e _ z⟩
 ·obtain⟨v,z⟩:=I.cell x c e
  exact⟨v,cellK x c e v z⟩
 ·obtain⟨m,⟨o,_,_,ho,_⟩,_⟩:=I.loc
  exact free _ o (fun z=>(hch _ z).2.1 rfl) ho I.free
 ·obtain⟨v,o,ho,hd⟩:=I.cell x c e
  exact free c o (fun z=>(hch c z).2.2.1 x c e rfl) ho (I.freeC x c e)
 ·obtain⟨e,n,ne,nf,d⟩:=I.pin p hp
  have nch:p.1 ∉ ch:=fun z=>(hch p.1 z).2.2.2 p hp rfl
  exact⟨keep p.1 p.2 ne nf nch e n,free p.1 p.2 nch e n,ne,nf,d⟩
theorem Inv.un{t':Nat}(I:Inv X pins σ H s)(u:Un X.fs [] H H' s.heap h')(hok:HOk X.prog X.w H' h'):Inv X pins σ H' { s with heap:=h',toks:=t' }:=by
 obtain⟨m,⟨o,es,ep,ho,r⟩,_⟩:=id I.loc
 obtain⟨sl,hL⟩:=u.any ho I.free (by simp)
 exact I.step (g':=s.gens) (d':=s.drawn) (ch:=[]) (fun _ z=>nomatch z) (fun b o _ hb _ e n=>u.keep b o e n hb (by simp)) (fun b o _ hb _ e n=>u.slot b o e n hb (by simp)) (fun b o _ e n=>u.free b o e n (by simp)) (fun b o _ e=>u.there b o e (by simp)) u.tups u.frzs u.tbls (fun m' hm=>by
  obtain⟨o',es',ep',ho',r'⟩:=hm
  rw [ho] at ho';cases ho'
  exact⟨_,es',ep',hL,r'⟩) hok I.bare
theorem Inv.call{g':Array GenState}{t':Nat}{d':Drawn}{ch:List Addr}(I:Inv X pins σ H s)(u:Un (frs X.stack) ch H H' s.heap h')(hok:HOk X.prog X.w H' h')(hg:AllBare g')
  (hch:∀ b ∈ ch,(b ∈ X.ex ∨ X.s₀.heap.objs.size <= b)/\b ≠ X.env.locals/\(∀ x c,X.env.cells.lookup x=some c->c ≠ b)/\∀ p ∈ X.pn ++ pins,p.1 ≠ b) :
  Inv X pins σ H' { s with heap:=h',gens:=g',drawn:=d',toks:=t' }:=by
 obtain⟨m,⟨o,es,ep,ho,r⟩,_⟩:=id I.loc
 obtain⟨sl,hL⟩:=u.any ho I.free fun z=>(hch _ z).2.1 rfl
 exact I.step (ch:=ch) hch (fun b o hL hb hc e n=>u.keep b o e n (fun z=>(mem_cons.mp (I.stkSub b z)).elim hL hb) hc) (fun b o _ _ hc e n=>u.any e n hc) (fun b o hc e n=>u.free b o e n hc) (fun b o hc e=>u.there b o e hc) u.tups u.frzs u.tbls (fun m' hm=>by
  obtain⟨o',es',ep',ho',r'⟩:=hm
  rw [ho] at ho';cases ho'
  exact⟨_,es',ep',hL,r'⟩) hok hg
theorem Inv.turned{t':Nat}{it:Addr}(I:Inv X pins σ H s)(k:∀ b o,b ≠ it->s.heap.get? b=some o->h'.get? b=some o)(hn:H it=none)(hL:it ≠ X.env.locals)
  (h1:it ∈ X.ex ∨ X.s₀.heap.objs.size <= it) (h2:∀ x c,X.env.cells.lookup x=some c->c ≠ it) (h3:∀ p ∈ X.pn ++ pins,p.1 ≠ it):Inv X pins σ H { s with heap:=h',toks:=t' }:=by
 have nit:∀ b u,H b=some u->b ≠ it:=fun b u e z=>by rw [z,hn] at e;cases e
 refine I.step (g':=s.gens) (d':=s.drawn) (ch:=[it]) (fun b hb=>?_) (fun b o _ _ hc e _=>k b o (fun z=>hc (by simp [z])) e) (fun b o _ _ hc e _=>⟨o.slots,k b o (fun z=>hc (by simp [z])) e⟩) (fun _ _ _ _ n=>n)
  (fun b o hc e=>⟨o,k b o (fun z=>hc (by simp [z])) e⟩) (fun _ _ e=>e) (fun _ _ _ e=>e) (fun b ps e=>⟨#[],by rw [e];simp⟩) (fun m hm=>?_) (fun b u e=>?_) I.bare
 ·have e:b=it:=by simpa using hb
  subst e
  exact⟨h1,hL,h2,h3⟩
 ·obtain⟨o,es,ep,ho,r⟩:=hm
  exact⟨o,es,ep,k _ o (Ne.symm hL) ho,r⟩
 ·refine(I.hok b u e).stay (fun c v hc q=>k c v ?_ q) (fun _ q=>q) (fun _ _ q=>q) fun _ _ _ q=>q
  rcases hc with z | z
  ·rw [z];exact nit b u e
  ·exact nit c _ z
theorem Inv.tok(I:Inv X pins σ H s)(t:Nat):Inv X pins σ H { s with toks:=t }:=I.un (h':=s.heap) (t':=t) Un.refl I.hok
theorem Inv.kept{t':Nat}(I:Inv X pins σ H s)(k:∀ b u,s.heap.get? b=some u->h'.get? b=some u):Inv X pins σ H { s with heap:=h',toks:=t' }:=I.un (Un.kept k) (I.hok.kept k)
theorem Inv.laid{a:Addr}{o:HO}{t':Nat}(I:Inv X pins σ H s)(k:∀ b u,s.heap.get? b=some u->h'.get? b=some u)(hp:s.heap.objs.size <= a)(new:a1c X.prog X.w (upd H a o) h' a o) :
  Inv X pins σ (upd H a o) { s with heap:=h',toks:=t' }:=I.un (Un.laid k hp (I.hok.fresh hp)) (I.hok.laid k hp new)
theorem Inv.write{x e:Addr}{o:HO}{t':Nat}(I:Inv X pins σ H s)(mu:Mut (H x))(he:e=x ∨ H e=some (.own x))(k:∀ b u,b ≠ e->s.heap.get? b=some u->h'.get? b=some u)(heo:∃ u,h'.get? e=some u)
  (new:a1c X.prog X.w (upd H x o) h' x o):Inv X pins σ (upd H x o) { s with heap:=h',toks:=t' }:=I.un (Un.write mu he k heo) (I.hok.write mu he k heo new)
theorem Inv.pins_of{pins':List (Addr × Obj)}(I:Inv X pins σ H s)(h:∀ p ∈ pins',s.heap.get? p.1=some p.2/\H p.1=none/\p.1 ≠ X.env.locals/\p.1 ∉ X.fs/\∀ v,p.2.data ≠ .cell v):Inv X pins' σ H s:=
 ⟨I.ok,I.os,I.bare,I.base,I.loc,I.cell,I.free,I.freeC,fun p hp=>(mem_append.mp hp).elim (fun z=>I.pin p (mem_append_left _ z)) (h p),I.hok,I.len⟩
theorem b3t{N:List Str}(hN:N.Nodup){i j:Nat}{x:Str}(a:N[i]? = some x)(b:N[j]? = some x):i=j:=by
 obtain⟨h1,e1⟩:=List.getElem?_eq_some_iff.mp a
 obtain⟨h2,e2⟩:=List.getElem?_eq_some_iff.mp b
 exact(List.getElem_inj hN).mp (e1.trans e2.symm)
theorem b2d{M:Model}{A:Around}{E:Value->Shared->Prop}{i:Nat}{x:Str}{v:V}{u:Value}{Q:Unit->Shared->Prop}(I:Inv X pins σ H s)(hN:X.N.Nodup)(hi:X.N[i]? = some x)(hx:Loc X.env.scope x)(r:RelV v u)
  (h:∀ s',Inv X pins (σ.set i (some v)) H s'->(∃ a,Heap.SameBut a s.heap s'.heap/\(a=X.env.locals ∨ X.env.cells.lookup x=some a))->Q () s') (hf:X.fn x=true ∨ X.env.scope.names.lookup x=some .local:=by first | exact .inl rfl | exact .inr rfl | assumption):wpAny M A (storeName X.env x u) Q E s:=by
 obtain⟨m,hn,hl⟩:=id I.loc
 have hcls:(X.env.scope.kind == .class || (X.env.scope.kind == .module && X.env.locals != X.env.globals))=false:=by rw [I.ok.kind];rfl
 have hiσ:i < σ.length:=by rw [I.len];exact(List.getElem?_eq_some_iff.mp hi).1
 have cne:=I.cne
 have tracked:∀ {a:Addr} {h':Heap},(∃ o,s.heap.get? a=some o/\H a=none)->Heap.SameBut a s.heap h'->HOk X.prog X.w H h':=fun{a h'} ha hs b ob e=>by
  obtain⟨_,_,hfree⟩:=ha
  refine(I.hok b ob e).stay (fun c w' hc q=>(hs.2 c ?_).trans q) (fun _ q=>q) (fun _ _ q=>q) fun _ _ _ q=>q
  rintro rfl
  rcases hc with rfl | hc
  ·rw [hfree] at e;cases e
  ·rw [hfree] at hc;cases hc
 rcases hx with hk | hk
 ·refine wpAny_storeName_local hk hn (fun h' hn' hs=>?_) hcls
  obtain⟨oL,_,_,hoL,_⟩:=id hn
  refine h _ ⟨I.ok,I.os,I.bare,⟨fun b o e n hb hx=>?_,fun b o e n hb hx=>?_,I.base.free,fun b o e hx=>?_,I.base.tups,I.base.frzs,I.base.tbls⟩,⟨_,hn',fun j y v' e1 e2 e3=>?_⟩,fun y c e=>?_,I.free,I.freeC,fun p hp=>?_,tracked ⟨oL,hoL,I.free⟩ hs,by simpa using I.len⟩ ⟨_,hs,.inl rfl⟩
  ·exact(hs.2 b (ne_of_lt (lt_of_lt_of_le (lt_size e) I.ok.above))).trans (I.base.keep b o e n hb hx)
  ·obtain⟨sl,e1⟩:=I.base.slot b o e n hb hx
   exact⟨sl,(hs.2 b (ne_of_lt (lt_of_lt_of_le (lt_size e) I.ok.above))).trans e1⟩
  ·obtain⟨o',e1⟩:=I.base.there b o e hx
   exact⟨o',(hs.2 b (ne_of_lt (lt_of_lt_of_le (lt_size e) I.ok.above))).trans e1⟩
  ·by_cases hj:j=i
   ·subst hj
    rw [hi] at e1;cases e1
    rw [getElem?_set_self hiσ] at e2
    cases e2
    exact⟨u,r,.inl ⟨hk,by simp⟩⟩
   ·rw [getElem?_set_ne (Ne.symm hj)] at e2
    obtain⟨u',r',q⟩:=hl j y v' e1 e2 e3
    refine⟨u',r',?_⟩
    rcases q with⟨k,e⟩ | ⟨k,c,e,z⟩
    ·refine .inl ⟨k,?_⟩
     have:y ≠ x:=fun e=>hj (b3t hN e1 (e ▸ hi))
     simp [this,e]
    ·exact .inr ⟨k,c,e,z.sameBut hs (cne y c e)⟩
  ·obtain⟨w',z⟩:=I.cell y c e
   exact⟨w',z.sameBut hs (cne y c e)⟩
  ·obtain⟨e,n,ne,nf,d⟩:=I.pin p hp
   exact⟨(hs.2 p.1 ne).trans e,n,ne,nf,d⟩
 ·have hfn:X.fn x=true:=by
   rcases hf with z | z
   ·exact z
   ·rw [z] at hk;cases hk
  obtain⟨c,hc⟩:=I.ok.has x (.inl hk)
  obtain⟨w',z⟩:=I.cell x c hc
  refine wpAny_storeName_cell I.ok.kind hk hc z (fun h' hc' hs=>?_)
  obtain⟨oc,hoc,hocd⟩:=id z
  refine h { s with heap:=h' } ⟨I.ok,I.os,I.bare,⟨fun b o e n hb hx=>?_,fun b o e n hb hx=>?_,I.base.free,fun b o e hx=>?_,I.base.tups,I.base.frzs,I.base.tbls⟩,⟨m,hn.sameBut hs (Ne.symm (cne x c hc)),fun j y v' e1 e2 e3=>?_⟩,fun y c' e=>?_,I.free,I.freeC,fun p hp=>?_,tracked ⟨oc,hoc,I.freeC x c hc⟩ hs,by simpa using I.len⟩ ⟨c,hs,.inr hc⟩
  ·exact(hs.2 b (ne_of_lt (lt_of_lt_of_le (lt_size e) (I.ok.cab x c hfn hc)))).trans (I.base.keep b o e n hb hx)
  ·obtain⟨sl,e1⟩:=I.base.slot b o e n hb hx
   exact⟨sl,(hs.2 b (ne_of_lt (lt_of_lt_of_le (lt_size e) (I.ok.cab x c hfn hc)))).trans e1⟩
  ·obtain⟨o',e1⟩:=I.base.there b o e hx
   exact⟨o',(hs.2 b (ne_of_lt (lt_of_lt_of_le (lt_size e) (I.ok.cab x c hfn hc)))).trans e1⟩
  ·by_cases hj:j=i
   ·subst hj
    rw [hi] at e1;cases e1
    rw [getElem?_set_self hiσ] at e2
    cases e2
    exact⟨u,r,.inr ⟨.inl hk,c,hc,hc'⟩⟩
   ·rw [getElem?_set_ne (Ne.symm hj)] at e2
    obtain⟨u',r',q⟩:=hl j y v' e1 e2 e3
    refine⟨u',r',?_⟩
    rcases q with q | ⟨k,c',e,z'⟩
    ·exact .inl q
    ·refine .inr ⟨k,c',e,z'.sameBut hs ?_⟩
     rintro rfl
     exact hj (b3t hN e1 (I.ok.inj _ _ _ e hc ▸ hi))
  ·by_cases hcc:c'=c
   ·subst hcc;exact⟨_,hc'⟩
   ·obtain⟨w2,z2⟩:=I.cell y c' e
    exact⟨w2,z2.sameBut hs hcc⟩
  ·obtain⟨e,n,ne,nf,d⟩:=I.pin p hp
   refine⟨(hs.2 p.1 ?_).trans e,n,ne,nf,d⟩
   intro q
   rw [q,hoc] at e
   have q':oc=p.2:=Option.some.inj e
   exact d w' (by rw [← q'];exact hocd)
theorem b3u{M:Model}{A:Around}{E:Value->Shared->Prop}{i:Nat}{x:Str}{v:V}{u:Value}{Q:Unit->Shared->Prop}(I:Inv X pins σ H s)(hN:X.N.Nodup)(hi:X.N[i]? = some x)(hx:Loc X.env.scope x)(r:RelV v u)
  (h:∀ s',Inv X pins (σ.set i (some v)) H s'->Q () s') (hf:X.fn x=true ∨ X.env.scope.names.lookup x=some .local:=by first | exact .inl rfl | exact .inr rfl | assumption):wpAny M A (storeName X.env x u) Q E s:=
 b2d I hN hi hx r (fun s' I' _=>h s' I') hf
theorem Inv.call'{s':Shared}{ch:List Addr}(I:Inv X pins σ H s)(ho:s'.os=s.os)(u:Un (frs X.stack) ch H H' s.heap s'.heap)(hok:HOk X.prog X.w H' s'.heap)(hg:AllBare s'.gens)
  (hch:∀ b ∈ ch,(b ∈ X.ex ∨ X.s₀.heap.objs.size <= b)/\b ≠ X.env.locals/\(∀ x c,X.env.cells.lookup x=some c->c ≠ b)/\∀ p ∈ X.pn ++ pins,p.1 ≠ b):Inv X pins σ H' s':=by
 obtain⟨h',g',d',t',o'⟩:=s'
 have e:o'=s.os:=ho
 subst e
 exact I.call (g':=g') (t':=t') (d':=d') u hok hg hch
end
abbrev XK:=Value->Option Addr->Hp->Prop
abbrev St:=List (Option V)
abbrev VK:=V->Hp->Prop
abbrev TE:=St->Hp->VK->Prop
abbrev TT:=St->Hp->(Bool->Hp->Prop)->Prop
abbrev TA:=St->Hp->(List V->Hp->Prop)->Prop
structure Ends where
 nx:St->Hp->Prop
 rt:VK
 bk:St->Hp->Prop:=fun _ _=>False
 ct:St->Hp->Prop:=fun _ _=>False
abbrev TS:=Ends->St->Hp->Prop
def EP(X:Cx)(pins:List (Addr × Obj))(σ:St)(Q:VK)(u:Value)(s':Shared):Prop:=∃ v H',Inv X pins σ H' s'/\RelV v u/\Q v H'
def TP(X:Cx)(pins:List (Addr × Obj))(σ:St)(Q:Bool->Hp->Prop)(b:Bool)(s':Shared):Prop:=∃ H',Inv X pins σ H' s'/\Q b H'
def AP(X:Cx)(pins:List (Addr × Obj))(σ:St)(Q:List V->Hp->Prop)(us:List Value)(s':Shared):Prop:=∃ vs H',Inv X pins σ H' s'/\Vals vs us/\Q vs H'
def SP(X:Cx)(pins:List (Addr × Obj))(D:Ends)(f:Flow)(s':Shared):Prop:=
 match f with
 | .next=>∃ σ' H',Inv X pins σ' H' s'/\D.nx σ' H'
 | .brk=>∃ σ' H',Inv X pins σ' H' s'/\D.bk σ' H'
 | .cont=>∃ σ' H',Inv X pins σ' H' s'/\D.ct σ' H'
 | .ret u=>∃ v σ' H',Inv X pins σ' H' s'/\RelV v u/\D.rt v H'
def PE(X:Cx)(e:Expr)(t:TE):Prop:=
 ∀ (pins:List (Addr × Obj)) (s:Shared) (σ:St) (H:Hp) (Q:VK),Inv X pins σ H s->t σ H Q->wpAny (model X.prog X.w) X.A (eval e X.env) (EP X pins σ Q) X.xe s
def PT(X:Cx)(e:Expr)(t:TT):Prop:=
 ∀ (pins:List (Addr × Obj)) (s:Shared) (σ:St) (H:Hp) (Q:Bool->Hp->Prop),Inv X pins σ H s->t σ H Q->wpAny (model X.prog X.w) X.A (isTrue e X.env (eval e X.env)) (TP X pins σ Q) X.xe s
def PW(X:Cx)(e:Expr)(t:TT):Prop:=
 ∀ (whole:Sem Value) (pins:List (Addr × Obj)) (s:Shared) (σ:St) (H:Hp) (Q:Bool->Hp->Prop),Inv X pins σ H s->t σ H Q->wpAny (model X.prog X.w) X.A (isTrue e X.env whole) (TP X pins σ Q) X.xe s
theorem PW.pt{X:Cx}{e:Expr}{t:TT}(h:PW X e t):PT X e t:=h _
def PA(X:Cx)(es:List Expr)(t:TA):Prop:=
 ∀ (pos:Pos) (pins:List (Addr × Obj)) (s:Shared) (σ:St) (H:Hp) (Q:List V->Hp->Prop),Inv X pins σ H s->t σ H Q->wpAny (model X.prog X.w) X.A (spliced (backTo pos (starEach es X.env))) (AP X pins σ Q) X.xe s
def PS(X:Cx)(st:Stmt)(t:TS):Prop:=
 ∀ (pins:List (Addr × Obj)) (s:Shared) (σ:St) (H:Hp) (D:Ends),Inv X pins σ H s->t D σ H->wpAny (model X.prog X.w) X.A (exec st X.env) (SP X pins D) X.xe s
def PSs(X:Cx)(st:List Stmt)(t:TS):Prop:=
 ∀ (pins:List (Addr × Obj)) (s:Shared) (σ:St) (H:Hp) (D:Ends),Inv X pins σ H s->t D σ H->wpAny (model X.prog X.w) X.A (execs st X.env) (SP X pins D) X.xe s
theorem thn{α:Type}{t:Sem α}{Q Q':α->Shared->Prop}{M:Model}{A:Around}{E:Value->Shared->Prop}{s:Shared}(h:wpAny M A t Q E s)(hQ:∀ a s,Q a s->Q' a s):wpAny M A t Q' E s:=wpAny_mono h hQ fun _ _ x=>x
end L2
namespace L2
open PySem PySem.Spec PyProof.Rows
section
variable{X:Cx}
def tVar(i:Nat):TE:=fun σ H Q=>∃ v,σ[i]? = some (some v)/\Q v H
def tC(v:V):TE:=fun _ H Q=>Q v H
theorem b0g{i:Nat}{x:Str}{pos:Pos}(hN:X.N[i]? = some x)(hv:Vis X.env.scope x) (hd:(x == ("__debug__" : Str))=false:=by decide) (hcd:(x == ("__classdict__" : Str))=false:=by decide):PE X (.Name x pos) (tVar i):=by
 intro pins s σ H Q I h
 obtain⟨v,e,h⟩:=h
 obtain⟨m,hn,hl⟩:=I.loc
 obtain⟨u,r,l⟩:=hl i x v hN e hv
 have fin:EP X pins σ Q u s:=⟨v,H,I,r,h⟩
 rcases l with⟨hk,hm⟩ | ⟨hk,c,hc,hcell⟩
 ·exact wpAny_Name (wpAny_loadName_local I.ok.kind hk hn hm fin) hd
 ·rcases hk with hk | hk
  ·exact wpAny_Name (wpAny_loadName_cell I.ok.kind hk hc hcell fin) hd
  ·exact wpAny_Name (wpAny_loadName_free I.ok.kind hk hc hcell fin hcd) hd
theorem a0t{i j pos}:PE X (.Constant (.int i) j pos) (tC (.int i)):=fun _ _ _ H _ I h=>wpAny_Constant_int ⟨.int i,H,I.tok _,⟨_,rfl⟩,h⟩
theorem pe_bl{b j pos}:PE X (.Constant (.bool b) j pos) (tC (.bl b)):=fun _ _ _ H _ I h=>Constant_bool ⟨.bl b,H,I,rfl,h⟩
theorem b9y{j pos}:PE X (.Constant .none j pos) (tC .non):=fun _ _ _ H _ I h=>Constant_none ⟨.non,H,I,rfl,h⟩
theorem a4z{x j pos}:PE X (.Constant (.str x) j pos) (tC (.str x)):=fun _ _ _ H _ I h=>Calls.Constant_str ⟨.str x,H,I.tok _,⟨_,rfl⟩,h⟩
def Gl(X:Cx)(x:Str):Prop:=X.env.kindOf x=some .globalImplicit
theorem a8z{E:Value->Shared->Prop}{pins:List (Addr × Obj)}{s:Shared}{σ:St}{H:Hp}{x:Str}{u:Value}{pos:Pos}{Q:Value->Shared->Prop}(I:Inv X pins σ H s)(hg:Gl X x)(hm:X.mg x=some u)(h:Q u s)
  (hd:(x == ("__debug__" : Str))=false:=by decide):wpAny (model X.prog X.w) X.A (eval (.Name x pos) X.env) Q E s:=
 Calls.Name_function_global I.ok.kind hg (Calls.loadGlobal_global (by rw [I.ok.glob];exact I.mod.glob.keeps I.bk) hm h) hd
theorem a8f{E:Value->Shared->Prop}{pins:List (Addr × Obj)}{s:Shared}{σ:St}{H:Hp}{x:Str}{u:Value}{pos:Pos}{Q:Value->Shared->Prop}(I:Inv X pins σ H s)(hg:Gl X x)(hm:X.mg x=none)(hv:bootBuiltins x=some u)(h:Q u s)
  (hn:x ≠ "__name__":=by decide) (hd:(x == ("__debug__" : Str))=false:=by decide):wpAny (model X.prog X.w) X.A (eval (.Name x pos) X.env) Q E s:=by
 obtain⟨mb,h1,h2⟩:=I.mod.blt
 exact Calls.Name_function_global I.ok.kind hg (Calls.loadGlobal_builtin (by rw [I.ok.glob];exact I.mod.glob.keeps I.bk) hm (by rw [I.ok.blt];exact h1.keeps I.bk) ((h2 x hn).trans hv) h) hd
theorem a4f{x:Str}{v:V}{u:Value}{pos:Pos}(hg:Gl X x)(hm:X.mg x=some u)(r:RelV v u) (hd:(x == ("__debug__" : Str))=false:=by decide):PE X (.Name x pos) (tC v):=
 fun _ _ _ H _ I h=>a8z I hg hm ⟨v,H,I,r,h⟩ hd
theorem c6n{x:Str}{v:V}{u:Value}{pos:Pos}(hg:Gl X x)(hm:X.mg x=none)(hv:bootBuiltins x=some u)(r:RelV v u) (hn:x ≠ "__name__":=by decide) (hd:(x == ("__debug__" : Str))=false:=by decide):PE X (.Name x pos) (tC v):=
 fun _ _ _ H _ I h=>a8f I hg hm hv ⟨v,H,I,r,h⟩ hn hd
variable{a b:Expr}{ta tb:TE}{pos:Pos}
def tB(t:TE):TT:=fun σ H Q=>t σ H fun x H1=>∃ c,x=.bl c/\Q c H1
theorem b0h{e:Expr}{t:TE}(h:PE X e t)(he:∀ whole,isTrue e X.env whole=(do let v ← whole;standAt e.pos;holding [v] (truthy v)):=by intro _;rfl):PT X e (tB t):=by
 intro pins s σ H Q I hw
 refine isTrue_plain (thn (h pins s σ H _ I hw) fun v s1 hq8=>?_) (he _)
 obtain⟨x,H1,I1,r1,q1⟩:=hq8
 obtain⟨d,rfl,q⟩:=q1
 cases r1
 exact wpAny_truthy_bool ⟨H1,I1,q⟩
variable{tA tB':TT}{rest:List Expr}
def tOr(t u:TT):TT:=fun σ H Q=>t σ H fun c H1=>if c=true then Q true H1 else u σ H1 Q
def tNot(t:TT):TT:=fun σ H Q=>t σ H fun c H1=>Q (!c) H1
theorem b9z(ha:PT X a tA):PW X (.BoolOp .Or [a] pos) tA:=by
 intro wh pins s σ H Q I h
 refine isTrue_or (thn (ha pins s σ H Q I h) fun c s1 e=>?_)
 cases c with
 | false=>exact isTrue_or_nil e
 | true=>exact e
theorem c5k(ha:PT X a tA)(hb:PW X (.BoolOp .Or (b :: rest) pos) tB'):PW X (.BoolOp .Or (a :: b :: rest) pos) (tOr tA tB'):=by
 intro wh pins s σ H Q I h
 refine isTrue_or (thn (ha pins s σ H _ I h) fun c s1 hq9=>?_)
 obtain⟨H1,I1,q1⟩:=hq9
 cases c with
 | true=>exact⟨H1,I1,q1⟩
 | false=>exact hb wh pins s1 σ H1 Q I1 q1
theorem b3v(ha:PT X a tA):PT X (.UnaryOp .Not a pos) (tNot tA):=by
 intro pins s σ H Q I h
 exact isTrue_not (ha pins s σ H (fun c H1=>Q (!c) H1) I h)
def c5l(ta tb:TE):TE:=fun σ H Q=>ta σ H fun x H1=>∃ c,x=.bl c/\if c=true then tb σ H1 Q else Q (.bl false) H1
def tOrV(ta tb:TE):TE:=fun σ H Q=>ta σ H fun x H1=>∃ c,x=.bl c/\if c=true then Q (.bl true) H1 else tb σ H1 Q
def c5m(ta:TE):TE:=fun σ H Q=>ta σ H fun x H1=>∃ c,x=.bl c/\Q (.bl (!c)) H1
theorem b3w{op}{t:TE}(h:PE X a t):PE X (.BoolOp op [a] pos) t:=fun pins s σ H Q I hw=>BoolOp_one (h pins s σ H Q I hw)
theorem d0f(ha:PE X a ta)(hb:PE X (.BoolOp .And (b :: rest) pos) tb):PE X (.BoolOp .And (a :: b :: rest) pos) (c5l ta tb):=by
 intro pins s σ H Q I h
 refine BoolOp_and (thn (ha pins s σ H _ I h) fun v s1 hq9=>?_)
 obtain⟨x,H1,I1,r1,q1⟩:=hq9
 obtain⟨c,rfl,q1⟩:=q1
 cases r1
 refine wpAny_truthy_bool ?_
 cases c with
 | true=>exact hb pins s1 σ H1 Q I1 q1
 | false=>exact⟨.bl false,H1,I1,rfl,q1⟩
theorem b7i(ha:PE X a ta)(hb:PE X (.BoolOp .Or (b :: rest) pos) tb):PE X (.BoolOp .Or (a :: b :: rest) pos) (tOrV ta tb):=by
 intro pins s σ H Q I h
 refine BoolOp_or (thn (ha pins s σ H _ I h) fun v s1 hq9=>?_)
 obtain⟨x,H1,I1,r1,q1⟩:=hq9
 obtain⟨c,rfl,q1⟩:=q1
 cases r1
 refine wpAny_truthy_bool ?_
 cases c with
 | false=>exact hb pins s1 σ H1 Q I1 q1
 | true=>exact⟨.bl true,H1,I1,rfl,q1⟩
theorem d0g(ha:PE X a ta):PE X (.UnaryOp .Not a pos) (c5m ta):=by
 intro pins s σ H Q I h
 refine UnaryOp_ (thn (ha pins s σ H _ I h) fun v s1 hq9=>?_)
 obtain⟨x,H1,I1,r1,q1⟩:=hq9
 obtain⟨c,rfl,q1⟩:=q1
 cases r1
 exact not_of (wpAny_truthy_bool ⟨.bl (!c),H1,I1,rfl,q1⟩)
def tIf(t:TT)(ta tb:TE):TE:=fun σ H Q=>t σ H fun c H1=>if c=true then ta σ H1 Q else tb σ H1 Q
theorem a9x{c:Expr}(hc:PT X c tA)(ha:PE X a ta)(hb:PE X b tb):PE X (.IfExp c a b pos) (tIf tA ta tb):=by
 intro pins s σ H Q I h
 refine wpAny_IfExp (thn (hc pins s σ H _ I h) fun d s1 hq9=>?_)
 obtain⟨H1,I1,q1⟩:=hq9
 cases d with
 | true=>exact ha pins s1 σ H1 Q I1 q1
 | false=>exact hb pins s1 σ H1 Q I1 q1
end
end L2
namespace L2
open PySem PySem.Spec PyProof.Rows
def SqL(K:W.Frag)(H:Hp)(a:Addr)(xs:List V):Prop:=
 Rd H a (.lst xs) ∨
  ∃ (o:Obj) (its:Array Value) (n:Nat),K.lookup a=some o/\o.cls=.type "list" /\ o.dict=none/\o.data=.seq its n/\its.size <= sizeLine/\Vals xs its.toList
def SqT(K:W.Frag)(H:Hp)(a:Addr)(xs:List V):Prop:=
 Rd H a (.tup xs) ∨
  ∃ (o:Obj) (its:Array Value) (n:Nat),K.lookup a=some o/\(o.cls=.type "tuple" /\ o.dict=none)/\o.data=.seq its n/\its.size <= sizeLine/\Vals xs its.toList
noncomputable def absV:Value->Option V
 | .none=>some .non
 | .bool b=>some (.bl b)
 | .int i _=>some (.int i)
 | .str x _=>some (.str x)
 | .bytes b _=>some (.byt b)
 | .float b _=>some (.flt b)
 | .ref a=>some (.ref a)
 | .type n=>some (.ty n)
 | _=>none
theorem RelV.abs{x:V}{u:Value}(r:RelV x u):absV u=some x:=by
 cases x with
 | non=>cases r;rfl
 | bl _=>cases r;rfl
 | int _=>obtain⟨t,rfl⟩:=r;rfl
 | str _=>obtain⟨t,rfl⟩:=r;rfl
 | byt _=>obtain⟨t,rfl⟩:=r;rfl
 | flt _=>obtain⟨t,rfl⟩:=r;rfl
 | ref _=>cases r;rfl
 | ty _=>cases r;rfl
theorem RelV.inj{x y:V}{u:Value}(r:RelV x u)(q:RelV y u):x=y:=Option.some.inj (r.abs.symm.trans q.abs)
theorem Vals.inj:∀ {xs ys:List V} {us:List Value},Vals xs us->Vals ys us->xs=ys
 | _,_,_,.nil,.nil=>rfl
 | _,_,_,.cons r t,.cons r' t'=>by rw [r.inj r',Vals.inj t t']
section
variable{X:Cx}{pins:List (Addr × Obj)}{σ:St}{H:Hp}{s:Shared}{a:Addr}{xs ys:List V}
theorem SqL.of{K:W.Frag}(h:H a=some (.lst xs)):SqL K H a xs:=.inl (.inl h)
theorem SqT.of{K:W.Frag}(h:H a=some (.tup xs)):SqT K H a xs:=.inl (.inl h)
theorem Inv.list(I:Inv X pins σ H s)(h:SqL X.K H a xs):∃ its:List Value,Vals xs its/\PlainL s.heap a its.toArray/\xs.length <= sizeLine:=by
 rcases h with h | ⟨o,its,n,hk,hc,hd,hs,hz,r⟩
 ·obtain⟨z,its,n,r,e⟩:=h.ok I.hok
  exact⟨its,r,⟨_,n,e,rfl,rfl,rfl⟩,z⟩
 ·refine⟨its.toList,r,⟨o,n,I.kIn a o hk,hc,hd,by simpa using hs⟩,?_⟩
  have e:=r.length
  simp only [Array.length_toList] at e
  omega
theorem Inv.tupleP(I:Inv X pins σ H s)(h:SqT X.K H a xs):∃ its:List Value,Vals xs its/\a3d s.heap a its.toArray/\xs.length <= sizeLine:=by
 rcases h with h | ⟨o,its,n,hk,hc,hs,hz,r⟩
 ·obtain⟨z,its,r,p⟩:=h.ok I.hok
  exact⟨its,r,p,z⟩
 ·refine⟨its.toList,r,⟨o,I.kIn a o hk,hc,n,by simpa using hs⟩,?_⟩
  have e:=r.length
  simp only [Array.length_toList] at e
  omega
theorem Inv.tuple(I:Inv X pins σ H s)(h:SqT X.K H a xs):∃ its:List Value,Vals xs its/\IsTup s.heap a its.toArray/\xs.length <= sizeLine:=by obtain⟨its,r,p,z⟩:=I.tupleP h;exact⟨its,r,p.tup,z⟩
theorem Inv.list_inj(I:Inv X pins σ H s)(h:SqL X.K H a xs)(h':SqL X.K H a ys):xs=ys:=by
 obtain⟨its,r,⟨o,n,e,_,_,d⟩,_⟩:=I.list h
 obtain⟨its',r',⟨o',n',e',_,_,d'⟩,_⟩:=I.list h'
 rw [e] at e';cases e'
 rw [d] at d'
 injection d' with d1 _
 have:its=its':=by simpa using congrArg Array.toList d1
 subst this
 exact r.inj r'
theorem Inv.tuple_inj(I:Inv X pins σ H s)(h:SqT X.K H a xs)(h':SqT X.K H a ys):xs=ys:=by
 obtain⟨its,r,⟨o,e,_,n,d⟩,_⟩:=I.tuple h
 obtain⟨its',r',⟨o',e',_,n',d'⟩,_⟩:=I.tuple h'
 rw [e] at e';cases e'
 rw [d] at d'
 injection d' with d1 _
 have:its=its':=by simpa using congrArg Array.toList d1
 subst this
 exact r.inj r'
end
abbrev Cx.wish(X:Cx)(E:Value->Shared->Prop):Cx:={ X with xe:=E }
abbrev Cx.nox(X:Cx):Cx:=X.wish fun _ _=>False
theorem Cx.Ok.wish{X:Cx}(ok:X.Ok)(E:Value->Shared->Prop):(X.wish E).Ok:=
 ⟨ok.mod,ok.kind,ok.glob,ok.blt,ok.above,ok.inj,ok.has,ok.cab,ok.hd,ok.frames,ok.stk,ok.exf,ok.bs,ok.bsz,ok.noex,ok.exfs,ok.funs,ok.frf⟩
theorem Cx.Ok.unwish{X:Cx}{E:Value->Shared->Prop}(ok:(X.wish E).Ok):X.Ok:=
 ⟨ok.mod,ok.kind,ok.glob,ok.blt,ok.above,ok.inj,ok.has,ok.cab,ok.hd,ok.frames,ok.stk,ok.exf,ok.bs,ok.bsz,ok.noex,ok.exfs,ok.funs,ok.frf⟩
section
variable{X:Cx}{pins:List (Addr × Obj)}{σ:St}{H:Hp}{s:Shared}{E:Value->Shared->Prop}
theorem Inv.wish(I:Inv X pins σ H s)(E:Value->Shared->Prop):Inv (X.wish E) pins σ H s:=⟨I.ok.wish E,I.os,I.bare,I.base,I.loc,I.cell,I.free,I.freeC,I.pin,I.hok,I.len⟩
theorem Inv.unwish(I:Inv (X.wish E) pins σ H s):Inv X pins σ H s:=⟨I.ok.unwish,I.os,I.bare,I.base,I.loc,I.cell,I.free,I.freeC,I.pin,I.hok,I.len⟩
theorem SP.unwish{D:Ends}{f:Flow}{s':Shared}(h:SP (X.wish E) pins D f s'):SP X pins D f s':=by
 cases f with
 | next=>obtain⟨σ',H',I,q⟩:=h;exact⟨σ',H',I.unwish,q⟩
 | brk=>obtain⟨σ',H',I,q⟩:=h;exact⟨σ',H',I.unwish,q⟩
 | cont=>obtain⟨σ',H',I,q⟩:=h;exact⟨σ',H',I.unwish,q⟩
 | ret u=>obtain⟨v,σ',H',I,r,q⟩:=h;exact⟨v,σ',H',I.unwish,r,q⟩
theorem PSs.nox{st:List Stmt}{t:TS}(h:PSs X.nox st t):PSs X st t:=fun pins s σ H D I hw =>
 wpAny_mono (h pins s σ H D (I.wish _) hw) (fun _ _ q=>q.unwish) fun _ _ z=>False.elim z
end
section
variable{X:Cx}{st:Stmt}{rest:List Stmt}{t u:TS}{e:Expr}{te:TE}{pos:Pos}
def c5n:TS:=fun D σ H=>D.nx σ H
def tSeq(t u:TS):TS:=fun D σ H=>t { D with nx:=u D } σ H
theorem a5s:PSs X [] c5n:=fun _ _ σ H _ I h=>wpAny_execs_nil ⟨σ,H,I,h⟩
theorem a0s(h1:PS X st t)(h2:PSs X rest u):PSs X (st :: rest) (tSeq t u):=by
 intro pins s σ H D I h
 refine wpAny_execs_cons (thn (h1 pins s σ H { D with nx:=u D } I h) fun f s1 q=>?_)
 cases f with
 | next =>
  obtain⟨σ',H',I',q⟩:=q
  exact h2 pins s1 σ' H' D I' q
 | ret v=>exact q
 | brk=>exact q
 | cont=>exact q
theorem a1h(h1:PS X st t):PSs X [st] t:=by
 intro pins s σ H D I h
 refine wpAny_execs_cons (thn (h1 pins s σ H D I h) fun f s1 q=>?_)
 cases f with
 | next=>exact wpAny_execs_nil q
 | ret v=>exact q
 | brk=>exact q
 | cont=>exact q
theorem Inv.quiet{pins:List (Addr × Obj)}{σ:St}{H:Hp}{s:Shared}(I:Inv X pins σ H s):interactive X.env=false:=by simp [interactive,I.ok.kind]
def c5o(te:TE):TS:=fun D σ H=>te σ H fun _ H1=>D.nx σ H1
theorem b6a(he:PE X e te)(hs:swapsWith e none pos.line X.env=pure false:=by rfl):PS X (.Expr e pos) (c5o te):=by
 intro pins s σ H D I h
 exact wpAny_Expr_any (thn (he pins s σ H _ I h) fun v s1 hq8=>by obtain⟨x,H1,I1,r1,q1⟩:=hq8;exact⟨σ,H1,I1,q1⟩) I.quiet hs
def tRet(te:TE):TS:=fun D σ H=>te σ H D.rt
theorem a2s(he:PE X e te):PS X (.Return (some e) pos) (tRet te):=by
 intro pins s σ H D I h
 exact wpAny_Return_some (thn (he pins s σ H _ I h) fun v s1 hq8=>by obtain⟨x,H1,I1,r1,q1⟩:=hq8;exact⟨x,σ,H1,I1,r1,q1⟩)
def tIfS(c:TT)(t u:TS):TS:=fun D σ H=>c σ H fun b H1=>if b=true then t D σ H1 else u D σ H1
theorem a9a{c:Expr}{a b:List Stmt}{tc:TT}(hc:PT X c tc)(ha:PSs X a t)(hb:PSs X b u):PS X (.If c a b pos) (tIfS tc t u):=by
 intro pins s σ H D I h
 refine wpAny_If (thn (hc pins s σ H _ I h) fun d s1 hq9=>?_)
 obtain⟨H1,I1,q1⟩:=hq9
 cases d with
 | true=>exact ha pins s1 σ H1 D I1 q1
 | false=>exact hb pins s1 σ H1 D I1 q1
end
abbrev TG:=V->St->Hp->(St->Hp->Prop)->Prop
abbrev TGs:=List V->St->Hp->(St->Hp->Prop)->Prop
def PG(X:Cx)(target:Expr)(t:TG):Prop:=
 ∀ (pins:List (Addr × Obj)) (s:Shared) (σ:St) (H:Hp) (v:V) (u:Value) (Q:St->Hp->Prop),Inv X pins σ H s->RelV v u->t v σ H Q ->
  wpAny (model X.prog X.w) X.A (assign target X.env u) (fun _ s'=>∃ σ' H',Inv X pins σ' H' s'/\Q σ' H') X.xe s
def PGs(X:Cx)(ts:List Expr)(t:TGs):Prop:=
 ∀ (pins:List (Addr × Obj)) (s:Shared) (σ:St) (H:Hp) (vs:List V) (us:List Value) (Q:St->Hp->Prop),Inv X pins σ H s->Vals vs us->t vs σ H Q ->
  wpAny (model X.prog X.w) X.A (assignInOrder ((assignEach ts X.env).map (·.2)) us) (fun _ s'=>∃ σ' H',Inv X pins σ' H' s'/\Q σ' H') X.xe s
abbrev TSet:=V->V->V->Hp->(Hp->Prop)->Prop
def PSet(X:Cx)(t:TSet):Prop:=
 ∀ (pins:List (Addr × Obj)) (s:Shared) (σ:St) (H:Hp) (o i v:V) (ov iv u:Value) (Q:Hp->Prop),Inv X pins σ H s->RelV o ov->RelV i iv->RelV v u->t o i v H Q ->
  wpAny (model X.prog X.w) X.A (setItem ov iv u) (fun _ s'=>∃ H',Inv X pins σ H' s'/\Q H') X.xe s
section
variable{X:Cx}{pos:Pos}
noncomputable def a3s(i:Nat):TG:=fun v σ H Q=>Q (σ.set i (some v)) H
theorem a6r{i:Nat}{x:Str}(hN:X.N.Nodup)(hi:X.N[i]? = some x)(hx:Loc X.env.scope x)(hf:X.fn x=true ∨ X.env.scope.names.lookup x=some .local:=by first | exact .inl rfl | exact .inr rfl | assumption):PG X (.Name x pos) (a3s i):=by
 intro pins s σ H v u Q I r h
 exact wpAny_assign_Name (b3u I hN hi hx r (fun s' I'=>⟨_,H,I',h⟩) hf)
noncomputable def gNil:TGs:=fun vs σ H Q=>vs=[]/\Q σ H
noncomputable def b7j(t:TG)(u:TGs):TGs:=fun vs σ H Q=>∃ v r,vs=v :: r/\t v σ H fun σ' H'=>u r σ' H' Q
theorem c6o:PGs X [] gNil:=by
 intro pins s σ H vs us Q I r h
 obtain⟨e,h⟩:=h
 subst e
 cases r
 exact assignInOrder_nil ⟨σ,H,I,h⟩
theorem b3x{e:Expr}{es:List Expr}{t:TG}{u:TGs}(h1:PG X e t)(h2:PGs X es u)
  (hs:(assignEach (e :: es) X.env).map (·.2)=assign e X.env :: (assignEach es X.env).map (·.2):=by rfl):PGs X (e :: es) (b7j t u):=by
 intro pins s σ H vs us Q I r h
 obtain⟨v,vr,e1,h⟩:=h
 subst e1
 cases r with
 | cons r rr =>
  rw [hs]
  refine assignInOrder_cons (thn (h1 pins s σ H _ _ _ I r h) fun _ s1 hq9=>?_)
  obtain⟨σ1,H1,I1,q1⟩:=hq9
  exact h2 pins s1 σ1 H1 _ _ Q I1 rr q1
noncomputable def gTup(K:W.Frag)(n:Nat)(t:TGs):TG:=fun v σ H Q=>∃ a xs,v=.ref a/\SqT K H a xs/\xs.length=n/\t xs σ H Q
theorem d0h{es:List Expr}{k:Nat}{t:TGs}{n:Nat}(hc:X.calm=true)(h:PGs X es t)
  (hn:(assignEach es X.env).length=n:=by rfl) (hst:(assignEach es X.env).findIdx? (·.1)=none:=by rfl):PG X (.Tuple es k pos) (gTup X.K n t):=by
 intro pins s σ H v u Q I r hw
 obtain⟨a,xs,e1,hq,hl,hw⟩:=hw
 subst e1
 cases r
 obtain⟨its,rv,ht,hz⟩:=I.tuple hq
 refine assign_Tuple_tuple (I.ok.hd hc) ht (by simp [hn,← hl,rv.length]) hst fun h' hx=>?_
 have I1:Inv X pins σ H { s with heap:=h' }:=I.kept (t':=s.toks) fun b o e=>hx b o (ne_of_lt (lt_size e)) e
 exact h pins _ σ H xs _ Q I1 (by simpa using rv) hw
def gSub(to ti:TE)(t:TSet):TG:=fun v σ H Q=>to σ H fun o H1=>ti σ H1 fun i H2=>t o i v H2 fun H3=>Q σ H3
theorem d0i{o i:Expr}{to ti:TE}{t:TSet}(ho:PE X o to)(hi:PE X i ti)(hs:PSet X t)
  (ha:∀ v,assign (.Subscript o i pos) X.env v=(do
   let ov ← holding [v] (eval o X.env)
   let iv ← holding [v,ov] (eval i X.env)
   standAt pos
   holding [v,ov,iv] (setItem ov iv v)
   release [v,ov,iv] []):=by intro _;rfl):PG X (.Subscript o i pos) (gSub to ti t):=by
 intro pins s σ H v u Q I r h
 rw [ha]
 refine wpAny_bind (wpAny_holding (thn (ho pins s σ H _ I h) fun ov s1 hq9=>?_))
 obtain⟨x,H1,I1,r1,q1⟩:=hq9
 refine wpAny_bind (wpAny_holding (thn (hi pins s1 σ H1 _ I1 q1) fun iv s2 hq9=>?_))
 obtain⟨y,H2,I2,r2,q2⟩:=hq9
 refine wpAny_bind (wpAny_standAt (wpAny_bind (wpAny_holding (thn (hs pins s2 σ H2 x y v ov iv u _ I2 r1 r2 r q2) fun _ s3 hq9=>?_))))
 obtain⟨H3,I3,q3⟩:=hq9
 exact wpAny_release ⟨σ,H3,I3,q3⟩
def tAsg(te:TE)(g:TG):TS:=fun D σ H=>te σ H fun x H1=>g x σ H1 D.nx
theorem d0j{tg e:Expr}{te:TE}{g:TG}(he:PE X e te)(hg:PG X tg g)(hs:swapsWithSole [tg] e pos.line X.env=pure false:=by rfl)(hw:swappedStores [tg] e X.env=pure none:=by rfl)
  (h1:(assignEach [tg] X.env).map (·.2)=[assign tg X.env]:=by rfl):PS X (.Assign [tg] e pos) (tAsg te g):=by
 intro pins s σ H D I h
 refine wpAny_Assign_stores (thn (he pins s σ H _ I h) fun v s1 hq8=>?_) hs hw
 obtain⟨x,H1,I1,r1,q1⟩:=hq8
 rw [h1]
 exact thn (hg pins s1 σ H1 x v _ I1 r1 q1) fun _ s2 q=>q
theorem a2f{i:Nat}{x:Str}{e:Expr}{te:TE}{pos':Pos}(hN:X.N.Nodup)(hi:X.N[i]? = some x)(hx:Loc X.env.scope x)(he:PE X e te)(hs:swapsWith e (some (.Name x pos')) pos.line X.env=pure false:=by rfl)(hf:X.fn x=true ∨ X.env.scope.names.lookup x=some .local:=by first | exact .inl rfl | exact .inr rfl | assumption) :
  PS X (.Assign [.Name x pos'] e pos) (tAsg te (a3s i)):=by
 intro pins s σ H D I h
 refine wpAny_Assign_Name (thn (he pins s σ H _ I h) fun v s1 hq8=>?_) hs
 obtain⟨y,H1,I1,r1,q1⟩:=hq8
 exact b3u I1 hN hi hx r1 (fun s2 I2=>⟨_,H1,I2,q1⟩) hf
end
section
variable{X:Cx}{pos:Pos}
end
structure It where
 go:Nat->Hp->Prop
 yld:Nat->Hp->V->Hp->Prop
 stop:Nat->Hp->Prop
def FpOk(X:Cx)(pins:List (Addr × Obj))(H:Hp)(b:Addr):Prop:=
 H b=none/\b ≠ X.env.locals/\b ∉ X.fs/\(b ∈ X.ex ∨ X.s₀.heap.objs.size <= b)/\(∀ x c,X.env.cells.lookup x=some c->c ≠ b)/\∀ p ∈ X.pn ++ pins,p.1 ≠ b
theorem Inv.fpOk{X:Cx}{pins:List (Addr × Obj)}{σ:St}{H H':Hp}{s:Shared}{b:Addr}(I:Inv X pins σ H s)(hb:s.heap.objs.size <= b)(hn:H' b=none):FpOk X pins H' b:=by
 refine⟨hn,ne_of_gt (lt_of_lt_of_le I.lt hb),I.nofs hb,.inr (le_trans I.sz hb),fun x c e z=>?_,fun p hp z=>?_⟩
 ·obtain⟨v,q⟩:=I.cell x c e
  exact absurd (lt_of_lt_of_le q.lt (by rw [z];exact hb)) (lt_irrefl _)
 ·exact absurd (lt_of_lt_of_le (lt_size (I.pin p hp).1) (by rw [z];exact hb)) (lt_irrefl _)
structure Turn(P:Program)(w:World)(K:W.Frag)(tg:Expr)(J:It)(fp:List Addr)(it:Addr)(tn:Nat->Heap->Prop):Prop where
 mem:it ∈ fp
 obj:∀ i h,tn i h->∀ b ∈ fp,∃ o,h.get? b=some o/\∀ v,o.data ≠ .cell v
 keep:∀ i h h',tn i h->(∀ b ∈ fp,∀ o,h.get? b=some o->h'.get? b=some o)->tn i h'
 item:∀ (X:Cx),X.prog=P->X.w=w->X.K=K->X.calm=true->∀ (i:Nat) (pins:List (Addr × Obj)) (s:Shared) (σ:St) (H:Hp) (E:Value->Shared->Prop),Inv X pins σ H s->(∀ b ∈ fp,FpOk X pins H b)->tn i s.heap->J.go i H ->
  wpAny (model P w) X.A (pyNext (.ref it)) (fun r s1=>∃ u,r=some u /\
   wpAny (model P w) X.A (letOwnedTupleGo tg (.ref it) u) (fun _ s2=>∃ x H',Inv X pins σ H' s2/\RelV x u/\J.yld i H x H'/\tn (i + 1) s2.heap/\∀ b ∈ fp,H' b=none) E s1) E s
 done:∀ (X:Cx),X.prog=P->X.w=w->X.K=K->X.calm=true->∀ (i:Nat) (pins:List (Addr × Obj)) (s:Shared) (σ:St) (H:Hp) (E:Value->Shared->Prop),Inv X pins σ H s->(∀ b ∈ fp,FpOk X pins H b)->tn i s.heap->J.stop i H ->
  wpAny (model P w) X.A (pyNext (.ref it)) (fun r s1=>r=none/\Inv X pins σ H s1) E s
 self:∀ (A:Around) (i:Nat) (s:Shared) (Q:Value->Shared->Prop) (E:Value->Shared->Prop),tn i s.heap->Q (.ref it) s->wpAny (model P w) A (pyIter (.ref it)) Q E s
abbrev TI:=St->Hp->(It->Hp->Prop)->Prop
def PIE(X:Cx)(pins:List (Addr × Obj))(σ:St)(tg:Expr)(R:It->Hp->Prop)(itv:Value)(s2:Shared):Prop:=
 ∃ (it:Addr) (fp:List Addr) (tn:Nat->Heap->Prop) (J:It) (H':Hp),itv=.ref it/\Inv X pins σ H' s2/\Turn X.prog X.w X.K tg J fp it tn/\tn 0 s2.heap/\(∀ b ∈ fp,FpOk X pins H' b)/\R J H'
def PI(X:Cx)(tg iter:Expr)(wi:TI):Prop:=
 ∀ (pins:List (Addr × Obj)) (s:Shared) (σ:St) (H:Hp) (R:It->Hp->Prop),Inv X pins σ H s->wi σ H R ->
  wpAny (model X.prog X.w) X.A (eval iter X.env) (fun v s1=>wpAny (model X.prog X.w) X.A (pyIter v) (PIE X pins σ tg R) X.xe s1) X.xe s
theorem b0i{M:Model}{A:Around}{E:Value->Shared->Prop}{s:Shared}{tg:Expr}{it:Addr}{u:Value}{o:Obj}{n:String}{vs:Array Value}{Q:Unit->Shared->Prop}(ho:s.heap.get? it=some o)(hc:o.cls=.type n)(hd:o.data=.fields vs)
  (hn:["enumerate","zip","dict_itemiterator","dict_reverseitemiterator","odict_iterator","itertools.zip_longest","itertools.pairwise"].contains n=false) (hQ:Q () s):wpAny M A (letOwnedTupleGo tg (.ref it) u) Q E s:=by
 unfold letOwnedTupleGo
 cases tg<;>first
  | exact wpAny_pure hQ
  | (cases u<;>first
    | exact wpAny_pure hQ
    | (
      refine wpAny_bind (wpAny_load ho ?_)
      rw [hc,hd]
      show wpAny M A (if (["enumerate","zip","dict_itemiterator","dict_reverseitemiterator","odict_iterator","itertools.zip_longest","itertools.pairwise"].contains n && vs[0]? == some (rawInt _))=true then _ else _) Q E s
      rw [if_neg (by intro h;rw [hn,Bool.false_and] at h;cases h)]
      exact wpAny_pure hQ))
noncomputable def Itl(K:W.Frag)(a:Addr):It:=
 ⟨fun i H=>∃ xs x,SqL K H a xs/\xs[i]? = some x,fun i H x H'=>H'=H/\∀ xs,SqL K H a xs->xs[i]? = some x,fun i H=>∃ xs,SqL K H a xs/\xs.length <= i⟩
noncomputable def Itt(K:W.Frag)(a:Addr):It:=
 ⟨fun i H=>∃ xs x,SqT K H a xs/\xs[i]? = some x,fun i H x H'=>H'=H/\∀ xs,SqT K H a xs->xs[i]? = some x,fun i H=>∃ xs,SqT K H a xs/\xs.length <= i⟩
noncomputable def Itr(lo:Int)(n:Nat):It:=⟨fun i _=>i < n,fun i H x H'=>H'=H/\x=.int (lo + i),fun i _=>n <= i⟩
theorem b2e{P:Program}{w:World}{K:W.Frag}{tg:Expr}(a it:Addr):Turn P w K tg (Itl K a) [it] it (fun i h=>h.IsListIter it a i) where
 mem:=by simp
 obj:=fun i h st b hb=>by
  have e:b=it:=by simpa using hb
  subst e
  obtain⟨o,e,c,d⟩:=st
  exact⟨o,e,fun v z=>by rw [d] at z;cases z⟩
 keep:=fun i h h' st k=>st.at fun o e=>k it (by simp) o e
 item:=by
  intro X hP hw hK hc i pins s σ H E I hf st hg
  subst hP hw hK
  obtain⟨xs,x,hq,hx⟩:=hg
  obtain⟨its,rv,p,hz⟩:=I.list hq
  obtain⟨u,hu,ru⟩:=rv.get hx
  obtain⟨f0,f1,f2,f3,f4,f5⟩:=hf it (by simp)
  refine wpAny_pyNext_list_item st p.isList (x:=u) (by simpa using hu) fun h' st' sb=>?_
  have I1:Inv X pins σ H { s with heap:=h' }:=I.turned (t':=s.toks) (fun b o hb e=>(sb.2 b hb).trans e) f0 f1 f3 f4 f5
  obtain⟨o,e,c,d⟩:=id st'
  exact⟨u,rfl,b0i (s:={ s with heap:=h' }) e c d (by decide) ⟨x,H,I1,ru,⟨rfl,fun ys hy=>by rw [I.list_inj hy hq];exact hx⟩,st',fun b hb=>(hf b hb).1⟩⟩
 done:=by
  intro X hP hw hK hc i pins s σ H E I hf st hg
  subst hP hw hK
  obtain⟨xs,hq,hx⟩:=hg
  obtain⟨its,rv,p,hz⟩:=I.list hq
  obtain⟨f0,f1,f2,f3,f4,f5⟩:=hf it (by simp)
  have hl:=rv.length
  exact wpAny_pyNext_list_end (I.ok.hd hc) st p.isList (by simp;omega) fun h' eb=>⟨rfl,I.turned (t':=s.toks) (fun b o hb e=>eb b o hb e) f0 f1 f3 f4 f5⟩
 self:=fun _ _ _ _ _ st h=>wpAny_pyIter_listiter st h
theorem b7k{P:Program}{w:World}{K:W.Frag}{tg:Expr}(a it:Addr):Turn P w K tg (Itt K a) [it] it (fun i h=>h.IsTupleIter it a i) where
 mem:=by simp
 obj:=fun i h st b hb=>by
  have e:b=it:=by simpa using hb
  subst e
  obtain⟨o,e,c,d⟩:=st
  exact⟨o,e,fun v z=>by rw [d] at z;cases z⟩
 keep:=fun i h h' st k=>st.at fun o e=>k it (by simp) o e
 item:=by
  intro X hP hw hK hc i pins s σ H E I hf st hg
  subst hP hw hK
  obtain⟨xs,x,hq,hx⟩:=hg
  obtain⟨its,rv,p,hz⟩:=I.tuple hq
  obtain⟨u,hu,ru⟩:=rv.get hx
  obtain⟨f0,f1,f2,f3,f4,f5⟩:=hf it (by simp)
  refine wpAny_pyNext_tuple_item st (show s.heap.IsTuple a its.toArray from p) (x:=u) (by simpa using hu) fun h' st' sb=>?_
  have I1:Inv X pins σ H { s with heap:=h' }:=I.turned (t':=s.toks) (fun b o hb e=>(sb.2 b hb).trans e) f0 f1 f3 f4 f5
  obtain⟨o,e,c,d⟩:=id st'
  exact⟨u,rfl,b0i (s:={ s with heap:=h' }) e c d (by decide) ⟨x,H,I1,ru,⟨rfl,fun ys hy=>by rw [I.tuple_inj hy hq];exact hx⟩,st',fun b hb=>(hf b hb).1⟩⟩
 done:=by
  intro X hP hw hK hc i pins s σ H E I hf st hg
  subst hP hw hK
  obtain⟨xs,hq,hx⟩:=hg
  obtain⟨its,rv,p,hz⟩:=I.tuple hq
  obtain⟨f0,f1,f2,f3,f4,f5⟩:=hf it (by simp)
  have hl:=rv.length
  exact wpAny_pyNext_tuple_end (I.ok.hd hc) st (show s.heap.IsTuple a its.toArray from p) (by simp;omega) fun h' eb=>⟨rfl,I.turned (t':=s.toks) (fun b o hb e=>eb b o hb e) f0 f1 f3 f4 f5⟩
 self:=fun _ _ _ _ _ st h=>wpAny_pyIter_tupleiter st h
theorem b7l{P:Program}{w:World}{K:W.Frag}{tg:Expr}(it:Addr)(lo:Int)(n:Nat):Turn P w K tg (Itr lo n) [it] it (fun i h=>IsRangeIter h it (lo + (i:Nat) * 1) ((n:Int) - (i:Nat)) 1) where
 mem:=by simp
 obj:=fun i h st b hb=>by
  have e:b=it:=by simpa using hb
  subst e
  exact⟨_,st,fun v z=>by
   have z':Data.fields _=Data.cell v:=z
   cases z'⟩
 keep:=fun i h h' st k=>k it (by simp) _ st
 item:=by
  intro X hP hw hK hc i pins s σ H E I hf st hg
  subst hP hw hK
  obtain⟨f0,f1,f2,f3,f4,f5⟩:=hf it (by simp)
  have W:=Walks.range (prog:=X.prog) (w:=X.w) (I.ok.hd hc) it lo 1 n
  refine W.item i s _ _ hg st fun v h' tk hv st' kk=>?_
  obtain⟨t,rfl⟩:=hv
  have I1:Inv X pins σ H { s with heap:=h',toks:=tk }:=I.turned (fun b o hb e=>kk b o (by simpa using hb) e) f0 f1 f3 f4 f5
  refine⟨_,rfl,b0i (s:={ s with heap:=h',toks:=tk }) (n:="range_iterator") st' rfl rfl (by decide) ⟨.int (lo + i),H,I1,⟨t,?_⟩,⟨rfl,rfl⟩,st',fun b hb=>(hf b hb).1⟩⟩
  rw [Int.mul_one]
 done:=by
  intro X hP hw hK hc i pins s σ H E I hf st hg
  subst hP hw hK
  obtain⟨f0,f1,f2,f3,f4,f5⟩:=hf it (by simp)
  exact wpAny_pyNext_range_end (I.ok.hd hc) st (by have:n <= i:=hg;omega) fun h' eb=>⟨rfl,I.turned (t':=s.toks) (fun b o hb e=>eb b o hb e) f0 f1 f3 f4 f5⟩
 self:=fun _ _ _ _ _ st h=>wpAny_pyIter_rangeiter st h
end L2
namespace L2
open PySem PySem.Spec PyProof.Rows
section
variable{X:Cx}{tg:Expr}
def iList(K:W.Frag)(tl:TE):TI:=fun σ H R=>tl σ H fun x H1=>∃ a,x=.ref a/\(∃ xs,SqL K H1 a xs)/\R (Itl K a) H1
theorem b6b{l:Expr}{tl:TE}(hl:PE X l tl):PI X tg l (iList X.K tl):=by
 intro pins s σ H R I h
 refine thn (hl pins s σ H _ I h) fun v s1 hq9=>?_
 obtain⟨x,H1,I1,r1,q1⟩:=hq9
 obtain⟨a,e,⟨xs,hq⟩,q⟩:=q1
 subst e
 cases r1
 obtain⟨its,rv,p,hz⟩:=I1.list hq
 refine wpAny_pyIter_list p.isList ?_
 refine⟨s1.heap.objs.size,[s1.heap.objs.size],_,_,H1,rfl,I1.kept (t':=s1.toks) fun b o e=>get?_push_of_some _ e,b2e a _,⟨_,get?_push_size _ rfl,rfl,rfl⟩,fun b hb=>?_,q⟩
 have e:b=s1.heap.objs.size:=by simpa using hb
 subst e
 exact I1.fpOk (le_refl _) (I1.hok.fresh (le_refl _))
theorem c2q{pins:List (Addr × Obj)}{σ:St}{H:Hp}{s:Shared}{R:It->Hp->Prop}{E:Value->Shared->Prop}{lo hi:Int}{t u v:Tok}{tk:Nat}(I:Inv X pins σ H s)(h1:-(2 ^ 62) <= lo)(h2:lo < 2 ^ 62)(h3:-(2 ^ 62) <= hi)(h4:hi < 2 ^ 62)
  (q:R (Itr lo (hi - lo).toNat) H):wpAny (model X.prog X.w) X.A (pyIter (.ref s.heap.objs.size)) (PIE X pins σ tg R) E { s with heap:=s.heap.push { cls:=.type "range",data:=.fields #[.int lo t,.int hi u,.int 1 v] },toks:=tk }:=by
 refine wpAny_pyIter_range (IsRange.new ..) (small_one h1 h2 h3 h4) ?_
 have I1:Inv X pins σ H { s with heap:=s.heap.push { cls:=.type "range",data:=.fields #[.int lo t,.int hi u,.int 1 v] },toks:=tk }:=I.kept fun b o e=>get?_push_of_some _ e
 refine⟨(s.heap.push { cls:=.type "range",data:=.fields #[.int lo t,.int hi u,.int 1 v] }).objs.size,[(s.heap.push { cls:=.type "range",data:=.fields #[.int lo t,.int hi u,.int 1 v] }).objs.size],_,_,H,rfl,
  I1.kept (t':=tk) fun b o e=>get?_push_of_some _ e,b7l _ lo (hi - lo).toNat,?_,fun b hb=>?_,q⟩
 ·have e1:lo + ((0:Nat):Int) * 1=lo:=by simp
  have e2:(((hi - lo).toNat:Nat):Int) - ((0:Nat):Int)=Builtin.Range.rangeSize lo hi 1:=by rw [rangeSize_one];split<;>omega
  show IsRangeIter _ _ (lo + ((0:Nat):Int) * 1) ((((hi - lo).toNat:Nat):Int) - ((0:Nat):Int)) 1
  rw [e1,e2]
  exact get?_push_size _ rfl
 ·have e:b=(s.heap.push { cls:=.type "range",data:=.fields #[.int lo t,.int hi u,.int 1 v] }).objs.size:=by simpa using hb
  subst e
  exact I1.fpOk (le_refl _) (I1.hok.fresh (le_refl _))
def c5p(ta:TA):TI:=fun σ H R=>ta σ H fun vs H1=>∃ j:Int,vs=[.int j] /\ -(2 ^ 62) <= j/\j < 2 ^ 62/\R (Itr 0 j.toNat) H1
theorem c0a{a:Expr}{ta:TA}{p pos:Pos} (hg:Gl X "range") (hm:X.mg "range" = none) (ha:PA X [a] ta) (hs:starEach [a] X.env=[(false,eval a X.env)]:=by rfl):PI X tg (.Call (.Name "range" p) [a] [] pos) (c5p ta):=by
 intro pins s σ H R I h
 refine Call_ (a8f I hg hm boot_range (PyProof.Rows.callWith_type1 (thn (ha pos pins s σ H _ I h) fun us s1 hq8=>?_) hs rfl))
 obtain⟨vs,H1,I1,r1,q1⟩:=hq8
 obtain⟨j,e,q1,q2,q⟩:=q1
 subst e
 cases r1 with
 | cons r rr =>
  cases rr
  obtain⟨t,rfl⟩:=r
  exact call_range_1 (c2q I1 (by omega) (by omega) q1 q2 (by simpa using q))
def tFor(wi:TI)(g:TG)(tb:TS):TS:=fun D σ H=>wi σ H fun J H1=>∃ W:Nat->Nat->St->Hp->Prop,(∃ m,W 0 m σ H1)/\∀ i m σ H,W i m σ H ->
 (J.stop i H/\D.nx σ H) ∨ (J.go i H/\∃ N:St->Hp->Prop,(∀ σ' H',N σ' H'->∃ m',m' < m/\W (i + 1) m' σ' H')/\∀ x H',J.yld i H x H'->g x σ H' fun σ2 H2=>tb { D with nx:=N,ct:=N,bk:=D.nx } σ2 H2)
noncomputable def a8g(fp:List Addr)(h:Heap):List (Addr × Obj):=fp.filterMap fun b=>(h.get? b).map fun o=>(b,o)
theorem a5i{fp:List Addr}{h:Heap}{b:Addr}{o:Obj}(hb:b ∈ fp)(e:h.get? b=some o):(b,o) ∈ a8g fp h:=mem_filterMap.mpr ⟨b,hb,by rw [e];rfl⟩
theorem c0b{fp:List Addr}{h:Heap}{p:Addr × Obj}(hp:p ∈ a8g fp h):p.1 ∈ fp/\h.get? p.1=some p.2:=by
 obtain⟨b,hb,e⟩:=mem_filterMap.mp hp
 cases q:h.get? b with
 | none=>rw [q] at e;cases e
 | some o =>
  rw [q] at e
  have e':(b,o)=p:=Option.some.inj e
  subst e'
  exact⟨hb,q⟩
theorem Inv.pinned{pins:List (Addr × Obj)}{σ:St}{H:Hp}{s:Shared}{fp:List Addr}(I:Inv X pins σ H s)(hf:∀ b ∈ fp,FpOk X pins H b)(ho:∀ b ∈ fp,∃ o,s.heap.get? b=some o/\∀ v,o.data ≠ .cell v):Inv X (pins ++ a8g fp s.heap) σ H s:=
 I.pins_of fun p hp=>(mem_append.mp hp).elim (fun z=>I.pin p (mem_append_right _ z)) fun z=>by
  obtain⟨hb,e⟩:=c0b z
  obtain⟨f0,f1,f2,_⟩:=hf p.1 hb
  obtain⟨o,e',d⟩:=ho p.1 hb
  rw [e] at e';cases e'
  exact⟨e,f0,f1,f2,d⟩
theorem Inv.unpinned{pins pl:List (Addr × Obj)}{σ:St}{H:Hp}{s:Shared}(I:Inv X (pins ++ pl) σ H s):Inv X pins σ H s:=I.pins_of fun p hp=>I.pin p (mem_append_right _ (mem_append_left _ hp))
theorem d0k{iter:Expr}{body:List Stmt}{wi:TI}{g:TG}{tb:TS}{pos:Pos}(hp:PassesOwn (model X.prog X.w) X.A X.env X.xe)(hc:X.calm=true)(hi:PI X tg iter wi)(hg:PG X tg g)(hb:PSs X body tb)
  (hs:∀ x,foldedSetIterable iter X.env x=pure x:=by intro _;rfl):PS X (.For tg iter body [] pos) (tFor wi g tb):=by
 intro pins s σ H D I h
 refine wpAny_For (thn (hi pins s σ H _ I h) fun v s1 h1=>thn h1 fun itv s2 h2=>?_) hs
 obtain⟨it,fp,tn,J,H2,e,I2,T,st2,f2,W,⟨m0,w0⟩,turn⟩:=h2
 subst e
 -- what stays true of the iterator's objects through the loop
 have stat:∀ {H':Hp},(∀ b ∈ fp,H' b=none)->∀ b ∈ fp,FpOk X pins H' b:=fun hn b hb=>⟨hn b hb,(f2 b hb).2⟩
 refine codeAny_forLoop_any (fun n s'=>∃ i σ' H',Inv X pins σ' H' s'/\tn i s'.heap/\(∀ b ∈ fp,H' b=none)/\W i n σ' H') ?_ m0 ⟨0,σ,H2,I2,st2,fun b hb=>(f2 b hb).1,w0⟩
 rintro n s3 ⟨i,σ3,H3,I3,st3,fr3,w3⟩
 rcases turn i n σ3 H3 w3 with⟨stop,qn⟩ | ⟨go,N,hN,step⟩
 ·refine wpAny_passesOwn hp (thn (T.done X rfl rfl rfl hc i pins s3 σ3 H3 X.xe I3 (stat fr3) st3 stop) fun r s4 hq9=>?_)
  obtain⟨hr,I4⟩:=hq9
  subst hr
  exact wpAny_execs_nil ⟨σ3,H3,I4,qn⟩
 ·refine wpAny_passesOwn hp (thn (T.item X rfl rfl rfl hc i pins s3 σ3 H3 X.xe I3 (stat fr3) st3 go) fun r s4 hq9=>?_)
  obtain⟨u,hr,h4⟩:=hq9
  subst hr
  refine wpAny_passesOwn hp (thn h4 fun _ s5 hq9=>?_)
  obtain⟨x,H5,I5,r5,y5,st5,fr5⟩:=hq9
  have I5':=I5.pinned (stat fr5) (T.obj _ _ st5)
  refine wpAny_passesOwn hp (thn (hg _ s5 σ3 H5 x u _ I5' r5 (step x H5 y5)) fun _ s6 hq9=>?_)
  obtain⟨σ6,H6,I6,q6⟩:=hq9
  refine wpAny_passesOwn hp (thn (hb _ s6 σ6 H6 _ I6 q6) fun f s7 q7=>?_)
  have again:∀ {σ7:St} {H7:Hp},Inv X (pins ++ a8g fp s5.heap) σ7 H7 s7->N σ7 H7->∃ m,m < n/\∃ i σ' H',Inv X pins σ' H' s7/\tn i s7.heap/\(∀ b ∈ fp,H' b=none)/\W i m σ' H':=fun{σ7 H7} I7 n7=>by
   obtain⟨m',hm,w7⟩:=hN σ7 H7 n7
   refine⟨m',hm,i + 1,σ7,H7,I7.unpinned,T.keep _ _ _ st5 fun b hb o e=>(I7.pin (b,o) (mem_append_right _ (mem_append_right _ (a5i hb e)))).1,fun b hb=>?_,w7⟩
   obtain⟨o,e,d⟩:=T.obj _ _ st5 b hb
   exact(I7.pin (b,o) (mem_append_right _ (mem_append_right _ (a5i hb e)))).2.1
  cases f with
  | next=>obtain⟨σ7,H7,I7,n7⟩:=q7;exact again I7 n7
  | cont=>obtain⟨σ7,H7,I7,n7⟩:=q7;exact again I7 n7
  | brk=>obtain⟨σ7,H7,I7,q7⟩:=q7;exact⟨σ7,H7,I7.unpinned,q7⟩
  | ret v=>obtain⟨x7,σ7,H7,I7,r7,q7⟩:=q7;exact⟨x7,σ7,H7,I7.unpinned,r7,q7⟩
end
end L2
namespace L2
open PySem PySem.Spec PyProof.Rows
abbrev R2:=V->V->Hp->VK->Prop
def OpR(X:Cx)(f:Value->Value->Sem Value)(r:R2):Prop:=
 ∀ (pins:List (Addr × Obj)) (s:Shared) (σ:St) (H:Hp) (x y:V) (v u:Value) (Q:VK),Inv X pins σ H s->RelV x v->RelV y u->r x y H Q ->
  wpAny (model X.prog X.w) X.A (f v u) (EP X pins σ Q) X.xe s
def a1k(X:Cx)(f:Value)(r:List V->Hp->VK->Prop):Prop:=
 ∀ (pins:List (Addr × Obj)) (s:Shared) (σ:St) (H:Hp) (xs:List V) (us:List Value) (Q:VK),Inv X pins σ H s->Vals xs us->r xs H Q ->
  wpAny (model X.prog X.w) X.A (call f us) (EP X pins σ Q) X.xe s
def TruR(X:Cx)(r:V->Hp->(Bool->Hp->Prop)->Prop):Prop:=
 ∀ (pins:List (Addr × Obj)) (s:Shared) (σ:St) (H:Hp) (x:V) (v:Value) (Q:Bool->Hp->Prop),Inv X pins σ H s->RelV x v->r x H Q ->
  wpAny (model X.prog X.w) X.A (truthy v) (TP X pins σ Q) X.xe s
def tOp(r:R2)(ta tb:TE):TE:=fun σ H Q=>ta σ H fun x H1=>tb σ H1 fun y H2=>r x y H2 Q
def rI(C:Int->Int->Prop)(g:Int->Int->V):R2:=fun x y H Q=>∃ i j,x=.int i/\y=.int j/\C i j/\Q (g i j) H
def rI0(g:Int->Int->V):R2:=fun x y H Q=>∃ i j,x=.int i/\y=.int j/\Q (g i j) H
section
variable{X:Cx}{a b c:Expr}{ta tb tc:TE}{pos:Pos}
theorem binT(ha:PE X a ta)(hb:PE X b tb){pins:List (Addr × Obj)}{s:Shared}{σ:St}{H:Hp}{R:V->V->Hp->Prop}(I:Inv X pins σ H s)
  (h:ta σ H fun x H1=>tb σ H1 fun y H2=>R x y H2) {Q:Value->Shared->Prop} {f:Value->Value->Sem Value}
  (hf:∀ v u s2 x y H2,Inv X pins σ H2 s2->RelV x v->RelV y u->R x y H2->wpAny (model X.prog X.w) X.A (f v u) Q X.xe s2) :
  wpAny (model X.prog X.w) X.A (eval a X.env) (fun v s₁=>wpAny (model X.prog X.w) X.A (eval b X.env) (fun u s₂=>wpAny (model X.prog X.w) X.A (f v u) Q X.xe s₂) X.xe s₁) X.xe s:=by
 refine thn (ha pins s σ H _ I h) fun v s1 hq9=>?_
 obtain⟨x,H1,I1,r1,q1⟩:=hq9
 refine thn (hb pins s1 σ H1 _ I1 q1) fun u s2 hq9=>?_
 obtain⟨y,H2,I2,r2,q2⟩:=hq9
 exact hf v u s2 x y H2 I2 r1 r2 q2
theorem a1l{op:Operator}{r:R2}(ho:OpR X (binaryOp op) r)(ha:PE X a ta)(hb:PE X b tb):PE X (.BinOp a op b pos) (tOp r ta tb):=by
 intro pins s σ H Q I h
 exact wpAny_BinOp (binT ha hb I h fun v u s2 x y H2 I2 rx ry q=>ho pins s2 σ H2 x y v u Q I2 rx ry q)
theorem opI{f:Value->Value->Sem Value}{C:Int->Int->Prop}{g:Int->Int->Int}
  (rule:∀ (i j:Int) (t u:Tok) (s:Shared) (Q:Value->Shared->Prop) (E:Value->Shared->Prop),C i j->Q (.int (g i j) s.toks) { s with toks:=s.toks + 1 }->wpAny (model X.prog X.w) X.A (f (.int i t) (.int j u)) Q E s) :
  OpR X f (rI C fun i j=>.int (g i j)):=by
 intro pins s σ H x y v u Q I rx ry h
 obtain⟨i,j,rfl,rfl,hc,q⟩:=h
 obtain⟨t,rfl⟩:=rx
 obtain⟨t',rfl⟩:=ry
 exact rule i j t t' s _ _ hc ⟨.int (g i j),H,I.tok _,⟨_,rfl⟩,q⟩
theorem opI0{f:Value->Value->Sem Value}{g:Int->Int->Int}
  (rule:∀ (i j:Int) (t u:Tok) (s:Shared) (Q:Value->Shared->Prop) (E:Value->Shared->Prop),Q (.int (g i j) s.toks) { s with toks:=s.toks + 1 }->wpAny (model X.prog X.w) X.A (f (.int i t) (.int j u)) Q E s) :
  OpR X f (rI0 fun i j=>.int (g i j)):=by
 intro pins s σ H x y v u Q I rx ry h
 obtain⟨i,j,rfl,rfl,q⟩:=h
 obtain⟨t,rfl⟩:=rx
 obtain⟨t',rfl⟩:=ry
 exact rule i j t t' s _ _ ⟨.int (g i j),H,I.tok _,⟨_,rfl⟩,q⟩
theorem opB0{f:Value->Value->Sem Value}{g:Int->Int->Bool}
  (rule:∀ (i j:Int) (t u:Tok) (s:Shared) (Q:Value->Shared->Prop) (E:Value->Shared->Prop),Q (.bool (g i j)) s->wpAny (model X.prog X.w) X.A (f (.int i t) (.int j u)) Q E s) :
  OpR X f (rI0 fun i j=>.bl (g i j)):=by
 intro pins s σ H x y v u Q I rx ry h
 obtain⟨i,j,rfl,rfl,q⟩:=h
 obtain⟨t,rfl⟩:=rx
 obtain⟨t',rfl⟩:=ry
 exact rule i j t t' s _ _ ⟨.bl (g i j),H,I,rfl,q⟩
def CDiv(i j:Int):Prop:=0 < j/\j < 1073741824
def CPow(i j:Int):Prop:=0 <= j/\j <= 1000000/\i.natAbs < 2 ^ 64
def CMul(i j:Int):Prop:=(-(2 ^ 64) < i/\i < 2 ^ 64) ∨ (-(2 ^ 64) < j/\j < 2 ^ 64)
theorem CMul.ok{i j:Int}(h:CMul i j):IntMulOk i j:=by
 rcases h with⟨h1,h2⟩ | ⟨h1,h2⟩
 ·exact .of_left (intBits_le_64 h1 h2)
 ·exact .of_right (intBits_le_64 h1 h2)
theorem b7m(k:Nat):(0:Int) <= 2 ^ k:=by
 rw [two_pow_cast]
 exact Int.natCast_nonneg _
theorem a8h:OpR X (binaryOp .Add) (rI0 fun i j=>.int (i + j)):=opI0 fun _ _ _ _ _ _ _ q=>add_int q
theorem d0l:OpR X (binaryOp .Sub) (rI0 fun i j=>.int (i - j)):=opI0 fun _ _ _ _ _ _ _ q=>sub_int q
theorem a8i:OpR X (binaryOp .Mult) (rI CMul fun i j=>.int (i * j)):=opI fun _ _ _ _ _ _ _ hc q=>mul_int q hc.ok
theorem c6p:OpR X (binaryOp .FloorDiv) (rI CDiv fun i j=>.int (i / j)):=opI fun i j _ _ _ _ _ hc q=>by
 have h1:(0:Int) < j:=hc.1
 have h2:j < 1073741824:=hc.2
 exact floordiv_int (by omega) (by rw [Int.fdiv_eq_ediv_of_nonneg i (by omega)];exact q) (.inl (PyProof.noPylong_small (by omega)))
theorem a6s:OpR X (binaryOp .Mod) (rI (fun _ j=>0 < j) fun i j=>.int (i % j)):=opI fun i j _ _ _ _ _ hc q=>by
 have h1:(0:Int) < j:=hc
 exact mod_int' (by omega) (by rw [Int.fmod_eq_emod_of_nonneg i (by omega)];exact q)
theorem d0m:OpR X (binaryOp .Pow) (rI CPow fun i j=>.int (i ^ j.toNat)):=opI fun _ _ _ _ _ _ _ hc q=>pow_int_small hc.1 hc.2.1 hc.2.2 q
theorem d0n:OpR X (binaryOp .RShift) (rI (fun _ j=>0 <= j) fun i j=>.int (i / 2 ^ j.toNat)):=opI fun i j _ _ _ _ _ hc q =>
 rshift_int hc (by rw [Int.fdiv_eq_ediv_of_nonneg i (b7m _)];exact q)
end
noncomputable def scal:V->V->Bool
 | .non,.non=>true | .non,.int _=>true | .int _,.non=>true | .non,.bl _=>true | .bl _,.non=>true | .non,.str _=>true | .str _,.non=>true
 | .int _,.int _=>true | .bl _,.bl _=>true | .str _,.str _=>true | .byt _,.byt _=>true
 | .int _,.str _=>true | .str _,.int _=>true | .bl _,.str _=>true | .str _,.bl _=>true
 | _,_=>false
def rEq:R2:=fun x y H Q=>scal x y=true/\Q (.bl (decide (x=y))) H
def rNe:R2:=fun x y H Q=>scal x y=true/\Q (.bl (!decide (x=y))) H
theorem b6c{i j:Int}:decide (V.int i=V.int j)=(i == j):=by
 rw [Bool.eq_iff_iff]
 simp
theorem c0c{i j:Bool}:decide (V.bl i=V.bl j)=(i == j):=by
 rw [Bool.eq_iff_iff]
 simp
theorem b6d{i j:Str}:decide (V.str i=V.str j)=(i == j):=by
 rw [Bool.eq_iff_iff]
 simp
theorem b6e{i j:Array UInt8}:decide (V.byt i=V.byt j)=(i.toList == j.toList):=by
 rw [Bool.eq_iff_iff]
 cases i
 cases j
 simp
section
variable{X:Cx}{a b c:Expr}{ta tb tc:TE}{pos:Pos}
theorem a0n{pins:List (Addr × Obj)}{σ:St}{H:Hp}{s:Shared}{Q:VK}{k k':Bool}(I:Inv X pins σ H s)(q:Q (.bl k) H)(e:k=k'):EP X pins σ Q (.bool k') s:=by
 subst e
 exact⟨.bl k,H,I,rfl,q⟩
theorem a9b:OpR X (compareOp .Eq) rEq:=by
 intro pins s σ H x y v u Q I rx ry h
 obtain⟨hs,q⟩:=h
 cases x with
 | non =>
  cases rx
  cases y with
  | non=>cases ry;exact PySem.EqNone.eq_none_none (a0n I q (by simp))
  | bl j=>cases ry;exact PySem.EqNone.eq_none_bool (a0n I q (by simp))
  | int j=>obtain⟨t',rfl⟩:=ry;exact PySem.EqNone.eq_none_int (a0n I q (by simp))
  | str j=>obtain⟨t',rfl⟩:=ry;exact PySem.EqNone.eq_none_str (a0n I q (by simp))
  | _=>exact absurd (show false=true from hs) Bool.false_ne_true
 | bl i =>
  cases rx
  cases y with
  | non=>cases ry;exact PySem.EqNone.eq_bool_none (a0n I q (by simp))
  | bl j=>cases ry;exact eq_bool (a0n I q c0c)
  | str j=>obtain⟨t',rfl⟩:=ry;exact PySem.EqMixed.eq_bool_str (a0n I q (by simp))
  | _=>exact absurd (show false=true from hs) Bool.false_ne_true
 | int i =>
  obtain⟨t,rfl⟩:=rx
  cases y with
  | non=>cases ry;exact PySem.EqNone.eq_int_none (a0n I q (by simp))
  | int j=>obtain⟨t',rfl⟩:=ry;exact eq_int (a0n I q b6c)
  | str j=>obtain⟨t',rfl⟩:=ry;exact PySem.EqMixed.eq_int_str (a0n I q (by simp))
  | _=>exact absurd (show false=true from hs) Bool.false_ne_true
 | str i =>
  obtain⟨t,rfl⟩:=rx
  cases y with
  | non=>cases ry;exact PySem.EqNone.eq_str_none (a0n I q (by simp))
  | bl j=>cases ry;exact PySem.EqMixed.eq_str_bool (a0n I q (by simp))
  | int j=>obtain⟨t',rfl⟩:=ry;exact PySem.EqMixed.eq_str_int (a0n I q (by simp))
  | str j=>obtain⟨t',rfl⟩:=ry;exact eq_str (a0n I q b6d)
  | _=>exact absurd (show false=true from hs) Bool.false_ne_true
 | byt i =>
  obtain⟨t,rfl⟩:=rx
  cases y with
  | byt j=>obtain⟨t',rfl⟩:=ry;exact PySem.W.eq_bytes (a0n I q b6e)
  | _=>exact absurd (show false=true from hs) Bool.false_ne_true
 | _=>cases y<;>exact absurd (show false=true from hs) Bool.false_ne_true
theorem op_ne:OpR X (compareOp .NotEq) rNe:=by
 intro pins s σ H x y v u Q I rx ry h
 obtain⟨hs,q⟩:=h
 cases x with
 | non =>
  cases rx
  cases y with
  | non=>cases ry;exact PySem.EqNone.ne_none_none (a0n I q (by simp))
  | bl j=>cases ry;exact PySem.EqNone.ne_none_bool (a0n I q (by simp))
  | int j=>obtain⟨t',rfl⟩:=ry;exact PySem.EqNone.ne_none_int (a0n I q (by simp))
  | str j=>obtain⟨t',rfl⟩:=ry;exact PySem.EqNone.ne_none_str (a0n I q (by simp))
  | _=>exact absurd (show false=true from hs) Bool.false_ne_true
 | bl i =>
  cases rx
  cases y with
  | non=>cases ry;exact PySem.EqNone.ne_bool_none (a0n I q (by simp))
  | bl j=>cases ry;exact ne_bool (a0n I q (congrArg not c0c))
  | str j=>obtain⟨t',rfl⟩:=ry;exact PySem.EqMixed.ne_bool_str (a0n I q (by simp))
  | _=>exact absurd (show false=true from hs) Bool.false_ne_true
 | int i =>
  obtain⟨t,rfl⟩:=rx
  cases y with
  | non=>cases ry;exact PySem.EqNone.ne_int_none (a0n I q (by simp))
  | int j=>obtain⟨t',rfl⟩:=ry;exact ne_int (a0n I q (congrArg not b6c))
  | str j=>obtain⟨t',rfl⟩:=ry;exact PySem.EqMixed.ne_int_str (a0n I q (by simp))
  | _=>exact absurd (show false=true from hs) Bool.false_ne_true
 | str i =>
  obtain⟨t,rfl⟩:=rx
  cases y with
  | non=>cases ry;exact PySem.EqNone.ne_str_none (a0n I q (by simp))
  | bl j=>cases ry;exact PySem.EqMixed.ne_str_bool (a0n I q (by simp))
  | int j=>obtain⟨t',rfl⟩:=ry;exact PySem.EqMixed.ne_str_int (a0n I q (by simp))
  | str j=>obtain⟨t',rfl⟩:=ry;exact ne_str (a0n I q (congrArg not b6d))
  | _=>exact absurd (show false=true from hs) Bool.false_ne_true
 | byt i =>
  obtain⟨t,rfl⟩:=rx
  cases y with
  | byt j=>obtain⟨t',rfl⟩:=ry;exact PySem.W.ne_bytes (a0n I q (congrArg not b6e))
  | _=>exact absurd (show false=true from hs) Bool.false_ne_true
 | _=>cases y<;>exact absurd (show false=true from hs) Bool.false_ne_true
theorem c5q:OpR X (compareOp .LtE) (rI0 fun i j=>.bl (decide (i <= j))):=opB0 fun _ _ _ _ _ _ _ q=>le_int q
theorem c5r:OpR X (compareOp .Gt) (rI0 fun i j=>.bl (decide (j < i))):=opB0 fun _ _ _ _ _ _ _ q=>gt_int q
theorem op_ge:OpR X (compareOp .GtE) (rI0 fun i j=>.bl (decide (j <= i))):=opB0 fun _ _ _ _ _ _ _ q=>ge_int q
theorem b3y:OpR X (compareOp .Is) (fun x y H Q=>y=.non/\Q (.bl (decide (x=.non))) H):=by
 intro pins s σ H x y v u Q I rx ry h
 obtain⟨rfl,q⟩:=h
 cases ry
 refine is_none_gen (a0n I q ?_)
 cases x<;>first
  | (cases rx;rfl)
  | (obtain⟨t,rfl⟩:=rx;rfl)
theorem OpR.or{f:Value->Value->Sem Value}{r r':R2}(h:OpR X f r)(h':OpR X f r'):OpR X f (fun x y H Q=>r x y H Q ∨ r' x y H Q):=by
 intro pins s σ H x y v u Q I rx ry q
 rcases q with q | q
 ·exact h pins s σ H x y v u Q I rx ry q
 ·exact h' pins s σ H x y v u Q I rx ry q
theorem a0u(b:Expr){op:CmpOp}(h:op ≠ .In:=by decide)(h2:op ≠ .NotIn:=by decide):behindInMarks op b=false:=by
 have e1:(op == CmpOp.In)=false:=by cases op<;>first | rfl | exact absurd rfl h
 have e2:(op == CmpOp.NotIn)=false:=by cases op<;>first | rfl | exact absurd rfl h2
 cases b<;>simp [behindInMarks,e1,e2]
theorem a6t{op:CmpOp}{r:R2}(ho:OpR X (compareOp op) r)(ha:PE X a ta)(hb:PE X b tb)(hm:behindInMarks op b=false):PE X (.Compare a [op] [b] pos) (tOp r ta tb):=by
 intro pins s σ H Q I h
 exact wpAny_Compare1 (binT ha hb I h fun v u s2 x y H2 I2 rx ry q=>ho pins s2 σ H2 x y v u Q I2 rx ry q) hm
def b7n(t:TE):TT:=fun σ H Q=>t σ H fun x H'=>∃ k,x=.bl k/\Q k H'
theorem a5t{op:CmpOp}{r:R2}(ho:OpR X (compareOp op) r)(ha:PE X a ta)(hb:PE X b tb)(hm:behindInMarks op b=false):PT X (.Compare a [op] [b] pos) (b7n (tOp r ta tb)):=by
 intro pins s σ H Q I h
 refine wpAny_isTrue_Compare1 (thn (ha pins s σ H _ I h) fun v s1 ⟨x,H1,I1,r1,q1⟩=>thn (hb pins s1 σ H1 _ I1 q1) fun u s2 ⟨y,H2,I2,r2,q2⟩ =>
  thn (ho pins s2 σ H2 x y v u _ I2 r1 r2 q2) fun c s3 ⟨z,H3,I3,r3,k,e,q3⟩=>?_) hm
 subst e
 cases r3
 exact wpAny_truthy_bool ⟨H3,I3,q3⟩
def c0d(r r':R2)(ta tb tc:TE):TE:=fun σ H Q=>ta σ H fun x H1=>tb σ H1 fun y H2=>r x y H2 fun z H3=>∃ k,z=.bl k /\
 (if k=true then tc σ H3 fun w' H4=>r' y w' H4 Q else Q (.bl false) H3)
theorem c2r{op op':CmpOp}{r r':R2}(ho:OpR X (compareOp op) r)(ho':OpR X (compareOp op') r')(ha:PE X a ta)(hb:PE X b tb)(hc:PE X c tc)
  (hm:lastMarks [op,op'] [b,c]=false:=by with_unfolding_all rfl):PT X (.Compare a [op,op'] [b,c] pos) (b7n (c0d r r' ta tb tc)):=by
 intro pins s σ H Q I h
 refine isTrue_chain (thn (ha pins s σ H _ I h) fun v s1 ⟨x,H1,I1,r1,q1⟩=>test_link (thn (hb pins s1 σ H1 _ I1 q1) fun u s2 ⟨y,H2,I2,r2,q2⟩ =>
  thn (ho pins s2 σ H2 x y v u _ I2 r1 r2 q2) fun d s3 ⟨z,H3,I3,r3,k,e,q3⟩=>?_)) hm
 subst e
 cases r3
 refine wpAny_truthy_bool ?_
 cases k with
 | false =>
  obtain⟨k',e',q'⟩:=q3
  cases e'
  exact ite_ff ⟨H3,I3,q'⟩
 | true =>
  refine ite_tt (test_last (thn (hc pins s3 σ H3 _ I3 q3) fun w' s4 ⟨z',H4,I4,r4,q4⟩=>thn (ho' pins s4 σ H4 y z' u w' _ I4 r2 r4 q4) fun d' s5 hq9=>?_))
  obtain⟨z2,H5,I5,r5,k2,e2,q5⟩:=hq9
  subst e2
  cases r5
  exact wpAny_truthy_bool ⟨H5,I5,q5⟩
def TruV(K:W.Frag)(x:V)(H:Hp)(k:Bool):Prop:=
 match x with
 | .non=>k=false
 | .bl b=>k=b
 | .int i=>k=(i != 0)
 | .str y=>y.length <= sizeLine/\k=((y.length:Int) != 0)
 | .byt y=>y.size <= sizeLine/\k=((y.size:Int) != 0)
 | .ref p=>(∃ xs,SqL K H p xs/\k = !xs.isEmpty) ∨ (∃ xs,SqT K H p xs/\k = !xs.isEmpty) ∨ ∃ kvs,H p=some (.dK kvs)/\k = !kvs.isEmpty
 | _=>False
theorem b7o{κ:Type}{kvs:List (κ × V)}{vs:List (κ × Value)}(r:KV kvs vs):(!vs.isEmpty) = !kvs.isEmpty:=by
 cases r<;>rfl
theorem b0j{xs:List V}{its:List Value}(r:Vals xs its):(!its.toArray.isEmpty) = !xs.isEmpty:=by
 cases r<;>simp
theorem a5y:(sizeLine:Nat) < 2 ^ 63:=by rw [sizeLine_eq];decide
theorem d0o:TruR X (fun x H Q=>∃ k,TruV X.K x H k/\Q k H):=by
 intro pins s σ H x v Q I rx h
 obtain⟨k,e,q⟩:=h
 have hl:=a5y
 have hs:sizeLine=16777216:=sizeLine_eq
 cases x with
 | non =>
  cases rx
  have e':k=false:=e
  subst e'
  exact truthy_none ⟨H,I,q⟩
 | bl b =>
  cases rx
  have e':k=b:=e
  subst e'
  exact wpAny_truthy_bool ⟨H,I,q⟩
 | int i =>
  obtain⟨t,rfl⟩:=rx
  have e':k=(i != 0):=e
  subst e'
  exact PySem.P.truthy_int ⟨H,I,q⟩
 | str y =>
  obtain⟨t,rfl⟩:=rx
  obtain⟨hy,e'⟩:y.length <= sizeLine/\k=((y.length:Int) != 0):=e
  subst e'
  exact PySem.P.truthy_str (by omega) ⟨H,I.tok _,q⟩
 | byt y =>
  obtain⟨t,rfl⟩:=rx
  obtain⟨hy,e'⟩:y.size <= sizeLine/\k=((y.size:Int) != 0):=e
  subst e'
  exact PySem.W.truthy_bytes (by omega) ⟨H,I.tok _,q⟩
 | ref p =>
  cases rx
  have e':(∃ xs,SqL X.K H p xs/\k = !xs.isEmpty) ∨ (∃ xs,SqT X.K H p xs/\k = !xs.isEmpty) ∨ ∃ kvs,H p=some (.dK kvs)/\k = !kvs.isEmpty:=e
  rcases e' with⟨xs,hx,e'⟩ | ⟨xs,hx,e'⟩ | ⟨kvs,hx,e'⟩
  ·subst e'
   obtain⟨its,r,pl,hz⟩:=I.list hx
   have hlen:=r.length
   exact wpAny_truthy_list pl.isList (by simp only [size_toArray];omega) ⟨H,I.tok _,by rw [b0j r];exact q⟩
  ·subst e'
   obtain⟨its,r,pl,hz⟩:=I.tuple hx
   have hlen:=r.length
   exact truthy_tuple pl (by simp only [size_toArray];omega) ⟨H,I.tok _,by rw [b0j r];exact q⟩
  ·subst e'
   obtain⟨hz,hS,vs,r,m⟩:kvs.length <= sizeLine/\(p == sysModules)=false/\∃ vs,KV kvs vs/\s.heap.DictOf (a8y X.prog X.w) p vs:=I.hok p _ hx
   have hlen:kvs.length=vs.length:=Paired.length r
   exact wpAny_truthy_dict hS m (by omega) ⟨H,I.tok _,by rw [b7o r];exact q⟩
 | _=>exact(show False from e).elim
theorem c2s(ha:PE X a ta)(he:∀ whole,isTrue a X.env whole=(do let v ← whole;standAt a.pos;holding [v] (truthy v))) :
  PT X a (fun σ H Q=>ta σ H fun x H'=>∃ k,TruV X.K x H' k/\Q k H'):=by
 intro pins s σ H Q I h
 exact isTrue_plain (thn (ha pins s σ H _ I h) fun v s1 hq8=>by obtain⟨x,H1,I1,r1,q1⟩:=hq8;exact d0o pins s1 σ H1 x v Q I1 r1 q1) (he _)
theorem b7p:OpR X (binaryOp .Add) (fun x y H Q=>∃ i j,x=.str i/\y=.str j/\i.length + j.length <= sizeLine/\Q (.str (i ++ j)) H):=by
 intro pins s σ H x y v u Q I rx ry h
 obtain⟨i,j,rfl,rfl,hz,q⟩:=h
 obtain⟨t,rfl⟩:=rx
 obtain⟨t',rfl⟩:=ry
 exact add_str (fun t' tk=>⟨.str (i ++ j),H,I.tok _,⟨_,rfl⟩,q⟩) hz
theorem vals1{x:V}{us:List Value}(r:Vals [x] us):∃ u,us=[u]/\RelV x u:=by
 cases r with
 | cons r1 r2=>cases r2;exact⟨_,rfl,r1⟩
theorem a1o:a1k X (.type "str") (fun xs H Q=>∃ i,xs=[.int i]/\i.natAbs.log2 < 1920/\Q (.str (toString i)) H):=by
 intro pins s σ H xs us Q I r h
 obtain⟨i,rfl,hz,q⟩:=h
 obtain⟨u,rfl,t,rfl⟩:=vals1 r
 exact PySem.P.str_of_int hz ⟨.str _,H,I.tok _,⟨_,rfl⟩,q⟩
end
end L2
namespace L2
open PySem PySem.Spec PyProof.Rows
structure ObjM(h:Heap)(x dx C:Addr)(mA:Str->Option Value):Prop where
 obj:h.get? x=some (PySem.W.instObj C dx)
 ns:h.Ns1 dx mA
 ne:dx ≠ x
theorem c0e{h:Heap}{dx:Addr}{mA:Str->Option Value}(n:h.Ns1 dx mA):∃ od,h.get? dx=some od/\∀ name,PySem.W.lookIn name od=some (mA name):=by
 obtain⟨o,es,ep,ho,hd,hk,_,hm⟩:=n
 refine⟨o,ho,fun name=>?_⟩
 have e:=hm name
 unfold nsFind findBy at e
 rw [← Array.find?_toList] at e
 unfold PySem.W.lookIn
 rw [hd]
 dsimp only
 split
 ·rename_i y q
  rw [q] at e
  exact congrArg some e
 ·rename_i q
  rw [q] at e
  have a:es.toList.any (·.refKey)=false:=by
   rw [List.any_eq_false]
   intro y hy
   obtain⟨z,t,hkey⟩:=hk y (Array.mem_toList_iff.mp hy)
   simp [DictEntry.refKey,hkey]
  have a':¬ es.toList.any (·.refKey)=true:=by rw [a];exact Bool.false_ne_true
  rw [if_neg a']
  exact congrArg some e
theorem ObjM.look{h:Heap}{x dx C:Addr}{mA:Str->Option Value}(I:ObjM h x dx C mA):∃ od,PySem.W.InstAt h x (PySem.W.instObj C dx) C (some od)/\∀ name,PySem.W.lookIn name od=some (mA name):=
 let ⟨od,ho,hl⟩:=c0e I.ns
 ⟨od,⟨I.obj,rfl,rfl,ho⟩,hl⟩
section
variable{prog:Program}{w:World}{A:Around}{E:Value->Shared->Prop}{s:Shared}{K:W.Frag}{x dx C f:Addr}{mA:Str->Option Value}{name:Str}{v:Value}
theorem c6q{expr:Bool}{Q:Value->Shared->Prop}(X:K.In s.heap)(I:ObjM s.heap x dx C mA)(hg:PySem.W.plainGet K C name=true)(hh:PySem.W.hasDictIn K C=true)
  (ha:PySem.W.findIn K (.ref C) name=some none) (hv:mA name=some v) (hv':PySem.W.handedIn v=true) (h:Q v { s with toks:=s.toks + 1 }) :
  wpAny (model prog w) A (getAttr (.ref x) name expr) Q E s:=by
 obtain⟨od,J,hl⟩:=I.look
 exact PySem.W.get_value X J (PySem.W.plainGet_of hg).1 (PySem.W.findObj_own hh ha rfl (by rw [hl,hv])) hv' h
theorem c2t{pl:Sem Bool}{Q:Value × List Value->Shared->Prop}(X:K.In s.heap)(I:ObjM s.heap x dx C mA)(hg:PySem.W.plainGet K C name=true)
  (hf:PySem.W.findIn K (.ref C) name=some (some (.ref f))) (ht:PySem.W.isFn K (.ref f)=true) (hv:mA name=none) (h:Q (.ref f,[.ref x]) s) :
  wpAny (model prog w) A (getMethod (.ref x) name pl) Q E s:=by
 obtain⟨od,J,hl⟩:=I.look
 exact PySem.W.method_fn X J (PySem.W.plainGet_of hg).1 (PySem.W.plainGet_of hg).2 hf (beq_iff_eq.mp ht) (by show(PySem.W.lookIn name od).map (·.isSome)=some false;rw [hl,hv];rfl) h
theorem c6r{ns:List Str}{Q:Unit->Shared->Prop}(X:K.In s.heap)(I:ObjM s.heap x dx C mA)
  (hs:PySem.W.findIn K (.ref C) "__setattr__" = some (some (.builtin "object.__setattr__"))) (hp:PySem.W.plainOver K C=true) (ht:PySem.W.takerIn K C name=some none) (hh:PySem.W.hasDictIn K C=true)
  (hw:PySem.Within mA ns) (hsz:ns.length <= sizeLine)
  (h:∀ h',ObjM h' x dx C (fun y=>if y=name then some v else mA y)->Heap.SameBut dx s.heap h'->Q () { s with heap:=h',toks:=s.toks + 2 }) :
  wpAny (model prog w) A (setAttr (.ref x) name v) Q E s:=by
 obtain⟨od,J,hl⟩:=I.look
 refine PySem.W.set_plain X J hs (PySem.W.osa_open (s:={ s with toks:=s.toks + 1 }) (r:=none) X J hp ht fun b=>?_)
 obtain⟨cd,hc,hd'⟩:=PySem.W.any_some hh
 have hx:s.heap.get? x=some ⟨.ref C,some dx,.plain,#[]⟩:=I.obj
 refine wpAny_bind (wpAny_pure (wpAny_bind (wpAny_bind (wpAny_loadPart hx (wpAny_bind (PySem.W.Looks.here (s:={ s with toks:=s.toks + 1 }) (PySem.W.looks_clsIn X hc) ?_))))))
 rw [hd']
 refine wpAny_pure (a:=some dx) (wpAny_bind (wpAny_pure (wpAny_bind ?_)))
 refine wpAny_nsSet1 (s:={ s with toks:=s.toks + 1 }) I.ns fun h' hn2 hs2=>?_
 obtain⟨oD,esD,epD,hoD,hdD,hcD⟩:=hn2.count (PySem.Within.cons name v hw)
 refine wpAny_bind (wpAny_lookBehind hoD (by rw [hdD];exact pastItsLine_dict (le_trans hcD (by rw [length_cons];omega))) ?_)
 exact wpAny_pure (h _ ⟨(hs2.2 _ (Ne.symm I.ne)).trans I.obj,hn2,I.ne⟩ hs2)
theorem c2u{R:Result->Shared->Prop}{vs:List Value}{kw:List (Str × Value)}(X:K.In s.heap)(hm:PySem.W.makesIn K C=true)
  (hi:PySem.W.findIn K (.ref C) "__init__" = some (some (.ref f))) (hf:PySem.W.typeIn K (.ref f)=some (.type "function"))
  (h:codeAny (model prog w) (A.under (.builtin "type.__call__" ⟨.ref C :: vs,kw⟩)) (.call (.ref f) ⟨.ref (s.heap.objs.size + 1) :: vs,kw⟩) (PySem.W.InitBack (s.heap.objs.size + 1) R)
   { s with heap:=(s.heap.push PySem.W.emptyDict).push (PySem.W.instObj C s.heap.objs.size) }) :
  codeAny (model prog w) A (.call (.ref C) ⟨vs,kw⟩) R s:=by
 obtain⟨hh,g,d,t,os⟩:=s
 exact PySem.W.make_core (PySem.W.makes_of X hm) (PySem.W.looks_findIn X hi) (fun self=>PySem.W.bind_fn X self hf) (.inl rfl) h
end
noncomputable def putF(f:Str)(v:V):List (Str × V)->List (Str × V)
 | []=>[(f,v)]
 | (g,x) :: r=>if g=f then(g,v) :: r else(g,x) :: putF f v r
theorem a6p(f g:Str)(v:V):∀ fs:List (Str × V),(putF f v fs).lookup g=if g=f then some v else fs.lookup g
 | []=>by
  show List.lookup g [(f,v)]=_
  by_cases h:g=f
  ·have hb:(g == f)=true:=beq_iff_eq.mpr h
   simp only [List.lookup,hb,if_pos h]
  ·have hb:(g == f)=false:=beq_eq_false_iff_ne.mpr h
   simp only [List.lookup,hb,if_neg h]
 | (k,x) :: r=>by
  have ih:=a6p f g v r
  rw [show putF f v ((k,x) :: r)=(if k=f then(k,v) :: r else(k,x) :: putF f v r) from rfl]
  by_cases hk:k=f
  ·rw [if_pos hk]
   by_cases h:g=k
   ·have hb:(g == k)=true:=beq_iff_eq.mpr h
    simp only [List.lookup,hb,if_pos (h.trans hk)]
   ·have hb:(g == k)=false:=beq_eq_false_iff_ne.mpr h
    simp only [List.lookup,hb,if_neg (fun e:g=f=>h (e.trans hk.symm))]
  ·rw [if_neg hk]
   by_cases h:g=k
   ·have hb:(g == k)=true:=beq_iff_eq.mpr h
    simp only [List.lookup,hb,if_neg (fun e:g=f=>hk (h.symm.trans e))]
   ·have hb:(g == k)=false:=beq_eq_false_iff_ne.mpr h
    simp only [List.lookup,hb]
    exact ih
theorem a8j(f:Str)(v:V):∀ fs:List (Str × V),f ∈ (putF f v fs).map (·.1)/\∀ g,g ∈ fs.map (·.1)->g ∈ (putF f v fs).map (·.1)
 | []=>⟨by simp [putF],fun g h=>by simp at h⟩
 | (k,x) :: r=>by
  obtain⟨i1,i2⟩:=a8j f v r
  rw [show putF f v ((k,x) :: r)=(if k=f then(k,v) :: r else(k,x) :: putF f v r) from rfl]
  by_cases hk:k=f
  ·rw [if_pos hk]
   subst hk
   exact⟨by simp,fun g h=>by simpa using h⟩
  ·rw [if_neg hk]
   refine⟨?_,fun g h=>?_⟩
   ·rw [map_cons]
    exact mem_cons_of_mem _ i1
   ·rw [map_cons] at h ⊢
    rcases mem_cons.mp h with e | e
    ·exact mem_cons.mpr (.inl e)
    ·exact mem_cons_of_mem _ (i2 g e)
theorem a9t(f:Str)(v:V):∀ fs:List (Str × V),(putF f v fs).length <= fs.length + 1
 | []=>by simp [putF]
 | (k,x) :: r=>by
  have ih:=a9t f v r
  rw [show putF f v ((k,x) :: r)=(if k=f then(k,v) :: r else(k,x) :: putF f v r) from rfl]
  by_cases hk:k=f
  ·rw [if_pos hk,length_cons,length_cons];omega
  ·rw [if_neg hk,length_cons,length_cons];omega
theorem RelO.some_of{v:V}{o:Option Value}(r:RelO (some v) o):∃ u,o=some u/\RelV v u:=by
 cases o with
 | none=>exact(show False from r).elim
 | some u=>exact⟨u,rfl,r⟩
theorem RelO.none_of{o:Option Value}(r:RelO none o):o=none:=by
 cases o with
 | none=>rfl
 | some u=>exact(show False from r).elim
theorem c0f{v:V}{u:Value}(r:RelV v u):PySem.W.handedIn u=true:=by
 cases v with
 | non=>cases (show u=Value.none from r);rfl
 | bl b=>cases (show u=Value.bool b from r);rfl
 | int i=>obtain⟨t,e⟩:=(show ∃ t,u=Value.int i t from r);cases e;rfl
 | str x=>obtain⟨t,e⟩:=(show ∃ t,u=Value.str x t from r);cases e;rfl
 | byt b=>obtain⟨t,e⟩:=(show ∃ t,u=Value.bytes b t from r);cases e;rfl
 | flt b=>obtain⟨t,e⟩:=(show ∃ t,u=Value.float b t from r);cases e;rfl
 | ref a=>cases (show u=Value.ref a from r);rfl
 | ty n=>cases (show u=Value.type n from r);rfl
section
variable{P:Program}{w:World}{H H':Hp}{h h':Heap}{a C dx:Addr}{fs fs':List (Str × V)}
theorem b1p(hok:HOk P w H h)(e:H a=some (.ins C dx fs)):∃ mA,ObjM h a dx C mA/\(∀ f,RelO (fs.lookup f) (mA f))/\PySem.Within mA (fs.map (·.1))/\fs.length <= 1000/\H dx=some (.own a):=by
 obtain⟨d,z,ne,ob,mA,n,r,q⟩:=(show a1c P w H h a (.ins C dx fs) from hok a _ e)
 exact⟨mA,⟨ob,n,ne⟩,r,q,z,d⟩
end
structure Cls(K:W.Frag)(C:Addr):Prop where
 pg:PySem.W.plainGet K C Str.empty=true
 hd:PySem.W.hasDictIn K C=true
 po:PySem.W.plainOver K C=true
 sa:PySem.W.findIn K (.ref C) "__setattr__" = some (some (.builtin "object.__setattr__"))
theorem Cls.get{K:W.Frag}{C:Addr}(c:Cls K C)(f:Str):PySem.W.plainGet K C f=true:=c.pg
def a1q(K:W.Frag)(C:Addr)(f:Str):Prop:=PySem.W.findIn K (.ref C) f=some none
theorem a1q.taker{K:W.Frag}{C:Addr}{f:Str}(n:a1q K C f):PySem.W.takerIn K C f=some none:=by
 unfold PySem.W.takerIn
 rw [show PySem.W.findIn K (.ref C) f=some none from n]
 rfl
structure Meth(K:W.Frag)(C:Addr)(m:Str)(f:Addr):Prop where
 at_:PySem.W.findIn K (.ref C) m=some (some (.ref f))
 fn:PySem.W.isFn K (.ref f)=true
 kp:PySem.W.keepIn K (.ref f)=true
section
variable{X:Cx}{pins:List (Addr × Obj)}{σ:St}{H:Hp}{s:Shared}{a C dx:Addr}{fs:List (Str × V)}{f:Str}{v:V}{A:Around}{E:Value->Shared->Prop}
theorem b7q{b:Bool}{Q:Value->Shared->Prop}(I:Inv X pins σ H s)(e:H a=some (.ins C dx fs))(c:Cls X.K C)(n:a1q X.K C f)(l:fs.lookup f=some v)
  (h:∀ u s',Inv X pins σ H s'->RelV v u->Q u s'):wpAny (model X.prog X.w) A (getAttr (.ref a) f b) Q E s:=by
 obtain⟨mA,O,r,_,_,_⟩:=b1p I.hok e
 obtain⟨u,hu,ru⟩:=RelO.some_of (v:=v) (o:=mA f) (by rw [← l];exact r f)
 exact c6q I.kIn O (c.get f) c.hd n hu (c0f ru) (h u _ (I.tok _) ru)
theorem b0k{m:Str}{g:Addr}{pl:Sem Bool}{Q:Value × List Value->Shared->Prop}(I:Inv X pins σ H s)(e:H a=some (.ins C dx fs))(c:Cls X.K C)(k:Meth X.K C m g)(l:fs.lookup m=none)
  (h:Q (.ref g,[.ref a]) s):wpAny (model X.prog X.w) A (getMethod (.ref a) m pl) Q E s:=by
 obtain⟨mA,O,r,_,_,_⟩:=b1p I.hok e
 have hn:mA m=none:=RelO.none_of (by rw [← l];exact r m)
 exact c2t I.kIn O (c.get m) k.at_ k.fn hn h
theorem b7r{y:V}{u:Value}{Q:Unit->Shared->Prop}(I:Inv X pins σ H s)(e:H a=some (.ins C dx fs))(c:Cls X.K C)(n:a1q X.K C f)(hl:fs.length < 1000)(ry:RelV y u)
  (h:∀ s',Inv X pins σ (upd H a (.ins C dx (putF f y fs))) s'->Q () s'):wpAny (model X.prog X.w) A (setAttr (.ref a) f u) Q E s:=by
 obtain⟨mA,O,r,wi,_,ho⟩:=b1p I.hok e
 have hz:(fs.map (·.1)).length <= sizeLine:=by rw [length_map,sizeLine_eq];omega
 refine c6r I.kIn O c.sa c.po n.taker c.hd wi hz fun h' O' sb=>h _ ?_
 have hd:∃ o,h'.get? dx=some o:=by obtain⟨o,_,_,e',_⟩:=O'.ns;exact⟨o,e'⟩
 refine I.write (x:=a) (e:=dx) (by rw [e];exact True.intro) (.inr ho) (fun b q hb z=>(sb.2 b hb).trans z) hd ?_
 refine⟨by rw [a0d O.ne];exact ho,?_,O.ne,O'.obj,_,O'.ns,fun g=>?_,fun g hg=>?_⟩
 ·have:=a9t f y fs;omega
 ·show RelO ((putF f y fs).lookup g) (if g=f then some u else mA g)
  rw [a6p]
  by_cases q:g=f
  ·rw [if_pos q,if_pos q];exact ry
  ·rw [if_neg q,if_neg q];exact r g
 ·by_cases q:g=f
  ·rw [q];exact(a8j f y fs).1
  ·refine(a8j f y fs).2 g (wi g fun z=>hg ?_)
   show(if g=f then some u else mA g)=none
   rw [if_neg q];exact z
theorem Inv.made(I:Inv X pins σ H s):Inv X pins σ (upd (upd H s.heap.objs.size (.own (s.heap.objs.size + 1))) (s.heap.objs.size + 1) (.ins C s.heap.objs.size []))
  { s with heap:=(s.heap.push PySem.W.emptyDict).push (PySem.W.instObj C s.heap.objs.size) }:=by
 have e1:(s.heap.push PySem.W.emptyDict).get? s.heap.objs.size=some PySem.W.emptyDict:=get?_push_size s.heap rfl
 have e2:((s.heap.push PySem.W.emptyDict).push (PySem.W.instObj C s.heap.objs.size)).get? (s.heap.objs.size + 1)=some (PySem.W.instObj C s.heap.objs.size):=by
  have:=get?_push_size (s.heap.push PySem.W.emptyDict) (o:=PySem.W.instObj C s.heap.objs.size) rfl
  rwa [size_push] at this
 have e3:(s.heap.push PySem.W.emptyDict).Ns s.heap.objs.size (fun _=>none):=⟨PySem.W.emptyDict,#[],_,e1,rfl,(fun e he=>absurd he (by simp)),fun _=>rfl⟩
 have I1:=I.laid (a:=s.heap.objs.size) (o:=.own (s.heap.objs.size + 1)) (h':=s.heap.push PySem.W.emptyDict) (t':=s.toks) (fun b u q=>get?_push_of_some _ q) (le_refl _) ⟨_,e1⟩
 refine I1.laid (a:=s.heap.objs.size + 1) (o:=.ins C s.heap.objs.size []) (t':=s.toks) (fun b u q=>get?_push_of_some _ q) (Nat.le_of_eq (size_push _ _)) ?_
 have ne:s.heap.objs.size ≠ s.heap.objs.size + 1:=ne_of_lt (Nat.lt_succ_self _)
 refine⟨by rw [a0d ne,a0c],zero_le _,ne,e2,fun _=>none,(Heap.Ns1.of_empty e3).at fun o q=>get?_push_of_some _ q,fun _=>True.intro,fun y hy=>absurd rfl hy⟩
theorem c6s{prog:Program}{w:World}{env:Env}{e:Expr}{f:Str}{pos:Pos}{s:Shared}{Q:Value->Shared->Prop}(hb:attributeBase e f env (eval e env)=eval e env)
  (h:wpAny (model prog w) A (eval e env) (fun o s₁=>wpAny (model prog w) A (getAttr o f true) Q E s₁) E s):wpAny (model prog w) A (eval (.Attribute e f pos) env) Q E s:=
 Attribute_any_ h (by rw [arm_eval_Attribute,hb])
end
def tFld(K:W.Frag)(ta:TE)(f:Str):TE:=fun σ H Q=>ta σ H fun x H1=>∃ a C dx fs v,x=.ref a/\H1 a=some (.ins C dx fs)/\Cls K C/\a1q K C f/\fs.lookup f=some v/\Q v H1
def sFld(K:W.Frag)(ta tv:TE)(f:Str):TS:=fun D σ H=>tv σ H fun y H1=>ta σ H1 fun x H2=>∃ a C dx fs,x=.ref a/\H2 a=some (.ins C dx fs)/\Cls K C/\a1q K C f/\fs.length < 1000 /\
 D.nx σ (upd H2 a (.ins C dx (putF f y fs)))
section
variable{X:Cx}{o e value:Expr}{f:Str}{pos pos' tpos:Pos}{ta tv:TE}
theorem a2t(he:PE X e ta)(hb:attributeBase e f X.env (eval e X.env)=eval e X.env):PE X (.Attribute e f pos) (tFld X.K ta f):=by
 intro pins s σ H Q I h
 refine c6s hb (thn (he pins s σ H _ I h) fun u s1 hq9=>?_)
 obtain⟨x,H1,I1,rx,a,C,dx,fs,v,ex,ea,c,n,l,q⟩:=hq9
 subst ex
 obtain rfl:u=Value.ref a:=rx
 exact b7q I1 ea c n l fun u' s2 I2 ru=>⟨v,H1,I2,ru,q⟩
theorem b0l(ha:PE X o ta)(hv:PE X value tv)(hs:swapsWith value (some (.Attribute o f pos')) pos.line X.env=pure false):PS X (.Assign [.Attribute o f pos'] value pos) (sFld X.K ta tv f):=by
 intro pins s σ H D I h
 refine plainObj_wpAny_Assign_Attribute (thn (hv pins s σ H _ I h) fun u s1 ⟨y,H1,I1,ry,q⟩=>thn (ha pins s1 σ H1 _ I1 q) fun ov s2 hq8=>?_) hs
 obtain⟨x,H2,I2,rx,a,C,dx,fs,ex,ea,c,n,l,q2⟩:=hq8
 subst ex
 obtain rfl:ov=Value.ref a:=rx
 exact b7r I2 ea c n l ry fun s3 I3=>⟨σ,_,I3,q2⟩
end
section
variable{X:Cx}{pins:List (Addr × Obj)}{σ:St}{H:Hp}{s:Shared}{A:Around}{E:Value->Shared->Prop}{Q:Value->Shared->Prop}{c:Value}{b:Bool}
end
end L2
namespace L2
open PySem PySem.Spec PyProof.Rows
structure Room(k:Nat)(A:Around):Prop where
 hd:A.handled=none
 dp:A.depth + 3 * k + 5 < recursionLimit
 un:A.units + 16 * k + 200 < cLine
 gd:A.guards=some []
theorem Room.mono{j k:Nat}{A:Around}(r:Room k A)(h:j <= k):Room j A:=⟨r.hd,by have:=r.dp;omega,by have:=r.un;omega,r.gd⟩
theorem Room.deeper{k:Nat}{A:Around}(r:Room (k + 1) A)(env:Env):Room k (A.deeper env):=
 ⟨r.hd,by have:=r.dp;show A.depth + 1 + 3 * k + 5 < _;omega,by have:=r.un;show A.units + 3 + 16 * k + 200 < _;omega,r.gd⟩
theorem b7s{A:Around}{C:Addr}{us:List Value}{kw:List (Str × Value)}:(A.under (.builtin "type.__call__" ⟨.ref C :: us,kw⟩)).depth=A.depth + 1:=by
 first | rfl | simp [Around.under,Code.weight,Code.isCreation,Code.isGuard,Code.isCaller,Code.frames,Code.isFrame,guardIds]
theorem b7t{A:Around}{C:Addr}{us:List Value}{kw:List (Str × Value)}:(A.under (.builtin "type.__call__" ⟨.ref C :: us,kw⟩)).units=A.units + 1:=by
 first | rfl | simp [Around.under,Code.cUnits,Code.frames,Code.isFrame]
theorem Room.make{k:Nat}{A:Around}(r:Room (k + 1) A)(C:Addr)(us:List Value)(kw:List (Str × Value)):Room k (A.under (.builtin "type.__call__" ⟨.ref C :: us,kw⟩)):=
 ⟨r.hd,by have:=r.dp;rw [b7s];omega,by have:=r.un;rw [b7t];omega,by rw [show(A.under (.builtin "type.__call__" ⟨.ref C :: us,kw⟩)).guards=A.guards from by first | rfl | simp [Around.under,Code.guards,Code.isGuard,guardIds,pushGuards]];exact r.gd⟩
theorem Room.depth{k:Nat}{A:Around}(r:Room k A):A.depth < recursionLimit:=by have:=r.dp;omega
theorem Room.units{k:Nat}{A:Around}(r:Room k A):A.units + 64 < cLine:=by have:=r.un;omega
def tNil:TA:=fun _ H Q=>Q [] H
def a1m(ta:TE)(tr:TA):TA:=fun σ H Q=>ta σ H fun x H1=>tr σ H1 fun xs H2=>Q (x :: xs) H2
section
variable{X:Cx}{e:Expr}{es:List Expr}{te:TE}{t:TA}{pos:Pos}
theorem a0h:PA X [] tNil:=fun _ _ _ _ H Q I h=>Calls.spliced_nil ⟨[],H,I,.nil,h⟩
theorem a0e(ha:PE X e te)(hr:PA X es t)(hs:starEach (e :: es) X.env=(false,eval e X.env) :: starEach es X.env:=by rfl):PA X (e :: es) (a1m te t):=by
 intro pos pins s σ H Q I h
 rw [hs]
 show wpAny _ _ (spliced ((false,eval e X.env) :: backTo pos (starEach es X.env))) _ _ s
 refine Calls.spliced_cons (thn (ha pins s σ H _ I h) fun u s1 hq9=>?_)
 obtain⟨x,H1,I1,r1,q1⟩:=hq9
 exact thn (hr pos pins s1 σ H1 _ I1 q1) fun us s2 hq8=>by obtain⟨xs,H2,I2,r2,q2⟩:=hq8;exact⟨x :: xs,H2,I2,.cons r1 r2,q2⟩
def tTup(t:TA):TE:=fun σ H Q=>t σ H fun xs H1=>xs.length <= sizeLine/\∀ p,H1 p=none->Q (.ref p) (upd H1 p (.tup xs))
def tLst(t:TA):TE:=fun σ H Q=>t σ H fun xs H1=>xs.length <= sizeLine/\∀ p,H1 p=none->Q (.ref p) (upd H1 p (.lst xs))
theorem b0m{x1}(h:PA X es t):PE X (.Tuple es x1 pos) (tTup t):=by
 intro pins s σ H Q I hq
 refine wpAny_Tuple_spliced (thn (h pos pins s σ H _ I hq) fun us s1 ⟨xs,H1,I1,r,z,q⟩=>⟨by rw [← r.length];exact z,?_⟩)
 have hf:H1 s1.heap.objs.size=none:=I1.hok.fresh (le_refl _)
 refine⟨.ref s1.heap.objs.size,upd H1 s1.heap.objs.size (.tup xs),I1.laid (t':=s1.toks) (fun b u e=>get?_push_of_some _ e) (le_refl _) ?_,rfl,q _ hf⟩
 exact⟨z,us,r,⟨_,get?_push_size _ rfl,⟨rfl,rfl⟩,_,rfl⟩⟩
theorem c0g(h:PA X es t):PE X (.List es pos) (tLst t):=by
 intro pins s σ H Q I hq
 refine wpAny_List_spliced (thn (h pos pins s σ H _ I hq) fun us s1 ⟨xs,H1,I1,r,z,q⟩=>⟨by rw [← r.length];exact z,?_⟩)
 have hf:H1 s1.heap.objs.size=none:=I1.hok.fresh (le_refl _)
 refine⟨.ref s1.heap.objs.size,upd H1 s1.heap.objs.size (.lst xs),I1.laid (t':=s1.toks) (fun b u e=>get?_push_of_some _ e) (le_refl _) ?_,rfl,q _ hf⟩
 exact⟨z,us,0,r,get?_push_size _ rfl⟩
end
abbrev Sp:=List V->Hp->VK->XK->Prop
abbrev CXT:=List Env->Hp->Shared->XK->Value->Shared->Prop
structure Env0(P:Program)(w:World)(K:W.Frag)(mg:Str->Option Value)(base:Heap)(A:Around)(outer:List Env)(s:Shared)(H:Hp):Prop where
 frames:A.frames=some outer
 mod:Mod K mg base
 bs:∀ b o,base.get? b=some o->s.heap.get? b=some o/\H b=none
 bsz:base.objs.size <= s.heap.objs.size
 funs:s.heap.FunFrames base outer
 frf:∀ b ∈ frs outer,H b=none
 hok:HOk P w H s.heap
 bare:AllBare s.gens
def CE(outer:List Env)(P:Program)(w:World)(H:Hp)(s:Shared)(Q:VK)(u:Value)(s':Shared):Prop:=
 ∃ v H',s'.os=s.os/\AllBare s'.gens/\Un (frs outer) [] H H' s.heap s'.heap/\HOk P w H' s'.heap/\RelV v u/\Q v H'
def CR(CX:CXT)(outer:List Env)(P:Program)(w:World)(H:Hp)(s:Shared)(Q:VK)(E:XK)(r:Result)(s':Shared):Prop:=
 match r with
 | .ok (.ret u)=>CE outer P w H s Q u s'
 | .ok _=>False
 | .error e=>CX outer H s E e s'
structure FnOk(P:Program)(w:World)(K:W.Frag)(mg:Str->Option Value)(base:Heap)(CX:CXT)(k:Nat)(f:Addr)(fd:FuncData)(ps:List Str)(sp:Sp):Prop where
 len:∀ vs H Q E,sp vs H Q E->vs.length=ps.length
 run:∀ (A:Around) (outer:List Env) (s:Shared) (H:Hp) (args:Args) (us:List Value) (vs:List V) (Q:VK) (E:XK),Room k A->Env0 P w K mg base A outer s H->BindsTo s fd args (ps.zip us)->Vals vs us->sp vs H Q E ->
  codeAny (model P w) A (.call (.ref f) args) (CR CX outer P w H s Q E) s
theorem FnOk.mono{P:Program}{w:World}{K:W.Frag}{mg:Str->Option Value}{base:Heap}{CX:CXT}{j k:Nat}{f:Addr}{fd:FuncData}{ps:List Str}{sp:Sp}(F:FnOk P w K mg base CX j f fd ps sp)(h:j <= k) :
  FnOk P w K mg base CX k f fd ps sp:=⟨F.len,fun A outer s H args us vs Q E hr=>F.run A outer s H args us vs Q E (hr.mono h)⟩
theorem Env0.make{P:Program}{w:World}{K:W.Frag}{mg:Str->Option Value}{base:Heap}{A:Around}{outer:List Env}{s:Shared}{H:Hp}(e:Env0 P w K mg base A outer s H)(C:Addr)(us:List Value)(kw:List (Str × Value)) :
  Env0 P w K mg base (A.under (.builtin "type.__call__" ⟨.ref C :: us,kw⟩)) outer s H:=⟨by first | exact e.frames | (simpa [Around.under,Code.envs,Code.isFrame,pushEnvs] using e.frames),e.mod,e.bs,e.bsz,e.funs,e.frf,e.hok,e.bare⟩
section
variable{X:Cx}{pins:List (Addr × Obj)}{σ:St}{H:Hp}{s s':Shared}
theorem Inv.env0(I:Inv X pins σ H s):Env0 X.prog X.w X.K X.mg X.base X.A X.stack s H:=
 ⟨I.ok.frames,I.ok.mod,I.bs,le_trans I.ok.bsz I.sz,I.stack,I.stkFree,I.hok,I.bare⟩
theorem Inv.after{Q:VK}{u:Value}(I:Inv X pins σ H s)(h:CE X.stack X.prog X.w H s Q u s'):EP X pins σ Q u s':=by
 obtain⟨v,H',os,bare,un,hok,r,q⟩:=h
 obtain⟨hh,g,d,t,os'⟩:=s'
 obtain rfl:os'=s.os:=os
 exact⟨v,H',I.call (h':=hh) (g':=g) (d':=d) (t':=t) (ch:=[]) un hok bare (fun b z=>absurd z (by simp)),r,q⟩
end
def a9c(sp:Sp)(dvs:List V)(E:XK)(t:TA):TE:=fun σ H Q=>t σ H fun vs H1=>sp (vs ++ dvs) H1 Q E
def b7u(C:Addr)(m:Str)(sp:Sp)(dvs:List V)(E:XK)(ta:TE)(t:TA):TE:=fun σ H Q=>ta σ H fun x H1=>∃ a dx fs,x=.ref a/\H1 a=some (.ins C dx fs)/\fs.lookup m=none /\
 t σ H1 fun vs H2=>sp (x :: (vs ++ dvs)) H2 Q E
def tMake(C:Addr)(sp:Sp)(dvs:List V)(E:XK)(t:TA):TE:=fun σ H Q=>t σ H fun vs H1=>∀ x dx,H1 x=none->H1 dx=none->dx ≠ x ->
 sp (.ref x :: (vs ++ dvs)) (upd (upd H1 dx (.own x)) x (.ins C dx [])) (fun v H2=>v=.non/\Q (.ref x) H2) E
def Binds(K:W.Frag)(fd:FuncData)(ps:List Str)(ds:List Value):Prop:=
 ∀ (s:Shared) (us:List Value),K.In s.heap->(us ++ ds).length=ps.length->BindsTo s fd ⟨us,[]⟩ (ps.zip (us ++ ds))
theorem Binds.all{K:W.Frag}{fd:FuncData}{ps:List Str}(h:∀ us:List Value,us.length=ps.length->bindArgs fd ⟨us,[]⟩=pure (ps.zip us)):Binds K fd ps []:=fun s us _ hl=>by
 rw [append_nil] at hl ⊢
 exact .of_eq (h us hl)
def a3t(CX:CXT)(X:Cx)(E:XK):Prop:=∀ (pins:List (Addr × Obj)) (σ:St) (H:Hp) (s:Shared) (e:Value) (s':Shared),Inv X pins σ H s->CX X.stack H s E e s'->X.xe e s'
section
variable{X:Cx}{CX:CXT}{k:Nat}{f C:Addr}{fd:FuncData}{ps:List Str}{sp:Sp}{dvs:List V}{ds:List Value}{E:XK}{x m:Str}{p pos apos:Pos}{e o:Expr}{es:List Expr}{ta:TE}{t:TA}
theorem b0n{pins:List (Addr × Obj)}{σ:St}{H:Hp}{s:Shared}{Q:VK}{us:List Value}{vs:List V}(F:FnOk X.prog X.w X.K X.mg X.base CX k f fd ps sp)(hr:Room k X.A)(hb:Binds X.K fd ps ds)(hd:Vals dvs ds)(hx:a3t CX X E)
  (I:Inv X pins σ H s) (r:Vals vs us) (h:sp (vs ++ dvs) H Q E):wpAny (model X.prog X.w) X.A (call (.ref f) us) (EP X pins σ Q) X.xe s:=by
 have r2:Vals (vs ++ dvs) (us ++ ds):=r.append hd
 have hl:(us ++ ds).length=ps.length:=by rw [← r2.length];exact F.len _ _ _ _ h
 refine wpAny_call (codeAny_mono (F.run X.A X.stack s H ⟨us,[]⟩ (us ++ ds) (vs ++ dvs) Q E hr I.env0 (hb s us I.kIn hl) r2 h) fun r s' hq=>?_)
 cases r with
 | error e=>exact hx pins σ H s e s' I hq
 | ok fl =>
  cases fl with
  | ret u=>exact I.after hq
  | next=>exact False.elim hq
  | brk=>exact False.elim hq
  | cont=>exact False.elim hq
theorem c6t(F:FnOk X.prog X.w X.K X.mg X.base CX k f fd ps sp)(hr:Room k X.A)(hg:Gl X x)(hm:X.mg x=some (.ref f))(hk:PySem.W.keepIn X.K (.ref f)=true)(hb:Binds X.K fd ps ds)(hd:Vals dvs ds)(hx:a3t CX X E)
  (ha:PA X (e :: es) t) (hdb:(x == ("__debug__" : Str))=false:=by decide) (he:starEach (e :: es) X.env=(false,eval e X.env) :: starEach es X.env:=by rfl) (hpl:(backTo pos (starEach es X.env)).any (·.1)=false:=by rfl) :
  PE X (.Call (.Name x p) (e :: es) [] pos) (a9c sp dvs E t):=by
 intro pins s σ H Q I h
 refine wpAny_Call_Name_kw (a8z I hg hm ?_ hdb)
 refine PySem.W.callWith_K (h₀:=X.base) I.ok.mod.kin hk (thn (ha pos pins s σ H _ I h) fun us s1 ⟨vs,H1,I1,r,q⟩=>⟨I1.kIn,?_⟩) he hpl
 exact b0n F hr hb hd hx I1 r q
theorem a6u{pl:Sem Bool}(he:PE X o ta)(c:Cls X.K C)(hm:Meth X.K C m f)(F:FnOk X.prog X.w X.K X.mg X.base CX k f fd ps sp)(hr:Room k X.A)(hb:Binds X.K fd ps ds)(hd:Vals dvs ds)(hx:a3t CX X E)(ha:PA X (e :: es) t)
  (hst:starEach (e :: es) X.env=(false,eval e X.env) :: starEach es X.env:=by rfl) (hpl:(backTo pos (starEach es X.env)).any (·.1)=false:=by rfl)
  (ht:eval (.Call (.Attribute o m apos) (e :: es) [] pos) X.env=(do
   let ov ← eval o X.env
   standAt apos.atName
   let (f,first) ← holding [ov] (getMethod ov m pl)
   callWith pos f first (backTo pos (starEach (e :: es) X.env)) (backToKw pos (keywordEach [] X.env))):=by rfl) :
  PE X (.Call (.Attribute o m apos) (e :: es) [] pos) (b7u C m sp dvs E ta t):=by
 intro pins s σ H Q I h
 refine PySem.W.methodCall_KW (pl:=pl) (thn (he pins s σ H _ I h) fun u s1 hq8=>?_) ht
 obtain⟨x,H1,I1,rx,a,dx,fs,ex,ea,l,q⟩:=hq8
 subst ex
 obtain rfl:u=Value.ref a:=rx
 refine b0k I1 ea c hm l ?_
 refine PySem.W.callWith_K (first:=[.ref a]) (h₀:=X.base) I.ok.mod.kin hm.kp (thn (ha pos pins s1 σ H1 _ I1 q) fun us s2 ⟨vs,H2,I2,r,q2⟩=>⟨I2.kIn,?_⟩) hst hpl
 exact b0n (us:=.ref a :: us) (vs:=.ref a :: vs) F hr hb hd hx I2 (.cons rfl r) q2
theorem a9y{pl:Sem Bool}(he:PE X o ta)(c:Cls X.K C)(hm:Meth X.K C m f)(F:FnOk X.prog X.w X.K X.mg X.base CX k f fd ps sp)(hr:Room k X.A)(hb:Binds X.K fd ps ds)(hd:Vals dvs ds)(hx:a3t CX X E)
  (ht:eval (.Call (.Attribute o m apos) [] [] pos) X.env=(do
   let ov ← eval o X.env
   standAt apos.atName
   let (f,first) ← holding [ov] (getMethod ov m pl)
   callWith pos f first (backTo pos (starEach [] X.env)) (backToKw pos (keywordEach [] X.env))):=by rfl) :
  PE X (.Call (.Attribute o m apos) [] [] pos) (b7u C m sp dvs E ta tNil):=by
 intro pins s σ H Q I h
 refine PySem.W.methodCall_KW (pl:=pl) (thn (he pins s σ H _ I h) fun u s1 hq8=>?_) ht
 obtain⟨x,H1,I1,rx,a,dx,fs,ex,ea,l,q⟩:=hq8
 subst ex
 obtain rfl:u=Value.ref a:=rx
 refine b0k I1 ea c hm l ?_
 exact PySem.W.callWith_K0 (first:=[.ref a]) I1.kIn hm.kp (b0n (us:=[.ref a]) (vs:=[.ref a]) F hr hb hd hx I1 (.cons rfl .nil) q)
structure Mk(K:W.Frag)(C f:Addr):Prop where
 makes:PySem.W.makesIn K C=true
 init:PySem.W.findIn K (.ref C) "__init__" = some (some (.ref f))
 fn:PySem.W.isFn K (.ref f)=true
 kp:PySem.W.keepIn K (.ref C)=true
theorem c2v{pins:List (Addr × Obj)}{σ:St}{H:Hp}{s:Shared}{Q:VK}{us:List Value}{vs:List V}(M:Mk X.K C f)(F:FnOk X.prog X.w X.K X.mg X.base CX k f fd ps sp)(hr:Room (k + 1) X.A)(hb:Binds X.K fd ps ds)(hd:Vals dvs ds)
  (hx:a3t CX X E) (I:Inv X pins σ H s) (r:Vals vs us)
  (h:∀ x dx,H x=none->H dx=none->dx ≠ x->sp (.ref x :: (vs ++ dvs)) (upd (upd H dx (.own x)) x (.ins C dx [])) (fun v H2=>v=.non/\Q (.ref x) H2) E) :
  wpAny (model X.prog X.w) X.A (call (.ref C) us) (EP X pins σ Q) X.xe s:=by
 have hq:=h (s.heap.objs.size + 1) s.heap.objs.size (I.hok.fresh (le_succ _)) (I.hok.fresh (le_refl _)) (ne_of_lt (Nat.lt_succ_self _))
 have I2:=Inv.made (C:=C) I
 have r2:Vals (V.ref (s.heap.objs.size + 1) :: (vs ++ dvs)) (Value.ref (s.heap.objs.size + 1) :: (us ++ ds)):=.cons rfl (r.append hd)
 have hl:(Value.ref (s.heap.objs.size + 1) :: us ++ ds).length=ps.length:=by
  have e:=r2.length
  rw [F.len _ _ _ _ hq] at e
  exact e.symm
 refine wpAny_call (c2u (f:=f) I.kIn M.makes M.init (beq_iff_eq.mp M.fn) (codeAny_mono (F.run _ X.stack _ _ ⟨Value.ref (s.heap.objs.size + 1) :: us,[]⟩ (Value.ref (s.heap.objs.size + 1) :: (us ++ ds)) _ _ E (hr.make C us [])
  (I2.env0.make C us []) (hb _ (Value.ref (s.heap.objs.size + 1) :: us) I2.kIn hl) r2 hq) fun r s' hq'=>?_))
 cases r with
 | error e=>exact hx pins σ _ _ e s' I2 hq'
 | ok fl =>
  cases fl with
  | ret u =>
   obtain⟨v,H',I3,rv,ev,q3⟩:=I2.after hq'
   subst ev
   exact⟨rv,⟨V.ref (s.heap.objs.size + 1),H',I3,rfl,q3⟩⟩
  | next=>exact False.elim hq'
  | brk=>exact False.elim hq'
  | cont=>exact False.elim hq'
theorem c6u(M:Mk X.K C f)(F:FnOk X.prog X.w X.K X.mg X.base CX k f fd ps sp)(hr:Room (k + 1) X.A)(hg:Gl X x)(hm:X.mg x=some (.ref C))(hb:Binds X.K fd ps ds)(hd:Vals dvs ds)(hx:a3t CX X E)
  (ha:PA X (e :: es) t) (hdb:(x == ("__debug__" : Str))=false:=by decide) (he:starEach (e :: es) X.env=(false,eval e X.env) :: starEach es X.env:=by rfl) (hpl:(backTo pos (starEach es X.env)).any (·.1)=false:=by rfl) :
  PE X (.Call (.Name x p) (e :: es) [] pos) (tMake C sp dvs E t):=by
 intro pins s σ H Q I h
 refine wpAny_Call_Name_kw (a8z I hg hm ?_ hdb)
 refine PySem.W.callWith_K (h₀:=X.base) I.ok.mod.kin M.kp (thn (ha pos pins s σ H _ I h) fun us s1 ⟨vs,H1,I1,r,q⟩=>⟨I1.kIn,?_⟩) he hpl
 exact c2v M F hr hb hd hx I1 r q
end
section
variable{X:Cx}{CX:CXT}{k:Nat}{f C:Addr}{fd:FuncData}{ps ks:List Str}{sp:Sp}{E:XK}{x m:Str}{p pos apos kpos:Pos}{e o:Expr}{es:List Expr}{kws:List Keyword}{te ta:TE}{t tk:TA}{nm:Option Str}
variable{g:List Value->List Value->List Value}{gV:List V->List V->List V}
end
structure FnScope(N P:List Str)(sc:Scope):Prop where
 kind:sc.kind=.function
 co:sc.isCoroutine=false
 gen:sc.isGenerator=false
 nd:N.Nodup
 pre:N.take P.length=P
 par:∀ x ∈ P,sc.names.lookup x=some .local ∨ sc.names.lookup x=some .cell
 nofree:∀ y ∈ sc.names,y.2 ≠ .free
theorem b2f{kindOf:Str->Option NameKind}{x:Str}:∀ {binds:List (Str × Value)} {m:Str->Option Value},(∀ v,(x,v) ∉ binds)->bindL kindOf binds m x=m x
 | [],_,_=>rfl
 | (n,v) :: r,m,h=>by
  unfold bindL
  rw [b2f fun w hw=>h w (mem_cons_of_mem _ hw)]
  split
  ·have:x ≠ n:=by rintro rfl;exact h v mem_cons_self
   simp [this]
  ·rfl
theorem b2g{kindOf:Str->Option NameKind}{x:Str}:∀ {binds:List (Str × Value)} {m:Str->Option Value},(∀ v,(x,v) ∉ binds)->bindC kindOf binds m x=m x
 | [],_,_=>rfl
 | (n,v) :: r,m,h=>by
  unfold bindC
  rw [b2g fun w hw=>h w (mem_cons_of_mem _ hw)]
  split
  ·rfl
  ·have:x ≠ n:=by rintro rfl;exact h v mem_cons_self
   simp [this]
theorem b2h{kindOf:Str->Option NameKind}{x:Str}{v:Value}:∀ {P:List Str} {vs:List Value} {i:Nat} {m:Str->Option Value},P.Nodup->P[i]? = some x->vs[i]? = some v->kindOf x=some .local ->
  bindL kindOf (P.zip vs) m x=some v
 | [],_,_,_,_,h,_,_=>by simp at h
 | _ :: _,[],_,_,_,_,h,_=>by simp at h
 | p :: P,w :: vs,0,m,nd,h1,h2,hk=>by
  simp at h1 h2;subst h1;subst h2
  show bindL kindOf ((p,w) :: P.zip vs) m p=_
  unfold bindL
  rw [b2f fun v hv=>(nodup_cons.mp nd).1 (of_mem_zip hv).1,if_pos hk]
  simp
 | p :: P,w :: vs,i + 1,m,nd,h1,h2,hk=>by
  show bindL kindOf ((p,w) :: P.zip vs) m x=_
  unfold bindL
  exact b2h (i:=i) (nodup_cons.mp nd).2 (by simpa using h1) (by simpa using h2) hk
theorem b2j{kindOf:Str->Option NameKind}{x:Str}{v:Value}:∀ {P:List Str} {vs:List Value} {i:Nat} {m:Str->Option Value},P.Nodup->P[i]? = some x->vs[i]? = some v->kindOf x ≠ some .local ->
  bindC kindOf (P.zip vs) m x=some v
 | [],_,_,_,_,h,_,_=>by simp at h
 | _ :: _,[],_,_,_,_,h,_=>by simp at h
 | p :: P,w :: vs,0,m,nd,h1,h2,hk=>by
  simp at h1 h2;subst h1;subst h2
  show bindC kindOf ((p,w) :: P.zip vs) m p=_
  unfold bindC
  rw [b2g fun v hv=>(nodup_cons.mp nd).1 (of_mem_zip hv).1,if_neg hk]
  simp
 | p :: P,w :: vs,i + 1,m,nd,h1,h2,hk=>by
  show bindC kindOf ((p,w) :: P.zip vs) m x=_
  unfold bindC
  exact b2j (i:=i) (nodup_cons.mp nd).2 (by simpa using h1) (by simpa using h2) hk
noncomputable def start(N:List Str)(vs:List V):St:=vs.map some ++ List.replicate (N.length - vs.length) none
noncomputable def cxOf(CX:CXT)(P:Program)(w:World)(K:W.Frag)(mg:Str->Option Value)(base:Heap)(N:List Str)(qual:Str)(scope:Scope)(f:Addr)(cd:Value)(A:Around)(outer:List Env)(s:Shared)(H:Hp)(E:XK):Cx where
 prog:=P
 w:=w
 K:=K
 mg:=mg
 base:=base
 A:=A.deeper (envOfC qual scope s.heap.objs.size f cd)
 N:=N
 s₀:=s
 H₀:=H
 env:=envOfC qual scope s.heap.objs.size f cd
 outer:=outer
 stack:=envOfC qual scope s.heap.objs.size f cd :: outer
 ex:=[]
 calm:=true
 fn:=fun _=>true
 pn:=[]
 xe:=fun e s'=>wpAny (model P w) (A.deeper (envOfC qual scope s.heap.objs.size f cd)) (leaving (envOfC qual scope s.heap.objs.size f cd) e) (fun _ s''=>CX outer H s E e s'') (fun e' s''=>CX outer H s E e' s'') s'
theorem b3z{sc:Scope}{n:Nat}{x:Str}(h:sc.names.lookup x=some .cell):∃ c,(cellsFrom n sc.names []).lookup x=some c:=by
 have q:=PySem.W.cellsFrom_some sc.names n [] (.inl h)
 exact Option.isSome_iff_exists.mp q
theorem b2k{CX:CXT}{P:Program}{w:World}{K:W.Frag}{mg:Str->Option Value}{base:Heap}{N ps:List Str}{qual:Str}{scope:Scope}{f:Addr}{cd:Value}{A:Around}{outer:List Env}{s s1:Shared}{H:Hp}{E:XK}{us:List Value}{vs:List V}
  (S:FnScope N ps scope) (hd:A.handled=none) (e0:Env0 P w K mg base A outer s H) (hl:vs.length=ps.length) (r:Vals vs us)
  (x:InCallC s s.heap.objs.size (bindL (envOfC qual scope s.heap.objs.size f cd).kindOf (ps.zip us) fun _=>none) (cellsFrom (s.heap.objs.size + 1) scope.names []) (bindC (envOfC qual scope s.heap.objs.size f cd).kindOf (ps.zip us) fun _=>none) s1) :
  Inv (cxOf CX P w K mg base N qual scope f cd A outer s H E) [] (start N vs) H s1:=by
 have hpl:ps.length <= N.length:=by have:=congrArg List.length S.pre;rw [length_take] at this;omega
 obtain⟨h1,tk,rfl,hk⟩:=x.done
 have noA:∀ b:Addr,b ∉ (cxOf CX P w K mg base N qual scope f cd A outer s H E).ex:=fun b z=>absurd (show b ∈ ([]:List Addr) from z) (by simp)
 refine⟨⟨e0.mod,S.kind,rfl,rfl,le_refl _,fun y z c h1 h2=>?_,fun y hy=>?_,fun y c _ h=>?_,fun _=>hd,Around.frames_deeper e0.frames,.inr ⟨rfl,rfl⟩,fun b z=>absurd z (noA b),e0.bs,e0.bsz,fun b _ _=>noA b,fun b z=>absurd z (noA b),e0.funs,e0.frf⟩,
  rfl,e0.bare,Un.kept hk,⟨_,x.toInCall.ns,fun i y v h1 h2 h3=>?_⟩,fun y c h=>⟨_,x.cell y c h⟩,e0.hok.fresh (le_refl _),fun y c h=>?_,fun p hp=>absurd (show p ∈ ([]:List (Addr × Obj)) from hp) (by simp),e0.hok.kept hk,?_⟩
 ·exact name_of_addr x.apart (PySem.mem_of_lookup h1) (PySem.mem_of_lookup h2)
 ·have hy:scope.names.lookup y=some .cell ∨ scope.names.lookup y=some .free:=hy
  rcases hy with hy | hy
  ·exact b3z hy
  ·exact absurd rfl (S.nofree _ (PySem.mem_of_lookup hy))
 ·exact le_of_lt (x.above y c (PySem.mem_of_lookup h))
 ·have hi:i < vs.length:=by
   unfold start at h2
   by_cases hi:i < vs.length
   ·exact hi
   ·rw [getElem?_append_right (by simpa using hi)] at h2
    rw [List.getElem?_replicate] at h2
    split at h2<;>cases h2
  have ha:vs[i]? = some v:=by
   unfold start at h2
   rw [List.getElem?_append_left (by simpa using hi),getElem?_map] at h2
   cases e:vs[i]? with
   | none=>rw [e] at h2;cases h2
   | some a=>rw [e] at h2;cases h2;rfl
  obtain⟨u,hu,rv⟩:=r.get ha
  have hp:ps[i]? = some y:=by
   rw [← S.pre,List.getElem?_take_of_lt (by omega)];exact h1
  have ndP:ps.Nodup:=by rw [← S.pre];exact S.nd.sublist (List.take_sublist _ _)
  refine⟨u,rv,?_⟩
  rcases S.par y (mem_of_getElem? hp) with k | k
  ·exact .inl ⟨k,b2h ndP hp hu k⟩
  ·obtain⟨c,e⟩:=b3z (n:=s.heap.objs.size + 1) k
   refine .inr ⟨.inl k,c,e,?_⟩
   have q:=x.cell y c e
   rw [b2j ndP hp hu (by show scope.names.lookup y ≠ _;rw [k];decide)] at q
   exact q
 ·exact e0.hok.fresh (le_of_lt (x.above y c (PySem.mem_of_lookup h)))
 ·unfold start
  show _=N.length
  rw [length_append,length_map,length_replicate]
  omega
theorem b7v{CX:CXT}{P:Program}{w:World}{K:W.Frag}{mg:Str->Option Value}{base:Heap}{k:Nat}{f:Addr}{name qual:Str}{params:Arguments}{body:List Stmt}{scope:Scope}{dV kV doc pm cdv ct oc:Value}{an od:Option Addr}
  {osl:Array (Option Value)} {N ps:List Str} {sp:Sp} (lk:K.lookup f=some ⟨oc,od,.func (PySem.W.fnOf name qual params body scope dV kV doc pm an cdv ct),osl⟩) (hcd:PySem.W.codeIn K cdv qual=true) (S:FnScope N ps scope)
  (len:∀ vs H Q E,sp vs H Q E->vs.length=ps.length)
  (hbody:∀ (A:Around) (outer:List Env) (s:Shared) (H:Hp) (vs:List V) (Q:VK) (E:XK),Room k (A.deeper (envOfC qual scope s.heap.objs.size f cdv))->sp vs H Q E ->
   ∃ t,PSs (cxOf CX P w K mg base N qual scope f cdv A outer s H E) body t/\t { nx:=fun _ H'=>Q .non H',rt:=Q } (start N vs) H) :
  FnOk P w K mg base CX (k + 1) f (PySem.W.fnOf name qual params body scope dV kV doc pm an cdv ct) ps sp:=by
 refine⟨len,fun A outer s H args us vs Q E hr e0 hb r hsp=>?_⟩
 have hl:=len _ _ _ _ hsp
 have KX:K.In s.heap:=e0.mod.kin.keeps fun b o e=>(e0.bs b o e).1
 have lim:s.heap.NoLimit:=e0.mod.nolimit.keeps fun b o e=>(e0.bs b o e).1
 have hkind:∀ y ∈ ps.zip us,scope.names.lookup y.1=some .local ∨ (scope.names.lookup y.1=some .cell/\((cellsFrom (s.heap.objs.size + 1) scope.names []).lookup y.1).isSome=true):=fun⟨n,v⟩ hy=>by
  rcases S.par n (of_mem_zip hy).1 with q | q
  ·exact .inl q
  ·exact .inr ⟨q,PySem.W.cellsFrom_some _ _ _ (.inl q)⟩
 refine codeAny_call_function hr.depth (KX _ _ lk) rfl S.co S.gen rfl (PySem.W.codeRec_of KX hcd) (hb _ _ _ _ ?_)
 refine wpAny_newFunctionEnv_cells S.kind hkind fun env he s1 x=>?_
 subst he
 refine⟨lim.keeps x.toInCall.keep,codeAny_func ?_⟩
 obtain⟨t,ht,hq⟩:=hbody A outer s H vs Q E (hr.deeper _) hsp
 have I:Inv (cxOf CX P w K mg base N qual scope f cdv A outer s H E) [] (start N vs) H s1:=b2k S hr.hd e0 hl r x
 refine wpAny_mono (ht [] s1 (start N vs) H _ I hq) (fun fl s' hs=>?_) fun e s' hs=>hs
 have fin:∀ {σ':St} {H':Hp} {v:V} {u:Value},Inv (cxOf CX P w K mg base N qual scope f cdv A outer s H E) [] σ' H' s'->RelV v u->Q v H'->CE outer P w H s Q u s':=
  fun{σ' H' v u} J rv q=>⟨v,H',J.os,J.bare,J.base,J.hok,rv,q⟩
 cases fl with
 | ret u =>
  obtain⟨v,σ',H',J,rv,q⟩:=hs
  exact fin J rv q
 | next =>
  obtain⟨σ',H',J,q⟩:=hs
  exact fin (v:=V.non) (u:=Value.none) J rfl q
 | brk =>
  obtain⟨_,_,_,q⟩:=hs
  exact False.elim q
 | cont =>
  obtain⟨_,_,_,q⟩:=hs
  exact False.elim q
end L2
namespace L2
open PySem PySem.Spec PyProof.Rows
section
variable{X:Cx}{x:Str}{p pos:Pos}{e:Expr}{es:List Expr}{t:TA}{id T:String}{r:List V->Hp->VK->Prop}
def tCB(r:List V->Hp->VK->Prop)(t:TA):TE:=fun σ H Q=>t σ H fun vs H1=>r vs H1 Q
theorem a2u(hc:a1k X (.builtin id) r)(hg:Gl X x)(hm:X.mg x=none)(hv:bootBuiltins x=some (.builtin id))(ha:PA X (e :: es) t) (hn:x ≠ "__name__":=by decide) (hdb:(x == ("__debug__" : Str))=false:=by decide)
  (he:starEach (e :: es) X.env=(false,eval e X.env) :: starEach es X.env:=by rfl) (hpl:(backTo pos (starEach es X.env)).any (·.1)=false:=by rfl):PE X (.Call (.Name x p) (e :: es) [] pos) (tCB r t):=by
 intro pins s σ H Q I h
 refine wpAny_Call_Name_kw (a8f I hg hm hv ?_ hn hdb)
 exact PyProof.Rows.callWith_builtin1 (thn (ha pos pins s σ H _ I h) fun us s1 hq8=>by obtain⟨vs,H1,I1,r1,q1⟩:=hq8;exact hc pins s1 σ H1 vs us Q I1 r1 q1) he hpl
theorem a2g(hc:a1k X (.type T) r)(hg:Gl X x)(hm:X.mg x=none)(hv:bootBuiltins x=some (.type T))(ha:PA X (e :: es) t) (hn:x ≠ "__name__":=by decide) (hdb:(x == ("__debug__" : Str))=false:=by decide)
  (he:starEach (e :: es) X.env=(false,eval e X.env) :: starEach es X.env:=by rfl) (hpl:(backTo pos (starEach es X.env)).any (·.1)=false:=by rfl):PE X (.Call (.Name x p) (e :: es) [] pos) (tCB r t):=by
 intro pins s σ H Q I h
 refine wpAny_Call_Name_kw (a8f I hg hm hv ?_ hn hdb)
 exact PyProof.Rows.callWith_type1 (thn (ha pos pins s σ H _ I h) fun us s1 hq8=>by obtain⟨vs,H1,I1,r1,q1⟩:=hq8;exact hc pins s1 σ H1 vs us Q I1 r1 q1) he hpl
end
end L2
namespace HT
open PySem PyProof.Rows
section
open PySem.SeqAt
open PySem.AutoSeq1 (wpAny_loadPart')
open PySem.MeetsSeq PySem.MeetsSeq2 PySem.MeetsSeq3
end
section
variable{prog:Program}{w:World}{A:Around}{E:Value->Shared->Prop}{s:Shared}
theorem c6v{t b:Addr}{vs ws:List Value}{Q:Value->Shared->Prop}(ht:IsTup s.heap t vs.toArray)(hb:IsTup s.heap b ws.toArray)(hv:vs ≠ [])
  (h1:ws=[]->Q (.ref t) s) (h2:ws ≠ []->Q (.ref s.heap.objs.size) { s with heap:=s.heap.push { cls:=.type "tuple",data:=.seq (vs ++ ws).toArray } })
  (hsz:vs.length + ws.length <= sizeLine):wpAny (model prog w) A (binaryOp .Add (.ref t) (.ref b)) Q E s:=by
 obtain⟨⟨cls,dd,data,sl⟩,ho,hc,n,hd⟩:=id ht
 obtain⟨⟨cls2,dd2,data2,sl2⟩,ho2,hc2,n2,hd2⟩:=id hb
 simp only at hc hd hc2 hd2
 subst hc hd hc2 hd2
 have e:vs.toArray ++ ws.toArray=(vs ++ ws).toArray:=by simp
 by_cases hw:ws=[]
 ·exact concat_meets ⟨_,ho,rfl⟩ ⟨_,ho2,rfl⟩ noFill_tuple_add seq_tuple_add PySem.F.slot_tuple_add PySem.F.entry_tuple_add (PySem.F.args_tuple_add_2 _ _)
   (tuple_addW1 t b vs.toArray ws.toArray n n2 dd dd2 sl sl2 (by simpa using hv) (by simp [hw])) ⟨ho,ho2,h1 hw⟩
 ·refine concat_meets ⟨_,ho,rfl⟩ ⟨_,ho2,rfl⟩ noFill_tuple_add seq_tuple_add PySem.F.slot_tuple_add PySem.F.entry_tuple_add (PySem.F.args_tuple_add_2 _ _)
   (tuple_addW2 t b vs.toArray ws.toArray n n2 dd dd2 sl sl2 (by simpa using hv) (by simpa using hw) (by rw [size_toArray,size_toArray];exact hsz)) ⟨ho,ho2,?_⟩
  rw [e]
  exact h2 hw
noncomputable def sIx(n d:Nat):Option Int->Nat
 | none=>d
 | some v=>if v < 0 then(v + (n:Int)).toNat else min v.toNat n
theorem d0p(n d:Nat)(hd:d <= n)(o:Option Int):sIx n d o <= n:=by
 cases o with
 | none=>exact hd
 | some v =>
  show(if v < 0 then(v + (n:Int)).toNat else min v.toNat n) <= n
  by_cases hv:v < 0
  ·rw [if_pos hv];omega
  ·rw [if_neg hv];exact Nat.min_le_right _ _
theorem b6f(v:Int)(n d:Nat):(if v < 0 then max (v + (n:Int)) 0 else min v (n:Int))=((sIx n d (some v):Nat):Int):=by
 show(if v < 0 then max (v + (n:Int)) 0 else min v (n:Int))=(((if v < 0 then(v + (n:Int)).toNat else min v.toNat n):Nat):Int)
 by_cases hv:v < 0
 ·simp only [if_pos hv];omega
 ·simp only [if_neg hv];omega
theorem b7w(lo hi:Option Int)(n:Nat):Builtin.Slice.sliceAdjust lo hi 1 (n:Int)=(((sIx n 0 lo:Nat):Int),((sIx n n hi:Nat):Int)):=by
 have h1:¬ ((1:Int) < 0):=by omega
 unfold Builtin.Slice.sliceAdjust
 simp only [h1,if_false]
 refine Prod.ext ?_ ?_
 ·cases lo with
  | none=>rfl
  | some v=>exact b6f v n 0
 ·cases hi with
  | none=>rfl
  | some v=>exact b6f v n n
theorem b7x(i j:Nat):Builtin.Slice.slicePlaces (i:Int) (j:Int) 1=j - i:=by
 unfold Builtin.Slice.slicePlaces
 have h1:(1:Int) > 0:=by omega
 simp only [h1,if_true,Int.ediv_one]
 split<;>omega
theorem b0o{v:Value}{o:Option Int}{Q:Option Int->Shared->Prop}(p:IsPart v o)(h:Q o s):wpAny (model prog w) A (Builtin.Slice.slicePartIndex v) Q E s:=by
 cases p with
 | none=>exact slicePart_none h
 | int i t=>exact slicePart_int h
theorem a5z{sl:Addr}{vl vu:Value}{lo hi:Option Int}{n:Nat}{Q:Int × Int × Nat->Shared->Prop}(hs:s.heap.IsSliceOf sl vl vu .none)(pl:IsPart vl lo)(pu:IsPart vu hi)
  (h:Q (((sIx n 0 lo:Nat):Int),1,sIx n n hi - sIx n 0 lo) s):wpAny (model prog w) A (Builtin.Slice.sliceApplied (.ref sl) (pure (n:Int))) Q E s:=by
 obtain⟨os,hos,hcs,hds⟩:=id hs
 unfold Builtin.Slice.sliceApplied Builtin.Slice.sliceFields
 refine wpAny_bind (wpAny_bind (wpAny_field hos hds (x:=vl) rfl (wpAny_bind (wpAny_field hos hds (x:=vu) rfl (wpAny_bind (wpAny_field hos hds (x:=.none) rfl (wpAny_pure ?_)))))))
 refine wpAny_bind (slicePart_none ?_)
 show wpAny _ _ (if ((1:Int) == 0)=true then _ else _) _ _ s
 rw [if_neg (by decide)]
 refine wpAny_bind (b0o pl (wpAny_bind (b0o pu (wpAny_bind (wpAny_pure ?_)))))
 show wpAny _ _ (match Builtin.Slice.sliceAdjust lo hi 1 (n:Int) with | (lo,hi)=>pure (lo,(1:Int),Builtin.Slice.slicePlaces lo hi 1)) _ _ s
 rw [b7w lo hi n]
 show wpAny _ _ (pure (((sIx n 0 lo:Nat):Int),(1:Int),Builtin.Slice.slicePlaces ((sIx n 0 lo:Nat):Int) ((sIx n n hi:Nat):Int) 1)) _ _ s
 rw [b7x]
 exact wpAny_pure h
theorem c2w(xs:Array Value)(i k:Nat):((List.range k).filterMap fun(m:Nat)=>xs[((i:Int) + (m:Int) * 1).toNat]?).toArray=((xs.toList.drop i).take k).toArray:=by
 have e:(fun(m:Nat)=>xs[((i:Int) + (m:Int) * 1).toNat]?)=fun m=>xs[i + m]?:=by
  funext m
  have:((i:Int) + (m:Int) * 1).toNat=i + m:=by omega
  rw [this]
 rw [e]
 have:=pick_run xs i k
 rw [List.filterMap_map] at this
 have e2:((fun x=>xs[x]?) ∘ fun x=>i + x)=fun m=>xs[i + m]?:=rfl
 rw [e2] at this
 rw [this]
theorem a9s{t sl:Addr}{items:Array Value}{vl vu:Value}{lo hi:Option Int}{Q:Value->Shared->Prop}(ht:IsTup s.heap t items)(hs:s.heap.IsSliceOf sl vl vu .none)(pl:IsPart vl lo)(pu:IsPart vu hi)
  (hw:¬ (sIx items.size 0 lo=0/\sIx items.size items.size hi=items.size))
  (h:Q (.ref s.heap.objs.size) { s with heap:=s.heap.push { cls:=.type "tuple",data:=.seq ((items.toList.drop (sIx items.size 0 lo)).take (sIx items.size items.size hi - sIx items.size 0 lo)).toArray } })
  (hsz:items.size <= sizeLine):wpAny (model prog w) A (getItem (.ref t) (.ref sl)) Q E s:=by
 have htake:sizeOk (.seq ((items.toList.drop (sIx items.size 0 lo)).take (sIx items.size items.size hi - sIx items.size 0 lo)).toArray):=by
  show((items.toList.drop (sIx items.size 0 lo)).take (sIx items.size items.size hi - sIx items.size 0 lo)).toArray.size <= sizeLine
  rw [size_toArray,length_take,List.length_drop,Array.length_toList]
  omega
 have hj:sIx items.size items.size hi <= items.size:=d0p _ _ (le_refl _) hi
 obtain⟨os,hos,hcs,hds⟩:=id hs
 have hTs:s.TypeIs (.ref sl) "slice":=⟨os,hos,hcs⟩
 unfold getItem
 try with_reducible refine wpAny_holding ?_
 first | refine wpAny_bind (wpAny_pure ?_) | skip
 refine wpAny_bind (wpAny_sequenceKey ht.typeIs (by decide) ?_)
 refine wpAny_bind (wpAny_callSpecial?_slot (name:=Str.ofString "__getitem__") ht.typeIs PyProof.Rows.slot_tuple_getitem
  (wpAny_call_entry PyProof.Rows.slot_tuple_getitem ht.typeIs entry_tuple_getitem ?_ (args_tuple_getitem _ _)))
 show wpAny _ _ (Builtin.Tuple.tupleItemsOf (.ref t) >>= _) _ _ s
 refine wpAny_bind (tupleItemsOf_ ht ?_)
 refine wpAny_bind (wpAny_typeOf hTs ?_)
 rw [if_pos (by decide)]
 refine wpAny_bind (a5z hs pl pu ?_)
 have hno:¬ ((((sIx items.size 0 lo:Nat):Int) == 0 && (1:Int) == 1 && (sIx items.size items.size hi - sIx items.size 0 lo) == items.size)=true):=by
  intro q
  rw [and_eq_true,and_eq_true] at q
  have q1:((sIx items.size 0 lo:Nat):Int)=0:=eq_of_beq q.1.1
  have q2:sIx items.size items.size hi - sIx items.size 0 lo=items.size:=eq_of_beq q.2
  exact hw ⟨by omega,by omega⟩
 show wpAny _ _ (if (((sIx items.size 0 lo:Nat):Int) == 0 && (1:Int) == 1 && (sIx items.size items.size hi - sIx items.size 0 lo) == items.size)=true then _ else _) _ _ s
 rw [if_neg hno,c2w]
 first
  | exact wpAny_bind (m:=Builtin.Tuple.tupleExact _) (wpAny_newObj_type (wpAny_pure ⟨_,rfl,wpAny_pure h⟩) htake)
  | exact wpAny_bind (m:=Builtin.Tuple.tupleExact _) (wpAny_newObj_type (wpAny_bind (wpAny_pure (wpAny_pure ⟨_,rfl,wpAny_pure h⟩))) htake)
  | exact wpAny_bind (wpAny_bind (m:=Builtin.Tuple.tupleExact _) (wpAny_newObj_type (wpAny_pure (wpAny_pure ⟨_,rfl,wpAny_pure h⟩)) htake))
  | exact wpAny_bind (wpAny_bind (m:=Builtin.Tuple.tupleExact _) (wpAny_newObj_type (wpAny_pure ⟨_,rfl,wpAny_pure h⟩) htake))
end
end HT
namespace L2
open PySem PySem.Spec PyProof.Rows
abbrev TO:=St->Hp->(Option Int->Hp->Prop)->Prop
def PO(X:Cx)(e:Option Expr)(t:TO):Prop:=
 ∀ (pins:List (Addr × Obj)) (s:Shared) (σ:St) (H:Hp) (Q:Option Int->Hp->Prop),Inv X pins σ H s->t σ H Q ->
  wpAny (model X.prog X.w) X.A (evalPart e X.env) (fun u s'=>∃ o H',Inv X pins σ H' s'/\IsPart u o/\Q o H') X.xe s
noncomputable def b6g:TO:=fun _ H Q=>Q none H
def c5s(t:TE):TO:=fun σ H Q=>t σ H fun x H1=>∃ i,x=.int i/\Q (some i) H1
section
variable{X:Cx}{e:Expr}{te:TE}{lo hi:Option Expr}{tl th:TO}{pos p2:Pos}
theorem c6w:PO X none b6g:=by
 intro pins s σ H Q I h
 rw [evalPart_none]
 exact wpAny_pure ⟨none,H,I,.none,h⟩
theorem c6x(h:PE X e te):PO X (some e) (c5s te):=by
 intro pins s σ H Q I hw
 rw [evalPart_some]
 refine thn (h pins s σ H _ I hw) fun u s1 hq9=>?_
 obtain⟨x,H1,I1,r1,q1⟩:=hq9
 obtain⟨i,rfl,q⟩:=q1
 obtain⟨t,rfl⟩:=r1
 exact⟨some i,H1,I1,.int i t,q⟩
def SlR(X:Cx)(r:V->Option Int->Option Int->Hp->VK->Prop):Prop:=
 ∀ (pins:List (Addr × Obj)) (s:Shared) (σ:St) (H:Hp) (x:V) (v vl vu:Value) (lo hi:Option Int) (sl:Addr) (Q:VK),Inv X pins σ H s->RelV x v->s.heap.IsSliceOf sl vl vu .none->IsPart vl lo->IsPart vu hi->r x lo hi H Q ->
  ∃ T id,typeLookup (.type T) "__getitem__" = pure (some (.builtin id))/\s.TypeIs v T/\wpAny (model X.prog X.w) X.A (getItem v (.ref sl)) (EP X pins σ Q) X.xe s
theorem SlR.or{r r':V->Option Int->Option Int->Hp->VK->Prop}(h:SlR X r)(h':SlR X r'):SlR X (fun x lo hi H Q=>r x lo hi H Q ∨ r' x lo hi H Q):=by
 intro pins s σ H x v vl vu lo hi sl Q I rx hs pl pu q
 rcases q with q | q
 ·exact h pins s σ H x v vl vu lo hi sl Q I rx hs pl pu q
 ·exact h' pins s σ H x v vl vu lo hi sl Q I rx hs pl pu q
def tSl(r:V->Option Int->Option Int->Hp->VK->Prop)(te:TE)(tl th:TO):TE:=fun σ H Q=>te σ H fun x H1=>tl σ H1 fun l H2=>th σ H2 fun u H3=>r x l u H3 Q
theorem c2x{r:V->Option Int->Option Int->Hp->VK->Prop}(hr:SlR X r)(he:PE X e te)(hl:PO X lo tl)(hu:PO X hi th):PE X (.Subscript e (.Slice lo hi none p2) pos) (tSl r te tl th):=by
 intro pins s σ H Q I h
 refine Subscript_ (thn (he pins s σ H _ I h) fun v s1 hq9=>?_)
 obtain⟨x,H1,I1,r1,q1⟩:=hq9
 refine wpAny_Slice (thn (hl pins s1 σ H1 _ I1 q1) fun vl s2 ⟨l,H2,I2,pl,q2⟩=>thn (hu pins s2 σ H2 _ I2 q2) fun vu s3 hq9=>?_)
 obtain⟨u,H3,I3,pu,q3⟩:=hq9
 rw [evalPart_none]
 refine wpAny_pure ?_
 have I4:Inv X pins σ H3 { s3 with heap:=s3.heap.push { cls:=.type "slice",data:=.fields #[vl,vu,.none] } }:=I3.kept (t':=s3.toks) fun b ob q=>get?_push_of_some _ q
 obtain⟨T,id,hT,ht,hg⟩:=hr pins { s3 with heap:=s3.heap.push { cls:=.type "slice",data:=.fields #[vl,vu,.none] } } σ H3 x v vl vu l u s3.heap.objs.size Q I4 r1 (Heap.IsSliceOf.new ..) pl pu q3
 show wpAny (model X.prog X.w) X.A (subscriptTail e (.Slice lo hi none p2) v (.ref s3.heap.objs.size)) (EP X pins σ Q) X.xe { s3 with heap:=s3.heap.push { cls:=.type "slice",data:=.fields #[vl,vu,.none] } }
 exact tail_any (ops:=[.ref s3.heap.objs.size,v]) ht hT hg (by with_unfolding_all rfl)
noncomputable def cutV(xs:List V)(lo hi:Option Int):List V:=(xs.drop (HT.sIx xs.length 0 lo)).take (HT.sIx xs.length xs.length hi - HT.sIx xs.length 0 lo)
theorem b5r(xs:List V)(lo hi:Option Int):(cutV xs lo hi).length <= xs.length:=by
 unfold cutV
 rw [length_take,List.length_drop]
 omega
noncomputable def rSlT(K:W.Frag):V->Option Int->Option Int->Hp->VK->Prop:=fun x lo hi H Q=>∃ a xs,x=.ref a/\SqT K H a xs /\
 ¬ (HT.sIx xs.length 0 lo=0/\HT.sIx xs.length xs.length hi=xs.length)/\∀ p,H p=none->Q (.ref p) (upd H p (.tup (cutV xs lo hi)))
theorem c0h:SlR X (rSlT X.K):=by
 intro pins s σ H x v vl vu lo hi sl Q I rx hs pl pu h
 obtain⟨a,xs,rfl,hx,hw,q⟩:=h
 cases rx
 obtain⟨its,r,ht,hz⟩:=I.tuple hx
 have hlen:its.toArray.size=xs.length:=by rw [size_toArray];exact r.length.symm
 refine⟨"tuple",_,PyProof.Rows.slot_tuple_getitem.lookup,ht.typeIs,?_⟩
 refine HT.a9s ht hs pl pu (by rw [hlen];exact hw) ?_ (by rw [hlen];exact hz)
 rw [hlen]
 refine⟨.ref s.heap.objs.size,_,I.laid (t':=s.toks) (o:=.tup (cutV xs lo hi)) (fun b ob q=>get?_push_of_some _ q) (le_refl _) ?_,rfl,q _ (I.hok.fresh (le_refl _))⟩
 exact⟨le_trans (b5r xs lo hi) hz,_,(r.drop (HT.sIx xs.length 0 lo)).take (HT.sIx xs.length xs.length hi - HT.sIx xs.length 0 lo),a3d.new _ _⟩
def c5t(K:W.Frag):R2:=fun x y H Q=>∃ a b xs ys,x=.ref a/\y=.ref b/\SqT K H a xs/\SqT K H b ys/\xs ≠ []/\xs.length + ys.length <= sizeLine /\
 (ys=[]->Q (.ref a) H)/\(ys ≠ []->∀ p,H p=none->Q (.ref p) (upd H p (.tup (xs ++ ys))))
theorem Vals.nil_iff{xs:List V}{us:List Value}(r:Vals xs us):us=[] ↔ xs=[]:=by
 cases r with
 | nil=>simp
 | cons _ _=>simp
theorem c6y:OpR X (binaryOp .Add) (c5t X.K):=by
 intro pins s σ H x y v u Q I rx ry h
 obtain⟨a,b,xs,ys,rfl,rfl,ha,hb,hx,hz,q1,q2⟩:=h
 cases rx
 cases ry
 obtain⟨its,r1,p1,_⟩:=I.tuple ha
 obtain⟨its2,r2,p2,_⟩:=I.tuple hb
 refine HT.c6v p1 p2 (fun z=>hx (r1.nil_iff.mp z)) (fun z=>⟨.ref a,H,I,rfl,q1 (r2.nil_iff.mp z)⟩) (fun z=>?_) (by rw [← r1.length,← r2.length];exact hz)
 refine⟨.ref s.heap.objs.size,_,I.laid (t':=s.toks) (o:=.tup (xs ++ ys)) (fun b ob q=>get?_push_of_some _ q) (le_refl _) ?_,rfl,q2 (fun w=>z (r2.nil_iff.mpr w)) _ (I.hok.fresh (le_refl _))⟩
 exact⟨by rw [length_append];exact hz,_,r1.append r2,a3d.new _ _⟩
end
end L2
namespace L2
open PySem PySem.Spec PyProof.Rows
noncomputable def ixN(n:Nat)(i:Int):Option Nat:=if 0 <= i then(if i < n then some i.toNat else none) else if -(n:Int) <= i then some (i + n).toNat else none
noncomputable def atI{α:Type}(xs:List α)(i:Int):Option α:=(ixN xs.length i).bind fun j=>xs[j]?
theorem b6h{n:Nat}{i:Int}{j:Nat}(h:ixN n i=some j):seqIndex? i n=some j/\j < n /\ -(n:Int) <= i/\i < n:=by
 unfold ixN at h
 by_cases h0:0 <= i
 ·rw [if_pos h0] at h
  by_cases h1:i < n
  ·rw [if_pos h1] at h
   have e:i.toNat=j:=Option.some.inj h
   exact⟨by rw [seqIndex_of h0 h1,e],by omega,by omega,h1⟩
  ·rw [if_neg h1] at h;cases h
 ·rw [if_neg h0] at h
  by_cases h1:-(n:Int) <= i
  ·rw [if_pos h1] at h
   have e:(i + n).toNat=j:=Option.some.inj h
   exact⟨by rw [seqIndex_neg (by omega) h1,e],by omega,h1,by omega⟩
  ·rw [if_neg h1] at h;cases h
theorem b1q{α:Type}{xs:List α}{i:Int}{v:α}(h:atI xs i=some v):∃ j,seqIndex? i xs.length=some j/\xs[j]? = some v/\j < xs.length /\ -(xs.length:Int) <= i/\i < xs.length:=by
 unfold atI at h
 cases e:ixN xs.length i with
 | none=>rw [e] at h;cases h
 | some j =>
  rw [e] at h
  obtain⟨h1,h2,h3,h4⟩:=b6h e
  exact⟨j,h1,h,h2,h3,h4⟩
theorem a3i{α:Type}{xs:List α}{j:Nat}{v:α}(h:xs[j]? = some v):atI xs (j:Int)=some v:=by
 have hj:j < xs.length:=(List.getElem?_eq_some_iff.mp h).1
 have e:ixN xs.length (j:Int)=some j:=by
  unfold ixN
  rw [if_pos (by omega),if_pos (by omega)];simp
 unfold atI;rw [e];exact h
def b6i(b:Expr):Prop:=∀ o i,subscripted b false o i=operate [o,i] (getItem o i)
def IxR(X:Cx)(r:R2):Prop:=
 ∀ (value slice:Expr) (pins:List (Addr × Obj)) (s:Shared) (σ:St) (H:Hp) (x y:V) (v u:Value) (Q:VK),Inv X pins σ H s->RelV x v->RelV y u->r x y H Q ->
  subscripted slice false v u=operate [v,u] (getItem v u)->wpAny (model X.prog X.w) X.A (subscriptTail value slice v u) (EP X pins σ Q) X.xe s
def MtR(X:Cx)(id:String)(r:V->List V->Hp->VK->Prop):Prop:=
 ∀ (pins:List (Addr × Obj)) (s:Shared) (σ:St) (H:Hp) (x:V) (xs:List V) (v:Value) (us:List Value) (Q:VK),Inv X pins σ H s->RelV x v->Vals xs us->r x xs H Q ->
  wpAny (model X.prog X.w) X.A (call (.builtin id) (v :: us)) (EP X pins σ Q) X.xe s
section
variable{X:Cx}{a b:Expr}{ta tb:TE}{pos:Pos}
theorem IxR.or{r r':R2}(h:IxR X r)(h':IxR X r'):IxR X (fun x y H Q=>r x y H Q ∨ r' x y H Q):=by
 intro value slice pins s σ H x y v u Q I rx ry q hs
 rcases q with q | q
 ·exact h value slice pins s σ H x y v u Q I rx ry q hs
 ·exact h' value slice pins s σ H x y v u Q I rx ry q hs
theorem a6k{r:R2}(hr:IxR X r)(ha:PE X a ta)(hb:PE X b tb)(hs:b6i b):PE X (.Subscript a b pos) (tOp r ta tb):=by
 intro pins s σ H Q I h
 exact Subscript_ (binT ha hb I h fun v u s2 x y H2 I2 rx ry q=>hr a b pins s2 σ H2 x y v u Q I2 rx ry q (hs _ _))
def rIxL(K:W.Frag):R2:=fun x y H Q=>∃ p xs i v,x=.ref p/\y=.int i/\SqL K H p xs/\atI xs i=some v/\Q v H
def rIxT(K:W.Frag):R2:=fun x y H Q=>∃ p xs i v,x=.ref p/\y=.int i/\SqT K H p xs/\atI xs i=some v/\Q v H
def rIxS:R2:=fun x y H Q=>∃ z i c,x=.str z/\y=.int i/\z.length <= sizeLine/\atI z.cps.toList i=some c/\Q (.str ⟨#[c]⟩) H
theorem a4g:IxR X (rIxL X.K):=by
 intro value slice pins s σ H x y v u Q I rx ry h hs
 obtain⟨p,xs,i,z,rfl,rfl,hq,he,q⟩:=h
 cases rx
 obtain⟨t,rfl⟩:=ry
 obtain⟨its,r,pl,hz⟩:=I.list hq
 obtain⟨j,h1,h2,h3,h4,h5⟩:=b1q he
 obtain⟨w,ew,rw'⟩:=r.get h2
 have hl:=r.length
 have hn:=a5y
 have fin:EP X pins σ Q w s:=⟨z,H,I,rw',q⟩
 by_cases h0:0 <= i
 ·have hj:i.toNat=j:=by
   rw [seqIndex_of h0 h5] at h1
   exact Option.some.inj h1
  exact item_listR pl.isList h0 (by omega) (by rw [hj];simpa using ew) fin hs
 ·have hj:(i + (its.toArray.size:Int)).toNat=j:=by
   rw [seqIndex_neg (by omega) h4] at h1
   rw [size_toArray,← hl]
   exact Option.some.inj h1
  exact subscriptTail_builtinR (x:=w) pl.isList.typeIs slot_list_getitem.lookup
   (wpAny_getItem_list_neg (Q:=fun r s'=>r=w/\EP X pins σ Q r s') pl.isList (by omega) (by rw [size_toArray]<;>omega) (by omega) (by rw [hj];simpa using ew) ⟨rfl,fin⟩) hs
theorem d0q:IxR X (rIxT X.K):=by
 intro value slice pins s σ H x y v u Q I rx ry h hs
 obtain⟨p,xs,i,z,rfl,rfl,hq,he,q⟩:=h
 cases rx
 obtain⟨t,rfl⟩:=ry
 obtain⟨its,r,pl,hz⟩:=I.tuple hq
 obtain⟨j,h1,h2,h3,h4,h5⟩:=b1q he
 obtain⟨w,ew,rw'⟩:=r.get h2
 have hl:=r.length
 have hn:=a5y
 have fin:EP X pins σ Q w s:=⟨z,H,I,rw',q⟩
 exact subscriptTail_builtinR (x:=w) pl.typeIs slot_tuple_getitem.lookup
  (getItem_tuple (j:=j) (Q:=fun r s'=>r=w/\EP X pins σ Q r s') pl (by omega) (by omega) (by rw [size_toArray,← hl];exact h1) (by simpa using ew) ⟨rfl,fin⟩) hs
theorem d0r:IxR X rIxS:=by
 intro value slice pins s σ H x y v u Q I rx ry h hs
 obtain⟨z,i,c,rfl,rfl,hz,he,q⟩:=h
 obtain⟨t,rfl⟩:=rx
 obtain⟨t',rfl⟩:=ry
 obtain⟨j,h1,h2,h3,h4,h5⟩:=b1q he
 have hl:z.cps.toList.length=z.length:=by simp [Str.length]
 rw [hl] at h1 h4 h5
 have hn:=a5y
 exact tail_any (typeIs_str s z t) slot_str_getitem.lookup (getItem_str (c:=c) (by
  have e1:decide (i < -(2 ^ 63:Int))=false:=decide_eq_false (by omega)
  have e2:decide (i ≥ 2 ^ 63)=false:=decide_eq_false (by omega)
  rw [e1,e2,Bool.or_false]) (by rw [h1];simpa using h2) ⟨.str ⟨#[c]⟩,H,I.tok _,⟨_,rfl⟩,q⟩) hs
def rIx(K:W.Frag):R2:=fun x y H Q=>rIxL K x y H Q ∨ rIxT K x y H Q ∨ rIxS x y H Q
theorem a1e:IxR X (rIx X.K):=a4g.or (d0q.or d0r)
theorem b7y(its:List Value)(n j:Nat)(u:Value):Obj.mapSeq (·.setIfInBounds j u) { cls:=.type "list",data:=.seq its.toArray n }={ cls:=.type "list",data:=.seq (its.set j u).toArray n }:=by
 simp [Obj.mapSeq]
theorem Inv.lst{pins:List (Addr × Obj)}{σ:St}{H:Hp}{s:Shared}{p:Addr}{xs:List V}(I:Inv X pins σ H s)(h:H p=some (.lst xs)) :
  ∃ (its:List Value) (n:Nat),Vals xs its/\s.heap.get? p=some { cls:=.type "list",data:=.seq its.toArray n }/\xs.length <= sizeLine:=by
 obtain⟨z,its,n,r,e⟩:=I.hok p _ h
 exact⟨its,n,r,e,z⟩
theorem Inv.lstUpd{pins:List (Addr × Obj)}{σ:St}{H:Hp}{s:Shared}{p:Addr}{xs ys:List V}{its its':List Value}{n n':Nat}{f:Obj->Obj}(I:Inv X pins σ H s)(h:H p=some (.lst xs))
  (ho:s.heap.get? p=some { cls:=.type "list",data:=.seq its.toArray n }) (hf:f { cls:=.type "list",data:=.seq its.toArray n }={ cls:=.type "list",data:=.seq its'.toArray n' }) (r:Vals ys its') (hz:ys.length <= sizeLine) (t:Nat) :
  Inv X pins σ (upd H p (.lst ys)) { s with heap:=s.heap.update p f,toks:=t }:=by
 have e:(s.heap.update p f).get? p=some { cls:=.type "list",data:=.seq its'.toArray n' }:=by
  rw [Heap.get?_update_self f ho (by rw [hf]<;>rfl),hf]
 refine I.write (x:=p) (e:=p) (by rw [h];trivial) (.inl rfl) (fun b u hb q=>(Heap.get?_update_other _ _ (Ne.symm hb)).trans q) ⟨_,e⟩ ?_
 exact⟨hz,its',n',r,e⟩
noncomputable def rSetL:V->V->V->Hp->(Hp->Prop)->Prop:=fun o i v H Q=>∃ p xs k j,o=.ref p/\i=.int k/\H p=some (.lst xs)/\ixN xs.length k=some j/\Q (upd H p (.lst (xs.set j v)))
theorem set_list:PSet X rSetL:=by
 intro pins s σ H o i v ov iv u Q I ro ri rv h
 obtain⟨p,xs,k,j,rfl,rfl,hp,hj,q⟩:=h
 cases ro
 obtain⟨t,rfl⟩:=ri
 obtain⟨its,n,r,ho,hz⟩:=I.lst hp
 obtain⟨h1,h2,h3,h4⟩:=b6h hj
 have hl:=r.length
 have hn:=a5y
 have I':Inv X pins σ (upd H p (.lst (xs.set j v))) { s with heap:=s.heap.update p (Obj.mapSeq (·.setIfInBounds j u)) }:=
  I.lstUpd hp ho (b7y its n j u) (r.set rv j) (by rw [length_set];exact hz) s.toks
 by_cases h0:0 <= k
 ·have hk:k.toNat=j:=by
   rw [seqIndex_of h0 h4] at h1
   exact Option.some.inj h1
  exact PySem.W.ki_setAt ho h0 (by omega) (by rw [size_toArray,← hl];exact h4) (by rw [hk];exact⟨_,I',q⟩)
 ·have hk:(k + (its.toArray.size:Int)).toNat=j:=by
   rw [seqIndex_neg (by omega) h3] at h1
   rw [size_toArray,← hl]
   exact Option.some.inj h1
  exact PySem.W.ki_setBack ho (by omega) (by rw [size_toArray,← hl];exact h3) (by omega) (by rw [hk];exact⟨_,I',q⟩)
noncomputable def flatV:V->Bool
 | .non=>true
 | .bl _=>true
 | .int _=>true
 | .str _=>true
 | _=>false
theorem a2v:a1k X (.builtin "len") (fun xs H Q=>∃ p ys,xs=[.ref p]/\(SqL X.K H p ys ∨ SqT X.K H p ys)/\Q (.int ys.length) H):=by
 intro pins s σ H xs us Q I r h
 obtain⟨p,ys,rfl,hq,q⟩:=h
 obtain⟨u,rfl,rx⟩:=vals1 r
 cases rx
 have hn:=a5y
 rcases hq with hq | hq
 ·obtain⟨its,r',pl,hz⟩:=I.list hq
  have hlen:=r'.length
  exact Calls.call_len_list pl.isList (by simp only [size_toArray]<;>omega) ⟨.int ys.length,H,I.tok _,⟨s.toks + 1,by rw [size_toArray,hlen]⟩,q⟩
 ·obtain⟨its,r',pl,hz⟩:=I.tuple hq
  have hlen:=r'.length
  exact len_tuple pl (by simp only [size_toArray]<;>omega) ⟨.int ys.length,H,I.tok _,⟨s.toks + 1,by rw [size_toArray,hlen]⟩,q⟩
theorem b4a:a1k X (.builtin "len") (fun xs H Q=>∃ z,xs=[.str z]/\z.length <= sizeLine/\Q (.int z.length) H):=by
 intro pins s σ H xs us Q I r h
 obtain⟨z,rfl,hz,q⟩:=h
 obtain⟨u,rfl,t,rfl⟩:=vals1 r
 have hn:=a5y
 exact len_str (by omega) ⟨.int z.length,H,I.tok _,⟨_,rfl⟩,q⟩
theorem a1k.or{f:Value}{r r':List V->Hp->VK->Prop}(h:a1k X f r)(h':a1k X f r'):a1k X f (fun xs H Q=>r xs H Q ∨ r' xs H Q):=by
 intro pins s σ H xs us Q I rs q
 rcases q with q | q
 ·exact h pins s σ H xs us Q I rs q
 ·exact h' pins s σ H xs us Q I rs q
theorem b4b:a1k X (.type "list") (fun xs H Q=>∃ p ys,xs=[.ref p]/\(SqL X.K H p ys ∨ SqT X.K H p ys)/\∀ l,H l=none->Q (.ref l) (upd H l (.lst ys))):=by
 intro pins s σ H xs us Q I r h
 obtain⟨p,ys,rfl,hq,q⟩:=h
 obtain⟨u,rfl,rx⟩:=vals1 r
 cases rx
 have fin:∀ (its:List Value),Vals ys its->ys.length <= sizeLine->∀ (h':Heap) (c':Nat),(∀ b o',s.heap.get? b=some o'->h'.get? b=some o') ->
   h'.get? s.heap.objs.size=some { cls:=.type "list",dict:=none,data:=.seq its.toArray c',slots:=#[] }->EP X pins σ Q (.ref s.heap.objs.size) { s with heap:=h' }:=fun its r' hz h' c' kp e =>
  ⟨.ref s.heap.objs.size,_,I.laid (t':=s.toks) kp (le_refl _) (show a1c X.prog X.w _ h' _ (.lst ys) from⟨hz,its,c',r',e⟩),rfl,q _ (I.hok.fresh (le_refl _))⟩
 rcases hq with hq | hq
 ·obtain⟨its,r',pl,hz⟩:=I.list hq
  have hlen:=r'.length
  obtain⟨o,ho,hc,n,hd⟩:=pl.isList
  exact call_list_seq p (.inl rfl) ho hc hd (fun h' c' kp e=>fin its r' hz h' c' kp e) (by simp only [size_toArray]<;>omega)
 ·obtain⟨its,r',pl,hz⟩:=I.tuple hq
  have hlen:=r'.length
  obtain⟨o,ho,hc,n,hd⟩:=pl
  exact call_list_seq p (.inr rfl) ho hc hd (fun h' c' kp e=>fin its r' hz h' c' kp e) (by simp only [size_toArray]<;>omega)
theorem a5g:a1k X (.type "tuple") (fun xs H Q=>∃ p ys,xs=[.ref p]/\((SqL X.K H p ys/\∀ l,H l=none->Q (.ref l) (upd H l (.tup ys))) ∨ (SqT X.K H p ys/\Q (.ref p) H))):=by
 intro pins s σ H xs us Q I r h
 obtain⟨p,ys,rfl,h⟩:=h
 obtain⟨u,rfl,rx⟩:=vals1 r
 cases rx
 rcases h with⟨hq,q⟩ | ⟨hq,q⟩
 ·obtain⟨its,r',pl,hz⟩:=I.list hq
  have hlen:=r'.length
  refine call_tuple_list pl.isList (fun h' kp=>?_) (by simp only [size_toArray]<;>omega)
  have I1:Inv X pins σ H { s with heap:=h' }:=I.kept (t':=s.toks) kp
  have I2:Inv X pins σ (upd H h'.objs.size (.tup ys)) { s with heap:=h'.push { cls:=.type "tuple",data:=.seq its.toArray } }:=
   I1.laid (t':=s.toks) (fun b o e=>get?_push_of_some _ e) (le_refl _) (show a1c X.prog X.w _ _ _ (.tup ys) from⟨hz,its,r',a3d.new _ _⟩)
  exact⟨.ref h'.objs.size,_,I2,rfl,q _ (I1.hok.fresh (le_refl _))⟩
 ·obtain⟨its,r',pl,hz⟩:=I.tuple hq
  exact call_tuple_same pl ⟨.ref p,H,I,rfl,q⟩
def tyV(K:W.Frag)(T:String)(x:V)(H:Hp):Prop:=match x with
 | .str _=>T = "str"
 | .int _=>T = "int"
 | .ref p=>(T = "list" /\ ∃ xs,SqL K H p xs) ∨ (T = "tuple" /\ ∃ o,K.lookup p=some o/\o.cls=.type "tuple" /\ o.dict=none) ∨
   (T = "dict" /\ ((∃ kvs,H p=some (.dK kvs)) ∨ ∃ kvs,H p=some (.dT kvs))) ∨ (T = "set" /\ ∃ S n,H p=some (.set S n))
 | _=>False
theorem c0i{pins:List (Addr × Obj)}{σ:St}{H:Hp}{s:Shared}{T:String}{x:V}{v:Value}(I:Inv X pins σ H s)(r:RelV x v)(ty:tyV X.K T x H) :
  s.TypeIs v T/\∀ a,v=.ref a->∃ ob,s.heap.get? a=some ob/\ob.dict=none:=by
 cases x with
 | str z =>
  obtain⟨t,rfl⟩:=r
  cases (show T = "str" from ty)
  exact⟨typeIs_str s z t,fun _ e=>nomatch e⟩
 | int i =>
  obtain⟨t,rfl⟩:=r
  cases (show T = "int" from ty)
  exact⟨typeIs_int s i t,fun _ e=>nomatch e⟩
 | ref p =>
  cases r
  rcases ty with⟨rfl,xs,hq⟩ | ⟨rfl,o,hk,hc,hd⟩ | ⟨rfl,hk⟩ | ⟨rfl,S,n,hk⟩
  ·obtain⟨its,_,pl,_⟩:=I.list hq
   refine⟨pl.isList.typeIs,fun a e=>?_⟩
   cases e
   obtain⟨o,n,e,c,hd,_⟩:=pl
   exact⟨o,e,hd⟩
  ·refine⟨⟨o,I.kIn p o hk,hc⟩,fun a e=>?_⟩
   cases e
   exact⟨o,I.kIn _ o hk,hd⟩
  ·have z:∃ o,s.heap.get? p=some o/\o.ExactDict:=by
    rcases hk with⟨kvs,hk⟩ | ⟨kvs,hk⟩
    ·obtain⟨_,_,_,_,o,_,_,e,ex,_⟩:=I.hok p _ hk
     exact⟨o,e,ex⟩
    ·obtain⟨_,_,_,_,o,_,_,e,ex,_⟩:=I.hok p _ hk
     exact⟨o,e,ex⟩
   obtain⟨o,e,ex⟩:=z
   refine⟨⟨o,e,ex.1⟩,fun a e2=>?_⟩
   cases e2
   exact⟨o,e,ex.2.1⟩
  ·obtain⟨o,_,_,_,e,ex,_⟩:=I.hok p _ hk
   refine⟨⟨o,e,ex.1⟩,fun a e2=>?_⟩
   cases e2
   exact⟨o,e,ex.2.1⟩
 | _=>exact False.elim ty
def tBM0(K:W.Frag)(T:String)(r:V->List V->Hp->VK->Prop)(to:TE):TE:=fun σ H Q=>to σ H fun x H1=>tyV K T x H1/\r x [] H1 Q
def tBM(K:W.Frag)(T:String)(r:V->List V->Hp->VK->Prop)(to:TE)(t:TA):TE:=fun σ H Q=>to σ H fun x H1=>tyV K T x H1/\t σ H1 fun xs H2=>r x xs H2 Q
variable{o e:Expr}{es:List Expr}{to:TE}{t:TA}{name:Str}{apos cpos:Pos}{T id:String}{r:V->List V->Hp->VK->Prop}
theorem d0s(pa:PlainAttrs T)(slot:Slot T name id) (hty:typeOf (.builtin id)=pure (.type "method_descriptor")) (hm:MtR X id r) (ho:PE X o to)
  (hbase:attributeBase o name X.env (eval o X.env)=eval o X.env:=by rfl) (hline:(apos.endLine == cpos.line)=true:=by rfl):PE X (.Call (.Attribute o name apos) [] [] cpos) (tBM0 X.K T r to):=by
 intro pins s σ H Q I h
 refine wpAny_Call_method0_late hbase hline (thn (ho pins s σ H _ I h) fun v s1 hq9=>?_)
 obtain⟨x,H1,I1,r1,ty,q1⟩:=hq9
 obtain⟨h1,h2⟩:=c0i I1 r1 ty
 exact⟨T,id,pa,slot,hty,h1,h2,Calls.callWith_builtin rfl (PySem.evalArgs_none (hm pins s1 σ H1 x [] v [] Q I1 r1 .nil q1))⟩
theorem b0p(pa:PlainAttrs T)(slot:Slot T name id) (hty:typeOf (.builtin id)=pure (.type "method_descriptor")) (hm:MtR X id r) (ho:PE X o to) (ha:PA X (e :: es) t)
  (hbase:attributeBase o name X.env (eval o X.env)=eval o X.env:=by rfl)
  (hfew:((backTo cpos (starEach (e :: es) X.env)).all (fun x=>!x.1) && (backToKw cpos (keywordEach [] X.env)).all (fun x=>x.1.isSome)
   && decide ((e :: es).length + ([]:List Keyword).length + (if ([]:List Keyword).isEmpty then 0 else 1) < 30))=true:=by rfl)
  (hline:(apos.endLine == cpos.line)=true:=by rfl) (hs:starEach (e :: es) X.env=(false,eval e X.env) :: starEach es X.env:=by rfl) (hplain:(backTo cpos (starEach es X.env)).any (·.1)=false:=by rfl) :
  PE X (.Call (.Attribute o name apos) (e :: es) [] cpos) (tBM X.K T r to t):=by
 intro pins s σ H Q I h
 refine wpAny_Call_method_late hbase hfew hline rfl (thn (ho pins s σ H _ I h) fun v s1 hq9=>?_)
 obtain⟨x,H1,I1,r1,ty,q1⟩:=hq9
 obtain⟨h1,h2⟩:=c0i I1 r1 ty
 refine⟨T,id,pa,slot,hty,h1,h2,?_⟩
 have hA:=ha cpos pins s1 σ H1 _ I1 q1
 rw [hs] at hA ⊢
 refine Calls.callWith_builtin (by show(false || (backTo cpos (starEach es X.env)).any (·.1))=false;rw [hplain]<;>rfl) (Calls.evalArgs_plain ?_)
 exact thn hA fun us s2 hq8=>by obtain⟨vs,H2,I2,r2,q2⟩:=hq8;exact hm pins s2 σ H2 x vs v us Q I2 r1 r2 q2
end
end L2
namespace L2
open PySem PySem.Spec PyProof.Rows
def MtM(X:Cx)(id:String)(r:V->List V->Hp->VK->Prop):Prop:=
 ∀ (pins:List (Addr × Obj)) (s:Shared) (σ:St) (H:Hp) (x:V) (xs:List V) (v:Value) (us:List Value) (Q:VK),Inv X pins σ H s->RelV x v->Vals xs us->r x xs H Q ->
  wpAny (model X.prog X.w) X.A (call (.builtin id) (v :: us)) (EP X pins σ Q) X.xe s
theorem Vals.one:∀ {x:V} {us:List Value},Vals [x] us->∃ u,us=[u]/\RelV x u
 | _,_,.cons r .nil=>⟨_,rfl,r⟩
theorem Vals.two:∀ {x y:V} {us:List Value},Vals [x,y] us->∃ u v,us=[u,v]/\RelV x u/\RelV y v
 | _,_,_,.cons r (.cons q .nil)=>⟨_,_,rfl,r,q⟩
theorem Vals.zero:∀ {us:List Value},Vals [] us->us=[]
 | _,.nil=>rfl
theorem Vals.reverse{xs:List V}{us:List Value}(h:Vals xs us):Vals xs.reverse us.reverse:=by
 induction h with
 | nil=>exact .nil
 | cons r t ih=>rw [reverse_cons,reverse_cons];exact Vals.append ih (.cons r .nil)
section
variable{X:Cx}{pins:List (Addr × Obj)}{σ:St}{H:Hp}{s:Shared}{l b:Addr}{xs ys zs:List V}
theorem Inv.lset{its its':List Value}{n:Nat}{f:Array Value->Array Value}{t':Nat}(I:Inv X pins σ H s)(hH:H l=some (.lst xs))
  (e:s.heap.get? l=some { cls:=.type "list",data:=.seq its.toArray n }) (hf:f its.toArray=its'.toArray) (hv:Vals ys its') (hz:ys.length <= sizeLine) :
  Inv X pins σ (upd H l (.lst ys)) { s with heap:=s.heap.update l (Obj.mapSeq f),toks:=t' }:=by
 have q:=PySem.IsL.update e f
 rw [hf] at q
 refine I.write (x:=l) (e:=l) (by rw [hH];exact trivial) (.inl rfl) (fun b' u hb hu=>(Heap.get?_update_other s.heap (Obj.mapSeq f) (Ne.symm hb)).trans hu) ⟨_,q⟩ ?_
 exact⟨hz,its',_,hv,q⟩
theorem Inv.lnew{its:List Value}{t':Nat}(I:Inv X pins σ H s)(hv:Vals ys its)(hz:ys.length <= sizeLine) :
  Inv X pins σ (upd H s.heap.objs.size (.lst ys)) { s with heap:=s.heap.push { cls:=.type "list",data:=.seq its.toArray },toks:=t' }:=
 I.laid (fun _ _ q=>get?_push_of_some _ q) (le_refl _) ⟨hz,its,0,hv,get?_push_size _ rfl⟩
theorem Inv.fresh(I:Inv X pins σ H s):H s.heap.objs.size=none:=I.hok.fresh (le_refl _)
theorem Inv.lstM(I:Inv X pins σ H s)(hH:H l=some (.lst xs)):xs.length <= sizeLine/\∃ (its:List Value) (n:Nat),Vals xs its/\xs.length=its.length/\s.heap.get? l=some { cls:=.type "list",data:=.seq its.toArray n }:=by
 obtain⟨z,its,n,r,e⟩:=I.hok l _ hH
 exact⟨z,its,n,r,r.length,e⟩
end
section
variable{X:Cx}
noncomputable def b6j:V->List V->Hp->VK->Prop:=fun x vs H Q=>∃ l xs y,x=.ref l/\vs=[y]/\H l=some (.lst xs)/\xs.length < sizeLine/\Q .non (upd H l (.lst (xs ++ [y])))
theorem b2l:MtM X "list.append" b6j:=by
 intro pins s σ H x vs v us Q I rx rv h
 obtain⟨l,xs,y,rfl,rfl,hH,hz,q⟩:=h
 cases rx
 obtain⟨u,rfl,ru⟩:=rv.one
 obtain⟨z,its,n,r,hl,e⟩:=I.lstM hH
 refine call_meets F.slot_list_append ⟨_,e,rfl⟩ F.entry_list_append (F.args_list_append_2 _ _) (PySem.list_append l its.toArray n u (by rw [size_toArray];omega)) ⟨e,?_⟩
 refine⟨.non,_,I.lset (its':=its ++ [u]) hH e (by simp) (r.append (.cons ru .nil)) ?_,rfl,q⟩
 rw [length_append,List.length_singleton]
 omega
noncomputable def b4c:V->List V->Hp->VK->Prop:=fun x vs H Q=>∃ l xs,x=.ref l/\vs=[]/\H l=some (.lst xs)/\Q .non (upd H l (.lst xs.reverse))
theorem b7z:MtM X "list.reverse" b4c:=by
 intro pins s σ H x vs v us Q I rx rv h
 obtain⟨l,xs,rfl,rfl,hH,q⟩:=h
 cases rx
 have hus:=rv.zero
 subst hus
 obtain⟨z,its,n,r,hl,e⟩:=I.lstM hH
 refine call_meets F.slot_list_reverse ⟨_,e,rfl⟩ F.entry_list_reverse (F.args_list_reverse_1 _) (AutoSeq1.list_reverse_list_0 l its.toArray n (by rw [size_toArray];omega)) ⟨e,?_⟩
 refine⟨.non,_,I.lset (its':=its.reverse) hH e (by simp) r.reverse ?_,rfl,q⟩
 rw [List.length_reverse]
 omega
def rCat:R2:=fun x y H Q=>∃ l b xs zs,x=.ref l/\y=.ref b/\H l=some (.lst xs)/\H b=some (.lst zs)/\xs.length + zs.length <= sizeLine/\∀ p,H p=none->Q (.ref p) (upd H p (.lst (xs ++ zs)))
theorem b4d:OpR X (binaryOp .Add) rCat:=by
 intro pins s σ H x y v u Q I rx ry h
 obtain⟨l,b,xs,zs,rfl,rfl,hH,hB,hz,q⟩:=h
 cases rx
 cases ry
 obtain⟨z,its,n,r,hl,e⟩:=I.lstM hH
 obtain⟨z2,its2,n2,r2,hl2,e2⟩:=I.lstM hB
 refine PySem.P.add_list e e2 ?_ (by rw [size_toArray,size_toArray];omega)
 have ea:its.toArray ++ its2.toArray=(its ++ its2).toArray:=by simp
 rw [ea]
 exact⟨.ref _,_,I.lnew (t':=s.toks) (r.append r2) (by rw [length_append];omega),rfl,q _ I.fresh⟩
end
section
variable{prog:Program}{w:World}{A:Around}{E:Value->Shared->Prop}{s:Shared}
set_option maxRecDepth 100000 in
end
section
variable{X:Cx}
end
end L2
namespace Att
open PySem PySem.W PySem.Calls PyProof.Rows
theorem b0q{P:Params}{h:Heap}:∀ (ns:List Int) (vs:List Value),WellAll P h vs (ns.map WData.int)->IntsAre vs ns:=by
 intro ns
 induction ns with
 | nil =>
  intro vs w
  rw [map_nil] at w
  cases w
  exact .nil
 | cons n ns ih =>
  intro vs w
  rw [map_cons] at w
  cases w with
  | cons a b =>
   cases a
   exact .cons _ _ (ih _ b)
theorem c0j{l:OpenLaw}{n:Nat}(hn:l.most=some n){P:Params}{h:Heap}{args:List WData}{vals:List Value}
  (hpre:l.row.toRowW.claim.pre args=true) (hwl:WellAll P h vals args) :
  ∃ a vs ns,vals=[Value.ref a]/\args=[WData.list (ns.map WData.int)]/\h.get? a=some { cls:=.type "list",data:=.seq vs.toArray }/\IntsAre vs ns/\ns.length <= n:=by
 have hsh:WShape.hasAll [] args [.list .int]=true:=(pre_splitW hpre).1
 have hc:l.pre.holds [] { args:=args }=true:=(pre_splitW hpre).2
 obtain⟨d,r,rfl,h1,h2⟩:=hasAllW_cons hsh
 obtain rfl:=hasAllW_nil h2
 obtain⟨xs,rfl,h3⟩:=hasW_list h1
 obtain⟨ns,rfl⟩:=items_int h3
 have hlen:ns.length <= n:=by
  unfold OpenLaw.pre at hc
  have h4:(WTm.not (.lt (.lit (.int (n:Int))) (.len (.arg 0)))).holds [] { args:=[.list (ns.map .int)] }=true:=by
   have h4:=(holds_andW hc).1
   rw [hn] at h4
   exact h4
  have h5:=condW_of h4 (w_not (w_lt w_lit (w_len_list (w_arg rfl))))
  rw [length_map] at h5
  refine Nat.le_of_not_lt fun q=>?_
  have q':(n:Int) < ((ns.length:Nat):Int):=by omega
  first
   | (rw [decide_eq_true q'] at h5;exact absurd h5 (by decide))
   | (simp at h5;omega)
 cases hwl with
 | cons w1 w2 =>
  cases w2
  cases w1 with
  | list ho hall=>exact⟨_,_,ns,rfl,rfl,ho,b0q ns _ hall,hlen⟩
theorem c0k(l:OpenLaw)(args:List WData):l.row.toRowW.claim.post args (.bool true) args=true:=
 postW_of (r:=l.row.toRowW) (X:=(true == true))
  (show WShape.has [] (.bool true) .bool=true by first | rfl | decide | simp [WShape.has,WShape.arms,WShape.armsAll])
  (show(WTm.eq .res (.lit (.bool true))).value [] { args:=args,res:=some (.bool true),after:=args }=some (.bool (true == true)) from w_eq_bool (w_res rfl) w_lit) rfl
theorem attach_call{l:OpenLaw}{n:Nat}{q:Program}{loose:List Str}{XP:(Str->Option Value)->Heap->Prop}{YP:World->Heap->Prop}{d:DefRec}
  (hn:l.most=some n) (hdf:d.params.defaults=[])
  (call:∀ (w:World) (s₀ s₁:Shared) (mg mb:Str->Option Value) (fa:Addr) (o:Obj) (pm cd doc:Value) (a:Addr) (vs:List Value) (ns:List Int),
   Ground q loose [] XP w s₀ mg mb s₁.heap->YP w s₁.heap ->
   s₁.heap.get? fa=some o->o.data=.func (docDef d.name d.params d.body d.scope pm cd doc)->s₁.heap.CodeRec cd d.name->mg d.name=some (.ref fa) ->
   s₁.heap.get? a=some { cls:=.type "list",data:=.seq vs.toArray }->IntsAre vs ns->ns.length <= n->s₁.gens = #[] ->
   codeAny (model l.prog w) callerA (.call (.ref fa) ⟨[.ref a],[]⟩) (fun r s'=>r=.ok (.ret (.bool true))/\OldK s₁.heap s'.heap/\s'.os=s₁.os/\AllBare s'.gens) s₁) :
  WalkO q loose XP YP l.row.toRowW d [] (fun f vs=>PySem.call f vs):=by
 intro w s₀ s₁ mg mb G Y fa o pm cd doc dV kV ho hd hcd hD hmg hg args vals as hpre hlay hrd hwl hlo
 obtain rfl:dV=.none:=Dflts.none hD hdf
 obtain rfl:kV=.none:=Dflts.noKw hD
 obtain⟨a,vs,ns,rfl,rfl,hobj,hints,hlen⟩:=c0j hn hpre hwl
 refine enter_call (codeAny_mono (call w s₀ s₁ mg mb fa o pm cd doc a vs ns G Y ho (fd_plain hd) hcd hmg hobj hints hlen hg) fun r s' hq=>?_)
 obtain⟨rfl,h2,h3,h4⟩:=hq
 exact⟨.inl ⟨.bool true,.bool true,[],rfl,fun _=>rfl,.bool true,c0k l _,fun _=>⟨List.Pairwise.nil,fun _ hm=>(nomatch hm)⟩⟩,h2,h3,h4⟩
section
variable{prog:Program}{w:World}{A:Around}{E:Value->Shared->Prop}{s:Shared}{K:Frag}
end
end Att
namespace L2
open PySem PySem.Spec PyProof.Rows
theorem b2m:∀ {vs:List Value} {ns:List Int},IntsAre vs ns->Vals (ns.map V.int) vs
 | _,_,.nil=>.nil
 | _,_,.cons n t h=>.cons ⟨t,rfl⟩ (b2m h)
end L2
namespace L2
open PySem PySem.Spec PyProof.Rows
end L2
namespace L2
open PySem PySem.Spec PyProof.Rows
noncomputable def inClass(s:Stmt)(j:Nat):Stmt:=match s with
 | .ClassDef _ _ _ body _ _ _ _ _ _ _=>body.getD j (.Pass ⟨0,0,0,0⟩)
 | _=>.Pass ⟨0,0,0,0⟩
noncomputable def a1y(s:Stmt):Arguments:=match s with
 | .FunctionDef _ a _ _ _ _ _ _ _ _=>a
 | _=>{ posonlyargs:=[],args:=[],vararg:=none,kwonlyargs:=[],kw_defaults:=[],kwarg:=none,defaults:=[] }
noncomputable def a1a(s:Stmt):List Stmt:=match s with
 | .FunctionDef _ _ b _ _ _ _ _ _ _=>b
 | _=>[]
noncomputable def a0f(s:Stmt):Scope:=match s with
 | .FunctionDef _ _ _ _ _ _ sc _ _ _=>sc
 | _=>{ kind:=.function,names:=[],isGenerator:=false,isCoroutine:=false }
abbrev CX0:CXT:=fun _ _ _ _ _ _=>False
abbrev E0:XK:=fun _ _ _=>False
theorem b0r{X:Cx}:a3t CX0 X E0:=fun _ _ _ _ _ _ _ h=>h.elim
structure Fun(K:W.Frag)(x qual:Str)(st:Stmt)(f:Addr)(fd:FuncData):Prop where
 ex:∃ (oc:Value) (od:Option Addr) (kV doc pm:Value) (an:Option Addr) (cdv ct:Value) (osl:Array (Option Value)),
  fd=PySem.W.fnOf x qual (a1y st) (a1a st) (a0f st) .none kV doc pm an cdv ct/\K.lookup f=some ⟨oc,od,.func fd,osl⟩/\PySem.W.codeIn K cdv qual=true
 kp:PySem.W.keepIn K (.ref f)=true
section
variable{P:Program}{w:World}{K:W.Frag}{mg:Str->Option Value}{base:Heap}
theorem Fun.ok{x qual:Str}{st:Stmt}{f:Addr}{fd:FuncData}{N ps:List Str}{k:Nat}{sp:Sp}(F:Fun K x qual st f fd)(S:FnScope N ps (a0f st))(len:∀ vs H Q E,sp vs H Q E->vs.length=ps.length)
  (hbody:∀ (cdv:Value) (A:Around) (outer:List Env) (s:Shared) (H:Hp) (vs:List V) (Q:VK) (E:XK),Room k (A.deeper (envOfC qual (a0f st) s.heap.objs.size f cdv))->sp vs H Q E ->
   ∃ t,PSs (cxOf CX0 P w K mg base N qual (a0f st) f cdv A outer s H E).nox (a1a st) t/\t { nx:=fun _ H'=>Q .non H',rt:=Q } (start N vs) H):FnOk P w K mg base CX0 (k + 1) f fd ps sp:=by
 obtain⟨oc,od,kV,doc,pm,an,cdv,ct,osl,rfl,lk,hcd⟩:=F.ex
 refine b7v lk hcd S len fun A outer s H vs Q E hr hsp=>?_
 obtain⟨t,h,q⟩:=hbody cdv A outer s H vs Q E hr hsp
 exact⟨t,h.nox,q⟩
theorem Fun.binds{x qual:Str}{st:Stmt}{f:Addr}{fd:FuncData}{ps:List Str}(F:Fun K x qual st f fd)
  (h:∀ (kV doc pm:Value) (an:Option Addr) (cdv ct:Value) (us:List Value),us.length=ps.length->bindArgs (PySem.W.fnOf x qual (a1y st) (a1a st) (a0f st) .none kV doc pm an cdv ct) ⟨us,[]⟩=pure (ps.zip us)):Binds K fd ps []:=by
 obtain⟨oc,od,kV,doc,pm,an,cdv,ct,osl,rfl,lk,hcd⟩:=F.ex
 exact .all (h kV doc pm an cdv ct)
theorem a2b{x qual:Str}{st:Stmt}{f:Addr}{oc:Value}{od an:Option Addr}{osl:Array (Option Value)}{kV doc pm cdv ct:Value}(l:K.lookup f=some ⟨oc,od,.func (PySem.W.fnOf x qual (a1y st) (a1a st) (a0f st) .none kV doc pm an cdv ct),osl⟩)
  (c:PySem.W.codeIn K cdv qual=true) (k:PySem.W.keepIn K (.ref f)=true):Fun K x qual st f (PySem.W.fnOf x qual (a1y st) (a1a st) (a0f st) .none kV doc pm an cdv ct):=⟨⟨oc,od,kV,doc,pm,an,cdv,ct,osl,rfl,l,c⟩,k⟩
end
section
variable{X:Cx}
theorem pv(i:Nat){x:Str}{pos:Pos}(hN:X.N[i]? = some x:=by rfl)(hv:Vis X.env.scope x:=by first | exact Or.inl rfl | exact Or.inr (Or.inl rfl) | exact Or.inr (Or.inr rfl)) (hd:(x == ("__debug__" : Str))=false:=by decide)
  (hcd:(x == ("__classdict__" : Str))=false:=by decide):PE X (.Name x pos) (tVar i):=b0g hN hv hd hcd
end
theorem iteF{A B:Prop}(h:B):if false=true then A else B:=by
 rw [if_neg Bool.false_ne_true]
 exact h
theorem iteT{A B:Prop}(h:A):if true=true then A else B:=by
 rw [if_pos rfl]
 exact h
theorem ite2{c A B:Prop}[Decidable c](h1:c->A)(h2:¬ c->B):if c then A else B:=by
 by_cases h:c
 ·rw [if_pos h]
  exact h1 h
 ·rw [if_neg h]
  exact h2 h
def Same(H H':Hp):Prop:=∀ b o,H b=some o->H' b=some o
theorem Same.refl(H:Hp):Same H H:=fun _ _ h=>h
theorem Same.trans{H H1 H2:Hp}(a:Same H H1)(b:Same H1 H2):Same H H2:=fun c o h=>b c o (a c o h)
theorem Same.free{H H':Hp}(e:Same H H'){l:Addr}(h:H' l=Option.none):H l=Option.none:=by
 cases q:H l with
 | none=>rfl
 | some o =>
  rw [e l o q] at h
  cases h
end L2
end
section
namespace Sx
open PySem
abbrev Up(xs:Array Nat):Prop:=∀ i k:Nat,i < k->∀ hk:k < xs.size,∀ hi:i < xs.size,xs[i] < xs[k]
structure Bel(xs:Array Nat)(j r:Nat):Prop where
 le:r <= xs.size
 lo:∀ i,i < r->∀ h:i < xs.size,xs[i] < j
 hi:∀ i,r <= i->∀ h:i < xs.size,j <= xs[i]
abbrev UpL(xs:List Nat):Prop:=xs.Pairwise (· < ·)
structure TOk(t:SetTable):Prop where
 none:t.dummies = #[]
 up:UpL t.place.toList
end Sx
end
section
namespace Sx
open PySem
section
variable{prog:Program}{w:World}{K:Type}[DecidableEq K](knd:KeyKind prog w K)(dec:Value->K)
structure Fc(ks:List K)(es:Array (Int × Value))(t:SetTable):Prop where
 el:ElemsOf knd es.toList
 pm:(es.toList.map fun e=>dec e.2).Perm ks
 nd:ks.Nodup
 sz:es.size < scanBound
 ft:t.fits es.size=true
 ok:TOk t
 ld:t.led = !w.params.followText "set-order"
noncomputable def ins(ks:List K)(k:K):List K:=if k ∈ ks then ks else ks ++ [k]
variable{knd dec}
variable{A:Around}{E:Value->Shared->Prop}{s:Shared}
end
end Sx
end
section
namespace Sx
open PySem
section
variable{K:Type}[DecidableEq K]
end
section
variable{prog:Program}{w:World}{K:Type}[DecidableEq K]{knd:KeyKind prog w K}{dec:Value->K}{A:Around}{R:Result->Shared->Prop}{I:Addr}{fp wr:List Addr}{G:Array GenState->Array GenState->Prop}{St:Nat->Shared->Prop}{items:Array Value}{ks:List K}
end
section
variable{prog:Program}{w:World}{A:Around}{E:Value->Shared->Prop}{s:Shared}
end
end Sx
end
section
namespace Sx
open PySem
section
variable{M:Model}{A:Around}{E:Value->Shared->Prop}{s:Shared}
end
section
variable{prog:Program}{w:World}{A:Around}{E:Value->Shared->Prop}{s:Shared}{I S:Addr}{es:Array (Int × Value)}{ep i n:Nat}{t:SetTable}{first:Value}
end
end Sx
end
section
namespace Sx
open PySem
section
variable{prog:Program}{w:World}{A:Around}{I S:Addr}{es:Array (Int × Value)}{ep:Nat}{t:SetTable}
end
section
variable{prog:Program}{w:World}{A:Around}{E:Value->Shared->Prop}{s:Shared}{S:Addr}{es:Array (Int × Value)}{ep:Nat}{t:SetTable}
end
end Sx
end
section
namespace Sx
open PySem
section
variable{prog:Program}{w:World}{A:Around}{E:Value->Shared->Prop}{s:Shared}{S:Addr}{es:Array (Int × Value)}{ep:Nat}{t:SetTable}
end
end Sx
end
section
namespace L2
open PySem PySem.Spec PyProof.Rows
noncomputable def clOf(env:Env):List (Str × NameKind)->List (Str × Addr)->List (Str × Addr)
 | [],acc=>acc
 | (n,k) :: r,acc=>if k == .free then clOf env r ((n,(env.cells.lookup n).getD 0) :: acc) else clOf env r acc
theorem a7k(env:Env)(f:Str × NameKind->List (Str × Addr)->Sem (ForInStep (List (Str × Addr)))) :
  ∀ (names:List (Str × NameKind)) (acc:List (Str × Addr)),
   (∀ y ∈ names,∀ c,f y c=if (y.2 == .free)=true then pure (.yield ((y.1,(env.cells.lookup y.1).getD 0) :: c)) else pure (.yield c)) ->
   (forIn names acc f:Sem _)=pure (clOf env names acc)
 | [],acc,_=>by rw [List.forIn_nil];rfl
 | (n,k) :: r,acc,h=>by
  rw [List.forIn_cons,h (n,k) mem_cons_self]
  have hr:∀ y ∈ r,∀ c,f y c=if (y.2 == .free)=true then pure (.yield ((y.1,(env.cells.lookup y.1).getD 0) :: c)) else pure (.yield c):=fun y hy=>h y (mem_cons_of_mem _ hy)
  unfold clOf
  by_cases hk:(k == NameKind.free)=true
  ·rw [if_pos hk,if_pos hk,← a7k env f r _ hr]
   all_goals rfl
  ·rw [if_neg hk,if_neg hk,← a7k env f r _ hr]
   all_goals rfl
theorem a8d{env:Env}{scope:Scope}(h:∀ y ∈ scope.names,y.2=.free->∃ c,env.cells.lookup y.1=some c) :
  closureFor scope env=pure (clOf env scope.names []):=by
 simp only [closureFor]
 rw [a7k env _ scope.names [] (fun y hy c=>by
  obtain⟨n,k⟩:=y
  by_cases hk:k=.free
  ·subst hk
   obtain⟨a,ha⟩:=h (n,.free) hy rfl
   have e:cellOf env n=pure a:=by unfold cellOf;rw [ha]
   simp only [beq_self_eq_true,if_true,e,ha,Option.getD_some]
   rfl
  ·have hb:(k == NameKind.free)=false:=by simpa using hk
   simp only [hb,Bool.false_eq_true,if_false])]
 rfl
theorem a4h(env:Env):∀ (names:List (Str × NameKind)) (acc:List (Str × Addr)),clOf env names acc=clOf env names [] ++ acc
 | [],acc=>rfl
 | (n,k) :: r,acc=>by
  unfold clOf
  split
  ·rw [a4h env r,a4h env r [_],List.append_assoc];rfl
  ·exact a4h env r acc
theorem a4i{env:Env}:∀ {names:List (Str × NameKind)} {x:Str} {c:Addr},(x,c) ∈ clOf env names []->(x,NameKind.free) ∈ names/\c=(env.cells.lookup x).getD 0
 | [],x,c,h=>by cases h
 | (n,k) :: r,x,c,h=>by
  unfold clOf at h
  split at h
  ·rename_i hk
   rw [a4h] at h
   rcases mem_append.mp h with h | h
   ·exact⟨mem_cons_of_mem _ (a4i h).1,(a4i h).2⟩
   ·have e:(x,c)=(n,(env.cells.lookup n).getD 0):=by simpa using h
    have hk':k=.free:=by simpa using hk
    cases e
    exact⟨by rw [hk'];exact mem_cons_self,rfl⟩
  ·exact⟨mem_cons_of_mem _ (a4i h).1,(a4i h).2⟩
theorem b1r{env:Env}:∀ {names:List (Str × NameKind)} {x:Str},(x,NameKind.free) ∈ names->(x,(env.cells.lookup x).getD 0) ∈ clOf env names []
 | [],x,h=>by cases h
 | (n,k) :: r,x,h=>by
  unfold clOf
  rcases mem_cons.mp h with e | h
  ·cases e
   rw [if_pos (by rfl),a4h]
   exact mem_append_right _ (by simp)
  ·split
   ·rw [a4h];exact mem_append_left _ (b1r h)
   ·exact b1r h
theorem a2n:∀ (names:List (Str × NameKind)) (n:Nat) (acc:List (Str × Addr)),cellsFrom n names acc=cellsFrom n names [] ++ acc
 | [],_,acc=>rfl
 | (x,k) :: r,n,acc=>by
  unfold cellsFrom
  split
  ·rw [a2n r,a2n r _ [_],List.append_assoc];rfl
  ·exact a2n r n acc
theorem a1i:∀ {names:List (Str × NameKind)} {n:Nat} {x:Str} {c:Addr},(x,c) ∈ cellsFrom n names []->(x,NameKind.cell) ∈ names/\n <= c
 | [],n,x,c,h=>by cases h
 | (y,k) :: r,n,x,c,h=>by
  unfold cellsFrom at h
  split at h
  ·rename_i hk
   rw [a2n] at h
   rcases mem_append.mp h with h | h
   ·have q:=a1i h
    exact⟨mem_cons_of_mem _ q.1,by omega⟩
   ·have e:(x,c)=(y,n):=by simpa using h
    have hk':k=.cell:=by simpa using hk
    cases e
    exact⟨by rw [hk'];exact mem_cons_self,le_refl _⟩
  ·have q:=a1i h
   exact⟨mem_cons_of_mem _ q.1,q.2⟩
theorem a4j{α:Type}(x:Str):∀ (a b:List (Str × α)),(a ++ b).lookup x=(a.lookup x).or (b.lookup x)
 | [],b=>by simp
 | (k,v) :: r,b=>by
  rw [List.cons_append,lookup_cons,lookup_cons]
  cases x == k with
  | true=>rfl
  | false=>exact a4j x r b
theorem lookup_mem{α:Type}:∀ {l:List (Str × α)} {x:Str} {v:α},(x,v) ∈ l->∃ u,l.lookup x=some u
 | (k,w) :: r,x,v,h=>by
  rw [lookup_cons]
  cases e:x == k with
  | true=>exact⟨w,rfl⟩
  | false =>
   rcases mem_cons.mp h with q | q
   ·cases q;simp at e
   ·exact lookup_mem q
theorem a2w{α:Type}:∀ {l:List (Str × α)} {x:Str} {v:α},(l.map (·.1)).Nodup->(x,v) ∈ l->l.lookup x=some v
 | (k,w) :: r,x,v,hn,h=>by
  rw [lookup_cons]
  rw [map_cons,nodup_cons] at hn
  rcases mem_cons.mp h with q | q
  ·cases q;simp
  ·have:(x == k)=false:=by
    refine beq_eq_false_iff_ne.mpr ?_
    rintro rfl
    exact hn.1 (mem_map.mpr ⟨(x,v),q,rfl⟩)
   rw [this]
   exact a2w hn.2 q
theorem a6v(env:Env)(x:Str):∀ (names:List (Str × NameKind)),
  (names.map fun(n,k)=>if (k == NameKind.free && env.scope.kind == .function && env.kindOf n == some .cell) then(n,NameKind.cell) else(n,k)).lookup x =
   (names.lookup x).map fun k=>if (k == NameKind.free && env.scope.kind == .function && env.kindOf x == some .cell) then NameKind.cell else k
 | []=>rfl
 | (n,k) :: r=>by
  rw [map_cons,lookup_cons]
  cases hx:x == n with
  | true =>
   have e:x=n:=by simpa using hx
   subst e
   by_cases hc:(k == NameKind.free && env.scope.kind == .function && env.kindOf x == some .cell)=true
   ·simp only [if_pos hc,lookup_cons,hx,map_some]
   ·simp only [if_neg hc,lookup_cons,hx,map_some]
  | false =>
   have ih:=a6v env x r
   by_cases hc:(k == NameKind.free && env.scope.kind == .function && env.kindOf n == some .cell)=true
   ·simp only [if_pos hc,lookup_cons,hx];exact ih
   ·simp only [if_neg hc,lookup_cons,hx];exact ih
theorem b5s{M:Model}{A:Around}{E:Value->Shared->Prop}{s:Shared}{scope:Scope}{globals:Addr}{cl:List (Str × Addr)}{qual:Str}{outer:Env}{Q:Env->Shared->Prop}
  (hQ:Q (newEnv scope s.heap.objs.size globals (cellsFrom (s.heap.objs.size + 1) scope.names cl) qual none .none (some outer) builtinsNs)
    { s with heap:=pushCells (s.heap.push { cls:=.type "dict",data:=.dict #[] }) scope.names }) :
  wpAny M A (newFunctionEnv scope globals cl [] qual none .none (some outer)) Q E s:=by
 simp only [newFunctionEnv,Option.isSome_some,if_true]
 refine wpAny_bind (wpAny_alloc ?_)
 refine wpAny_bind (wpAny_layCells _ (fun name kind cells=>by cases hkc:kind == NameKind.cell<;>simp [hkc]) _ _ _ _ ?_)
 rw [show({ s with heap:=s.heap.push { cls:=.type "dict",data:=.dict #[] } }:Shared).heap.objs.size=s.heap.objs.size + 1 from size_push ..]
 rw [List.forIn_nil]
 exact wpAny_bind (wpAny_pure (wpAny_pure hQ))
section
variable{prog:Program}{w:World}{A:Around}{R:Result->Shared->Prop}{s:Shared}
theorem b5t{elt target iter:Expr}{ifs:List Expr}{scope:Scope}{pos:Pos}{it acc:Value}{env:Env}(I:Nat->Shared->Prop)
  (turn:∀ n s,I n s->wpAny (model prog w) A (pyNext it) (fun r s₁=>match r with
   | none=>R (.ok .next) s₁
   | some v=>wpAny (model prog w) A (letOwnedTupleGo target it v) (fun _ s₂'=>wpAny (model prog w) A (assign target env v) (fun _ s₂ =>
     wpAny (model prog w) A (forIn ifs true fun c r=>if r=true then do let ok ← isTrue c env (eval c env);pure (ForInStep.yield ok) else pure (ForInStep.yield r)) (fun ok s₃ =>
      if ok=true then wpAny (model prog w) A (eval elt env) (fun x s₄ =>
       wpAny (model prog w) A (call (.builtin "list.append") [acc,x]) (fun _ s₅=>∃ m,m < n/\I m s₅) (notedBy (model prog w) A env fun e s'=>R (.error e) s') s₄) (notedBy (model prog w) A env fun e s'=>R (.error e) s') s₃
      else ∃ m,m < n/\I m s₃) (notedBy (model prog w) A env fun e s'=>R (.error e) s') s₂) (notedBy (model prog w) A env fun e s'=>R (.error e) s') s₂') (notedBy (model prog w) A env fun e s'=>R (.error e) s') s₁) (notedBy (model prog w) A env fun e s'=>R (.error e) s') s)
  (n:Nat) (h:I n s) :
  codeAny (model prog w) A (.compLoop (.ListComp elt [⟨target,iter,ifs,0⟩] scope pos) 0 it acc env) R s:=by
 refine codeAny_loop rfl I (fun n s hI=>?_) n h
 show wpAny _ A ((compTurn (.ListComp elt [⟨target,iter,ifs,0⟩] scope pos) 0 it acc env).onRaise (fun x=>do noteFrame x env;theTreesLotGoes x)) _ _ s
 refine wpAny_noted ?_
 rw [compTurn_list]
 refine wpAny_bind (wpAny_standAt (wpAny_bind (wpAny_mono (turn n s hI) (fun r s₁ h₁=>?_) fun _ _ h'=>h')))
 cases r with
 | none=>exact wpAny_pure h₁
 | some v =>
  refine wpAny_bind (wpAny_mono h₁ (fun _ s₂' h₂'=>?_) fun _ _ h'=>h')
  refine wpAny_bind (wpAny_mono h₂' (fun _ s₂ h₂=>wpAny_bind (wpAny_mono h₂ (fun ok s₃ h₃=>?_) fun _ _ h'=>h')) fun _ _ h'=>h')
  cases ok with
  | false=>exact wpAny_pure ⟨rfl,h₃⟩
  | true =>
   exact wpAny_bind (wpAny_bind (wpAny_mono h₃ (fun x s₄ h₄=>wpAny_bind (wpAny_mono h₄ (fun _ s₅ h₅=>wpAny_pure (wpAny_pure ⟨rfl,h₅⟩)) fun _ _ h'=>h')) fun _ _ h'=>h'))
end
theorem nlt{a b:Nat}(h:b <= a):¬ a < b:=Nat.not_lt.mpr h
noncomputable def cxC(X:Cx)(scope:Scope)(own:List Str)(cap:List (Str × Nat))(fp:List Addr)(s2:Shared)(H2:Hp):Cx where
 prog:=X.prog
 w:=X.w
 K:=X.K
 mg:=X.mg
 base:=X.base
 A:=X.A
 N:=own ++ cap.map (·.1)
 s₀:=s2
 H₀:=H2
 env:={ scope:=relabel scope X.env,locals:=s2.heap.objs.size + 1,globals:=X.env.globals,cells:=cellsFrom (s2.heap.objs.size + 1 + 1) scope.names (clOf X.env scope.names []),qual:=X.env.qual,func:=none,code:=X.env.code,frame:=X.env.frame,builtins:=X.env.builtins }
 outer:=X.stack
 stack:=X.stack
 ex:=fp
 fn:=fun x=>scope.names.lookup x == some .cell
 calm:=X.calm
 pn:=[]
 xe:=fun _ _=>False
noncomputable def a4s(own:List Str)(cap:List (Str × Nat))(σ:St):St:=List.replicate own.length none ++ cap.map fun p=>(σ[p.2]?).join
noncomputable def a3f(X:Cx)(scope:Scope)(own:List Str)(cap:List (Str × Nat)):Bool:=
 scope.kind == .function && (scope.names.all fun y=>y.2 != .free || X.env.kindOf y.1 == some .cell || X.env.kindOf y.1 == some .free) &&
 (cap.all fun p=>X.N[p.2]? == some p.1 && scope.names.lookup p.1 == some .free) && (own.all fun x=>!((cap.map (·.1)).contains x))
section
variable{X:Cx}{pins:List (Addr × Obj)}{σ:St}{H2:Hp}{s2:Shared}{scope:Scope}{own:List Str}{cap:List (Str × Nat)}{fp:List Addr}
theorem a7l(h:a3f X scope own cap=true):scope.kind=.function:=by
 simp only [a3f,and_eq_true,beq_iff_eq] at h
 exact h.1.1.1
theorem a7m(h:a3f X scope own cap=true):∀ y ∈ scope.names,y.2=.free->X.env.kindOf y.1=some .cell ∨ X.env.kindOf y.1=some .free:=by
 simp only [a3f,and_eq_true,beq_iff_eq] at h
 intro y hy hf
 have q:=all_eq_true.mp h.1.1.2 y hy
 simp only [hf,bne_self_eq_false,Bool.false_or,Bool.or_eq_true,beq_iff_eq] at q
 exact q
theorem c0l(h:a3f X scope own cap=true):∀ p ∈ cap,X.N[p.2]? = some p.1/\scope.names.lookup p.1=some .free:=by
 simp only [a3f,and_eq_true,beq_iff_eq] at h
 intro p hp
 have q:=all_eq_true.mp h.1.2 p hp
 simp only [and_eq_true,beq_iff_eq] at q
 exact q
theorem c2y(I:Inv X pins σ H2 s2)(hok:a3f X scope own cap=true)(hnd:(scope.names.map (·.1)).Nodup)(hfp:∀ b ∈ fp,FpOk X pins H2 b)(hob:∀ b ∈ fp,∃ o,s2.heap.get? b=some o) :
  Inv (cxC X scope own cap fp s2 H2) [] (a4s own cap σ) (upd H2 s2.heap.objs.size (.lst []))
   { s2 with heap:=pushCells ((s2.heap.push { cls:=.type "list",dict:=none,data:=.seq ([]:List Value).toArray }).push { cls:=.type "dict",data:=.dict #[] }) scope.names }:=by
 have hkind:=a7l hok
 have hfree:=a7m hok
 have hcap:=c0l hok
 have hdf:H2 s2.heap.objs.size=none:=I.fresh
 generalize hh1:s2.heap.push { cls:=.type "list",dict:=none,data:=.seq ([]:List Value).toArray }=h1
 have z1:h1.objs.size=s2.heap.objs.size + 1:=by rw [← hh1,size_push]
 generalize hh2:h1.push { cls:=.type "dict",data:=.dict #[] }=h2
 have z2:h2.objs.size=s2.heap.objs.size + 1 + 1:=by rw [← hh2,size_push,z1]
 have k1:∀ b o,s2.heap.get? b=some o->h1.get? b=some o:=fun b o e=>by rw [← hh1];exact get?_push_of_some _ e
 have k2:∀ b o,h1.get? b=some o->h2.get? b=some o:=fun b o e=>by rw [← hh2];exact get?_push_of_some _ e
 have k3:∀ b o,h2.get? b=some o->(pushCells h2 scope.names).get? b=some o:=fun b o e=>pushCells_keeps _ _ b o e
 have k:∀ b o,s2.heap.get? b=some o->(pushCells h2 scope.names).get? b=some o:=fun b o e=>k3 b o (k2 b o (k1 b o e))
 have hD:(pushCells h2 scope.names).get? s2.heap.objs.size=some { cls:=.type "list",dict:=none,data:=.seq ([]:List Value).toArray }:=by
  refine k3 _ _ (k2 _ _ ?_)
  rw [← hh1];exact get?_push_size _ rfl
 have hC:(pushCells h2 scope.names).Ns (s2.heap.objs.size + 1) fun _=>none:=by
  have q:h2.Ns h1.objs.size fun _=>none:=by rw [← hh2];exact Heap.Ns.new h1 (.type "dict")
  rw [z1] at q
  exact q.keeps k3
 have own_ok:=cellsFrom_ok scope.names h2 (s2.heap.objs.size + 1 + 1) [] ⟨fun _ _ hm=>(nomatch hm),List.Pairwise.nil⟩ (by rw [z2];exact le_refl _)
 rw [z2] at own_ok
 have ec:(cxC X scope own cap fp s2 H2).env.cells=cellsFrom (s2.heap.objs.size + 1 + 1) scope.names [] ++ clOf X.env scope.names []:=a2n _ _ _
 -- an entry is a new cell, or one of the names around
 have split:∀ x c,(cxC X scope own cap fp s2 H2).env.cells.lookup x=some c->((x,c) ∈ cellsFrom (s2.heap.objs.size + 1 + 1) scope.names []) ∨ ((x,NameKind.free) ∈ scope.names/\X.env.cells.lookup x=some c):=fun x c e=>by
  rw [ec,a4j] at e
  cases e1:(cellsFrom (s2.heap.objs.size + 1 + 1) scope.names []).lookup x with
  | some c'=>rw [e1] at e;cases e;exact .inl (mem_of_lookup e1)
  | none =>
   rw [e1] at e
   have e':(clOf X.env scope.names []).lookup x=some c:=e
   obtain⟨m1,m2⟩:=a4i (mem_of_lookup e')
   obtain⟨c',hc'⟩:=I.ok.has x (hfree _ m1 rfl)
   rw [hc'] at m2
   exact .inr ⟨m1,by rw [hc',m2];rfl⟩
 have capCell:∀ x,(x,NameKind.free) ∈ scope.names->∀ c,X.env.cells.lookup x=some c->(cxC X scope own cap fp s2 H2).env.cells.lookup x=some c:=fun x hx c hc=>by
  rw [ec,a4j]
  cases e1:(cellsFrom (s2.heap.objs.size + 1 + 1) scope.names []).lookup x with
  | some c' =>
   have q:=(a1i (mem_of_lookup e1)).1
   have q1:=a2w hnd q
   have q2:=a2w hnd hx
   rw [q1] at q2;cases q2
  | none =>
   obtain⟨u,hu⟩:=lookup_mem (b1r (env:=X.env) hx)
   have m2:=(a4i (mem_of_lookup hu)).2
   rw [hc] at m2
   show(clOf X.env scope.names []).lookup x=some c
   rw [hu,m2];rfl
 have lt_of_around:∀ x c,X.env.cells.lookup x=some c->c < s2.heap.objs.size:=fun x c e=>by
  obtain⟨v,q⟩:=I.cell x c e
  exact q.lt
 have kof:∀ x,(cxC X scope own cap fp s2 H2).env.kindOf x=(scope.names.lookup x).map fun k=>if (k == NameKind.free && X.env.scope.kind == .function && X.env.kindOf x == some .cell) then NameKind.cell else k:=fun x=>a6v X.env x scope.names
 have fpLt:∀ b ∈ fp,b < s2.heap.objs.size:=fun b hb=>by obtain⟨o,e⟩:=hob b hb;exact lt_size e
 have hokH:HOk X.prog X.w (upd H2 s2.heap.objs.size (.lst [])) (pushCells h2 scope.names):=I.hok.laid k (le_refl _) ⟨zero_le _,[],_,.nil,hD⟩
 refine⟨⟨I.ok.mod,?_,I.ok.glob,I.ok.blt,le_succ _,fun x y c e1 e2=>?_,fun x hx=>?_,fun x c hf e=>?_,I.ok.hd,I.ok.frames,.inl rfl,fun b hb=>⟨?_,fun x c e=>?_⟩,I.bs,le_trans I.ok.bsz I.sz,fun b o e hb=>?_,fun b hb hb2=>?_,I.stack,I.stkFree⟩,
  rfl,I.bare,Un.laid k (le_refl _) hdf,⟨_,hC,fun i x v e1 e2 e3=>?_⟩,fun x c e=>?_,?_,fun x c e=>?_,fun p hp=>?_,hokH,?_⟩
 ·exact hkind
 ·rcases split x c e1 with m1 | ⟨m1,q1⟩<;>rcases split y c e2 with m2 | ⟨m2,q2⟩
  ·exact name_of_addr own_ok.apart m1 m2
  ·exact absurd (lt_of_around y c q2) (nlt (by have:=(a1i m1).2;omega))
  ·exact absurd (lt_of_around x c q1) (nlt (by have:=(a1i m2).2;omega))
  ·exact I.ok.inj x y c q1 q2
 ·rw [kof x] at hx
  cases e1:scope.names.lookup x with
  | none=>rw [e1] at hx;rcases hx with z | z<;>cases z
  | some kx =>
   have mx:=mem_of_lookup e1
   cases kx with
   | free =>
    obtain⟨c,hc⟩:=I.ok.has x (hfree _ mx rfl)
    exact⟨c,capCell x mx c hc⟩
   | cell =>
    have q:=PySem.W.cellsFrom_some scope.names (s2.heap.objs.size + 1 + 1) (clOf X.env scope.names []) (x:=x) (.inl e1)
    exact Option.isSome_iff_exists.mp q
   | _=>rw [e1] at hx;rcases hx with z | z<;>simp at z
 ·rcases split x c e with m1 | ⟨m1,q1⟩
  ·have:=(a1i m1).2;show s2.heap.objs.size <= c;omega
  ·have q2:=a2w hnd m1
   have hf':(scope.names.lookup x == some NameKind.cell)=true:=hf
   rw [q2] at hf';simp at hf'
 ·exact ne_of_lt (Nat.lt_succ_of_lt (fpLt b hb))
 ·have h1:=fpLt b hb
  rcases split x c e with m1 | ⟨m1,q1⟩
  ·exact ne_of_gt (lt_of_lt_of_le h1 (by have:=(a1i m1).2;omega))
  ·exact(hfp b hb).2.2.2.2.1 x c q1
 ·rcases (hfp b hb).2.2.2.1 with z | z
  ·exact I.ok.noex b o e z
  ·exact absurd (lt_of_lt_of_le (lt_size e) (le_trans I.ok.bsz z)) (lt_irrefl _)
 ·rcases mem_cons.mp (I.stkSub b hb2) with z | z
  ·exact(hfp b hb).2.1 z
  ·exact(hfp b hb).2.2.1 z
 ·-- names that are closed over
  have ei:own.length <= i:=by
   by_cases hi:i < own.length
   ·unfold a4s at e2
    rw [List.getElem?_append_left (by simpa using hi),List.getElem?_replicate,if_pos hi] at e2
    cases e2
   ·omega
  have e1':(cap.map (·.1))[i - own.length]? = some x:=by
   have:(own ++ cap.map (·.1))[i]? = some x:=e1
   rwa [getElem?_append_right ei] at this
  have e2':(cap.map fun p=>(σ[p.2]?).join)[i - own.length]? = some (some v):=by
   unfold a4s at e2
   rw [getElem?_append_right (by simpa using ei)] at e2
   simpa using e2
  rw [getElem?_map] at e1' e2'
  cases ep:cap[i - own.length]? with
  | none=>rw [ep] at e1';cases e1'
  | some p =>
   rw [ep] at e1' e2'
   have hx:p.1=x:=by simpa using e1'
   have hv:(σ[p.2]?).join=some v:=by simpa using e2'
   have hσ:σ[p.2]? = some (some v):=by
    cases eσ:σ[p.2]? with
    | none=>rw [eσ] at hv;cases hv
    | some w'=>rw [eσ] at hv;simp at hv;rw [hv]
   obtain⟨hN,hl⟩:=hcap p (mem_of_getElem? ep)
   rw [hx] at hN hl
   have mx:=mem_of_lookup hl
   have hvis:Vis X.env.scope x:=by
    rcases hfree _ mx rfl with z | z
    ·exact .inr (.inl z)
    ·exact .inr (.inr z)
   obtain⟨m,_,hl'⟩:=I.loc
   obtain⟨u,r,lk⟩:=hl' p.2 x v hN hσ hvis
   refine⟨u,r,.inr ?_⟩
   rcases lk with⟨z,_⟩ | ⟨z,c,hc,hcell⟩
   ·rcases hfree _ mx rfl with z' | z'<;>rw [z'] at z<;>cases z
   ·refine⟨?_,c,capCell x mx c hc,hcell.keeps k⟩
    rw [kof x,hl]
    by_cases hcc:(NameKind.free == NameKind.free && X.env.scope.kind == .function && X.env.kindOf x == some .cell)=true
    ·left;simp only [map_some,if_pos hcc]
    ·right;simp only [map_some,if_neg hcc]
 ·rcases split x c e with m1 | ⟨m1,q1⟩
  ·exact⟨_,(own_ok.empty x c m1).1⟩
  ·obtain⟨v,q⟩:=I.cell x c q1
   exact⟨v,q.keeps k⟩
 ·show upd H2 s2.heap.objs.size (.lst []) (s2.heap.objs.size + 1)=none
  rw [a0d (Nat.succ_ne_self _)]
  exact I.hok.fresh (le_succ _)
 ·rcases split x c e with m1 | ⟨m1,q1⟩
  ·have hle:=(a1i m1).2
   rw [a0d (ne_of_gt (lt_of_lt_of_le (Nat.lt_succ_self _) (by omega)))]
   exact I.hok.fresh (by omega)
  ·rw [a0d (ne_of_lt (lt_of_around x c q1))]
   exact I.freeC x c q1
 ·exact absurd (show p ∈ ([]:List (Addr × Obj)) from hp) (by simp)
 ·unfold a4s
  show _=(own ++ cap.map (·.1)).length
  simp
end
def PIf(X:Cx)(ifs:List Expr)(t:TT):Prop:=
 ∀ (pins:List (Addr × Obj)) (s:Shared) (σ:St) (H:Hp) (Q:Bool->Hp->Prop),Inv X pins σ H s->t σ H Q ->
  wpAny (model X.prog X.w) X.A (forIn ifs true fun c r=>if r=true then do let ok ← isTrue c X.env (eval c X.env);pure (ForInStep.yield ok) else pure (ForInStep.yield r)) (TP X pins σ Q) X.xe s
def tYes:TT:=fun _ H Q=>Q true H
theorem a9d{X:Cx}:PIf X [] tYes:=fun _ _ _ H _ I h=>wpAny_tests_nil ⟨H,I,h⟩
def a9z(own:List Str)(cap:List (Str × Nat))(g:TG)(tt:TT)(te:TE)(J:It)(D:Addr)(σ:St)(H1:Hp)(Z:Hp->Prop):Prop:=
 ∃ W:Nat->Nat->St->Hp->Prop,(∃ m,W 0 m (a4s own cap σ) (upd H1 D (.lst [])))/\∀ i m σ' H',W i m σ' H' ->
  (J.stop i H'/\Z H') ∨ (J.go i H'/\∃ N:St->Hp->Prop,(∀ σ'' H'',N σ'' H''->∃ m',m' < m/\W (i + 1) m' σ'' H'')/\∀ x H'',J.yld i H' x H'' ->
   g x σ' H'' fun σ2 H2=>tt σ2 H2 fun b H3=>if b=true then te σ2 H3 fun y H4=>∃ ys,H4 D=some (.lst ys)/\ys.length < sizeLine/\N σ2 (upd H4 D (.lst (ys ++ [y]))) else N σ2 H3)
def b8a(own:List Str)(cap:List (Str × Nat))(wi:TI)(g:TG)(tt:TT)(te:TE):TE:=fun σ H Q=>wi σ H fun J H1=>∀ D,H1 D=none->a9z own cap g tt te J D σ H1 (Q (.ref D))
theorem b4e{X:Cx}{elt tg iter:Expr}{ifs:List Expr}{scope:Scope}{pos:Pos}{own:List Str}{cap:List (Str × Nat)}{g:TG}{tt:TT}{te:TE}
  (hc:X.calm=true) (hok:a3f X scope own cap=true) (hnd:(scope.names.map (·.1)).Nodup)
  (hg:∀ fp s2 H2,PG (cxC X scope own cap fp s2 H2) tg g) (ht:∀ fp s2 H2,PIf (cxC X scope own cap fp s2 H2) ifs tt) (he:∀ fp s2 H2,PE (cxC X scope own cap fp s2 H2) elt te)
  {pins:List (Addr × Obj)} {σ:St} {H1:Hp} {s2:Shared} {it:Addr} {fp:List Addr} {tn:Nat->Heap->Prop} {J:It} {Z:Hp->Prop} {RR:Result->Shared->Prop}
  (I:Inv X pins σ H1 s2) (T:Turn X.prog X.w X.K tg J fp it tn) (h0:tn 0 s2.heap) (hfp:∀ b ∈ fp,FpOk X pins H1 b)
  (hb:a9z own cap g tt te J s2.heap.objs.size σ H1 Z)
  (hR:∀ s' H' m,(∀ h',Heap.SameBut (s2.heap.objs.size + 1) s'.heap h'->Inv X pins σ H' { s' with heap:=h' })->s'.heap.Ns (s2.heap.objs.size + 1) m->H' (s2.heap.objs.size + 1)=none->Z H'->RR (.ok .next) s') :
  wpAny (model X.prog X.w) X.A (newFunctionEnv scope X.env.globals (clOf X.env scope.names []) [] X.env.qual none .none (some X.env)) (fun cenv s₄ =>
   cenv.locals=s2.heap.objs.size + 1/\codeAny (model X.prog X.w) X.A (.compStart (.ListComp elt [⟨tg,iter,ifs,0⟩] scope pos) 0 (.ref it) (.ref s2.heap.objs.size) { cenv with scope:=relabel scope X.env }) RR s₄)
   X.xe { s2 with heap:=s2.heap.push { cls:=.type "list",dict:=none,data:=.seq ([]:List Value).toArray } }:=by
 have hob:∀ b ∈ fp,∃ o,s2.heap.get? b=some o:=fun b hb=>let ⟨o,e,_⟩:=T.obj _ _ h0 b hb;⟨o,e⟩
 have I0:=c2y (own:=own) (cap:=cap) I hok hnd hfp hob
 refine b5s ?_
 have z1:(s2.heap.push { cls:=.type "list",dict:=none,data:=.seq ([]:List Value).toArray }).objs.size=s2.heap.objs.size + 1:=size_push ..
 dsimp only
 rw [z1]
 refine⟨rfl,?_⟩
 show codeAny (model X.prog X.w) X.A (.compStart (.ListComp elt [⟨tg,iter,ifs,0⟩] scope pos) 0 (.ref it) (.ref s2.heap.objs.size) (cxC X scope own cap fp s2 H1).env) RR _
 generalize hs4:({ s2 with heap:=pushCells ((s2.heap.push { cls:=.type "list",dict:=none,data:=.seq ([]:List Value).toArray }).push { cls:=.type "dict",data:=.dict #[] }) scope.names }:Shared)=s4 at I0 ⊢
 have kp:∀ b o,s2.heap.get? b=some o->s4.heap.get? b=some o:=fun b o e=>by
  rw [← hs4];exact pushCells_keeps _ _ b o (get?_push_of_some _ (get?_push_of_some _ e))
 have st4:tn 0 s4.heap:=T.keep _ _ _ h0 fun b _ o e=>kp b o e
 obtain⟨W,⟨m0,w0⟩,turn⟩:=hb
 -- the iterator's records are the block's own
 have stat:∀ {H':Hp},(∀ b ∈ fp,H' b=none)->∀ b ∈ fp,FpOk (cxC X scope own cap fp s2 H1) [] H' b:=fun hn b hb =>
  ⟨hn b hb,(I0.ok.exf b hb).1,I0.ok.exfs b hb,.inl hb,fun x c e=>(I0.ok.exf b hb).2 x c e,fun p hp=>absurd (show p ∈ ([]:List (Addr × Obj)) from hp) (by simp)⟩
 have fr0:∀ b ∈ fp,upd H1 s2.heap.objs.size (.lst []) b=none:=fun b hb=>by
  obtain⟨o,e⟩:=hob b hb
  rw [a0d (ne_of_lt (lt_size e))]
  exact(hfp b hb).1
 have loop:codeAny (model X.prog X.w) X.A (.compLoop (.ListComp elt [⟨tg,iter,ifs,0⟩] scope pos) 0 (.ref it) (.ref s2.heap.objs.size) (cxC X scope own cap fp s2 H1).env) RR s4:=by
  refine b5t (fun n s'=>∃ i σ' H',Inv (cxC X scope own cap fp s2 H1) [] σ' H' s'/\tn i s'.heap/\(∀ b ∈ fp,H' b=none)/\W i n σ' H') ?_ m0 ⟨0,_,_,I0,st4,fr0,w0⟩
  rintro n s3 ⟨i,σ3,H3,I3,st3,fr3,w3⟩
  rcases turn i n σ3 H3 w3 with⟨stop,qn⟩ | ⟨go,N,hN,step⟩
  ·refine wpAny_noRaise (thn (T.done (cxC X scope own cap fp s2 H1) rfl rfl rfl hc i [] s3 σ3 H3 _ I3 (stat fr3) st3 stop) fun r s5 hq9=>?_)
   obtain⟨hr,I5⟩:=hq9
   subst hr
   obtain⟨m5,hm5,_⟩:=id I5.loc
   refine hR s5 H3 m5 (fun h' hs'=>?_) hm5 I5.free qn
   ·have un:Un (frs X.stack) fp H1 H3 s2.heap s5.heap:=I5.base
    have low:∀ b o,s2.heap.get? b=some o->b ≠ s2.heap.objs.size + 1:=fun b o e=>ne_of_lt (Nat.lt_succ_of_lt (lt_size e))
    refine I.call' (s':={ s5 with heap:=h' }) (ch:=fp) I5.os ⟨fun b o e n hb hx=>(hs'.2 b (low b o e)).trans (un.keep b o e n hb hx),fun b o e n hb hx=>?_,un.free,fun b o e hx=>?_,un.tups,un.frzs,un.tbls⟩ ?_ I5.bare fun b hb=>⟨(hfp b hb).2.2.2.1,(hfp b hb).2.1,(hfp b hb).2.2.2.2.1,(hfp b hb).2.2.2.2.2⟩
    ·obtain⟨sl,q⟩:=un.slot b o e n hb hx
     exact⟨sl,(hs'.2 b (low b o e)).trans q⟩
    ·obtain⟨o',q⟩:=un.there b o e hx
     exact⟨o',(hs'.2 b (low b o e)).trans q⟩
    ·intro b ob e
     refine(I5.hok b ob e).stay (fun c w' hc' q=>(hs'.2 c ?_).trans q) (fun _ q=>q) (fun _ _ q=>q) fun _ _ _ q=>q
     have nC:H3 (s2.heap.objs.size + 1)=none:=I5.free
     rintro rfl
     rcases hc' with rfl | hc'
     ·rw [nC] at e;cases e
     ·rw [nC] at hc';cases hc'
  ·refine wpAny_noRaise (thn (T.item (cxC X scope own cap fp s2 H1) rfl rfl rfl hc i [] s3 σ3 H3 (fun _ _=>False) I3 (stat fr3) st3 go) fun r s5 hq9=>?_)
   obtain⟨u,hr,h5⟩:=hq9
   subst hr
   refine wpAny_noRaise (thn h5 fun _ s6 hq9=>?_)
   obtain⟨x,H6,I6,r6,y6,st6,fr6⟩:=hq9
   have I6':=I6.pinned (stat fr6) (T.obj _ _ st6)
   refine wpAny_noRaise (thn (hg fp s2 H1 _ s6 σ3 H6 x u _ I6' r6 (step x H6 y6)) fun _ s7 hq9=>?_)
   obtain⟨σ7,H7,I7,q7⟩:=hq9
   refine wpAny_noRaise (thn (ht fp s2 H1 _ s7 σ7 H7 _ I7 q7) fun ok s8 hq9=>?_)
   obtain⟨H8,I8,q8⟩:=hq9
   have again:∀ {σ9:St} {H9:Hp} {s9:Shared},Inv (cxC X scope own cap fp s2 H1) ([] ++ a8g fp s6.heap) σ9 H9 s9->N σ9 H9->∃ m,m < n/\∃ i σ' H',Inv (cxC X scope own cap fp s2 H1) [] σ' H' s9/\tn i s9.heap/\(∀ b ∈ fp,H' b=none)/\W i m σ' H':=fun{σ9 H9 s9} I9 n9=>by
    obtain⟨m',hm,w9⟩:=hN σ9 H9 n9
    refine⟨m',hm,i + 1,σ9,H9,I9.unpinned,T.keep _ _ _ st6 fun b hb o e=>(I9.pin (b,o) (mem_append_right _ (mem_append_right _ (a5i hb e)))).1,fun b hb=>?_,w9⟩
    obtain⟨o,e,d⟩:=T.obj _ _ st6 b hb
    exact(I9.pin (b,o) (mem_append_right _ (mem_append_right _ (a5i hb e)))).2.1
   cases ok with
   | false=>exact again I8 q8
   | true =>
    rw [if_pos rfl] at q8
    rw [if_pos rfl]
    refine wpAny_noRaise (thn (he fp s2 H1 _ s8 σ7 H8 _ I8 q8) fun y s9 hq9=>?_)
    obtain⟨yv,H9,I9,r9,ys,hD,hz,q9⟩:=hq9
    refine wpAny_noRaise (thn (b2l _ s9 σ7 H9 (.ref s2.heap.objs.size) [yv] (.ref s2.heap.objs.size) [y] (fun _ H'=>N σ7 H') I9 rfl (.cons r9 .nil) ⟨_,ys,yv,rfl,rfl,hD,hz,q9⟩) fun _ s10 hq9=>?_)
    obtain⟨_,H10,I10,_,q10⟩:=hq9
    exact again I10 q10
 exact codeAny_compStart_list loop (T.self X.A 0 _ _ _ st4 loop)
theorem a9u{scope:Scope}(hnd:(scope.names.map (·.1)).Nodup):∀ x ∈ scope.names,x.2=.local->scope.names.lookup x.1=some .local:=fun x hx e=>by
 obtain⟨n,k⟩:=x
 have e':k=.local:=e
 subst e'
 exact a2w hnd hx
theorem a9e{X:Cx}{elt tg iter:Expr}{ifs:List Expr}{scope:Scope}{pos:Pos}{own:List Str}{cap:List (Str × Nat)}{wi:TI}{g:TG}{tt:TT}{te:TE}
  (hc:X.calm=true) (hok:a3f X scope own cap=true) (hnd:(scope.names.map (·.1)).Nodup) (hi:PI X tg iter wi)
  (hg:∀ fp s2 H2,PG (cxC X scope own cap fp s2 H2) tg g) (ht:∀ fp s2 H2,PIf (cxC X scope own cap fp s2 H2) ifs tt) (he:∀ fp s2 H2,PE (cxC X scope own cap fp s2 H2) elt te)
  (hs:∀ x,foldedSetIterable iter X.env x=pure x:=by intro _;rfl) :
  PE X (.ListComp elt [⟨tg,iter,ifs,0⟩] scope pos) (b8a own cap wi g tt te):=by
 intro pins s σ H Q I h
 have hkind:=a7l hok
 have hclos:closureFor scope X.env=pure (clOf X.env scope.names []):=a8d fun y hy hf=>I.ok.has y.1 (a7m hok y hy hf)
 rw [eval_ListComp]
 refine wpAny_comprehension_free (use:=none) rfl hs hclos hkind (a9u hnd) (thn (hi pins s σ H _ I h) fun xv s1 h1=>thn h1 fun itv s2 h2=>?_)
 obtain⟨it,fp,tn,J,H1,e,I2,T,st2,f2,hb⟩:=h2
 subst e
 refine wpAny_newObj_type (thn (b4e (iter:=iter) (pos:=pos) (RR:=compPost (model X.prog X.w) X.A X.xe none (EP X pins σ Q) (.ref s2.heap.objs.size) (s2.heap.objs.size + 1)) hc hok hnd hg ht he I2 T st2 f2 (hb _ I2.fresh) fun s' H' m hI hm hnC z=>?_) fun cenv s4 ⟨e,q⟩=>?_)
 ·exact⟨m,hm,fun h' hs'=>⟨.ref s2.heap.objs.size,H',hI h' hs',rfl,z⟩⟩
 ·rw [← e] at q;exact q
theorem c6z{X:Cx}{i:Nat}{y:Str}{py spos:Pos}{elt tg iter:Expr}{ifs:List Expr}{scope:Scope}{pos:Pos}{own:List Str}{cap:List (Str × Nat)}{wi:TI}{g:TG}{tt:TT}{te:TE}
  (hN:X.N.Nodup) (hi':X.N[i]? = some y) (hy:X.env.scope.names.lookup y=some .local)
  (hc:X.calm=true) (hok:a3f X scope own cap=true) (hnd:(scope.names.map (·.1)).Nodup) (hi:PI X tg iter wi)
  (hg:∀ fp s2 H2,PG (cxC X scope own cap fp s2 H2) tg g) (ht:∀ fp s2 H2,PIf (cxC X scope own cap fp s2 H2) ifs tt) (he:∀ fp s2 H2,PE (cxC X scope own cap fp s2 H2) elt te)
  (hsw:swapsWith (.ListComp elt [⟨tg,iter,ifs,0⟩] scope pos) (some (.Name y py)) spos.line X.env=pure true:=by rfl)
  (hs:∀ x,foldedSetIterable iter X.env x=pure x:=by intro _;rfl) :
  PS X (.Assign [.Name y py] (.ListComp elt [⟨tg,iter,ifs,0⟩] scope pos) spos) (tAsg (b8a own cap wi g tt te) (a3s i)):=by
 intro pins s σ H D I h
 have hkind:=a7l hok
 have hclos:closureFor scope X.env=pure (clOf X.env scope.names []):=a8d fun y hy hf=>I.ok.has y.1 (a7m hok y hy hf)
 rw [exec_Assign_Name_used _ _ _ _ hsw]
 refine wpAny_bind (wpAny_standAt (wpAny_bind ?_))
 show wpAny _ X.A (do let _ ← comprehension (.ListComp elt [⟨tg,iter,ifs,0⟩] scope pos) scope X.env _ (newList []) false (eval iter X.env) (some (assign (.Name y py) X.env))) _ _ s
 refine wpAny_bind (wpAny_mono (wpAny_comprehension_free (use:=some (assign (.Name y py) X.env)) (Q:=fun _ s'=>SP X pins D .next s') rfl hs hclos hkind (a9u hnd)
  (thn (hi pins s σ H _ I h) fun xv s1 h1=>thn h1 fun itv s2 h2=>?_)) (fun _ s' hq=>wpAny_pure (wpAny_pure hq)) fun _ _ e=>e)
 obtain⟨it,fp,tn,J,H1,e,I2,T,st2,f2,hb⟩:=h2
 subst e
 refine wpAny_newObj_type (thn (b4e (iter:=iter) (pos:=pos) (RR:=compPost (model X.prog X.w) X.A X.xe (some (assign (.Name y py) X.env)) (fun _ s'=>SP X pins D .next s') (.ref s2.heap.objs.size) (s2.heap.objs.size + 1)) hc hok hnd hg ht he I2 T st2 f2 (hb _ I2.fresh) fun s' H' m hI hm hnC z=>?_) fun cenv s4 ⟨e,q⟩=>?_)
 ·show wpAny _ _ (assign (.Name y py) X.env (.ref s2.heap.objs.size)) _ _ s'
  have I':Inv X pins σ H' s':=hI s'.heap (Heap.SameBut.refl ..)
  refine wpAny_assign_Name (b2d I' hN hi' (.inl hy) (v:=.ref s2.heap.objs.size) rfl (fun s'' I'' hsb=>?_) (.inr hy))
  obtain⟨a,hs1,ha⟩:=hsb
  have nC:s2.heap.objs.size + 1 ≠ a:=by
   rintro rfl
   rcases ha with ha | ha
   ·have q:=I2.lt
    rw [← ha] at q
    exact absurd q (nlt (le_succ _))
   ·obtain⟨v,q⟩:=I2.cell _ _ ha
    exact absurd q.lt (nlt (le_succ _))
  refine⟨m,hm.sameBut hs1 nC,fun h' hs'=>⟨_,H',?_,z⟩⟩
  obtain⟨_,f1,f2,f3,f4,f5⟩:=I2.fpOk (b:=s2.heap.objs.size + 1) (le_succ _) hnC
  exact I''.turned (t':=s''.toks) (it:=s2.heap.objs.size + 1) (fun b o hb e=>(hs'.2 b hb).trans e) hnC f1 f3 f4 f5
 ·rw [← e] at q;exact q
end L2
end
section
namespace L2
open PySem PySem.Spec PyProof.Rows
theorem a5a:bootBuiltins "len" = some (.builtin "len"):=by decide +kernel
theorem a8e:bootBuiltins "isinstance" = some (.builtin "isinstance"):=by decide +kernel
theorem a6a:bootBuiltins "int" = some (.type "int"):=by decide +kernel
theorem a9f:bootBuiltins "bool" = some (.type "bool"):=by decide +kernel
theorem a3u:bootBuiltins "str" = some (.type "str"):=by decide +kernel
theorem a9g:bootBuiltins "list" = some (.type "list"):=by decide +kernel
theorem a4k:bootBuiltins "tuple" = some (.type "tuple"):=by decide +kernel
noncomputable def kvE(p:Str × Int):Key × V:=(Sum.inr p.1,V.int p.2)
noncomputable def kvD(p:Str × Int):PyData × PyData:=(.str p.1,.int p.2)
inductive FD where
 | none
 | bool (b:Bool)
 | int (n:Int)
 | str (x:Str)
noncomputable def FD.v:FD->V
 | .none=>.non
 | .bool b=>.bl b
 | .int n=>.int n
 | .str x=>.str x
noncomputable def FD.d:FD->PyData
 | .none=>.none
 | .bool b=>.bool b
 | .int n=>.int n
 | .str x=>.str x
noncomputable def keyD:Key->PyData
 | .inl i=>.int i
 | .inr x=>.str x
noncomputable def gE(p:Key × FD):Key × V:=(p.1,p.2.v)
noncomputable def gD(p:Key × FD):PyData × PyData:=(keyD p.1,p.2.d)
noncomputable def emb(p:Str × Int):Key × FD:=(Sum.inr p.1,FD.int p.2)
mutual
noncomputable def AtD(K:W.Frag)(H:Hp)(S:Addr->Prop):PyData->V->Prop
 | .none,v=>v=.non
 | .bool b,v=>v=.bl b
 | .int i,v=>v=.int i
 | .str x,v=>v=.str x
 | .list ds,v=>∃ a xs,v=.ref a/\S a/\H a=some (.lst xs)/\a0a K H S ds xs
 | .tuple ds,v=>∃ a xs,v=.ref a/\SqT K H a xs/\a0a K H S ds xs
 | .dict kvs,v=>∃ (a:Addr) (κ:List (Key × V)),v=.ref a/\S a/\H a=some (.dK κ)/\a0j K H S kvs κ
noncomputable def a0a(K:W.Frag)(H:Hp)(S:Addr->Prop):List PyData->List V->Prop
 | [],vs=>vs=[]
 | d :: ds,vs=>∃ v r,vs=v :: r/\AtD K H S d v/\a0a K H S ds r
noncomputable def a0j(K:W.Frag)(H:Hp)(S:Addr->Prop):List (PyData × PyData)->List (Key × V)->Prop
 | [],κ=>κ=[]
 | (x,d) :: r,κ=>∃ k v t,κ=(k,v) :: t/\x=keyD k/\AtD K H S d v/\a0j K H S r t
end
abbrev Any:Addr->Prop:=fun _=>True
abbrev But(t:Addr):Addr->Prop:=fun b=>b ≠ t
def Keep(S:Addr->Prop)(H H':Hp):Prop:=(∀ b xs,H b=some (.tup xs)->H' b=some (.tup xs))/\(∀ b o u,H b=some (.frz o u)->H' b=some (.frz o u))/\∀ b o,S b->H b=some o->H' b=some o
section
variable{K:W.Frag}{H H':Hp}{S S':Addr->Prop}
theorem Keep.refl(S:Addr->Prop)(H:Hp):Keep S H H:=⟨fun _ _ h=>h,fun _ _ _ h=>h,fun _ _ _ h=>h⟩
theorem Keep.trans{H1:Hp}(a:Keep S H H1)(b:Keep S H1 H'):Keep S H H':=⟨fun c xs h=>b.1 c xs (a.1 c xs h),fun c o xs h=>b.2.1 c o xs (a.2.1 c o xs h),fun c xs s h=>b.2.2 c xs s (a.2.2 c xs s h)⟩
theorem Keep.less(e:Keep S H H')(h:∀ b,S' b->S b):Keep S' H H':=⟨e.1,e.2.1,fun b xs s q=>e.2.2 b xs (h b s) q⟩
theorem Same.keep(e:Same H H'):Keep S H H':=⟨fun b xs h=>e b _ h,fun b o xs h=>e b _ h,fun b xs _ h=>e b _ h⟩
theorem c0m{p:Addr}{xs ys:List V}(h:H p=some (.lst xs)):Keep (But p) H (upd H p (.lst ys)):=
 ⟨fun b zs q=>by rw [a0d (b3j q h (by intro z;cases z))];exact q,fun b o zs q=>by rw [a0d (b3j q h (by intro z;cases z))];exact q,fun b zs hb q=>by rw [a0d hb];exact q⟩
theorem Keep.seqT{a:Addr}{xs:List V}(e:Keep S H H')(h:SqT K H a xs):SqT K H' a xs:=by
 rcases h with(h | ⟨o,h⟩) | h
 ·exact .inl (.inl (e.1 _ _ h))
 ·exact .inl (.inr ⟨o,e.2.1 _ _ _ h⟩)
 ·exact .inr h
theorem a0l{H:Hp}{p:Addr}(h:H p=none)(o:HO):Same H (upd H p o):=fun b u q=>by rw [a0d (a0q q h)];exact q
mutual
theorem AtD.mono(e:Keep S H H'):∀ (d:PyData) (v:V),AtD K H S d v->AtD K H' S d v
 | .none,_,h=>by unfold AtD at h ⊢;exact h
 | .bool _,_,h=>by unfold AtD at h ⊢;exact h
 | .int _,_,h=>by unfold AtD at h ⊢;exact h
 | .str _,_,h=>by unfold AtD at h ⊢;exact h
 | .list ds,v,h=>by
  unfold AtD at h ⊢
  obtain⟨a,xs,e1,s,q,r⟩:=h
  exact⟨a,xs,e1,s,e.2.2 _ _ s q,a0a.mono e ds xs r⟩
 | .tuple ds,v,h=>by
  unfold AtD at h ⊢
  obtain⟨a,xs,e1,q,r⟩:=h
  exact⟨a,xs,e1,e.seqT q,a0a.mono e ds xs r⟩
 | .dict kvs,v,h=>by
  unfold AtD at h ⊢
  obtain⟨a,ν,e1,s,q,e2⟩:=h
  exact⟨a,ν,e1,s,e.2.2 a _ s q,a0j.mono e kvs ν e2⟩
theorem a0a.mono(e:Keep S H H'):∀ (ds:List PyData) (vs:List V),a0a K H S ds vs->a0a K H' S ds vs
 | [],_,h=>by unfold a0a at h ⊢;exact h
 | d :: ds,vs,h=>by
  unfold a0a at h ⊢
  obtain⟨v,r,e1,h1,h2⟩:=h
  exact⟨v,r,e1,AtD.mono e d v h1,a0a.mono e ds r h2⟩
theorem a0j.mono(e:Keep S H H'):∀ (kvs:List (PyData × PyData)) (κ:List (Key × V)),a0j K H S kvs κ->a0j K H' S kvs κ
 | [],_,h=>by unfold a0j at h ⊢;exact h
 | (x,d) :: r,κ,h=>by
  unfold a0j at h ⊢
  obtain⟨k,v,t,e1,e2,h1,h2⟩:=h
  exact⟨k,v,t,e1,e2,AtD.mono e d v h1,a0j.mono e r t h2⟩
end
mutual
theorem AtD.more(e:∀ b,S b->S' b):∀ (d:PyData) (v:V),AtD K H S d v->AtD K H S' d v
 | .none,_,h=>by unfold AtD at h ⊢;exact h
 | .bool _,_,h=>by unfold AtD at h ⊢;exact h
 | .int _,_,h=>by unfold AtD at h ⊢;exact h
 | .str _,_,h=>by unfold AtD at h ⊢;exact h
 | .list ds,v,h=>by
  unfold AtD at h ⊢
  obtain⟨a,xs,e1,s,q,r⟩:=h
  exact⟨a,xs,e1,e a s,q,a0a.more e ds xs r⟩
 | .tuple ds,v,h=>by
  unfold AtD at h ⊢
  obtain⟨a,xs,e1,q,r⟩:=h
  exact⟨a,xs,e1,q,a0a.more e ds xs r⟩
 | .dict kvs,v,h=>by
  unfold AtD at h ⊢
  obtain⟨a,ν,e1,s,q,e2⟩:=h
  exact⟨a,ν,e1,e a s,q,a0j.more e kvs ν e2⟩
theorem a0a.more(e:∀ b,S b->S' b):∀ (ds:List PyData) (vs:List V),a0a K H S ds vs->a0a K H S' ds vs
 | [],_,h=>by unfold a0a at h ⊢;exact h
 | d :: ds,vs,h=>by
  unfold a0a at h ⊢
  obtain⟨v,r,e1,h1,h2⟩:=h
  exact⟨v,r,e1,AtD.more e d v h1,a0a.more e ds r h2⟩
theorem a0j.more(e:∀ b,S b->S' b):∀ (kvs:List (PyData × PyData)) (κ:List (Key × V)),a0j K H S kvs κ->a0j K H S' kvs κ
 | [],_,h=>by unfold a0j at h ⊢;exact h
 | (x,d) :: r,κ,h=>by
  unfold a0j at h ⊢
  obtain⟨k,v,t,e1,e2,h1,h2⟩:=h
  exact⟨k,v,t,e1,e2,AtD.more e d v h1,a0j.more e r t h2⟩
end
mutual
noncomputable def a6b:PyData->Bool
 | .none=>true | .bool _=>true | .int _=>true | .str _=>true
 | .list _=>false
 | .tuple ds=>a9h ds
 | .dict _=>false
noncomputable def a9h:List PyData->Bool
 | []=>true
 | d :: ds=>a6b d && a9h ds
end
mutual
theorem AtD.tups:∀ (d:PyData) (v:V),a6b d=true->AtD K H S d v->AtD K H S' d v
 | .none,_,_,h=>by unfold AtD at h ⊢;exact h
 | .bool _,_,_,h=>by unfold AtD at h ⊢;exact h
 | .int _,_,_,h=>by unfold AtD at h ⊢;exact h
 | .str _,_,_,h=>by unfold AtD at h ⊢;exact h
 | .list ds,v,t,h=>by unfold a6b at t;cases t
 | .tuple ds,v,t,h=>by
  unfold a6b at t
  unfold AtD at h ⊢
  obtain⟨a,xs,e1,q,r⟩:=h
  exact⟨a,xs,e1,q,a0a.tups ds xs t r⟩
 | .dict _,_,t,_=>by unfold a6b at t;cases t
theorem a0a.tups:∀ (ds:List PyData) (vs:List V),a9h ds=true->a0a K H S ds vs->a0a K H S' ds vs
 | [],_,_,h=>by unfold a0a at h ⊢;exact h
 | d :: ds,vs,t,h=>by
  unfold a9h at t
  rw [and_eq_true] at t
  unfold a0a at h ⊢
  obtain⟨v,r,e1,h1,h2⟩:=h
  exact⟨v,r,e1,AtD.tups d v t.1 h1,a0a.tups ds r t.2 h2⟩
end
theorem a0a.nil:a0a K H S [] []:=by unfold a0a;rfl
theorem a0a.cons{d:PyData}{ds:List PyData}{v:V}{vs:List V}(h:AtD K H S d v)(t:a0a K H S ds vs):a0a K H S (d :: ds) (v :: vs):=by
 unfold a0a;exact⟨v,vs,rfl,h,t⟩
theorem a0a.uncons{d:PyData}{ds:List PyData}{vs:List V}(h:a0a K H S (d :: ds) vs):∃ v r,vs=v :: r/\AtD K H S d v/\a0a K H S ds r:=by
 unfold a0a at h;exact h
theorem a0a.unnil{vs:List V}(h:a0a K H S [] vs):vs=[]:=by unfold a0a at h;exact h
theorem a0a.length:∀ {ds:List PyData} {vs:List V},a0a K H S ds vs->vs.length=ds.length
 | [],_,h=>by rw [h.unnil];rfl
 | d :: ds,vs,h=>by
  obtain⟨v,r,e,_,t⟩:=h.uncons
  rw [e,length_cons,length_cons,a0a.length t]
theorem a0a.get:∀ {ds:List PyData} {vs:List V} {i:Nat} {d:PyData},a0a K H S ds vs->ds[i]? = some d->∃ v,vs[i]? = some v/\AtD K H S d v
 | [],_,i,d,_,e=>by simp at e
 | d' :: ds,vs,0,d,h,e=>by
  obtain⟨v,r,rfl,hd,t⟩:=h.uncons
  simp at e;subst e
  exact⟨v,by simp,hd⟩
 | d' :: ds,vs,i + 1,d,h,e=>by
  obtain⟨v,r,rfl,hd,t⟩:=h.uncons
  obtain⟨w,e1,e2⟩:=a0a.get (i:=i) t (by simpa using e)
  exact⟨w,by simpa using e1,e2⟩
theorem a0a.append:∀ {ds es:List PyData} {vs ws:List V},a0a K H S ds vs->a0a K H S es ws->a0a K H S (ds ++ es) (vs ++ ws)
 | [],_,_,_,h,t=>by rw [h.unnil];exact t
 | d :: ds,es,vs,ws,h,t=>by
  obtain⟨v,r,rfl,hd,q⟩:=h.uncons
  exact .cons hd (a0a.append q t)
theorem a0a.snoc{ds:List PyData}{vs:List V}{d:PyData}{v:V}(h:a0a K H S ds vs)(hd:AtD K H S d v):a0a K H S (ds ++ [d]) (vs ++ [v]):=h.append (.cons hd .nil)
theorem a0a.drop:∀ {ds:List PyData} {vs:List V} (n:Nat),a0a K H S ds vs->a0a K H S (ds.drop n) (vs.drop n)
 | _,_,0,h=>by simpa using h
 | [],vs,n + 1,h=>by rw [h.unnil];exact .nil
 | d :: ds,vs,n + 1,h=>by
  obtain⟨v,r,rfl,hd,q⟩:=h.uncons
  exact a0a.drop n q
theorem a0a.take:∀ {ds:List PyData} {vs:List V} (n:Nat),a0a K H S ds vs->a0a K H S (ds.take n) (vs.take n)
 | _,_,0,h=>by simpa using a0a.nil
 | [],vs,n + 1,h=>by rw [h.unnil];exact .nil
 | d :: ds,vs,n + 1,h=>by
  obtain⟨v,r,rfl,hd,q⟩:=h.uncons
  exact .cons hd (a0a.take n q)
theorem a0a.reverse:∀ {ds:List PyData} {vs:List V},a0a K H S ds vs->a0a K H S ds.reverse vs.reverse
 | [],_,h=>by rw [h.unnil];exact .nil
 | d :: ds,vs,h=>by
  obtain⟨v,r,rfl,hd,q⟩:=h.uncons
  rw [reverse_cons,reverse_cons]
  exact(a0a.reverse q).snoc hd
theorem a7n:AtD K H S .none .non:=by unfold AtD;rfl
theorem a1j(b:Bool):AtD K H S (.bool b) (.bl b):=by unfold AtD;rfl
theorem a1v(i:Int):AtD K H S (.int i) (.int i):=by unfold AtD;rfl
theorem a3j(x:Str):AtD K H S (.str x) (.str x):=by unfold AtD;rfl
theorem a6w{v:V}(h:AtD K H S .none v):v=.non:=by unfold AtD at h;exact h
theorem a4l{b:Bool}{v:V}(h:AtD K H S (.bool b) v):v=.bl b:=by unfold AtD at h;exact h
theorem a6x{i:Int}{v:V}(h:AtD K H S (.int i) v):v=.int i:=by unfold AtD at h;exact h
theorem a6y{x:Str}{v:V}(h:AtD K H S (.str x) v):v=.str x:=by unfold AtD at h;exact h
theorem a5b{ds:List PyData}{v:V}(h:AtD K H S (.tuple ds) v):∃ a xs,v=.ref a/\SqT K H a xs/\a0a K H S ds xs:=by unfold AtD at h;exact h
theorem a2x{ds:List PyData}{v:V}(h:AtD K H S (.list ds) v):∃ a xs,v=.ref a/\S a/\H a=some (.lst xs)/\a0a K H S ds xs:=by unfold AtD at h;exact h
theorem a1z{ds:List PyData}{a:Addr}{xs:List V}(q:SqT K H a xs)(h:a0a K H S ds xs):AtD K H S (.tuple ds) (.ref a):=by unfold AtD;exact⟨a,xs,rfl,q,h⟩
theorem a2y{ds:List PyData}{a:Addr}{xs:List V}(s:S a)(q:H a=some (.lst xs))(h:a0a K H S ds xs):AtD K H S (.list ds) (.ref a):=by unfold AtD;exact⟨a,xs,rfl,s,q,h⟩
theorem a5u{kvs:List (PyData × PyData)}{v:V}(h:AtD K H S (.dict kvs) v):∃ (a:Addr) (κ:List (Key × V)),v=.ref a/\S a/\H a=some (.dK κ)/\a0j K H S kvs κ:=by unfold AtD at h;exact h
theorem b2n{kvs:List (PyData × PyData)}{κ:List (Key × V)}{a:Addr}(s:S a)(q:H a=some (.dK κ))(h:a0j K H S kvs κ):AtD K H S (.dict kvs) (.ref a):=by unfold AtD;exact⟨a,κ,rfl,s,q,h⟩
theorem a0j.nil:a0j K H S [] []:=by unfold a0j;rfl
theorem a0j.cons{k:Key}{v:V}{d:PyData}{r:List (PyData × PyData)}{t:List (Key × V)}(h:AtD K H S d v)(hr:a0j K H S r t):a0j K H S ((keyD k,d) :: r) ((k,v) :: t):=by
 unfold a0j;exact⟨k,v,t,rfl,rfl,h,hr⟩
theorem a0j.uncons{x d:PyData}{r:List (PyData × PyData)}{κ:List (Key × V)}(h:a0j K H S ((x,d) :: r) κ):∃ k v t,κ=(k,v) :: t/\x=keyD k/\AtD K H S d v/\a0j K H S r t:=by unfold a0j at h;exact h
theorem a0j.unnil{κ:List (Key × V)}(h:a0j K H S [] κ):κ=[]:=by unfold a0j at h;exact h
theorem a7o{ds:List PyData}{p:Addr}{xs:List V}(hp:H p=none)(h:a0a K H S ds xs):AtD K (upd H p (.tup xs)) S (.tuple ds) (.ref p):=
 a1z (SqT.of a0c) (a0a.mono (a0l hp _).keep _ _ h)
theorem c2z{ds:List PyData}{p:Addr}{xs:List V}(s:S p)(hp:H p=none)(h:a0a K H S ds xs):AtD K (upd H p (.lst xs)) S (.list ds) (.ref p):=
 a2y s a0c (a0a.mono (a0l hp _).keep _ _ h)
theorem a0a.ints(ns:List Int):a0a K H S (ns.map .int) (ns.map V.int):=by
 induction ns with
 | nil=>exact .nil
 | cons n r ih=>exact .cons (a1v n) ih
end
theorem c0n(h:Heap){k:Key}{u:Value}(q:b3i k u=true):Reads h u (keyD k) []:=by
 rcases a1d q with⟨i,t,e',h'⟩ | ⟨x,t,e',h'⟩
 ·rw [e',h'];exact .int i t
 ·rw [e',h'];exact .str x t
section
variable{X:Cx}{pins:List (Addr × Obj)}{σ:St}{H:Hp}{s:Shared}{S:Addr->Prop}
mutual
theorem AtD.reads(I:Inv X pins σ H s):∀ (d:PyData) (v:V) (u:Value),AtD X.K H S d v->RelV v u->∃ as,Reads s.heap u d as
 | .none,v,u,h,r=>by cases a6w h;cases r;exact⟨_,.none⟩
 | .bool b,v,u,h,r=>by cases a4l h;cases r;exact⟨_,.bool b⟩
 | .int i,v,u,h,r=>by cases a6x h;obtain⟨t,rfl⟩:=r;exact⟨_,.int i t⟩
 | .str x,v,u,h,r=>by cases a6y h;obtain⟨t,rfl⟩:=r;exact⟨_,.str x t⟩
 | .list ds,v,u,h,r=>by
  obtain⟨a,xs,rfl,_,q,t⟩:=a2x h
  cases r
  obtain⟨its,rv,⟨o,n,e,hc,_,hd⟩,_⟩:=I.list (SqL.of q)
  obtain⟨as,ra⟩:=a0a.reads I ds xs its t rv
  exact⟨_,.list e hc hd (by simpa using ra)⟩
 | .tuple ds,v,u,h,r=>by
  obtain⟨a,xs,rfl,q,t⟩:=a5b h
  cases r
  obtain⟨its,rv,⟨o,e,hc,n,hd⟩,_⟩:=I.tuple q
  obtain⟨as,ra⟩:=a0a.reads I ds xs its t rv
  exact⟨_,.tuple e hc hd (by simpa using ra)⟩
 | .dict kvs,v,u,h,r=>by
  obtain⟨a,ν,rfl,_,q,t⟩:=a5u h
  cases r
  obtain⟨_,_,vs,kv,o,es,ep,e,hc,hd,_,hp,_⟩:=(show a1c X.prog X.w H s.heap a (.dK ν) from I.hok a _ q)
  obtain⟨as,bs,r1,r2⟩:=a0j.reads I kvs ν vs es.toList t kv hp
  exact⟨_,.dict e hc.1 hd r1 r2⟩
theorem a0a.reads(I:Inv X pins σ H s):∀ (ds:List PyData) (vs:List V) (us:List Value),a0a X.K H S ds vs->Vals vs us->∃ as,ReadsAll s.heap us ds as
 | [],vs,us,h,r=>by
  cases h.unnil
  cases r
  exact⟨_,.nil⟩
 | d :: ds,vs,us,h,r=>by
  obtain⟨v,vr,rfl,hd,t⟩:=h.uncons
  cases r with
  | cons r1 r2 =>
   obtain⟨as,q1⟩:=AtD.reads I d v _ hd r1
   obtain⟨bs,q2⟩:=a0a.reads I ds vr _ t r2
   exact⟨_,.cons q1 q2⟩
theorem a0j.reads(I:Inv X pins σ H s):∀ (kvs:List (PyData × PyData)) (κ:List (Key × V)) (vs:List (Key × Value)) (es:List DictEntry),a0j X.K H S kvs κ->KV κ vs->Pairs (a8y X.prog X.w) es vs->∃ as bs,ReadsAll s.heap (es.map (·.key)) (kvs.map (·.1)) as/\ReadsAll s.heap (es.map (·.val)) (kvs.map (·.2)) bs
 | [],κ,vs,es,h,r,q=>by
  cases h.unnil
  cases r
  cases q
  exact⟨_,_,.nil,.nil⟩
 | (x,d) :: kr,κ,vs,es,h,r,q=>by
  obtain⟨k,v,t,rfl,rfl,h1,h2⟩:=h.uncons
  cases r with
  | cons r1 r2 =>
   cases q with
   | cons q1 q2 q3 =>
    rename_i kv _ e _
    obtain⟨kk,kv2⟩:=kv
    obtain⟨e1,e2⟩:=r1
    cases e1
    obtain⟨a1,w1⟩:=AtD.reads I d v kv2 h1 e2
    obtain⟨as,bs,c1,c2⟩:=a0j.reads I kr t _ _ h2 r2 q3
    have hk:Reads s.heap e.key (keyD k) []:=c0n _ (show b3i k e.key=true from q1)
    have g1:=ReadsAll.cons hk c1
    have g2:=ReadsAll.cons w1 c2
    rw [show kv2=e.val from q2.symm] at g2
    exact⟨_,_,g1,g2⟩
end
end
section
variable{X:Cx}
theorem b6k{K:W.Frag}{H:Hp}{S:Addr->Prop}{ds:List PyData}{xs:List V}{i:Int}{d:PyData}(h:a0a K H S ds xs)(e:atI ds i=some d):∃ v,atI xs i=some v/\AtD K H S d v:=by
 unfold atI at e ⊢
 rw [h.length]
 cases q:ixN ds.length i with
 | none=>rw [q] at e;cases e
 | some j =>
  rw [q] at e
  obtain⟨v,e1,e2⟩:=h.get (show ds[j]? = some d from e)
  exact⟨v,e1,e2⟩
def rEqD(K:W.Frag)(neg:Bool):R2:=fun x y H Q=>∃ S S' d e,AtD K H S d x/\AtD K H S' e y/\SeqAt.shaped d=true/\SeqAt.shaped e=true/\Q (.bl (if neg then !PyData.eqv d e else PyData.eqv d e)) H
theorem d0t(hu:X.A.units + 64 < cLine):OpR X (compareOp .Eq) (rEqD X.K false):=by
 intro pins s σ H x y v u Q I rx ry h
 obtain⟨S,S',d,e,hd,he,sd,se,q⟩:=h
 obtain⟨as,ra⟩:=AtD.reads I d x v hd rx
 obtain⟨bs,rb⟩:=AtD.reads I e y u he ry
 exact SeqAt.compareEq_shaped ra rb sd se hu ⟨.bl _,H,I,rfl,q⟩
theorem d0u(hu:X.A.units + 64 < cLine):OpR X (compareOp .NotEq) (rEqD X.K true):=by
 intro pins s σ H x y v u Q I rx ry h
 obtain⟨S,S',d,e,hd,he,sd,se,q⟩:=h
 obtain⟨as,ra⟩:=AtD.reads I d x v hd rx
 obtain⟨bs,rb⟩:=AtD.reads I e y u he ry
 exact SeqAt.compareNe_shaped ra rb sd se hu ⟨.bl _,H,I,rfl,q⟩
noncomputable def tyD:PyData->String
 | .none => "NoneType" | .bool _ => "bool" | .int _ => "int" | .str _ => "str" | .list _ => "list" | .tuple _ => "tuple" | .dict _ => "dict"
noncomputable def isD(T:String)(d:PyData):Bool:=tyD d == T || (T == "int" && tyD d == "bool")
theorem b8b{x:Str}{T:String}{pos:Pos}(hg:Gl X x)(hm:X.mg x=none)(hv:bootBuiltins x=some (.type T)) (hn:x ≠ "__name__":=by decide) (hd:(x == ("__debug__" : Str))=false:=by decide):PE X (.Name x pos) (tC (.ty T)):=
 c6n hg hm hv rfl hn hd
theorem c3a{pins:List (Addr × Obj)}{s:Shared}{σ:St}{H:Hp}{S:Addr->Prop}{d:PyData}{v:V}{u:Value}{T:String}{Q:VK}(I:Inv X pins σ H s)(h:AtD X.K H S d v)(r:RelV v u)
  (ht:PySem.W.kitOne X.K (.type (tyD d)) (.type T)=some (isD T d)) (q:Q (.bl (isD T d)) H) :
  wpAny (model X.prog X.w) X.A (call (.builtin "isinstance") [u,.type T]) (EP X pins σ Q) X.xe s:=by
 have fin:∀ tk,EP X pins σ Q (.bool (isD T d)) { s with toks:=tk }:=fun tk=>⟨.bl _,H,I.tok tk,rfl,q⟩
 cases d with
 | none=>cases a6w h;cases r;exact PySem.W.kia_one PySem.W.kitx_none I.kIn True.intro ht (fun z=>nomatch z) fin
 | bool b=>cases a4l h;cases r;exact PySem.W.kia_one PySem.W.kitx_bool I.kIn True.intro ht (fun z=>nomatch z) fin
 | int i=>cases a6x h;obtain⟨t,rfl⟩:=r;exact PySem.W.kia_one PySem.W.kitx_int I.kIn True.intro ht (fun z=>nomatch z) fin
 | str x=>cases a6y h;obtain⟨t,rfl⟩:=r;exact PySem.W.kia_one PySem.W.kitx_str I.kIn True.intro ht (fun z=>nomatch z) fin
 | list ds =>
  obtain⟨a,xs,rfl,_,hq,_⟩:=a2x h
  cases r
  obtain⟨its,_,⟨o,n,e,hc,_,hd⟩,_⟩:=I.list (SqL.of hq)
  exact PySem.W.kia_one PySem.W.kitx_list I.kIn ⟨o,e,hc⟩ ht (fun z=>nomatch z) fin
 | tuple ds =>
  obtain⟨a,xs,rfl,hq,_⟩:=a5b h
  cases r
  obtain⟨its,_,⟨o,e,hc,n,hd⟩,_⟩:=I.tuple hq
  exact PySem.W.kia_one PySem.W.kitx_tuple I.kIn ⟨o,e,hc⟩ ht (fun z=>nomatch z) fin
 | dict kvs =>
  obtain⟨a,ν,rfl,_,hq,_⟩:=a5u h
  cases r
  obtain⟨_,_,vs,kv,o,es,ep,e,hc,hd,_,hp,_⟩:=(show a1c X.prog X.w H s.heap a (.dK ν) from I.hok a _ hq)
  exact PySem.W.kia_one PySem.W.kitx_dict I.kIn ⟨o,e,hc.1⟩ ht (fun z=>nomatch z) fin
noncomputable def a0w(T:String):Bool:=T == "int" || T == "str" || T == "bool" || T == "list" || T == "tuple" || T == "dict"
theorem b4f(K:W.Frag)(d:PyData)(T:String)(hT:a0w T=true):PySem.W.kitOne K (.type (tyD d)) (.type T)=some (isD T d):=by
 simp only [a0w,Bool.or_eq_true,beq_iff_eq] at hT
 rcases hT with((((rfl | rfl) | rfl) | rfl) | rfl) | rfl<;>cases d<;>rfl
theorem c3b:a1k X (.builtin "isinstance") (fun xs H Q=>∃ v S d T,xs=[v,.ty T]/\AtD X.K H S d v/\a0w T=true/\Q (.bl (isD T d)) H):=by
 intro pins s σ H xs us Q I rs h
 obtain⟨v,S,d,T,rfl,hd,hT,q⟩:=h
 obtain⟨u,u2,rfl,r1,r2⟩:=rs.two
 cases r2
 exact c3a I hd r1 (b4f X.K d T hT) q
end
section
variable{X:Cx}{tg:Expr}
def iDat(K:W.Frag)(tl:TE):TI:=fun σ H R=>tl σ H fun x H1=>(∃ a,x=.ref a/\(∃ xs,SqT K H1 a xs)/\R (Itt K a) H1) ∨ (∃ a,x=.ref a/\(∃ xs,SqL K H1 a xs)/\R (Itl K a) H1)
theorem d0v{l:Expr}{tl:TE}(hl:PE X l tl):PI X tg l (iDat X.K tl):=by
 intro pins s σ H R I h
 refine thn (hl pins s σ H (fun x H1=>(∃ a,x=.ref a/\(∃ xs,SqT X.K H1 a xs)/\R (Itt X.K a) H1) ∨ (∃ a,x=.ref a/\(∃ xs,SqL X.K H1 a xs)/\R (Itl X.K a) H1)) I h) fun v s1 hq9=>?_
 obtain⟨x,H1,I1,r1,q1⟩:=hq9
 rcases q1 with⟨a,rfl,⟨xs,hq⟩,q⟩ | ⟨a,rfl,⟨xs,hq⟩,q⟩
 ·cases r1
  obtain⟨its,rv,p,hz⟩:=I1.tuple hq
  refine wpAny_pyIter_tuple (show s1.heap.IsTuple a its.toArray from p) ?_
  refine⟨s1.heap.objs.size,[s1.heap.objs.size],_,_,H1,rfl,I1.kept (t':=s1.toks) fun b o e=>get?_push_of_some _ e,b7k a _,⟨_,get?_push_size _ rfl,rfl,rfl⟩,fun b hb=>?_,q⟩
  have e:b=s1.heap.objs.size:=by simpa using hb
  subst e
  exact I1.fpOk (le_refl _) (I1.hok.fresh (le_refl _))
 ·cases r1
  obtain⟨its,rv,p,hz⟩:=I1.list hq
  refine wpAny_pyIter_list p.isList ?_
  refine⟨s1.heap.objs.size,[s1.heap.objs.size],_,_,H1,rfl,I1.kept (t':=s1.toks) fun b o e=>get?_push_of_some _ e,b2e a _,⟨_,get?_push_size _ rfl,rfl,rfl⟩,fun b hb=>?_,q⟩
  have e:b=s1.heap.objs.size:=by simpa using hb
  subst e
  exact I1.fpOk (le_refl _) (I1.hok.fresh (le_refl _))
end
def b8c(J:It)(σ:St)(H:Hp)(go:V->St->Hp->(St->Hp->Prop)->Prop)(done:St->Hp->Prop):Prop:=
 ∃ W:Nat->Nat->St->Hp->Prop,(∃ m,W 0 m σ H)/\∀ i m σ H,W i m σ H ->
  (J.stop i H/\done σ H) ∨ (J.go i H/\∃ N:St->Hp->Prop,(∀ σ' H',N σ' H'->∃ m',m' < m/\W (i + 1) m' σ' H')/\∀ x H',J.yld i H x H'->go x σ H' N)
theorem b2o{K:W.Frag}{a:Addr}{xs:List V}{σ:St}{H:Hp}{go:V->St->Hp->(St->Hp->Prop)->Prop}{done:St->Hp->Prop}(Pv:Nat->St->Hp->Prop)(h0:Pv 0 σ H)(hl:∀ i σ H,i <= xs.length->Pv i σ H->SqL K H a xs)
  (hs:∀ i x σ H,xs[i]? = some x->Pv i σ H->go x σ H (Pv (i + 1))) (hd:∀ σ H,Pv xs.length σ H->done σ H):b8c (Itl K a) σ H go done:=by
 refine⟨fun i m σ H=>m=xs.length - i/\i <= xs.length/\Pv i σ H,⟨xs.length,by simp,zero_le _,h0⟩,?_⟩
 rintro i m σ H ⟨rfl,hi,p⟩
 have q:=hl i σ H hi p
 by_cases hlt:i < xs.length
 ·refine .inr ⟨⟨xs,xs[i],q,by simp [hlt]⟩,Pv (i + 1),fun σ' H' p'=>⟨xs.length - (i + 1),by omega,rfl,hlt,p'⟩,fun x H' y=>?_⟩
  obtain⟨e,y⟩:=y
  subst e
  exact hs i x σ _ (y xs q) p
 ·have e:i=xs.length:=by omega
  subst e
  exact .inl ⟨⟨xs,q,le_refl _⟩,hd σ H p⟩
theorem a8k{own:List Str}{cap:List (Str × Nat)}{g:TG}{tt:TT}{te:TE}{J:It}{D:Addr}{σ:St}{H1:Hp}{Z:Hp->Prop}
  (h:b8c J (a4s own cap σ) (upd H1 D (.lst [])) (fun x σ' H'' N=>g x σ' H'' fun σ2 H2=>tt σ2 H2 fun b H3=>if b=true then te σ2 H3 fun y H4=>∃ ys,H4 D=some (.lst ys)/\ys.length < sizeLine/\N σ2 (upd H4 D (.lst (ys ++ [y]))) else N σ2 H3) (fun _ H'=>Z H')) :
  a9z own cap g tt te J D σ H1 Z:=h
end L2
end
section
namespace L2
open PySem PySem.Spec PyProof.Rows
structure Def(K:W.Frag)(mg:Str->Option Value)(x:Str)(st:Stmt)(ps:List Str)(f:Addr)(fd:FuncData):Prop where
 fn:Fun K x x st f fd
 bd:Binds K fd ps []
 gl:mg x=some (.ref f)
section
variable{X:Cx}{k:Nat}{f:Addr}{fd:FuncData}{ps:List Str}{sp:Sp}{x:Str}{st:Stmt}{p pos:Pos}{e:Expr}{es:List Expr}{t:TA}
theorem a2h(d:Def X.K X.mg x st ps f fd)(g:FnOk X.prog X.w X.K X.mg X.base CX0 k f fd ps sp)(hr:Room k X.A)(hg:Gl X x)(ha:PA X (e :: es) t) (hdb:(x == ("__debug__" : Str))=false:=by decide)
  (he:starEach (e :: es) X.env=(false,eval e X.env) :: starEach es X.env:=by rfl) (hpl:(backTo pos (starEach es X.env)).any (·.1)=false:=by rfl):PE X (.Call (.Name x p) (e :: es) [] pos) (a9c sp [] E0 t):=
 c6t g hr hg d.gl d.fn.kp d.bd .nil b0r ha hdb he hpl
end
section
variable{X:Cx}{tg:Expr}
end
section
variable{X:Cx}
end
end L2
namespace L2
open PySem PySem.Spec PyProof.Rows
def Frs(S:Addr->Prop)(H:Hp):Prop:=∀ p,H p=none->S p
section
variable{K:W.Frag}{S:Addr->Prop}{σ:St}{H:Hp}{d:PyData}{ds:List PyData}{t te:TE}{ta:TA}
theorem c0o{α:Type}{xs:List α}{i:Int}(h0:0 <= i)(h1:i < xs.length):∃ x,atI xs i=some x/\x ∈ xs/\xs[i.toNat]? = some x:=by
 have hk:i.toNat < xs.length:=by omega
 have ei:i=((i.toNat:Nat):Int):=by omega
 have q:atI xs ((i.toNat:Nat):Int)=some xs[i.toNat]:=a3i (getElem?_eq_getElem hk)
 rw [← ei] at q
 exact⟨_,q,getElem_mem hk,getElem?_eq_getElem hk⟩
end
end L2
end
section
namespace L2
open PySem PySem.Spec PyProof.Rows
section
variable{prog:Program}{w:World}{A:Around}{E:Value->Shared->Prop}{s:Shared}
end
section
variable{X:Cx}{tg:Expr}
end
end L2
end
section
namespace L2
open PySem PySem.Spec PyProof.Rows
inductive Ents (w:World):List DictEntry->List (Str × V)->Prop where
 | nil:Ents w [] []
 | cons {x:Str} {t:Tok} {u:Value} {v:V} {es:List DictEntry} {kvs:List (Str × V)}:RelV v u->Ents w es kvs->Ents w (⟨PyData.keyHash w.params x,.str x t,u⟩ :: es) ((x,v) :: kvs)
def KDict(K:W.Frag)(w:World)(a:Addr)(kvs:List (Str × V)):Prop:=(kvs.map (·.1)).Nodup/\∃ (es:Array DictEntry) (ep:Nat),K.lookup a=some ⟨.type "dict",none,.dict es ep,#[]⟩/\Ents w es.toList kvs
theorem Ents.pairs{prog:Program}{w:World}{es:List DictEntry}{kvs:List (Str × V)}(h:Ents w es kvs):∃ vs:List (Str × Value),Pairs (strKind prog w) es vs/\KV kvs vs/\(∀ e ∈ es,∃ x t,e.key=.str x t/\e.hash=hashStr w x):=by
 induction h with
 | nil=>exact⟨[],.nil,.nil,fun e he=>by cases he⟩
 | @cons x t u v es kvs r _ ih =>
  obtain⟨vs,p,q,k⟩:=ih
  refine⟨(x,u) :: vs,.cons (strKind_is prog w x t) rfl p,.cons ⟨rfl,r⟩ q,fun e he=>?_⟩
  rcases mem_cons.mp he with rfl | he
  ·exact⟨x,t,rfl,rfl⟩
  ·exact k e he
theorem KV.look{kvs:List (Str × V)}{vs:List (Str × Value)}(h:KV kvs vs):(kvs.map (·.1))=(vs.map (·.1))/\∀ x v,kvs.lookup x=some v->∃ u,valueAt vs x=some u/\RelV v u:=by
 induction h with
 | nil=>exact⟨rfl,fun x v e=>by cases e⟩
 | @cons p q kvs vs r _ ih =>
  obtain⟨x,v⟩:=p
  obtain⟨y,u⟩:=q
  obtain⟨e,rv⟩:=r
  have e':x=y:=e
  subst e'
  refine⟨by rw [map_cons,map_cons,ih.1],fun z w' hz=>?_⟩
  rw [lookup_cons] at hz
  by_cases hzx:z=x
  ·subst hzx
   simp at hz
   subst hz
   exact⟨u,by simp [valueAt],rv⟩
  ·have:(z == x)=false:=beq_eq_false_iff_ne.mpr hzx
   rw [this] at hz
   obtain⟨u',h1,h2⟩:=ih.2 z w' hz
   refine⟨u',?_,h2⟩
   unfold valueAt at h1 ⊢
   rw [List.find?_cons_of_neg (by simpa using fun q=>hzx q.symm)]
   exact h1
section
variable{X:Cx}
def rIxK(K:W.Frag)(w:World):R2:=fun x y H Q=>∃ a kvs z v,x=.ref a/\KDict K w a kvs/\y=.str z/\kvs.lookup z=some v/\Q v H
theorem c3c:IxR X (rIxK X.K X.w):=by
 intro value slice pins s σ H x y v u Q I rx ry h hs
 obtain⟨a,kvs,z,v',rfl,⟨hnd,es,ep,hk,he⟩,rfl,hl,q⟩:=h
 cases rx
 obtain⟨t,rfl⟩:=ry
 have ho:=I.kIn a _ hk
 obtain⟨vs,hp,hkv,hkeys⟩:=he.pairs (prog:=X.prog)
 obtain⟨e1,hlook⟩:=KV.look hkv
 obtain⟨u',hu,ru⟩:=hlook z v' hl
 have hd:s.heap.DictOf (strKind X.prog X.w) a vs:=by
  refine⟨_,es,ep,ho,⟨rfl,rfl,rfl⟩,rfl,?_,hp,by rw [← e1];exact hnd⟩
  intro e hm
  obtain⟨x',t',e2,e3⟩:=hkeys e (by simpa using hm)
  exact⟨x',by rw [e2];exact strKind_is X.prog X.w x' t',e3⟩
 have fin:∀ s',Inv X pins σ H s'->EP X pins σ Q u' s':=fun s' I'=>⟨v',H,I',ru,q⟩
 exact subscriptTail_builtinR (x:=u') (T:="dict") ⟨_,ho,rfl⟩ PySem.F.slot_dict_getitem.lookup
  (wpAny_getItem_of (Q:=fun r s'=>r=u'/\EP X pins σ Q r s') (strKind_is X.prog X.w z t) hd.mapOf hu ⟨rfl,fin _ (I.tok _)⟩) hs
end
end L2
end
section
namespace L2
open PySem PySem.Spec PyProof.Rows
inductive L where
 /-- data that nobody changes any more -/
 | d (x:PyData)
 /-- a list that this name alone has -/
 | own (xs:List PyData)
 /-- a list of a caller's, lent to be changed -/
 | bor (xs:List PyData)
 /-- the tape: the script and how many draws were made -/
 | tape (k:Nat)
 /-- the script -/
 | scr
abbrev Rho:=List (Option L)
abbrev Own:=Nat->Option Addr
structure Rc where
 H0:Hp
 S:Addr->Prop
 P:Addr->Prop
 M:Addr->Prop
 A:Addr->Prop
 B:Addr->Prop
 lent:Own
 sa:Addr
 ns:List Int
noncomputable def isIO:L->Bool
 | .bor _=>true
 | .tape _=>true
 | _=>false
noncomputable def live(c:Rc)(O:Own):Addr->Prop:=fun a=>c.S a/\¬ c.P a/\∀ i,O i ≠ some a
def a7p(c:Rc)(p:Addr):Prop:=¬ c.B p/\c.S p/\¬ c.P p
noncomputable def LAMS:List Str:=["read_row","Reading.read_thing","Reading.read_taken","Reading.read_hands","WorldReading.__init__","WorldReading.read_row","WorldReading.read_point","WorldReading.read_parts","read_rising_name","MachineReading.read_row","MachineReading.read_box","MachineReading.read_seer","MachineReading.read_reckoning","read_number","Ranking.best_option"]
abbrev a7q(q:Str):HO:=.frz { cls:=.none,data:=.fields #[] } (.tbl #[.str q 0])
noncomputable def lamOf(K:W.Frag)(p:Addr × Obj):Option (Addr × Addr × Str):=match p.2.data with
 | .func fd=>if LAMS.any (· == fd.qualname) then(match fd.code with
   | .ref c=>(match K.lookup c with
    | some ⟨.type "code",_,.fields vs,_⟩=>(match (vs[11]?:Option Value) with
     | some (.ref P)=>some (c,P,fd.qualname ++ ".<locals>.<lambda>")
     | _=>none)
    | _=>none)
   | _=>none) else none
 | _=>none
noncomputable def a6z(K:W.Frag):List (Addr × Addr × Str):=K.filterMap (lamOf K)
def TB(K:W.Frag)(H:Hp):Prop:=∀ p ∈ a6z K,H p.2.1=some (a7q p.2.2)
def Scr(K:W.Frag)(H:Hp)(a:Addr)(xs:List V):Prop:=TB K H/\xs.length <= 63 /\
 ((∃ o,H a=some (.frz o (.lst xs))) ∨ ∃ (o:Obj) (its:Array Value) (n:Nat),K.lookup a=some o/\o.cls=.type "list" /\ o.dict=none/\o.data=.seq its n/\its.size <= sizeLine/\Vals xs its.toList)
theorem Scr.seq{K:W.Frag}{H:Hp}{a:Addr}{xs:List V}(h:Scr K H a xs):SqL K H a xs:=by
 rcases h.2.2 with⟨o,h⟩ | h
 ·exact .inl (.inr ⟨o,h⟩)
 ·exact .inr h
structure Rel(K:W.Frag)(c:Rc)(O:Own)(ρ:Rho)(σ:St)(H:Hp):Prop where
 dat:∀ (i:Nat) (x:PyData),ρ[i]? = some (some (L.d x))->∃ v,σ[i]? = some (some v)/\AtD K H (live c O) x v
 own:∀ (i:Nat) (xs:List PyData),ρ[i]? = some (some (.own xs))->∃ p vs,O i=some p/\a7p c p/\σ[i]? = some (some (.ref p))/\H p=some (.lst vs)/\a0a K H (live c O) xs vs
 bor:∀ (i:Nat) (xs:List PyData),ρ[i]? = some (some (.bor xs))->∃ p vs,O i=some p/\σ[i]? = some (some (.ref p))/\H p=some (.lst vs)/\a0a K H (live c O) xs vs
 tap:∀ (i k:Nat),ρ[i]? = some (some (.tape k))->∃ p,O i=some p/\σ[i]? = some (some (.ref p))/\H p=some (.lst [.ref c.sa,.int k])
 scr:∀ i:Nat,ρ[i]? = some (some .scr)->σ[i]? = some (some (.ref c.sa))
 inj:∀ i j p,O i=some p->O j=some p->i=j
 has':∀ i p,O i=some p->c.A p/\∃ vs,H p=some (.lst vs)
 am:∀ p,c.A p->c.M p ∨ c.H0 p=none
 frs:∀ p,c.H0 p=none->c.S p
 same:∀ b o,¬ c.M b->c.H0 b=some o->H b=some o
 kept:∀ b,c.H0 b ≠ none->H b ≠ none
 ml:∀ p,c.M p->∃ vs,H p=some (.lst vs)
 pin:∀ p,c.P p ∨ c.B p->H p ≠ none
 lnt:∀ (i:Nat) (p:Addr),c.lent i=some p->∀ l:L,ρ[i]? = some (some l)->isIO l=true->O i=some p
 sc:Scr K H c.sa (c.ns.map V.int)
 len:σ.length=ρ.length
theorem Rel.has{K:W.Frag}{c:Rc}{O:Own}{ρ:Rho}{σ:St}{H:Hp}(R:Rel K c O ρ σ H)(i:Nat)(p:Addr)(h:O i=some p):(c.M p ∨ c.H0 p=none)/\∃ vs,H p=some (.lst vs):=⟨R.am p (R.has' i p h).1,(R.has' i p h).2⟩
def Pers(K:W.Frag)(S:Addr->Prop)(H:Hp)(S':Addr->Prop)(H':Hp):Prop:=∀ d v,AtD K H S d v->AtD K H' S' d v
section
variable{K:W.Frag}{S S' S2:Addr->Prop}{H H' H2:Hp}
theorem Pers.refl:Pers K S H S H:=fun _ _ h=>h
theorem Pers.trans(a:Pers K S H S' H')(b:Pers K S' H' S2 H2):Pers K S H S2 H2:=fun d v h=>b d v (a d v h)
theorem Pers.all(a:Pers K S H S' H'):∀ {ds:List PyData} {vs:List V},a0a K H S ds vs->a0a K H' S' ds vs
 | [],_,h=>by rw [h.unnil];exact .nil
 | d :: ds,vs,h=>by
  obtain⟨v,r,rfl,h1,h2⟩:=h.uncons
  exact .cons (a d v h1) (Pers.all a h2)
theorem Pers.of(e:Keep S H H')(m:∀ a,S a->S' a):Pers K S H S' H':=fun d v h=>AtD.more m d v (AtD.mono e d v h)
theorem Pers.same(e:Same H H'):Pers K S H S H':=.of e.keep fun _ h=>h
mutual
theorem AtD.less{p:Addr}(hp:H p=none)(hs:∀ a,S a->a ≠ p->S' a):∀ (d:PyData) (v:V),AtD K H S d v->AtD K H S' d v
 | .none,_,h=>by unfold AtD at h ⊢;exact h
 | .bool _,_,h=>by unfold AtD at h ⊢;exact h
 | .int _,_,h=>by unfold AtD at h ⊢;exact h
 | .str _,_,h=>by unfold AtD at h ⊢;exact h
 | .list ds,v,h=>by
  obtain⟨a,xs,e1,s,q,r⟩:=a2x h
  subst e1
  exact a2y (hs a s (a0q q hp)) q (a0a.less hp hs ds xs r)
 | .tuple ds,v,h=>by
  obtain⟨a,xs,e1,q,r⟩:=a5b h
  subst e1
  exact a1z q (a0a.less hp hs ds xs r)
 | .dict kvs,v,h=>by
  obtain⟨a,ν,e1,s,q,e2⟩:=a5u h
  subst e1
  exact b2n (hs a s (a0q q hp)) q (a0j.less hp hs kvs ν e2)
theorem a0a.less{p:Addr}(hp:H p=none)(hs:∀ a,S a->a ≠ p->S' a):∀ (ds:List PyData) (vs:List V),a0a K H S ds vs->a0a K H S' ds vs
 | [],_,h=>by rw [h.unnil];exact .nil
 | d :: ds,vs,h=>by
  obtain⟨v,r,rfl,h1,h2⟩:=h.uncons
  exact .cons (AtD.less hp hs d v h1) (a0a.less hp hs ds r h2)
theorem a0j.less{p:Addr}(hp:H p=none)(hs:∀ a,S a->a ≠ p->S' a):∀ (kvs:List (PyData × PyData)) (κ:List (Key × V)),a0j K H S kvs κ->a0j K H S' kvs κ
 | [],_,h=>by rw [h.unnil];exact .nil
 | (x,d) :: r,κ,h=>by
  obtain⟨k,v,t,rfl,rfl,h1,h2⟩:=h.uncons
  exact .cons (AtD.less hp hs d v h1) (a0j.less hp hs r t h2)
end
theorem Pers.new{p:Addr}(hp:H p=none)(hs:∀ a,S a->a ≠ p->S' a)(o:HO):Pers K S H S' (upd H p o):=fun d v h =>
 AtD.mono (a0l hp o).keep d v (AtD.less hp hs d v h)
end
section
variable{K:W.Frag}{c:Rc}{O:Own}{ρ:Rho}{σ:St}{H H':Hp}
theorem Scr.keep{a:Addr}{xs:List V}{S:Addr->Prop}(h:Scr K H a xs)(e:Keep S H H'):Scr K H' a xs:=by
 refine⟨fun p hp=>e.2.1 _ _ _ (h.1 p hp),h.2.1,?_⟩
 rcases h.2.2 with⟨o,h⟩ | h
 ·exact .inl ⟨o,e.2.1 _ _ _ h⟩
 ·exact .inr h
theorem Rel.to{c':Rc}{O':Own}(R:Rel K c O ρ σ H)(hO:∀ i,O' i=O i)(hB:∀ i p,O i=some p->a7p c p->a7p c' p)(hsa:c'.sa=c.sa)(hns:c'.ns=c.ns)
  (hp:Pers K (live c O) H (live c' O') H') (ho:∀ i p vs,O i=some p->H p=some (.lst vs)->H' p=some (.lst vs))
  (hA:∀ i p,O i=some p->c.A p->c'.A p) (am:∀ p,c'.A p->c'.M p ∨ c'.H0 p=none) (frs:∀ p,c'.H0 p=none->c'.S p) (same:∀ b o,¬ c'.M b->c'.H0 b=some o->H' b=some o) (kept:∀ b,c'.H0 b ≠ none->H' b ≠ none) (ml:∀ p,c'.M p->∃ vs,H' p=some (.lst vs))
  (pin:∀ p,c'.P p ∨ c'.B p->H' p ≠ none) (hl:∀ i,c'.lent i=c.lent i) (sc:Scr K H' c.sa (c.ns.map V.int)):Rel K c' O' ρ σ H' where
 dat i x e:=by obtain⟨v,h1,h2⟩:=R.dat i x e;exact⟨v,h1,hp _ _ h2⟩
 own i xs e:=by obtain⟨p,vs,h1,h2,h3,h4,h5⟩:=R.own i xs e;exact⟨p,vs,(hO i).trans h1,hB i p h1 h2,h3,ho i p vs h1 h4,hp.all h5⟩
 bor i xs e:=by obtain⟨p,vs,h1,h3,h4,h5⟩:=R.bor i xs e;exact⟨p,vs,(hO i).trans h1,h3,ho i p vs h1 h4,hp.all h5⟩
 tap i k e:=by obtain⟨p,h1,h2,h3⟩:=R.tap i k e;exact⟨p,(hO i).trans h1,h2,by rw [hsa];exact ho i p _ h1 h3⟩
 scr i e:=by rw [hsa];exact R.scr i e
 inj i j p e1 e2:=R.inj i j p ((hO i).symm.trans e1) ((hO j).symm.trans e2)
 has' i p e:=by
  have e':=(hO i).symm.trans e
  obtain⟨h0,vs,h⟩:=R.has' i p e'
  exact⟨hA i p e' h0,vs,ho i p vs e' h⟩
 am:=am
 frs:=frs
 same:=same
 kept:=kept
 ml:=ml
 pin:=pin
 lnt i p e l h1 h2:=(hO i).trans (R.lnt i p ((hl i).symm.trans e) l h1 h2)
 sc:=by rw [hsa,hns];exact sc
 len:=R.len
theorem c3d{i:Nat}{p:Addr}(h:O i=some p):¬ live c O p:=fun z=>z.2.2 i h
theorem Rel.grow(R:Rel K c O ρ σ H)(e:Same H H'):Rel K c O ρ σ H':=
 R.to (fun _=>rfl) (fun _ _ _ z=>z) rfl rfl (.same e) (fun i p vs _ q=>e _ _ q) (fun _ _ _ z=>z) R.am R.frs (fun b o n q=>e _ _ (R.same b o n q))
  (fun b n z=>R.kept b n (e.free z)) (fun p h=>let ⟨vs,q⟩:=R.ml p h;⟨vs,e _ _ q⟩) (fun p h z=>R.pin p h (e.free z)) (fun _=>rfl) (R.sc.keep (S:=Any) e.keep)
theorem Rel.free0(R:Rel K c O ρ σ H){p:Addr}(h:H p=none):c.H0 p=none:=by
 cases q:c.H0 p with
 | none=>rfl
 | some o=>exact absurd h (R.kept p (by rw [q];exact fun z=>nomatch z))
theorem Rel.liveNew(R:Rel K c O ρ σ H){p:Addr}(h:H p=none):live c O p:=
 ⟨R.frs p (R.free0 h),fun z=>R.pin p (.inl z) h,fun i e=>by obtain⟨_,vs,q⟩:=R.has i p e;rw [h] at q;cases q⟩
theorem Rel.frsLive(R:Rel K c O ρ σ H):Frs (live c O) H:=fun _ h=>R.liveNew h
theorem Rel.write{i:Nat}{p:Addr}{xs:List PyData}{vs vs':List V}{l:L}(R:Rel K c O ρ σ H)(hO:O i=some p)(hH:H p=some (.lst vs))
  (hl:ρ[i]? = some (some (.own xs)) ∨ ρ[i]? = some (some (.bor xs)) ∨ ∃ k:Nat,ρ[i]? = some (some (.tape k)))
  (hl':(∃ ys,ρ[i]? = some (some (.own xs))/\l=.own ys/\a0a K H (live c O) ys vs') ∨ (∃ ys,ρ[i]? = some (some (.bor xs))/\l=.bor ys/\a0a K H (live c O) ys vs') ∨ (∃ k k':Nat,ρ[i]? = some (some (.tape k))/\l=.tape k'/\vs'=[.ref c.sa,.int k'])) :
  Rel K c O (ρ.set i (some l)) σ (upd H p (.lst vs'))/\Pers K (live c O) H (live c O) (upd H p (.lst vs')):=by
 have hi:i < ρ.length:=by
  rcases hl with h | h | ⟨k,h⟩<;>exact(List.getElem?_eq_some_iff.mp h).1
 have kp:Keep (live c O) H (upd H p (.lst vs')):=(c0m hH).less fun b hb e=>by
  subst e;exact c3d hO hb
 have P:Pers K (live c O) H (live c O) (upd H p (.lst vs')):=.of kp fun _ h=>h
 have at_i:(ρ.set i (some l))[i]? = some (some l):=by rw [getElem?_set_self hi]
 have at_j:∀ j,j ≠ i->(ρ.set i (some l))[j]? = ρ[j]?:=fun j hj=>getElem?_set_ne (Ne.symm hj)
 have other:∀ j q,j ≠ i->O j=some q->q ≠ p:=fun j q hj e z=>hj (R.inj j i p (by rw [← z];exact e) hO)
 have hσ:σ[i]? = some (some (.ref p)):=by
  rcases hl with h | h | ⟨k,h⟩
  ·obtain⟨p',_,h1,_,h3,_⟩:=R.own i xs h;rw [hO] at h1;cases h1;exact h3
  ·obtain⟨p',_,h1,h3,_⟩:=R.bor i xs h;rw [hO] at h1;cases h1;exact h3
  ·obtain⟨p',h1,h3,_⟩:=R.tap i k h;rw [hO] at h1;cases h1;exact h3
 refine⟨⟨fun j x e=>?_,fun j ys e=>?_,fun j ys e=>?_,fun j k e=>?_,fun j e=>?_,R.inj,fun j q e=>?_,R.am,R.frs,fun b o n q=>?_,fun b n z=>?_,fun q h=>?_,fun q h z=>?_,fun j q e l2 h1 h2=>?_,?_,?_⟩,P⟩
 ·by_cases hj:j=i
  ·subst hj;rw [at_i] at e
   rcases hl' with⟨ys,_,rfl,_⟩ | ⟨ys,_,rfl,_⟩ | ⟨k,k',_,rfl,_⟩<;>cases e
  ·rw [at_j j hj] at e
   obtain⟨v,h1,h2⟩:=R.dat j x e
   exact⟨v,h1,P _ _ h2⟩
 ·by_cases hj:j=i
  ·subst hj;rw [at_i] at e
   rcases hl' with⟨zs,h0,rfl,h⟩ | ⟨zs,_,rfl,_⟩ | ⟨k,k',_,rfl,_⟩<;>cases e
   obtain⟨p',_,h1,h2,h3,_⟩:=R.own j xs h0
   rw [hO] at h1;cases h1
   exact⟨p,vs',hO,h2,h3,a0c,P.all h⟩
  ·rw [at_j j hj] at e
   obtain⟨q,ws,h1,h2,h3,h4,h5⟩:=R.own j ys e
   exact⟨q,ws,h1,h2,h3,by rw [a0d (other j q hj h1)];exact h4,P.all h5⟩
 ·by_cases hj:j=i
  ·subst hj;rw [at_i] at e
   rcases hl' with⟨zs,_,rfl,_⟩ | ⟨zs,h0,rfl,h⟩ | ⟨k,k',_,rfl,_⟩<;>cases e
   exact⟨p,vs',hO,hσ,a0c,P.all h⟩
  ·rw [at_j j hj] at e
   obtain⟨q,ws,h1,h3,h4,h5⟩:=R.bor j ys e
   exact⟨q,ws,h1,h3,by rw [a0d (other j q hj h1)];exact h4,P.all h5⟩
 ·by_cases hj:j=i
  ·subst hj;rw [at_i] at e
   rcases hl' with⟨zs,_,rfl,_⟩ | ⟨zs,_,rfl,_⟩ | ⟨k1,k',_,rfl,h⟩<;>cases e
   exact⟨p,hO,hσ,by rw [a0c,h]⟩
  ·rw [at_j j hj] at e
   obtain⟨q,h1,h3,h4⟩:=R.tap j k e
   exact⟨q,h1,h3,by rw [a0d (other j q hj h1)];exact h4⟩
 ·by_cases hj:j=i
  ·subst hj;rw [at_i] at e
   rcases hl' with⟨ys,_,rfl,_⟩ | ⟨ys,_,rfl,_⟩ | ⟨k,k',_,rfl,_⟩<;>cases e
  ·rw [at_j j hj] at e
   exact R.scr j e
 ·obtain⟨h1,ws,h2⟩:=R.has' j q e
  refine⟨h1,?_⟩
  by_cases hq:q=p
  ·subst hq;exact⟨vs',a0c⟩
  ·exact⟨ws,by rw [a0d hq];exact h2⟩
 ·have hb:b ≠ p:=by
   rintro rfl
   rcases (R.has i b hO).1 with z | z
   ·exact n z
   ·rw [z] at q;cases q
  rw [a0d hb];exact R.same b o n q
 ·by_cases hb:b=p
  ·subst hb;rw [a0c] at z;cases z
  ·rw [a0d hb] at z;exact R.kept b n z
 ·obtain⟨ws,h2⟩:=R.ml q h
  by_cases hq:q=p
  ·subst hq;exact⟨vs',a0c⟩
  ·exact⟨ws,by rw [a0d hq];exact h2⟩
 ·by_cases hb:q=p
  ·subst hb;rw [a0c] at z;cases z
  ·rw [a0d hb] at z;exact R.pin q h z
 ·by_cases hj:j=i
  ·subst hj;rw [at_i] at h1;cases h1
   rcases hl' with⟨zs,_,rfl,_⟩ | ⟨zs,h0,rfl,_⟩ | ⟨k1,k',h0,rfl,_⟩
   ·cases h2
   ·exact R.lnt j q e _ h0 rfl
   ·exact R.lnt j q e _ h0 rfl
  ·rw [at_j j hj] at h1;exact R.lnt j q e _ h1 h2
 ·exact R.sc.keep kp
 ·rw [length_set];exact R.len
noncomputable def a3v(O:Own)(i:Nat):Own:=fun j=>if j=i then none else O j
theorem b0s{i:Nat}{a:Addr}(h:live c O a):live c (a3v O i) a:=⟨h.1,h.2.1,fun j e=>by
 unfold a3v at e
 by_cases hj:j=i
 ·rw [if_pos hj] at e;cases e
 ·rw [if_neg hj] at e;exact h.2.2 j e⟩
theorem a2i{i j:Nat}(h:j ≠ i):a3v O i j=O j:=if_neg h
theorem b8d{i:Nat}:a3v O i i=none:=if_pos rfl
theorem a2j{i j:Nat}{p:Addr}(e:a3v O i j=some p):j ≠ i/\O j=some p:=by
 by_cases hj:j=i
 ·subst hj;rw [b8d] at e;cases e
 ·rw [a2i hj] at e;exact⟨hj,e⟩
theorem Rel.freeze{i:Nat}{xs:List PyData}(R:Rel K c O ρ σ H)(hl:ρ[i]? = some (some (.own xs))) :
  Rel K c (a3v O i) (ρ.set i (some (.d (.list xs)))) σ H/\Pers K (live c O) H (live c (a3v O i)) H:=by
 obtain⟨p,vs,hO,hB,hσ,hH,hA⟩:=R.own i xs hl
 have hi:i < ρ.length:=(List.getElem?_eq_some_iff.mp hl).1
 have P:Pers K (live c O) H (live c (a3v O i)) H:=.of (Keep.refl _ _) fun _ h=>b0s h
 have at_i:(ρ.set i (some (.d (.list xs))))[i]? = some (some (.d (.list xs))):=by rw [getElem?_set_self hi]
 have at_j:∀ j,j ≠ i->(ρ.set i (some (.d (.list xs))))[j]? = ρ[j]?:=fun j hj=>getElem?_set_ne (Ne.symm hj)
 have ne:∀ {j:Nat} {l:L},(ρ.set i (some (.d (.list xs))))[j]? = some (some l)->(∀ x,l ≠ .d x)->j ≠ i/\ρ[j]? = some (some l):=fun{j l} e n=>by
  by_cases hj:j=i
  ·subst hj;rw [at_i] at e;cases e;exact absurd rfl (n _)
  ·rw [at_j j hj] at e;exact⟨hj,e⟩
 refine⟨⟨fun j x e=>?_,fun j ys e=>?_,fun j ys e=>?_,fun j k e=>?_,fun j e=>?_,fun a b q e1 e2=>R.inj a b q (a2j e1).2 (a2j e2).2,fun j q e=>R.has' j q (a2j e).2,R.am,R.frs,R.same,R.kept,R.ml,R.pin,fun j q e l h1 h2=>?_,R.sc,?_⟩,P⟩
 ·by_cases hj:j=i
  ·subst hj;rw [at_i] at e;cases e
   refine⟨.ref p,hσ,a2y ⟨hB.2.1,hB.2.2,fun k e=>?_⟩ hH (P.all hA)⟩
   obtain⟨h1,h2⟩:=a2j e
   exact h1 (R.inj k j p h2 hO)
  ·rw [at_j j hj] at e
   obtain⟨v,h1,h2⟩:=R.dat j x e
   exact⟨v,h1,P _ _ h2⟩
 ·obtain⟨hj,e⟩:=ne e fun _ z=>nomatch z
  obtain⟨q,ws,h1,h2,h3,h4,h5⟩:=R.own j ys e
  exact⟨q,ws,(a2i hj).trans h1,h2,h3,h4,P.all h5⟩
 ·obtain⟨hj,e⟩:=ne e fun _ z=>nomatch z
  obtain⟨q,ws,h1,h3,h4,h5⟩:=R.bor j ys e
  exact⟨q,ws,(a2i hj).trans h1,h3,h4,P.all h5⟩
 ·obtain⟨hj,e⟩:=ne e fun _ z=>nomatch z
  obtain⟨q,h1,h3,h4⟩:=R.tap j k e
  exact⟨q,(a2i hj).trans h1,h3,h4⟩
 ·obtain⟨hj,e⟩:=ne e fun _ z=>nomatch z
  exact R.scr j e
 ·obtain⟨hj,e'⟩:=ne h1 fun x z=>by subst z;cases h2
  rw [a2i hj];exact R.lnt j q e _ e' h2
 ·rw [length_set];exact R.len
theorem Rel.setD{i:Nat}{x:PyData}{v:V}(R:Rel K c O ρ σ H)(hi:i < ρ.length)(h:AtD K H (live c O) x v) :
  Rel K c (a3v O i) (ρ.set i (some (.d x))) (σ.set i (some v)) H/\Pers K (live c O) H (live c (a3v O i)) H:=by
 have P:Pers K (live c O) H (live c (a3v O i)) H:=.of (Keep.refl _ _) fun _ h=>b0s h
 have at_i:∀ l:Option L,(ρ.set i l)[i]? = some l:=fun l=>by rw [getElem?_set_self hi]
 have at_j:∀ (l:Option L) j,j ≠ i->(ρ.set i l)[j]? = ρ[j]?:=fun l j hj=>getElem?_set_ne (Ne.symm hj)
 have st_j:∀ j,j ≠ i->(σ.set i (some v))[j]? = σ[j]?:=fun j hj=>getElem?_set_ne (Ne.symm hj)
 have ne:∀ {j:Nat} {l:L},(ρ.set i (some (.d x)))[j]? = some (some l)->(∀ x,l ≠ .d x)->j ≠ i/\ρ[j]? = some (some l):=fun{j l} e n=>by
  by_cases hj:j=i
  ·subst hj;rw [at_i] at e;cases e;exact absurd rfl (n _)
  ·rw [at_j _ j hj] at e;exact⟨hj,e⟩
 refine⟨⟨fun j y e=>?_,fun j ys e=>?_,fun j ys e=>?_,fun j k e=>?_,fun j e=>?_,fun a b q e1 e2=>R.inj a b q (a2j e1).2 (a2j e2).2,fun j q e=>R.has' j q (a2j e).2,R.am,R.frs,R.same,R.kept,R.ml,R.pin,fun j q e l h1 h2=>?_,R.sc,?_⟩,P⟩
 ·by_cases hj:j=i
  ·subst hj;rw [at_i] at e;cases e
   exact⟨v,by rw [getElem?_set_self (by rw [R.len];exact hi)],P _ _ h⟩
  ·rw [at_j _ j hj] at e
   obtain⟨v,h1,h2⟩:=R.dat j y e
   exact⟨v,by rw [st_j j hj];exact h1,P _ _ h2⟩
 ·obtain⟨hj,e⟩:=ne e fun _ z=>nomatch z
  obtain⟨q,ws,h1,h2,h3,h4,h5⟩:=R.own j ys e
  exact⟨q,ws,(a2i hj).trans h1,h2,by rw [st_j j hj];exact h3,h4,P.all h5⟩
 ·obtain⟨hj,e⟩:=ne e fun _ z=>nomatch z
  obtain⟨q,ws,h1,h3,h4,h5⟩:=R.bor j ys e
  exact⟨q,ws,(a2i hj).trans h1,by rw [st_j j hj];exact h3,h4,P.all h5⟩
 ·obtain⟨hj,e⟩:=ne e fun _ z=>nomatch z
  obtain⟨q,h1,h3,h4⟩:=R.tap j k e
  exact⟨q,(a2i hj).trans h1,by rw [st_j j hj];exact h3,h4⟩
 ·obtain⟨hj,e⟩:=ne e fun _ z=>nomatch z
  rw [st_j j hj];exact R.scr j e
 ·obtain⟨hj,e'⟩:=ne h1 fun x z=>by subst z;cases h2
  rw [a2i hj];exact R.lnt j q e _ e' h2
 ·rw [length_set,length_set];exact R.len
noncomputable def Rc.add(c:Rc)(p:Addr):Rc:={ c with P:=fun a=>c.P a ∨ a=p }
theorem a6c{p a:Addr}(h:live c O a)(n:a ≠ p):live (c.add p) O a:=⟨h.1,fun z=>z.elim h.2.1 n,h.2.2⟩
theorem a2z{p a:Addr}(h:live (c.add p) O a):live c O a/\a ≠ p:=⟨⟨h.1,fun z=>h.2.1 (.inl z),h.2.2⟩,fun z=>h.2.1 (.inr z)⟩
theorem Rel.lay{p:Addr}{o:HO}(R:Rel K c O ρ σ H)(hp:H p=none):Rel K (c.add p) O ρ σ (upd H p o)/\Pers K (live c O) H (live (c.add p) O) (upd H p o):=by
 have P:Pers K (live c O) H (live (c.add p) O) (upd H p o):=.new hp (fun a h n=>a6c h n) o
 have S:=a0l hp o
 refine⟨R.to (fun _=>rfl) (fun i q hq z=>⟨z.1,z.2.1,fun w=>w.elim z.2.2 fun e=>?_⟩) rfl rfl P (fun i q vs _ h=>S _ _ h) (fun _ _ _ z=>z) R.am R.frs (fun b ob n q=>S _ _ (R.same b ob n q))
  (fun b n z=>R.kept b n (S.free z)) (fun p h=>let ⟨vs,q⟩:=R.ml p h;⟨vs,S _ _ q⟩) (fun q h z=>?_) (fun _=>rfl) (R.sc.keep (S:=Any) S.keep),P⟩
 ·obtain⟨_,vs,h⟩:=R.has i q hq
  rw [e,hp] at h;cases h
 ·rcases h with(h | rfl) | h
  ·exact R.pin q (.inl h) (S.free z)
  ·rw [a0c] at z;cases z
  ·exact R.pin q (.inr h) (S.free z)
theorem Rel.unadd{p:Addr}(R:Rel K (c.add p) O ρ σ H):Rel K c O ρ σ H/\Pers K (live (c.add p) O) H (live c O) H:=by
 have P:Pers K (live (c.add p) O) H (live c O) H:=.of (Keep.refl _ _) fun a h=>(a2z h).1
 exact⟨R.to (fun _=>rfl) (fun i q _ z=>⟨z.1,z.2.1,fun w=>z.2.2 (.inl w)⟩) rfl rfl P (fun _ _ _ _ h=>h) (fun _ _ _ z=>z) R.am R.frs R.same R.kept R.ml (fun q h=>R.pin q (h.elim (fun z=>.inl (.inl z)) .inr)) (fun _=>rfl) R.sc,P⟩
noncomputable def owned(O:Own)(i:Nat)(p:Addr):Own:=fun j=>if j=i then some p else O j
theorem a4m{i j:Nat}{p:Addr}(h:j ≠ i):owned O i p j=O j:=if_neg h
theorem a7r{i:Nat}{p:Addr}:owned O i p i=some p:=if_pos rfl
theorem Rel.setOwn{i:Nat}{p:Addr}{xs:List PyData}{vs:List V}(R:Rel K (c.add p) O ρ σ H)(hi:i < ρ.length)(h0:c.H0 p=none)(hB:¬ c.B p)(hP:¬ c.P p)(hn:∀ j,O j ≠ some p)(hAp:c.A p)(hH:H p=some (.lst vs))(hA:a0a K H (live (c.add p) O) xs vs) :
  Rel K c (owned O i p) (ρ.set i (some (.own xs))) (σ.set i (some (.ref p))) H/\Pers K (live (c.add p) O) H (live c (owned O i p)) H:=by
 have P:Pers K (live (c.add p) O) H (live c (owned O i p)) H:=.of (Keep.refl _ _) fun a h=>by
  obtain⟨h1,h2⟩:=a2z h
  refine⟨h1.1,h1.2.1,fun j e=>?_⟩
  by_cases hj:j=i
  ·subst hj;rw [a7r] at e;cases e;exact h2 rfl
  ·rw [a4m hj] at e;exact h1.2.2 j e
 have at_i:(ρ.set i (some (.own xs)))[i]? = some (some (.own xs)):=by rw [getElem?_set_self hi]
 have at_j:∀ j,j ≠ i->(ρ.set i (some (.own xs)))[j]? = ρ[j]?:=fun j hj=>getElem?_set_ne (Ne.symm hj)
 have st_j:∀ j,j ≠ i->(σ.set i (some (.ref p)))[j]? = σ[j]?:=fun j hj=>getElem?_set_ne (Ne.symm hj)
 have ne:∀ {j:Nat} {l:L},(ρ.set i (some (.own xs)))[j]? = some (some l)->(∀ x,l ≠ .own x)->j ≠ i/\ρ[j]? = some (some l):=fun{j l} e n=>by
  by_cases hj:j=i
  ·subst hj;rw [at_i] at e;cases e;exact absurd rfl (n _)
  ·rw [at_j j hj] at e;exact⟨hj,e⟩
 have ow:∀ {j:Nat} {q:Addr},owned O i p j=some q->(j=i/\q=p) ∨ (j ≠ i/\O j=some q):=fun{j q} e=>by
  by_cases hj:j=i
  ·subst hj;rw [a7r] at e;cases e;exact .inl ⟨rfl,rfl⟩
  ·rw [a4m hj] at e;exact .inr ⟨hj,e⟩
 refine⟨⟨fun j y e=>?_,fun j ys e=>?_,fun j ys e=>?_,fun j k e=>?_,fun j e=>?_,fun a b q e1 e2=>?_,fun j q e=>?_,R.am,R.frs,R.same,R.kept,R.ml,fun q h=>R.pin q (h.elim (fun z=>.inl (.inl z)) .inr),fun j q e l h1 h2=>?_,R.sc,?_⟩,P⟩
 ·obtain⟨hj,e⟩:=ne e fun _ z=>nomatch z
  obtain⟨v,h1,h2⟩:=R.dat j y e
  exact⟨v,by rw [st_j j hj];exact h1,P _ _ h2⟩
 ·by_cases hj:j=i
  ·subst hj;rw [at_i] at e;cases e
   exact⟨p,vs,a7r,⟨hB,R.frs p h0,hP⟩,by rw [getElem?_set_self (by rw [R.len];exact hi)],hH,P.all hA⟩
  ·rw [at_j j hj] at e
   obtain⟨q,ws,h1,h2,h3,h4,h5⟩:=R.own j ys e
   exact⟨q,ws,(a4m hj).trans h1,⟨h2.1,h2.2.1,fun z=>h2.2.2 (.inl z)⟩,by rw [st_j j hj];exact h3,h4,P.all h5⟩
 ·obtain⟨hj,e⟩:=ne e fun _ z=>nomatch z
  obtain⟨q,ws,h1,h3,h4,h5⟩:=R.bor j ys e
  exact⟨q,ws,(a4m hj).trans h1,by rw [st_j j hj];exact h3,h4,P.all h5⟩
 ·obtain⟨hj,e⟩:=ne e fun _ z=>nomatch z
  obtain⟨q,h1,h3,h4⟩:=R.tap j k e
  exact⟨q,(a4m hj).trans h1,by rw [st_j j hj];exact h3,h4⟩
 ·obtain⟨hj,e⟩:=ne e fun _ z=>nomatch z
  rw [st_j j hj];exact R.scr j e
 ·rcases ow e1 with⟨h1,h2⟩ | ⟨h1,h2⟩<;>rcases ow e2 with⟨h3,h4⟩ | ⟨h3,h4⟩
  ·rw [h1,h3]
  ·rw [h2] at h4;exact absurd h4 (hn b)
  ·rw [h4] at h2;exact absurd h2 (hn a)
  ·exact R.inj a b q h2 h4
 ·rcases ow e with⟨h1,h2⟩ | ⟨h1,h2⟩
  ·subst h2;exact⟨hAp,vs,hH⟩
  ·exact R.has' j q h2
 ·obtain⟨hj,e'⟩:=ne h1 fun x z=>by subst z;cases h2
  rw [a4m hj];exact R.lnt j q e _ e' h2
 ·rw [length_set,length_set];exact R.len
end
end L2
end
section
namespace L2
open PySem PySem.Spec PyProof.Rows
inductive DV where
 | d (x:PyData)
 | sl (i:Nat)
noncomputable def AtV(K:W.Frag)(S:Addr->Prop)(σ:St)(H:Hp):DV->V->Prop
 | .d x,v=>AtD K H S x v
 | .sl i,v=>σ[i]? = some (some v)
noncomputable def a7a:L->Option PyData
 | .d x=>some x
 | .own xs=>some (.list xs)
 | .bor xs=>some (.list xs)
 | _=>none
noncomputable def a0i(ρ:Rho):DV->Option PyData
 | .d x=>some x
 | .sl i=>(ρ[i]?.join).bind a7a
def AtT(K:W.Frag)(H:Hp)(S:Addr->Prop)(x:PyData)(v:V):Prop:=AtD K H S x v ∨ ∃ ds a vs,x=.list ds/\v=.ref a/\H a=some (.lst vs)/\a0a K H S ds vs
def need{α:Type}(o:Option α)(k:α->Prop):Prop:=match o with
 | some a=>k a
 | none=>False
theorem a5c{α:Type}{a:α}{k:α->Prop}:need (some a) k=k a:=rfl
theorem c0p{α:Type}{k:α->Prop}:need (none:Option α) k=False:=rfl
theorem ne{α:Type}{o:Option α}{k:α->Prop}(h:need o k):∃ a,o=some a/\k a:=by
 cases o with
 | none=>exact h.elim
 | some a=>exact⟨a,rfl,h⟩
theorem c7a{α:Type}{o:Option α}{k:α->Prop}{a:α}(e:o=some a)(h:k a):need o k:=by rw [e];exact h
theorem itT{a b:Prop}:(if true=true then a else b)=a:=rfl
theorem itF{a b:Prop}:(if false=true then a else b)=b:=rfl
theorem mapC{α β:Type}{f:α->β}{a:α}{l:List α}:(a :: l).map f=f a :: l.map f:=rfl
theorem mapN{α β:Type}{f:α->β}:([]:List α).map f=[]:=rfl
abbrev TDE:=Rho->(DV->Rho->Prop)->Prop
abbrev TDF:=Rho->(List PyData->Rho->Prop)->Prop
abbrev TDT:=Rho->(Bool->Rho->Prop)->Prop
abbrev TDA:=Rho->(List DV->Rho->Prop)->Prop
def a9i(c:Rc)(O:Own)(p:Addr):Prop:=c.H0 p=none/\¬ c.B p/\¬ c.P p/\∀ j,O j ≠ some p
def AdE(K:W.Frag)(t:TE)(dt:TDE):Prop:=∀ (c:Rc) (O:Own) (ρ:Rho) (σ:St) (H:Hp) (Qd:DV->Rho->Prop) (Q:VK),Rel K c O ρ σ H->dt ρ Qd ->
 (∀ x ρ' O' v H',Qd x ρ'->Rel K c O' ρ' σ H'->Pers K (live c O) H (live c O') H'->AtV K (live c O') σ H' x v->Q v H')->t σ H Q
def AdF(K:W.Frag)(t:TE)(dt:TDF):Prop:=∀ (c:Rc) (O:Own) (ρ:Rho) (σ:St) (H:Hp) (Qd:List PyData->Rho->Prop) (Q:VK),Rel K c O ρ σ H->dt ρ Qd ->
 (∀ xs ρ' O' p vs H',Qd xs ρ'->Rel K (c.add p) O' ρ' σ H'->Pers K (live c O) H (live (c.add p) O') H'->a9i c O' p->H' p=some (.lst vs)->a0a K H' (live (c.add p) O') xs vs->Q (.ref p) H')->t σ H Q
def AdT(K:W.Frag)(t:TT)(dt:TDT):Prop:=∀ (c:Rc) (O:Own) (ρ:Rho) (σ:St) (H:Hp) (Qd:Bool->Rho->Prop) (Q:Bool->Hp->Prop),Rel K c O ρ σ H->dt ρ Qd ->
 (∀ b ρ' O' H',Qd b ρ'->Rel K c O' ρ' σ H'->Pers K (live c O) H (live c O') H'->Q b H')->t σ H Q
noncomputable def AtVs(K:W.Frag)(S:Addr->Prop)(σ:St)(H:Hp):List DV->List V->Prop:=Paired (AtV K S σ H)
def AdA(K:W.Frag)(t:TA)(dt:TDA):Prop:=∀ (c:Rc) (O:Own) (ρ:Rho) (σ:St) (H:Hp) (Qd:List DV->Rho->Prop) (Q:List V->Hp->Prop),Rel K c O ρ σ H->dt ρ Qd ->
 (∀ xs ρ' O' vs H',Qd xs ρ'->Rel K c O' ρ' σ H'->Pers K (live c O) H (live c O') H'->AtVs K (live c O') σ H' xs vs->Q vs H')->t σ H Q
def DE(X:Cx)(e:Expr)(dt:TDE):Prop:=∃ t,PE X e t/\AdE X.K t dt
def DF(X:Cx)(e:Expr)(dt:TDF):Prop:=∃ t,PE X e t/\AdF X.K t dt
def DT(X:Cx)(e:Expr)(dt:TDT):Prop:=∃ t,PT X e t/\AdT X.K t dt
def DW(X:Cx)(e:Expr)(dt:TDT):Prop:=∃ t,PW X e t/\AdT X.K t dt
def DA(X:Cx)(es:List Expr)(dt:TDA):Prop:=∃ t,PA X es t/\AdA X.K t dt
section
variable{K:W.Frag}{c:Rc}{O:Own}{ρ:Rho}{σ:St}{H H':Hp}{S S':Addr->Prop}
theorem AtV.pers{x:DV}{v:V}(h:AtV K S σ H x v)(P:Pers K S H S' H'):AtV K S' σ H' x v:=by
 cases x with
 | d x=>exact P _ _ h
 | sl i=>exact h
theorem AtVs.pers{xs:List DV}{vs:List V}(h:AtVs K S σ H xs vs)(P:Pers K S H S' H'):AtVs K S' σ H' xs vs:=Paired.imp' (fun _ _ q=>q.pers P) h
theorem AtD.top{x:PyData}{v:V}(h:AtD K H S x v):AtT K H S x v:=.inl h
theorem Rel.top(R:Rel K c O ρ σ H){x:DV}{v:V}{d:PyData}(h:AtV K (live c O) σ H x v)(e:a0i ρ x=some d):AtT K H (live c O) d v:=by
 cases x with
 | d x=>cases e;exact .inl h
 | sl i =>
  have h':σ[i]? = some (some v):=h
  have e':(ρ[i]?.join).bind a7a=some d:=e
  cases q:ρ[i]? with
  | none=>rw [q] at e';cases e'
  | some ol =>
   cases ol with
   | none=>rw [q] at e';cases e'
   | some l =>
    rw [q] at e'
    cases l with
    | d x =>
     cases e'
     obtain⟨w,h1,h2⟩:=R.dat i _ q
     rw [h'] at h1;cases h1
     exact .inl h2
    | own xs =>
     cases e'
     obtain⟨p,vs,_,_,h1,h2,h3⟩:=R.own i _ q
     rw [h'] at h1;cases h1
     exact .inr ⟨xs,p,vs,rfl,rfl,h2,h3⟩
    | bor xs =>
     cases e'
     obtain⟨p,vs,_,h1,h2,h3⟩:=R.bor i _ q
     rw [h'] at h1;cases h1
     exact .inr ⟨xs,p,vs,rfl,rfl,h2,h3⟩
    | tape k=>cases e'
    | scr=>cases e'
theorem AtT.list{ds:List PyData}{v:V}(h:AtT K H S (.list ds) v):∃ a vs,v=.ref a/\H a=some (.lst vs)/\a0a K H S ds vs:=by
 rcases h with h | ⟨ds',a,vs,e,e2,h1,h2⟩
 ·obtain⟨a,vs,e,_,h1,h2⟩:=a2x h
  exact⟨a,vs,e,h1,h2⟩
 ·cases e;exact⟨a,vs,e2,h1,h2⟩
theorem AtT.at{x:PyData}{v:V}(h:AtT K H S x v)(n:∀ ds,x ≠ .list ds):AtD K H S x v:=by
 rcases h with h | ⟨ds',a,vs,e,_⟩
 ·exact h
 ·exact absurd e (n ds')
theorem AtT.any{x:PyData}{v:V}(h:AtT K H S x v):AtD K H Any x v:=by
 rcases h with h | ⟨ds',a,vs,e,e2,h1,h2⟩
 ·exact AtD.more (fun _ _=>trivial) _ _ h
 ·subst e e2;exact a2y trivial h1 (a0a.more (fun _ _=>trivial) _ _ h2)
def dVar(i:Nat):TDE:=fun ρ Q=>(ρ[i]?.join).isSome=true/\Q (.sl i) ρ
theorem d0w{i:Nat}:AdE K (tVar i) (dVar i):=by
 intro c O ρ σ H Qd Q R h k
 obtain⟨h0,h⟩:=h
 have ex:∃ v,σ[i]? = some (some v):=by
  cases q:ρ[i]? with
  | none=>rw [q] at h0;cases h0
  | some ol =>
   cases ol with
   | none=>rw [q] at h0;cases h0
   | some l =>
    cases l with
    | d x=>obtain⟨w,h1,_⟩:=R.dat i _ q;exact⟨w,h1⟩
    | own xs=>obtain⟨p,vs,_,_,h1,_⟩:=R.own i _ q;exact⟨_,h1⟩
    | bor xs=>obtain⟨p,vs,_,h1,_⟩:=R.bor i _ q;exact⟨_,h1⟩
    | tape k=>obtain⟨p,_,h1,_⟩:=R.tap i _ q;exact⟨_,h1⟩
    | scr=>exact⟨_,R.scr i q⟩
 obtain⟨v,hv⟩:=ex
 exact⟨v,hv,k _ _ _ _ _ h R .refl hv⟩
def dC(x:PyData):TDE:=fun ρ Q=>Q (.d x) ρ
theorem ad_c{x:PyData}{v:V}(hx:∀ (S:Addr->Prop) H,AtD K H S x v):AdE K (tC v) (dC x):=fun c O ρ σ H Qd Q R h k=>k _ _ _ _ _ h R .refl (hx _ _)
end
section
variable{X:Cx}{a b e:Expr}{es:List Expr}{da db:TDE}{pos:Pos}
theorem dv(i:Nat){x:Str}(hN:X.N[i]? = some x:=by rfl)(hv:Vis X.env.scope x:=by first | exact Or.inl rfl | exact Or.inr (Or.inl rfl) | exact Or.inr (Or.inr rfl)) (hd:(x == ("__debug__" : Str))=false:=by decide)
  (hcd:(x == ("__classdict__" : Str))=false:=by decide):DE X (.Name x pos) (dVar i):=⟨_,b0g hN hv hd hcd,d0w⟩
theorem a0m{i j}:DE X (.Constant (.int i) j pos) (dC (.int i)):=⟨_,a0t,ad_c fun _ _=>a1v i⟩
theorem a1r{i j}:DE X (.Constant (.str i) j pos) (dC (.str i)):=⟨_,a4z,ad_c fun _ _=>a3j i⟩
theorem b0t{i j}:DE X (.Constant (.bool i) j pos) (dC (.bool i)):=⟨_,pe_bl,ad_c fun _ _=>a1j i⟩
theorem b0u{j}:DE X (.Constant .none j pos) (dC .none):=⟨_,b9y,ad_c fun _ _=>a7n⟩
abbrev F2:=PyData->PyData->Option PyData
def AdR(K:W.Frag)(r:R2)(f:F2):Prop:=∀ (S:Addr->Prop) (H:Hp) (x y:V) (dx dy z:PyData) (Q:VK),Frs S H->AtT K H S dx x->AtT K H S dy y->f dx dy=some z ->
 (∀ v H',Same H H'->AtD K H' S z v->Q v H')->r x y H Q
def dOp(f:F2)(da db:TDE):TDE:=fun ρ Q=>da ρ fun x ρ1=>db ρ1 fun y ρ2=>need (a0i ρ2 x) fun dx=>need (a0i ρ2 y) fun dy=>need (f dx dy) fun z=>Q (.d z) ρ2
theorem b3k{K:W.Frag}{r:R2}{f:F2}{ta tb:TE}(hr:AdR K r f)(ha:AdE K ta da)(hb:AdE K tb db):AdE K (tOp r ta tb) (dOp f da db):=by
 intro c O ρ σ H Qd Q R h k
 refine ha c O ρ σ H _ _ R h fun x ρ1 O1 v H1 h1 R1 P1 a1=>?_
 refine hb c O1 ρ1 σ H1 _ _ R1 h1 fun y ρ2 O2 u H2 h2 R2 P2 a2=>?_
 obtain⟨dx,e1,hn1⟩:=ne (h2)
 obtain⟨dy,e2,hn2⟩:=ne (hn1)
 obtain⟨z,e3,h3⟩:=ne (hn2)
 refine hr (live c O2) H2 v u dx dy z Q R2.frsLive (R2.top (a1.pers P2) e1) (R2.top a2 e2) e3 fun w H3 s3 a3=>?_
 exact k _ _ _ _ _ h3 (R2.grow s3) ((P1.trans P2).trans (.same s3)) a3
theorem c5u{op:Operator}{r:R2}{f:F2}(ho:OpR X (binaryOp op) r)(hr:AdR X.K r f)(ha:DE X a da)(hb:DE X b db):DE X (.BinOp a op b pos) (dOp f da db):=by
 obtain⟨ta,pa,aa⟩:=ha
 obtain⟨tb,pb,ab⟩:=hb
 exact⟨_,a1l ho pa pb,b3k hr aa ab⟩
theorem a3w{op:CmpOp}{r:R2}{f:F2}(ho:OpR X (compareOp op) r)(hr:AdR X.K r f)(ha:DE X a da)(hb:DE X b db)(hm:behindInMarks op b=false):DE X (.Compare a [op] [b] pos) (dOp f da db):=by
 obtain⟨ta,pa,aa⟩:=ha
 obtain⟨tb,pb,ab⟩:=hb
 exact⟨_,a6t ho pa pb hm,b3k hr aa ab⟩
theorem a1s{r:R2}{f:F2}(ho:IxR X r)(hr:AdR X.K r f)(ha:DE X a da)(hb:DE X b db)(hs:b6i b):DE X (.Subscript a b pos) (dOp f da db):=by
 obtain⟨ta,pa,aa⟩:=ha
 obtain⟨tb,pb,ab⟩:=hb
 exact⟨_,a6k ho pa pb hs,b3k hr aa ab⟩
end
section
variable{K:W.Frag}
theorem AtT.int{H:Hp}{S:Addr->Prop}{i:Int}{v:V}(h:AtT K H S (.int i) v):v=.int i:=a6x (h.at fun _ z=>nomatch z)
theorem AtT.str{H:Hp}{S:Addr->Prop}{i:Str}{v:V}(h:AtT K H S (.str i) v):v=.str i:=a6y (h.at fun _ z=>nomatch z)
theorem AtT.bool{H:Hp}{S:Addr->Prop}{i:Bool}{v:V}(h:AtT K H S (.bool i) v):v=.bl i:=a4l (h.at fun _ z=>nomatch z)
theorem AtT.none{H:Hp}{S:Addr->Prop}{v:V}(h:AtT K H S .none v):v=.non:=a6w (h.at fun _ z=>nomatch z)
theorem AtT.tup{H:Hp}{S:Addr->Prop}{ds:List PyData}{v:V}(h:AtT K H S (.tuple ds) v):∃ a xs,v=.ref a/\SqT K H a xs/\a0a K H S ds xs:=a5b (h.at fun _ z=>nomatch z)
theorem a0a.eq_nil{H:Hp}{S:Addr->Prop}{ds:List PyData}(h:a0a K H S ds []):ds=[]:=List.eq_nil_of_length_eq_zero h.length.symm
noncomputable def fAdd:F2
 | .int i,.int j=>some (.int (i + j))
 | .str x,.str y=>if x.length + y.length <= sizeLine then some (.str (x ++ y)) else none
 | .list xs,.list ys=>if xs.length + ys.length <= sizeLine then some (.list (xs ++ ys)) else none
 | .tuple xs,.tuple ys=>if xs.length + ys.length <= sizeLine then some (.tuple (xs ++ ys)) else none
 | _,_=>none
noncomputable def fCmp(p:Int->Int->Bool):F2
 | .int i,.int j=>some (.bool (p i j))
 | _,_=>none
theorem c0q(p:Int->Int->Bool):AdR K (rI0 fun i j=>.bl (p i j)) (fCmp p):=by
 intro S H x y dx dy z Q f hx hy e k
 unfold fCmp at e
 split at e<;>cases e
 rw [hx.int,hy.int]
 exact⟨_,_,rfl,rfl,k _ _ (Same.refl _) (a1j _)⟩
def c5v(K:W.Frag):R2:=fun x y H Q=>∃ a b ys,x=.ref a/\y=.ref b/\SqT K H a []/\SqT K H b ys/\Q (.ref b) H
theorem c7b{X:Cx}:OpR X (binaryOp .Add) (c5v X.K):=by
 intro pins s σ H x y v u Q I rx ry h
 obtain⟨a,b,ys,rfl,rfl,ha,hb,q⟩:=h
 cases rx
 cases ry
 obtain⟨its,r1,p1,_⟩:=I.tuple ha
 obtain⟨its2,r2,p2,_⟩:=I.tuple hb
 cases r1
 obtain⟨⟨cls,dd,data,sl⟩,ho,hc,n,hd⟩:=id p1
 obtain⟨⟨cls2,dd2,data2,sl2⟩,ho2,hc2,n2,hd2⟩:=id p2
 simp only at hc hd hc2 hd2
 subst hc hd hc2 hd2
 exact concat_meets ⟨_,ho,rfl⟩ ⟨_,ho2,rfl⟩ noFill_tuple_add seq_tuple_add PySem.F.slot_tuple_add PySem.F.entry_tuple_add (PySem.F.args_tuple_add_2 _ _)
   (tuple_addW0 a b _ its2.toArray n n2 dd dd2 sl sl2 (by simp)) ⟨ho,ho2,⟨.ref b,H,I,rfl,q⟩⟩
def b6l(K:W.Frag):R2:=fun x y H Q=>rI0 (fun i j=>.int (i + j)) x y H Q ∨ (∃ i j,x=.str i/\y=.str j/\i.length + j.length <= sizeLine/\Q (.str (i ++ j)) H) ∨ rCat x y H Q ∨ c5t K x y H Q ∨ c5v K x y H Q
theorem b2p{X:Cx}:OpR X (binaryOp .Add) (b6l X.K):=a8h.or (b7p.or (b4d.or (c6y.or c7b)))
theorem c0r:AdR K (b6l K) fAdd:=by
 intro S H x y dx dy z Q f hx hy e k
 unfold fAdd at e
 split at e
 ·cases e
  rw [hx.int,hy.int]
  exact .inl ⟨_,_,rfl,rfl,k _ _ (Same.refl _) (a1v _)⟩
 ·split at e
  ·rename_i hc
   cases e
   rw [hx.str,hy.str]
   exact .inr (.inl ⟨_,_,rfl,rfl,hc,k _ _ (Same.refl _) (a3j _)⟩)
  ·cases e
 ·split at e
  ·rename_i hc
   cases e
   obtain⟨a,vs,rfl,h1,h2⟩:=hx.list
   obtain⟨b,ws,rfl,h3,h4⟩:=hy.list
   refine .inr (.inr (.inl ⟨a,b,vs,ws,rfl,rfl,h1,h3,by rw [h2.length,h4.length];exact hc,fun p hp=>k _ _ (a0l hp _) (c2z (f p hp) hp (h2.append h4))⟩))
  ·cases e
 ·split at e
  ·rename_i hc
   cases e
   obtain⟨a,vs,rfl,h1,h2⟩:=hx.tup
   obtain⟨b,ws,rfl,h3,h4⟩:=hy.tup
   by_cases hv:vs=[]
   ·subst hv
    obtain rfl:=h2.eq_nil
    refine .inr (.inr (.inr (.inr ⟨a,b,ws,rfl,rfl,h1,h3,k _ _ (Same.refl _) ?_⟩)))
    exact a1z h3 h4
   ·refine .inr (.inr (.inr (.inl ⟨a,b,vs,ws,rfl,rfl,h1,h3,hv,by rw [h2.length,h4.length];exact hc,fun ew=>k _ _ (Same.refl _) ?_,fun ew p hp=>k _ _ (a0l hp _) (a7o hp (h2.append h4))⟩)))
    subst ew
    obtain rfl:=h4.eq_nil
    rw [append_nil]
    exact a1z h1 h2
  ·cases e
 ·cases e
noncomputable def fEq(neg:Bool):F2:=fun d e=>if SeqAt.shaped d=true/\SeqAt.shaped e=true then some (.bool (if neg then !PyData.eqv d e else PyData.eqv d e)) else none
theorem c5w{neg:Bool}:AdR K (rEqD K neg) (fEq neg):=by
 intro S H x y dx dy z Q f hx hy e k
 unfold fEq at e
 split at e
 ·rename_i hc
  cases e
  exact⟨Any,Any,dx,dy,hx.any,hy.any,hc.1,hc.2,k _ _ (Same.refl _) (a1j _)⟩
 ·cases e
noncomputable def fIx:F2
 | .list xs,.int i=>atI xs i
 | .tuple xs,.int i=>atI xs i
 | .str x,.int i=>if x.length <= sizeLine then(atI x.cps.toList i).map fun c=>.str ⟨#[c]⟩ else none
 | _,_=>none
theorem a1t:AdR K (rIx K) fIx:=by
 intro S H x y dx dy z Q f hx hy e k
 unfold fIx at e
 split at e
 ·obtain⟨a,vs,rfl,h1,h2⟩:=hx.list
  rw [hy.int]
  obtain⟨v,e1,e2⟩:=b6k h2 e
  exact .inl ⟨a,vs,_,v,rfl,rfl,SqL.of h1,e1,k _ _ (Same.refl _) e2⟩
 ·obtain⟨a,vs,rfl,h1,h2⟩:=hx.tup
  rw [hy.int]
  obtain⟨v,e1,e2⟩:=b6k h2 e
  exact .inr (.inl ⟨a,vs,_,v,rfl,rfl,h1,e1,k _ _ (Same.refl _) e2⟩)
 ·split at e
  ·rename_i hc
   rw [hx.str,hy.int]
   cases q:atI (PySem.Str.cps _).toList _ with
   | none=>rw [q] at e;cases e
   | some cc =>
    rw [q] at e
    cases e
    exact .inr (.inr ⟨_,_,cc,rfl,rfl,hc,q,k _ _ (Same.refl _) (a3j _)⟩)
  ·cases e
 ·cases e
noncomputable def a2c:PyData->Bool
 | .none=>true | .bool _=>true | .int _=>true | .str _=>true
 | _=>false
noncomputable def seqD:PyData->Option (List PyData)
 | .list xs=>some xs
 | .tuple xs=>some xs
 | _=>none
noncomputable def eqF:PyData->PyData->Bool
 | .none,.none=>true
 | .bool a,.bool b=>a == b
 | .int a,.int b=>a == b
 | .bool a,.int b=>(if a then(1:Int) else 0) == b
 | .int a,.bool b=>a == (if b then(1:Int) else 0)
 | .str a,.str b=>a == b
 | _,_=>false
noncomputable def inF(x:PyData)(xs:List PyData):Bool:=xs.any fun y=>eqF y x
end
end L2
end
section
namespace L2
open PySem PySem.Spec PyProof.Rows
section
variable{K:W.Frag}{c:Rc}{O:Own}{ρ:Rho}{σ:St}{H H':Hp}{S S':Addr->Prop}
noncomputable def toV:PyData->V
 | .bool b=>.bl b
 | .int i=>.int i
 | .str x=>.str x
 | _=>.non
theorem a9j{d:PyData}{v:V}(h:AtD K H S d v)(f:a2c d=true):v=toV d/\flatV v=true:=by
 cases d with
 | none=>rw [a6w h];exact⟨rfl,rfl⟩
 | bool b=>rw [a4l h];exact⟨rfl,rfl⟩
 | int i=>rw [a6x h];exact⟨rfl,rfl⟩
 | str x=>rw [a6y h];exact⟨rfl,rfl⟩
 | _=>cases f
def fz(ρ:Rho)(x:DV)(Q:PyData->Rho->Prop):Prop:=match x with
 | .d y=>Q y ρ
 | .sl i=>match ρ[i]?.join with
  | some (.d y)=>Q y ρ
  | some (.own xs)=>Q (.list xs) (ρ.set i (some (.d (.list xs))))
  | _=>False
theorem a1b{i:Nat}{l:L}(h:ρ[i]?.join=some l):ρ[i]? = some (some l):=by
 cases q:ρ[i]? with
 | none=>rw [q] at h;cases h
 | some o=>rw [q] at h;cases o with
  | none=>cases h
  | some l'=>cases h;rfl
theorem Rel.fz{x:DV}{v:V}{Q:PyData->Rho->Prop}(R:Rel K c O ρ σ H)(a:AtV K (live c O) σ H x v)(h:fz ρ x Q):∃ y ρ' O',Q y ρ'/\Rel K c O' ρ' σ H/\Pers K (live c O) H (live c O') H/\AtD K H (live c O') y v:=by
 cases x with
 | d y=>exact⟨y,ρ,O,h,R,.refl,a⟩
 | sl i =>
  have a':σ[i]? = some (some v):=a
  simp only [L2.fz] at h
  split at h
  ·rename_i y e
   have e':=a1b e
   obtain⟨w,h1,h2⟩:=R.dat i y e'
   rw [a'] at h1;cases h1
   exact⟨y,ρ,O,h,R,.refl,h2⟩
  ·rename_i xs e
   have e':=a1b e
   obtain⟨R',P⟩:=R.freeze e'
   have hi:i < ρ.length:=(List.getElem?_eq_some_iff.mp e').1
   obtain⟨w,h1,h2⟩:=R'.dat i (.list xs) (by rw [getElem?_set_self hi])
   rw [a'] at h1;cases h1
   exact⟨_,_,_,h,R',P,h2⟩
  ·exact h.elim
noncomputable def fzs:Rho->List DV->(List PyData->Rho->Prop)->Prop
 | ρ,[],Q=>Q [] ρ
 | ρ,x :: xs,Q=>fz ρ x fun y ρ1=>fzs ρ1 xs fun ys ρ2=>Q (y :: ys) ρ2
theorem b6m{xs:List DV}:∀ {vs:List V} {ρ:Rho} {O:Own} {Q:List PyData->Rho->Prop},Rel K c O ρ σ H->AtVs K (live c O) σ H xs vs->fzs ρ xs Q->∃ ys ρ' O',Q ys ρ'/\Rel K c O' ρ' σ H/\Pers K (live c O) H (live c O') H/\a0a K H (live c O') ys vs:=by
 induction xs with
 | nil =>
  intro vs ρ O Q R a h
  cases a
  exact⟨[],ρ,O,h,R,.refl,.nil⟩
 | cons x xs ih =>
  intro vs ρ O Q R a h
  cases a with
  | cons a as =>
   obtain⟨y,ρ1,O1,h1,R1,P1,a1⟩:=R.fz a h
   obtain⟨ys,ρ2,O2,h2,R2,P2,a2⟩:=ih R1 (AtVs.pers as P1) h1
   exact⟨y :: ys,ρ2,O2,h2,R2,P1.trans P2,.cons (P2 _ _ a1) a2⟩
def dNil:TDA:=fun ρ Q=>Q [] ρ
def b8e(de:TDE)(dr:TDA):TDA:=fun ρ Q=>de ρ fun x ρ1=>dr ρ1 fun xs ρ2=>Q (x :: xs) ρ2
theorem d0x:AdA K tNil dNil:=fun c O ρ σ H Qd Q R h k=>k _ _ _ _ _ h R .refl .nil
theorem c7c{te:TE}{ta:TA}{de:TDE}{da:TDA}(he:AdE K te de)(ha:AdA K ta da):AdA K (a1m te ta) (b8e de da):=by
 intro c O ρ σ H Qd Q R h k
 refine he c O ρ σ H _ _ R h fun x ρ1 O1 v H1 h1 R1 P1 a1=>?_
 refine ha c O1 ρ1 σ H1 _ _ R1 h1 fun xs ρ2 O2 vs H2 h2 R2 P2 a2=>?_
 exact k _ _ _ _ _ h2 R2 (P1.trans P2) (.cons (a1.pers P2) a2)
def dTup(da:TDA):TDE:=fun ρ Q=>da ρ fun xs ρ1=>fzs ρ1 xs fun ys ρ2=>ys.length <= 1000000/\Q (.d (.tuple ys)) ρ2
def dLst(da:TDA):TDF:=fun ρ Q=>da ρ fun xs ρ1=>fzs ρ1 xs fun ys ρ2=>ys.length <= 1000000/\Q ys ρ2
theorem mil{n:Nat}(h:n <= 1000000):n < sizeLine:=Nat.lt_of_le_of_lt h (by decide +kernel)
theorem d0y{ta:TA}{da:TDA}(ha:AdA K ta da):AdE K (tTup ta) (dTup da):=by
 intro c O ρ σ H Qd Q R h k
 refine ha c O ρ σ H _ _ R h fun xs ρ1 O1 vs H1 h1 R1 P1 a1=>?_
 obtain⟨ys,ρ2,O2,⟨hz,h2⟩,R2,P2,a2⟩:=b6m R1 a1 h1
 refine⟨by rw [a2.length];exact le_of_lt (mil hz),fun p hp=>?_⟩
 have s:=a0l hp (.tup vs)
 exact k _ _ _ _ _ h2 (R2.grow s) ((P1.trans P2).trans (.same s)) (a7o hp a2)
theorem b0a{p:Addr}(R:Rel K c O ρ σ H)(hp:H p=none):a9i c O p:=⟨R.free0 hp,fun z=>R.pin p (.inr z) hp,fun z=>R.pin p (.inl z) hp,fun j e=>by obtain⟨_,vs,q⟩:=R.has j p e;rw [hp] at q;cases q⟩
theorem Rel.newL{p:Addr}{ys:List PyData}{vs:List V}(R:Rel K c O ρ σ H)(hp:H p=none)(h:a0a K H (live c O) ys vs) :
  Rel K (c.add p) O ρ σ (upd H p (.lst vs))/\Pers K (live c O) H (live (c.add p) O) (upd H p (.lst vs))/\a9i c O p/\a0a K (upd H p (.lst vs)) (live (c.add p) O) ys vs:=by
 obtain⟨R1,P1⟩:=R.lay (o:=.lst vs) hp
 exact⟨R1,P1,b0a R hp,P1.all h⟩
theorem d0z{ta:TA}{da:TDA}(ha:AdA K ta da):AdF K (tLst ta) (dLst da):=by
 intro c O ρ σ H Qd Q R h k
 refine ha c O ρ σ H _ _ R h fun xs ρ1 O1 vs H1 h1 R1 P1 a1=>?_
 obtain⟨ys,ρ2,O2,⟨hz,h2⟩,R2,P2,a2⟩:=b6m R1 a1 h1
 refine⟨by rw [a2.length];exact le_of_lt (mil hz),fun p hp=>?_⟩
 obtain⟨R3,P3,f3,a3⟩:=R2.newL hp a2
 exact k _ _ _ _ _ _ h2 R3 ((P1.trans P2).trans P3) f3 a0c a3
def dFz(df:TDF):TDE:=fun ρ Q=>df ρ fun xs ρ1=>Q (.d (.list xs)) ρ1
theorem ad_fz{t:TE}{df:TDF}(h:AdF K t df):AdE K t (dFz df):=by
 intro c O ρ σ H Qd Q R h0 k
 refine h c O ρ σ H _ _ R h0 fun xs ρ1 O1 p vs H1 h1 R1 P1 f1 hp a1=>?_
 obtain⟨R2,P2⟩:=R1.unadd
 exact k _ _ _ _ _ h1 R2 (P1.trans P2) (a2y ⟨R1.frs p f1.1,f1.2.2.1,f1.2.2.2⟩ hp (P2.all a1))
abbrev F2L:=PyData->PyData->Option (List PyData)
def AdRF(K:W.Frag)(r:R2)(f:F2L):Prop:=∀ (S:Addr->Prop) (H:Hp) (x y:V) (dx dy:PyData) (z:List PyData) (Q:VK),AtT K H S dx x->AtT K H S dy y->f dx dy=some z ->
 (∀ p vs,H p=none->a0a K H S z vs->Q (.ref p) (upd H p (.lst vs)))->r x y H Q
def dOpF(f:F2L)(da db:TDE):TDF:=fun ρ Q=>da ρ fun x ρ1=>db ρ1 fun y ρ2=>need (a0i ρ2 x) fun dx=>need (a0i ρ2 y) fun dy=>need (f dx dy) fun z=>Q z ρ2
theorem d1a{r:R2}{f:F2L}{ta tb:TE}{da db:TDE}(hr:AdRF K r f)(ha:AdE K ta da)(hb:AdE K tb db):AdF K (tOp r ta tb) (dOpF f da db):=by
 intro c O ρ σ H Qd Q R h k
 refine ha c O ρ σ H _ _ R h fun x ρ1 O1 v H1 h1 R1 P1 a1=>?_
 refine hb c O1 ρ1 σ H1 _ _ R1 h1 fun y ρ2 O2 u H2 h2 R2 P2 a2=>?_
 obtain⟨dx,e1,hn3⟩:=ne (h2)
 obtain⟨dy,e2,hn4⟩:=ne (hn3)
 obtain⟨z,e3,h3⟩:=ne (hn4)
 refine hr (live c O2) H2 v u dx dy z Q (R2.top (a1.pers P2) e1) (R2.top a2 e2) e3 fun p vs hp a3=>?_
 obtain⟨R3,P3,f3,a4⟩:=R2.newL hp a3
 exact k _ _ _ _ _ _ h3 R3 ((P1.trans P2).trans P3) f3 a0c a4
noncomputable def fCat:F2L
 | .list xs,.list ys=>if xs.length + ys.length <= sizeLine then some (xs ++ ys) else none
 | _,_=>none
theorem c0s:AdRF K rCat fCat:=by
 intro S H x y dx dy z Q hx hy e k
 unfold fCat at e
 split at e
 ·split at e
  ·rename_i hc
   cases e
   obtain⟨a,vs,rfl,h1,h2⟩:=hx.list
   obtain⟨b,ws,rfl,h3,h4⟩:=hy.list
   exact⟨a,b,vs,ws,rfl,rfl,h1,h3,by rw [h2.length,h4.length];exact hc,fun p hp=>k p _ hp (h2.append h4)⟩
  ·cases e
 ·cases e
noncomputable def a1w(ρ:Rho):List DV->Option (List PyData)
 | []=>some []
 | x :: xs=>(a0i ρ x).bind fun y=>(a1w ρ xs).map (y :: ·)
noncomputable def AtTs(K:W.Frag)(H:Hp)(S:Addr->Prop):List PyData->List V->Prop:=Paired (AtT K H S)
theorem Rel.tops(R:Rel K c O ρ σ H){xs:List DV}:∀ {vs:List V} {ds:List PyData},AtVs K (live c O) σ H xs vs->a1w ρ xs=some ds->AtTs K H (live c O) ds vs:=by
 induction xs with
 | nil =>
  intro vs ds a e
  cases a;cases e;exact .nil
 | cons x xs ih =>
  intro vs ds a e
  cases a with
  | cons a as =>
   unfold a1w at e
   cases q:a0i ρ x with
   | none=>rw [q] at e;cases e
   | some y =>
    rw [q] at e
    have e':(a1w ρ xs).map (y :: ·)=some ds:=e
    cases q2:a1w ρ xs with
    | none=>rw [q2] at e';cases e'
    | some ys =>
     rw [q2] at e'
     cases e'
     exact .cons (R.top a q) (ih as q2)
abbrev FC:=List PyData->Option PyData
abbrev FCL:=List PyData->Option (List PyData)
def AdC(K:W.Frag)(r:List V->Hp->VK->Prop)(f:FC):Prop:=∀ (S:Addr->Prop) (H:Hp) (vs:List V) (ds:List PyData) (z:PyData) (Q:VK),Frs S H->AtTs K H S ds vs->f ds=some z ->
 (∀ v H',Same H H'->AtD K H' S z v->Q v H')->r vs H Q
def AdCF(K:W.Frag)(r:List V->Hp->VK->Prop)(f:FCL):Prop:=∀ (S:Addr->Prop) (H:Hp) (vs:List V) (ds:List PyData) (z:List PyData) (Q:VK),AtTs K H S ds vs->f ds=some z ->
 (∀ p ws,H p=none->a0a K H S z ws->Q (.ref p) (upd H p (.lst ws)))->r vs H Q
def dCB(f:FC)(da:TDA):TDE:=fun ρ Q=>da ρ fun xs ρ1=>need (a1w ρ1 xs) fun ds=>need (f ds) fun z=>Q (.d z) ρ1
def dCBF(f:FCL)(da:TDA):TDF:=fun ρ Q=>da ρ fun xs ρ1=>need (a1w ρ1 xs) fun ds=>need (f ds) fun z=>Q z ρ1
theorem c5x{r:List V->Hp->VK->Prop}{f:FC}{ta:TA}{da:TDA}(hr:AdC K r f)(ha:AdA K ta da):AdE K (tCB r ta) (dCB f da):=by
 intro c O ρ σ H Qd Q R h k
 refine ha c O ρ σ H _ _ R h fun xs ρ1 O1 vs H1 h1 R1 P1 a1=>?_
 obtain⟨ds,e1,hn2⟩:=ne (h1)
 obtain⟨z,e2,h2⟩:=ne (hn2)
 refine hr (live c O1) H1 vs ds z Q R1.frsLive (R1.tops a1 e1) e2 fun v H2 s2 a2=>?_
 exact k _ _ _ _ _ h2 (R1.grow s2) (P1.trans (.same s2)) a2
theorem d1b{r:List V->Hp->VK->Prop}{f:FCL}{ta:TA}{da:TDA}(hr:AdCF K r f)(ha:AdA K ta da):AdF K (tCB r ta) (dCBF f da):=by
 intro c O ρ σ H Qd Q R h k
 refine ha c O ρ σ H _ _ R h fun xs ρ1 O1 vs H1 h1 R1 P1 a1=>?_
 obtain⟨ds,e1,hn1⟩:=ne (h1)
 obtain⟨z,e2,h2⟩:=ne (hn1)
 refine hr (live c O1) H1 vs ds z Q (R1.tops a1 e1) e2 fun p ws hp a2=>?_
 obtain⟨R3,P3,f3,a4⟩:=R1.newL hp a2
 exact k _ _ _ _ _ _ h2 R3 (P1.trans P3) f3 a0c a4
theorem AtTs.one{d:PyData}{vs:List V}(h:AtTs K H S [d] vs):∃ v,vs=[v]/\AtT K H S d v:=by
 cases h with
 | cons h t=>cases t;exact⟨_,rfl,h⟩
noncomputable def fLen:FC
 | [.list xs]=>some (.int xs.length)
 | [.tuple xs]=>some (.int xs.length)
 | [.str x]=>if x.length <= sizeLine then some (.int x.length) else none
 | _=>none
noncomputable def b6n(K:W.Frag):List V->Hp->VK->Prop:=fun xs H Q=>(∃ p ys,xs=[.ref p]/\(SqL K H p ys ∨ SqT K H p ys)/\Q (.int ys.length) H) ∨ (∃ z,xs=[.str z]/\z.length <= sizeLine/\Q (.int z.length) H)
theorem a4t{X:Cx}:a1k X (.builtin "len") (b6n X.K):=a2v.or b4a
theorem b0v:AdC K (b6n K) fLen:=by
 intro S H vs ds z Q f h e k
 unfold fLen at e
 split at e
 ·cases e
  obtain⟨v,rfl,h1⟩:=h.one
  obtain⟨a,ws,rfl,h2,h3⟩:=h1.list
  exact .inl ⟨a,ws,rfl,.inl (SqL.of h2),by rw [h3.length];exact k _ _ (Same.refl _) (a1v _)⟩
 ·cases e
  obtain⟨v,rfl,h1⟩:=h.one
  obtain⟨a,ws,rfl,h2,h3⟩:=h1.tup
  exact .inl ⟨a,ws,rfl,.inr h2,by rw [h3.length];exact k _ _ (Same.refl _) (a1v _)⟩
 ·split at e
  ·rename_i hc
   cases e
   obtain⟨v,rfl,h1⟩:=h.one
   rw [h1.str]
   exact .inr ⟨_,rfl,hc,k _ _ (Same.refl _) (a1v _)⟩
  ·cases e
 ·cases e
noncomputable def b0w:FC
 | [.list xs]=>some (.tuple xs)
 | [.tuple xs]=>some (.tuple xs)
 | _=>none
theorem c3e:AdC K (fun xs H Q=>∃ p ys,xs=[.ref p]/\((SqL K H p ys/\∀ l,H l=none->Q (.ref l) (upd H l (.tup ys))) ∨ (SqT K H p ys/\Q (.ref p) H))) b0w:=by
 intro S H vs ds z Q f h e k
 unfold b0w at e
 split at e
 ·cases e
  obtain⟨v,rfl,h1⟩:=h.one
  obtain⟨a,ws,rfl,h2,h3⟩:=h1.list
  exact⟨a,ws,rfl,.inl ⟨SqL.of h2,fun l hl=>k _ _ (a0l hl _) (a7o hl h3)⟩⟩
 ·cases e
  obtain⟨v,rfl,h1⟩:=h.one
  obtain⟨a,ws,rfl,h2,h3⟩:=h1.tup
  exact⟨a,ws,rfl,.inr ⟨h2,k _ _ (Same.refl _) (a1z h2 h3)⟩⟩
 ·cases e
noncomputable def b3l:FCL
 | [.list xs]=>some xs
 | [.tuple xs]=>some xs
 | _=>none
theorem c7d:AdCF K (fun xs H Q=>∃ p ys,xs=[.ref p]/\(SqL K H p ys ∨ SqT K H p ys)/\∀ l,H l=none->Q (.ref l) (upd H l (.lst ys))) b3l:=by
 intro S H vs ds z Q h e k
 unfold b3l at e
 split at e
 ·cases e
  obtain⟨v,rfl,h1⟩:=h.one
  obtain⟨a,ws,rfl,h2,h3⟩:=h1.list
  exact⟨a,ws,rfl,.inl (SqL.of h2),fun l hl=>k _ _ hl h3⟩
 ·cases e
  obtain⟨v,rfl,h1⟩:=h.one
  obtain⟨a,ws,rfl,h2,h3⟩:=h1.tup
  exact⟨a,ws,rfl,.inr h2,fun l hl=>k _ _ hl h3⟩
 ·cases e
end
section
variable{X:Cx}{a b e:Expr}{es:List Expr}{da db de:TDE}{daa:TDA}{pos:Pos}
theorem a0g:DA X [] dNil:=⟨_,a0h,d0x⟩
theorem a0b(he:DE X e de)(ha:DA X es daa)(hs:starEach (e :: es) X.env=(false,eval e X.env) :: starEach es X.env:=by rfl):DA X (e :: es) (b8e de daa):=by
 obtain⟨te,p1,a1⟩:=he
 obtain⟨ta,p2,a2⟩:=ha
 exact⟨_,a0e p1 p2 hs,c7c a1 a2⟩
theorem a7b{x1}(ha:DA X es daa):DE X (.Tuple es x1 pos) (dTup daa):=by obtain⟨t,p,a⟩:=ha;exact⟨_,b0m p,d0y a⟩
theorem a5d(ha:DA X es daa):DF X (.List es pos) (dLst daa):=by obtain⟨t,p,a⟩:=ha;exact⟨_,c0g p,d0z a⟩
theorem a2e{df:TDF}(h:DF X e df):DE X e (dFz df):=by obtain⟨t,p,a⟩:=h;exact⟨t,p,ad_fz a⟩
theorem c5y{op:Operator}{r:R2}{f:F2L}(ho:OpR X (binaryOp op) r)(hr:AdRF X.K r f)(ha:DE X a da)(hb:DE X b db):DF X (.BinOp a op b pos) (dOpF f da db):=by
 obtain⟨ta,pa,aa⟩:=ha
 obtain⟨tb,pb,ab⟩:=hb
 exact⟨_,a1l ho pa pb,d1a hr aa ab⟩
theorem a4n{x:Str}{p:Pos}{id:String}{r:List V->Hp->VK->Prop}{f:FC}(hc:a1k X (.builtin id) r)(hr:AdC X.K r f)(hg:Gl X x)(hm:X.mg x=none)(hv:bootBuiltins x=some (.builtin id))(ha:DA X (e :: es) daa) (hn:x ≠ "__name__":=by decide) (hdb:(x == ("__debug__" : Str))=false:=by decide)
  (he:starEach (e :: es) X.env=(false,eval e X.env) :: starEach es X.env:=by rfl) (hpl:(backTo pos (starEach es X.env)).any (·.1)=false:=by rfl):DE X (.Call (.Name x p) (e :: es) [] pos) (dCB f daa):=by
 obtain⟨ta,pa,aa⟩:=ha
 exact⟨_,a2u hc hg hm hv pa hn hdb he hpl,c5x hr aa⟩
theorem a1u{x:Str}{p:Pos}{T:String}{r:List V->Hp->VK->Prop}{f:FC}(hc:a1k X (.type T) r)(hr:AdC X.K r f)(hg:Gl X x)(hm:X.mg x=none)(hv:bootBuiltins x=some (.type T))(ha:DA X (e :: es) daa) (hn:x ≠ "__name__":=by decide) (hdb:(x == ("__debug__" : Str))=false:=by decide)
  (he:starEach (e :: es) X.env=(false,eval e X.env) :: starEach es X.env:=by rfl) (hpl:(backTo pos (starEach es X.env)).any (·.1)=false:=by rfl):DE X (.Call (.Name x p) (e :: es) [] pos) (dCB f daa):=by
 obtain⟨ta,pa,aa⟩:=ha
 exact⟨_,a2g hc hg hm hv pa hn hdb he hpl,c5x hr aa⟩
theorem c0t{x:Str}{p:Pos}{T:String}{r:List V->Hp->VK->Prop}{f:FCL}(hc:a1k X (.type T) r)(hr:AdCF X.K r f)(hg:Gl X x)(hm:X.mg x=none)(hv:bootBuiltins x=some (.type T))(ha:DA X (e :: es) daa) (hn:x ≠ "__name__":=by decide) (hdb:(x == ("__debug__" : Str))=false:=by decide)
  (he:starEach (e :: es) X.env=(false,eval e X.env) :: starEach es X.env:=by rfl) (hpl:(backTo pos (starEach es X.env)).any (·.1)=false:=by rfl):DF X (.Call (.Name x p) (e :: es) [] pos) (dCBF f daa):=by
 obtain⟨ta,pa,aa⟩:=ha
 exact⟨_,a2g hc hg hm hv pa hn hdb he hpl,d1b hr aa⟩
end
end L2
end
section
namespace L2
open PySem PySem.Spec PyProof.Rows
section
variable{K:W.Frag}{c:Rc}{O:Own}{ρ:Rho}{σ:St}{H H':Hp}{S S':Addr->Prop}
noncomputable def asB:PyData->Option Bool
 | .bool b=>some b
 | _=>none
def dB(de:TDE):TDT:=fun ρ Q=>de ρ fun x ρ1=>need (a0i ρ1 x) fun d=>need (asB d) fun b=>Q b ρ1
theorem ad_b{t:TE}{de:TDE}(h:AdE K t de):AdT K (fun σ H Q=>t σ H fun x H'=>∃ k,x=.bl k/\Q k H') (dB de):=by
 intro c O ρ σ H Qd Q R h0 k
 refine h c O ρ σ H _ _ R h0 fun x ρ1 O1 v H1 h1 R1 P1 a1=>?_
 obtain⟨d,e1,hn12⟩:=ne (h1)
 obtain⟨b,e2,h2⟩:=ne (hn12)
 have a2:=R1.top a1 e1
 cases d with
 | bool b'=>cases e2;exact⟨b,a2.bool,k _ _ _ _ h2 R1 P1⟩
 | _=>cases e2
noncomputable def tru:PyData->Option Bool
 | .none=>some false
 | .bool b=>some b
 | .int i=>some (i != 0)
 | .str x=>if x.length <= sizeLine then some ((x.length:Int) != 0) else none
 | .list xs=>some (!xs.isEmpty)
 | .tuple xs=>some (!xs.isEmpty)
 | .dict _=>none
def dTru(de:TDE):TDT:=fun ρ Q=>de ρ fun x ρ1=>need (a0i ρ1 x) fun d=>need (tru d) fun b=>Q b ρ1
theorem a0a.empty{ds:List PyData}{vs:List V}(h:a0a K H S ds vs):(!vs.isEmpty) = !ds.isEmpty:=by
 have:=h.length
 cases ds<;>cases vs<;>simp at this ⊢
theorem d1c{t:TE}{de:TDE}(h:AdE K t de):AdT K (fun σ H Q=>t σ H fun x H'=>∃ k,TruV K x H' k/\Q k H') (dTru de):=by
 intro c O ρ σ H Qd Q R h0 k
 refine h c O ρ σ H _ _ R h0 fun x ρ1 O1 v H1 h1 R1 P1 a1=>?_
 obtain⟨d,e1,hn11⟩:=ne (h1)
 obtain⟨b,e2,h2⟩:=ne (hn11)
 have a2:=R1.top a1 e1
 refine⟨b,?_,k _ _ _ _ h2 R1 P1⟩
 cases d with
 | none=>cases e2;rw [a2.none];rfl
 | bool b'=>cases e2;rw [a2.bool];rfl
 | int i=>cases e2;rw [a2.int];rfl
 | str x =>
  simp only [tru] at e2
  split at e2
  ·rename_i hc
   cases e2;rw [a2.str];exact⟨hc,rfl⟩
  ·cases e2
 | list xs =>
  cases e2
  obtain⟨a,vs,rfl,h3,h4⟩:=a2.list
  exact .inl ⟨vs,SqL.of h3,h4.empty.symm⟩
 | tuple xs =>
  cases e2
  obtain⟨a,vs,rfl,h3,h4⟩:=a2.tup
  exact .inr (.inl ⟨vs,h3,h4.empty.symm⟩)
 | dict _=>cases e2
def dOr(t u:TDT):TDT:=fun ρ Q=>t ρ fun b ρ1=>if b=true then Q true ρ1 else u ρ1 Q
def dNot(t:TDT):TDT:=fun ρ Q=>t ρ fun b ρ1=>Q (!b) ρ1
theorem ad_or{t u:TT}{dt du:TDT}(h:AdT K t dt)(h':AdT K u du):AdT K (tOr t u) (dOr dt du):=by
 intro c O ρ σ H Qd Q R h0 k
 refine h c O ρ σ H _ _ R h0 fun b ρ1 O1 H1 h1 R1 P1=>?_
 cases b with
 | true=>rw [if_pos rfl] at h1 ⊢;exact k _ _ _ _ h1 R1 P1
 | false=>rw [if_neg Bool.false_ne_true] at h1 ⊢;exact h' c O1 ρ1 σ H1 _ _ R1 h1 fun b ρ2 O2 H2 h2 R2 P2=>k _ _ _ _ h2 R2 (P1.trans P2)
theorem d1d{t:TT}{dt:TDT}(h:AdT K t dt):AdT K (tNot t) (dNot dt):=by
 intro c O ρ σ H Qd Q R h0 k
 exact h c O ρ σ H _ _ R h0 fun b ρ1 O1 H1 h1 R1 P1=>k _ _ _ _ h1 R1 P1
def dIfE(c:TDT)(a b:TDE):TDE:=fun ρ Q=>c ρ fun k ρ1=>if k=true then a ρ1 Q else b ρ1 Q
theorem d1e{t:TT}{ta tb:TE}{dt:TDT}{da db:TDE}(h:AdT K t dt)(ha:AdE K ta da)(hb:AdE K tb db):AdE K (tIf t ta tb) (dIfE dt da db):=by
 intro c O ρ σ H Qd Q R h0 k
 refine h c O ρ σ H _ _ R h0 fun b ρ1 O1 H1 h1 R1 P1=>?_
 cases b with
 | true=>rw [if_pos rfl] at h1 ⊢;exact ha c O1 ρ1 σ H1 _ _ R1 h1 fun x ρ2 O2 v H2 h2 R2 P2 a2=>k _ _ _ _ _ h2 R2 (P1.trans P2) a2
 | false=>rw [if_neg Bool.false_ne_true] at h1 ⊢;exact hb c O1 ρ1 σ H1 _ _ R1 h1 fun x ρ2 O2 v H2 h2 R2 P2 a2=>k _ _ _ _ _ h2 R2 (P1.trans P2) a2
theorem b4g:AtV K S σ H (.d .none) .non:=(a7n:AtD K H S .none .non)
theorem a4o{b:Bool}:AtV K S σ H (.d (.bool b)) (.bl b):=(a1j b:AtD K H S (.bool b) (.bl b))
def b8f(a b:TDE):TDE:=fun ρ Q=>a ρ fun x ρ1=>need (a0i ρ1 x) fun d=>need (asB d) fun k=>if k=true then b ρ1 Q else Q (.d (.bool false)) ρ1
def dOrV(a b:TDE):TDE:=fun ρ Q=>a ρ fun x ρ1=>need (a0i ρ1 x) fun d=>need (asB d) fun k=>if k=true then Q (.d (.bool true)) ρ1 else b ρ1 Q
theorem b0x{d:PyData}{v:V}{b:Bool}(h:AtT K H S d v)(e:asB d=some b):v=.bl b:=by
 cases d with
 | bool b'=>cases e;exact h.bool
 | _=>cases e
theorem c7e{ta tb:TE}{da db:TDE}(ha:AdE K ta da)(hb:AdE K tb db):AdE K (c5l ta tb) (b8f da db):=by
 intro c O ρ σ H Qd Q R h0 k
 refine ha c O ρ σ H _ _ R h0 fun x ρ1 O1 v H1 h1 R1 P1 a1=>?_
 obtain⟨d,e1,hn10⟩:=ne (h1)
 obtain⟨b,e2,h2⟩:=ne (hn10)
 refine⟨b,b0x (R1.top a1 e1) e2,?_⟩
 cases b with
 | true=>rw [if_pos rfl] at h2 ⊢;exact hb c O1 ρ1 σ H1 _ _ R1 h2 fun x ρ2 O2 v H2 h2 R2 P2 a2=>k _ _ _ _ _ h2 R2 (P1.trans P2) a2
 | false=>rw [if_neg Bool.false_ne_true] at h2 ⊢;exact k _ _ _ _ _ h2 R1 P1 a4o
theorem d1f{ta tb:TE}{da db:TDE}(ha:AdE K ta da)(hb:AdE K tb db):AdE K (tOrV ta tb) (dOrV da db):=by
 intro c O ρ σ H Qd Q R h0 k
 refine ha c O ρ σ H _ _ R h0 fun x ρ1 O1 v H1 h1 R1 P1 a1=>?_
 obtain⟨d,e1,hn9⟩:=ne (h1)
 obtain⟨b,e2,h2⟩:=ne (hn9)
 refine⟨b,b0x (R1.top a1 e1) e2,?_⟩
 cases b with
 | true=>rw [if_pos rfl] at h2 ⊢;exact k _ _ _ _ _ h2 R1 P1 a4o
 | false=>rw [if_neg Bool.false_ne_true] at h2 ⊢;exact hb c O1 ρ1 σ H1 _ _ R1 h2 fun x ρ2 O2 v H2 h2 R2 P2 a2=>k _ _ _ _ _ h2 R2 (P1.trans P2) a2
def b8g(a:TDE):TDE:=fun ρ Q=>a ρ fun x ρ1=>need (a0i ρ1 x) fun d=>need (asB d) fun k=>Q (.d (.bool (!k))) ρ1
theorem c7f{ta:TE}{da:TDE}(ha:AdE K ta da):AdE K (c5m ta) (b8g da):=by
 intro c O ρ σ H Qd Q R h0 k
 refine ha c O ρ σ H _ _ R h0 fun x ρ1 O1 v H1 h1 R1 P1 a1=>?_
 obtain⟨d,e1,hn8⟩:=ne (h1)
 obtain⟨b,e2,h2⟩:=ne (hn8)
 exact⟨b,b0x (R1.top a1 e1) e2,k _ _ _ _ _ h2 R1 P1 a4o⟩
def b4h(f f':F2)(da db dc:TDE):TDE:=fun ρ Q=>da ρ fun x ρ1=>db ρ1 fun y ρ2=>need (a0i ρ2 x) fun dx=>need (a0i ρ2 y) fun dy=>need (f dx dy) fun z=>need (asB z) fun k =>
 if k=true then dc ρ2 fun w ρ3=>need (a0i ρ3 y) fun dy=>need (a0i ρ3 w) fun dw=>need (f' dy dw) fun z'=>Q (.d z') ρ3 else Q (.d (.bool false)) ρ2
theorem c3f{r r':R2}{f f':F2}{ta tb tc:TE}{da db dc:TDE}(hr:AdR K r f)(hr':AdR K r' f')(ha:AdE K ta da)(hb:AdE K tb db)(hc:AdE K tc dc):AdE K (c0d r r' ta tb tc) (b4h f f' da db dc):=by
 intro c O ρ σ H Qd Q R h k
 refine ha c O ρ σ H _ _ R h fun x ρ1 O1 v H1 h1 R1 P1 a1=>?_
 refine hb c O1 ρ1 σ H1 _ _ R1 h1 fun y ρ2 O2 u H2 h2 R2 P2 a2=>?_
 obtain⟨dx,e1,hn7⟩:=ne (h2)
 obtain⟨dy,e2,hn17⟩:=ne (hn7)
 obtain⟨z,e3,hn20⟩:=ne (hn17)
 obtain⟨b,e4,h3⟩:=ne (hn20)
 refine hr (live c O2) H2 v u dx dy z _ R2.frsLive (R2.top (a1.pers P2) e1) (R2.top a2 e2) e3 fun w H3 s3 a3=>?_
 have R3:=R2.grow s3
 have P3:Pers K (live c O2) H2 (live c O2) H3:=.same s3
 refine⟨b,b0x (.inl a3) e4,?_⟩
 cases b with
 | false=>rw [if_neg Bool.false_ne_true] at h3 ⊢;exact k _ _ _ _ _ h3 R3 ((P1.trans P2).trans P3) a4o
 | true =>
  rw [if_pos rfl] at h3 ⊢
  refine hc c O2 ρ2 σ H3 _ _ R3 h3 fun w ρ4 O4 u4 H4 h4 R4 P4 a4=>?_
  obtain⟨dy',e5,hn26⟩:=ne (h4)
  obtain⟨dw,e6,hn28⟩:=ne (hn26)
  obtain⟨z',e7,h5⟩:=ne (hn28)
  refine hr' (live c O4) H4 u u4 dy' dw z' Q R4.frsLive (R4.top ((a2.pers P3).pers P4) e5) (R4.top a4 e6) e7 fun w5 H5 s5 a5=>?_
  exact k _ _ _ _ _ h5 (R4.grow s5) ((((P1.trans P2).trans P3).trans P4).trans (.same s5)) a5
end
section
variable{X:Cx}{a b c e:Expr}{rest:List Expr}{da db dc de:TDE}{dt du:TDT}{pos:Pos}
theorem a6d(h:DE X e de)(he:∀ whole,isTrue e X.env whole=(do let v ← whole;standAt e.pos;holding [v] (truthy v)):=by intro _;rfl):DT X e (dB de):=by
 obtain⟨t,p,a⟩:=h
 exact⟨_,b0h p he,ad_b a⟩
theorem c3g(h:DE X e de)(he:∀ whole,isTrue e X.env whole=(do let v ← whole;standAt e.pos;holding [v] (truthy v)):=by intro _;rfl):DT X e (dTru de):=by
 obtain⟨t,p,a⟩:=h
 exact⟨_,c2s p he,d1c a⟩
theorem a3x{op:CmpOp}{r:R2}{f:F2}(ho:OpR X (compareOp op) r)(hr:AdR X.K r f)(ha:DE X a da)(hb:DE X b db)(hm:behindInMarks op b=false):DT X (.Compare a [op] [b] pos) (dB (dOp f da db)):=by
 obtain⟨ta,pa,aa⟩:=ha
 obtain⟨tb,pb,ab⟩:=hb
 exact⟨_,a5t ho pa pb hm,ad_b (b3k hr aa ab)⟩
theorem c3h{op op':CmpOp}{r r':R2}{f f':F2}(ho:OpR X (compareOp op) r)(hr:AdR X.K r f)(ho':OpR X (compareOp op') r')(hr':AdR X.K r' f')(ha:DE X a da)(hb:DE X b db)(hc:DE X c dc)
  (hm:lastMarks [op,op'] [b,c]=false:=by with_unfolding_all rfl):DT X (.Compare a [op,op'] [b,c] pos) (dB (b4h f f' da db dc)):=by
 obtain⟨ta,pa,aa⟩:=ha
 obtain⟨tb,pb,ab⟩:=hb
 obtain⟨tc,pc,ac⟩:=hc
 exact⟨_,c2r ho ho' pa pb pc hm,ad_b (c3f hr hr' aa ab ac)⟩
theorem DW.toT(h:DW X e dt):DT X e dt:=by obtain⟨t,p,a⟩:=h;exact⟨t,p.pt,a⟩
theorem b0y(ha:DT X a dt):DW X (.BoolOp .Or [a] pos) dt:=by obtain⟨t,p,a⟩:=ha;exact⟨t,b9z p,a⟩
theorem b3m(ha:DT X a dt)(hb:DW X (.BoolOp .Or (b :: rest) pos) du):DW X (.BoolOp .Or (a :: b :: rest) pos) (dOr dt du):=by obtain⟨_,p,a⟩:=ha;obtain⟨_,p',a'⟩:=hb;exact⟨_,c5k p p',ad_or a a'⟩
theorem a8l(ha:DT X a dt):DT X (.UnaryOp .Not a pos) (dNot dt):=by obtain⟨_,p,a⟩:=ha;exact⟨_,b3v p,d1d a⟩
theorem a7c{op}(h:DE X a da):DE X (.BoolOp op [a] pos) da:=by obtain⟨t,p,a⟩:=h;exact⟨t,b3w p,a⟩
theorem a7d(ha:DE X a da)(hb:DE X (.BoolOp .And (b :: rest) pos) db):DE X (.BoolOp .And (a :: b :: rest) pos) (b8f da db):=by obtain⟨_,p,a⟩:=ha;obtain⟨_,p',a'⟩:=hb;exact⟨_,d0f p p',c7e a a'⟩
theorem de_or(ha:DE X a da)(hb:DE X (.BoolOp .Or (b :: rest) pos) db):DE X (.BoolOp .Or (a :: b :: rest) pos) (dOrV da db):=by obtain⟨_,p,a⟩:=ha;obtain⟨_,p',a'⟩:=hb;exact⟨_,b7i p p',d1f a a'⟩
theorem d1g(ha:DE X a da):DE X (.UnaryOp .Not a pos) (b8g da):=by obtain⟨_,p,a⟩:=ha;exact⟨_,d0g p,c7f a⟩
theorem b0z(hc:DT X c dt)(ha:DE X a da)(hb:DE X b db):DE X (.IfExp c a b pos) (dIfE dt da db):=by obtain⟨_,p,a⟩:=hc;obtain⟨_,p',a'⟩:=ha;obtain⟨_,p2,a2⟩:=hb;exact⟨_,a9x p p' p2,d1e a a' a2⟩
end
inductive RV where
 | d (x:PyData)
 | new (xs:List PyData)
structure DEnds where
 nx:Rho->Prop
 rt:RV->Rho->Prop
 bk:Rho->Prop:=fun _=>False
 ct:Rho->Prop:=fun _=>False
abbrev TDS:=DEnds->Rho->Prop
noncomputable def b3n(K:W.Frag)(c:Rc)(O:Own)(ρ:Rho)(σ:St)(H:Hp):RV->V->Prop
 | .d x,v=>Rel K c O ρ σ H/\AtD K H (live c O) x v
 | .new xs,v=>∃ p vs,v=.ref p/\Rel K (c.add p) O ρ σ H/\a9i c O p/\H p=some (.lst vs)/\a0a K H (live (c.add p) O) xs vs
structure EndsOk(K:W.Frag)(c:Rc)(S0:Addr->Prop)(H0:Hp)(D:Ends)(Dd:DEnds):Prop where
 nx:∀ O ρ σ H,Rel K c O ρ σ H->Pers K S0 H0 (live c O) H->Dd.nx ρ->D.nx σ H
 rt:∀ r O ρ σ H v,b3n K c O ρ σ H r v->Dd.rt r ρ->D.rt v H
 bk:∀ O ρ σ H,Rel K c O ρ σ H->Pers K S0 H0 (live c O) H->Dd.bk ρ->D.bk σ H
 ct:∀ O ρ σ H,Rel K c O ρ σ H->Pers K S0 H0 (live c O) H->Dd.ct ρ->D.ct σ H
 mb:∀ p,c.M p->c.B p
 oa:∀ p,c.H0 p=none->c.A p
theorem EndsOk.later{K:W.Frag}{c:Rc}{S0 S1:Addr->Prop}{H0 H1:Hp}{D:Ends}{Dd:DEnds}(E:EndsOk K c S0 H0 D Dd)(P:Pers K S0 H0 S1 H1):EndsOk K c S1 H1 D Dd:=
 ⟨fun O ρ σ H R q=>E.nx O ρ σ H R (P.trans q),E.rt,fun O ρ σ H R q=>E.bk O ρ σ H R (P.trans q),fun O ρ σ H R q=>E.ct O ρ σ H R (P.trans q),E.mb,E.oa⟩
def AdS(K:W.Frag)(t:TS)(dt:TDS):Prop:=∀ (c:Rc) (O:Own) (ρ:Rho) (σ:St) (H:Hp) (D:Ends) (Dd:DEnds),Rel K c O ρ σ H->EndsOk K c (live c O) H D Dd->dt Dd ρ->t D σ H
def DS(X:Cx)(st:Stmt)(dt:TDS):Prop:=∃ t,PS X st t/\AdS X.K t dt
def DSs(X:Cx)(st:List Stmt)(dt:TDS):Prop:=∃ t,PSs X st t/\AdS X.K t dt
section
variable{K:W.Frag}{c:Rc}{O:Own}{ρ:Rho}{σ:St}{H H':Hp}{S S':Addr->Prop}
def b8h:TDS:=fun D ρ=>D.nx ρ
def dSeq(t u:TDS):TDS:=fun D ρ=>t { D with nx:=u D } ρ
theorem c7g:AdS K c5n b8h:=fun c O ρ σ H D Dd R E h=>E.nx O ρ σ H R .refl h
theorem d1h{t u:TS}{dt du:TDS}(h:AdS K t dt)(h':AdS K u du):AdS K (tSeq t u) (dSeq dt du):=fun c O ρ σ H D Dd R E q =>
 h c O ρ σ H { D with nx:=u D } { Dd with nx:=du Dd } R ⟨fun O1 ρ1 σ1 H1 R1 P1 q1=>h' c O1 ρ1 σ1 H1 D Dd R1 (E.later P1) q1,E.rt,E.bk,E.ct,E.mb,E.oa⟩ q
def b8i(de:TDE):TDS:=fun D ρ=>de ρ fun _ ρ1=>D.nx ρ1
theorem c7h{t:TE}{de:TDE}(h:AdE K t de):AdS K (c5o t) (b8i de):=fun c O ρ σ H D Dd R E q =>
 h c O ρ σ H _ _ R q fun x ρ1 O1 v H1 h1 R1 P1 a1=>E.nx O1 ρ1 σ H1 R1 P1 h1
def dRet(de:TDE):TDS:=fun D ρ=>de ρ fun x ρ1=>fz ρ1 x fun y ρ2=>D.rt (.d y) ρ2
theorem d1i{t:TE}{de:TDE}(h:AdE K t de):AdS K (tRet t) (dRet de):=fun c O ρ σ H D Dd R E q =>
 h c O ρ σ H _ _ R q fun x ρ1 O1 v H1 h1 R1 P1 a1=>by
  obtain⟨y,ρ2,O2,h2,R2,P2,a2⟩:=R1.fz a1 h1
  exact E.rt (.d y) O2 ρ2 σ H1 v ⟨R2,a2⟩ h2
def b8j(df:TDF):TDS:=fun D ρ=>df ρ fun xs ρ1=>D.rt (.new xs) ρ1
theorem c7i{t:TE}{df:TDF}(h:AdF K t df):AdS K (tRet t) (b8j df):=fun c O ρ σ H D Dd R E q =>
 h c O ρ σ H _ _ R q fun xs ρ1 O1 p vs H1 h1 R1 P1 f1 hp a1=>E.rt (.new xs) O1 ρ1 σ H1 _ ⟨p,vs,rfl,R1,f1,hp,a1⟩ h1
def dIf(c:TDT)(t u:TDS):TDS:=fun D ρ=>c ρ fun b ρ1=>if b=true then t D ρ1 else u D ρ1
theorem ad_if{tc:TT}{t u:TS}{dc:TDT}{dt du:TDS}(hc:AdT K tc dc)(h:AdS K t dt)(h':AdS K u du):AdS K (tIfS tc t u) (dIf dc dt du):=fun c O ρ σ H D Dd R E q =>
 hc c O ρ σ H _ _ R q fun b ρ1 O1 H1 h1 R1 P1=>by
  cases b with
  | true=>rw [if_pos rfl] at h1 ⊢;exact h c O1 ρ1 σ H1 D Dd R1 (E.later P1) h1
  | false=>rw [if_neg Bool.false_ne_true] at h1 ⊢;exact h' c O1 ρ1 σ H1 D Dd R1 (E.later P1) h1
def dSet(i:Nat)(de:TDE):TDS:=fun D ρ=>de ρ fun x ρ1=>fz ρ1 x fun y ρ2=>i < ρ2.length/\D.nx (ρ2.set i (some (.d y)))
theorem d1j{i:Nat}{t:TE}{de:TDE}(h:AdE K t de):AdS K (tAsg t (a3s i)) (dSet i de):=fun c O ρ σ H D Dd R E q =>
 h c O ρ σ H _ _ R q fun x ρ1 O1 v H1 h1 R1 P1 a1=>by
  obtain⟨y,ρ2,O2,⟨hi,h2⟩,R2,P2,a2⟩:=R1.fz a1 h1
  obtain⟨R3,P3⟩:=R2.setD hi a2
  exact E.nx _ _ _ H1 R3 ((P1.trans P2).trans P3) h2
def b3o(i:Nat)(df:TDF):TDS:=fun D ρ=>df ρ fun xs ρ1=>i < ρ1.length/\D.nx (ρ1.set i (some (.own xs)))
theorem b6o{i:Nat}{t:TE}{df:TDF}(h:AdF K t df):AdS K (tAsg t (a3s i)) (b3o i df):=fun c O ρ σ H D Dd R E q =>
 h c O ρ σ H _ _ R q fun xs ρ1 O1 p vs H1 h1 R1 P1 f1 hp a1=>by
  obtain⟨hi,h2⟩:=h1
  obtain⟨R3,P3⟩:=R1.setOwn hi f1.1 f1.2.1 f1.2.2.1 f1.2.2.2 (E.oa _ f1.1) hp a1
  exact E.nx _ _ _ H1 R3 (P1.trans P3) h2
abbrev TDG:=PyData->Rho->(Rho->Prop)->Prop
abbrev TDGs:=List PyData->Rho->(Rho->Prop)->Prop
def AdG(K:W.Frag)(g:TG)(dg:TDG):Prop:=∀ (c:Rc) (O:Own) (ρ:Rho) (σ:St) (H:Hp) (x:PyData) (v:V) (Qd:Rho->Prop) (Q:St->Hp->Prop),Rel K c O ρ σ H->AtD K H (live c O) x v->dg x ρ Qd ->
 (∀ O' ρ' σ' ,Rel K c O' ρ' σ' H->Pers K (live c O) H (live c O') H->Qd ρ'->Q σ' H)->g v σ H Q
def b4i(i:Nat):TDG:=fun x ρ Q=>i < ρ.length/\Q (ρ.set i (some (.d x)))
theorem c7j{i:Nat}:AdG K (a3s i) (b4i i):=fun c O ρ σ H x v Qd Q R a h k=>by
 obtain⟨R1,P1⟩:=R.setD h.1 a
 exact k _ _ _ R1 P1 h.2
noncomputable def c5z:TDGs:=fun xs ρ Q=>xs=[]/\Q ρ
def d1k(t:TDG)(u:TDGs):TDGs:=fun xs ρ Q=>match xs with
 | x :: r=>t x ρ fun ρ1=>u r ρ1 Q
 | []=>False
def dgTup(n:Nat)(t:TDGs):TDG:=fun x ρ Q=>match x with
 | .tuple xs=>xs.length=n/\t xs ρ Q
 | _=>False
inductive OK where | o | b
noncomputable def ownB(ρ:Rho)(i:Nat):Option (OK × List PyData):=match ρ[i]?.join with
 | some (.own xs)=>some (.o,xs)
 | some (.bor xs)=>some (.b,xs)
 | _=>none
noncomputable def okL:OK->List PyData->L
 | .o,xs=>.own xs
 | .b,xs=>.bor xs
theorem b1s{i:Nat}{o:OK}{xs:List PyData}(R:Rel K c O ρ σ H)(h:ownB ρ i=some (o,xs)):ρ[i]? = some (some (okL o xs))/\∃ p vs,O i=some p/\σ[i]? = some (some (.ref p))/\H p=some (.lst vs)/\a0a K H (live c O) xs vs:=by
 unfold ownB at h
 split at h
 ·rename_i ys e
  cases h
  have e':=a1b e
  obtain⟨p,vs,h1,_,h3,h4,h5⟩:=R.own i _ e'
  exact⟨e',p,vs,h1,h3,h4,h5⟩
 ·rename_i ys e
  cases h
  have e':=a1b e
  obtain⟨p,vs,h1,h3,h4,h5⟩:=R.bor i _ e'
  exact⟨e',p,vs,h1,h3,h4,h5⟩
 ·cases h
theorem Rel.writeB{i:Nat}{o:OK}{p:Addr}{xs ys:List PyData}{vs vs':List V}(R:Rel K c O ρ σ H)(hO:O i=some p)(hH:H p=some (.lst vs))(e:ρ[i]? = some (some (okL o xs)))(h:a0a K H (live c O) ys vs') :
  Rel K c O (ρ.set i (some (okL o ys))) σ (upd H p (.lst vs'))/\Pers K (live c O) H (live c O) (upd H p (.lst vs')):=by
 cases o with
 | o=>exact R.write hO hH (.inl e) (.inl ⟨ys,e,rfl,h⟩)
 | b=>exact R.write hO hH (.inr (.inl e)) (.inr (.inl ⟨ys,e,rfl,h⟩))
def b1t(i:Nat)(de:TDE):TDE:=fun ρ Q=>need (ownB ρ i) fun _=>de ρ fun x ρ1=>fz ρ1 x fun y ρ2=>need (ownB ρ2 i) fun o=>o.2.length <= 1000000/\Q (.d .none) (ρ2.set i (some (okL o.1 (o.2 ++ [y]))))
theorem c0u{i:Nat}{t:TE}{de:TDE}(h:AdE K t de):AdE K (tBM K "list" b6j (tVar i) (a1m t tNil)) (b1t i de):=by
 intro c O ρ σ H Qd Q R q k
 obtain⟨hz6,e,q⟩:=ne (q)
 obtain⟨o,xs⟩:=hz6
 obtain⟨e0,p,vs,hO,hσ,hH,hA⟩:=b1s R e
 refine⟨.ref p,hσ,.inl ⟨rfl,vs,SqL.of hH⟩,?_⟩
 refine h c O ρ σ H _ _ R q fun x ρ1 O1 v H1 h1 R1 P1 a1=>?_
 obtain⟨y,ρ2,O2,hz19,R2,P2,a2⟩:=R1.fz a1 h1
 obtain⟨hz23,e2,hn25⟩:=ne (hz19)
 obtain⟨hz,h2⟩:=hn25
 obtain⟨o2,xs2⟩:=hz23
 obtain⟨e3,p2,vs2,hO2,hσ2,hH2,hA2⟩:=b1s R2 e2
 rw [hσ] at hσ2;cases hσ2
 refine⟨p,vs2,v,rfl,rfl,hH2,by rw [hA2.length];exact mil hz,?_⟩
 obtain⟨R3,P3⟩:=R2.writeB hO2 hH2 e3 (hA2.snoc a2)
 exact k _ _ _ _ _ h2 R3 ((P1.trans P2).trans P3) b4g
def d1l(i:Nat)(di de:TDE):TDS:=fun D ρ=>de ρ fun x ρ1=>fz ρ1 x fun y ρ2=>need (ownB ρ2 i) fun _=>di ρ2 fun z ρ3=>need (a0i ρ3 z) fun dz=>need (asI dz) fun n=>need (ownB ρ3 i) fun o=>need (ixN o.2.length n) fun j=>D.nx (ρ3.set i (some (okL o.1 (o.2.set j y))))
 where asI:PyData->Option Int
  | .int i=>some i
  | _=>none
abbrev TDI:=Rho->(List PyData->Rho->Prop)->Prop
def a8m(K:W.Frag)(S:Addr->Prop)(H:Hp)(J:It)(xs:List PyData):Prop:=∀ (S':Addr->Prop) (H':Hp),Pers K S H S' H' ->
 (∀ (i:Nat) (x:PyData),xs[i]? = some x->J.go i H'/\∀ v H'',J.yld i H' v H''->Same H' H''/\AtD K H'' S' x v)/\J.stop xs.length H'
def AdI(K:W.Frag)(t:TI)(di:TDI):Prop:=∀ (c:Rc) (O:Own) (ρ:Rho) (σ:St) (H:Hp) (Qd:List PyData->Rho->Prop) (Q:It->Hp->Prop),Rel K c O ρ σ H->di ρ Qd ->
 (∀ xs ρ' O' J H',Qd xs ρ'->Rel K c O' ρ' σ H'->Pers K (live c O) H (live c O') H'->a8m K (live c O') H' J xs->Q J H')->t σ H Q
def DI(X:Cx)(tg iter:Expr)(di:TDI):Prop:=∃ t,PI X tg iter t/\AdI X.K t di
theorem b8k{a:Addr}{vs:List V}{xs:List PyData}(h1:SqT K H a vs)(h2:a0a K H S xs vs):a8m K S H (Itt K a) xs:=fun S' H' P=>by
 obtain⟨b,ws,e,h3,h4⟩:=a5b (P _ _ (a1z h1 h2))
 cases e
 refine⟨fun i x e=>?_,⟨ws,h3,by rw [h4.length];exact le_refl _⟩⟩
 obtain⟨w,e1,e2⟩:=h4.get e
 refine⟨⟨ws,w,h3,e1⟩,fun v H'' y=>?_⟩
 obtain⟨rfl,y⟩:=y
 have e3:=y ws h3
 rw [e1] at e3;cases e3
 exact⟨Same.refl _,e2⟩
theorem b8l{a:Addr}{vs:List V}{xs:List PyData}(hS:S a)(h1:H a=some (.lst vs))(h2:a0a K H S xs vs):a8m K S H (Itl K a) xs:=fun S' H' P=>by
 obtain⟨b,ws,e,_,h3,h4⟩:=a2x (P _ _ (a2y hS h1 h2))
 cases e
 refine⟨fun i x e=>?_,⟨ws,SqL.of h3,by rw [h4.length];exact le_refl _⟩⟩
 obtain⟨w,e1,e2⟩:=h4.get e
 refine⟨⟨ws,w,SqL.of h3,e1⟩,fun v H'' y=>?_⟩
 obtain⟨rfl,y⟩:=y
 have e3:=y ws (SqL.of h3)
 rw [e1] at e3;cases e3
 exact⟨Same.refl _,e2⟩
def b8m(de:TDE):TDI:=fun ρ Q=>de ρ fun x ρ1=>fz ρ1 x fun y ρ2=>need (seqD y) fun xs=>Q xs ρ2
theorem d1m{t:TE}{de:TDE}(h:AdE K t de):AdI K (iDat K t) (b8m de):=fun c O ρ σ H Qd Q R q k =>
 h c O ρ σ H _ _ R q fun x ρ1 O1 v H1 h1 R1 P1 a1=>by
  obtain⟨y,ρ2,O2,hz3,R2,P2,a2⟩:=R1.fz a1 h1
  obtain⟨xs,e,h2⟩:=ne (hz3)
  cases y with
  | list ys =>
   cases e
   obtain⟨a,vs,rfl,hS,h3,h4⟩:=a2x a2
   exact .inr ⟨a,rfl,⟨vs,SqL.of h3⟩,k _ _ _ _ _ h2 R2 (P1.trans P2) (b8l hS h3 h4)⟩
  | tuple ys =>
   cases e
   obtain⟨a,vs,rfl,h3,h4⟩:=a5b a2
   exact .inl ⟨a,rfl,⟨vs,h3⟩,k _ _ _ _ _ h2 R2 (P1.trans P2) (b8k h3 h4)⟩
  | _=>cases e
noncomputable def rngD(lo:Int)(n:Nat):List PyData:=(List.range n).map fun i=>.int (lo + (i:Nat))
theorem b8n{lo:Int}{n:Nat}:a8m K S H (Itr lo n) (rngD lo n):=fun S' H' P=>by
 have hl:(rngD lo n).length=n:=by simp [rngD]
 refine⟨fun i x e=>?_,by rw [hl];exact le_refl _⟩
 have hi:i < n:=by rw [← hl];exact(List.getElem?_eq_some_iff.mp e).1
 have ex:x=.int (lo + (i:Nat)):=by
  simp only [rngD,getElem?_map,List.getElem?_range hi,map_some] at e
  exact(Option.some.inj e).symm
 subst ex
 refine⟨hi,fun v H'' y=>?_⟩
 obtain⟨rfl,rfl⟩:=y
 exact⟨Same.refl _,a1v _⟩
noncomputable def asI:PyData->Option Int
 | .int i=>some i
 | _=>none
theorem c0v{d:PyData}{v:V}{i:Int}(h:AtT K H S d v)(e:asI d=some i):v=.int i:=by
 cases d with
 | int i'=>cases e;exact h.int
 | _=>cases e
def sm62(i:Int):Prop:=-(2 ^ 62) <= i/\i < 2 ^ 62
def b4j(de:TDE):TDI:=fun ρ Q=>de ρ fun x ρ1=>need (a0i ρ1 x) fun d=>need (asI d) fun j=>sm62 j/\Q (rngD 0 j.toNat) ρ1
theorem c7k{t:TE}{de:TDE}(h:AdE K t de):AdI K (c5p (a1m t tNil)) (b4j de):=fun c O ρ σ H Qd Q R q k =>
 h c O ρ σ H _ _ R q fun x ρ1 O1 v H1 h1 R1 P1 a1=>by
  obtain⟨d,e1,hn2⟩:=ne (h1)
  obtain⟨j,e2,hn14⟩:=ne (hn2)
  obtain⟨hj,h2⟩:=hn14
  have ev:=c0v (R1.top a1 e1) e2
  exact⟨j,by rw [ev],hj.1,hj.2,k _ _ _ _ _ h2 R1 P1 b8n⟩
def a3g(g:TDG)(b:TDS)(D:DEnds):List PyData->Rho->Prop
 | [],ρ=>D.nx ρ
 | x :: r,ρ=>g x ρ fun ρ1=>b { D with nx:=a3g g b D r,ct:=a3g g b D r,bk:=D.nx } ρ1
def dFor(di:TDI)(g:TDG)(b:TDS):TDS:=fun D ρ=>di ρ fun xs ρ1=>a3g g b D xs ρ1
theorem d1n{ti:TI}{tg:TG}{tb:TS}{di:TDI}{dg:TDG}{db:TDS}(hi:AdI K ti di)(hg:AdG K tg dg)(hb:AdS K tb db):AdS K (tFor ti tg tb) (dFor di dg db):=fun c O ρ σ H D Dd R E q =>
 hi c O ρ σ H _ _ R q fun xs ρ1 O1 J H1 h1 R1 P1 I1=>by
  refine⟨fun i m σ' H'=>m=xs.length - i/\i <= xs.length/\∃ O' ρ',Rel K c O' ρ' σ' H'/\Pers K (live c O1) H1 (live c O') H'/\a3g dg db Dd (xs.drop i) ρ',⟨xs.length,by simp,zero_le _,O1,ρ1,R1,.refl,by rw [List.drop_zero];exact h1⟩,?_⟩
  rintro i m σ2 H2 ⟨rfl,hle,O2,ρ2,R2,P2,h2⟩
  obtain⟨it,stop⟩:=I1 _ _ P2
  by_cases hlt:i < xs.length
  ·rw [List.drop_eq_getElem_cons hlt] at h2
   obtain⟨go,yld⟩:=it i xs[i] (getElem?_eq_getElem hlt)
   have h2':dg xs[i] ρ2 fun ρ1=>db { Dd with nx:=a3g dg db Dd (xs.drop (i + 1)),ct:=a3g dg db Dd (xs.drop (i + 1)),bk:=Dd.nx } ρ1:=h2
   refine .inr ⟨go,fun σ' H'=>∃ O' ρ',Rel K c O' ρ' σ' H'/\Pers K (live c O1) H1 (live c O') H'/\a3g dg db Dd (xs.drop (i + 1)) ρ',fun σ' H' hq8=>by obtain⟨O',ρ',R',P',q'⟩:=hq8;exact⟨xs.length - (i + 1),by omega,rfl,hlt,O',ρ',R',P',q'⟩,fun v H3 y=>?_⟩
   obtain⟨s3,a3⟩:=yld v H3 y
   refine hg c O2 ρ2 σ2 H3 xs[i] v _ _ (R2.grow s3) a3 h2' fun O4 ρ4 σ4 R4 P4 h4=>?_
   have P5:Pers K (live c O1) H1 (live c O4) H3:=(P2.trans (.same s3)).trans P4
   exact hb c O4 ρ4 σ4 H3 _ { Dd with nx:=a3g dg db Dd (xs.drop (i + 1)),ct:=a3g dg db Dd (xs.drop (i + 1)),bk:=Dd.nx } R4 ⟨fun O6 ρ6 σ6 H6 R6 P6 q6=>⟨O6,ρ6,R6,P5.trans P6,q6⟩,E.rt,fun O6 ρ6 σ6 H6 R6 P6=>E.nx _ _ _ _ R6 ((P1.trans P5).trans P6),fun O6 ρ6 σ6 H6 R6 P6 q6=>⟨O6,ρ6,R6,P5.trans P6,q6⟩,E.mb,E.oa⟩ h4
  ·have e:i=xs.length:=by omega
   subst e
   rw [List.drop_eq_nil_of_le (le_refl _)] at h2
   exact .inl ⟨stop,E.nx _ _ _ _ R2 (P1.trans P2) h2⟩
end
end L2
end
section
namespace L2
open PySem PySem.Spec PyProof.Rows
noncomputable def a5j:L->L->Option L
 | .own _,.bor xs=>some (.own xs)
 | .bor _,.bor xs=>some (.bor xs)
 | .tape _,.tape k=>some (.tape k)
 | _,_=>none
noncomputable def lend:L->L
 | .own xs=>.bor xs
 | l=>l
noncomputable def isOw:L->Bool
 | .own _=>true
 | .bor _=>true
 | .tape _=>true
 | _=>false
abbrev Lent:=Nat->Option Nat
section
variable{K:W.Frag}{c:Rc}{O:Own}{ρ:Rho}{σ:St}{H H':Hp}{S S':Addr->Prop}
theorem Rel.ow{i:Nat}{l:L}(R:Rel K c O ρ σ H)(h:ρ[i]? = some (some l))(ho:isOw l=true):∃ p,O i=some p/\σ[i]? = some (some (.ref p)):=by
 cases l with
 | own xs=>obtain⟨p,vs,h1,_,h3,_⟩:=R.own i xs h;exact⟨p,h1,h3⟩
 | bor xs=>obtain⟨p,vs,h1,h3,_⟩:=R.bor i xs h;exact⟨p,h1,h3⟩
 | tape k=>obtain⟨p,h1,h3,_⟩:=R.tap i k h;exact⟨p,h1,h3⟩
 | _=>cases ho
noncomputable def Holds(K:W.Frag)(c:Rc)(S:Addr->Prop)(H:Hp)(p:Addr):L->Prop
 | .own xs=>∃ vs,H p=some (.lst vs)/\a0a K H S xs vs
 | .bor xs=>∃ vs,H p=some (.lst vs)/\a0a K H S xs vs
 | .tape k=>H p=some (.lst [.ref c.sa,.int k])
 | _=>False
theorem Rel.holds{i:Nat}{l:L}(R:Rel K c O ρ σ H)(h:ρ[i]? = some (some l))(ho:isOw l=true):∃ p,O i=some p/\σ[i]? = some (some (.ref p))/\Holds K c (live c O) H p l/\(∀ xs,l=.own xs->a7p c p):=by
 cases l with
 | own xs=>obtain⟨p,vs,h1,h2,h3,h4,h5⟩:=R.own i xs h;exact⟨p,h1,h3,⟨vs,h4,h5⟩,fun _ _=>h2⟩
 | bor xs=>obtain⟨p,vs,h1,h3,h4,h5⟩:=R.bor i xs h;exact⟨p,h1,h3,⟨vs,h4,h5⟩,fun _ z=>nomatch z⟩
 | tape k=>obtain⟨p,h1,h3,h4⟩:=R.tap i k h;exact⟨p,h1,h3,h4,fun _ z=>nomatch z⟩
 | _=>cases ho
mutual
theorem AtD.inH(hs:∀ a,S a->H a ≠ none->S' a):∀ (d:PyData) (v:V),AtD K H S d v->AtD K H S' d v
 | .none,_,h=>by unfold AtD at h ⊢;exact h
 | .bool _,_,h=>by unfold AtD at h ⊢;exact h
 | .int _,_,h=>by unfold AtD at h ⊢;exact h
 | .str _,_,h=>by unfold AtD at h ⊢;exact h
 | .list ds,v,h=>by
  obtain⟨a,xs,e1,s,q,r⟩:=a2x h
  subst e1
  exact a2y (hs a s (by rw [q];exact fun z=>nomatch z)) q (a0a.inH hs ds xs r)
 | .tuple ds,v,h=>by
  obtain⟨a,xs,e1,q,r⟩:=a5b h
  subst e1
  exact a1z q (a0a.inH hs ds xs r)
 | .dict kvs,v,h=>by
  obtain⟨a,ν,e1,s,q,e2⟩:=a5u h
  subst e1
  exact b2n (hs a s (by rw [q];exact fun z=>nomatch z)) q (a0j.inH hs kvs ν e2)
theorem a0a.inH(hs:∀ a,S a->H a ≠ none->S' a):∀ (ds:List PyData) (vs:List V),a0a K H S ds vs->a0a K H S' ds vs
 | [],_,h=>by rw [h.unnil];exact .nil
 | d :: ds,vs,h=>by
  obtain⟨v,r,rfl,h1,h2⟩:=h.uncons
  exact .cons (AtD.inH hs d v h1) (a0a.inH hs ds r h2)
theorem a0j.inH(hs:∀ a,S a->H a ≠ none->S' a):∀ (kvs:List (PyData × PyData)) (κ:List (Key × V)),a0j K H S kvs κ->a0j K H S' kvs κ
 | [],_,h=>by rw [h.unnil];exact .nil
 | (x,d) :: r,κ,h=>by
  obtain⟨k,v,t,rfl,rfl,h1,h2⟩:=h.uncons
  exact .cons (AtD.inH hs d v h1) (a0j.inH hs r t h2)
end
noncomputable def a0r(O:Own)(ρ:Rho)(f:Lent):Own:=fun j=>(f j).bind fun i=>match ρ[i]?.join with
 | some l=>if isOw l then O i else none
 | none=>none
noncomputable def Rc.in(c:Rc)(O Oc:Own)(P:Addr->Prop)(b:Bool)(H:Hp):Rc:={ A:=fun p=>(∃ j,Oc j=some p) ∨ (b=true/\H p=none),H0:=H,S:=live c O,P:=P,M:=fun p=>∃ j,Oc j=some p,B:=fun p=>∃ j,Oc j=some p,lent:=Oc,sa:=c.sa,ns:=c.ns }
theorem a1f{f:Lent}{j:Nat}{p:Addr}(h:a0r O ρ f j=some p):∃ i l,f j=some i/\ρ[i]? = some (some l)/\isOw l=true/\O i=some p:=by
 unfold a0r at h
 cases e:f j with
 | none=>rw [e] at h;cases h
 | some i =>
  rw [e] at h
  have h':(match ρ[i]?.join with | some l=>if isOw l then O i else none | none=>none)=some p:=h
  split at h'
  ·rename_i l el
   split at h'
   ·rename_i ho
    exact⟨i,l,rfl,a1b el,ho,h'⟩
   ·cases h'
  ·cases h'
theorem b0b{f:Lent}{j i:Nat}{l:L}(e:f j=some i)(h:ρ[i]? = some (some l))(ho:isOw l=true):a0r O ρ f j=O i:=by
 unfold a0r
 rw [e]
 show(match ρ[i]?.join with | some l=>if isOw l then O i else none | none=>none)=O i
 rw [h]
 show(if isOw l then O i else none)=O i
 rw [if_pos ho]
structure Begins(K:W.Frag)(c:Rc)(O:Own)(ρ:Rho)(σ:St)(H:Hp)(f:Lent)(ρi:Rho)(σi:St):Prop where
 io:∀ (j:Nat) (l:L),ρi[j]? = some (some l)->isOw l=true->∃ i l0,f j=some i/\ρ[i]? = some (some l0)/\isOw l0=true/\l=lend l0/\σi[j]? = σ[i]?
 dat:∀ (j:Nat) (x:PyData),ρi[j]? = some (some (.d x))->∃ v,σi[j]? = some (some v)/\AtD K H (live c O) x v
 scr:∀ j:Nat,ρi[j]? = some (some .scr)->σi[j]? = some (some (.ref c.sa))
 inj:∀ j k i,f j=some i->f k=some i->j=k
 len:σi.length=ρi.length
theorem Rel.begin{b:Bool}{f:Lent}{ρi:Rho}{σi:St}{P:Addr->Prop}{H':Hp}(R:Rel K c O ρ σ H)(B:Begins K c O ρ σ H f ρi σi)(hs:Same H H')(hP:∀ p,P p->H p=none/\H' p ≠ none) :
  Rel K (c.in O (a0r O ρ f) P b H') (a0r O ρ f) ρi σi H'/\Pers K (live c O) H (live (c.in O (a0r O ρ f) P b H') (a0r O ρ f)) H':=by
 have hl:∀ a,live c O a->H a ≠ none->live (c.in O (a0r O ρ f) P b H') (a0r O ρ f) a:=fun a h n=>⟨h,fun z=>n (hP a z).1,fun j e=>by
  obtain⟨i,l,_,_,_,e2⟩:=a1f e
  exact h.2.2 i e2⟩
 have P1:Pers K (live c O) H (live (c.in O (a0r O ρ f) P b H') (a0r O ρ f)) H':=fun d v h =>
  AtD.mono hs.keep _ _ (AtD.inH hl d v h)
 refine⟨⟨fun j x e=>?_,fun j xs e=>?_,fun j xs e=>?_,fun j k e=>?_,fun j e=>B.scr j e,fun j k p e1 e2=>?_,fun j p e=>?_,fun p hp=>hp.elim .inl fun z=>.inr z.2,fun p hp=>?_,fun b o _ q=>q,fun b n=>n,fun p h=>?_,fun p h=>?_,fun j p e l h1 h2=>e,?_,B.len⟩,P1⟩
 ·obtain⟨v,h1,h2⟩:=B.dat j x e
  exact⟨v,h1,P1 _ _ h2⟩
 ·obtain⟨i,l0,_,h2,h3,h4,_⟩:=B.io j _ e rfl
  cases l0<;>cases h4
 ·obtain⟨i,l0,h1,h2,h3,h4,h5⟩:=B.io j _ e rfl
  obtain⟨p,e1,e2,e3,_⟩:=R.holds h2 h3
  have eO:a0r O ρ f j=some p:=(b0b h1 h2 h3).trans e1
  cases l0 with
  | own ys=>cases h4;obtain⟨vs,e4,e5⟩:=e3;exact⟨p,vs,eO,by rw [h5];exact e2,hs _ _ e4,P1.all e5⟩
  | bor ys=>cases h4;obtain⟨vs,e4,e5⟩:=e3;exact⟨p,vs,eO,by rw [h5];exact e2,hs _ _ e4,P1.all e5⟩
  | _=>cases h4
 ·obtain⟨i,l0,h1,h2,h3,h4,h5⟩:=B.io j _ e rfl
  obtain⟨p,e1,e2,e3,_⟩:=R.holds h2 h3
  have eO:a0r O ρ f j=some p:=(b0b h1 h2 h3).trans e1
  cases l0 with
  | tape k0=>cases h4;exact⟨p,eO,by rw [h5];exact e2,hs _ _ e3⟩
  | _=>cases h4
 ·obtain⟨i1,_,f1,_,_,o1⟩:=a1f e1
  obtain⟨i2,_,f2,_,_,o2⟩:=a1f e2
  have:=R.inj i1 i2 p o1 o2
  subst this
  exact B.inj j k i1 f1 f2
 ·obtain⟨i1,_,f1,_,_,o1⟩:=a1f e
  obtain⟨_,vs,h⟩:=R.has i1 p o1
  exact⟨.inl ⟨j,e⟩,vs,hs _ _ h⟩
 ·have hp':H p=none:=hs.free hp
  exact R.liveNew hp'
 ·obtain⟨j,e⟩:=h
  obtain⟨i1,_,f1,_,_,o1⟩:=a1f e
  obtain⟨_,vs,h⟩:=R.has i1 p o1
  exact⟨vs,hs _ _ h⟩
 ·rcases h with h | ⟨j,e⟩
  ·exact(hP p h).2
  ·obtain⟨i1,_,f1,_,_,o1⟩:=a1f e
   obtain⟨_,vs,h⟩:=R.has i1 p o1
   rw [hs _ _ h];exact fun z=>nomatch z
 ·exact R.sc.keep (S:=Any) hs.keep
end
end L2
end
section
namespace L2
open PySem PySem.Spec PyProof.Rows
noncomputable def a3y(ρi:Rho)(l0:L)(j:Nat):Option L:=(ρi[j]?.join).bind (a5j l0)
noncomputable def a3a(ρi:Rho)(j i:Nat)(ρ:Rho):Rho:=match ρ[i]?.join with
 | some l0=>if isOw l0 then ρ.set i (a3y ρi l0 j) else ρ
 | none=>ρ
noncomputable def fills(ρi:Rho):List (Nat × Nat)->Rho->Rho
 | [],ρ=>ρ
 | (j,i) :: r,ρ=>fills ρi r (a3a ρi j i ρ)
theorem b4k{ρi ρ:Rho}{j i k:Nat}(h:k ≠ i):(a3a ρi j i ρ)[k]? = ρ[k]?:=by
 unfold a3a
 split
 ·split
  ·exact getElem?_set_ne (Ne.symm h)
  ·rfl
 ·rfl
theorem c3i{ρi ρ:Rho}{j i:Nat}{l0:L}(h:ρ[i]? = some (some l0))(ho:isOw l0=true):(a3a ρi j i ρ)[i]? = some (a3y ρi l0 j):=by
 have hi:i < ρ.length:=(List.getElem?_eq_some_iff.mp h).1
 unfold a3a
 rw [h]
 show(if isOw l0 then ρ.set i (a3y ρi l0 j) else ρ)[i]? = _
 rw [if_pos ho,getElem?_set_self hi]
theorem c3j{ρi ρ:Rho}{j i:Nat}(h:∀ l0,ρ[i]? = some (some l0)->isOw l0=false):a3a ρi j i ρ=ρ:=by
 unfold a3a
 split
 ·rename_i l0 e
  rw [h l0 (a1b e)]
  rfl
 ·rfl
theorem c0w{ρi ρ:Rho}{j i:Nat}:(a3a ρi j i ρ).length=ρ.length:=by
 unfold a3a
 split
 ·split
  ·rw [length_set]
  ·rfl
 ·rfl
theorem b2q{ρi:Rho}:∀ {fl:List (Nat × Nat)} {ρ:Rho},(fills ρi fl ρ).length=ρ.length
 | [],_=>rfl
 | (j,i) :: r,ρ=>by unfold fills;rw [b2q,c0w]
theorem a4u{ρi:Rho}:∀ {fl:List (Nat × Nat)} {ρ:Rho} {k:Nat},(∀ j,(j,k) ∈ fl->∀ l0,ρ[k]? = some (some l0)->isOw l0=false)->(fills ρi fl ρ)[k]? = ρ[k]?
 | [],_,_,_=>rfl
 | (j,i) :: r,ρ,k,h=>by
  unfold fills
  by_cases hk:k=i
  ·subst hk
   have e:=c3j (ρi:=ρi) (j:=j) (h j mem_cons_self)
   rw [e]
   exact a4u fun j' m=>h j' (mem_cons_of_mem _ m)
  ·have e:=b4k (ρi:=ρi) (ρ:=ρ) (j:=j) hk
   rw [a4u (ρ:=a3a ρi j i ρ) (fun j' m l0 q=>h j' (mem_cons_of_mem _ m) l0 (by rw [← e];exact q)),e]
theorem b4l{ρi:Rho}:∀ {fl:List (Nat × Nat)} {ρ:Rho} {j i:Nat} {l0:L},(fl.map (·.2)).Nodup->(j,i) ∈ fl->ρ[i]? = some (some l0)->isOw l0=true->(fills ρi fl ρ)[i]? = some (a3y ρi l0 j)
 | (j',i') :: r,ρ,j,i,l0,nd,m,h,ho=>by
  rw [map_cons,nodup_cons] at nd
  unfold fills
  rcases mem_cons.mp m with e | m2
  ·cases e
   rw [a4u fun j2 m2=>absurd (mem_map.mpr ⟨(j2,_),m2,rfl⟩) nd.1]
   exact c3i h ho
  ·have ne:i ≠ i':=by
    rintro rfl
    exact nd.1 (mem_map.mpr ⟨(j,_),m2,rfl⟩)
   exact b4l nd.2 m2 (by rw [b4k ne];exact h) ho
section
variable{K:W.Frag}{c:Rc}{O:Own}{ρ:Rho}{σ:St}{H H':Hp}{S S':Addr->Prop}
theorem b4m{l:L}(h:isIO l=true):isOw l=true:=by cases l<;>first | rfl | cases h
theorem Rel.finish{P':Addr->Prop}{fl:List (Nat × Nat)}{f:Lent}{ρi:Rho}{Oi:Own}{ci:Rc}{σi:St}(R:Rel K c O ρ σ H)(nd:(fl.map (·.2)).Nodup)(hf:∀ j i,(j,i) ∈ fl->f j=some i)(hf':∀ j i,f j=some i->(j,i) ∈ fl)
  (Ri:Rel K ci Oi ρi σi H') (hln:∀ j,ci.lent j=a0r O ρ f j) (hsa:ci.sa=c.sa) (hns:ci.ns=c.ns)
  (fr:∀ b o,(∀ j,a0r O ρ f j ≠ some b)->H b=some o->H' b=some o) (hk:∀ j p,a0r O ρ f j=some p->∃ vs,H' p=some (.lst vs))
  (hP:Pers K (live ci Oi) H' (live { c with P:=P' } O) H') (hp:Pers K (live c O) H (live { c with P:=P' } O) H')
  (hP':∀ p,P' p->c.P p ∨ (H' p ≠ none/\∀ i,O i ≠ some p)):Rel K { c with P:=P' } O (fills ρi fl ρ) σ H':=by
 -- a slot is lent, or it is as it was
 have cases_:∀ i:Nat,(∃ j l0,(j,i) ∈ fl/\ρ[i]? = some (some l0)/\isOw l0=true/\(fills ρi fl ρ)[i]? = some (a3y ρi l0 j)) ∨ ((fills ρi fl ρ)[i]? = ρ[i]? /\ ∀ p,O i=some p->(∃ l,ρ[i]? = some (some l)/\isOw l=true)->∀ j,a0r O ρ f j ≠ some p):=fun i=>by
  by_cases h:∃ j l0,(j,i) ∈ fl/\ρ[i]? = some (some l0)/\isOw l0=true
  ·obtain⟨j,l0,h1,h2,h3⟩:=h
   exact .inl ⟨j,l0,h1,h2,h3,b4l nd h1 h2 h3⟩
  ·refine .inr ⟨a4u fun j m l0 q=>?_,fun p hO ⟨l,e1,e2⟩ j z=>?_⟩
   ·cases q2:isOw l0 with
    | false=>rfl
    | true=>exact absurd ⟨j,l0,m,q,q2⟩ h
   ·obtain⟨i2,l2,g1,g2,g3,g4⟩:=a1f z
    have:=R.inj i2 i p g4 hO
    subst this
    exact h ⟨j,l2,hf' j _ g1,g2,g3⟩
 -- what a lent slot has now
 have lent_:∀ {i j:Nat} {l0 l:L},(j,i) ∈ fl->ρ[i]? = some (some l0)->isOw l0=true->a3y ρi l0 j=some l->∃ p l',O i=some p/\σ[i]? = some (some (.ref p))/\isIO l'=true/\a5j l0 l'=some l/\Holds K c (live { c with P:=P' } O) H' p l'/\(∀ xs,l0=.own xs->a7p c p):=fun{i j l0 l} m h2 h3 e=>by
  obtain⟨p,e1,e2,e3,e4⟩:=R.holds h2 h3
  unfold a3y at e
  cases el:ρi[j]?.join with
  | none=>rw [el] at e;cases e
  | some l' =>
   rw [el] at e
   have e':a5j l0 l'=some l:=e
   have hio:isIO l'=true:=by cases l0<;>cases l'<;>first | rfl | cases e'
   have el':=a1b el
   have elent:ci.lent j=some p:=(hln j).trans ((b0b (hf j i m) h2 h3).trans e1)
   have eO:=Ri.lnt j p elent l' el' hio
   obtain⟨p',g1,_,g3,_⟩:=Ri.holds el' (b4m hio)
   rw [eO] at g1;cases g1
   refine⟨p,l',e1,e2,hio,e',?_,e4⟩
   cases l' with
   | bor xs=>obtain⟨vs,q1,q2⟩:=g3;exact⟨vs,q1,hP.all q2⟩
   | tape k=>show H' p=_;rw [← hsa];exact g3
   | _=>cases hio
 have ok':∀ i p,O i=some p->a7p c p->a7p { c with P:=P' } p:=fun i p e h=>⟨h.1,h.2.1,fun z=>(hP' p z).elim h.2.2 fun w=>w.2 i e⟩
 have stay:∀ i p o,O i=some p->(∃ l,ρ[i]? = some (some l)/\isOw l=true)->(∀ p,O i=some p->(∃ l,ρ[i]? = some (some l)/\isOw l=true)->∀ j,a0r O ρ f j ≠ some p)->H p=some o->H' p=some o:=fun i p o e l n q=>fr p o (n p e l) q
 refine⟨fun i x e=>?_,fun i xs e=>?_,fun i xs e=>?_,fun i k e=>?_,fun i e=>?_,R.inj,fun i p e=>⟨(R.has' i p e).1,?_⟩,R.am,R.frs,fun b o n q=>?_,fun b n=>?_,fun p h=>?_,fun p h=>?_,fun i p e l h1 h2=>?_,?_,?_⟩
 ·rcases cases_ i with⟨j,l0,m,h2,h3,h4⟩ | ⟨h1,_⟩
  ·rw [h4] at e
   obtain⟨p,l',_,_,hio,hl,_⟩:=lent_ m h2 h3 (Option.some.inj e)
   cases l'<;>first | (cases hio;done) | (cases l0<;>cases hl)
  ·rw [h1] at e
   obtain⟨v,e1,e2⟩:=R.dat i x e
   exact⟨v,e1,hp _ _ e2⟩
 ·rcases cases_ i with⟨j,l0,m,h2,h3,h4⟩ | ⟨h1,h2⟩
  ·rw [h4] at e
   obtain⟨p,l',g1,g2,hio,hl,g3,g4⟩:=lent_ m h2 h3 (Option.some.inj e)
   cases l' with
   | bor ys =>
    cases l0 with
    | own zs=>cases hl;obtain⟨vs,q1,q2⟩:=g3;exact⟨p,vs,g1,ok' i p g1 (g4 _ rfl),g2,q1,q2⟩
    | _=>cases hl
   | tape k=>cases l0<;>cases hl
   | _=>cases hio
  ·rw [h1] at e
   obtain⟨p,vs,g1,g2,g3,g4,g5⟩:=R.own i xs e
   exact⟨p,vs,g1,ok' i p g1 g2,g3,stay i p _ g1 ⟨_,e,rfl⟩ h2 g4,hp.all g5⟩
 ·rcases cases_ i with⟨j,l0,m,h2,h3,h4⟩ | ⟨h1,h2⟩
  ·rw [h4] at e
   obtain⟨p,l',g1,g2,hio,hl,g3,g4⟩:=lent_ m h2 h3 (Option.some.inj e)
   cases l' with
   | bor ys =>
    cases l0<;>cases hl<;>(obtain⟨vs,q1,q2⟩:=g3;exact⟨p,vs,g1,g2,q1,q2⟩)
   | tape k=>cases l0<;>cases hl
   | _=>cases hio
  ·rw [h1] at e
   obtain⟨p,vs,g1,g3,g4,g5⟩:=R.bor i xs e
   exact⟨p,vs,g1,g3,stay i p _ g1 ⟨_,e,rfl⟩ h2 g4,hp.all g5⟩
 ·rcases cases_ i with⟨j,l0,m,h2,h3,h4⟩ | ⟨h1,h2⟩
  ·rw [h4] at e
   obtain⟨p,l',g1,g2,hio,hl,g3,g4⟩:=lent_ m h2 h3 (Option.some.inj e)
   cases l' with
   | bor ys=>cases l0<;>cases hl
   | tape k2=>cases l0<;>cases hl<;>exact⟨p,g1,g2,g3⟩
   | _=>cases hio
  ·rw [h1] at e
   obtain⟨p,g1,g3,g4⟩:=R.tap i k e
   exact⟨p,g1,g3,stay i p _ g1 ⟨_,e,rfl⟩ h2 g4⟩
 ·rcases cases_ i with⟨j,l0,m,h2,h3,h4⟩ | ⟨h1,h2⟩
  ·rw [h4] at e
   obtain⟨p,l',g1,g2,hio,hl,g3,g4⟩:=lent_ m h2 h3 (Option.some.inj e)
   cases l'<;>first | (cases hio;done) | (cases l0<;>cases hl)
  ·rw [h1] at e;exact R.scr i e
 ·obtain⟨_,vs,q⟩:=R.has i p e
  by_cases hlt:∃ j,a0r O ρ f j=some p
  ·obtain⟨j,hj⟩:=hlt;exact hk j p hj
  ·exact⟨vs,fr p _ (fun j z=>hlt ⟨j,z⟩) q⟩
 ·refine fr b o (fun j z=>?_) (R.same b o n q)
  obtain⟨i,l,_,_,_,hO⟩:=a1f z
  rcases (R.has i b hO).1 with w | w
  ·exact n w
  ·rw [w] at q;cases q
 ·have n':=R.kept b n
  by_cases hlt:∃ j,a0r O ρ f j=some b
  ·obtain⟨j,hj⟩:=hlt
   obtain⟨vs,q⟩:=hk j b hj
   rw [q];exact fun z=>nomatch z
  ·cases q:H b with
   | none=>exact absurd q n'
   | some o=>rw [fr b o (fun j z=>hlt ⟨j,z⟩) q];exact fun z=>nomatch z
 ·obtain⟨vs,q⟩:=R.ml p h
  by_cases hlt:∃ j,a0r O ρ f j=some p
  ·obtain⟨j,hj⟩:=hlt;exact hk j p hj
  ·exact⟨vs,fr p _ (fun j z=>hlt ⟨j,z⟩) q⟩
 ·have fin:∀ q,(c.P q ∨ c.B q)->H' q ≠ none:=fun q hq=>by
   have n':=R.pin q hq
   by_cases hlt:∃ j,a0r O ρ f j=some q
   ·obtain⟨j,hj⟩:=hlt
    obtain⟨vs,q⟩:=hk j q hj
    rw [q];exact fun z=>nomatch z
   ·cases q2:H q with
    | none=>exact absurd q2 n'
    | some o=>rw [fr q o (fun j z=>hlt ⟨j,z⟩) q2];exact fun z=>nomatch z
  rcases h with h | h
  ·rcases hP' p h with w | w
   ·exact fin p (.inl w)
   ·exact w.1
  ·exact fin p (.inr h)
 ·rcases cases_ i with⟨j,l0,m,h3,h4,h5⟩ | ⟨h3,h4⟩
  ·rw [h5] at h1
   obtain⟨p',l',g1,g2,hio,hl,g3,g4⟩:=lent_ m h3 h4 (Option.some.inj h1)
   cases l0 with
   | own zs=>cases l'<;>cases hl;cases h2
   | bor zs=>exact R.lnt i p e _ h3 rfl
   | tape k=>exact R.lnt i p e _ h3 rfl
   | _=>cases h4
  ·rw [h3] at h1;exact R.lnt i p e l h1 h2
 ·have:=Ri.sc
  rw [hsa,hns] at this
  exact this
 ·rw [b2q];exact R.len
end
end L2
end
section
namespace L2
open PySem PySem.Spec PyProof.Rows
abbrev DSp:=List L->(RV->Rho->Prop)->Prop
noncomputable def mask:List L->Rho->Rho
 | [],_=>[]
 | l :: ls,ρ=>(if isIO l then ρ.head?.join else none) :: mask ls ρ.tail
noncomputable def b1a(N:List Str)(ls:List L):Rho:=ls.map some ++ List.replicate (N.length - ls.length) none
def spD(K:W.Frag)(ds:DSp):Sp:=fun vs H Q _=>∃ (c:Rc) (O:Own) (ls:List L) (Qd:RV->Rho->Prop),c.H0=H/\(∀ p,¬ c.P p)/\(∀ p,c.M p->c.B p)/\(∀ p,c.H0 p=none->c.A p)/\(∀ i,c.lent i=O i)/\Rel K c O (ls.map some) (vs.map some) H/\ds ls Qd /\
 ∀ r O' ρ' σ' v H',Qd r (mask ls ρ')->b3n K c O' ρ' σ' H' r v->Q v H'
section
variable{K:W.Frag}{c:Rc}{O:Own}{ρ:Rho}{σ:St}{H H':Hp}{S S':Addr->Prop}
theorem Rel.more{n:Nat}(R:Rel K c O ρ σ H):Rel K c O (ρ ++ List.replicate n none) (σ ++ List.replicate n none) H:=by
 have at_:∀ {i:Nat} {l:L},(ρ ++ List.replicate n none)[i]? = some (some l)->ρ[i]? = some (some l):=fun{i l} e=>by
  by_cases hi:i < ρ.length
  ·rwa [List.getElem?_append_left hi] at e
  ·rw [getElem?_append_right (by omega),List.getElem?_replicate] at e
   split at e<;>cases e
 have st:∀ {i:Nat} {v:V},σ[i]? = some (some v)->(σ ++ List.replicate n none)[i]? = some (some v):=fun{i v} e=>by
  rw [List.getElem?_append_left (List.getElem?_eq_some_iff.mp e).1];exact e
 refine⟨fun i x e=>?_,fun i xs e=>?_,fun i xs e=>?_,fun i k e=>?_,fun i e=>st (R.scr i (at_ e)),R.inj,R.has',R.am,R.frs,R.same,R.kept,R.ml,R.pin,fun i p e l h1 h2=>R.lnt i p e l (at_ h1) h2,R.sc,?_⟩
 ·obtain⟨v,h1,h2⟩:=R.dat i x (at_ e);exact⟨v,st h1,h2⟩
 ·obtain⟨p,vs,h1,h2,h3,h4⟩:=R.own i xs (at_ e);exact⟨p,vs,h1,h2,st h3,h4⟩
 ·obtain⟨p,vs,h1,h3,h4⟩:=R.bor i xs (at_ e);exact⟨p,vs,h1,st h3,h4⟩
 ·obtain⟨p,h1,h3,h4⟩:=R.tap i k (at_ e);exact⟨p,h1,st h3,h4⟩
 ·rw [length_append,length_append,R.len,length_replicate,length_replicate]
end
section
variable{P:Program}{w:World}{K:W.Frag}{mg:Str->Option Value}{base:Heap}
theorem Fun.dok{x qual:Str}{st:Stmt}{f:Addr}{fd:FuncData}{N ps:List Str}{k:Nat}{ds:DSp}(F:Fun K x qual st f fd)(S:FnScope N ps (a0f st))
  (hbody:∀ (cdv:Value) (A:Around) (outer:List Env) (s:Shared) (H:Hp) (E:XK),Room k (A.deeper (envOfC qual (a0f st) s.heap.objs.size f cdv)) ->
   ∀ (ls:List L) (Qd:RV->Rho->Prop),ds ls Qd->ls.length=ps.length/\∃ dt,DSs (cxOf CX0 P w K mg base N qual (a0f st) f cdv A outer s H E).nox (a1a st) dt/\dt { nx:=fun ρ=>Qd (.d .none) (mask ls ρ),rt:=fun r ρ=>Qd r (mask ls ρ) } (b1a N ls)) (len:∀ ls Qd,ds ls Qd->ls.length=ps.length):FnOk P w K mg base CX0 (k + 1) f fd ps (spD K ds):=by
 refine F.ok S (fun vs H Q E h=>?_) (fun cdv A outer s H vs Q E hr h=>?_)
 ·obtain⟨c,O,ls,Qd,_,_,_,_,_,R,h1,_⟩:=h
  have:=R.len
  rw [length_map,length_map] at this
  rw [this];exact len ls Qd h1
 ·obtain⟨c,O,ls,Qd,h0,hP,hM,hA,hL,R,h1,fin⟩:=h
  obtain⟨hl,dt,⟨t,p,a⟩,q⟩:=hbody cdv A outer s H E hr ls Qd h1
  have hlv:vs.length=ls.length:=by have:=R.len;rwa [length_map,length_map] at this
  refine⟨t,p,a c O (b1a N ls) (start N vs) H _ { nx:=fun ρ=>Qd (.d .none) (mask ls ρ),rt:=fun r ρ=>Qd r (mask ls ρ) } ?_ ⟨fun O1 ρ1 σ1 H1 R1 _ q1=>?_,fun r O1 ρ1 σ1 H1 v h q1=>?_,fun _ _ _ _ _ _ z=>(show False from z).elim,fun _ _ _ _ _ _ z=>(show False from z).elim,hM,hA⟩ q⟩
  ·unfold b1a start
   rw [hlv]
   exact R.more
  ·exact fin (.d .none) O1 ρ1 σ1 .non H1 q1 ⟨R1,a7n⟩
  ·exact fin r O1 ρ1 σ1 v H1 q1 h
end
def fzL(ρ:Rho)(x:DV)(Q:L->Rho->Prop):Prop:=match x with
 | .d y=>Q (.d y) ρ
 | .sl i=>match ρ[i]?.join with
  | some (.d y)=>Q (.d y) ρ
  | some (.own xs)=>Q (.d (.list xs)) (ρ.set i (some (.d (.list xs))))
  | some .scr=>Q .scr ρ
  | _=>False
noncomputable def ioAt(ρ:Rho)(i:Nat):Option L:=match ρ[i]?.join with
 | some l=>if isOw l then some (lend l) else none
 | none=>none
noncomputable def pass:List Bool->List DV->Rho->(List L->Rho->Prop)->Prop
 | [],[],ρ,Q=>Q [] ρ
 | false :: fs,x :: xs,ρ,Q=>fzL ρ x fun l ρ1=>pass fs xs ρ1 fun ls ρ2=>Q (l :: ls) ρ2
 | true :: fs,.sl i :: xs,ρ,Q=>pass fs xs ρ fun ls ρ2=>need (ioAt ρ2 i) fun l=>Q (l :: ls) ρ2
 | _,_,_,_=>False
noncomputable def a0x:List Bool->List DV->Lent
 | true :: _,.sl i :: _,0=>some i
 | _ :: fs,_ :: xs,j + 1=>a0x fs xs j
 | _,_,_=>none
noncomputable def flOf:Nat->List Bool->List DV->List (Nat × Nat)
 | j,true :: fs,.sl i :: xs=>(j,i) :: flOf (j + 1) fs xs
 | j,true :: fs,.d _ :: xs=>flOf (j + 1) fs xs
 | j,false :: fs,_ :: xs=>flOf (j + 1) fs xs
 | _,_,_=>[]
theorem a7s{fs:List Bool}:∀ {xs:List DV} {j0 j i:Nat},(j,i) ∈ flOf j0 fs xs ↔ ∃ k,j=j0 + k/\a0x fs xs k=some i:=by
 induction fs with
 | nil =>
  intro xs j0 j i
  have e1:flOf j0 [] xs=[]:=by cases xs<;>rfl
  have e2:∀ k,a0x [] xs k=none:=fun k=>by cases xs<;>cases k<;>rfl
  rw [e1]
  exact⟨fun h=>absurd h (List.not_mem_nil),fun hq8=>by obtain⟨k,_,h⟩:=hq8;rw [e2] at h;cases h⟩
 | cons f fs ih =>
  intro xs j0 j i
  cases xs with
  | nil =>
   have e1:flOf j0 (f :: fs) []=[]:=by cases f<;>rfl
   have e2:∀ k,a0x (f :: fs) [] k=none:=fun k=>by cases f<;>cases k<;>rfl
   rw [e1]
   exact⟨fun h=>absurd h (List.not_mem_nil),fun hq8=>by obtain⟨k,_,h⟩:=hq8;rw [e2] at h;cases h⟩
  | cons x xs =>
   have step:(∃ k,j=j0 + 1 + k/\a0x fs xs k=some i)->∃ k,j=j0 + k/\a0x (f :: fs) (x :: xs) k=some i:=fun hq8=>by obtain⟨k,e1,e2⟩:=hq8;exact⟨k + 1,by omega,by cases f<;>cases x<;>exact e2⟩
   have back:∀ k,j=j0 + (k + 1)->a0x (f :: fs) (x :: xs) (k + 1)=some i->∃ k,j=j0 + 1 + k/\a0x fs xs k=some i:=fun k e1 e2=>⟨k,by omega,by cases f<;>cases x<;>exact e2⟩
   cases f with
   | false =>
    have e:flOf j0 (false :: fs) (x :: xs)=flOf (j0 + 1) fs xs:=by cases x<;>rfl
    rw [e,ih]
    refine⟨step,fun hq8=>?_⟩
    obtain⟨k,e1,e2⟩:=hq8
    cases k with
    | zero=>cases x<;>cases e2
    | succ k=>exact back k e1 e2
   | true =>
    cases x with
    | d y =>
     show(j,i) ∈ flOf (j0 + 1) fs xs ↔ _
     rw [ih]
     refine⟨step,fun hq8=>?_⟩
     obtain⟨k,e1,e2⟩:=hq8
     cases k with
     | zero=>cases e2
     | succ k=>exact back k e1 e2
    | sl i0 =>
     show(j,i) ∈ (j0,i0) :: flOf (j0 + 1) fs xs ↔ _
     rw [mem_cons,ih]
     constructor
     ·rintro(e | h)
      ·cases e;exact⟨0,rfl,rfl⟩
      ·exact step h
     ·rintro⟨k,e1,e2⟩
      cases k with
      | zero =>
       have e3:some i0=some i:=e2
       cases e3
       exact .inl (by rw [e1];rfl)
      | succ k=>exact .inr (back k e1 e2)
inductive Args (K:W.Frag) (S:Addr->Prop) (sa:Addr) (ρ:Rho) (σ:St) (H:Hp):List Bool->List DV->List L->List V->Prop where
 | nil:Args K S sa ρ σ H [] [] [] []
 | dat {fs xs ls vs x y v}:AtD K H S y v->Args K S sa ρ σ H fs xs ls vs->Args K S sa ρ σ H (false :: fs) (x :: xs) (.d y :: ls) (v :: vs)
 | scr {fs xs ls vs x}:Args K S sa ρ σ H fs xs ls vs->Args K S sa ρ σ H (false :: fs) (x :: xs) (.scr :: ls) (.ref sa :: vs)
 | io {fs xs ls vs v} {i:Nat} {l0:L}:ρ[i]? = some (some l0)->isOw l0=true->σ[i]? = some (some v)->Args K S sa ρ σ H fs xs ls vs->Args K S sa ρ σ H (true :: fs) (.sl i :: xs) (lend l0 :: ls) (v :: vs)
section
variable{K:W.Frag}{c:Rc}{O:Own}{ρ:Rho}{σ:St}{H H':Hp}{S S':Addr->Prop}
theorem Rel.fzL{x:DV}{v:V}{Q:L->Rho->Prop}(R:Rel K c O ρ σ H)(a:AtV K (live c O) σ H x v)(h:fzL ρ x Q):∃ l ρ' O',Q l ρ'/\Rel K c O' ρ' σ H/\Pers K (live c O) H (live c O') H/\((∃ y,l=.d y/\AtD K H (live c O') y v) ∨ (l=.scr/\v=.ref c.sa)):=by
 cases x with
 | d y=>exact⟨.d y,ρ,O,h,R,.refl,.inl ⟨y,rfl,a⟩⟩
 | sl i =>
  have a':σ[i]? = some (some v):=a
  simp only [L2.fzL] at h
  split at h
  ·rename_i y e
   obtain⟨w,h1,h2⟩:=R.dat i y (a1b e)
   rw [a'] at h1;cases h1
   exact⟨.d y,ρ,O,h,R,.refl,.inl ⟨y,rfl,h2⟩⟩
  ·rename_i xs e
   have e':=a1b e
   obtain⟨R',P⟩:=R.freeze e'
   have hi:i < ρ.length:=(List.getElem?_eq_some_iff.mp e').1
   obtain⟨w,h1,h2⟩:=R'.dat i (.list xs) (by rw [getElem?_set_self hi])
   rw [a'] at h1;cases h1
   exact⟨_,_,_,h,R',P,.inl ⟨_,rfl,h2⟩⟩
  ·rename_i e
   have:=R.scr i (a1b e)
   rw [a'] at this;cases this
   exact⟨_,ρ,O,h,R,.refl,.inr ⟨rfl,rfl⟩⟩
  ·exact h.elim
theorem c7l{fs:List Bool}:∀ {xs:List DV} {vs:List V} {ρ:Rho} {O:Own} {Q:List L->Rho->Prop},Rel K c O ρ σ H->AtVs K (live c O) σ H xs vs->pass fs xs ρ Q ->
  ∃ ls ρ' O',Q ls ρ'/\Rel K c O' ρ' σ H/\Pers K (live c O) H (live c O') H/\Args K (live c O') c.sa ρ' σ H fs xs ls vs:=by
 induction fs with
 | nil =>
  intro xs vs ρ O Q R a h
  cases xs with
  | nil=>cases a;exact⟨[],ρ,O,h,R,.refl,.nil⟩
  | cons _ _=>exact(show False from h).elim
 | cons f fs ih =>
  intro xs vs ρ O Q R a h
  cases xs with
  | nil=>cases f<;>exact(show False from h).elim
  | cons x xs =>
   cases a with
   | @cons _ _ v vs a as =>
   cases f with
   | false =>
    have h':L2.fzL ρ x fun l ρ1=>pass fs xs ρ1 fun ls ρ2=>Q (l :: ls) ρ2:=h
    obtain⟨l,ρ1,O1,h1,R1,P1,a1⟩:=R.fzL a h'
    obtain⟨ls,ρ2,O2,h2,R2,P2,a2⟩:=ih R1 (AtVs.pers as P1) h1
    refine⟨l :: ls,ρ2,O2,h2,R2,P1.trans P2,?_⟩
    rcases a1 with⟨y,rfl,a1⟩ | ⟨rfl,rfl⟩
    ·exact .dat (P2 _ _ a1) a2
    ·exact .scr a2
   | true =>
    cases x with
    | d y=>exact(show False from h).elim
    | sl i =>
     have h':pass fs xs ρ fun ls ρ2=>need (ioAt ρ2 i) fun l=>Q (l :: ls) ρ2:=h
     obtain⟨ls,ρ2,O2,hz1,R2,P2,a2⟩:=ih R as h'
     obtain⟨l,e,h2⟩:=ne (hz1)
     refine⟨l :: ls,ρ2,O2,h2,R2,P2,?_⟩
     unfold ioAt at e
     split at e
     ·rename_i l0 el
      split at e
      ·rename_i ho
       cases e
       exact .io (a1b el) ho a a2
      ·cases e
     ·cases e
theorem Args.begins{fs:List Bool}{xs:List DV}{ls:List L}{vs:List V}(a:Args K (live c O) c.sa ρ σ H fs xs ls vs)(inj:∀ j k i,a0x fs xs j=some i->a0x fs xs k=some i->j=k) :
  Begins K c O ρ σ H (a0x fs xs) (ls.map some) (vs.map some):=by
 refine⟨?_,?_,?_,inj,?_⟩
 ·clear inj
  induction a with
  | nil=>intro j l e;simp at e
  | dat h _ ih =>
   intro j l e ho
   cases j with
   | zero=>cases e;cases ho
   | succ j=>obtain⟨i,l0,h1,h2⟩:=ih j l (by simpa using e) ho;exact⟨i,l0,h1,by simpa using h2⟩
  | scr _ ih =>
   intro j l e ho
   cases j with
   | zero=>cases e;cases ho
   | succ j=>obtain⟨i,l0,h1,h2⟩:=ih j l (by simpa using e) ho;exact⟨i,l0,h1,by simpa using h2⟩
  | @io fs xs ls vs v i l0 h1 h2 h3 _ ih =>
   intro j l e ho
   cases j with
   | zero=>cases e;exact⟨i,l0,rfl,h1,h2,rfl,by simpa using h3.symm⟩
   | succ j=>obtain⟨i,l0,h1,h2⟩:=ih j l (by simpa using e) ho;exact⟨i,l0,h1,by simpa using h2⟩
 ·clear inj
  induction a with
  | nil=>intro j x e;simp at e
  | dat h _ ih =>
   intro j x e
   cases j with
   | zero=>cases e;exact⟨_,rfl,h⟩
   | succ j=>obtain⟨v,h1,h2⟩:=ih j x (by simpa using e);exact⟨v,by simpa using h1,h2⟩
  | scr _ ih =>
   intro j x e
   cases j with
   | zero=>cases e
   | succ j=>obtain⟨v,h1,h2⟩:=ih j x (by simpa using e);exact⟨v,by simpa using h1,h2⟩
  | @io fs xs ls vs v i l0 h1 h2 h3 _ ih =>
   intro j x e
   cases j with
   | zero=>cases l0<;>first | (cases h2;done) | cases e
   | succ j=>obtain⟨v,h1,h2⟩:=ih j x (by simpa using e);exact⟨v,by simpa using h1,h2⟩
 ·clear inj
  induction a with
  | nil=>intro j e;simp at e
  | dat h _ ih =>
   intro j e
   cases j with
   | zero=>cases e
   | succ j=>have:=ih j (by simpa using e);simpa using this
  | scr _ ih =>
   intro j e
   cases j with
   | zero=>rfl
   | succ j=>have:=ih j (by simpa using e);simpa using this
  | @io fs xs ls vs v i l0 h1 h2 h3 _ ih =>
   intro j e
   cases j with
   | zero=>cases l0<;>first | (cases h2;done) | cases e
   | succ j=>have:=ih j (by simpa using e);simpa using this
 ·clear inj
  rw [length_map,length_map]
  induction a with
  | nil=>rfl
  | dat _ _ ih=>simp [ih]
  | scr _ ih=>simp [ih]
  | io _ _ _ _ ih=>simp [ih]
theorem Args.mask{fs:List Bool}{xs:List DV}{ls:List L}{vs:List V}(a:Args K (live c O) c.sa ρ σ H fs xs ls vs):∀ (ρ':Rho) {j i:Nat},a0x fs xs j=some i->(L2.mask ls ρ')[j]?.join=ρ'[j]?.join:=by
 have hd:∀ ρ':Rho,ρ'.head?.join=ρ'[0]?.join:=fun ρ'=>by cases ρ'<;>rfl
 have tl:∀ (ρ':Rho) (j:Nat),ρ'.tail[j]? = ρ'[j + 1]?:=fun ρ' j=>by cases ρ'<;>simp
 induction a with
 | nil=>intro ρ' j i e;cases e
 | dat h _ ih =>
  intro ρ' j i e
  cases j with
  | zero=>cases e
  | succ j =>
   have:=ih ρ'.tail (j:=j) (i:=i) e
   rw [tl] at this
   rw [← this];simp [L2.mask]
 | scr _ ih =>
  intro ρ' j i e
  cases j with
  | zero=>cases e
  | succ j =>
   have:=ih ρ'.tail (j:=j) (i:=i) e
   rw [tl] at this
   rw [← this];simp [L2.mask]
 | @io fs xs ls vs v i0 l0 h1 h2 h3 _ ih =>
  intro ρ' j i e
  cases j with
  | zero =>
   have hio:isIO (lend l0)=true:=by cases l0<;>first | rfl | cases h2
   simp only [L2.mask,hio,if_true,List.getElem?_cons_zero]
   show ρ'.head?.join=_
   exact hd ρ'
  | succ j =>
   have:=ih ρ'.tail (j:=j) (i:=i) e
   rw [tl] at this
   rw [← this];simp [L2.mask]
end
theorem a9v{ρi ρj:Rho}:∀ {fl:List (Nat × Nat)} {ρ:Rho},(∀ j i,(j,i) ∈ fl->ρi[j]?.join=ρj[j]?.join)->fills ρi fl ρ=fills ρj fl ρ
 | [],_,_=>rfl
 | (j,i) :: r,ρ,h=>by
  have e:a3a ρi j i ρ=a3a ρj j i ρ:=by
   unfold a3a a3y
   rw [h j i mem_cons_self]
  unfold fills
  rw [e]
  exact a9v fun j' i' m=>h j' i' (mem_cons_of_mem _ m)
def dCall(fs:List Bool)(sp:DSp)(da:TDA)(ρ:Rho)(Q:RV->Rho->Prop):Prop:=da ρ fun xs ρ1=>pass fs xs ρ1 fun ls ρ2=>((flOf 0 fs xs).map (·.2)).Nodup/\sp ls fun r outs=>Q r (fills outs (flOf 0 fs xs) ρ2)
def b4n(fs:List Bool)(sp:DSp)(da:TDA):TDE:=fun ρ Q=>dCall fs sp da ρ fun r ρ1=>match r with
 | .d x=>Q (.d x) ρ1
 | .new xs=>Q (.d (.list xs)) ρ1
def b4o(fs:List Bool)(sp:DSp)(da:TDA):TDF:=fun ρ Q=>dCall fs sp da ρ fun r ρ1=>match r with
 | .d _=>False
 | .new xs=>Q xs ρ1
section
variable{K:W.Frag}{c:Rc}{O:Own}{ρ:Rho}{σ:St}{H H':Hp}{S S':Addr->Prop}
theorem c0x{fs:List Bool}{xs:List DV}(nd:((flOf 0 fs xs).map (·.2)).Nodup):∀ j k i,a0x fs xs j=some i->a0x fs xs k=some i->j=k:=fun j k i e1 e2=>by
 have m1:(j,i) ∈ flOf 0 fs xs:=a7s.mpr ⟨j,by omega,e1⟩
 have m2:(k,i) ∈ flOf 0 fs xs:=a7s.mpr ⟨k,by omega,e2⟩
 exact congrArg Prod.fst (key _ nd m1 m2 rfl)
where
 key:∀ (l:List (Nat × Nat)) {a b:Nat × Nat},(l.map (·.2)).Nodup->a ∈ l->b ∈ l->a.2=b.2->a=b:=fun l=>by
  induction l with
  | nil=>intro a b _ h;cases h
  | cons x l ih =>
   intro a b nd ha hb e
   rw [map_cons,nodup_cons] at nd
   rcases mem_cons.mp ha with ea | ha2<;>rcases mem_cons.mp hb with eb | hb2
   ·rw [ea,eb]
   ·exact absurd (mem_map.mpr ⟨b,hb2,by rw [← e,ea]⟩) nd.1
   ·exact absurd (mem_map.mpr ⟨a,ha2,by rw [e,eb]⟩) nd.1
   ·exact ih nd.2 ha2 hb2 e
theorem b8o{fs:List Bool}{sp:DSp}{ta:TA}{da:TDA}(ha:∀ (Qa:List DV->Rho->Prop) (Qv:List V->Hp->Prop),da ρ Qa->(∀ xs ρ1 O1 vs H1,Qa xs ρ1->Rel K c O1 ρ1 σ H1->Pers K (live c O) H (live c O1) H1->AtVs K (live c O1) σ H1 xs vs->Qv vs H1)->ta σ H Qv)
  {Qd:RV->Rho->Prop} {Q:VK} (h:dCall fs sp da ρ Qd)
  (k:∀ r ρ' O' v H',Qd r ρ'->b3n K c O' ρ' σ H' r v->Pers K (live c O) H (match r with | .d _=>live c O' | .new _=>fun a=>live c O' a/\v ≠ .ref a) H'->Q v H'):a9c (spD K sp) [] E0 ta σ H Q:=by
 refine ha _ _ h fun xs ρ1 O1 vs H1 h1 R1 P1 a1=>?_
 obtain⟨ls,ρ2,O2,⟨nd,h2⟩,R2,P2,as⟩:=c7l R1 a1 h1
 have inj:=c0x nd
 obtain⟨Ri,Pi⟩:=R2.begin (b:=true) (P:=fun _=>False) (H':=H1) (as.begins inj) (Same.refl _) (fun p z=>z.elim)
 rw [append_nil]
 have hf:∀ j i,(j,i) ∈ flOf 0 fs xs->a0x fs xs j=some i:=fun j i m=>by
  obtain⟨k,e1,e2⟩:=a7s.mp m
  have:j=k:=by omega
  subst this;exact e2
 have hf':∀ j i,a0x fs xs j=some i->(j,i) ∈ flOf 0 fs xs:=fun j i e=>a7s.mpr ⟨j,by omega,e⟩
 refine⟨c.in O2 (a0r O2 ρ2 (a0x fs xs)) (fun _=>False) true H1,a0r O2 ρ2 (a0x fs xs),ls,_,rfl,fun p z=>z,fun p z=>z,fun p z=>.inr ⟨rfl,z⟩,fun i=>rfl,Ri,h2,fun r O' ρ' σ' v H' q ok=>?_⟩
 have ef:fills (mask ls ρ') (flOf 0 fs xs) ρ2=fills ρ' (flOf 0 fs xs) ρ2:=a9v fun j i m=>as.mask ρ' (hf j i m)
 rw [ef] at q
 have P12:=P1.trans P2
 have lentM:∀ {b:Addr},(∃ j,a0r O2 ρ2 (a0x fs xs) j=some b)->∃ vs,H1 b=some (.lst vs):=fun hq8=>by
  obtain⟨j,e⟩:=hq8
  obtain⟨i,_,_,_,_,hO⟩:=a1f e
  exact(R2.has i _ hO).2
 have hsame:∀ {ci:Rc},Rel K ci O' ρ' σ' H'->ci.H0=H1->(∀ p,ci.M p->∃ j,a0r O2 ρ2 (a0x fs xs) j=some p)->(∀ b o,(∀ j,a0r O2 ρ2 (a0x fs xs) j ≠ some b)->H1 b=some o->H' b=some o):=fun{ci} Rf h0 hM b o n q=>by
  refine Rf.same b o (fun z=>?_) (by rw [h0];exact q)
  obtain⟨j,e⟩:=hM b z
  exact n j e
 have keep:(∀ b o,(∀ j,a0r O2 ρ2 (a0x fs xs) j ≠ some b)->H1 b=some o->H' b=some o)->Keep (live c O2) H1 H':=fun fr =>
  ⟨fun b ws e=>fr b _ (fun j z=>by obtain⟨vs,w⟩:=lentM ⟨j,z⟩;rw [e] at w;cases w) e,fun b o u e=>fr b _ (fun j z=>by obtain⟨vs,w⟩:=lentM ⟨j,z⟩;rw [e] at w;cases w) e,
   fun b ws hl e=>fr b _ (fun j z=>by obtain⟨i,_,_,_,_,hO⟩:=a1f z;exact hl.2.2 i hO) e⟩
 cases r with
 | d x =>
  obtain⟨Rf,ax⟩:=ok
  have fr:=hsame Rf rfl (fun p z=>z)
  have hl:∀ a,live (c.in O2 (a0r O2 ρ2 (a0x fs xs)) (fun _=>False) true H1) O' a->live c O2 a:=fun a z=>z.1
  have hp:Pers K (live c O2) H1 (live c O2) H':=.of (keep fr) fun _ z=>z
  have hP:Pers K (live (c.in O2 (a0r O2 ρ2 (a0x fs xs)) (fun _=>False) true H1) O') H' (live c O2) H':=.of (Keep.refl _ _) hl
  have Rn:=R2.finish (P':=c.P) nd hf hf' Rf (fun _=>rfl) rfl rfl fr (fun j p e=>Rf.ml p ⟨j,e⟩) hP hp (fun p z=>.inl z)
  exact k (.d x) _ O2 v H' q ⟨Rn,hP _ _ ax⟩ (P12.trans hp)
 | new ys =>
  obtain⟨p,ws,rfl,Rf,ff,hH,ax⟩:=ok
  have fr:=hsame Rf rfl (fun p z=>z)
  have h1p:H1 p=none:=ff.1
  have hl:∀ a,live ((c.in O2 (a0r O2 ρ2 (a0x fs xs)) (fun _=>False) true H1).add p) O' a->live (c.add p) O2 a:=fun a z=>by
   have z1:live c O2 a:=z.1
   exact a6c z1 fun e=>z.2.1 (.inr e)
  have hp:Pers K (live c O2) H1 (live (c.add p) O2) H':=fun d u h=>by
   refine AtD.mono (S:=live (c.add p) O2) ((keep fr).less fun b z=>(a2z z).1) _ _ (AtD.less h1p (fun a z n=>a6c z n) _ _ h)
  have hP:Pers K (live ((c.in O2 (a0r O2 ρ2 (a0x fs xs)) (fun _=>False) true H1).add p) O') H' (live (c.add p) O2) H':=.of (Keep.refl _ _) hl
  have fp:=b0a R2 h1p
  have Rn:Rel K (c.add p) O2 (fills ρ' (flOf 0 fs xs) ρ2) σ H':=R2.finish (P':=fun a=>c.P a ∨ a=p) nd hf hf' Rf (fun _=>rfl) rfl rfl fr (fun j q e=>Rf.ml q ⟨j,e⟩) hP hp (fun q z=>z.elim .inl fun e=>.inr (by subst e;exact⟨by rw [hH];exact(fun z=>nomatch z),fp.2.2.2⟩))
  refine k (.new ys) _ O2 _ H' q ⟨p,ws,rfl,Rn,fp,hH,hP.all ax⟩ ((P12.trans hp).trans (.of (Keep.refl _ _) fun a z=>⟨(a2z z).1,fun e=>(a2z z).2 (by cases e;rfl)⟩))
theorem b2r{fs:List Bool}{sp:DSp}{ta:TA}{da:TDA}(ha:AdA K ta da)(R:Rel K c O ρ σ H){Qd:RV->Rho->Prop}{Q:VK}(h:dCall fs sp da ρ Qd)
  (k:∀ r ρ' O' v H',Qd r ρ'->b3n K c O' ρ' σ H' r v->Pers K (live c O) H (match r with | .d _=>live c O' | .new _=>fun a=>live c O' a/\v ≠ .ref a) H'->Q v H'):a9c (spD K sp) [] E0 ta σ H Q:=
 b8o (fun Qa Qv q k'=>ha c O ρ σ H Qa Qv R q k') h k
theorem c3k{fs:List Bool}{sp:DSp}{ta:TA}{da:TDA}(ha:AdA K ta da):AdE K (a9c (spD K sp) [] E0 ta) (b4n fs sp da):=fun c O ρ σ H Qd Q R h k =>
 b2r ha R h fun r ρ' O' v H' q ok P=>by
  cases r with
  | d x=>exact k _ _ _ _ _ q ok.1 P ok.2
  | new xs =>
   obtain⟨p,ws,rfl,Rn,fp,hH,ax⟩:=ok
   obtain⟨R2,P2⟩:=Rn.unadd
   exact k _ _ _ _ _ q R2 (P.trans (.of (Keep.refl _ _) fun a z=>z.1)) (a2y ⟨Rn.frs p fp.1,fp.2.2.1,fp.2.2.2⟩ hH (P2.all ax))
theorem c3l{fs:List Bool}{sp:DSp}{ta:TA}{da:TDA}(ha:AdA K ta da):AdF K (a9c (spD K sp) [] E0 ta) (b4o fs sp da):=fun c O ρ σ H Qd Q R h k =>
 b2r ha R h fun r ρ' O' v H' q ok P=>by
  cases r with
  | d x=>exact(show False from q).elim
  | new xs =>
   obtain⟨p,ws,rfl,Rn,fp,hH,ax⟩:=ok
   exact k _ _ _ _ _ _ q Rn (P.trans (.of (Keep.refl _ _) fun a z=>a6c z.1 fun e=>z.2 (by rw [e]))) fp hH ax
end
section
variable{X:Cx}{k:Nat}{f:Addr}{fd:FuncData}{ps:List Str}{sp:DSp}{x:Str}{st:Stmt}{p pos:Pos}{e:Expr}{es:List Expr}{da:TDA}
theorem a0o(fs:List Bool)(d:Def X.K X.mg x st ps f fd)(g:FnOk X.prog X.w X.K X.mg X.base CX0 k f fd ps (spD X.K sp))(hr:Room k X.A)(hg:Gl X x)(ha:DA X (e :: es) da) (hdb:(x == ("__debug__" : Str))=false:=by decide)
  (he:starEach (e :: es) X.env=(false,eval e X.env) :: starEach es X.env:=by rfl) (hpl:(backTo pos (starEach es X.env)).any (·.1)=false:=by rfl):DE X (.Call (.Name x p) (e :: es) [] pos) (b4n fs sp da):=by
 obtain⟨t,pt,at_⟩:=ha
 exact⟨_,a2h d g hr hg pt hdb he hpl,c3k at_⟩
theorem c3m(fs:List Bool)(d:Def X.K X.mg x st ps f fd)(g:FnOk X.prog X.w X.K X.mg X.base CX0 k f fd ps (spD X.K sp))(hr:Room k X.A)(hg:Gl X x)(ha:DA X (e :: es) da) (hdb:(x == ("__debug__" : Str))=false:=by decide)
  (he:starEach (e :: es) X.env=(false,eval e X.env) :: starEach es X.env:=by rfl) (hpl:(backTo pos (starEach es X.env)).any (·.1)=false:=by rfl):DF X (.Call (.Name x p) (e :: es) [] pos) (b4o fs sp da):=by
 obtain⟨t,pt,at_⟩:=ha
 exact⟨_,a2h d g hr hg pt hdb he hpl,c3l at_⟩
end
end L2
end
section
namespace L2
open PySem PySem.Spec PyProof.Rows
noncomputable def capR(n:Nat)(cap:List (Str × Nat))(ρ:Rho):Rho:=List.replicate n none ++ cap.map fun p=>(ρ[p.2]?.join).map lend
noncomputable def flC:Nat->List (Str × Nat)->List (Nat × Nat)
 | _,[]=>[]
 | j,p :: r=>(j,p.2) :: flC (j + 1) r
noncomputable def a5k(n:Nat)(cap:List (Str × Nat)):Lent:=fun j=>if j < n then none else(cap[j - n]?).map (·.2)
theorem b6p:∀ {cap:List (Str × Nat)} {n j i:Nat},(j,i) ∈ flC n cap ↔ n <= j/\(cap[j - n]?).map (·.2)=some i:=by
 intro cap
 induction cap with
 | nil=>intro n j i;simp [flC]
 | cons p r ih =>
  intro n j i
  unfold flC
  rw [mem_cons,ih]
  constructor
  ·rintro(e | ⟨h1,h2⟩)
   ·cases e;simp
   ·refine⟨by omega,?_⟩
    have:j - n=(j - (n + 1)) + 1:=by omega
    rw [this,List.getElem?_cons_succ];exact h2
  ·rintro⟨h1,h2⟩
   by_cases e:j=n
   ·subst e
    simp at h2
    exact .inl (by rw [h2])
   ·refine .inr ⟨by omega,?_⟩
    have:j - n=(j - (n + 1)) + 1:=by omega
    rw [this,List.getElem?_cons_succ] at h2;exact h2
theorem b6q:∀ {cap:List (Str × Nat)} {n:Nat},(flC n cap).map (·.2)=cap.map (·.2)
 | [],_=>rfl
 | p :: r,n=>by unfold flC;rw [map_cons,map_cons,b6q]
def a0y(g:TDG)(tt:TDT)(te:TDE)(Q:List PyData->Rho->Prop):List PyData->Rho->List PyData->Prop
 | [],ρ,acc=>Q acc ρ
 | x :: r,ρ,acc=>g x ρ fun ρ1=>tt ρ1 fun b ρ2=>if b=true then te ρ2 fun y ρ3=>fz ρ3 y fun z ρ4=>a0y g tt te Q r ρ4 (acc ++ [z]) else a0y g tt te Q r ρ2 acc
def b3p(n:Nat)(cap:List (Str × Nat))(di:TDI)(g:TDG)(tt:TDT)(te:TDE):TDF:=fun ρ Q=>di ρ fun xs ρ1=>xs.length <= 1000000/\(cap.map (·.2)).Nodup/\a0y g tt te (fun acc ρ'=>Q acc (fills ρ' (flC n cap) ρ1)) xs (capR n cap ρ1) []
section
variable{K:W.Frag}{c:Rc}{O:Own}{ρ:Rho}{σ:St}{H H':Hp}{S S':Addr->Prop}
theorem c0y{l:L}:isOw (lend l)=isOw l:=by cases l<;>rfl
theorem b8p{n:Nat}{cap:List (Str × Nat)}{own:List Str}(hn:own.length=n)(R:Rel K c O ρ σ H)(nd:(cap.map (·.2)).Nodup):Begins K c O ρ σ H (a5k n cap) (capR n cap ρ) (a4s own cap σ):=by
 have at_:∀ {j:Nat} {l:L},(capR n cap ρ)[j]? = some (some l)->n <= j/\∃ p l0,cap[j - n]? = some p/\ρ[p.2]? = some (some l0)/\l=lend l0:=fun{j l} e=>by
  unfold capR at e
  by_cases hj:j < n
  ·rw [List.getElem?_append_left (by simpa using hj),List.getElem?_replicate,if_pos hj] at e;cases e
  ·rw [getElem?_append_right (by simpa using Nat.le_of_not_lt hj),length_replicate,getElem?_map] at e
   cases q:cap[j - n]? with
   | none=>rw [q] at e;cases e
   | some p =>
    rw [q] at e
    have e':(ρ[p.2]?.join).map lend=some l:=Option.some.inj e
    cases q2:ρ[p.2]?.join with
    | none=>rw [q2] at e';cases e'
    | some l0=>rw [q2] at e';cases e';exact⟨by omega,p,l0,rfl,a1b q2,rfl⟩
 have st:∀ {j:Nat} {p:Str × Nat},n <= j->cap[j - n]? = some p->(a4s own cap σ)[j]? = some (σ[p.2]?).join:=fun{j p} h1 h2=>by
  unfold a4s
  rw [getElem?_append_right (by simp;omega),length_replicate,hn,getElem?_map,h2];rfl
 refine⟨fun j l e ho=>?_,fun j x e=>?_,fun j e=>?_,fun j k i e1 e2=>?_,?_⟩
 ·obtain⟨h1,p,l0,h2,h3,h4⟩:=at_ e
  have ho':isOw l0=true:=by rw [h4,c0y] at ho;exact ho
  obtain⟨q,_,hq⟩:=R.ow h3 ho'
  refine⟨p.2,l0,?_,h3,ho',h4,?_⟩
  ·unfold a5k;rw [if_neg (by omega),h2];rfl
  ·rw [st h1 h2,hq];rfl
 ·obtain⟨h1,p,l0,h2,h3,h4⟩:=at_ e
  cases l0 with
  | d y =>
   cases h4
   obtain⟨v,e1,e2⟩:=R.dat _ _ h3
   exact⟨v,by rw [st h1 h2,e1];rfl,e2⟩
  | _=>cases h4
 ·obtain⟨h1,p,l0,h2,h3,h4⟩:=at_ e
  cases l0 with
  | scr=>rw [st h1 h2,R.scr _ h3];rfl
  | _=>cases h4
 ·unfold a5k at e1 e2
  split at e1
  ·cases e1
  ·split at e2
   ·cases e2
   ·rename_i h1 h2
    rw [← getElem?_map] at e1 e2
    obtain⟨a1,b1⟩:=List.getElem?_eq_some_iff.mp e1
    obtain⟨a2,b2⟩:=List.getElem?_eq_some_iff.mp e2
    have:=(List.getElem_inj nd).mp (b1.trans b2.symm)
    omega
 ·unfold a4s capR;simp [hn]
theorem b6r{n:Nat}{own:List Str}{cap:List (Str × Nat)}{wi:TI}{g:TG}{tt:TT}{te:TE}{di:TDI}{dg:TDG}{dt:TDT}{de:TDE}(hn:own.length=n)(hi:AdI K wi di)(hg:AdG K g dg)(ht:AdT K tt dt)(he:AdE K te de) :
  AdF K (b8a own cap wi g tt te) (b3p n cap di dg dt de):=by
 intro c O ρ σ H Qd Q R h k
 refine hi c O ρ σ H _ _ R h fun xs ρ1 O1 J H1 h1 R1 P1 I1 D hD=>?_
 obtain⟨hz,nd,hloop⟩:=h1
 have B:=b8p (own:=own) hn R1 nd
 generalize hOc:a0r O1 ρ1 (a5k n cap)=Oc
 have s0:=a0l hD (.lst [])
 obtain⟨R2,P2⟩:=R1.begin (b:=false) (P:=fun a=>a=D) B s0 (fun p e=>by subst e;exact⟨hD,by rw [a0c];exact fun z=>nomatch z⟩)
 rw [hOc] at R2 P2
 have lentM:∀ {b:Addr},(∃ j,Oc j=some b)->∃ vs,H1 b=some (.lst vs):=fun hq8=>by
  obtain⟨j,e⟩:=hq8
  rw [← hOc] at e
  obtain⟨i,_,_,_,_,hO⟩:=a1f e
  exact(R1.has i _ hO).2
 have nD:∀ j,Oc j ≠ some D:=fun j e=>by
  obtain⟨vs,q⟩:=lentM ⟨j,e⟩
  rw [hD] at q;cases q
 -- what holds between two turns
 let Jn:St->Hp->Own->Rho->List PyData->List V->Prop:=fun σ' H' O' ρ' acc ys=>Rel K (c.in O1 Oc (fun a=>a=D) false H') O' ρ' σ' H'/\H' D=some (.lst ys)/\a0a K H' (live (c.in O1 Oc (fun a=>a=D) false H') O') acc ys /\
  (∀ b o,(∀ j,Oc j ≠ some b)->b ≠ D->H1 b=some o->H' b=some o)/\Pers K (live c O1) H1 (live (c.in O1 Oc (fun a=>a=D) false H') O') H'
 refine⟨fun i m σ' H'=>m=xs.length - i/\i <= xs.length/\∃ O' ρ' acc ys,Jn σ' H' O' ρ' acc ys/\acc.length <= i/\a0y dg dt de (fun acc ρ'=>Qd acc (fills ρ' (flC n cap) ρ1)) (xs.drop i) ρ' acc,⟨xs.length,by simp,zero_le _,Oc,_,[],[],⟨R2,a0c,.nil,fun b o _ nb q=>by rw [a0d nb];exact q,P2⟩,le_refl _,by rw [List.drop_zero];exact hloop⟩,?_⟩
 rintro i m σ' H' ⟨rfl,hle,O',ρ',acc,ys,⟨R3,hDy,hacc,fr3,P3⟩,hal,q3⟩
 obtain⟨it,stop⟩:=I1 _ _ P3
 by_cases hlt:i < xs.length
 ·rw [List.drop_eq_getElem_cons hlt] at q3
  obtain⟨go,yld⟩:=it i xs[i] (getElem?_eq_getElem hlt)
  have q3':dg xs[i] ρ' fun ρ1'=>dt ρ1' fun b ρ2=>if b=true then de ρ2 fun y ρ3=>fz ρ3 y fun z ρ4=>a0y dg dt de (fun acc ρ'=>Qd acc (fills ρ' (flC n cap) ρ1)) (xs.drop (i + 1)) ρ4 (acc ++ [z]) else a0y dg dt de (fun acc ρ'=>Qd acc (fills ρ' (flC n cap) ρ1)) (xs.drop (i + 1)) ρ2 acc:=q3
  -- to the next turn, at a heap that differs from H4 at D alone
  have next:∀ (σ4:St) (H4 H5:Hp) (O4:Own) (ρ4:Rho) (acc':List PyData) (ys':List V),Rel K (c.in O1 Oc (fun a=>a=D) false H') O4 ρ4 σ4 H4->Pers K (live (c.in O1 Oc (fun a=>a=D) false H') O') H' (live (c.in O1 Oc (fun a=>a=D) false H') O4) H4 ->
    H5 D=some (.lst ys')->(∀ b,b ≠ D->H5 b=H4 b)->a0a K H4 (live (c.in O1 Oc (fun a=>a=D) false H') O4) acc' ys'->Jn σ4 H5 O4 ρ4 acc' ys':=fun σ4 H4 H5 O4 ρ4 acc' ys' R4 P4 h5 ne a4=>by
   have h4D:H4 D ≠ none:=R4.kept D (by show H' D ≠ none;rw [hDy];exact fun z=>nomatch z)
   have kp:Keep (live (c.in O1 Oc (fun a=>a=D) false H') O4) H4 H5:=by
    have hDl:∃ zs,H4 D=some (.lst zs):=⟨ys,R4.same D _ (fun hq8=>by obtain⟨j,e⟩:=hq8;exact nD j e) hDy⟩
    obtain⟨zs,hDl⟩:=hDl
    exact⟨fun b ws e=>by rw [ne b (b3j e hDl (by intro z;cases z))];exact e,fun b o u e=>by rw [ne b (b3j e hDl (by intro z;cases z))];exact e,fun b ws hl e=>by rw [ne b (fun z=>hl.2.1 z)];exact e⟩
   have hl:∀ a,live (c.in O1 Oc (fun a=>a=D) false H') O4 a->live (c.in O1 Oc (fun a=>a=D) false H5) O4 a:=fun a z=>z
   have P5:Pers K (live (c.in O1 Oc (fun a=>a=D) false H') O4) H4 (live (c.in O1 Oc (fun a=>a=D) false H5) O4) H5:=.of kp hl
   have inM:∀ i p,O4 i=some p->∃ j,Oc j=some p:=fun i p e=>by
    rcases (R4.has' i p e).1 with z | z
    ·exact z
    ·exact absurd z.1 Bool.false_ne_true
   refine⟨R4.to (fun _=>rfl) (fun _ _ _ z=>z) rfl rfl P5 (fun i p vs e q=>?_) (fun i p e _=>.inl (inM i p e)) (fun p z=>z.elim .inl fun w=>absurd w.1 Bool.false_ne_true) (fun p z=>?_) (fun b o _ z=>z) (fun b z=>z) (fun p z=>?_) (fun p z=>?_) (fun _=>rfl) (R4.sc.keep kp),h5,P5.all a4,fun b o n1 n2 q=>?_,(P3.trans P4).trans P5⟩
   ·obtain⟨j,ej⟩:=inM i p e
    rw [ne p (fun z=>nD j (by rw [← z];exact ej))];exact q
   ·have z':H5 p=none:=z
    have np:p ≠ D:=by rintro rfl;rw [h5] at z';cases z'
    rw [ne p np] at z'
    exact R4.frs p (R4.free0 z')
   ·obtain⟨j,ej⟩:=z
    obtain⟨vs,q⟩:=R4.ml p ⟨j,ej⟩
    exact⟨vs,by rw [ne p (fun w=>nD j (by rw [← w];exact ej))];exact q⟩
   ·rcases z with z | ⟨j,ej⟩
    ·rw [show p=D from z,h5];exact fun w=>nomatch w
    ·obtain⟨vs,q⟩:=R4.ml p ⟨j,ej⟩
     rw [ne p (fun w=>nD j (by rw [← w];exact ej)),q];exact fun w=>nomatch w
   ·rw [ne b n2]
    exact R4.same b o (fun hq8=>by obtain⟨j,e⟩:=hq8;exact n1 j e) (fr3 b o n1 n2 q)
  refine .inr ⟨go,fun σ'' H''=>∃ O'' ρ'' acc' ys',Jn σ'' H'' O'' ρ'' acc' ys'/\acc'.length <= i + 1/\a0y dg dt de (fun acc ρ'=>Qd acc (fills ρ' (flC n cap) ρ1)) (xs.drop (i + 1)) ρ'' acc',fun σ'' H'' hq8=>by obtain⟨O'',ρ'',acc',ys',a1,a2,a3⟩:=hq8;exact⟨xs.length - (i + 1),by omega,rfl,hlt,O'',ρ'',acc',ys',a1,a2,a3⟩,fun v H4 y=>?_⟩
  obtain⟨s4,a4⟩:=yld v H4 y
  refine hg _ O' ρ' σ' H4 xs[i] v _ _ (R3.grow s4) a4 q3' fun O5 ρ5 σ5 R5 P5 q5=>?_
  refine ht _ O5 ρ5 σ5 H4 _ _ R5 q5 fun b ρ6 O6 H6 q6 R6 P6=>?_
  have P06:=((Pers.same s4).trans P5).trans P6
  have dAt:∀ {O9:Own} {ρ9:Rho} {σ9:St} {H9:Hp},Rel K (c.in O1 Oc (fun a=>a=D) false H') O9 ρ9 σ9 H9->H9 D=some (.lst ys):=fun Rx=>Rx.same D _ (fun hq8=>by obtain⟨j,e⟩:=hq8;exact nD j e) hDy
  cases b with
  | false =>
   rw [if_neg Bool.false_ne_true] at q6 ⊢
   exact⟨O6,ρ6,acc,ys,next σ5 H6 H6 O6 ρ6 acc ys R6 P06 (dAt R6) (fun _ _=>rfl) (P06.all hacc),by omega,q6⟩
  | true =>
   rw [if_pos rfl] at q6 ⊢
   refine he _ O6 ρ6 σ5 H6 _ _ R6 q6 fun y ρ7 O7 u H7 q7 R7 P7 a7=>?_
   obtain⟨z,ρ8,O8,q8,R8,P8,a8⟩:=R7.fz a7 q7
   have P08:=(P06.trans P7).trans P8
   have accl:ys.length=acc.length:=hacc.length
   refine⟨ys,dAt R8,by rw [accl];exact mil (by omega),O8,ρ8,acc ++ [z],ys ++ [u],next σ5 H7 _ O8 ρ8 _ _ R8 P08 a0c (fun b nb=>a0d nb) ((P08.all hacc).snoc a8),by rw [length_append,List.length_singleton];omega,q8⟩
 ·have e:i=xs.length:=by omega
  subst e
  rw [List.drop_eq_nil_of_le (le_refl _)] at q3
  refine .inl ⟨stop,?_⟩
  have fr:∀ b o,(∀ j,a0r O1 ρ1 (a5k n cap) j ≠ some b)->H1 b=some o->H' b=some o:=fun b o n1 q=>fr3 b o (by rw [← hOc];exact n1) (a0q q hD) q
  have fp:=b0a R1 hD
  have hl:∀ a,live (c.in O1 Oc (fun a=>a=D) false H') O' a->live (c.add D) O1 a:=fun a z=>a6c z.1 z.2.1
  have hP:Pers K (live (c.in O1 Oc (fun a=>a=D) false H') O') H' (live (c.add D) O1) H':=.of (Keep.refl _ _) hl
  have hp:Pers K (live c O1) H1 (live (c.add D) O1) H':=P3.trans hP
  have hf:∀ j i,(j,i) ∈ flC n cap->a5k n cap j=some i:=fun j i m=>by
   obtain⟨h1,h2⟩:=b6p.mp m
   unfold a5k;rw [if_neg (by omega)];exact h2
  have hf':∀ j i,a5k n cap j=some i->(j,i) ∈ flC n cap:=fun j i e=>by
   unfold a5k at e
   split at e
   ·cases e
   ·exact b6p.mpr ⟨by omega,e⟩
  have Rn:Rel K (c.add D) O1 (fills ρ' (flC n cap) ρ1) σ H':=R1.finish (P':=fun a=>c.P a ∨ a=D) (by rw [b6q];exact nd) hf hf' R3 (fun j=>by rw [hOc];rfl) rfl rfl fr (fun j p e=>R3.ml p ⟨j,by rw [← hOc];exact e⟩) hP hp (fun q z=>z.elim .inl fun e=>.inr (by subst e;exact⟨by rw [hDy];exact(fun z=>nomatch z),fp.2.2.2⟩))
  exact k _ _ O1 D ys H' q3 Rn (P1.trans hp) fp hDy (hP.all hacc)
end
end L2
end
section
namespace L2
open PySem PySem.Spec PyProof.Rows
def DG(X:Cx)(target:Expr)(dg:TDG):Prop:=∃ g,PG X target g/\AdG X.K g dg
def DIf(X:Cx)(ifs:List Expr)(dt:TDT):Prop:=∃ t,PIf X ifs t/\AdT X.K t dt
section
variable{X:Cx}{st:Stmt}{rest:List Stmt}{e tg iter a b c:Expr}{es ifs:List Expr}{de da db dc:TDE}{df:TDF}{dt du:TDS}{dg:TDG}{dgs:TDGs}{di:TDI}{dtt:TDT}{daa:TDA}{pos:Pos}
theorem a3b:DSs X [] b8h:=⟨_,a5s,c7g⟩
theorem a0p(h1:DS X st dt)(h2:DSs X rest du):DSs X (st :: rest) (dSeq dt du):=by obtain⟨_,p,a⟩:=h1;obtain⟨_,p',a'⟩:=h2;exact⟨_,a0s p p',d1h a a'⟩
theorem a0v(h1:DS X st dt):DSs X [st] dt:=by obtain⟨_,p,a⟩:=h1;exact⟨_,a1h p,a⟩
theorem b6s(he:DE X e de)(hs:swapsWith e none pos.line X.env=pure false:=by rfl):DS X (.Expr e pos) (b8i de):=by obtain⟨_,p,a⟩:=he;exact⟨_,b6a p hs,c7h a⟩
theorem a1x(he:DE X e de):DS X (.Return (some e) pos) (dRet de):=by obtain⟨_,p,a⟩:=he;exact⟨_,a2s p,d1i a⟩
theorem c7m(he:DF X e df):DS X (.Return (some e) pos) (b8j df):=by obtain⟨_,p,a⟩:=he;exact⟨_,a2s p,c7i a⟩
theorem a5l{c:Expr}{a b:List Stmt}(hc:DT X c dtt)(ha:DSs X a dt)(hb:DSs X b du):DS X (.If c a b pos) (dIf dtt dt du):=by obtain⟨_,p,a⟩:=hc;obtain⟨_,p',a'⟩:=ha;obtain⟨_,p2,a2⟩:=hb;exact⟨_,a9a p p' p2,ad_if a a' a2⟩
theorem a3z{i:Nat}{x:Str}{pos':Pos}(hN:X.N.Nodup)(hi:X.N[i]? = some x)(hx:Loc X.env.scope x)(he:DE X e de)(hs:swapsWith e (some (.Name x pos')) pos.line X.env=pure false:=by rfl)(hf:X.fn x=true ∨ X.env.scope.names.lookup x=some .local:=by first | exact .inl rfl | exact .inr rfl) :
  DS X (.Assign [.Name x pos'] e pos) (dSet i de):=by obtain⟨_,p,a⟩:=he;exact⟨_,a2f hN hi hx p hs hf,d1j a⟩
theorem b6t{i:Nat}{x:Str}{pos':Pos}(hN:X.N.Nodup)(hi:X.N[i]? = some x)(hx:Loc X.env.scope x)(he:DF X e df)(hs:swapsWith e (some (.Name x pos')) pos.line X.env=pure false:=by rfl)(hf:X.fn x=true ∨ X.env.scope.names.lookup x=some .local:=by first | exact .inl rfl | exact .inr rfl) :
  DS X (.Assign [.Name x pos'] e pos) (b3o i df):=by obtain⟨_,p,a⟩:=he;exact⟨_,a2f hN hi hx p hs hf,b6o a⟩
theorem a2p{i:Nat}{x:Str}(hN:X.N.Nodup)(hi:X.N[i]? = some x)(hx:Loc X.env.scope x)(hf:X.fn x=true ∨ X.env.scope.names.lookup x=some .local:=by first | exact .inl rfl | exact .inr rfl | assumption):DG X (.Name x pos) (b4i i):=⟨_,a6r hN hi hx hf,c7j⟩
theorem c0z(i:Nat){x:Str}{p p2:Pos}(hN:X.N[i]? = some x)(he:DE X e de)(hv:Vis X.env.scope x:=by first | exact Or.inl rfl | exact Or.inr (Or.inl rfl) | exact Or.inr (Or.inr rfl)) (hd:(x == ("__debug__" : Str))=false:=by decide)
  (hcd:(x == ("__classdict__" : Str))=false:=by decide) (hs:starEach [e] X.env=[(false,eval e X.env)]:=by rfl)
  (hbase:attributeBase (.Name x p) "append" X.env (eval (.Name x p) X.env)=eval (.Name x p) X.env:=by rfl)
  (hfew:((backTo pos (starEach [e] X.env)).all (fun x=>!x.1) && (backToKw pos (keywordEach [] X.env)).all (fun x=>x.1.isSome)
   && decide (([e]:List Expr).length + ([]:List Keyword).length + (if ([]:List Keyword).isEmpty then 0 else 1) < 30))=true:=by rfl)
  (hline:(p2.endLine == pos.line)=true:=by rfl):DE X (.Call (.Attribute (.Name x p) "append" p2) [e] [] pos) (b1t i de):=by
 obtain⟨te,pe,ae⟩:=he
 exact⟨_,b0p PySem.F.plainAttrs_list PySem.F.slot_list_append PySem.F.type_list_append b2l (b0g hN hv hd hcd) (a0e pe a0h hs) hbase hfew hline hs rfl,c0u ae⟩
theorem c1a{body:List Stmt}(hp:PassesOwn (model X.prog X.w) X.A X.env X.xe)(hc:X.calm=true)(hi:DI X tg iter di)(hg:DG X tg dg)(hb:DSs X body dt)(hs:∀ x,foldedSetIterable iter X.env x=pure x:=by intro _;rfl):DS X (.For tg iter body [] pos) (dFor di dg dt):=
 by obtain⟨_,p,a⟩:=hi;obtain⟨_,p',a'⟩:=hg;obtain⟨_,p2,a2⟩:=hb;exact⟨_,d0k hp hc p p' p2 hs,d1n a a' a2⟩
theorem a8n(h:DE X e de):DI X tg e (b8m de):=by obtain⟨_,p,a⟩:=h;exact⟨_,d0v p,d1m a⟩
theorem a6l{p:Pos} (hg:Gl X "range") (hm:X.mg "range" = none) (ha:DE X a da) (hs:starEach [a] X.env=[(false,eval a X.env)]:=by rfl):DI X tg (.Call (.Name "range" p) [a] [] pos) (b4j da):=
 by obtain⟨_,p,a⟩:=ha;exact⟨_,c0a hg hm (a0e p a0h hs) hs,c7k a⟩
theorem a3k:DIf X [] (fun ρ Q=>Q true ρ):=⟨_,a9d,fun c O ρ σ H Qd Q R h k=>k _ _ _ _ h R .refl⟩
end
def upE(K:W.Frag)(dt:TDE):TE:=fun σ H Q=>∃ c O ρ Qd,Rel K c O ρ σ H/\dt ρ Qd/\(∀ x ρ' O' v H',Qd x ρ'->Rel K c O' ρ' σ H'->Pers K (live c O) H (live c O') H'->AtV K (live c O') σ H' x v->Q v H')
def upT(K:W.Frag)(dt:TDT):TT:=fun σ H Q=>∃ c O ρ Qd,Rel K c O ρ σ H/\dt ρ Qd/\(∀ b ρ' O' H',Qd b ρ'->Rel K c O' ρ' σ H'->Pers K (live c O) H (live c O') H'->Q b H')
def upG(K:W.Frag)(dg:TDG):TG:=fun v σ H Q=>∃ c O ρ x Qd,Rel K c O ρ σ H/\AtD K H (live c O) x v/\dg x ρ Qd/\(∀ O' ρ' σ' ,Rel K c O' ρ' σ' H->Pers K (live c O) H (live c O') H->Qd ρ'->Q σ' H)
theorem c1b{K:W.Frag}{dt:TDE}:AdE K (upE K dt) dt:=fun c O ρ σ H Qd Q R h k=>⟨c,O,ρ,Qd,R,h,k⟩
theorem c1c{K:W.Frag}{dt:TDT}:AdT K (upT K dt) dt:=fun c O ρ σ H Qd Q R h k=>⟨c,O,ρ,Qd,R,h,k⟩
theorem c1d{K:W.Frag}{dg:TDG}:AdG K (upG K dg) dg:=fun c O ρ σ H x v Qd Q R a h k=>⟨c,O,ρ,x,Qd,R,a,h,k⟩
theorem DE.up{X:Cx}{e:Expr}{de:TDE}(h:DE X e de):PE X e (upE X.K de):=fun pins s σ H Q I q=>by
 obtain⟨t,p,a⟩:=h
 obtain⟨c,O,ρ,Qd,R,q,k⟩:=q
 exact p pins s σ H Q I (a c O ρ σ H Qd Q R q k)
theorem DIf.up{X:Cx}{e:List Expr}{de:TDT}(h:DIf X e de):PIf X e (upT X.K de):=fun pins s σ H Q I q=>by
 obtain⟨t,p,a⟩:=h
 obtain⟨c,O,ρ,Qd,R,q,k⟩:=q
 exact p pins s σ H Q I (a c O ρ σ H Qd Q R q k)
theorem DG.up{X:Cx}{e:Expr}{dg:TDG}(h:DG X e dg):PG X e (upG X.K dg):=fun pins s σ H v u Q I r q=>by
 obtain⟨t,p,a⟩:=h
 obtain⟨c,O,ρ,x,Qd,R,ax,q,k⟩:=q
 exact p pins s σ H v u Q I r (a c O ρ σ H x v Qd Q R ax q k)
section
variable{X:Cx}{elt tg iter:Expr}{ifs:List Expr}{scope:Scope}{pos:Pos}{own:List Str}{cap:List (Str × Nat)}{di:TDI}{dg:TDG}{dt:TDT}{de:TDE}
theorem a4p(own:List Str)(cap:List (Str × Nat))(hc:X.calm=true)(hok:a3f X scope own cap=true)(hnd:(scope.names.map (·.1)).Nodup)(hi:DI X tg iter di)
  (hg:∀ fp s2 H2,DG (cxC X scope own cap fp s2 H2) tg dg) (ht:∀ fp s2 H2,DIf (cxC X scope own cap fp s2 H2) ifs dt) (he:∀ fp s2 H2,DE (cxC X scope own cap fp s2 H2) elt de)
  (hs:∀ x,foldedSetIterable iter X.env x=pure x:=by intro _;rfl):DF X (.ListComp elt [⟨tg,iter,ifs,0⟩] scope pos) (b3p own.length cap di dg dt de):=by
 obtain⟨ti,pi,ai⟩:=hi
 exact⟨_,a9e hc hok hnd pi (fun a b c=>(hg a b c).up) (fun a b c=>(ht a b c).up) (fun a b c=>(he a b c).up) hs,b6r rfl ai c1d c1c c1b⟩
theorem c7n{i:Nat}{y:Str}{py spos:Pos}(hN:X.N.Nodup)(hi':X.N[i]? = some y)(hy:X.env.scope.names.lookup y=some .local)
  (own:List Str) (cap:List (Str × Nat)) (hc:X.calm=true) (hok:a3f X scope own cap=true) (hnd:(scope.names.map (·.1)).Nodup) (hi:DI X tg iter di)
  (hg:∀ fp s2 H2,DG (cxC X scope own cap fp s2 H2) tg dg) (ht:∀ fp s2 H2,DIf (cxC X scope own cap fp s2 H2) ifs dt) (he:∀ fp s2 H2,DE (cxC X scope own cap fp s2 H2) elt de)
  (hsw:swapsWith (.ListComp elt [⟨tg,iter,ifs,0⟩] scope pos) (some (.Name y py)) spos.line X.env=pure true:=by rfl)
  (hs:∀ x,foldedSetIterable iter X.env x=pure x:=by intro _;rfl):DS X (.Assign [.Name y py] (.ListComp elt [⟨tg,iter,ifs,0⟩] scope pos) spos) (b3o i (b3p own.length cap di dg dt de)):=by
 obtain⟨ti,pi,ai⟩:=hi
 exact⟨_,c6z hN hi' hy hc hok hnd pi (fun a b c=>(hg a b c).up) (fun a b c=>(ht a b c).up) (fun a b c=>(he a b c).up) hsw hs,b6o (b6r rfl ai c1d c1c c1b)⟩
end
section
variable{K:W.Frag}
def dIs(T:String)(de:TDE):TDE:=fun ρ Q=>de ρ fun x ρ1=>need (a0i ρ1 x) fun d=>Q (.d (.bool (isD T d))) ρ1
theorem ad_is{t:TE}{de:TDE}{T:String}(hT:a0w T=true)(h:AdE K t de):AdE K (tCB (fun xs H Q=>∃ v S d T,xs=[v,.ty T]/\AtD K H S d v/\a0w T=true/\Q (.bl (isD T d)) H) (a1m t (a1m (tC (.ty T)) tNil))) (dIs T de):=fun c O ρ σ H Qd Q R q k =>
 h c O ρ σ H _ _ R q fun x ρ1 O1 v H1 h1 R1 P1 a1=>by
  obtain⟨d,e1,h2⟩:=ne (h1)
  exact⟨v,Any,d,T,rfl,(R1.top a1 e1).any,hT,k _ _ _ _ _ h2 R1 P1 a4o⟩
end
theorem a4a{X:Cx}{e:Expr}{de:TDE}{x:Str}{T:String}{p p2 pos:Pos} (hg:Gl X "isinstance") (hm:X.mg "isinstance" = none) (hg2:Gl X x) (hm2:X.mg x=none) (hv:bootBuiltins x=some (.type T)) (hT:a0w T=true) (he:DE X e de) (hn:x ≠ "__name__":=by decide) (hd:(x == ("__debug__" : Str))=false:=by decide)
  (hs:starEach [e,.Name x p2] X.env=(false,eval e X.env) :: starEach [.Name x p2] X.env:=by rfl):DE X (.Call (.Name "isinstance" p) [e,.Name x p2] [] pos) (dIs T de):=by
 obtain⟨t,pe,ae⟩:=he
 exact⟨_,a2u c3b hg hm a8e (a0e pe (a0e (b8b hg2 hm2 hv hn hd) a0h) hs) (by decide) (by decide) hs rfl,ad_is hT ae⟩
end L2
end
section
namespace L2
open PySem PySem.Spec PyProof.Rows
noncomputable def fEqA(neg:Bool):F2:=fun x y=>if (a2c x && a2c y && scal (toV x) (toV y))=true then some (.bool (if neg then !decide (toV x=toV y) else decide (toV x=toV y))) else fEq neg x y
section
variable{K:W.Frag}
theorem a6e:AdR K (fun x y H Q=>rEq x y H Q ∨ rEqD K false x y H Q) (fEqA false):=by
 intro S H x y dx dy z Q f hx hy e k
 unfold fEqA at e
 split at e
 ·rename_i hc
  rw [and_eq_true,and_eq_true] at hc
  cases e
  obtain⟨e1,_⟩:=a9j (hx.at fun ds z=>by subst z;exact absurd hc.1.1 (by simp [a2c])) hc.1.1
  obtain⟨e2,_⟩:=a9j (hy.at fun ds z=>by subst z;exact absurd hc.1.2 (by simp [a2c])) hc.1.2
  rw [e1,e2]
  exact .inl ⟨hc.2,k _ _ (Same.refl _) (a1j _)⟩
 ·exact .inr (c5w S H x y dx dy z Q f hx hy e k)
theorem a7e:AdR K (fun x y H Q=>rNe x y H Q ∨ rEqD K true x y H Q) (fEqA true):=by
 intro S H x y dx dy z Q f hx hy e k
 unfold fEqA at e
 split at e
 ·rename_i hc
  rw [and_eq_true,and_eq_true] at hc
  cases e
  obtain⟨e1,_⟩:=a9j (hx.at fun ds z=>by subst z;exact absurd hc.1.1 (by simp [a2c])) hc.1.1
  obtain⟨e2,_⟩:=a9j (hy.at fun ds z=>by subst z;exact absurd hc.1.2 (by simp [a2c])) hc.1.2
  rw [e1,e2]
  exact .inl ⟨hc.2,k _ _ (Same.refl _) (a1j _)⟩
 ·exact .inr (c5w S H x y dx dy z Q f hx hy e k)
theorem a6f{X:Cx}(hu:X.A.units + 64 < cLine):OpR X (compareOp .Eq) (fun x y H Q=>rEq x y H Q ∨ rEqD X.K false x y H Q):=a9b.or (d0t hu)
theorem a7f{X:Cx}(hu:X.A.units + 64 < cLine):OpR X (compareOp .NotEq) (fun x y H Q=>rNe x y H Q ∨ rEqD X.K true x y H Q):=op_ne.or (d0u hu)
end
theorem c3n{neg:Bool}{x y:Str}:fEqA neg (.str x) (.str y)=some (.bool (if neg then !decide (x=y) else decide (x=y))):=by
 have e:decide (V.str x=V.str y)=decide (x=y):=by simp
 unfold fEqA
 rw [if_pos (show(a2c (.str x) && a2c (.str y) && scal (toV (.str x)) (toV (.str y)))=true from rfl)]
 show some (PyData.bool (if neg=true then !decide (V.str x=V.str y) else decide (V.str x=V.str y)))=_
 rw [e]
theorem c3o{neg:Bool}{x y:Int}:fEqA neg (.int x) (.int y)=some (.bool (if neg then !decide (x=y) else decide (x=y))):=by
 have e:decide (V.int x=V.int y)=decide (x=y):=by simp
 unfold fEqA
 rw [if_pos (show(a2c (.int x) && a2c (.int y) && scal (toV (.int x)) (toV (.int y)))=true from rfl)]
 show some (PyData.bool (if neg=true then !decide (V.int x=V.int y) else decide (V.int x=V.int y)))=_
 rw [e]
theorem c1e{neg:Bool}{x y:Bool}:fEqA neg (.bool x) (.bool y)=some (.bool (if neg then !decide (x=y) else decide (x=y))):=by
 have e:decide (V.bl x=V.bl y)=decide (x=y):=by simp
 unfold fEqA
 rw [if_pos (show(a2c (.bool x) && a2c (.bool y) && scal (toV (.bool x)) (toV (.bool y)))=true from rfl)]
 show some (PyData.bool (if neg=true then !decide (V.bl x=V.bl y) else decide (V.bl x=V.bl y)))=_
 rw [e]
theorem b4p{neg:Bool}{x y:PyData}(h:(a2c x && a2c y)=false)(hx:SeqAt.shaped x=true)(hy:SeqAt.shaped y=true):fEqA neg x y=some (.bool (if neg then !PyData.eqv x y else PyData.eqv x y)):=by
 unfold fEqA fEq
 rw [h,Bool.false_and,if_neg Bool.false_ne_true,if_pos ⟨hx,hy⟩]
theorem fIx_l{xs:List PyData}{i:Int}:fIx (.list xs) (.int i)=atI xs i:=rfl
theorem fIx_t{xs:List PyData}{i:Int}:fIx (.tuple xs) (.int i)=atI xs i:=rfl
theorem d1o{i j:Int}:fAdd (.int i) (.int j)=some (.int (i + j)):=rfl
theorem d1p{p:Int->Int->Bool}{i j:Int}:fCmp p (.int i) (.int j)=some (.bool (p i j)):=rfl
theorem d1q{xs:List PyData}:fLen [.list xs]=some (.int xs.length):=rfl
theorem d1r{xs:List PyData}:fLen [.tuple xs]=some (.int xs.length):=rfl
theorem c3p{xs:List PyData}:b0w [.list xs]=some (.tuple xs):=rfl
theorem c3q{xs:List PyData}:b0w [.tuple xs]=some (.tuple xs):=rfl
theorem c7o{xs:List PyData}:b3l [.list xs]=some xs:=rfl
theorem c7p{xs:List PyData}:b3l [.tuple xs]=some xs:=rfl
theorem b4q{xs ys:List PyData}(h:xs.length + ys.length <= sizeLine):fCat (.list xs) (.list ys)=some (xs ++ ys):=by
 show(if xs.length + ys.length <= sizeLine then some (xs ++ ys) else none)=_
 rw [if_pos h]
theorem a5v{xs:List PyData}{i:Int}{k:PyData->Prop}(h0:0 <= i)(h1:i < xs.length)(h:∀ d,d ∈ xs->xs[i.toNat]? = some d->k d):need (atI xs i) k:=by
 obtain⟨x,e1,e2,e3⟩:=c0o h0 h1
 exact c7a e1 (h x e2 e3)
theorem b2s{α:Type}{xs r:List α}{i:Nat}{x:α}(h:xs.drop i=x :: r):xs[i]? = some x/\xs.drop (i + 1)=r:=by
 have hi:i < xs.length:=by
  by_cases h':i < xs.length
  ·exact h'
  ·rw [List.drop_eq_nil_of_le (by omega)] at h;cases h
 rw [List.drop_eq_getElem_cons hi] at h
 injection h with h1 h2
 exact⟨by rw [getElem?_eq_getElem hi,h1],h2⟩
theorem b4r{α:Type}{xs:List α}{i:Nat}(hi:i <= xs.length)(h:xs.drop i=[]):i=xs.length:=by
 have:=congrArg List.length h
 simp at this
 omega
theorem b4s{g:TDG}{b:TDS}{D:DEnds}{xs:List PyData}{ρ:Rho}(Pv:Nat->Rho->Prop)(h0:Pv 0 ρ)
  (hs:∀ (i:Nat) (x:PyData) (ρ:Rho) (N:Rho->Prop),xs[i]? = some x->Pv i ρ->(∀ ρ',Pv (i + 1) ρ'->N ρ')->g x ρ fun ρ1=>b { D with nx:=N,ct:=N,bk:=D.nx } ρ1)
  (hd:∀ ρ,Pv xs.length ρ->D.nx ρ):a3g g b D xs ρ:=by
 have key:∀ (r:List PyData) (i:Nat),i <= xs.length->xs.drop i=r->∀ ρ,Pv i ρ->a3g g b D r ρ:=fun r=>by
  induction r with
  | nil =>
   intro i hi e ρ p
   rw [b4r hi e] at p
   exact hd ρ p
  | cons x r ih =>
   intro i hi e ρ p
   obtain⟨e1,e2⟩:=b2s e
   have hlt:i < xs.length:=(List.getElem?_eq_some_iff.mp e1).1
   exact hs i x ρ _ e1 p fun ρ' p'=>ih (i + 1) hlt e2 ρ' p'
 exact key xs 0 (zero_le _) (by simp) ρ h0
theorem a6g{g:TDG}{tt:TDT}{te:TDE}{Q:List PyData->Rho->Prop}{xs:List PyData}{ρ:Rho}(Pv:Nat->Rho->List PyData->Prop)(h0:Pv 0 ρ [])
  (hs:∀ (i:Nat) (x:PyData) (ρ:Rho) (acc:List PyData) (N:Rho->List PyData->Prop),xs[i]? = some x->Pv i ρ acc->(∀ ρ' acc',Pv (i + 1) ρ' acc'->N ρ' acc') ->
   g x ρ fun ρ1=>tt ρ1 fun b ρ2=>if b=true then te ρ2 fun y ρ3=>fz ρ3 y fun z ρ4=>N ρ4 (acc ++ [z]) else N ρ2 acc)
  (hd:∀ ρ acc,Pv xs.length ρ acc->Q acc ρ):a0y g tt te Q xs ρ []:=by
 have key:∀ (r:List PyData) (i:Nat),i <= xs.length->xs.drop i=r->∀ ρ acc,Pv i ρ acc->a0y g tt te Q r ρ acc:=fun r=>by
  induction r with
  | nil =>
   intro i hi e ρ acc p
   rw [b4r hi e] at p
   exact hd ρ acc p
  | cons x r ih =>
   intro i hi e ρ acc p
   obtain⟨e1,e2⟩:=b2s e
   have hlt:i < xs.length:=(List.getElem?_eq_some_iff.mp e1).1
   exact hs i x ρ acc _ e1 p fun ρ' acc' p'=>ih (i + 1) hlt e2 ρ' acc' p'
 exact key xs 0 (zero_le _) (by simp) ρ [] h0
end L2
end
section
namespace L2
open PySem PySem.Spec PyProof.Rows
def later(u:TDS)(D:DEnds)(ρ:Rho):Prop:=u D ρ
theorem b6u{u:TDS}{D:DEnds}{ρ:Rho}(h:u D ρ):later u D ρ:=h
section
variable{t u b:TDS}{c tt:TDT}{D:DEnds}{ρ ρi:Rho}{i j n:Nat}{da db dc de te:TDE}{df:TDF}{daa:TDA}{f f':F2}{fl:F2L}{fc:FC}{fcl:FCL}{T:String}{dg g:TDG}{dgs:TDGs}{di:TDI}{x:PyData}{y:DV}{xs:List PyData}{ys:List DV}{fs:List Bool}{sp:DSp}
 {Q:DV->Rho->Prop} {QF:List PyData->Rho->Prop} {QB:Bool->Rho->Prop} {QA:List DV->Rho->Prop} {QR:RV->Rho->Prop} {QD:PyData->Rho->Prop} {N:Rho->Prop} {QL:L->Rho->Prop} {QLs:List L->Rho->Prop}
theorem d1s:dSeq t u D ρ=t { D with nx:=later u D } ρ:=rfl
theorem c7q:b8h D ρ=D.nx ρ:=rfl
theorem dIf_a:dIf c t u D ρ=c ρ fun b ρ1=>if b=true then t D ρ1 else u D ρ1:=rfl
theorem c7r:b8i de D ρ=de ρ fun _ ρ1=>D.nx ρ1:=rfl
theorem d1t:dRet de D ρ=de ρ fun x ρ1=>fz ρ1 x fun y ρ2=>D.rt (.d y) ρ2:=rfl
theorem c7s:b8j df D ρ=df ρ fun xs ρ1=>D.rt (.new xs) ρ1:=rfl
noncomputable def d1u:Option L->Option (List PyData)
 | some (.own xs)=>some xs
 | _=>none
theorem c3r:d1u (some (.own xs))=some xs:=rfl
theorem d1v:dSet i de D ρ=de ρ fun x ρ1=>fz ρ1 x fun y ρ2=>i < ρ2.length/\D.nx (ρ2.set i (some (.d y))):=rfl
theorem c7t:b3o i df D ρ=df ρ fun xs ρ1=>i < ρ1.length/\D.nx (ρ1.set i (some (.own xs))):=rfl
theorem d1w:dFor di dg b D ρ=di ρ fun xs ρ1=>a3g dg b D xs ρ1:=rfl
theorem d1x:dVar i ρ Q=((ρ[i]?.join).isSome=true/\Q (.sl i) ρ):=rfl
theorem dC_a:dC x ρ Q=Q (.d x) ρ:=rfl
theorem dOp_a:dOp f da db ρ Q=da ρ fun x ρ1=>db ρ1 fun y ρ2=>need (a0i ρ2 x) fun dx=>need (a0i ρ2 y) fun dy=>need (f dx dy) fun z=>Q (.d z) ρ2:=rfl
theorem d1y:dOpF fl da db ρ QF=da ρ fun x ρ1=>db ρ1 fun y ρ2=>need (a0i ρ2 x) fun dx=>need (a0i ρ2 y) fun dy=>need (fl dx dy) fun z=>QF z ρ2:=rfl
theorem dCB_a:dCB fc daa ρ Q=daa ρ fun xs ρ1=>need (a1w ρ1 xs) fun ds=>need (fc ds) fun z=>Q (.d z) ρ1:=rfl
theorem d1z:dCBF fcl daa ρ QF=daa ρ fun xs ρ1=>need (a1w ρ1 xs) fun ds=>need (fcl ds) fun z=>QF z ρ1:=rfl
theorem d2a:dTup daa ρ Q=daa ρ fun xs ρ1=>fzs ρ1 xs fun ys ρ2=>ys.length <= 1000000/\Q (.d (.tuple ys)) ρ2:=rfl
theorem d2b:dLst daa ρ QF=daa ρ fun xs ρ1=>fzs ρ1 xs fun ys ρ2=>ys.length <= 1000000/\QF ys ρ2:=rfl
theorem dFz_a:dFz df ρ Q=df ρ fun xs ρ1=>Q (.d (.list xs)) ρ1:=rfl
theorem d2c:dNil ρ QA=QA [] ρ:=rfl
theorem c7u:b8e de daa ρ QA=de ρ fun x ρ1=>daa ρ1 fun xs ρ2=>QA (x :: xs) ρ2:=rfl
theorem dB_a:dB de ρ QB=de ρ fun x ρ1=>need (a0i ρ1 x) fun d=>need (asB d) fun b=>QB b ρ1:=rfl
theorem d2d:dTru de ρ QB=de ρ fun x ρ1=>need (a0i ρ1 x) fun d=>need (tru d) fun b=>QB b ρ1:=rfl
theorem dOr_a{v w:TDT}:dOr v w ρ QB=v ρ fun b ρ1=>if b=true then QB true ρ1 else w ρ1 QB:=rfl
theorem d2e{v:TDT}:dNot v ρ QB=v ρ fun b ρ1=>QB (!b) ρ1:=rfl
theorem d2f:dIfE c da db ρ Q=c ρ fun k ρ1=>if k=true then da ρ1 Q else db ρ1 Q:=rfl
theorem c7v:b8f da db ρ Q=da ρ fun x ρ1=>need (a0i ρ1 x) fun d=>need (asB d) fun k=>if k=true then db ρ1 Q else Q (.d (.bool false)) ρ1:=rfl
theorem d2g:dOrV da db ρ Q=da ρ fun x ρ1=>need (a0i ρ1 x) fun d=>need (asB d) fun k=>if k=true then Q (.d (.bool true)) ρ1 else db ρ1 Q:=rfl
theorem c7w:b8g da ρ Q=da ρ fun x ρ1=>need (a0i ρ1 x) fun d=>need (asB d) fun k=>Q (.d (.bool (!k))) ρ1:=rfl
theorem c3s:b4h f f' da db dc ρ Q=da ρ fun x ρ1=>db ρ1 fun y ρ2=>need (a0i ρ2 x) fun dx=>need (a0i ρ2 y) fun dy=>need (f dx dy) fun z=>need (asB z) fun k =>
 if k=true then dc ρ2 fun w ρ3=>need (a0i ρ3 y) fun dy=>need (a0i ρ3 w) fun dw=>need (f' dy dw) fun z'=>Q (.d z') ρ3 else Q (.d (.bool false)) ρ2:=rfl
theorem dIs_a:dIs T de ρ Q=de ρ fun x ρ1=>need (a0i ρ1 x) fun d=>Q (.d (.bool (isD T d))) ρ1:=rfl
noncomputable def b1b:Option L->Option (OK × List PyData)
 | some (.own xs)=>some (.o,xs)
 | some (.bor xs)=>some (.b,xs)
 | _=>none
theorem d2h:ownB ρ i=b1b (ρ[i]?.join):=rfl
theorem c7x:b1b (some (.own xs))=some (.o,xs):=rfl
theorem c7y:b1b (some (.bor xs))=some (.b,xs):=rfl
theorem okL_o:okL .o xs=.own xs:=rfl
theorem okL_b:okL .b xs=.bor xs:=rfl
theorem c1f:b1t i de ρ Q=need (b1b (ρ[i]?.join)) fun _=>de ρ fun x ρ1=>fz ρ1 x fun y ρ2=>need (b1b (ρ2[i]?.join)) fun o=>o.2.length <= 1000000/\Q (.d .none) (ρ2.set i (some (okL o.1 (o.2 ++ [y])))):=rfl
theorem d2i{n:Int}:d1l.asI (.int n)=some n:=rfl
theorem asI_i{n:Int}:asI (.int n)=some n:=rfl
theorem c3t:b4i i x ρ N=(i < ρ.length/\N (ρ.set i (some (.d x)))):=rfl
theorem c7z:dgTup n dgs (.tuple xs) ρ N=(xs.length=n/\dgs xs ρ N):=rfl
theorem c3u:d1k dg dgs (x :: xs) ρ N=dg x ρ fun ρ1=>dgs xs ρ1 N:=rfl
theorem c8a:c5z [] ρ N=N ρ:=by unfold c5z;simp
theorem c8b:b8m de ρ QF=de ρ fun x ρ1=>fz ρ1 x fun y ρ2=>need (seqD y) fun xs=>QF xs ρ2:=rfl
theorem c3v:b4j de ρ QF=de ρ fun x ρ1=>need (a0i ρ1 x) fun d=>need (asI d) fun j=>sm62 j/\QF (rngD 0 j.toNat) ρ1:=rfl
theorem c3w:b4n fs sp daa ρ Q=daa ρ fun xs ρ1=>pass fs xs ρ1 fun ls ρ2=>((flOf 0 fs xs).map (·.2)).Nodup/\sp ls fun r outs=>match r with
 | .d x=>Q (.d x) (fills outs (flOf 0 fs xs) ρ2)
 | .new ys=>Q (.d (.list ys)) (fills outs (flOf 0 fs xs) ρ2):=rfl
theorem c3x:b4o fs sp daa ρ QF=daa ρ fun xs ρ1=>pass fs xs ρ1 fun ls ρ2=>((flOf 0 fs xs).map (·.2)).Nodup/\sp ls fun r outs=>match r with
 | .d _=>False
 | .new ys=>QF ys (fills outs (flOf 0 fs xs) ρ2):=rfl
theorem d2j:pass [] [] ρ QLs=QLs [] ρ:=rfl
theorem d2k:pass (false :: fs) (y :: ys) ρ QLs=fzL ρ y fun l ρ1=>pass fs ys ρ1 fun ls ρ2=>QLs (l :: ls) ρ2:=by cases y<;>rfl
noncomputable def ioJ:Option L->Option L
 | some l=>if isOw l then some (lend l) else none
 | none=>none
theorem d2l:pass (true :: fs) (.sl i :: ys) ρ QLs=pass fs ys ρ fun ls ρ2=>need (ioJ (ρ2[i]?.join)) fun l=>QLs (l :: ls) ρ2:=rfl
theorem ioJ_o:ioJ (some (.own xs))=some (.bor xs):=rfl
theorem ioJ_b:ioJ (some (.bor xs))=some (.bor xs):=rfl
theorem ioJ_t:ioJ (some (.tape n))=some (.tape n):=rfl
def fzJ(l:Option L)(ρ:Rho)(i:Nat)(Q:PyData->Rho->Prop):Prop:=match l with
 | some (.d y)=>Q y ρ
 | some (.own xs)=>Q (.list xs) (ρ.set i (some (.d (.list xs))))
 | _=>False
theorem fz_d:fz ρ (.d x) QD=QD x ρ:=rfl
theorem fz_sl:fz ρ (.sl i) QD=fzJ (ρ[i]?.join) ρ i QD:=rfl
theorem fzJ_d:fzJ (some (.d x)) ρ i QD=QD x ρ:=rfl
theorem fzJ_o:fzJ (some (.own xs)) ρ i QD=QD (.list xs) (ρ.set i (some (.d (.list xs)))):=rfl
def fzLJ(l:Option L)(ρ:Rho)(i:Nat)(Q:L->Rho->Prop):Prop:=match l with
 | some (.d y)=>Q (.d y) ρ
 | some (.own xs)=>Q (.d (.list xs)) (ρ.set i (some (.d (.list xs))))
 | some .scr=>Q .scr ρ
 | _=>False
theorem fzL_d:fzL ρ (.d x) QL=QL (.d x) ρ:=rfl
theorem d2m:fzL ρ (.sl i) QL=fzLJ (ρ[i]?.join) ρ i QL:=rfl
theorem d2n:fzLJ (some (.d x)) ρ i QL=QL (.d x) ρ:=rfl
theorem d2o:fzLJ (some (.own xs)) ρ i QL=QL (.d (.list xs)) (ρ.set i (some (.d (.list xs)))):=rfl
theorem d2p:fzLJ (some .scr) ρ i QL=QL .scr ρ:=rfl
theorem fzs_n:fzs ρ [] QF=QF [] ρ:=rfl
theorem fzs_c:fzs ρ (y :: ys) QF=fz ρ y fun z ρ1=>fzs ρ1 ys fun zs ρ2=>QF (z :: zs) ρ2:=rfl
theorem d2q:flOf n [] ys=[]:=by cases ys<;>rfl
theorem d2r:flOf n (false :: fs) (y :: ys)=flOf (n + 1) fs ys:=by cases y<;>rfl
theorem d2s:flOf n (true :: fs) (.sl i :: ys)=(n,i) :: flOf (n + 1) fs ys:=rfl
noncomputable def a6h(l:Option L)(ρi:Rho)(j i:Nat)(ρ:Rho):Rho:=match l with
 | some l0=>if isOw l0 then ρ.set i (a3y ρi l0 j) else ρ
 | none=>ρ
theorem c8c:fills ρi [] ρ=ρ:=rfl
theorem c8d{r:List (Nat × Nat)}:fills ρi ((j,i) :: r) ρ=fills ρi r (a6h (ρ[i]?.join) ρi j i ρ):=rfl
theorem c3y:a6h (some (.own xs)) ρi j i ρ=ρ.set i ((ρi[j]?.join).bind (a5j (.own xs))):=rfl
theorem c3z:a6h (some (.bor xs)) ρi j i ρ=ρ.set i ((ρi[j]?.join).bind (a5j (.bor xs))):=rfl
theorem c4a:a6h (some (.tape n)) ρi j i ρ=ρ.set i ((ρi[j]?.join).bind (a5j (.tape n))):=rfl
theorem c4b:a6h (some (.d x)) ρi j i ρ=ρ:=rfl
theorem c4c:a6h (some .scr) ρi j i ρ=ρ:=rfl
theorem c4d:a6h none ρi j i ρ=ρ:=rfl
theorem c8e:a5j (.own xs) (.bor x')=some (.own x'):=rfl
theorem c8f:a5j (.bor xs) (.bor x')=some (.bor x'):=rfl
theorem c8g{m:Nat}:a5j (.tape n) (.tape m)=some (.tape m):=rfl
theorem d2t:lend (.own xs)=.bor xs:=rfl
theorem d2u:lend (.bor xs)=.bor xs:=rfl
theorem d2v:lend (.tape n)=.tape n:=rfl
theorem d2w:lend (.d x)=.d x:=rfl
theorem d2x:lend .scr=.scr:=rfl
theorem c8h{cap:List (Str × Nat)}:b3p n cap di g tt te ρ QF=di ρ fun xs ρ1=>xs.length <= 1000000/\(cap.map (·.2)).Nodup/\a0y g tt te (fun acc ρ'=>QF acc (fills ρ' (flC n cap) ρ1)) xs (capR n cap ρ1) []:=rfl
theorem flC_n:flC n []=[]:=rfl
theorem flC_c{p:Str × Nat}{r:List (Str × Nat)}:flC n (p :: r)=(n,p.2) :: flC (n + 1) r:=rfl
theorem d2y{cap:List (Str × Nat)}:capR n cap ρ=List.replicate n none ++ cap.map fun p=>(ρ[p.2]?.join).map lend:=rfl
theorem c8i:a0i ρ (.d x)=some x:=rfl
theorem c4e:a0i ρ (.sl i)=(ρ[i]?.join).bind a7a:=rfl
theorem c4f:a7a (.d x)=some x:=rfl
theorem c4g:a7a (.own xs)=some (.list xs):=rfl
theorem c4h:a7a (.bor xs)=some (.list xs):=rfl
theorem c4i:a1w ρ []=some []:=rfl
theorem c4j:a1w ρ (y :: ys)=(a0i ρ y).bind fun z=>(a1w ρ ys).map (z :: ·):=rfl
theorem asB_b{b:Bool}:asB (.bool b)=some b:=rfl
theorem tru_b{b:Bool}:tru (.bool b)=some b:=rfl
theorem tru_n:tru .none=some false:=rfl
theorem tru_i{i:Int}:tru (.int i)=some (i != 0):=rfl
theorem tru_l:tru (.list xs)=some (!xs.isEmpty):=rfl
theorem tru_t:tru (.tuple xs)=some (!xs.isEmpty):=rfl
theorem d2z:seqD (.list xs)=some xs:=rfl
theorem d3a:seqD (.tuple xs)=some xs:=rfl
theorem d3b:mask [] ρ=[]:=rfl
theorem d3c{ls:List L}{l:Option L}:mask (.d x :: ls) (l :: ρ)=none :: mask ls ρ:=rfl
theorem d3d{ls:List L}{l:Option L}:mask (.scr :: ls) (l :: ρ)=none :: mask ls ρ:=rfl
theorem d3e{ls:List L}{l:Option L}:mask (.tape n :: ls) (l :: ρ)=l :: mask ls ρ:=rfl
theorem d3f{ls:List L}{l:Option L}:mask (.bor xs :: ls) (l :: ρ)=l :: mask ls ρ:=rfl
end
end L2
namespace L2
open PySem
theorem a7t{g:TDG}{tt:TDT}{te:TDE}{Q:List PyData->Rho->Prop}{xs:List PyData}{ρ:Rho}(Sh:Rho->Prop)(fm:PyData->Option PyData)(h0:Sh ρ)
  (hs:∀ (x:PyData) (ρ:Rho) (N:Rho->Option PyData->Prop),x ∈ xs->Sh ρ->(∀ ρ',Sh ρ'->N ρ' (fm x))->g x ρ fun ρ1=>tt ρ1 fun b ρ2=>if b=true then te ρ2 fun y ρ3=>fz ρ3 y fun z ρ4=>N ρ4 (some z) else N ρ2 none)
  (hd:∀ ρ,Sh ρ->Q (xs.filterMap fm) ρ):a0y g tt te Q xs ρ []:=by
 have key:∀ (r:List PyData) (acc:List PyData) (ρ:Rho),(∀ x ∈ r,x ∈ xs)->Sh ρ->(∀ ρ,Sh ρ->Q (acc ++ r.filterMap fm) ρ)->a0y g tt te Q r ρ acc:=fun r=>by
  induction r with
  | nil=>intro acc ρ _ h hq;have:=hq ρ h;show Q acc ρ;simpa using this
  | cons x r ih =>
   intro acc ρ hm h hq
   have step:=hs x ρ (fun ρ' o=>match o with | some z=>a0y g tt te Q r ρ' (acc ++ [z]) | none=>a0y g tt te Q r ρ' acc) (hm x mem_cons_self) h fun ρ' h'=>?_
   ·exact step
   ·cases e:fm x with
    | none =>
     refine ih acc ρ' (fun y hy=>hm y (mem_cons_of_mem _ hy)) h' fun ρ2 h2=>?_
     have:=hq ρ2 h2
     rwa [List.filterMap_cons_none e] at this
    | some z =>
     refine ih (acc ++ [z]) ρ' (fun y hy=>hm y (mem_cons_of_mem _ hy)) h' fun ρ2 h2=>?_
     have:=hq ρ2 h2
     rw [List.filterMap_cons_some e] at this
     simpa using this
 exact key xs [] ρ (fun _ h=>h) h0 fun ρ h=>by simpa using hd ρ h
theorem c8j{c A B:Prop}[Decidable c](h1:c->A)(h2:¬ c->B):if decide c=true then A else B:=by
 by_cases h:c
 ·rw [if_pos (decide_eq_true h)];exact h1 h
 ·rw [if_neg (by simpa using h)];exact h2 h
theorem c4k{c A B:Prop}[Decidable c](h1:¬ c->A)(h2:c->B):if (!decide c)=true then A else B:=by
 by_cases h:c
 ·rw [if_neg (by simpa using h)];exact h2 h
 ·rw [if_pos (by simpa using h)];exact h1 h
theorem c6a{b:Bool}{A B:Prop}(h1:b=true->A)(h2:b=false->B):if b=true then A else B:=by
 cases b
 ·rw [if_neg Bool.false_ne_true];exact h2 rfl
 ·rw [if_pos rfl];exact h1 rfl
end L2
namespace L2
end L2
end
section
namespace L2
open PySem PySem.Spec PyProof.Rows
abbrev TDO:=Rho->(Option Int->Rho->Prop)->Prop
section
variable{K:W.Frag}{c:Rc}{O:Own}{ρ:Rho}{σ:St}{H H':Hp}{S S':Addr->Prop}
def AdO(K:W.Frag)(t:TO)(dt:TDO):Prop:=∀ (c:Rc) (O:Own) (ρ:Rho) (σ:St) (H:Hp) (Qd:Option Int->Rho->Prop) (Q:Option Int->Hp->Prop),Rel K c O ρ σ H->dt ρ Qd ->
 (∀ o ρ' O' H',Qd o ρ'->Rel K c O' ρ' σ H'->Pers K (live c O) H (live c O') H'->Q o H')->t σ H Q
noncomputable def b4t:TDO:=fun ρ Q=>Q none ρ
def b4u(de:TDE):TDO:=fun ρ Q=>de ρ fun x ρ1=>need (a0i ρ1 x) fun d=>need (asI d) fun i=>Q (some i) ρ1
theorem c8k:AdO K b6g b4t:=fun c O ρ σ H Qd Q R h k=>k _ _ _ _ h R .refl
theorem c8l{t:TE}{de:TDE}(h:AdE K t de):AdO K (c5s t) (b4u de):=fun c O ρ σ H Qd Q R q k =>
 h c O ρ σ H _ _ R q fun x ρ1 O1 v H1 h1 R1 P1 a1=>by
  obtain⟨d,e1,hn6⟩:=ne (h1)
  obtain⟨i,e2,h2⟩:=ne (hn6)
  exact⟨i,c0v (R1.top a1 e1) e2,k _ _ _ _ h2 R1 P1⟩
noncomputable def cutD(xs:List PyData)(lo hi:Option Int):List PyData:=(xs.drop (HT.sIx xs.length 0 lo)).take (HT.sIx xs.length xs.length hi - HT.sIx xs.length 0 lo)
theorem a0a.cut{ds:List PyData}{vs:List V}(h:a0a K H S ds vs)(lo hi:Option Int):a0a K H S (cutD ds lo hi) (cutV vs lo hi):=by
 unfold cutD cutV
 rw [h.length]
 exact(h.drop _).take _
abbrev FSl:=PyData->Option Int->Option Int->Option PyData
def dSl(f:FSl)(de:TDE)(dl dh:TDO):TDE:=fun ρ Q=>de ρ fun x ρ1=>dl ρ1 fun lo ρ2=>dh ρ2 fun hi ρ3=>need (a0i ρ3 x) fun d=>need (f d lo hi) fun z=>Q (.d z) ρ3
def AdSl(K:W.Frag)(r:V->Option Int->Option Int->Hp->VK->Prop)(f:FSl):Prop:=∀ (S:Addr->Prop) (H:Hp) (x:V) (d z:PyData) (lo hi:Option Int) (Q:VK),Frs S H->AtT K H S d x->f d lo hi=some z->(∀ v H',Same H H'->AtD K H' S z v->Q v H')->r x lo hi H Q
theorem ad_sl{r:V->Option Int->Option Int->Hp->VK->Prop}{f:FSl}{te:TE}{tl th:TO}{de:TDE}{dl dh:TDO}(hr:AdSl K r f)(he:AdE K te de)(hl:AdO K tl dl)(hh:AdO K th dh):AdE K (tSl r te tl th) (dSl f de dl dh):=by
 intro c O ρ σ H Qd Q R h k
 refine he c O ρ σ H _ _ R h fun x ρ1 O1 v H1 h1 R1 P1 a1=>?_
 refine hl c O1 ρ1 σ H1 _ _ R1 h1 fun lo ρ2 O2 H2 h2 R2 P2=>?_
 refine hh c O2 ρ2 σ H2 _ _ R2 h2 fun hi ρ3 O3 H3 h3 R3 P3=>?_
 obtain⟨d,e1,hn5⟩:=ne (h3)
 obtain⟨z,e2,h4⟩:=ne (hn5)
 refine hr (live c O3) H3 v d z lo hi Q R3.frsLive (R3.top ((a1.pers P2).pers P3) e1) e2 fun w H4 s4 a4=>?_
 exact k _ _ _ _ _ h4 (R3.grow s4) (((P1.trans P2).trans P3).trans (.same s4)) a4
def diRev(de:TDE):TDI:=fun ρ Q=>de ρ fun x ρ1=>need (a0i ρ1 x) fun d=>need (asT d) fun xs=>Q xs.reverse ρ1
 where asT:PyData->Option (List PyData)
  | .tuple xs=>some xs
  | _=>none
noncomputable def downD(hi:Int)(n:Nat):List PyData:=(List.range n).map fun i=>.int (hi - (i:Nat))
def sm60(i:Int):Prop:=-(2 ^ 60) <= i/\i < 2 ^ 60
def d3g(da:TDA):TDI:=fun ρ Q=>da ρ fun xs ρ1=>need (a1w ρ1 xs) fun ds=>need (three ds) fun p=>(sm60 p.1/\sm60 p.2)/\Q (downD p.1 (p.1 - p.2).toNat) ρ1
 where three:List PyData->Option (Int × Int)
  | [.int i,.int j,.int (-1)]=>some (i,j)
  | _=>none
end
section
variable{X:Cx}{e a b:Expr}{de da db:TDE}{lo hi:Option Expr}{dl dh:TDO}{tg:Expr}{pos p2:Pos}
def DO(X:Cx)(e:Option Expr)(dt:TDO):Prop:=∃ t,PO X e t/\AdO X.K t dt
theorem b6v:DO X none b4t:=⟨_,c6w,c8k⟩
theorem b6w(h:DE X e de):DO X (some e) (b4u de):=by obtain⟨_,p,a⟩:=h;exact⟨_,c6x p,c8l a⟩
theorem b4v{r:V->Option Int->Option Int->Hp->VK->Prop}{f:FSl}(hr:SlR X r)(ha:AdSl X.K r f)(he:DE X e de)(hl:DO X lo dl)(hu:DO X hi dh):DE X (.Subscript e (.Slice lo hi none p2) pos) (dSl f de dl dh):=
 by obtain⟨_,p,a⟩:=he;obtain⟨_,p',a'⟩:=hl;obtain⟨_,p3,a3⟩:=hu;exact⟨_,c2x hr p p' p3,ad_sl ha a a' a3⟩
end
section
variable{ρ:Rho}{de:TDE}{daa:TDA}{dl dh:TDO}{f:FSl}{tab:List (Str × PyData)}{Q:DV->Rho->Prop}{QF:List PyData->Rho->Prop}{QO:Option Int->Rho->Prop}{xs:List PyData}{x:Str}{i j:Int}
theorem dSl_a:dSl f de dl dh ρ Q=de ρ fun x ρ1=>dl ρ1 fun lo ρ2=>dh ρ2 fun hi ρ3=>need (a0i ρ3 x) fun d=>need (f d lo hi) fun z=>Q (.d z) ρ3:=rfl
theorem c4l:b4t ρ QO=QO none ρ:=rfl
theorem c4m:b4u de ρ QO=de ρ fun x ρ1=>need (a0i ρ1 x) fun d=>need (asI d) fun i=>QO (some i) ρ1:=rfl
theorem asT_t:diRev.asT (.tuple xs)=some xs:=rfl
theorem c8m:d3g.three [.int i,.int j,.int (-1)]=some (i,j):=rfl
end
end L2
namespace L2
open PySem
end L2
end
section
namespace L2
open PySem PySem.Spec PyProof.Rows
section
variable{α:Type}{a b c d e:α}{l:List α}{x y:Str}{i j:Int}{r:List PyData}
theorem c6b:atI (a :: l) 0=some a:=a3i (j:=0) rfl
theorem atI_1:atI (a :: b :: l) 1=some b:=a3i (j:=1) rfl
theorem atI_2:atI (a :: b :: c :: l) 2=some c:=a3i (j:=2) rfl
theorem atI_3:atI (a :: b :: c :: d :: l) 3=some d:=a3i (j:=3) rfl
theorem atI_4:atI (a :: b :: c :: d :: e :: l) 4=some e:=a3i (j:=4) rfl
theorem c8n:a2c (.str x)=true:=rfl
theorem c8o:a2c (.int i)=true:=rfl
theorem c8p{z:PyData}:inF z []=false:=rfl
theorem inF_s:inF (.str x) (.str y :: r)=(decide (y=x) || inF (.str x) r):=by
 show((y == x) || inF (.str x) r)=_
 congr 1
theorem inF_i:inF (.int i) (.int j :: r)=(decide (j=i) || inF (.int i) r):=by
 show((j == i) || inF (.int i) r)=_
 congr 1
end
end L2
namespace L2
open PySem PySem.Spec PyProof.Rows
def b3q(K:W.Frag):Sp:=fun vs H Q _=>∃ (a:Addr) (ns:List Int),vs=[.ref a]/\SqL K H a (ns.map V.int)/\((∀ xs,H a ≠ some (.lst xs))/\TB K H)/\ns.length <= 63/\∀ H',Q (.bl true) H'
section
variable{P:Program}{w:World}{K:W.Frag}{mg:Str->Option Value}{base:Heap}
theorem c8q{H:Hp}{a p:Addr}{ns:List Int}{n:Nat}(hO:(∀ xs,H a ≠ some (.lst xs))/\TB K H)(hS:SqL K H a (ns.map V.int))(hl:ns.length <= 63)(hp:H p=none) :
  Rel K { H0:=upd H p (.lst [.ref a,.int 0]),S:=fun b=>b ≠ p,P:=fun _=>False,M:=fun b=>b=p,A:=fun b=>b=p ∨ upd H p (.lst [.ref a,.int 0]) b=none,B:=fun b=>b=p,lent:=fun i=>if i=1 then some p else none,sa:=a,ns:=ns }
   (fun i=>if i=1 then some p else none) (some .scr :: some (.tape 0) :: List.replicate n none) (some (.ref a) :: some (.ref p) :: List.replicate n none) (upd H p (.lst [.ref a,.int 0])):=by
 have at_:∀ {i:Nat} {l:L},(some L.scr :: some (L.tape 0) :: List.replicate n none:Rho)[i]? = some (some l)->(i=0/\l=.scr) ∨ (i=1/\l=.tape 0):=fun{i l} e=>by
  match i,e with
  | 0,e=>cases e;exact .inl ⟨rfl,rfl⟩
  | 1,e=>cases e;exact .inr ⟨rfl,rfl⟩
  | i + 2,e =>
   rw [List.getElem?_cons_succ,List.getElem?_cons_succ,List.getElem?_replicate] at e
   split at e<;>cases e
 have own:∀ {i:Nat} {q:Addr},(if i=1 then some p else none)=some q->i=1/\q=p:=fun{i q} e=>by
  split at e
  ·cases e;exact⟨by assumption,rfl⟩
  ·cases e
 have sc:Scr K H a (ns.map V.int):=by
  refine⟨hO.2,by simpa using hl,?_⟩
  rcases hS with(h | h) | h
  ·exact absurd h (hO.1 _)
  ·exact .inl h
  ·exact .inr h
 refine⟨fun i x e=>?_,fun i x e=>?_,fun i x e=>?_,fun i k e=>?_,fun i e=>?_,fun i j q e1 e2=>?_,fun i q e=>?_,fun q h=>?_,fun q h=>?_,fun b o _ h=>h,fun b h=>h,fun q h=>?_,fun q h=>?_,fun i q e l h1 h2=>e,sc.keep (S:=Any) (a0l hp _).keep,by simp⟩
 ·rcases at_ e with⟨_,z⟩ | ⟨_,z⟩<;>cases z
 ·rcases at_ e with⟨_,z⟩ | ⟨_,z⟩<;>cases z
 ·rcases at_ e with⟨_,z⟩ | ⟨_,z⟩<;>cases z
 ·rcases at_ e with⟨_,z⟩ | ⟨rfl,z⟩
  ·cases z
  ·cases z;exact⟨p,if_pos rfl,rfl,a0c⟩
 ·rcases at_ e with⟨rfl,_⟩ | ⟨_,z⟩
  ·rfl
  ·cases z
 ·rw [(own e1).1,(own e2).1]
 ·rw [(own e).2];exact⟨.inl rfl,_,a0c⟩
 ·rcases h with h | h
  ·exact .inl h
  ·exact .inr h
 ·rintro rfl
  have h':upd H q (.lst [.ref a,.int 0]) q=none:=h
  rw [a0c] at h';cases h'
 ·have h':q=p:=h
  subst h';exact⟨_,a0c⟩
 ·rcases h with h | h
  ·exact h.elim
  ·have h':q=p:=h
   subst h';rw [a0c];exact fun z=>nomatch z
theorem Fun.law{st:Stmt}{f:Addr}{fd:FuncData}{N':List Str}{k:Nat} (F:Fun K "law" "law" st f fd) (S:FnScope ("_law_script" :: "_law_tape" :: N') ["_law_script"] (a0f st))
  (hbody:∀ (cdv:Value) (A:Around) (outer:List Env) (s:Shared) (H:Hp) (E:XK),Room k (A.deeper (envOfC "law" (a0f st) s.heap.objs.size f cdv)) ->
   ∃ (st0:Stmt) (rest:List Stmt),a1a st=st0 :: rest/\PS (cxOf CX0 P w K mg base ("_law_script" :: "_law_tape" :: N') "law" (a0f st) f cdv A outer s H E).nox st0 (tAsg (tLst (a1m (tVar 0) (a1m (tC (.int 0)) tNil))) (a3s 1)) /\
    ∃ dt,DSs (cxOf CX0 P w K mg base ("_law_script" :: "_law_tape" :: N') "law" (a0f st) f cdv A outer s H E).nox rest dt/\dt { nx:=fun _=>False,rt:=fun r _=>r=.d (.bool true) } (some .scr :: some (.tape 0) :: List.replicate N'.length none)) :
  FnOk P w K mg base CX0 (k + 1) f fd ["_law_script"] (b3q K):=by
 refine F.ok S (fun vs H Q E h=>?_) (fun cdv A outer s H vs Q E hr h=>?_)
 ·obtain⟨a,ns,rfl,_⟩:=h;rfl
 obtain⟨a,ns,rfl,hS,hO,hl,q⟩:=h
 obtain⟨st0,rest,eb,p0,dt,⟨t,pt,at_⟩,hd⟩:=hbody cdv A outer s H E hr
 rw [eb]
 refine⟨_,a0s p0 pt,⟨.ref a,rfl,by show 2 <= sizeLine;decide,fun p hp=>?_⟩⟩
 have e:(start ("_law_script" :: "_law_tape" :: N') [.ref a]).set 1 (some (.ref p))=some (.ref a) :: some (.ref p) :: List.replicate N'.length none:=by
  unfold start
  simp [List.replicate_succ]
 show t _ ((start ("_law_script" :: "_law_tape" :: N') [.ref a]).set 1 (some (.ref p))) (upd H p (.lst [.ref a,.int 0]))
 rw [e]
 refine at_ _ _ _ _ _ _ _ (c8q hO hS hl hp) ⟨fun _ _ _ _ _ _ z=>(show False from z).elim,fun r O1 ρ1 σ1 H1 v h z=>?_,fun _ _ _ _ _ _ z=>(show False from z).elim,fun _ _ _ _ _ _ z=>(show False from z).elim,fun _ z=>z,fun _ z=>.inr z⟩ hd
 have z':r=.d (.bool true):=z
 subst z'
 have ev:=a4l h.2
 subst ev
 exact q H1
end
end L2
end
section
namespace L2
open PySem PySem.Spec PyProof.Rows
section
variable{P:Program}{w:World}{K:W.Frag}{mg:Str->Option Value}{base:Heap}
theorem c8r{n:Nat}{f:Addr}{fd:FuncData}{ps:List Str}{ds:DSp}(h:∀ ls Q,¬ ds ls Q):FnOk P w K mg base CX0 n f fd ps (spD K ds):=by
 have no:∀ vs H Q E,¬ spD K ds vs H Q E:=fun vs H Q E z=>by
  obtain⟨c,O,ls,Qd,_,_,_,_,_,_,z,_⟩:=z
  exact h _ _ z
 exact⟨fun vs H Q E h=>absurd h (no vs H Q E),fun A outer s H args us vs Q E _ _ _ _ h=>absurd h (no vs H Q E)⟩
end
end L2
end
section
namespace L2
open PySem PySem.Spec PyProof.Rows
def ItX(b:Bool)(h:Heap)(it a:Addr)(k:Nat):Prop:=match b with | true=>h.IsListIter it a k | false=>h.IsTupleIter it a k
def SqX(b:Bool)(h:Heap)(a:Addr)(xs:Array Value):Prop:=match b with | true=>h.IsList a xs | false=>h.IsTuple a xs
section
variable{prog:Program}{w:World}{A:Around}{E:Value->Shared->Prop}{s:Shared}
end
section
variable{X:Cx}{pins:List (Addr × Obj)}{σ:List (Option V)}{H H':Hp}{s:Shared}{h':Heap}
theorem Inv.turnedL{t':Nat}{ch:List Addr}(I:Inv X pins σ H s)(k:∀ b o,b ∉ ch->s.heap.get? b=some o->h'.get? b=some o)(hf:∀ b ∈ ch,FpOk X pins H b):Inv X pins σ H { s with heap:=h',toks:=t' }:=by
 have nit:∀ b u,H b=some u->b ∉ ch:=fun b u e z=>by have:=(hf b z).1;rw [e] at this;cases this
 have nl:X.env.locals ∉ ch:=fun z=>(hf _ z).2.1 rfl
 refine I.step (g':=s.gens) (d':=s.drawn) (ch:=ch) (fun b hb=>⟨(hf b hb).2.2.2.1,(hf b hb).2.1,(hf b hb).2.2.2.2.1,(hf b hb).2.2.2.2.2⟩) (fun b o _ _ hc e _=>k b o hc e) (fun b o _ _ hc e _=>⟨o.slots,k b o hc e⟩) (fun _ _ _ _ n=>n)
  (fun b o hc e=>⟨o,k b o hc e⟩) (fun _ _ e=>e) (fun _ _ _ e=>e) (fun b ps e=>⟨#[],by rw [e];simp⟩) (fun m hm=>?_) (fun b u e=>?_) I.bare
 ·obtain⟨o,es,ep,ho,r⟩:=hm
  exact⟨o,es,ep,k _ o nl ho,r⟩
 ·refine(I.hok b u e).stay (fun c v hc q=>k c v ?_ q) (fun _ q=>q) (fun _ _ q=>q) fun _ _ _ q=>q
  rcases hc with z | z
  ·rw [z];exact nit b u e
  ·exact nit c _ z
def SqB(b:Bool)(K:W.Frag)(H:Hp)(a:Addr)(xs:List V):Prop:=match b with | true=>SqL K H a xs | false=>SqT K H a xs
end
end L2
end
section
namespace L2
open PySem PySem.Spec PyProof.Rows
section
variable{X:Cx}
end
section
variable{K:W.Frag}{S:Addr->Prop}{H:Hp}
def SqS(b:Bool)(K:W.Frag)(S:Addr->Prop)(H:Hp)(a:Addr)(vs:List V):Prop:=match b with | true=>S a/\H a=some (.lst vs) | false=>SqT K H a vs
end
section
variable{ρ:Rho}{daa:TDA}{Q:List PyData->Rho->Prop}
end
end L2
end
section
namespace L2
open PySem PySem.Spec PyProof.Rows
section
variable{X:Cx}
theorem kit2(K:W.Frag)(d:PyData)(T U:String)(hT:a0w T=true)(hU:a0w U=true):PySem.W.kitAny K (.type (tyD d)) [.type T,.type U]=some (isD T d || isD U d):=by
 have e1:=b4f K d T hT
 have e2:=b4f K d U hU
 simp only [PySem.W.kitAny,e1,e2]
 cases isD T d<;>cases isD U d<;>rfl
theorem c1g{pins:List (Addr × Obj)}{s:Shared}{σ:St}{H:Hp}{S:Addr->Prop}{d:PyData}{v:V}{u:Value}{tp:Addr}{T U:String}{Q:VK}(I:Inv X pins σ H s)(h:AtD X.K H S d v)(r:RelV v u)(ht:SqT X.K H tp [.ty T,.ty U])
  (hT:a0w T=true) (hU:a0w U=true) (q:Q (.bl (isD T d || isD U d)) H):wpAny (model X.prog X.w) X.A (call (.builtin "isinstance") [u,.ref tp]) (EP X pins σ Q) X.xe s:=by
 obtain⟨its,rv,⟨⟨oc,od,odt,osl⟩,e,hc,n,hd⟩,_⟩:=I.tuple ht
 obtain⟨t1,t2,rfl,q1,q2⟩:=rv.two
 cases q1;cases q2
 simp only at hc hd
 subst hc;subst hd
 have fin:∀ tk,EP X pins σ Q (.bool (isD T d || isD U d)) { s with toks:=tk }:=fun tk=>⟨.bl _,H,I.tok tk,rfl,q⟩
 have k2:=kit2 X.K d T U hT hU
 cases d with
 | none=>cases a6w h;cases r;exact PySem.W.kia_tup PySem.W.kitx_none I.kIn True.intro e k2 (fun z=>nomatch z) fin
 | bool b=>cases a4l h;cases r;exact PySem.W.kia_tup PySem.W.kitx_bool I.kIn True.intro e k2 (fun z=>nomatch z) fin
 | int i=>cases a6x h;obtain⟨t,rfl⟩:=r;exact PySem.W.kia_tup PySem.W.kitx_int I.kIn True.intro e k2 (fun z=>nomatch z) fin
 | str x=>cases a6y h;obtain⟨t,rfl⟩:=r;exact PySem.W.kia_tup PySem.W.kitx_str I.kIn True.intro e k2 (fun z=>nomatch z) fin
 | list ds =>
  obtain⟨a,xs,rfl,_,hq,_⟩:=a2x h
  cases r
  obtain⟨its,_,⟨o,n,e',hc,_,hd⟩,_⟩:=I.list (SqL.of hq)
  exact PySem.W.kia_tup PySem.W.kitx_list I.kIn ⟨o,e',hc⟩ e k2 (fun z=>nomatch z) fin
 | tuple ds =>
  obtain⟨a,xs,rfl,hq,_⟩:=a5b h
  cases r
  obtain⟨its,_,⟨o,e',hc,n,hd⟩,_⟩:=I.tuple hq
  exact PySem.W.kia_tup PySem.W.kitx_tuple I.kIn ⟨o,e',hc⟩ e k2 (fun z=>nomatch z) fin
 | dict kvs =>
  obtain⟨a,ν,rfl,_,hq,_⟩:=a5u h
  cases r
  obtain⟨_,_,vs,kv,o,es,ep,e',hc,hd,_,hp,_⟩:=(show a1c X.prog X.w H s.heap a (.dK ν) from I.hok a _ hq)
  exact PySem.W.kia_tup PySem.W.kitx_dict I.kIn ⟨o,e',hc.1⟩ e k2 (fun z=>nomatch z) fin
noncomputable def rIs2(K:W.Frag):List V->Hp->VK->Prop:=fun xs H Q=>∃ v S d tp T U,xs=[v,.ref tp]/\AtD K H S d v/\SqT K H tp [.ty T,.ty U]/\a0w T=true/\a0w U=true/\Q (.bl (isD T d || isD U d)) H
theorem c1h:a1k X (.builtin "isinstance") (rIs2 X.K):=by
 intro pins s σ H xs us Q I rs h
 obtain⟨v,S,d,tp,T,U,rfl,hd,ht,hT,hU,q⟩:=h
 obtain⟨u,u2,rfl,r1,r2⟩:=rs.two
 cases r2
 exact c1g I hd r1 ht hT hU q
end
section
variable{K:W.Frag}
def dIs2(T U:String)(de:TDE):TDE:=fun ρ Q=>de ρ fun x ρ1=>need (a0i ρ1 x) fun d=>Q (.d (.bool (isD T d || isD U d))) ρ1
theorem d3h{t:TE}{de:TDE}{T U:String}(hT:a0w T=true)(hU:a0w U=true)(h:AdE K t de):AdE K (tCB (rIs2 K) (a1m t (a1m (tTup (a1m (tC (.ty T)) (a1m (tC (.ty U)) tNil))) tNil))) (dIs2 T U de):=fun c O ρ σ H Qd Q R q k =>
 h c O ρ σ H _ _ R q fun x ρ1 O1 v H1 h1 R1 P1 a1=>by
  obtain⟨d,e1,h2⟩:=ne (h1)
  refine⟨by show 2 <= sizeLine;decide,fun p hp=>?_⟩
  have e:=a0l hp (.tup [V.ty T,V.ty U])
  exact⟨v,Any,d,p,T,U,rfl,AtD.mono e.keep _ _ (R1.top a1 e1).any,SqT.of a0c,hT,hU,k _ _ _ _ _ h2 (R1.grow e) (P1.trans (Pers.of e.keep fun _ z=>z)) a4o⟩
end
theorem d3i{X:Cx}{e:Expr}{de:TDE}{x y:Str}{T U:String}{p p2 p3 pt pos:Pos}{kk:Nat} (hg:Gl X "isinstance") (hm:X.mg "isinstance" = none) (hg2:Gl X x) (hm2:X.mg x=none) (hv:bootBuiltins x=some (.type T)) (hT:a0w T=true)
  (hg3:Gl X y) (hm3:X.mg y=none) (hv3:bootBuiltins y=some (.type U)) (hU:a0w U=true) (he:DE X e de) (hn:x ≠ "__name__":=by decide) (hd:(x == ("__debug__" : Str))=false:=by decide) (hn3:y ≠ "__name__":=by decide) (hd3:(y == ("__debug__" : Str))=false:=by decide)
  (hs:starEach [e,.Tuple [.Name x p2,.Name y p3] kk pt] X.env=(false,eval e X.env) :: starEach [.Tuple [.Name x p2,.Name y p3] kk pt] X.env:=by rfl):DE X (.Call (.Name "isinstance" p) [e,.Tuple [.Name x p2,.Name y p3] kk pt] [] pos) (dIs2 T U de):=by
 obtain⟨t,pe,ae⟩:=he
 exact⟨_,a2u c1h hg hm a8e (a0e pe (a0e (b0m (a0e (b8b hg2 hm2 hv hn hd) (a0e (b8b hg3 hm3 hv3 hn3 hd3) a0h))) a0h) hs) (by decide) (by decide) hs rfl,d3h hT hU ae⟩
theorem d3j{T U:String}{de:TDE}{ρ:Rho}{Q:DV->Rho->Prop}:dIs2 T U de ρ Q=de ρ fun x ρ1=>need (a0i ρ1 x) fun d=>Q (.d (.bool (isD T d || isD U d))) ρ1:=rfl
section
variable{K:W.Frag}{H:Hp}
end
end L2
end
section
namespace L2
open PySem PySem.Spec PyProof.Rows
section
variable{K:W.Frag}{c:Rc}{O:Own}{ρ:Rho}{σ:St}{H H':Hp}
end
end L2
end
section
namespace L2
open PySem PySem.Spec PyProof.Rows
theorem b4w:bootBuiltins "enumerate" = some (.type "enumerate"):=by decide +kernel
noncomputable def Ite(K:W.Frag)(a:Addr):It:=
 ⟨fun i H=>∃ xs x,SqL K H a xs/\xs[i]? = some x,fun i H v H'=>∃ T x,v=.ref T/\H T=none/\H'=upd H T (.tup [.int i,x])/\∀ xs,SqL K H a xs->xs[i]? = some x,fun i H=>∃ xs,SqL K H a xs/\xs.length <= i⟩
def ESt(e it a:Addr)(i:Nat)(h:Heap):Prop:=(∃ old,IsEnum h e it i old)/\h.IsListIter it a i
theorem c1i{P:Program}{w:World}{K:W.Frag}{elts:List Expr}{kk:Nat}{tp:Pos}{e it a:Addr}(ne:e ≠ it):Turn P w K (.Tuple elts kk tp) (Ite K a) [e,it] e (ESt e it a) where
 mem:=by simp
 obj:=fun i h st c hc=>by
  obtain⟨⟨old,x1⟩,x2⟩:=st
  have hc:c=e ∨ c=it:=by simpa using hc
  rcases hc with rfl | rfl
  ·exact⟨_,x1,fun v y=>by cases (show Data.fields _=Data.cell v from y)⟩
  ·obtain⟨o,g,_,d⟩:=x2
   exact⟨o,g,fun v y=>by rw [d] at y;cases y⟩
 keep:=fun i h h' st k=>by
  obtain⟨⟨old,x1⟩,x2⟩:=st
  exact⟨⟨old,k e (by simp) _ x1⟩,x2.at fun o g=>k it (by simp) o g⟩
 item:=by
  intro X hP hw hK hc i pins s σ H E I hf st hg
  subst hP hw hK
  obtain⟨xs,x,hq,hx⟩:=hg
  obtain⟨⟨old,x1⟩,x2⟩:=id st
  obtain⟨its,rv,p,_⟩:=I.list hq
  obtain⟨u,hu,ru⟩:=rv.get hx
  have lt:∀ c ∈ [e,it],c < s.heap.objs.size:=fun c hc=>by
   have hc:c=e ∨ c=it:=by simpa using hc
   rcases hc with rfl | rfl
   ·exact lt_size x1
   ·obtain⟨o,g,_⟩:=x2;exact lt_size g
  refine wpAny_pyNext_enum_item x1 x2 p.isList (x:=u) (by simpa using hu) ne fun h1 j1 j2 j3 j4 j5=>⟨_,rfl,wpAny_letOwnedTupleGo_enum j1 fun h2 e2 s2=>?_⟩
  have up:∀ c o,c ≠ e->h1.get? c=some o->h2.get? c=some o:=fun c o d g=>s2.extBut _ _ d g
  have I1:Inv X pins σ (upd H s.heap.objs.size (.tup [.int i,x])) { s with heap:=s.heap.push { cls:=.type "tuple",data:=.seq [Value.int i s.toks,u].toArray } }:=
   I.laid (t':=s.toks) (fun b o e=>get?_push_of_some _ e) (le_refl _) (show a1c X.prog X.w _ _ _ (.tup [.int i,x]) from⟨by show 2 <= sizeLine;decide,[Value.int i s.toks,u],.cons ⟨_,rfl⟩ (.cons ru .nil),a3d.new _ _⟩)
  have fpn:∀ c ∈ [e,it],(upd H s.heap.objs.size (.tup [.int i,x])) c=none:=fun c hc=>by rw [a0d (ne_of_lt (lt c hc))];exact(hf c hc).1
  have I2:Inv X pins σ (upd H s.heap.objs.size (.tup [.int i,x])) { s with heap:=h2,toks:=s.toks + 1 }:=by
   refine Inv.turnedL (s:={ s with heap:=s.heap.push { cls:=.type "tuple",data:=.seq [Value.int i s.toks,u].toArray } }) (t':=s.toks + 1) (ch:=[e,it]) I1 (fun c o hc g=>?_) fun c hc=>⟨fpn c hc,(hf c hc).2⟩
   have g:(s.heap.push { cls:=.type "tuple",data:=.seq [Value.int i s.toks,u].toArray }).get? c=some o:=g
   have hc:c ≠ e/\c ≠ it:=by simpa using hc
   refine up c o hc.1 ?_
   rcases Heap.get?_push_cases g with⟨rfl,rfl⟩ | g'
   ·exact j3
   ·exact j5 c o hc.1 hc.2 g'
  exact⟨.ref s.heap.objs.size,_,I2,rfl,⟨_,x,rfl,I.hok.fresh (le_refl _),rfl,fun zs hz=>by rw [I.list_inj hz hq];exact hx⟩,⟨⟨_,by simpa using e2⟩,j2.at fun o g=>up _ _ (Ne.symm ne) g⟩,fpn⟩
 done:=by
  intro X hP hw hK hc i pins s σ H E I hf st hg
  subst hP hw hK
  obtain⟨xs,hq,hx⟩:=hg
  obtain⟨⟨old,x1⟩,x2⟩:=id st
  obtain⟨its,rv,p,_⟩:=I.list hq
  have hl:=rv.length
  refine wpAny_pyNext_enum_end (I.ok.hd hc) x1 x2 p.isList (by simp;omega) fun h1 j=>⟨rfl,?_⟩
  exact I.turnedL (t':=s.toks) (ch:=[e,it]) (fun c o hc g=>j c o (fun z=>hc (by simp [z])) g) hf
 self:=fun _ _ _ _ _ st h=>by obtain⟨⟨old,x1⟩,_⟩:=st;exact wpAny_pyIter_enum x1 h
section
variable{X:Cx}
def c6c(K:W.Frag)(ta:TE):TI:=fun σ H R=>ta σ H fun x H1=>∃ a xs,x=.ref a/\SqL K H1 a xs/\R (Ite K a) H1
theorem c8s{l:Expr}{tl:TE}{p pos tp:Pos}{elts:List Expr}{kk:Nat} (hg:Gl X "enumerate") (hm:X.mg "enumerate" = none) (hl:PE X l tl) (hs:starEach [l] X.env=[(false,eval l X.env)]:=by rfl) :
  PI X (.Tuple elts kk tp) (.Call (.Name "enumerate" p) [l] [] pos) (c6c X.K tl):=by
 intro pins s σ H R I h
 refine Call_ (a8f I hg hm b4w (PyProof.Rows.callWith_type1 (thn ((a0e (t:=tNil) hl a0h hs) pos pins s σ H (fun vs H1=>∃ a xs,vs=[.ref a]/\SqL X.K H1 a xs/\R (Ite X.K a) H1) I ?_) fun us s1 ⟨vs,H1,I1,r1,q1⟩=>?_) hs rfl))
 ·show tl σ H fun x H1=>∃ a xs,[x]=[V.ref a]/\SqL X.K H1 a xs/\R (Ite X.K a) H1
  simpa [c6c] using h
 ·obtain⟨a,xs,rfl,hq,q⟩:=q1
  obtain⟨u,rfl,ru⟩:=r1.one
  cases ru
  obtain⟨its,rv,pl,hz⟩:=I1.list hq
  refine call_enumerate_list pl.isList fun h' j1 j2 j3 j4=>wpAny_pyIter_enum j1 ⟨s1.heap.objs.size + 1,[s1.heap.objs.size + 1,s1.heap.objs.size],_,_,H1,rfl,I1.kept (t':=s1.toks) j4,c1i (Nat.succ_ne_self _),⟨⟨_,j1⟩,j2⟩,fun c hc=>?_,q⟩
  have hc:c=s1.heap.objs.size + 1 ∨ c=s1.heap.objs.size:=by simpa using hc
  have ge:s1.heap.objs.size <= c:=by rcases hc with rfl | rfl;exact le_succ _;exact le_refl _
  exact I1.fpOk ge (I1.hok.fresh ge)
end
section
variable{K:W.Frag}{S:Addr->Prop}{H:Hp}
end
end L2
end
section
namespace L2
open PySem PySem.Spec PyProof.Rows
section
variable{K:W.Frag}{c:Rc}{O:Own}{ρ:Rho}{σ:St}{H H':Hp}
end
end L2
end
section
namespace L2
open PySem PySem.Spec PyProof.Rows
section
variable{κ:Type}[DecidableEq κ]
noncomputable def valV(kvs:List (κ × V))(k:κ):Option V:=(kvs.find? fun kv=>decide (kv.1=k)).map (·.2)
noncomputable def putK(kvs:List (κ × V))(k:κ)(v:V):List (κ × V):=
 if (kvs.any fun kv=>decide (kv.1=k))=true then kvs.map (fun kv=>if kv.1=k then(kv.1,v) else kv) else kvs ++ [(k,v)]
noncomputable def dropK(kvs:List (κ × V))(k:κ):List (κ × V):=kvs.filter fun kv=>decide (kv.1 ≠ k)
end
abbrev KT(H:Hp):List (List Key × V)->List (List Key × Addr × Value)->Prop:=Paired fun p q=>p.1=q.1/\H q.2.1=some (.tup (p.1.map kV))/\RelV p.2 q.2.2
section
variable{P:Program}{w:World}{H:Hp}{h:Heap}{a:Addr}
end
def DGet(H:Hp)(a:Addr)(y:V)(r:Option V):Prop:=
 (∃ kvs k,Rd H a (.dK kvs)/\y=kV k/\r=valV kvs k) ∨ ∃ kvs k b,Rd H a (.dT kvs)/\y=.ref b/\H b=some (.tup (k.map kV))/\r=valV kvs k
def DPut(H:Hp)(a:Addr)(y v:V)(H':Hp):Prop:=
 (∃ kvs k,H a=some (.dK kvs)/\y=kV k/\kvs.length < sizeLine/\H'=upd H a (.dK (putK kvs k v))) ∨
 ∃ kvs k b,H a=some (.dT kvs)/\y=.ref b/\H b=some (.tup (k.map kV))/\kvs.length < sizeLine/\H'=upd H a (.dT (putK kvs k v))
section
variable{X:Cx}{pins:List (Addr × Obj)}{σ:St}{H:Hp}{s:Shared}{a:Addr}{y v:V}{u r:Value}{o:Option V}{A:Around}{E:Value->Shared->Prop}
end
section
variable{X:Cx}{pins:List (Addr × Obj)}{σ:St}{H:Hp}{s:Shared}{a:Addr}{kvs:List (Key × V)}{k:Key}{u:Value}{A:Around}{E:Value->Shared->Prop}
end
section
variable{X:Cx}{o i e value:Expr}{pos pos' tpos:Pos}{td ty tv:TE}
end
section
variable{X:Cx}{pos:Pos}
end
end L2
end
section
namespace L2
open PySem PySem.Spec PyProof.Rows
section
variable{X:Cx}
theorem c1j:a1k X (.type "int") (fun xs H Q=>∃ b:Bool,xs=[.bl b]/\Q (.int (if b then 1 else 0)) H):=by
 intro pins s σ H xs us Q I rs h
 obtain⟨b,rfl,q⟩:=h
 obtain⟨u,rfl,r⟩:=vals1 rs
 cases r
 exact call_int_bool ⟨.int _,H,I.tok _,⟨_,rfl⟩,q⟩
end
noncomputable def c6d:FC:=fun ds=>match ds with
 | [.bool b]=>some (.int (if b then 1 else 0))
 | _=>none
section
variable{K:W.Frag}{H:Hp}{S:Addr->Prop}
theorem c8t:AdC K (fun xs H Q=>∃ b:Bool,xs=[.bl b]/\Q (.int (if b then 1 else 0)) H) c6d:=by
 intro S H vs ds z Q f h e k
 unfold c6d at e
 split at e
 ·rename_i b
  cases e
  obtain⟨v,rfl,h1⟩:=h.one
  rw [h1.bool]
  exact⟨b,rfl,k _ _ (Same.refl _) (a1v _)⟩
 ·cases e
theorem AtT.dict{H:Hp}{S:Addr->Prop}{kvs:List (PyData × PyData)}{v:V}(h:AtT K H S (.dict kvs) v):∃ (a:Addr) (κ:List (Key × V)),v=.ref a/\S a/\H a=some (.dK κ)/\a0j K H S kvs κ:=a5u (h.at fun _ z=>nomatch z)
end
section
variable{K:W.Frag}{da db:TDE}
end
end L2
end
section
namespace L2
open PySem PySem.Spec PyProof.Rows
noncomputable def Rc.reb(c:Rc)(O:Own)(p:Addr)(H:Hp):Rc:={ c with H0:=H,P:=fun a=>c.P a ∨ a=p,M:=fun a=>∃ j,O j=some a,A:=fun a=>∃ j,O j=some a }
structure Pin(K:W.Frag)(c:Rc)(p:Addr)(ν:List (Str × Int))(i:Nat)(O:Own)(ρ:Rho)(σ:St)(H:Hp):Prop where
 rel:Rel K (c.reb O p H) O ρ σ H
 at_:H p=some (.dK (ν.map kvE))
 slot:σ[i]? = some (some (.ref p))
 nul:ρ[i]? = some none
 bA:∀ j q,O j=some q->c.A q
 bS:∀ b o,¬ c.M b->c.H0 b=some o->H b=some o
 bK:∀ b,c.H0 b ≠ none->H b ≠ none
 bM:∀ q,c.M q->∃ vs,H q=some (.lst vs)
 am:∀ q,c.A q->c.M q ∨ c.H0 q=none
 frs:∀ q,c.H0 q=none->c.S q
 fr0:c.H0 p=none
 np:¬ c.P p
section
variable{K:W.Frag}{c:Rc}{O O1:Own}{ρ ρ1:Rho}{σ σ1:St}{H H1 H2:Hp}{p:Addr}{ν μ:List (Str × Int)}{i:Nat}
end
section
variable{K:W.Frag}
end
section
variable{X:Cx}{iter kE vE:Expr}{rest:List Stmt}{di:TDI}{dk dv:TDE}{du:TDS}{x y:Str}{p1 p2 p3 p4 p5 p6 p7 p8 p9 p10 p11 p12 p13:Pos}
end
end L2
end
section
namespace L2
open PySem PySem.Spec PyProof.Rows
section
variable{prog:Program}{w:World}{A:Around}{R:Result->Shared->Prop}{I:Addr}{fp wr:List Addr}{G:Array GenState->Array GenState->Prop}{St:Nat->Shared->Prop}{items:Array Value}{ps:List (Str × Int)}
end
section
variable{prog:Program}{w:World}{A:Around}{E:Value->Shared->Prop}{s:Shared}
end
end L2
end
section
namespace L2
open PySem PySem.Spec PyProof.Rows
def NotSq(o:HO):Prop:=(∀ xs,o ≠ .lst xs)/\(∀ xs,o ≠ .tup xs)/\∀ a u,o ≠ .frz a u
structure PinG(K:W.Frag)(c:Rc)(p:Addr)(o:HO)(O:Own)(ρ:Rho)(σ:St)(H:Hp):Prop where
 rel:Rel K (c.reb O p H) O ρ σ H
 at_:H p=some o
 nsq:NotSq o
 bA:∀ j q,O j=some q->c.A q
 bS:∀ b o,¬ c.M b->c.H0 b=some o->H b=some o
 bK:∀ b,c.H0 b ≠ none->H b ≠ none
 bM:∀ q,c.M q->∃ vs,H q=some (.lst vs)
 am:∀ q,c.A q->c.M q ∨ c.H0 q=none
 frs:∀ q,c.H0 q=none->c.S q
 fr0:c.H0 p=none
 np:¬ c.P p
section
variable{K:W.Frag}{c:Rc}{O O1:Own}{ρ ρ1:Rho}{σ σ1:St}{H H1 H2:Hp}{p:Addr}{o o2:HO}
end
end L2
end
section
namespace L2
open PySem PySem.Spec PyProof.Rows
section
variable{X:Cx}
end
end L2
end
section
namespace L2
open PySem PySem.Spec PyProof.Rows
section
variable{X:Cx}
noncomputable def c6e(K:W.Frag):List V->Hp->VK->Prop:=fun xs H Q=>∃ v S,∃ n:Nat,xs=[v]/\AtD K H S (.list (List.replicate n (.bool true))) v/\Q (.bl true) H
theorem a8o{K:W.Frag}{H:Hp}{S:Addr->Prop}:∀ {n:Nat} {xs:List V},a0a K H S (List.replicate n (.bool true)) xs->xs=List.replicate n (V.bl true)
 | 0,xs,h=>h.unnil
 | n + 1,xs,h=>by
  obtain⟨v,vr,rfl,hd,t⟩:=a0a.uncons (d:=.bool true) (ds:=List.replicate n (.bool true)) h
  rw [AtT.bool (AtD.top hd),a8o t];rfl
theorem b1c:∀ {n:Nat} {us:List Value},Vals (List.replicate n (V.bl true)) us->∀ (i:Nat) (v:Value),us[i]? = some v->v=Value.bool true
 | 0,us,h,i,v,e=>by rw [Vals.zero h] at e;cases e
 | n + 1,us,h,i,v,e=>by
  cases h with
  | cons h1 h2 =>
   cases i with
   | zero=>cases e;exact h1
   | succ i=>exact b1c h2 i v e
theorem c1k(hc:X.calm=true):a1k X (.builtin "all") (c6e X.K):=by
 intro pins s σ H xs us Q I rs h
 obtain⟨v,S,n,rfl,hd,q⟩:=h
 obtain⟨u,rfl,r⟩:=vals1 rs
 obtain⟨a,ys,rfl,_,hq,t⟩:=a2x hd
 cases r
 have ey:=a8o t
 subst ey
 obtain⟨its,rv,pl,hz⟩:=I.list (SqL.of hq)
 have la:a < s.heap.objs.size:=lt_size pl.isList.choose_spec.1
 refine call_all_walk (wpAny_pyIter_list pl.isList ⟨s.heap.objs.size,_,_,_,_,_,fun _=>true,rfl,Walks.list (by simpa using I.ok.hd hc) s.heap.objs.size a (ne_of_lt la) its.toArray,⟨⟨_,get?_push_size _ rfl,rfl,rfl⟩,pl.isList.push _⟩,fun i v s' Q' E' hP hQ=>?_,fun h' tk hk=>?_⟩)
 ·rw [b1c rv i v (by simpa using hP)]
  exact wpAny_truthy_bool hQ
 ·rw [show((List.range its.toArray.size).all fun _=>true)=true by simp]
  refine⟨.bl true,H,I.kept fun b o e=>hk b o ?_ (get?_push_of_some _ e),rfl,q⟩
  rw [mem_singleton]
  exact ne_of_lt (lt_size e)
theorem b4x:bootBuiltins "all" = some (.builtin "all"):=by decide +kernel
end
noncomputable def allT:List PyData->Bool
 | []=>true
 | .bool true :: r=>allT r
 | _ :: _=>false
theorem b4y:∀ n:Nat,allT (List.replicate n (.bool true))=true
 | 0=>rfl
 | n + 1=>b4y n
theorem b4z:∀ {xs:List PyData},allT xs=true->xs=List.replicate xs.length (.bool true)
 | [],_=>rfl
 | .bool true :: r,h=>by
  have:=b4z (xs:=r) h
  rw [length_cons,List.replicate_succ,← this]
noncomputable def b8q:FC:=fun ds=>match ds with
 | [.list xs]=>if allT xs=true then some (.bool true) else none
 | _=>none
section
variable{K:W.Frag}{H:Hp}{S:Addr->Prop}
theorem c8u:AdC K (c6e K) b8q:=by
 intro S H vs ds z Q f h e k
 unfold b8q at e
 split at e
 ·rename_i xs
  split at e
  ·rename_i hx
   cases e
   obtain⟨v,rfl,h1⟩:=h.one
   rw [b4z hx] at h1
   exact⟨v,Any,_,rfl,h1.any,k _ _ (Same.refl _) (a1j _)⟩
  ·cases e
 ·cases e
end
section
variable{X:Cx}{e e1 e2:Expr}{es:List Expr}{daa:TDA}{de d1 d2:TDE}{pos:Pos}
end
section
variable{i:Nat}{de di da dd:TDA}{ρ:Rho}{Q:DV->Rho->Prop}{d1 d2:TDE}
end
section
variable{K:W.Frag}
end
section
variable{X:Cx}{iter kE vE tg:Expr}{rest:List Stmt}{di:TDI}{dg:TDG}{dk dv:TDE}{du:TDS}{x y z:Str}{pos p1 p2 p3 p4 p5 p6 p7 p8 p9 p10 p11 p12 p13:Pos}
end
end L2
end
section
namespace L2
open PySem PySem.Spec PyProof.Rows
section
variable{prog:Program}{w:World}{A:Around}{E:Value->Shared->Prop}{s:Shared}
def IsZ2(h:Heap)(z TI TO T:Addr)(b:Bool):Prop:=h.get? z=some { cls:=.type "zip",dict:=none,data:=.fields #[rawInt T,.bool b,.bool false,.ref TI,.ref TO],slots:=#[] }
def ZF(h:Heap)(z TI TO:Addr):Prop:=(IsZip h z TI TO .none/\∃ p q,IsPair h TO p q) ∨ ∃ T b o,IsZ2 h z TI TO T b/\h.get? T=some o
end
end L2
end
section
namespace L2
open PySem PySem.Spec PyProof.Rows
section
variable{prog:Program}{w:World}{A:Around}{R:Result->Shared->Prop}{ps:List (Str × Int)}{z TI TO i1 i2 l1 l2:Addr}{xs ys:Array Value}
end
section
variable{prog:Program}{w:World}{A:Around}{E:Value->Shared->Prop}{s:Shared}
end
section
variable{X:Cx}
end
noncomputable def a7u:List PyData->Option (List Str)
 | []=>some []
 | .str x :: r=>(a7u r).map (x :: ·)
 | _ :: _=>none
theorem b5a:∀ ss:List Str,a7u (ss.map .str)=some ss
 | []=>rfl
 | x :: r=>by show(a7u (r.map .str)).map (x :: ·)=_;rw [b5a r];rfl
theorem b2t:∀ {xs:List PyData} {ss:List Str},a7u xs=some ss->xs=ss.map .str
 | [],ss,h=>by cases h;rfl
 | .str x :: r,ss,h=>by
  have h':(a7u r).map (x :: ·)=some ss:=h
  obtain⟨qs,h1,rfl⟩:=map_eq_some_iff.mp h'
  rw [b2t h1];rfl
end L2
end
section
namespace L2
open PySem
theorem b6x{n:Nat}:b8q [.list (List.replicate n (.bool true))]=some (.bool true):=by
 show(if allT _=true then _ else _)=_
 rw [if_pos (b4y n)]
noncomputable def a2q:PyData->Bool
 | .none=>true
 | _=>false
noncomputable def fIsN:F2:=fun x y=>match y with
 | .none=>some (.bool (a2q x))
 | _=>none
theorem d3k{x:PyData}:fIsN x .none=some (.bool (a2q x)):=rfl
theorem c1l:a2q .none=true:=rfl
theorem c1m{i:Int}:a2q (.int i)=false:=rfl
theorem c1n{xs:List PyData}:a2q (.tuple xs)=false:=rfl
section
variable{K:W.Frag}{H:Hp}{S:Addr->Prop}
theorem c1o{d:PyData}{v:V}(h:AtT K H S d v):decide (v=.non)=a2q d:=by
 cases d with
 | none=>rw [h.none];rfl
 | bool b=>rw [h.bool];rfl
 | int i=>rw [h.int];rfl
 | str x=>rw [h.str];rfl
 | list xs=>obtain⟨a,ws,rfl,_,_⟩:=h.list;rfl
 | tuple xs=>obtain⟨a,ws,rfl,_,_⟩:=h.tup;rfl
 | dict kvs=>obtain⟨a,ν,rfl,_⟩:=h.dict;rfl
theorem b5b:AdR K (fun x y H Q=>y=.non/\Q (.bl (decide (x=.non))) H) fIsN:=by
 intro S H x y dx dy z Q f hx hy e k
 unfold fIsN at e
 split at e<;>cases e
 rw [hy.none,c1o hx]
 exact⟨rfl,k _ _ (Same.refl _) (a1j _)⟩
end
end L2
end
section
namespace L2
open PySem PySem.Spec PyProof.Rows
section
variable{prog:Program}{w:World}{A:Around}{E:Value->Shared->Prop}{s:Shared}
theorem b3b{t sl:Addr}{items:Array Value}{vl vu:Value}{lo hi:Option Int}{Q:Value->Shared->Prop}(ht:IsTup s.heap t items)(hs:s.heap.IsSliceOf sl vl vu .none)(pl:IsPart vl lo)(pu:IsPart vu hi)
  (hw:HT.sIx items.size 0 lo=0/\HT.sIx items.size items.size hi=items.size) (h:Q (.ref t) s):wpAny (model prog w) A (getItem (.ref t) (.ref sl)) Q E s:=by
 have hTs:s.TypeIs (.ref sl) "slice":=by obtain⟨os,hos,hcs,_⟩:=id hs;exact⟨os,hos,hcs⟩
 unfold getItem
 try with_reducible refine wpAny_holding ?_
 first | refine wpAny_bind (wpAny_pure ?_) | skip
 refine wpAny_bind (wpAny_sequenceKey ht.typeIs (by decide) ?_)
 refine wpAny_bind (wpAny_callSpecial?_slot (name:=Str.ofString "__getitem__") ht.typeIs slot_tuple_getitem (wpAny_call_entry slot_tuple_getitem ht.typeIs entry_tuple_getitem ?_ (args_tuple_getitem _ _)))
 show wpAny _ _ (Builtin.Tuple.tupleItemsOf (.ref t) >>= _) _ _ s
 refine wpAny_bind (tupleItemsOf_ ht (wpAny_bind (wpAny_typeOf hTs ?_)))
 rw [if_pos (by decide)]
 refine wpAny_bind (HT.a5z hs pl pu ?_)
 rw [hw.1,hw.2]
 show wpAny _ _ (if (((0:Nat):Int) == 0 && (1:Int) == 1 && (items.size - 0) == items.size)=true then _ else _) _ _ s
 rw [if_pos (by simp)]
 refine wpAny_bind (m:=Builtin.Tuple.tupleIsExact (.ref t)) (wpAny_bind (wpAny_typeOf ht.typeIs (wpAny_pure ?_)))
 rw [if_pos (by decide)]
 exact wpAny_bind (wpAny_rule (wpAny_pure ⟨_,rfl,wpAny_pure h⟩))
end
section
variable{X:Cx}{e:Expr}{te:TE}{pos p2:Pos}
noncomputable def rSlW(K:W.Frag):V->Option Int->Option Int->Hp->VK->Prop:=fun x lo hi H Q=>∃ a xs,x=.ref a/\SqT K H a xs/\(HT.sIx xs.length 0 lo=0/\HT.sIx xs.length xs.length hi=xs.length)/\Q x H
theorem b5c:SlR X (rSlW X.K):=by
 intro pins s σ H x v vl vu lo hi sl Q I rx hs pl pu h
 obtain⟨a,xs,rfl,hx,hw,q⟩:=h
 cases rx
 obtain⟨its,r,ht,hz⟩:=I.tuple hx
 have hlen:its.toArray.size=xs.length:=by rw [size_toArray];exact r.length.symm
 exact⟨"tuple",_,slot_tuple_getitem.lookup,ht.typeIs,b3b ht hs pl pu (by rw [hlen];exact hw) ⟨.ref a,H,I,rfl,q⟩⟩
def rInK(K:W.Frag)(w:World):R2:=fun x y H Q=>∃ a kvs z,y=.ref a/\KDict K w a kvs/\(a == sysModules)=false/\x=.str z/\Q (.bl (kvs.lookup z).isSome) H
theorem KV.some_eq{kvs:List (Str × V)}{vs:List (Str × Value)}(h:KV kvs vs)(z:Str):(valueAt vs z).isSome=(kvs.lookup z).isSome:=by
 induction h with
 | nil=>rfl
 | @cons p q kvs vs r _ ih =>
  obtain⟨x,v⟩:=p
  obtain⟨y,u⟩:=q
  obtain⟨e,rv⟩:=r
  have e':x=y:=e
  subst e'
  rw [lookup_cons]
  by_cases hzx:z=x
  ·subst hzx
   simp [valueAt]
  ·have:(z == x)=false:=beq_eq_false_iff_ne.mpr hzx
   rw [this]
   unfold valueAt at ih ⊢
   rw [List.find?_cons_of_neg (by simpa using fun q=>hzx q.symm)]
   exact ih
theorem d3l:OpR X (compareOp .In) (rInK X.K X.w):=by
 intro pins s σ H x y v u Q I rx ry h
 obtain⟨a,kvs,z,rfl,⟨hnd,es,ep,hk,he⟩,hsm,rfl,q⟩:=h
 cases ry
 obtain⟨t,rfl⟩:=rx
 have ho:=I.kIn a _ hk
 obtain⟨vs,hp,hkv,hkeys⟩:=he.pairs (prog:=X.prog)
 obtain⟨e1,hlook⟩:=KV.look hkv
 have hd:s.heap.DictOf (strKind X.prog X.w) a vs:=by
  refine⟨_,es,ep,ho,⟨rfl,rfl,rfl⟩,rfl,?_,hp,by rw [← e1];exact hnd⟩
  intro e hm
  obtain⟨x',t',e2,e3⟩:=hkeys e (by simpa using hm)
  exact⟨x',by rw [e2];exact strKind_is X.prog X.w x' t',e3⟩
 refine wpAny_in_of (strKind_is X.prog X.w z t) hsm hd.mapOf ?_
 have e:(valueAt vs z).isSome=(kvs.lookup z).isSome:=KV.some_eq hkv z
 rw [e]
 exact⟨.bl _,H,I.tok _,rfl,q⟩
end
end L2
end
section
namespace L2
open PySem PySem.Spec PyProof.Rows
theorem b8r{xs:List PyData}{lo hi:Option Int}(h:HT.sIx xs.length 0 lo=0/\HT.sIx xs.length xs.length hi=xs.length):cutD xs lo hi=xs:=by
 unfold cutD
 rw [h.1,h.2,List.drop_zero,Nat.sub_zero,take_length]
noncomputable def fSlA:FSl:=fun x lo hi=>match x with
 | .tuple xs=>some (.tuple (cutD xs lo hi))
 | _=>none
theorem d3m{xs:List PyData}{lo hi:Option Int}:fSlA (.tuple xs) lo hi=some (.tuple (cutD xs lo hi)):=rfl
section
variable{K:W.Frag}{H:Hp}{S:Addr->Prop}
theorem c1p:AdSl K (fun x lo hi H Q=>rSlT K x lo hi H Q ∨ rSlW K x lo hi H Q) fSlA:=by
 intro S H x d z lo hi Q f hx e k
 unfold fSlA at e
 split at e
 ·rename_i xs
  cases e
  obtain⟨a,vs,rfl,h1,h2⟩:=hx.tup
  by_cases hw:HT.sIx xs.length 0 lo=0/\HT.sIx xs.length xs.length hi=xs.length
  ·refine .inr ⟨a,vs,rfl,h1,by rw [h2.length];exact hw,k _ _ (Same.refl _) ?_⟩
   rw [b8r hw]
   exact a1z h1 h2
  ·exact .inl ⟨a,vs,rfl,h1,by rw [h2.length];exact hw,fun p hp=>k _ _ (a0l hp _) (a7o hp (h2.cut lo hi))⟩
 ·cases e
def b5d(i:Nat):TDE:=fun ρ Q=>need (ownB ρ i) fun o=>Q (.d .none) (ρ.set i (some (okL o.1 o.2.reverse)))
theorem b8s{i:Nat}:AdE K (tBM0 K "list" b4c (tVar i)) (b5d i):=by
 intro c O ρ σ H Qd Q R q k
 obtain⟨hz3,e,q⟩:=ne (q)
 obtain⟨o,xs⟩:=hz3
 obtain⟨e0,p,vs,hO,hσ,hH,hA⟩:=b1s R e
 refine⟨.ref p,hσ,.inl ⟨rfl,vs,SqL.of hH⟩,p,vs,rfl,rfl,hH,?_⟩
 obtain⟨R3,P3⟩:=R.writeB hO hH e0 hA.reverse
 exact k _ _ _ _ _ q R3 P3 b4g
end
section
variable{X:Cx}{e st:Expr}{de ds:TDE}{pos p2:Pos}
theorem b8t(i:Nat){x:Str}{p apos:Pos}(hN:X.N[i]? = some x)(hv:Vis X.env.scope x:=by first | exact Or.inl rfl | exact Or.inr (Or.inl rfl) | exact Or.inr (Or.inr rfl)) (hd:(x == ("__debug__" : Str))=false:=by decide)
  (hcd:(x == ("__classdict__" : Str))=false:=by decide) (hbase:attributeBase (.Name x p) "reverse" X.env (eval (.Name x p) X.env)=eval (.Name x p) X.env:=by rfl) (hline:(apos.endLine == pos.line)=true:=by rfl):DE X (.Call (.Attribute (.Name x p) "reverse" apos) [] [] pos) (b5d i):=
 ⟨_,d0s PySem.F.plainAttrs_list PySem.F.slot_list_reverse PySem.F.type_list_reverse b7z (b0g hN hv hd hcd) hbase hline,b8s⟩
end
section
variable{i:Nat}{ρ:Rho}{Q:DV->Rho->Prop}{d1 d2:TDE}{keys:List Str}
end
end L2
end
section
namespace L2
open PySem PySem.Spec PyProof.Rows
end L2
end
section
namespace L2
open PySem PySem.Spec PyProof.Rows
end L2
end
section
namespace L2
open PySem PySem.Spec PyProof.Rows
section
variable{X:Cx}
end
end L2
end
section
namespace Sx
open PySem PySem.Spec PyProof.Rows
def leS(a b:Str):Prop:=a.cps.toList <= b.cps.toList
instance (a b:Str):Decidable (leS a b):=by unfold leS;infer_instance
section
variable{prog:Program}{w:World}{A:Around}{E:Value->Shared->Prop}{s:Shared}{S:Addr}
end
end Sx
end
section
namespace L2
open PySem PySem.Spec PyProof.Rows
section
variable{X:Cx}{pins:List (Addr × Obj)}{σ:List (Option V)}{H:Hp}{s:Shared}
end
section
variable{K:W.Frag}{H:Hp}{S:Addr->Prop}
end
section
variable{X:Cx}{a:Expr}{daa:TDA}{p p2 pos pos2:Pos}
end
end L2
end
section
namespace Sx
open PySem PySem.W PyProof.Rows
section
variable{n:Nat}(hn:0 < n)
include hn
end
section
variable{prog:Program}{w:World}{A:Around}{E:Value->Shared->Prop}{s:Shared}
end
end Sx
end
section
namespace L2
open PySem PySem.Spec PyProof.Rows
section
variable{prog:Program}{w:World}{A:Around}{E:Value->Shared->Prop}{s:Shared}
end
section
variable{K:W.Frag}{H:Hp}{S:Addr->Prop}
end
section
variable{X:Cx}
end
section
variable{K:W.Frag}
end
section
variable{X:Cx}{e:Expr}{es:List Expr}{daa:TDA}{pos:Pos}
theorem Room.units2{k:Nat}{A:Around}(r:Room k A):A.units + 80 < cLine:=by have:=r.un;omega
end
end L2
namespace Sn
instance stands:Nonempty Unit:=⟨()⟩
end Sn
end
section
namespace L2
open PySem PySem.Spec PyProof.Rows
end L2
end
section
namespace L2
open PySem PySem.Spec PyProof.Rows PySem.Builtin PySem.Builtin.Str
section
variable{X:Cx}
theorem b6y:∀ {ys:List Str} {us:List Value},Vals (ys.map V.str) us->StrsAre us ys
 | [],_,h=>by cases h;exact .nil
 | y :: ys,_,h=>by
  cases h with
  | cons r t =>
   obtain⟨k,rfl⟩:=r
   exact .cons y k (b6y t)
theorem b6z:∀ {ys:List Str} {us:List Value},StrsAre us ys->Vals (ys.map V.str) us
 | _,_,.nil=>.nil
 | _,_,.cons y k h=>.cons ⟨k,rfl⟩ (b6z h)
noncomputable def rJoin(K:W.Frag):V->List V->Hp->VK->Prop:=fun x vs H Q=>∃ (z:Str) (p:Addr) (ys:List Str),x=.str z/\vs=[.ref p]/\SqL K H p (ys.map V.str)/\z.length <= 16/\(ys.map (·.length)).sum + ys.length <= 1048576/\Q (.str (Txt.join z ys)) H
theorem c8v:MtM X "str.join" (rJoin X.K):=by
 intro pins s σ H x vs v us Q I rx rv h
 obtain⟨z,p,ys,rfl,rfl,hp,hz,hw,q⟩:=h
 obtain⟨t,rfl⟩:=rx
 obtain⟨u,rfl,r⟩:=vals1 rv
 cases r
 obtain⟨its,rs,⟨o,n,e,hc,hd,hda⟩,_⟩:=I.list hp
 exact join_listW (ys:=ys) (items:=its.toArray) ⟨o,e,hc,n,hda⟩ (b6y rs) hz hw fun t' k=>⟨.str _,H,I.tok _,⟨_,rfl⟩,q⟩
noncomputable def d3n:V->List V->Hp->VK->Prop:=fun x vs H Q=>∃ (z y:Str),x=.str z/\vs=[.str y]/\(y.length == 0)=false/\z.length <= 1000000/\∀ p,H p=none->Q (.ref p) (upd H p (.lst ((Txt.split z y).map V.str)))
theorem c1q{prog:Program}{w:World}{A:Around}{E:Value->Shared->Prop}{s:Shared}{x y:Str}{t u:Tok}{Q:Value->Shared->Prop}(hy:(y.length == 0)=false)(hz:x.length + 2 <= sizeLine)
  (h:∀ l k,l.map (·.1)=Txt.split x y->l.length <= sizeLine->Q (.ref s.heap.objs.size) { s with heap:=s.heap.push { cls:=.type "list",data:=.seq (strValues l).toArray },toks:=k }):wpAny (model prog w) A (call (.builtin "str.split") [.str x t,.str y u]) Q E s:=by
 have T:=typeIs_str s x t
 cases c:(decide (x.length < y.length) || decide (PySem.Builtin.Str.strKind x < PySem.Builtin.Str.strKind y)) with
 | true=>exact call_meets F.slot_str_split T F.entry_str_split (F.args_str_split_2 _ _) (meets_str_split_cannot_occur x y t u c) (h [(x,t)] s.toks (if_pos c).symm (by rw [sizeLine_eq];show 1 <= _;omega))
 | false =>
  have c0:¬ (decide (x.length < y.length) || decide (PySem.Builtin.Str.strKind x < PySem.Builtin.Str.strKind y))=true:=by rw [c];decide
  cases o:(occurrences x y 0 x.length (x.length + 1)).isEmpty with
  | true=>exact call_meets F.slot_str_split T F.entry_str_split (F.args_str_split_2 _ _) (meets_str_split_not_found x y t u c hy o) (h [(x,t)] s.toks ((if_neg c0).trans (if_pos o)).symm (by rw [sizeLine_eq];show 1 <= _;omega))
  | false =>
   have o0:¬ (occurrences x y 0 x.length (x.length + 1)).isEmpty=true:=by rw [o];decide
   have le:=StrLaws.occ_length_le x y 0 x.length (x.length + 1)
   have n0:(partsBetween x (occurrences x y 0 x.length (x.length + 1)) y.length).length <= sizeLine:=by
    rw [length_partsBetween];omega
   refine call_meets F.slot_str_split T F.entry_str_split (F.args_str_split_2 _ _) (meets_str_split_sep x y t u c hy o (by omega) n0) ?_
   have k:=h (numbered s.toks (partsBetween x (occurrences x y 0 x.length (x.length + 1)) y.length)) (s.toks + (partsBetween x (occurrences x y 0 x.length (x.length + 1)) y.length).length) ((numbered_texts _ _).trans ((if_neg c0).trans (if_neg o0)).symm) (by
    have e:=congrArg List.length (numbered_texts s.toks (partsBetween x (occurrences x y 0 x.length (x.length + 1)) y.length))
    rw [length_map] at e
    rw [e];exact n0)
   rw [← strsFrom_eq] at k
   exact k
theorem b0c:MtM X "str.split" d3n:=by
 intro pins s σ H x vs v us Q I rx rv h
 obtain⟨z,y,rfl,rfl,hy,hz,q⟩:=h
 obtain⟨t,rfl⟩:=rx
 obtain⟨u,rfl,r⟩:=vals1 rv
 obtain⟨k,rfl⟩:=r
 refine c1q hy (by rw [sizeLine_eq];omega) fun l tk e hl=>?_
 refine⟨.ref s.heap.objs.size,_,I.laid (a:=s.heap.objs.size) (o:=.lst ((Txt.split z y).map V.str)) (fun b o q=>get?_push_of_some _ q) (le_refl _) ?_,rfl,q _ (I.hok.fresh (le_refl _))⟩
 refine⟨?_,strValues l,0,?_,get?_push_size _ rfl⟩
 ·rw [length_map,← e,length_map];exact hl
 ·rw [← e]
  exact b6z (strsAre_of_values l)
noncomputable def c6f:List V->Hp->VK->Prop:=fun xs H Q=>∃ (x:Str) (n:Int),xs=[.str x]/\PySem.intText? x=some n/\x.length <= 640/\Q (.int n) H
theorem a6m:a1k X (.type "int") c6f:=by
 intro pins s σ H xs us Q I rs h
 obtain⟨x,n,rfl,hn,hl,q⟩:=h
 obtain⟨u,rfl,r⟩:=vals1 rs
 obtain⟨t,rfl⟩:=r
 exact PySem.W.KIN.call_text hn hl ⟨.int n,H,I.tok _,⟨_,rfl⟩,q⟩
end
end L2
end
section
namespace L2
open PySem PySem.Spec PyProof.Rows
section
variable{X:Cx}
end
end L2
end
section
namespace L2
open PySem PySem.Spec PyProof.Rows
noncomputable def Its(x:Str):It:=⟨fun i _=>i < x.cps.size,fun i H y H'=>H'=H/\∃ c,x.cps[i]? = some c/\y=.str ⟨#[c]⟩,fun i _=>x.cps.size <= i⟩
theorem c1r{P:Program}{w:World}{K:W.Frag}{tg:Expr}(it:Addr)(x:Str)(t:Tok):Turn P w K tg (Its x) [it] it (fun i h=>h.IsStrIter it "str_ascii_iterator" x t i) where
 mem:=by simp
 obj:=fun i h st b hb=>by
  have e:b=it:=by simpa using hb
  subst e
  obtain⟨o,e,c,d⟩:=st
  exact⟨o,e,fun v z=>by rw [d] at z;cases z⟩
 keep:=fun i h h' st k=>let ⟨o,ho,r⟩:=st;⟨o,k it (by simp) o ho,r⟩
 item:=by
  intro X hP hw hK hc i pins s σ H E I hf st hg
  subst hP hw hK
  obtain⟨f0,f1,f2,f3,f4,f5⟩:=hf it (by simp)
  refine(Walks.strAscii (prog:=X.prog) (w:=X.w) (I.ok.hd hc) it x t).item i s _ _ hg st fun v h' tk hv st' kk=>?_
  obtain⟨c,u,hcu,rfl⟩:=hv
  have I1:Inv X pins σ H { s with heap:=h',toks:=tk }:=I.turned (fun b o hb e=>kk b o (by simpa using hb) e) f0 f1 f3 f4 f5
  obtain⟨o,e,c1,d⟩:=id st'
  exact⟨_,rfl,b0i (s:={ s with heap:=h',toks:=tk }) e c1 d (by decide) ⟨.str ⟨#[c]⟩,H,I1,⟨u,rfl⟩,⟨rfl,c,hcu,rfl⟩,st',fun b hb=>(hf b hb).1⟩⟩
 done:=by
  intro X hP hw hK hc i pins s σ H E I hf st hg
  subst hP hw hK
  obtain⟨f0,f1,f2,f3,f4,f5⟩:=hf it (by simp)
  have hn:x.cps[i]? = none:=Array.getElem?_eq_none hg
  exact wpAny_pyNext_ascii_end (I.ok.hd hc) st hn fun h' eb=>⟨rfl,I.turned (t':=s.toks) (fun b o hb e=>eb b o hb e) f0 f1 f3 f4 f5⟩
 self:=fun _ _ _ _ _ st h=>wpAny_pyIter_striter_ascii st h
theorem c1s{P:Program}{w:World}{K:W.Frag}{tg:Expr}(it:Addr)(x:Str)(t:Tok):Turn P w K tg (Its x) [it] it (fun i h=>h.IsStrIter it "str_iterator" x t i) where
 mem:=by simp
 obj:=fun i h st b hb=>by
  have e:b=it:=by simpa using hb
  subst e
  obtain⟨o,e,c,d⟩:=st
  exact⟨o,e,fun v z=>by rw [d] at z;cases z⟩
 keep:=fun i h h' st k=>let ⟨o,ho,r⟩:=st;⟨o,k it (by simp) o ho,r⟩
 item:=by
  intro X hP hw hK hc i pins s σ H E I hf st hg
  subst hP hw hK
  obtain⟨f0,f1,f2,f3,f4,f5⟩:=hf it (by simp)
  refine(Walks.strWide (prog:=X.prog) (w:=X.w) (I.ok.hd hc) it x t).item i s _ _ hg st fun v h' tk hv st' kk=>?_
  obtain⟨c,u,hcu,rfl⟩:=hv
  have I1:Inv X pins σ H { s with heap:=h',toks:=tk }:=I.turned (fun b o hb e=>kk b o (by simpa using hb) e) f0 f1 f3 f4 f5
  obtain⟨o,e,c1,d⟩:=id st'
  exact⟨_,rfl,b0i (s:={ s with heap:=h',toks:=tk }) e c1 d (by decide) ⟨.str ⟨#[c]⟩,H,I1,⟨u,rfl⟩,⟨rfl,c,hcu,rfl⟩,st',fun b hb=>(hf b hb).1⟩⟩
 done:=by
  intro X hP hw hK hc i pins s σ H E I hf st hg
  subst hP hw hK
  obtain⟨f0,f1,f2,f3,f4,f5⟩:=hf it (by simp)
  have hn:x.cps[i]? = none:=Array.getElem?_eq_none hg
  exact wpAny_pyNext_wide_end (I.ok.hd hc) st hn fun h' eb=>⟨rfl,I.turned (t':=s.toks) (fun b o hb e=>eb b o hb e) f0 f1 f3 f4 f5⟩
 self:=fun _ _ _ _ _ st h=>wpAny_pyIter_striter_wide st h
section
variable{X:Cx}{tg:Expr}
def iStr(tl:TE):TI:=fun σ H R=>tl σ H fun x H1=>∃ z,x=.str z/\R (Its z) H1
theorem d3o{l:Expr}{tl:TE}(hl:PE X l tl):PI X tg l (iStr tl):=by
 intro pins s σ H R I h
 refine thn (hl pins s σ H _ I h) fun v s1 hq9=>?_
 obtain⟨x,H1,I1,r1,q1⟩:=hq9
 obtain⟨z,rfl,q⟩:=q1
 obtain⟨t,rfl⟩:=r1
 have fp:∀ b ∈ [s1.heap.objs.size],FpOk X pins H1 b:=fun b hb=>by
  have e:b=s1.heap.objs.size:=by simpa using hb
  subst e
  exact I1.fpOk (le_refl _) (I1.hok.fresh (le_refl _))
 cases ha:z.cps.all (· < 128) with
 | true=>exact wpAny_pyIter_ascii ha ⟨s1.heap.objs.size,[s1.heap.objs.size],_,_,H1,rfl,I1.kept (t':=s1.toks) fun b o e=>get?_push_of_some _ e,c1r _ z t,⟨_,get?_push_size _ rfl,rfl,rfl⟩,fp,q⟩
 | false=>exact wpAny_pyIter_wide ha ⟨s1.heap.objs.size,[s1.heap.objs.size],_,_,H1,rfl,I1.kept (t':=s1.toks) fun b o e=>get?_push_of_some _ e,c1s _ z t,⟨_,get?_push_size _ rfl,rfl,rfl⟩,fp,q⟩
end
abbrev signs(x:Str):List PyData:=x.cps.toList.map fun c=>.str ⟨#[c]⟩
noncomputable def asSt:PyData->Option Str
 | .str x=>some x
 | _=>none
theorem d3p{x:Str}:asSt (.str x)=some x:=rfl
def b8u(de:TDE):TDI:=fun ρ Q=>de ρ fun x ρ1=>need (a0i ρ1 x) fun d=>need (asSt d) fun z=>Q (signs z) ρ1
section
variable{K:W.Frag}{H:Hp}{S:Addr->Prop}
theorem b8v{z:Str}:a8m K S H (Its z) (signs z):=fun S' H' P=>by
 refine⟨fun i x e=>?_,by simp [Its]⟩
 rw [getElem?_map,Array.getElem?_toList] at e
 obtain⟨c,hc,rfl⟩:=map_eq_some_iff.mp e
 refine⟨(Array.getElem?_eq_some_iff.mp hc).1,fun v H'' y=>?_⟩
 obtain⟨rfl,c',hc',rfl⟩:=y
 rw [hc] at hc'
 cases hc'
 exact⟨Same.refl _,a3j _⟩
theorem d3q{t:TE}{de:TDE}(h:AdE K t de):AdI K (iStr t) (b8u de):=fun c O ρ σ H Qd Q R q k =>
 h c O ρ σ H _ _ R q fun x ρ1 O1 v H1 h1 R1 P1 a1=>by
  obtain⟨d,e1,hn1⟩:=ne (h1)
  obtain⟨z,e2,h2⟩:=ne (hn1)
  cases d with
  | str z' =>
   cases e2
   exact⟨z,(R1.top a1 e1).str,k _ _ _ _ _ h2 R1 P1 b8v⟩
  | _=>cases e2
end
theorem d3r{X:Cx}{tg e:Expr}{de:TDE}(h:DE X e de):DI X tg e (b8u de):=by obtain⟨_,p,a⟩:=h;exact⟨_,d3o p,d3q a⟩
theorem c8w{de:TDE}{ρ:Rho}{Q:List PyData->Rho->Prop}:b8u de ρ Q=(de ρ fun x ρ1=>need (a0i ρ1 x) fun d=>need (asSt d) fun z=>Q (signs z) ρ1):=rfl
section
variable{X:Cx}
noncomputable def c6g(K:W.Frag):List V->Hp->VK->Prop:=fun xs H Q=>∃ v S,∃ bs:List Bool,xs=[v]/\AtD K H S (.list (bs.map .bool)) v/\Q (.bl (bs.all id)) H
theorem bools_of_all{K:W.Frag}{H:Hp}{S:Addr->Prop}:∀ {bs:List Bool} {xs:List V},a0a K H S (bs.map .bool) xs->xs=bs.map V.bl
 | [],xs,h=>by rw [h.unnil];rfl
 | n :: r,xs,h=>by
  obtain⟨v,vr,rfl,hd,t⟩:=h.uncons
  rw [a4l hd,bools_of_all t];rfl
theorem b1d:∀ {bs:List Bool} {us:List Value},Vals (bs.map V.bl) us->us=bs.map Value.bool
 | [],us,h=>by rw [Vals.zero h];rfl
 | x :: r,us,h=>by
  cases h with
  | cons h1 h2 =>
   rw [b1d h2,map_cons]
   congr 1
theorem b2u(hc:X.calm=true):a1k X (.builtin "all") (c6g X.K):=by
 intro pins s σ H xs us Q I rs h
 obtain⟨v,S,bs,rfl,hd,q⟩:=h
 obtain⟨u,rfl,r⟩:=vals1 rs
 obtain⟨a,ys,rfl,_,hq,t⟩:=a2x hd
 cases r
 have ey:=bools_of_all t
 subst ey
 obtain⟨its,rv,pl,hz⟩:=I.list (SqL.of hq)
 have ei:=b1d rv
 subst ei
 have la:a < s.heap.objs.size:=lt_size pl.isList.choose_spec.1
 refine call_all_walk (wpAny_pyIter_list pl.isList ⟨s.heap.objs.size,_,_,_,_,_,fun i=>bs.getD i true,rfl,Walks.list (by simpa using I.ok.hd hc) s.heap.objs.size a (ne_of_lt la) (bs.map Value.bool).toArray,⟨⟨_,get?_push_size _ rfl,rfl,rfl⟩,pl.isList.push _⟩,fun i v s' Q' E' hP hQ=>?_,fun h' tk hk=>?_⟩)
 ·have hP:(bs.map Value.bool).toArray[i]? = some v:=hP
  rw [List.getElem?_toArray,getElem?_map] at hP
  obtain⟨b,hb,rfl⟩:=map_eq_some_iff.mp hP
  have e:bs.getD i true=b:=by rw [List.getD_eq_getElem?_getD,hb];rfl
  have hQ:Q' (bs.getD i true) s':=hQ
  rw [e] at hQ
  exact wpAny_truthy_bool hQ
 ·have e:((List.range (bs.map Value.bool).toArray.size).all fun i=>bs.getD i true)=bs.all id:=by
   rw [size_toArray,length_map,Bool.eq_iff_iff,all_eq_true,all_eq_true]
   constructor
   ·intro h b hb
    obtain⟨i,hi,rfl⟩:=List.getElem_of_mem hb
    have:=h i (List.mem_range.mpr hi)
    rw [List.getD_eq_getElem?_getD,getElem?_eq_getElem hi] at this
    exact this
   ·intro h i hi
    have hi':=List.mem_range.mp hi
    rw [List.getD_eq_getElem?_getD,getElem?_eq_getElem hi']
    exact h _ (getElem_mem hi')
  rw [e]
  refine⟨.bl _,H,I.kept fun b o e=>hk b o ?_ (get?_push_of_some _ e),rfl,q⟩
  rw [mem_singleton]
  exact ne_of_lt (lt_size e)
end
noncomputable def a6i:List PyData->Option (List Bool)
 | []=>some []
 | .bool b :: r=>(a6i r).map (b :: ·)
 | _ :: _=>none
theorem b2v:∀ bs:List Bool,a6i (bs.map .bool)=some bs
 | []=>rfl
 | x :: r=>by show(a6i (r.map .bool)).map (x :: ·)=_;rw [b2v r];rfl
theorem b1e:∀ {xs:List PyData} {bs:List Bool},a6i xs=some bs->xs=bs.map .bool
 | [],bs,h=>by cases h;rfl
 | .bool x :: r,bs,h=>by
  have h':(a6i r).map (x :: ·)=some bs:=h
  obtain⟨qs,h1,rfl⟩:=map_eq_some_iff.mp h'
  rw [b1e h1];rfl
noncomputable def b8w:FC:=fun ds=>match ds with
 | [.list xs]=>(a6i xs).map fun bs=>.bool (bs.all id)
 | _=>none
theorem c4n(bs:List Bool):b8w [.list (bs.map .bool)]=some (.bool (bs.all id)):=by
 show(a6i (bs.map .bool)).map _=_
 rw [b2v];rfl
theorem c8x{K:W.Frag}:AdC K (c6g K) b8w:=by
 intro S H vs ds z Q f h e k
 unfold b8w at e
 split at e
 ·rename_i xs
  obtain⟨bs,q1,rfl⟩:=map_eq_some_iff.mp e
  obtain⟨v,rfl,h1⟩:=h.one
  have e1:=b1e q1
  subst e1
  exact⟨v,Any,bs,rfl,h1.any,k _ _ (Same.refl _) (a1j _)⟩
 ·cases e
end L2
end
section
namespace L2
open PySem PySem.Spec PyProof.Rows
section
variable{X:Cx}
end
end L2
end
section
namespace L2
open PySem PySem.Spec PyProof.Rows
section
variable{X:Cx}
end
end L2
end
section
namespace L2
open PySem PySem.Spec PyProof.Rows
structure PinK(K:W.Frag)(c:Rc)(p:Addr)(ν:List (Key × V))(i:Nat)(O:Own)(ρ:Rho)(σ:St)(H:Hp):Prop where
 rel:Rel K (c.reb O p H) O ρ σ H
 at_:H p=some (.dK ν)
 slot:σ[i]? = some (some (.ref p))
 nul:ρ[i]? = some none
 bA:∀ j q,O j=some q->c.A q
 bS:∀ b o,¬ c.M b->c.H0 b=some o->H b=some o
 bK:∀ b,c.H0 b ≠ none->H b ≠ none
 bM:∀ q,c.M q->∃ vs,H q=some (.lst vs)
 am:∀ q,c.A q->c.M q ∨ c.H0 q=none
 frs:∀ q,c.H0 q=none->c.S q
 fr0:c.H0 p=none
 np:¬ c.P p
section
variable{K:W.Frag}{c:Rc}{O O1:Own}{ρ ρ1:Rho}{σ σ1:St}{H H1 H2:Hp}{p:Addr}{ν μ:List (Key × V)}{i:Nat}
end
section
variable{K:W.Frag}
end
section
variable{X:Cx}{iter kE vE tg:Expr}{rest:List Stmt}{di:TDI}{dg:TDG}{dk dv:TDE}{du:TDS}{x y z:Str}{pos p1 p2 p3 p4 p5 p6 p7 p8 p9 p10 p11 p12 p13:Pos}
end
section
variable{X:Cx}
end
end L2
end
section
namespace L2
open PySem PySem.Spec PyProof.Rows
open AutoSeq1 (wpAny_loadPart')
section
variable{X:Cx}
end
section
variable{K:W.Frag}
end
section
variable{X:Cx}{e:Expr}{de:TDE}{pos:Pos}
end
end L2
end
section
namespace L2
open PySem PySem.Spec PyProof.Rows
section
variable{X:Cx}
open Classical in
end
end L2
end
section
namespace L2
open PySem PySem.Spec PyProof.Rows
section
variable{X:Cx}{pins:List (Addr × Obj)}{σ:List (Option V)}{H:Hp}{s:Shared}
end
end L2
end
section
namespace L2
open PySem PySem.Spec PyProof.Rows
section
variable{fs:List Bool}{y:PyData}{i n:Nat}{ys:List DV}{ρ:Rho}{QLs:List L->Rho->Prop}
theorem c8y:pass (false :: fs) (.d y :: ys) ρ QLs=fzL ρ (.d y) fun l ρ1=>pass fs ys ρ1 fun ls ρ2=>QLs (l :: ls) ρ2:=rfl
theorem c8z:pass (false :: fs) (.sl i :: ys) ρ QLs=fzL ρ (.sl i) fun l ρ1=>pass fs ys ρ1 fun ls ρ2=>QLs (l :: ls) ρ2:=rfl
theorem c9a:flOf n [] []=[]:=rfl
theorem c9b:flOf n (false :: fs) (.d y :: ys)=flOf (n + 1) fs ys:=rfl
theorem c9c:flOf n (false :: fs) (.sl i :: ys)=flOf (n + 1) fs ys:=rfl
end
end L2
end
section
namespace L2
open PySem PySem.Spec PyProof.Rows
section
open PySem.SeqAt PySem.MeetsSeq
variable{A:Around}{s:Shared}
end
section
variable{X:Cx}
open Classical in
end
section
variable{X:Cx}
def c6h(K:W.Frag):R2:=fun x y H Q=>∃ S S' d p,∃ (ds:List PyData) (xs:List V),AtD K H S d x/\y=.ref p/\SqL K H p xs/\a0a K H S' ds xs/\SeqAt.shaped d=true/\(∀ e ∈ ds,SeqAt.shaped e=true)/\Q (.bl (!ds.any fun e=>PyData.eqv e d)) H
open Classical in
theorem c9d(hu:X.A.units + 65 < cLine):OpR X (compareOp .NotIn) (c6h X.K):=by
 intro pins s σ H x y v u Q I rx ry h
 obtain⟨S,S',d,p,ds,xs,hd,rfl,hq,ht,sd,sds,q⟩:=h
 cases ry
 obtain⟨bs,rb⟩:=AtD.reads I d x v hd rx
 obtain⟨its,r,pl,hz⟩:=I.list hq
 have hl1:its.length=ds.length:=by rw [← r.length,ht.length]
 have at_:∀ i (hi:i < its.length) (hi2:i < ds.length),∃ as,Reads s.heap its[i] ds[i] as:=fun i hi hi2=>by
  obtain⟨xv,e1,hdi⟩:=ht.get (i:=i) (d:=ds[i]) (getElem?_eq_getElem hi2)
  obtain⟨uv,e2,rv⟩:=r.get e1
  rw [getElem?_eq_getElem hi] at e2
  cases e2
  exact AtD.reads I _ _ _ hdi rv
 let f:Value->Bool:=fun w=>decide (∃ e as,Reads s.heap w e as/\e ∈ ds/\PyData.eqv e d=true)
 have fv:∀ i (hi:i < its.length) (hi2:i < ds.length),f its[i]=PyData.eqv ds[i] d:=fun i hi hi2=>by
  obtain⟨as,ra⟩:=at_ i hi hi2
  cases hq:PyData.eqv ds[i] d with
  | true=>exact decide_eq_true ⟨_,as,ra,getElem_mem hi2,hq⟩
  | false =>
   refine decide_eq_false ?_
   rintro⟨e,as',ra',hm,he⟩
   have e1:=SeqAt.Reads.unique ds[i] _ _ _ _ (SeqAt.canLay_of_shaped (sds _ (getElem_mem hi2))) ra ra'
   rw [← e1,hq] at he
   cases he
 refine SeqAt.notIn_listAt f pl.isList (fun w hw=>?_) ⟨.bl _,H,I,rfl,?_⟩
 ·obtain⟨i,hi,rfl⟩:=List.getElem_of_mem (show w ∈ its by simpa using hw)
  obtain⟨as,ra⟩:=at_ i hi (by omega)
  have s1:=sds _ (getElem_mem (show i < ds.length by omega))
  rw [fv i hi (by omega)]
  exact SeqAt.eqAt_reads _ d X.A.in1 s _ v as bs ra rb (SeqAt.canLay_of_shaped s1) (SeqAt.canLay_of_shaped sd) (SeqAt.room_of_shaped s1 (by show X.A.units + 1 + 64 < cLine;omega))
 ·have e:its.toArray.any f=ds.any fun e=>PyData.eqv e d:=by
   rw [List.any_toArray,Bool.eq_iff_iff,List.any_eq_true,List.any_eq_true]
   constructor
   ·rintro⟨w,hw,hf⟩
    obtain⟨i,hi,rfl⟩:=List.getElem_of_mem hw
    rw [fv i hi (by omega)] at hf
    exact⟨_,getElem_mem (by omega),hf⟩
   ·rintro⟨w,hw,hf⟩
    obtain⟨i,hi,rfl⟩:=List.getElem_of_mem hw
    rw [← fv i (by omega) hi] at hf
    exact⟨_,getElem_mem (by omega),hf⟩
  rw [e]
  exact q
end
noncomputable def b8x:F2:=fun x y=>match y with
 | .list ds=>if (SeqAt.shaped x && ds.all SeqAt.shaped)=true then some (.bool (!ds.any fun e=>PyData.eqv e x)) else none
 | _=>none
theorem c4o{x:PyData}{ds:List PyData}(h1:SeqAt.shaped x=true)(h2:∀ e ∈ ds,SeqAt.shaped e=true):b8x x (.list ds)=some (.bool (!ds.any fun e=>PyData.eqv e x)):=if_pos (by rw [h1,Bool.true_and];exact all_eq_true.mpr h2)
theorem c9e{K:W.Frag}:AdR K (c6h K) b8x:=by
 intro S H x y dx dy z Q f hx hy e k
 unfold b8x at e
 split at e
 ·rename_i ds
  split at e
  ·rename_i hc
   cases e
   obtain⟨h1,h2⟩:=Bool.and_eq_true_iff.mp hc
   obtain⟨a,vs,rfl,h3,h4⟩:=hy.list
   exact⟨Any,S,dx,a,ds,vs,hx.any,rfl,SqL.of h3,h4,h1,all_eq_true.mp h2,k _ _ (Same.refl _) (a1j _)⟩
  ·cases e
 ·cases e
section
variable{X:Cx}
end
section
variable{X:Cx}
end
section
variable{K:W.Frag}
theorem b0d{H:Hp}{S:Addr->Prop}:∀ {ss:List Str} {xs:List V},a0a K H S (ss.map .str) xs->xs=ss.map V.str
 | [],xs,h=>by rw [h.unnil];rfl
 | n :: r,xs,h=>by
  obtain⟨v,vr,rfl,hd,t⟩:=h.uncons
  rw [a6y hd,b0d t];rfl
variable{X:Cx}{e1:Expr}{daa:TDA}{pos:Pos}
variable{d1:TDE}{da:TDA}{ρ:Rho}{Q:DV->Rho->Prop}
end
end L2
end
section
namespace L2
open PySem PySem.Spec PyProof.Rows
def rTin(neg:Bool):R2:=fun x y H Q=>∃ a b:Str,x=.str a/\y=.str b/\Q (.bl (if neg then !Txt.contains b a else Txt.contains b a)) H
noncomputable def fTin(neg:Bool):F2:=fun dx dy=>match dx,dy with
 | .str a,.str b=>some (.bool (if neg then !Txt.contains b a else Txt.contains b a))
 | _,_=>none
section
variable{X:Cx}{K:W.Frag}
theorem d3s:OpR X (compareOp .In) (rTin false):=by
 intro pins s σ H x y v u Q I rx ry h
 obtain⟨a,b,rfl,rfl,q⟩:=h
 obtain⟨t,rfl⟩:=rx
 obtain⟨t',rfl⟩:=ry
 exact SB.contains ⟨.bl _,H,I,rfl,q⟩
theorem d3t{neg:Bool}:AdR K (rTin neg) (fTin neg):=by
 intro S H x y dx dy z Q f hx hy e k
 unfold fTin at e
 split at e
 ·cases e
  exact⟨_,_,hx.str,hy.str,k _ _ (Same.refl _) (a1j _)⟩
 ·cases e
noncomputable def b3r(z:Str):FC:=fun ds=>match ds with
 | [.list xs]=>(a7u xs).bind fun ss=>if z.length <= 16/\(ss.map (·.length)).sum + ss.length <= 1048576 then some (.str (Txt.join z ss)) else none
 | _=>none
theorem a3l{z:Str}{ss:List Str}(h1:z.length <= 16)(h2:(ss.map (·.length)).sum + ss.length <= 1048576):b3r z [.list (ss.map .str)]=some (.str (Txt.join z ss)):=by
 show((a7u (ss.map .str)).bind _)=_
 rw [b5a]
 exact if_pos ⟨h1,h2⟩
def b8y(dd:TDE)(da:TDA):TDE:=fun ρ Q=>dd ρ fun x ρ1=>need (a0i ρ1 x) fun dx=>∃ z:Str,dx=.str z/\da ρ1 fun ys ρ2=>need (a1w ρ2 ys) fun ds=>need (b3r z ds) fun r=>Q (.d r) ρ2
theorem c9f{td:TE}{ta:TA}{dd:TDE}{da:TDA}(hd:AdE K td dd)(ha:AdA K ta da):AdE K (tBM K "str" (rJoin K) td ta) (b8y dd da):=by
 intro c O ρ σ H Qd Q R h k
 refine hd c O ρ σ H _ _ R h fun x ρ1 O1 v H1 h1 R1 P1 a1=>?_
 obtain⟨dx,e1,hn6⟩:=ne (h1)
 obtain⟨z,rfl,h1⟩:=hn6
 have ev:=(R1.top a1 e1).str
 subst ev
 refine⟨rfl,ha c O1 ρ1 σ H1 _ _ R1 h1 fun ys ρ2 O2 vs H2 h2 R2 P2 a2=>?_⟩
 obtain⟨ds,e3,hn9⟩:=ne (h2)
 obtain⟨r,e4,h2⟩:=ne (hn9)
 have t2:=R2.tops a2 e3
 unfold b3r at e4
 split at e4
 ·rename_i xs
  obtain⟨ss,q1,q2⟩:=Option.bind_eq_some_iff.mp e4
  split at q2
  ·rename_i hl
   cases q2
   have e5:=b2t q1
   subst e5
   obtain⟨v1,rfl,h7⟩:=t2.one
   obtain⟨b,vs1,rfl,hb,hall⟩:=h7.list
   have e6:=b0d hall
   subst e6
   exact⟨z,b,ss,rfl,rfl,SqL.of hb,hl.1,hl.2,k _ _ _ _ _ h2 R2 (P1.trans P2) (show AtD K H2 (live c O2) (.str _) (.str _) from a3j _)⟩
  ·cases q2
 ·cases e4
noncomputable def b3s:FC:=fun ds=>match ds with
 | [.int i]=>@ite _ (i.natAbs.log2 < 1920) (Classical.propDecidable _) (some (.str (toString i))) none
 | _=>none
theorem c9g{i:Int}(h:i.natAbs.log2 < 1920):b3s [.int i]=some (.str (toString i)):=@if_pos _ (Classical.propDecidable _) h _ _ _
theorem a3m:AdC K (fun xs H Q=>∃ i,xs=[.int i]/\i.natAbs.log2 < 1920/\Q (.str (toString i)) H) b3s:=by
 intro S H vs ds z Q f h e k
 unfold b3s at e
 split at e
 ·rename_i i
  by_cases hz:i.natAbs.log2 < 1920
  ·rw [@if_pos _ (Classical.propDecidable _) hz] at e
   cases e
   obtain⟨v,rfl,h1⟩:=h.one
   rw [h1.int]
   exact⟨i,rfl,hz,k _ _ (Same.refl _) (a3j _)⟩
  ·rw [@if_neg _ (Classical.propDecidable _) hz] at e
   cases e
 ·cases e
theorem a9k{o e1:Expr}{dd:TDE}{daa:TDA}{p2 pos:Pos}(ho:DE X o dd)(ha:DA X [e1] daa)
  (hbase:attributeBase o "join" X.env (eval o X.env)=eval o X.env:=by rfl)
  (hfew:((backTo pos (starEach [e1] X.env)).all (fun x=>!x.1) && (backToKw pos (keywordEach [] X.env)).all (fun x=>x.1.isSome) && decide ([e1].length + ([]:List Keyword).length + (if ([]:List Keyword).isEmpty then 0 else 1) < 30))=true:=by rfl)
  (hline:(p2.endLine == pos.line)=true:=by rfl) (hs:starEach [e1] X.env=(false,eval e1 X.env) :: starEach [] X.env:=by rfl) (hpl:(backTo pos (starEach [] X.env)).any (·.1)=false:=by rfl):DE X (.Call (.Attribute o "join" p2) [e1] [] pos) (b8y dd daa):=by
 obtain⟨_,pd,ad⟩:=ho
 obtain⟨_,pa,aa⟩:=ha
 exact⟨_,b0p PySem.F.plainAttrs_str PySem.F.slot_str_join PySem.F.type_str_join c8v pd pa hbase hfew hline hs hpl,c9f ad aa⟩
theorem c9h{x:Str}{i:Str}{pos:Pos}(hg:Gl X x)(hm:∃ t,X.mg x=some (.str i t)) (hd:(x == ("__debug__" : Str))=false:=by decide):DE X (.Name x pos) (dC (.str i)):=by
 obtain⟨t,hm⟩:=hm
 exact⟨_,a4f hg hm (v:=.str i) ⟨t,rfl⟩ hd,ad_c fun _ _=>a3j i⟩
variable{ρ:Rho}{d1:TDE}{da:TDA}
theorem c9i{Q:DV->Rho->Prop}:b8y d1 da ρ Q=d1 ρ fun x ρ1=>need (a0i ρ1 x) fun dx=>∃ z:Str,dx=.str z/\da ρ1 fun ys ρ2=>need (a1w ρ2 ys) fun ds=>need (b3r z ds) fun r=>Q (.d r) ρ2:=rfl
end
theorem occ_none{s sub:Str}{lo hi limit:Nat}(h:∀ i,Builtin.Str.subAt s sub i=false):Builtin.Str.occurrences s sub lo hi limit=[]:=by
 unfold Builtin.Str.occurrences
 simp only [h,Bool.and_false,Bool.false_eq_true,if_false]
 have key:∀ (l:List Nat) (p:Array Nat × Nat),List.foldl (fun(b:Array Nat × Nat) (_:Nat)=>(b.fst,b.snd)) p l=p:=by
  intro l
  induction l with
  | nil=>intro p;rfl
  | cons a l ih=>intro p;exact ih p
 simp [key]
theorem c1t{c:Nat} (h:Txt.contains "0123456789" ⟨#[c]⟩=true):48 <= c/\c <= 57:=by
 have e:(Str.ofString "0123456789").cps = #[48,49,50,51,52,53,54,55,56,57]:=by decide +kernel
 by_cases hc:48 <= c/\c <= 57
 ·exact hc
 exfalso
 have hs:∀ i,Builtin.Str.subAt "0123456789" ⟨#[c]⟩ i=false:=fun i=>by
  unfold Builtin.Str.subAt
  rw [e]
  show(Array.extract #[48,49,50,51,52,53,54,55,56,57] i (i + 1) == #[c])=false
  match i with
  | 0 | 1 | 2 | 3 | 4 | 5 | 6 | 7 | 8 | 9=>simp;omega
  | i + 10=>simp
 unfold Txt.contains at h
 rw [occ_none hs] at h
 cases h
end L2
end
section
namespace L2
open PySem PySem.Spec PyProof.Rows
theorem b8z{pos:Pos}{a b:Int}{c v:Value}(l:List Value)(h:TriplesOk l)(hv:codeAmong pos (l ++ [rawInt a,rawInt b,c])=some v):codeAmong pos l=some v ∨ v=c:=by
 fun_induction TriplesOk l with
 | case1 =>
  simp only [List.nil_append,codeAmong,rawInt] at hv
  split at hv
  ·exact .inr (Option.some.inj hv).symm
  ·cases hv
 | case2 a t b u x rest ih =>
  simp only [List.cons_append,codeAmong] at hv ⊢
  split at hv
  ·rename_i hc;rw [if_pos hc];exact .inl hv
  ·rename_i hc;rw [if_neg hc];exact ih h hv
 | case3 l h1 h2=>exact h.elim
abbrev a7g(q:Str)(params:Arguments)(body:Expr)(scope:Scope)(pm:Value)(c:Addr)(ct:Value):Obj:=PySem.W.kla_obj "<lambda>" q params body scope [] pm c ct
abbrev c6i(q:Str)(params:Arguments)(body:Expr)(scope:Scope)(pm:Value)(c:Addr)(ct:Value):FuncData:=PySem.W.kla_fn "<lambda>" q params body scope [] pm (.ref c) ct
def Lam(H:Hp)(f:Addr)(q:Str)(params:Arguments)(body:Expr)(scope:Scope)(pm:Value)(c:Addr)(ct:Value):Prop:=
 H f=some (.frz (a7g q params body scope pm c ct) (.own f))/\∃ oc vs t,H c=some (.frz oc (.own c))/\oc.data=.fields vs/\vs[1]? = some (.str q t)
section
variable{H H':Hp}{f c:Addr}{q:Str}{params:Arguments}{body:Expr}{scope:Scope}{pm ct:Value}
theorem Lam.keep{S:Addr->Prop}(L:Lam H f q params body scope pm c ct)(k:Keep S H H'):Lam H' f q params body scope pm c ct:=
 by obtain⟨h,oc,vs,t,e,r⟩:=L;exact⟨k.2.1 _ _ _ h,oc,vs,t,k.2.1 _ _ _ e,r⟩
theorem d3u{CX:CXT}{P:Program}{w:World}{K:W.Frag}{mg:Str->Option Value}{base:Heap}{k:Nat}{N ps:List Str}{sp:Sp}(S:FnScope N ps scope)(len:∀ vs H Q E,sp vs H Q E->vs.length=ps.length)
  (hbody:∀ (A:Around) (outer:List Env) (s:Shared) (H:Hp) (vs:List V) (Q:VK) (E:XK),Room k (A.deeper (envOfC q scope s.heap.objs.size f (.ref c)))->sp vs H Q E ->
   ∃ t,PE (cxOf CX P w K mg base N q scope f (.ref c) A outer s H E) body t/\t (start N vs) H Q) :
  FnOk P w K mg base CX (k + 1) f (c6i q params body scope pm c ct) ps (fun vs H Q E=>Lam H f q params body scope pm c ct/\sp vs H Q E):=by
 refine⟨fun vs H Q E h=>len _ _ _ _ h.2,fun A outer s H args us vs Q E hr e0 hb r hsp=>?_⟩
 obtain⟨⟨hf,oc,vc,tc,hc,hd,hv⟩,hsp⟩:=hsp
 have hl:=len _ _ _ _ hsp
 have lim:s.heap.NoLimit:=e0.mod.nolimit.keeps fun b o e=>(e0.bs b o e).1
 have ef:s.heap.get? f=some (a7g q params body scope pm c ct):=(e0.hok f _ hf).1
 have ec:s.heap.get? c=some oc:=(e0.hok c _ hc).1
 have hkind:∀ y ∈ ps.zip us,scope.names.lookup y.1=some .local ∨ (scope.names.lookup y.1=some .cell/\((cellsFrom (s.heap.objs.size + 1) scope.names []).lookup y.1).isSome=true):=fun⟨n,v⟩ hy=>by
  rcases S.par n (of_mem_zip hy).1 with q | q
  ·exact .inl q
  ·exact .inr ⟨q,PySem.W.cellsFrom_some _ _ _ (.inl q)⟩
 refine PySem.W.kla_callFunE hr.depth ef rfl S.co S.gen rfl ⟨c,oc,vc,tc,rfl,ec,hd,hv⟩ (hb _ _ _ _ ?_)
 refine wpAny_newFunctionEnv_cells S.kind hkind fun env he s1 x=>?_
 subst he
 refine⟨lim.keeps x.toInCall.keep,PySem.W.kla_codeExpr ?_⟩
 obtain⟨t,ht,hq⟩:=hbody A outer s H vs Q E (hr.deeper _) hsp
 have I:Inv (cxOf CX P w K mg base N q scope f (.ref c) A outer s H E) [] (start N vs) H s1:=b2k S hr.hd e0 hl r x
 refine wpAny_mono (ht [] s1 (start N vs) H _ I hq) (fun u s' hs=>?_) fun e s' hs=>hs
 obtain⟨v,H',J,rv,q⟩:=hs
 exact⟨v,H',J.os,J.bare,J.base,J.hok,rv,q⟩
end
section
variable{X:Cx}{x:Str}{i k:Nat}{f:Addr}{o:Obj}{fd:FuncData}{ps:List Str}{sp:Sp}{CX:CXT}{E:XK}{e:Expr}{es:List Expr}{t:TA}{p pos:Pos}
def d3v(i:Nat)(f:Addr)(o:Obj)(sp:Sp)(E:XK)(t:TA):TE:=fun σ H Q=>σ[i]? = some (some (.ref f))/\t σ H fun vs H1=>H1 f=some (.frz o (.own f))/\sp vs H1 Q E
theorem c4p(F:FnOk X.prog X.w X.K X.mg X.base CX k f fd ps sp)(hr:Room k X.A)(hN:X.N[i]? = some x)(hb:Binds X.K fd ps [])(hx:a3t CX X E)(hfo:∃ g,o.data=.func g)(ha:PA X (e :: es) t)
  (hv:Vis X.env.scope x:=by first | exact Or.inl rfl | exact Or.inr (Or.inl rfl) | exact Or.inr (Or.inr rfl)) (hd:(x == ("__debug__" : Str))=false:=by decide) (hcd:(x == ("__classdict__" : Str))=false:=by decide)
  (he:starEach (e :: es) X.env=(false,eval e X.env) :: starEach es X.env:=by rfl) (hpl:(backTo pos (starEach es X.env)).any (·.1)=false:=by rfl) :
  PE X (.Call (.Name x p) (e :: es) [] pos) (d3v i f o sp E t):=by
 intro pins s σ H Q I h
 obtain⟨e1,h⟩:=h
 obtain⟨m,hn,hl⟩:=I.loc
 obtain⟨u,r,l⟩:=hl i x (.ref f) hN e1 hv
 obtain rfl:u=Value.ref f:=r
 obtain⟨g,hg⟩:=hfo
 have fin:wpAny (model X.prog X.w) X.A (callWith pos (.ref f) [] (backTo pos (starEach (e :: es) X.env)) (backToKw pos (keywordEach [] X.env))) (EP X pins σ Q) X.xe s:=by
  have h2:wpAny (model X.prog X.w) X.A (spliced (backTo pos (starEach (e :: es) X.env))) (fun vs s₁=>s₁.heap.get? f=some o/\wpAny (model X.prog X.w) X.A (call (.ref f) ([] ++ vs)) (EP X pins σ Q) X.xe s₁) X.xe s:=
   thn (ha pos pins s σ H _ I h) fun us s1 ⟨vs,H1,I1,r,q⟩=>⟨(I1.hok f _ q.1).1,b0n F hr hb .nil hx I1 r (by rw [append_nil];exact q.2)⟩
  rw [he] at h2 ⊢
  refine PySem.W.callWith_of (P:=fun h=>h.get? f=some o) (by show((false || (backTo pos (starEach es X.env)).any (·.1)) || false)=false;rw [hpl];rfl) (fun h q=>⟨.frame,.inl rfl,?_⟩) (Calls.evalArgs_plain h2)
  obtain⟨oc,od,odt,osl⟩:=o
  obtain rfl:odt=.func g:=hg
  exact(PySem.W.Looks.ld (part:=none) q).andThen .now
 refine wpAny_Call_Name_kw ?_
 rcases l with⟨hk,hm⟩ | ⟨hk,c,hc,hcell⟩
 ·exact wpAny_Name (wpAny_loadName_local I.ok.kind hk hn hm fin) hd
 ·rcases hk with hk | hk
  ·exact wpAny_Name (wpAny_loadName_cell I.ok.kind hk hc hcell fin) hd
  ·exact wpAny_Name (wpAny_loadName_free I.ok.kind hk hc hcell fin hcd) hd
end
def BMain(mg:Str->Option Value)(base:Heap):Prop:=∃ bm ob,mg "__builtins__" = some (.ref bm)/\bm ≠ builtinsNs/\base.get? bm=some ob/\ob.cls=.type "module" /\ ob.dict=some builtinsNs/\ob.data=.plain
def tLam(P:Addr)(q:Str)(params:Arguments)(body:Expr)(scope:Scope)(pm:Value):TE:=fun _ H Q=>H P=some (a7q q)/\∀ f c ct H',Same H H'->H f=none->Lam H' f q params body scope pm c ct->Q (.ref f) H'
section
variable{X:Cx}{c P:Addr}{q:Str}{params:Arguments}{body:Expr}{scope:Scope}{pos:Pos}
theorem a8p(bm:BMain X.mg X.base)(hcd:X.env.code=.ref c)(hC:PySem.W.codeHdIn X.K c P=true) (hq:X.env.qual ++ "<lambda>" = q) (hdef:defaultsOf params X.env=([],[]):=by rfl) (hcl:closureFor scope X.env=pure []:=by rfl) :
  PE X (.Lambda params body scope pos) (tLam P q params body scope ((X.mg "__name__").getD .none)):=by
 intro pins s σ H Q I h
 obtain⟨hP,h⟩:=h
 subst hq
 refine PySem.W.kla_eval hdef ?_
 obtain⟨qs,e1,e2,e3⟩:∃ qs,TabOk H s.heap P #[.str (X.env.qual ++ "<lambda>") 0] qs:=(I.hok P _ hP).1
 have C:=PySem.W.codeHd_of_K I.kIn hC
 have hg:s.heap.Ns mainGlobals X.mg:=I.mod.glob.keeps I.bk
 obtain⟨b,ob,b1,b2,b3,b4,b5,b6⟩:=bm
 have bh:=I.bk _ _ b3
 have hgP:mainGlobals ≠ P:=fun z=>by
  obtain⟨o,es,ep,e,hd,_⟩:=hg
  rw [z,e1] at e;cases e;cases hd
 have hbP:b ≠ P:=fun z=>by rw [z,e1] at bh;cases bh;cases b4
 have hbG:b ≠ mainGlobals:=fun z=>by
  obtain⟨o,es,ep,e,hd,_⟩:=hg
  rw [z,e] at bh;cases bh;rw [hd] at b6;cases b6
 have hB:s.heap.BuiltinsAt X.mg P:=⟨b,ob,b1,b2,hbG,hbP,bh,b4,b5,b6⟩
 cases hA:codeAmong pos qs.toList with
 | some v =>
  obtain⟨c',oc,vs,q,t,t',rfl,hps,hc',hd,hv⟩:=e3 pos v hA
  have eq1:q=X.env.qual ++ "<lambda>":=by
   have:=congrArg Array.toList hps
   simp only [List.cons.injEq,and_true] at this
   injection this with z1 _
   exact z1.symm
  subst eq1
  refine PySem.W.kla_makeFunctionHit (mg:=X.mg) hcl I.ok.glob hg hcd C e1 e2 hA hB fun ctv h' tk hk hsz=>?_
  have hn:H h'.objs.size=none:=I.hok.fresh hsz
  have I2:=I.laid (a:=h'.objs.size) (o:=.frz (a7g (X.env.qual ++ "<lambda>") params body scope ((X.mg "__name__").getD .none) c' ctv) (.own h'.objs.size)) (t':=tk) (h':=h'.push (a7g (X.env.qual ++ "<lambda>") params body scope ((X.mg "__name__").getD .none) c' ctv))
   (fun b o e=>get?_push_of_some _ (hk _ _ e)) hsz ⟨get?_push_size _ rfl,_,get?_push_size _ rfl⟩
  refine⟨.ref h'.objs.size,_,I2,rfl,h _ c' ctv _ (a0l hn _) hn ⟨a0c,oc,vs,t',?_,hd,hv⟩⟩
  rw [a0d (a0q hc' hn)];exact hc'
 | none =>
  refine PySem.W.kla_makeFunction (mg:=X.mg) hcl I.ok.glob hg hcd C e1 e2 hA hgP hB fun c' ctv h' tk hx hge hlt hrec htb=>?_
  obtain⟨c2,oc,vs,t,ec2,hoc,hd,hv⟩:=hrec
  cases ec2
  obtain⟨fo,hfo⟩:∃ fo,fo=a7g (X.env.qual ++ "<lambda>") params body scope ((X.mg "__name__").getD .none) c' ctv:=⟨_,rfl⟩
  show EP X pins σ Q (.ref h'.objs.size) { s with heap:=h'.push (a7g (X.env.qual ++ "<lambda>") params body scope ((X.mg "__name__").getD .none) c' ctv),toks:=tk }
  rw [← hfo]
  have hn1:H c'=none:=I.hok.fresh hge
  have hn2:H h'.objs.size=none:=I.hok.fresh (le_trans hge (le_of_lt hlt))
  have nfc:h'.objs.size ≠ c':=ne_of_gt hlt
  obtain⟨H',hH'⟩:∃ H',H'=upd (upd H c' (.frz oc (.own c'))) h'.objs.size (.frz fo (.own h'.objs.size)):=⟨_,rfl⟩
  have kp:∀ b o,b ≠ P->s.heap.get? b=some o->(h'.push fo).get? b=some o:=fun b o n e=>get?_push_of_some _ (hx b o n e)
  have nP:∀ b,H b=none->b ≠ P:=fun b n z=>by rw [z,hP] at n;cases n
  have sm:Same H H':=fun b o e=>by
   rw [hH',a0d (a0q e hn2),a0d (a0q e hn1)];exact e
  have pushP:(h'.push fo).get? P=some (PySem.W.tabObj (qs ++ #[rawInt pos.line,rawInt pos.col,.ref c'])):=get?_push_of_some _ htb
  have pushF:(h'.push fo).get? h'.objs.size=some fo:=get?_push_size _ (by rw [hfo];rfl)
  have H'c:H' c'=some (.frz oc (.own c')):=by rw [hH',a0d (Ne.symm nfc),a0c]
  have H'f:H' h'.objs.size=some (.frz fo (.own h'.objs.size)):=by rw [hH',a0c]
  have un:Un X.fs [] H H' s.heap (h'.push fo):={
   keep:=fun b o e n _ _=>kp b o (nP b n) e
   slot:=fun b o e n _ _=>⟨o.slots,kp b o (nP b n) e⟩
   free:=fun b o e n _=>by
    have lt:=lt_size e
    rw [hH',a0d (ne_of_lt (Nat.lt_trans (lt_of_lt_of_le lt hge) hlt)),a0d (ne_of_lt (lt_of_lt_of_le lt hge))];exact n
   there:=fun b o e _=>by
    by_cases z:b=P
    ·exact⟨_,by rw [z];exact pushP⟩
    ·exact⟨o,kp b o z e⟩
   tups:=fun b xs e=>sm _ _ e
   frzs:=fun b o u e=>sm _ _ e
   tbls:=fun b ps e=>⟨#[],by rw [sm _ _ e];simp⟩ }
  have hok:HOk X.prog X.w H' (h'.push fo):=fun b o e=>by
   by_cases z1:b=h'.objs.size
   ·subst z1
    rw [H'f] at e
    cases e
    exact⟨pushF,_,pushF⟩
   ·by_cases z2:b=c'
    ·subst z2
     rw [H'c] at e
     cases e
     exact⟨get?_push_of_some _ hoc,_,get?_push_of_some _ hoc⟩
    ·rw [hH',a0d z1,a0d z2] at e
     by_cases z3:b=P
     ·subst z3
      rw [hP] at e
      cases e
      refine⟨⟨_,pushP,?_,fun pos' v hv'=>?_⟩,_,pushP⟩
      ·rw [toList_append];exact TriplesOk_snoc _ _ _ _ e2
      ·rw [toList_append] at hv'
       rcases b8z _ e2 hv' with z | rfl
       ·obtain⟨c0,oc0,vs0,q0,t0,t0',y1,y2,y3,y4⟩:=e3 pos' v z
        exact⟨c0,oc0,vs0,q0,t0,t0',y1,y2,sm _ _ y3,y4⟩
       ·exact⟨c',oc,vs,_,_,t,rfl,rfl,H'c,hd,hv⟩
     ·refine(I.hok b o e).stay (fun b' u hb' e'=>kp b' u ?_ e') (fun b' e'=>sm _ _ e') (fun b' xs e'=>sm _ _ e') fun b' ob u e'=>sm _ _ e'
      rcases hb' with rfl | hb'
      ·exact z3
      ·rintro rfl
       rw [hP] at hb';cases hb'
  exact⟨.ref h'.objs.size,_,I.un un hok,rfl,h _ c' ctv _ sm hn2 ⟨by rw [H'f,hfo],oc,vs,t,H'c,hd,hv⟩⟩
end
end L2
end
section
namespace L2
open PySem PySem.Spec PyProof.Rows
theorem c1u{K:W.Frag}{c P:Addr}{q:Str}(h:(c,P,q) ∈ a6z K):∃ od vs sl,K.lookup c=some ⟨.type "code",od,.fields vs,sl⟩/\vs[11]? = some (.ref P):=by
 obtain⟨p,_,e⟩:=mem_filterMap.mp h
 unfold lamOf at e
 split at e
 ·split at e
  ·split at e
   ·split at e
    ·rename_i hk
     split at e
     ·rename_i hv
      cases e
      exact⟨_,_,_,hk,hv⟩
     ·cases e
    ·cases e
   ·cases e
  ·cases e
 ·cases e
theorem c1v{P:Program}{w:World}{K:W.Frag}{mg mb:Str->Option Value}{CX:CXT}{k:Nat}{fa a:Addr}{fd:FuncData}{x:Str}{sp:Sp}{s₁:Shared}{vs:List Value}{ns:List Int}{tl:List (Addr × Addr × Str)}
  (KX:K.In s₁.heap) (hns:s₁.heap.Ns mainGlobals mg) (hb:s₁.heap.Ns builtinsNs mb) (hbb:∀ x:Str,x ≠ "__name__" -> mb x=bootBuiltins x) (hlim:s₁.heap.NoLimit) (hg:s₁.gens = #[]) (hB:BMain mg s₁.heap)
  (ha:s₁.heap.get? a=some { cls:=.type "list",data:=.seq vs.toArray }) (hi:IntsAre vs ns) (hl:ns.length <= sizeLine) (hr:Room k callerA)
  (htl:a6z K=tl) (hT:∀ p ∈ tl,s₁.heap.get? p.2.1=some (PySem.W.tabObj #[])) (hU:tl.Pairwise fun p p'=>p.2.1 ≠ p'.2.1) (hN:tl.all (fun p=>(K.lookup p.2.1).isNone)=true)
  (F:∀ base:Heap,K.In base->base.Ns mainGlobals mg->BMain mg base->FnOk P w K mg base CX k fa fd [x] sp) (hbind:∀ (s:Shared) (u:Value),BindsTo s fd ⟨[u],[]⟩ [(x,u)])
  (hsp:∀ H:Hp,((∀ xs,H a ≠ some (.lst xs))/\TB K H)->SqL K H a (ns.map V.int)->sp [.ref a] H (fun v _=>v=.bl true) fun _ _ _=>False)
  (hCX:∀ H e s',CX [] H s₁ (fun _ _ _=>False) e s'->False) :
  codeAny (model P w) callerA (.call (.ref fa) ⟨[.ref a],[]⟩) (fun r s'=>r=.ok (.ret (.bool true))/\OldK s₁.heap s'.heap/\s'.os=s₁.os/\AllBare s'.gens) s₁:=by
 have rv:=b2m hi
 have lenV:=hi.length
 have Tn:∀ {q q':Addr × Addr × Str},q ∈ tl->q' ∈ tl->q.2.1=q'.2.1->q=q':=by
  clear hT hN htl
  induction tl with
  | nil=>intro q q' h;cases h
  | cons y r ih =>
   rw [List.pairwise_cons] at hU
   intro q q' h h' e
   rcases mem_cons.mp h with h1 | h1<;>rcases mem_cons.mp h' with h2 | h2
   ·rw [h1,h2]
   ·exact absurd (h1 ▸ e) (hU.1 _ h2)
   ·exact absurd (h2 ▸ e.symm) (hU.1 _ h1)
   ·exact ih hU.2 h1 h2 e
 obtain⟨Ht,hHt⟩:∃ Ht:Hp,Ht=fun b=>(tl.find? (fun p=>decide (p.2.1=b))).map fun p=>a7q p.2.2:=⟨_,rfl⟩
 have Ht1:∀ p ∈ tl,Ht p.2.1=some (a7q p.2.2):=fun p hp=>by
  rw [hHt]
  show(tl.find? _).map _=_
  cases e:tl.find? (fun q=>decide (q.2.1=p.2.1)) with
  | none=>rw [List.find?_eq_none] at e;exact absurd (decide_eq_true rfl) (e p hp)
  | some q =>
   have h1:=of_decide_eq_true (List.find?_some (p:=fun q:Addr × Addr × Str=>decide (q.2.1=p.2.1)) e)
   rw [Tn (List.mem_of_find?_eq_some e) hp h1];rfl
 have Ht2:∀ b u,Ht b=some u->∃ p ∈ tl,p.2.1=b/\u=a7q p.2.2:=fun b u e=>by
  rw [hHt] at e
  obtain⟨p,e1,e2⟩:=map_eq_some_iff.mp e
  exact⟨p,List.mem_of_find?_eq_some e1,of_decide_eq_true (List.find?_some (p:=fun q:Addr × Addr × Str=>decide (q.2.1=b)) e1),e2.symm⟩
 have aT:Ht a=none:=by
  cases q:Ht a with
  | none=>rfl
  | some u =>
   obtain⟨p,hp,e,_⟩:=Ht2 a u q
   have:=hT p hp
   rw [e,ha] at this
   cases this
 have core:∀ H:Hp,((∀ xs,H a ≠ some (.lst xs))/\TB K H)->SqL K H a (ns.map V.int)->HOk P w H s₁.heap->(∀ b u,H b=some u->(b=a/\∃ o xs,u=.frz o (.lst xs)) ∨ Ht b=some u)->(H a ≠ none->K.lookup a=none) ->
   codeAny (model P w) callerA (.call (.ref fa) ⟨[.ref a],[]⟩) (fun r s'=>r=.ok (.ret (.bool true))/\OldK s₁.heap s'.heap/\s'.os=s₁.os/\AllBare s'.gens) s₁:=by
  intro H hO hS hok hA hK
  have base_of:∀ {b:Addr} {o:Obj},s₁.heap.get? b=some o->H b=none->(hidT s₁.heap H).get? b=some o:=fun e n=>c2p e n
  have noC:∀ {b:Addr} {o:Obj},s₁.heap.get? b=some o->(o.cls ≠ .none)->(o.cls ≠ .type "list")->H b=none:=fun{b o} e c1 c2=>by
   cases q:H b with
   | none=>rfl
   | some u =>
    rcases hA b u q with⟨e',_⟩ | e'
    ·subst e'
     rw [ha] at e;cases e
     exact absurd rfl c2
    ·obtain⟨p,hp,e2,_⟩:=Ht2 b u e'
     have:=hT p hp
     rw [e2,e] at this
     cases this
     exact absurd rfl c1
  have noA:∀ {b:Addr} {o:Obj} {es:Array DictEntry} {ep:Nat},s₁.heap.get? b=some o->o.data=.dict es ep->H b=none:=fun{b o es ep} e d=>by
   cases q:H b with
   | none=>rfl
   | some u =>
    rcases hA b u q with⟨e',_⟩ | e'
    ·subst e'
     rw [ha] at e;cases e
     have d':Data.seq vs.toArray _=Data.dict es ep:=d
     cases d'
    ·obtain⟨p,hp,e2,_⟩:=Ht2 b u e'
     have:=hT p hp
     rw [e2,e] at this
     cases this
     cases d
  have nsK:∀ {b:Addr} {m:Str->Option Value},s₁.heap.Ns b m->(hidT s₁.heap H).Ns b m:=fun{b m} ⟨o,es,ep,e,d,r⟩=>⟨o,es,ep,base_of e (noA e d),d,r⟩
  have hKb:K.In (hidT s₁.heap H):=fun b o e=>base_of (KX b o e) (by
   cases q:H b with
   | none=>rfl
   | some u =>
    rcases hA b u q with⟨e',_⟩ | e'
    ·subst e'
     rw [hK (by rw [q];simp)] at e;cases e
    ·obtain⟨p,hp,e2,_⟩:=Ht2 b u e'
     have:=all_eq_true.mp hN p hp
     rw [e2,e] at this
     cases this)
  have hM:Mod K mg (hidT s₁.heap H):=⟨hKb,nsK hns,⟨mb,nsK hb,hbb⟩,let ⟨mc,h1,h2⟩:=hlim;⟨mc,nsK h1,h2⟩⟩
  have hB':BMain mg (hidT s₁.heap H):=by obtain⟨bm,ob,h1,h2,h3,h4,h5⟩:=hB;exact⟨bm,ob,h1,h2,base_of h3 (noC h3 (by rw [h4];exact fun z=>nomatch z) (by rw [h4];decide)),h4,h5⟩
  have e0:Env0 P w K mg (hidT s₁.heap H) callerA [] s₁ H:=⟨rfl,hM,fun b o e=>c6l e,Nat.le_of_eq (b9x _ _),trivial,fun b hb=>absurd (show b ∈ ([]:List Addr) from hb) (by simp),hok,.of_eq hg⟩
  refine codeAny_mono ((F _ hKb (nsK hns) hB').run callerA [] s₁ H ⟨[.ref a],[]⟩ [.ref a] [.ref a] _ _ hr e0 (hbind s₁ (.ref a)) (.cons rfl .nil) (hsp H hO hS)) fun r s' h=>?_
  cases r with
  | error e=>exact(hCX H e s' h).elim
  | ok fl =>
   cases fl with
   | next=>exact False.elim h
   | brk=>exact False.elim h
   | cont=>exact False.elim h
   | ret u =>
    obtain⟨v,H',os,bare,un,hok',r',q⟩:=h
    have q':v=.bl true:=q
    subst q'
    obtain rfl:u=Value.bool true:=r'
    refine⟨rfl,⟨fun b o e=>?_,fun b o e=>un.there b o e (by simp)⟩,os,bare⟩
    cases q:H b with
    | none=>exact .inl (un.keep b o e q (by intro z;exact absurd (show b ∈ ([]:List Addr) from z) (by simp)) (by simp))
    | some u =>
     rcases hA b u q with⟨_,ob,xs,rfl⟩ | e'
     ·have z2:=un.frzs b ob _ q
      obtain⟨e1,_⟩:=hok b _ q
      obtain⟨e2,_⟩:=hok' b _ z2
      have e1:s₁.heap.get? b=some ob:=e1
      rw [e] at e1;cases e1
      exact .inl e2
     ·obtain⟨p,hp,e2,rfl⟩:=Ht2 b u e'
      have z2:=un.frzs b _ _ q
      obtain⟨⟨qs,y1,_⟩,_⟩:=hok' b _ z2
      have e3:=hT p hp
      rw [e2,e] at e3
      cases e3
      obtain⟨od,cs,sl,k1,k2⟩:=c1u (show(p.1,p.2.1,p.2.2) ∈ a6z K by rw [htl];exact hp)
      exact .inr (.inl ⟨⟨p.1,_,cs,KX _ _ k1,rfl,rfl,by rw [← e2];exact k2⟩,rfl,#[],qs,rfl,by rw [y1];simp⟩)
 have tbO:∀ H:Hp,(∀ b u,Ht b=some u->H b=some u)->TB K H:=fun H h p hp=>by
  rw [htl] at hp
  exact h _ _ (Ht1 p hp)
 have tabok:∀ (H:Hp) b u,Ht b=some u->a1c P w H s₁.heap b u:=fun H b u e=>by
  obtain⟨p,hp,e2,rfl⟩:=Ht2 b u e
  have:=hT p hp
  rw [e2] at this
  exact⟨⟨#[],this,trivial,fun pos v hv=>by cases hv⟩,_,this⟩
 cases hk:K.lookup a with
 | some o =>
  have e:=KX a o hk
  rw [ha] at e
  cases e
  exact core Ht ⟨(fun xs=>by rw [aT];exact(fun z=>nomatch z)),tbO _ fun b u z=>z⟩ (.inr ⟨_,vs.toArray,_,hk,rfl,rfl,rfl,by rw [size_toArray,lenV];exact hl,by simpa using rv⟩) (fun b u z=>tabok _ b u z) (fun b u z=>.inr z) fun z=>absurd aT z
 | none =>
  refine core (fun b=>if b=a then some (.frz { cls:=.type "list",data:=.seq vs.toArray } (.lst (ns.map V.int))) else Ht b) ⟨fun xs z=>?_,tbO _ fun b u z=>?_⟩ (.inl (.inr ⟨{ cls:=.type "list",data:=.seq vs.toArray },if_pos rfl⟩)) (fun b u z=>?_) (fun b u z=>?_) fun _=>hk
  ·have z':=(if_pos rfl).symm.trans z
   cases z'
  ·by_cases hb:b=a
   ·rw [hb,aT] at z;cases z
   ·exact(if_neg hb).trans z
  ·by_cases hb:b=a
   ·have z':=(if_pos hb).symm.trans z
    cases z'
    subst hb
    exact⟨ha,by rw [length_map];exact hl,vs,_,rv,ha⟩
   ·exact tabok _ b u ((if_neg hb).symm.trans z)
  ·by_cases hb:b=a
   ·have z':=(if_pos hb).symm.trans z
    cases z'
    exact .inl ⟨hb,_,_,rfl⟩
   ·exact .inr ((if_neg hb).symm.trans z)
theorem c4q{l:PySem.W.OpenLaw}{n k:Nat}{q:Program}{loose:List Str}{XP:(Str->Option Value)->Heap->Prop}{YP:World->Heap->Prop}{d:DefRec}{K:Params->W.Frag}{CX:World->CXT}{sp:World->Sp}{x:Str}{tl:List (Addr × Addr × Str)}
  (hn:l.most=some n) (hn2:n <= sizeLine) (hdf:d.params.defaults=[]) (hr:Room k callerA)
  (hY:∀ (w:World) (h:Heap),YP w h->(K w.params).In h/\∀ p ∈ tl,h.get? p.2.1=some (PySem.W.tabObj #[]))
  (htl:∀ w:World,a6z (K w.params)=tl) (hU:tl.Pairwise fun p p'=>p.2.1 ≠ p'.2.1) (hN:∀ w:World,tl.all (fun p=>((K w.params).lookup p.2.1).isNone)=true)
  (F:∀ (w:World) (mg:Str->Option Value) (fa:Addr) (h:Heap),(K w.params).In h->h.Ns mainGlobals mg->mg d.name=some (.ref fa) ->
   ∃ fd:FuncData,(∀ (s:Shared) (u:Value),BindsTo s fd ⟨[u],[]⟩ [(x,u)]) /\
    ∀ base:Heap,(K w.params).In base->base.Ns mainGlobals mg->BMain mg base->FnOk l.prog w (K w.params) mg base (CX w) k fa fd [x] (sp w))
  (hsp:∀ (w:World) (H:Hp) (a:Addr) (ns:List Int),ns.length <= n->((∀ xs,H a ≠ some (.lst xs))/\TB (K w.params) H)->SqL (K w.params) H a (ns.map V.int)->sp w [.ref a] H (fun v _=>v=.bl true) fun _ _ _=>False)
  (hCX:∀ (w:World) (H:Hp) (s:Shared) (e:Value) (s':Shared),CX w [] H s (fun _ _ _=>False) e s'->False) :
  PySem.W.WalkO q loose XP YP l.row.toRowW d [] (fun f vs=>PySem.call f vs):=by
 refine Att.attach_call hn hdf fun w s₀ s₁ mg mb fa o pm cd doc a vs ns G Y ho hd hcd hmg hobj hints hlen hg=>?_
 obtain⟨KX,hT⟩:=hY w _ Y
 obtain⟨fd,hb,hF⟩:=F w mg fa _ KX G.T.g hmg
 obtain⟨bm,ob,b1,b2,b3,b4,b5,b6⟩:=G.T.bmain
 exact c1v KX G.T.g G.T.b G.T.builtins G.T.nolimit hg ⟨bm,ob,b1,b2,b3,b4,b5,b6⟩ hobj hints (le_trans hlen hn2) hr (htl w) hT hU (hN w) hF hb (fun H hO hS=>hsp w H a ns hlen hO hS) fun H e s'=>hCX w H s₁ e s'
end L2
end
section
namespace L2
open PySem PySem.Spec PyProof.Rows
theorem a1c.there{P:Program}{w:World}{H:Hp}{h:Heap}{a:Addr}{o:HO}(x:a1c P w H h a o):∃ u,h.get? a=some u:=by
 cases o with
 | lst xs=>obtain⟨_,_,_,_,e⟩:=x;exact⟨_,e⟩
 | tup xs=>obtain⟨_,_,_,o,e,_⟩:=x;exact⟨_,e⟩
 | dK kvs=>obtain⟨_,_,_,_,o,_,_,e,_⟩:=x;exact⟨_,e⟩
 | dT kvs=>obtain⟨_,_,_,_,o,_,_,e,_⟩:=x;exact⟨_,e⟩
 | set S n=>obtain⟨o,_,_,_,e,_⟩:=x;exact⟨_,e⟩
 | ins C dx fs=>obtain⟨_,_,_,e,_⟩:=x;exact⟨_,e⟩
 | own y=>obtain⟨_,e⟩:=x;exact⟨_,e⟩
 | xd fs=>obtain⟨_,⟨_,_,_,e,_⟩,_⟩:=x;exact⟨_,e⟩
 | rng lo hi=>obtain⟨_,_,_,e⟩:=x;exact⟨_,e⟩
 | frz ob u =>
  obtain⟨e,_⟩:=x
  cases u with
  | tbl ps=>obtain⟨_,e,_⟩:=e;exact⟨_,e⟩
  | _=>exact⟨_,show h.get? a=some _ from e⟩
 | tbl ps=>exact x
 | met f y=>exact⟨_,show h.get? a=some _ from x⟩
 | ext φ=>obtain⟨_,z,_⟩:=x;exact z
def Cov(l:List Env)(H:Hp)(h0 B h:Heap):Prop:=∀ b o,h.get? b=some o->(H b ≠ none ∨ ∃ o',h0.get? b=some o')->b ∉ frs l->B.get? b=some o
noncomputable def CX1(P:Program)(w:World):CXT:=fun outer H s E e s'=>∃ (a C:Addr) (t:Value) (B:Heap) (H':Hp),e=.ref a/\s'.os=s.os/\AllBare s'.gens/\Un (frs outer) [] H H' s.heap s'.heap/\HOk P w H' s'.heap/\H' a=none /\
 Heap.FlyingW B outer a (.ref C) t s'.heap/\Cov outer H' s.heap B s'.heap/\E (.ref C) none H'
section
variable{X:Cx}{pins:List (Addr × Obj)}{σ:St}{H H':Hp}{s s':Shared}{h1 B:Heap}
theorem b5e(I:Inv X pins σ H s)(un:Un (frs X.stack) [] H H' s.heap s'.heap)(hok:HOk X.prog X.w H' s'.heap)(cov:Cov X.stack H' s.heap B s'.heap)(bt:B.StaysIn h1)(up:s'.heap.UpToSlots h1) :
  Un (frs X.stack) [] H H' s.heap h1/\HOk X.prog X.w H' h1/\Cov X.stack H' s.heap B h1:=by
 have nf:∀ b o,s'.heap.get? b=some o->b ∈ frs X.stack->∀ vs,o.data ≠ .fields vs:=fun b o e hb=>by
  obtain⟨_,o2,ho2,hd⟩:=I.stack.mem hb
  obtain⟨sl,e2⟩:=un.slot b o2 ho2 (I.stkFree b hb) hb (by simp)
  rw [e] at e2
  cases e2
  exact hd
 have fr:∀ b,H' b ≠ none->b ∉ frs X.stack:=fun b n hb=>by
  obtain⟨_,o2,ho2,_⟩:=I.stack.mem hb
  exact n (un.free b o2 ho2 (I.stkFree b hb) (by simp))
 have inB:∀ b o,s'.heap.get? b=some o->(H' b ≠ none ∨ ∃ o',s.heap.get? b=some o')->b ∉ frs X.stack->h1.get? b=some o:=fun b o e c n=>bt b o (cov b o e c n)
 refine⟨⟨fun b o e n hb _=>inB b o (un.keep b o e n hb (by simp)) (.inr ⟨o,e⟩) hb,fun b o e n hb _=>?_,un.free,fun b o e _=>?_,un.tups,un.frzs,un.tbls⟩,fun a o q=>?_,fun b o e c n=>?_⟩
 ·obtain⟨sl,e1⟩:=un.slot b o e n hb (by simp)
  obtain⟨sl',e2⟩:=up b _ e1 (nf b _ e1 hb)
  exact⟨sl',e2⟩
 ·obtain⟨o1,e1⟩:=un.there b o e (by simp)
  by_cases hb:b ∈ frs X.stack
  ·obtain⟨sl',e2⟩:=up b _ e1 (nf b _ e1 hb)
   exact⟨_,e2⟩
  ·exact⟨o1,inB b o1 e1 (.inr ⟨o,e⟩) hb⟩
 ·refine(hok a o q).stay (fun b u hb e=>?_) (fun _ z=>z) (fun _ _ z=>z) fun _ _ _ z=>z
  have hn:H' b ≠ none:=by
   rcases hb with rfl | hb
   ·rw [q];exact fun z=>nomatch z
   ·rw [hb];exact fun z=>nomatch z
  exact inB b u e (.inl hn) (fr b hn)
 ·have:∃ u,s'.heap.get? b=some u:=by
   rcases c with c | ⟨o',c⟩
   ·cases q:H' b with
    | none=>exact absurd q c
    | some ho=>exact(hok b ho q).there
   ·exact un.there b o' c (by simp)
  obtain⟨u,hu⟩:=this
  have hB:=cov b u hu c n
  have:=bt b u hB
  rw [e] at this
  cases this
  exact hB
theorem c9j{a C:Addr}{t:Value}{E:XK}(J:Inv X pins σ H' { s' with heap:=h1 })(hst:X.stack=X.env :: X.outer)(hex:X.ex=[])(fl:Heap.FlyingW B X.outer a (.ref C) t h1)(cov:Cov X.stack H' X.s₀.heap B h1)(ha:H' a=none)(hE:E (.ref C) none H') :
  CX1 X.prog X.w X.outer X.H₀ X.s₀ E (.ref a) { s' with heap:=h1 }:=by
 have hb:=J.base
 rw [hex] at hb
 refine⟨a,C,t,B,H',rfl,J.os,J.bare,hb,J.hok,ha,fl,fun b o e c n=>cov b o e c fun hm=>?_,hE⟩
 rcases mem_cons.mp (J.stkSub b hm) with z | z
 ·rcases c with c | ⟨o',c⟩
  ·exact c (by rw [z];exact J.free)
  ·have hlt:=lt_of_lt_of_le (lt_size c) J.ok.above
   rw [z] at hlt
   exact absurd hlt (lt_irrefl _)
 ·exact n z
end
end L2
end
section
namespace L2
open PySem PySem.Spec PyProof.Rows
abbrev veM:List Value:=[.type "ValueError",.type "Exception",.type "BaseException",.type "object"]
section
variable{X:Cx}{x:Str}{C:Addr}{E:XK}{np cpos pos:Pos}
end
section
variable{P:Program}{w:World}{K:W.Frag}{mg:Str->Option Value}{base:Heap}
end
end L2
end
section
namespace L2
open PySem PySem.Spec PyProof.Rows
structure XCls(K:W.Frag)(C:Addr)(bm:List Value):Prop where
 obj:∃ nm qn N bs hd sn sub ab col dd k0 k1 k2 k3 k5 newId,K.lookup C=some (excClassObj nm qn C N bs bm hd sn sub ab col dd k0 k1 k2 k3 k5 newId)
 base:bm.contains (.type "BaseException")=true
section
variable{X:Cx}{pins:List (Addr × Obj)}{σ:St}{H H':Hp}{s s':Shared}{h1 B:Heap}
end
section
variable{X:Cx}{k:Nat}{f:Addr}{fd:FuncData}{ps:List Str}{sp:Sp}{E:XK}{x:Str}{p pos:Pos}{e:Expr}{es:List Expr}{t:TA}
end
section
variable{X:Cx}{e:Expr}{te:XK->TE}{wx n:Str}{Wk:Addr}{bw:List Value}{j:Nat}{b₀:Stmt}{suite:List Stmt}{th:TS}{p2 np hp tp:Pos}
end
end L2
end
section
namespace L2
open PySem PySem.Spec
noncomputable def Tame{α:Type}:Sem α->Prop
 | .pure _ | .raise _ | .unsupported _ | .finish _ | .yield .. | .fork .. | .await .. | .register .. => True
 | .call .. | .resume .. => False
 | .rule _ k | .at _ k | .point _ k=>Tame (k ())
 | .load _ _ k=>∀ o,Tame (k o)
 | .update _ _ f k=>(∀ o,(f o).dict=o.dict)/\Tame (k ())
 | .alloc _ k=>∀ a,Tame (k a)
 | .loadIfAlive _ k=>∀ o,Tame (k o)
 | .fresh k=>∀ t,Tame (k t)
 | .ask k=>∀ x,Tame (k x)
 | .choose _ _ k=>∀ x,Tame (k x)
 | .os _ _ k=>∀ x,Tame (k x)
 | .handled _ k=>∀ x,Tame (k x)
 | .newGen _ k=>∀ x,Tame (k x)
 | .genState _ k=>∀ x,Tame (k x)
 | .stack k=>∀ x,Tame (k x)
 | .thread k=>∀ x,Tame (k x)
theorem Tame.bind{α β:Type}{m:Sem α}{f:α->Sem β}(h:Tame m)(hf:∀ a,Tame (f a)):Tame (m >>= f):=by
 show Tame (m.bind f)
 induction m with
 | pure a=>exact hf a
 | raise e=>exact True.intro
 | unsupported w=>exact True.intro
 | finish e=>exact True.intro
 | yield=>exact True.intro
 | fork=>exact True.intro
 | await=>exact True.intro
 | register=>exact True.intro
 | call=>exact h.elim
 | resume=>exact h.elim
 | rule _ k ih | «at» _ k ih | point _ k ih=>exact ih () h
 | update _ _ g k ih=>exact⟨h.1,ih () h.2⟩
 | load _ _ k ih | alloc _ k ih | loadIfAlive _ k ih | fresh k ih | ask k ih | choose _ _ k ih | os _ _ k ih | handled _ k ih | newGen _ k ih | genState _ k ih | stack k ih | thread k ih=>exact fun x=>ih x (h x)
theorem Tame.ite{α:Type}{c:Prop}[Decidable c]{a b:Sem α}(h:Tame a)(h':Tame b):Tame (if c then a else b):=by
 split
 ·exact h
 ·exact h'
def DK(h h':Heap):Prop:=h.objs.size <= h'.objs.size/\∀ a o',h'.get? a=some o'->(∃ o,h.get? a=some o/\o'.dict=o.dict) ∨ h.objs.size <= a
theorem DK.refl(h:Heap):DK h h:=⟨le_refl _,fun a o e=>.inl ⟨o,e,rfl⟩⟩
theorem DK.trans{h h1 h2:Heap}(x:DK h h1)(y:DK h1 h2):DK h h2:=⟨le_trans x.1 y.1,fun a o e=>by
 rcases y.2 a o e with⟨o1,e1,d1⟩ | z
 ·rcases x.2 a o1 e1 with⟨o0,e0,d0⟩ | z
  ·exact .inl ⟨o0,e0,d1.trans d0⟩
  ·exact .inr z
 ·exact .inr (le_trans x.1 z)⟩
theorem DK.at{h h':Heap}{a:Addr}{o o':Obj}(x:DK h h')(e:h.get? a=some o)(e':h'.get? a=some o'):o'.dict=o.dict:=by
 rcases x.2 a o' e' with⟨o1,e1,d⟩ | z
 ·rw [e] at e1
  cases e1
  exact d
 ·exact absurd (lt_size e) (Nat.not_lt_of_le z)
theorem DK.upd{h:Heap}{a:Addr}{f:Obj->Obj}(hf:∀ o,(f o).dict=o.dict)(hs:(h.get? a).isSome):DK h (h.update a f):=by
 obtain⟨objs,l⟩:=h
 refine⟨by show objs.size <= (objs.modify a f).size;rw [Array.size_modify];exact le_refl _,fun b o' e=>?_⟩
 by_cases hb:a=b
 ·subst hb
  obtain⟨o,ho⟩:=Option.isSome_iff_exists.mp hs
  refine .inl ⟨o,ho,?_⟩
  have h1:objs[a]? = some o:=by
   unfold Heap.get? at ho
   dsimp only at ho
   split at ho
   ·cases ho
   ·exact ho
  have h2:(objs.modify a f)[a]? = some (f o):=by rw [Array.getElem?_modify,if_pos rfl,h1];rfl
  unfold Heap.get? Heap.update at e
  dsimp only at e
  split at e
  ·cases e
  ·rw [h2] at e
   cases e
   exact hf o
 ·rw [Heap.get?_update_other _ _ hb] at e
  exact .inl ⟨o',e,rfl⟩
theorem DK.push(h:Heap)(o:Obj):DK h (h.push o):=by
 refine⟨by rw [size_push];omega,fun b o' e=>?_⟩
 by_cases hb:b < h.objs.size
 ·refine .inl ⟨o',?_,rfl⟩
  obtain⟨objs,l⟩:=h
  have:(objs.push o)[b]? = objs[b]?:=by
   rw [Array.getElem?_push,if_neg (ne_of_lt hb)]
  unfold Heap.get? Heap.push at e
  unfold Heap.get?
  dsimp only at e ⊢
  rw [← this]
  exact e
 ·exact .inr (Nat.le_of_not_lt hb)
theorem Tame.wpK{α:Type}{M:Model}{Γ:PySem.Ctx}{h0:Heap}{Q:α->Pos->Shared->Prop}{E:Value->Pos->Shared->Prop}{t:Sem α}:∀ {p:Pos} {s:Shared},Tame t->DK h0 s.heap->Sem.wp M Γ t (fun a p s'=>DK h0 s'.heap->Q a p s') E p s->Sem.wp M Γ t Q E p s:=by
 induction t with
 | pure a=>exact fun _ d h=>h d
 | raise e=>exact fun _ _ h=>h
 | unsupported | finish | yield | fork | await | register=>exact fun _ _ h=>h
 | call=>exact fun h=>h.elim
 | resume=>exact fun h=>h.elim
 | rule _ k ih | «at» _ k ih | point _ k ih=>exact fun t d h=>ih () t d h
 | load a _ k ih=>exact fun t d ⟨o,e,h⟩=>⟨o,e,ih o (t o) d h⟩
 | update a _ f k ih=>exact fun t d ⟨e,h⟩=>⟨e,ih () t.2 (d.trans (DK.upd t.1 e)) h⟩
 | alloc o k ih=>exact fun t d h=>ih _ (t _) (d.trans (DK.push _ o)) h
 | loadIfAlive _ k ih | fresh k ih | ask k ih | os _ _ k ih | handled _ k ih | newGen _ k ih | stack k ih | thread k ih=>exact fun t d h=>ih _ (t _) d h
 | choose _ _ k ih=>exact fun t d ⟨e,h⟩=>⟨e,ih _ (t _) d h⟩
 | genState _ k ih=>exact fun t d ⟨o,e,h⟩=>⟨o,e,ih _ (t _) d h⟩
theorem Tame.any{α:Type}{M:Model}{A:Around}{Q:α->Shared->Prop}{E:Value->Shared->Prop}{t:Sem α}{s:Shared}(h:Tame t)(q:wpAny M A t (fun a s'=>DK s.heap s'.heap->Q a s') E s):wpAny M A t Q E s:=fun Γ p hΓ=>h.wpK (DK.refl _) (q Γ p hΓ)
theorem a3c{α:Type}(x:String):Tame (unsupported x:Sem α):=True.intro
theorem a0z{α:Type}(a:α):Tame (pure a:Sem α):=True.intro
theorem a8q(a:Addr):Tame (load a):=fun _=>True.intro
theorem a5m(v:Value)(i:Nat):Tame (field v i):=by
 unfold field fieldsOf
 refine Tame.bind ?_ fun vs=>?_
 ·cases v<;>first | exact a3c _ | skip
  refine(a8q _).bind fun o=>?_
  split
  ·exact a0z _
  ·exact a3c _
 ·split
  ·exact a0z _
  ·exact a3c _
theorem a5h(v:Value)(i:Nat)(x:Value):Tame (setField v i x):=by
 unfold setField
 cases v<;>first | exact a3c _ | skip
 refine Tame.bind (a8q _) fun o=>?_
 split
 ·refine Tame.ite ⟨fun o=>?_,True.intro⟩ (a3c _)
  obtain⟨c,d,da,sl⟩:=o
  cases da<;>rfl
 ·exact a3c _
theorem b1f:∀ l:List Env,Tame (readyFrames l)
 | []=>True.intro
 | env :: outer=>by
  unfold readyFrames
  cases env.frame with
  | none=>exact a3c _
  | some f =>
   refine Tame.bind (a8q _) fun o=>Tame.ite (a0z _) ?_
   refine Tame.bind ?_ fun b=>Tame.bind ?_ fun v=>Tame.bind ⟨fun _=>rfl,True.intro⟩ fun _=>b1f outer
   ·unfold behindIsImport
    refine Tame.ite (a0z _) (Tame.ite (a0z _) ((a5m _ _).bind fun _=>a0z _))
   ·unfold keptBack
    split
    ·refine Tame.ite (a0z _) (Tame.bind (fun _=>True.intro) fun b=>a0z _)
    ·exact a0z _
theorem b5f(env:Env):Tame (frameOf env):=by
 unfold frameOf
 refine Tame.bind (fun _=>True.intro) fun l=>Tame.bind ?_ fun x=>?_
 ·cases List.dropWhile _ l with
  | nil=>exact a0z _
  | cons e r=>exact(b1f _).bind fun _=>a0z _
 ·cases x with
  | none=>exact a3c _
  | some v=>exact a0z _
theorem b9a(f:Addr)(b:Bool):Tame (entryPlaceOf f b):=by
 unfold entryPlaceOf
 refine Tame.bind (fun _=>True.intro) fun acts=>?_
 split<;>exact True.intro
theorem b9b(a b c d e:Value)(l:List Value):Tame (EntryCells.newEntry a b c d e l):=by
 unfold EntryCells.newEntry newFields newObj newObjAsIs
 dsimp only
 refine Tame.ite ?_ ?_
 ·exact True.intro
 ·exact fun _=>True.intro
theorem c1w(e:Value)(env:Env):Tame (noteFrame e env):=by
 unfold noteFrame
 cases env.frame with
 | none=>exact a3c _
 | some f =>
  refine(a5m _ _).bind fun head=>?_
  have tl:Tame (do setField e 1 (← EntryCells.newEntry head (← frameOf env) .none (rawInt f) .none (← entryPlaceOf f (head != .none))):Sem Unit):=
   (b5f env).bind fun _=>(b9a _ _).bind fun _=>(b9b _ _ _ _ _ _).bind fun _=>a5h _ _ _
  refine Tame.ite ((a5m _ _).bind fun x=>Tame.ite (a0z _) ((a5h _ _ _).bind fun _=>tl)) tl
theorem b5u(e:Value)(o:Option Addr):Tame (setFlight e o):=by
 unfold setFlight
 exact(a5m _ _).bind fun x=>Tame.ite (a5h _ _ _) (a0z _)
theorem a8r(env:Env)(e:Value):Tame (leaving env e):=(c1w _ _).bind fun _=>b5u _ _
end L2
end
section
namespace L2
open PySem PySem.Spec PyProof.Rows
def exm(a C t:Addr)(od:Option Addr)(h:Heap):Prop:=h.get? a=some { cls:=.ref C,dict:=od,data:=.fields #[.ref t,.none,.none,.none,.bool false,.none] }
def nsq(d:Addr)(fs:List (Str × V))(h:Heap):Prop:=∃ mA,h.Ns1 d mA/\∀ f,RelO (fs.lookup f) (mA f)
theorem c1x{P:Program}{w:World}{H:Hp}{h:Heap}{a C t:Addr}{od:Option Addr}(e:exm a C t od h):a1c P w H h a (.ext (exm a C t od)):=⟨e,⟨_,e⟩,fun _ _ p k=>k _ p⟩
theorem c1y{P:Program}{w:World}{H:Hp}{h:Heap}{d:Addr}{fs:List (Str × V)}(e:nsq d fs h):a1c P w H h d (.ext (nsq d fs)):=⟨e,let ⟨_,⟨o,_,_,q,_⟩,_⟩:=e;⟨o,q⟩,fun _ _ ⟨mA,n,r⟩ k=>⟨mA,n.at k,r⟩⟩
noncomputable def drop(H:Hp)(a:Addr):Hp:=fun b=>if b=a then none else H b
theorem b2w{H:Hp}{a:Addr}:drop H a a=none:=if_pos rfl
theorem a9l{H:Hp}{a b:Addr}(h:b ≠ a):drop H a b=H b:=if_neg h
theorem c1z{H:Hp}{a b:Addr}{o:HO}(h:drop H a b=some o):b ≠ a/\H b=some o:=by
 unfold drop at h
 split at h
 ·cases h
 ·rename_i n
  exact⟨n,h⟩
noncomputable def CX2(P:Program)(w:World):CXT:=fun outer H s E e s'=>∃ (a C:Addr) (t:Value) (B:Heap) (H':Hp) (oe:Obj),e=.ref a/\s'.os=s.os/\AllBare s'.gens/\Un (frs outer) [] H H' s.heap s'.heap/\HOk P w H' s'.heap/\H' a=none /\
 Heap.FlyingW B outer a (.ref C) t s'.heap/\Cov outer H' s.heap B s'.heap/\s'.heap.get? a=some oe/\E (.ref C) oe.dict H'
section
variable{X:Cx}{pins:List (Addr × Obj)}{σ:St}{H H':Hp}{s s':Shared}{h1 B:Heap}
theorem b5g{a C:Addr}{t:Value}{E:XK}{oe:Obj}(J:Inv X pins σ H' { s' with heap:=h1 })(hst:X.stack=X.env :: X.outer)(hex:X.ex=[])(fl:Heap.FlyingW B X.outer a (.ref C) t h1)(cov:Cov X.stack H' X.s₀.heap B h1)(ha:H' a=none)(ho:h1.get? a=some oe)(hE:E (.ref C) oe.dict H') :
  CX2 X.prog X.w X.outer X.H₀ X.s₀ E (.ref a) { s' with heap:=h1 }:=by
 obtain⟨_,_,_,B',H2,e0,os,bare,un,hok,ha2,fl2,cov2,_⟩:=c9j (E:=fun _ _ H=>H=H') J hst hex fl cov ha rfl
 exact⟨a,C,t,B,H',oe,rfl,os,bare,by have:=J.base;rwa [hex] at this,J.hok,ha,fl,by
  intro b o e c n
  refine cov b o e c fun hm=>?_
  rcases mem_cons.mp (J.stkSub b hm) with z | z
  ·rcases c with c | ⟨o',c⟩
   ·exact c (by rw [z];exact J.free)
   ·have hlt:=lt_of_lt_of_le (lt_size c) J.ok.above
    rw [z] at hlt
    exact absurd hlt (lt_irrefl _)
  ·exact n z,ho,hE⟩
theorem leave_on2{E:XK}{e:Value}{Ex:Value->Shared->Prop}(I:Inv X pins σ H s)(hst:X.stack=X.env :: X.outer)(hf:X.env.frame=some X.env.locals)(hex:X.ex=[])(c:CX2 X.prog X.w X.stack H s E e s') :
  wpAny (model X.prog X.w) X.A (leaving X.env e) (fun _ s''=>CX2 X.prog X.w X.outer X.H₀ X.s₀ E e s'') Ex s':=by
 obtain⟨a,C,t,B,H',oe,rfl,os,bare,un,hok,ha,fl,cov,ho,hE⟩:=c
 have hfr:X.A.frames=some (X.env :: X.outer):=by rw [← hst];exact I.ok.frames
 have fl0:=fl
 rw [hst] at fl0
 refine(a8r _ _).any (wpAny_leaves_onW hfr hf fl0 fun h1 fl1 up dk=>?_)
 obtain⟨o1,ho1,_⟩:=fl1.there
 obtain⟨un1,hok1,cov1⟩:=b5e I un hok cov fl1.1 up
 have J:Inv X pins σ H' { s' with heap:=h1 }:=I.call' (s':={ s' with heap:=h1 }) os un1 hok1 bare (fun b z=>absurd z (by simp))
 refine b5g (s':=s') J hst hex fl1 (fun b o e c n=>cov1 b o e ?_ n) ha ho1 (by rw [dk.at ho ho1];exact hE)
 rcases c with c | ⟨o',c⟩
 ·exact .inl c
 ·exact .inr (I.base.there b o' c (by rw [hex];simp))
theorem a3n{H:Hp}{a b:Addr}{u:HO}{φ:Heap->Prop}(ha:H a=some (.ext φ))(e:H b=some u)(n:∀ ψ,u ≠ .ext ψ):drop H a b=some u:=by
 by_cases hb:b=a
 ·rw [hb,ha] at e
  cases e
  exact absurd rfl (n φ)
 ·rw [a9l hb];exact e
theorem c9k{fs:List Addr}{h h':Heap}{a:Addr}{φ:Heap->Prop}(u:Un fs [] H H' h h')(ha:H' a=some (.ext φ)):Un fs [] H (drop H' a) h h':=by
 refine⟨u.keep,u.slot,fun b ob e n hx=>?_,u.there,fun b xs e=>a3n ha (u.tups b xs e) (fun _ z=>nomatch z),fun b ob v e=>a3n ha (u.frzs b ob v e) (fun _ z=>nomatch z),fun b ps e=>?_⟩
 ·have:=u.free b ob e n hx
  unfold drop
  split
  ·rfl
  ·exact this
 ·obtain⟨m,q⟩:=u.tbls b ps e
  exact⟨m,a3n ha q (fun _ z=>nomatch z)⟩
theorem c4r{P:Program}{w:World}{h:Heap}{a:Addr}{φ:Heap->Prop}(k:HOk P w H h)(ha:H a=some (.ext φ)):HOk P w (drop H a) h:=fun b u e=>by
 obtain⟨hb,e'⟩:=c1z e
 exact(k b u e').stay (fun _ _ _ q=>q) (fun c q=>a3n ha q (fun _ z=>nomatch z)) (fun c xs q=>a3n ha q (fun _ z=>nomatch z)) fun c ob u q=>a3n ha q (fun _ z=>nomatch z)
theorem c2a{E:XK}{a C t:Addr}{od:Option Addr}{Ex:Value->Shared->Prop}(I:Inv X pins σ H s)(hst:X.stack=X.env :: X.outer)(hf:X.env.frame=some X.env.locals)(hex:X.ex=[])
  (os:s'.os=s.os) (bare:AllBare s'.gens) (un:Un (frs X.stack) [] H H' s.heap s'.heap) (hok:HOk X.prog X.w H' s'.heap) (ha:H' a=some (.ext (exm a C t od))) (hn:s.heap.get? a=none) (hE:E (.ref C) od (drop H' a)) :
  wpAny (model X.prog X.w) X.A (leaving X.env (.ref a)) (fun _ s''=>CX2 X.prog X.w X.outer X.H₀ X.s₀ E (.ref a) s'') Ex s':=by
 have hfr:X.A.frames=some (X.env :: X.outer):=by rw [← hst];exact I.ok.frames
 have he:exm a C t od s'.heap:=(hok a _ ha).1
 have I2:Inv X pins σ H' s':=I.call' os un hok bare (fun b z=>absurd z (by simp))
 have hst2:=I2.stack
 have hfs:s'.heap.FunFrames (PySem.W.hideAll s'.heap (a :: frs X.stack)) (X.env :: X.outer):=by
  rw [hst] at hst2 ⊢
  exact PySem.W.funFrames_hide hst2 fun env he b hb=>mem_cons_of_mem _ (mem_filterMap.mpr ⟨env,he,hb⟩)
 have hen:(PySem.W.hideAll s'.heap (a :: frs X.stack)).get? a=none:=PySem.W.hideAll_none _ (mem_cons_self ..)
 have hkb:(PySem.W.hideAll s'.heap (a :: frs X.stack)).StaysIn s'.heap:=fun b o q=>PySem.W.of_hideAll _ q
 have cov:Cov X.stack (drop H' a) s.heap (PySem.W.hideAll s'.heap (a :: frs X.stack)) s'.heap:=fun b o e c n=>PySem.W.hideAll_get _ e fun hm=>by
  rcases mem_cons.mp hm with z | z
  ·subst z
   rcases c with c | ⟨o',c⟩
   ·exact c b2w
   ·rw [hn] at c;cases c
  ·exact n z
 have un':=c9k un ha
 have hok':=c4r hok ha
 refine(a8r _ _).any (wpAny_leaving_firstW (a0:=.ref t) hfr hfs hf he hkb hen rfl rfl rfl fun h1 ⟨k1,⟨_,_,k2⟩,k3,k4⟩ dk=>?_)
 have fl:Heap.FlyingW (PySem.W.hideAll s'.heap (a :: frs X.stack)) X.outer a (.ref C) (.ref t) h1:=⟨k1,hen,k2,k3⟩
 obtain⟨o1,ho1,_⟩:=fl.there
 obtain⟨un1,hok1,cov1⟩:=b5e I un' hok' cov k1 k4
 have J:Inv X pins σ (drop H' a) { s' with heap:=h1 }:=I.call' (s':={ s' with heap:=h1 }) os un1 hok1 bare (fun b z=>absurd z (by simp))
 refine b5g (s':=s') J hst hex fl (fun b o e c n=>cov1 b o e ?_ n) b2w ho1 (by rw [dk.at he ho1];exact hE)
 rcases c with c | ⟨o',c⟩
 ·exact .inl c
 ·exact .inr (I.base.there b o' c (by rw [hex];simp))
end
end L2
end
section
namespace L2
open PySem PySem.Spec PySem.Calls PyProof.Rows PySem.W
noncomputable def exc2(K:Frag)(C:Addr)(bB:List Value)(nid:String):Bool:=match K.lookup C with
 | some ⟨.type "type",_,.cls cd,sl⟩=>(match cd.mro,sl.toList with
  | .ref D :: bm,[_,_,_,_,some (.builtin n),_]=>!cd.hasDel && tailIn K bB bm && n == nid && D == C
  | _,_=>false)
 | _=>false
theorem b5h{K:Frag}{h:Heap}{C:Addr}{bB:List Value}{nid:String}(X:K.In h)(q:exc2 K C bB nid=true) :
  ∃ bm N nm qn bs hd sn sub ab col dd k0 k1 k2 k3 k5,h.get? C=some (excClassObj nm qn C N bs bm hd sn sub ab col dd k0 k1 k2 k3 k5 nid)/\OwnTail h bB bm:=by
 unfold exc2 at q
 split at q
 ·rename_i dd cd sl ho
  split at q
  ·rename_i D bm k0 k1 k2 k3 n k5 hm hs
   simp only [and_eq_true,beq_iff_eq,Bool.not_eq_true'] at q
   obtain⟨⟨⟨hdel,ht⟩,rfl⟩,rfl⟩:=q
   obtain⟨nm,bs,mro,ns,qn,hd,sn,sub,ab,col,del⟩:=cd
   dsimp only at hm hdel
   subst hm hdel
   have e:sl = #[k0,k1,k2,k3,some (.builtin n),k5]:=by
    cases sl
    simp only at hs
    rw [hs]
   subst e
   exact⟨bm,ns,nm,qn,bs,hd,sn,sub,ab,col,dd,k0,k1,k2,k3,k5,X _ _ ho,tail_of_in X ht⟩
  ·cases q
 ·cases q
abbrev xTup(vs:List Value):Obj:={ cls:=.type "tuple",data:=.seq vs.toArray }
abbrev xObj(C t:Addr)(od:Option Addr):Obj:={ cls:=.ref C,dict:=od,data:=.fields #[.ref t,.none,.none,.none,.bool false,.none] }
abbrev a7v(h:Heap)(C:Addr)(vs:List Value):Heap:=(h.push (xTup vs)).push (xObj C h.objs.size none)
section
variable{prog:Program}{w:World}{A:Around}{E:Value->Shared->Prop}{K:Frag}{h:Heap}{g:Array GenState}{d:Drawn}{t:Nat}{os:OsState}{C f:Addr}{rest:List Value}{Q:Value->Shared->Prop}
theorem xcall(X:K.In h) (q:exc2 K C veM "ValueError.__new__" = true) (hi:findIn K (.ref C) "__init__" = some (some (.ref f))) (hf:typeIn K (.ref f)=some (.type "function")) (hl:rest.length <= sizeLine)
  (hq:wpAny (model prog w) (A.under (.builtin "type.__call__" ⟨.ref C :: rest,[]⟩)) (call (.ref f) (.ref (h.objs.size + 1) :: rest)) (fun r s'=>r=.none/\Q (.ref (h.objs.size + 1)) s') E ⟨a7v h C rest,g,d,t,os⟩) :
  wpAny (model prog w) A (call (.ref C) rest) Q E ⟨h,g,d,t,os⟩:=by
 obtain⟨bm,N,nm,qn,bs,hd,sn,sub,ab,col,dd,k0,k1,k2,k3,k5,hC,T⟩:=b5h X q
 have F:=PySem.F.excBase_ValueError
 have kp:∀ b o,h.get? b=some o->(a7v h C rest).get? b=some o:=fun b o e=>get?_push_of_some _ (get?_push_of_some _ e)
 have X1:K.In (a7v h C rest):=fun b o e=>kp b o (X b o e)
 have hC1:=kp _ _ hC
 have hx:(a7v h C rest).get? (h.objs.size + 1)=some { cls:=.ref C,data:=.fields #[.ref h.objs.size,.none,.none,.none,.bool false,.none] }:=by heap_get
 have own:(Value.ref C :: bm).contains (.ref C)=true:=by simp
 have f1:=tc_lookup
 have f2:=tc_bind (.ref C)
 have hT:(⟨h,g,d,t,os⟩:Shared).TypeIs (.ref C) "type":=⟨_,hC,rfl⟩
 refine wpAny_call (codeAny_of_tree (show wpAny _ _ (callAny (.ref C) _) _ _ _ from ?_))
 repeat (any_goals (first | with_reducible refine wpAny_loadPart_at hC ?_ | assumption | wp_step))
 refine⟨rfl,codeAny_call_builtin_at (Code.quiet_builtin _ (by decide +kernel)) entry_typeCall (wpAny_check_type_call_sub hC ?_)⟩
 repeat (first | with_reducible refine wpAny_madeBy_exc hC ?_ | with_reducible refine wpAny_loadPart_at hC ?_ | wp_step)
 refine codeAny_call_builtin_code (Code.quiet_builtin _ F.quiet) (wpAny_check_new_subT F T hC (codeAny_exc_new_subT F T hC (show wpAny _ _ _ _ _ _ from ?_) hl))
 unfold isInstance
 repeat (first | with_reducible refine wpAny_loadPart_at hx ?_ | wp_step)
 refine wpAny_isSubtype_exc hC1 ?_
 show wpAny _ _ (if (!(Value.ref C :: bm).contains (.ref C))=true then _ else _) _ _ _
 rw [own]
 unfold callSpecial? specialOf
 repeat (first | with_reducible refine wpAny_loadPart_at hx ?_ | wp_step)
 refine(looks_findIn (M:=model prog w) X1 hi).at ?_
 refine wpAny_holding (wpAny_bind ((bind_fn X1 _ hf).at (wpAny_bind (wpAny_mono hq (fun r s' hr=>?_) fun _ _ z=>z))))
 obtain⟨rfl,z⟩:=hr
 wp_walk
 exact z
end
end L2
end
section
namespace L2
open PySem PySem.Spec PySem.Calls PyProof.Rows PySem.W PySem.Builtin PySem.Builtin.ObjectAttr PySem.Builtin.Getset_descriptor
structure XFacts(K:Frag)(C:Addr):Prop where
 ga:findIn K (.ref C) "__getattribute__" = some (some (.builtin "BaseException.__getattribute__"))
 hk:findIn K (.ref C) "__getattr__" = some none
 cl:findIn K (.ref C) "__class__" = some (some (.builtin "object.__class__"))
 gt:specialIn K (.builtin "object.__class__") "__get__" = some (some (.builtin "getset_descriptor.__get__"))
 tk:takesIn K (.builtin "object.__class__")=some true
 ob:mroIn K C (.type "object")=some true
 be:mroIn K C (.type "BaseException")=some true
section
variable{prog:Program}{w:World}{A:Around}{E:Value->Shared->Prop}{K:Frag}{a C:Addr}{s:Shared}
end
end L2
end
section
namespace L2
open PySem PySem.Spec PySem.Calls PyProof.Rows PySem.W PySem.Builtin PySem.Builtin.ObjectAttr
structure XSt(K:Frag)(C:Addr):Prop where
 sa:findIn K (.ref C) "__setattr__" = some (some (.builtin "object.__setattr__"))
 mr:∃ cd D,clsIn K C=some cd/\cd.mro=.ref C :: .ref D :: veM/\cd.hasDict=true
section
variable{prog:Program}{w:World}{A:Around}{E:Value->Shared->Prop}{K:Frag}{s:Shared}{x C:Addr}{ox:Obj}{od:Option Obj}{name:Str}{v:Value}
theorem b7a{tk:Tok}{R:Result->Shared->Prop}(X:K.In s.heap)(I:InstAt s.heap x ox C od)(F:XSt K C)(n:a1q K C name)
  (h:∀ b,wpAny (model prog w) A.in1 (storeInOwnDict (.ref x) (.ref C) (.str name tk) name v b)
   (fun fin s'=>match fin with | .done f=>R (.ok f) s' | .again c'=>c'.quiet=true/\codeAny (model prog w) A c' R s') (fun e s'=>R (.error e) s') s) :
  codeAny (model prog w) A (.call (.builtin "object.__setattr__") ⟨[.ref x,.str name tk,v],[]⟩) R s:=by
 have SF:=PySem.F.store_object
 obtain⟨cd,D,hc,hm,_⟩:=F.mr
 have sub:Looks (model prog w) s.heap (isInstance (.ref x) (.type "object")) true:=I.type.andThen (looks_mroIn X (by unfold mroIn;rw [hc,Option.bind_some,hm];rfl))
 refine codeAny_call_builtin SF.slot.plain SF.entry (@check_slot (model prog w) _ _ s "object.__setattr__" "object" "__setattr__" (.ref x) [.str name tk,v] [] _ SF.kind SF.split sub (SF.args (.ref x) (.str name tk) v) ?_)
 have lm:Looks (model prog w) s.heap (mroOf (.ref C)) (.ref C :: .ref D :: veM):=hm ▸ (looks_clsIn X hc).andThen .now
 rw [osa_eq,refuse_eq]
 refine wpAny_bind (wpAny_bind (I.type.here (wpAny_bind (lm.here ?_))))
 rw [refuseLoop_ref,refuseLoop_ref,PySem.F.store_ValueError.passes]
 exact wpAny_pure (wpAny_bind (I.type.here (wpAny_bind ((looks_findIn X n).here (wpAny_bind (wpAny_pure (h _)))))))
end
section
variable{X:Cx}{pins:List (Addr × Obj)}{σ:St}{H:Hp}{s:Shared}{a C t d:Addr}{f:Str}{y:V}{u:Value}{A:Around}{E:Value->Shared->Prop}{fs:List (Str × V)}
theorem b9c{h:Heap}(p:nsq d fs h):∃ mA,h.Ns1 d mA/\(∀ f,RelO (fs.lookup f) (mA f))/\PySem.Within mA (fs.map (·.1)):=by
 obtain⟨mA,n,r⟩:=p
 refine⟨mA,n,r,fun g hg=>?_⟩
 cases q:fs.lookup g with
 | none =>
  have:=r g
  rw [q] at this
  exact absurd this.none_of hg
 | some v =>
  have:∀ l:List (Str × V),l.lookup g=some v->g ∈ l.map (·.1):=fun l=>by
   induction l with
   | nil=>intro z;cases z
   | cons p l ih =>
    obtain⟨k,z⟩:=p
    intro e
    rw [lookup_cons] at e
    split at e
    ·rename_i hk
     rw [beq_iff_eq.mp hk];simp
    ·exact mem_cons_of_mem _ (ih e)
  exact this fs q
theorem c6j{tk:Tok}{Q:PySem.Fin->Shared->Prop}(I:Inv X pins σ H s)(hd:H d=some (.ext (nsq d fs)))(hl:fs.length < 1000)(ry:RelV y u)
  (h:∀ s',Inv X pins σ (upd H d (.ext (nsq d (putF f y fs)))) s'->Q (.done (.ret .none)) s'):wpAny (model X.prog X.w) A (storeInDict d (.str f tk) f u) Q E s:=by
 obtain⟨mA,n,r,wi⟩:=b9c (I.hok d _ hd).1
 have hz:(fs.map (·.1)).length <= sizeLine:=by rw [length_map,sizeLine_eq];omega
 unfold storeInDict newKeyGuard
 refine wpAny_bind (wpAny_pure (wpAny_bind (wpAny_nsSet1 n fun h' n2 sb=>?_)))
 obtain⟨oD,es,ep,hoD,hdD,hcD⟩:=n2.count (PySem.Within.cons f u wi)
 refine wpAny_bind (wpAny_lookBehind hoD (by rw [hdD];exact pastItsLine_dict (le_trans hcD (by rw [length_cons];omega))) ?_)
 refine wpAny_pure (h _ ?_)
 refine I.write (x:=d) (e:=d) (by rw [hd];exact True.intro) (.inl rfl) (fun b q hb z=>(sb.2 b hb).trans z) ⟨_,hoD⟩ (c1y ⟨_,n2,fun g=>?_⟩)
 show RelO ((putF f y fs).lookup g) (if g=f then some u else mA g)
 rw [a6p]
 by_cases q:g=f
 ·rw [if_pos q,if_pos q];exact ry
 ·rw [if_neg q,if_neg q];exact r g
theorem b5i{h:Heap}{od:Option Addr}(e:exm a C t od h)(hd:∀ d,od=some d->∃ o,h.get? d=some o):∃ oo,InstAt h a (xObj C t od) C oo:=by
 cases od with
 | none=>exact⟨none,⟨e,rfl,rfl,True.intro⟩⟩
 | some d =>
  obtain⟨o,q⟩:=hd d rfl
  exact⟨some o,⟨e,rfl,rfl,q⟩⟩
theorem c2b{Q:Unit->Shared->Prop}(I:Inv X pins σ H s)(ha:H a=some (.ext (exm a C t none)))(F:XSt X.K C)(n:a1q X.K C f)(ry:RelV y u)
  (h:∀ d s',H d=none->d ≠ a->Inv X pins σ (upd (upd (upd H d (.ext (nsq d []))) a (.ext (exm a C t (some d)))) d (.ext (nsq d [(f,y)]))) s'->Q () s'):wpAny (model X.prog X.w) A (setAttr (.ref a) f u) Q E s:=by
 have e:exm a C t none s.heap:=(I.hok a _ ha).1
 obtain⟨oo,J⟩:=b5i e (fun d z=>nomatch z)
 refine set_plain I.kIn J F.sa (b7a (s:={ s with toks:=s.toks + 1 }) I.kIn J F n fun b=>?_)
 obtain⟨cd,D,hc,hm,hdc⟩:=F.mr
 have I0:Inv X pins σ H { s with toks:=s.toks + 1 }:=I.tok _
 have ne:a ≠ s.heap.objs.size:=ne_of_lt (lt_size e)
 refine wpAny_bind (wpAny_pure (wpAny_bind (wpAny_bind (wpAny_loadPart e (wpAny_bind (Looks.here (s:={ s with toks:=s.toks + 1 }) (looks_clsIn I.kIn hc) ?_))))))
 rw [hdc]
 refine wpAny_bind (wpAny_alloc' ?_)
 have e1:(s.heap.push PySem.W.emptyDict).get? s.heap.objs.size=some PySem.W.emptyDict:=get?_push_size s.heap rfl
 have e3:(s.heap.push PySem.W.emptyDict).Ns s.heap.objs.size (fun _=>none):=⟨PySem.W.emptyDict,#[],_,e1,rfl,(fun e he=>absurd he (by simp)),fun _=>rfl⟩
 have I1:=I0.laid (a:=s.heap.objs.size) (o:=.ext (nsq s.heap.objs.size [])) (h':=s.heap.push PySem.W.emptyDict) (t':=s.toks + 1) (fun b u q=>get?_push_of_some _ q) (le_refl _) (c1y ⟨_,Heap.Ns1.of_empty e3,fun _=>True.intro⟩)
 have ex:(s.heap.push PySem.W.emptyDict).get? a=some (xObj C t none):=get?_push_of_some _ e
 refine wpAny_bind (wpAny_update' ex ?_)
 have e4:=Heap.get?_update_self (fun o:Obj=>{ o with dict:=some s.heap.objs.size }) ex rfl
 have I2:=I1.write (x:=a) (e:=a) (o:=.ext (exm a C t (some s.heap.objs.size))) (h':=(s.heap.push PySem.W.emptyDict).update a fun o=>{ o with dict:=some s.heap.objs.size }) (t':=s.toks + 1) (by rw [a0d ne,ha];exact True.intro) (.inl rfl) (fun b q hb z=>(Heap.get?_update_other _ _ (Ne.symm hb)).trans z) ⟨_,e4⟩ (c1x e4)
 refine wpAny_pure (a:=some s.heap.objs.size) ?_
 refine c6j (fs:=[]) I2 (by rw [a0d (Ne.symm ne),a0c]) (by decide) ry fun s' I3=>?_
 exact h _ s' (I.hok.fresh (le_refl _)) (Ne.symm ne) I3
theorem c4s{Q:Unit->Shared->Prop}(I:Inv X pins σ H s)(ha:H a=some (.ext (exm a C t (some d))))(hd:H d=some (.ext (nsq d fs)))(hl:fs.length < 1000)(F:XSt X.K C)(n:a1q X.K C f)(ry:RelV y u)
  (h:∀ s',Inv X pins σ (upd H d (.ext (nsq d (putF f y fs)))) s'->Q () s'):wpAny (model X.prog X.w) A (setAttr (.ref a) f u) Q E s:=by
 have e:exm a C t (some d) s.heap:=(I.hok a _ ha).1
 obtain⟨oo,J⟩:=b5i e (fun d' z=>by cases z;exact(I.hok d _ hd).2.1)
 refine set_plain I.kIn J F.sa (b7a (s:={ s with toks:=s.toks + 1 }) I.kIn J F n fun b=>?_)
 obtain⟨cd,D,hc,hm,hdc⟩:=F.mr
 refine wpAny_bind (wpAny_pure (wpAny_bind (wpAny_bind (wpAny_loadPart e (wpAny_bind (Looks.here (s:={ s with toks:=s.toks + 1 }) (looks_clsIn I.kIn hc) ?_))))))
 rw [hdc]
 refine wpAny_pure (a:=some d) ?_
 exact c6j (I.tok _) hd hl ry h
end
end L2
end
section
namespace L2
open PySem PySem.Spec PyProof.Rows
def sX1(K:W.Frag)(ta tv:TE)(f:Str):TS:=fun D σ H=>tv σ H fun y H1=>ta σ H1 fun x H2=>∃ a C t,x=.ref a/\H2 a=some (.ext (exm a C t none))/\XSt K C/\a1q K C f /\
 ∀ d,H2 d=none->d ≠ a->D.nx σ (upd (upd (upd H2 d (.ext (nsq d []))) a (.ext (exm a C t (some d)))) d (.ext (nsq d [(f,y)])))
def sX2(K:W.Frag)(ta tv:TE)(f:Str):TS:=fun D σ H=>tv σ H fun y H1=>ta σ H1 fun x H2=>∃ a C t d fs,x=.ref a/\H2 a=some (.ext (exm a C t (some d)))/\H2 d=some (.ext (nsq d fs))/\fs.length < 1000/\XSt K C/\a1q K C f /\
 D.nx σ (upd H2 d (.ext (nsq d (putF f y fs))))
section
variable{X:Cx}{o value:Expr}{f:Str}{pos pos':Pos}{ta tv:TE}
theorem ps_x1(ha:PE X o ta)(hv:PE X value tv)(hs:swapsWith value (some (.Attribute o f pos')) pos.line X.env=pure false):PS X (.Assign [.Attribute o f pos'] value pos) (sX1 X.K ta tv f):=by
 intro pins s σ H D I h
 refine plainObj_wpAny_Assign_Attribute (thn (hv pins s σ H _ I h) fun u s1 ⟨y,H1,I1,ry,q⟩=>thn (ha pins s1 σ H1 _ I1 q) fun ov s2 hq8=>?_) hs
 obtain⟨x,H2,I2,rx,a,C,t,ex,ea,c,n,q2⟩:=hq8
 subst ex
 cases rx
 exact c2b I2 ea c n ry fun d s3 hd hn I3=>⟨σ,_,I3,q2 d hd hn⟩
theorem ps_x2(ha:PE X o ta)(hv:PE X value tv)(hs:swapsWith value (some (.Attribute o f pos')) pos.line X.env=pure false):PS X (.Assign [.Attribute o f pos'] value pos) (sX2 X.K ta tv f):=by
 intro pins s σ H D I h
 refine plainObj_wpAny_Assign_Attribute (thn (hv pins s σ H _ I h) fun u s1 ⟨y,H1,I1,ry,q⟩=>thn (ha pins s1 σ H1 _ I1 q) fun ov s2 hq8=>?_) hs
 obtain⟨x,H2,I2,rx,a,C,t,d,fs,ex,ea,ed,l,c,n,q2⟩:=hq8
 subst ex
 cases rx
 exact c4s I2 ea ed l c n ry fun s3 I3=>⟨σ,_,I3,q2⟩
end
structure Out2(X:Cx)(E:XK):Prop where
 st:X.stack=X.env :: X.outer
 fr:X.env.frame=some X.env.locals
 ex:X.ex=[]
 xe:∀ e s',wpAny (model X.prog X.w) X.A (leaving X.env e) (fun _ s''=>CX2 X.prog X.w X.outer X.H₀ X.s₀ E e s'') (fun e' s''=>CX2 X.prog X.w X.outer X.H₀ X.s₀ E e' s'') s'->X.xe e s'
theorem a3o{P:Program}{w:World}{K:W.Frag}{mg:Str->Option Value}{base:Heap}{N:List Str}{qual:Str}{scope:Scope}{f:Addr}{cd:Value}{A:Around}{outer:List Env}{s:Shared}{H:Hp}{E:XK} :
  Out2 (cxOf (CX2 P w) P w K mg base N qual scope f cd A outer s H E) E:=⟨rfl,rfl,rfl,fun _ _ h=>h⟩
structure XMk(K:W.Frag)(C f:Addr):Prop where
 q:exc2 K C veM "ValueError.__new__" = true
 init:PySem.W.findIn K (.ref C) "__init__" = some (some (.ref f))
 fn:PySem.W.typeIn K (.ref f)=some (.type "function")
 kp:PySem.W.keepIn K (.ref C)=true
def b7b(E:XK)(C:Addr)(sp:Sp)(t:TA):TS:=fun _ σ H=>t σ H fun vs H1=>∀ e t0,H1 e=none->sp (.ref e :: vs) (upd H1 e (.ext (exm e C t0 none))) (fun v H2=>v=.non/\∃ od,H2 e=some (.ext (exm e C t0 od))/\E (.ref C) od (drop H2 e)) E0
theorem b9d{M:Model}{A:Around}{E:Value->Shared->Prop}{K:W.Frag}{env:Env}{s:Shared}{x:Sem Value}{Q:Flow->Shared->Prop}(hh:A.handled=none)
  (h:wpAny M A x (fun v s1=>∃ e C t od,v=.ref e/\K.In s1.heap/\exm e C t od s1.heap/\exc2 K C veM "ValueError.__new__" = true/\E v s1) E s):wpAny M A (raiseStmt env (some x) none) Q E s:=by
 unfold raiseStmt
 refine wpAny_bind (wpAny_mono h (fun v s1 h1=>?_) fun _ _ z=>z)
 obtain⟨e,C,t,od,rfl,X,he,q,hE⟩:=h1
 obtain⟨bm,N,nm,qn,bs,hd,sn,sub,ab,col,dd,k0,k1,k2,k3,k5,hC,T⟩:=b5h X q
 have hb:(Value.ref C :: bm).contains (.type "BaseException")=true:=by rw [List.contains_cons,T.hasType (b:=true) (by decide),Bool.or_true]
 unfold exm at he
 obtain⟨hp,g,d,tk,os⟩:=s1
 repeat (first | with_reducible refine wpAny_loadPart_at hC ?_ | with_reducible refine wpAny_loadPart_at he ?_ | (with_reducible refine wpAny_isSubtype_exc hC ?_;rw [hb]) | wp_step)
 exact wpAny_raiseNew_none hh hE
section
variable{X:Cx}{k:Nat}{x:Str}{C f:Addr}{fd:FuncData}{ps:List Str}{sp:Sp}{E:XK}{np cpos pos:Pos}{e:Expr}{es:List Expr}{t:TA}
theorem b2x(O:Out2 X E)(hc:X.calm=true)(M:XMk X.K C f)(F:FnOk X.prog X.w X.K X.mg X.base CX0 k f fd ps sp)(hr:Room (k + 1) X.A)(hg:Gl X x)(hm:X.mg x=some (.ref C))(hb:Binds X.K fd ps [])(ha:PA X (e :: es) t)(hz:ps.length <= 1000)
  (hdb:(x == ("__debug__" : Str))=false:=by decide) (he:starEach (e :: es) X.env=(false,eval e X.env) :: starEach es X.env:=by rfl) (hpl:(backTo cpos (starEach es X.env)).any (·.1)=false:=by rfl) :
  PS X (.Raise (some (.Call (.Name x np) (e :: es) [] cpos)) none pos) (b7b E C sp t):=by
 intro pins s σ H D I h
 rw [arm_exec_Raise]
 refine wpAny_bind (wpAny_standAt (b9d (K:=X.K) (I.ok.hd hc) (wpAny_bind (wpAny_mono ?_ (fun v s3 h3=>wpAny_bind (wpAny_standAt (wpAny_pure h3))) fun _ _ z=>z))))
 refine wpAny_Call_Name_kw (a8z I hg hm ?_ hdb)
 refine PySem.W.callWith_K (h₀:=X.base) I.ok.mod.kin M.kp (thn (ha cpos pins s σ H _ I h) fun us s1 ⟨vs,H1,I1,r,q⟩=>⟨I1.kIn,?_⟩) he hpl
 obtain⟨hh,g,d,tk,os⟩:=s1
 have hq:=q (hh.objs.size + 1) hh.objs.size (I1.hok.fresh (le_succ _))
 have r2:Vals (V.ref (hh.objs.size + 1) :: vs) (Value.ref (hh.objs.size + 1) :: us):=.cons rfl r
 have hl:(Value.ref (hh.objs.size + 1) :: us).length=ps.length:=by rw [← r2.length];exact F.len _ _ _ _ hq
 have hx:(a7v hh C us).get? (hh.objs.size + 1)=some (xObj C hh.objs.size none):=by heap_get
 have kp:∀ b o,hh.get? b=some o->(a7v hh C us).get? b=some o:=fun b o e=>get?_push_of_some _ (get?_push_of_some _ e)
 have I2:=I1.laid (a:=hh.objs.size + 1) (o:=.ext (exm (hh.objs.size + 1) C hh.objs.size none)) (h':=a7v hh C us) (t':=tk) kp (le_succ _) (c1x hx)
 refine xcall I1.kIn M.q M.init M.fn (by rw [length_cons] at hl;rw [sizeLine_eq,List.nil_append];omega) ?_
 refine wpAny_call (codeAny_mono (F.run _ X.stack _ _ ⟨Value.ref (hh.objs.size + 1) :: us,[]⟩ (Value.ref (hh.objs.size + 1) :: us) _ _ E0 (hr.make C us []) (I2.env0.make C us []) (by have:=hb _ (Value.ref (hh.objs.size + 1) :: us) I2.kIn (by rw [append_nil];exact hl);rwa [append_nil] at this) r2 hq) fun r s' hq'=>?_)
 cases r with
 | error e=>exact False.elim hq'
 | ok fl =>
  cases fl with
  | ret u =>
   obtain⟨v,H',os,bare,un,hok,rv,ev,od,hex,hE⟩:=hq'
   subst ev
   refine⟨rv,?_⟩
   have he':exm (hh.objs.size + 1) C hh.objs.size od s'.heap:=(hok _ _ hex).1
   have J:Inv X pins σ H' s':=I2.call' os un hok bare (fun b z=>absurd z (by simp))
   have un0:Un (frs X.stack) [] H1 H' hh s'.heap:=(Un.laid (a:=hh.objs.size + 1) kp (le_succ _) (I1.hok.fresh (le_succ _))).trans un
   have key:X.xe (.ref (hh.objs.size + 1)) s':=O.xe _ _ (c2a I1 O.st O.fr O.ex os bare un0 hok hex (Heap.get?_none_of_le (le_succ _)) hE)
   exact⟨_,C,_,od,rfl,J.kIn,he',M.q,key⟩
  | next=>exact False.elim hq'
  | brk=>exact False.elim hq'
  | cont=>exact False.elim hq'
end
end L2
end
section
namespace L2
open PySem PySem.Spec PyProof.Rows
section
variable{X:Cx}{pins:List (Addr × Obj)}{σ:St}{H H':Hp}{s s':Shared}{h1 B:Heap}
end
section
variable{X:Cx}{x:Str}{C:Addr}{E:XK}{np cpos pos:Pos}
theorem a9m(O:Out2 X E):a3t (CX2 X.prog X.w) X E:=fun pins σ H s e s' I c=>O.xe e s' (leave_on2 I O.st O.fr O.ex c)
end
section
variable{P:Program}{w:World}{K:W.Frag}{mg:Str->Option Value}{base:Heap}
theorem Fun.okX2{x qual:Str}{st:Stmt}{f:Addr}{fd:FuncData}{N ps:List Str}{k:Nat}{sp:Sp}(F:Fun K x qual st f fd)(S:FnScope N ps (a0f st))(len:∀ vs H Q E,sp vs H Q E->vs.length=ps.length)
  (hbody:∀ (cdv:Value) (A:Around) (outer:List Env) (s:Shared) (H:Hp) (vs:List V) (Q:VK) (E:XK),Room k (A.deeper (envOfC qual (a0f st) s.heap.objs.size f cdv))->sp vs H Q E ->
   ∃ t,PSs (cxOf (CX2 P w) P w K mg base N qual (a0f st) f cdv A outer s H E) (a1a st) t/\t { nx:=fun _ H'=>Q .non H',rt:=Q } (start N vs) H):FnOk P w K mg base (CX2 P w) (k + 1) f fd ps sp:=by
 obtain⟨oc,od,kV,doc,pm,an,cdv,ct,osl,rfl,lk,hcd⟩:=F.ex
 exact b7v lk hcd S len fun A outer s H vs Q E hr hsp=>hbody cdv A outer s H vs Q E hr hsp
end
section
variable{X:Cx}{k:Nat}{f:Addr}{fd:FuncData}{ps:List Str}{sp:Sp}{E:XK}{x:Str}{p pos:Pos}{e:Expr}{es:List Expr}{t:TA}
end
section
variable{X:Cx}{e:Expr}{te:XK->TE}{wx n:Str}{Wk:Addr}{bw:List Value}{j:Nat}{b₀:Stmt}{suite:List Stmt}{th:TS}{p2 np hp tp:Pos}
end
end L2
end
section
namespace L2
open PySem PySem.Spec PyProof.Rows
section
variable{P:Program}{w:World}{K:W.Frag}{mg:Str->Option Value}{base:Heap}
theorem Fun.okX2c{x qual:Str}{st:Stmt}{f:Addr}{fd:FuncData}{N ps:List Str}{k:Nat}{sp:Sp}(F:Fun K x qual st f fd)(S:FnScope N ps (a0f st))(len:∀ vs H Q E,sp vs H Q E->vs.length=ps.length)
  (hbody:∀ (cdv:Value) (A:Around) (outer:List Env) (s:Shared) (H:Hp) (vs:List V) (Q:VK) (E:XK),fd.code=cdv->Room k (A.deeper (envOfC qual (a0f st) s.heap.objs.size f cdv))->sp vs H Q E ->
   ∃ t,PSs (cxOf (CX2 P w) P w K mg base N qual (a0f st) f cdv A outer s H E) (a1a st) t/\t { nx:=fun _ H'=>Q .non H',rt:=Q } (start N vs) H):FnOk P w K mg base (CX2 P w) (k + 1) f fd ps sp:=by
 obtain⟨oc,od,kV,doc,pm,an,cdv,ct,osl,rfl,lk,hcd⟩:=F.ex
 exact b7v lk hcd S len fun A outer s H vs Q E hr hsp=>hbody cdv A outer s H vs Q E rfl hr hsp
theorem c9l{x qual:Str}{st:Stmt}{f c T:Addr}{fd:FuncData}(F:Fun K x qual st f fd)(hL:LAMS.any (· == qual)=true)(hc:fd.code=.ref c)(hC:PySem.W.codeHdIn K c T=true):(c,T,qual ++ ".<locals>.<lambda>") ∈ a6z K:=by
 obtain⟨oc,od,kV,doc,pm,an,cdv,ct,osl,rfl,lk,hcd⟩:=F.ex
 refine mem_filterMap.mpr ⟨_,PySem.W.mem_of_lookupK lk,?_⟩
 obtain rfl:cdv=.ref c:=hc
 unfold lamOf
 show(if LAMS.any (· == qual)=true then _ else _)=_
 rw [if_pos hL]
 unfold PySem.W.codeHdIn at hC
 split at hC
 ·rename_i vs hk
  simp only [and_eq_true] at hC
  obtain⟨⟨⟨⟨⟨e1,_⟩,_⟩,_⟩,_⟩,_⟩:=hC
  split at e1
  ·rename_i P' h11
   obtain rfl:P'=T:=beq_iff_eq.mp e1
   dsimp only
   rw [hk]
   simp only [h11]
  ·cases e1
 ·cases hC
def b9e(P:Program)(w:World)(K:W.Frag)(mg:Str->Option Value)(base:Heap)(n:Nat)(H:Hp)(f:Addr)(g:Str->Bool):Prop:=∃ (o:Obj) (fd:FuncData) (pn:Str) (sp:Sp),(∃ gd,o.data=.func gd)/\H f=some (.frz o (.own f))/\FnOk P w K mg base CX0 n f fd [pn] sp/\Binds K fd [pn] [] /\
 ∀ (x:Str) (H1:Hp) (Q:VK),x.length <= 1000000->Same H H1->(∀ H2,Same H1 H2->Q (.bl (g x)) H2)->sp [.str x] H1 Q E0
theorem a8s{g:Str->Bool}{pn q:Str}{H:Hp}{f c:Addr}{params:Arguments}{body:Expr}{scope:Scope}{pm ct:Value}{k:Nat}(L:Lam H f q params body scope pm c ct)(S:FnScope [pn] [pn] scope)
  (hbind:∀ u:Value,bindArgs (c6i q params body scope pm c ct) ⟨[u],[]⟩=pure [(pn,u)])
  (hb:∀ (A:Around) (outer:List Env) (s:Shared) (H1:Hp) (E:XK) (x:Str),Room k (A.deeper (envOfC q scope s.heap.objs.size f (.ref c)))->x.length <= 1000000->Same H H1 ->
   ∃ t,PE (cxOf CX0 P w K mg base [pn] q scope f (.ref c) A outer s H1 E) body t/\∀ Q:VK,(∀ H2,Same H1 H2->Q (.bl (g x)) H2)->t [some (.str x)] H1 Q):b9e P w K mg base (k + 1) H f g:=by
 refine⟨_,_,pn,_,⟨_,rfl⟩,L.1,d3u (f:=f) (c:=c) (q:=q) (params:=params) (body:=body) (scope:=scope) (pm:=pm) (ct:=ct) (sp:=fun vs H1 Q E=>∃ x:Str,vs=[.str x]/\x.length <= 1000000/\Same H H1/\∀ H2,Same H1 H2->Q (.bl (g x)) H2) S (fun vs H Q E hq8=>by obtain⟨x,e,_⟩:=hq8;rw [e];rfl) (fun A outer s H1 vs Q E hr h=>?_),Binds.all fun us hl=>?_,fun x H1 Q hx s1 hq=>⟨L.keep (S:=Any) s1.keep,x,rfl,hx,s1,hq⟩⟩
 ·obtain⟨x,rfl,hx,s1,hq⟩:=h
  obtain⟨t,ht,hq2⟩:=hb A outer s H1 E x hr hx s1
  exact⟨t,ht,hq2 Q hq⟩
 ·obtain⟨u,rfl⟩:∃ u,us=[u]:=by
   rcases us with _ | ⟨u,_ | ⟨_,_⟩⟩
   ·cases hl
   ·exact⟨u,rfl⟩
   ·cases hl
  exact hbind u
theorem FnOk.calm{n:Nat}{f:Addr}{fd:FuncData}{ps:List Str}{sp sp':Sp}(F:FnOk P w K mg base (CX2 P w) n f fd ps sp')(h:∀ vs H Q E,sp vs H Q E->sp' vs H Q E0):FnOk P w K mg base CX0 n f fd ps sp:=
 ⟨fun vs H Q E z=>F.len _ _ _ _ (h vs H Q E z),fun A outer s H args us vs Q E hr e0 hb r hsp=>codeAny_mono (F.run A outer s H args us vs Q E0 hr e0 hb r (h vs H Q E hsp)) fun r s' hq=>by
  cases r with
  | error e =>
   obtain⟨a,C,t,B,H',oe,_,_,_,_,_,_,z⟩:=hq
   exact False.elim (by revert z;simp)
  | ok fl=>cases fl<;>exact hq⟩
end
end L2
end
section
namespace L2
open PySem PySem.Spec PyProof.Rows
end L2
end
section
namespace Kd
open PySem PyProof.Rows
noncomputable def TK(h:Heap):Nat->PyData->Value->Prop
 | _,.int i,v=>∃ t,v=.int i t
 | _,.str x,v=>∃ t,v=.str x t
 | n + 1,.tuple ds,v=>∃ a o items m,v=.ref a/\h.get? a=some o/\o.cls=.type "tuple" /\ o.data=.seq items m/\Paired (TK h n) ds items.toList
 | _,_,_=>False
noncomputable def kr:Nat->PyData->Nat
 | _,.int _=>1
 | _,.str _=>1
 | n + 1,.tuple ds=>(ds.map (kr n)).sum + 1
 | _,_=>0
section
variable{prog:Program}{w:World}{E:Value->Shared->Prop}
end
end Kd
end
section
namespace Kd
open PySem PyProof.Rows
section
variable{prog:Program}{w:World}{E:Value->Shared->Prop}
end
noncomputable instance:DecidableEq PyData:=fun a b=>Classical.propDecidable (a=b)
def isK(h:Heap)(d:PyData)(a:Addr):Prop:=d.canLay0=true/\TK h 8 d (.ref a)
end Kd
end
section
namespace L2
open PySem PySem.Spec PyProof.Rows Kd
noncomputable def kd:Nat->PyData->Bool
 | _,.int _=>true
 | _,.str _=>true
 | n + 1,.tuple ds=>ds.all (kd n)
 | _,_=>false
section
variable{X:Cx}{pins:List (Addr × Obj)}{σ:St}{H:Hp}{s:Shared}{S:Addr->Prop}
end
abbrev KX:=PyData × Addr × V
def KOk(K:W.Frag)(H:Hp)(d:PyData)(a:Addr):Prop:=kd 8 d=true/\d.canLay0=true/\∃ S,AtD K H S d (.ref a)
section
variable{X:Cx}{pins:List (Addr × Obj)}{σ:St}{H:Hp}{s:Shared}{d b:Addr}{xs:List KX}{k:PyData}{v:V}{r:Value}{A:Around}{E:Value->Shared->Prop}
end
end L2
end
section
namespace L2
open PySem PySem.Spec PyProof.Rows Kd
section
variable{X:Cx}
end
section
variable{K:W.Frag}{H:Hp}{S:Addr->Prop}{sa:Addr}{ns:List Int}
noncomputable def RcA(H:Hp)(S:Addr->Prop)(sa:Addr)(ns:List Int):Rc:={ H0:=H,S:=fun a=>S a ∨ H a=none,P:=fun _=>False,M:=fun _=>False,A:=fun p=>H p=none,B:=fun _=>False,lent:=fun _=>none,sa:=sa,ns:=ns }
theorem c4t(sc:Scr K H sa (ns.map V.int)){ds:List PyData}{vs:List V}(h:a0a K H S ds vs):Rel K (RcA H S sa ns) (fun _=>none) ((ds.map L.d).map some) (vs.map some) H:=by
 have hat:∀ (i:Nat) (x:PyData),ds[i]? = some x->∃ v,vs[i]? = some v/\AtD K H (live (RcA H S sa ns) fun _=>none) x v:=fun i x e=>by
  obtain⟨v,e1,e2⟩:=h.get e
  exact⟨v,e1,AtD.more (fun a z=>⟨.inl z,fun z=>z,fun i z=>nomatch z⟩) _ _ e2⟩
 have no:∀ (i:Nat) (l:L),((ds.map L.d).map some)[i]? = some (some l)->∃ x,l=.d x/\ds[i]? = some x:=fun i l e=>by
  rw [getElem?_map,getElem?_map] at e
  cases q:ds[i]? with
  | none=>rw [q] at e;cases e
  | some x=>rw [q] at e;cases e;exact⟨x,rfl,rfl⟩
 refine⟨fun i x e=>?_,fun i xs e=>?_,fun i xs e=>?_,fun i k e=>?_,fun i e=>?_,(fun i j p e=>nomatch e),(fun i p e=>nomatch e),fun p z=>.inr z,fun p z=>.inr z,fun b o _ e=>e,fun b z=>z,fun p z=>z.elim,fun p z=>z.elim (fun z=>z.elim) fun z=>z.elim,(fun i p e=>nomatch e),sc,?_⟩
 ·obtain⟨y,e1,e2⟩:=no i _ e
  cases e1
  obtain⟨v,h1,h2⟩:=hat i x e2
  exact⟨v,by rw [getElem?_map,h1];rfl,h2⟩
 ·obtain⟨_,e1,_⟩:=no i _ e;cases e1
 ·obtain⟨_,e1,_⟩:=no i _ e;cases e1
 ·obtain⟨_,e1,_⟩:=no i _ e;cases e1
 ·obtain⟨_,e1,_⟩:=no i _ e;cases e1
 ·rw [length_map,length_map,length_map,h.length]
noncomputable def Ret(K:W.Frag)(H:Hp)(S:Addr->Prop)(H':Hp):RV->V->Prop
 | .d x,v=>AtD K H' (fun a=>S a ∨ H a=none) x v
 | .new xs,v=>∃ p vs,v=.ref p/\H p=none/\H' p=some (.lst vs)/\a0a K H' (fun a=>(S a ∨ H a=none)/\a ≠ p) xs vs
theorem c9m{sp:DSp}{ds:List PyData}{vs:List V}{Q:VK}{E:XK}{Qd:RV->Rho->Prop}(sc:Scr K H sa (ns.map V.int))(h:a0a K H S ds vs)(hs:sp (ds.map L.d) Qd)
  (hq:∀ r v H' ρ',Qd r ρ'->Same H H'->Ret K H S H' r v->Q v H'):spD K sp vs H Q E:=by
 refine⟨RcA H S sa ns,fun _=>none,ds.map L.d,Qd,rfl,fun p z=>z,fun p z=>z.elim,fun p z=>z,fun _=>rfl,c4t sc h,hs,fun r O' ρ' σ' v H' q ro=>?_⟩
 cases r with
 | d x=>exact hq _ v H' _ q (fun b o e=>ro.1.same b o (fun z=>z) e) (AtD.more (fun a z=>z.1) _ _ ro.2)
 | new xs =>
  obtain⟨p,vs,rfl,R',fr,hp,ha⟩:=ro
  refine hq _ _ H' _ q (fun b o e=>R'.same b o (fun z=>z) e) ⟨p,vs,rfl,?_,hp,?_⟩
  ·exact fr.1
  ·exact a0a.more (fun a z=>⟨z.1,(a2z z).2⟩) _ _ ha
end
end L2
end
section
namespace L2
open PySem PySem.Spec PySem.Calls PyProof.Rows PySem.W PySem.Builtin PySem.Builtin.ObjectAttr
section
variable{X:Cx}{pins:List (Addr × Obj)}{σ:St}{H:Hp}{s:Shared}{a C d:Addr}{f:Str}{v:V}{A:Around}{E:Value->Shared->Prop}{fs:List (Str × V)}{od:Option Addr}
end
structure XOk2(K:Frag)(C:Addr):Prop where
 at_:∃ o cd,K.lookup C=some o/\o.data=.cls cd
 fa:XFacts K C
end L2
end
section
namespace L2
open PySem PySem.Spec PyProof.Rows
theorem b7c{c:Nat}:∀ {a b x y:List Nat},c ∉ a->c ∉ b->a ++ c :: x=b ++ c :: y->a=b/\x=y
 | [],[],x,y,_,_,e=>⟨rfl,(List.cons.inj e).2⟩
 | [],b :: bs,x,y,_,hb,e=>absurd (mem_cons.mpr (.inl (List.cons.inj e).1)) hb
 | a :: as,[],x,y,ha,_,e=>absurd (mem_cons.mpr (.inl (List.cons.inj e).1.symm)) ha
 | a :: as,b :: bs,x,y,ha,hb,e=>by
  obtain⟨e1,e2⟩:=List.cons.inj e
  obtain⟨r1,r2⟩:=b7c (a:=as) (b:=bs) (fun h=>ha (mem_cons_of_mem _ h)) (fun h=>hb (mem_cons_of_mem _ h)) e2
  exact⟨by rw [e1,r1],r2⟩
theorem a4q{sep x y:Str}{r:List Str}:(Str.join sep (x :: y :: r)).cps.toList=x.cps.toList ++ (sep.cps.toList ++ (Str.join sep (y :: r)).cps.toList):=by
 show(x ++ sep ++ Str.join sep (y :: r)).cps.toList=_
 show((x.cps ++ sep.cps) ++ (Str.join sep (y :: r)).cps).toList=_
 rw [toList_append,toList_append,List.append_assoc]
theorem b5j{c:Nat}:∀ {A B:List Str},A ≠ []->B ≠ []->(∀ p ∈ A,c ∉ p.cps.toList)->(∀ p ∈ B,c ∉ p.cps.toList)->Str.join ⟨#[c]⟩ A=Str.join ⟨#[c]⟩ B->A=B
 | [],_,h,_,_,_,_=>absurd rfl h
 | _,[],_,h,_,_,_=>absurd rfl h
 | [a],[b],_,_,_,_,e=>by rw [show a=b from e]
 | [a],b :: b' :: s,_,_,ha,_,e=>by
  have e2:=congrArg (fun z:Str=>z.cps.toList) e
  rw [a4q] at e2
  refine absurd ?_ (ha a (mem_cons_self ..))
  show c ∈ a.cps.toList
  have e3:a.cps.toList=_:=e2
  rw [e3]
  exact mem_append_right _ (mem_append_left _ (mem_cons_self ..))
 | a :: a' :: r,[b],_,_,_,hb,e=>by
  have e2:=congrArg (fun z:Str=>z.cps.toList) e
  rw [a4q] at e2
  refine absurd ?_ (hb b (mem_cons_self ..))
  show c ∈ b.cps.toList
  have e3:_=b.cps.toList:=e2
  rw [← e3]
  exact mem_append_right _ (mem_append_left _ (mem_cons_self ..))
 | a :: a' :: r,b :: b' :: s,_,_,ha,hb,e=>by
  have e2:=congrArg (fun z:Str=>z.cps.toList) e
  rw [a4q,a4q] at e2
  obtain⟨r1,r2⟩:=b7c (ha a (mem_cons_self ..)) (hb b (mem_cons_self ..)) e2
  have e4:Str.join ⟨#[c]⟩ (a' :: r)=Str.join ⟨#[c]⟩ (b' :: s):=Str.ext' (Array.toList_inj.mp r2)
  have e5:a=b:=Str.ext' (Array.toList_inj.mp r1)
  rw [e5,b5j (A:=a' :: r) (B:=b' :: s) (fun z=>nomatch z) (fun z=>nomatch z) (fun p hp=>ha p (mem_cons_of_mem _ hp)) (fun p hp=>hb p (mem_cons_of_mem _ hp)) e4]
theorem a7w(sep:Str)(l:List Str):Txt.join sep l=Str.join sep l:=eq_of_beq (PyProof.Rows.join_plain_closes sep l)
theorem b1g{c:Nat}{ws:List Str}(hn:ws ≠ [])(h:∀ p ∈ ws,c ∉ p.cps.toList):Txt.split (Txt.join ⟨#[c]⟩ ws) ⟨#[c]⟩=ws:=by
 rw [a7w]
 refine(b5j (c:=c) ?_ hn (StrLaws.split_free _ c) h (StrLaws.join_split _ _))
 intro e
 have:=PyProof.Rows.split_pos (Str.join ⟨#[c]⟩ ws) ⟨#[c]⟩
 rw [e] at this
 simp at this
end L2
end
section
namespace K84
open PySem L2 Sn
open Lean in
def b9f (p : Bool) : MacroM (TSyntaxArray `Lean.Parser.Tactic.simpLemma) := (("↓c9i ↓c3x d3k c1l c1m c1n ↓itT ↓itF ↓d1y ↓d3j mapC mapN c3r c7x c7y ↓c8y ↓c8z c9a c9b c9c ↓c8w d3p ↓d1s d3m ↓c7q ↓dIf_a ↓c7r ↓d1t ↓c7s ↓d1v ↓c7t ↓d1w ↓d1x ↓dC_a ↓dOp_a ↓dCB_a ↓d1z ↓d2a ↓d2b ↓dFz_a ↓d2c ↓c7u ↓dB_a ↓d2d ↓dOr_a ↓d2e ↓d2f ↓c7v ↓d2g ↓c7w ↓c3s ↓dIs_a ↓c1f ↓c3t ↓c7z ↓c3u ↓c8b ↓c3v ↓c3w ↓d2j ↓d2l ↓fz_d ↓fz_sl ↓fzL_d ↓d2m ↓fzs_n ↓fzs_c ↓c8h ↓dSl_a ↓c4l ↓c4m asT_t c8n c8o c8p List.all_cons List.all_nil c8m d2h okL_o okL_b d2i asI_i ioJ_o ioJ_b ioJ_t fzJ_d fzJ_o d2n d2o d2p d2s c8c c8d c3y c3z c4a c4b c4c c4d c8e c8f c8g d2t d2u d2v d2w d2x flC_n flC_c d2y c8i c4e c4f c4g c4h c4i c4j asB_b tru_b tru_n tru_i tru_l tru_t d2z d3a d3b d3c d3d d3e d3f a5c c0p d1o d1p d1q d1r c3p c3q c7o c7p fIx_l fIx_t List.getElem?_cons_zero List.getElem?_cons_succ List.getElem?_nil List.set_cons_zero List.set_cons_succ Option.join_some Option.join_none Option.bind_some Option.bind_none Option.map_some Option.map_none Option.isSome_some List.length_cons List.length_nil List.cons_append List.nil_append b1a Nat.reduceAdd Nat.reduceSub Bool.not_true Bool.not_false" ++ (if p then " ↓c8a ↓d2k c6b atI_1 atI_2 atI_3 atI_4 inF_s inF_i Bool.and_self Bool.and_true Bool.or_false Bool.or_true Bool.true_or Bool.false_or d2q d2r c3n c3o c1e List.map_cons List.map_nil List.replicate if_true if_false Bool.false_eq_true true_and and_true List.nodup_cons List.nodup_nil List.not_mem_nil not_false_eq_true List.mem_cons Nat.reduceLeDiff Nat.reduceLT reduceCtorEq Nat.zero_add Nat.reduceEqDiff false_or or_false" else "")).splitOn " ").toArray.mapM fun s => if s.startsWith "↓" then `(Parser.Tactic.simpLemma| ↓$(mkIdent (s.drop 1).toName):ident) else `(Parser.Tactic.simpLemma| $(mkIdent s.toName):ident)
local macro_rules | `(tactic| walk_at "p1") => do let a ← b9f true; `(tactic| simp only [$[$a:simpLemma],*])
local macro_rules | `(tactic| walk_at "d1") => do let a ← b9f false; `(tactic| first | dsimp only [$[$a:simpLemma],*] | walk_at "p1")
local macro_rules | `(tactic| walk_at "dd") => `(tactic| (repeat first | (with_reducible refine b6u ?_) | walk_at "d1"))
local macro_rules | `(tactic| walk_at "k1") => do let a ← b9f true; `(tactic| simp +decide only [$[$a:simpLemma],*])
local macro_rules | `(tactic| walk_at "dk") => `(tactic| (repeat first | (with_reducible refine b6u ?_) | walk_at "k1"))
noncomputable def top(i:Nat):Stmt:=PySem.Challenge.pw_worldsay_k84_papers_written.main.body.getD i (.Pass ⟨0,0,0,0⟩)
--TOP
theorem usS{α:Type}{us:List α}{n:Nat}(h:us.length=n + 1):∃ a r,us=a :: r/\r.length=n:=by
 cases us with
 | nil=>cases h
 | cons a r=>exact⟨a,r,rfl,Nat.succ.inj h⟩
structure Bl(mg:Str->Option Value):Prop where
 len_:mg "len" = none
 range_:mg "range" = none
 tuple_:mg "tuple" = none
 bool_:mg "bool" = none
 isinstance_:mg "isinstance" = none
 reversed_:mg "reversed" = none
 max_:mg "max" = none
 zip_:mg "zip" = none
 list_:mg "list" = none
 str_:mg "str" = none
 enumerate_:mg "enumerate" = none
 dict_:mg "dict" = none
 sum_:mg "sum" = none
 int_:mg "int" = none
 min_:mg "min" = none
 sorted_:mg "sorted" = none
 all_:mg "all" = none
 set_:mg "set" = none
 repr_:mg "repr" = none
 any_:mg "any" = none
def c2c(K:W.Frag):Sp:=fun vs H Q _=>∃ (v:Addr) (ns:List Int) (k:Int),vs=[.ref v,.int k]/\SqL K H v (ns.map V.int)/\0 <= k/\∀ c:Int,(ns=[]->c=0)->Q (.int c) H
def spBy(K:W.Frag):Sp:=fun vs H Q _=>∃ (v:Addr) (ns:List Int) (k many:Int),vs=[.ref v,.int k,.int many]/\SqL K H v (ns.map V.int)/\ns.length <= 63/\0 <= k/\k <= 1000000/\0 < many/\∀ r:Int,0 <= r->r < many->Q (.int r) H
def c2d:DSp:=fun ls Q=>∃ (k:Nat) (many:Int),ls=[.tape k,.d (.int many)]/\0 < many/\k < 1000000/\∀ r:Int,0 <= r->r < many->Q (.d (.int r)) [some (.tape (k + 1)),none]
section
variable{P:Program}{w:World}{K:W.Frag}{mg:Str->Option Value}{base:Heap}
abbrev a2o:Stmt:=top 15
theorem b1u:FnScope ["_law_script","_law_k"] ["_law_script","_law_k"] (a0f a2o):=⟨rfl,rfl,rfl,by decide +kernel,rfl,by decide +kernel,by decide +kernel⟩
theorem b9g{f:Addr}{fd:FuncData} (F:Fun K "_law_cell_at" "_law_cell_at" a2o f fd) (B:Bl mg):FnOk P w K mg base CX0 1 f fd ["_law_script","_law_k"] (c2c K):=by
 refine F.ok b1u (fun vs H Q E h=>?_) (fun cdv A outer s H vs Q E hr h=>?_)
 ·obtain⟨v,ns,k,rfl,_⟩:=h
  rfl
 obtain⟨v,ns,k,rfl,hv,hk,q⟩:=h
 refine⟨_,(a0s (a9a (a5t c5r (a2u a2v rfl B.len_ a5a (a0e (pv 0) a0h)) a0t (a0u _))
  (a1h (a2s (a6k a4g (pv 0) (a1l a6s (pv 1) (a2u a2v rfl B.len_ a5a (a0e (pv 0) a0h))) (fun _ _=>rfl))))
  a5s)
  (a1h (a2s a0t))),?_⟩
 have hl:(ns.map V.int).length=ns.length:=length_map _
 refine⟨_,rfl,v,_,rfl,.inl hv,_,_,rfl,rfl,_,rfl,?_⟩
 rw [hl]
 refine ite2 (fun c=>?_) (fun c=>?_)
 ·have c':(0:Int) < (ns.length:Int):=of_decide_eq_true c
  refine⟨_,rfl,_,rfl,_,rfl,v,_,rfl,.inl hv,_,_,rfl,rfl,?_,?_⟩
  ·rw [hl];exact c'
  ·rw [hl]
   have m0:0 <= k % (ns.length:Int):=emod_nonneg _ (by omega)
   have m1:k % (ns.length:Int) < (ns.length:Int):=Int.emod_lt_of_pos _ c'
   obtain⟨d,e1,e2,_⟩:=c0o (xs:=ns.map V.int) m0 (by rw [hl];exact m1)
   obtain⟨n,_,rfl⟩:=mem_map.mp e2
   exact⟨v,_,_,_,rfl,rfl,hv,e1,q n fun e=>by rw [e] at c';exact absurd c' (by decide)⟩
 ·exact q 0 fun _=>rfl
abbrev a7x:Stmt:=top 16
theorem a5e:FnScope ["_law_script","_law_k","_law_many","_law_cell","_law_part","_law_seed"] ["_law_script","_law_k","_law_many"] (a0f a7x):=⟨rfl,rfl,rfl,by decide +kernel,rfl,by decide +kernel,by decide +kernel⟩
theorem ok_by{f f1:Addr}{fd fd1:FuncData} (F:Fun K "_law_by" "_law_by" a7x f fd) (B:Bl mg) (a2a:Def K mg "_law_cell_at" a2o ["_law_script","_law_k"] f1 fd1):FnOk P w K mg base CX0 2 f fd ["_law_script","_law_k","_law_many"] (spBy K):=by
 have b3c:FnOk P w K mg base CX0 1 f1 fd1 ["_law_script","_law_k"] (c2c K):=b9g a2a.fn B
 refine F.ok a5e (fun vs H Q E h=>?_) (fun cdv A outer s H vs Q E hr h=>?_)
 ·obtain⟨v,ns,k,many,rfl,_⟩:=h
  rfl
 obtain⟨v,ns,k,many,rfl,hv,hl,hk,hk2,hm,q⟩:=h
 refine⟨_,(a0s (a2f (i:=3) a5e.nd rfl (Or.inl rfl) (a2h a2a b3c hr rfl (a0e (pv 0) (a0e (pv 1) a0h))))
  (a0s (a2f (i:=4) a5e.nd rfl (Or.inl rfl) a0t)
  (a0s (a9a (a5t op_ge (pv 3) (a1l d0m a0t a0t) (a0u _))
  (a1h (a2f (i:=4) a5e.nd rfl (Or.inl rfl) (a1l d0n (pv 3) (a1l a8i a0t (a1l c6p (pv 1) (a2u a2v rfl B.len_ a5a (a0e (pv 0) a0h)))))))
  a5s)
  (a0s (a9a (a5t c5r (pv 4) a0t (a0u _))
  (a1h (a2s (a1l a6s (pv 4) (pv 2))))
  a5s)
  (a0s (a2f (i:=5) a5e.nd rfl (Or.inl rfl) (a1l a8h (a1l a8h (a1l a6s (pv 3) a0t) (a1l a8i (a1l a8i a0t (pv 1)) (pv 1))) a0t))
  (a1h (a2s (a1l a6s (a1l a6s (a1l a8i (a1l a6s (a1l a8i (pv 5) a0t) a0t) a0t) a0t) (pv 2))))))))),?_⟩
 have hln:(ns.map V.int).length=ns.length:=length_map _
 refine⟨_,rfl,_,rfl,v,ns,k,rfl,hv,hk,fun c hc=>?_⟩
 have e64:(2:Int) ^ 64=18446744073709551616:=by decide
 refine⟨_,rfl,_,_,rfl,rfl,⟨by decide,by decide,by decide⟩,_,_,rfl,rfl,_,rfl,?_⟩
 refine ite2 (fun c1=>?_) (fun c1=>?_)
 ·have c1':(10:Int) ^ (18:Int).toNat <= c:=of_decide_eq_true c1
  have hne:0 < ns.length:=by
   cases ns with
   | nil=>rw [hc rfl] at c1';exact absurd c1' (by decide)
   | cons _ _=>exact Nat.succ_pos _
  have hd0:0 <= k / (ns.length:Int):=Int.ediv_nonneg hk (by omega)
  refine⟨_,rfl,_,rfl,_,rfl,v,_,rfl,.inl hv,_,_,rfl,rfl,?_,_,_,rfl,rfl,.inl ⟨by decide,by decide⟩,_,_,rfl,rfl,?_,?_⟩
  ·rw [hln];exact⟨by omega,by omega⟩
  ·rw [hln];show(0:Int) <= 20 * (k / (ns.length:Int));omega
  refine⟨_,rfl,_,_,rfl,rfl,_,rfl,?_⟩
  refine ite2 (fun c2=>?_) (fun c2=>?_)
  ·exact⟨_,rfl,_,rfl,_,_,rfl,rfl,hm,q _ (emod_nonneg _ (by omega)) (Int.emod_lt_of_pos _ hm)⟩
  ·refine⟨_,rfl,_,_,rfl,rfl,(by show(0:Int) < 1000003;decide),_,rfl,_,_,rfl,rfl,.inl ⟨by decide,by decide⟩,_,rfl,_,_,rfl,rfl,.inr ⟨by omega,by omega⟩,_,_,rfl,rfl,_,_,rfl,rfl,?_⟩
   refine⟨_,rfl,_,_,rfl,rfl,.inr ⟨by decide,by decide⟩,_,_,rfl,rfl,(by show(0:Int) < 999983;decide),_,_,rfl,rfl,.inr ⟨by decide,by decide⟩,_,_,rfl,rfl,(by show(0:Int) < 524287;decide),_,rfl,_,_,rfl,rfl,hm,?_⟩
   exact q _ (emod_nonneg _ (by omega)) (Int.emod_lt_of_pos _ hm)
 ·refine⟨_,rfl,_,_,rfl,rfl,_,rfl,?_⟩
  refine ite2 (fun c2=>?_) (fun c2=>?_)
  ·exact⟨_,rfl,_,rfl,_,_,rfl,rfl,hm,q _ (emod_nonneg _ (by omega)) (Int.emod_lt_of_pos _ hm)⟩
  ·refine⟨_,rfl,_,_,rfl,rfl,(by show(0:Int) < 1000003;decide),_,rfl,_,_,rfl,rfl,.inl ⟨by decide,by decide⟩,_,rfl,_,_,rfl,rfl,.inr ⟨by omega,by omega⟩,_,_,rfl,rfl,_,_,rfl,rfl,?_⟩
   refine⟨_,rfl,_,_,rfl,rfl,.inr ⟨by decide,by decide⟩,_,_,rfl,rfl,(by show(0:Int) < 999983;decide),_,_,rfl,rfl,.inr ⟨by decide,by decide⟩,_,_,rfl,rfl,(by show(0:Int) < 524287;decide),_,rfl,_,_,rfl,rfl,hm,?_⟩
   exact q _ (emod_nonneg _ (by omega)) (Int.emod_lt_of_pos _ hm)
abbrev a5n:Stmt:=top 17
theorem b5v:FnScope ["_law_tape","_law_many"] ["_law_tape","_law_many"] (a0f a5n):=⟨rfl,rfl,rfl,by decide +kernel,rfl,by decide +kernel,by decide +kernel⟩
theorem c9n{f f1 f2:Addr}{fd fd1 fd2:FuncData} (F:Fun K "_law_next" "_law_next" a5n f fd) (B:Bl mg) (a2a:Def K mg "_law_cell_at" a2o ["_law_script","_law_k"] f1 fd1)
  (a7y:Def K mg "_law_by" a7x ["_law_script","_law_k","_law_many"] f2 fd2):FnOk P w K mg base CX0 3 f fd ["_law_tape","_law_many"] (spD K c2d):=by
 have c4u:FnOk P w K mg base CX0 2 f2 fd2 ["_law_script","_law_k","_law_many"] (spBy K):=ok_by a7y.fn B a2a
 refine F.ok b5v (fun vs H Q E h=>?_) (fun cdv A outer s H vs Q E hr h=>?_)
 ·obtain⟨c,O,ls,Qd,_,_,_,_,_,R,⟨k,many,rfl,_⟩,_⟩:=h
  have:=R.len
  rw [length_map] at this
  exact this
 obtain⟨c,O,ls,Qd,_,_,_,_,_,R,⟨k,many,rfl,hm,hk2,q⟩,fin⟩:=h
 obtain⟨t,hO,hσ0,ht⟩:=R.tap 0 k rfl
 obtain⟨v1,hσ1,a1⟩:=R.dat 1 _ rfl
 have e1:=a6x a1
 subst e1
 have hvs:vs=[.ref t,.int many]:=by
  have hl:=R.len
  rw [length_map] at hl
  obtain⟨x,us,rfl,h1⟩:=usS (n:=1) (by first | exact hl | exact hl.symm)
  obtain⟨y,us,rfl,h2⟩:=usS (n:=0) h1
  obtain rfl:=List.eq_nil_of_length_eq_zero h2
  have e0:x=.ref t:=by simpa using hσ0
  have e1:y=.int many:=by simpa using hσ1
  rw [e0,e1]
 subst hvs
 have hs:=R.sc
 have hl:c.ns.length <= 63:=by simpa using hs.2.1
 refine⟨_,(a0s (d0j (a1l a8h (a6k a4g (pv 0) a0t (fun _ _=>rfl)) a0t) (d0i (pv 0) a0t set_list))
  (a1h (a2s (a2h a7y c4u hr rfl (a0e (a6k a4g (pv 0) a0t (fun _ _=>rfl)) (a0e (a6k a4g (pv 0) a0t (fun _ _=>rfl)) (a0e (pv 1) a0h))))))),?_⟩
 have ht':(upd H t (.lst ([V.ref c.sa,V.int k].set 1 (.int ((k:Int) + 1))))) t=some (.lst [.ref c.sa,.int ((k:Int) + 1)]):=a0c
 obtain⟨R2,P2⟩:=R.write (l:=.tape (k + 1)) (xs:=[]) (vs':=[.ref c.sa,.int ((k + 1:Nat):Int)]) hO ht (.inr (.inr ⟨k,rfl⟩)) (.inr (.inr ⟨k,k + 1,rfl,rfl,rfl⟩))
 have ek:((k + 1:Nat):Int)=(k:Int) + 1:=by omega
 rw [ek] at R2
 refine⟨_,rfl,t,_,1,_,rfl,rfl,SqL.of ht,rfl,_,_,rfl,rfl,_,rfl,t,_,1,1,rfl,rfl,ht,rfl,?_⟩
 refine⟨_,rfl,t,_,0,_,rfl,rfl,SqL.of ht',rfl,_,rfl,t,_,1,_,rfl,rfl,SqL.of ht',rfl,_,rfl,?_⟩
 refine⟨_,c.ns,_,_,rfl,R2.sc.seq,hl,by omega,by omega,hm,fun r h0 h1=>?_⟩
 exact fin (.d (.int r)) O [some (.tape (k + 1)),some (.d (.int many))] _ _ _ (q r h0 h1) ⟨R2,a1v r⟩
end
section
variable{P:Program}{w:World}{K:W.Frag}{mg:Str->Option Value}{base:Heap}{n:Nat}
abbrev b9h(P:Program)(w:World)(K:W.Frag)(mg:Str->Option Value)(base:Heap)(n:Nat)(f:Addr)(fd:FuncData):Prop:=FnOk P w K mg base CX0 n f fd ["_law_tape","_law_many"] (spD K c2d)
abbrev b9i(K:W.Frag)(mg:Str->Option Value)(f:Addr)(fd:FuncData):Prop:=Def K mg "_law_next" a5n ["_law_tape","_law_many"] f fd
end
abbrev FIG:Str:="0123456789"
noncomputable def a5o(c:Nat):Bool:=Txt.contains FIG ⟨#[c]⟩
noncomputable def c2e(x:Str):Bool:=match x.cps.toList with
 | c :: _=>!decide ((⟨#[c]⟩:Str) = "0") || decide (x = "0")
 | []=>false
noncomputable def figs(m:Int)(x:Str):Bool:=decide (1 <= (x.length:Int)) && decide ((x.length:Int) <= m) && x.cps.toList.all a5o && c2e x
theorem d3w{x:Str}(h:x.length <= 1000000):fLen [.str x]=some (.int (x.length:Int)):=if_pos (by rw [sizeLine_eq];omega)
theorem b1v(x:Str):x.cps.toList.length=x.length:=by simp [Str.length]
theorem a0k{α:Type}{o:Option α}{x:α}{Q:α->Prop}(e:o=some x)(h:Q x):need o Q:=by rw [e];exact h
noncomputable def num(x:Str):Int:=(PySem.intText? x).getD 0
theorem a3p{x:Str}{m:Int}(h:figs m x=true)(hm:m <= 100):PySem.intText? x=some (num x)/\x.length <= 100:=by
 unfold figs at h
 simp only [and_eq_true] at h
 obtain⟨⟨⟨h1,h2⟩,h3⟩,_⟩:=h
 have h1:=of_decide_eq_true h1
 have h2:=of_decide_eq_true h2
 have hn:x.cps.toList ≠ []:=fun e=>by have:=b1v x;rw [e] at this;simp at this;omega
 have hd:=PySem.intText_digits (x:=x) (fun c hc=>c1t (all_eq_true.mp h3 c hc)) hn (by omega)
 exact⟨by unfold num;rw [hd];rfl,by omega⟩
def b1h:DSp:=fun ls Q=>∃ (x:Str) (m:Int),ls=[.d (.str x),.d (.int m)]/\x.length <= 1000000/\m <= 100/\Q (.d (.bool (figs m x))) [none,none]
section
variable{P:Program}{w:World}{K:W.Frag}{mg:Str->Option Value}{base:Heap}{n:Nat}
abbrev a4b:Stmt:=top 6
theorem b3d:FnScope ["text","most"] ["text","most"] (a0f a4b):=⟨rfl,rfl,rfl,by decide +kernel,rfl,by decide +kernel,by decide +kernel⟩
theorem c9o{f:Addr}{fd:FuncData} (F:Fun K "is_figures" "is_figures" a4b f fd) (B:Bl mg) (m_FIGURES:∃ t,mg "FIGURES" = some (.str FIG t)):FnOk P w K mg base CX0 (n + 1) f fd ["text","most"] (spD K b1h):=by
 refine F.dok b3d (fun cdv A outer s H E hr ls Qd h=>?_) (fun ls Qd hq8=>by obtain⟨_,_,e,_⟩:=hq8;rw [e];rfl)
 obtain⟨x,m,rfl,hl,hm,q⟩:=h
 refine⟨rfl,?_⟩
 refine⟨_,(a0p (a5l (DW.toT (b3m (a8l (c3h c5q (c0q _) c5q (c0q _) a0m (a4n a4t b0v rfl B.len_ a5a (a0b (dv 0) a0g)) (dv 1))) (b0y (a8l (a6d (a4n (b2u rfl) c8x rfl B.all_ b4x (a0b (a2e (a4p ["sign"] [] rfl (by rfl) (by decide +kernel) (d3r (dv 0)) (fun _ _ _=>(a2p (i:=0) (show(["sign"]:List Str).Nodup by decide +kernel) rfl (Or.inl rfl))) (fun _ _ _=>a3k) (fun _ _ _=>(a3w d3s d3t (dv 0) (c9h rfl m_FIGURES) (by rfl))))) a0g)))))))
  (a0v (a1x b0t))
  a3b)
  (a0v (a1x (de_or (a3w (a7f hr.units) a7e (a1s a1e a1t (dv 0) a0m (fun _ _=>rfl)) a1r (a0u _)) (a7c (a3w (a6f hr.units) a6e (dv 0) a1r (a0u _))))))),?_⟩
 walk_at "dd"
 refine a0k (d3w hl) ?_
 walk_at "dd"
 refine c8j (fun c1=>?_) (fun c1=>?_)
 ·walk_at "dd"
  refine c4k (fun c2=>?_) (fun c2=>?_)
  ·have ef:figs m x=false:=by unfold figs;rw [decide_eq_false c2];simp
   rw [← ef]
   exact q
  refine⟨by rw [length_map,b1v];omega,?_⟩
  refine L2.a7t (fun ρ=>∃ v0:Option L,ρ=[v0]) (fun d=>match d with | .str z=>some (.bool (z.cps.toList.all a5o)) | _=>none) ⟨_,rfl⟩ ?_ ?_
  ·rintro y ρ N hy ⟨v0,rfl⟩ hN
   obtain⟨c,hc,rfl⟩:=mem_map.mp hy
   have el:(Str.cps ⟨#[c]⟩).toList.all a5o=Txt.contains FIG ⟨#[c]⟩:=by simp [a5o]
   simp only [el] at hN
   walk_at "dd"
   exact hN _ ⟨_,rfl⟩
  rintro ρ _
  have ef:(signs x).filterMap (fun d=>match d with | .str z=>some (PyData.bool (z.cps.toList.all a5o)) | _=>none)=(x.cps.toList.map a5o).map .bool:=by
   unfold signs
   generalize x.cps.toList=l
   induction l with
   | nil=>rfl
   | cons c r ih=>rw [map_cons,filterMap_cons,ih];simp
  rw [ef,c4n,a5c]
  walk_at "dd"
  have ea:(x.cps.toList.map a5o).all id=x.cps.toList.all a5o:=by rw [all_map];rfl
  rw [ea]
  cases hx:x.cps.toList.all a5o with
  | false =>
   walk_at "dd"
   have ef:figs m x=false:=by unfold figs;rw [hx];simp
   rw [← ef]
   exact q
  | true =>
   walk_at "dd"
   obtain⟨c,r,hc⟩:∃ c r,x.cps.toList=c :: r:=by
    cases e:x.cps.toList with
    | nil=>have:=b1v x;rw [e] at this;simp at this;omega
    | cons c r=>exact⟨c,r,rfl⟩
   have ei:fIx (.str x) (.int 0)=some (.str ⟨#[c]⟩):=by
    show(if x.length <= sizeLine then(atI x.cps.toList 0).map _ else none)=_
    rw [if_pos (by rw [sizeLine_eq];omega),hc,c6b];rfl
   refine a0k ei ?_
   have ef:figs m x=(!decide ((⟨#[c]⟩:Str) = "0") || decide (x = "0")):=by unfold figs c2e;rw [hx,hc,decide_eq_true c1,decide_eq_true c2];rfl
   rw [ef] at q
   walk_at "dd"
   refine c6a (fun e=>?_) (fun e=>?_)
   ·rw [show(!decide ((⟨#[c]⟩:Str) = "0"))=true from e] at q;exact q
   ·rw [show(!decide ((⟨#[c]⟩:Str) = "0"))=false from e] at q;exact q
 ·walk_at "dd"
  have ef:figs m x=false:=by unfold figs;rw [decide_eq_false c1];simp
  rw [← ef]
  exact q
end
structure TxtF(K:W.Frag)(mg:Str->Option Value)(C:Addr):Prop where
 cl:Cls K C
 n1:a1q K C "row"
 n2:a1q K C "words"
 n3:a1q K C "place"
 mgC:mg "Words" = some (.ref C)
structure ExN(K:W.Frag)(mg:Str->Option Value)(NT:Addr):Prop where
 mN:mg "NoText" = some (.ref NT)
 st:XSt K NT
 n1:a1q K NT "row"
 n2:a1q K NT "word"
noncomputable def wfs(r:Int)(wl:Addr)(p:Int):List (Str × V):=[("row",.int r),("words",.ref wl),("place",.int p)]
theorem b7d{r:Int}{wl:Addr}{p:Int}:(wfs r wl p).lookup ("row" : Str)=some (.int r):=rfl
theorem a8t{r:Int}{wl:Addr}{p:Int}:(wfs r wl p).lookup ("words" : Str)=some (.ref wl):=rfl
theorem a3q{r:Int}{wl:Addr}{p:Int}:(wfs r wl p).lookup ("place" : Str)=some (.int p):=rfl
theorem c2f{r:Int}{wl:Addr}{p q:Int}:putF "place" (.int q) (wfs r wl p)=wfs r wl q:=rfl
def WOk(C:Addr)(H:Hp)(x dx:Addr)(r:Int)(wl:Addr)(p:Nat)(ws:List Str):Prop:=H x=some (.ins C dx (wfs r wl (p:Int)))/\H wl=some (.lst (ws.map V.str))
def But(x:Addr)(H H':Hp):Prop:=∀ c o,c ≠ x->H c=some o->H' c=some o
def NTd(H:Hp)(d:Addr)(r p:Int):Prop:=H d=some (.ext (nsq d [("row",.int r),("word",.int p)]))
abbrev s_i0:Stmt:=inClass (top 2) 0
abbrev a5w:Stmt:=inClass (top 5) 0
abbrev a5x:Stmt:=inClass (top 5) 1
abbrev a7h:Stmt:=inClass (top 5) 2
abbrev a7i:Stmt:=inClass (top 5) 3
theorem sc_i0:FnScope ["self","row","word"] ["self","row","word"] (a0f s_i0):=⟨rfl,rfl,rfl,by decide +kernel,rfl,by decide +kernel,by decide +kernel⟩
theorem c4v:FnScope ["self","row","text"] ["self","row","text"] (a0f a5w):=⟨rfl,rfl,rfl,by decide +kernel,rfl,by decide +kernel,by decide +kernel⟩
theorem c4w:FnScope ["self","fits"] ["self","fits"] (a0f a5x):=⟨rfl,rfl,rfl,by decide +kernel,rfl,by decide +kernel,by decide +kernel⟩
theorem c9p:FnScope ["self"] ["self"] (a0f a7h):=⟨rfl,rfl,rfl,by decide +kernel,rfl,by decide +kernel,by decide +kernel⟩
theorem c9q:FnScope ["self"] ["self"] (a0f a7i):=⟨rfl,rfl,rfl,by decide +kernel,rfl,by decide +kernel,by decide +kernel⟩
def spI0(C:Addr):Sp:=fun vs H Q _=>∃ (e t:Addr) (a b:Int),vs=[.ref e,.int a,.int b]/\H e=some (.ext (exm e C t none))/\∀ d H',H d=none->H' e=some (.ext (exm e C t (some d)))->H' d=some (.ext (nsq d [("row",.int a),("word",.int b)]))->(∀ x,x ≠ e->x ≠ d->H' x=H x)->Q .non H'
def b1w(C:Addr):Sp:=fun vs H Q _=>∃ (x dx:Addr) (r:Int) (t:Str),vs=[.ref x,.int r,.str t]/\H x=some (.ins C dx [])/\t.length <= 1000000/\∀ wl H',H wl=none->But x H H'->WOk C H' x dx r wl 0 (Txt.split t " ")->Q .non H'
def b1i(C:Addr):Sp:=fun vs H Q _=>∃ (x dx:Addr) (r:Int) (wl:Addr) (p:Nat) (ws:List Str),vs=[.ref x]/\WOk C H x dx r wl p ws/\Q (.bl (decide (p=ws.length))) H
def b5k(C NT:Addr):Sp:=fun vs H Q E=>∃ (x dx:Addr) (r:Int) (wl:Addr) (p:Nat) (ws:List Str),vs=[.ref x]/\WOk C H x dx r wl p ws/\(p=ws.length->Q .non H)/\(p ≠ ws.length->∀ d H',Same H H'->NTd H' d r p->E (.ref NT) (some d) H')
def a9n(P:Program)(w:World)(K:W.Frag)(mg:Str->Option Value)(base:Heap)(n:Nat)(C NT:Addr):Sp:=fun vs H Q E=>∃ (x dx f:Addr) (r:Int) (wl:Addr) (p:Nat) (ws:List Str) (g:Str->Bool),vs=[.ref x,.ref f]/\WOk C H x dx r wl p ws/\p <= ws.length/\b9e P w K mg base n H f g/\(∀ z ∈ ws,z.length <= 1000000) /\
 (∀ z,ws[p]? = some z->g z=true->∀ H',But x H H'->WOk C H' x dx r wl (p + 1) ws->Q (.str z) H')/\((∀ z,ws[p]? = some z->g z=false)->∀ d H',Same H H'->NTd H' d r p->E (.ref NT) (some d) H')
theorem b9j{p A B:Prop}[Decidable p](h:p)(a:A):if decide p=true then A else B:=by rw [decide_eq_true h];exact iteT a
theorem b9k{p A B:Prop}[Decidable p](h:¬ p)(b:B):if decide p=true then A else B:=by rw [decide_eq_false h];exact iteF b
theorem b2y{H H':Hp}{e d:Addr}(he:H e=none)(hd:H d=none)(h:∀ x,x ≠ e->x ≠ d->H' x=H x):Same H (drop H' e):=fun b o q=>by
 have n1:b ≠ e:=fun z=>by rw [z,he] at q;cases q
 have n2:b ≠ d:=fun z=>by rw [z,hd] at q;cases q
 rw [a9l n1,h b n1 n2]
 exact q
section
variable{P:Program}{w:World}{K:W.Frag}{mg:Str->Option Value}{base:Heap}{n:Nat}{C NT:Addr}
theorem ok_i0{f:Addr}{fd:FuncData} (F:Fun K "__init__" "NoText.__init__" s_i0 f fd) (xx:ExN K mg NT):FnOk P w K mg base CX0 1 f fd ["self","row","word"] (spI0 NT):=by
 refine F.ok sc_i0 (fun vs H Q E h=>?_) (fun cdv A outer s H vs Q E hr h=>?_)
 ·obtain⟨e,t,a,b,rfl,_⟩:=h
  rfl
 obtain⟨e,t,a,b,rfl,he,q⟩:=h
 refine⟨_,a0s (ps_x1 (pv 0) (pv 1) rfl) (a1h (ps_x2 (pv 0) (pv 2) rfl)),?_⟩
 refine⟨_,rfl,_,rfl,e,NT,t,rfl,he,xx.st,xx.n1,fun d hd ne=>?_⟩
 refine⟨_,rfl,_,rfl,e,NT,t,d,_,rfl,?_,a0c,(by show 1 < 1000;decide),xx.st,xx.n2,?_⟩
 ·rw [a0d (Ne.symm ne),a0c]
 ·refine q d _ hd ?_ a0c (fun x h1 h2=>?_)
  ·rw [a0d (Ne.symm ne),a0d (Ne.symm ne),a0c]
  ·rw [a0d h2,a0d h2,a0d h1,a0d h2]
theorem c4x{f:Addr}{fd:FuncData} (F:Fun K "__init__" "Words.__init__" a5w f fd) (T:TxtF K mg C):FnOk P w K mg base CX0 (n + 1) f fd ["self","row","text"] (b1w C):=by
 refine F.ok c4v (fun vs H Q E h=>?_) (fun cdv A outer s H vs Q E hr h=>?_)
 ·obtain⟨x,dx,r,t,rfl,_⟩:=h
  rfl
 obtain⟨x,dx,r,t,rfl,hx,ht,q⟩:=h
 refine⟨_,a0s (b0l (pv 0) (pv 1) rfl) (a0s (b0l (pv 0) (b0p PySem.F.plainAttrs_str PySem.F.slot_str_split PySem.F.type_str_split b0c (pv 2) (a0e a4z a0h)) rfl) (a1h (b0l (pv 0) a0t rfl))),?_⟩
 refine⟨_,rfl,_,rfl,x,C,dx,[],rfl,hx,T.cl,T.n1,by decide,?_⟩
 refine⟨_,rfl,rfl,t,_,rfl,rfl,by decide,ht,fun wl hwl=>?_⟩
 have nx:wl ≠ x:=fun z=>by rw [z,a0c] at hwl;cases hwl
 refine⟨_,rfl,x,C,dx,putF "row" (.int r) [],rfl,by rw [a0d (Ne.symm nx),a0c],T.cl,T.n2,(show(1:Nat) < 1000 by decide),?_⟩
 refine⟨_,rfl,x,C,dx,_,rfl,a0c,T.cl,T.n3,(show(2:Nat) < 1000 by decide),?_⟩
 rw [a0d nx] at hwl
 refine q wl _ hwl (fun c o n e=>?_) ⟨a0c,?_⟩
 ·rw [a0d n,a0d n,a0d (fun z=>by rw [z,hwl] at e;cases e),a0d n];exact e
 ·rw [a0d nx,a0d nx,a0c]
theorem c9r{f:Addr}{fd:FuncData} (F:Fun K "are_over" "Words.are_over" a7h f fd) (B:Bl mg) (T:TxtF K mg C):FnOk P w K mg base CX0 (n + 1) f fd ["self"] (b1i C):=by
 refine F.ok c9p (fun vs H Q E h=>?_) (fun cdv A outer s H vs Q E hr h=>?_)
 ·obtain⟨x,dx,r,wl,p,ws,rfl,_⟩:=h
  rfl
 obtain⟨x,dx,r,wl,p,ws,rfl,⟨h1,h2⟩,q⟩:=h
 refine⟨_,a1h (a2s (a6t a9b (a2t (pv 0) rfl) (a2u a2v rfl B.len_ a5a (a0e (a2t (pv 0) rfl) a0h)) (a0u _))),?_⟩
 refine⟨_,rfl,x,C,dx,_,_,rfl,h1,T.cl,T.n3,a3q,?_⟩
 refine⟨_,rfl,x,C,dx,_,_,rfl,h1,T.cl,T.n2,a8t,wl,_,rfl,.inl (SqL.of h2),rfl,?_⟩
 have e:decide (V.int (p:Int)=V.int ((ws.map V.str).length:Int))=decide (p=ws.length):=by
  rw [length_map]
  by_cases c:p=ws.length
  ·rw [c];simp
  ·rw [decide_eq_false c,decide_eq_false (fun z=>c (by injection z with z;omega))]
 rw [e]
 exact q
theorem c4y{f f1 f2:Addr}{fd fd1 fd2:FuncData} (F:Fun K "taken" "Words.taken" a5x f fd) (T:TxtF K mg C) (xx:ExN K mg NT) (m_over:Meth K C "are_over" f1) (b_over:Binds K fd1 ["self"] []) (g_over:FnOk P w K mg base CX0 n f1 fd1 ["self"] (b1i C))
  (M0:XMk K NT f2) (g0:FnOk P w K mg base CX0 n f2 fd2 ["self","row","word"] (spI0 NT)) (b0:Binds K fd2 ["self","row","word"] []):FnOk P w K mg base (CX2 P w) (n + 2) f fd ["self","fits"] (a9n P w K mg base (n + 1) C NT):=by
 refine F.okX2 c4w (fun vs H Q E h=>?_) (fun cdv A outer s H vs Q E hr h=>?_)
 ·obtain⟨x,dx,f,r,wl,p,ws,g,rfl,_⟩:=h
  rfl
 obtain⟨x,dx,f,r,wl,p,ws,g,rfl,⟨h1,h2⟩,hp,⟨o,fdl,pn,spl,ho,hf,gl,bl,hl⟩,hw,q,qX⟩:=h
 refine⟨_,a0s (a9a (PW.pt (c5k (L2.b0h (a9y (pv 0) T.cl m_over g_over (hr.mono (le_succ _)) b_over .nil b0r)) (b9z (b3v (L2.b0h (c4p (i:=1) gl hr rfl bl b0r ho (a0e (a6k a4g (a2t (pv 0) rfl) (a2t (pv 0) rfl) (fun _ _=>rfl)) a0h)))))))
   (a1h (b2x a3o rfl M0 g0 hr rfl xx.mN b0 (a0e (a2t (pv 0) rfl) (a0e (a2t (pv 0) rfl) a0h)) (by decide))) a5s)
  (a0s (b0l (pv 0) (a1l a8h (a2t (pv 0) rfl) a0t) rfl)
  (a1h (a2s (a6k a4g (a2t (pv 0) rfl) (a1l d0l (a2t (pv 0) rfl) a0t) (fun _ _=>rfl))))),?_⟩
 have RS:∀ (H2:Hp) (D:Ends),Same H H2->(∀ z,ws[p]? = some z->g z=false)->b7b E NT (spI0 NT) (a1m (tFld K (tVar 0) "row") (a1m (tFld K (tVar 0) "place") tNil)) D [some (.ref x),some (.ref f)] H2:=fun H2 D s2 hg=>by
  refine⟨_,rfl,x,C,dx,_,_,rfl,s2 _ _ h1,T.cl,T.n1,b7d,_,rfl,x,C,dx,_,_,rfl,s2 _ _ h1,T.cl,T.n3,a3q,fun e t0 he=>⟨e,t0,r,p,rfl,a0c,fun d H' hd k1 k2 k3=>⟨rfl,_,k1,?_⟩⟩⟩
  have ne:d ≠ e:=fun z=>by rw [z,a0c] at hd;cases hd
  rw [a0d ne] at hd
  have s3:=b2y (H':=H') he hd fun y n1 n2=>by rw [k3 y n1 n2,a0d n1]
  exact qX hg d _ (fun b o e=>s3 _ _ (s2 _ _ e)) (by unfold NTd;rw [a9l ne];exact k2)
 refine⟨_,rfl,x,dx,_,rfl,h1,rfl,x,dx,r,wl,p,ws,rfl,⟨h1,h2⟩,_,rfl,?_⟩
 by_cases c:p=ws.length
 ·refine b9j c ?_
  exact iteT (RS H _ (Same.refl _) fun z hz=>by rw [c] at hz;simp at hz)
 refine b9k c ?_
 have pl:p < ws.length:=by omega
 obtain⟨z,hz⟩:∃ z,ws[p]? = some z:=⟨_,getElem?_eq_getElem pl⟩
 refine⟨rfl,_,rfl,x,C,dx,_,_,rfl,h1,T.cl,T.n2,a8t,_,rfl,x,C,dx,_,_,rfl,h1,T.cl,T.n3,a3q,wl,_,(p:Int),.str z,rfl,rfl,SqL.of h2,a3i (j:=p) (by rw [getElem?_map,hz];rfl),hf,?_⟩
 refine hl z H _ (hw z (mem_of_getElem? hz)) (Same.refl _) fun H2 s2=>⟨_,rfl,?_⟩
 cases hg:g z with
 | false=>exact iteT (RS H2 _ s2 fun z' hz'=>by rw [hz] at hz';cases hz';exact hg)
 | true =>
  have k1:=s2 _ _ h1
  have k2:=s2 _ _ h2
  have nx:wl ≠ x:=fun z=>by rw [z,k1] at k2;cases k2
  refine iteF ?_
  refine⟨_,rfl,x,C,dx,_,_,rfl,k1,T.cl,T.n3,a3q,_,_,rfl,rfl,_,rfl,x,C,dx,_,rfl,k1,T.cl,T.n3,(show(3:Nat) < 1000 by decide),?_⟩
  rw [c2f]
  have k3:(upd H2 x (.ins C dx (wfs r wl ((p:Int) + 1)))) wl=some (.lst (ws.map V.str)):=by rw [a0d nx];exact k2
  refine⟨_,rfl,x,C,dx,_,_,rfl,a0c,T.cl,T.n2,a8t,_,rfl,x,C,dx,_,_,rfl,a0c,T.cl,T.n3,a3q,_,_,rfl,rfl,wl,_,(p:Int),.str z,rfl,?_,SqL.of k3,a3i (j:=p) (by rw [getElem?_map,hz];rfl),?_⟩
  ·show V.int (((p:Int) + 1) - 1)=V.int (p:Int)
   rw [Int.add_sub_cancel]
  ·exact q z hz hg _ (fun c o n e=>by rw [a0d n];exact s2 _ _ e) ⟨by rw [a0c];rfl,k3⟩
theorem c9s{f f1 f2:Addr}{fd fd1 fd2:FuncData} (F:Fun K "finish" "Words.finish" a7i f fd) (T:TxtF K mg C) (xx:ExN K mg NT) (m_over:Meth K C "are_over" f1) (b_over:Binds K fd1 ["self"] []) (g_over:FnOk P w K mg base CX0 n f1 fd1 ["self"] (b1i C))
  (M0:XMk K NT f2) (g0:FnOk P w K mg base CX0 n f2 fd2 ["self","row","word"] (spI0 NT)) (b0:Binds K fd2 ["self","row","word"] []):FnOk P w K mg base (CX2 P w) (n + 2) f fd ["self"] (b5k C NT):=by
 refine F.okX2 c9q (fun vs H Q E h=>?_) (fun cdv A outer s H vs Q E hr h=>?_)
 ·obtain⟨x,dx,r,wl,p,ws,rfl,_⟩:=h
  rfl
 obtain⟨x,dx,r,wl,p,ws,rfl,⟨h1,h2⟩,q,qX⟩:=h
 refine⟨_,a1h (a9a (b3v (L2.b0h (a9y (pv 0) T.cl m_over g_over (hr.mono (le_succ _)) b_over .nil b0r)))
   (a1h (b2x a3o rfl M0 g0 hr rfl xx.mN b0 (a0e (a2t (pv 0) rfl) (a0e (a2t (pv 0) rfl) a0h)) (by decide))) a5s),?_⟩
 refine⟨_,rfl,x,dx,_,rfl,h1,rfl,x,dx,r,wl,p,ws,rfl,⟨h1,h2⟩,_,rfl,?_⟩
 by_cases c:p=ws.length
 ·rw [decide_eq_true c]
  exact iteF (q c)
 ·rw [decide_eq_false c]
  refine iteT ⟨_,rfl,x,C,dx,_,_,rfl,h1,T.cl,T.n1,b7d,_,rfl,x,C,dx,_,_,rfl,h1,T.cl,T.n3,a3q,fun e t0 he=>⟨e,t0,r,p,rfl,a0c,fun d H' hd k1 k2 k3=>⟨rfl,_,k1,?_⟩⟩⟩
  have ne:d ≠ e:=fun z=>by rw [z,a0c] at hd;cases hd
  rw [a0d ne] at hd
  exact qX c d _ (b2y he hd fun y n1 n2=>by rw [k3 y n1 n2,a0d n1]) (by unfold NTd;rw [a9l ne];exact k2)
end
theorem But.refl{x:Addr}{H:Hp}:But x H H:=fun _ _ _ e=>e
theorem But.trans{x:Addr}{H H1 H2:Hp}(a:But x H H1)(b:But x H1 H2):But x H H2:=fun c o n e=>b c o n (a c o n e)
theorem But.of{x:Addr}{H H1:Hp}(s:Same H H1):But x H H1:=fun c o _ e=>s c o e
theorem But.keep{x:Addr}{H H1:Hp}{C dx:Addr}{fs:List (Str × V)}(b:But x H H1)(h:H x=some (.ins C dx fs)):Keep (fun _=>False) H H1:=
 ⟨fun c xs e=>b c _ (fun z=>by rw [z,h] at e;cases e) e,fun c o u e=>b c _ (fun z=>by rw [z,h] at e;cases e) e,fun _ _ z=>z.elim⟩
noncomputable def KvT:List (Str × V):=[("yes",.bl true),("no",.bl false)]
def TabT(K:W.Frag)(w:World)(mg:Str->Option Value):Prop:=∃ a:Addr,mg "WORDS_OF_TRUTH" = some (.ref a)/\KDict K w a KvT/\(a == sysModules)=false
noncomputable def isTr(x:Str):Bool:=(KvT.lookup x).isSome
noncomputable def allF(x:Str):Bool:=decide (x = "-") || ((Txt.split x ",").map (figs 9)).all id
noncomputable def oneF(x:Str):Bool:=decide (x = "-") || figs 9 x
noncomputable def fine(k:Nat)(z:Str):Bool:=if k < 2 then figs 9 z else if k=2 then isTr z else if k=3 then allF z else oneF z
noncomputable def okAt(ws:List Str)(k:Nat):Bool:=match ws[k]? with
 | some z=>fine k z
 | none=>false
noncomputable def a2k(ws:List Str):Option Nat:=if okAt ws 0=true then(if okAt ws 1=true then(if okAt ws 2=true then(if okAt ws 3=true then(if okAt ws 4=true then(if ws.length=5 then none else some 5) else some 4) else some 3) else some 2) else some 1) else some 0
noncomputable def trv(x:Str):PyData:=.bool (decide (x = "yes"))
noncomputable def a4c(x:Str):PyData:=if x = "-" then .tuple [] else .tuple ((Txt.split x ",").map fun z=>.int (num z))
noncomputable def a3r(x:Str):PyData:=if x = "-" then .none else .int (num x)
noncomputable def rowD(ws:List Str):PyData:=.tuple [.int (num (ws.getD 0 "")),.int (num (ws.getD 1 "")),trv (ws.getD 2 ""),a4c (ws.getD 3 ""),a3r (ws.getD 4 "")]
theorem a8u{ws:List Str}{k:Nat}{z:Str}(h:ws[k]? = some z):okAt ws k=fine k z:=by unfold okAt;rw [h]
theorem a7j{ws:List Str}{k:Nat}{g:Str->Bool}(hg:∀ z,fine k z=g z)(h:∀ z,ws[k]? = some z->g z=false):okAt ws k=false:=by
 unfold okAt
 cases e:ws[k]? with
 | none=>rfl
 | some z=>exact(hg z).trans (h z e)
theorem a8v{ws:List Str}{k:Nat}{z:Str}(h:ws[k]? = some z):ws.getD k "" = z:=by rw [List.getD_eq_getElem?_getD,h];rfl
theorem c9t{z:Str}(h:isTr z=true):KvT.lookup z=some (.bl (decide (z = "yes"))):=by
 unfold isTr KvT at h
 rw [lookup_cons,lookup_cons] at h
 unfold KvT
 rw [lookup_cons,lookup_cons]
 by_cases e:z = "yes"
 ·subst e;rfl
 ·rw [beq_eq_false_iff_ne.mpr e] at h ⊢
  by_cases e2:z = "no"
  ·subst e2;rfl
  ·rw [beq_eq_false_iff_ne.mpr e2] at h;cases h
theorem all_bools{K:W.Frag}{H:Hp}{S:Addr->Prop}:∀ {bs:List Bool},a0a K H S (bs.map .bool) (bs.map V.bl)
 | []=>.nil
 | b :: r=>.cons (a1j _) all_bools
theorem sdec{a b:Str}:decide (V.str a=V.str b)=decide (a=b):=by
 by_cases e:a=b
 ·rw [e];simp
 ·rw [decide_eq_false e,decide_eq_false fun z=>e (V.str.inj z)]
def b9l(K:W.Frag)(C NT:Addr):Sp:=fun vs H Q E=>∃ (x dx:Addr) (r:Int) (wl:Addr) (ws:List Str) (sa:Addr) (ns:List Int),vs=[.ref x]/\WOk C H x dx r wl 0 ws/\(∀ z ∈ ws,z.length <= 100000)/\L2.Scr K H sa (ns.map V.int) /\
 (a2k ws=none->∀ v H',But x H H'->AtD K H' (fun _=>False) (rowD ws) v->Q v H')/\(∀ k,a2k ws=some k->∀ d H',But x H H'->NTd H' d r k->E (.ref NT) (some d) H')
section
variable{P:Program}{w:World}{K:W.Frag}{mg:Str->Option Value}{base:Heap}{n:Nat}{C NT:Addr}
theorem a5f{x dx wl T:Addr}{r:Int}{p:Nat}{ws:List Str}{σ:St}{H:Hp}{Q:VK}{E:XK}{q:Str}{params:Arguments}{body:Expr}{scope:Scope}{pm:Value}(g:Str->Bool)(hσ:σ[0]? = some (some (.ref x)))(k:WOk C H x dx r wl p ws)(hp:p <= ws.length)(hw:∀ z ∈ ws,z.length <= 1000000)(hT:H T=some (a7q q))
  (lam:∀ f c ct H1,Same H H1->Lam H1 f q params body scope pm c ct->b9e P w K mg base n H1 f g)
  (ok:∀ z H2,ws[p]? = some z->g z=true->But x H H2->WOk C H2 x dx r wl (p + 1) ws->Q (.str z) H2)
  (no:(∀ z,ws[p]? = some z->g z=false)->∀ d H2,Same H H2->NTd H2 d r p->E (.ref NT) (some d) H2) :
  b7u C "taken" (a9n P w K mg base n C NT) [] E (tVar 0) (a1m (tLam T q params body scope pm) tNil) σ H Q:=by
 refine⟨_,hσ,x,dx,_,rfl,k.1,rfl,hT,fun f c ct H1 s1 hf L=>?_⟩
 exact⟨x,dx,f,r,wl,p,ws,g,rfl,⟨s1 _ _ k.1,s1 _ _ k.2⟩,hp,lam f c ct H1 s1 L,hw,fun z hz hg H2 b2 k2=>ok z H2 hz hg ((But.of s1).trans b2) k2,fun hno d H2 s2 nt=>no hno d H2 (s1.trans s2) nt⟩
theorem a7z{H1:Hp}{sa:Addr}{ns:List Int}{z:Str}{Q:VK}(sc:L2.Scr K H1 sa (ns.map V.int))(hz:z.length <= 1000000)(hq:∀ H2,Same H1 H2->Q (.bl (figs 9 z)) H2):spD K b1h [.str z,.int 9] H1 Q E0:=
 c9m (E:=E0) (S:=fun _=>False) (ds:=[.str z,.int 9]) (Qd:=fun r _=>r=.d (.bool (figs 9 z))) sc (.cons (a3j _) (.cons (a1v _) (by unfold a0a;rfl))) ⟨z,9,rfl,hz,by decide,rfl⟩ (fun r v H2 ρ' h s2 ret=>by
  subst h
  have ev:v=.bl (figs 9 z):=by unfold Ret at ret;unfold AtD at ret;exact ret
  rw [ev];exact hq H2 s2)
theorem b7e{x:Addr}{a b:Int}{c:Bool}{z3 z4:Str}{v6:V}{d6:PyData}{H:Hp}{Q:VK}(h6:AtD K H (fun _=>False) d6 v6)(g4:oneF z4=true)(hq:∀ v H',Same H H'->AtD K H' (fun _=>False) (.tuple [.int a,.int b,.bool c,d6,a3r z4]) v->Q v H') :
  tTup (a1m (tVar 1) (a1m (tVar 2) (a1m (tVar 3) (a1m (tVar 6) (a1m (tIf (b7n (tOp rEq (tVar 5) (tC (.str "-")))) (tC .non) (tCB c6f (a1m (tVar 5) tNil))) tNil))))) [some (.ref x),some (.int a),some (.int b),some (.bl c),some (.str z3),some (.str z4),some v6] H Q:=by
 refine⟨_,rfl,_,rfl,_,rfl,_,rfl,_,rfl,rfl,_,rfl,?_⟩
 rw [sdec]
 have fin:∀ (v7:V) (d7:PyData),a3r z4=d7->AtD K H (fun _=>False) d7 v7->(5:Nat) <= sizeLine/\∀ p,H p=none->Q (.ref p) (upd H p (.tup [.int a,.int b,.bl c,v6,v7])):=fun v7 d7 e h7=>by
  refine⟨by rw [sizeLine_eq];omega,fun p hp=>hq _ _ (a0l hp _) (a1z (SqT.of a0c) (.cons (a1v _) (.cons (a1v _) (.cons (a1j _) (.cons (AtD.mono (a0l hp _).keep _ _ h6) (.cons ?_ (by unfold a0a;rfl)))))))⟩
  rw [e]
  exact AtD.mono (a0l hp _).keep _ _ h7
 by_cases e:z4 = "-"
 ·exact b9j e (fin .non .none (if_pos e) a7n)
 ·refine b9k e ?_
  have g:figs 9 z4=true:=by unfold oneF at g4;rw [decide_eq_false e] at g4;exact g4
  exact⟨_,rfl,z4,num z4,rfl,(a3p g (by decide)).1,by have:=(a3p g (by decide)).2;omega,fin (.int (num z4)) _ (if_neg e) (a1v _)⟩
abbrev a5p:Stmt:=top 13
theorem a2d:FnScope ["words","number","point","truth","ranks","choice","numbers"] ["words"] (a0f a5p):=⟨rfl,rfl,rfl,by decide +kernel,rfl,by decide +kernel,by decide +kernel⟩
theorem b5w{f f1 f2 f3 cR T:Addr}{fd fd1 fd2 fd3:FuncData} (F:Fun K "read_row" "read_row" a5p f fd) (B:Bl mg) (TX:TxtF K mg C) (bm:BMain mg base) (hcR:fd.code=.ref cR) (hCR:W.codeHdIn K cR T=true)
  (mMF:∃ t,mg "MOST_FIGURES" = some (.int 9 t)) (mWT:TabT K w mg)
  (m_taken:Meth K C "taken" f1) (b_taken:Binds K fd1 ["self","fits"] []) (g_taken:FnOk P w K mg base (CX2 P w) (n + 2) f1 fd1 ["self","fits"] (a9n P w K mg base (n + 1) C NT))
  (m_wfin:Meth K C "finish" f2) (b_wfin:Binds K fd2 ["self"] []) (g_wfin:FnOk P w K mg base (CX2 P w) (n + 2) f2 fd2 ["self"] (b5k C NT))
  (d_figs:Def K mg "is_figures" a4b ["text","most"] f3 fd3) (g_figs:FnOk P w K mg base CX0 n f3 fd3 ["text","most"] (spD K b1h)):FnOk P w K mg base (CX2 P w) (n + 3) f fd ["words"] (b9l K C NT):=by
 obtain⟨tMF,hMF⟩:=mMF
 obtain⟨aT,hWT,kdT,syT⟩:=mWT
 refine F.okX2c a2d (fun vs H Q E h=>?_) (fun cdv A outer s H vs Q E hcd hr h=>?_)
 ·obtain⟨x,dx,r,wl,ws,sa,ns,rfl,_⟩:=h
  rfl
 rw [hcR] at hcd
 subst hcd
 obtain⟨x,dx,r,wl,ws,sa,ns,rfl,k0,hw,sc,q,qX⟩:=h
 refine⟨_,a0s (a2f (i:=1) a2d.nd rfl (Or.inl rfl) (a2g a6m rfl B.int_ a6a (a0e (a6u (pv 0) TX.cl m_taken g_taken hr b_taken .nil (a9m a3o) (a0e (a8p bm rfl hCR (q:="read_row.<locals>.<lambda>") (by rfl)) a0h)) a0h)))
  (a0s (a2f (i:=2) a2d.nd rfl (Or.inl rfl) (a2g a6m rfl B.int_ a6a (a0e (a6u (pv 0) TX.cl m_taken g_taken hr b_taken .nil (a9m a3o) (a0e (a8p bm rfl hCR (q:="read_row.<locals>.<lambda>") (by rfl)) a0h)) a0h)))
  (a0s (a2f (i:=3) a2d.nd rfl (Or.inl rfl) (a6k c3c (a4f rfl hWT (v:=.ref aT) rfl) (a6u (pv 0) TX.cl m_taken g_taken hr b_taken .nil (a9m a3o) (a0e (a8p bm rfl hCR (q:="read_row.<locals>.<lambda>") (by rfl)) a0h)) (fun _ _=>rfl)))
  (a0s (a2f (i:=4) a2d.nd rfl (Or.inl rfl) (a6u (pv 0) TX.cl m_taken g_taken hr b_taken .nil (a9m a3o) (a0e (a8p bm rfl hCR (q:="read_row.<locals>.<lambda>") (by rfl)) a0h)))
  (a0s (a2f (i:=5) a2d.nd rfl (Or.inl rfl) (a6u (pv 0) TX.cl m_taken g_taken hr b_taken .nil (a9m a3o) (a0e (a8p bm rfl hCR (q:="read_row.<locals>.<lambda>") (by rfl)) a0h)))
  (a0s (b6a (a9y (pv 0) TX.cl m_wfin g_wfin hr b_wfin .nil (a9m a3o)))
  (a0s (a2f (i:=6) a2d.nd rfl (Or.inl rfl) (a9x (a5t a9b (pv 4) a4z (a0u _)) (b0m a0h) (a2g a5g rfl B.tuple_ a4k (a0e (a9e (own:=["text"]) (cap:=[]) rfl (by rfl) (by decide +kernel) (b6b (b0p PySem.F.plainAttrs_str PySem.F.slot_str_split PySem.F.type_str_split b0c (pv 4) (a0e a4z a0h))) (fun _ _ _=>a6r (i:=0) (show(["text"]:List Str).Nodup by decide +kernel) rfl (Or.inl rfl)) (fun _ _ _=>a9d) (fun _ _ _=>a2g a6m rfl B.int_ a6a (a0e (pv 0) a0h))) a0h))))
  (a1h (a2s (b0m (a0e (pv 1) (a0e (pv 2) (a0e (pv 3) (a0e (pv 6) (a0e (a9x (a5t a9b (pv 5) a4z (a0u _)) b9y (a2g a6m rfl B.int_ a6a (a0e (pv 5) a0h))) a0h)))))))))))))),?_⟩
 have hw':∀ z ∈ ws,z.length <= 1000000:=fun z hz=>by have:=hw z hz;omega
 have TBm:∀ H',But x H H'->H' T=some (a7q "read_row.<locals>.<lambda>"):=fun H' b=>by
  have h:=sc.1 _ (c9l F (by decide +kernel) hcR hCR)
  rw [show(("read_row" : Str) ++ (".<locals>.<lambda>" : Str)) = "read_row.<locals>.<lambda>" by decide +kernel] at h
  exact b _ _ (fun z=>by rw [z,k0.1] at h;cases h) h
 have scB:∀ H',But x H H'->L2.Scr K H' sa (ns.map V.int):=fun H' b=>sc.keep (b.keep k0.1)
 refine a5f (figs 9) rfl k0 (zero_le _) hw' (TBm H .refl) (fun f c ct H1 s1 L=>a8s L ⟨rfl,rfl,rfl,by decide +kernel,rfl,by decide +kernel,by decide +kernel⟩ (fun u=>rfl) (fun A outer s H2 E z hr hz s2=>⟨_,a2h d_figs g_figs hr rfl (a0e (pv 0) (a0e (a4f rfl hMF (v:=.int 9) ⟨_,rfl⟩) a0h)),fun Q hq=>⟨_,rfl,a7z (scB H2 (.of (s1.trans s2))) hz hq⟩⟩)) (fun z0 H1 hz0 g0 b1 k1=>?_) (fun hno d H2 s2 nt=>qX 0 (by unfold a2k;rw [a7j (fun z=>rfl) hno];rfl) d H2 (.of s2) nt)
 have o0:okAt ws 0=true:=(a8u hz0).trans g0
 refine⟨z0,num z0,rfl,(a3p g0 (by decide)).1,by have:=(a3p g0 (by decide)).2;omega,?_⟩
 have l0:0 < ws.length:=(List.getElem?_eq_some_iff.mp hz0).1
 refine a5f (figs 9) rfl k1 (by omega) hw' (TBm H1 b1) (fun f c ct H2 s1 L=>a8s L ⟨rfl,rfl,rfl,by decide +kernel,rfl,by decide +kernel,by decide +kernel⟩ (fun u=>rfl) (fun A outer s H3 E z hr hz s2=>⟨_,a2h d_figs g_figs hr rfl (a0e (pv 0) (a0e (a4f rfl hMF (v:=.int 9) ⟨_,rfl⟩) a0h)),fun Q hq=>⟨_,rfl,a7z (scB H3 (b1.trans (.of (s1.trans s2)))) hz hq⟩⟩)) (fun z1 H2 hz1 g1 b2 k2=>?_) (fun hno d H2 s2 nt=>qX 1 (by unfold a2k;rw [o0,a7j (k:=1) (fun z=>rfl) hno];rfl) d H2 (b1.trans (.of s2)) nt)
 have o1:okAt ws 1=true:=(a8u hz1).trans g1
 have b2:=b1.trans b2
 refine⟨z1,num z1,rfl,(a3p g1 (by decide)).1,by have:=(a3p g1 (by decide)).2;omega,?_⟩
 have l1:1 < ws.length:=(List.getElem?_eq_some_iff.mp hz1).1
 refine a5f isTr rfl k2 (by omega) hw' (TBm H2 b2) (fun f c ct H3 s1 L=>a8s L ⟨rfl,rfl,rfl,by decide +kernel,rfl,by decide +kernel,by decide +kernel⟩ (fun u=>rfl) (fun A outer s H4 E z hr hz s2=>⟨_,a6t d3l (pv 0) (a4f rfl hWT (v:=.ref aT) rfl) (by rfl),fun Q hq=>⟨_,rfl,aT,KvT,z,rfl,kdT,syT,rfl,hq _ (Same.refl _)⟩⟩)) (fun z2 H3 hz2 g2 b3 k3=>?_) (fun hno d H3 s2 nt=>qX 2 (by unfold a2k;rw [o0,o1,a7j (k:=2) (fun z=>rfl) hno];rfl) d H3 (b2.trans (.of s2)) nt)
 have o2:okAt ws 2=true:=(a8u hz2).trans g2
 have b3:=b2.trans b3
 refine⟨aT,KvT,z2,_,rfl,kdT,rfl,c9t g2,?_⟩
 have l2:2 < ws.length:=(List.getElem?_eq_some_iff.mp hz2).1
 refine a5f allF rfl k3 (by omega) hw' (TBm H3 b3) (fun f c ct H4 s1 L=>a8s L ⟨rfl,rfl,rfl,by decide +kernel,rfl,by decide +kernel,by decide +kernel⟩ (fun u=>rfl) (fun A outer s H5 E z hr hz s2=>⟨_,b7i (a6t a9b (pv 0) a4z (a0u _)) (b3w (a2u (b2u rfl) rfl B.all_ b4x (a0e (a9e (own:=["text"]) (cap:=[]) rfl (by rfl) (by decide +kernel) (b6b (b0p PySem.F.plainAttrs_str PySem.F.slot_str_split PySem.F.type_str_split b0c (pv 0) (a0e a4z a0h))) (fun _ _ _=>a6r (i:=0) (show(["text"]:List Str).Nodup by decide +kernel) rfl (Or.inl rfl)) (fun _ _ _=>a9d) (fun _ _ _=>a2h d_figs g_figs hr rfl (a0e (pv 0) (a0e (a4f rfl hMF (v:=.int 9) ⟨_,rfl⟩) a0h)))) a0h))),fun Q hq=>?lam4⟩)) (fun z3 H4 hz3 g3 b4 k4=>?_) (fun hno d H4 s2 nt=>qX 3 (by unfold a2k;rw [o0,o1,o2,a7j (k:=3) (fun z=>rfl) hno];rfl) d H4 (b3.trans (.of s2)) nt)
 case lam4 =>
  refine⟨_,rfl,rfl,_,rfl,?_⟩
  rw [sdec]
  unfold allF at hq
  by_cases e:z = "-"
  ·rw [decide_eq_true e] at hq ⊢
   exact iteT (hq _ (Same.refl _))
  rw [decide_eq_false e,Bool.false_or] at hq
  rw [decide_eq_false e]
  refine iteF ⟨_,rfl,rfl,z,_,rfl,rfl,by decide,hz,fun p hp=>⟨p,rfl,⟨_,SqL.of a0c⟩,fun D0 hD0=>a8k (b2o (xs:=(Txt.split z ",").map V.str) (fun i σ2 H6=>∃ u,σ2=[u]/\Same H5 H6/\H6 p=some (.lst ((Txt.split z ",").map V.str))/\H6 D0=some (.lst ((((Txt.split z ",").take i).map (figs 9)).map V.bl))) ⟨none,rfl,(a0l hp _).trans (a0l hD0 _),by rw [a0d (a0q a0c hD0),a0c],a0c⟩ (fun i σ2 H6 _ h=>by obtain⟨_,_,_,h,_⟩:=h;exact SqL.of h) ?_ ?_)⟩⟩
  ·rintro i y σ2 H6 hy ⟨u,rfl,s6,hp6,hD6⟩
   rw [getElem?_map] at hy
   obtain⟨yt,hyt,rfl⟩:=map_eq_some_iff.mp hy
   dsimp only [a3s,tYes]
   rw [if_pos rfl]
   have ym:=mem_of_getElem? hyt
   have il:i < (Txt.split z ",").length:=(List.getElem?_eq_some_iff.mp hyt).1
   have sl:=PyProof.Rows.split_le z ","
   refine⟨_,rfl,a7z (scB H6 (b3.trans (.of ((s1.trans s2).trans s6)))) (le_trans (PyProof.Rows.part_short ym) hz) fun H7 s7=>⟨_,s7 _ _ hD6,?_,_,rfl,?_,?_,?_⟩⟩
   ·rw [length_map,length_map,length_take,sizeLine_eq];omega
   ·exact fun c o h=>by rw [a0d (fun zz=>by rw [zz] at h;have:=(a0l hp (.lst ((Txt.split z ",").map V.str))) _ _ h;rw [hD0] at this;cases this)];exact s7 _ _ (s6 _ _ h)
   ·rw [a0d (fun zz=>by rw [zz] at hp6;have:=s7 _ _ hp6;have h2:=s7 _ _ hD6;have n0:D0 ≠ p:=Ne.symm (a0q a0c hD0);exact n0 zz.symm)];exact s7 _ _ hp6
   ·rw [a0c,take_add_one,hyt,toList_some,map_append,map_append];rfl
  ·rintro σ2 H6 ⟨u,rfl,s6,hp6,hD6⟩
   rw [length_map,take_length] at hD6
   refine⟨_,(fun a=>a=D0),(Txt.split z ",").map (figs 9),rfl,a2y rfl hD6 ?_,hq _ s6⟩
   exact all_bools
 have o3:okAt ws 3=true:=(a8u hz3).trans g3
 have b4:=b3.trans b4
 have l3:3 < ws.length:=(List.getElem?_eq_some_iff.mp hz3).1
 refine a5f oneF rfl k4 (by omega) hw' (TBm H4 b4) (fun f c ct H5 s1 L=>a8s L ⟨rfl,rfl,rfl,by decide +kernel,rfl,by decide +kernel,by decide +kernel⟩ (fun u=>rfl) (fun A outer s H6 E z hr hz s2=>⟨_,b7i (a6t a9b (pv 0) a4z (a0u _)) (b3w (a2h d_figs g_figs hr rfl (a0e (pv 0) (a0e (a4f rfl hMF (v:=.int 9) ⟨_,rfl⟩) a0h)))),fun Q hq=>⟨_,rfl,rfl,_,rfl,?lam5⟩⟩)) (fun z4 H5 hz4 g4 b5 k5=>?_) (fun hno d H5 s2 nt=>qX 4 (by unfold a2k;rw [o0,o1,o2,o3,a7j (k:=4) (fun z=>rfl) hno];rfl) d H5 (b4.trans (.of s2)) nt)
 case lam5 =>
  rw [sdec]
  unfold oneF at hq
  by_cases e:z = "-"
  ·rw [decide_eq_true e] at hq ⊢
   exact iteT (hq _ (Same.refl _))
  ·rw [decide_eq_false e,Bool.false_or] at hq
   rw [decide_eq_false e]
   exact iteF ⟨_,rfl,a7z (scB H6 (b4.trans (.of (s1.trans s2)))) hz hq⟩
 have o4:okAt ws 4=true:=(a8u hz4).trans g4
 have b5:=b4.trans b5
 have l4:4 < ws.length:=(List.getElem?_eq_some_iff.mp hz4).1
 refine⟨_,rfl,x,dx,_,rfl,k5.1,rfl,x,dx,r,wl,5,ws,rfl,k5,fun e5=>?_,fun ne d H' s nt=>qX 5 (by unfold a2k;rw [o0,o1,o2,o3,o4];exact if_neg (fun e:ws.length=5=>ne e.symm)) d H' (b5.trans (.of s)) nt⟩
 have qq:=q (by unfold a2k;rw [o0,o1,o2,o3,o4];exact if_pos e5.symm)
 have eR:rowD ws=.tuple [.int (num z0),.int (num z1),.bool (decide (z2 = "yes")),a4c z3,a3r z4]:=by
  unfold rowD trv
  rw [a8v hz0,a8v (k:=1) hz1,a8v (k:=2) hz2,a8v (k:=3) hz3,a8v (k:=4) hz4]
 rw [eR] at qq
 refine⟨_,rfl,rfl,_,rfl,?_⟩
 rw [sdec]
 by_cases e:z3 = "-"
 ·refine b9j e ⟨by rw [sizeLine_eq];exact zero_le _,fun p hp=>?_⟩
  refine b7e (d6:=a4c z3) ?_ g4 (fun v H7 s7 a7=>qq v H7 (b5.trans (.of ((a0l hp _).trans s7))) a7)
  rw [show a4c z3=.tuple [] from if_pos e]
  exact a1z (SqT.of a0c) (by unfold a0a;rfl)
 refine b9k e ?_
 have g3':∀ y ∈ Txt.split z3 ",",figs 9 y=true:=fun y hy=>by
  unfold allF at g3
  rw [decide_eq_false e,Bool.false_or,all_map] at g3
  exact all_eq_true.mp g3 y hy
 have lz3:z3.length <= 1000000:=hw' z3 (mem_of_getElem? hz3)
 have sl:=PyProof.Rows.split_le z3 ","
 refine⟨_,rfl,rfl,z3,_,rfl,rfl,by decide,lz3,fun p hp=>⟨p,rfl,⟨_,SqL.of a0c⟩,fun D0 hD0=>a8k (b2o (xs:=(Txt.split z3 ",").map V.str) (fun i σ2 H6=>∃ u,σ2=[u]/\Same H5 H6/\H6 p=some (.lst ((Txt.split z3 ",").map V.str))/\H6 D0=some (.lst ((((Txt.split z3 ",").take i).map num).map V.int))) ⟨none,rfl,(a0l hp _).trans (a0l hD0 _),by rw [a0d (a0q a0c hD0),a0c],a0c⟩ (fun i σ2 H6 _ h=>by obtain⟨_,_,_,h,_⟩:=h;exact SqL.of h) ?_ ?_)⟩⟩
 ·rintro i y σ2 H6 hy ⟨u,rfl,s6,hp6,hD6⟩
  rw [getElem?_map] at hy
  obtain⟨yt,hyt,rfl⟩:=map_eq_some_iff.mp hy
  dsimp only [a3s,tYes]
  rw [if_pos rfl]
  have ym:=g3' yt (mem_of_getElem? hyt)
  have il:i < (Txt.split z3 ",").length:=(List.getElem?_eq_some_iff.mp hyt).1
  refine⟨_,rfl,yt,num yt,rfl,(a3p ym (by decide)).1,by have:=(a3p ym (by decide)).2;omega,_,hD6,?_,_,rfl,?_,?_,?_⟩
  ·rw [length_map,length_map,length_take,sizeLine_eq];omega
  ·exact fun c o h=>by rw [a0d (fun zz=>by rw [zz] at h;have:=(a0l hp (.lst ((Txt.split z3 ",").map V.str))) _ _ h;rw [hD0] at this;cases this)];exact s6 _ _ h
  ·rw [a0d (fun zz=>(Ne.symm (a0q a0c hD0)) zz.symm)];exact hp6
  ·rw [a0c,take_add_one,hyt,toList_some,map_append,map_append];rfl
 ·rintro σ2 H6 ⟨u,rfl,s6,hp6,hD6⟩
  rw [length_map,take_length] at hD6
  refine⟨D0,_,rfl,.inl ⟨SqL.of hD6,fun l hl=>?_⟩⟩
  refine b7e (d6:=a4c z3) ?_ g4 (fun v H7 s7 a7=>qq v H7 (b5.trans (.of (s6.trans ((a0l hl _).trans s7)))) a7)
  rw [show a4c z3=.tuple ((Txt.split z3 ",").map fun z=>.int (num z)) from if_neg e]
  refine a1z (SqT.of a0c) ?_
  rw [show((Txt.split z3 ",").map fun z=>PyData.int (num z))=((Txt.split z3 ",").map num).map .int by rw [map_map];rfl]
  exact a0a.ints _
end
theorem c4z{X:Cx}{K':W.Frag}{e:Expr}(t:W.Frag->TG)(h:PG X e (t X.K))(hk:X.K=K'):PG X e (t K'):=hk ▸ h
theorem c2g{K:W.Frag}{a:Addr}{xs:List V}{σ:St}{H:Hp}{go:V->St->Hp->(St->Hp->Prop)->Prop}{done:St->Hp->Prop}(Pv:Nat->St->Hp->Prop)(h0:Pv 0 σ H)(hl:∀ i σ H,Pv i σ H->SqL K H a xs)
  (hs:∀ i x σ H T,xs[i]? = some x->Pv i σ H->H T=none->go (.ref T) σ (upd H T (.tup [.int i,x])) (Pv (i + 1))) (hd:∀ σ H,Pv xs.length σ H->done σ H):b8c (Ite K a) σ H go done:=by
 refine⟨fun i m σ H=>m=xs.length - i/\i <= xs.length/\Pv i σ H,⟨xs.length,by simp,zero_le _,h0⟩,?_⟩
 rintro i m σ H ⟨rfl,hi,p⟩
 have q:=hl i σ H p
 by_cases hlt:i < xs.length
 ·refine .inr ⟨⟨xs,xs[i],q,by simp [hlt]⟩,Pv (i + 1),fun σ' H' p'=>⟨xs.length - (i + 1),by omega,rfl,hlt,p'⟩,fun x H' y=>?_⟩
  obtain⟨T,x',rfl,hT,rfl,y⟩:=y
  exact hs i x' σ H T (y xs q) p hT
 ·have e:i=xs.length:=by omega
  subst e
  exact .inl ⟨⟨xs,q,le_refl _⟩,hd σ H p⟩
def c2h(K:W.Frag)(C:Addr):Sp:=fun vs H Q _=>∃ (x dx:Addr) (r:Int) (wl:Addr) (ws:List Str) (sa:Addr) (ns:List Int),vs=[.ref x]/\WOk C H x dx r wl 0 ws/\(∀ z ∈ ws,z.length <= 100000)/\L2.Scr K H sa (ns.map V.int)/\a2k ws=none/\∀ v H',But x H H'->AtD K H' (fun _=>False) (rowD ws) v->Q v H'
noncomputable def wordsOf(t:Str):List Str:=Txt.split t " "
noncomputable def lbT(b:Bool)(ts:List Str):L:=if b=true then .bor (ts.map .str) else .d (.list (ts.map .str))
noncomputable def lbO(b:Bool)(ts:List Str):Option L:=if b=true then some (.bor (ts.map .str)) else none
def b1x:DSp:=fun ls Q=>∃ (b:Bool) (ts:List Str),ls=[lbT b ts]/\ts.length <= 1000/\(∀ t ∈ ts,t.length <= 100000/\a2k (wordsOf t)=none)/\Q (.d (.tuple (ts.map fun t=>rowD (wordsOf t)))) [lbO b ts]
section
variable{P:Program}{w:World}{K:W.Frag}{mg:Str->Option Value}{base:Heap}{n:Nat}{C NT:Addr}
theorem row0{f:Addr}{fd:FuncData} (g:FnOk P w K mg base (CX2 P w) n f fd ["words"] (b9l K C NT)):FnOk P w K mg base CX0 n f fd ["words"] (c2h K C):=
 g.calm fun vs H Q E ⟨x,dx,r,wl,ws,sa,ns,e,k,hw,sc,hb,q⟩=>⟨x,dx,r,wl,ws,sa,ns,e,k,hw,sc,fun _=>q,fun k hk=>by rw [hb] at hk;cases hk⟩
abbrev a4d:Stmt:=top 12
theorem b3e:FnScope ["texts"] ["texts"] (a0f a4d):=⟨rfl,rfl,rfl,by decide +kernel,rfl,by decide +kernel,by decide +kernel⟩
theorem b3f{f f1 f2:Addr}{fd fd1 fd2:FuncData} (F:Fun K "read_paper" "read_paper" a4d f fd) (B:Bl mg) (T:TxtF K mg C) (M:Mk K C f1) (b_winit:Binds K fd1 ["self","row","text"] []) (g_winit:FnOk P w K mg base CX0 n f1 fd1 ["self","row","text"] (b1w C))
  (d_row:Def K mg "read_row" a5p ["words"] f2 fd2) (g_row:FnOk P w K mg base CX0 (n + 1) f2 fd2 ["words"] (c2h K C)):FnOk P w K mg base CX0 (n + 2) f fd ["texts"] (spD K b1x):=by
 refine F.ok b3e (fun vs H Q E h=>?_) (fun cdv A outer s H vs Q E hr h=>?_)
 ·obtain⟨c,O,ls,Qd,h0,hP,hM,hA,hL,R,⟨b,ts,rfl,_⟩,fin⟩:=h
  have:=R.len
  simpa using this
 obtain⟨c,O,ls,Qd,h0,hP,hM,hA,hL,R,⟨b,ts,rfl,tl,ht,qd⟩,fin⟩:=h
 have hl2:vs.length=1:=by simpa using R.len
 obtain⟨v0,rfl⟩:∃ v0,vs=[v0]:=by
  rcases vs with _ | ⟨a,_ | ⟨_,_⟩⟩<;>simp at hl2
  exact⟨a,rfl⟩
 obtain⟨tx,xs,rfl,htx,axs⟩:∃ tx xs,v0=.ref tx/\H tx=some (.lst xs)/\a0a K H (live c O) (ts.map .str) xs:=by
  cases b with
  | false =>
   obtain⟨w0,e0,a0⟩:=R.dat 0 _ rfl
   obtain rfl:v0=w0:=Option.some.inj (Option.some.inj e0)
   obtain⟨tx,xs,rfl,_,htx,axs⟩:=a2x a0
   exact⟨tx,xs,rfl,htx,axs⟩
  | true =>
   obtain⟨p,vs,_,e0,hp,ha⟩:=R.bor 0 _ rfl
   obtain rfl:v0=.ref p:=Option.some.inj (Option.some.inj e0)
   exact⟨p,vs,rfl,hp,ha⟩
 have ex:=b0d axs
 subst ex
 refine⟨_,a1h (a2s (a2g a5g rfl B.tuple_ a4k (a0e (a9e (own:=["number","text"]) (cap:=[]) rfl (by rfl) (by decide +kernel) (c8s rfl B.enumerate_ (pv 0))
   (fun _ _ _=>c4z (K':=K) (fun K=>gTup K 2 (b7j (a3s 0) (b7j (a3s 1) gNil))) (d0h rfl (b3x (a6r (i:=0) (show(["number","text"]:List Str).Nodup by decide +kernel) rfl (Or.inl rfl)) (b3x (a6r (i:=1) (show(["number","text"]:List Str).Nodup by decide +kernel) rfl (Or.inl rfl)) c6o))) rfl)
   (fun _ _ _=>a9d) (fun _ _ _=>a2h d_row g_row hr rfl (a0e (c6u M g_winit hr rfl T.mgC b_winit .nil b0r (a0e (pv 0) (a0e (pv 1) a0h))) a0h))) a0h))),?_⟩
 refine⟨_,rfl,tx,_,rfl,SqL.of htx,fun D0 hD0=>a8k (c2g (xs:=ts.map V.str) (fun i σ2 H2=>∃ u0 u1 vs,σ2=[u0,u1]/\Same H H2/\H2 D0=some (.lst vs)/\a0a K H2 (fun _=>False) ((ts.take i).map fun t=>rowD (wordsOf t)) vs) ⟨none,none,[],rfl,a0l hD0 _,a0c,.nil⟩ (fun i σ2 H2 h=>by obtain⟨_,_,_,_,s,_⟩:=h;exact SqL.of (s _ _ htx)) ?_ ?_)⟩
 ·rintro i y σ2 H2 T0 hy ⟨u0,u1,vs,rfl,s2,hD2,av⟩ hT0
  rw [getElem?_map] at hy
  obtain⟨t,hti,rfl⟩:=map_eq_some_iff.mp hy
  obtain⟨tl1,tb⟩:=ht t (mem_of_getElem? hti)
  have il:i < ts.length:=(List.getElem?_eq_some_iff.mp hti).1
  refine⟨T0,_,rfl,SqT.of a0c,rfl,_,_,rfl,_,_,rfl,rfl,?_⟩
  dsimp only [tYes]
  rw [if_pos rfl]
  refine⟨_,rfl,_,rfl,fun x dx hx hdx ne=>⟨x,dx,(i:Int),t,rfl,a0c,by omega,fun wl H3 hwl b3 k3=>⟨rfl,?_⟩⟩⟩
  have sT:=a0l hT0 (.tup [.int (i:Int),.str t])
  have s23:Same H2 H3:=fun b o e=>b3 b o (fun z=>by rw [z] at e;rw [sT _ _ e] at hx;cases hx) (by
   have e1:=sT _ _ e
   rw [a0d (fun z=>by rw [z] at e1;rw [e1] at hx;cases hx),a0d (fun z=>by rw [z] at e1;rw [e1] at hdx;cases hdx)];exact e1)
  have hx2:H2 x=none:=by
   cases e:H2 x with
   | none=>rfl
   | some o=>rw [sT _ _ e] at hx;cases hx
  refine⟨x,dx,(i:Int),wl,Txt.split t " ",c.sa,c.ns,rfl,k3,fun z hz=>le_trans (PyProof.Rows.part_short hz) tl1,R.sc.keep (S:=Any) (Same.keep (s2.trans s23)),tb,fun v H4 b4 a4=>?_⟩
  have s24:Same H2 H4:=fun b o e=>b4 b o (fun z=>by rw [z,hx2] at e;cases e) (s23 _ _ e)
  have hD4:=s24 _ _ hD2
  have lv:=av.length
  rw [length_map,length_take] at lv
  refine⟨vs,hD4,by rw [lv,sizeLine_eq];omega,_,_,_,rfl,fun b o e=>?_,a0c,?_⟩
  ·rw [a0d (fun z=>by rw [z,hD0] at e;cases e)];exact s24 _ _ (s2 _ _ e)
  ·have kp1:Keep (fun _=>False) H4 (upd H4 D0 (.lst (vs ++ [v]))):=⟨fun b ys e=>by rw [a0d (fun z=>by rw [z,hD4] at e;cases e)];exact e,fun b o u e=>by rw [a0d (fun z=>by rw [z,hD4] at e;cases e)];exact e,fun _ _ z=>z.elim⟩
   rw [take_add_one,hti,toList_some,map_append]
   exact(a0a.mono ((Same.keep (S:=fun _=>False) s24).trans kp1) _ _ av).snoc (AtD.mono kp1 _ _ a4)
 ·rintro σ2 H2 ⟨u0,u1,vs,rfl,s2,hD2,av⟩
  rw [length_map,take_length] at av
  refine⟨D0,_,rfl,.inl ⟨SqL.of hD2,fun l hl=>?_⟩⟩
  have sl:=a0l hl (.tup vs)
  have en:AtD K (upd H2 l (.tup vs)) (live c O) (.tuple (ts.map fun t=>rowD (wordsOf t))) (.ref l):=a1z (SqT.of a0c) (a0a.more (fun _ z=>z.elim) _ _ (a0a.mono sl.keep _ _ av))
  cases b<;>exact fin (.d _) O _ _ _ _ qd ⟨R.grow (s2.trans sl),en⟩
end
noncomputable def NUMS:List Int:=[0,1,2,7,10,99,999999999,100000000,3]
structure Rw where
 a:Int
 b:Int
 t:Bool
 rk:List Int
 ch:Option Int
structure GoodR(R:Rw):Prop where
 a:R.a ∈ NUMS
 b:R.b ∈ NUMS
 r:∀ x ∈ R.rk,x ∈ NUMS
 l:R.rk.length <= 4
 c:∀ x,R.ch=some x->x ∈ NUMS
noncomputable def optI:Option Int->PyData
 | none=>.none
 | some c=>.int c
noncomputable def encR(R:Rw):PyData:=.tuple [.int R.a,.int R.b,.bool R.t,.tuple (R.rk.map .int),optI R.ch]
noncomputable def tx(n:Int):Str:=toString n
noncomputable def rkT(rk:List Int):Str:=Txt.join "," (rk.map tx)
noncomputable def chT:Option Int->Str
 | none => "-"
 | some c=>tx c
noncomputable def yn(b:Bool):Str:=if b=true then "yes" else "no"
noncomputable def rk1(rk:List Int):Str:=if rk=[] then "-" else rkT rk
noncomputable def wsR(R:Rw):List Str:=[tx R.a,tx R.b,yn R.t,rk1 R.rk,chT R.ch]
noncomputable def rowT(R:Rw):Str:=Txt.join " " (wsR R)
theorem a9o:∀ n ∈ NUMS,figs 9 (tx n)=true:=by decide +kernel
theorem c9u:∀ n ∈ NUMS,PySem.intText? (tx n)=some n:=by decide +kernel
theorem a1p:∀ n ∈ NUMS,(1 <= (tx n).length/\(tx n).length <= 9)/\(32 ∉ (tx n).cps.toList/\44 ∉ (tx n).cps.toList)/\tx n ≠ "-":=by decide +kernel
theorem c9v:∀ n ∈ NUMS,n.natAbs.log2 < 1920:=by decide +kernel
noncomputable def stF:PyData->Option PyData
 | .int n=>some (.str (tx n))
 | _=>none
theorem b1y:∀ rk:List Int,(rk.map PyData.int).filterMap stF=(rk.map tx).map .str
 | []=>rfl
 | x :: r=>by rw [map_cons,filterMap_cons,b1y r];rfl
theorem a4v{n:Int}(h:n ∈ NUMS):b3s [.int n]=some (.str (tx n)):=c9g (c9v n h)
theorem b1z:∀ {rk:List Int},(∀ x ∈ rk,x ∈ NUMS)->((rk.map tx).map (·.length)).sum <= 9 * rk.length
 | [],_=>le_refl _
 | x :: r,h=>by
  have:=b1z (rk:=r) fun y hy=>h y (mem_cons_of_mem _ hy)
  have:=(a1p x (h x (mem_cons_self ..))).1.2
  rw [map_cons,map_cons,sum_cons,length_cons];omega
theorem b5l{rk:List Int}(h:∀ x ∈ rk,x ∈ NUMS)(hl:rk.length <= 4):((rk.map tx).map (·.length)).sum + (rk.map tx).length <= 1048576:=by
 have:=b1z h
 rw [length_map];omega
theorem c2i:∀ {o:Option Int},(∀ x,o=some x->x ∈ NUMS)->(chT o).length <= 9
 | none,_=>by show(Str.length "-") <= 9;decide
 | some c,h=>(a1p c (h c rfl)).1.2
theorem c2j{rk:List Int}(h:∀ x ∈ rk,x ∈ NUMS)(hl:rk.length <= 4):(rkT rk).length <= 400:=by
 have h1:=b1z h
 have h2:=PyProof.Rows.len_join_le (sep:=",") (ys:=rk.map tx) (n:=60) (by unfold PyProof.Rows.Weighs;rw [length_map];omega) (by decide)
 unfold rkT;omega
theorem b7f{R:Rw}(G:GoodR R):((wsR R).map (·.length)).sum + (wsR R).length <= 1048576:=by
 have h1:=(a1p R.a G.a).1.2
 have h2:=(a1p R.b G.b).1.2
 have h3:=c2i G.c
 have h4:=c2j G.r G.l
 have h5:(yn R.t).length <= 3:=by unfold yn;split<;>decide
 have h6:(rk1 R.rk).length <= 400:=by
  unfold rk1
  split
  ·decide
  ·exact h4
 unfold wsR
 simp only [map_cons,map_nil,sum_cons,List.sum_nil,length_cons,List.length_nil]
 omega
theorem rk_ne{rk:List Int}(h:∀ x ∈ rk,x ∈ NUMS):decide (rkT rk = "")=decide (rk=[]):=by
 cases rk with
 | nil=>rfl
 | cons x r =>
  rw [decide_eq_false (show ¬ (x :: r=[]) from fun z=>nomatch z),decide_eq_false]
  intro e
  have h1:=PyProof.Rows.len_join_ge_sum "," ((x :: r).map tx)
  have h2:=(a1p x (h x (mem_cons_self ..))).1.1
  have h3:(rkT (x :: r)).length=0:=by rw [e];rfl
  unfold rkT at h3
  rw [h3,map_cons,map_cons,sum_cons] at h1
  omega
def b9m:DSp:=fun ls Q=>∃ R:Rw,ls=[.d (encR R)]/\GoodR R/\Q (.d (.str (rowT R))) [none]
def b9n:DSp:=fun ls Q=>∃ Rs:List Rw,ls=[.d (.tuple (Rs.map encR))]/\(∀ R ∈ Rs,GoodR R)/\Rs.length <= 100/\Q (.new (Rs.map fun R=>.str (rowT R))) [none]
def b2a:DSp:=fun ls Q=>∃ k:Nat,ls=[.tape k]/\k < 900000/\∀ n ∈ NUMS,Q (.d (.int n)) [some (.tape (k + 1))]
def b5m:DSp:=fun ls Q=>∃ k:Nat,ls=[.tape k]/\k < 800000/\∀ (R:Rw) (k':Nat),k' <= k + 10->GoodR R->Q (.d (encR R)) [some (.tape k')]
set_option hygiene false in
local macro_rules | `(tactic| walk_at "t1") => `(tactic| (
  refine⟨_,rfl,a0k (a4v G.a) (a0k (a4v G.b) ?_)⟩
  rw [rk_ne G.r]
  by_cases hk:R.rk=[]
  ·rw [show rk1 R.rk = "-" from if_pos hk] at rest few
   rw [decide_eq_true hk]
   cases ht:R.t with
   | true =>
    rw [ht] at rest few
    refine iteT (iteF (a0k (a3l (ss:=[tx R.a,tx R.b,"yes","-",_]) (by decide) few) rest))
   | false =>
    rw [ht] at rest few
    refine iteF (iteF (a0k (a3l (ss:=[tx R.a,tx R.b,"no","-",_]) (by decide) few) rest))
  ·rw [show rk1 R.rk=rkT R.rk from if_neg hk] at rest few
   rw [decide_eq_false hk]
   cases ht:R.t with
   | true =>
    rw [ht] at rest few
    refine iteT (iteT (a0k (a3l (ss:=[tx R.a,tx R.b,"yes",rkT R.rk,_]) (by decide) few) rest))
   | false =>
    rw [ht] at rest few
    refine iteF (iteT (a0k (a3l (ss:=[tx R.a,tx R.b,"no",rkT R.rk,_]) (by decide) few) rest))))
section
variable{P:Program}{w:World}{K:W.Frag}{mg:Str->Option Value}{base:Heap}{n:Nat}
abbrev a4w:Stmt:=top 11
theorem a6j:FnScope ["row","ranks","choice"] ["row"] (a0f a4w):=⟨rfl,rfl,rfl,by decide +kernel,rfl,by decide +kernel,by decide +kernel⟩
theorem d3x{f:Addr}{fd:FuncData} (F:Fun K "shown_row" "shown_row" a4w f fd) (B:Bl mg):FnOk P w K mg base CX0 (n + 1) f fd ["row"] (spD K b9m):=by
 refine F.dok a6j (fun cdv A outer s H E hr ls Qd h=>?_) (fun ls Qd hq8=>by obtain⟨_,e,_⟩:=hq8;rw [e];rfl)
 obtain⟨R,rfl,G,q⟩:=h
 refine⟨rfl,?_⟩
 refine⟨_,(a0p (a3z (i:=1) a6j.nd rfl (Or.inl rfl) (a9k a1r (a0b (a2e (a4p ["rank"] [] rfl (by rfl) (by decide +kernel) (a8n (a1s a1e a1t (dv 0) a0m (fun _ _=>rfl))) (fun _ _ _=>(a2p (i:=0) (show(["rank"]:List Str).Nodup by decide +kernel) rfl (Or.inl rfl))) (fun _ _ _=>a3k) (fun _ _ _=>(a1u a1o a3m rfl B.str_ a3u (a0b (dv 0) a0g))))) a0g)))
  (a0p (a3z (i:=2) a6j.nd rfl (Or.inl rfl) (b0z (a3x b3y b5b (a1s a1e a1t (dv 0) a0m (fun _ _=>rfl)) b0u (a0u _)) a1r (a1u a1o a3m rfl B.str_ a3u (a0b (a1s a1e a1t (dv 0) a0m (fun _ _=>rfl)) a0g))))
  (a0v (a1x (a9k a1r (a0b (a2e (a5d (a0b (a1u a1o a3m rfl B.str_ a3u (a0b (a1s a1e a1t (dv 0) a0m (fun _ _=>rfl)) a0g)) (a0b (a1u a1o a3m rfl B.str_ a3u (a0b (a1s a1e a1t (dv 0) a0m (fun _ _=>rfl)) a0g)) (a0b (b0z (c3g (a1s a1e a1t (dv 0) a0m (fun _ _=>rfl))) a1r a1r) (a0b (b0z (a3x (a7f hr.units) a7e (dv 1) a1r (a0u _)) (dv 1) a1r) (a0b (dv 2) a0g))))))) a0g)))))),?_⟩
 unfold encR
 walk_at "dd"
 have gl:=G.l
 refine⟨_,rfl,by rw [length_map];omega,?_⟩
 refine L2.a7t (fun ρ=>∃ v0:Option L,ρ=[v0]) stF ⟨_,rfl⟩ ?_ ?_
 ·rintro y ρ N hy ⟨v0,rfl⟩ hN
  obtain⟨m,hm,rfl⟩:=mem_map.mp hy
  walk_at "dd"
  refine a0k (a4v (G.r m hm)) ?_
  exact hN _ ⟨_,rfl⟩
 rintro ρ ⟨v0,rfl⟩
 rw [b1y]
 refine a0k (a3l (by decide) (b5l G.r gl)) ?_
 walk_at "dd"
 rw [show Txt.join "," (R.rk.map tx)=rkT R.rk from rfl]
 have rest:Qd (RV.d (.str (Txt.join " " [tx R.a,tx R.b,yn R.t,rk1 R.rk,chT R.ch]))) [none]:=q
 have few:=b7f G
 unfold wsR at few
 cases hch:R.ch with
 | none =>
  rw [hch] at rest few
  walk_at "dk"
  walk_at "t1"
 | some c =>
  rw [hch] at rest few
  walk_at "dk"
  rw [show a2q (optI (some c))=false from rfl]
  refine iteF ?_
  rw [show optI (some c)=.int c from rfl]
  refine a0k (a4v (G.c c hch)) ?_
  walk_at "dd"
  walk_at "t1"
end
theorem a8w{m a:Nat}{u:PyData}(h:(rngD 0 m)[a]? = some u):a < m/\u=.int (a:Int):=by
 have ha:a < m:=by
  have:=(List.getElem?_eq_some_iff.mp h).1
  simpa [rngD] using this
 refine⟨ha,?_⟩
 simp only [rngD,getElem?_map,List.getElem?_range ha,map_some] at h
 have:=(Option.some.inj h).symm
 rw [this];congr 1;omega
theorem a9p{m:Nat}:(rngD 0 m).length=m:=by simp [rngD]
theorem tupEq{rk:List Int}:fEqA true (.tuple (rk.map .int)) (.tuple [])=some (.bool (!decide (rk=[]))):=by
 have h1:∀ l:List Int,PyData.canLayAll0 (l.map .int)=true:=fun l=>by
  induction l with
  | nil=>rfl
  | cons a r ih=>rw [map_cons,PyData.canLayAll0,ih];rfl
 have h2:∀ l:List Int,PyData.depthAll (l.map .int)=0:=fun l=>by
  induction l with
  | nil=>rfl
  | cons a r ih=>rw [map_cons,PyData.depthAll,ih];rfl
 rw [b4p rfl (by unfold SeqAt.shaped;rw [PyData.canLay0,h1,PyData.depth,h2];rfl) rfl]
 cases rk with
 | nil=>rfl
 | cons a r=>rfl
def b2b:DSp:=fun ls Q=>∃ R:Rw,ls=[.d (encR R)]/\GoodR R/\Q (.d (.str (rowT R))) [none]
section
variable{P:Program}{w:World}{K:W.Frag}{mg:Str->Option Value}{base:Heap}{n:Nat}
abbrev a3h:Stmt:=top 10
theorem b2c:FnScope ["paper"] ["paper"] (a0f a3h):=⟨rfl,rfl,rfl,by decide +kernel,rfl,by decide +kernel,by decide +kernel⟩
theorem d3y{f f1:Addr}{fd fd1:FuncData} (F:Fun K "shown_paper" "shown_paper" a3h f fd) (B:Bl mg) (d_shown_row:Def K mg "shown_row" a4w ["row"] f1 fd1) (g_shown_row:FnOk P w K mg base CX0 n f1 fd1 ["row"] (spD K b9m)):FnOk P w K mg base CX0 (n + 1) f fd ["paper"] (spD K b9n):=by
 refine F.dok b2c (fun cdv A outer s H E hr ls Qd h=>?_) (fun ls Qd hq8=>by obtain⟨_,e,_⟩:=hq8;rw [e];rfl)
 obtain⟨Rs,rfl,G,hl,q⟩:=h
 refine⟨rfl,?_⟩
 refine⟨_,(a0v (c7m (a4p ["row"] [] rfl (by rfl) (by decide +kernel) (a8n (dv 0)) (fun _ _ _=>(a2p (i:=0) (show(["row"]:List Str).Nodup by decide +kernel) rfl (Or.inl rfl))) (fun _ _ _=>a3k) (fun _ _ _=>(a0o [false] d_shown_row g_shown_row hr rfl (a0b (dv 0) a0g)))))),?_⟩
 walk_at "dd"
 refine⟨by rw [length_map];omega,?_⟩
 refine a6g (fun i ρ acc=>∃ v0:Option L,ρ=[v0]/\acc=(Rs.take i).map fun R=>.str (rowT R)) ⟨none,rfl,rfl⟩ ?_ ?_
 ·rintro i x ρ acc N hx ⟨v0,rfl,rfl⟩ hN
  rw [getElem?_map] at hx
  obtain⟨R,hR,rfl⟩:=map_eq_some_iff.mp hx
  walk_at "dd"
  refine⟨R,rfl,G R (mem_of_getElem? hR),?_⟩
  walk_at "dd"
  exact hN _ _ ⟨_,rfl,by rw [take_add_one,hR,toList_some,map_append];rfl⟩
 ·rintro ρ acc ⟨v0,rfl,rfl⟩
  rw [length_map,take_length]
  exact q
abbrev a4x:Stmt:=top 19
theorem b5n:FnScope ["_law_tape"] ["_law_tape"] (a0f a4x):=⟨rfl,rfl,rfl,by decide +kernel,rfl,by decide +kernel,by decide +kernel⟩
theorem c5a{f f1:Addr}{fd fd1:FuncData} (F:Fun K "_law_count" "_law_count" a4x f fd) (B:Bl mg) (a1g:b9i K mg f1 fd1) (a2l:b9h P w K mg base n f1 fd1):FnOk P w K mg base CX0 (n + 1) f fd ["_law_tape"] (spD K b2a):=by
 refine F.dok b5n (fun cdv A outer s H E hr ls Qd h=>?_) (fun ls Qd hq8=>by obtain⟨_,e,_⟩:=hq8;rw [e];rfl)
 obtain⟨k,rfl,hk,q⟩:=h
 refine⟨rfl,?_⟩
 refine⟨_,(a0v (a1x (a1s a1e a1t (a2e (a5d (a0b a0m (a0b a0m (a0b a0m (a0b a0m (a0b a0m (a0b a0m (a0b a0m (a0b a0m (a0b a0m a0g))))))))))) (a0o [true,false] a1g a2l hr rfl (a0b (dv 0) (a0b a0m a0g))) (fun _ _=>rfl)))),?_⟩
 walk_at "dd"
 refine⟨k,9,rfl,by decide,by omega,fun r h0 h1=>?_⟩
 walk_at "dd"
 refine a5v h0 h1 fun d hd _=>?_
 rw [show [PyData.int 0,PyData.int 1,PyData.int 2,PyData.int 7,PyData.int 10,PyData.int 99,PyData.int 999999999,PyData.int 100000000,PyData.int 3]=NUMS.map .int from rfl] at hd
 obtain⟨m,hm,rfl⟩:=mem_map.mp hd
 exact q m hm
end
section
variable{P:Program}{w:World}{K:W.Frag}{mg:Str->Option Value}{base:Heap}{n:Nat}
abbrev a6n:Stmt:=top 20
theorem a8a:FnScope ["_law_tape","_law_ranks","_law_choice"] ["_law_tape"] (a0f a6n):=⟨rfl,rfl,rfl,by decide +kernel,rfl,by decide +kernel,by decide +kernel⟩
theorem c9w{f f1 f2:Addr}{fd fd1 fd2:FuncData} (F:Fun K "_law_row" "_law_row" a6n f fd) (B:Bl mg) (a1g:b9i K mg f1 fd1) (a2l:b9h P w K mg base n f1 fd1)
  (a2r:Def K mg "_law_count" a4x ["_law_tape"] f2 fd2) (a4y:FnOk P w K mg base CX0 n f2 fd2 ["_law_tape"] (spD K b2a)):FnOk P w K mg base CX0 (n + 1) f fd ["_law_tape"] (spD K b5m):=by
 refine F.dok a8a (fun cdv A outer s H E hr ls Qd h=>?_) (fun ls Qd hq8=>by obtain⟨_,e,_⟩:=hq8;rw [e];rfl)
 obtain⟨k,rfl,hk,q⟩:=h
 refine⟨rfl,?_⟩
 refine⟨_,(a0p (a3z (i:=1) a8a.nd rfl (Or.inl rfl) (a1u a5g c3e rfl B.tuple_ a4k (a0b (a2e (a4p ["_law_k"] [("_law_tape",0)] rfl (by rfl) (by decide +kernel) (a6l rfl B.range_ (a0o [true,false] a1g a2l hr rfl (a0b (dv 0) (a0b a0m a0g)))) (fun _ _ _=>(a2p (i:=0) (show(["_law_k","_law_tape"]:List Str).Nodup by decide +kernel) rfl (Or.inl rfl))) (fun _ _ _=>a3k) (fun _ _ _=>(a0o [true] a2r a4y hr rfl (a0b (dv 1) a0g))))) a0g)))
  (a0p (a3z (i:=2) a8a.nd rfl (Or.inl rfl) (a1s a1e a1t (a2e (a5d (a0b b0u (a0b (a0o [true] a2r a4y hr rfl (a0b (dv 0) a0g)) a0g)))) (a0o [true,false] a1g a2l hr rfl (a0b (dv 0) (a0b a0m a0g))) (fun _ _=>rfl)))
  (a0v (a1x (a7b (a0b (a0o [true] a2r a4y hr rfl (a0b (dv 0) a0g)) (a0b (a0o [true] a2r a4y hr rfl (a0b (dv 0) a0g)) (a0b (a3w (a6f hr.units) a6e (a0o [true,false] a1g a2l hr rfl (a0b (dv 0) (a0b a0m a0g))) a0m (a0u _)) (a0b (dv 1) (a0b (dv 2) a0g)))))))))),?_⟩
 walk_at "dd"
 refine⟨k,5,rfl,by decide,by omega,fun r h0 h1=>?_⟩
 obtain⟨m,rfl⟩:∃ m:Nat,r=(m:Int):=⟨r.toNat,by omega⟩
 walk_at "dd"
 refine⟨⟨by omega,by omega⟩,by rw [a9p];omega,?_⟩
 rw [Int.toNat_natCast]
 refine a6g (fun i ρ acc=>∃ (v0:Option L) (rk:List Int),ρ=[v0,some (.tape (k + 1 + i))]/\acc=rk.map .int/\rk.length=i/\(∀ x ∈ rk,x ∈ NUMS)/\i <= 4) ⟨none,[],rfl,rfl,rfl,(fun x hx=>nomatch hx),by omega⟩ ?_ ?_
 ·rintro i x ρ acc N hx ⟨v0,rk,rfl,rfl,hl,hr,hi⟩ hN
  obtain⟨him,rfl⟩:=a8w hx
  walk_at "dd"
  refine⟨_,rfl,by omega,fun c hc=>?_⟩
  walk_at "dd"
  exact hN _ _ ⟨_,rk ++ [c],rfl,by rw [map_append];rfl,by rw [length_append,hl];rfl,fun x hx=>(mem_append.mp hx).elim (hr x) fun h=>by rw [mem_singleton.mp h];exact hc,by omega⟩
 rintro ρ acc ⟨v0,rk,rfl,rfl,hl,hr,hi⟩
 rw [a9p] at hl hi
 walk_at "dd"
 rw [a9p]
 refine⟨_,rfl,by omega,fun c hc=>?_⟩
 walk_at "dd"
 refine⟨_,2,rfl,by decide,by omega,fun r2 h2 h3=>?_⟩
 walk_at "dd"
 refine a5v h2 h3 fun d hd _=>?_
 obtain⟨ch,rfl,hch⟩:∃ ch,d=optI ch/\∀ x,ch=some x->x ∈ NUMS:=by
  rcases mem_cons.mp hd with rfl | hd
  ·exact⟨none,rfl,fun x hx=>nomatch hx⟩
  ·rw [mem_singleton.mp hd]
   exact⟨some c,rfl,fun x hx=>by cases hx;exact hc⟩
 walk_at "dd"
 refine⟨_,rfl,by omega,fun a ha=>?_⟩
 walk_at "dd"
 refine⟨_,rfl,by omega,fun b hb=>?_⟩
 walk_at "dd"
 refine⟨_,2,rfl,by decide,by omega,fun r3 h4 h5=>?_⟩
 walk_at "dd"
 exact q ⟨a,b,decide (r3=0),rk,ch⟩ _ (by omega) ⟨ha,hb,hr,by show rk.length <= 4;omega,hch⟩
end
set_option hygiene false in
local macro_rules | `(tactic| walk_at "t4") => `(tactic| (
   cases hch:R.ch with
   | none =>
    rw [hch] at rest few
    walk_at "dk"
    exact⟨_,rfl,a0k (b4q (show(4:Nat) + 1 <= sizeLine by rw [sizeLine_eq];omega)) (a0k (a3l (ss:=[tx R.a,tx R.b,_,_,"-"]) (by decide) few) rest)⟩
   | some c =>
    rw [hch] at rest few
    walk_at "dk"
    rw [show a2q (optI (some c))=false from rfl,show optI (some c)=.int c from rfl]
    exact⟨_,rfl,iteF (a0k (a4v (G.c c hch)) (a0k (b4q (show(4:Nat) + 1 <= sizeLine by rw [sizeLine_eq];omega)) (a0k (a3l (ss:=[tx R.a,tx R.b,_,_,tx c]) (by decide) few) rest)))⟩))
set_option hygiene false in
local macro_rules | `(tactic| walk_at "t3") => `(tactic| (
  refine a0k (a4v G.a) (a0k (a4v G.b) (a0k rfl (a0k rfl (a0k (by rw [hT3];exact tupEq) ?_))))
  walk_at "dd"
  by_cases hk:R.rk=[]
  ·rw [show rk1 R.rk = "-" from if_pos hk] at rest few
   rw [decide_eq_true hk]
   refine iteF ?_
   walk_at "t4"
  ·rw [show rk1 R.rk=rkT R.rk from if_neg hk] at rest few
   rw [decide_eq_false hk]
   refine iteT ?_
   walk_at "t4"))
section
variable{P:Program}{w:World}{K:W.Frag}{mg:Str->Option Value}{base:Heap}{n:Nat}
abbrev a5q:Stmt:=top 21
theorem a6q:FnScope ["_law_row_here","_law_ranks","_law_words"] ["_law_row_here"] (a0f a5q):=⟨rfl,rfl,rfl,by decide +kernel,rfl,by decide +kernel,by decide +kernel⟩
theorem c5b{f:Addr}{fd:FuncData} (F:Fun K "_law_text" "_law_text" a5q f fd) (B:Bl mg):FnOk P w K mg base CX0 (n + 1) f fd ["_law_row_here"] (spD K b2b):=by
 refine F.dok a6q (fun cdv A outer s H E hr ls Qd h=>?_) (fun ls Qd hq8=>by obtain⟨_,e,_⟩:=hq8;rw [e];rfl)
 obtain⟨R,rfl,G,q⟩:=h
 refine⟨rfl,?_⟩
 refine⟨_,(a0p (a3z (i:=1) a6q.nd rfl (Or.inl rfl) (a9k a1r (a0b (a2e (a4p ["_law_one"] [] rfl (by rfl) (by decide +kernel) (a8n (a1s a1e a1t (dv 0) a0m (fun _ _=>rfl))) (fun _ _ _=>(a2p (i:=0) (show(["_law_one"]:List Str).Nodup by decide +kernel) rfl (Or.inl rfl))) (fun _ _ _=>a3k) (fun _ _ _=>(a1u a1o a3m rfl B.str_ a3u (a0b (dv 0) a0g))))) a0g)))
  (a0p (a3z (i:=2) a6q.nd rfl (Or.inl rfl) (a2e (a5d (a0b (a1u a1o a3m rfl B.str_ a3u (a0b (a1s a1e a1t (dv 0) a0m (fun _ _=>rfl)) a0g)) (a0b (a1u a1o a3m rfl B.str_ a3u (a0b (a1s a1e a1t (dv 0) a0m (fun _ _=>rfl)) a0g)) (a0b (a1s a1e a1t (a2e (a5d (a0b a1r (a0b a1r a0g)))) (a1u c1j c8t rfl B.int_ a6a (a0b (a1s a1e a1t (dv 0) a0m (fun _ _=>rfl)) a0g)) (fun _ _=>rfl)) (a0b (b0z (a3x (a7f hr.units) a7e (a1s a1e a1t (dv 0) a0m (fun _ _=>rfl)) (a7b a0g) (a0u _)) (dv 1) a1r) a0g)))))))
  (a0v (a1x (a9k a1r (a0b (a2e (c5y b4d c0s (dv 2) (a2e (a5d (a0b (b0z (a3x b3y b5b (a1s a1e a1t (dv 0) a0m (fun _ _=>rfl)) b0u (a0u _)) a1r (a1u a1o a3m rfl B.str_ a3u (a0b (a1s a1e a1t (dv 0) a0m (fun _ _=>rfl)) a0g))) a0g))))) a0g)))))),?_⟩
 unfold encR
 walk_at "dd"
 have gl:=G.l
 refine⟨_,rfl,by rw [length_map];omega,?_⟩
 refine L2.a7t (fun ρ=>∃ v0:Option L,ρ=[v0]) stF ⟨_,rfl⟩ ?_ ?_
 ·rintro y ρ N hy ⟨v0,rfl⟩ hN
  obtain⟨m,hm,rfl⟩:=mem_map.mp hy
  walk_at "dd"
  refine a0k (a4v (G.r m hm)) ?_
  exact hN _ ⟨_,rfl⟩
 rintro ρ ⟨v0,rfl⟩
 rw [b1y]
 refine a0k (a3l (by decide) (b5l G.r gl)) ?_
 obtain⟨T3,hT3⟩:∃ T3,T3=PyData.tuple (R.rk.map .int):=⟨_,rfl⟩
 rw [← hT3]
 have rest:Qd (RV.d (.str (Txt.join " " [tx R.a,tx R.b,yn R.t,rk1 R.rk,chT R.ch]))) [none]:=q
 have few:=b7f G
 unfold wsR at few
 cases ht:R.t with
 | true =>
  rw [ht] at rest few
  walk_at "dd"
  walk_at "t3"
 | false =>
  rw [ht] at rest few
  walk_at "dd"
  walk_at "t3"
end
noncomputable def a6o:Nat->PyData->Prop
 | 0,_=>False
 | m + 1,d=>d=.none ∨ (∃ b,d=.bool b) ∨ (∃ x:Int,d=.int x) ∨ (∃ s:Str,d=.str s) ∨ ∃ ds:List PyData,(d=.tuple ds ∨ d=.list ds)/\ds.length <= 1000/\∀ e ∈ ds,a6o m e
def a9q(m:Nat):DSp:=fun ls Q=>(∃ d:PyData,ls=[.d d,.d d]/\a6o m d/\Q (.d (.bool true)) [none,none]) ∨ ∃ ds:List PyData,ls=[.bor ds,.d (.list ds)]/\a6o m (.list ds)/\Q (.d (.bool true)) [some (.bor ds),none]
theorem c5c{m:Nat}{ds:List PyData}(h:a6o (m + 1) (.list ds)):ds.length <= 1000/\∀ e ∈ ds,a6o m e:=by
 rcases h with h | ⟨b,h⟩ | ⟨x,h⟩ | ⟨x,h⟩ | ⟨es,h,hl,hs⟩
 ·cases h
 ·cases h
 ·cases h
 ·cases h
 ·rcases h with h | h
  ·cases h
  ·cases h;exact⟨hl,hs⟩
set_option hygiene false in
local macro_rules | `(tactic| walk_at "sg") => `(tactic| (
  refine⟨⟨by omega,by omega⟩,by simp [rngD];omega,?_⟩
  rw [show((ds.length:Int)).toNat=ds.length by omega]
  refine a6g (fun i ρ acc=>∃ (v0:Option L) (a b:L),ρ=[v0,some a,some b]/\(a=.d dd/\b=.d dd)/\acc=List.replicate i (.bool true)) ⟨none,_,_,rfl,⟨rfl,rfl⟩,rfl⟩ ?_ ?_
  ·rintro i x ρ acc N hx ⟨v0,a,b,rfl,⟨rfl,rfl⟩,rfl⟩ hN
   obtain⟨hi2,rfl⟩:=a8w hx
   rw [hdd]
   walk_at "dk"
   refine a5v (by omega) (by omega) fun d _ hd=>?_
   refine a5v (by omega) (by omega) fun d' _ hd'=>?_
   rw [hd] at hd'
   cases hd'
   rw [Int.toNat_natCast] at hd
   walk_at "dk"
   refine .inl ⟨d,rfl,hs d (mem_of_getElem? hd),?_⟩
   walk_at "dk"
   refine hN _ _ ⟨_,_,_,by rw [← hdd],⟨rfl,rfl⟩,?_⟩
   rw [List.replicate_succ']
  ·rintro ρ acc ⟨v0,a,b,rfl,⟨rfl,rfl⟩,rfl⟩
   rw [b6x,a5c]
   exact q))
section
variable{P:Program}{w:World}{K:W.Frag}{mg:Str->Option Value}{base:Heap}{n:Nat}
abbrev a4e:Stmt:=top 18
theorem b5x:FnScope ["_law_found","_law_due"] ["_law_found","_law_due"] (a0f a4e):=⟨rfl,rfl,rfl,by decide +kernel,rfl,by decide +kernel,by decide +kernel⟩
theorem c5d{f:Addr}{fd:FuncData} (F:Fun K "_law_same" "_law_same" a4e f fd) (B:Bl mg) (a1n:Def K mg "_law_same" a4e ["_law_found","_law_due"] f fd) {m:Nat}
  (a2m:FnOk P w K mg base CX0 n f fd ["_law_found","_law_due"] (spD K (a9q m))):FnOk P w K mg base CX0 (n + 1) f fd ["_law_found","_law_due"] (spD K (a9q (m + 1))):=by
 refine F.dok b5x (fun cdv A outer s H E hr ls Qd h=>?_) (fun ls Qd h=>by rcases h with⟨_,e,_⟩ | ⟨_,e,_⟩<;>rw [e]<;>rfl)
 refine⟨by rcases h with⟨_,e,_⟩ | ⟨_,e,_⟩<;>rw [e]<;>rfl,?_⟩
 refine⟨_,(a0p (a5l (a6d (d3i rfl B.isinstance_ rfl B.tuple_ a4k rfl rfl B.list_ a9g rfl (dv 1)))
  (a0p (a5l (DW.toT (b3m (a3x (a7f hr.units) a7e (a4a rfl B.isinstance_ rfl B.tuple_ a4k rfl (dv 0)) (a4a rfl B.isinstance_ rfl B.tuple_ a4k rfl (dv 1)) (a0u _)) (b0y (a3x (a7f hr.units) a7e (a4a rfl B.isinstance_ rfl B.list_ a9g rfl (dv 0)) (a4a rfl B.isinstance_ rfl B.list_ a9g rfl (dv 1)) (a0u _)))))
  (a0v (a1x b0t))
  a3b)
  (a0v (a1x (a7d (a3w (a6f hr.units) a6e (a4n a4t b0v rfl B.len_ a5a (a0b (dv 0) a0g)) (a4n a4t b0v rfl B.len_ a5a (a0b (dv 1) a0g)) (a0u _)) (a7c (a4n (c1k rfl) c8u rfl B.all_ b4x (a0b (a2e (a4p ["_law_k"] [("_law_found",0),("_law_due",1)] rfl (by rfl) (by decide +kernel) (a6l rfl B.range_ (a4n a4t b0v rfl B.len_ a5a (a0b (dv 1) a0g))) (fun _ _ _=>(a2p (i:=0) (show(["_law_k","_law_found","_law_due"]:List Str).Nodup by decide +kernel) rfl (Or.inl rfl))) (fun _ _ _=>a3k) (fun _ _ _=>(a0o [false,false] a1n a2m hr rfl (a0b (a1s a1e a1t (dv 1) (dv 0) (fun _ _=>rfl)) (a0b (a1s a1e a1t (dv 2) (dv 0) (fun _ _=>rfl)) a0g)))))) a0g)))))))
  a3b)
  (a0p (a5l (DW.toT (b3m (a3x b3y b5b (dv 1) b0u (a0u _)) (b0y (a6d (a4a rfl B.isinstance_ rfl B.bool_ a9f rfl (dv 1))))))
  (a0v (a1x (a7d (a3w (a6f hr.units) a6e (a4a rfl B.isinstance_ rfl B.bool_ a9f rfl (dv 0)) (a4a rfl B.isinstance_ rfl B.bool_ a9f rfl (dv 1)) (a0u _)) (a7c (a3w (a6f hr.units) a6e (dv 0) (dv 1) (a0u _))))))
  a3b)
  (a0p (a5l (a6d (a4a rfl B.isinstance_ rfl B.int_ a6a rfl (dv 1)))
  (a0v (a1x (a7d (a4a rfl B.isinstance_ rfl B.int_ a6a rfl (dv 0)) (a7d (d1g (a4a rfl B.isinstance_ rfl B.bool_ a9f rfl (dv 0))) (a7c (a3w (a6f hr.units) a6e (dv 0) (dv 1) (a0u _)))))))
  a3b)
  (a0v (a1x (a7d (a4a rfl B.isinstance_ rfl B.str_ a3u rfl (dv 0)) (a7c (a3w (a6f hr.units) a6e (dv 0) (dv 1) (a0u _))))))))),?_⟩
 rcases h with⟨d,rfl,hd,q⟩ | ⟨ds,rfl,hd,q⟩
 rotate_left
 ·obtain⟨hl,hs⟩:=c5c hd
  walk_at "dk"
  rw [show(isD "tuple" (.list ds) || isD "list" (.list ds))=true from rfl]
  walk_at "dk"
  refine⟨⟨by omega,by omega⟩,by simp [rngD];omega,?_⟩
  rw [show((ds.length:Int)).toNat=ds.length by omega]
  refine a6g (fun i ρ acc=>∃ (v0:Option L),ρ=[v0,some (L.bor ds),some (L.d (.list ds))]/\acc=List.replicate i (.bool true)) ⟨none,rfl,rfl⟩ ?_ ?_
  ·rintro i x ρ acc N hx ⟨v0,rfl,rfl⟩ hN
   obtain⟨hi2,rfl⟩:=a8w hx
   walk_at "dk"
   refine a5v (by omega) (by omega) fun d _ hd=>?_
   refine a5v (by omega) (by omega) fun d' _ hd'=>?_
   rw [hd] at hd'
   cases hd'
   rw [Int.toNat_natCast] at hd
   walk_at "dk"
   refine .inl ⟨d,rfl,hs d (mem_of_getElem? hd),?_⟩
   walk_at "dk"
   refine hN _ _ ⟨_,rfl,?_⟩
   rw [List.replicate_succ']
  ·rintro ρ acc ⟨v0,rfl,rfl⟩
   rw [b6x,a5c]
   exact q
 rcases hd with rfl | ⟨b,rfl⟩ | ⟨x,rfl⟩ | ⟨x,rfl⟩ | ⟨ds,hdd,hl,hs⟩
 ·walk_at "dk"
  rw [show fEqA false .none .none=some (.bool true) from rfl,a5c]
  exact q
 ·walk_at "dk"
  rw [show(isD "tuple" (.bool b) || isD "list" (.bool b))=false from rfl]
  walk_at "dk"
  try rw [show isD "bool" (.bool b)=true from rfl]
  walk_at "dk"
  rw [show a2q (.bool b)=false from rfl]
  exact iteF q
 ·walk_at "dk"
  rw [show(isD "tuple" (.int x) || isD "list" (.int x))=false from rfl]
  walk_at "dk"
  rw [show isD "bool" (.int x)=false from rfl]
  walk_at "dk"
  try rw [show isD "int" (.int x)=true from rfl]
  walk_at "dk"
  rw [show(!isD "bool" (.int x))=true from rfl,if_pos rfl]
  exact q
 ·walk_at "dk"
  rw [show(isD "tuple" (.str x) || isD "list" (.str x))=false from rfl]
  walk_at "dk"
  rw [show isD "bool" (.str x)=false from rfl]
  walk_at "dk"
  rw [show a2q (.str x)=false from rfl]
  refine iteF ?_
  walk_at "dk"
  rw [show isD "int" (.str x)=false from rfl]
  walk_at "dk"
  try rw [show isD "str" (.str x)=true from rfl]
  try walk_at "dk"
  exact q
 ·rcases hdd with rfl | rfl
  ·obtain⟨dd,hdd⟩:∃ dd,dd=PyData.tuple ds:=⟨_,rfl⟩
   walk_at "dk"
   rw [show(isD "tuple" (.tuple ds) || isD "list" (.tuple ds))=true from rfl]
   walk_at "dk"
   try rw [show isD "tuple" (.tuple ds)=true from rfl]
   try walk_at "dk"
   try rw [show isD "list" (.tuple ds)=false from rfl]
   try walk_at "dk"
   rw [← hdd]
   walk_at "sg"
  ·obtain⟨dd,hdd⟩:∃ dd,dd=PyData.list ds:=⟨_,rfl⟩
   walk_at "dk"
   rw [show(isD "tuple" (.list ds) || isD "list" (.list ds))=true from rfl]
   walk_at "dk"
   try rw [show isD "tuple" (.list ds)=false from rfl]
   try walk_at "dk"
   try rw [show isD "list" (.list ds)=true from rfl]
   try walk_at "dk"
   rw [← hdd]
   walk_at "sg"
end
theorem b1j{c:Nat}{sep:Str}(hs:c ∉ sep.cps.toList):∀ {ws:List Str},(∀ p ∈ ws,c ∉ p.cps.toList)->c ∉ (Str.join sep ws).cps.toList
 | [],_=>fun h=>by
  have h':c ∈ (Str.empty).cps.toList:=h
  simp [Str.empty] at h'
 | [x],h=>h x (mem_cons_self ..)
 | x :: y :: r,h=>by
  rw [a4q]
  intro z
  rcases mem_append.mp z with z | z
  ·exact h x (mem_cons_self ..) z
  ·rcases mem_append.mp z with z | z
   ·exact hs z
   ·exact b1j hs (ws:=y :: r) (fun p hp=>h p (mem_cons_of_mem _ hp)) z
theorem c2k:(" " : Str)=⟨#[32]⟩:=by decide +kernel
theorem c2l:("," : Str)=⟨#[44]⟩:=by decide +kernel
theorem b0e{rk:List Int}(h:∀ x ∈ rk,x ∈ NUMS)(hn:rk ≠ []):Txt.split (rkT rk) "," = rk.map tx:=by
 unfold rkT
 rw [c2l]
 refine b1g (fun z=>hn (List.map_eq_nil_iff.mp z)) fun p hp=>?_
 obtain⟨x,hx,rfl⟩:=mem_map.mp hp
 exact(a1p x (h x hx)).2.1.2
theorem c9x{rk:List Int}(h:∀ x ∈ rk,x ∈ NUMS)(hn:rk ≠ []):rkT rk ≠ "-":=fun e=>by
 have h1:=b0e h hn
 rw [e,show Txt.split "-" "," = [("-" : Str)] by decide +kernel] at h1
 cases rk with
 | nil=>exact hn rfl
 | cons x r=>exact(a1p x (h x (mem_cons_self ..))).2.2 (List.cons.inj h1).1.symm
theorem b2z{R:Rw}(G:GoodR R):wordsOf (rowT R)=wsR R:=by
 unfold wordsOf rowT
 rw [c2k]
 refine b1g (fun z=>nomatch z) fun p hp=>?_
 have hp:p=tx R.a ∨ p=tx R.b ∨ p=yn R.t ∨ p=rk1 R.rk ∨ p=chT R.ch:=by
  unfold wsR at hp
  simpa using hp
 rcases hp with rfl | rfl | rfl | rfl | rfl
 ·exact(a1p _ G.a).2.1.1
 ·exact(a1p _ G.b).2.1.1
 ·unfold yn;split<;>decide +kernel
 ·unfold rk1
  split
  ·decide +kernel
  ·unfold rkT
   rw [a7w]
   refine b1j (by decide +kernel) fun q hq=>?_
   obtain⟨x,hx,rfl⟩:=mem_map.mp hq
   exact(a1p x (G.r x hx)).2.1.1
 ·cases e:R.ch with
  | none=>show 32 ∉ (Str.ofString "-").cps.toList;decide +kernel
  | some c=>exact(a1p c (G.c c e)).2.1.1
theorem b1k{n:Int}(h:n ∈ NUMS):num (tx n)=n:=by unfold num;rw [c9u n h];rfl
theorem b5o{R:Rw}(G:GoodR R):a2k (wsR R)=none/\rowD (wsR R)=encR R:=by
 have o2:isTr (yn R.t)=true:=by cases R.t<;>decide +kernel
 have o3:allF (rk1 R.rk)=true:=by
  unfold rk1 allF
  by_cases e:R.rk=[]
  ·rw [if_pos e];decide +kernel
  ·rw [if_neg e,b0e G.r e,all_map,Bool.or_eq_true]
   right
   rw [all_map]
   exact all_eq_true.mpr fun x hx=>a9o x (G.r x hx)
 have o4:oneF (chT R.ch)=true:=by
  cases e:R.ch with
  | none=>show oneF "-" = true;decide +kernel
  | some c=>show oneF (tx c)=true;unfold oneF;rw [a9o c (G.c c e),Bool.or_true]
 refine⟨?_,?_⟩
 ·unfold a2k
  rw [show okAt (wsR R) 0=true from a9o _ G.a,show okAt (wsR R) 1=true from a9o _ G.b,show okAt (wsR R) 2=true from o2,show okAt (wsR R) 3=true from o3,show okAt (wsR R) 4=true from o4]
  rfl
 ·show PyData.tuple [.int (num (tx R.a)),.int (num (tx R.b)),trv (yn R.t),a4c (rk1 R.rk),a3r (chT R.ch)]=_
  have e1:trv (yn R.t)=.bool R.t:=by unfold trv;congr 1;cases R.t<;>decide +kernel
  have e2:a4c (rk1 R.rk)=.tuple (R.rk.map .int):=by
   unfold rk1
   by_cases e:R.rk=[]
   ·rw [if_pos e,e];rfl
   ·rw [if_neg e,show a4c (rkT R.rk)=.tuple ((Txt.split (rkT R.rk) ",").map fun z=>.int (num z)) from if_neg (c9x G.r e),b0e G.r e,map_map]
    congr 1
    exact List.map_congr_left fun x hx=>by show PyData.int (num (tx x))=_;rw [b1k (G.r x hx)]
  have e3:a3r (chT R.ch)=optI R.ch:=by
   cases e:R.ch with
   | none=>rfl
   | some c =>
    show a3r (tx c)=.int c
    rw [show a3r (tx c)=.int (num (tx c)) from if_neg (a1p c (G.c c e)).2.2,b1k (G.c c e)]
  rw [b1k G.a,b1k G.b,e1,e2,e3]
  rfl
theorem c9y{R:Rw}(G:GoodR R):(rowT R).length <= 100000:=by
 have h1:=(a1p R.a G.a).1.2
 have h2:=(a1p R.b G.b).1.2
 have h3:=c2i G.c
 have h4:=c2j G.r G.l
 have h5:(yn R.t).length <= 3:=by unfold yn;split<;>decide
 have h6:(rk1 R.rk).length <= 400:=by
  unfold rk1
  split
  ·decide
  ·exact h4
 have:=PyProof.Rows.len_join_le (sep:=" ") (ys:=wsR R) (n:=1000) (by
  unfold PyProof.Rows.Weighs wsR
  simp only [map_cons,map_nil,sum_cons,List.sum_nil,length_cons,List.length_nil]
  omega) (by decide)
 unfold rowT;omega
theorem b9o{Rs:List Rw}(G:∀ R ∈ Rs,GoodR R):(∀ t ∈ Rs.map rowT,t.length <= 100000/\a2k (wordsOf t)=none)/\((Rs.map rowT).map fun t=>rowD (wordsOf t))=Rs.map encR:=by
 refine⟨fun t ht=>?_,?_⟩
 ·obtain⟨R,hR,rfl⟩:=mem_map.mp ht
  exact⟨c9y (G R hR),by rw [b2z (G R hR)];exact(b5o (G R hR)).1⟩
 ·rw [map_map]
  exact List.map_congr_left fun R hR=>by show rowD (wordsOf (rowT R))=_;rw [b2z (G R hR)];exact(b5o (G R hR)).2
theorem u65{a b:Nat}(h:a + 80 < b):a + 65 < b:=by omega
theorem b7g(R:Rw):SeqAt.shaped (.tuple [.int R.a,.int R.b,.bool R.t])=true:=rfl
noncomputable def cut3:PyData->Option PyData
 | .tuple [a,b,c,_,_]=>some (.tuple [a,b,c])
 | _=>none
theorem b5p:∀ Rs:List Rw,(Rs.map encR).filterMap cut3=Rs.map fun R=>.tuple [.int R.a,.int R.b,.bool R.t]
 | []=>rfl
 | R :: r=>by rw [map_cons,filterMap_cons,b5p r];rfl
theorem c5e{R:Rw}(G:GoodR R):a6o 3 (encR R):=by
 refine .inr (.inr (.inr (.inr ⟨_,.inl rfl,by show 5 <= 1000;decide,fun e he=>?_⟩)))
 have he:e=.int R.a ∨ e=.int R.b ∨ e=.bool R.t ∨ e=.tuple (R.rk.map .int) ∨ e=optI R.ch:=by simpa using he
 rcases he with rfl | rfl | rfl | rfl | rfl
 ·exact .inr (.inr (.inl ⟨_,rfl⟩))
 ·exact .inr (.inr (.inl ⟨_,rfl⟩))
 ·exact .inr (.inl ⟨_,rfl⟩)
 ·refine .inr (.inr (.inr (.inr ⟨_,.inl rfl,by rw [length_map];have:=G.l;omega,fun e he=>?_⟩)))
  obtain⟨x,_,rfl⟩:=mem_map.mp he
  exact .inr (.inr (.inl ⟨_,rfl⟩))
 ·cases R.ch with
  | none=>exact .inl rfl
  | some c=>exact .inr (.inr (.inl ⟨_,rfl⟩))
theorem b1l{Rs:List Rw}(G:∀ R ∈ Rs,GoodR R)(h:Rs.length <= 100):a6o 4 (.tuple (Rs.map encR)):=
 .inr (.inr (.inr (.inr ⟨_,.inl rfl,by rw [length_map];omega,fun e he=>by obtain⟨R,hR,rfl⟩:=mem_map.mp he;exact c5e (G R hR)⟩)))
theorem b9p{ts:List Str}(h:ts.length <= 100):a6o 4 (.list (ts.map .str)):=
 .inr (.inr (.inr (.inr ⟨_,.inr rfl,by rw [length_map];omega,fun e he=>by obtain⟨t,_,rfl⟩:=mem_map.mp he;exact .inr (.inr (.inr (.inl ⟨_,rfl⟩)))⟩)))
theorem a9r:∀ n ∈ NUMS,∀ c ∈ (tx n).cps.toList,c < 1114112:=by decide +kernel
theorem b0f{p:Nat->Prop}{sep:Str}(hs:∀ c ∈ sep.cps.toList,p c):∀ {ws:List Str},(∀ z ∈ ws,∀ c ∈ z.cps.toList,p c)->∀ c ∈ (Str.join sep ws).cps.toList,p c
 | [],_=>fun c h=>by
  have h':c ∈ (Str.empty).cps.toList:=h
  simp [Str.empty] at h'
 | [x],h=>h x (mem_cons_self ..)
 | x :: y :: r,h=>by
  rw [a4q]
  intro c z
  rcases mem_append.mp z with z | z
  ·exact h x (mem_cons_self ..) c z
  ·rcases mem_append.mp z with z | z
   ·exact hs c z
   ·exact b0f hs (ws:=y :: r) (fun p hp=>h p (mem_cons_of_mem _ hp)) c z
theorem d3z{R:Rw}(G:GoodR R):PyData.strOk (rowT R)=true:=by
 have key:∀ c ∈ (rowT R).cps.toList,c < 1114112:=by
  unfold rowT
  rw [a7w]
  refine b0f (by decide +kernel) fun p hp=>?_
  have hp:p=tx R.a ∨ p=tx R.b ∨ p=yn R.t ∨ p=rk1 R.rk ∨ p=chT R.ch:=by
   unfold wsR at hp
   simpa using hp
  rcases hp with rfl | rfl | rfl | rfl | rfl
  ·exact a9r _ G.a
  ·exact a9r _ G.b
  ·unfold yn;split<;>decide +kernel
  ·unfold rk1
   split
   ·decide +kernel
   ·unfold rkT
    rw [a7w]
    refine b0f (by decide +kernel) fun q hq=>?_
    obtain⟨x,hx,rfl⟩:=mem_map.mp hq
    exact a9r x (G.r x hx)
  ·cases e:R.ch with
   | none=>show ∀ c ∈ (Str.ofString "-").cps.toList,c < 1114112;decide +kernel
   | some c=>exact a9r c (G.c c e)
 unfold PyData.strOk
 rw [Array.all_eq_true_iff_forall_mem]
 intro c hc
 exact decide_eq_true (key c (by simpa using hc))
theorem c5f{Rs:List Rw}(G:∀ R ∈ Rs,GoodR R):fEqA true (.list ((Rs.map rowT).map .str)) (.list ((Rs.map rowT).map .str))=some (.bool false):=by
 have hS:∀ s ∈ Rs.map rowT,PyData.strOk s=true:=fun s hs=>by obtain⟨R,hR,rfl⟩:=mem_map.mp hs;exact d3z (G R hR)
 generalize Rs.map rowT=ns at hS ⊢
 have h1:PyData.canLayAll0 (ns.map .str)=true:=by
  induction ns with
  | nil=>rfl
  | cons s r ih=>simp [PyData.canLayAll0,PyData.canLay0,hS s (mem_cons_self ..),ih fun z hz=>hS z (mem_cons_of_mem _ hz)]
 have h2:PyData.depthAll (ns.map .str)=0:=by
  clear hS h1
  induction ns with
  | nil=>rfl
  | cons s r ih=>simp [PyData.depthAll,PyData.depth,ih]
 have h3:SeqAt.shaped (.list (ns.map .str))=true:=by simp [SeqAt.shaped,PyData.canLay0,h1,PyData.depth,h2]
 rw [b4p rfl h3 h3,PySem.SeqAt.eqv_refl _ (by rw [PyData.canLay0];exact h1)]
 rfl
theorem b7h{xs ys:List PyData}(h:xs.length + ys.length <= sizeLine):fAdd (.tuple xs) (.tuple ys)=some (.tuple (xs ++ ys)):=if_pos h
section
variable{P:Program}{w:World}{K:W.Frag}{mg:Str->Option Value}{base:Heap}{n:Nat}
abbrev a5r:Stmt:=top 22
theorem a3e:FnScope ["_law_script","_law_tape","_law_paper","_law_k","_law_row_here","_law_due","_law_again","_law_found","_law_handed"] ["_law_script"] (a0f a5r):=⟨rfl,rfl,rfl,by decide +kernel,rfl,by decide +kernel,by decide +kernel⟩
theorem d4a{f f1 f2 f3 f4 f5 f6:Addr}{fd fd1 fd2 fd3 fd4 fd5 fd6:FuncData} (F:Fun K "law" "law" a5r f fd) (B:Bl mg) (a1g:b9i K mg f1 fd1) (a2l:b9h P w K mg base n f1 fd1)
  (a8x:Def K mg "_law_row" a6n ["_law_tape"] f2 fd2) (c2m:FnOk P w K mg base CX0 n f2 fd2 ["_law_tape"] (spD K b5m))
  (a8b:Def K mg "_law_text" a5q ["_law_row_here"] f3 fd3) (b9q:FnOk P w K mg base CX0 n f3 fd3 ["_law_row_here"] (spD K b2b))
  (d_shown_paper:Def K mg "shown_paper" a3h ["paper"] f4 fd4) (g_shown_paper:FnOk P w K mg base CX0 n f4 fd4 ["paper"] (spD K b9n))
  (d_read_paper:Def K mg "read_paper" a4d ["texts"] f5 fd5) (g_read_paper:FnOk P w K mg base CX0 n f5 fd5 ["texts"] (spD K b1x))
  (a1n:Def K mg "_law_same" a4e ["_law_found","_law_due"] f6 fd6) (a2m:FnOk P w K mg base CX0 n f6 fd6 ["_law_found","_law_due"] (spD K (a9q 4))):FnOk P w K mg base CX0 (n + 1) f fd ["_law_script"] (b3q K):=by
 refine F.law a3e (fun cdv A outer s H E hr=>?_)
 refine⟨_,_,rfl,a2f (i:=1) a3e.nd rfl (Or.inl rfl) (c0g (a0e (pv 0) (a0e a0t a0h))),_,(a0p (a3z (i:=2) a3e.nd rfl (Or.inl rfl) (a7b a0g))
  (a0p (c1a PassesOwn.never rfl (a6l rfl B.range_ (a0o [true,false] a1g a2l hr rfl (a0b (dv 1) (a0b a0m a0g)))) (a2p (i:=3) a3e.nd rfl (Or.inl rfl))
  (a0p (a3z (i:=4) a3e.nd rfl (Or.inl rfl) (a0o [true] a8x c2m hr rfl (a0b (dv 1) a0g)))
  (a0v (a5l (a3x (c9d (u65 hr.units2)) c9e (b4v (c0h.or b5c) c1p (dv 4) b6v (b6w a0m)) (a2e (a4p ["_law_one"] [] rfl (by rfl) (by decide +kernel) (a8n (dv 2)) (fun _ _ _=>(a2p (i:=0) (show(["_law_one"]:List Str).Nodup by decide +kernel) rfl (Or.inl rfl))) (fun _ _ _=>a3k) (fun _ _ _=>(b4v (c0h.or b5c) c1p (dv 0) b6v (b6w a0m))))) (by rfl))
  (a0v (a3z (i:=2) a3e.nd rfl (Or.inl rfl) (c5u b2p c0r (dv 2) (a7b (a0b (dv 4) a0g)))))
  a3b))))
  (a0p (c7n (i:=5) a3e.nd rfl rfl ["_law_row_here"] [] rfl (by rfl) (by decide +kernel) (a8n (dv 2)) (fun _ _ _=>(a2p (i:=0) (show(["_law_row_here"]:List Str).Nodup by decide +kernel) rfl (Or.inl rfl))) (fun _ _ _=>a3k) (fun _ _ _=>(a0o [false] a8b b9q hr rfl (a0b (dv 0) a0g))))
  (a0p (c1a PassesOwn.never rfl (a6l rfl B.range_ a0m) (a2p (i:=6) a3e.nd rfl (Or.inl rfl))
  (a0p (b6t (i:=7) a3e.nd rfl (Or.inl rfl) (c3m [false] d_shown_paper g_shown_paper hr rfl (a0b (dv 2) a0g)))
  (a0p (a5l (a8l (a6d (a0o [true,false] a1n a2m hr rfl (a0b (dv 7) (a0b (dv 5) a0g)))))
  (a0v (a1x b0t))
  a3b)
  (a0p (b6s (c0z 7 rfl a1r))
  (a0p (b6t (i:=8) a3e.nd rfl (Or.inl rfl) (c0t b4b c7d rfl B.list_ a9g (a0b (dv 5) a0g)))
  (a0p (a5l (DW.toT (b3m (a8l (a6d (a0o [false,false] a1n a2m hr rfl (a0b (a0o [true] d_read_paper g_read_paper hr rfl (a0b (dv 8) a0g)) (a0b (dv 2) a0g))))) (b0y (a3x (a7f hr.units) a7e (dv 8) (dv 5) (a0u _)))))
  (a0v (a1x b0t))
  a3b)
  (a0v (b6s (b8t 8 rfl)))))))))
  (a0p (a5l (a8l (a6d (a0o [false,false] a1n a2m hr rfl (a0b (a0o [false] d_read_paper g_read_paper hr rfl (a0b (a2e (c5y b4d c0s (dv 5) (dv 5))) a0g)) (a0b (c5u b2p c0r (dv 2) (dv 2)) a0g)))))
  (a0v (a1x b0t))
  a3b)
  (a0v (a1x (a7d (a0o [false,false] a1n a2m hr rfl (a0b (a0o [false] d_read_paper g_read_paper hr rfl (a0b (a2e (a5d a0g)) a0g)) (a0b (a7b a0g) a0g))) (a7c (a0o [false,false] a1n a2m hr rfl (a0b (a0o [false] d_shown_paper g_shown_paper hr rfl (a0b (a7b a0g) a0g)) (a0b (a2e (a5d a0g)) a0g)))))))))))),?_⟩
 walk_at "dd"
 refine⟨0,10,rfl,by decide,by omega,fun r h0 h1=>?_⟩
 obtain⟨m,rfl⟩:∃ m:Nat,r=(m:Int):=⟨r.toNat,by omega⟩
 walk_at "dd"
 refine⟨⟨by omega,by omega⟩,?_⟩
 rw [Int.toNat_natCast]
 refine b4s (fun i ρ=>∃ (k':Nat) (Rs:List Rw) (v3 v4:Option L),ρ=[some .scr,some (.tape k'),some (.d (.tuple (Rs.map encR))),v3,v4,none,none,none,none]/\k' <= 1 + 10 * i/\Rs.length <= i/\i <= 9/\∀ R ∈ Rs,GoodR R) ⟨1,[],none,none,rfl,by omega,le_refl _,by omega,fun R hR=>nomatch hR⟩ ?_ ?_
 ·rintro i x ρ N hx ⟨k',Rs,v3,v4,rfl,hk',hl,hi,hG⟩ hN
  obtain⟨him,rfl⟩:=a8w hx
  walk_at "dd"
  refine⟨k',rfl,by omega,fun R k2 hk2 G=>?_⟩
  walk_at "dd"
  refine a0k (x:=.tuple [.int R.a,.int R.b,.bool R.t]) rfl ⟨by rw [length_map];omega,?_⟩
  refine L2.a7t (fun ρ=>∃ v0:Option L,ρ=[v0]) cut3 ⟨_,rfl⟩ ?_ ?_
  ·rintro y ρ N2 hy ⟨v0,rfl⟩ hN2
   obtain⟨R2,hR2,rfl⟩:=mem_map.mp hy
   walk_at "dd"
   refine a0k (x:=.tuple [.int R2.a,.int R2.b,.bool R2.t]) rfl ?_
   exact hN2 _ ⟨_,rfl⟩
  rintro ρ ⟨v0,rfl⟩
  rw [b5p]
  refine a0k (c4o (b7g R) fun e he=>by obtain⟨R2,_,rfl⟩:=mem_map.mp he;exact b7g R2) ?_
  walk_at "dd"
  refine c6a (fun _=>?_) (fun _=>?_)
  ·refine a0k (b7h (by rw [length_map,sizeLine_eq];show Rs.length + 1 <= _;omega)) ?_
   exact hN _ ⟨k2,Rs ++ [R],_,_,by rw [map_append];rfl,by omega,by rw [length_append];show Rs.length + 1 <= _;omega,by omega,fun R' h=>(mem_append.mp h).elim (hG R') fun h=>by rw [mem_singleton.mp h];exact G⟩
  ·exact hN _ ⟨k2,Rs,_,_,rfl,by omega,by omega,by omega,hG⟩
 rintro ρ ⟨k',Rs,v3,v4,rfl,hk',hl,hi,hG⟩
 rw [a9p] at hl hk' hi
 walk_at "dd"
 refine⟨by rw [length_map];omega,?_⟩
 refine a6g (fun i ρ acc=>∃ v0:Option L,ρ=[v0]/\acc=((Rs.take i).map rowT).map .str) ⟨none,rfl,rfl⟩ ?_ ?_
 ·rintro i x ρ acc N hx ⟨v0,rfl,rfl⟩ hN
  rw [getElem?_map] at hx
  obtain⟨R,hR,rfl⟩:=map_eq_some_iff.mp hx
  walk_at "dd"
  refine⟨R,rfl,hG R (mem_of_getElem? hR),?_⟩
  walk_at "dd"
  exact hN _ _ ⟨_,rfl,by rw [take_add_one,hR,toList_some,map_append,map_append];rfl⟩
 rintro ρ acc ⟨v0,rfl,rfl⟩
 rw [length_map,take_length]
 obtain⟨pr1,pr2⟩:=b9o hG
 have tl:(Rs.map rowT).length <= 9:=by rw [length_map];omega
 obtain⟨ts,hts⟩:∃ ts,ts=Rs.map rowT:=⟨_,rfl⟩
 rw [← hts] at pr1 pr2 tl ⊢
 have eN:(Rs.map fun R=>PyData.str (rowT R))=ts.map .str:=by rw [hts,map_map];rfl
 have eqT:=c5f hG
 rw [← hts] at eqT
 have sP:=b1l hG (by omega)
 have sT:=b9p (ts:=ts) (by omega)
 walk_at "dd"
 refine⟨⟨by decide,by decide⟩,?_⟩
 refine b4s (fun i ρ=>∃ (l5:L) (v6 v7 v8:Option L),ρ=[some .scr,some (.tape k'),some (.d (.tuple (Rs.map encR))),v3,v4,some l5,v6,v7,v8]/\(l5=.own (ts.map .str) ∨ l5=.d (.list (ts.map .str)))) ⟨_,none,none,none,rfl,.inl rfl⟩ ?_ ?_
 ·rintro i x ρ N hx ⟨l5,v6,v7,v8,rfl,h5⟩ hN
  obtain⟨him,rfl⟩:=a8w hx
  rcases h5 with rfl | rfl
  all_goals
   walk_at "dd"
   refine⟨Rs,rfl,hG,by omega,?_⟩
   rw [eN]
   walk_at "dd"
   refine .inr ⟨ts.map .str,rfl,sT,?_⟩
   walk_at "dd"
   refine⟨by rw [length_map];omega,?_⟩
   walk_at "dd"
   refine⟨true,ts,rfl,by omega,pr1,?_⟩
   rw [pr2,show lbO true ts=some (.bor (ts.map .str)) from rfl]
   walk_at "dd"
   refine .inl ⟨_,rfl,sP,?_⟩
   walk_at "dd"
   refine a0k eqT ?_
   walk_at "dd"
   exact hN _ ⟨_,_,_,_,rfl,.inr rfl⟩
 rintro ρ ⟨l5,v6,v7,v8,rfl,h5⟩
 have pr3:∀ t ∈ ts ++ ts,t.length <= 100000/\a2k (wordsOf t)=none:=fun t h=>(mem_append.mp h).elim (pr1 t) (pr1 t)
 have sP2:=b1l (Rs:=Rs ++ Rs) (fun R h=>(mem_append.mp h).elim (hG R) (hG R)) (by rw [length_append];omega)
 rw [map_append] at sP2
 rcases h5 with rfl | rfl
 all_goals
  walk_at "dd"
  refine a0k (b4q (by rw [length_map,sizeLine_eq];omega)) ?_
  refine⟨false,ts ++ ts,by rw [show lbT false (ts ++ ts)=.d (.list ((ts ++ ts).map .str)) from rfl,map_append],by rw [length_append];omega,pr3,?_⟩
  rw [map_append,pr2,show lbO false (ts ++ ts)=none from rfl]
  walk_at "dd"
  refine a0k (b7h (by rw [length_map,sizeLine_eq];omega)) ?_
  refine .inl ⟨_,rfl,sP2,?_⟩
  walk_at "dd"
  refine⟨false,[],rfl,by decide,(fun t h=>nomatch h),?_⟩
  rw [show lbO false []=none from rfl]
  walk_at "dd"
  refine .inl ⟨_,rfl,.inr (.inr (.inr (.inr ⟨_,.inl rfl,by decide,fun e he=>nomatch he⟩))),?_⟩
  walk_at "dd"
  refine⟨[],rfl,(fun R h=>nomatch h),by decide,?_⟩
  walk_at "dd"
  refine .inl ⟨_,rfl,.inr (.inr (.inr (.inr ⟨_,.inr rfl,by decide,fun e he=>nomatch he⟩))),?_⟩
  walk_at "dd"
end
section
variable{K:W.Frag}{C D N ND:Addr}{nm qn nmD qnD:Str}{bs sub bsD subD:List Value}{hd ab hdD abD:Bool}{sn snD:List Str}{col colD:Option Bool}{dd ddD:Option Addr}{k0 k1 k2 k3 k5 j0 j1 j2 j3 j5:Option Value}{nid mid:String}
theorem c9z(l:K.lookup C=some (excClassObj nm qn C N bs (.ref D :: veM) hd sn sub ab col dd k0 k1 k2 k3 k5 nid))(lD:K.lookup D=some (excClassObj nmD qnD D ND bsD veM hdD snD subD abD colD ddD j0 j1 j2 j3 j5 mid))(x:W.excIn K D veM nid=true):exc2 K C veM nid=true:=by
 unfold W.excIn at x
 rw [lD] at x
 have y:W.nsOkIn K ND=true/\W.nsIn K ND "__init__" = some none:=by
  simp only [excClassObj,and_eq_true,beq_iff_eq] at x
  exact⟨x.1.2,x.2⟩
 have z0:W.tailIn K veM veM=true:=rfl
 have z:W.tailIn K veM (.ref D :: veM)=true:=by
  unfold W.tailIn
  refine Bool.or_eq_true_iff.mpr (.inr ?_)
  dsimp only
  rw [lD]
  simp only [excClassObj,y.1,y.2,z0]
  rfl
 unfold exc2
 rw [l]
 simp only [excClassObj,z]
 simp
theorem d4b(l:K.lookup C=some (excClassObj nm qn C N bs (.ref D :: veM) hd sn sub ab col dd k0 k1 k2 k3 k5 nid))(h:W.hasDictIn K C=true) (s:W.findIn K (.ref C) "__setattr__" = some (some (.builtin "object.__setattr__"))):XSt K C:=by
 unfold W.hasDictIn at h
 cases c:W.clsIn K C with
 | none=>rw [c] at h;cases h
 | some cd =>
  rw [c] at h
  have e:=c
  unfold W.clsIn at e
  rw [l] at e
  have e':=Option.some.inj e
  refine⟨s,cd,D,c,?_,h⟩
  rw [← e']
end
def Lies(K:W.Frag)(x:Str)(st:Stmt)(ps:List Str):Prop:=∃ f fd,Fun K x x st f fd/\W.nsIn K mainGlobals x=some (some (.ref f))/\Binds K fd ps []
abbrev fnX(x:Str)(st:Stmt)(kV dc pm:Value)(an:Option Addr)(cd ct:Value):FuncData:=W.fnOf x x (a1y st) (a1a st) (a0f st) .none kV dc pm an cd ct
def c6k(K:W.Frag)(x:Str)(st:Stmt)(ps:List Str)(c T:Addr):Prop:=∃ f fd,Fun K x x st f fd/\W.nsIn K mainGlobals x=some (some (.ref f))/\Binds K fd ps []/\fd.code=.ref c/\W.codeHdIn K c T=true
theorem c5g{K:W.Frag}{x:Str}{st:Stmt}{ps:List Str}{c T f:Addr}{od an:Option Addr}{sl:Array (Option Value)}{oc kV dc pm ct:Value}(h:W.codeHdIn K c T=true)
  (a:W.nsIn K mainGlobals x=some (some (.ref f))) (l:K.lookup f=some ⟨oc,od,.func (fnX x st kV dc pm an (.ref c) ct),sl⟩) (cc:W.codeIn K (.ref c) x=true) (k:W.keepIn K (.ref f)=true) (hp:ps.length=1)
  (b:∀ (kV dc pm:Value) (an:Option Addr) (cd ct a0:Value),bindArgs (fnX x st kV dc pm an cd ct) ⟨[a0],[]⟩=pure (ps.zip [a0])):c6k K x st ps c T:=⟨f,_,a2b l cc k,a,(a2b l cc k).binds fun kV dc pm an cd ct us hl=>by
  rw [hp] at hl
  obtain⟨a0,u0,rfl,h0⟩:=usS hl
  obtain rfl:=List.eq_nil_of_length_eq_zero h0
  exact b kV dc pm an cd ct a0,rfl,h⟩
theorem a4r{K:W.Frag}{x:Str}{st:Stmt}{ps:List Str}{f:Addr}{od an:Option Addr}{sl:Array (Option Value)}{oc kV dc pm cd ct:Value}
  (a:W.nsIn K mainGlobals x=some (some (.ref f))) (l:K.lookup f=some ⟨oc,od,.func (fnX x st kV dc pm an cd ct),sl⟩) (c:W.codeIn K cd x=true) (k:W.keepIn K (.ref f)=true) (hp:ps.length=1)
  (b:∀ (kV dc pm:Value) (an:Option Addr) (cd ct a0:Value),bindArgs (fnX x st kV dc pm an cd ct) ⟨[a0],[]⟩=pure (ps.zip [a0])):Lies K x st ps:=⟨f,_,a2b l c k,a,(a2b l c k).binds fun kV dc pm an cd ct us hl=>by
  rw [hp] at hl
  obtain⟨a0,u0,rfl,h0⟩:=usS hl
  obtain rfl:=List.eq_nil_of_length_eq_zero h0
  exact b kV dc pm an cd ct a0⟩
theorem a8c{K:W.Frag}{x:Str}{st:Stmt}{ps:List Str}{f:Addr}{od an:Option Addr}{sl:Array (Option Value)}{oc kV dc pm cd ct:Value}
  (a:W.nsIn K mainGlobals x=some (some (.ref f))) (l:K.lookup f=some ⟨oc,od,.func (fnX x st kV dc pm an cd ct),sl⟩) (c:W.codeIn K cd x=true) (k:W.keepIn K (.ref f)=true) (hp:ps.length=2)
  (b:∀ (kV dc pm:Value) (an:Option Addr) (cd ct a0 a1:Value),bindArgs (fnX x st kV dc pm an cd ct) ⟨[a0,a1],[]⟩=pure (ps.zip [a0,a1])):Lies K x st ps:=⟨f,_,a2b l c k,a,(a2b l c k).binds fun kV dc pm an cd ct us hl=>by
  rw [hp] at hl
  obtain⟨a0,u0,rfl,h0⟩:=usS hl
  obtain⟨a1,u1,rfl,h1⟩:=usS h0
  obtain rfl:=List.eq_nil_of_length_eq_zero h1
  exact b kV dc pm an cd ct a0 a1⟩
theorem c5h{K:W.Frag}{x:Str}{st:Stmt}{ps:List Str}{f:Addr}{od an:Option Addr}{sl:Array (Option Value)}{oc kV dc pm cd ct:Value}
  (a:W.nsIn K mainGlobals x=some (some (.ref f))) (l:K.lookup f=some ⟨oc,od,.func (fnX x st kV dc pm an cd ct),sl⟩) (c:W.codeIn K cd x=true) (k:W.keepIn K (.ref f)=true) (hp:ps.length=3)
  (b:∀ (kV dc pm:Value) (an:Option Addr) (cd ct a0 a1 a2:Value),bindArgs (fnX x st kV dc pm an cd ct) ⟨[a0,a1,a2],[]⟩=pure (ps.zip [a0,a1,a2])):Lies K x st ps:=⟨f,_,a2b l c k,a,(a2b l c k).binds fun kV dc pm an cd ct us hl=>by
  rw [hp] at hl
  obtain⟨a0,u0,rfl,h0⟩:=usS hl
  obtain⟨a1,u1,rfl,h1⟩:=usS h0
  obtain⟨a2,u2,rfl,h2⟩:=usS h1
  obtain rfl:=List.eq_nil_of_length_eq_zero h2
  exact b kV dc pm an cd ct a0 a1 a2⟩
theorem d4c{P:Program}{w:World}{K:W.Frag}{h:Heap}{mg:Str->Option Value}{fa:Addr}(X:K.In h)(G:h.Ns mainGlobals mg) (hfa:mg "law" = some (.ref fa))
  (h_is_figures:Lies K "is_figures" a4b ["text","most"])
  (h_shown_paper:Lies K "shown_paper" a3h ["paper"])
  (h_shown_row:Lies K "shown_row" a4w ["row"])
  (h_read_paper:Lies K "read_paper" a4d ["texts"])
  (h_read_row:c6k K "read_row" a5p ["words"] 113 111)
  (h_law_cell_at:Lies K "_law_cell_at" a2o ["_law_script","_law_k"])
  (h_law_by:Lies K "_law_by" a7x ["_law_script","_law_k","_law_many"])
  (h_law_next:Lies K "_law_next" a5n ["_law_tape","_law_many"])
  (h_law_same:Lies K "_law_same" a4e ["_law_found","_law_due"])
  (h_law_count:Lies K "_law_count" a4x ["_law_tape"])
  (h_law_row:Lies K "_law_row" a6n ["_law_tape"])
  (h_law_text:Lies K "_law_text" a5q ["_law_row_here"])
  {f_law:Addr} {od_law an_law:Option Addr} {sl_law:Array (Option Value)} {oc_law kV_law dc_law pm_law cd_law ct_law:Value}
  (a_law:W.nsIn K mainGlobals "law" = some (some (.ref f_law))) (l_law:K.lookup f_law=some ⟨oc_law,od_law,.func (W.fnOf "law" "law" (a1y a5r) (a1a a5r) (a0f a5r) .none kV_law dc_law pm_law an_law cd_law ct_law),sl_law⟩) (c_law:W.codeIn K cd_law "law" = true) (k_law:W.keepIn K (.ref f_law)=true)
  {C_Words:Addr} (aC_Words:W.nsIn K mainGlobals "Words" = some (some (.ref C_Words)))
  {f_winit:Addr} {od_winit an_winit:Option Addr} {sl_winit:Array (Option Value)} {oc_winit kV_winit dc_winit pm_winit cd_winit ct_winit:Value}
  (a_winit:W.findIn K (.ref C_Words) "__init__" = some (some (.ref f_winit))) (i_winit:W.isFn K (.ref f_winit)=true) (l_winit:K.lookup f_winit=some ⟨oc_winit,od_winit,.func (W.fnOf "__init__" "Words.__init__" (a1y a5w) (a1a a5w) (a0f a5w) .none kV_winit dc_winit pm_winit an_winit cd_winit ct_winit),sl_winit⟩) (c_winit:W.codeIn K cd_winit "Words.__init__" = true) (k_winit:W.keepIn K (.ref f_winit)=true)
  {f_taken:Addr} {od_taken an_taken:Option Addr} {sl_taken:Array (Option Value)} {oc_taken kV_taken dc_taken pm_taken cd_taken ct_taken:Value}
  (a_taken:W.findIn K (.ref C_Words) "taken" = some (some (.ref f_taken))) (i_taken:W.isFn K (.ref f_taken)=true) (l_taken:K.lookup f_taken=some ⟨oc_taken,od_taken,.func (W.fnOf "taken" "Words.taken" (a1y a5x) (a1a a5x) (a0f a5x) .none kV_taken dc_taken pm_taken an_taken cd_taken ct_taken),sl_taken⟩) (c_taken:W.codeIn K cd_taken "Words.taken" = true) (k_taken:W.keepIn K (.ref f_taken)=true)
  {f_over:Addr} {od_over an_over:Option Addr} {sl_over:Array (Option Value)} {oc_over kV_over dc_over pm_over cd_over ct_over:Value}
  (a_over:W.findIn K (.ref C_Words) "are_over" = some (some (.ref f_over))) (i_over:W.isFn K (.ref f_over)=true) (l_over:K.lookup f_over=some ⟨oc_over,od_over,.func (W.fnOf "are_over" "Words.are_over" (a1y a7h) (a1a a7h) (a0f a7h) .none kV_over dc_over pm_over an_over cd_over ct_over),sl_over⟩) (c_over:W.codeIn K cd_over "Words.are_over" = true) (k_over:W.keepIn K (.ref f_over)=true)
  {f_wfin:Addr} {od_wfin an_wfin:Option Addr} {sl_wfin:Array (Option Value)} {oc_wfin kV_wfin dc_wfin pm_wfin cd_wfin ct_wfin:Value}
  (a_wfin:W.findIn K (.ref C_Words) "finish" = some (some (.ref f_wfin))) (i_wfin:W.isFn K (.ref f_wfin)=true) (l_wfin:K.lookup f_wfin=some ⟨oc_wfin,od_wfin,.func (W.fnOf "finish" "Words.finish" (a1y a7i) (a1a a7i) (a0f a7i) .none kV_wfin dc_wfin pm_wfin an_wfin cd_wfin ct_wfin),sl_wfin⟩) (c_wfin:W.codeIn K cd_wfin "Words.finish" = true) (k_wfin:W.keepIn K (.ref f_wfin)=true)
  (pg_Words:W.plainGet K C_Words Str.empty=true) (hd_Words:W.hasDictIn K C_Words=true) (po_Words:W.plainOver K C_Words=true) (sa_Words:W.findIn K (.ref C_Words) "__setattr__" = some (some (.builtin "object.__setattr__"))) (mk_Words:W.makesIn K C_Words=true) (kc_Words:W.keepIn K (.ref C_Words)=true)
  (n_row:W.findIn K (.ref C_Words) "row" = some none)
  (n_words:W.findIn K (.ref C_Words) "words" = some none)
  (n_place:W.findIn K (.ref C_Words) "place" = some none)
  (z_len:W.nsIn K mainGlobals "len" = some none)
  (z_range:W.nsIn K mainGlobals "range" = some none)
  (z_tuple:W.nsIn K mainGlobals "tuple" = some none)
  (z_bool:W.nsIn K mainGlobals "bool" = some none)
  (z_isinstance:W.nsIn K mainGlobals "isinstance" = some none)
  (z_reversed:W.nsIn K mainGlobals "reversed" = some none)
  (z_max:W.nsIn K mainGlobals "max" = some none)
  (z_zip:W.nsIn K mainGlobals "zip" = some none)
  (z_list:W.nsIn K mainGlobals "list" = some none)
  (z_str:W.nsIn K mainGlobals "str" = some none)
  (z_enumerate:W.nsIn K mainGlobals "enumerate" = some none)
  (z_dict:W.nsIn K mainGlobals "dict" = some none)
  (z_sum:W.nsIn K mainGlobals "sum" = some none)
  (z_int:W.nsIn K mainGlobals "int" = some none)
  (z_min:W.nsIn K mainGlobals "min" = some none)
  (z_sorted:W.nsIn K mainGlobals "sorted" = some none)
  (z_all:W.nsIn K mainGlobals "all" = some none)
  (z_set:W.nsIn K mainGlobals "set" = some none)
  (z_repr:W.nsIn K mainGlobals "repr" = some none)
  (z_any:W.nsIn K mainGlobals "any" = some none)
  {C_WorldError:Addr} (aC_WorldError:W.nsIn K mainGlobals "WorldError" = some (some (.ref C_WorldError)))
  {C_NoText:Addr} (aC_NoText:W.nsIn K mainGlobals "NoText" = some (some (.ref C_NoText)))
  {nm_WorldError qn_WorldError:Str} {N_WorldError:Addr} {bs_WorldError sub_WorldError:List Value} {hd_WorldError ab_WorldError:Bool} {sn_WorldError:List Str} {col_WorldError:Option Bool} {dd_WorldError:Option Addr} {k0_WorldError k1_WorldError k2_WorldError k3_WorldError k5_WorldError:Option Value} (lC_WorldError:K.lookup C_WorldError=some (excClassObj nm_WorldError qn_WorldError C_WorldError N_WorldError bs_WorldError [.type "ValueError",.type "Exception",.type "BaseException",.type "object"] hd_WorldError sn_WorldError sub_WorldError ab_WorldError col_WorldError dd_WorldError k0_WorldError k1_WorldError k2_WorldError k3_WorldError k5_WorldError "ValueError.__new__"))
  {nm_NoText qn_NoText:Str} {N_NoText:Addr} {bs_NoText sub_NoText:List Value} {hd_NoText ab_NoText:Bool} {sn_NoText:List Str} {col_NoText:Option Bool} {dd_NoText:Option Addr} {k0_NoText k1_NoText k2_NoText k3_NoText k5_NoText:Option Value} (lC_NoText:K.lookup C_NoText=some (excClassObj nm_NoText qn_NoText C_NoText N_NoText bs_NoText [.ref C_WorldError,.type "ValueError",.type "Exception",.type "BaseException",.type "object"] hd_NoText sn_NoText sub_NoText ab_NoText col_NoText dd_NoText k0_NoText k1_NoText k2_NoText k3_NoText k5_NoText "ValueError.__new__"))
  (z_ValueError:W.nsIn K mainGlobals "ValueError" = some none)
  (fd_X:W.specialIn K (.builtin "object.__class__") "__get__" = some (some (.builtin "getset_descriptor.__get__"))) (fe_X:W.takesIn K (.builtin "object.__class__")=some true)
  (xe_WorldError:W.excIn K C_WorldError veM "ValueError.__new__" = true)
  (fa_NoText:W.findIn K (.ref C_NoText) "__getattribute__" = some (some (.builtin "BaseException.__getattribute__"))) (fb_NoText:W.findIn K (.ref C_NoText) "__getattr__" = some none) (fc_NoText:W.findIn K (.ref C_NoText) "__class__" = some (some (.builtin "object.__class__"))) (ff_NoText:W.mroIn K C_NoText (.type "object")=some true) (fg_NoText:W.mroIn K C_NoText (.type "BaseException")=some true) (kv_NoText:W.kitOne K (.ref C_NoText) (.type "ValueError")=some true)
  (kt_NoText_NoText:W.kitOne K (.ref C_NoText) (.ref C_NoText)=some true)
  {f_i0:Addr} {od_i0 an_i0:Option Addr} {sl_i0:Array (Option Value)} {oc_i0 kV_i0 dc_i0 pm_i0 cd_i0 ct_i0:Value}
  (a_i0:W.findIn K (.ref C_NoText) "__init__" = some (some (.ref f_i0))) (i_i0:W.isFn K (.ref f_i0)=true) (l_i0:K.lookup f_i0=some ⟨oc_i0,od_i0,.func (W.fnOf "__init__" "NoText.__init__" (a1y s_i0) (a1a s_i0) (a0f s_i0) .none kV_i0 dc_i0 pm_i0 an_i0 cd_i0 ct_i0),sl_i0⟩) (c_i0:W.codeIn K cd_i0 "NoText.__init__" = true) (k_i0:W.keepIn K (.ref f_i0)=true)
  (hh_NoText:W.hasDictIn K C_NoText=true) (sa_NoText:W.findIn K (.ref C_NoText) "__setattr__" = some (some (.builtin "object.__setattr__"))) (kc_NoText:W.keepIn K (.ref C_NoText)=true)
  (nx_row:W.findIn K (.ref C_NoText) "row" = some none)
  (nx_word:W.findIn K (.ref C_NoText) "word" = some none)
  {tk_FIGURES:Tok} (a_FIGURES:W.nsIn K mainGlobals "FIGURES" = some (some (.str "0123456789" tk_FIGURES)))
  {aT_WORDS_OF_TRUTH:Addr} {ep_WORDS_OF_TRUTH:Nat} {kt_WORDS_OF_TRUTH_0 kt_WORDS_OF_TRUTH_1:Tok} (a_WORDS_OF_TRUTH:W.nsIn K mainGlobals "WORDS_OF_TRUTH" = some (some (.ref aT_WORDS_OF_TRUTH)))
  (l_WORDS_OF_TRUTH:K.lookup aT_WORDS_OF_TRUTH=some ⟨.type "dict",none,.dict #[⟨PyData.keyHash w.params "yes",.str "yes" kt_WORDS_OF_TRUTH_0,.bool true⟩,⟨PyData.keyHash w.params "no",.str "no" kt_WORDS_OF_TRUTH_1,.bool false⟩] ep_WORDS_OF_TRUTH,#[]⟩) (sy_WORDS_OF_TRUTH:(aT_WORDS_OF_TRUTH == sysModules)=false)
  {tk_MOST_FIGURES:Tok} (a_MOST_FIGURES:W.nsIn K mainGlobals "MOST_FIGURES" = some (some (.int 9 tk_MOST_FIGURES)))
  : ∃ fd:FuncData,(∀ (s:Shared) (v:Value),BindsTo s fd ⟨[v],[]⟩ [("_law_script",v)])/\∀ base:Heap,K.In base->base.Ns mainGlobals mg->BMain mg base->FnOk P w K mg base CX0 40 fa fd ["_law_script"] (b3q K):=by
 have e:=hfa.symm.trans (W.mg_of X G a_law)
 cases e
 obtain⟨f_is_figures,_,F_is_figures,b5q,b_is_figures⟩:=h_is_figures
 have d_is_figures:Def K mg _ _ _ _ _:=⟨F_is_figures,b_is_figures,W.mg_of X G b5q⟩
 obtain⟨f_shown_paper,_,F_shown_paper,a_shown_paper,b_shown_paper⟩:=h_shown_paper
 have d_shown_paper:Def K mg _ _ _ _ _:=⟨F_shown_paper,b_shown_paper,W.mg_of X G a_shown_paper⟩
 obtain⟨f_shown_row,_,F_shown_row,a_shown_row,b_shown_row⟩:=h_shown_row
 have d_shown_row:Def K mg _ _ _ _ _:=⟨F_shown_row,b_shown_row,W.mg_of X G a_shown_row⟩
 obtain⟨f_read_paper,_,F_read_paper,a_read_paper,b_read_paper⟩:=h_read_paper
 have d_read_paper:Def K mg _ _ _ _ _:=⟨F_read_paper,b_read_paper,W.mg_of X G a_read_paper⟩
 obtain⟨f_read_row,fd_read_row,F_read_row,a_read_row,b_read_row,hc_read_row,hC_read_row⟩:=h_read_row
 have d_read_row:Def K mg _ _ _ _ _:=⟨F_read_row,b_read_row,W.mg_of X G a_read_row⟩
 obtain⟨d0a,_,b3g,b3h,b_law_cell_at⟩:=h_law_cell_at
 have a2a:Def K mg _ _ _ _ _:=⟨b3g,b_law_cell_at,W.mg_of X G b3h⟩
 obtain⟨d4d,_,c5i,c5j,b_law_by⟩:=h_law_by
 have a7y:Def K mg _ _ _ _ _:=⟨c5i,b_law_by,W.mg_of X G c5j⟩
 obtain⟨b9r,_,b1m,b9s,b_law_next⟩:=h_law_next
 have a1g:Def K mg _ _ _ _ _:=⟨b1m,b_law_next,W.mg_of X G b9s⟩
 obtain⟨b9t,_,b1n,b9u,b_law_same⟩:=h_law_same
 have a1n:Def K mg _ _ _ _ _:=⟨b1n,b_law_same,W.mg_of X G b9u⟩
 obtain⟨b5y,_,a9w,b5z,b_law_count⟩:=h_law_count
 have a2r:Def K mg _ _ _ _ _:=⟨a9w,b_law_count,W.mg_of X G b5z⟩
 obtain⟨c2n,_,b3a,c2o,b_law_row⟩:=h_law_row
 have a8x:Def K mg _ _ _ _ _:=⟨b3a,b_law_row,W.mg_of X G c2o⟩
 obtain⟨b9v,_,b1o,b9w,b_law_text⟩:=h_law_text
 have a8b:Def K mg _ _ _ _ _:=⟨b1o,b_law_text,W.mg_of X G b9w⟩
 have F_law:=a2b (st:=a5r) l_law c_law k_law
 have F_winit:=a2b (st:=a5w) l_winit c_winit k_winit
 have b_winit:=F_winit.binds (ps:=["self","row","text"]) fun _ _ _ _ _ _ us hl=>match us,hl with | [_,_,_],_=>rfl
 have F_taken:=a2b (st:=a5x) l_taken c_taken k_taken
 have b_taken:=F_taken.binds (ps:=["self","fits"]) fun _ _ _ _ _ _ us hl=>match us,hl with | [_,_],_=>rfl
 have m_taken:Meth K C_Words "taken" f_taken:=⟨a_taken,i_taken,k_taken⟩
 have F_over:=a2b (st:=a7h) l_over c_over k_over
 have b_over:=F_over.binds (ps:=["self"]) fun _ _ _ _ _ _ us hl=>match us,hl with | [_],_=>rfl
 have m_over:Meth K C_Words "are_over" f_over:=⟨a_over,i_over,k_over⟩
 have F_wfin:=a2b (st:=a7i) l_wfin c_wfin k_wfin
 have b_wfin:=F_wfin.binds (ps:=["self"]) fun _ _ _ _ _ _ us hl=>match us,hl with | [_],_=>rfl
 have m_wfin:Meth K C_Words "finish" f_wfin:=⟨a_wfin,i_wfin,k_wfin⟩
 have T_Words:TxtF K mg C_Words:=⟨⟨pg_Words,hd_Words,po_Words,sa_Words⟩,n_row,n_words,n_place,W.mg_of X G aC_Words⟩
 have M_Words:Mk K C_Words f_winit:=⟨mk_Words,a_winit,i_winit,kc_Words⟩
 have B:Bl mg:=⟨W.mg_none_of X G z_len,W.mg_none_of X G z_range,W.mg_none_of X G z_tuple,W.mg_none_of X G z_bool,W.mg_none_of X G z_isinstance,W.mg_none_of X G z_reversed,W.mg_none_of X G z_max,W.mg_none_of X G z_zip,W.mg_none_of X G z_list,W.mg_none_of X G z_str,W.mg_none_of X G z_enumerate,W.mg_none_of X G z_dict,W.mg_none_of X G z_sum,W.mg_none_of X G z_int,W.mg_none_of X G z_min,W.mg_none_of X G z_sorted,W.mg_none_of X G z_all,W.mg_none_of X G z_set,W.mg_none_of X G z_repr,W.mg_none_of X G z_any⟩
 have m_WorldError:mg "WorldError" = some (.ref C_WorldError):=W.mg_of X G aC_WorldError
 have m_NoText:mg "NoText" = some (.ref C_NoText):=W.mg_of X G aC_NoText
 have c_WorldError:XCls K C_WorldError [.type "ValueError",.type "Exception",.type "BaseException",.type "object"]:=⟨⟨_,_,_,_,_,_,_,_,_,_,_,_,_,_,_,_,lC_WorldError⟩,rfl⟩
 have c_NoText:XCls K C_NoText [.ref C_WorldError,.type "ValueError",.type "Exception",.type "BaseException",.type "object"]:=⟨⟨_,_,_,_,_,_,_,_,_,_,_,_,_,_,_,_,lC_NoText⟩,rfl⟩
 have z_VE:=W.mg_none_of X G z_ValueError
 have o_NoText:XOk2 K C_NoText:=⟨⟨_,_,lC_NoText,rfl⟩,⟨fa_NoText,fb_NoText,fc_NoText,fd_X,fe_X,ff_NoText,fg_NoText⟩⟩
 have F_i0:=a2b (st:=s_i0) l_i0 c_i0 k_i0
 have b_i0:=F_i0.binds (ps:=["self","row","word"]) fun _ _ _ _ _ _ us hl=>match us,hl with | [_,_,_],_=>rfl
 have M_NoText:XMk K C_NoText f_i0:=⟨c9z lC_NoText lC_WorldError xe_WorldError,a_i0,beq_iff_eq.mp i_i0,kc_NoText⟩
 have t_NoText:XSt K C_NoText:=d4b lC_NoText hh_NoText sa_NoText
 have m_FIGURES:∃ t,mg "FIGURES" = some (.str "0123456789" t):=⟨_,W.mg_of X G a_FIGURES⟩
 have kd_WORDS_OF_TRUTH:KDict K w aT_WORDS_OF_TRUTH [("yes",.bl true),("no",.bl false)]:=⟨show(["yes","no"]:List Str).Nodup by decide +kernel,_,_,l_WORDS_OF_TRUTH,(.cons rfl (.cons rfl .nil))⟩
 have tb_WORDS_OF_TRUTH:TabT K w mg:=⟨aT_WORDS_OF_TRUTH,W.mg_of X G a_WORDS_OF_TRUTH,kd_WORDS_OF_TRUTH,sy_WORDS_OF_TRUTH⟩
 have m_MOST_FIGURES:∃ t,mg "MOST_FIGURES" = some (.int 9 t):=⟨_,W.mg_of X G a_MOST_FIGURES⟩
 refine⟨W.fnOf "law" "law" (a1y a5r) (a1a a5r) (a0f a5r) .none kV_law dc_law pm_law an_law cd_law ct_law,fun s v=>.of_eq rfl,fun base _ _ bm=>?_⟩
 have gn:FnOk P w K mg base CX0 3 b9r _ _ _:=c9n b1m B a2a a7y
 have xx:ExN K mg C_NoText:=⟨m_NoText,t_NoText,nx_row,nx_word⟩
 have gF:FnOk P w K mg base CX0 1 f_is_figures _ _ (spD K b1h):=c9o F_is_figures B m_FIGURES
 have gI:FnOk P w K mg base CX0 1 f_i0 _ _ (spI0 C_NoText):=ok_i0 F_i0 xx
 have gW:FnOk P w K mg base CX0 1 f_winit _ _ (b1w C_Words):=c4x F_winit T_Words
 have gO:FnOk P w K mg base CX0 1 f_over _ _ (b1i C_Words):=c9r F_over B T_Words
 have gT:FnOk P w K mg base (CX2 P w) 3 f_taken _ _ (a9n P w K mg base 2 C_Words C_NoText):=c4y F_taken T_Words xx m_over b_over gO M_NoText gI b_i0
 have gE:FnOk P w K mg base (CX2 P w) 3 f_wfin _ _ (b5k C_Words C_NoText):=c9s F_wfin T_Words xx m_over b_over gO M_NoText gI b_i0
 have gR:FnOk P w K mg base (CX2 P w) 4 f_read_row _ _ (b9l K C_Words C_NoText):=b5w F_read_row B T_Words bm hc_read_row hC_read_row m_MOST_FIGURES tb_WORDS_OF_TRUTH m_taken b_taken gT m_wfin b_wfin gE d_is_figures gF
 have gP:FnOk P w K mg base CX0 5 f_read_paper _ _ (spD K b1x):=b3f F_read_paper B T_Words M_Words b_winit (gW.mono (by decide:1 <= 3)) d_read_row (row0 gR)
 have gS:FnOk P w K mg base CX0 2 f_shown_row _ _ (spD K b9m):=d3x F_shown_row B
 have gH:FnOk P w K mg base CX0 3 f_shown_paper _ _ (spD K b9n):=d3y F_shown_paper B d_shown_row gS
 have gC:FnOk P w K mg base CX0 4 b5y _ _ (spD K b2a):=c5a a9w B a1g gn
 have gD:FnOk P w K mg base CX0 5 c2n _ _ (spD K b5m):=c9w b3a B a1g (gn.mono (by decide:3 <= 4)) a2r gC
 have gX:FnOk P w K mg base CX0 2 b9v _ _ (spD K b2b):=c5b b1o B
 have gM:∀ m,FnOk P w K mg base CX0 (m + 1) b9t _ _ (spD K (a9q m)):=fun m=>by
  induction m with
  | zero=>exact c8r fun ls Q h=>by rcases h with⟨d,_,h,_⟩ | ⟨d,_,h,_⟩<;>exact h
  | succ m ih=>exact c5d b1n B a1n ih
 exact d4a F_law B a1g (gn.mono (by decide:3 <= 39)) a8x (gD.mono (by decide:5 <= 39)) a8b (gX.mono (by decide:2 <= 39)) d_shown_paper (gH.mono (by decide:3 <= 39)) d_read_paper (gP.mono (by decide:5 <= 39)) a1n ((gM 4).mono (by decide:5 <= 39))
end K84
namespace PySem.W.Fast
def tw14998221692931187176:=()
def tw1130850327177869321:=()
def tw15058991421782182509:=()
def tw2774079072370856436:=PySem.Challenge.pw_worldsay_k84_papers_written
theorem te2774079072370856436:PySem.Challenge.pw_worldsay_k84_papers_written=tw2774079072370856436:=rfl
def tw15362539767433070156:=()
def tw5559959984426162736:=()
def tw13535704008719701261:=()
def tw5538653994062221865:=()
def tw5039172820996207334:=()
def tw2704242986860252102:=()
def tw12355598906944132716:=()
def tw3829037427365850375:=()
def tw1354606773905724120:=()
def tw8055536121087837121:=()
def tw7532129903818757758:=()
def tw6026049909581576081:=()
def tw2919909127693658647:=()
def tw11070134624788340131:=()
def tw4221974939259594160:=()
def tw5170751029037373105:=()
def tw78442937454124120:=()
def tw9233907691227227856:=()
def tw15067596087395652476:=()
def tw11375961965499518549:=()
def tw6032117909048570131:=()
def tw11041071127477408413:=()
def tw7553917716338510715:=()
def tw1103428246090941310:=()
def tw4976690997392426008:=()
def tw4317846710679458360:=()
def tw8256542927667205071:=()
def tw8574835104226160779:=()
def tw6206970655295734759:=()
def tw11878957619697608413:=()
def tw1628702339895971512:=()
def tw11814756272954557221:=()
def tw809683770513556748:=()
def tw5441465673387697560:=()
def tw10698413979290865925:=()
def tw8455492461059413204:=()
def tw4422559850596537408:=()
def tw16000588544378239894:=()
def tw8032966203806163988:=()
def tw5137223933347736664:=()
def tw16561914311008116692:=()
def tw18272790474787891381:=()
def tw11632011618803740220:=()
def tw14952494861401444457:=()
def tw4334984695085896899:=()
def tw279873533406299752:=()
def tw15122492249306754273:=()
def tw9780444248406323867:=()
def tw15342738178696477646:=()
def tw3950308051375215123:=()
def tw17065191596259291835:=()
def tw3680512708744046703:=()
def tw18000571557700005531:=()
def tw6494059178800824085:=()
def tw4277107949422024359:=()
def tw12914694013150928316:=()
def tw6454171851975405810:=()
def tw4986516381529887949:=()
def tw15080429634172328570:=()
def tw15168914134019044404:=()
def tw15381006788760436982:=()
def tw15447093824603381800:=()
def tw1878344643584511515:=()
def tw5090093629274844363:=()
def tw792425236497297232:=()
def tw4114981194379362480:=()
def tw14056423407332861852:=()
def tw2659212987747575837:=()
def tw758697479481254880:=()
def tw301713513640176172:=()
def tw2333908789144857604:=()
def tw14249279978407120049:=()
def tw10284092542347954955:=()
def tw734335756731548369:=()
def tw7718745335100581131:=()
def tw3812847362843361376:=()
def tw9182422390925507931:=()
def tw18246379610842951223:=()
def tw573181188008273007:=()
def tw7624665206270815777:=()
def tw18413371685389266149:=()
def tw10721206717951817695:=()
def tw856219553731934967:=()
def tw7577454664713701887:=()
def tw6579916868661367493:=()
def tw6060526971536771672:=()
def tw3924652860059384254:=()
def tw3061497615364832136:=()
def tw17392492920076171866:=()
def tw15540494347396513184:=()
def tw13209587049765774957:=()
def tw7445295253215550037:=()
def tw9767058432559753910:=()
def tw17453624935026360870:=()
def tw7973816003086645909:=()
def tw2249154503417022298:=()
end PySem.W.Fast
open PySem PySem.W PyProof.Rows
set_option maxRecDepth 100000 in
set_option maxHeartbeats 0 in
theorem PySem.Challenge.cw_worldsay_k84_papers_written_holds : PySem.Challenge.rw_worldsay_k84_papers_written.Holds := by
 w_on;o_law;k_head;(case hw=>w_witness2)
 k_fill
 refine L2.c4q (tl:=[(113,111,"read_row.<locals>.<lambda>")]) (l:=PySem.Challenge.rw_worldsay_k84_papers_written) (n:=63) (k:=40) (x:="_law_script") (CX:=fun _=>L2.CX0) (sp:=fun w=>L2.b3q (_:PySem.W.Frag)) rfl (by decide) rfl ⟨rfl,by decide,by decide,rfl⟩ (fun w h Y=>⟨PySem.W.km_in_of Y,fun p hp=>PySem.W.km_tabs_of Y _ (by revert p;decide)⟩) (fun w=>by rfl) (by decide) (fun w=>by rfl) ?F (fun w H a ns hl hO hS=>⟨a,ns,rfl,hS,hO,hl,fun _=>rfl⟩) (fun _ _ _ _ _ z=>z)
 case F =>
  intro w mg fa h KX G hmg
  refine' K84.d4c KX G hmg ?h_is_figures ?h_shown_paper ?h_shown_row ?h_read_paper ?h_read_row ?h_law_cell_at ?h_law_by ?h_law_next ?h_law_same ?h_law_count ?h_law_row ?h_law_text ?a_law ?l_law ?c_law ?k_law ?aC_Words ?a_winit ?i_winit ?l_winit ?c_winit ?k_winit ?a_taken ?i_taken ?l_taken ?c_taken ?k_taken ?a_over ?i_over ?l_over ?c_over ?k_over ?a_wfin ?i_wfin ?l_wfin ?c_wfin ?k_wfin ?pg_Words ?hd_Words ?po_Words ?sa_Words ?mk_Words ?kc_Words ?n_row ?n_words ?n_place ?z_len ?z_range ?z_tuple ?z_bool ?z_isinstance ?z_reversed ?z_max ?z_zip ?z_list ?z_str ?z_enumerate ?z_dict ?z_sum ?z_int ?z_min ?z_sorted ?z_all ?z_set ?z_repr ?z_any ?aC_WorldError ?aC_NoText ?lC_WorldError ?lC_NoText ?z_ValueError ?fd_X ?fe_X ?xe_WorldError ?fa_NoText ?fb_NoText ?fc_NoText ?ff_NoText ?fg_NoText ?kv_NoText ?kt_NoText_NoText ?a_i0 ?i_i0 ?l_i0 ?c_i0 ?k_i0 ?hh_NoText ?sa_NoText ?kc_NoText ?nx_row ?nx_word ?a_FIGURES ?a_WORDS_OF_TRUTH ?l_WORDS_OF_TRUTH ?sy_WORDS_OF_TRUTH ?a_MOST_FIGURES
  (case h_is_figures=>refine' K84.a8c ?h_is_figuresa ?h_is_figuresl ?h_is_figuresc ?h_is_figuresk rfl (fun _ _ _ _ _ _ _ _  => rfl);(case h_is_figuresa=>k_is);(case h_is_figuresl=>k_is);(case h_is_figuresc=>k_is);(case h_is_figuresk=>k_is))
  (case h_shown_paper=>refine' K84.a4r ?h_shown_papera ?h_shown_paperl ?h_shown_paperc ?h_shown_paperk rfl (fun _ _ _ _ _ _ _  => rfl);(case h_shown_papera=>k_is);(case h_shown_paperl=>k_is);(case h_shown_paperc=>k_is);(case h_shown_paperk=>k_is))
  (case h_shown_row=>refine' K84.a4r ?h_shown_rowa ?h_shown_rowl ?h_shown_rowc ?h_shown_rowk rfl (fun _ _ _ _ _ _ _  => rfl);(case h_shown_rowa=>k_is);(case h_shown_rowl=>k_is);(case h_shown_rowc=>k_is);(case h_shown_rowk=>k_is))
  (case h_read_paper=>refine' K84.a4r ?h_read_papera ?h_read_paperl ?h_read_paperc ?h_read_paperk rfl (fun _ _ _ _ _ _ _  => rfl);(case h_read_papera=>k_is);(case h_read_paperl=>k_is);(case h_read_paperc=>k_is);(case h_read_paperk=>k_is))
  (case h_read_row=>refine' K84.c5g ?h_read_rowh ?h_read_rowa ?h_read_rowl ?h_read_rowc ?h_read_rowk rfl (fun _ _ _ _ _ _ _=>rfl);(case h_read_rowa=>k_is);(case h_read_rowl=>k_is);(case h_read_rowc=>k_is);(case h_read_rowk=>k_is);(case h_read_rowh=>first | rfl | decide))
  (case h_law_cell_at=>refine' K84.a8c ?h_law_cell_ata ?h_law_cell_atl ?h_law_cell_atc ?h_law_cell_atk rfl (fun _ _ _ _ _ _ _ _  => rfl);(case h_law_cell_ata=>k_is);(case h_law_cell_atl=>k_is);(case h_law_cell_atc=>k_is);(case h_law_cell_atk=>k_is))
  (case h_law_by=>refine' K84.c5h ?h_law_bya ?h_law_byl ?h_law_byc ?h_law_byk rfl (fun _ _ _ _ _ _ _ _ _  => rfl);(case h_law_bya=>k_is);(case h_law_byl=>k_is);(case h_law_byc=>k_is);(case h_law_byk=>k_is))
  (case h_law_next=>refine' K84.a8c ?h_law_nexta ?h_law_nextl ?h_law_nextc ?h_law_nextk rfl (fun _ _ _ _ _ _ _ _  => rfl);(case h_law_nexta=>k_is);(case h_law_nextl=>k_is);(case h_law_nextc=>k_is);(case h_law_nextk=>k_is))
  (case h_law_same=>refine' K84.a8c ?h_law_samea ?h_law_samel ?h_law_samec ?h_law_samek rfl (fun _ _ _ _ _ _ _ _  => rfl);(case h_law_samea=>k_is);(case h_law_samel=>k_is);(case h_law_samec=>k_is);(case h_law_samek=>k_is))
  (case h_law_count=>refine' K84.a4r ?h_law_counta ?h_law_countl ?h_law_countc ?h_law_countk rfl (fun _ _ _ _ _ _ _  => rfl);(case h_law_counta=>k_is);(case h_law_countl=>k_is);(case h_law_countc=>k_is);(case h_law_countk=>k_is))
  (case h_law_row=>refine' K84.a4r ?h_law_rowa ?h_law_rowl ?h_law_rowc ?h_law_rowk rfl (fun _ _ _ _ _ _ _  => rfl);(case h_law_rowa=>k_is);(case h_law_rowl=>k_is);(case h_law_rowc=>k_is);(case h_law_rowk=>k_is))
  (case h_law_text=>refine' K84.a4r ?h_law_texta ?h_law_textl ?h_law_textc ?h_law_textk rfl (fun _ _ _ _ _ _ _  => rfl);(case h_law_texta=>k_is);(case h_law_textl=>k_is);(case h_law_textc=>k_is);(case h_law_textk=>k_is))
  (case a_law=>k_is)
  (case l_law=>k_is)
  (case c_law=>k_is)
  (case k_law=>k_is)
  (case aC_Words=>k_is)
  (case a_winit=>k_is)
  (case i_winit=>k_is)
  (case l_winit=>k_is)
  (case c_winit=>k_is)
  (case k_winit=>k_is)
  (case a_taken=>k_is)
  (case i_taken=>k_is)
  (case l_taken=>k_is)
  (case c_taken=>k_is)
  (case k_taken=>k_is)
  (case a_over=>k_is)
  (case i_over=>k_is)
  (case l_over=>k_is)
  (case c_over=>k_is)
  (case k_over=>k_is)
  (case a_wfin=>k_is)
  (case i_wfin=>k_is)
  (case l_wfin=>k_is)
  (case c_wfin=>k_is)
  (case k_wfin=>k_is)
  (case pg_Words=>k_is)
  (case hd_Words=>k_is)
  (case po_Words=>k_is)
  (case sa_Words=>k_is)
  (case mk_Words=>k_is)
  (case kc_Words=>k_is)
  (case n_row=>k_is)
  (case n_words=>k_is)
  (case n_place=>k_is)
  (case z_len=>k_is)
  (case z_range=>k_is)
  (case z_tuple=>k_is)
  (case z_bool=>k_is)
  (case z_isinstance=>k_is)
  (case z_reversed=>k_is)
  (case z_max=>k_is)
  (case z_zip=>k_is)
  (case z_list=>k_is)
  (case z_str=>k_is)
  (case z_enumerate=>k_is)
  (case z_dict=>k_is)
  (case z_sum=>k_is)
  (case z_int=>k_is)
  (case z_min=>k_is)
  (case z_sorted=>k_is)
  (case z_all=>k_is)
  (case z_set=>k_is)
  (case z_repr=>k_is)
  (case z_any=>k_is)
  (case aC_WorldError=>k_is)
  (case aC_NoText=>k_is)
  (case lC_WorldError=>k_is)
  (case lC_NoText=>k_is)
  (case z_ValueError=>k_is)
  (case fd_X=>k_is)
  (case fe_X=>k_is)
  (case xe_WorldError=>k_exc)
  (case fa_NoText=>k_is)
  (case fb_NoText=>k_is)
  (case fc_NoText=>k_is)
  (case ff_NoText=>k_is)
  (case fg_NoText=>k_is)
  (case kv_NoText=>kit_is)
  (case kt_NoText_NoText=>kit_is)
  (case a_i0=>k_is)
  (case i_i0=>k_is)
  (case l_i0=>k_is)
  (case c_i0=>k_is)
  (case k_i0=>k_is)
  (case hh_NoText=>k_is)
  (case sa_NoText=>k_is)
  (case kc_NoText=>k_is)
  (case nx_row=>k_is)
  (case nx_word=>k_is)
  (case a_FIGURES=>k_is)
  (case a_WORDS_OF_TRUTH=>k_is)
  (case l_WORDS_OF_TRUTH=>k_is)
  (case sy_WORDS_OF_TRUTH=>first | decide | rfl | k_is)
  (case a_MOST_FIGURES=>k_is)
end
end
