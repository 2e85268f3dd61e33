import PyProof.Rows.All
import Wide.All
import OpenK.AllK
import Wide.FinOn
import Lean
import PyProof.EqAt
import PyProof.EqKinds
import PyProof.TupleCall
import PyProof.ZipIter
import PyProof.EnumMake
import PyProof.EnumFor
import KE.KDictOf
import KE.KEqDict
import PyProof.SetKind
import PyProof.SetNew
import PyProof.SetRoads
import PyProof.CollectIter
import PyProof.WalksMore
import PyProof.MakeMany
import PyProof.Rows.SortWalk
import PyProof.Rows.SortStr
import PyProof.ConsumeWalk
import KE.KItemsList
import PyProof.StrCalls
import PyProof.StrCaseBound
import PyProof.SetScanFacts
import PySem.PyData
import PySem.Challenge.RW_worldsay_k37_hard_binders
import KE.KSortTup
import PyProof.Rows.SortShellK
import PyProof.ReprRoads
import PyProof.ReprLen
import PyProof.ListRange
import PyProof.StrWalks
import PyProof.StrBlockI
import PyProof.SliceStr2
import PyProof.StrLawsIn
import KE.KDictList
set_option Elab.async false
set_option linter.all false
set_option maxRecDepth 100000
set_option maxHeartbeats 4000000
noncomputable section
section
namespace L2
open PySem PySem.Spec PyProof.Rows
abbrev Key:=Sum Int Str
noncomputable def qa8r:Key->Value->Bool
 | .inl k,v=>Value.isInt k v
 | .inr x,v=>Value.isStrOf x v
noncomputable def keyH(w:World):Key->Int
 | .inl k=>hashInt k
 | .inr x=>hashStr w x
theorem qa1y:∀ {k:Key} {v:Value},qa8r k v=true->(∃ i t,k=Sum.inl i/\v=Value.int i t) ∨ (∃ x t,k=Sum.inr x/\v=Value.str x t)
 | .inl i,v,h=>by
  obtain⟨t,e⟩:=Value.isInt_shape (k:=i) (v:=v) h
  exact .inl ⟨i,t,rfl,e⟩
 | .inr x,v,h=>by
  obtain⟨t,e⟩:=Value.isStrOf_shape (x:=x) (v:=v) h
  exact .inr ⟨x,t,rfl,e⟩
theorem qc1e(i:Int)(t:Tok):qa8r (.inl i) (.int i t)=true:=by simp [qa8r,Value.isInt]
theorem qc1f(x:Str)(t:Tok):qa8r (.inr x) (.str x t)=true:=by simp [qa8r,Value.isStrOf]
theorem key_ll(a b:Int):decide ((Sum.inl a:Key)=Sum.inl b)=(a == b):=by
 by_cases e:a=b
 ·subst e;simp
 ·have h:¬ (Sum.inl a:Key)=Sum.inl b:=fun q=>e (Sum.inl.inj q)
  rw [decide_eq_false h]
  exact(beq_eq_false_iff_ne.mpr e).symm
theorem key_rr(a b:Str):decide ((Sum.inr a:Key)=Sum.inr b)=decide (a=b):=by
 by_cases e:a=b
 ·subst e;simp
 ·have h:¬ (Sum.inr a:Key)=Sum.inr b:=fun q=>e (Sum.inr.inj q)
  rw [decide_eq_false h,decide_eq_false e]
theorem key_lr(a:Int)(b:Str):decide ((Sum.inl a:Key)=Sum.inr b)=false:=decide_eq_false (fun q=>nomatch q)
theorem key_rl(a:Str)(b:Int):decide ((Sum.inr a:Key)=Sum.inl b)=false:=decide_eq_false (fun q=>nomatch q)
noncomputable def qa1t(prog:Program)(w:World):PySem.KeyKind prog w Key where
 is:=qa8r
 hash:=keyH w
 inj:=fun v a b ha hb=>by
  rcases qa1y ha with⟨i,t,rfl,rfl⟩ | ⟨x,t,rfl,rfl⟩
  ·rcases qa1y hb with⟨j,u,rfl,e⟩ | ⟨y,u,rfl,e⟩
   ·injection e with e1 _;rw [e1]
   ·exact nomatch e
  ·rcases qa1y hb with⟨j,u,rfl,e⟩ | ⟨y,u,rfl,e⟩
   ·exact nomatch e
   ·injection e with e1 _;rw [e1]
 byValue:=fun k v h=>by
  rcases qa1y h with⟨i,t,rfl,rfl⟩ | ⟨x,t,rfl,rfl⟩<;>rfl
 pyHash:=fun hv h=>by
  rcases qa1y hv with⟨i,t,rfl,rfl⟩ | ⟨x,t,rfl,rfl⟩
  ·exact wpAny_pyHash_int h
  ·exact wpAny_pyHash_str h
 eqBool:=fun hu hv h=>by
  rcases qa1y hu with⟨i,t,rfl,rfl⟩ | ⟨x,t,rfl,rfl⟩
  ·rcases qa1y hv with⟨j,u,rfl,rfl⟩ | ⟨y,u,rfl,rfl⟩
   ·rw [key_ll] at h;exact wpAny_eqBool_int h
   ·rw [key_lr] at h;exact SeqAt.EqAt.int_str i t y u _ _ _ _ h
  ·rcases qa1y hv with⟨j,u,rfl,rfl⟩ | ⟨y,u,rfl,rfl⟩
   ·rw [key_rl] at h;exact SeqAt.EqAt.str_int x t j u _ _ _ _ h
   ·rw [key_rr] at h;exact wpAny_eqBool_str h
 «strs»:=fun k x t v h=>by
  rcases qa1y h with⟨i,u,rfl,e⟩ | ⟨y,u,rfl,e⟩
  ·exact nomatch e
  ·injection e with e1 _
   subst e1
   cases v<;>rfl
theorem qb7j(prog:Program)(w:World)(i:Int)(t:Tok):(qa1t prog w).is (.inl i) (.int i t)=true:=qc1e i t
theorem qb7k(prog:Program)(w:World)(x:Str)(t:Tok):(qa1t prog w).is (.inr x) (.str x t)=true:=qc1f x t
end L2
namespace L2
open PySem PySem.Spec PyProof.Rows
inductive V where
 | non | bl (b:Bool) | int (i:Int) | str (x:Str) | byt (b:Array UInt8) | flt (b:UInt64) | ref (a:Addr) | ty (n:String)
 deriving DecidableEq
noncomputable def RelV:V->Value->Prop
 | .non,u=>u=Value.none
 | .bl b,u=>u=Value.bool b
 | .int i,u=>∃ t,u=Value.int i t
 | .str x,u=>∃ t,u=Value.str x t
 | .byt b,u=>∃ t,u=Value.bytes b t
 | .flt b,u=>∃ t,u=Value.float b t
 | .ref a,u=>u=Value.ref a
 | .ty n,u=>u=Value.type n
abbrev Vals:List V->List Value->Prop:=Paired RelV
theorem Vals.length{xs:List V}{us:List Value}(r:Vals xs us):xs.length=us.length:=Paired.length r
theorem Vals.get:∀ {xs:List V} {us:List Value} {i:Nat} {x:V},Vals xs us->xs[i]? = some x->∃ u,us[i]? = some u/\RelV x u
 | _,_,_,_,.nil,e=>by simp at e
 | _,_,0,_,.cons r _,e=>by simp at e;subst e;exact⟨_,rfl,r⟩
 | _,_,i + 1,x,.cons _ t,e=>by
  obtain⟨u,h1,h2⟩:=Vals.get (i:=i) (x:=x) t (by simpa using e)
  exact⟨u,by simpa using h1,h2⟩
theorem Vals.set{x:V}{u:Value}(r:RelV x u):∀ {xs:List V} {us:List Value} (i:Nat),Vals xs us->Vals (xs.set i x) (us.set i u)
 | _,_,_,.nil=>.nil
 | _,_,0,.cons _ t=>.cons r t
 | _,_,i + 1,.cons q t=>.cons q (Vals.set r i t)
theorem Vals.append:∀ {xs ys:List V} {us ws:List Value},Vals xs us->Vals ys ws->Vals (xs ++ ys) (us ++ ws)
 | _,_,_,_,.nil,s=>s
 | _,_,_,_,.cons r t,s=>.cons r (Vals.append t s)
theorem Vals.take:∀ {xs:List V} {us:List Value} (n:Nat),Vals xs us->Vals (xs.take n) (us.take n)
 | _,_,0,_=>.nil
 | _,_,_ + 1,.nil=>.nil
 | _,_,n + 1,.cons r t=>.cons r (Vals.take n t)
theorem Vals.drop:∀ {xs:List V} {us:List Value} (n:Nat),Vals xs us->Vals (xs.drop n) (us.drop n)
 | _,_,0,r=>r
 | _,_,_ + 1,.nil=>.nil
 | _,_,n + 1,.cons _ t=>Vals.drop n t
noncomputable def RelO:Option V->Option Value->Prop
 | some v,some u=>RelV v u
 | none,none=>True
 | _,_=>False
noncomputable def KV{κ:Type}:List (κ × V)->List (κ × Value)->Prop:=Paired fun(p:κ × V) (q:κ × Value)=>p.1=q.1/\RelV p.2 q.2
noncomputable def kV:Key->V
 | .inl i=>.int i
 | .inr x=>.str x
inductive HO where
 /-- a list -/
 | lst (xs:List V)
 /-- a tuple (never changes) -/
 | tup (xs:List V)
 /-- a dict whose keys are ints and texts; one whose keys are tuples of ints and texts (the empty one is both) -/
 | dK (kvs:List (Key × V)) | dT (kvs:List (List Key × V))
 /-- a set of ints: its members, its size -/
 | set (S:Int->Bool) (n:Nat)
 /-- an instance of the class at C, its dict at dx, its attributes -/
 | ins (C dx:Addr) (fs:List (Str × V))
 /-- the dict of the instance at x -/
 | own (x:Addr)
 /-- the dict of an exception -/
 | xd (fs:List (Str × V))
 /-- a bound method, f of x -/
 | met (f x:Addr)
 /-- a range object lo, lo + 1, .. below hi -/
 | rng (lo hi:Int)
 /-- a thing that is known to the object (the script; a dict while a loop walks it): read, never written while it is so -/
 | frz (o:Obj) (u:HO)
 /-- a code object's table -/
 | tbl (ps:Array Value)
 /-- any other thing, by what is true of its one object (a def of one's own: SetO a S n := HO.ext fun h => ..) -/
 | ext (φ:Heap->Prop)
abbrev Hp:=Addr->Option HO
noncomputable def upd(H:Hp)(a:Addr)(o:HO):Hp:=fun b=>if b=a then some o else H b
theorem qa0e{H:Hp}{a:Addr}{o:HO}:upd H a o a=some o:=by unfold upd;rw [if_pos rfl]
theorem qa0d{H:Hp}{a b:Addr}{o:HO}(h:b ≠ a):upd H a o b=H b:=by unfold upd;rw [if_neg h]
theorem qa8s{H:Hp}{a b:Addr}{o u:HO}(h:H a=some o)(h':H b=some u)(d:o ≠ u):a ≠ b:=by
 intro e;subst e;rw [h] at h';exact d (Option.some.inj h')
theorem qa0z{H:Hp}{a b:Addr}{o:HO}(h:H a=some o)(h':H b=none):a ≠ b:=by
 intro e;subst e;rw [h] at h';cases h'
def qa4z(h:Heap)(a:Addr)(items:Array Value):Prop:=∃ o,h.get? a=some o/\(o.cls=.type "tuple" /\ o.dict=none)/\∃ n,o.data=.seq items n
theorem qa4z.tup{h:Heap}{a:Addr}{items:Array Value}(x:qa4z h a items):IsTup h a items:=by obtain⟨o,e,c,n,d⟩:=x;exact⟨o,e,c.1,n,d⟩
theorem qa4z.new(h:Heap)(xs:Array Value):qa4z (h.push { cls:=.type "tuple",data:=.seq xs }) h.objs.size xs:=⟨_,Heap.get?_push_size _ rfl,⟨rfl,rfl⟩,_,rfl⟩
section
variable(P:Program)(w:World)
noncomputable def qa1v(H:Hp)(h:Heap)(a:Addr):HO->Prop
 | .lst xs=>xs.length <= sizeLine/\∃ (its:List Value) (n:Nat),Vals xs its/\h.get? a=some { cls:=.type "list",data:=.seq its.toArray n }
 | .tup xs=>xs.length <= sizeLine/\∃ its:List Value,Vals xs its/\qa4z h a its.toArray
 | .dK kvs=>kvs.length <= sizeLine/\(a == sysModules)=false/\∃ vs,KV kvs vs/\h.DictOf (qa1t P w) a vs
 | .dT kvs=>kvs.length <= sizeLine/\(a == sysModules)=false/\∃ xs:List (List Key × Addr × Value),
   Paired (fun(p:List Key × V) (q:List Key × Addr × Value)=>p.1=q.1/\H q.2.1=some (.tup (p.1.map kV))/\RelV p.2 q.2.2) kvs xs /\
   ∃ o es ep,h.get? a=some o/\o.ExactDict/\o.data=.dict es ep/\es.toList=xs.map (entryOfKey (tupleKind (qa1t P w)))/\(xs.map (·.1)).Nodup
 | .set S n=>h.SetOf (intKind P w) a S n
 | .ins C dx fs=>H dx=some (.own a)/\fs.length <= 1000/\dx ≠ a/\h.get? a=some (PySem.W.instObj C dx) /\
   ∃ mA,h.Ns1 dx mA/\(∀ f,RelO (fs.lookup f) (mA f))/\PySem.Within mA (fs.map (·.1))
 | .own _=>∃ o,h.get? a=some o
 | .xd fs=>∃ mA,h.Ns1 a mA/\∀ f,RelO (fs.lookup f) (mA f)
 | .rng lo hi=>∃ t u v,h.get? a=some { cls:=.type "range",data:=.fields #[.int lo t,.int hi u,.int 1 v] }
 | .frz o u=>h.get? a=some o/\qa1v H h a u
 | .tbl ps=>h.get? a=some { cls:=.none,data:=.fields ps }
 | .met f x=>h.get? a=some (PySem.W.methodObj (.ref f) (.ref x))
 | .ext φ=>φ h/\(∃ o,h.get? a=some o)/\∀ h1 h2:Heap,φ h1->(∀ o,h1.get? a=some o->h2.get? a=some o)->φ h2
def HOk(H:Hp)(h:Heap):Prop:=∀ a o,H a=some o->qa1v P w H h a o
end
section
variable{P:Program}{w:World}{H H':Hp}{h h':Heap}{a:Addr}{o:HO}
theorem qa1v.lt(x:qa1v P w H h a o):a < h.objs.size:=by
 cases o with
 | lst xs=>obtain⟨_,_,_,_,e⟩:=x;exact Heap.lt_size e
 | tup xs=>obtain⟨_,_,_,p⟩:=x;exact p.tup.lt
 | dK kvs=>obtain⟨_,_,_,_,o,_,_,e,_⟩:=x;exact Heap.lt_size e
 | dT kvs=>obtain⟨_,_,_,_,o,_,_,e,_⟩:=x;exact Heap.lt_size e
 | set S n=>obtain⟨o,_,_,_,e,_⟩:=x;exact Heap.lt_size e
 | ins C dx fs=>obtain⟨_,_,_,e,_⟩:=x;exact Heap.lt_size e
 | own y=>obtain⟨_,e⟩:=x;exact Heap.lt_size e
 | xd fs=>obtain⟨_,⟨_,_,_,e,_⟩,_⟩:=x;exact Heap.lt_size e
 | rng lo hi=>obtain⟨_,_,_,e⟩:=x;exact Heap.lt_size e
 | frz ob u=>obtain⟨e,_⟩:=x;exact Heap.lt_size e
 | tbl ps=>exact Heap.lt_size (show h.get? a=some _ from x)
 | met f y=>exact Heap.lt_size (show h.get? a=some _ from x)
 | ext φ=>obtain⟨_,⟨_,e⟩,_⟩:=x;exact Heap.lt_size e
theorem Paired.mapP{α β:Type}{F G:α->β->Prop}:∀ {l₁:List α} {l₂:List β},Paired F l₁ l₂->(∀ a b,F a b->G a b)->Paired G l₁ l₂
 | _,_,.nil,_=>.nil
 | _,_,.cons r t,f=>.cons (f _ _ r) (Paired.mapP t f)
theorem Paired.imp'{α β:Type}{F G:α->β->Prop}(f:∀ a b,F a b->G a b){l₁:List α}{l₂:List β}(r:Paired F l₁ l₂):Paired G l₁ l₂:=Paired.mapP r f
theorem qa1v.stay(x:qa1v P w H h a o)(k:∀ b u,(b=a ∨ H b=some (.own a))->h.get? b=some u->h'.get? b=some u)
  (ho:∀ b,H b=some (.own a)->H' b=some (.own a)) (ht:∀ b xs,H b=some (.tup xs)->H' b=some (.tup xs)):qa1v P w H' h' a o:=by
 induction o with
 | lst xs=>obtain⟨z,its,n,r,e⟩:=x;exact⟨z,its,n,r,k _ _ (.inl rfl) e⟩
 | tup xs=>obtain⟨z,its,r,ob,e,c⟩:=x;exact⟨z,its,r,ob,k _ _ (.inl rfl) e,c⟩
 | dK kvs=>obtain⟨z,y,vs,r,ob,es,ep,e,c⟩:=x;exact⟨z,y,vs,r,ob,es,ep,k _ _ (.inl rfl) e,c⟩
 | dT kvs =>
  obtain⟨z,y,xs,r,ob,es,ep,e,c⟩:=x
  exact⟨z,y,xs,Paired.mapP r fun p q z=>⟨z.1,ht _ _ z.2.1,z.2.2⟩,ob,es,ep,k _ _ (.inl rfl) e,c⟩
 | set S n=>obtain⟨ob,es,ep,t,e,c⟩:=x;exact⟨ob,es,ep,t,k _ _ (.inl rfl) e,c⟩
 | ins C dx fs =>
  obtain⟨d,z,ne,e,mA,⟨od,es,ep,e2,c⟩,r⟩:=x
  exact⟨ho _ d,z,ne,k _ _ (.inl rfl) e,mA,⟨od,es,ep,k _ _ (.inr d) e2,c⟩,r⟩
 | own y=>obtain⟨ob,e⟩:=x;exact⟨ob,k _ _ (.inl rfl) e⟩
 | xd fs=>obtain⟨mA,⟨od,es,ep,e,c⟩,r⟩:=x;exact⟨mA,⟨od,es,ep,k _ _ (.inl rfl) e,c⟩,r⟩
 | rng lo hi=>obtain⟨t,u,v,e⟩:=x;exact⟨t,u,v,k _ _ (.inl rfl) e⟩
 | frz ob u ih=>obtain⟨e,q⟩:=x;exact⟨k _ _ (.inl rfl) e,ih q⟩
 | tbl ps =>
  have e:h.get? a=some { cls:=.none,data:=.fields ps }:=x
  show h'.get? a=some { cls:=.none,data:=.fields ps }
  exact k a _ (.inl rfl) e
 | met f y =>
  have e:h.get? a=some (PySem.W.methodObj (.ref f) (.ref y)):=x
  show h'.get? a=some (PySem.W.methodObj (.ref f) (.ref y))
  exact k a _ (.inl rfl) e
 | ext φ=>obtain⟨p,⟨o,e⟩,st⟩:=x;exact⟨st _ _ p fun o q=>k _ _ (.inl rfl) q,⟨o,k _ _ (.inl rfl) e⟩,st⟩
theorem HOk.lt(x:HOk P w H h)(e:H a=some o):a < h.objs.size:=(x a o e).lt
theorem HOk.fresh(x:HOk P w H h)(e:h.objs.size <= a):H a=none:=by
 cases q:H a with
 | none=>rfl
 | some u=>exact absurd (Nat.lt_of_lt_of_le (x.lt q) e) (Nat.lt_irrefl _)
theorem HOk.kept(x:HOk P w H h)(k:∀ b u,h.get? b=some u->h'.get? b=some u):HOk P w H h':=fun a o e =>
 (x a o e).stay (fun b u _ q=>k b u q) (fun _ q=>q) fun _ _ q=>q
theorem HOk.laid(x:HOk P w H h)(k:∀ b u,h.get? b=some u->h'.get? b=some u)(hp:h.objs.size <= a)(new:qa1v P w (upd H a o) h' a o):HOk P w (upd H a o) h':=fun b u e=>by
 have hn:=x.fresh hp
 by_cases hb:b=a
 ·subst hb;rw [qa0e] at e;cases e;exact new
 ·rw [qa0d hb] at e
  exact(x b u e).stay (fun c v _ q=>k c v q) (fun c q=>by rw [qa0d (qa0z q hn)];exact q) fun c xs q=>by rw [qa0d (qa0z q hn)];exact q
end
def Rd(H:Hp)(a:Addr)(u:HO):Prop:=H a=some u ∨ ∃ o,H a=some (.frz o u)
theorem Rd.ok{P:Program}{w:World}{H:Hp}{h:Heap}{a:Addr}{u:HO}(r:Rd H a u)(x:HOk P w H h):qa1v P w H h a u:=by
 rcases r with r | ⟨o,r⟩
 ·exact x a u r
 ·obtain⟨_,q⟩:=x a _ r
  exact q
noncomputable def Mut:Option HO->Prop
 | some (.lst _)=>True
 | some (.dK _)=>True
 | some (.dT _)=>True
 | some (.set _ _)=>True
 | some (.ins _ _ _)=>True
 | some (.ext _)=>True
 | _=>False
section
variable{P:Program}{w:World}{H:Hp}{h h':Heap}{x e:Addr}{o':HO}
theorem HOk.write(ok:HOk P w H h)(mu:Mut (H x))(he:e=x ∨ H e=some (.own x))(k:∀ b u,b ≠ e->h.get? b=some u->h'.get? b=some u)(heo:∃ u,h'.get? e=some u)
  (new:qa1v P w (upd H x o') h' x o'):HOk P w (upd H x o') h':=fun b u q=>by
 have nown:∀ c y,H c=some (.own y)->c ≠ x:=fun c y r z=>by subst z;rw [r] at mu;exact mu
 have ntup:∀ c xs,H c=some (.tup xs)->c ≠ x:=fun c xs r z=>by subst z;rw [r] at mu;exact mu
 by_cases hb:b=x
 ·subst hb;rw [qa0e] at q;cases q;exact new
 ·rw [qa0d hb] at q
  by_cases hbe:b=e
  ·have q':H b=some (.own x):=by
    rcases he with z | z
    ·exact absurd (hbe.trans z) hb
    ·rw [hbe];exact z
   rw [q] at q';cases q'
   obtain⟨v,hv⟩:=heo
   exact⟨v,by rw [hbe];exact hv⟩
  ·refine(ok b u q).stay (fun c v hc r=>k c v ?_ r) (fun c r=>by rw [qa0d (nown c b r)];exact r) fun c xs r=>by rw [qa0d (ntup c xs r)];exact r
   rcases hc with rfl | hc
   ·exact hbe
   ·rintro rfl
    rcases he with z | z
    ·exact nown c b hc z
    ·rw [hc] at z;cases z;exact hb rfl
end
structure Un(fs ex:List Addr)(H H':Hp)(h h':Heap):Prop where
 keep:∀ b o,h.get? b=some o->H b=none->b ∉ fs->b ∉ ex->h'.get? b=some o
 slot:∀ b o,h.get? b=some o->H b=none->b ∈ fs->b ∉ ex->∃ sl,h'.get? b=some { o with slots:=sl }
 free:∀ b o,h.get? b=some o->H b=none->b ∉ ex->H' b=none
 there:∀ b o,h.get? b=some o->b ∉ ex->∃ o',h'.get? b=some o'
 tups:∀ b xs,H b=some (.tup xs)->H' b=some (.tup xs)
 frzs:∀ b o u,H b=some (.frz o u)->H' b=some (.frz o u)
 tbls:∀ b ps,H b=some (.tbl ps)->∃ more,H' b=some (.tbl (ps ++ more))
section
variable{fs fs' ex ex':List Addr}{H H1 H2:Hp}{h h1 h2 h':Heap}{a x e:Addr}{o:HO}
theorem Un.any(u:Un fs ex H H1 h h1){b:Addr}{ob:Obj}(q:h.get? b=some ob)(n:H b=none)(hx:b ∉ ex):∃ sl,h1.get? b=some { ob with slots:=sl }:=by
 by_cases hb:b ∈ fs
 ·exact u.slot b ob q n hb hx
 ·exact⟨ob.slots,u.keep b ob q n hb hx⟩
theorem Un.kept(k:∀ b u,h.get? b=some u->h'.get? b=some u):Un fs ex H H h h':=
 ⟨fun b ob q _ _ _=>k b ob q,fun b ob q _ _ _=>⟨ob.slots,k b ob q⟩,fun _ _ _ n _=>n,fun b ob q _=>⟨ob,k b ob q⟩,fun _ _ q=>q,fun _ _ _ q=>q,fun _ ps q=>⟨#[],by rw [q];simp⟩⟩
theorem Un.refl:Un fs ex H H h h:=Un.kept fun _ _ q=>q
theorem Un.laid(k:∀ b u,h.get? b=some u->h'.get? b=some u)(hp:h.objs.size <= a)(hn:H a=none):Un fs ex H (upd H a o) h h' where
 keep:=fun b u q _ _ _=>k b u q
 slot:=fun b u q _ _ _=>⟨u.slots,k b u q⟩
 free:=fun b u q n _=>by rw [qa0d (Nat.ne_of_lt (Nat.lt_of_lt_of_le (Heap.lt_size q) hp))];exact n
 there:=fun b u q _=>⟨u,k b u q⟩
 tups:=fun b xs q=>by rw [qa0d (qa0z q hn)];exact q
 frzs:=fun b u xs q=>by rw [qa0d (qa0z q hn)];exact q
 tbls:=fun b ps q=>⟨#[],by rw [qa0d (qa0z q hn),q];simp⟩
theorem Un.write(mu:Mut (H x))(he:e=x ∨ H e=some (.own x))(k:∀ b u,b ≠ e->h.get? b=some u->h'.get? b=some u)(heo:∃ u,h'.get? e=some u):Un fs ex H (upd H x o) h h':=by
 have hx:∀ b,H b=none->b ≠ x:=fun b n z=>by subst z;rw [n] at mu;exact mu
 have hb:∀ b,H b=none->b ≠ e:=fun b n z=>by
  subst z
  rcases he with r | r
  ·exact hx b n r
  ·rw [n] at r;cases r
 have hm:∀ b u,H b=some u->¬ Mut (some u)->b ≠ x:=fun b u q nm z=>by subst z;rw [q] at mu;exact nm mu
 refine⟨fun b u q n _ _=>k b u (hb b n) q,fun b u q n _ _=>⟨u.slots,k b u (hb b n) q⟩,fun b u q n _=>by rw [qa0d (hx b n)];exact n,fun b u q _=>?_,
  fun b xs q=>by rw [qa0d (hm b _ q fun z=>z)];exact q,fun b u xs q=>by rw [qa0d (hm b _ q fun z=>z)];exact q,fun b ps q=>⟨#[],by rw [qa0d (hm b _ q fun z=>z),q];simp⟩⟩
 by_cases hbe:b=e
 ·subst hbe;exact heo
 ·exact⟨u,k b u hbe q⟩
end
noncomputable def trk(h:Heap)(H:Hp):List Addr:=(List.range h.objs.size).filter fun a=>(H a).isSome
noncomputable def hidT(h:Heap)(H:Hp):Heap:=PySem.W.hideAll h (trk h H)
theorem qc1g(h:Heap)(H:Hp):(hidT h H).objs.size=h.objs.size:=PySem.W.hideAll_size _ _
theorem qc3a{h:Heap}{H:Hp}{b:Addr}{o:Obj}(e:h.get? b=some o)(n:H b=none):(hidT h H).get? b=some o:=
 PySem.W.hideAll_get _ e fun hm=>by
  have q:(H b).isSome=true:=(List.mem_filter.mp hm).2
  rw [n] at q;simp at q
theorem of_hidT{h:Heap}{H:Hp}{b:Addr}{o:Obj}(e:(hidT h H).get? b=some o):h.get? b=some o/\H b=none:=by
 have e':h.get? b=some o:=PySem.W.of_hideAll (trk h H) e
 refine⟨e',?_⟩
 cases q:H b with
 | none=>rfl
 | some x =>
  have hm:b ∈ trk h H:=List.mem_filter.mpr ⟨List.mem_range.mpr (Heap.lt_size e'),by simp [q]⟩
  have z:(hidT h H).get? b=none:=PySem.W.hideAll_none (trk h H) hm
  rw [z] at e;cases e
noncomputable def allNews(g h:Heap)(L:Addr):List (Addr × Obj):=(List.range h.objs.size).filterMap fun a=>if a=L ∨ (g.get? a).isSome=true then none else(h.get? a).map fun o=>(a,o)
noncomputable def rest(g h:Heap)(L d:Addr):List (Addr × Obj):=(allNews g h L).filter fun p=>decide (p.1 ≠ d)
end L2
namespace L2
open PySem PySem.Spec PyProof.Rows
structure Mod(K:PySem.W.Frag)(mg:Str->Option Value)(base:Heap):Prop where
 kin:K.In base
 glob:base.Ns mainGlobals mg
 blt:∃ mb,base.Ns builtinsNs mb/\∀ x:Str,x ≠ "__name__" -> mb x=bootBuiltins x
 nolimit:base.NoLimit
structure Cx where
 prog:Program
 w:World
 K:PySem.W.Frag
 mg:Str->Option Value
 base:Heap
 A:Around
 N:List Str
 s₀:Shared
 H₀:Hp
 env:Env
 outer:List Env
 stack:List Env
 ex:List Addr
 fn:Str->Bool
 calm:Bool
 pn:List (Addr × Obj)
 xe:Value->Shared->Prop
noncomputable def frs(l:List Env):List Addr:=l.filterMap (·.frame)
abbrev Cx.fs(X:Cx):List Addr:=frs X.outer
def Vis(sc:Scope)(x:Str):Prop:=sc.names.lookup x=some .local ∨ sc.names.lookup x=some .cell ∨ sc.names.lookup x=some .free
def Loc(sc:Scope)(x:Str):Prop:=sc.names.lookup x=some .local ∨ sc.names.lookup x=some .cell
def Look(env:Env)(h:Heap)(m:Str->Option Value)(x:Str)(u:Value):Prop:=
 (env.kindOf x=some .local/\m x=some u) ∨ ((env.kindOf x=some .cell ∨ env.kindOf x=some .free)/\∃ c,env.cells.lookup x=some c/\h.IsCell c (some u))
structure Cx.Ok(X:Cx):Prop where
 mod:Mod X.K X.mg X.base
 kind:X.env.scope.kind=.function
 glob:X.env.globals=mainGlobals
 blt:X.env.builtins=builtinsNs
 above:X.s₀.heap.objs.size <= X.env.locals
 inj:∀ x y c,X.env.cells.lookup x=some c->X.env.cells.lookup y=some c->x=y
 has:∀ x,(X.env.kindOf x=some .cell ∨ X.env.kindOf x=some .free)->∃ c,X.env.cells.lookup x=some c
 cab:∀ x c,X.fn x=true->X.env.cells.lookup x=some c->X.s₀.heap.objs.size <= c
 hd:X.calm=true->X.A.handled=none
 frames:X.A.frames=some X.stack
 stk:X.stack=X.outer ∨ (X.stack=X.env :: X.outer/\X.env.frame=some X.env.locals)
 exf:∀ b ∈ X.ex,b ≠ X.env.locals/\∀ x c,X.env.cells.lookup x=some c->c ≠ b
 bs:∀ b o,X.base.get? b=some o->X.s₀.heap.get? b=some o/\X.H₀ b=none
 bsz:X.base.objs.size <= X.s₀.heap.objs.size
 noex:∀ b o,X.base.get? b=some o->b ∉ X.ex
 exfs:∀ b ∈ X.ex,b ∉ X.fs
 funs:X.s₀.heap.FunFrames X.base X.outer
 frf:∀ b ∈ X.fs,X.H₀ b=none
structure Inv(X:Cx)(pins:List (Addr × Obj))(σ:List (Option V))(H:Hp)(s:Shared):Prop where
 ok:X.Ok
 os:s.os=X.s₀.os
 bare:AllBare s.gens
 base:Un X.fs X.ex X.H₀ H X.s₀.heap s.heap
 loc:∃ m,s.heap.Ns X.env.locals m/\∀ (i:Nat) (x:Str) (v:V),X.N[i]? = some x->σ[i]? = some (some v)->Vis X.env.scope x->∃ u,RelV v u/\Look X.env s.heap m x u
 cell:∀ x c,X.env.cells.lookup x=some c->∃ v,s.heap.IsCell c v
 free:H X.env.locals=none
 freeC:∀ x c,X.env.cells.lookup x=some c->H c=none
 pin:∀ p ∈ X.pn ++ pins,s.heap.get? p.1=some p.2/\H p.1=none/\p.1 ≠ X.env.locals/\p.1 ∉ X.fs/\∀ v,p.2.data ≠ .cell v
 hok:HOk X.prog X.w H s.heap
 len:σ.length=X.N.length
section
variable{X:Cx}{pins:List (Addr × Obj)}{σ:List (Option V)}{H H':Hp}{s:Shared}{h':Heap}
theorem Cx.Ok.nofr(ok:X.Ok){b:Addr}{o:Obj}(e:X.base.get? b=some o):b ∉ X.fs:=fun hb=>by
 have:=(ok.funs.mem hb).1
 rw [e] at this;cases this
theorem Inv.bs(I:Inv X pins σ H s):∀ b o,X.base.get? b=some o->s.heap.get? b=some o/\H b=none:=fun b o e =>
 ⟨I.base.keep b o (I.ok.bs b o e).1 (I.ok.bs b o e).2 (I.ok.nofr e) (I.ok.noex b o e),I.base.free b o (I.ok.bs b o e).1 (I.ok.bs b o e).2 (I.ok.noex b o e)⟩
theorem Inv.bk(I:Inv X pins σ H s):∀ b o,X.base.get? b=some o->s.heap.get? b=some o:=fun b o e=>(I.bs b o e).1
theorem Inv.mod(I:Inv X pins σ H s):Mod X.K X.mg X.base:=I.ok.mod
theorem Inv.kIn(I:Inv X pins σ H s):X.K.In s.heap:=I.ok.mod.kin.keeps I.bk
theorem Inv.lt(I:Inv X pins σ H s):X.env.locals < s.heap.objs.size:=by obtain⟨_,hn,_⟩:=I.loc;exact hn.lt
theorem Inv.sz(I:Inv X pins σ H s):X.s₀.heap.objs.size <= s.heap.objs.size:=Nat.le_trans I.ok.above (Nat.le_of_lt I.lt)
theorem Inv.nofs(I:Inv X pins σ H s){a:Addr}(h:s.heap.objs.size <= a):a ∉ X.fs:=fun hb=>by
 obtain⟨_,o,ho,_⟩:=I.ok.funs.mem hb
 exact absurd (Nat.lt_of_lt_of_le (Heap.lt_size ho) (Nat.le_trans I.sz h)) (Nat.lt_irrefl _)
theorem Inv.cne(I:Inv X pins σ H s):∀ x c,X.env.cells.lookup x=some c->c ≠ X.env.locals:=fun x c e z=>by
 obtain⟨v,o,ho,hd⟩:=I.cell x c e
 obtain⟨m,⟨o',es,ep,ho',hd',_⟩,_⟩:=I.loc
 rw [z,ho'] at ho;cases ho;rw [hd'] at hd;cases hd
theorem Inv.funs(I:Inv X pins σ H s):s.heap.FunFrames X.base X.outer:=by
 have all:∀ (l:List Env),(∀ b ∈ frs l,b ∈ X.fs)->X.s₀.heap.FunFrames X.base l->s.heap.FunFrames X.base l:=by
  intro l
  induction l with
  | nil=>intro _ _;trivial
  | cons env r ih =>
   intro hs hl
   obtain⟨hk,⟨L,o,hf,hn,ho,hd⟩,hr⟩:=hl
   have hL:L ∈ X.fs:=hs L (by unfold frs;rw [List.filterMap_cons,hf];exact List.mem_cons_self)
   obtain⟨sl,e⟩:=I.base.slot L o ho (I.ok.frf L hL) hL fun z=>I.ok.exfs L z hL
   exact⟨hk,⟨L,_,hf,hn,e,hd⟩,ih (fun b hb=>hs b (by unfold frs;rw [List.filterMap_cons,hf];exact List.mem_cons_of_mem _ hb)) hr⟩
 exact all X.outer (fun _ hb=>hb) I.ok.funs
theorem Inv.stack(I:Inv X pins σ H s):s.heap.FunFrames X.base X.stack:=by
 rcases I.ok.stk with e | ⟨e,hf⟩
 ·rw [e];exact I.funs
 ·rw [e]
  obtain⟨m,hn,_⟩:=I.loc
  refine .cons (by rw [I.ok.kind];decide) hf hn ?_ I.funs
  exact Heap.get?_none_of_le (Nat.le_trans I.ok.bsz I.ok.above)
theorem Inv.stkSub(I:Inv X pins σ H s):∀ b ∈ frs X.stack,b ∈ X.env.locals :: X.fs:=fun b hb=>by
 rcases I.ok.stk with e | ⟨e,hf⟩
 ·rw [e] at hb;exact List.mem_cons_of_mem _ hb
 ·rw [e] at hb
  unfold frs at hb
  rw [List.filterMap_cons,hf] at hb
  exact hb
theorem Inv.stkFree(I:Inv X pins σ H s):∀ b ∈ frs X.stack,H b=none:=fun b hb=>by
 rcases List.mem_cons.mp (I.stkSub b hb) with e | hb
 ·rw [e];exact I.free
 ·obtain⟨_,o,ho,_⟩:=I.ok.funs.mem hb
  exact I.base.free b o ho (I.ok.frf b hb) fun z=>I.ok.exfs b z hb
theorem Inv.step{g':Array GenState}{t':Nat}{d':Drawn}{ch:List Addr}(I:Inv X pins σ H s)
  (hch:∀ b ∈ ch,(b ∈ X.ex ∨ X.s₀.heap.objs.size <= b)/\b ≠ X.env.locals/\(∀ x c,X.env.cells.lookup x=some c->c ≠ b)/\∀ p ∈ X.pn ++ pins,p.1 ≠ b)
  (keep:∀ b o,b ≠ X.env.locals->b ∉ X.fs->b ∉ ch->s.heap.get? b=some o->H b=none->h'.get? b=some o)
  (slot:∀ b o,b ≠ X.env.locals->b ∈ X.fs->b ∉ ch->s.heap.get? b=some o->H b=none->∃ sl,h'.get? b=some { o with slots:=sl }) (free:∀ b o,b ∉ ch->s.heap.get? b=some o->H b=none->H' b=none)
  (there:∀ b o,b ∉ ch->s.heap.get? b=some o->∃ o',h'.get? b=some o')
  (tups:∀ b xs,H b=some (.tup xs)->H' b=some (.tup xs)) (frzs:∀ b o u,H b=some (.frz o u)->H' b=some (.frz o u)) (tbls:∀ b ps,H b=some (.tbl ps)->∃ more,H' b=some (.tbl (ps ++ more)))
  (ns:∀ m,s.heap.Ns X.env.locals m->h'.Ns X.env.locals m) (hok:HOk X.prog X.w H' h') (hg:AllBare g') :
  Inv X pins σ H' { s with heap:=h',gens:=g',drawn:=d',toks:=t' }:=by
 have neL:∀ b o,X.s₀.heap.get? b=some o->b ≠ X.env.locals:=fun b o e=>Nat.ne_of_lt (Nat.lt_of_lt_of_le (Heap.lt_size e) I.ok.above)
 have neC:∀ b o,X.s₀.heap.get? b=some o->b ∉ X.ex->b ∉ ch:=fun b o e hx hb=>by
  rcases (hch b hb).1 with z | z
  ·exact hx z
  ·exact absurd (Nat.lt_of_lt_of_le (Heap.lt_size e) z) (Nat.lt_irrefl _)
 have cellK:∀ x c,X.env.cells.lookup x=some c->∀ v,s.heap.IsCell c v->h'.IsCell c v:=fun x c e v hq8=>by
  obtain⟨o,ho,hd⟩:=hq8
  have nch:c ∉ ch:=fun z=>(hch c z).2.2.1 x c e rfl
  by_cases hc:c ∈ X.fs
  ·obtain⟨sl,q⟩:=slot c o (I.cne x c e) hc nch ho (I.freeC x c e)
   exact⟨_,q,hd⟩
  ·exact⟨o,keep c o (I.cne x c e) hc nch ho (I.freeC x c e),hd⟩
 refine⟨I.ok,I.os,hg,⟨fun b o e n hb hx=>?_,fun b o e n hb hx=>?_,fun b o e n hx=>?_,fun b o e hx=>?_,fun b xs e=>tups b xs (I.base.tups b xs e),fun b o xs e=>frzs b o xs (I.base.frzs b o xs e),fun b ps e=>?_⟩,?_,fun x c e=>?_,?_,fun x c e=>?_,fun p hp=>?_,hok,I.len⟩
 ·exact keep b o (neL b o e) hb (neC b o e hx) (I.base.keep b o e n hb hx) (I.base.free b o e n hx)
 ·obtain⟨sl,e1⟩:=I.base.slot b o e n hb hx
  obtain⟨sl',e2⟩:=slot b _ (neL b o e) hb (neC b o e hx) e1 (I.base.free b o e n hx)
  exact⟨sl',e2⟩
 ·obtain⟨o',e1⟩:=I.base.there b o e hx
  exact free b o' (neC b o e hx) e1 (I.base.free b o e n hx)
 ·obtain⟨o',e1⟩:=I.base.there b o e hx
  exact there b o' (neC b o e hx) e1
 ·obtain⟨m1,e1⟩:=I.base.tbls b ps e
  obtain⟨m2,e2⟩:=tbls b _ e1
  exact⟨m1 ++ m2,by rw [e2,Array.append_assoc]⟩
 ·obtain⟨m,hn,hl⟩:=I.loc
  refine⟨m,ns m hn,fun i x v e1 e2 e3=>?_⟩
  obtain⟨u,r,l⟩:=hl i x v e1 e2 e3
  refine⟨u,r,?_⟩
  rcases l with l | ⟨k,c,e,z⟩
  ·exact .inl l
  ·exact .inr ⟨k,c,e,cellK x c e _ z⟩
 ·obtain⟨v,z⟩:=I.cell x c e
  exact⟨v,cellK x c e v z⟩
 ·obtain⟨m,⟨o,_,_,ho,_⟩,_⟩:=I.loc
  exact free _ o (fun z=>(hch _ z).2.1 rfl) ho I.free
 ·obtain⟨v,o,ho,hd⟩:=I.cell x c e
  exact free c o (fun z=>(hch c z).2.2.1 x c e rfl) ho (I.freeC x c e)
 ·obtain⟨e,n,ne,nf,d⟩:=I.pin p hp
  have nch:p.1 ∉ ch:=fun z=>(hch p.1 z).2.2.2 p hp rfl
  exact⟨keep p.1 p.2 ne nf nch e n,free p.1 p.2 nch e n,ne,nf,d⟩
theorem Inv.un{t':Nat}(I:Inv X pins σ H s)(u:Un X.fs [] H H' s.heap h')(hok:HOk X.prog X.w H' h'):Inv X pins σ H' { s with heap:=h',toks:=t' }:=by
 obtain⟨m,⟨o,es,ep,ho,r⟩,_⟩:=id I.loc
 obtain⟨sl,hL⟩:=u.any ho I.free (by simp)
 exact I.step (g':=s.gens) (d':=s.drawn) (ch:=[]) (fun _ z=>nomatch z) (fun b o _ hb _ e n=>u.keep b o e n hb (by simp)) (fun b o _ hb _ e n=>u.slot b o e n hb (by simp)) (fun b o _ e n=>u.free b o e n (by simp)) (fun b o _ e=>u.there b o e (by simp)) u.tups u.frzs u.tbls (fun m' hm=>by
  obtain⟨o',es',ep',ho',r'⟩:=hm
  rw [ho] at ho';cases ho'
  exact⟨_,es',ep',hL,r'⟩) hok I.bare
theorem Inv.call{g':Array GenState}{t':Nat}{d':Drawn}{ch:List Addr}(I:Inv X pins σ H s)(u:Un (frs X.stack) ch H H' s.heap h')(hok:HOk X.prog X.w H' h')(hg:AllBare g')
  (hch:∀ b ∈ ch,(b ∈ X.ex ∨ X.s₀.heap.objs.size <= b)/\b ≠ X.env.locals/\(∀ x c,X.env.cells.lookup x=some c->c ≠ b)/\∀ p ∈ X.pn ++ pins,p.1 ≠ b) :
  Inv X pins σ H' { s with heap:=h',gens:=g',drawn:=d',toks:=t' }:=by
 obtain⟨m,⟨o,es,ep,ho,r⟩,_⟩:=id I.loc
 obtain⟨sl,hL⟩:=u.any ho I.free fun z=>(hch _ z).2.1 rfl
 exact I.step (ch:=ch) hch (fun b o hL hb hc e n=>u.keep b o e n (fun z=>(List.mem_cons.mp (I.stkSub b z)).elim hL hb) hc) (fun b o _ _ hc e n=>u.any e n hc) (fun b o hc e n=>u.free b o e n hc) (fun b o hc e=>u.there b o e hc) u.tups u.frzs u.tbls (fun m' hm=>by
  obtain⟨o',es',ep',ho',r'⟩:=hm
  rw [ho] at ho';cases ho'
  exact⟨_,es',ep',hL,r'⟩) hok hg
theorem Inv.turned{t':Nat}{it:Addr}(I:Inv X pins σ H s)(k:∀ b o,b ≠ it->s.heap.get? b=some o->h'.get? b=some o)(hn:H it=none)(hL:it ≠ X.env.locals)
  (h1:it ∈ X.ex ∨ X.s₀.heap.objs.size <= it) (h2:∀ x c,X.env.cells.lookup x=some c->c ≠ it) (h3:∀ p ∈ X.pn ++ pins,p.1 ≠ it):Inv X pins σ H { s with heap:=h',toks:=t' }:=by
 have nit:∀ b u,H b=some u->b ≠ it:=fun b u e z=>by rw [z,hn] at e;cases e
 refine I.step (g':=s.gens) (d':=s.drawn) (ch:=[it]) (fun b hb=>?_) (fun b o _ _ hc e _=>k b o (fun z=>hc (by simp [z])) e) (fun b o _ _ hc e _=>⟨o.slots,k b o (fun z=>hc (by simp [z])) e⟩) (fun _ _ _ _ n=>n)
  (fun b o hc e=>⟨o,k b o (fun z=>hc (by simp [z])) e⟩) (fun _ _ e=>e) (fun _ _ _ e=>e) (fun b ps e=>⟨#[],by rw [e];simp⟩) (fun m hm=>?_) (fun b u e=>?_) I.bare
 ·have e:b=it:=by simpa using hb
  subst e
  exact⟨h1,hL,h2,h3⟩
 ·obtain⟨o,es,ep,ho,r⟩:=hm
  exact⟨o,es,ep,k _ o (Ne.symm hL) ho,r⟩
 ·refine(I.hok b u e).stay (fun c v hc q=>k c v ?_ q) (fun _ q=>q) fun _ _ q=>q
  rcases hc with z | z
  ·rw [z];exact nit b u e
  ·exact nit c _ z
theorem Inv.tok(I:Inv X pins σ H s)(t:Nat):Inv X pins σ H { s with toks:=t }:=I.un (h':=s.heap) (t':=t) Un.refl I.hok
theorem Inv.kept{t':Nat}(I:Inv X pins σ H s)(k:∀ b u,s.heap.get? b=some u->h'.get? b=some u):Inv X pins σ H { s with heap:=h',toks:=t' }:=I.un (Un.kept k) (I.hok.kept k)
theorem Inv.laid{a:Addr}{o:HO}{t':Nat}(I:Inv X pins σ H s)(k:∀ b u,s.heap.get? b=some u->h'.get? b=some u)(hp:s.heap.objs.size <= a)(new:qa1v X.prog X.w (upd H a o) h' a o) :
  Inv X pins σ (upd H a o) { s with heap:=h',toks:=t' }:=I.un (Un.laid k hp (I.hok.fresh hp)) (I.hok.laid k hp new)
theorem Inv.write{x e:Addr}{o:HO}{t':Nat}(I:Inv X pins σ H s)(mu:Mut (H x))(he:e=x ∨ H e=some (.own x))(k:∀ b u,b ≠ e->s.heap.get? b=some u->h'.get? b=some u)(heo:∃ u,h'.get? e=some u)
  (new:qa1v X.prog X.w (upd H x o) h' x o):Inv X pins σ (upd H x o) { s with heap:=h',toks:=t' }:=I.un (Un.write mu he k heo) (I.hok.write mu he k heo new)
theorem Inv.pins_of{pins':List (Addr × Obj)}(I:Inv X pins σ H s)(h:∀ p ∈ pins',s.heap.get? p.1=some p.2/\H p.1=none/\p.1 ≠ X.env.locals/\p.1 ∉ X.fs/\∀ v,p.2.data ≠ .cell v):Inv X pins' σ H s:=
 ⟨I.ok,I.os,I.bare,I.base,I.loc,I.cell,I.free,I.freeC,fun p hp=>(List.mem_append.mp hp).elim (fun z=>I.pin p (List.mem_append_left _ z)) (h p),I.hok,I.len⟩
theorem qb5n{N:List Str}(hN:N.Nodup){i j:Nat}{x:Str}(a:N[i]? = some x)(b:N[j]? = some x):i=j:=by
 obtain⟨h1,e1⟩:=List.getElem?_eq_some_iff.mp a
 obtain⟨h2,e2⟩:=List.getElem?_eq_some_iff.mp b
 exact(List.getElem_inj hN).mp (e1.trans e2.symm)
theorem qb4o{M:Model}{A:Around}{E:Value->Shared->Prop}{i:Nat}{x:Str}{v:V}{u:Value}{Q:Unit->Shared->Prop}(I:Inv X pins σ H s)(hN:X.N.Nodup)(hi:X.N[i]? = some x)(hx:Loc X.env.scope x)(r:RelV v u)
  (h:∀ s',Inv X pins (σ.set i (some v)) H s'->(∃ a,Heap.SameBut a s.heap s'.heap/\(a=X.env.locals ∨ X.env.cells.lookup x=some a))->Q () s') (hf:X.fn x=true ∨ X.env.scope.names.lookup x=some .local:=by first | exact .inl rfl | exact .inr rfl | assumption):wpAny M A (storeName X.env x u) Q E s:=by
 obtain⟨m,hn,hl⟩:=id I.loc
 have hcls:(X.env.scope.kind == .class || (X.env.scope.kind == .module && X.env.locals != X.env.globals))=false:=by rw [I.ok.kind];rfl
 have hiσ:i < σ.length:=by rw [I.len];exact(List.getElem?_eq_some_iff.mp hi).1
 have cne:=I.cne
 have tracked:∀ {a:Addr} {h':Heap},(∃ o,s.heap.get? a=some o/\H a=none)->Heap.SameBut a s.heap h'->HOk X.prog X.w H h':=fun{a h'} ha hs b ob e=>by
  obtain⟨_,_,hfree⟩:=ha
  refine(I.hok b ob e).stay (fun c w' hc q=>(hs.2 c ?_).trans q) (fun _ q=>q) fun _ _ q=>q
  rintro rfl
  rcases hc with rfl | hc
  ·rw [hfree] at e;cases e
  ·rw [hfree] at hc;cases hc
 rcases hx with hk | hk
 ·refine wpAny_storeName_local hk hn (fun h' hn' hs=>?_) hcls
  obtain⟨oL,_,_,hoL,_⟩:=id hn
  refine h _ ⟨I.ok,I.os,I.bare,⟨fun b o e n hb hx=>?_,fun b o e n hb hx=>?_,I.base.free,fun b o e hx=>?_,I.base.tups,I.base.frzs,I.base.tbls⟩,⟨_,hn',fun j y v' e1 e2 e3=>?_⟩,fun y c e=>?_,I.free,I.freeC,fun p hp=>?_,tracked ⟨oL,hoL,I.free⟩ hs,by simpa using I.len⟩ ⟨_,hs,.inl rfl⟩
  ·exact(hs.2 b (Nat.ne_of_lt (Nat.lt_of_lt_of_le (Heap.lt_size e) I.ok.above))).trans (I.base.keep b o e n hb hx)
  ·obtain⟨sl,e1⟩:=I.base.slot b o e n hb hx
   exact⟨sl,(hs.2 b (Nat.ne_of_lt (Nat.lt_of_lt_of_le (Heap.lt_size e) I.ok.above))).trans e1⟩
  ·obtain⟨o',e1⟩:=I.base.there b o e hx
   exact⟨o',(hs.2 b (Nat.ne_of_lt (Nat.lt_of_lt_of_le (Heap.lt_size e) I.ok.above))).trans e1⟩
  ·by_cases hj:j=i
   ·subst hj
    rw [hi] at e1;cases e1
    rw [List.getElem?_set_self hiσ] at e2
    cases e2
    exact⟨u,r,.inl ⟨hk,by simp⟩⟩
   ·rw [List.getElem?_set_ne (Ne.symm hj)] at e2
    obtain⟨u',r',q⟩:=hl j y v' e1 e2 e3
    refine⟨u',r',?_⟩
    rcases q with⟨k,e⟩ | ⟨k,c,e,z⟩
    ·refine .inl ⟨k,?_⟩
     have:y ≠ x:=fun e=>hj (qb5n hN e1 (e ▸ hi))
     simp [this,e]
    ·exact .inr ⟨k,c,e,z.sameBut hs (cne y c e)⟩
  ·obtain⟨w',z⟩:=I.cell y c e
   exact⟨w',z.sameBut hs (cne y c e)⟩
  ·obtain⟨e,n,ne,nf,d⟩:=I.pin p hp
   exact⟨(hs.2 p.1 ne).trans e,n,ne,nf,d⟩
 ·have hfn:X.fn x=true:=by
   rcases hf with z | z
   ·exact z
   ·rw [z] at hk;cases hk
  obtain⟨c,hc⟩:=I.ok.has x (.inl hk)
  obtain⟨w',z⟩:=I.cell x c hc
  refine wpAny_storeName_cell I.ok.kind hk hc z (fun h' hc' hs=>?_)
  obtain⟨oc,hoc,hocd⟩:=id z
  refine h { s with heap:=h' } ⟨I.ok,I.os,I.bare,⟨fun b o e n hb hx=>?_,fun b o e n hb hx=>?_,I.base.free,fun b o e hx=>?_,I.base.tups,I.base.frzs,I.base.tbls⟩,⟨m,hn.sameBut hs (Ne.symm (cne x c hc)),fun j y v' e1 e2 e3=>?_⟩,fun y c' e=>?_,I.free,I.freeC,fun p hp=>?_,tracked ⟨oc,hoc,I.freeC x c hc⟩ hs,by simpa using I.len⟩ ⟨c,hs,.inr hc⟩
  ·exact(hs.2 b (Nat.ne_of_lt (Nat.lt_of_lt_of_le (Heap.lt_size e) (I.ok.cab x c hfn hc)))).trans (I.base.keep b o e n hb hx)
  ·obtain⟨sl,e1⟩:=I.base.slot b o e n hb hx
   exact⟨sl,(hs.2 b (Nat.ne_of_lt (Nat.lt_of_lt_of_le (Heap.lt_size e) (I.ok.cab x c hfn hc)))).trans e1⟩
  ·obtain⟨o',e1⟩:=I.base.there b o e hx
   exact⟨o',(hs.2 b (Nat.ne_of_lt (Nat.lt_of_lt_of_le (Heap.lt_size e) (I.ok.cab x c hfn hc)))).trans e1⟩
  ·by_cases hj:j=i
   ·subst hj
    rw [hi] at e1;cases e1
    rw [List.getElem?_set_self hiσ] at e2
    cases e2
    exact⟨u,r,.inr ⟨.inl hk,c,hc,hc'⟩⟩
   ·rw [List.getElem?_set_ne (Ne.symm hj)] at e2
    obtain⟨u',r',q⟩:=hl j y v' e1 e2 e3
    refine⟨u',r',?_⟩
    rcases q with q | ⟨k,c',e,z'⟩
    ·exact .inl q
    ·refine .inr ⟨k,c',e,z'.sameBut hs ?_⟩
     rintro rfl
     exact hj (qb5n hN e1 (I.ok.inj _ _ _ e hc ▸ hi))
  ·by_cases hcc:c'=c
   ·subst hcc;exact⟨_,hc'⟩
   ·obtain⟨w2,z2⟩:=I.cell y c' e
    exact⟨w2,z2.sameBut hs hcc⟩
  ·obtain⟨e,n,ne,nf,d⟩:=I.pin p hp
   refine⟨(hs.2 p.1 ?_).trans e,n,ne,nf,d⟩
   intro q
   rw [q,hoc] at e
   have q':oc=p.2:=Option.some.inj e
   exact d w' (by rw [← q'];exact hocd)
theorem qb5o{M:Model}{A:Around}{E:Value->Shared->Prop}{i:Nat}{x:Str}{v:V}{u:Value}{Q:Unit->Shared->Prop}(I:Inv X pins σ H s)(hN:X.N.Nodup)(hi:X.N[i]? = some x)(hx:Loc X.env.scope x)(r:RelV v u)
  (h:∀ s',Inv X pins (σ.set i (some v)) H s'->Q () s') (hf:X.fn x=true ∨ X.env.scope.names.lookup x=some .local:=by first | exact .inl rfl | exact .inr rfl | assumption):wpAny M A (storeName X.env x u) Q E s:=
 qb4o I hN hi hx r (fun s' I' _=>h s' I') hf
theorem Inv.call'{s':Shared}{ch:List Addr}(I:Inv X pins σ H s)(ho:s'.os=s.os)(u:Un (frs X.stack) ch H H' s.heap s'.heap)(hok:HOk X.prog X.w H' s'.heap)(hg:AllBare s'.gens)
  (hch:∀ b ∈ ch,(b ∈ X.ex ∨ X.s₀.heap.objs.size <= b)/\b ≠ X.env.locals/\(∀ x c,X.env.cells.lookup x=some c->c ≠ b)/\∀ p ∈ X.pn ++ pins,p.1 ≠ b):Inv X pins σ H' s':=by
 obtain⟨h',g',d',t',o'⟩:=s'
 have e:o'=s.os:=ho
 subst e
 exact I.call (g':=g') (t':=t') (d':=d') u hok hg hch
end
abbrev XK:=Value->Option Addr->Hp->Prop
abbrev St:=List (Option V)
abbrev VK:=V->Hp->Prop
abbrev TE:=St->Hp->VK->Prop
abbrev TT:=St->Hp->(Bool->Hp->Prop)->Prop
abbrev TA:=St->Hp->(List V->Hp->Prop)->Prop
structure Ends where
 nx:St->Hp->Prop
 rt:VK
 bk:St->Hp->Prop:=fun _ _=>False
 ct:St->Hp->Prop:=fun _ _=>False
abbrev TS:=Ends->St->Hp->Prop
def EP(X:Cx)(pins:List (Addr × Obj))(σ:St)(Q:VK)(u:Value)(s':Shared):Prop:=∃ v H',Inv X pins σ H' s'/\RelV v u/\Q v H'
def TP(X:Cx)(pins:List (Addr × Obj))(σ:St)(Q:Bool->Hp->Prop)(b:Bool)(s':Shared):Prop:=∃ H',Inv X pins σ H' s'/\Q b H'
def AP(X:Cx)(pins:List (Addr × Obj))(σ:St)(Q:List V->Hp->Prop)(us:List Value)(s':Shared):Prop:=∃ vs H',Inv X pins σ H' s'/\Vals vs us/\Q vs H'
def SP(X:Cx)(pins:List (Addr × Obj))(D:Ends)(f:Flow)(s':Shared):Prop:=
 match f with
 | .next=>∃ σ' H',Inv X pins σ' H' s'/\D.nx σ' H'
 | .brk=>∃ σ' H',Inv X pins σ' H' s'/\D.bk σ' H'
 | .cont=>∃ σ' H',Inv X pins σ' H' s'/\D.ct σ' H'
 | .ret u=>∃ v σ' H',Inv X pins σ' H' s'/\RelV v u/\D.rt v H'
def PE(X:Cx)(e:Expr)(t:TE):Prop:=
 ∀ (pins:List (Addr × Obj)) (s:Shared) (σ:St) (H:Hp) (Q:VK),Inv X pins σ H s->t σ H Q->wpAny (model X.prog X.w) X.A (eval e X.env) (EP X pins σ Q) X.xe s
def PT(X:Cx)(e:Expr)(t:TT):Prop:=
 ∀ (pins:List (Addr × Obj)) (s:Shared) (σ:St) (H:Hp) (Q:Bool->Hp->Prop),Inv X pins σ H s->t σ H Q->wpAny (model X.prog X.w) X.A (isTrue e X.env (eval e X.env)) (TP X pins σ Q) X.xe s
def PW(X:Cx)(e:Expr)(t:TT):Prop:=
 ∀ (whole:Sem Value) (pins:List (Addr × Obj)) (s:Shared) (σ:St) (H:Hp) (Q:Bool->Hp->Prop),Inv X pins σ H s->t σ H Q->wpAny (model X.prog X.w) X.A (isTrue e X.env whole) (TP X pins σ Q) X.xe s
theorem PW.pt{X:Cx}{e:Expr}{t:TT}(h:PW X e t):PT X e t:=h _
def PA(X:Cx)(es:List Expr)(t:TA):Prop:=
 ∀ (pos:Pos) (pins:List (Addr × Obj)) (s:Shared) (σ:St) (H:Hp) (Q:List V->Hp->Prop),Inv X pins σ H s->t σ H Q->wpAny (model X.prog X.w) X.A (spliced (backTo pos (starEach es X.env))) (AP X pins σ Q) X.xe s
def PS(X:Cx)(st:Stmt)(t:TS):Prop:=
 ∀ (pins:List (Addr × Obj)) (s:Shared) (σ:St) (H:Hp) (D:Ends),Inv X pins σ H s->t D σ H->wpAny (model X.prog X.w) X.A (exec st X.env) (SP X pins D) X.xe s
def PSs(X:Cx)(st:List Stmt)(t:TS):Prop:=
 ∀ (pins:List (Addr × Obj)) (s:Shared) (σ:St) (H:Hp) (D:Ends),Inv X pins σ H s->t D σ H->wpAny (model X.prog X.w) X.A (execs st X.env) (SP X pins D) X.xe s
theorem thn{α:Type}{t:Sem α}{Q Q':α->Shared->Prop}{M:Model}{A:Around}{E:Value->Shared->Prop}{s:Shared}(h:wpAny M A t Q E s)(hQ:∀ a s,Q a s->Q' a s):wpAny M A t Q' E s:=wpAny_mono h hQ fun _ _ x=>x
end L2
namespace L2
open PySem PySem.Spec PyProof.Rows
section
variable{X:Cx}
def tVar(i:Nat):TE:=fun σ H Q=>∃ v,σ[i]? = some (some v)/\Q v H
def tC(v:V):TE:=fun _ H Q=>Q v H
theorem qa9k{i:Nat}{x:Str}{pos:Pos}(hN:X.N[i]? = some x)(hv:Vis X.env.scope x) (hd:(x == ("__debug__" : Str))=false:=by decide) (hcd:(x == ("__classdict__" : Str))=false:=by decide):PE X (.Name x pos) (tVar i):=by
 intro pins s σ H Q I h
 obtain⟨v,e,h⟩:=h
 obtain⟨m,hn,hl⟩:=I.loc
 obtain⟨u,r,l⟩:=hl i x v hN e hv
 have fin:EP X pins σ Q u s:=⟨v,H,I,r,h⟩
 rcases l with⟨hk,hm⟩ | ⟨hk,c,hc,hcell⟩
 ·exact wpAny_Name (wpAny_loadName_local I.ok.kind hk hn hm fin) hd
 ·rcases hk with hk | hk
  ·exact wpAny_Name (wpAny_loadName_cell I.ok.kind hk hc hcell fin) hd
  ·exact wpAny_Name (wpAny_loadName_free I.ok.kind hk hc hcell fin hcd) hd
theorem qa0w{i j pos}:PE X (.Constant (.int i) j pos) (tC (.int i)):=fun _ _ _ H _ I h=>wpAny_Constant_int ⟨.int i,H,I.tok _,⟨_,rfl⟩,h⟩
theorem pe_bl{b j pos}:PE X (.Constant (.bool b) j pos) (tC (.bl b)):=fun _ _ _ H _ I h=>Constant_bool ⟨.bl b,H,I,rfl,h⟩
theorem pe_non{j pos}:PE X (.Constant .none j pos) (tC .non):=fun _ _ _ H _ I h=>Constant_none ⟨.non,H,I,rfl,h⟩
theorem qa2o{x j pos}:PE X (.Constant (.str x) j pos) (tC (.str x)):=fun _ _ _ H _ I h=>Calls.Constant_str ⟨.str x,H,I.tok _,⟨_,rfl⟩,h⟩
def Gl(X:Cx)(x:Str):Prop:=X.env.kindOf x=some .globalImplicit
theorem qb3q{E:Value->Shared->Prop}{pins:List (Addr × Obj)}{s:Shared}{σ:St}{H:Hp}{x:Str}{u:Value}{pos:Pos}{Q:Value->Shared->Prop}(I:Inv X pins σ H s)(hg:Gl X x)(hm:X.mg x=some u)(h:Q u s)
  (hd:(x == ("__debug__" : Str))=false:=by decide):wpAny (model X.prog X.w) X.A (eval (.Name x pos) X.env) Q E s:=
 Calls.Name_function_global I.ok.kind hg (Calls.loadGlobal_global (by rw [I.ok.glob];exact I.mod.glob.keeps I.bk) hm h) hd
theorem qa6y{E:Value->Shared->Prop}{pins:List (Addr × Obj)}{s:Shared}{σ:St}{H:Hp}{x:Str}{u:Value}{pos:Pos}{Q:Value->Shared->Prop}(I:Inv X pins σ H s)(hg:Gl X x)(hm:X.mg x=none)(hv:bootBuiltins x=some u)(h:Q u s)
  (hn:x ≠ "__name__":=by decide) (hd:(x == ("__debug__" : Str))=false:=by decide):wpAny (model X.prog X.w) X.A (eval (.Name x pos) X.env) Q E s:=by
 obtain⟨mb,h1,h2⟩:=I.mod.blt
 exact Calls.Name_function_global I.ok.kind hg (Calls.loadGlobal_builtin (by rw [I.ok.glob];exact I.mod.glob.keeps I.bk) hm (by rw [I.ok.blt];exact h1.keeps I.bk) ((h2 x hn).trans hv) h) hd
theorem pe_glob{x:Str}{v:V}{u:Value}{pos:Pos}(hg:Gl X x)(hm:X.mg x=some u)(r:RelV v u) (hd:(x == ("__debug__" : Str))=false:=by decide):PE X (.Name x pos) (tC v):=
 fun _ _ _ H _ I h=>qb3q I hg hm ⟨v,H,I,r,h⟩ hd
theorem pe_bltn{x:Str}{v:V}{u:Value}{pos:Pos}(hg:Gl X x)(hm:X.mg x=none)(hv:bootBuiltins x=some u)(r:RelV v u) (hn:x ≠ "__name__":=by decide) (hd:(x == ("__debug__" : Str))=false:=by decide):PE X (.Name x pos) (tC v):=
 fun _ _ _ H _ I h=>qa6y I hg hm hv ⟨v,H,I,r,h⟩ hn hd
variable{a b:Expr}{ta tb:TE}{pos:Pos}
def tB(t:TE):TT:=fun σ H Q=>t σ H fun x H1=>∃ c,x=.bl c/\Q c H1
theorem pt_val{e:Expr}{t:TE}(h:PE X e t)(he:∀ whole,isTrue e X.env whole=(do let v ← whole;standAt e.pos;holding [v] (truthy v)):=by intro _;rfl):PT X e (tB t):=by
 intro pins s σ H Q I hw
 refine isTrue_plain (thn (h pins s σ H _ I hw) fun v s1 hq8=>?_) (he _)
 obtain⟨x,H1,I1,r1,q1⟩:=hq8
 obtain⟨d,rfl,q⟩:=q1
 cases r1
 exact wpAny_truthy_bool ⟨H1,I1,q⟩
variable{tA tB':TT}{rest:List Expr}
def tAnd(t u:TT):TT:=fun σ H Q=>t σ H fun c H1=>if c=true then u σ H1 Q else Q false H1
def tOr(t u:TT):TT:=fun σ H Q=>t σ H fun c H1=>if c=true then Q true H1 else u σ H1 Q
def tNot(t:TT):TT:=fun σ H Q=>t σ H fun c H1=>Q (!c) H1
theorem qb8g(ha:PT X a tA):PW X (.BoolOp .And [a] pos) tA:=by
 intro wh pins s σ H Q I h
 refine isTrue_and (thn (ha pins s σ H Q I h) fun c s1 e=>?_)
 cases c with
 | true=>exact isTrue_and_nil e
 | false=>exact e
theorem pw_or1(ha:PT X a tA):PW X (.BoolOp .Or [a] pos) tA:=by
 intro wh pins s σ H Q I h
 refine isTrue_or (thn (ha pins s σ H Q I h) fun c s1 e=>?_)
 cases c with
 | false=>exact isTrue_or_nil e
 | true=>exact e
theorem pw_and(ha:PT X a tA)(hb:PW X (.BoolOp .And (b :: rest) pos) tB'):PW X (.BoolOp .And (a :: b :: rest) pos) (tAnd tA tB'):=by
 intro wh pins s σ H Q I h
 refine isTrue_and (thn (ha pins s σ H _ I h) fun c s1 hq9=>?_)
 obtain⟨H1,I1,q1⟩:=hq9
 cases c with
 | true=>exact hb wh pins s1 σ H1 Q I1 q1
 | false=>exact⟨H1,I1,q1⟩
theorem pw_or(ha:PT X a tA)(hb:PW X (.BoolOp .Or (b :: rest) pos) tB'):PW X (.BoolOp .Or (a :: b :: rest) pos) (tOr tA tB'):=by
 intro wh pins s σ H Q I h
 refine isTrue_or (thn (ha pins s σ H _ I h) fun c s1 hq9=>?_)
 obtain⟨H1,I1,q1⟩:=hq9
 cases c with
 | true=>exact⟨H1,I1,q1⟩
 | false=>exact hb wh pins s1 σ H1 Q I1 q1
theorem pt_not(ha:PT X a tA):PT X (.UnaryOp .Not a pos) (tNot tA):=by
 intro pins s σ H Q I h
 exact isTrue_not (ha pins s σ H (fun c H1=>Q (!c) H1) I h)
def tAndV(ta tb:TE):TE:=fun σ H Q=>ta σ H fun x H1=>∃ c,x=.bl c/\if c=true then tb σ H1 Q else Q (.bl false) H1
def tNotV(ta:TE):TE:=fun σ H Q=>ta σ H fun x H1=>∃ c,x=.bl c/\Q (.bl (!c)) H1
theorem pe_one{op}{t:TE}(h:PE X a t):PE X (.BoolOp op [a] pos) t:=fun pins s σ H Q I hw=>BoolOp_one (h pins s σ H Q I hw)
theorem pe_and(ha:PE X a ta)(hb:PE X (.BoolOp .And (b :: rest) pos) tb):PE X (.BoolOp .And (a :: b :: rest) pos) (tAndV ta tb):=by
 intro pins s σ H Q I h
 refine BoolOp_and (thn (ha pins s σ H _ I h) fun v s1 hq9=>?_)
 obtain⟨x,H1,I1,r1,q1⟩:=hq9
 obtain⟨c,rfl,q1⟩:=q1
 cases r1
 refine wpAny_truthy_bool ?_
 cases c with
 | true=>exact hb pins s1 σ H1 Q I1 q1
 | false=>exact⟨.bl false,H1,I1,rfl,q1⟩
theorem pe_not(ha:PE X a ta):PE X (.UnaryOp .Not a pos) (tNotV ta):=by
 intro pins s σ H Q I h
 refine UnaryOp_ (thn (ha pins s σ H _ I h) fun v s1 hq9=>?_)
 obtain⟨x,H1,I1,r1,q1⟩:=hq9
 obtain⟨c,rfl,q1⟩:=q1
 cases r1
 exact not_of (wpAny_truthy_bool ⟨.bl (!c),H1,I1,rfl,q1⟩)
def tIf(t:TT)(ta tb:TE):TE:=fun σ H Q=>t σ H fun c H1=>if c=true then ta σ H1 Q else tb σ H1 Q
theorem qc3b{c:Expr}(hc:PT X c tA)(ha:PE X a ta)(hb:PE X b tb):PE X (.IfExp c a b pos) (tIf tA ta tb):=by
 intro pins s σ H Q I h
 refine wpAny_IfExp (thn (hc pins s σ H _ I h) fun d s1 hq9=>?_)
 obtain⟨H1,I1,q1⟩:=hq9
 cases d with
 | true=>exact ha pins s1 σ H1 Q I1 q1
 | false=>exact hb pins s1 σ H1 Q I1 q1
end
end L2
namespace L2
open PySem PySem.Spec PyProof.Rows
def SqL(K:PySem.W.Frag)(H:Hp)(a:Addr)(xs:List V):Prop:=
 Rd H a (.lst xs) ∨
  ∃ (o:Obj) (its:Array Value) (n:Nat),K.lookup a=some o/\o.cls=.type "list" /\ o.dict=none/\o.data=.seq its n/\its.size <= sizeLine/\Vals xs its.toList
def SqT(K:PySem.W.Frag)(H:Hp)(a:Addr)(xs:List V):Prop:=
 Rd H a (.tup xs) ∨
  ∃ (o:Obj) (its:Array Value) (n:Nat),K.lookup a=some o/\(o.cls=.type "tuple" /\ o.dict=none)/\o.data=.seq its n/\its.size <= sizeLine/\Vals xs its.toList
noncomputable def absV:Value->Option V
 | .none=>some .non
 | .bool b=>some (.bl b)
 | .int i _=>some (.int i)
 | .str x _=>some (.str x)
 | .bytes b _=>some (.byt b)
 | .float b _=>some (.flt b)
 | .ref a=>some (.ref a)
 | .type n=>some (.ty n)
 | _=>none
theorem RelV.abs{x:V}{u:Value}(r:RelV x u):absV u=some x:=by
 cases x with
 | non=>cases r;rfl
 | bl _=>cases r;rfl
 | int _=>obtain⟨t,rfl⟩:=r;rfl
 | str _=>obtain⟨t,rfl⟩:=r;rfl
 | byt _=>obtain⟨t,rfl⟩:=r;rfl
 | flt _=>obtain⟨t,rfl⟩:=r;rfl
 | ref _=>cases r;rfl
 | ty _=>cases r;rfl
theorem RelV.inj{x y:V}{u:Value}(r:RelV x u)(q:RelV y u):x=y:=Option.some.inj (r.abs.symm.trans q.abs)
theorem Vals.inj:∀ {xs ys:List V} {us:List Value},Vals xs us->Vals ys us->xs=ys
 | _,_,_,.nil,.nil=>rfl
 | _,_,_,.cons r t,.cons r' t'=>by rw [r.inj r',Vals.inj t t']
section
variable{X:Cx}{pins:List (Addr × Obj)}{σ:St}{H:Hp}{s:Shared}{a:Addr}{xs ys:List V}
theorem SqL.of{K:PySem.W.Frag}(h:H a=some (.lst xs)):SqL K H a xs:=.inl (.inl h)
theorem SqT.of{K:PySem.W.Frag}(h:H a=some (.tup xs)):SqT K H a xs:=.inl (.inl h)
theorem Inv.list(I:Inv X pins σ H s)(h:SqL X.K H a xs):∃ its:List Value,Vals xs its/\PlainL s.heap a its.toArray/\xs.length <= sizeLine:=by
 rcases h with h | ⟨o,its,n,hk,hc,hd,hs,hz,r⟩
 ·obtain⟨z,its,n,r,e⟩:=h.ok I.hok
  exact⟨its,r,⟨_,n,e,rfl,rfl,rfl⟩,z⟩
 ·refine⟨its.toList,r,⟨o,n,I.kIn a o hk,hc,hd,by simpa using hs⟩,?_⟩
  have e:=r.length
  simp only [Array.length_toList] at e
  omega
theorem Inv.tupleP(I:Inv X pins σ H s)(h:SqT X.K H a xs):∃ its:List Value,Vals xs its/\qa4z s.heap a its.toArray/\xs.length <= sizeLine:=by
 rcases h with h | ⟨o,its,n,hk,hc,hs,hz,r⟩
 ·obtain⟨z,its,r,p⟩:=h.ok I.hok
  exact⟨its,r,p,z⟩
 ·refine⟨its.toList,r,⟨o,I.kIn a o hk,hc,n,by simpa using hs⟩,?_⟩
  have e:=r.length
  simp only [Array.length_toList] at e
  omega
theorem Inv.tuple(I:Inv X pins σ H s)(h:SqT X.K H a xs):∃ its:List Value,Vals xs its/\IsTup s.heap a its.toArray/\xs.length <= sizeLine:=by obtain⟨its,r,p,z⟩:=I.tupleP h;exact⟨its,r,p.tup,z⟩
theorem Inv.list_inj(I:Inv X pins σ H s)(h:SqL X.K H a xs)(h':SqL X.K H a ys):xs=ys:=by
 obtain⟨its,r,⟨o,n,e,_,_,d⟩,_⟩:=I.list h
 obtain⟨its',r',⟨o',n',e',_,_,d'⟩,_⟩:=I.list h'
 rw [e] at e';cases e'
 rw [d] at d'
 injection d' with d1 _
 have:its=its':=by simpa using congrArg Array.toList d1
 subst this
 exact r.inj r'
theorem Inv.tuple_inj(I:Inv X pins σ H s)(h:SqT X.K H a xs)(h':SqT X.K H a ys):xs=ys:=by
 obtain⟨its,r,⟨o,e,_,n,d⟩,_⟩:=I.tuple h
 obtain⟨its',r',⟨o',e',_,n',d'⟩,_⟩:=I.tuple h'
 rw [e] at e';cases e'
 rw [d] at d'
 injection d' with d1 _
 have:its=its':=by simpa using congrArg Array.toList d1
 subst this
 exact r.inj r'
end
abbrev Cx.wish(X:Cx)(E:Value->Shared->Prop):Cx:={ X with xe:=E }
abbrev Cx.nox(X:Cx):Cx:=X.wish fun _ _=>False
theorem Cx.Ok.wish{X:Cx}(ok:X.Ok)(E:Value->Shared->Prop):(X.wish E).Ok:=
 ⟨ok.mod,ok.kind,ok.glob,ok.blt,ok.above,ok.inj,ok.has,ok.cab,ok.hd,ok.frames,ok.stk,ok.exf,ok.bs,ok.bsz,ok.noex,ok.exfs,ok.funs,ok.frf⟩
theorem Cx.Ok.unwish{X:Cx}{E:Value->Shared->Prop}(ok:(X.wish E).Ok):X.Ok:=
 ⟨ok.mod,ok.kind,ok.glob,ok.blt,ok.above,ok.inj,ok.has,ok.cab,ok.hd,ok.frames,ok.stk,ok.exf,ok.bs,ok.bsz,ok.noex,ok.exfs,ok.funs,ok.frf⟩
section
variable{X:Cx}{pins:List (Addr × Obj)}{σ:St}{H:Hp}{s:Shared}{E:Value->Shared->Prop}
theorem Inv.wish(I:Inv X pins σ H s)(E:Value->Shared->Prop):Inv (X.wish E) pins σ H s:=⟨I.ok.wish E,I.os,I.bare,I.base,I.loc,I.cell,I.free,I.freeC,I.pin,I.hok,I.len⟩
theorem Inv.unwish(I:Inv (X.wish E) pins σ H s):Inv X pins σ H s:=⟨I.ok.unwish,I.os,I.bare,I.base,I.loc,I.cell,I.free,I.freeC,I.pin,I.hok,I.len⟩
theorem SP.unwish{D:Ends}{f:Flow}{s':Shared}(h:SP (X.wish E) pins D f s'):SP X pins D f s':=by
 cases f with
 | next=>obtain⟨σ',H',I,q⟩:=h;exact⟨σ',H',I.unwish,q⟩
 | brk=>obtain⟨σ',H',I,q⟩:=h;exact⟨σ',H',I.unwish,q⟩
 | cont=>obtain⟨σ',H',I,q⟩:=h;exact⟨σ',H',I.unwish,q⟩
 | ret u=>obtain⟨v,σ',H',I,r,q⟩:=h;exact⟨v,σ',H',I.unwish,r,q⟩
theorem PSs.nox{st:List Stmt}{t:TS}(h:PSs X.nox st t):PSs X st t:=fun pins s σ H D I hw =>
 wpAny_mono (h pins s σ H D (I.wish _) hw) (fun _ _ q=>q.unwish) fun _ _ z=>False.elim z
end
section
variable{X:Cx}{st:Stmt}{rest:List Stmt}{t u:TS}{e:Expr}{te:TE}{pos:Pos}
def tNext:TS:=fun D σ H=>D.nx σ H
def tSeq(t u:TS):TS:=fun D σ H=>t { D with nx:=u D } σ H
theorem qa5l:PSs X [] tNext:=fun _ _ σ H _ I h=>wpAny_execs_nil ⟨σ,H,I,h⟩
theorem qa1i(h1:PS X st t)(h2:PSs X rest u):PSs X (st :: rest) (tSeq t u):=by
 intro pins s σ H D I h
 refine wpAny_execs_cons (thn (h1 pins s σ H { D with nx:=u D } I h) fun f s1 q=>?_)
 cases f with
 | next =>
  obtain⟨σ',H',I',q⟩:=q
  exact h2 pins s1 σ' H' D I' q
 | ret v=>exact q
 | brk=>exact q
 | cont=>exact q
theorem qa2d(h1:PS X st t):PSs X [st] t:=by
 intro pins s σ H D I h
 refine wpAny_execs_cons (thn (h1 pins s σ H D I h) fun f s1 q=>?_)
 cases f with
 | next=>exact wpAny_execs_nil q
 | ret v=>exact q
 | brk=>exact q
 | cont=>exact q
theorem Inv.quiet{pins:List (Addr × Obj)}{σ:St}{H:Hp}{s:Shared}(I:Inv X pins σ H s):interactive X.env=false:=by simp [interactive,I.ok.kind]
def tDrop(te:TE):TS:=fun D σ H=>te σ H fun _ H1=>D.nx σ H1
theorem qb1s(he:PE X e te)(hs:swapsWith e none pos.line X.env=pure false:=by rfl):PS X (.Expr e pos) (tDrop te):=by
 intro pins s σ H D I h
 exact wpAny_Expr_any (thn (he pins s σ H _ I h) fun v s1 hq8=>by obtain⟨x,H1,I1,r1,q1⟩:=hq8;exact⟨σ,H1,I1,q1⟩) I.quiet hs
def tRet(te:TE):TS:=fun D σ H=>te σ H D.rt
theorem qa5a(he:PE X e te):PS X (.Return (some e) pos) (tRet te):=by
 intro pins s σ H D I h
 exact wpAny_Return_some (thn (he pins s σ H _ I h) fun v s1 hq8=>by obtain⟨x,H1,I1,r1,q1⟩:=hq8;exact⟨x,σ,H1,I1,r1,q1⟩)
def tIfS(c:TT)(t u:TS):TS:=fun D σ H=>c σ H fun b H1=>if b=true then t D σ H1 else u D σ H1
theorem qa8t{c:Expr}{a b:List Stmt}{tc:TT}(hc:PT X c tc)(ha:PSs X a t)(hb:PSs X b u):PS X (.If c a b pos) (tIfS tc t u):=by
 intro pins s σ H D I h
 refine wpAny_If (thn (hc pins s σ H _ I h) fun d s1 hq9=>?_)
 obtain⟨H1,I1,q1⟩:=hq9
 cases d with
 | true=>exact ha pins s1 σ H1 D I1 q1
 | false=>exact hb pins s1 σ H1 D I1 q1
end
abbrev TG:=V->St->Hp->(St->Hp->Prop)->Prop
abbrev TGs:=List V->St->Hp->(St->Hp->Prop)->Prop
def PG(X:Cx)(target:Expr)(t:TG):Prop:=
 ∀ (pins:List (Addr × Obj)) (s:Shared) (σ:St) (H:Hp) (v:V) (u:Value) (Q:St->Hp->Prop),Inv X pins σ H s->RelV v u->t v σ H Q ->
  wpAny (model X.prog X.w) X.A (assign target X.env u) (fun _ s'=>∃ σ' H',Inv X pins σ' H' s'/\Q σ' H') X.xe s
def PGs(X:Cx)(ts:List Expr)(t:TGs):Prop:=
 ∀ (pins:List (Addr × Obj)) (s:Shared) (σ:St) (H:Hp) (vs:List V) (us:List Value) (Q:St->Hp->Prop),Inv X pins σ H s->Vals vs us->t vs σ H Q ->
  wpAny (model X.prog X.w) X.A (assignInOrder ((assignEach ts X.env).map (·.2)) us) (fun _ s'=>∃ σ' H',Inv X pins σ' H' s'/\Q σ' H') X.xe s
abbrev TSet:=V->V->V->Hp->(Hp->Prop)->Prop
def PSet(X:Cx)(t:TSet):Prop:=
 ∀ (pins:List (Addr × Obj)) (s:Shared) (σ:St) (H:Hp) (o i v:V) (ov iv u:Value) (Q:Hp->Prop),Inv X pins σ H s->RelV o ov->RelV i iv->RelV v u->t o i v H Q ->
  wpAny (model X.prog X.w) X.A (setItem ov iv u) (fun _ s'=>∃ H',Inv X pins σ H' s'/\Q H') X.xe s
section
variable{X:Cx}{pos:Pos}
noncomputable def qa3l(i:Nat):TG:=fun v σ H Q=>Q (σ.set i (some v)) H
theorem qa6i{i:Nat}{x:Str}(hN:X.N.Nodup)(hi:X.N[i]? = some x)(hx:Loc X.env.scope x)(hf:X.fn x=true ∨ X.env.scope.names.lookup x=some .local:=by first | exact .inl rfl | exact .inr rfl | assumption):PG X (.Name x pos) (qa3l i):=by
 intro pins s σ H v u Q I r h
 exact wpAny_assign_Name (qb5o I hN hi hx r (fun s' I'=>⟨_,H,I',h⟩) hf)
noncomputable def gNil:TGs:=fun vs σ H Q=>vs=[]/\Q σ H
noncomputable def gCons(t:TG)(u:TGs):TGs:=fun vs σ H Q=>∃ v r,vs=v :: r/\t v σ H fun σ' H'=>u r σ' H' Q
theorem qb3r:PGs X [] gNil:=by
 intro pins s σ H vs us Q I r h
 obtain⟨e,h⟩:=h
 subst e
 cases r
 exact assignInOrder_nil ⟨σ,H,I,h⟩
theorem qa8d{e:Expr}{es:List Expr}{t:TG}{u:TGs}(h1:PG X e t)(h2:PGs X es u)
  (hs:(assignEach (e :: es) X.env).map (·.2)=assign e X.env :: (assignEach es X.env).map (·.2):=by rfl):PGs X (e :: es) (gCons t u):=by
 intro pins s σ H vs us Q I r h
 obtain⟨v,vr,e1,h⟩:=h
 subst e1
 cases r with
 | cons r rr =>
  rw [hs]
  refine assignInOrder_cons (thn (h1 pins s σ H _ _ _ I r h) fun _ s1 hq9=>?_)
  obtain⟨σ1,H1,I1,q1⟩:=hq9
  exact h2 pins s1 σ1 H1 _ _ Q I1 rr q1
noncomputable def gTup(K:PySem.W.Frag)(n:Nat)(t:TGs):TG:=fun v σ H Q=>∃ a xs,v=.ref a/\SqT K H a xs/\xs.length=n/\t xs σ H Q
theorem qb5p{es:List Expr}{k:Nat}{t:TGs}{n:Nat}(hc:X.calm=true)(h:PGs X es t)
  (hn:(assignEach es X.env).length=n:=by rfl) (hst:(assignEach es X.env).findIdx? (·.1)=none:=by rfl):PG X (.Tuple es k pos) (gTup X.K n t):=by
 intro pins s σ H v u Q I r hw
 obtain⟨a,xs,e1,hq,hl,hw⟩:=hw
 subst e1
 cases r
 obtain⟨its,rv,ht,hz⟩:=I.tuple hq
 refine assign_Tuple_tuple (I.ok.hd hc) ht (by simp [hn,← hl,rv.length]) hst fun h' hx=>?_
 have I1:Inv X pins σ H { s with heap:=h' }:=I.kept (t':=s.toks) fun b o e=>hx b o (Nat.ne_of_lt (Heap.lt_size e)) e
 exact h pins _ σ H xs _ Q I1 (by simpa using rv) hw
def gSub(to ti:TE)(t:TSet):TG:=fun v σ H Q=>to σ H fun o H1=>ti σ H1 fun i H2=>t o i v H2 fun H3=>Q σ H3
theorem pg_sub{o i:Expr}{to ti:TE}{t:TSet}(ho:PE X o to)(hi:PE X i ti)(hs:PSet X t)
  (ha:∀ v,assign (.Subscript o i pos) X.env v=(do
   let ov ← holding [v] (eval o X.env)
   let iv ← holding [v,ov] (eval i X.env)
   standAt pos
   holding [v,ov,iv] (setItem ov iv v)
   release [v,ov,iv] []):=by intro _;rfl):PG X (.Subscript o i pos) (gSub to ti t):=by
 intro pins s σ H v u Q I r h
 rw [ha]
 refine wpAny_bind (wpAny_holding (thn (ho pins s σ H _ I h) fun ov s1 hq9=>?_))
 obtain⟨x,H1,I1,r1,q1⟩:=hq9
 refine wpAny_bind (wpAny_holding (thn (hi pins s1 σ H1 _ I1 q1) fun iv s2 hq9=>?_))
 obtain⟨y,H2,I2,r2,q2⟩:=hq9
 refine wpAny_bind (wpAny_standAt (wpAny_bind (wpAny_holding (thn (hs pins s2 σ H2 x y v ov iv u _ I2 r1 r2 r q2) fun _ s3 hq9=>?_))))
 obtain⟨H3,I3,q3⟩:=hq9
 exact wpAny_release ⟨σ,H3,I3,q3⟩
def tAsg(te:TE)(g:TG):TS:=fun D σ H=>te σ H fun x H1=>g x σ H1 D.nx
theorem ps_asg{tg e:Expr}{te:TE}{g:TG}(he:PE X e te)(hg:PG X tg g)(hs:swapsWithSole [tg] e pos.line X.env=pure false:=by rfl)(hw:swappedStores [tg] e X.env=pure none:=by rfl)
  (h1:(assignEach [tg] X.env).map (·.2)=[assign tg X.env]:=by rfl):PS X (.Assign [tg] e pos) (tAsg te g):=by
 intro pins s σ H D I h
 refine wpAny_Assign_stores (thn (he pins s σ H _ I h) fun v s1 hq8=>?_) hs hw
 obtain⟨x,H1,I1,r1,q1⟩:=hq8
 rw [h1]
 exact thn (hg pins s1 σ H1 x v _ I1 r1 q1) fun _ s2 q=>q
theorem qa2v{i:Nat}{x:Str}{e:Expr}{te:TE}{pos':Pos}(hN:X.N.Nodup)(hi:X.N[i]? = some x)(hx:Loc X.env.scope x)(he:PE X e te)(hs:swapsWith e (some (.Name x pos')) pos.line X.env=pure false:=by rfl)(hf:X.fn x=true ∨ X.env.scope.names.lookup x=some .local:=by first | exact .inl rfl | exact .inr rfl | assumption) :
  PS X (.Assign [.Name x pos'] e pos) (tAsg te (qa3l i)):=by
 intro pins s σ H D I h
 refine wpAny_Assign_Name (thn (he pins s σ H _ I h) fun v s1 hq8=>?_) hs
 obtain⟨y,H1,I1,r1,q1⟩:=hq8
 exact qb5o I1 hN hi hx r1 (fun s2 I2=>⟨_,H1,I2,q1⟩) hf
end
section
variable{X:Cx}{pos:Pos}
def tWhile(c:TT)(tb:TS):TS:=fun D σ H=>∃ W:Nat->St->Hp->Prop,(∃ m,W m σ H)/\∀ m σ H,W m σ H ->
 c σ H fun b H1=>if b=true then ∃ N:St->Hp->Prop,(∀ σ' H',N σ' H'->∃ m',m' < m/\W m' σ' H')/\tb { D with nx:=N,ct:=N,bk:=D.nx } σ H1 else D.nx σ H1
theorem qc3c{c:Expr}{body:List Stmt}{tc:TT}{tb:TS}(hp:PassesOwn (model X.prog X.w) X.A X.env X.xe)(hc:PT X c tc)(hb:PSs X body tb):PS X (.While c body [] pos) (tWhile tc tb):=by
 intro pins s σ H D I h
 obtain⟨W,⟨m0,w0⟩,turn⟩:=h
 refine wpAny_While (codeAny_whileLoop (fun n s'=>∃ σ' H',Inv X pins σ' H' s'/\W n σ' H') ?_ m0 ⟨σ,H,I,w0⟩)
 rintro n s1 ⟨σ1,H1,I1,w1⟩
 refine wpAny_passesOwn hp (thn (hc pins s1 σ1 H1 _ I1 (turn n σ1 H1 w1)) fun b s2 hq9=>?_)
 obtain⟨H2,I2,q2⟩:=hq9
 cases b with
 | true =>
  obtain⟨N,hN,q2⟩:=q2
  rw [if_pos rfl]
  refine wpAny_passesOwn hp (thn (hb pins s2 σ1 H2 _ I2 q2) fun f s3 q3=>?_)
  cases f with
  | next =>
   obtain⟨σ3,H3,I3,n3⟩:=q3
   obtain⟨m',hm,w3⟩:=hN σ3 H3 n3
   exact⟨m',hm,σ3,H3,I3,w3⟩
  | cont =>
   obtain⟨σ3,H3,I3,n3⟩:=q3
   obtain⟨m',hm,w3⟩:=hN σ3 H3 n3
   exact⟨m',hm,σ3,H3,I3,w3⟩
  | brk=>exact q3
  | ret v=>exact q3
 | false =>
  rw [if_neg Bool.false_ne_true]
  exact wpAny_execs_nil ⟨σ1,H2,I2,q2⟩
end
structure It where
 go:Nat->Hp->Prop
 yld:Nat->Hp->V->Hp->Prop
 stop:Nat->Hp->Prop
def FpOk(X:Cx)(pins:List (Addr × Obj))(H:Hp)(b:Addr):Prop:=
 H b=none/\b ≠ X.env.locals/\b ∉ X.fs/\(b ∈ X.ex ∨ X.s₀.heap.objs.size <= b)/\(∀ x c,X.env.cells.lookup x=some c->c ≠ b)/\∀ p ∈ X.pn ++ pins,p.1 ≠ b
theorem Inv.fpOk{X:Cx}{pins:List (Addr × Obj)}{σ:St}{H H':Hp}{s:Shared}{b:Addr}(I:Inv X pins σ H s)(hb:s.heap.objs.size <= b)(hn:H' b=none):FpOk X pins H' b:=by
 refine⟨hn,Nat.ne_of_gt (Nat.lt_of_lt_of_le I.lt hb),I.nofs hb,.inr (Nat.le_trans I.sz hb),fun x c e z=>?_,fun p hp z=>?_⟩
 ·obtain⟨v,q⟩:=I.cell x c e
  exact absurd (Nat.lt_of_lt_of_le q.lt (by rw [z];exact hb)) (Nat.lt_irrefl _)
 ·exact absurd (Nat.lt_of_lt_of_le (Heap.lt_size (I.pin p hp).1) (by rw [z];exact hb)) (Nat.lt_irrefl _)
structure Turn(P:Program)(w:World)(K:PySem.W.Frag)(tg:Expr)(J:It)(fp:List Addr)(it:Addr)(tn:Nat->Heap->Prop):Prop where
 mem:it ∈ fp
 obj:∀ i h,tn i h->∀ b ∈ fp,∃ o,h.get? b=some o/\∀ v,o.data ≠ .cell v
 keep:∀ i h h',tn i h->(∀ b ∈ fp,∀ o,h.get? b=some o->h'.get? b=some o)->tn i h'
 item:∀ (X:Cx),X.prog=P->X.w=w->X.K=K->X.calm=true->∀ (i:Nat) (pins:List (Addr × Obj)) (s:Shared) (σ:St) (H:Hp) (E:Value->Shared->Prop),Inv X pins σ H s->(∀ b ∈ fp,FpOk X pins H b)->tn i s.heap->J.go i H ->
  wpAny (model P w) X.A (pyNext (.ref it)) (fun r s1=>∃ u,r=some u /\
   wpAny (model P w) X.A (letOwnedTupleGo tg (.ref it) u) (fun _ s2=>∃ x H',Inv X pins σ H' s2/\RelV x u/\J.yld i H x H'/\tn (i + 1) s2.heap/\∀ b ∈ fp,H' b=none) E s1) E s
 done:∀ (X:Cx),X.prog=P->X.w=w->X.K=K->X.calm=true->∀ (i:Nat) (pins:List (Addr × Obj)) (s:Shared) (σ:St) (H:Hp) (E:Value->Shared->Prop),Inv X pins σ H s->(∀ b ∈ fp,FpOk X pins H b)->tn i s.heap->J.stop i H ->
  wpAny (model P w) X.A (pyNext (.ref it)) (fun r s1=>r=none/\Inv X pins σ H s1) E s
 self:∀ (A:Around) (i:Nat) (s:Shared) (Q:Value->Shared->Prop) (E:Value->Shared->Prop),tn i s.heap->Q (.ref it) s->wpAny (model P w) A (pyIter (.ref it)) Q E s
abbrev TI:=St->Hp->(It->Hp->Prop)->Prop
def PIE(X:Cx)(pins:List (Addr × Obj))(σ:St)(tg:Expr)(R:It->Hp->Prop)(itv:Value)(s2:Shared):Prop:=
 ∃ (it:Addr) (fp:List Addr) (tn:Nat->Heap->Prop) (J:It) (H':Hp),itv=.ref it/\Inv X pins σ H' s2/\Turn X.prog X.w X.K tg J fp it tn/\tn 0 s2.heap/\(∀ b ∈ fp,FpOk X pins H' b)/\R J H'
def PI(X:Cx)(tg iter:Expr)(wi:TI):Prop:=
 ∀ (pins:List (Addr × Obj)) (s:Shared) (σ:St) (H:Hp) (R:It->Hp->Prop),Inv X pins σ H s->wi σ H R ->
  wpAny (model X.prog X.w) X.A (eval iter X.env) (fun v s1=>wpAny (model X.prog X.w) X.A (pyIter v) (PIE X pins σ tg R) X.xe s1) X.xe s
theorem go_of{M:Model}{A:Around}{E:Value->Shared->Prop}{s:Shared}{tg:Expr}{it:Addr}{u:Value}{o:Obj}{n:String}{vs:Array Value}{Q:Unit->Shared->Prop}(ho:s.heap.get? it=some o)(hc:o.cls=.type n)(hd:o.data=.fields vs)
  (hn:["enumerate","zip","dict_itemiterator","dict_reverseitemiterator","odict_iterator","itertools.zip_longest","itertools.pairwise"].contains n=false) (hQ:Q () s):wpAny M A (letOwnedTupleGo tg (.ref it) u) Q E s:=by
 unfold letOwnedTupleGo
 cases tg<;>first
  | exact wpAny_pure hQ
  | (cases u<;>first
    | exact wpAny_pure hQ
    | (
      refine wpAny_bind (wpAny_load ho ?_)
      rw [hc,hd]
      show wpAny M A (if (["enumerate","zip","dict_itemiterator","dict_reverseitemiterator","odict_iterator","itertools.zip_longest","itertools.pairwise"].contains n && vs[0]? == some (rawInt _))=true then _ else _) Q E s
      rw [if_neg (by intro h;rw [hn,Bool.false_and] at h;cases h)]
      exact wpAny_pure hQ))
noncomputable def Itl(K:PySem.W.Frag)(a:Addr):It:=
 ⟨fun i H=>∃ xs x,SqL K H a xs/\xs[i]? = some x,fun i H x H'=>H'=H/\∀ xs,SqL K H a xs->xs[i]? = some x,fun i H=>∃ xs,SqL K H a xs/\xs.length <= i⟩
noncomputable def Itt(K:PySem.W.Frag)(a:Addr):It:=
 ⟨fun i H=>∃ xs x,SqT K H a xs/\xs[i]? = some x,fun i H x H'=>H'=H/\∀ xs,SqT K H a xs->xs[i]? = some x,fun i H=>∃ xs,SqT K H a xs/\xs.length <= i⟩
noncomputable def Itr(lo:Int)(n:Nat):It:=⟨fun i _=>i < n,fun i H x H'=>H'=H/\x=.int (lo + i),fun i _=>n <= i⟩
theorem qc1h{P:Program}{w:World}{K:PySem.W.Frag}{tg:Expr}(a it:Addr):Turn P w K tg (Itl K a) [it] it (fun i h=>h.IsListIter it a i) where
 mem:=by simp
 obj:=fun i h st b hb=>by
  have e:b=it:=by simpa using hb
  subst e
  obtain⟨o,e,c,d⟩:=st
  exact⟨o,e,fun v z=>by rw [d] at z;cases z⟩
 keep:=fun i h h' st k=>st.at fun o e=>k it (by simp) o e
 item:=by
  intro X hP hw hK hc i pins s σ H E I hf st hg
  subst hP hw hK
  obtain⟨xs,x,hq,hx⟩:=hg
  obtain⟨its,rv,p,hz⟩:=I.list hq
  obtain⟨u,hu,ru⟩:=rv.get hx
  obtain⟨f0,f1,f2,f3,f4,f5⟩:=hf it (by simp)
  refine wpAny_pyNext_list_item st p.isList (x:=u) (by simpa using hu) fun h' st' sb=>?_
  have I1:Inv X pins σ H { s with heap:=h' }:=I.turned (t':=s.toks) (fun b o hb e=>(sb.2 b hb).trans e) f0 f1 f3 f4 f5
  obtain⟨o,e,c,d⟩:=id st'
  exact⟨u,rfl,go_of (s:={ s with heap:=h' }) e c d (by decide) ⟨x,H,I1,ru,⟨rfl,fun ys hy=>by rw [I.list_inj hy hq];exact hx⟩,st',fun b hb=>(hf b hb).1⟩⟩
 done:=by
  intro X hP hw hK hc i pins s σ H E I hf st hg
  subst hP hw hK
  obtain⟨xs,hq,hx⟩:=hg
  obtain⟨its,rv,p,hz⟩:=I.list hq
  obtain⟨f0,f1,f2,f3,f4,f5⟩:=hf it (by simp)
  have hl:=rv.length
  exact wpAny_pyNext_list_end (I.ok.hd hc) st p.isList (by simp;omega) fun h' eb=>⟨rfl,I.turned (t':=s.toks) (fun b o hb e=>eb b o hb e) f0 f1 f3 f4 f5⟩
 self:=fun _ _ _ _ _ st h=>wpAny_pyIter_listiter st h
theorem qb9q{P:Program}{w:World}{K:PySem.W.Frag}{tg:Expr}(a it:Addr):Turn P w K tg (Itt K a) [it] it (fun i h=>h.IsTupleIter it a i) where
 mem:=by simp
 obj:=fun i h st b hb=>by
  have e:b=it:=by simpa using hb
  subst e
  obtain⟨o,e,c,d⟩:=st
  exact⟨o,e,fun v z=>by rw [d] at z;cases z⟩
 keep:=fun i h h' st k=>st.at fun o e=>k it (by simp) o e
 item:=by
  intro X hP hw hK hc i pins s σ H E I hf st hg
  subst hP hw hK
  obtain⟨xs,x,hq,hx⟩:=hg
  obtain⟨its,rv,p,hz⟩:=I.tuple hq
  obtain⟨u,hu,ru⟩:=rv.get hx
  obtain⟨f0,f1,f2,f3,f4,f5⟩:=hf it (by simp)
  refine wpAny_pyNext_tuple_item st (show s.heap.IsTuple a its.toArray from p) (x:=u) (by simpa using hu) fun h' st' sb=>?_
  have I1:Inv X pins σ H { s with heap:=h' }:=I.turned (t':=s.toks) (fun b o hb e=>(sb.2 b hb).trans e) f0 f1 f3 f4 f5
  obtain⟨o,e,c,d⟩:=id st'
  exact⟨u,rfl,go_of (s:={ s with heap:=h' }) e c d (by decide) ⟨x,H,I1,ru,⟨rfl,fun ys hy=>by rw [I.tuple_inj hy hq];exact hx⟩,st',fun b hb=>(hf b hb).1⟩⟩
 done:=by
  intro X hP hw hK hc i pins s σ H E I hf st hg
  subst hP hw hK
  obtain⟨xs,hq,hx⟩:=hg
  obtain⟨its,rv,p,hz⟩:=I.tuple hq
  obtain⟨f0,f1,f2,f3,f4,f5⟩:=hf it (by simp)
  have hl:=rv.length
  exact wpAny_pyNext_tuple_end (I.ok.hd hc) st (show s.heap.IsTuple a its.toArray from p) (by simp;omega) fun h' eb=>⟨rfl,I.turned (t':=s.toks) (fun b o hb e=>eb b o hb e) f0 f1 f3 f4 f5⟩
 self:=fun _ _ _ _ _ st h=>wpAny_pyIter_tupleiter st h
theorem qb9r{P:Program}{w:World}{K:PySem.W.Frag}{tg:Expr}(it:Addr)(lo:Int)(n:Nat):Turn P w K tg (Itr lo n) [it] it (fun i h=>IsRangeIter h it (lo + (i:Nat) * 1) ((n:Int) - (i:Nat)) 1) where
 mem:=by simp
 obj:=fun i h st b hb=>by
  have e:b=it:=by simpa using hb
  subst e
  exact⟨_,st,fun v z=>by
   have z':Data.fields _=Data.cell v:=z
   cases z'⟩
 keep:=fun i h h' st k=>k it (by simp) _ st
 item:=by
  intro X hP hw hK hc i pins s σ H E I hf st hg
  subst hP hw hK
  obtain⟨f0,f1,f2,f3,f4,f5⟩:=hf it (by simp)
  have W:=Walks.range (prog:=X.prog) (w:=X.w) (I.ok.hd hc) it lo 1 n
  refine W.item i s _ _ hg st fun v h' tk hv st' kk=>?_
  obtain⟨t,rfl⟩:=hv
  have I1:Inv X pins σ H { s with heap:=h',toks:=tk }:=I.turned (fun b o hb e=>kk b o (by simpa using hb) e) f0 f1 f3 f4 f5
  refine⟨_,rfl,go_of (s:={ s with heap:=h',toks:=tk }) (n:="range_iterator") st' rfl rfl (by decide) ⟨.int (lo + i),H,I1,⟨t,?_⟩,⟨rfl,rfl⟩,st',fun b hb=>(hf b hb).1⟩⟩
  rw [Int.mul_one]
 done:=by
  intro X hP hw hK hc i pins s σ H E I hf st hg
  subst hP hw hK
  obtain⟨f0,f1,f2,f3,f4,f5⟩:=hf it (by simp)
  exact wpAny_pyNext_range_end (I.ok.hd hc) st (by have:n <= i:=hg;omega) fun h' eb=>⟨rfl,I.turned (t':=s.toks) (fun b o hb e=>eb b o hb e) f0 f1 f3 f4 f5⟩
 self:=fun _ _ _ _ _ st h=>wpAny_pyIter_rangeiter st h
end L2
namespace L2
open PySem PySem.Spec PyProof.Rows
section
variable{X:Cx}{tg:Expr}
theorem qb5q{pins:List (Addr × Obj)}{σ:St}{H:Hp}{s:Shared}{R:It->Hp->Prop}{E:Value->Shared->Prop}{lo hi:Int}{t u v:Tok}{tk:Nat}(I:Inv X pins σ H s)(h1:-(2 ^ 62) <= lo)(h2:lo < 2 ^ 62)(h3:-(2 ^ 62) <= hi)(h4:hi < 2 ^ 62)
  (q:R (Itr lo (hi - lo).toNat) H):wpAny (model X.prog X.w) X.A (pyIter (.ref s.heap.objs.size)) (PIE X pins σ tg R) E { s with heap:=s.heap.push { cls:=.type "range",data:=.fields #[.int lo t,.int hi u,.int 1 v] },toks:=tk }:=by
 refine wpAny_pyIter_range (IsRange.new ..) (small_one h1 h2 h3 h4) ?_
 have I1:Inv X pins σ H { s with heap:=s.heap.push { cls:=.type "range",data:=.fields #[.int lo t,.int hi u,.int 1 v] },toks:=tk }:=I.kept fun b o e=>Heap.get?_push_of_some _ e
 refine⟨(s.heap.push { cls:=.type "range",data:=.fields #[.int lo t,.int hi u,.int 1 v] }).objs.size,[(s.heap.push { cls:=.type "range",data:=.fields #[.int lo t,.int hi u,.int 1 v] }).objs.size],_,_,H,rfl,
  I1.kept (t':=tk) fun b o e=>Heap.get?_push_of_some _ e,qb9r _ lo (hi - lo).toNat,?_,fun b hb=>?_,q⟩
 ·have e1:lo + ((0:Nat):Int) * 1=lo:=by simp
  have e2:(((hi - lo).toNat:Nat):Int) - ((0:Nat):Int)=Builtin.Range.rangeSize lo hi 1:=by rw [rangeSize_one];split<;>omega
  show IsRangeIter _ _ (lo + ((0:Nat):Int) * 1) ((((hi - lo).toNat:Nat):Int) - ((0:Nat):Int)) 1
  rw [e1,e2]
  exact Heap.get?_push_size _ rfl
 ·have e:b=(s.heap.push { cls:=.type "range",data:=.fields #[.int lo t,.int hi u,.int 1 v] }).objs.size:=by simpa using hb
  subst e
  exact I1.fpOk (Nat.le_refl _) (I1.hok.fresh (Nat.le_refl _))
def iRng1(ta:TA):TI:=fun σ H R=>ta σ H fun vs H1=>∃ j:Int,vs=[.int j] /\ -(2 ^ 62) <= j/\j < 2 ^ 62/\R (Itr 0 j.toNat) H1
def iRng2(ta:TA):TI:=fun σ H R=>ta σ H fun vs H1=>∃ i j:Int,vs=[.int i,.int j]/\(-(2 ^ 62) <= i/\i < 2 ^ 62 /\ -(2 ^ 62) <= j/\j < 2 ^ 62)/\R (Itr i (j - i).toNat) H1
theorem qc1i{a:Expr}{ta:TA}{p pos:Pos} (hg:Gl X "range") (hm:X.mg "range" = none) (ha:PA X [a] ta) (hs:starEach [a] X.env=[(false,eval a X.env)]:=by rfl):PI X tg (.Call (.Name "range" p) [a] [] pos) (iRng1 ta):=by
 intro pins s σ H R I h
 refine Call_ (qa6y I hg hm boot_range (PyProof.Rows.callWith_type1 (thn (ha pos pins s σ H _ I h) fun us s1 hq8=>?_) hs rfl))
 obtain⟨vs,H1,I1,r1,q1⟩:=hq8
 obtain⟨j,e,q1,q2,q⟩:=q1
 subst e
 cases r1 with
 | cons r rr =>
  cases rr
  obtain⟨t,rfl⟩:=r
  exact call_range_1 (qb5q I1 (by omega) (by omega) q1 q2 (by simpa using q))
theorem qc1j{a b:Expr}{ta:TA}{p pos:Pos} (hg:Gl X "range") (hm:X.mg "range" = none) (ha:PA X [a,b] ta) (hs:starEach [a,b] X.env=[(false,eval a X.env),(false,eval b X.env)]:=by rfl) (hs2:starEach [b] X.env=[(false,eval b X.env)]:=by rfl) :
  PI X tg (.Call (.Name "range" p) [a,b] [] pos) (iRng2 ta):=by
 intro pins s σ H R I h
 refine Call_ (qa6y I hg hm boot_range (PyProof.Rows.callWith_type1 (thn (ha pos pins s σ H _ I h) fun us s1 hq8=>?_) (by rw [hs,hs2]) (by rw [hs2];rfl)))
 obtain⟨vs,H1,I1,r1,q1⟩:=hq8
 obtain⟨i,j,e,⟨q1,q2,q3,q4⟩,q⟩:=q1
 subst e
 cases r1 with
 | cons r rr =>
  cases rr with
  | cons r' rr =>
   cases rr
   obtain⟨t,rfl⟩:=r
   obtain⟨t',rfl⟩:=r'
   exact call_range_2 (qb5q I1 q1 q2 q3 q4 q)
def tFor(wi:TI)(g:TG)(tb:TS):TS:=fun D σ H=>wi σ H fun J H1=>∃ W:Nat->Nat->St->Hp->Prop,(∃ m,W 0 m σ H1)/\∀ i m σ H,W i m σ H ->
 (J.stop i H/\D.nx σ H) ∨ (J.go i H/\∃ N:St->Hp->Prop,(∀ σ' H',N σ' H'->∃ m',m' < m/\W (i + 1) m' σ' H')/\∀ x H',J.yld i H x H'->g x σ H' fun σ2 H2=>tb { D with nx:=N,ct:=N,bk:=D.nx } σ2 H2)
noncomputable def qb1e(fp:List Addr)(h:Heap):List (Addr × Obj):=fp.filterMap fun b=>(h.get? b).map fun o=>(b,o)
theorem qa7o{fp:List Addr}{h:Heap}{b:Addr}{o:Obj}(hb:b ∈ fp)(e:h.get? b=some o):(b,o) ∈ qb1e fp h:=List.mem_filterMap.mpr ⟨b,hb,by rw [e];rfl⟩
theorem qc1k{fp:List Addr}{h:Heap}{p:Addr × Obj}(hp:p ∈ qb1e fp h):p.1 ∈ fp/\h.get? p.1=some p.2:=by
 obtain⟨b,hb,e⟩:=List.mem_filterMap.mp hp
 cases q:h.get? b with
 | none=>rw [q] at e;cases e
 | some o =>
  rw [q] at e
  have e':(b,o)=p:=Option.some.inj e
  subst e'
  exact⟨hb,q⟩
theorem Inv.pinned{pins:List (Addr × Obj)}{σ:St}{H:Hp}{s:Shared}{fp:List Addr}(I:Inv X pins σ H s)(hf:∀ b ∈ fp,FpOk X pins H b)(ho:∀ b ∈ fp,∃ o,s.heap.get? b=some o/\∀ v,o.data ≠ .cell v):Inv X (pins ++ qb1e fp s.heap) σ H s:=
 I.pins_of fun p hp=>(List.mem_append.mp hp).elim (fun z=>I.pin p (List.mem_append_right _ z)) fun z=>by
  obtain⟨hb,e⟩:=qc1k z
  obtain⟨f0,f1,f2,_⟩:=hf p.1 hb
  obtain⟨o,e',d⟩:=ho p.1 hb
  rw [e] at e';cases e'
  exact⟨e,f0,f1,f2,d⟩
theorem Inv.unpinned{pins pl:List (Addr × Obj)}{σ:St}{H:Hp}{s:Shared}(I:Inv X (pins ++ pl) σ H s):Inv X pins σ H s:=I.pins_of fun p hp=>I.pin p (List.mem_append_right _ (List.mem_append_left _ hp))
theorem ps_for{iter:Expr}{body:List Stmt}{wi:TI}{g:TG}{tb:TS}{pos:Pos}(hp:PassesOwn (model X.prog X.w) X.A X.env X.xe)(hc:X.calm=true)(hi:PI X tg iter wi)(hg:PG X tg g)(hb:PSs X body tb)
  (hs:∀ x,foldedSetIterable iter X.env x=pure x:=by intro _;rfl):PS X (.For tg iter body [] pos) (tFor wi g tb):=by
 intro pins s σ H D I h
 refine wpAny_For (thn (hi pins s σ H _ I h) fun v s1 h1=>thn h1 fun itv s2 h2=>?_) hs
 obtain⟨it,fp,tn,J,H2,e,I2,T,st2,f2,W,⟨m0,w0⟩,turn⟩:=h2
 subst e
 -- what stays true of the iterator's objects through the loop
 have stat:∀ {H':Hp},(∀ b ∈ fp,H' b=none)->∀ b ∈ fp,FpOk X pins H' b:=fun hn b hb=>⟨hn b hb,(f2 b hb).2⟩
 refine codeAny_forLoop_any (fun n s'=>∃ i σ' H',Inv X pins σ' H' s'/\tn i s'.heap/\(∀ b ∈ fp,H' b=none)/\W i n σ' H') ?_ m0 ⟨0,σ,H2,I2,st2,fun b hb=>(f2 b hb).1,w0⟩
 rintro n s3 ⟨i,σ3,H3,I3,st3,fr3,w3⟩
 rcases turn i n σ3 H3 w3 with⟨stop,qn⟩ | ⟨go,N,hN,step⟩
 ·refine wpAny_passesOwn hp (thn (T.done X rfl rfl rfl hc i pins s3 σ3 H3 X.xe I3 (stat fr3) st3 stop) fun r s4 hq9=>?_)
  obtain⟨hr,I4⟩:=hq9
  subst hr
  exact wpAny_execs_nil ⟨σ3,H3,I4,qn⟩
 ·refine wpAny_passesOwn hp (thn (T.item X rfl rfl rfl hc i pins s3 σ3 H3 X.xe I3 (stat fr3) st3 go) fun r s4 hq9=>?_)
  obtain⟨u,hr,h4⟩:=hq9
  subst hr
  refine wpAny_passesOwn hp (thn h4 fun _ s5 hq9=>?_)
  obtain⟨x,H5,I5,r5,y5,st5,fr5⟩:=hq9
  have I5':=I5.pinned (stat fr5) (T.obj _ _ st5)
  refine wpAny_passesOwn hp (thn (hg _ s5 σ3 H5 x u _ I5' r5 (step x H5 y5)) fun _ s6 hq9=>?_)
  obtain⟨σ6,H6,I6,q6⟩:=hq9
  refine wpAny_passesOwn hp (thn (hb _ s6 σ6 H6 _ I6 q6) fun f s7 q7=>?_)
  have again:∀ {σ7:St} {H7:Hp},Inv X (pins ++ qb1e fp s5.heap) σ7 H7 s7->N σ7 H7->∃ m,m < n/\∃ i σ' H',Inv X pins σ' H' s7/\tn i s7.heap/\(∀ b ∈ fp,H' b=none)/\W i m σ' H':=fun{σ7 H7} I7 n7=>by
   obtain⟨m',hm,w7⟩:=hN σ7 H7 n7
   refine⟨m',hm,i + 1,σ7,H7,I7.unpinned,T.keep _ _ _ st5 fun b hb o e=>(I7.pin (b,o) (List.mem_append_right _ (List.mem_append_right _ (qa7o hb e)))).1,fun b hb=>?_,w7⟩
   obtain⟨o,e,d⟩:=T.obj _ _ st5 b hb
   exact(I7.pin (b,o) (List.mem_append_right _ (List.mem_append_right _ (qa7o hb e)))).2.1
  cases f with
  | next=>obtain⟨σ7,H7,I7,n7⟩:=q7;exact again I7 n7
  | cont=>obtain⟨σ7,H7,I7,n7⟩:=q7;exact again I7 n7
  | brk=>obtain⟨σ7,H7,I7,q7⟩:=q7;exact⟨σ7,H7,I7.unpinned,q7⟩
  | ret v=>obtain⟨x7,σ7,H7,I7,r7,q7⟩:=q7;exact⟨x7,σ7,H7,I7.unpinned,r7,q7⟩
end
theorem qc1l{lo:Int}{n:Nat}{g:TG}{tb:TS}{D:Ends}{σ:St}{H:Hp}(Pv:Nat->St->Hp->Prop)(h0:Pv 0 σ H)
  (hs:∀ i σ H,i < n->Pv i σ H->g (.int (lo + i)) σ H fun σ2 H2=>tb { D with nx:=Pv (i + 1),ct:=Pv (i + 1),bk:=D.nx } σ2 H2) (hd:∀ σ H,Pv n σ H->D.nx σ H) :
  ∃ W:Nat->Nat->St->Hp->Prop,(∃ m,W 0 m σ H)/\∀ i m σ H,W i m σ H ->
   ((Itr lo n).stop i H/\D.nx σ H) ∨ ((Itr lo n).go i H/\∃ N:St->Hp->Prop,(∀ σ' H',N σ' H'->∃ m',m' < m/\W (i + 1) m' σ' H')/\∀ x H',(Itr lo n).yld i H x H'->g x σ H' fun σ2 H2=>tb { D with nx:=N,ct:=N,bk:=D.nx } σ2 H2):=by
 refine⟨fun i m σ H=>m=n - i/\i <= n/\Pv i σ H,⟨n,by simp,Nat.zero_le _,h0⟩,?_⟩
 rintro i m σ H ⟨rfl,hi,p⟩
 by_cases hlt:i < n
 ·refine .inr ⟨hlt,Pv (i + 1),fun σ' H' p'=>⟨n - (i + 1),by omega,rfl,hlt,p'⟩,fun x H' y=>?_⟩
  obtain⟨e,y⟩:=y
  subst e y
  exact hs i σ _ hlt p
 ·have e:i=n:=by omega
  subst e
  exact .inl ⟨Nat.le_refl _,hd σ H p⟩
end L2
namespace L2
open PySem PySem.Spec PyProof.Rows
abbrev R2:=V->V->Hp->VK->Prop
def OpR(X:Cx)(f:Value->Value->Sem Value)(r:R2):Prop:=
 ∀ (pins:List (Addr × Obj)) (s:Shared) (σ:St) (H:Hp) (x y:V) (v u:Value) (Q:VK),Inv X pins σ H s->RelV x v->RelV y u->r x y H Q ->
  wpAny (model X.prog X.w) X.A (f v u) (EP X pins σ Q) X.xe s
def UnR(X:Cx)(f:Value->Sem Value)(r:V->Hp->VK->Prop):Prop:=
 ∀ (pins:List (Addr × Obj)) (s:Shared) (σ:St) (H:Hp) (x:V) (v:Value) (Q:VK),Inv X pins σ H s->RelV x v->r x H Q ->
  wpAny (model X.prog X.w) X.A (f v) (EP X pins σ Q) X.xe s
def qa3h(X:Cx)(f:Value)(r:List V->Hp->VK->Prop):Prop:=
 ∀ (pins:List (Addr × Obj)) (s:Shared) (σ:St) (H:Hp) (xs:List V) (us:List Value) (Q:VK),Inv X pins σ H s->Vals xs us->r xs H Q ->
  wpAny (model X.prog X.w) X.A (call f us) (EP X pins σ Q) X.xe s
def TruR(X:Cx)(r:V->Hp->(Bool->Hp->Prop)->Prop):Prop:=
 ∀ (pins:List (Addr × Obj)) (s:Shared) (σ:St) (H:Hp) (x:V) (v:Value) (Q:Bool->Hp->Prop),Inv X pins σ H s->RelV x v->r x H Q ->
  wpAny (model X.prog X.w) X.A (truthy v) (TP X pins σ Q) X.xe s
def tOp(r:R2)(ta tb:TE):TE:=fun σ H Q=>ta σ H fun x H1=>tb σ H1 fun y H2=>r x y H2 Q
def tUn(r:V->Hp->VK->Prop)(ta:TE):TE:=fun σ H Q=>ta σ H fun x H1=>r x H1 Q
def rI(C:Int->Int->Prop)(g:Int->Int->V):R2:=fun x y H Q=>∃ i j,x=.int i/\y=.int j/\C i j/\Q (g i j) H
def rI0(g:Int->Int->V):R2:=fun x y H Q=>∃ i j,x=.int i/\y=.int j/\Q (g i j) H
noncomputable def rU(g:Int->V):V->Hp->VK->Prop:=fun x H Q=>∃ i,x=.int i/\Q (g i) H
section
variable{X:Cx}{a b c:Expr}{ta tb tc:TE}{pos:Pos}
theorem binT(ha:PE X a ta)(hb:PE X b tb){pins:List (Addr × Obj)}{s:Shared}{σ:St}{H:Hp}{R:V->V->Hp->Prop}(I:Inv X pins σ H s)
  (h:ta σ H fun x H1=>tb σ H1 fun y H2=>R x y H2) {Q:Value->Shared->Prop} {f:Value->Value->Sem Value}
  (hf:∀ v u s2 x y H2,Inv X pins σ H2 s2->RelV x v->RelV y u->R x y H2->wpAny (model X.prog X.w) X.A (f v u) Q X.xe s2) :
  wpAny (model X.prog X.w) X.A (eval a X.env) (fun v s₁=>wpAny (model X.prog X.w) X.A (eval b X.env) (fun u s₂=>wpAny (model X.prog X.w) X.A (f v u) Q X.xe s₂) X.xe s₁) X.xe s:=by
 refine thn (ha pins s σ H _ I h) fun v s1 hq9=>?_
 obtain⟨x,H1,I1,r1,q1⟩:=hq9
 refine thn (hb pins s1 σ H1 _ I1 q1) fun u s2 hq9=>?_
 obtain⟨y,H2,I2,r2,q2⟩:=hq9
 exact hf v u s2 x y H2 I2 r1 r2 q2
theorem qa1z{op:Operator}{r:R2}(ho:OpR X (binaryOp op) r)(ha:PE X a ta)(hb:PE X b tb):PE X (.BinOp a op b pos) (tOp r ta tb):=by
 intro pins s σ H Q I h
 exact wpAny_BinOp (binT ha hb I h fun v u s2 x y H2 I2 rx ry q=>ho pins s2 σ H2 x y v u Q I2 rx ry q)
theorem pe_un{op:UnaryOp}{r:V->Hp->VK->Prop}(ho:UnR X (unaryOp op) r)(ha:PE X a ta):PE X (.UnaryOp op a pos) (tUn r ta):=by
 intro pins s σ H Q I h
 exact UnaryOp_ (thn (ha pins s σ H _ I h) fun v s1 hq8=>by obtain⟨x,H1,I1,r1,q1⟩:=hq8;exact ho pins s1 σ H1 x v Q I1 r1 q1)
theorem opI{f:Value->Value->Sem Value}{C:Int->Int->Prop}{g:Int->Int->Int}
  (rule:∀ (i j:Int) (t u:Tok) (s:Shared) (Q:Value->Shared->Prop) (E:Value->Shared->Prop),C i j->Q (.int (g i j) s.toks) { s with toks:=s.toks + 1 }->wpAny (model X.prog X.w) X.A (f (.int i t) (.int j u)) Q E s) :
  OpR X f (rI C fun i j=>.int (g i j)):=by
 intro pins s σ H x y v u Q I rx ry h
 obtain⟨i,j,rfl,rfl,hc,q⟩:=h
 obtain⟨t,rfl⟩:=rx
 obtain⟨t',rfl⟩:=ry
 exact rule i j t t' s _ _ hc ⟨.int (g i j),H,I.tok _,⟨_,rfl⟩,q⟩
theorem opI0{f:Value->Value->Sem Value}{g:Int->Int->Int}
  (rule:∀ (i j:Int) (t u:Tok) (s:Shared) (Q:Value->Shared->Prop) (E:Value->Shared->Prop),Q (.int (g i j) s.toks) { s with toks:=s.toks + 1 }->wpAny (model X.prog X.w) X.A (f (.int i t) (.int j u)) Q E s) :
  OpR X f (rI0 fun i j=>.int (g i j)):=by
 intro pins s σ H x y v u Q I rx ry h
 obtain⟨i,j,rfl,rfl,q⟩:=h
 obtain⟨t,rfl⟩:=rx
 obtain⟨t',rfl⟩:=ry
 exact rule i j t t' s _ _ ⟨.int (g i j),H,I.tok _,⟨_,rfl⟩,q⟩
theorem opB0{f:Value->Value->Sem Value}{g:Int->Int->Bool}
  (rule:∀ (i j:Int) (t u:Tok) (s:Shared) (Q:Value->Shared->Prop) (E:Value->Shared->Prop),Q (.bool (g i j)) s->wpAny (model X.prog X.w) X.A (f (.int i t) (.int j u)) Q E s) :
  OpR X f (rI0 fun i j=>.bl (g i j)):=by
 intro pins s σ H x y v u Q I rx ry h
 obtain⟨i,j,rfl,rfl,q⟩:=h
 obtain⟨t,rfl⟩:=rx
 obtain⟨t',rfl⟩:=ry
 exact rule i j t t' s _ _ ⟨.bl (g i j),H,I,rfl,q⟩
def CDiv(i j:Int):Prop:=0 < j/\j < 1073741824
def CPow(i j:Int):Prop:=0 <= j/\j <= 1000000/\i.natAbs < 2 ^ 64
def CMul(i j:Int):Prop:=(-(2 ^ 64) < i/\i < 2 ^ 64) ∨ (-(2 ^ 64) < j/\j < 2 ^ 64)
theorem CMul.ok{i j:Int}(h:CMul i j):IntMulOk i j:=by
 rcases h with⟨h1,h2⟩ | ⟨h1,h2⟩
 ·exact .of_left (intBits_le_64 h1 h2)
 ·exact .of_right (intBits_le_64 h1 h2)
theorem qb9s(k:Nat):(0:Int) <= 2 ^ k:=by
 rw [two_pow_cast]
 exact Int.natCast_nonneg _
theorem qb2r:OpR X (binaryOp .Add) (rI0 fun i j=>.int (i + j)):=opI0 fun _ _ _ _ _ _ _ q=>add_int q
theorem qa4b:OpR X (binaryOp .Sub) (rI0 fun i j=>.int (i - j)):=opI0 fun _ _ _ _ _ _ _ q=>sub_int q
theorem qb1f:OpR X (binaryOp .Mult) (rI CMul fun i j=>.int (i * j)):=opI fun _ _ _ _ _ _ _ hc q=>mul_int q hc.ok
theorem op_fdiv:OpR X (binaryOp .FloorDiv) (rI CDiv fun i j=>.int (i / j)):=opI fun i j _ _ _ _ _ hc q=>by
 have h1:(0:Int) < j:=hc.1
 have h2:j < 1073741824:=hc.2
 exact floordiv_int (by omega) (by rw [Int.fdiv_eq_ediv_of_nonneg i (by omega)];exact q) (.inl (PyProof.noPylong_small (by omega)))
theorem qa8e:OpR X (binaryOp .Mod) (rI (fun _ j=>0 < j) fun i j=>.int (i % j)):=opI fun i j _ _ _ _ _ hc q=>by
 have h1:(0:Int) < j:=hc
 exact mod_int' (by omega) (by rw [Int.fmod_eq_emod_of_nonneg i (by omega)];exact q)
theorem op_pow:OpR X (binaryOp .Pow) (rI CPow fun i j=>.int (i ^ j.toNat)):=opI fun _ _ _ _ _ _ _ hc q=>pow_int_small hc.1 hc.2.1 hc.2.2 q
theorem op_shr:OpR X (binaryOp .RShift) (rI (fun _ j=>0 <= j) fun i j=>.int (i / 2 ^ j.toNat)):=opI fun i j _ _ _ _ _ hc q =>
 rshift_int hc (by rw [Int.fdiv_eq_ediv_of_nonneg i (qb9s _)];exact q)
theorem unI{f:Value->Sem Value}{g:Int->Int}
  (rule:∀ (i:Int) (t:Tok) (s:Shared) (Q:Value->Shared->Prop) (E:Value->Shared->Prop),Q (.int (g i) s.toks) { s with toks:=s.toks + 1 }->wpAny (model X.prog X.w) X.A (f (.int i t)) Q E s) :
  UnR X f (rU fun i=>.int (g i)):=by
 intro pins s σ H x v Q I rx h
 obtain⟨i,rfl,q⟩:=h
 obtain⟨t,rfl⟩:=rx
 exact rule i t s _ _ ⟨.int (g i),H,I.tok _,⟨_,rfl⟩,q⟩
theorem un_neg:UnR X (unaryOp .USub) (rU fun i=>.int (-i)):=unI fun _ _ _ _ _ q=>neg_int q
end
noncomputable def scal:V->V->Bool
 | .non,.non=>true | .non,.int _=>true | .int _,.non=>true | .non,.bl _=>true | .bl _,.non=>true | .non,.str _=>true | .str _,.non=>true
 | .int _,.int _=>true | .bl _,.bl _=>true | .str _,.str _=>true | .byt _,.byt _=>true
 | .int _,.str _=>true | .str _,.int _=>true | .bl _,.str _=>true | .str _,.bl _=>true
 | _,_=>false
def rEq:R2:=fun x y H Q=>scal x y=true/\Q (.bl (decide (x=y))) H
def rNe:R2:=fun x y H Q=>scal x y=true/\Q (.bl (!decide (x=y))) H
theorem qb8h{i j:Int}:decide (V.int i=V.int j)=(i == j):=by
 rw [Bool.eq_iff_iff]
 simp
theorem dec_bl{i j:Bool}:decide (V.bl i=V.bl j)=(i == j):=by
 rw [Bool.eq_iff_iff]
 simp
theorem qb8i{i j:Str}:decide (V.str i=V.str j)=(i == j):=by
 rw [Bool.eq_iff_iff]
 simp
theorem qb8j{i j:Array UInt8}:decide (V.byt i=V.byt j)=(i.toList == j.toList):=by
 rw [Bool.eq_iff_iff]
 cases i
 cases j
 simp
section
variable{X:Cx}{a b c:Expr}{ta tb tc:TE}{pos:Pos}
theorem qa0u{pins:List (Addr × Obj)}{σ:St}{H:Hp}{s:Shared}{Q:VK}{k k':Bool}(I:Inv X pins σ H s)(q:Q (.bl k) H)(e:k=k'):EP X pins σ Q (.bool k') s:=by
 subst e
 exact⟨.bl k,H,I,rfl,q⟩
theorem qa5r:OpR X (compareOp .Eq) rEq:=by
 intro pins s σ H x y v u Q I rx ry h
 obtain⟨hs,q⟩:=h
 cases x with
 | non =>
  cases rx
  cases y with
  | non=>cases ry;exact PySem.EqNone.eq_none_none (qa0u I q (by simp))
  | bl j=>cases ry;exact PySem.EqNone.eq_none_bool (qa0u I q (by simp))
  | int j=>obtain⟨t',rfl⟩:=ry;exact PySem.EqNone.eq_none_int (qa0u I q (by simp))
  | str j=>obtain⟨t',rfl⟩:=ry;exact PySem.EqNone.eq_none_str (qa0u I q (by simp))
  | _=>exact absurd (show false=true from hs) Bool.false_ne_true
 | bl i =>
  cases rx
  cases y with
  | non=>cases ry;exact PySem.EqNone.eq_bool_none (qa0u I q (by simp))
  | bl j=>cases ry;exact eq_bool (qa0u I q dec_bl)
  | str j=>obtain⟨t',rfl⟩:=ry;exact PySem.EqMixed.eq_bool_str (qa0u I q (by simp))
  | _=>exact absurd (show false=true from hs) Bool.false_ne_true
 | int i =>
  obtain⟨t,rfl⟩:=rx
  cases y with
  | non=>cases ry;exact PySem.EqNone.eq_int_none (qa0u I q (by simp))
  | int j=>obtain⟨t',rfl⟩:=ry;exact eq_int (qa0u I q qb8h)
  | str j=>obtain⟨t',rfl⟩:=ry;exact PySem.EqMixed.eq_int_str (qa0u I q (by simp))
  | _=>exact absurd (show false=true from hs) Bool.false_ne_true
 | str i =>
  obtain⟨t,rfl⟩:=rx
  cases y with
  | non=>cases ry;exact PySem.EqNone.eq_str_none (qa0u I q (by simp))
  | bl j=>cases ry;exact PySem.EqMixed.eq_str_bool (qa0u I q (by simp))
  | int j=>obtain⟨t',rfl⟩:=ry;exact PySem.EqMixed.eq_str_int (qa0u I q (by simp))
  | str j=>obtain⟨t',rfl⟩:=ry;exact eq_str (qa0u I q qb8i)
  | _=>exact absurd (show false=true from hs) Bool.false_ne_true
 | byt i =>
  obtain⟨t,rfl⟩:=rx
  cases y with
  | byt j=>obtain⟨t',rfl⟩:=ry;exact PySem.W.eq_bytes (qa0u I q qb8j)
  | _=>exact absurd (show false=true from hs) Bool.false_ne_true
 | _=>cases y<;>exact absurd (show false=true from hs) Bool.false_ne_true
theorem op_ne:OpR X (compareOp .NotEq) rNe:=by
 intro pins s σ H x y v u Q I rx ry h
 obtain⟨hs,q⟩:=h
 cases x with
 | non =>
  cases rx
  cases y with
  | non=>cases ry;exact PySem.EqNone.ne_none_none (qa0u I q (by simp))
  | bl j=>cases ry;exact PySem.EqNone.ne_none_bool (qa0u I q (by simp))
  | int j=>obtain⟨t',rfl⟩:=ry;exact PySem.EqNone.ne_none_int (qa0u I q (by simp))
  | str j=>obtain⟨t',rfl⟩:=ry;exact PySem.EqNone.ne_none_str (qa0u I q (by simp))
  | _=>exact absurd (show false=true from hs) Bool.false_ne_true
 | bl i =>
  cases rx
  cases y with
  | non=>cases ry;exact PySem.EqNone.ne_bool_none (qa0u I q (by simp))
  | bl j=>cases ry;exact ne_bool (qa0u I q (congrArg not dec_bl))
  | str j=>obtain⟨t',rfl⟩:=ry;exact PySem.EqMixed.ne_bool_str (qa0u I q (by simp))
  | _=>exact absurd (show false=true from hs) Bool.false_ne_true
 | int i =>
  obtain⟨t,rfl⟩:=rx
  cases y with
  | non=>cases ry;exact PySem.EqNone.ne_int_none (qa0u I q (by simp))
  | int j=>obtain⟨t',rfl⟩:=ry;exact ne_int (qa0u I q (congrArg not qb8h))
  | str j=>obtain⟨t',rfl⟩:=ry;exact PySem.EqMixed.ne_int_str (qa0u I q (by simp))
  | _=>exact absurd (show false=true from hs) Bool.false_ne_true
 | str i =>
  obtain⟨t,rfl⟩:=rx
  cases y with
  | non=>cases ry;exact PySem.EqNone.ne_str_none (qa0u I q (by simp))
  | bl j=>cases ry;exact PySem.EqMixed.ne_str_bool (qa0u I q (by simp))
  | int j=>obtain⟨t',rfl⟩:=ry;exact PySem.EqMixed.ne_str_int (qa0u I q (by simp))
  | str j=>obtain⟨t',rfl⟩:=ry;exact ne_str (qa0u I q (congrArg not qb8i))
  | _=>exact absurd (show false=true from hs) Bool.false_ne_true
 | byt i =>
  obtain⟨t,rfl⟩:=rx
  cases y with
  | byt j=>obtain⟨t',rfl⟩:=ry;exact PySem.W.ne_bytes (qa0u I q (congrArg not qb8j))
  | _=>exact absurd (show false=true from hs) Bool.false_ne_true
 | _=>cases y<;>exact absurd (show false=true from hs) Bool.false_ne_true
theorem qa8u:OpR X (compareOp .Lt) (rI0 fun i j=>.bl (decide (i < j))):=opB0 fun _ _ _ _ _ _ _ q=>lt_int q
theorem op_gt:OpR X (compareOp .Gt) (rI0 fun i j=>.bl (decide (j < i))):=opB0 fun _ _ _ _ _ _ _ q=>gt_int q
theorem op_ge:OpR X (compareOp .GtE) (rI0 fun i j=>.bl (decide (j <= i))):=opB0 fun _ _ _ _ _ _ _ q=>ge_int q
theorem qc1m:OpR X (compareOp .In) (fun x y H Q=>∃ i j,x=.str i/\y=.str j/\Q (.bl (!(Builtin.Str.occurrences j i 0 j.length 1).isEmpty)) H):=by
 intro pins s σ H x y v u Q I rx ry h
 obtain⟨i,j,rfl,rfl,q⟩:=h
 obtain⟨t,rfl⟩:=rx
 obtain⟨t',rfl⟩:=ry
 exact in_str (qa0u I q rfl)
theorem qa6z:OpR X (compareOp .Is) (fun x y H Q=>y=.non/\Q (.bl (decide (x=.non))) H):=by
 intro pins s σ H x y v u Q I rx ry h
 obtain⟨rfl,q⟩:=h
 cases ry
 refine is_none_gen (qa0u I q ?_)
 cases x<;>first
  | (cases rx;rfl)
  | (obtain⟨t,rfl⟩:=rx;rfl)
theorem OpR.or{f:Value->Value->Sem Value}{r r':R2}(h:OpR X f r)(h':OpR X f r'):OpR X f (fun x y H Q=>r x y H Q ∨ r' x y H Q):=by
 intro pins s σ H x y v u Q I rx ry q
 rcases q with q | q
 ·exact h pins s σ H x y v u Q I rx ry q
 ·exact h' pins s σ H x y v u Q I rx ry q
theorem qa0j(b:Expr){op:CmpOp}(h:op ≠ .In:=by decide)(h2:op ≠ .NotIn:=by decide):behindInMarks op b=false:=by
 have e1:(op == CmpOp.In)=false:=by cases op<;>first | rfl | exact absurd rfl h
 have e2:(op == CmpOp.NotIn)=false:=by cases op<;>first | rfl | exact absurd rfl h2
 cases b<;>simp [behindInMarks,e1,e2]
theorem qa9l{op:CmpOp}{r:R2}(ho:OpR X (compareOp op) r)(ha:PE X a ta)(hb:PE X b tb)(hm:behindInMarks op b=false):PE X (.Compare a [op] [b] pos) (tOp r ta tb):=by
 intro pins s σ H Q I h
 exact wpAny_Compare1 (binT ha hb I h fun v u s2 x y H2 I2 rx ry q=>ho pins s2 σ H2 x y v u Q I2 rx ry q) hm
def tTest(t:TE):TT:=fun σ H Q=>t σ H fun x H'=>∃ k,x=.bl k/\Q k H'
theorem qa3v{op:CmpOp}{r:R2}(ho:OpR X (compareOp op) r)(ha:PE X a ta)(hb:PE X b tb)(hm:behindInMarks op b=false):PT X (.Compare a [op] [b] pos) (tTest (tOp r ta tb)):=by
 intro pins s σ H Q I h
 refine wpAny_isTrue_Compare1 (thn (ha pins s σ H _ I h) fun v s1 ⟨x,H1,I1,r1,q1⟩=>thn (hb pins s1 σ H1 _ I1 q1) fun u s2 ⟨y,H2,I2,r2,q2⟩ =>
  thn (ho pins s2 σ H2 x y v u _ I2 r1 r2 q2) fun c s3 ⟨z,H3,I3,r3,k,e,q3⟩=>?_) hm
 subst e
 cases r3
 exact wpAny_truthy_bool ⟨H3,I3,q3⟩
def TruV(K:PySem.W.Frag)(x:V)(H:Hp)(k:Bool):Prop:=
 match x with
 | .non=>k=false
 | .bl b=>k=b
 | .int i=>k=(i != 0)
 | .str y=>y.length <= sizeLine/\k=((y.length:Int) != 0)
 | .byt y=>y.size <= sizeLine/\k=((y.size:Int) != 0)
 | .ref p=>(∃ xs,SqL K H p xs/\k = !xs.isEmpty) ∨ (∃ xs,SqT K H p xs/\k = !xs.isEmpty) ∨ ∃ kvs,H p=some (.dK kvs)/\k = !kvs.isEmpty
 | _=>False
theorem qb9t{κ:Type}{kvs:List (κ × V)}{vs:List (κ × Value)}(r:KV kvs vs):(!vs.isEmpty) = !kvs.isEmpty:=by
 cases r<;>rfl
theorem qb2s{xs:List V}{its:List Value}(r:Vals xs its):(!its.toArray.isEmpty) = !xs.isEmpty:=by
 cases r<;>simp
theorem qa5s:(sizeLine:Nat) < 2 ^ 63:=by rw [sizeLine_eq];decide
theorem tru_ok:TruR X (fun x H Q=>∃ k,TruV X.K x H k/\Q k H):=by
 intro pins s σ H x v Q I rx h
 obtain⟨k,e,q⟩:=h
 have hl:=qa5s
 have hs:sizeLine=16777216:=sizeLine_eq
 cases x with
 | non =>
  cases rx
  have e':k=false:=e
  subst e'
  exact truthy_none ⟨H,I,q⟩
 | bl b =>
  cases rx
  have e':k=b:=e
  subst e'
  exact wpAny_truthy_bool ⟨H,I,q⟩
 | int i =>
  obtain⟨t,rfl⟩:=rx
  have e':k=(i != 0):=e
  subst e'
  exact PySem.P.truthy_int ⟨H,I,q⟩
 | str y =>
  obtain⟨t,rfl⟩:=rx
  obtain⟨hy,e'⟩:y.length <= sizeLine/\k=((y.length:Int) != 0):=e
  subst e'
  exact PySem.P.truthy_str (by omega) ⟨H,I.tok _,q⟩
 | byt y =>
  obtain⟨t,rfl⟩:=rx
  obtain⟨hy,e'⟩:y.size <= sizeLine/\k=((y.size:Int) != 0):=e
  subst e'
  exact PySem.W.truthy_bytes (by omega) ⟨H,I.tok _,q⟩
 | ref p =>
  cases rx
  have e':(∃ xs,SqL X.K H p xs/\k = !xs.isEmpty) ∨ (∃ xs,SqT X.K H p xs/\k = !xs.isEmpty) ∨ ∃ kvs,H p=some (.dK kvs)/\k = !kvs.isEmpty:=e
  rcases e' with⟨xs,hx,e'⟩ | ⟨xs,hx,e'⟩ | ⟨kvs,hx,e'⟩
  ·subst e'
   obtain⟨its,r,pl,hz⟩:=I.list hx
   have hlen:=r.length
   exact wpAny_truthy_list pl.isList (by simp only [List.size_toArray];omega) ⟨H,I.tok _,by rw [qb2s r];exact q⟩
  ·subst e'
   obtain⟨its,r,pl,hz⟩:=I.tuple hx
   have hlen:=r.length
   exact truthy_tuple pl (by simp only [List.size_toArray];omega) ⟨H,I.tok _,by rw [qb2s r];exact q⟩
  ·subst e'
   obtain⟨hz,hS,vs,r,m⟩:kvs.length <= sizeLine/\(p == sysModules)=false/\∃ vs,KV kvs vs/\s.heap.DictOf (qa1t X.prog X.w) p vs:=I.hok p _ hx
   have hlen:kvs.length=vs.length:=Paired.length r
   exact wpAny_truthy_dict hS m (by omega) ⟨H,I.tok _,by rw [qb9t r];exact q⟩
 | _=>exact(show False from e).elim
theorem qc3d(ha:PE X a ta)(he:∀ whole,isTrue a X.env whole=(do let v ← whole;standAt a.pos;holding [v] (truthy v))) :
  PT X a (fun σ H Q=>ta σ H fun x H'=>∃ k,TruV X.K x H' k/\Q k H'):=by
 intro pins s σ H Q I h
 exact isTrue_plain (thn (ha pins s σ H _ I h) fun v s1 hq8=>by obtain⟨x,H1,I1,r1,q1⟩:=hq8;exact tru_ok pins s1 σ H1 x v Q I1 r1 q1) (he _)
theorem qb9u:OpR X (binaryOp .Add) (fun x y H Q=>∃ i j,x=.str i/\y=.str j/\i.length + j.length <= sizeLine/\Q (.str (i ++ j)) H):=by
 intro pins s σ H x y v u Q I rx ry h
 obtain⟨i,j,rfl,rfl,hz,q⟩:=h
 obtain⟨t,rfl⟩:=rx
 obtain⟨t',rfl⟩:=ry
 exact add_str (fun t' tk=>⟨.str (i ++ j),H,I.tok _,⟨_,rfl⟩,q⟩) hz
theorem vals1{x:V}{us:List Value}(r:Vals [x] us):∃ u,us=[u]/\RelV x u:=by
 cases r with
 | cons r1 r2=>cases r2;exact⟨_,rfl,r1⟩
end
end L2
namespace L2
open PySem PySem.Spec PyProof.Rows
structure ObjM(h:Heap)(x dx C:Addr)(mA:Str->Option Value):Prop where
 obj:h.get? x=some (PySem.W.instObj C dx)
 ns:h.Ns1 dx mA
 ne:dx ≠ x
theorem qc1n{h:Heap}{dx:Addr}{mA:Str->Option Value}(n:h.Ns1 dx mA):∃ od,h.get? dx=some od/\∀ name,PySem.W.lookIn name od=some (mA name):=by
 obtain⟨o,es,ep,ho,hd,hk,_,hm⟩:=n
 refine⟨o,ho,fun name=>?_⟩
 have e:=hm name
 unfold nsFind findBy at e
 rw [← Array.find?_toList] at e
 unfold PySem.W.lookIn
 rw [hd]
 dsimp only
 split
 ·rename_i y q
  rw [q] at e
  exact congrArg some e
 ·rename_i q
  rw [q] at e
  have a:es.toList.any (·.refKey)=false:=by
   rw [List.any_eq_false]
   intro y hy
   obtain⟨z,t,hkey⟩:=hk y (Array.mem_toList_iff.mp hy)
   simp [DictEntry.refKey,hkey]
  have a':¬ es.toList.any (·.refKey)=true:=by rw [a];exact Bool.false_ne_true
  rw [if_neg a']
  exact congrArg some e
theorem ObjM.look{h:Heap}{x dx C:Addr}{mA:Str->Option Value}(I:ObjM h x dx C mA):∃ od,PySem.W.InstAt h x (PySem.W.instObj C dx) C (some od)/\∀ name,PySem.W.lookIn name od=some (mA name):=
 let ⟨od,ho,hl⟩:=qc1n I.ns
 ⟨od,⟨I.obj,rfl,rfl,ho⟩,hl⟩
section
variable{prog:Program}{w:World}{A:Around}{E:Value->Shared->Prop}{s:Shared}{K:PySem.W.Frag}{x dx C f:Addr}{mA:Str->Option Value}{name:Str}{v:Value}
theorem get_map{expr:Bool}{Q:Value->Shared->Prop}(X:K.In s.heap)(I:ObjM s.heap x dx C mA)(hg:PySem.W.plainGet K C name=true)(hh:PySem.W.hasDictIn K C=true)
  (ha:PySem.W.findIn K (.ref C) name=some none) (hv:mA name=some v) (hv':PySem.W.handedIn v=true) (h:Q v { s with toks:=s.toks + 1 }) :
  wpAny (model prog w) A (getAttr (.ref x) name expr) Q E s:=by
 obtain⟨od,J,hl⟩:=I.look
 exact PySem.W.get_value X J (PySem.W.plainGet_of hg).1 (PySem.W.findObj_own hh ha rfl (by rw [hl,hv])) hv' h
theorem qc3e{pl:Sem Bool}{Q:Value × List Value->Shared->Prop}(X:K.In s.heap)(I:ObjM s.heap x dx C mA)(hg:PySem.W.plainGet K C name=true)
  (hf:PySem.W.findIn K (.ref C) name=some (some (.ref f))) (ht:PySem.W.isFn K (.ref f)=true) (hv:mA name=none) (h:Q (.ref f,[.ref x]) s) :
  wpAny (model prog w) A (getMethod (.ref x) name pl) Q E s:=by
 obtain⟨od,J,hl⟩:=I.look
 exact PySem.W.method_fn X J (PySem.W.plainGet_of hg).1 (PySem.W.plainGet_of hg).2 hf (beq_iff_eq.mp ht) (by show(PySem.W.lookIn name od).map (·.isSome)=some false;rw [hl,hv];rfl) h
theorem set_map{ns:List Str}{Q:Unit->Shared->Prop}(X:K.In s.heap)(I:ObjM s.heap x dx C mA)
  (hs:PySem.W.findIn K (.ref C) "__setattr__" = some (some (.builtin "object.__setattr__"))) (hp:PySem.W.plainOver K C=true) (ht:PySem.W.takerIn K C name=some none) (hh:PySem.W.hasDictIn K C=true)
  (hw:PySem.Within mA ns) (hsz:ns.length <= sizeLine)
  (h:∀ h',ObjM h' x dx C (fun y=>if y=name then some v else mA y)->Heap.SameBut dx s.heap h'->Q () { s with heap:=h',toks:=s.toks + 2 }) :
  wpAny (model prog w) A (setAttr (.ref x) name v) Q E s:=by
 obtain⟨od,J,hl⟩:=I.look
 refine PySem.W.set_plain X J hs (PySem.W.osa_open (s:={ s with toks:=s.toks + 1 }) (r:=none) X J hp ht fun b=>?_)
 obtain⟨cd,hc,hd'⟩:=PySem.W.any_some hh
 have hx:s.heap.get? x=some ⟨.ref C,some dx,.plain,#[]⟩:=I.obj
 refine wpAny_bind (wpAny_pure (wpAny_bind (wpAny_bind (wpAny_loadPart hx (wpAny_bind (PySem.W.Looks.here (s:={ s with toks:=s.toks + 1 }) (PySem.W.looks_clsIn X hc) ?_))))))
 rw [hd']
 refine wpAny_pure (a:=some dx) (wpAny_bind (wpAny_pure (wpAny_bind ?_)))
 refine wpAny_nsSet1 (s:={ s with toks:=s.toks + 1 }) I.ns fun h' hn2 hs2=>?_
 obtain⟨oD,esD,epD,hoD,hdD,hcD⟩:=hn2.count (PySem.Within.cons name v hw)
 refine wpAny_bind (wpAny_lookBehind hoD (by rw [hdD];exact pastItsLine_dict (Nat.le_trans hcD (by rw [List.length_cons];omega))) ?_)
 exact wpAny_pure (h _ ⟨(hs2.2 _ (Ne.symm I.ne)).trans I.obj,hn2,I.ne⟩ hs2)
theorem qc3f{R:Result->Shared->Prop}{vs:List Value}{kw:List (Str × Value)}(X:K.In s.heap)(hm:PySem.W.makesIn K C=true)
  (hi:PySem.W.findIn K (.ref C) "__init__" = some (some (.ref f))) (hf:PySem.W.typeIn K (.ref f)=some (.type "function"))
  (h:codeAny (model prog w) (A.under (.builtin "type.__call__" ⟨.ref C :: vs,kw⟩)) (.call (.ref f) ⟨.ref (s.heap.objs.size + 1) :: vs,kw⟩) (PySem.W.InitBack (s.heap.objs.size + 1) R)
   { s with heap:=(s.heap.push PySem.W.emptyDict).push (PySem.W.instObj C s.heap.objs.size) }) :
  codeAny (model prog w) A (.call (.ref C) ⟨vs,kw⟩) R s:=by
 obtain⟨hh,g,d,t,os⟩:=s
 exact PySem.W.make_core (PySem.W.makes_of X hm) (PySem.W.looks_findIn X hi) (fun self=>PySem.W.bind_fn X self hf) (.inl rfl) h
end
noncomputable def putF(f:Str)(v:V):List (Str × V)->List (Str × V)
 | []=>[(f,v)]
 | (g,x) :: r=>if g=f then(g,v) :: r else(g,x) :: putF f v r
theorem qa0n(f g:Str)(v:V):∀ fs:List (Str × V),(putF f v fs).lookup g=if g=f then some v else fs.lookup g
 | []=>by
  show List.lookup g [(f,v)]=_
  by_cases h:g=f
  ·have hb:(g == f)=true:=beq_iff_eq.mpr h
   simp only [List.lookup,hb,if_pos h]
  ·have hb:(g == f)=false:=beq_eq_false_iff_ne.mpr h
   simp only [List.lookup,hb,if_neg h]
 | (k,x) :: r=>by
  have ih:=qa0n f g v r
  rw [show putF f v ((k,x) :: r)=(if k=f then(k,v) :: r else(k,x) :: putF f v r) from rfl]
  by_cases hk:k=f
  ·rw [if_pos hk]
   by_cases h:g=k
   ·have hb:(g == k)=true:=beq_iff_eq.mpr h
    simp only [List.lookup,hb,if_pos (h.trans hk)]
   ·have hb:(g == k)=false:=beq_eq_false_iff_ne.mpr h
    simp only [List.lookup,hb,if_neg (fun e:g=f=>h (e.trans hk.symm))]
  ·rw [if_neg hk]
   by_cases h:g=k
   ·have hb:(g == k)=true:=beq_iff_eq.mpr h
    simp only [List.lookup,hb,if_neg (fun e:g=f=>hk (h.symm.trans e))]
   ·have hb:(g == k)=false:=beq_eq_false_iff_ne.mpr h
    simp only [List.lookup,hb]
    exact ih
theorem qb1g(f:Str)(v:V):∀ fs:List (Str × V),f ∈ (putF f v fs).map (·.1)/\∀ g,g ∈ fs.map (·.1)->g ∈ (putF f v fs).map (·.1)
 | []=>⟨by simp [putF],fun g h=>by simp at h⟩
 | (k,x) :: r=>by
  obtain⟨i1,i2⟩:=qb1g f v r
  rw [show putF f v ((k,x) :: r)=(if k=f then(k,v) :: r else(k,x) :: putF f v r) from rfl]
  by_cases hk:k=f
  ·rw [if_pos hk]
   subst hk
   exact⟨by simp,fun g h=>by simpa using h⟩
  ·rw [if_neg hk]
   refine⟨?_,fun g h=>?_⟩
   ·rw [List.map_cons]
    exact List.mem_cons_of_mem _ i1
   ·rw [List.map_cons] at h ⊢
    rcases List.mem_cons.mp h with e | e
    ·exact List.mem_cons.mpr (.inl e)
    ·exact List.mem_cons_of_mem _ (i2 g e)
theorem qb1y(f:Str)(v:V):∀ fs:List (Str × V),(putF f v fs).length <= fs.length + 1
 | []=>by simp [putF]
 | (k,x) :: r=>by
  have ih:=qb1y f v r
  rw [show putF f v ((k,x) :: r)=(if k=f then(k,v) :: r else(k,x) :: putF f v r) from rfl]
  by_cases hk:k=f
  ·rw [if_pos hk,List.length_cons,List.length_cons];omega
  ·rw [if_neg hk,List.length_cons,List.length_cons];omega
theorem RelO.some_of{v:V}{o:Option Value}(r:RelO (some v) o):∃ u,o=some u/\RelV v u:=by
 cases o with
 | none=>exact(show False from r).elim
 | some u=>exact⟨u,rfl,r⟩
theorem RelO.none_of{o:Option Value}(r:RelO none o):o=none:=by
 cases o with
 | none=>rfl
 | some u=>exact(show False from r).elim
theorem qc1o{v:V}{u:Value}(r:RelV v u):PySem.W.handedIn u=true:=by
 cases v with
 | non=>cases (show u=Value.none from r);rfl
 | bl b=>cases (show u=Value.bool b from r);rfl
 | int i=>obtain⟨t,e⟩:=(show ∃ t,u=Value.int i t from r);cases e;rfl
 | str x=>obtain⟨t,e⟩:=(show ∃ t,u=Value.str x t from r);cases e;rfl
 | byt b=>obtain⟨t,e⟩:=(show ∃ t,u=Value.bytes b t from r);cases e;rfl
 | flt b=>obtain⟨t,e⟩:=(show ∃ t,u=Value.float b t from r);cases e;rfl
 | ref a=>cases (show u=Value.ref a from r);rfl
 | ty n=>cases (show u=Value.type n from r);rfl
section
variable{P:Program}{w:World}{H H':Hp}{h h':Heap}{a C dx:Addr}{fs fs':List (Str × V)}
theorem qb3s(hok:HOk P w H h)(e:H a=some (.ins C dx fs)):∃ mA,ObjM h a dx C mA/\(∀ f,RelO (fs.lookup f) (mA f))/\PySem.Within mA (fs.map (·.1))/\fs.length <= 1000/\H dx=some (.own a):=by
 obtain⟨d,z,ne,ob,mA,n,r,q⟩:=(show qa1v P w H h a (.ins C dx fs) from hok a _ e)
 exact⟨mA,⟨ob,n,ne⟩,r,q,z,d⟩
end
structure Cls(K:PySem.W.Frag)(C:Addr):Prop where
 pg:PySem.W.plainGet K C Str.empty=true
 hd:PySem.W.hasDictIn K C=true
 po:PySem.W.plainOver K C=true
 sa:PySem.W.findIn K (.ref C) "__setattr__" = some (some (.builtin "object.__setattr__"))
theorem Cls.get{K:PySem.W.Frag}{C:Addr}(c:Cls K C)(f:Str):PySem.W.plainGet K C f=true:=c.pg
def qa4k(K:PySem.W.Frag)(C:Addr)(f:Str):Prop:=PySem.W.findIn K (.ref C) f=some none
theorem qa4k.taker{K:PySem.W.Frag}{C:Addr}{f:Str}(n:qa4k K C f):PySem.W.takerIn K C f=some none:=by
 unfold PySem.W.takerIn
 rw [show PySem.W.findIn K (.ref C) f=some none from n]
 rfl
structure Meth(K:PySem.W.Frag)(C:Addr)(m:Str)(f:Addr):Prop where
 at_:PySem.W.findIn K (.ref C) m=some (some (.ref f))
 fn:PySem.W.isFn K (.ref f)=true
 kp:PySem.W.keepIn K (.ref f)=true
section
variable{X:Cx}{pins:List (Addr × Obj)}{σ:St}{H:Hp}{s:Shared}{a C dx:Addr}{fs:List (Str × V)}{f:Str}{v:V}{A:Around}{E:Value->Shared->Prop}
theorem qb9v{b:Bool}{Q:Value->Shared->Prop}(I:Inv X pins σ H s)(e:H a=some (.ins C dx fs))(c:Cls X.K C)(n:qa4k X.K C f)(l:fs.lookup f=some v)
  (h:∀ u s',Inv X pins σ H s'->RelV v u->Q u s'):wpAny (model X.prog X.w) A (getAttr (.ref a) f b) Q E s:=by
 obtain⟨mA,O,r,_,_,_⟩:=qb3s I.hok e
 obtain⟨u,hu,ru⟩:=RelO.some_of (v:=v) (o:=mA f) (by rw [← l];exact r f)
 exact get_map I.kIn O (c.get f) c.hd n hu (qc1o ru) (h u _ (I.tok _) ru)
theorem qb9w{m:Str}{g:Addr}{pl:Sem Bool}{Q:Value × List Value->Shared->Prop}(I:Inv X pins σ H s)(e:H a=some (.ins C dx fs))(c:Cls X.K C)(k:Meth X.K C m g)(l:fs.lookup m=none)
  (h:Q (.ref g,[.ref a]) s):wpAny (model X.prog X.w) A (getMethod (.ref a) m pl) Q E s:=by
 obtain⟨mA,O,r,_,_,_⟩:=qb3s I.hok e
 have hn:mA m=none:=RelO.none_of (by rw [← l];exact r m)
 exact qc3e I.kIn O (c.get m) k.at_ k.fn hn h
theorem qb9x{y:V}{u:Value}{Q:Unit->Shared->Prop}(I:Inv X pins σ H s)(e:H a=some (.ins C dx fs))(c:Cls X.K C)(n:qa4k X.K C f)(hl:fs.length < 1000)(ry:RelV y u)
  (h:∀ s',Inv X pins σ (upd H a (.ins C dx (putF f y fs))) s'->Q () s'):wpAny (model X.prog X.w) A (setAttr (.ref a) f u) Q E s:=by
 obtain⟨mA,O,r,wi,_,ho⟩:=qb3s I.hok e
 have hz:(fs.map (·.1)).length <= sizeLine:=by rw [List.length_map,sizeLine_eq];omega
 refine set_map I.kIn O c.sa c.po n.taker c.hd wi hz fun h' O' sb=>h _ ?_
 have hd:∃ o,h'.get? dx=some o:=by obtain⟨o,_,_,e',_⟩:=O'.ns;exact⟨o,e'⟩
 refine I.write (x:=a) (e:=dx) (by rw [e];exact True.intro) (.inr ho) (fun b q hb z=>(sb.2 b hb).trans z) hd ?_
 refine⟨by rw [qa0d O.ne];exact ho,?_,O.ne,O'.obj,_,O'.ns,fun g=>?_,fun g hg=>?_⟩
 ·have:=qb1y f y fs;omega
 ·show RelO ((putF f y fs).lookup g) (if g=f then some u else mA g)
  rw [qa0n]
  by_cases q:g=f
  ·rw [if_pos q,if_pos q];exact ry
  ·rw [if_neg q,if_neg q];exact r g
 ·by_cases q:g=f
  ·rw [q];exact(qb1g f y fs).1
  ·refine(qb1g f y fs).2 g (wi g fun z=>hg ?_)
   show(if g=f then some u else mA g)=none
   rw [if_neg q];exact z
theorem Inv.made(I:Inv X pins σ H s):Inv X pins σ (upd (upd H s.heap.objs.size (.own (s.heap.objs.size + 1))) (s.heap.objs.size + 1) (.ins C s.heap.objs.size []))
  { s with heap:=(s.heap.push PySem.W.emptyDict).push (PySem.W.instObj C s.heap.objs.size) }:=by
 have e1:(s.heap.push PySem.W.emptyDict).get? s.heap.objs.size=some PySem.W.emptyDict:=Heap.get?_push_size s.heap rfl
 have e2:((s.heap.push PySem.W.emptyDict).push (PySem.W.instObj C s.heap.objs.size)).get? (s.heap.objs.size + 1)=some (PySem.W.instObj C s.heap.objs.size):=by
  have:=Heap.get?_push_size (s.heap.push PySem.W.emptyDict) (o:=PySem.W.instObj C s.heap.objs.size) rfl
  rwa [Heap.size_push] at this
 have e3:(s.heap.push PySem.W.emptyDict).Ns s.heap.objs.size (fun _=>none):=⟨PySem.W.emptyDict,#[],_,e1,rfl,(fun e he=>absurd he (by simp)),fun _=>rfl⟩
 have I1:=I.laid (a:=s.heap.objs.size) (o:=.own (s.heap.objs.size + 1)) (h':=s.heap.push PySem.W.emptyDict) (t':=s.toks) (fun b u q=>Heap.get?_push_of_some _ q) (Nat.le_refl _) ⟨_,e1⟩
 refine I1.laid (a:=s.heap.objs.size + 1) (o:=.ins C s.heap.objs.size []) (t':=s.toks) (fun b u q=>Heap.get?_push_of_some _ q) (Nat.le_of_eq (Heap.size_push _ _)) ?_
 have ne:s.heap.objs.size ≠ s.heap.objs.size + 1:=Nat.ne_of_lt (Nat.lt_succ_self _)
 refine⟨by rw [qa0d ne,qa0e],Nat.zero_le _,ne,e2,fun _=>none,(Heap.Ns1.of_empty e3).at fun o q=>Heap.get?_push_of_some _ q,fun _=>True.intro,fun y hy=>absurd rfl hy⟩
theorem attr_of{prog:Program}{w:World}{env:Env}{e:Expr}{f:Str}{pos:Pos}{s:Shared}{Q:Value->Shared->Prop}(hb:attributeBase e f env (eval e env)=eval e env)
  (h:wpAny (model prog w) A (eval e env) (fun o s₁=>wpAny (model prog w) A (getAttr o f true) Q E s₁) E s):wpAny (model prog w) A (eval (.Attribute e f pos) env) Q E s:=
 Attribute_any_ h (by rw [arm_eval_Attribute,hb])
end
def tFld(K:PySem.W.Frag)(ta:TE)(f:Str):TE:=fun σ H Q=>ta σ H fun x H1=>∃ a C dx fs v,x=.ref a/\H1 a=some (.ins C dx fs)/\Cls K C/\qa4k K C f/\fs.lookup f=some v/\Q v H1
def sFld(K:PySem.W.Frag)(ta tv:TE)(f:Str):TS:=fun D σ H=>tv σ H fun y H1=>ta σ H1 fun x H2=>∃ a C dx fs,x=.ref a/\H2 a=some (.ins C dx fs)/\Cls K C/\qa4k K C f/\fs.length < 1000 /\
 D.nx σ (upd H2 a (.ins C dx (putF f y fs)))
section
variable{X:Cx}{o e value:Expr}{f:Str}{pos pos' tpos:Pos}{ta tv:TE}
theorem qa9m(he:PE X e ta)(hb:attributeBase e f X.env (eval e X.env)=eval e X.env):PE X (.Attribute e f pos) (tFld X.K ta f):=by
 intro pins s σ H Q I h
 refine attr_of hb (thn (he pins s σ H _ I h) fun u s1 hq9=>?_)
 obtain⟨x,H1,I1,rx,a,C,dx,fs,v,ex,ea,c,n,l,q⟩:=hq9
 subst ex
 obtain rfl:u=Value.ref a:=rx
 exact qb9v I1 ea c n l fun u' s2 I2 ru=>⟨v,H1,I2,ru,q⟩
theorem qb1h(ha:PE X o ta)(hv:PE X value tv)(hs:swapsWith value (some (.Attribute o f pos')) pos.line X.env=pure false):PS X (.Assign [.Attribute o f pos'] value pos) (sFld X.K ta tv f):=by
 intro pins s σ H D I h
 refine plainObj_wpAny_Assign_Attribute (thn (hv pins s σ H _ I h) fun u s1 ⟨y,H1,I1,ry,q⟩=>thn (ha pins s1 σ H1 _ I1 q) fun ov s2 hq8=>?_) hs
 obtain⟨x,H2,I2,rx,a,C,dx,fs,ex,ea,c,n,l,q2⟩:=hq8
 subst ex
 obtain rfl:ov=Value.ref a:=rx
 exact qb9x I2 ea c n l ry fun s3 I3=>⟨σ,_,I3,q2⟩
end
section
variable{X:Cx}{pins:List (Addr × Obj)}{σ:St}{H:Hp}{s:Shared}{A:Around}{E:Value->Shared->Prop}{Q:Value->Shared->Prop}{c:Value}{b:Bool}
end
end L2
namespace L2
open PySem PySem.Spec PyProof.Rows
structure Room(k:Nat)(A:Around):Prop where
 hd:A.handled=none
 dp:A.depth + 3 * k + 5 < recursionLimit
 un:A.units + 16 * k + 200 < cLine
 gd:A.guards=some []
theorem Room.mono{j k:Nat}{A:Around}(r:Room k A)(h:j <= k):Room j A:=⟨r.hd,by have:=r.dp;omega,by have:=r.un;omega,r.gd⟩
theorem Room.deeper{k:Nat}{A:Around}(r:Room (k + 1) A)(env:Env):Room k (A.deeper env):=
 ⟨r.hd,by have:=r.dp;show A.depth + 1 + 3 * k + 5 < _;omega,by have:=r.un;show A.units + 3 + 16 * k + 200 < _;omega,r.gd⟩
theorem qb9y{A:Around}{C:Addr}{us:List Value}{kw:List (Str × Value)}:(A.under (.builtin "type.__call__" ⟨.ref C :: us,kw⟩)).depth=A.depth + 1:=by
 first | rfl | simp [Around.under,Code.weight,Code.isCreation,Code.isGuard,Code.isCaller,Code.frames,Code.isFrame,guardIds]
theorem qb9z{A:Around}{C:Addr}{us:List Value}{kw:List (Str × Value)}:(A.under (.builtin "type.__call__" ⟨.ref C :: us,kw⟩)).units=A.units + 1:=by
 first | rfl | simp [Around.under,Code.cUnits,Code.frames,Code.isFrame]
theorem Room.make{k:Nat}{A:Around}(r:Room (k + 1) A)(C:Addr)(us:List Value)(kw:List (Str × Value)):Room k (A.under (.builtin "type.__call__" ⟨.ref C :: us,kw⟩)):=
 ⟨r.hd,by have:=r.dp;rw [qb9y];omega,by have:=r.un;rw [qb9z];omega,by rw [show(A.under (.builtin "type.__call__" ⟨.ref C :: us,kw⟩)).guards=A.guards from by first | rfl | simp [Around.under,Code.guards,Code.isGuard,guardIds,pushGuards]];exact r.gd⟩
theorem Room.depth{k:Nat}{A:Around}(r:Room k A):A.depth < recursionLimit:=by have:=r.dp;omega
theorem Room.units{k:Nat}{A:Around}(r:Room k A):A.units + 64 < cLine:=by have:=r.un;omega
def tNil:TA:=fun _ H Q=>Q [] H
def qa2z(ta:TE)(tr:TA):TA:=fun σ H Q=>ta σ H fun x H1=>tr σ H1 fun xs H2=>Q (x :: xs) H2
section
variable{X:Cx}{e:Expr}{es:List Expr}{te:TE}{t:TA}{pos:Pos}
theorem qa0q:PA X [] tNil:=fun _ _ _ _ H Q I h=>Calls.spliced_nil ⟨[],H,I,.nil,h⟩
theorem qa0g(ha:PE X e te)(hr:PA X es t)(hs:starEach (e :: es) X.env=(false,eval e X.env) :: starEach es X.env:=by rfl):PA X (e :: es) (qa2z te t):=by
 intro pos pins s σ H Q I h
 rw [hs]
 show wpAny _ _ (spliced ((false,eval e X.env) :: backTo pos (starEach es X.env))) _ _ s
 refine Calls.spliced_cons (thn (ha pins s σ H _ I h) fun u s1 hq9=>?_)
 obtain⟨x,H1,I1,r1,q1⟩:=hq9
 exact thn (hr pos pins s1 σ H1 _ I1 q1) fun us s2 hq8=>by obtain⟨xs,H2,I2,r2,q2⟩:=hq8;exact⟨x :: xs,H2,I2,.cons r1 r2,q2⟩
def tTup(t:TA):TE:=fun σ H Q=>t σ H fun xs H1=>xs.length <= sizeLine/\∀ p,H1 p=none->Q (.ref p) (upd H1 p (.tup xs))
def tLst(t:TA):TE:=fun σ H Q=>t σ H fun xs H1=>xs.length <= sizeLine/\∀ p,H1 p=none->Q (.ref p) (upd H1 p (.lst xs))
theorem qb2t{x1}(h:PA X es t):PE X (.Tuple es x1 pos) (tTup t):=by
 intro pins s σ H Q I hq
 refine wpAny_Tuple_spliced (thn (h pos pins s σ H _ I hq) fun us s1 ⟨xs,H1,I1,r,z,q⟩=>⟨by rw [← r.length];exact z,?_⟩)
 have hf:H1 s1.heap.objs.size=none:=I1.hok.fresh (Nat.le_refl _)
 refine⟨.ref s1.heap.objs.size,upd H1 s1.heap.objs.size (.tup xs),I1.laid (t':=s1.toks) (fun b u e=>Heap.get?_push_of_some _ e) (Nat.le_refl _) ?_,rfl,q _ hf⟩
 exact⟨z,us,r,⟨_,Heap.get?_push_size _ rfl,⟨rfl,rfl⟩,_,rfl⟩⟩
theorem qa7a(h:PA X es t):PE X (.List es pos) (tLst t):=by
 intro pins s σ H Q I hq
 refine wpAny_List_spliced (thn (h pos pins s σ H _ I hq) fun us s1 ⟨xs,H1,I1,r,z,q⟩=>⟨by rw [← r.length];exact z,?_⟩)
 have hf:H1 s1.heap.objs.size=none:=I1.hok.fresh (Nat.le_refl _)
 refine⟨.ref s1.heap.objs.size,upd H1 s1.heap.objs.size (.lst xs),I1.laid (t':=s1.toks) (fun b u e=>Heap.get?_push_of_some _ e) (Nat.le_refl _) ?_,rfl,q _ hf⟩
 exact⟨z,us,0,r,Heap.get?_push_size _ rfl⟩
end
abbrev Sp:=List V->Hp->VK->XK->Prop
abbrev CXT:=List Env->Hp->Shared->XK->Value->Shared->Prop
structure Env0(P:Program)(w:World)(K:PySem.W.Frag)(mg:Str->Option Value)(base:Heap)(A:Around)(outer:List Env)(s:Shared)(H:Hp):Prop where
 frames:A.frames=some outer
 mod:Mod K mg base
 bs:∀ b o,base.get? b=some o->s.heap.get? b=some o/\H b=none
 bsz:base.objs.size <= s.heap.objs.size
 funs:s.heap.FunFrames base outer
 frf:∀ b ∈ frs outer,H b=none
 hok:HOk P w H s.heap
 bare:AllBare s.gens
def CE(outer:List Env)(P:Program)(w:World)(H:Hp)(s:Shared)(Q:VK)(u:Value)(s':Shared):Prop:=
 ∃ v H',s'.os=s.os/\AllBare s'.gens/\Un (frs outer) [] H H' s.heap s'.heap/\HOk P w H' s'.heap/\RelV v u/\Q v H'
def CR(CX:CXT)(outer:List Env)(P:Program)(w:World)(H:Hp)(s:Shared)(Q:VK)(E:XK)(r:Result)(s':Shared):Prop:=
 match r with
 | .ok (.ret u)=>CE outer P w H s Q u s'
 | .ok _=>False
 | .error e=>CX outer H s E e s'
structure FnOk(P:Program)(w:World)(K:PySem.W.Frag)(mg:Str->Option Value)(base:Heap)(CX:CXT)(k:Nat)(f:Addr)(fd:FuncData)(ps:List Str)(sp:Sp):Prop where
 len:∀ vs H Q E,sp vs H Q E->vs.length=ps.length
 run:∀ (A:Around) (outer:List Env) (s:Shared) (H:Hp) (args:Args) (us:List Value) (vs:List V) (Q:VK) (E:XK),Room k A->Env0 P w K mg base A outer s H->BindsTo s fd args (ps.zip us)->Vals vs us->sp vs H Q E ->
  codeAny (model P w) A (.call (.ref f) args) (CR CX outer P w H s Q E) s
theorem FnOk.mono{P:Program}{w:World}{K:PySem.W.Frag}{mg:Str->Option Value}{base:Heap}{CX:CXT}{j k:Nat}{f:Addr}{fd:FuncData}{ps:List Str}{sp:Sp}(F:FnOk P w K mg base CX j f fd ps sp)(h:j <= k) :
  FnOk P w K mg base CX k f fd ps sp:=⟨F.len,fun A outer s H args us vs Q E hr=>F.run A outer s H args us vs Q E (hr.mono h)⟩
theorem Env0.make{P:Program}{w:World}{K:PySem.W.Frag}{mg:Str->Option Value}{base:Heap}{A:Around}{outer:List Env}{s:Shared}{H:Hp}(e:Env0 P w K mg base A outer s H)(C:Addr)(us:List Value)(kw:List (Str × Value)) :
  Env0 P w K mg base (A.under (.builtin "type.__call__" ⟨.ref C :: us,kw⟩)) outer s H:=⟨by first | exact e.frames | (simpa [Around.under,Code.envs,Code.isFrame,pushEnvs] using e.frames),e.mod,e.bs,e.bsz,e.funs,e.frf,e.hok,e.bare⟩
section
variable{X:Cx}{pins:List (Addr × Obj)}{σ:St}{H:Hp}{s s':Shared}
theorem Inv.env0(I:Inv X pins σ H s):Env0 X.prog X.w X.K X.mg X.base X.A X.stack s H:=
 ⟨I.ok.frames,I.ok.mod,I.bs,Nat.le_trans I.ok.bsz I.sz,I.stack,I.stkFree,I.hok,I.bare⟩
theorem Inv.after{Q:VK}{u:Value}(I:Inv X pins σ H s)(h:CE X.stack X.prog X.w H s Q u s'):EP X pins σ Q u s':=by
 obtain⟨v,H',os,bare,un,hok,r,q⟩:=h
 obtain⟨hh,g,d,t,os'⟩:=s'
 obtain rfl:os'=s.os:=os
 exact⟨v,H',I.call (h':=hh) (g':=g) (d':=d) (t':=t) (ch:=[]) un hok bare (fun b z=>absurd z (by simp)),r,q⟩
end
def tCall(sp:Sp)(dvs:List V)(E:XK)(t:TA):TE:=fun σ H Q=>t σ H fun vs H1=>sp (vs ++ dvs) H1 Q E
def tMeth(C:Addr)(m:Str)(sp:Sp)(dvs:List V)(E:XK)(ta:TE)(t:TA):TE:=fun σ H Q=>ta σ H fun x H1=>∃ a dx fs,x=.ref a/\H1 a=some (.ins C dx fs)/\fs.lookup m=none /\
 t σ H1 fun vs H2=>sp (x :: (vs ++ dvs)) H2 Q E
def tMake(C:Addr)(sp:Sp)(dvs:List V)(E:XK)(t:TA):TE:=fun σ H Q=>t σ H fun vs H1=>∀ x dx,H1 x=none->H1 dx=none->dx ≠ x ->
 sp (.ref x :: (vs ++ dvs)) (upd (upd H1 dx (.own x)) x (.ins C dx [])) (fun v H2=>v=.non/\Q (.ref x) H2) E
def Binds(K:PySem.W.Frag)(fd:FuncData)(ps:List Str)(ds:List Value):Prop:=
 ∀ (s:Shared) (us:List Value),K.In s.heap->(us ++ ds).length=ps.length->BindsTo s fd ⟨us,[]⟩ (ps.zip (us ++ ds))
theorem Binds.all{K:PySem.W.Frag}{fd:FuncData}{ps:List Str}(h:∀ us:List Value,us.length=ps.length->bindArgs fd ⟨us,[]⟩=pure (ps.zip us)):Binds K fd ps []:=fun s us _ hl=>by
 rw [List.append_nil] at hl ⊢
 exact .of_eq (h us hl)
def qa9n(CX:CXT)(X:Cx)(E:XK):Prop:=∀ (pins:List (Addr × Obj)) (σ:St) (H:Hp) (s:Shared) (e:Value) (s':Shared),Inv X pins σ H s->CX X.stack H s E e s'->X.xe e s'
section
variable{X:Cx}{CX:CXT}{k:Nat}{f C:Addr}{fd:FuncData}{ps:List Str}{sp:Sp}{dvs:List V}{ds:List Value}{E:XK}{x m:Str}{p pos apos:Pos}{e o:Expr}{es:List Expr}{ta:TE}{t:TA}
theorem run_fn{pins:List (Addr × Obj)}{σ:St}{H:Hp}{s:Shared}{Q:VK}{us:List Value}{vs:List V}(F:FnOk X.prog X.w X.K X.mg X.base CX k f fd ps sp)(hr:Room k X.A)(hb:Binds X.K fd ps ds)(hd:Vals dvs ds)(hx:qa9n CX X E)
  (I:Inv X pins σ H s) (r:Vals vs us) (h:sp (vs ++ dvs) H Q E):wpAny (model X.prog X.w) X.A (call (.ref f) us) (EP X pins σ Q) X.xe s:=by
 have r2:Vals (vs ++ dvs) (us ++ ds):=r.append hd
 have hl:(us ++ ds).length=ps.length:=by rw [← r2.length];exact F.len _ _ _ _ h
 refine wpAny_call (codeAny_mono (F.run X.A X.stack s H ⟨us,[]⟩ (us ++ ds) (vs ++ dvs) Q E hr I.env0 (hb s us I.kIn hl) r2 h) fun r s' hq=>?_)
 cases r with
 | error e=>exact hx pins σ H s e s' I hq
 | ok fl =>
  cases fl with
  | ret u=>exact I.after hq
  | next=>exact False.elim hq
  | brk=>exact False.elim hq
  | cont=>exact False.elim hq
theorem pe_call(F:FnOk X.prog X.w X.K X.mg X.base CX k f fd ps sp)(hr:Room k X.A)(hg:Gl X x)(hm:X.mg x=some (.ref f))(hk:PySem.W.keepIn X.K (.ref f)=true)(hb:Binds X.K fd ps ds)(hd:Vals dvs ds)(hx:qa9n CX X E)
  (ha:PA X (e :: es) t) (hdb:(x == ("__debug__" : Str))=false:=by decide) (he:starEach (e :: es) X.env=(false,eval e X.env) :: starEach es X.env:=by rfl) (hpl:(backTo pos (starEach es X.env)).any (·.1)=false:=by rfl) :
  PE X (.Call (.Name x p) (e :: es) [] pos) (tCall sp dvs E t):=by
 intro pins s σ H Q I h
 refine wpAny_Call_Name_kw (qb3q I hg hm ?_ hdb)
 refine PySem.W.callWith_K (h₀:=X.base) I.ok.mod.kin hk (thn (ha pos pins s σ H _ I h) fun us s1 ⟨vs,H1,I1,r,q⟩=>⟨I1.kIn,?_⟩) he hpl
 exact run_fn F hr hb hd hx I1 r q
theorem qb8k{pl:Sem Bool}(he:PE X o ta)(c:Cls X.K C)(hm:Meth X.K C m f)(F:FnOk X.prog X.w X.K X.mg X.base CX k f fd ps sp)(hr:Room k X.A)(hb:Binds X.K fd ps ds)(hd:Vals dvs ds)(hx:qa9n CX X E)(ha:PA X (e :: es) t)
  (hst:starEach (e :: es) X.env=(false,eval e X.env) :: starEach es X.env:=by rfl) (hpl:(backTo pos (starEach es X.env)).any (·.1)=false:=by rfl)
  (ht:eval (.Call (.Attribute o m apos) (e :: es) [] pos) X.env=(do
   let ov ← eval o X.env
   standAt apos.atName
   let (f,first) ← holding [ov] (getMethod ov m pl)
   callWith pos f first (backTo pos (starEach (e :: es) X.env)) (backToKw pos (keywordEach [] X.env))):=by rfl) :
  PE X (.Call (.Attribute o m apos) (e :: es) [] pos) (tMeth C m sp dvs E ta t):=by
 intro pins s σ H Q I h
 refine PySem.W.methodCall_KW (pl:=pl) (thn (he pins s σ H _ I h) fun u s1 hq8=>?_) ht
 obtain⟨x,H1,I1,rx,a,dx,fs,ex,ea,l,q⟩:=hq8
 subst ex
 obtain rfl:u=Value.ref a:=rx
 refine qb9w I1 ea c hm l ?_
 refine PySem.W.callWith_K (first:=[.ref a]) (h₀:=X.base) I.ok.mod.kin hm.kp (thn (ha pos pins s1 σ H1 _ I1 q) fun us s2 ⟨vs,H2,I2,r,q2⟩=>⟨I2.kIn,?_⟩) hst hpl
 exact run_fn (us:=.ref a :: us) (vs:=.ref a :: vs) F hr hb hd hx I2 (.cons rfl r) q2
structure Mk(K:PySem.W.Frag)(C f:Addr):Prop where
 makes:PySem.W.makesIn K C=true
 init:PySem.W.findIn K (.ref C) "__init__" = some (some (.ref f))
 fn:PySem.W.isFn K (.ref f)=true
 kp:PySem.W.keepIn K (.ref C)=true
theorem qc3g{pins:List (Addr × Obj)}{σ:St}{H:Hp}{s:Shared}{Q:VK}{us:List Value}{vs:List V}(M:Mk X.K C f)(F:FnOk X.prog X.w X.K X.mg X.base CX k f fd ps sp)(hr:Room (k + 1) X.A)(hb:Binds X.K fd ps ds)(hd:Vals dvs ds)
  (hx:qa9n CX X E) (I:Inv X pins σ H s) (r:Vals vs us)
  (h:∀ x dx,H x=none->H dx=none->dx ≠ x->sp (.ref x :: (vs ++ dvs)) (upd (upd H dx (.own x)) x (.ins C dx [])) (fun v H2=>v=.non/\Q (.ref x) H2) E) :
  wpAny (model X.prog X.w) X.A (call (.ref C) us) (EP X pins σ Q) X.xe s:=by
 have hq:=h (s.heap.objs.size + 1) s.heap.objs.size (I.hok.fresh (Nat.le_succ _)) (I.hok.fresh (Nat.le_refl _)) (Nat.ne_of_lt (Nat.lt_succ_self _))
 have I2:=Inv.made (C:=C) I
 have r2:Vals (V.ref (s.heap.objs.size + 1) :: (vs ++ dvs)) (Value.ref (s.heap.objs.size + 1) :: (us ++ ds)):=.cons rfl (r.append hd)
 have hl:(Value.ref (s.heap.objs.size + 1) :: us ++ ds).length=ps.length:=by
  have e:=r2.length
  rw [F.len _ _ _ _ hq] at e
  exact e.symm
 refine wpAny_call (qc3f (f:=f) I.kIn M.makes M.init (beq_iff_eq.mp M.fn) (codeAny_mono (F.run _ X.stack _ _ ⟨Value.ref (s.heap.objs.size + 1) :: us,[]⟩ (Value.ref (s.heap.objs.size + 1) :: (us ++ ds)) _ _ E (hr.make C us [])
  (I2.env0.make C us []) (hb _ (Value.ref (s.heap.objs.size + 1) :: us) I2.kIn hl) r2 hq) fun r s' hq'=>?_))
 cases r with
 | error e=>exact hx pins σ _ _ e s' I2 hq'
 | ok fl =>
  cases fl with
  | ret u =>
   obtain⟨v,H',I3,rv,ev,q3⟩:=I2.after hq'
   subst ev
   exact⟨rv,⟨V.ref (s.heap.objs.size + 1),H',I3,rfl,q3⟩⟩
  | next=>exact False.elim hq'
  | brk=>exact False.elim hq'
  | cont=>exact False.elim hq'
theorem pe_make(M:Mk X.K C f)(F:FnOk X.prog X.w X.K X.mg X.base CX k f fd ps sp)(hr:Room (k + 1) X.A)(hg:Gl X x)(hm:X.mg x=some (.ref C))(hb:Binds X.K fd ps ds)(hd:Vals dvs ds)(hx:qa9n CX X E)
  (ha:PA X (e :: es) t) (hdb:(x == ("__debug__" : Str))=false:=by decide) (he:starEach (e :: es) X.env=(false,eval e X.env) :: starEach es X.env:=by rfl) (hpl:(backTo pos (starEach es X.env)).any (·.1)=false:=by rfl) :
  PE X (.Call (.Name x p) (e :: es) [] pos) (tMake C sp dvs E t):=by
 intro pins s σ H Q I h
 refine wpAny_Call_Name_kw (qb3q I hg hm ?_ hdb)
 refine PySem.W.callWith_K (h₀:=X.base) I.ok.mod.kin M.kp (thn (ha pos pins s σ H _ I h) fun us s1 ⟨vs,H1,I1,r,q⟩=>⟨I1.kIn,?_⟩) he hpl
 exact qc3g M F hr hb hd hx I1 r q
end
section
variable{X:Cx}{CX:CXT}{k:Nat}{f C:Addr}{fd:FuncData}{ps ks:List Str}{sp:Sp}{E:XK}{x m:Str}{p pos apos kpos:Pos}{e o:Expr}{es:List Expr}{kws:List Keyword}{te ta:TE}{t tk:TA}{nm:Option Str}
variable{g:List Value->List Value->List Value}{gV:List V->List V->List V}
end
structure FnScope(N P:List Str)(sc:Scope):Prop where
 kind:sc.kind=.function
 co:sc.isCoroutine=false
 gen:sc.isGenerator=false
 nd:N.Nodup
 pre:N.take P.length=P
 par:∀ x ∈ P,sc.names.lookup x=some .local ∨ sc.names.lookup x=some .cell
 nofree:∀ y ∈ sc.names,y.2 ≠ .free
theorem qb4p{kindOf:Str->Option NameKind}{x:Str}:∀ {binds:List (Str × Value)} {m:Str->Option Value},(∀ v,(x,v) ∉ binds)->bindL kindOf binds m x=m x
 | [],_,_=>rfl
 | (n,v) :: r,m,h=>by
  unfold bindL
  rw [qb4p fun w hw=>h w (List.mem_cons_of_mem _ hw)]
  split
  ·have:x ≠ n:=by rintro rfl;exact h v List.mem_cons_self
   simp [this]
  ·rfl
theorem qb4q{kindOf:Str->Option NameKind}{x:Str}:∀ {binds:List (Str × Value)} {m:Str->Option Value},(∀ v,(x,v) ∉ binds)->bindC kindOf binds m x=m x
 | [],_,_=>rfl
 | (n,v) :: r,m,h=>by
  unfold bindC
  rw [qb4q fun w hw=>h w (List.mem_cons_of_mem _ hw)]
  split
  ·rfl
  ·have:x ≠ n:=by rintro rfl;exact h v List.mem_cons_self
   simp [this]
theorem qb4r{kindOf:Str->Option NameKind}{x:Str}{v:Value}:∀ {P:List Str} {vs:List Value} {i:Nat} {m:Str->Option Value},P.Nodup->P[i]? = some x->vs[i]? = some v->kindOf x=some .local ->
  bindL kindOf (P.zip vs) m x=some v
 | [],_,_,_,_,h,_,_=>by simp at h
 | _ :: _,[],_,_,_,_,h,_=>by simp at h
 | p :: P,w :: vs,0,m,nd,h1,h2,hk=>by
  simp at h1 h2;subst h1;subst h2
  show bindL kindOf ((p,w) :: P.zip vs) m p=_
  unfold bindL
  rw [qb4p fun v hv=>(List.nodup_cons.mp nd).1 (List.of_mem_zip hv).1,if_pos hk]
  simp
 | p :: P,w :: vs,i + 1,m,nd,h1,h2,hk=>by
  show bindL kindOf ((p,w) :: P.zip vs) m x=_
  unfold bindL
  exact qb4r (i:=i) (List.nodup_cons.mp nd).2 (by simpa using h1) (by simpa using h2) hk
theorem qb4s{kindOf:Str->Option NameKind}{x:Str}{v:Value}:∀ {P:List Str} {vs:List Value} {i:Nat} {m:Str->Option Value},P.Nodup->P[i]? = some x->vs[i]? = some v->kindOf x ≠ some .local ->
  bindC kindOf (P.zip vs) m x=some v
 | [],_,_,_,_,h,_,_=>by simp at h
 | _ :: _,[],_,_,_,_,h,_=>by simp at h
 | p :: P,w :: vs,0,m,nd,h1,h2,hk=>by
  simp at h1 h2;subst h1;subst h2
  show bindC kindOf ((p,w) :: P.zip vs) m p=_
  unfold bindC
  rw [qb4q fun v hv=>(List.nodup_cons.mp nd).1 (List.of_mem_zip hv).1,if_neg hk]
  simp
 | p :: P,w :: vs,i + 1,m,nd,h1,h2,hk=>by
  show bindC kindOf ((p,w) :: P.zip vs) m x=_
  unfold bindC
  exact qb4s (i:=i) (List.nodup_cons.mp nd).2 (by simpa using h1) (by simpa using h2) hk
noncomputable def start(N:List Str)(vs:List V):St:=vs.map some ++ List.replicate (N.length - vs.length) none
noncomputable def cxOf(CX:CXT)(P:Program)(w:World)(K:PySem.W.Frag)(mg:Str->Option Value)(base:Heap)(N:List Str)(qual:Str)(scope:Scope)(f:Addr)(cd:Value)(A:Around)(outer:List Env)(s:Shared)(H:Hp)(E:XK):Cx where
 prog:=P
 w:=w
 K:=K
 mg:=mg
 base:=base
 A:=A.deeper (envOfC qual scope s.heap.objs.size f cd)
 N:=N
 s₀:=s
 H₀:=H
 env:=envOfC qual scope s.heap.objs.size f cd
 outer:=outer
 stack:=envOfC qual scope s.heap.objs.size f cd :: outer
 ex:=[]
 calm:=true
 fn:=fun _=>true
 pn:=[]
 xe:=fun e s'=>wpAny (model P w) (A.deeper (envOfC qual scope s.heap.objs.size f cd)) (leaving (envOfC qual scope s.heap.objs.size f cd) e) (fun _ s''=>CX outer H s E e s'') (fun e' s''=>CX outer H s E e' s'') s'
theorem qb5r{sc:Scope}{n:Nat}{x:Str}(h:sc.names.lookup x=some .cell):∃ c,(cellsFrom n sc.names []).lookup x=some c:=by
 have q:=PySem.W.cellsFrom_some sc.names n [] (.inl h)
 exact Option.isSome_iff_exists.mp q
theorem qc1p{CX:CXT}{P:Program}{w:World}{K:PySem.W.Frag}{mg:Str->Option Value}{base:Heap}{N ps:List Str}{qual:Str}{scope:Scope}{f:Addr}{cd:Value}{A:Around}{outer:List Env}{s s1:Shared}{H:Hp}{E:XK}{us:List Value}{vs:List V}
  (S:FnScope N ps scope) (hd:A.handled=none) (e0:Env0 P w K mg base A outer s H) (hl:vs.length=ps.length) (r:Vals vs us)
  (x:InCallC s s.heap.objs.size (bindL (envOfC qual scope s.heap.objs.size f cd).kindOf (ps.zip us) fun _=>none) (cellsFrom (s.heap.objs.size + 1) scope.names []) (bindC (envOfC qual scope s.heap.objs.size f cd).kindOf (ps.zip us) fun _=>none) s1) :
  Inv (cxOf CX P w K mg base N qual scope f cd A outer s H E) [] (start N vs) H s1:=by
 have hpl:ps.length <= N.length:=by have:=congrArg List.length S.pre;rw [List.length_take] at this;omega
 obtain⟨h1,tk,rfl,hk⟩:=x.done
 have noA:∀ b:Addr,b ∉ (cxOf CX P w K mg base N qual scope f cd A outer s H E).ex:=fun b z=>absurd (show b ∈ ([]:List Addr) from z) (by simp)
 refine⟨⟨e0.mod,S.kind,rfl,rfl,Nat.le_refl _,fun y z c h1 h2=>?_,fun y hy=>?_,fun y c _ h=>?_,fun _=>hd,Around.frames_deeper e0.frames,.inr ⟨rfl,rfl⟩,fun b z=>absurd z (noA b),e0.bs,e0.bsz,fun b _ _=>noA b,fun b z=>absurd z (noA b),e0.funs,e0.frf⟩,
  rfl,e0.bare,Un.kept hk,⟨_,x.toInCall.ns,fun i y v h1 h2 h3=>?_⟩,fun y c h=>⟨_,x.cell y c h⟩,e0.hok.fresh (Nat.le_refl _),fun y c h=>?_,fun p hp=>absurd (show p ∈ ([]:List (Addr × Obj)) from hp) (by simp),e0.hok.kept hk,?_⟩
 ·exact name_of_addr x.apart (PySem.mem_of_lookup h1) (PySem.mem_of_lookup h2)
 ·have hy:scope.names.lookup y=some .cell ∨ scope.names.lookup y=some .free:=hy
  rcases hy with hy | hy
  ·exact qb5r hy
  ·exact absurd rfl (S.nofree _ (PySem.mem_of_lookup hy))
 ·exact Nat.le_of_lt (x.above y c (PySem.mem_of_lookup h))
 ·have hi:i < vs.length:=by
   unfold start at h2
   by_cases hi:i < vs.length
   ·exact hi
   ·rw [List.getElem?_append_right (by simpa using hi)] at h2
    rw [List.getElem?_replicate] at h2
    split at h2<;>cases h2
  have ha:vs[i]? = some v:=by
   unfold start at h2
   rw [List.getElem?_append_left (by simpa using hi),List.getElem?_map] at h2
   cases e:vs[i]? with
   | none=>rw [e] at h2;cases h2
   | some a=>rw [e] at h2;cases h2;rfl
  obtain⟨u,hu,rv⟩:=r.get ha
  have hp:ps[i]? = some y:=by
   rw [← S.pre,List.getElem?_take_of_lt (by omega)];exact h1
  have ndP:ps.Nodup:=by rw [← S.pre];exact S.nd.sublist (List.take_sublist _ _)
  refine⟨u,rv,?_⟩
  rcases S.par y (List.mem_of_getElem? hp) with k | k
  ·exact .inl ⟨k,qb4r ndP hp hu k⟩
  ·obtain⟨c,e⟩:=qb5r (n:=s.heap.objs.size + 1) k
   refine .inr ⟨.inl k,c,e,?_⟩
   have q:=x.cell y c e
   rw [qb4s ndP hp hu (by show scope.names.lookup y ≠ _;rw [k];decide)] at q
   exact q
 ·exact e0.hok.fresh (Nat.le_of_lt (x.above y c (PySem.mem_of_lookup h)))
 ·unfold start
  show _=N.length
  rw [List.length_append,List.length_map,List.length_replicate]
  omega
theorem fn_of{CX:CXT}{P:Program}{w:World}{K:PySem.W.Frag}{mg:Str->Option Value}{base:Heap}{k:Nat}{f:Addr}{name qual:Str}{params:Arguments}{body:List Stmt}{scope:Scope}{dV kV doc pm cdv ct oc:Value}{an od:Option Addr}
  {osl:Array (Option Value)} {N ps:List Str} {sp:Sp} (lk:K.lookup f=some ⟨oc,od,.func (PySem.W.fnOf name qual params body scope dV kV doc pm an cdv ct),osl⟩) (hcd:PySem.W.codeIn K cdv qual=true) (S:FnScope N ps scope)
  (len:∀ vs H Q E,sp vs H Q E->vs.length=ps.length)
  (hbody:∀ (A:Around) (outer:List Env) (s:Shared) (H:Hp) (vs:List V) (Q:VK) (E:XK),Room k (A.deeper (envOfC qual scope s.heap.objs.size f cdv))->sp vs H Q E ->
   ∃ t,PSs (cxOf CX P w K mg base N qual scope f cdv A outer s H E) body t/\t { nx:=fun _ H'=>Q .non H',rt:=Q } (start N vs) H) :
  FnOk P w K mg base CX (k + 1) f (PySem.W.fnOf name qual params body scope dV kV doc pm an cdv ct) ps sp:=by
 refine⟨len,fun A outer s H args us vs Q E hr e0 hb r hsp=>?_⟩
 have hl:=len _ _ _ _ hsp
 have KX:K.In s.heap:=e0.mod.kin.keeps fun b o e=>(e0.bs b o e).1
 have lim:s.heap.NoLimit:=e0.mod.nolimit.keeps fun b o e=>(e0.bs b o e).1
 have hkind:∀ y ∈ ps.zip us,scope.names.lookup y.1=some .local ∨ (scope.names.lookup y.1=some .cell/\((cellsFrom (s.heap.objs.size + 1) scope.names []).lookup y.1).isSome=true):=fun⟨n,v⟩ hy=>by
  rcases S.par n (List.of_mem_zip hy).1 with q | q
  ·exact .inl q
  ·exact .inr ⟨q,PySem.W.cellsFrom_some _ _ _ (.inl q)⟩
 refine codeAny_call_function hr.depth (KX _ _ lk) rfl S.co S.gen rfl (PySem.W.codeRec_of KX hcd) (hb _ _ _ _ ?_)
 refine wpAny_newFunctionEnv_cells S.kind hkind fun env he s1 x=>?_
 subst he
 refine⟨lim.keeps x.toInCall.keep,codeAny_func ?_⟩
 obtain⟨t,ht,hq⟩:=hbody A outer s H vs Q E (hr.deeper _) hsp
 have I:Inv (cxOf CX P w K mg base N qual scope f cdv A outer s H E) [] (start N vs) H s1:=qc1p S hr.hd e0 hl r x
 refine wpAny_mono (ht [] s1 (start N vs) H _ I hq) (fun fl s' hs=>?_) fun e s' hs=>hs
 have fin:∀ {σ':St} {H':Hp} {v:V} {u:Value},Inv (cxOf CX P w K mg base N qual scope f cdv A outer s H E) [] σ' H' s'->RelV v u->Q v H'->CE outer P w H s Q u s':=
  fun{σ' H' v u} J rv q=>⟨v,H',J.os,J.bare,J.base,J.hok,rv,q⟩
 cases fl with
 | ret u =>
  obtain⟨v,σ',H',J,rv,q⟩:=hs
  exact fin J rv q
 | next =>
  obtain⟨σ',H',J,q⟩:=hs
  exact fin (v:=V.non) (u:=Value.none) J rfl q
 | brk =>
  obtain⟨_,_,_,q⟩:=hs
  exact False.elim q
 | cont =>
  obtain⟨_,_,_,q⟩:=hs
  exact False.elim q
end L2
namespace L2
open PySem PySem.Spec PyProof.Rows
section
variable{X:Cx}{x:Str}{p pos:Pos}{e:Expr}{es:List Expr}{t:TA}{id T:String}{r:List V->Hp->VK->Prop}
def tCB(r:List V->Hp->VK->Prop)(t:TA):TE:=fun σ H Q=>t σ H fun vs H1=>r vs H1 Q
theorem qa3q(hc:qa3h X (.builtin id) r)(hg:Gl X x)(hm:X.mg x=none)(hv:bootBuiltins x=some (.builtin id))(ha:PA X (e :: es) t) (hn:x ≠ "__name__":=by decide) (hdb:(x == ("__debug__" : Str))=false:=by decide)
  (he:starEach (e :: es) X.env=(false,eval e X.env) :: starEach es X.env:=by rfl) (hpl:(backTo pos (starEach es X.env)).any (·.1)=false:=by rfl):PE X (.Call (.Name x p) (e :: es) [] pos) (tCB r t):=by
 intro pins s σ H Q I h
 refine wpAny_Call_Name_kw (qa6y I hg hm hv ?_ hn hdb)
 exact PyProof.Rows.callWith_builtin1 (thn (ha pos pins s σ H _ I h) fun us s1 hq8=>by obtain⟨vs,H1,I1,r1,q1⟩:=hq8;exact hc pins s1 σ H1 vs us Q I1 r1 q1) he hpl
theorem qb4t(hc:qa3h X (.type T) r)(hg:Gl X x)(hm:X.mg x=none)(hv:bootBuiltins x=some (.type T))(ha:PA X (e :: es) t) (hn:x ≠ "__name__":=by decide) (hdb:(x == ("__debug__" : Str))=false:=by decide)
  (he:starEach (e :: es) X.env=(false,eval e X.env) :: starEach es X.env:=by rfl) (hpl:(backTo pos (starEach es X.env)).any (·.1)=false:=by rfl):PE X (.Call (.Name x p) (e :: es) [] pos) (tCB r t):=by
 intro pins s σ H Q I h
 refine wpAny_Call_Name_kw (qa6y I hg hm hv ?_ hn hdb)
 exact PyProof.Rows.callWith_type1 (thn (ha pos pins s σ H _ I h) fun us s1 hq8=>by obtain⟨vs,H1,I1,r1,q1⟩:=hq8;exact hc pins s1 σ H1 vs us Q I1 r1 q1) he hpl
end
end L2
namespace HT
open PySem PyProof.Rows
section
open PySem.SeqAt
open PySem.AutoSeq1 (wpAny_loadPart')
open PySem.MeetsSeq PySem.MeetsSeq2 PySem.MeetsSeq3
end
section
variable{prog:Program}{w:World}{A:Around}{E:Value->Shared->Prop}{s:Shared}
theorem cat_tup{t b:Addr}{vs ws:List Value}{Q:Value->Shared->Prop}(ht:IsTup s.heap t vs.toArray)(hb:IsTup s.heap b ws.toArray)(hv:vs ≠ [])
  (h1:ws=[]->Q (.ref t) s) (h2:ws ≠ []->Q (.ref s.heap.objs.size) { s with heap:=s.heap.push { cls:=.type "tuple",data:=.seq (vs ++ ws).toArray } })
  (hsz:vs.length + ws.length <= sizeLine):wpAny (model prog w) A (binaryOp .Add (.ref t) (.ref b)) Q E s:=by
 obtain⟨⟨cls,dd,data,sl⟩,ho,hc,n,hd⟩:=id ht
 obtain⟨⟨cls2,dd2,data2,sl2⟩,ho2,hc2,n2,hd2⟩:=id hb
 simp only at hc hd hc2 hd2
 subst hc hd hc2 hd2
 have e:vs.toArray ++ ws.toArray=(vs ++ ws).toArray:=by simp
 by_cases hw:ws=[]
 ·exact concat_meets ⟨_,ho,rfl⟩ ⟨_,ho2,rfl⟩ noFill_tuple_add seq_tuple_add PySem.F.slot_tuple_add PySem.F.entry_tuple_add (PySem.F.args_tuple_add_2 _ _)
   (tuple_addW1 t b vs.toArray ws.toArray n n2 dd dd2 sl sl2 (by simpa using hv) (by simp [hw])) ⟨ho,ho2,h1 hw⟩
 ·refine concat_meets ⟨_,ho,rfl⟩ ⟨_,ho2,rfl⟩ noFill_tuple_add seq_tuple_add PySem.F.slot_tuple_add PySem.F.entry_tuple_add (PySem.F.args_tuple_add_2 _ _)
   (tuple_addW2 t b vs.toArray ws.toArray n n2 dd dd2 sl sl2 (by simpa using hv) (by simpa using hw) (by rw [List.size_toArray,List.size_toArray];exact hsz)) ⟨ho,ho2,?_⟩
  rw [e]
  exact h2 hw
noncomputable def sIx(n d:Nat):Option Int->Nat
 | none=>d
 | some v=>if v < 0 then(v + (n:Int)).toNat else min v.toNat n
theorem qb5s(n d:Nat):sIx n d none=d:=rfl
theorem qb8l(n d k:Nat):sIx n d (some (k:Int))=min k n:=by
 show(if (k:Int) < 0 then((k:Int) + (n:Int)).toNat else min (k:Int).toNat n)=min k n
 rw [if_neg (by omega),Int.toNat_natCast]
theorem sIx_le(n d:Nat)(hd:d <= n)(o:Option Int):sIx n d o <= n:=by
 cases o with
 | none=>exact hd
 | some v =>
  show(if v < 0 then(v + (n:Int)).toNat else min v.toNat n) <= n
  by_cases hv:v < 0
  ·rw [if_pos hv];omega
  ·rw [if_neg hv];exact Nat.min_le_right _ _
theorem qb8m(v:Int)(n d:Nat):(if v < 0 then max (v + (n:Int)) 0 else min v (n:Int))=((sIx n d (some v):Nat):Int):=by
 show(if v < 0 then max (v + (n:Int)) 0 else min v (n:Int))=(((if v < 0 then(v + (n:Int)).toNat else min v.toNat n):Nat):Int)
 by_cases hv:v < 0
 ·simp only [if_pos hv];omega
 ·simp only [if_neg hv];omega
theorem qc0a(lo hi:Option Int)(n:Nat):Builtin.Slice.sliceAdjust lo hi 1 (n:Int)=(((sIx n 0 lo:Nat):Int),((sIx n n hi:Nat):Int)):=by
 have h1:¬ ((1:Int) < 0):=by omega
 unfold Builtin.Slice.sliceAdjust
 simp only [h1,if_false]
 refine Prod.ext ?_ ?_
 ·cases lo with
  | none=>rfl
  | some v=>exact qb8m v n 0
 ·cases hi with
  | none=>rfl
  | some v=>exact qb8m v n n
theorem qc0b(i j:Nat):Builtin.Slice.slicePlaces (i:Int) (j:Int) 1=j - i:=by
 unfold Builtin.Slice.slicePlaces
 have h1:(1:Int) > 0:=by omega
 simp only [h1,if_true,Int.ediv_one]
 split<;>omega
theorem qb2u{v:Value}{o:Option Int}{Q:Option Int->Shared->Prop}(p:IsPart v o)(h:Q o s):wpAny (model prog w) A (Builtin.Slice.slicePartIndex v) Q E s:=by
 cases p with
 | none=>exact slicePart_none h
 | int i t=>exact slicePart_int h
theorem qb2i{sl:Addr}{vl vu:Value}{lo hi:Option Int}{n:Nat}{Q:Int × Int × Nat->Shared->Prop}(hs:s.heap.IsSliceOf sl vl vu .none)(pl:IsPart vl lo)(pu:IsPart vu hi)
  (h:Q (((sIx n 0 lo:Nat):Int),1,sIx n n hi - sIx n 0 lo) s):wpAny (model prog w) A (Builtin.Slice.sliceApplied (.ref sl) (pure (n:Int))) Q E s:=by
 obtain⟨os,hos,hcs,hds⟩:=id hs
 unfold Builtin.Slice.sliceApplied Builtin.Slice.sliceFields
 refine wpAny_bind (wpAny_bind (wpAny_field hos hds (x:=vl) rfl (wpAny_bind (wpAny_field hos hds (x:=vu) rfl (wpAny_bind (wpAny_field hos hds (x:=.none) rfl (wpAny_pure ?_)))))))
 refine wpAny_bind (slicePart_none ?_)
 show wpAny _ _ (if ((1:Int) == 0)=true then _ else _) _ _ s
 rw [if_neg (by decide)]
 refine wpAny_bind (qb2u pl (wpAny_bind (qb2u pu (wpAny_bind (wpAny_pure ?_)))))
 show wpAny _ _ (match Builtin.Slice.sliceAdjust lo hi 1 (n:Int) with | (lo,hi)=>pure (lo,(1:Int),Builtin.Slice.slicePlaces lo hi 1)) _ _ s
 rw [qc0a lo hi n]
 show wpAny _ _ (pure (((sIx n 0 lo:Nat):Int),(1:Int),Builtin.Slice.slicePlaces ((sIx n 0 lo:Nat):Int) ((sIx n n hi:Nat):Int) 1)) _ _ s
 rw [qc0b]
 exact wpAny_pure h
theorem qc3h(xs:Array Value)(i k:Nat):((List.range k).filterMap fun(m:Nat)=>xs[((i:Int) + (m:Int) * 1).toNat]?).toArray=((xs.toList.drop i).take k).toArray:=by
 have e:(fun(m:Nat)=>xs[((i:Int) + (m:Int) * 1).toNat]?)=fun m=>xs[i + m]?:=by
  funext m
  have:((i:Int) + (m:Int) * 1).toNat=i + m:=by omega
  rw [this]
 rw [e]
 have:=pick_run xs i k
 rw [List.filterMap_map] at this
 have e2:((fun x=>xs[x]?) ∘ fun x=>i + x)=fun m=>xs[i + m]?:=rfl
 rw [e2] at this
 rw [this]
theorem qb1x{t sl:Addr}{items:Array Value}{vl vu:Value}{lo hi:Option Int}{Q:Value->Shared->Prop}(ht:IsTup s.heap t items)(hs:s.heap.IsSliceOf sl vl vu .none)(pl:IsPart vl lo)(pu:IsPart vu hi)
  (hw:¬ (sIx items.size 0 lo=0/\sIx items.size items.size hi=items.size))
  (h:Q (.ref s.heap.objs.size) { s with heap:=s.heap.push { cls:=.type "tuple",data:=.seq ((items.toList.drop (sIx items.size 0 lo)).take (sIx items.size items.size hi - sIx items.size 0 lo)).toArray } })
  (hsz:items.size <= sizeLine):wpAny (model prog w) A (getItem (.ref t) (.ref sl)) Q E s:=by
 have htake:sizeOk (.seq ((items.toList.drop (sIx items.size 0 lo)).take (sIx items.size items.size hi - sIx items.size 0 lo)).toArray):=by
  show((items.toList.drop (sIx items.size 0 lo)).take (sIx items.size items.size hi - sIx items.size 0 lo)).toArray.size <= sizeLine
  rw [List.size_toArray,List.length_take,List.length_drop,Array.length_toList]
  omega
 have hj:sIx items.size items.size hi <= items.size:=sIx_le _ _ (Nat.le_refl _) hi
 obtain⟨os,hos,hcs,hds⟩:=id hs
 have hTs:s.TypeIs (.ref sl) "slice":=⟨os,hos,hcs⟩
 unfold getItem
 try with_reducible refine wpAny_holding ?_
 first | refine wpAny_bind (wpAny_pure ?_) | skip
 refine wpAny_bind (wpAny_sequenceKey ht.typeIs (by decide) ?_)
 refine wpAny_bind (wpAny_callSpecial?_slot (name:=Str.ofString "__getitem__") ht.typeIs PyProof.Rows.slot_tuple_getitem
  (wpAny_call_entry PyProof.Rows.slot_tuple_getitem ht.typeIs entry_tuple_getitem ?_ (args_tuple_getitem _ _)))
 show wpAny _ _ (Builtin.Tuple.tupleItemsOf (.ref t) >>= _) _ _ s
 refine wpAny_bind (tupleItemsOf_ ht ?_)
 refine wpAny_bind (wpAny_typeOf hTs ?_)
 rw [if_pos (by decide)]
 refine wpAny_bind (qb2i hs pl pu ?_)
 have hno:¬ ((((sIx items.size 0 lo:Nat):Int) == 0 && (1:Int) == 1 && (sIx items.size items.size hi - sIx items.size 0 lo) == items.size)=true):=by
  intro q
  rw [Bool.and_eq_true,Bool.and_eq_true] at q
  have q1:((sIx items.size 0 lo:Nat):Int)=0:=eq_of_beq q.1.1
  have q2:sIx items.size items.size hi - sIx items.size 0 lo=items.size:=eq_of_beq q.2
  exact hw ⟨by omega,by omega⟩
 show wpAny _ _ (if (((sIx items.size 0 lo:Nat):Int) == 0 && (1:Int) == 1 && (sIx items.size items.size hi - sIx items.size 0 lo) == items.size)=true then _ else _) _ _ s
 rw [if_neg hno,qc3h]
 first
  | exact wpAny_bind (m:=Builtin.Tuple.tupleExact _) (wpAny_newObj_type (wpAny_pure ⟨_,rfl,wpAny_pure h⟩) htake)
  | exact wpAny_bind (m:=Builtin.Tuple.tupleExact _) (wpAny_newObj_type (wpAny_bind (wpAny_pure (wpAny_pure ⟨_,rfl,wpAny_pure h⟩))) htake)
  | exact wpAny_bind (wpAny_bind (m:=Builtin.Tuple.tupleExact _) (wpAny_newObj_type (wpAny_pure (wpAny_pure ⟨_,rfl,wpAny_pure h⟩)) htake))
  | exact wpAny_bind (wpAny_bind (m:=Builtin.Tuple.tupleExact _) (wpAny_newObj_type (wpAny_pure ⟨_,rfl,wpAny_pure h⟩) htake))
end
end HT
namespace L2
open PySem PySem.Spec PyProof.Rows
abbrev TO:=St->Hp->(Option Int->Hp->Prop)->Prop
def PO(X:Cx)(e:Option Expr)(t:TO):Prop:=
 ∀ (pins:List (Addr × Obj)) (s:Shared) (σ:St) (H:Hp) (Q:Option Int->Hp->Prop),Inv X pins σ H s->t σ H Q ->
  wpAny (model X.prog X.w) X.A (evalPart e X.env) (fun u s'=>∃ o H',Inv X pins σ H' s'/\IsPart u o/\Q o H') X.xe s
noncomputable def qb8n:TO:=fun _ H Q=>Q none H
def tPart(t:TE):TO:=fun σ H Q=>t σ H fun x H1=>∃ i,x=.int i/\Q (some i) H1
section
variable{X:Cx}{e:Expr}{te:TE}{lo hi:Option Expr}{tl th:TO}{pos p2:Pos}
theorem po_none:PO X none qb8n:=by
 intro pins s σ H Q I h
 rw [evalPart_none]
 exact wpAny_pure ⟨none,H,I,.none,h⟩
theorem po_some(h:PE X e te):PO X (some e) (tPart te):=by
 intro pins s σ H Q I hw
 rw [evalPart_some]
 refine thn (h pins s σ H _ I hw) fun u s1 hq9=>?_
 obtain⟨x,H1,I1,r1,q1⟩:=hq9
 obtain⟨i,rfl,q⟩:=q1
 obtain⟨t,rfl⟩:=r1
 exact⟨some i,H1,I1,.int i t,q⟩
def SlR(X:Cx)(r:V->Option Int->Option Int->Hp->VK->Prop):Prop:=
 ∀ (pins:List (Addr × Obj)) (s:Shared) (σ:St) (H:Hp) (x:V) (v vl vu:Value) (lo hi:Option Int) (sl:Addr) (Q:VK),Inv X pins σ H s->RelV x v->s.heap.IsSliceOf sl vl vu .none->IsPart vl lo->IsPart vu hi->r x lo hi H Q ->
  ∃ T id,typeLookup (.type T) "__getitem__" = pure (some (.builtin id))/\s.TypeIs v T/\wpAny (model X.prog X.w) X.A (getItem v (.ref sl)) (EP X pins σ Q) X.xe s
def tSl(r:V->Option Int->Option Int->Hp->VK->Prop)(te:TE)(tl th:TO):TE:=fun σ H Q=>te σ H fun x H1=>tl σ H1 fun l H2=>th σ H2 fun u H3=>r x l u H3 Q
theorem qc3i{r:V->Option Int->Option Int->Hp->VK->Prop}(hr:SlR X r)(he:PE X e te)(hl:PO X lo tl)(hu:PO X hi th):PE X (.Subscript e (.Slice lo hi none p2) pos) (tSl r te tl th):=by
 intro pins s σ H Q I h
 refine Subscript_ (thn (he pins s σ H _ I h) fun v s1 hq9=>?_)
 obtain⟨x,H1,I1,r1,q1⟩:=hq9
 refine wpAny_Slice (thn (hl pins s1 σ H1 _ I1 q1) fun vl s2 ⟨l,H2,I2,pl,q2⟩=>thn (hu pins s2 σ H2 _ I2 q2) fun vu s3 hq9=>?_)
 obtain⟨u,H3,I3,pu,q3⟩:=hq9
 rw [evalPart_none]
 refine wpAny_pure ?_
 have I4:Inv X pins σ H3 { s3 with heap:=s3.heap.push { cls:=.type "slice",data:=.fields #[vl,vu,.none] } }:=I3.kept (t':=s3.toks) fun b ob q=>Heap.get?_push_of_some _ q
 obtain⟨T,id,hT,ht,hg⟩:=hr pins { s3 with heap:=s3.heap.push { cls:=.type "slice",data:=.fields #[vl,vu,.none] } } σ H3 x v vl vu l u s3.heap.objs.size Q I4 r1 (Heap.IsSliceOf.new ..) pl pu q3
 show wpAny (model X.prog X.w) X.A (subscriptTail e (.Slice lo hi none p2) v (.ref s3.heap.objs.size)) (EP X pins σ Q) X.xe { s3 with heap:=s3.heap.push { cls:=.type "slice",data:=.fields #[vl,vu,.none] } }
 exact tail_any (ops:=[.ref s3.heap.objs.size,v]) ht hT hg (by with_unfolding_all rfl)
noncomputable def cutV(xs:List V)(lo hi:Option Int):List V:=(xs.drop (HT.sIx xs.length 0 lo)).take (HT.sIx xs.length xs.length hi - HT.sIx xs.length 0 lo)
theorem qb7l(xs:List V)(lo hi:Option Int):(cutV xs lo hi).length <= xs.length:=by
 unfold cutV
 rw [List.length_take,List.length_drop]
 omega
noncomputable def rSlT(K:PySem.W.Frag):V->Option Int->Option Int->Hp->VK->Prop:=fun x lo hi H Q=>∃ a xs,x=.ref a/\SqT K H a xs /\
 ¬ (HT.sIx xs.length 0 lo=0/\HT.sIx xs.length xs.length hi=xs.length)/\∀ p,H p=none->Q (.ref p) (upd H p (.tup (cutV xs lo hi)))
theorem sl_tup:SlR X (rSlT X.K):=by
 intro pins s σ H x v vl vu lo hi sl Q I rx hs pl pu h
 obtain⟨a,xs,rfl,hx,hw,q⟩:=h
 cases rx
 obtain⟨its,r,ht,hz⟩:=I.tuple hx
 have hlen:its.toArray.size=xs.length:=by rw [List.size_toArray];exact r.length.symm
 refine⟨"tuple",_,PyProof.Rows.slot_tuple_getitem.lookup,ht.typeIs,?_⟩
 refine HT.qb1x ht hs pl pu (by rw [hlen];exact hw) ?_ (by rw [hlen];exact hz)
 rw [hlen]
 refine⟨.ref s.heap.objs.size,_,I.laid (t':=s.toks) (o:=.tup (cutV xs lo hi)) (fun b ob q=>Heap.get?_push_of_some _ q) (Nat.le_refl _) ?_,rfl,q _ (I.hok.fresh (Nat.le_refl _))⟩
 exact⟨Nat.le_trans (qb7l xs lo hi) hz,_,(r.drop (HT.sIx xs.length 0 lo)).take (HT.sIx xs.length xs.length hi - HT.sIx xs.length 0 lo),qa4z.new _ _⟩
def rCatT(K:PySem.W.Frag):R2:=fun x y H Q=>∃ a b xs ys,x=.ref a/\y=.ref b/\SqT K H a xs/\SqT K H b ys/\xs ≠ []/\xs.length + ys.length <= sizeLine /\
 (ys=[]->Q (.ref a) H)/\(ys ≠ []->∀ p,H p=none->Q (.ref p) (upd H p (.tup (xs ++ ys))))
theorem Vals.nil_iff{xs:List V}{us:List Value}(r:Vals xs us):us=[] ↔ xs=[]:=by
 cases r with
 | nil=>simp
 | cons _ _=>simp
theorem op_catT:OpR X (binaryOp .Add) (rCatT X.K):=by
 intro pins s σ H x y v u Q I rx ry h
 obtain⟨a,b,xs,ys,rfl,rfl,ha,hb,hx,hz,q1,q2⟩:=h
 cases rx
 cases ry
 obtain⟨its,r1,p1,_⟩:=I.tuple ha
 obtain⟨its2,r2,p2,_⟩:=I.tuple hb
 refine HT.cat_tup p1 p2 (fun z=>hx (r1.nil_iff.mp z)) (fun z=>⟨.ref a,H,I,rfl,q1 (r2.nil_iff.mp z)⟩) (fun z=>?_) (by rw [← r1.length,← r2.length];exact hz)
 refine⟨.ref s.heap.objs.size,_,I.laid (t':=s.toks) (o:=.tup (xs ++ ys)) (fun b ob q=>Heap.get?_push_of_some _ q) (Nat.le_refl _) ?_,rfl,q2 (fun w=>z (r2.nil_iff.mpr w)) _ (I.hok.fresh (Nat.le_refl _))⟩
 exact⟨by rw [List.length_append];exact hz,_,r1.append r2,qa4z.new _ _⟩
end
end L2
namespace L2
open PySem PySem.Spec PyProof.Rows
noncomputable def ixN(n:Nat)(i:Int):Option Nat:=if 0 <= i then(if i < n then some i.toNat else none) else if -(n:Int) <= i then some (i + n).toNat else none
noncomputable def atI{α:Type}(xs:List α)(i:Int):Option α:=(ixN xs.length i).bind fun j=>xs[j]?
theorem qb8o{n:Nat}{i:Int}{j:Nat}(h:ixN n i=some j):seqIndex? i n=some j/\j < n /\ -(n:Int) <= i/\i < n:=by
 unfold ixN at h
 by_cases h0:0 <= i
 ·rw [if_pos h0] at h
  by_cases h1:i < n
  ·rw [if_pos h1] at h
   have e:i.toNat=j:=Option.some.inj h
   exact⟨by rw [seqIndex_of h0 h1,e],by omega,by omega,h1⟩
  ·rw [if_neg h1] at h;cases h
 ·rw [if_neg h0] at h
  by_cases h1:-(n:Int) <= i
  ·rw [if_pos h1] at h
   have e:(i + n).toNat=j:=Option.some.inj h
   exact⟨by rw [seqIndex_neg (by omega) h1,e],by omega,h1,by omega⟩
  ·rw [if_neg h1] at h;cases h
theorem qb3t{α:Type}{xs:List α}{i:Int}{v:α}(h:atI xs i=some v):∃ j,seqIndex? i xs.length=some j/\xs[j]? = some v/\j < xs.length /\ -(xs.length:Int) <= i/\i < xs.length:=by
 unfold atI at h
 cases e:ixN xs.length i with
 | none=>rw [e] at h;cases h
 | some j =>
  rw [e] at h
  obtain⟨h1,h2,h3,h4⟩:=qb8o e
  exact⟨j,h1,h,h2,h3,h4⟩
theorem qa1f{α:Type}{xs:List α}{j:Nat}{v:α}(h:xs[j]? = some v):atI xs (j:Int)=some v:=by
 have hj:j < xs.length:=(List.getElem?_eq_some_iff.mp h).1
 have e:ixN xs.length (j:Int)=some j:=by
  unfold ixN
  rw [if_pos (by omega),if_pos (by omega)];simp
 unfold atI;rw [e];exact h
theorem qc3j{α:Type}(xs:List α)(v:α):atI (xs ++ [v]) (-1)=some v:=by
 have hl:(xs ++ [v]).length=xs.length + 1:=by simp
 have e:ixN (xs ++ [v]).length (-1)=some xs.length:=by
  unfold ixN
  rw [hl,if_neg (by decide),if_pos (by omega)]
  congr 1
  omega
 unfold atI
 rw [e]
 show(xs ++ [v])[xs.length]? = some v
 simp
def qb3u(b:Expr):Prop:=∀ o i,subscripted b false o i=operate [o,i] (getItem o i)
def IxR(X:Cx)(r:R2):Prop:=
 ∀ (value slice:Expr) (pins:List (Addr × Obj)) (s:Shared) (σ:St) (H:Hp) (x y:V) (v u:Value) (Q:VK),Inv X pins σ H s->RelV x v->RelV y u->r x y H Q ->
  subscripted slice false v u=operate [v,u] (getItem v u)->wpAny (model X.prog X.w) X.A (subscriptTail value slice v u) (EP X pins σ Q) X.xe s
def MtR(X:Cx)(id:String)(r:V->List V->Hp->VK->Prop):Prop:=
 ∀ (pins:List (Addr × Obj)) (s:Shared) (σ:St) (H:Hp) (x:V) (xs:List V) (v:Value) (us:List Value) (Q:VK),Inv X pins σ H s->RelV x v->Vals xs us->r x xs H Q ->
  wpAny (model X.prog X.w) X.A (call (.builtin id) (v :: us)) (EP X pins σ Q) X.xe s
section
variable{X:Cx}{a b:Expr}{ta tb:TE}{pos:Pos}
theorem IxR.or{r r':R2}(h:IxR X r)(h':IxR X r'):IxR X (fun x y H Q=>r x y H Q ∨ r' x y H Q):=by
 intro value slice pins s σ H x y v u Q I rx ry q hs
 rcases q with q | q
 ·exact h value slice pins s σ H x y v u Q I rx ry q hs
 ·exact h' value slice pins s σ H x y v u Q I rx ry q hs
theorem qa3m{r:R2}(hr:IxR X r)(ha:PE X a ta)(hb:PE X b tb)(hs:qb3u b):PE X (.Subscript a b pos) (tOp r ta tb):=by
 intro pins s σ H Q I h
 exact Subscript_ (binT ha hb I h fun v u s2 x y H2 I2 rx ry q=>hr a b pins s2 σ H2 x y v u Q I2 rx ry q (hs _ _))
def rIxL(K:PySem.W.Frag):R2:=fun x y H Q=>∃ p xs i v,x=.ref p/\y=.int i/\SqL K H p xs/\atI xs i=some v/\Q v H
def rIxT(K:PySem.W.Frag):R2:=fun x y H Q=>∃ p xs i v,x=.ref p/\y=.int i/\SqT K H p xs/\atI xs i=some v/\Q v H
def rIxS:R2:=fun x y H Q=>∃ z i c,x=.str z/\y=.int i/\z.length <= sizeLine/\atI z.cps.toList i=some c/\Q (.str ⟨#[c]⟩) H
theorem qa5m:IxR X (rIxL X.K):=by
 intro value slice pins s σ H x y v u Q I rx ry h hs
 obtain⟨p,xs,i,z,rfl,rfl,hq,he,q⟩:=h
 cases rx
 obtain⟨t,rfl⟩:=ry
 obtain⟨its,r,pl,hz⟩:=I.list hq
 obtain⟨j,h1,h2,h3,h4,h5⟩:=qb3t he
 obtain⟨w,ew,rw'⟩:=r.get h2
 have hl:=r.length
 have hn:=qa5s
 have fin:EP X pins σ Q w s:=⟨z,H,I,rw',q⟩
 by_cases h0:0 <= i
 ·have hj:i.toNat=j:=by
   rw [seqIndex_of h0 h5] at h1
   exact Option.some.inj h1
  exact item_listR pl.isList h0 (by omega) (by rw [hj];simpa using ew) fin hs
 ·have hj:(i + (its.toArray.size:Int)).toNat=j:=by
   rw [seqIndex_neg (by omega) h4] at h1
   rw [List.size_toArray,← hl]
   exact Option.some.inj h1
  exact subscriptTail_builtinR (x:=w) pl.isList.typeIs slot_list_getitem.lookup
   (wpAny_getItem_list_neg (Q:=fun r s'=>r=w/\EP X pins σ Q r s') pl.isList (by omega) (by rw [List.size_toArray]<;>omega) (by omega) (by rw [hj];simpa using ew) ⟨rfl,fin⟩) hs
theorem ix_tup:IxR X (rIxT X.K):=by
 intro value slice pins s σ H x y v u Q I rx ry h hs
 obtain⟨p,xs,i,z,rfl,rfl,hq,he,q⟩:=h
 cases rx
 obtain⟨t,rfl⟩:=ry
 obtain⟨its,r,pl,hz⟩:=I.tuple hq
 obtain⟨j,h1,h2,h3,h4,h5⟩:=qb3t he
 obtain⟨w,ew,rw'⟩:=r.get h2
 have hl:=r.length
 have hn:=qa5s
 have fin:EP X pins σ Q w s:=⟨z,H,I,rw',q⟩
 exact subscriptTail_builtinR (x:=w) pl.typeIs slot_tuple_getitem.lookup
  (getItem_tuple (j:=j) (Q:=fun r s'=>r=w/\EP X pins σ Q r s') pl (by omega) (by omega) (by rw [List.size_toArray,← hl];exact h1) (by simpa using ew) ⟨rfl,fin⟩) hs
theorem ix_str:IxR X rIxS:=by
 intro value slice pins s σ H x y v u Q I rx ry h hs
 obtain⟨z,i,c,rfl,rfl,hz,he,q⟩:=h
 obtain⟨t,rfl⟩:=rx
 obtain⟨t',rfl⟩:=ry
 obtain⟨j,h1,h2,h3,h4,h5⟩:=qb3t he
 have hl:z.cps.toList.length=z.length:=by simp [Str.length]
 rw [hl] at h1 h4 h5
 have hn:=qa5s
 exact tail_any (typeIs_str s z t) slot_str_getitem.lookup (getItem_str (c:=c) (by
  have e1:decide (i < -(2 ^ 63:Int))=false:=decide_eq_false (by omega)
  have e2:decide (i ≥ 2 ^ 63)=false:=decide_eq_false (by omega)
  rw [e1,e2,Bool.or_false]) (by rw [h1];simpa using h2) ⟨.str ⟨#[c]⟩,H,I.tok _,⟨_,rfl⟩,q⟩) hs
def rIx(K:PySem.W.Frag):R2:=fun x y H Q=>rIxL K x y H Q ∨ rIxT K x y H Q ∨ rIxS x y H Q
theorem qa0s:IxR X (rIx X.K):=qa5m.or (ix_tup.or ix_str)
theorem qc0c(its:List Value)(n j:Nat)(u:Value):Obj.mapSeq (·.setIfInBounds j u) { cls:=.type "list",data:=.seq its.toArray n }={ cls:=.type "list",data:=.seq (its.set j u).toArray n }:=by
 simp [Obj.mapSeq]
theorem Inv.lst{pins:List (Addr × Obj)}{σ:St}{H:Hp}{s:Shared}{p:Addr}{xs:List V}(I:Inv X pins σ H s)(h:H p=some (.lst xs)) :
  ∃ (its:List Value) (n:Nat),Vals xs its/\s.heap.get? p=some { cls:=.type "list",data:=.seq its.toArray n }/\xs.length <= sizeLine:=by
 obtain⟨z,its,n,r,e⟩:=I.hok p _ h
 exact⟨its,n,r,e,z⟩
theorem Inv.lstUpd{pins:List (Addr × Obj)}{σ:St}{H:Hp}{s:Shared}{p:Addr}{xs ys:List V}{its its':List Value}{n n':Nat}{f:Obj->Obj}(I:Inv X pins σ H s)(h:H p=some (.lst xs))
  (ho:s.heap.get? p=some { cls:=.type "list",data:=.seq its.toArray n }) (hf:f { cls:=.type "list",data:=.seq its.toArray n }={ cls:=.type "list",data:=.seq its'.toArray n' }) (r:Vals ys its') (hz:ys.length <= sizeLine) (t:Nat) :
  Inv X pins σ (upd H p (.lst ys)) { s with heap:=s.heap.update p f,toks:=t }:=by
 have e:(s.heap.update p f).get? p=some { cls:=.type "list",data:=.seq its'.toArray n' }:=by
  rw [Heap.get?_update_self f ho (by rw [hf]<;>rfl),hf]
 refine I.write (x:=p) (e:=p) (by rw [h];trivial) (.inl rfl) (fun b u hb q=>(Heap.get?_update_other _ _ (Ne.symm hb)).trans q) ⟨_,e⟩ ?_
 exact⟨hz,its',n',r,e⟩
noncomputable def rSetL:V->V->V->Hp->(Hp->Prop)->Prop:=fun o i v H Q=>∃ p xs k j,o=.ref p/\i=.int k/\H p=some (.lst xs)/\ixN xs.length k=some j/\Q (upd H p (.lst (xs.set j v)))
theorem set_list:PSet X rSetL:=by
 intro pins s σ H o i v ov iv u Q I ro ri rv h
 obtain⟨p,xs,k,j,rfl,rfl,hp,hj,q⟩:=h
 cases ro
 obtain⟨t,rfl⟩:=ri
 obtain⟨its,n,r,ho,hz⟩:=I.lst hp
 obtain⟨h1,h2,h3,h4⟩:=qb8o hj
 have hl:=r.length
 have hn:=qa5s
 have I':Inv X pins σ (upd H p (.lst (xs.set j v))) { s with heap:=s.heap.update p (Obj.mapSeq (·.setIfInBounds j u)) }:=
  I.lstUpd hp ho (qc0c its n j u) (r.set rv j) (by rw [List.length_set];exact hz) s.toks
 by_cases h0:0 <= k
 ·have hk:k.toNat=j:=by
   rw [seqIndex_of h0 h4] at h1
   exact Option.some.inj h1
  exact PySem.W.ki_setAt ho h0 (by omega) (by rw [List.size_toArray,← hl];exact h4) (by rw [hk];exact⟨_,I',q⟩)
 ·have hk:(k + (its.toArray.size:Int)).toNat=j:=by
   rw [seqIndex_neg (by omega) h3] at h1
   rw [List.size_toArray,← hl]
   exact Option.some.inj h1
  exact PySem.W.ki_setBack ho (by omega) (by rw [List.size_toArray,← hl];exact h3) (by omega) (by rw [hk];exact⟨_,I',q⟩)
noncomputable def qa6r:V->Bool
 | .non=>true
 | .bl _=>true
 | .int _=>true
 | .str _=>true
 | _=>false
noncomputable def eqV:V->V->Bool
 | .non,.non=>true
 | .bl a,.bl b=>a == b
 | .bl a,.int b=>(if a then 1 else 0) == b
 | .int a,.bl b=>a == (if b then 1 else 0)
 | .int a,.int b=>a == b
 | .str a,.str b=>a == b
 | _,_=>false
theorem eqAt_V{A:Around}{s:Shared}{y x:V}{u v:Value}(ry:RelV y u)(rx:RelV x v)(fy:qa6r y=true)(fx:qa6r x=true):SeqAt.EqAt A s u v (eqV y x):=by
 cases y with
 | non =>
  cases ry
  cases x with
  | non=>cases rx;exact SeqAt.EqAt.same _
  | bl b=>cases rx;exact SeqAt.EqAt.none_bool b
  | int b=>obtain⟨t,rfl⟩:=rx;exact SeqAt.EqAt.none_int b t
  | str b=>obtain⟨t,rfl⟩:=rx;exact SeqAt.EqAt.none_str b t
  | _=>exact absurd (show false=true from fx) Bool.false_ne_true
 | bl a =>
  cases ry
  cases x with
  | non=>cases rx;exact SeqAt.EqAt.bool_none a
  | bl b=>cases rx;exact SeqAt.EqAt.bool_bool a b
  | int b=>obtain⟨t,rfl⟩:=rx;exact SeqAt.EqAt.bool_int a b t
  | str b=>obtain⟨t,rfl⟩:=rx;exact SeqAt.EqAt.bool_str a b t
  | _=>exact absurd (show false=true from fx) Bool.false_ne_true
 | int a =>
  obtain⟨t',rfl⟩:=ry
  cases x with
  | non=>cases rx;exact SeqAt.EqAt.int_none a t'
  | bl b=>cases rx;exact SeqAt.EqAt.int_bool a t' b
  | int b=>obtain⟨t,rfl⟩:=rx;exact SeqAt.EqAt.int_int a t' b t
  | str b=>obtain⟨t,rfl⟩:=rx;exact SeqAt.EqAt.int_str a t' b t
  | _=>exact absurd (show false=true from fx) Bool.false_ne_true
 | str a =>
  obtain⟨t',rfl⟩:=ry
  cases x with
  | non=>cases rx;exact SeqAt.EqAt.str_none a t'
  | bl b=>cases rx;exact SeqAt.EqAt.str_bool a t' b
  | int b=>obtain⟨t,rfl⟩:=rx;exact SeqAt.EqAt.str_int a t' b t
  | str b=>obtain⟨t,rfl⟩:=rx;exact SeqAt.EqAt.str_str a t' b t
  | _=>exact absurd (show false=true from fx) Bool.false_ne_true
 | _=>exact absurd (show false=true from fy) Bool.false_ne_true
noncomputable def eqU(x:V)(u:Value):Bool:=match u with
 | .none=>eqV .non x
 | .bool b=>eqV (.bl b) x
 | .int i _=>eqV (.int i) x
 | .str z _=>eqV (.str z) x
 | _=>false
theorem eqU_of{x y:V}{u:Value}(r:RelV y u)(f:qa6r y=true):eqU x u=eqV y x:=by
 cases y with
 | non=>cases r;rfl
 | bl b=>cases r;rfl
 | int i=>obtain⟨t,rfl⟩:=r;rfl
 | str z=>obtain⟨t,rfl⟩:=r;rfl
 | _=>exact absurd (show false=true from f) Bool.false_ne_true
theorem qa9o{x:V}:∀ {xs:List V} {us:List Value},Vals xs us->xs.all qa6r=true->us.any (eqU x)=xs.any fun y=>eqV y x
 | _,_,.nil,_=>rfl
 | y :: xs,u :: us,.cons r t,f=>by
  rw [List.all_cons,Bool.and_eq_true] at f
  rw [List.any_cons,List.any_cons,eqU_of r f.1,qa9o t f.2]
theorem qa8f{A:Around}{s:Shared}{x:V}{v:Value}(rx:RelV x v)(fx:qa6r x=true):∀ {xs:List V} {us:List Value},Vals xs us->xs.all qa6r=true->∀ u ∈ us,SeqAt.EqAt A s u v (eqU x u)
 | _,_,.nil,_=>fun u hu=>by cases hu
 | y :: xs,u :: us,.cons r t,f=>fun u' hu=>by
  rw [List.all_cons,Bool.and_eq_true] at f
  rcases List.mem_cons.mp hu with rfl | hu
  ·rw [eqU_of r f.1];exact eqAt_V r rx f.1 fx
  ·exact qa8f rx fx t f.2 u' hu
noncomputable def inV(x:V)(xs:List V):Bool:=xs.any fun y=>eqV y x
def rIn(K:PySem.W.Frag)(neg:Bool):R2:=fun x y H Q=>∃ p xs,y=.ref p/\(SqL K H p xs ∨ SqT K H p xs)/\qa6r x=true/\xs.all qa6r=true/\Q (.bl (if neg then !inV x xs else inV x xs)) H
theorem qc1q:OpR X (compareOp .In) (rIn X.K false):=by
 intro pins s σ H x y v u Q I rx ry h
 obtain⟨p,xs,rfl,hq,fx,fs,q⟩:=h
 cases ry
 rcases hq with hq | hq
 ·obtain⟨its,r,pl,hz⟩:=I.list hq
  refine SeqAt.in_listAt (eqU x) pl.isList (fun w hw=>qa8f rx fx r fs w (by simpa using hw)) ⟨.bl _,H,I,rfl,?_⟩
  rw [show its.toArray.any (eqU x)=its.any (eqU x) by simp,qa9o r fs]
  exact q
 ·obtain⟨its,r,pl,hz⟩:=I.tuple hq
  refine SeqAt.in_tupleAt (eqU x) pl (fun w hw=>qa8f rx fx r fs w (by simpa using hw)) ⟨.bl _,H,I,rfl,?_⟩
  rw [show its.toArray.any (eqU x)=its.any (eqU x) by simp,qa9o r fs]
  exact q
theorem qb5t:OpR X (compareOp .NotIn) (rIn X.K true):=by
 intro pins s σ H x y v u Q I rx ry h
 obtain⟨p,xs,rfl,hq,fx,fs,q⟩:=h
 cases ry
 rcases hq with hq | hq
 ·obtain⟨its,r,pl,hz⟩:=I.list hq
  refine SeqAt.notIn_listAt (eqU x) pl.isList (fun w hw=>qa8f rx fx r fs w (by simpa using hw)) ⟨.bl _,H,I,rfl,?_⟩
  rw [show its.toArray.any (eqU x)=its.any (eqU x) by simp,qa9o r fs]
  exact q
 ·obtain⟨its,r,pl,hz⟩:=I.tuple hq
  refine SeqAt.notIn_tupleAt (eqU x) pl (fun w hw=>qa8f rx fx r fs w (by simpa using hw)) ⟨.bl _,H,I,rfl,?_⟩
  rw [show its.toArray.any (eqU x)=its.any (eqU x) by simp,qa9o r fs]
  exact q
theorem qb5u:OpR X (compareOp .NotIn) (fun x y H Q=>∃ i j,x=.str i/\y=.str j/\Q (.bl (!(!(Builtin.Str.occurrences j i 0 j.length 1).isEmpty))) H):=by
 intro pins s σ H x y v u Q I rx ry h
 obtain⟨i,j,rfl,rfl,q⟩:=h
 obtain⟨t,rfl⟩:=rx
 obtain⟨t',rfl⟩:=ry
 exact notIn_str ⟨.bl _,H,I,rfl,q⟩
theorem qa3d:qa3h X (.builtin "len") (fun xs H Q=>∃ p ys,xs=[.ref p]/\(SqL X.K H p ys ∨ SqT X.K H p ys)/\Q (.int ys.length) H):=by
 intro pins s σ H xs us Q I r h
 obtain⟨p,ys,rfl,hq,q⟩:=h
 obtain⟨u,rfl,rx⟩:=vals1 r
 cases rx
 have hn:=qa5s
 rcases hq with hq | hq
 ·obtain⟨its,r',pl,hz⟩:=I.list hq
  have hlen:=r'.length
  exact Calls.call_len_list pl.isList (by simp only [List.size_toArray]<;>omega) ⟨.int ys.length,H,I.tok _,⟨s.toks + 1,by rw [List.size_toArray,hlen]⟩,q⟩
 ·obtain⟨its,r',pl,hz⟩:=I.tuple hq
  have hlen:=r'.length
  exact len_tuple pl (by simp only [List.size_toArray]<;>omega) ⟨.int ys.length,H,I.tok _,⟨s.toks + 1,by rw [List.size_toArray,hlen]⟩,q⟩
theorem qb5v:qa3h X (.builtin "len") (fun xs H Q=>∃ z,xs=[.str z]/\z.length <= sizeLine/\Q (.int z.length) H):=by
 intro pins s σ H xs us Q I r h
 obtain⟨z,rfl,hz,q⟩:=h
 obtain⟨u,rfl,t,rfl⟩:=vals1 r
 have hn:=qa5s
 exact len_str (by omega) ⟨.int z.length,H,I.tok _,⟨_,rfl⟩,q⟩
theorem qa3h.or{f:Value}{r r':List V->Hp->VK->Prop}(h:qa3h X f r)(h':qa3h X f r'):qa3h X f (fun xs H Q=>r xs H Q ∨ r' xs H Q):=by
 intro pins s σ H xs us Q I rs q
 rcases q with q | q
 ·exact h pins s σ H xs us Q I rs q
 ·exact h' pins s σ H xs us Q I rs q
theorem qa7m:qa3h X (.type "tuple") (fun xs H Q=>∃ p ys,xs=[.ref p]/\((SqL X.K H p ys/\∀ l,H l=none->Q (.ref l) (upd H l (.tup ys))) ∨ (SqT X.K H p ys/\Q (.ref p) H))):=by
 intro pins s σ H xs us Q I r h
 obtain⟨p,ys,rfl,h⟩:=h
 obtain⟨u,rfl,rx⟩:=vals1 r
 cases rx
 rcases h with⟨hq,q⟩ | ⟨hq,q⟩
 ·obtain⟨its,r',pl,hz⟩:=I.list hq
  have hlen:=r'.length
  refine call_tuple_list pl.isList (fun h' kp=>?_) (by simp only [List.size_toArray]<;>omega)
  have I1:Inv X pins σ H { s with heap:=h' }:=I.kept (t':=s.toks) kp
  have I2:Inv X pins σ (upd H h'.objs.size (.tup ys)) { s with heap:=h'.push { cls:=.type "tuple",data:=.seq its.toArray } }:=
   I1.laid (t':=s.toks) (fun b o e=>Heap.get?_push_of_some _ e) (Nat.le_refl _) (show qa1v X.prog X.w _ _ _ (.tup ys) from⟨hz,its,r',qa4z.new _ _⟩)
  exact⟨.ref h'.objs.size,_,I2,rfl,q _ (I1.hok.fresh (Nat.le_refl _))⟩
 ·obtain⟨its,r',pl,hz⟩:=I.tuple hq
  exact call_tuple_same pl ⟨.ref p,H,I,rfl,q⟩
def tyV(K:PySem.W.Frag)(T:String)(x:V)(H:Hp):Prop:=match x with
 | .str _=>T = "str"
 | .int _=>T = "int"
 | .ref p=>(T = "list" /\ ∃ xs,SqL K H p xs) ∨ (T = "tuple" /\ ∃ o,K.lookup p=some o/\o.cls=.type "tuple" /\ o.dict=none) ∨
   (T = "dict" /\ ((∃ kvs,H p=some (.dK kvs)) ∨ ∃ kvs,H p=some (.dT kvs))) ∨ (T = "set" /\ ∃ S n,H p=some (.set S n))
 | _=>False
theorem tyV_is{pins:List (Addr × Obj)}{σ:St}{H:Hp}{s:Shared}{T:String}{x:V}{v:Value}(I:Inv X pins σ H s)(r:RelV x v)(ty:tyV X.K T x H) :
  s.TypeIs v T/\∀ a,v=.ref a->∃ ob,s.heap.get? a=some ob/\ob.dict=none:=by
 cases x with
 | str z =>
  obtain⟨t,rfl⟩:=r
  cases (show T = "str" from ty)
  exact⟨typeIs_str s z t,fun _ e=>nomatch e⟩
 | int i =>
  obtain⟨t,rfl⟩:=r
  cases (show T = "int" from ty)
  exact⟨typeIs_int s i t,fun _ e=>nomatch e⟩
 | ref p =>
  cases r
  rcases ty with⟨rfl,xs,hq⟩ | ⟨rfl,o,hk,hc,hd⟩ | ⟨rfl,hk⟩ | ⟨rfl,S,n,hk⟩
  ·obtain⟨its,_,pl,_⟩:=I.list hq
   refine⟨pl.isList.typeIs,fun a e=>?_⟩
   cases e
   obtain⟨o,n,e,c,hd,_⟩:=pl
   exact⟨o,e,hd⟩
  ·refine⟨⟨o,I.kIn p o hk,hc⟩,fun a e=>?_⟩
   cases e
   exact⟨o,I.kIn _ o hk,hd⟩
  ·have z:∃ o,s.heap.get? p=some o/\o.ExactDict:=by
    rcases hk with⟨kvs,hk⟩ | ⟨kvs,hk⟩
    ·obtain⟨_,_,_,_,o,_,_,e,ex,_⟩:=I.hok p _ hk
     exact⟨o,e,ex⟩
    ·obtain⟨_,_,_,_,o,_,_,e,ex,_⟩:=I.hok p _ hk
     exact⟨o,e,ex⟩
   obtain⟨o,e,ex⟩:=z
   refine⟨⟨o,e,ex.1⟩,fun a e2=>?_⟩
   cases e2
   exact⟨o,e,ex.2.1⟩
  ·obtain⟨o,_,_,_,e,ex,_⟩:=I.hok p _ hk
   refine⟨⟨o,e,ex.1⟩,fun a e2=>?_⟩
   cases e2
   exact⟨o,e,ex.2.1⟩
 | _=>exact False.elim ty
def tBM0(K:PySem.W.Frag)(T:String)(r:V->List V->Hp->VK->Prop)(to:TE):TE:=fun σ H Q=>to σ H fun x H1=>tyV K T x H1/\r x [] H1 Q
def tBM(K:PySem.W.Frag)(T:String)(r:V->List V->Hp->VK->Prop)(to:TE)(t:TA):TE:=fun σ H Q=>to σ H fun x H1=>tyV K T x H1/\t σ H1 fun xs H2=>r x xs H2 Q
variable{o e:Expr}{es:List Expr}{to:TE}{t:TA}{name:Str}{apos cpos:Pos}{T id:String}{r:V->List V->Hp->VK->Prop}
theorem pe_bm0(pa:PlainAttrs T)(slot:Slot T name id) (hty:typeOf (.builtin id)=pure (.type "method_descriptor")) (hm:MtR X id r) (ho:PE X o to)
  (hbase:attributeBase o name X.env (eval o X.env)=eval o X.env:=by rfl) (hline:(apos.endLine == cpos.line)=true:=by rfl):PE X (.Call (.Attribute o name apos) [] [] cpos) (tBM0 X.K T r to):=by
 intro pins s σ H Q I h
 refine wpAny_Call_method0_late hbase hline (thn (ho pins s σ H _ I h) fun v s1 hq9=>?_)
 obtain⟨x,H1,I1,r1,ty,q1⟩:=hq9
 obtain⟨h1,h2⟩:=tyV_is I1 r1 ty
 exact⟨T,id,pa,slot,hty,h1,h2,Calls.callWith_builtin rfl (PySem.evalArgs_none (hm pins s1 σ H1 x [] v [] Q I1 r1 .nil q1))⟩
theorem pe_bm(pa:PlainAttrs T)(slot:Slot T name id) (hty:typeOf (.builtin id)=pure (.type "method_descriptor")) (hm:MtR X id r) (ho:PE X o to) (ha:PA X (e :: es) t)
  (hbase:attributeBase o name X.env (eval o X.env)=eval o X.env:=by rfl)
  (hfew:((backTo cpos (starEach (e :: es) X.env)).all (fun x=>!x.1) && (backToKw cpos (keywordEach [] X.env)).all (fun x=>x.1.isSome)
   && decide ((e :: es).length + ([]:List Keyword).length + (if ([]:List Keyword).isEmpty then 0 else 1) < 30))=true:=by rfl)
  (hline:(apos.endLine == cpos.line)=true:=by rfl) (hs:starEach (e :: es) X.env=(false,eval e X.env) :: starEach es X.env:=by rfl) (hplain:(backTo cpos (starEach es X.env)).any (·.1)=false:=by rfl) :
  PE X (.Call (.Attribute o name apos) (e :: es) [] cpos) (tBM X.K T r to t):=by
 intro pins s σ H Q I h
 refine wpAny_Call_method_late hbase hfew hline rfl (thn (ho pins s σ H _ I h) fun v s1 hq9=>?_)
 obtain⟨x,H1,I1,r1,ty,q1⟩:=hq9
 obtain⟨h1,h2⟩:=tyV_is I1 r1 ty
 refine⟨T,id,pa,slot,hty,h1,h2,?_⟩
 have hA:=ha cpos pins s1 σ H1 _ I1 q1
 rw [hs] at hA ⊢
 refine Calls.callWith_builtin (by show(false || (backTo cpos (starEach es X.env)).any (·.1))=false;rw [hplain]<;>rfl) (Calls.evalArgs_plain ?_)
 exact thn hA fun us s2 hq8=>by obtain⟨vs,H2,I2,r2,q2⟩:=hq8;exact hm pins s2 σ H2 x vs v us Q I2 r1 r2 q2
end
end L2
namespace L2
open PySem PySem.Spec PyProof.Rows
def MtM(X:Cx)(id:String)(r:V->List V->Hp->VK->Prop):Prop:=
 ∀ (pins:List (Addr × Obj)) (s:Shared) (σ:St) (H:Hp) (x:V) (xs:List V) (v:Value) (us:List Value) (Q:VK),Inv X pins σ H s->RelV x v->Vals xs us->r x xs H Q ->
  wpAny (model X.prog X.w) X.A (call (.builtin id) (v :: us)) (EP X pins σ Q) X.xe s
theorem Vals.one:∀ {x:V} {us:List Value},Vals [x] us->∃ u,us=[u]/\RelV x u
 | _,_,.cons r .nil=>⟨_,rfl,r⟩
theorem Vals.two:∀ {x y:V} {us:List Value},Vals [x,y] us->∃ u v,us=[u,v]/\RelV x u/\RelV y v
 | _,_,_,.cons r (.cons q .nil)=>⟨_,_,rfl,r,q⟩
theorem Vals.zero:∀ {us:List Value},Vals [] us->us=[]
 | _,.nil=>rfl
theorem Vals.dropLast{xs:List V}{us:List Value}(h:Vals xs us):Vals xs.dropLast us.dropLast:=by
 induction h with
 | nil=>exact .nil
 | cons r t ih =>
  cases t with
  | nil=>exact .nil
  | cons q t'=>exact .cons r ih
theorem Vals.rep{xs:List V}{us:List Value}(h:Vals xs us):∀ k:Nat,Vals (List.replicate k xs).flatten (List.replicate k us).flatten
 | 0=>.nil
 | k + 1=>by
  rw [List.replicate_succ,List.replicate_succ,List.flatten_cons,List.flatten_cons]
  exact Vals.append h (Vals.rep h k)
theorem qc0d{α:Type}(l:List α):l.eraseIdx (l.length - 1)=l.dropLast:=by
 induction l with
 | nil=>rfl
 | cons a r ih =>
  cases r with
  | nil=>rfl
  | cons b r =>
   have e:(a :: b :: r).length - 1=((b :: r).length - 1) + 1:=by
    have h1:(a :: b :: r).length=r.length + 2:=rfl
    have h2:(b :: r).length=r.length + 1:=rfl
    omega
   rw [e,List.eraseIdx_cons_succ,ih]
   all_goals rfl
theorem foldl_rep(its:List Value):∀ (k:Nat) (acc:List Value),
  List.foldl (fun x1 x2=>x1 ++ x2) acc.toArray (List.replicate k its.toArray)=(acc ++ (List.replicate k its).flatten).toArray
 | 0,acc=>by simp
 | k + 1,acc=>by
  have e:acc.toArray ++ its.toArray=(acc ++ its).toArray:=by simp
  have e2:(acc ++ its) ++ (List.replicate k its).flatten=acc ++ (List.replicate (k + 1) its).flatten:=by
   rw [List.replicate_succ,List.flatten_cons,List.append_assoc]
  rw [← e2,← foldl_rep its k (acc ++ its),← e,List.replicate_succ,List.foldl_cons]
section
variable{X:Cx}{pins:List (Addr × Obj)}{σ:St}{H:Hp}{s:Shared}{l b:Addr}{xs ys zs:List V}
theorem Inv.lset{its its':List Value}{n:Nat}{f:Array Value->Array Value}{t':Nat}(I:Inv X pins σ H s)(hH:H l=some (.lst xs))
  (e:s.heap.get? l=some { cls:=.type "list",data:=.seq its.toArray n }) (hf:f its.toArray=its'.toArray) (hv:Vals ys its') (hz:ys.length <= sizeLine) :
  Inv X pins σ (upd H l (.lst ys)) { s with heap:=s.heap.update l (Obj.mapSeq f),toks:=t' }:=by
 have q:=PySem.IsL.update e f
 rw [hf] at q
 refine I.write (x:=l) (e:=l) (by rw [hH];exact trivial) (.inl rfl) (fun b' u hb hu=>(Heap.get?_update_other s.heap (Obj.mapSeq f) (Ne.symm hb)).trans hu) ⟨_,q⟩ ?_
 exact⟨hz,its',_,hv,q⟩
theorem Inv.lnew{its:List Value}{t':Nat}(I:Inv X pins σ H s)(hv:Vals ys its)(hz:ys.length <= sizeLine) :
  Inv X pins σ (upd H s.heap.objs.size (.lst ys)) { s with heap:=s.heap.push { cls:=.type "list",data:=.seq its.toArray },toks:=t' }:=
 I.laid (fun _ _ q=>Heap.get?_push_of_some _ q) (Nat.le_refl _) ⟨hz,its,0,hv,Heap.get?_push_size _ rfl⟩
theorem Inv.fresh(I:Inv X pins σ H s):H s.heap.objs.size=none:=I.hok.fresh (Nat.le_refl _)
theorem Inv.lstM(I:Inv X pins σ H s)(hH:H l=some (.lst xs)):xs.length <= sizeLine/\∃ (its:List Value) (n:Nat),Vals xs its/\xs.length=its.length/\s.heap.get? l=some { cls:=.type "list",data:=.seq its.toArray n }:=by
 obtain⟨z,its,n,r,e⟩:=I.hok l _ hH
 exact⟨z,its,n,r,r.length,e⟩
theorem qc3k{n:Nat}(h:n <= sizeLine):Builtin.List.listTooLong n=false:=by
 unfold Builtin.List.listTooLong
 exact decide_eq_false (by omega)
end
section
variable{X:Cx}
noncomputable def qb8p:V->List V->Hp->VK->Prop:=fun x vs H Q=>∃ l xs y,x=.ref l/\vs=[y]/\H l=some (.lst xs)/\xs.length < sizeLine/\Q .non (upd H l (.lst (xs ++ [y])))
theorem qa8v:MtM X "list.append" qb8p:=by
 intro pins s σ H x vs v us Q I rx rv h
 obtain⟨l,xs,y,rfl,rfl,hH,hz,q⟩:=h
 cases rx
 obtain⟨u,rfl,ru⟩:=rv.one
 obtain⟨z,its,n,r,hl,e⟩:=I.lstM hH
 refine call_meets F.slot_list_append ⟨_,e,rfl⟩ F.entry_list_append (F.args_list_append_2 _ _) (PySem.list_append l its.toArray n u (by rw [List.size_toArray];omega)) ⟨e,?_⟩
 refine⟨.non,_,I.lset (its':=its ++ [u]) hH e (by simp) (r.append (.cons ru .nil)) ?_,rfl,q⟩
 rw [List.length_append,List.length_singleton]
 omega
noncomputable def rPop:V->List V->Hp->VK->Prop:=fun x vs H Q=>∃ l xs y,x=.ref l/\vs=[]/\H l=some (.lst xs)/\xs[xs.length - 1]? = some y/\Q y (upd H l (.lst xs.dropLast))
theorem mt_pop:MtM X "list.pop" rPop:=by
 intro pins s σ H x vs v us Q I rx rv h
 obtain⟨l,xs,y,rfl,rfl,hH,hy,q⟩:=h
 cases rx
 have hus:=rv.zero
 subst hus
 obtain⟨z,its,n,r,hl,e⟩:=I.lstM hH
 obtain⟨u,hu,ru⟩:=r.get hy
 have hy':its.toArray[its.toArray.size - 1]? = some u:=by
  show its.toArray[its.length - 1]? = some u
  rw [← Array.getElem?_toList,← hl]
  exact hu
 refine call_meets F.slot_list_pop ⟨_,e,rfl⟩ F.entry_list_pop (F.args_list_pop_1 _) (MeetsSeq.list_pop_last l its.toArray n u hy' (by rw [List.size_toArray];omega)) ⟨e,?_⟩
 refine⟨y,_,I.lset (its':=its.dropLast) hH e ?_ r.dropLast ?_,ru,q⟩
 ·show its.toArray.eraseIdxIfInBounds (its.toArray.size - 1)=its.dropLast.toArray
  rw [List.size_toArray,List.eraseIdxIfInBounds_toArray,qc0d]
 ·rw [List.length_dropLast]
  omega
def rCat:R2:=fun x y H Q=>∃ l b xs zs,x=.ref l/\y=.ref b/\H l=some (.lst xs)/\H b=some (.lst zs)/\xs.length + zs.length <= sizeLine/\∀ p,H p=none->Q (.ref p) (upd H p (.lst (xs ++ zs)))
theorem op_cat:OpR X (binaryOp .Add) rCat:=by
 intro pins s σ H x y v u Q I rx ry h
 obtain⟨l,b,xs,zs,rfl,rfl,hH,hB,hz,q⟩:=h
 cases rx
 cases ry
 obtain⟨z,its,n,r,hl,e⟩:=I.lstM hH
 obtain⟨z2,its2,n2,r2,hl2,e2⟩:=I.lstM hB
 refine PySem.P.add_list e e2 ?_ (by rw [List.size_toArray,List.size_toArray];omega)
 have ea:its.toArray ++ its2.toArray=(its ++ its2).toArray:=by simp
 rw [ea]
 exact⟨.ref _,_,I.lnew (t':=s.toks) (r.append r2) (by rw [List.length_append];omega),rfl,q _ I.fresh⟩
def rRep:R2:=fun x y H Q=>∃ l k xs,x=.ref l/\y=.int k/\H l=some (.lst xs) /\ -(2 ^ 63) <= k/\k < 2 ^ 63/\xs.length * k.toNat <= sizeLine /\
 ∀ p,H p=none->Q (.ref p) (upd H p (.lst (List.replicate k.toNat xs).flatten))
theorem len_rep{α:Type}(xs:List α)(k:Nat):(List.replicate k xs).flatten.length=k * xs.length:=by
 induction k with
 | zero=>simp
 | succ k ih=>rw [List.replicate_succ,List.flatten_cons,List.length_append,ih,Nat.succ_mul,Nat.add_comm]
theorem qb1i:OpR X (binaryOp .Mult) rRep:=by
 intro pins s σ H x y v u Q I rx ry h
 obtain⟨l,k,xs,rfl,rfl,hH,h1,h2,hz,q⟩:=h
 cases rx
 obtain⟨t,rfl⟩:=ry
 obtain⟨z,its,n,r,hl,e⟩:=I.lstM hH
 have hlen:its.toArray.size * k.toNat <= sizeLine:=by rw [List.size_toArray,← hl];exact hz
 have hcap:¬ its.toArray.size * k.toNat > (2 ^ 63 - 1) / 8:=by
  have:(sizeLine:Nat) <= (2 ^ 63 - 1) / 8:=by decide
  omega
 have hfit:¬ (!Builtin.List.listFitsIndex k)=true:=by
  rw [fitsIndex_both h1 h2]
  exact Bool.false_ne_true
 have hlong:¬ Builtin.List.listTooLong (its.toArray.size * k.toNat)=true:=by
  rw [qc3k hlen]
  exact Bool.false_ne_true
 have hnew:List.foldl (fun x1 x2=>x1 ++ x2) #[] (List.replicate (if its.toArray.isEmpty=true then 0 else k.toNat) its.toArray)=(List.replicate k.toNat its).flatten.toArray:=by
  have f0:∀ m:Nat,List.foldl (fun x1 x2=>x1 ++ x2) #[] (List.replicate m its.toArray)=(List.replicate m its).flatten.toArray:=fun m=>by
   have:=foldl_rep its m []
   rw [List.nil_append] at this
   exact this
  rw [f0]
  cases its with
  | nil=>simp
  | cons a r'=>rw [if_neg (by simp)]
 refine wpAny_binaryOp_repeat_ref (T:="list") (U:="int") (by decide) ⟨_,e,rfl⟩ (fun s'=>typeIs_int s' k t) noFill_list_mul F.fills_int_mul F.slot_int_rmul repeat_list F.slot_int_index.lookup
  (call_meets F.slot_int_rmul (typeIs_int s k t) F.entry_int_rmul (F.args_int_rmul_2 _ _) (int___rmul___int_list k t l its.toArray n)
   ⟨e,rfl,⟨_,e,rfl⟩,call_meets F.slot_list_mul ⟨_,e,rfl⟩ F.entry_list_mul (F.args_list_mul_2 _ _) (AutoListH.list___mul___list_int_3 l its.toArray n k t hfit hcap hlong) ⟨e,?_⟩⟩)
 rw [hnew]
 exact⟨.ref _,_,I.lnew (t':=s.toks) (r.rep k.toNat) (by rw [len_rep,Nat.mul_comm];exact hz),rfl,q _ I.fresh⟩
end
section
variable{prog:Program}{w:World}{A:Around}{E:Value->Shared->Prop}{s:Shared}
set_option maxRecDepth 100000 in
end
section
variable{X:Cx}
end
end L2
namespace Att
open PySem PySem.W PySem.Calls PyProof.Rows
theorem qb2v{P:Params}{h:Heap}:∀ (ns:List Int) (vs:List Value),WellAll P h vs (ns.map WData.int)->IntsAre vs ns:=by
 intro ns
 induction ns with
 | nil =>
  intro vs w
  rw [List.map_nil] at w
  cases w
  exact .nil
 | cons n ns ih =>
  intro vs w
  rw [List.map_cons] at w
  cases w with
  | cons a b =>
   cases a
   exact .cons _ _ (ih _ b)
theorem qc1r{l:OpenLaw}{n:Nat}(hn:l.most=some n){P:Params}{h:Heap}{args:List WData}{vals:List Value}
  (hpre:l.row.toRowW.claim.pre args=true) (hwl:WellAll P h vals args) :
  ∃ a vs ns,vals=[Value.ref a]/\args=[WData.list (ns.map WData.int)]/\h.get? a=some { cls:=.type "list",data:=.seq vs.toArray }/\IntsAre vs ns/\ns.length <= n:=by
 have hsh:WShape.hasAll [] args [.list .int]=true:=(pre_splitW hpre).1
 have hc:l.pre.holds [] { args:=args }=true:=(pre_splitW hpre).2
 obtain⟨d,r,rfl,h1,h2⟩:=hasAllW_cons hsh
 obtain rfl:=hasAllW_nil h2
 obtain⟨xs,rfl,h3⟩:=hasW_list h1
 obtain⟨ns,rfl⟩:=items_int h3
 have hlen:ns.length <= n:=by
  unfold OpenLaw.pre at hc
  have h4:(WTm.not (.lt (.lit (.int (n:Int))) (.len (.arg 0)))).holds [] { args:=[.list (ns.map .int)] }=true:=by
   have h4:=(holds_andW hc).1
   rw [hn] at h4
   exact h4
  have h5:=condW_of h4 (w_not (w_lt w_lit (w_len_list (w_arg rfl))))
  rw [List.length_map] at h5
  refine Nat.le_of_not_lt fun q=>?_
  have q':(n:Int) < ((ns.length:Nat):Int):=by omega
  first
   | (rw [decide_eq_true q'] at h5;exact absurd h5 (by decide))
   | (simp at h5;omega)
 cases hwl with
 | cons w1 w2 =>
  cases w2
  cases w1 with
  | list ho hall=>exact⟨_,_,ns,rfl,rfl,ho,qb2v ns _ hall,hlen⟩
theorem qc1s(l:OpenLaw)(args:List WData):l.row.toRowW.claim.post args (.bool true) args=true:=
 postW_of (r:=l.row.toRowW) (X:=(true == true))
  (show WShape.has [] (.bool true) .bool=true by first | rfl | decide | simp [WShape.has,WShape.arms,WShape.armsAll])
  (show(WTm.eq .res (.lit (.bool true))).value [] { args:=args,res:=some (.bool true),after:=args }=some (.bool (true == true)) from w_eq_bool (w_res rfl) w_lit) rfl
theorem attach_call{l:OpenLaw}{n:Nat}{q:Program}{loose:List Str}{XP:(Str->Option Value)->Heap->Prop}{YP:World->Heap->Prop}{d:DefRec}
  (hn:l.most=some n) (hdf:d.params.defaults=[])
  (call:∀ (w:World) (s₀ s₁:Shared) (mg mb:Str->Option Value) (fa:Addr) (o:Obj) (pm cd doc:Value) (a:Addr) (vs:List Value) (ns:List Int),
   Ground q loose [] XP w s₀ mg mb s₁.heap->YP w s₁.heap ->
   s₁.heap.get? fa=some o->o.data=.func (docDef d.name d.params d.body d.scope pm cd doc)->s₁.heap.CodeRec cd d.name->mg d.name=some (.ref fa) ->
   s₁.heap.get? a=some { cls:=.type "list",data:=.seq vs.toArray }->IntsAre vs ns->ns.length <= n->s₁.gens = #[] ->
   codeAny (model l.prog w) callerA (.call (.ref fa) ⟨[.ref a],[]⟩) (fun r s'=>r=.ok (.ret (.bool true))/\OldK s₁.heap s'.heap/\s'.os=s₁.os/\AllBare s'.gens) s₁) :
  WalkO q loose XP YP l.row.toRowW d [] (fun f vs=>PySem.call f vs):=by
 intro w s₀ s₁ mg mb G Y fa o pm cd doc dV kV ho hd hcd hD hmg hg args vals as hpre hlay hrd hwl hlo
 obtain rfl:dV=.none:=Dflts.none hD hdf
 obtain rfl:kV=.none:=Dflts.noKw hD
 obtain⟨a,vs,ns,rfl,rfl,hobj,hints,hlen⟩:=qc1r hn hpre hwl
 refine enter_call (codeAny_mono (call w s₀ s₁ mg mb fa o pm cd doc a vs ns G Y ho (fd_plain hd) hcd hmg hobj hints hlen hg) fun r s' hq=>?_)
 obtain⟨rfl,h2,h3,h4⟩:=hq
 exact⟨.inl ⟨.bool true,.bool true,[],rfl,fun _=>rfl,.bool true,qc1s l _,fun _=>⟨List.Pairwise.nil,fun _ hm=>(nomatch hm)⟩⟩,h2,h3,h4⟩
section
variable{prog:Program}{w:World}{A:Around}{E:Value->Shared->Prop}{s:Shared}{K:Frag}
end
end Att
namespace L2
open PySem PySem.Spec PyProof.Rows
theorem qb4u:∀ {vs:List Value} {ns:List Int},IntsAre vs ns->Vals (ns.map V.int) vs
 | _,_,.nil=>.nil
 | _,_,.cons n t h=>.cons ⟨t,rfl⟩ (qb4u h)
def Only(H:Hp):Prop:=∀ b,H b=none ∨ ∃ o xs,H b=some (.frz o (.lst xs))
theorem qc3l{P:Program}{w:World}{K:PySem.W.Frag}{mg mb:Str->Option Value}{CX:CXT}{k:Nat}{fa a:Addr}{fd:FuncData}{x:Str}{sp:Sp}{s₁:Shared}{vs:List Value}{ns:List Int}
  (KX:K.In s₁.heap) (hns:s₁.heap.Ns mainGlobals mg) (hb:s₁.heap.Ns builtinsNs mb) (hbb:∀ x:Str,x ≠ "__name__" -> mb x=bootBuiltins x) (hlim:s₁.heap.NoLimit) (hg:s₁.gens = #[])
  (ha:s₁.heap.get? a=some { cls:=.type "list",data:=.seq vs.toArray }) (hi:IntsAre vs ns) (hl:ns.length <= sizeLine) (hr:Room k callerA)
  (F:∀ base:Heap,K.In base->base.Ns mainGlobals mg->FnOk P w K mg base CX k fa fd [x] sp) (hbind:∀ (s:Shared) (u:Value),BindsTo s fd ⟨[u],[]⟩ [(x,u)])
  (hsp:∀ H:Hp,Only H->SqL K H a (ns.map V.int)->sp [.ref a] H (fun v _=>v=.bl true) fun _ _ _=>False)
  (hCX:∀ H e s',CX [] H s₁ (fun _ _ _=>False) e s'->False) :
  codeAny (model P w) callerA (.call (.ref fa) ⟨[.ref a],[]⟩) (fun r s'=>r=.ok (.ret (.bool true))/\OldK s₁.heap s'.heap/\s'.os=s₁.os/\AllBare s'.gens) s₁:=by
 have rv:=qb4u hi
 have lenV:=hi.length
 -- from an abstract heap in which nothing but the script may be tracked
 have core:∀ H:Hp,Only H->SqL K H a (ns.map V.int)->HOk P w H s₁.heap->(∀ b,H b ≠ none->b=a)->(H a ≠ none->K.lookup a=none) ->
   codeAny (model P w) callerA (.call (.ref fa) ⟨[.ref a],[]⟩) (fun r s'=>r=.ok (.ret (.bool true))/\OldK s₁.heap s'.heap/\s'.os=s₁.os/\AllBare s'.gens) s₁:=by
  intro H hO hS hok hA hK
  have base_of:∀ {b:Addr} {o:Obj},s₁.heap.get? b=some o->H b=none->(hidT s₁.heap H).get? b=some o:=fun e n=>qc3a e n
  have noA:∀ {b:Addr} {o:Obj} {es:Array DictEntry} {ep:Nat},s₁.heap.get? b=some o->o.data=.dict es ep->H b=none:=fun{b o es ep} e d=>by
   cases q:H b with
   | none=>rfl
   | some u =>
    have e':b=a:=hA b (by rw [q];simp)
    subst e'
    rw [ha] at e;cases e
    have d':Data.seq vs.toArray _=Data.dict es ep:=d
    cases d'
  have nsK:∀ {b:Addr} {m:Str->Option Value},s₁.heap.Ns b m->(hidT s₁.heap H).Ns b m:=fun{b m} ⟨o,es,ep,e,d,r⟩=>⟨o,es,ep,base_of e (noA e d),d,r⟩
  have hKb:K.In (hidT s₁.heap H):=fun b o e=>base_of (KX b o e) (by
   cases q:H b with
   | none=>rfl
   | some u =>
    have e':b=a:=hA b (by rw [q];simp)
    subst e'
    rw [hK (by rw [q];simp)] at e;cases e)
  have hM:Mod K mg (hidT s₁.heap H):=⟨hKb,nsK hns,⟨mb,nsK hb,hbb⟩,let ⟨mc,h1,h2⟩:=hlim;⟨mc,nsK h1,h2⟩⟩
  have e0:Env0 P w K mg (hidT s₁.heap H) callerA [] s₁ H:=⟨rfl,hM,fun b o e=>of_hidT e,Nat.le_of_eq (qc1g _ _),trivial,fun b hb=>absurd (show b ∈ ([]:List Addr) from hb) (by simp),hok,.of_eq hg⟩
  refine codeAny_mono ((F _ hKb (nsK hns)).run callerA [] s₁ H ⟨[.ref a],[]⟩ [.ref a] [.ref a] _ _ hr e0 (hbind s₁ (.ref a)) (.cons rfl .nil) (hsp H hO hS)) fun r s' h=>?_
  cases r with
  | error e=>exact(hCX H e s' h).elim
  | ok fl =>
   cases fl with
   | next=>exact False.elim h
   | brk=>exact False.elim h
   | cont=>exact False.elim h
   | ret u =>
    obtain⟨v,H',os,bare,un,hok',r',q⟩:=h
    have q':v=.bl true:=q
    subst q'
    obtain rfl:u=Value.bool true:=r'
    refine⟨rfl,OldK.of_keep fun b o e=>?_,os,bare⟩
    cases q:H b with
    | none=>exact un.keep b o e q (by intro z;exact absurd (show b ∈ ([]:List Addr) from z) (by simp)) (by simp)
    | some u =>
     rcases hO b with z | ⟨ob,xs,z⟩
     ·rw [q] at z;cases z
     ·have z2:=un.frzs b ob _ z
      obtain⟨e1,_⟩:=hok b _ z
      obtain⟨e2,_⟩:=hok' b _ z2
      rw [e] at e1;cases e1
      exact e2
 cases hk:K.lookup a with
 | some o =>
  -- the script is one of the module's own objects
  have e:=KX a o hk
  rw [ha] at e
  cases e
  refine core (fun _=>none) (fun _=>.inl rfl) (.inr ⟨_,vs.toArray,_,hk,rfl,rfl,rfl,by rw [List.size_toArray,lenV];exact hl,by simpa using rv⟩) (fun b u z=>by have z':(none:Option HO)=some u:=z;cases z') (fun b z=>absurd rfl z) fun z=>absurd rfl z
 | none =>
  refine core (fun b=>if b=a then some (.frz { cls:=.type "list",data:=.seq vs.toArray } (.lst (ns.map V.int))) else none) (fun b=>?_) (.inl (.inr ⟨{ cls:=.type "list",data:=.seq vs.toArray },if_pos rfl⟩)) (fun b u z=>?_) (fun b z=>?_) fun _=>hk
  ·by_cases hb:b=a
   ·exact .inr ⟨_,_,if_pos hb⟩
   ·exact .inl (if_neg hb)
  ·by_cases hb:b=a
   ·have z':=(if_pos hb).symm.trans z
    cases z'
    subst hb
    exact⟨ha,by rw [List.length_map];exact hl,vs,_,rv,ha⟩
   ·have z':=(if_neg hb).symm.trans z
    cases z'
  ·by_cases hb:b=a
   ·exact hb
   ·exact absurd (if_neg hb) z
end L2
namespace L2
open PySem PySem.Spec PyProof.Rows
theorem walk_of{l:PySem.W.OpenLaw}{n k:Nat}{q:Program}{loose:List Str}{XP:(Str->Option Value)->Heap->Prop}{YP:World->Heap->Prop}{d:DefRec}{K:Params->PySem.W.Frag}{CX:World->CXT}{sp:World->Sp}{x:Str}
  (hn:l.most=some n) (hn2:n <= sizeLine) (hdf:d.params.defaults=[]) (hr:Room k callerA)
  (hY:∀ (w:World) (h:Heap),YP w h->(K w.params).In h)
  (F:∀ (w:World) (mg:Str->Option Value) (fa:Addr) (h:Heap),(K w.params).In h->h.Ns mainGlobals mg->mg d.name=some (.ref fa) ->
   ∃ fd:FuncData,(∀ (s:Shared) (u:Value),BindsTo s fd ⟨[u],[]⟩ [(x,u)]) /\
    ∀ base:Heap,(K w.params).In base->base.Ns mainGlobals mg->FnOk l.prog w (K w.params) mg base (CX w) k fa fd [x] (sp w))
  (hsp:∀ (w:World) (H:Hp) (a:Addr) (ns:List Int),ns.length <= n->Only H->SqL (K w.params) H a (ns.map V.int)->sp w [.ref a] H (fun v _=>v=.bl true) fun _ _ _=>False)
  (hCX:∀ (w:World) (H:Hp) (s:Shared) (e:Value) (s':Shared),CX w [] H s (fun _ _ _=>False) e s'->False) :
  PySem.W.WalkO q loose XP YP l.row.toRowW d [] (fun f vs=>PySem.call f vs):=by
 refine Att.attach_call hn hdf fun w s₀ s₁ mg mb fa o pm cd doc a vs ns G Y ho hd hcd hmg hobj hints hlen hg=>?_
 have KX:=hY w _ Y
 obtain⟨fd,hb,hF⟩:=F w mg fa _ KX G.T.g hmg
 exact qc3l KX G.T.g G.T.b G.T.builtins G.T.nolimit hg hobj hints (Nat.le_trans hlen hn2) hr hF hb (fun H hO hS=>hsp w H a ns hlen hO hS) fun H e s'=>hCX w H s₁ e s'
end L2
namespace L2
open PySem PySem.Spec PyProof.Rows
noncomputable def inClass(s:Stmt)(j:Nat):Stmt:=match s with
 | .ClassDef _ _ _ body _ _ _ _ _ _ _=>body.getD j (.Pass ⟨0,0,0,0⟩)
 | _=>.Pass ⟨0,0,0,0⟩
noncomputable def qa4h(s:Stmt):Arguments:=match s with
 | .FunctionDef _ a _ _ _ _ _ _ _ _=>a
 | _=>{ posonlyargs:=[],args:=[],vararg:=none,kwonlyargs:=[],kw_defaults:=[],kwarg:=none,defaults:=[] }
noncomputable def qa3c(s:Stmt):List Stmt:=match s with
 | .FunctionDef _ _ b _ _ _ _ _ _ _=>b
 | _=>[]
noncomputable def qa0i(s:Stmt):Scope:=match s with
 | .FunctionDef _ _ _ _ _ _ sc _ _ _=>sc
 | _=>{ kind:=.function,names:=[],isGenerator:=false,isCoroutine:=false }
abbrev CX0:CXT:=fun _ _ _ _ _ _=>False
abbrev E0:XK:=fun _ _ _=>False
theorem pass0{X:Cx}:qa9n CX0 X E0:=fun _ _ _ _ _ _ _ h=>h.elim
structure Fun(K:PySem.W.Frag)(x qual:Str)(st:Stmt)(f:Addr)(fd:FuncData):Prop where
 ex:∃ (oc:Value) (od:Option Addr) (kV doc pm:Value) (an:Option Addr) (cdv ct:Value) (osl:Array (Option Value)),
  fd=PySem.W.fnOf x qual (qa4h st) (qa3c st) (qa0i st) .none kV doc pm an cdv ct/\K.lookup f=some ⟨oc,od,.func fd,osl⟩/\PySem.W.codeIn K cdv qual=true
 kp:PySem.W.keepIn K (.ref f)=true
section
variable{P:Program}{w:World}{K:PySem.W.Frag}{mg:Str->Option Value}{base:Heap}
theorem Fun.ok{x qual:Str}{st:Stmt}{f:Addr}{fd:FuncData}{N ps:List Str}{k:Nat}{sp:Sp}(F:Fun K x qual st f fd)(S:FnScope N ps (qa0i st))(len:∀ vs H Q E,sp vs H Q E->vs.length=ps.length)
  (hbody:∀ (cdv:Value) (A:Around) (outer:List Env) (s:Shared) (H:Hp) (vs:List V) (Q:VK) (E:XK),Room k (A.deeper (envOfC qual (qa0i st) s.heap.objs.size f cdv))->sp vs H Q E ->
   ∃ t,PSs (cxOf CX0 P w K mg base N qual (qa0i st) f cdv A outer s H E).nox (qa3c st) t/\t { nx:=fun _ H'=>Q .non H',rt:=Q } (start N vs) H):FnOk P w K mg base CX0 (k + 1) f fd ps sp:=by
 obtain⟨oc,od,kV,doc,pm,an,cdv,ct,osl,rfl,lk,hcd⟩:=F.ex
 refine fn_of lk hcd S len fun A outer s H vs Q E hr hsp=>?_
 obtain⟨t,h,q⟩:=hbody cdv A outer s H vs Q E hr hsp
 exact⟨t,h.nox,q⟩
theorem Fun.binds{x qual:Str}{st:Stmt}{f:Addr}{fd:FuncData}{ps:List Str}(F:Fun K x qual st f fd)
  (h:∀ (kV doc pm:Value) (an:Option Addr) (cdv ct:Value) (us:List Value),us.length=ps.length->bindArgs (PySem.W.fnOf x qual (qa4h st) (qa3c st) (qa0i st) .none kV doc pm an cdv ct) ⟨us,[]⟩=pure (ps.zip us)):Binds K fd ps []:=by
 obtain⟨oc,od,kV,doc,pm,an,cdv,ct,osl,rfl,lk,hcd⟩:=F.ex
 exact .all (h kV doc pm an cdv ct)
theorem qa3n{x qual:Str}{st:Stmt}{f:Addr}{oc:Value}{od an:Option Addr}{osl:Array (Option Value)}{kV doc pm cdv ct:Value}(l:K.lookup f=some ⟨oc,od,.func (PySem.W.fnOf x qual (qa4h st) (qa3c st) (qa0i st) .none kV doc pm an cdv ct),osl⟩)
  (c:PySem.W.codeIn K cdv qual=true) (k:PySem.W.keepIn K (.ref f)=true):Fun K x qual st f (PySem.W.fnOf x qual (qa4h st) (qa3c st) (qa0i st) .none kV doc pm an cdv ct):=⟨⟨oc,od,kV,doc,pm,an,cdv,ct,osl,rfl,l,c⟩,k⟩
end
theorem hu_of{A:Around}{k:Nat}(hr:Room k A):A.units + 1 < cLine:=Nat.lt_of_le_of_lt (Nat.add_le_add_left (by decide:1 <= 64) _) hr.units
theorem qa3a{n:Nat}(h:n <= 1000):n < sizeLine:=Nat.lt_of_le_of_lt h (by decide)
section
variable{X:Cx}
theorem pv(i:Nat){x:Str}{pos:Pos}(hN:X.N[i]? = some x:=by rfl)(hv:Vis X.env.scope x:=by first | exact Or.inl rfl | exact Or.inr (Or.inl rfl) | exact Or.inr (Or.inr rfl)) (hd:(x == ("__debug__" : Str))=false:=by decide)
  (hcd:(x == ("__classdict__" : Str))=false:=by decide):PE X (.Name x pos) (tVar i):=qa9k hN hv hd hcd
end
theorem iteF{A B:Prop}(h:B):if false=true then A else B:=by
 rw [if_neg Bool.false_ne_true]
 exact h
theorem iteT{A B:Prop}(h:A):if true=true then A else B:=by
 rw [if_pos rfl]
 exact h
theorem ite2{c A B:Prop}[Decidable c](h1:c->A)(h2:¬ c->B):if c then A else B:=by
 by_cases h:c
 ·rw [if_pos h]
  exact h1 h
 ·rw [if_neg h]
  exact h2 h
def Same(H H':Hp):Prop:=∀ b o,H b=some o->H' b=some o
theorem Same.refl(H:Hp):Same H H:=fun _ _ h=>h
theorem Same.free{H H':Hp}(e:Same H H'){l:Addr}(h:H' l=Option.none):H l=Option.none:=by
 cases q:H l with
 | none=>rfl
 | some o =>
  rw [e l o q] at h
  cases h
end L2
end
section
namespace L2
open PySem PySem.Spec PyProof.Rows
noncomputable def clOf(env:Env):List (Str × NameKind)->List (Str × Addr)->List (Str × Addr)
 | [],acc=>acc
 | (n,k) :: r,acc=>if k == .free then clOf env r ((n,(env.cells.lookup n).getD 0) :: acc) else clOf env r acc
theorem qb0d(env:Env)(f:Str × NameKind->List (Str × Addr)->Sem (ForInStep (List (Str × Addr)))) :
  ∀ (names:List (Str × NameKind)) (acc:List (Str × Addr)),
   (∀ y ∈ names,∀ c,f y c=if (y.2 == .free)=true then pure (.yield ((y.1,(env.cells.lookup y.1).getD 0) :: c)) else pure (.yield c)) ->
   (forIn names acc f:Sem _)=pure (clOf env names acc)
 | [],acc,_=>by rw [List.forIn_nil];rfl
 | (n,k) :: r,acc,h=>by
  rw [List.forIn_cons,h (n,k) List.mem_cons_self]
  have hr:∀ y ∈ r,∀ c,f y c=if (y.2 == .free)=true then pure (.yield ((y.1,(env.cells.lookup y.1).getD 0) :: c)) else pure (.yield c):=fun y hy=>h y (List.mem_cons_of_mem _ hy)
  unfold clOf
  by_cases hk:(k == NameKind.free)=true
  ·rw [if_pos hk,if_pos hk,← qb0d env f r _ hr]
   all_goals rfl
  ·rw [if_neg hk,if_neg hk,← qb0d env f r _ hr]
   all_goals rfl
theorem qb0z{env:Env}{scope:Scope}(h:∀ y ∈ scope.names,y.2=.free->∃ c,env.cells.lookup y.1=some c) :
  closureFor scope env=pure (clOf env scope.names []):=by
 simp only [closureFor]
 rw [qb0d env _ scope.names [] (fun y hy c=>by
  obtain⟨n,k⟩:=y
  by_cases hk:k=.free
  ·subst hk
   obtain⟨a,ha⟩:=h (n,.free) hy rfl
   have e:cellOf env n=pure a:=by unfold cellOf;rw [ha]
   simp only [beq_self_eq_true,if_true,e,ha,Option.getD_some]
   rfl
  ·have hb:(k == NameKind.free)=false:=by simpa using hk
   simp only [hb,Bool.false_eq_true,if_false])]
 rfl
theorem qa6j(env:Env):∀ (names:List (Str × NameKind)) (acc:List (Str × Addr)),clOf env names acc=clOf env names [] ++ acc
 | [],acc=>rfl
 | (n,k) :: r,acc=>by
  unfold clOf
  split
  ·rw [qa6j env r,qa6j env r [_],List.append_assoc];rfl
  ·exact qa6j env r acc
theorem qa6k{env:Env}:∀ {names:List (Str × NameKind)} {x:Str} {c:Addr},(x,c) ∈ clOf env names []->(x,NameKind.free) ∈ names/\c=(env.cells.lookup x).getD 0
 | [],x,c,h=>by cases h
 | (n,k) :: r,x,c,h=>by
  unfold clOf at h
  split at h
  ·rename_i hk
   rw [qa6j] at h
   rcases List.mem_append.mp h with h | h
   ·exact⟨List.mem_cons_of_mem _ (qa6k h).1,(qa6k h).2⟩
   ·have e:(x,c)=(n,(env.cells.lookup n).getD 0):=by simpa using h
    have hk':k=.free:=by simpa using hk
    cases e
    exact⟨by rw [hk'];exact List.mem_cons_self,rfl⟩
  ·exact⟨List.mem_cons_of_mem _ (qa6k h).1,(qa6k h).2⟩
theorem qb3v{env:Env}:∀ {names:List (Str × NameKind)} {x:Str},(x,NameKind.free) ∈ names->(x,(env.cells.lookup x).getD 0) ∈ clOf env names []
 | [],x,h=>by cases h
 | (n,k) :: r,x,h=>by
  unfold clOf
  rcases List.mem_cons.mp h with e | h
  ·cases e
   rw [if_pos (by rfl),qa6j]
   exact List.mem_append_right _ (by simp)
  ·split
   ·rw [qa6j];exact List.mem_append_left _ (qb3v h)
   ·exact qb3v h
theorem qa4c:∀ (names:List (Str × NameKind)) (n:Nat) (acc:List (Str × Addr)),cellsFrom n names acc=cellsFrom n names [] ++ acc
 | [],_,acc=>rfl
 | (x,k) :: r,n,acc=>by
  unfold cellsFrom
  split
  ·rw [qa4c r,qa4c r _ [_],List.append_assoc];rfl
  ·exact qa4c r n acc
theorem qa2f:∀ {names:List (Str × NameKind)} {n:Nat} {x:Str} {c:Addr},(x,c) ∈ cellsFrom n names []->(x,NameKind.cell) ∈ names/\n <= c
 | [],n,x,c,h=>by cases h
 | (y,k) :: r,n,x,c,h=>by
  unfold cellsFrom at h
  split at h
  ·rename_i hk
   rw [qa4c] at h
   rcases List.mem_append.mp h with h | h
   ·have q:=qa2f h
    exact⟨List.mem_cons_of_mem _ q.1,by omega⟩
   ·have e:(x,c)=(y,n):=by simpa using h
    have hk':k=.cell:=by simpa using hk
    cases e
    exact⟨by rw [hk'];exact List.mem_cons_self,Nat.le_refl _⟩
  ·have q:=qa2f h
   exact⟨List.mem_cons_of_mem _ q.1,q.2⟩
theorem qa6l{α:Type}(x:Str):∀ (a b:List (Str × α)),(a ++ b).lookup x=(a.lookup x).or (b.lookup x)
 | [],b=>by simp
 | (k,v) :: r,b=>by
  rw [List.cons_append,List.lookup_cons,List.lookup_cons]
  cases x == k with
  | true=>rfl
  | false=>exact qa6l x r b
theorem lookup_mem{α:Type}:∀ {l:List (Str × α)} {x:Str} {v:α},(x,v) ∈ l->∃ u,l.lookup x=some u
 | (k,w) :: r,x,v,h=>by
  rw [List.lookup_cons]
  cases e:x == k with
  | true=>exact⟨w,rfl⟩
  | false =>
   rcases List.mem_cons.mp h with q | q
   ·cases q;simp at e
   ·exact lookup_mem q
theorem qa4l{α:Type}:∀ {l:List (Str × α)} {x:Str} {v:α},(l.map (·.1)).Nodup->(x,v) ∈ l->l.lookup x=some v
 | (k,w) :: r,x,v,hn,h=>by
  rw [List.lookup_cons]
  rw [List.map_cons,List.nodup_cons] at hn
  rcases List.mem_cons.mp h with q | q
  ·cases q;simp
  ·have:(x == k)=false:=by
    refine beq_eq_false_iff_ne.mpr ?_
    rintro rfl
    exact hn.1 (List.mem_map.mpr ⟨(x,v),q,rfl⟩)
   rw [this]
   exact qa4l hn.2 q
theorem qa9p(env:Env)(x:Str):∀ (names:List (Str × NameKind)),
  (names.map fun(n,k)=>if (k == NameKind.free && env.scope.kind == .function && env.kindOf n == some .cell) then(n,NameKind.cell) else(n,k)).lookup x =
   (names.lookup x).map fun k=>if (k == NameKind.free && env.scope.kind == .function && env.kindOf x == some .cell) then NameKind.cell else k
 | []=>rfl
 | (n,k) :: r=>by
  rw [List.map_cons,List.lookup_cons]
  cases hx:x == n with
  | true =>
   have e:x=n:=by simpa using hx
   subst e
   by_cases hc:(k == NameKind.free && env.scope.kind == .function && env.kindOf x == some .cell)=true
   ·simp only [if_pos hc,List.lookup_cons,hx,Option.map_some]
   ·simp only [if_neg hc,List.lookup_cons,hx,Option.map_some]
  | false =>
   have ih:=qa9p env x r
   by_cases hc:(k == NameKind.free && env.scope.kind == .function && env.kindOf n == some .cell)=true
   ·simp only [if_pos hc,List.lookup_cons,hx];exact ih
   ·simp only [if_neg hc,List.lookup_cons,hx];exact ih
theorem qb7m{M:Model}{A:Around}{E:Value->Shared->Prop}{s:Shared}{scope:Scope}{globals:Addr}{cl:List (Str × Addr)}{qual:Str}{outer:Env}{Q:Env->Shared->Prop}
  (hQ:Q (newEnv scope s.heap.objs.size globals (cellsFrom (s.heap.objs.size + 1) scope.names cl) qual none .none (some outer) builtinsNs)
    { s with heap:=pushCells (s.heap.push { cls:=.type "dict",data:=.dict #[] }) scope.names }) :
  wpAny M A (newFunctionEnv scope globals cl [] qual none .none (some outer)) Q E s:=by
 simp only [newFunctionEnv,Option.isSome_some,if_true]
 refine wpAny_bind (wpAny_alloc ?_)
 refine wpAny_bind (wpAny_layCells _ (fun name kind cells=>by cases hkc:kind == NameKind.cell<;>simp [hkc]) _ _ _ _ ?_)
 rw [show({ s with heap:=s.heap.push { cls:=.type "dict",data:=.dict #[] } }:Shared).heap.objs.size=s.heap.objs.size + 1 from Heap.size_push ..]
 rw [List.forIn_nil]
 exact wpAny_bind (wpAny_pure (wpAny_pure hQ))
section
variable{prog:Program}{w:World}{A:Around}{R:Result->Shared->Prop}{s:Shared}
theorem qb7n{elt target iter:Expr}{ifs:List Expr}{scope:Scope}{pos:Pos}{it acc:Value}{env:Env}(I:Nat->Shared->Prop)
  (turn:∀ n s,I n s->wpAny (model prog w) A (pyNext it) (fun r s₁=>match r with
   | none=>R (.ok .next) s₁
   | some v=>wpAny (model prog w) A (letOwnedTupleGo target it v) (fun _ s₂'=>wpAny (model prog w) A (assign target env v) (fun _ s₂ =>
     wpAny (model prog w) A (forIn ifs true fun c r=>if r=true then do let ok ← isTrue c env (eval c env);pure (ForInStep.yield ok) else pure (ForInStep.yield r)) (fun ok s₃ =>
      if ok=true then wpAny (model prog w) A (eval elt env) (fun x s₄ =>
       wpAny (model prog w) A (call (.builtin "list.append") [acc,x]) (fun _ s₅=>∃ m,m < n/\I m s₅) (notedBy (model prog w) A env fun e s'=>R (.error e) s') s₄) (notedBy (model prog w) A env fun e s'=>R (.error e) s') s₃
      else ∃ m,m < n/\I m s₃) (notedBy (model prog w) A env fun e s'=>R (.error e) s') s₂) (notedBy (model prog w) A env fun e s'=>R (.error e) s') s₂') (notedBy (model prog w) A env fun e s'=>R (.error e) s') s₁) (notedBy (model prog w) A env fun e s'=>R (.error e) s') s)
  (n:Nat) (h:I n s) :
  codeAny (model prog w) A (.compLoop (.ListComp elt [⟨target,iter,ifs,0⟩] scope pos) 0 it acc env) R s:=by
 refine codeAny_loop rfl I (fun n s hI=>?_) n h
 show wpAny _ A ((compTurn (.ListComp elt [⟨target,iter,ifs,0⟩] scope pos) 0 it acc env).onRaise (fun x=>do noteFrame x env;theTreesLotGoes x)) _ _ s
 refine wpAny_noted ?_
 rw [compTurn_list]
 refine wpAny_bind (wpAny_standAt (wpAny_bind (wpAny_mono (turn n s hI) (fun r s₁ h₁=>?_) fun _ _ h'=>h')))
 cases r with
 | none=>exact wpAny_pure h₁
 | some v =>
  refine wpAny_bind (wpAny_mono h₁ (fun _ s₂' h₂'=>?_) fun _ _ h'=>h')
  refine wpAny_bind (wpAny_mono h₂' (fun _ s₂ h₂=>wpAny_bind (wpAny_mono h₂ (fun ok s₃ h₃=>?_) fun _ _ h'=>h')) fun _ _ h'=>h')
  cases ok with
  | false=>exact wpAny_pure ⟨rfl,h₃⟩
  | true =>
   exact wpAny_bind (wpAny_bind (wpAny_mono h₃ (fun x s₄ h₄=>wpAny_bind (wpAny_mono h₄ (fun _ s₅ h₅=>wpAny_pure (wpAny_pure ⟨rfl,h₅⟩)) fun _ _ h'=>h')) fun _ _ h'=>h'))
end
theorem nlt{a b:Nat}(h:b <= a):¬ a < b:=Nat.not_lt.mpr h
noncomputable def cxC(X:Cx)(scope:Scope)(own:List Str)(cap:List (Str × Nat))(fp:List Addr)(s2:Shared)(H2:Hp):Cx where
 prog:=X.prog
 w:=X.w
 K:=X.K
 mg:=X.mg
 base:=X.base
 A:=X.A
 N:=own ++ cap.map (·.1)
 s₀:=s2
 H₀:=H2
 env:={ scope:=relabel scope X.env,locals:=s2.heap.objs.size + 1,globals:=X.env.globals,cells:=cellsFrom (s2.heap.objs.size + 1 + 1) scope.names (clOf X.env scope.names []),qual:=X.env.qual,func:=none,code:=X.env.code,frame:=X.env.frame,builtins:=X.env.builtins }
 outer:=X.stack
 stack:=X.stack
 ex:=fp
 fn:=fun x=>scope.names.lookup x == some .cell
 calm:=X.calm
 pn:=[]
 xe:=fun _ _=>False
noncomputable def qa6s(own:List Str)(cap:List (Str × Nat))(σ:St):St:=List.replicate own.length none ++ cap.map fun p=>(σ[p.2]?).join
noncomputable def qa5h(X:Cx)(scope:Scope)(own:List Str)(cap:List (Str × Nat)):Bool:=
 scope.kind == .function && (scope.names.all fun y=>y.2 != .free || X.env.kindOf y.1 == some .cell || X.env.kindOf y.1 == some .free) &&
 (cap.all fun p=>X.N[p.2]? == some p.1 && scope.names.lookup p.1 == some .free) && (own.all fun x=>!((cap.map (·.1)).contains x))
section
variable{X:Cx}{pins:List (Addr × Obj)}{σ:St}{H2:Hp}{s2:Shared}{scope:Scope}{own:List Str}{cap:List (Str × Nat)}{fp:List Addr}
theorem qb0e(h:qa5h X scope own cap=true):scope.kind=.function:=by
 simp only [qa5h,Bool.and_eq_true,beq_iff_eq] at h
 exact h.1.1.1
theorem qb0f(h:qa5h X scope own cap=true):∀ y ∈ scope.names,y.2=.free->X.env.kindOf y.1=some .cell ∨ X.env.kindOf y.1=some .free:=by
 simp only [qa5h,Bool.and_eq_true,beq_iff_eq] at h
 intro y hy hf
 have q:=List.all_eq_true.mp h.1.1.2 y hy
 simp only [hf,bne_self_eq_false,Bool.false_or,Bool.or_eq_true,beq_iff_eq] at q
 exact q
theorem qc1t(h:qa5h X scope own cap=true):∀ p ∈ cap,X.N[p.2]? = some p.1/\scope.names.lookup p.1=some .free:=by
 simp only [qa5h,Bool.and_eq_true,beq_iff_eq] at h
 intro p hp
 have q:=List.all_eq_true.mp h.1.2 p hp
 simp only [Bool.and_eq_true,beq_iff_eq] at q
 exact q
theorem qc3m(I:Inv X pins σ H2 s2)(hok:qa5h X scope own cap=true)(hnd:(scope.names.map (·.1)).Nodup)(hfp:∀ b ∈ fp,FpOk X pins H2 b)(hob:∀ b ∈ fp,∃ o,s2.heap.get? b=some o) :
  Inv (cxC X scope own cap fp s2 H2) [] (qa6s own cap σ) (upd H2 s2.heap.objs.size (.lst []))
   { s2 with heap:=pushCells ((s2.heap.push { cls:=.type "list",dict:=none,data:=.seq ([]:List Value).toArray }).push { cls:=.type "dict",data:=.dict #[] }) scope.names }:=by
 have hkind:=qb0e hok
 have hfree:=qb0f hok
 have hcap:=qc1t hok
 have hdf:H2 s2.heap.objs.size=none:=I.fresh
 generalize hh1:s2.heap.push { cls:=.type "list",dict:=none,data:=.seq ([]:List Value).toArray }=h1
 have z1:h1.objs.size=s2.heap.objs.size + 1:=by rw [← hh1,Heap.size_push]
 generalize hh2:h1.push { cls:=.type "dict",data:=.dict #[] }=h2
 have z2:h2.objs.size=s2.heap.objs.size + 1 + 1:=by rw [← hh2,Heap.size_push,z1]
 have k1:∀ b o,s2.heap.get? b=some o->h1.get? b=some o:=fun b o e=>by rw [← hh1];exact Heap.get?_push_of_some _ e
 have k2:∀ b o,h1.get? b=some o->h2.get? b=some o:=fun b o e=>by rw [← hh2];exact Heap.get?_push_of_some _ e
 have k3:∀ b o,h2.get? b=some o->(pushCells h2 scope.names).get? b=some o:=fun b o e=>pushCells_keeps _ _ b o e
 have k:∀ b o,s2.heap.get? b=some o->(pushCells h2 scope.names).get? b=some o:=fun b o e=>k3 b o (k2 b o (k1 b o e))
 have hD:(pushCells h2 scope.names).get? s2.heap.objs.size=some { cls:=.type "list",dict:=none,data:=.seq ([]:List Value).toArray }:=by
  refine k3 _ _ (k2 _ _ ?_)
  rw [← hh1];exact Heap.get?_push_size _ rfl
 have hC:(pushCells h2 scope.names).Ns (s2.heap.objs.size + 1) fun _=>none:=by
  have q:h2.Ns h1.objs.size fun _=>none:=by rw [← hh2];exact Heap.Ns.new h1 (.type "dict")
  rw [z1] at q
  exact q.keeps k3
 have own_ok:=cellsFrom_ok scope.names h2 (s2.heap.objs.size + 1 + 1) [] ⟨fun _ _ hm=>(nomatch hm),List.Pairwise.nil⟩ (by rw [z2];exact Nat.le_refl _)
 rw [z2] at own_ok
 have ec:(cxC X scope own cap fp s2 H2).env.cells=cellsFrom (s2.heap.objs.size + 1 + 1) scope.names [] ++ clOf X.env scope.names []:=qa4c _ _ _
 -- an entry is a new cell, or one of the names around
 have split:∀ x c,(cxC X scope own cap fp s2 H2).env.cells.lookup x=some c->((x,c) ∈ cellsFrom (s2.heap.objs.size + 1 + 1) scope.names []) ∨ ((x,NameKind.free) ∈ scope.names/\X.env.cells.lookup x=some c):=fun x c e=>by
  rw [ec,qa6l] at e
  cases e1:(cellsFrom (s2.heap.objs.size + 1 + 1) scope.names []).lookup x with
  | some c'=>rw [e1] at e;cases e;exact .inl (mem_of_lookup e1)
  | none =>
   rw [e1] at e
   have e':(clOf X.env scope.names []).lookup x=some c:=e
   obtain⟨m1,m2⟩:=qa6k (mem_of_lookup e')
   obtain⟨c',hc'⟩:=I.ok.has x (hfree _ m1 rfl)
   rw [hc'] at m2
   exact .inr ⟨m1,by rw [hc',m2];rfl⟩
 have capCell:∀ x,(x,NameKind.free) ∈ scope.names->∀ c,X.env.cells.lookup x=some c->(cxC X scope own cap fp s2 H2).env.cells.lookup x=some c:=fun x hx c hc=>by
  rw [ec,qa6l]
  cases e1:(cellsFrom (s2.heap.objs.size + 1 + 1) scope.names []).lookup x with
  | some c' =>
   have q:=(qa2f (mem_of_lookup e1)).1
   have q1:=qa4l hnd q
   have q2:=qa4l hnd hx
   rw [q1] at q2;cases q2
  | none =>
   obtain⟨u,hu⟩:=lookup_mem (qb3v (env:=X.env) hx)
   have m2:=(qa6k (mem_of_lookup hu)).2
   rw [hc] at m2
   show(clOf X.env scope.names []).lookup x=some c
   rw [hu,m2];rfl
 have lt_of_around:∀ x c,X.env.cells.lookup x=some c->c < s2.heap.objs.size:=fun x c e=>by
  obtain⟨v,q⟩:=I.cell x c e
  exact q.lt
 have kof:∀ x,(cxC X scope own cap fp s2 H2).env.kindOf x=(scope.names.lookup x).map fun k=>if (k == NameKind.free && X.env.scope.kind == .function && X.env.kindOf x == some .cell) then NameKind.cell else k:=fun x=>qa9p X.env x scope.names
 have fpLt:∀ b ∈ fp,b < s2.heap.objs.size:=fun b hb=>by obtain⟨o,e⟩:=hob b hb;exact Heap.lt_size e
 have hokH:HOk X.prog X.w (upd H2 s2.heap.objs.size (.lst [])) (pushCells h2 scope.names):=I.hok.laid k (Nat.le_refl _) ⟨Nat.zero_le _,[],_,.nil,hD⟩
 refine⟨⟨I.ok.mod,?_,I.ok.glob,I.ok.blt,Nat.le_succ _,fun x y c e1 e2=>?_,fun x hx=>?_,fun x c hf e=>?_,I.ok.hd,I.ok.frames,.inl rfl,fun b hb=>⟨?_,fun x c e=>?_⟩,I.bs,Nat.le_trans I.ok.bsz I.sz,fun b o e hb=>?_,fun b hb hb2=>?_,I.stack,I.stkFree⟩,
  rfl,I.bare,Un.laid k (Nat.le_refl _) hdf,⟨_,hC,fun i x v e1 e2 e3=>?_⟩,fun x c e=>?_,?_,fun x c e=>?_,fun p hp=>?_,hokH,?_⟩
 ·exact hkind
 ·rcases split x c e1 with m1 | ⟨m1,q1⟩<;>rcases split y c e2 with m2 | ⟨m2,q2⟩
  ·exact name_of_addr own_ok.apart m1 m2
  ·exact absurd (lt_of_around y c q2) (nlt (by have:=(qa2f m1).2;omega))
  ·exact absurd (lt_of_around x c q1) (nlt (by have:=(qa2f m2).2;omega))
  ·exact I.ok.inj x y c q1 q2
 ·rw [kof x] at hx
  cases e1:scope.names.lookup x with
  | none=>rw [e1] at hx;rcases hx with z | z<;>cases z
  | some kx =>
   have mx:=mem_of_lookup e1
   cases kx with
   | free =>
    obtain⟨c,hc⟩:=I.ok.has x (hfree _ mx rfl)
    exact⟨c,capCell x mx c hc⟩
   | cell =>
    have q:=PySem.W.cellsFrom_some scope.names (s2.heap.objs.size + 1 + 1) (clOf X.env scope.names []) (x:=x) (.inl e1)
    exact Option.isSome_iff_exists.mp q
   | _=>rw [e1] at hx;rcases hx with z | z<;>simp at z
 ·rcases split x c e with m1 | ⟨m1,q1⟩
  ·have:=(qa2f m1).2;show s2.heap.objs.size <= c;omega
  ·have q2:=qa4l hnd m1
   have hf':(scope.names.lookup x == some NameKind.cell)=true:=hf
   rw [q2] at hf';simp at hf'
 ·exact Nat.ne_of_lt (Nat.lt_succ_of_lt (fpLt b hb))
 ·have h1:=fpLt b hb
  rcases split x c e with m1 | ⟨m1,q1⟩
  ·exact Nat.ne_of_gt (Nat.lt_of_lt_of_le h1 (by have:=(qa2f m1).2;omega))
  ·exact(hfp b hb).2.2.2.2.1 x c q1
 ·rcases (hfp b hb).2.2.2.1 with z | z
  ·exact I.ok.noex b o e z
  ·exact absurd (Nat.lt_of_lt_of_le (Heap.lt_size e) (Nat.le_trans I.ok.bsz z)) (Nat.lt_irrefl _)
 ·rcases List.mem_cons.mp (I.stkSub b hb2) with z | z
  ·exact(hfp b hb).2.1 z
  ·exact(hfp b hb).2.2.1 z
 ·-- names that are closed over
  have ei:own.length <= i:=by
   by_cases hi:i < own.length
   ·unfold qa6s at e2
    rw [List.getElem?_append_left (by simpa using hi),List.getElem?_replicate,if_pos hi] at e2
    cases e2
   ·omega
  have e1':(cap.map (·.1))[i - own.length]? = some x:=by
   have:(own ++ cap.map (·.1))[i]? = some x:=e1
   rwa [List.getElem?_append_right ei] at this
  have e2':(cap.map fun p=>(σ[p.2]?).join)[i - own.length]? = some (some v):=by
   unfold qa6s at e2
   rw [List.getElem?_append_right (by simpa using ei)] at e2
   simpa using e2
  rw [List.getElem?_map] at e1' e2'
  cases ep:cap[i - own.length]? with
  | none=>rw [ep] at e1';cases e1'
  | some p =>
   rw [ep] at e1' e2'
   have hx:p.1=x:=by simpa using e1'
   have hv:(σ[p.2]?).join=some v:=by simpa using e2'
   have hσ:σ[p.2]? = some (some v):=by
    cases eσ:σ[p.2]? with
    | none=>rw [eσ] at hv;cases hv
    | some w'=>rw [eσ] at hv;simp at hv;rw [hv]
   obtain⟨hN,hl⟩:=hcap p (List.mem_of_getElem? ep)
   rw [hx] at hN hl
   have mx:=mem_of_lookup hl
   have hvis:Vis X.env.scope x:=by
    rcases hfree _ mx rfl with z | z
    ·exact .inr (.inl z)
    ·exact .inr (.inr z)
   obtain⟨m,_,hl'⟩:=I.loc
   obtain⟨u,r,lk⟩:=hl' p.2 x v hN hσ hvis
   refine⟨u,r,.inr ?_⟩
   rcases lk with⟨z,_⟩ | ⟨z,c,hc,hcell⟩
   ·rcases hfree _ mx rfl with z' | z'<;>rw [z'] at z<;>cases z
   ·refine⟨?_,c,capCell x mx c hc,hcell.keeps k⟩
    rw [kof x,hl]
    by_cases hcc:(NameKind.free == NameKind.free && X.env.scope.kind == .function && X.env.kindOf x == some .cell)=true
    ·left;simp only [Option.map_some,if_pos hcc]
    ·right;simp only [Option.map_some,if_neg hcc]
 ·rcases split x c e with m1 | ⟨m1,q1⟩
  ·exact⟨_,(own_ok.empty x c m1).1⟩
  ·obtain⟨v,q⟩:=I.cell x c q1
   exact⟨v,q.keeps k⟩
 ·show upd H2 s2.heap.objs.size (.lst []) (s2.heap.objs.size + 1)=none
  rw [qa0d (Nat.succ_ne_self _)]
  exact I.hok.fresh (Nat.le_succ _)
 ·rcases split x c e with m1 | ⟨m1,q1⟩
  ·have hle:=(qa2f m1).2
   rw [qa0d (Nat.ne_of_gt (Nat.lt_of_lt_of_le (Nat.lt_succ_self _) (by omega)))]
   exact I.hok.fresh (by omega)
  ·rw [qa0d (Nat.ne_of_lt (lt_of_around x c q1))]
   exact I.freeC x c q1
 ·exact absurd (show p ∈ ([]:List (Addr × Obj)) from hp) (by simp)
 ·unfold qa6s
  show _=(own ++ cap.map (·.1)).length
  simp
end
def PIf(X:Cx)(ifs:List Expr)(t:TT):Prop:=
 ∀ (pins:List (Addr × Obj)) (s:Shared) (σ:St) (H:Hp) (Q:Bool->Hp->Prop),Inv X pins σ H s->t σ H Q ->
  wpAny (model X.prog X.w) X.A (forIn ifs true fun c r=>if r=true then do let ok ← isTrue c X.env (eval c X.env);pure (ForInStep.yield ok) else pure (ForInStep.yield r)) (TP X pins σ Q) X.xe s
def tYes:TT:=fun _ H Q=>Q true H
theorem qb3w{X:Cx}:PIf X [] tYes:=fun _ _ _ H _ I h=>wpAny_tests_nil ⟨H,I,h⟩
theorem qb8q{X:Cx}{c:Expr}{t:TT}(h:PT X c t):PIf X [c] t:=fun pins s σ H Q I hq=>wpAny_tests_one (h pins s σ H Q I hq)
def qb2j(own:List Str)(cap:List (Str × Nat))(g:TG)(tt:TT)(te:TE)(J:It)(D:Addr)(σ:St)(H1:Hp)(Z:Hp->Prop):Prop:=
 ∃ W:Nat->Nat->St->Hp->Prop,(∃ m,W 0 m (qa6s own cap σ) (upd H1 D (.lst [])))/\∀ i m σ' H',W i m σ' H' ->
  (J.stop i H'/\Z H') ∨ (J.go i H'/\∃ N:St->Hp->Prop,(∀ σ'' H'',N σ'' H''->∃ m',m' < m/\W (i + 1) m' σ'' H'')/\∀ x H'',J.yld i H' x H'' ->
   g x σ' H'' fun σ2 H2=>tt σ2 H2 fun b H3=>if b=true then te σ2 H3 fun y H4=>∃ ys,H4 D=some (.lst ys)/\ys.length < sizeLine/\N σ2 (upd H4 D (.lst (ys ++ [y]))) else N σ2 H3)
def tComp(own:List Str)(cap:List (Str × Nat))(wi:TI)(g:TG)(tt:TT)(te:TE):TE:=fun σ H Q=>wi σ H fun J H1=>∀ D,H1 D=none->qb2j own cap g tt te J D σ H1 (Q (.ref D))
theorem qb5w{X:Cx}{elt tg iter:Expr}{ifs:List Expr}{scope:Scope}{pos:Pos}{own:List Str}{cap:List (Str × Nat)}{g:TG}{tt:TT}{te:TE}
  (hc:X.calm=true) (hok:qa5h X scope own cap=true) (hnd:(scope.names.map (·.1)).Nodup)
  (hg:∀ fp s2 H2,PG (cxC X scope own cap fp s2 H2) tg g) (ht:∀ fp s2 H2,PIf (cxC X scope own cap fp s2 H2) ifs tt) (he:∀ fp s2 H2,PE (cxC X scope own cap fp s2 H2) elt te)
  {pins:List (Addr × Obj)} {σ:St} {H1:Hp} {s2:Shared} {it:Addr} {fp:List Addr} {tn:Nat->Heap->Prop} {J:It} {Z:Hp->Prop} {RR:Result->Shared->Prop}
  (I:Inv X pins σ H1 s2) (T:Turn X.prog X.w X.K tg J fp it tn) (h0:tn 0 s2.heap) (hfp:∀ b ∈ fp,FpOk X pins H1 b)
  (hb:qb2j own cap g tt te J s2.heap.objs.size σ H1 Z)
  (hR:∀ s' H' m,(∀ h',Heap.SameBut (s2.heap.objs.size + 1) s'.heap h'->Inv X pins σ H' { s' with heap:=h' })->s'.heap.Ns (s2.heap.objs.size + 1) m->H' (s2.heap.objs.size + 1)=none->Z H'->RR (.ok .next) s') :
  wpAny (model X.prog X.w) X.A (newFunctionEnv scope X.env.globals (clOf X.env scope.names []) [] X.env.qual none .none (some X.env)) (fun cenv s₄ =>
   cenv.locals=s2.heap.objs.size + 1/\codeAny (model X.prog X.w) X.A (.compStart (.ListComp elt [⟨tg,iter,ifs,0⟩] scope pos) 0 (.ref it) (.ref s2.heap.objs.size) { cenv with scope:=relabel scope X.env }) RR s₄)
   X.xe { s2 with heap:=s2.heap.push { cls:=.type "list",dict:=none,data:=.seq ([]:List Value).toArray } }:=by
 have hob:∀ b ∈ fp,∃ o,s2.heap.get? b=some o:=fun b hb=>let ⟨o,e,_⟩:=T.obj _ _ h0 b hb;⟨o,e⟩
 have I0:=qc3m (own:=own) (cap:=cap) I hok hnd hfp hob
 refine qb7m ?_
 have z1:(s2.heap.push { cls:=.type "list",dict:=none,data:=.seq ([]:List Value).toArray }).objs.size=s2.heap.objs.size + 1:=Heap.size_push ..
 dsimp only
 rw [z1]
 refine⟨rfl,?_⟩
 show codeAny (model X.prog X.w) X.A (.compStart (.ListComp elt [⟨tg,iter,ifs,0⟩] scope pos) 0 (.ref it) (.ref s2.heap.objs.size) (cxC X scope own cap fp s2 H1).env) RR _
 generalize hs4:({ s2 with heap:=pushCells ((s2.heap.push { cls:=.type "list",dict:=none,data:=.seq ([]:List Value).toArray }).push { cls:=.type "dict",data:=.dict #[] }) scope.names }:Shared)=s4 at I0 ⊢
 have kp:∀ b o,s2.heap.get? b=some o->s4.heap.get? b=some o:=fun b o e=>by
  rw [← hs4];exact pushCells_keeps _ _ b o (Heap.get?_push_of_some _ (Heap.get?_push_of_some _ e))
 have st4:tn 0 s4.heap:=T.keep _ _ _ h0 fun b _ o e=>kp b o e
 obtain⟨W,⟨m0,w0⟩,turn⟩:=hb
 -- the iterator's records are the block's own
 have stat:∀ {H':Hp},(∀ b ∈ fp,H' b=none)->∀ b ∈ fp,FpOk (cxC X scope own cap fp s2 H1) [] H' b:=fun hn b hb =>
  ⟨hn b hb,(I0.ok.exf b hb).1,I0.ok.exfs b hb,.inl hb,fun x c e=>(I0.ok.exf b hb).2 x c e,fun p hp=>absurd (show p ∈ ([]:List (Addr × Obj)) from hp) (by simp)⟩
 have fr0:∀ b ∈ fp,upd H1 s2.heap.objs.size (.lst []) b=none:=fun b hb=>by
  obtain⟨o,e⟩:=hob b hb
  rw [qa0d (Nat.ne_of_lt (Heap.lt_size e))]
  exact(hfp b hb).1
 have loop:codeAny (model X.prog X.w) X.A (.compLoop (.ListComp elt [⟨tg,iter,ifs,0⟩] scope pos) 0 (.ref it) (.ref s2.heap.objs.size) (cxC X scope own cap fp s2 H1).env) RR s4:=by
  refine qb7n (fun n s'=>∃ i σ' H',Inv (cxC X scope own cap fp s2 H1) [] σ' H' s'/\tn i s'.heap/\(∀ b ∈ fp,H' b=none)/\W i n σ' H') ?_ m0 ⟨0,_,_,I0,st4,fr0,w0⟩
  rintro n s3 ⟨i,σ3,H3,I3,st3,fr3,w3⟩
  rcases turn i n σ3 H3 w3 with⟨stop,qn⟩ | ⟨go,N,hN,step⟩
  ·refine wpAny_noRaise (thn (T.done (cxC X scope own cap fp s2 H1) rfl rfl rfl hc i [] s3 σ3 H3 _ I3 (stat fr3) st3 stop) fun r s5 hq9=>?_)
   obtain⟨hr,I5⟩:=hq9
   subst hr
   obtain⟨m5,hm5,_⟩:=id I5.loc
   refine hR s5 H3 m5 (fun h' hs'=>?_) hm5 I5.free qn
   ·have un:Un (frs X.stack) fp H1 H3 s2.heap s5.heap:=I5.base
    have low:∀ b o,s2.heap.get? b=some o->b ≠ s2.heap.objs.size + 1:=fun b o e=>Nat.ne_of_lt (Nat.lt_succ_of_lt (Heap.lt_size e))
    refine I.call' (s':={ s5 with heap:=h' }) (ch:=fp) I5.os ⟨fun b o e n hb hx=>(hs'.2 b (low b o e)).trans (un.keep b o e n hb hx),fun b o e n hb hx=>?_,un.free,fun b o e hx=>?_,un.tups,un.frzs,un.tbls⟩ ?_ I5.bare fun b hb=>⟨(hfp b hb).2.2.2.1,(hfp b hb).2.1,(hfp b hb).2.2.2.2.1,(hfp b hb).2.2.2.2.2⟩
    ·obtain⟨sl,q⟩:=un.slot b o e n hb hx
     exact⟨sl,(hs'.2 b (low b o e)).trans q⟩
    ·obtain⟨o',q⟩:=un.there b o e hx
     exact⟨o',(hs'.2 b (low b o e)).trans q⟩
    ·intro b ob e
     refine(I5.hok b ob e).stay (fun c w' hc' q=>(hs'.2 c ?_).trans q) (fun _ q=>q) fun _ _ q=>q
     have nC:H3 (s2.heap.objs.size + 1)=none:=I5.free
     rintro rfl
     rcases hc' with rfl | hc'
     ·rw [nC] at e;cases e
     ·rw [nC] at hc';cases hc'
  ·refine wpAny_noRaise (thn (T.item (cxC X scope own cap fp s2 H1) rfl rfl rfl hc i [] s3 σ3 H3 (fun _ _=>False) I3 (stat fr3) st3 go) fun r s5 hq9=>?_)
   obtain⟨u,hr,h5⟩:=hq9
   subst hr
   refine wpAny_noRaise (thn h5 fun _ s6 hq9=>?_)
   obtain⟨x,H6,I6,r6,y6,st6,fr6⟩:=hq9
   have I6':=I6.pinned (stat fr6) (T.obj _ _ st6)
   refine wpAny_noRaise (thn (hg fp s2 H1 _ s6 σ3 H6 x u _ I6' r6 (step x H6 y6)) fun _ s7 hq9=>?_)
   obtain⟨σ7,H7,I7,q7⟩:=hq9
   refine wpAny_noRaise (thn (ht fp s2 H1 _ s7 σ7 H7 _ I7 q7) fun ok s8 hq9=>?_)
   obtain⟨H8,I8,q8⟩:=hq9
   have again:∀ {σ9:St} {H9:Hp} {s9:Shared},Inv (cxC X scope own cap fp s2 H1) ([] ++ qb1e fp s6.heap) σ9 H9 s9->N σ9 H9->∃ m,m < n/\∃ i σ' H',Inv (cxC X scope own cap fp s2 H1) [] σ' H' s9/\tn i s9.heap/\(∀ b ∈ fp,H' b=none)/\W i m σ' H':=fun{σ9 H9 s9} I9 n9=>by
    obtain⟨m',hm,w9⟩:=hN σ9 H9 n9
    refine⟨m',hm,i + 1,σ9,H9,I9.unpinned,T.keep _ _ _ st6 fun b hb o e=>(I9.pin (b,o) (List.mem_append_right _ (List.mem_append_right _ (qa7o hb e)))).1,fun b hb=>?_,w9⟩
    obtain⟨o,e,d⟩:=T.obj _ _ st6 b hb
    exact(I9.pin (b,o) (List.mem_append_right _ (List.mem_append_right _ (qa7o hb e)))).2.1
   cases ok with
   | false=>exact again I8 q8
   | true =>
    rw [if_pos rfl] at q8
    rw [if_pos rfl]
    refine wpAny_noRaise (thn (he fp s2 H1 _ s8 σ7 H8 _ I8 q8) fun y s9 hq9=>?_)
    obtain⟨yv,H9,I9,r9,ys,hD,hz,q9⟩:=hq9
    refine wpAny_noRaise (thn (qa8v _ s9 σ7 H9 (.ref s2.heap.objs.size) [yv] (.ref s2.heap.objs.size) [y] (fun _ H'=>N σ7 H') I9 rfl (.cons r9 .nil) ⟨_,ys,yv,rfl,rfl,hD,hz,q9⟩) fun _ s10 hq9=>?_)
    obtain⟨_,H10,I10,_,q10⟩:=hq9
    exact again I10 q10
 exact codeAny_compStart_list loop (T.self X.A 0 _ _ _ st4 loop)
theorem qb1z{scope:Scope}(hnd:(scope.names.map (·.1)).Nodup):∀ x ∈ scope.names,x.2=.local->scope.names.lookup x.1=some .local:=fun x hx e=>by
 obtain⟨n,k⟩:=x
 have e':k=.local:=e
 subst e'
 exact qa4l hnd hx
theorem qb3x{X:Cx}{elt tg iter:Expr}{ifs:List Expr}{scope:Scope}{pos:Pos}{own:List Str}{cap:List (Str × Nat)}{wi:TI}{g:TG}{tt:TT}{te:TE}
  (hc:X.calm=true) (hok:qa5h X scope own cap=true) (hnd:(scope.names.map (·.1)).Nodup) (hi:PI X tg iter wi)
  (hg:∀ fp s2 H2,PG (cxC X scope own cap fp s2 H2) tg g) (ht:∀ fp s2 H2,PIf (cxC X scope own cap fp s2 H2) ifs tt) (he:∀ fp s2 H2,PE (cxC X scope own cap fp s2 H2) elt te)
  (hs:∀ x,foldedSetIterable iter X.env x=pure x:=by intro _;rfl) :
  PE X (.ListComp elt [⟨tg,iter,ifs,0⟩] scope pos) (tComp own cap wi g tt te):=by
 intro pins s σ H Q I h
 have hkind:=qb0e hok
 have hclos:closureFor scope X.env=pure (clOf X.env scope.names []):=qb0z fun y hy hf=>I.ok.has y.1 (qb0f hok y hy hf)
 rw [eval_ListComp]
 refine wpAny_comprehension_free (use:=none) rfl hs hclos hkind (qb1z hnd) (thn (hi pins s σ H _ I h) fun xv s1 h1=>thn h1 fun itv s2 h2=>?_)
 obtain⟨it,fp,tn,J,H1,e,I2,T,st2,f2,hb⟩:=h2
 subst e
 refine wpAny_newObj_type (thn (qb5w (iter:=iter) (pos:=pos) (RR:=compPost (model X.prog X.w) X.A X.xe none (EP X pins σ Q) (.ref s2.heap.objs.size) (s2.heap.objs.size + 1)) hc hok hnd hg ht he I2 T st2 f2 (hb _ I2.fresh) fun s' H' m hI hm hnC z=>?_) fun cenv s4 ⟨e,q⟩=>?_)
 ·exact⟨m,hm,fun h' hs'=>⟨.ref s2.heap.objs.size,H',hI h' hs',rfl,z⟩⟩
 ·rw [← e] at q;exact q
theorem qb8r{X:Cx}{i:Nat}{y:Str}{py spos:Pos}{elt tg iter:Expr}{ifs:List Expr}{scope:Scope}{pos:Pos}{own:List Str}{cap:List (Str × Nat)}{wi:TI}{g:TG}{tt:TT}{te:TE}
  (hN:X.N.Nodup) (hi':X.N[i]? = some y) (hy:X.env.scope.names.lookup y=some .local)
  (hc:X.calm=true) (hok:qa5h X scope own cap=true) (hnd:(scope.names.map (·.1)).Nodup) (hi:PI X tg iter wi)
  (hg:∀ fp s2 H2,PG (cxC X scope own cap fp s2 H2) tg g) (ht:∀ fp s2 H2,PIf (cxC X scope own cap fp s2 H2) ifs tt) (he:∀ fp s2 H2,PE (cxC X scope own cap fp s2 H2) elt te)
  (hsw:swapsWith (.ListComp elt [⟨tg,iter,ifs,0⟩] scope pos) (some (.Name y py)) spos.line X.env=pure true:=by rfl)
  (hs:∀ x,foldedSetIterable iter X.env x=pure x:=by intro _;rfl) :
  PS X (.Assign [.Name y py] (.ListComp elt [⟨tg,iter,ifs,0⟩] scope pos) spos) (tAsg (tComp own cap wi g tt te) (qa3l i)):=by
 intro pins s σ H D I h
 have hkind:=qb0e hok
 have hclos:closureFor scope X.env=pure (clOf X.env scope.names []):=qb0z fun y hy hf=>I.ok.has y.1 (qb0f hok y hy hf)
 rw [exec_Assign_Name_used _ _ _ _ hsw]
 refine wpAny_bind (wpAny_standAt (wpAny_bind ?_))
 show wpAny _ X.A (do let _ ← comprehension (.ListComp elt [⟨tg,iter,ifs,0⟩] scope pos) scope X.env _ (newList []) false (eval iter X.env) (some (assign (.Name y py) X.env))) _ _ s
 refine wpAny_bind (wpAny_mono (wpAny_comprehension_free (use:=some (assign (.Name y py) X.env)) (Q:=fun _ s'=>SP X pins D .next s') rfl hs hclos hkind (qb1z hnd)
  (thn (hi pins s σ H _ I h) fun xv s1 h1=>thn h1 fun itv s2 h2=>?_)) (fun _ s' hq=>wpAny_pure (wpAny_pure hq)) fun _ _ e=>e)
 obtain⟨it,fp,tn,J,H1,e,I2,T,st2,f2,hb⟩:=h2
 subst e
 refine wpAny_newObj_type (thn (qb5w (iter:=iter) (pos:=pos) (RR:=compPost (model X.prog X.w) X.A X.xe (some (assign (.Name y py) X.env)) (fun _ s'=>SP X pins D .next s') (.ref s2.heap.objs.size) (s2.heap.objs.size + 1)) hc hok hnd hg ht he I2 T st2 f2 (hb _ I2.fresh) fun s' H' m hI hm hnC z=>?_) fun cenv s4 ⟨e,q⟩=>?_)
 ·show wpAny _ _ (assign (.Name y py) X.env (.ref s2.heap.objs.size)) _ _ s'
  have I':Inv X pins σ H' s':=hI s'.heap (Heap.SameBut.refl ..)
  refine wpAny_assign_Name (qb4o I' hN hi' (.inl hy) (v:=.ref s2.heap.objs.size) rfl (fun s'' I'' hsb=>?_) (.inr hy))
  obtain⟨a,hs1,ha⟩:=hsb
  have nC:s2.heap.objs.size + 1 ≠ a:=by
   rintro rfl
   rcases ha with ha | ha
   ·have q:=I2.lt
    rw [← ha] at q
    exact absurd q (nlt (Nat.le_succ _))
   ·obtain⟨v,q⟩:=I2.cell _ _ ha
    exact absurd q.lt (nlt (Nat.le_succ _))
  refine⟨m,hm.sameBut hs1 nC,fun h' hs'=>⟨_,H',?_,z⟩⟩
  obtain⟨_,f1,f2,f3,f4,f5⟩:=I2.fpOk (b:=s2.heap.objs.size + 1) (Nat.le_succ _) hnC
  exact I''.turned (t':=s''.toks) (it:=s2.heap.objs.size + 1) (fun b o hb e=>(hs'.2 b hb).trans e) hnC f1 f3 f4 f5
 ·rw [← e] at q;exact q
end L2
end
section
namespace L2
open PySem PySem.Spec PyProof.Rows
theorem qa1j:bootBuiltins "len" = some (.builtin "len"):=by decide +kernel
theorem qb1a:bootBuiltins "isinstance" = some (.builtin "isinstance"):=by decide +kernel
theorem qb7o:bootBuiltins "reversed" = some (.type "reversed"):=by decide +kernel
theorem qb2w:bootBuiltins "int" = some (.type "int"):=by decide +kernel
theorem qa5n:bootBuiltins "bool" = some (.type "bool"):=by decide +kernel
theorem bt_str:bootBuiltins "str" = some (.type "str"):=by decide +kernel
theorem qa7y:bootBuiltins "list" = some (.type "list"):=by decide +kernel
theorem qa3z:bootBuiltins "tuple" = some (.type "tuple"):=by decide +kernel
noncomputable def kvE(p:Str × Int):Key × V:=(Sum.inr p.1,V.int p.2)
noncomputable def kvD(p:Str × Int):PyData × PyData:=(.str p.1,.int p.2)
inductive FD where
 | none
 | bool (b:Bool)
 | int (n:Int)
 | str (x:Str)
noncomputable def FD.v:FD->V
 | .none=>.non
 | .bool b=>.bl b
 | .int n=>.int n
 | .str x=>.str x
noncomputable def FD.d:FD->PyData
 | .none=>.none
 | .bool b=>.bool b
 | .int n=>.int n
 | .str x=>.str x
noncomputable def keyD:Key->PyData
 | .inl i=>.int i
 | .inr x=>.str x
noncomputable def gE(p:Key × FD):Key × V:=(p.1,p.2.v)
noncomputable def gD(p:Key × FD):PyData × PyData:=(keyD p.1,p.2.d)
noncomputable def emb(p:Str × Int):Key × FD:=(Sum.inr p.1,FD.int p.2)
mutual
noncomputable def AtD(K:PySem.W.Frag)(H:Hp)(S:Addr->Prop):PyData->V->Prop
 | .none,v=>v=.non
 | .bool b,v=>v=.bl b
 | .int i,v=>v=.int i
 | .str x,v=>v=.str x
 | .list ds,v=>∃ a xs,v=.ref a/\S a/\H a=some (.lst xs)/\qa0b K H S ds xs
 | .tuple ds,v=>∃ a xs,v=.ref a/\SqT K H a xs/\qa0b K H S ds xs
 | .dict kvs,v=>∃ (a:Addr) (κ:List (Key × V)),v=.ref a/\S a/\H a=some (.dK κ)/\qa0o K H S kvs κ
noncomputable def qa0b(K:PySem.W.Frag)(H:Hp)(S:Addr->Prop):List PyData->List V->Prop
 | [],vs=>vs=[]
 | d :: ds,vs=>∃ v r,vs=v :: r/\AtD K H S d v/\qa0b K H S ds r
noncomputable def qa0o(K:PySem.W.Frag)(H:Hp)(S:Addr->Prop):List (PyData × PyData)->List (Key × V)->Prop
 | [],κ=>κ=[]
 | (x,d) :: r,κ=>∃ k v t,κ=(k,v) :: t/\x=keyD k/\AtD K H S d v/\qa0o K H S r t
end
abbrev Any:Addr->Prop:=fun _=>True
abbrev But(t:Addr):Addr->Prop:=fun b=>b ≠ t
def Keep(S:Addr->Prop)(H H':Hp):Prop:=(∀ b xs,H b=some (.tup xs)->H' b=some (.tup xs))/\(∀ b o u,H b=some (.frz o u)->H' b=some (.frz o u))/\∀ b o,S b->H b=some o->H' b=some o
section
variable{K:PySem.W.Frag}{H H':Hp}{S S':Addr->Prop}
theorem Keep.refl(S:Addr->Prop)(H:Hp):Keep S H H:=⟨fun _ _ h=>h,fun _ _ _ h=>h,fun _ _ _ h=>h⟩
theorem Keep.trans{H1:Hp}(a:Keep S H H1)(b:Keep S H1 H'):Keep S H H':=⟨fun c xs h=>b.1 c xs (a.1 c xs h),fun c o xs h=>b.2.1 c o xs (a.2.1 c o xs h),fun c xs s h=>b.2.2 c xs s (a.2.2 c xs s h)⟩
theorem Keep.less(e:Keep S H H')(h:∀ b,S' b->S b):Keep S' H H':=⟨e.1,e.2.1,fun b xs s q=>e.2.2 b xs (h b s) q⟩
theorem Same.keep(e:Same H H'):Keep S H H':=⟨fun b xs h=>e b _ h,fun b o xs h=>e b _ h,fun b xs _ h=>e b _ h⟩
theorem qc1u{p:Addr}{xs ys:List V}(h:H p=some (.lst xs)):Keep (But p) H (upd H p (.lst ys)):=
 ⟨fun b zs q=>by rw [qa0d (qa8s q h (by intro z;cases z))];exact q,fun b o zs q=>by rw [qa0d (qa8s q h (by intro z;cases z))];exact q,fun b zs hb q=>by rw [qa0d hb];exact q⟩
theorem Same.seqT{a:Addr}{xs:List V}(e:Same H H')(h:SqT K H a xs):SqT K H' a xs:=by
 rcases h with(h | ⟨o,h⟩) | h
 ·exact .inl (.inl (e _ _ h))
 ·exact .inl (.inr ⟨o,e _ _ h⟩)
 ·exact .inr h
theorem Keep.seqT{a:Addr}{xs:List V}(e:Keep S H H')(h:SqT K H a xs):SqT K H' a xs:=by
 rcases h with(h | ⟨o,h⟩) | h
 ·exact .inl (.inl (e.1 _ _ h))
 ·exact .inl (.inr ⟨o,e.2.1 _ _ _ h⟩)
 ·exact .inr h
theorem qa0t{H:Hp}{p:Addr}(h:H p=none)(o:HO):Same H (upd H p o):=fun b u q=>by rw [qa0d (qa0z q h)];exact q
mutual
theorem AtD.mono(e:Keep S H H'):∀ (d:PyData) (v:V),AtD K H S d v->AtD K H' S d v
 | .none,_,h=>by unfold AtD at h ⊢;exact h
 | .bool _,_,h=>by unfold AtD at h ⊢;exact h
 | .int _,_,h=>by unfold AtD at h ⊢;exact h
 | .str _,_,h=>by unfold AtD at h ⊢;exact h
 | .list ds,v,h=>by
  unfold AtD at h ⊢
  obtain⟨a,xs,e1,s,q,r⟩:=h
  exact⟨a,xs,e1,s,e.2.2 _ _ s q,qa0b.mono e ds xs r⟩
 | .tuple ds,v,h=>by
  unfold AtD at h ⊢
  obtain⟨a,xs,e1,q,r⟩:=h
  exact⟨a,xs,e1,e.seqT q,qa0b.mono e ds xs r⟩
 | .dict kvs,v,h=>by
  unfold AtD at h ⊢
  obtain⟨a,ν,e1,s,q,e2⟩:=h
  exact⟨a,ν,e1,s,e.2.2 a _ s q,qa0o.mono e kvs ν e2⟩
theorem qa0b.mono(e:Keep S H H'):∀ (ds:List PyData) (vs:List V),qa0b K H S ds vs->qa0b K H' S ds vs
 | [],_,h=>by unfold qa0b at h ⊢;exact h
 | d :: ds,vs,h=>by
  unfold qa0b at h ⊢
  obtain⟨v,r,e1,h1,h2⟩:=h
  exact⟨v,r,e1,AtD.mono e d v h1,qa0b.mono e ds r h2⟩
theorem qa0o.mono(e:Keep S H H'):∀ (kvs:List (PyData × PyData)) (κ:List (Key × V)),qa0o K H S kvs κ->qa0o K H' S kvs κ
 | [],_,h=>by unfold qa0o at h ⊢;exact h
 | (x,d) :: r,κ,h=>by
  unfold qa0o at h ⊢
  obtain⟨k,v,t,e1,e2,h1,h2⟩:=h
  exact⟨k,v,t,e1,e2,AtD.mono e d v h1,qa0o.mono e r t h2⟩
end
mutual
theorem AtD.more(e:∀ b,S b->S' b):∀ (d:PyData) (v:V),AtD K H S d v->AtD K H S' d v
 | .none,_,h=>by unfold AtD at h ⊢;exact h
 | .bool _,_,h=>by unfold AtD at h ⊢;exact h
 | .int _,_,h=>by unfold AtD at h ⊢;exact h
 | .str _,_,h=>by unfold AtD at h ⊢;exact h
 | .list ds,v,h=>by
  unfold AtD at h ⊢
  obtain⟨a,xs,e1,s,q,r⟩:=h
  exact⟨a,xs,e1,e a s,q,qa0b.more e ds xs r⟩
 | .tuple ds,v,h=>by
  unfold AtD at h ⊢
  obtain⟨a,xs,e1,q,r⟩:=h
  exact⟨a,xs,e1,q,qa0b.more e ds xs r⟩
 | .dict kvs,v,h=>by
  unfold AtD at h ⊢
  obtain⟨a,ν,e1,s,q,e2⟩:=h
  exact⟨a,ν,e1,e a s,q,qa0o.more e kvs ν e2⟩
theorem qa0b.more(e:∀ b,S b->S' b):∀ (ds:List PyData) (vs:List V),qa0b K H S ds vs->qa0b K H S' ds vs
 | [],_,h=>by unfold qa0b at h ⊢;exact h
 | d :: ds,vs,h=>by
  unfold qa0b at h ⊢
  obtain⟨v,r,e1,h1,h2⟩:=h
  exact⟨v,r,e1,AtD.more e d v h1,qa0b.more e ds r h2⟩
theorem qa0o.more(e:∀ b,S b->S' b):∀ (kvs:List (PyData × PyData)) (κ:List (Key × V)),qa0o K H S kvs κ->qa0o K H S' kvs κ
 | [],_,h=>by unfold qa0o at h ⊢;exact h
 | (x,d) :: r,κ,h=>by
  unfold qa0o at h ⊢
  obtain⟨k,v,t,e1,e2,h1,h2⟩:=h
  exact⟨k,v,t,e1,e2,AtD.more e d v h1,qa0o.more e r t h2⟩
end
mutual
noncomputable def qa2l:PyData->Bool
 | .none=>true | .bool _=>true | .int _=>true | .str _=>true
 | .list _=>false
 | .tuple ds=>qa4i ds
 | .dict _=>false
noncomputable def qa4i:List PyData->Bool
 | []=>true
 | d :: ds=>qa2l d && qa4i ds
end
mutual
theorem AtD.tups:∀ (d:PyData) (v:V),qa2l d=true->AtD K H S d v->AtD K H S' d v
 | .none,_,_,h=>by unfold AtD at h ⊢;exact h
 | .bool _,_,_,h=>by unfold AtD at h ⊢;exact h
 | .int _,_,_,h=>by unfold AtD at h ⊢;exact h
 | .str _,_,_,h=>by unfold AtD at h ⊢;exact h
 | .list ds,v,t,h=>by unfold qa2l at t;cases t
 | .tuple ds,v,t,h=>by
  unfold qa2l at t
  unfold AtD at h ⊢
  obtain⟨a,xs,e1,q,r⟩:=h
  exact⟨a,xs,e1,q,qa0b.tups ds xs t r⟩
 | .dict _,_,t,_=>by unfold qa2l at t;cases t
theorem qa0b.tups:∀ (ds:List PyData) (vs:List V),qa4i ds=true->qa0b K H S ds vs->qa0b K H S' ds vs
 | [],_,_,h=>by unfold qa0b at h ⊢;exact h
 | d :: ds,vs,t,h=>by
  unfold qa4i at t
  rw [Bool.and_eq_true] at t
  unfold qa0b at h ⊢
  obtain⟨v,r,e1,h1,h2⟩:=h
  exact⟨v,r,e1,AtD.tups d v t.1 h1,qa0b.tups ds r t.2 h2⟩
end
theorem qa0b.nil:qa0b K H S [] []:=by unfold qa0b;rfl
theorem qa0b.cons{d:PyData}{ds:List PyData}{v:V}{vs:List V}(h:AtD K H S d v)(t:qa0b K H S ds vs):qa0b K H S (d :: ds) (v :: vs):=by
 unfold qa0b;exact⟨v,vs,rfl,h,t⟩
theorem qa0b.uncons{d:PyData}{ds:List PyData}{vs:List V}(h:qa0b K H S (d :: ds) vs):∃ v r,vs=v :: r/\AtD K H S d v/\qa0b K H S ds r:=by
 unfold qa0b at h;exact h
theorem qa0b.unnil{vs:List V}(h:qa0b K H S [] vs):vs=[]:=by unfold qa0b at h;exact h
theorem qa0b.length:∀ {ds:List PyData} {vs:List V},qa0b K H S ds vs->vs.length=ds.length
 | [],_,h=>by rw [h.unnil];rfl
 | d :: ds,vs,h=>by
  obtain⟨v,r,e,_,t⟩:=h.uncons
  rw [e,List.length_cons,List.length_cons,qa0b.length t]
theorem qa0b.get:∀ {ds:List PyData} {vs:List V} {i:Nat} {d:PyData},qa0b K H S ds vs->ds[i]? = some d->∃ v,vs[i]? = some v/\AtD K H S d v
 | [],_,i,d,_,e=>by simp at e
 | d' :: ds,vs,0,d,h,e=>by
  obtain⟨v,r,rfl,hd,t⟩:=h.uncons
  simp at e;subst e
  exact⟨v,by simp,hd⟩
 | d' :: ds,vs,i + 1,d,h,e=>by
  obtain⟨v,r,rfl,hd,t⟩:=h.uncons
  obtain⟨w,e1,e2⟩:=qa0b.get (i:=i) t (by simpa using e)
  exact⟨w,by simpa using e1,e2⟩
theorem qa0b.at{ds:List PyData}{vs:List V}{i:Nat}{v:V}(h:qa0b K H S ds vs)(e:vs[i]? = some v):∃ d,ds[i]? = some d/\AtD K H S d v:=by
 have hl:=h.length
 have hi:i < vs.length:=(List.getElem?_eq_some_iff.mp e).1
 have hd:ds[i]? = some ds[i]:=List.getElem?_eq_getElem (by omega)
 obtain⟨w,e1,e2⟩:=h.get hd
 rw [e] at e1;cases e1
 exact⟨_,hd,e2⟩
theorem qa0b.append:∀ {ds es:List PyData} {vs ws:List V},qa0b K H S ds vs->qa0b K H S es ws->qa0b K H S (ds ++ es) (vs ++ ws)
 | [],_,_,_,h,t=>by rw [h.unnil];exact t
 | d :: ds,es,vs,ws,h,t=>by
  obtain⟨v,r,rfl,hd,q⟩:=h.uncons
  exact .cons hd (qa0b.append q t)
theorem qa0b.snoc{ds:List PyData}{vs:List V}{d:PyData}{v:V}(h:qa0b K H S ds vs)(hd:AtD K H S d v):qa0b K H S (ds ++ [d]) (vs ++ [v]):=h.append (.cons hd .nil)
theorem qa0b.drop:∀ {ds:List PyData} {vs:List V} (n:Nat),qa0b K H S ds vs->qa0b K H S (ds.drop n) (vs.drop n)
 | _,_,0,h=>by simpa using h
 | [],vs,n + 1,h=>by rw [h.unnil];exact .nil
 | d :: ds,vs,n + 1,h=>by
  obtain⟨v,r,rfl,hd,q⟩:=h.uncons
  exact qa0b.drop n q
theorem qa0b.take:∀ {ds:List PyData} {vs:List V} (n:Nat),qa0b K H S ds vs->qa0b K H S (ds.take n) (vs.take n)
 | _,_,0,h=>by simpa using qa0b.nil
 | [],vs,n + 1,h=>by rw [h.unnil];exact .nil
 | d :: ds,vs,n + 1,h=>by
  obtain⟨v,r,rfl,hd,q⟩:=h.uncons
  exact .cons hd (qa0b.take n q)
theorem qa0b.reverse:∀ {ds:List PyData} {vs:List V},qa0b K H S ds vs->qa0b K H S ds.reverse vs.reverse
 | [],_,h=>by rw [h.unnil];exact .nil
 | d :: ds,vs,h=>by
  obtain⟨v,r,rfl,hd,q⟩:=h.uncons
  rw [List.reverse_cons,List.reverse_cons]
  exact(qa0b.reverse q).snoc hd
theorem qa0b.set:∀ {ds:List PyData} {vs:List V} (i:Nat) {d:PyData} {v:V},qa0b K H S ds vs->AtD K H S d v->qa0b K H S (ds.set i d) (vs.set i v)
 | [],_,i,d,v,h,_=>by rw [h.unnil];exact .nil
 | d' :: ds,vs,0,d,v,h,hd=>by
  obtain⟨v',r,rfl,_,q⟩:=h.uncons
  exact .cons hd q
 | d' :: ds,vs,i + 1,d,v,h,hd=>by
  obtain⟨v',r,rfl,h',q⟩:=h.uncons
  exact .cons h' (qa0b.set i q hd)
theorem qb0g:AtD K H S .none .non:=by unfold AtD;rfl
theorem qa2t(b:Bool):AtD K H S (.bool b) (.bl b):=by unfold AtD;rfl
theorem qa2e(i:Int):AtD K H S (.int i) (.int i):=by unfold AtD;rfl
theorem qb1t(x:Str):AtD K H S (.str x) (.str x):=by unfold AtD;rfl
theorem qa9q{v:V}(h:AtD K H S .none v):v=.non:=by unfold AtD at h;exact h
theorem qa4s{b:Bool}{v:V}(h:AtD K H S (.bool b) v):v=.bl b:=by unfold AtD at h;exact h
theorem qa4d{i:Int}{v:V}(h:AtD K H S (.int i) v):v=.int i:=by unfold AtD at h;exact h
theorem qa5t{x:Str}{v:V}(h:AtD K H S (.str x) v):v=.str x:=by unfold AtD at h;exact h
theorem qa3e{ds:List PyData}{v:V}(h:AtD K H S (.tuple ds) v):∃ a xs,v=.ref a/\SqT K H a xs/\qa0b K H S ds xs:=by unfold AtD at h;exact h
theorem qa3o{ds:List PyData}{v:V}(h:AtD K H S (.list ds) v):∃ a xs,v=.ref a/\S a/\H a=some (.lst xs)/\qa0b K H S ds xs:=by unfold AtD at h;exact h
theorem qa3j{ds:List PyData}{a:Addr}{xs:List V}(q:SqT K H a xs)(h:qa0b K H S ds xs):AtD K H S (.tuple ds) (.ref a):=by unfold AtD;exact⟨a,xs,rfl,q,h⟩
theorem qa1w{ds:List PyData}{a:Addr}{xs:List V}(s:S a)(q:H a=some (.lst xs))(h:qa0b K H S ds xs):AtD K H S (.list ds) (.ref a):=by unfold AtD;exact⟨a,xs,rfl,s,q,h⟩
theorem qa7z{kvs:List (PyData × PyData)}{v:V}(h:AtD K H S (.dict kvs) v):∃ (a:Addr) (κ:List (Key × V)),v=.ref a/\S a/\H a=some (.dK κ)/\qa0o K H S kvs κ:=by unfold AtD at h;exact h
theorem qb1j{kvs:List (PyData × PyData)}{κ:List (Key × V)}{a:Addr}(s:S a)(q:H a=some (.dK κ))(h:qa0o K H S kvs κ):AtD K H S (.dict kvs) (.ref a):=by unfold AtD;exact⟨a,κ,rfl,s,q,h⟩
theorem qa0o.nil:qa0o K H S [] []:=by unfold qa0o;rfl
theorem qa0o.cons{k:Key}{v:V}{d:PyData}{r:List (PyData × PyData)}{t:List (Key × V)}(h:AtD K H S d v)(hr:qa0o K H S r t):qa0o K H S ((keyD k,d) :: r) ((k,v) :: t):=by
 unfold qa0o;exact⟨k,v,t,rfl,rfl,h,hr⟩
theorem qa0o.uncons{x d:PyData}{r:List (PyData × PyData)}{κ:List (Key × V)}(h:qa0o K H S ((x,d) :: r) κ):∃ k v t,κ=(k,v) :: t/\x=keyD k/\AtD K H S d v/\qa0o K H S r t:=by unfold qa0o at h;exact h
theorem qa0o.unnil{κ:List (Key × V)}(h:qa0o K H S [] κ):κ=[]:=by unfold qa0o at h;exact h
theorem qa8g{ds:List PyData}{p:Addr}{xs:List V}(hp:H p=none)(h:qa0b K H S ds xs):AtD K (upd H p (.tup xs)) S (.tuple ds) (.ref p):=
 qa3j (SqT.of qa0e) (qa0b.mono (qa0t hp _).keep _ _ h)
theorem qc3n{ds:List PyData}{p:Addr}{xs:List V}(s:S p)(hp:H p=none)(h:qa0b K H S ds xs):AtD K (upd H p (.lst xs)) S (.list ds) (.ref p):=
 qa1w s qa0e (qa0b.mono (qa0t hp _).keep _ _ h)
end
theorem qc1v(h:Heap){k:Key}{u:Value}(q:qa8r k u=true):Reads h u (keyD k) []:=by
 rcases qa1y q with⟨i,t,e',h'⟩ | ⟨x,t,e',h'⟩
 ·rw [e',h'];exact .int i t
 ·rw [e',h'];exact .str x t
section
variable{X:Cx}{pins:List (Addr × Obj)}{σ:St}{H:Hp}{s:Shared}{S:Addr->Prop}
mutual
theorem AtD.reads(I:Inv X pins σ H s):∀ (d:PyData) (v:V) (u:Value),AtD X.K H S d v->RelV v u->∃ as,Reads s.heap u d as
 | .none,v,u,h,r=>by cases qa9q h;cases r;exact⟨_,.none⟩
 | .bool b,v,u,h,r=>by cases qa4s h;cases r;exact⟨_,.bool b⟩
 | .int i,v,u,h,r=>by cases qa4d h;obtain⟨t,rfl⟩:=r;exact⟨_,.int i t⟩
 | .str x,v,u,h,r=>by cases qa5t h;obtain⟨t,rfl⟩:=r;exact⟨_,.str x t⟩
 | .list ds,v,u,h,r=>by
  obtain⟨a,xs,rfl,_,q,t⟩:=qa3o h
  cases r
  obtain⟨its,rv,⟨o,n,e,hc,_,hd⟩,_⟩:=I.list (SqL.of q)
  obtain⟨as,ra⟩:=qa0b.reads I ds xs its t rv
  exact⟨_,.list e hc hd (by simpa using ra)⟩
 | .tuple ds,v,u,h,r=>by
  obtain⟨a,xs,rfl,q,t⟩:=qa3e h
  cases r
  obtain⟨its,rv,⟨o,e,hc,n,hd⟩,_⟩:=I.tuple q
  obtain⟨as,ra⟩:=qa0b.reads I ds xs its t rv
  exact⟨_,.tuple e hc hd (by simpa using ra)⟩
 | .dict kvs,v,u,h,r=>by
  obtain⟨a,ν,rfl,_,q,t⟩:=qa7z h
  cases r
  obtain⟨_,_,vs,kv,o,es,ep,e,hc,hd,_,hp,_⟩:=(show qa1v X.prog X.w H s.heap a (.dK ν) from I.hok a _ q)
  obtain⟨as,bs,r1,r2⟩:=qa0o.reads I kvs ν vs es.toList t kv hp
  exact⟨_,.dict e hc.1 hd r1 r2⟩
theorem qa0b.reads(I:Inv X pins σ H s):∀ (ds:List PyData) (vs:List V) (us:List Value),qa0b X.K H S ds vs->Vals vs us->∃ as,ReadsAll s.heap us ds as
 | [],vs,us,h,r=>by
  cases h.unnil
  cases r
  exact⟨_,.nil⟩
 | d :: ds,vs,us,h,r=>by
  obtain⟨v,vr,rfl,hd,t⟩:=h.uncons
  cases r with
  | cons r1 r2 =>
   obtain⟨as,q1⟩:=AtD.reads I d v _ hd r1
   obtain⟨bs,q2⟩:=qa0b.reads I ds vr _ t r2
   exact⟨_,.cons q1 q2⟩
theorem qa0o.reads(I:Inv X pins σ H s):∀ (kvs:List (PyData × PyData)) (κ:List (Key × V)) (vs:List (Key × Value)) (es:List DictEntry),qa0o X.K H S kvs κ->KV κ vs->Pairs (qa1t X.prog X.w) es vs->∃ as bs,ReadsAll s.heap (es.map (·.key)) (kvs.map (·.1)) as/\ReadsAll s.heap (es.map (·.val)) (kvs.map (·.2)) bs
 | [],κ,vs,es,h,r,q=>by
  cases h.unnil
  cases r
  cases q
  exact⟨_,_,.nil,.nil⟩
 | (x,d) :: kr,κ,vs,es,h,r,q=>by
  obtain⟨k,v,t,rfl,rfl,h1,h2⟩:=h.uncons
  cases r with
  | cons r1 r2 =>
   cases q with
   | cons q1 q2 q3 =>
    rename_i kv _ e _
    obtain⟨kk,kv2⟩:=kv
    obtain⟨e1,e2⟩:=r1
    cases e1
    obtain⟨a1,w1⟩:=AtD.reads I d v kv2 h1 e2
    obtain⟨as,bs,c1,c2⟩:=qa0o.reads I kr t _ _ h2 r2 q3
    have hk:Reads s.heap e.key (keyD k) []:=qc1v _ (show qa8r k e.key=true from q1)
    have g1:=ReadsAll.cons hk c1
    have g2:=ReadsAll.cons w1 c2
    rw [show kv2=e.val from q2.symm] at g2
    exact⟨_,_,g1,g2⟩
end
end
section
variable{X:Cx}
theorem IxR.imp{r r':R2}(h:IxR X r)(f:∀ x y H Q,r' x y H Q->r x y H Q):IxR X r':=fun value slice pins s σ H x y v u Q I rx ry q hs=>h value slice pins s σ H x y v u Q I rx ry (f x y H Q q) hs
theorem qa3h.imp{g:Value}{r r':List V->Hp->VK->Prop}(h:qa3h X g r)(f:∀ x H Q,r' x H Q->r x H Q):qa3h X g r':=fun pins s σ H xs us Q I rs q=>h pins s σ H xs us Q I rs (f xs H Q q)
def SeqD(K:PySem.W.Frag)(H:Hp)(S:Addr->Prop)(ds:List PyData)(v:V):Prop:=AtD K H S (.tuple ds) v ∨ AtD K H S (.list ds) v
theorem qb1u{K:PySem.W.Frag}{H:Hp}{S:Addr->Prop}{ds:List PyData}{xs:List V}{i:Int}{d:PyData}(h:qa0b K H S ds xs)(e:atI ds i=some d):∃ v,atI xs i=some v/\AtD K H S d v:=by
 unfold atI at e ⊢
 rw [h.length]
 cases q:ixN ds.length i with
 | none=>rw [q] at e;cases e
 | some j =>
  rw [q] at e
  obtain⟨v,e1,e2⟩:=h.get (show ds[j]? = some d from e)
  exact⟨v,e1,e2⟩
def rIxD(K:PySem.W.Frag):R2:=fun x y H Q=>∃ S ds i d,SeqD K H S ds x/\y=.int i/\atI ds i=some d/\∀ v,AtD K H S d v->Q v H
theorem qa5u:IxR X (rIxD X.K):=(qa5m.or ix_tup).imp fun x y H Q h=>by
 obtain⟨S,ds,i,d,h | h,rfl,e,q⟩:=h
 ·obtain⟨a,xs,rfl,hs,t⟩:=qa3e h
  obtain⟨v,e1,e2⟩:=qb1u t e
  exact .inr ⟨a,xs,i,v,rfl,rfl,hs,e1,q v e2⟩
 ·obtain⟨a,xs,rfl,_,hs,t⟩:=qa3o h
  obtain⟨v,e1,e2⟩:=qb1u t e
  exact .inl ⟨a,xs,i,v,rfl,rfl,SqL.of hs,e1,q v e2⟩
theorem qb4v:qa3h X (.builtin "len") (fun xs H Q=>∃ v S ds,xs=[v]/\SeqD X.K H S ds v/\Q (.int ds.length) H):=qa3d.imp fun xs H Q h=>by
 obtain⟨v,S,ds,rfl,h | h,q⟩:=h
 ·obtain⟨a,ys,rfl,hs,t⟩:=qa3e h
  exact⟨a,ys,rfl,.inr hs,by rw [t.length];exact q⟩
 ·obtain⟨a,ys,rfl,_,hs,t⟩:=qa3o h
  exact⟨a,ys,rfl,.inl (SqL.of hs),by rw [t.length];exact q⟩
def rEqD(K:PySem.W.Frag)(neg:Bool):R2:=fun x y H Q=>∃ S S' d e,AtD K H S d x/\AtD K H S' e y/\SeqAt.shaped d=true/\SeqAt.shaped e=true/\Q (.bl (if neg then !PyData.eqv d e else PyData.eqv d e)) H
theorem op_eqD(hu:X.A.units + 64 < cLine):OpR X (compareOp .Eq) (rEqD X.K false):=by
 intro pins s σ H x y v u Q I rx ry h
 obtain⟨S,S',d,e,hd,he,sd,se,q⟩:=h
 obtain⟨as,ra⟩:=AtD.reads I d x v hd rx
 obtain⟨bs,rb⟩:=AtD.reads I e y u he ry
 exact SeqAt.compareEq_shaped ra rb sd se hu ⟨.bl _,H,I,rfl,q⟩
theorem op_neD(hu:X.A.units + 64 < cLine):OpR X (compareOp .NotEq) (rEqD X.K true):=by
 intro pins s σ H x y v u Q I rx ry h
 obtain⟨S,S',d,e,hd,he,sd,se,q⟩:=h
 obtain⟨as,ra⟩:=AtD.reads I d x v hd rx
 obtain⟨bs,rb⟩:=AtD.reads I e y u he ry
 exact SeqAt.compareNe_shaped ra rb sd se hu ⟨.bl _,H,I,rfl,q⟩
noncomputable def tyD:PyData->String
 | .none => "NoneType" | .bool _ => "bool" | .int _ => "int" | .str _ => "str" | .list _ => "list" | .tuple _ => "tuple" | .dict _ => "dict"
noncomputable def isD(T:String)(d:PyData):Bool:=tyD d == T || (T == "int" && tyD d == "bool")
theorem pe_ty{x:Str}{T:String}{pos:Pos}(hg:Gl X x)(hm:X.mg x=none)(hv:bootBuiltins x=some (.type T)) (hn:x ≠ "__name__":=by decide) (hd:(x == ("__debug__" : Str))=false:=by decide):PE X (.Name x pos) (tC (.ty T)):=
 pe_bltn hg hm hv rfl hn hd
theorem qc3o{pins:List (Addr × Obj)}{s:Shared}{σ:St}{H:Hp}{S:Addr->Prop}{d:PyData}{v:V}{u:Value}{T:String}{Q:VK}(I:Inv X pins σ H s)(h:AtD X.K H S d v)(r:RelV v u)
  (ht:PySem.W.kitOne X.K (.type (tyD d)) (.type T)=some (isD T d)) (q:Q (.bl (isD T d)) H) :
  wpAny (model X.prog X.w) X.A (call (.builtin "isinstance") [u,.type T]) (EP X pins σ Q) X.xe s:=by
 have fin:∀ tk,EP X pins σ Q (.bool (isD T d)) { s with toks:=tk }:=fun tk=>⟨.bl _,H,I.tok tk,rfl,q⟩
 cases d with
 | none=>cases qa9q h;cases r;exact PySem.W.kia_one PySem.W.kitx_none I.kIn True.intro ht (fun z=>nomatch z) fin
 | bool b=>cases qa4s h;cases r;exact PySem.W.kia_one PySem.W.kitx_bool I.kIn True.intro ht (fun z=>nomatch z) fin
 | int i=>cases qa4d h;obtain⟨t,rfl⟩:=r;exact PySem.W.kia_one PySem.W.kitx_int I.kIn True.intro ht (fun z=>nomatch z) fin
 | str x=>cases qa5t h;obtain⟨t,rfl⟩:=r;exact PySem.W.kia_one PySem.W.kitx_str I.kIn True.intro ht (fun z=>nomatch z) fin
 | list ds =>
  obtain⟨a,xs,rfl,_,hq,_⟩:=qa3o h
  cases r
  obtain⟨its,_,⟨o,n,e,hc,_,hd⟩,_⟩:=I.list (SqL.of hq)
  exact PySem.W.kia_one PySem.W.kitx_list I.kIn ⟨o,e,hc⟩ ht (fun z=>nomatch z) fin
 | tuple ds =>
  obtain⟨a,xs,rfl,hq,_⟩:=qa3e h
  cases r
  obtain⟨its,_,⟨o,e,hc,n,hd⟩,_⟩:=I.tuple hq
  exact PySem.W.kia_one PySem.W.kitx_tuple I.kIn ⟨o,e,hc⟩ ht (fun z=>nomatch z) fin
 | dict kvs =>
  obtain⟨a,ν,rfl,_,hq,_⟩:=qa7z h
  cases r
  obtain⟨_,_,vs,kv,o,es,ep,e,hc,hd,_,hp,_⟩:=(show qa1v X.prog X.w H s.heap a (.dK ν) from I.hok a _ hq)
  exact PySem.W.kia_one PySem.W.kitx_dict I.kIn ⟨o,e,hc.1⟩ ht (fun z=>nomatch z) fin
noncomputable def qa1q(T:String):Bool:=T == "int" || T == "str" || T == "bool" || T == "list" || T == "tuple" || T == "dict"
theorem qb5x(K:PySem.W.Frag)(d:PyData)(T:String)(hT:qa1q T=true):PySem.W.kitOne K (.type (tyD d)) (.type T)=some (isD T d):=by
 simp only [qa1q,Bool.or_eq_true,beq_iff_eq] at hT
 rcases hT with((((rfl | rfl) | rfl) | rfl) | rfl) | rfl<;>cases d<;>rfl
theorem qc3p:qa3h X (.builtin "isinstance") (fun xs H Q=>∃ v S d T,xs=[v,.ty T]/\AtD X.K H S d v/\qa1q T=true/\Q (.bl (isD T d)) H):=by
 intro pins s σ H xs us Q I rs h
 obtain⟨v,S,d,T,rfl,hd,hT,q⟩:=h
 obtain⟨u,u2,rfl,r1,r2⟩:=rs.two
 cases r2
 exact qc3o I hd r1 (qb5x X.K d T hT) q
end
section
variable{X:Cx}{tg:Expr}
def iDat(K:PySem.W.Frag)(tl:TE):TI:=fun σ H R=>tl σ H fun x H1=>(∃ a,x=.ref a/\(∃ xs,SqT K H1 a xs)/\R (Itt K a) H1) ∨ (∃ a,x=.ref a/\(∃ xs,SqL K H1 a xs)/\R (Itl K a) H1)
theorem qb2x{l:Expr}{tl:TE}(hl:PE X l tl):PI X tg l (iDat X.K tl):=by
 intro pins s σ H R I h
 refine thn (hl pins s σ H (fun x H1=>(∃ a,x=.ref a/\(∃ xs,SqT X.K H1 a xs)/\R (Itt X.K a) H1) ∨ (∃ a,x=.ref a/\(∃ xs,SqL X.K H1 a xs)/\R (Itl X.K a) H1)) I h) fun v s1 hq9=>?_
 obtain⟨x,H1,I1,r1,q1⟩:=hq9
 rcases q1 with⟨a,rfl,⟨xs,hq⟩,q⟩ | ⟨a,rfl,⟨xs,hq⟩,q⟩
 ·cases r1
  obtain⟨its,rv,p,hz⟩:=I1.tuple hq
  refine wpAny_pyIter_tuple (show s1.heap.IsTuple a its.toArray from p) ?_
  refine⟨s1.heap.objs.size,[s1.heap.objs.size],_,_,H1,rfl,I1.kept (t':=s1.toks) fun b o e=>Heap.get?_push_of_some _ e,qb9q a _,⟨_,Heap.get?_push_size _ rfl,rfl,rfl⟩,fun b hb=>?_,q⟩
  have e:b=s1.heap.objs.size:=by simpa using hb
  subst e
  exact I1.fpOk (Nat.le_refl _) (I1.hok.fresh (Nat.le_refl _))
 ·cases r1
  obtain⟨its,rv,p,hz⟩:=I1.list hq
  refine wpAny_pyIter_list p.isList ?_
  refine⟨s1.heap.objs.size,[s1.heap.objs.size],_,_,H1,rfl,I1.kept (t':=s1.toks) fun b o e=>Heap.get?_push_of_some _ e,qc1h a _,⟨_,Heap.get?_push_size _ rfl,rfl,rfl⟩,fun b hb=>?_,q⟩
  have e:b=s1.heap.objs.size:=by simpa using hb
  subst e
  exact I1.fpOk (Nat.le_refl _) (I1.hok.fresh (Nat.le_refl _))
end
def WalkD(J:It)(σ:St)(H:Hp)(go:V->St->Hp->(St->Hp->Prop)->Prop)(done:St->Hp->Prop):Prop:=
 ∃ W:Nat->Nat->St->Hp->Prop,(∃ m,W 0 m σ H)/\∀ i m σ H,W i m σ H ->
  (J.stop i H/\done σ H) ∨ (J.go i H/\∃ N:St->Hp->Prop,(∀ σ' H',N σ' H'->∃ m',m' < m/\W (i + 1) m' σ' H')/\∀ x H',J.yld i H x H'->go x σ H' N)
theorem qc3q{K:PySem.W.Frag}{a:Addr}{xs:List V}{σ:St}{H:Hp}{go:V->St->Hp->(St->Hp->Prop)->Prop}{done:St->Hp->Prop}(Pv:Nat->St->Hp->Prop)(h0:Pv 0 σ H)(hl:∀ i σ H,i <= xs.length->Pv i σ H->SqT K H a xs)
  (hs:∀ i x σ H,xs[i]? = some x->Pv i σ H->go x σ H (Pv (i + 1))) (hd:∀ σ H,Pv xs.length σ H->done σ H):WalkD (Itt K a) σ H go done:=by
 refine⟨fun i m σ H=>m=xs.length - i/\i <= xs.length/\Pv i σ H,⟨xs.length,by simp,Nat.zero_le _,h0⟩,?_⟩
 rintro i m σ H ⟨rfl,hi,p⟩
 have q:=hl i σ H hi p
 by_cases hlt:i < xs.length
 ·refine .inr ⟨⟨xs,xs[i],q,by simp [hlt]⟩,Pv (i + 1),fun σ' H' p'=>⟨xs.length - (i + 1),by omega,rfl,hlt,p'⟩,fun x H' y=>?_⟩
  obtain⟨e,y⟩:=y
  subst e
  exact hs i x σ _ (y xs q) p
 ·have e:i=xs.length:=by omega
  subst e
  exact .inl ⟨⟨xs,q,Nat.le_refl _⟩,hd σ H p⟩
theorem qb4w{K:PySem.W.Frag}{a:Addr}{xs:List V}{σ:St}{H:Hp}{go:V->St->Hp->(St->Hp->Prop)->Prop}{done:St->Hp->Prop}(Pv:Nat->St->Hp->Prop)(h0:Pv 0 σ H)(hl:∀ i σ H,i <= xs.length->Pv i σ H->SqL K H a xs)
  (hs:∀ i x σ H,xs[i]? = some x->Pv i σ H->go x σ H (Pv (i + 1))) (hd:∀ σ H,Pv xs.length σ H->done σ H):WalkD (Itl K a) σ H go done:=by
 refine⟨fun i m σ H=>m=xs.length - i/\i <= xs.length/\Pv i σ H,⟨xs.length,by simp,Nat.zero_le _,h0⟩,?_⟩
 rintro i m σ H ⟨rfl,hi,p⟩
 have q:=hl i σ H hi p
 by_cases hlt:i < xs.length
 ·refine .inr ⟨⟨xs,xs[i],q,by simp [hlt]⟩,Pv (i + 1),fun σ' H' p'=>⟨xs.length - (i + 1),by omega,rfl,hlt,p'⟩,fun x H' y=>?_⟩
  obtain⟨e,y⟩:=y
  subst e
  exact hs i x σ _ (y xs q) p
 ·have e:i=xs.length:=by omega
  subst e
  exact .inl ⟨⟨xs,q,Nat.le_refl _⟩,hd σ H p⟩
theorem qb1k{own:List Str}{cap:List (Str × Nat)}{g:TG}{tt:TT}{te:TE}{J:It}{D:Addr}{σ:St}{H1:Hp}{Z:Hp->Prop}
  (h:WalkD J (qa6s own cap σ) (upd H1 D (.lst [])) (fun x σ' H'' N=>g x σ' H'' fun σ2 H2=>tt σ2 H2 fun b H3=>if b=true then te σ2 H3 fun y H4=>∃ ys,H4 D=some (.lst ys)/\ys.length < sizeLine/\N σ2 (upd H4 D (.lst (ys ++ [y]))) else N σ2 H3) (fun _ H'=>Z H')) :
  qb2j own cap g tt te J D σ H1 Z:=h
end L2
end
section
namespace L2
open PySem PySem.Spec PyProof.Rows
structure Def(K:PySem.W.Frag)(mg:Str->Option Value)(x:Str)(st:Stmt)(ps:List Str)(f:Addr)(fd:FuncData):Prop where
 fn:Fun K x x st f fd
 bd:Binds K fd ps []
 gl:mg x=some (.ref f)
section
variable{X:Cx}{k:Nat}{f:Addr}{fd:FuncData}{ps:List Str}{sp:Sp}{x:Str}{st:Stmt}{p pos:Pos}{e:Expr}{es:List Expr}{t:TA}
theorem qa3r(d:Def X.K X.mg x st ps f fd)(g:FnOk X.prog X.w X.K X.mg X.base CX0 k f fd ps sp)(hr:Room k X.A)(hg:Gl X x)(ha:PA X (e :: es) t) (hdb:(x == ("__debug__" : Str))=false:=by decide)
  (he:starEach (e :: es) X.env=(false,eval e X.env) :: starEach es X.env:=by rfl) (hpl:(backTo pos (starEach es X.env)).any (·.1)=false:=by rfl):PE X (.Call (.Name x p) (e :: es) [] pos) (tCall sp [] E0 t):=
 pe_call g hr hg d.gl d.fn.kp d.bd .nil pass0 ha hdb he hpl
end
noncomputable def Itd(hi:Int)(n:Nat):It:=⟨fun i _=>i < n,fun i H x H'=>H'=H/\x=.int (hi - i),fun i _=>n <= i⟩
theorem qc1w{P:Program}{w:World}{K:PySem.W.Frag}{tg:Expr}(it:Addr)(hi:Int)(n:Nat):Turn P w K tg (Itd hi n) [it] it (fun i h=>IsRangeIter h it (hi + (i:Nat) * (-1)) ((n:Int) - (i:Nat)) (-1)) where
 mem:=by simp
 obj:=fun i h st b hb=>by
  have e:b=it:=by simpa using hb
  subst e
  exact⟨_,st,fun v z=>by
   have z':Data.fields _=Data.cell v:=z
   cases z'⟩
 keep:=fun i h h' st k=>k it (by simp) _ st
 item:=by
  intro X hP hw hK hc i pins s σ H E I hf st hg
  subst hP hw hK
  obtain⟨f0,f1,f2,f3,f4,f5⟩:=hf it (by simp)
  have W:=Walks.range (prog:=X.prog) (w:=X.w) (I.ok.hd hc) it hi (-1) n
  refine W.item i s _ _ hg st fun v h' tk hv st' kk=>?_
  obtain⟨t,rfl⟩:=hv
  have I1:Inv X pins σ H { s with heap:=h',toks:=tk }:=I.turned (fun b o hb e=>kk b o (by simpa using hb) e) f0 f1 f3 f4 f5
  have e:hi + (i:Int) * (-1)=hi - i:=by omega
  refine⟨_,rfl,go_of (s:={ s with heap:=h',toks:=tk }) (n:="range_iterator") st' rfl rfl (by decide) ⟨.int (hi - i),H,I1,⟨t,by rw [e]⟩,⟨rfl,rfl⟩,st',fun b hb=>(hf b hb).1⟩⟩
 done:=by
  intro X hP hw hK hc i pins s σ H E I hf st hg
  subst hP hw hK
  obtain⟨f0,f1,f2,f3,f4,f5⟩:=hf it (by simp)
  exact wpAny_pyNext_range_end (I.ok.hd hc) st (by have:n <= i:=hg;omega) fun h' eb=>⟨rfl,I.turned (t':=s.toks) (fun b o hb e=>eb b o hb e) f0 f1 f3 f4 f5⟩
 self:=fun _ _ _ _ _ st h=>wpAny_pyIter_rangeiter st h
theorem rangeSize_down(a b:Int):Builtin.Range.rangeSize a b (-1)=if a > b then a - b else 0:=by
 unfold Builtin.Range.rangeSize
 rw [if_neg (by decide)]
 split
 ·have:-(-1:Int)=1:=rfl
  rw [this,Int.ediv_one];omega
 ·rfl
theorem small_down{a b:Int}(ha:-(2 ^ 60) <= a)(ha':a < 2 ^ 60)(hb:-(2 ^ 60) <= b)(hb':b < 2 ^ 60):Builtin.Range.small a b (-1)=true:=by
 unfold Builtin.Range.small
 rw [rangeSize_down]
 simp only [Builtin.Range.rangeFitsLong,Bool.and_eq_true,Bool.or_eq_true,decide_eq_true_eq,beq_iff_eq]
 split<;>simp<;>omega
section
variable{X:Cx}{tg:Expr}
def iDown(ta:TA):TI:=fun σ H R=>ta σ H fun vs H1=>∃ i j:Int,vs=[.int i,.int j,.int (-1)]/\(-(2 ^ 60) <= i/\i < 2 ^ 60 /\ -(2 ^ 60) <= j/\j < 2 ^ 60)/\R (Itd i (i - j).toNat) H1
theorem pi_down{a b c:Expr}{ta:TA}{p pos:Pos} (hg:Gl X "range") (hm:X.mg "range" = none) (ha:PA X [a,b,c] ta) (hs:starEach [a,b,c] X.env=(false,eval a X.env) :: starEach [b,c] X.env:=by rfl) (hs2:(backTo pos (starEach [b,c] X.env)).any (·.1)=false:=by rfl) :
  PI X tg (.Call (.Name "range" p) [a,b,c] [] pos) (iDown ta):=by
 intro pins s σ H R I h
 refine Call_ (qa6y I hg hm boot_range (PyProof.Rows.callWith_type1 (thn (ha pos pins s σ H _ I h) fun us s1 hq8=>?_) hs hs2))
 obtain⟨vs,H1,I1,r1,q1⟩:=hq8
 obtain⟨i,j,e,⟨q1,q2,q3,q4⟩,q⟩:=q1
 subst e
 cases r1 with
 | cons r rr =>
  cases rr with
  | cons r' rr =>
   cases rr with
   | cons r'' rr =>
    cases rr
    obtain⟨t,rfl⟩:=r
    obtain⟨t',rfl⟩:=r'
    obtain⟨t'',rfl⟩:=r''
    refine call_range_3 (by decide) ?_ (Or.inl (PyProof.noPylong_small (by decide)))
    refine wpAny_pyIter_range (IsRange.new ..) (small_down q1 q2 q3 q4) ?_
    have I2:Inv X pins σ H1 { s1 with heap:=s1.heap.push { cls:=.type "range",data:=.fields #[.int i t,.int j t',.int (-1) t''] },toks:=s1.toks }:=I1.kept fun b o e=>Heap.get?_push_of_some _ e
    refine⟨_,[_],_,_,H1,rfl,I2.kept (t':=s1.toks) fun b o e=>Heap.get?_push_of_some _ e,qc1w _ i (i - j).toNat,?_,fun b hb=>?_,q⟩
    ·have e1:i + ((0:Nat):Int) * (-1)=i:=by simp
     have e2:(((i - j).toNat:Nat):Int) - ((0:Nat):Int)=Builtin.Range.rangeSize i j (-1):=by rw [rangeSize_down];split<;>omega
     show IsRangeIter _ _ (i + ((0:Nat):Int) * (-1)) ((((i - j).toNat:Nat):Int) - ((0:Nat):Int)) (-1)
     rw [e1,e2]
     exact Heap.get?_push_size _ rfl
    ·have e:b=(s1.heap.push { cls:=.type "range",data:=.fields #[.int i t,.int j t',.int (-1) t''] }).objs.size:=by simpa using hb
     subst e
     exact I2.fpOk (Nat.le_refl _) (I2.hok.fresh (Nat.le_refl _))
end
section
variable{X:Cx}
theorem ints_of_all{K:PySem.W.Frag}{H:Hp}{S:Addr->Prop}:∀ {ns:List Int} {xs:List V},qa0b K H S (ns.map .int) xs->xs=ns.map V.int
 | [],xs,h=>by rw [h.unnil];rfl
 | n :: r,xs,h=>by
  obtain⟨v,vr,rfl,hd,t⟩:=h.uncons
  rw [qa4d hd,ints_of_all t];rfl
end
end L2
namespace L2
open PySem PySem.Spec PyProof.Rows
def Frs(S:Addr->Prop)(H:Hp):Prop:=∀ p,H p=none->S p
section
variable{K:PySem.W.Frag}{S:Addr->Prop}{σ:St}{H:Hp}{d:PyData}{ds:List PyData}{t te:TE}{ta:TA}
theorem atI_in{α:Type}{xs:List α}{i:Int}(h0:0 <= i)(h1:i < xs.length):∃ x,atI xs i=some x/\x ∈ xs/\xs[i.toNat]? = some x:=by
 have hk:i.toNat < xs.length:=by omega
 have ei:i=((i.toNat:Nat):Int):=by omega
 have q:atI xs ((i.toNat:Nat):Int)=some xs[i.toNat]:=qa1f (List.getElem?_eq_getElem hk)
 rw [← ei] at q
 exact⟨_,q,List.getElem_mem hk,List.getElem?_eq_getElem hk⟩
end
end L2
end
section
namespace L2
open PySem PySem.Spec PyProof.Rows
theorem qa9r:typeLookup (.type "tuple") "__reversed__" = pure none:=by rw [typeLookup_type,builtinLookup_eq_fast];kernel_rfl
theorem qa5v:typeLookup (.type "tuple") "__getitem__" = pure (some (.builtin "tuple.__getitem__")):=by rw [typeLookup_type,builtinLookup_eq_fast];kernel_rfl
theorem sub_tuple_dict:isSubtype (.type "tuple") (.type "dict")=pure false:=by rw [isSubtype_type];kernel_rfl
theorem qb1l:Slot "reversed" "__init__" "object.__init__":=
 .of (owner:="object") (n:="__init__") (by rw [typeLookup_type,builtinLookup_eq_fast];kernel_rfl) (by decide +kernel) (by decide +kernel) (by decide +kernel)
  (by first | exact .inl (by decide +kernel) | exact .inr (by decide +kernel)) (by rw [isSubtype_type];kernel_rfl)
theorem qb2y:TypeCalled "reversed" "reversed.__new__" "object.__init__":=
 ⟨by decide +kernel,by decide +kernel,⟨_,_,F.mro_reversed⟩,F.made_reversed,by decide +kernel,F.sub_reversed_self,qb1l⟩
theorem qa2p:Slot "reversed" "__next__" "reversed.__next__":=
 .of (owner:="reversed") (n:="__next__") (by rw [typeLookup_type,builtinLookup_eq_fast];kernel_rfl) (by decide +kernel) (by decide +kernel) (by decide +kernel)
  (by first | exact .inl (by decide +kernel) | exact .inr (by decide +kernel)) (by rw [isSubtype_type];kernel_rfl)
theorem qa7b:Slot "reversed" "__iter__" "reversed.__iter__":=
 .of (owner:="reversed") (n:="__iter__") (by rw [typeLookup_type,builtinLookup_eq_fast];kernel_rfl) (by decide +kernel) (by decide +kernel) (by decide +kernel)
  (by first | exact .inl (by decide +kernel) | exact .inr (by decide +kernel)) (by rw [isSubtype_type];kernel_rfl)
theorem qa6h:entryFor table "reversed.__next__" = some Builtin.«reversed.__next__»:=entryFor_of_tree (by kernel_rfl)
theorem qb1c:entryFor table "reversed.__iter__" = some Builtin.«dict_keyiterator.__iter__»:=
 entryFor_alias (id':="dict_keyiterator.__iter__") (by kernel_rfl) (by first | rfl | decide +kernel | (unfold String.splitOn;simp +decide [String.splitOnAux])) (by decide +kernel) (by kernel_rfl)
theorem qa7c(a:Value):argsOk "reversed.__next__" ⟨[a],[]⟩:=by unfold argsOk;kernel_rfl
theorem qb1m(a:Value):argsOk "reversed.__iter__" ⟨[a],[]⟩:=by unfold argsOk;kernel_rfl
section
variable{prog:Program}{w:World}{A:Around}{E:Value->Shared->Prop}{s:Shared}
noncomputable def revT(l:Addr)(i:Int):Obj:={ cls:=.type "reversed",data:=.fields #[.ref l,rawInt i] }
theorem IsTup.typeIs'{h:Heap}{a:Addr}{items:Array Value}{s:Shared}(e:s.heap=h)(x:IsTup h a items):s.TypeIs (.ref a) "tuple":=by
 obtain⟨o,ho,hc,_⟩:=x
 subst e
 exact⟨o,ho,hc⟩
theorem qb0h{l:Addr}{items:Array Value}(hfit:(items.size:Int) < 2 ^ 63) :
  MeetsIn prog w (Builtin.«reversed.__new__» ⟨[.type "reversed",.ref l],[]⟩) (fun A R s=>IsTup s.heap l items/\∀ tk,R (.ok (.ret (Value.ref s.heap.objs.size))) { s with heap:=s.heap.push (revT l ((items.size:Int) - 1)),toks:=tk }):=by
 intro A R s ⟨ht,h⟩
 unfold Builtin.«reversed.__new__»
 refine wpAny_bind (wpAny_of_eq (newClass_reversed _) ?_)
 try dsimp only
 refine wpAny_bind (wpAny_of_eq (a:=()) (by first | rfl | kernel_rfl) ?_)
 refine wpAny_bind (wpAny_of_eq (a:=()) (by first | rfl | kernel_rfl) ?_)
 try dsimp only
 refine wpAny_bind (wpAny_specialOf (IsTup.typeIs' rfl ht) qa9r ?_)
 try dsimp only
 refine wpAny_bind ?_
 show wpAny _ _ (isInstance (.ref l) (.type "dict") >>= _) _ _ _
 refine wpAny_bind (wpAny_isInstance (IsTup.typeIs' rfl ht) sub_tuple_dict ?_)
 show wpAny _ _ (specialOf (.ref l) "__getitem__" >>= _) _ _ _
 refine wpAny_bind (wpAny_specialOf (IsTup.typeIs' rfl ht) qa5v ?_)
 refine wpAny_pure ?_
 show wpAny _ _ (call (Value.builtin "len") [Value.ref l] >>= _) _ _ _
 refine wpAny_bind (len_tuple ht hfit ?_)
 show wpAny _ _ (asInt? (Value.int _ _) >>= _) _ _ _
 refine wpAny_bind (wpAny_of_eq (a:=some (items.size:Int)) (by rfl) ?_)
 show wpAny _ _ (Builtin.SmallTypes.newRecord (Value.type "reversed") [Value.ref l,rawInt ((items.size:Int) - 1)] >>= _) _ _ _
 refine wpAny_bind ?_
 show wpAny _ _ (newObj (Value.type "reversed") (.fields [Value.ref l,rawInt ((items.size:Int) - 1)].toArray)) _ _ _
 refine wpAny_newObj_type ?_
 exact wpAny_pure (h _)
theorem qb1d{l:Addr}{items:Array Value}{Q:Value->Shared->Prop}(ht:IsTup s.heap l items)(hfit:(items.size:Int) < 2 ^ 63)
  (h:∀ tk,Q (.ref s.heap.objs.size) { s with heap:=s.heap.push (revT l ((items.size:Int) - 1)),toks:=tk }):wpAny (model prog w) A (call (.type "reversed") [.ref l]) Q E s:=
 callType_newIn qb2y (by decide) (F.typeCall_reversed_1 _) (F.newCall_reversed_1 _) (fun obj=>F.args_object_init_2 obj _) F.entry_reversed_new
  (qb0h hfit) ⟨ht,fun tk=>⟨⟨_,Heap.get?_push_size _ rfl,rfl⟩,h tk⟩⟩
theorem qb2a{it l:Addr}{i:Int}{Q:Value->Shared->Prop}(hit:s.heap.get? it=some (revT l i))(h:Q (.ref it) s):wpAny (model prog w) A (pyIter (.ref it)) Q E s:=by
 have hT:s.TypeIs (.ref it) "reversed":=⟨_,hit,rfl⟩
 refine wpAny_pyIter_slot hT qa7b (wpAny_call_entry qa7b hT qb1c ?_ (qb1m _))
 show wpAny _ _ (ret (.ref it)) _ _ s
 exact wpAny_pure ⟨_,rfl,"reversed",_,hT,qa2p.lookup,h⟩
theorem qb2k{it l:Addr}{i:Nat}{items:Array Value}{x:Value}{Q:Option Value->Shared->Prop}(hit:s.heap.get? it=some (revT l (i:Int)))(ht:IsTup s.heap l items)(hx:items[i]? = some x)(hne:l ≠ it)(hfit:(i:Int) < 2 ^ 63)
  (hQ:∀ h' tk,h'.get? it=some (revT l ((i:Int) - 1))->Heap.SameBut it s.heap h'->Q (some x) { s with heap:=h',toks:=tk }):wpAny (model prog w) A (pyNext (.ref it)) Q E s:=by
 have hT:s.TypeIs (.ref it) "reversed":=⟨_,hit,rfl⟩
 unfold pyNext
 refine wpAny_bind (wpAny_attempt (wpAny_callSpecial?_slot (name:=Str.ofString "__next__") hT qa2p
  (wpAny_call_entry qa2p hT qa6h ?_ (qa7c _))))
 unfold Builtin.«reversed.__next__»
 refine wpAny_bind (wpAny_of_eq (a:=(Value.ref it,[])) rfl ?_)
 try dsimp only
 refine wpAny_bind (wpAny_field hit rfl (x:=.ref l) rfl ?_)
 refine wpAny_bind (wpAny_field hit rfl (x:=rawInt (i:Int)) rfl ?_)
 show wpAny _ _ (if (i:Int) < 0 then _ else _) _ _ s
 rw [if_neg (by omega)]
 show wpAny _ _ (specialOf (.ref l) "__getitem__" >>= _) _ _ _
 refine wpAny_bind (wpAny_specialOf (IsTup.typeIs' rfl ht) qa5v ?_)
 rw [if_neg (by decide)]
 refine wpAny_bind (wpAny_mkInt ?_)
 refine wpAny_bind (wpAny_attempt (getItem_tuple (j:=i) (x:=x) ht (by omega) hfit (by
  unfold seqIndex?
  have hlt:i < items.size:=by
   by_cases q:i < items.size
   ·exact q
   ·rw [Array.getElem?_eq_none (by omega)] at hx;cases hx
  first | (rw [if_pos (by omega)];simp;omega) | (simp;omega) | (split<;>simp_all<;>omega)) hx ?_))
 show wpAny _ _ (field (.ref it) 1 >>= _) _ _ _
 refine wpAny_bind (wpAny_field hit rfl (x:=rawInt (i:Int)) rfl ?_)
 show wpAny _ _ (setField (.ref it) 1 (rawInt ((i:Int) - 1)) >>= _) _ _ _
 refine wpAny_bind (wpAny_setField hit rfl (by simp) ?_)
 refine wpAny_pure ⟨x,rfl,wpAny_pure (hQ _ _ ?_ (Heap.SameBut.update ..))⟩
 exact Heap.get?_update_self _ hit rfl
theorem qb2z{it l:Addr}{Q:Option Value->Shared->Prop}(hh:A.handled=none)(hit:s.heap.get? it=some (revT l (-1)))
  (hQ:∀ h',Heap.ExtBut it s.heap h'->Q none { s with heap:=h' }):wpAny (model prog w) A (pyNext (.ref it)) Q E s:=by
 have hT:s.TypeIs (.ref it) "reversed":=⟨_,hit,rfl⟩
 unfold pyNext
 refine wpAny_bind (wpAny_attempt (wpAny_callSpecial?_slot (name:=Str.ofString "__next__") hT qa2p
  (wpAny_call_entry qa2p hT qa6h ?_ (qa7c _))))
 unfold Builtin.«reversed.__next__»
 refine wpAny_bind (wpAny_of_eq (a:=(Value.ref it,[])) rfl ?_)
 try dsimp only
 refine wpAny_bind (wpAny_field hit rfl (x:=.ref l) rfl ?_)
 refine wpAny_bind (wpAny_field hit rfl (x:=rawInt (-1)) rfl ?_)
 show wpAny _ _ (if (-1:Int) < 0 then _ else _) _ _ s
 rw [if_pos (by decide)]
 refine wpAny_bind (wpAny_rule ?_)
 refine wpAny_bind ?_
 show wpAny _ _ (setField (.ref it) 1 (rawInt (-1)) >>= _) _ _ _
 refine wpAny_bind (wpAny_setField hit rfl (by simp) ?_)
 have h2:(s.heap.update it (Obj.mapFields fun vs=>vs.setIfInBounds 1 (rawInt (-1)))).get? it=some (revT l (-1)):=by
  exact Heap.get?_update_self _ hit rfl
 refine wpAny_setField h2 rfl (by simp) ?_
 show wpAny _ _ ((newExc (.type "StopIteration") [] >>= _) >>= _) _ _ _
 refine wpAny_bind ?_
 refine wpAny_bind ?_
 simp only [newExc,newTuple]
 refine wpAny_bind (wpAny_newObj_type ?_ (by size_fits))
 refine wpAny_bind (m:=firstArgMember _ _) (wpAny_of_eq (a:=Value.none) (by first | rfl | (simp only [firstArgMember];rfl)) ?_)
 refine wpAny_newObj_type ?_ (by size_fits)
 simp only [raiseNew]
 refine wpAny_bind (wpAny_handled ?_)
 first | rw [show A.in1.handled=none from hh] | rw [hh]
 refine wpAny_bind (wpAny_pure (wpAny_throw ?_))
 refine wpAny_bind (wpAny_isInstance (T:="StopIteration") (b:=true) ⟨_,Heap.get?_push_size _ rfl,rfl⟩ isSubtype_stop ?_)
 refine wpAny_pure (hQ _ ?_)
 refine((?_:Heap.ExtBut it s.heap _).push _).push _
 intro b o hb e
 rw [Heap.get?_update_other _ _ (Ne.symm hb),Heap.get?_update_other _ _ (Ne.symm hb)]
 exact e
end
noncomputable def Itrv(K:PySem.W.Frag)(a:Addr)(n:Nat):It:=
 ⟨fun i H=>∃ xs x,SqT K H a xs/\xs.length=n/\xs.reverse[i]? = some x,fun i H x H'=>H'=H/\∀ xs,SqT K H a xs->xs.reverse[i]? = some x,fun i _=>n=i⟩
theorem rev_at{α:Type}{xs:List α}{i:Nat}{x:α}(h:xs.reverse[i]? = some x):xs[xs.length - 1 - i]? = some x/\i < xs.length:=by
 have hi:i < xs.reverse.length:=(List.getElem?_eq_some_iff.mp h).1
 rw [List.length_reverse] at hi
 rw [List.getElem?_reverse hi] at h
 exact⟨h,hi⟩
theorem qc3r{P:Program}{w:World}{K:PySem.W.Frag}{tg:Expr}(a it:Addr)(n:Nat)(hn:n <= sizeLine):Turn P w K tg (Itrv K a n) [it] it (fun i h=>h.get? it=some (revT a ((n:Int) - 1 - (i:Nat)))) where
 mem:=by simp
 obj:=fun i h st b hb=>by
  have e:b=it:=by simpa using hb
  subst e
  exact⟨_,st,fun v z=>by
   have z':Data.fields _=Data.cell v:=z
   cases z'⟩
 keep:=fun i h h' st k=>k it (by simp) _ st
 item:=by
  intro X hP hw hK hc i pins s σ H E I hf st hg
  subst hP hw hK
  obtain⟨f0,f1,f2,f3,f4,f5⟩:=hf it (by simp)
  obtain⟨xs,x,hq,hl,hx⟩:=hg
  obtain⟨its,rv,pl,hz⟩:=I.tuple hq
  obtain⟨hx',hi⟩:=rev_at hx
  obtain⟨u,hu,ru⟩:=rv.get hx'
  have e0:(n:Int) - 1 - (i:Nat)=((xs.length - 1 - i:Nat):Int):=by omega
  have ne:a ≠ it:=by
   rintro rfl
   obtain⟨o,ho,hco,_⟩:=pl
   rw [st] at ho
   cases ho
   exact absurd hco (by show ¬ (Value.type "reversed" = Value.type "tuple");decide)
  refine qb2k (l:=a) (i:=xs.length - 1 - i) (items:=its.toArray) (x:=u) (by rw [← e0];exact st) pl (by simpa using hu) ne ?_ fun h' tk st' sb=>?_
  ·have:=qa5s;omega
  ·have I1:Inv X pins σ H { s with heap:=h',toks:=tk }:=I.turned (fun b o hb e=>(sb.2 b hb).trans e) f0 f1 f3 f4 f5
   have st2:h'.get? it=some (revT a ((n:Int) - 1 - ((i + 1:Nat):Int))):=by
    rw [st'];congr 2;omega
   refine⟨u,rfl,go_of (s:={ s with heap:=h',toks:=tk }) (n:="reversed") st2 rfl rfl (by decide) ⟨x,H,I1,ru,⟨rfl,fun ys hys=>?_⟩,st2,fun b hb=>(hf b hb).1⟩⟩
   rw [I.tuple_inj hys hq];exact hx
 done:=by
  intro X hP hw hK hc i pins s σ H E I hf st hg
  subst hP hw hK
  obtain⟨f0,f1,f2,f3,f4,f5⟩:=hf it (by simp)
  have e:n=i:=hg
  have st':s.heap.get? it=some (revT a (-1)):=by rw [st];congr 2;omega
  exact qb2z (I.ok.hd hc) st' fun h' eb=>⟨rfl,I.turned (t':=s.toks) (fun b o hb e=>eb b o hb e) f0 f1 f3 f4 f5⟩
 self:=fun _ _ _ _ _ st h=>qb2a st h
section
variable{X:Cx}{tg:Expr}
def iRev(K:PySem.W.Frag)(tl:TE):TI:=fun σ H R=>tl σ H fun x H1=>∃ a xs,x=.ref a/\SqT K H1 a xs/\R (Itrv K a xs.length) H1
theorem pi_rev{l:Expr}{tl:TE}{p pos:Pos} (hg:Gl X "reversed") (hm:X.mg "reversed" = none) (hl:PE X l tl) (hs:starEach [l] X.env=[(false,eval l X.env)]:=by rfl):PI X tg (.Call (.Name "reversed" p) [l] [] pos) (iRev X.K tl):=by
 intro pins s σ H R I h
 refine Call_ (qa6y I hg hm qb7o (PyProof.Rows.callWith_type1 (thn ((qa0g (t:=tNil) hl qa0q hs) pos pins s σ H (fun vs H1=>match vs with | [x]=>(∃ a xs,x=.ref a/\SqT X.K H1 a xs/\R (Itrv X.K a xs.length) H1) | _=>False) I ?_) fun us s1 ⟨vs,H1,I1,r1,q1⟩=>?_) hs rfl))
 ·exact h
 ·cases r1 with
  | nil=>exact q1.elim
  | cons r rr =>
   cases rr with
   | cons _ _=>exact q1.elim
   | nil =>
   obtain⟨a,xs,rfl,hq,q⟩:=q1
   cases r
   obtain⟨its,rv,pl,hz⟩:=I1.tuple hq
   have hlen:=rv.length
   refine qb1d pl (by have:=qa5s;rw [List.size_toArray];omega) fun tk=>?_
   have I2:Inv X pins σ H1 { s1 with heap:=s1.heap.push (revT a ((its.toArray.size:Int) - 1)),toks:=tk }:=I1.kept fun b o e=>Heap.get?_push_of_some _ e
   have st:({ s1 with heap:=s1.heap.push (revT a ((its.toArray.size:Int) - 1)),toks:=tk }:Shared).heap.get? s1.heap.objs.size=some (revT a ((xs.length:Int) - 1 - ((0:Nat):Int))):=by
    have e:(its.toArray.size:Int) - 1=(xs.length:Int) - 1 - ((0:Nat):Int):=by rw [List.size_toArray];omega
    rw [← e];exact Heap.get?_push_size _ rfl
   refine qb2a st ⟨s1.heap.objs.size,[s1.heap.objs.size],_,_,H1,rfl,I2,qc3r a _ xs.length hz,st,fun b hb=>?_,q⟩
   have e:b=s1.heap.objs.size:=by simpa using hb
   subst e
   exact I1.fpOk (Nat.le_refl _) (I1.hok.fresh (Nat.le_refl _))
end
end L2
end
section
namespace L2
open PySem PySem.Spec PyProof.Rows
inductive Ents (w:World):List DictEntry->List (Str × V)->Prop where
 | nil:Ents w [] []
 | cons {x:Str} {t:Tok} {u:Value} {v:V} {es:List DictEntry} {kvs:List (Str × V)}:RelV v u->Ents w es kvs->Ents w (⟨PyData.keyHash w.params x,.str x t,u⟩ :: es) ((x,v) :: kvs)
def KDict(K:PySem.W.Frag)(w:World)(a:Addr)(kvs:List (Str × V)):Prop:=(kvs.map (·.1)).Nodup/\∃ (es:Array DictEntry) (ep:Nat),K.lookup a=some ⟨.type "dict",none,.dict es ep,#[]⟩/\Ents w es.toList kvs
theorem Ents.pairs{prog:Program}{w:World}{es:List DictEntry}{kvs:List (Str × V)}(h:Ents w es kvs):∃ vs:List (Str × Value),Pairs (strKind prog w) es vs/\KV kvs vs/\(∀ e ∈ es,∃ x t,e.key=.str x t/\e.hash=hashStr w x):=by
 induction h with
 | nil=>exact⟨[],.nil,.nil,fun e he=>by cases he⟩
 | @cons x t u v es kvs r _ ih =>
  obtain⟨vs,p,q,k⟩:=ih
  refine⟨(x,u) :: vs,.cons (strKind_is prog w x t) rfl p,.cons ⟨rfl,r⟩ q,fun e he=>?_⟩
  rcases List.mem_cons.mp he with rfl | he
  ·exact⟨x,t,rfl,rfl⟩
  ·exact k e he
theorem KV.look{kvs:List (Str × V)}{vs:List (Str × Value)}(h:KV kvs vs):(kvs.map (·.1))=(vs.map (·.1))/\∀ x v,kvs.lookup x=some v->∃ u,valueAt vs x=some u/\RelV v u:=by
 induction h with
 | nil=>exact⟨rfl,fun x v e=>by cases e⟩
 | @cons p q kvs vs r _ ih =>
  obtain⟨x,v⟩:=p
  obtain⟨y,u⟩:=q
  obtain⟨e,rv⟩:=r
  have e':x=y:=e
  subst e'
  refine⟨by rw [List.map_cons,List.map_cons,ih.1],fun z w' hz=>?_⟩
  rw [List.lookup_cons] at hz
  by_cases hzx:z=x
  ·subst hzx
   simp at hz
   subst hz
   exact⟨u,by simp [valueAt],rv⟩
  ·have:(z == x)=false:=beq_eq_false_iff_ne.mpr hzx
   rw [this] at hz
   obtain⟨u',h1,h2⟩:=ih.2 z w' hz
   refine⟨u',?_,h2⟩
   unfold valueAt at h1 ⊢
   rw [List.find?_cons_of_neg (by simpa using fun q=>hzx q.symm)]
   exact h1
section
variable{X:Cx}
def rIxK(K:PySem.W.Frag)(w:World):R2:=fun x y H Q=>∃ a kvs z v,x=.ref a/\KDict K w a kvs/\y=.str z/\kvs.lookup z=some v/\Q v H
theorem qc3s:IxR X (rIxK X.K X.w):=by
 intro value slice pins s σ H x y v u Q I rx ry h hs
 obtain⟨a,kvs,z,v',rfl,⟨hnd,es,ep,hk,he⟩,rfl,hl,q⟩:=h
 cases rx
 obtain⟨t,rfl⟩:=ry
 have ho:=I.kIn a _ hk
 obtain⟨vs,hp,hkv,hkeys⟩:=he.pairs (prog:=X.prog)
 obtain⟨e1,hlook⟩:=KV.look hkv
 obtain⟨u',hu,ru⟩:=hlook z v' hl
 have hd:s.heap.DictOf (strKind X.prog X.w) a vs:=by
  refine⟨_,es,ep,ho,⟨rfl,rfl,rfl⟩,rfl,?_,hp,by rw [← e1];exact hnd⟩
  intro e hm
  obtain⟨x',t',e2,e3⟩:=hkeys e (by simpa using hm)
  exact⟨x',by rw [e2];exact strKind_is X.prog X.w x' t',e3⟩
 have fin:∀ s',Inv X pins σ H s'->EP X pins σ Q u' s':=fun s' I'=>⟨v',H,I',ru,q⟩
 exact subscriptTail_builtinR (x:=u') (T:="dict") ⟨_,ho,rfl⟩ PySem.F.slot_dict_getitem.lookup
  (wpAny_getItem_of (Q:=fun r s'=>r=u'/\EP X pins σ Q r s') (strKind_is X.prog X.w z t) hd.mapOf hu ⟨rfl,fin _ (I.tok _)⟩) hs
end
end L2
end
section
namespace L2
open PySem PySem.Spec PyProof.Rows
inductive L where
 /-- data that nobody changes any more -/
 | d (x:PyData)
 /-- a list that this name alone has -/
 | own (xs:List PyData)
 /-- a list of a caller's, lent to be changed -/
 | bor (xs:List PyData)
 /-- the tape: the script and how many draws were made -/
 | tape (k:Nat)
 /-- the script -/
 | scr
abbrev Rho:=List (Option L)
abbrev Own:=Nat->Option Addr
structure Rc where
 H0:Hp
 S:Addr->Prop
 P:Addr->Prop
 M:Addr->Prop
 A:Addr->Prop
 B:Addr->Prop
 lent:Own
 sa:Addr
 ns:List Int
noncomputable def isIO:L->Bool
 | .bor _=>true
 | .tape _=>true
 | _=>false
noncomputable def live(c:Rc)(O:Own):Addr->Prop:=fun a=>c.S a/\¬ c.P a/\∀ i,O i ≠ some a
def qa8w(c:Rc)(p:Addr):Prop:=¬ c.B p/\c.S p/\¬ c.P p
def Scr(K:PySem.W.Frag)(H:Hp)(a:Addr)(xs:List V):Prop:=xs.length <= 63 /\
 ((∃ o,H a=some (.frz o (.lst xs))) ∨ ∃ (o:Obj) (its:Array Value) (n:Nat),K.lookup a=some o/\o.cls=.type "list" /\ o.dict=none/\o.data=.seq its n/\its.size <= sizeLine/\Vals xs its.toList)
theorem Scr.seq{K:PySem.W.Frag}{H:Hp}{a:Addr}{xs:List V}(h:Scr K H a xs):SqL K H a xs:=by
 rcases h.2 with⟨o,h⟩ | h
 ·exact .inl (.inr ⟨o,h⟩)
 ·exact .inr h
structure Rel(K:PySem.W.Frag)(c:Rc)(O:Own)(ρ:Rho)(σ:St)(H:Hp):Prop where
 dat:∀ (i:Nat) (x:PyData),ρ[i]? = some (some (L.d x))->∃ v,σ[i]? = some (some v)/\AtD K H (live c O) x v
 own:∀ (i:Nat) (xs:List PyData),ρ[i]? = some (some (.own xs))->∃ p vs,O i=some p/\qa8w c p/\σ[i]? = some (some (.ref p))/\H p=some (.lst vs)/\qa0b K H (live c O) xs vs
 bor:∀ (i:Nat) (xs:List PyData),ρ[i]? = some (some (.bor xs))->∃ p vs,O i=some p/\σ[i]? = some (some (.ref p))/\H p=some (.lst vs)/\qa0b K H (live c O) xs vs
 tap:∀ (i k:Nat),ρ[i]? = some (some (.tape k))->∃ p,O i=some p/\σ[i]? = some (some (.ref p))/\H p=some (.lst [.ref c.sa,.int k])
 scr:∀ i:Nat,ρ[i]? = some (some .scr)->σ[i]? = some (some (.ref c.sa))
 inj:∀ i j p,O i=some p->O j=some p->i=j
 has':∀ i p,O i=some p->c.A p/\∃ vs,H p=some (.lst vs)
 am:∀ p,c.A p->c.M p ∨ c.H0 p=none
 frs:∀ p,c.H0 p=none->c.S p
 same:∀ b o,¬ c.M b->c.H0 b=some o->H b=some o
 kept:∀ b,c.H0 b ≠ none->H b ≠ none
 ml:∀ p,c.M p->∃ vs,H p=some (.lst vs)
 pin:∀ p,c.P p ∨ c.B p->H p ≠ none
 lnt:∀ (i:Nat) (p:Addr),c.lent i=some p->∀ l:L,ρ[i]? = some (some l)->isIO l=true->O i=some p
 sc:Scr K H c.sa (c.ns.map V.int)
 len:σ.length=ρ.length
theorem Rel.has{K:PySem.W.Frag}{c:Rc}{O:Own}{ρ:Rho}{σ:St}{H:Hp}(R:Rel K c O ρ σ H)(i:Nat)(p:Addr)(h:O i=some p):(c.M p ∨ c.H0 p=none)/\∃ vs,H p=some (.lst vs):=⟨R.am p (R.has' i p h).1,(R.has' i p h).2⟩
def Pers(K:PySem.W.Frag)(S:Addr->Prop)(H:Hp)(S':Addr->Prop)(H':Hp):Prop:=∀ d v,AtD K H S d v->AtD K H' S' d v
section
variable{K:PySem.W.Frag}{S S' S2:Addr->Prop}{H H' H2:Hp}
theorem Pers.refl:Pers K S H S H:=fun _ _ h=>h
theorem Pers.trans(a:Pers K S H S' H')(b:Pers K S' H' S2 H2):Pers K S H S2 H2:=fun d v h=>b d v (a d v h)
theorem Pers.all(a:Pers K S H S' H'):∀ {ds:List PyData} {vs:List V},qa0b K H S ds vs->qa0b K H' S' ds vs
 | [],_,h=>by rw [h.unnil];exact .nil
 | d :: ds,vs,h=>by
  obtain⟨v,r,rfl,h1,h2⟩:=h.uncons
  exact .cons (a d v h1) (Pers.all a h2)
theorem Pers.of(e:Keep S H H')(m:∀ a,S a->S' a):Pers K S H S' H':=fun d v h=>AtD.more m d v (AtD.mono e d v h)
theorem Pers.same(e:Same H H'):Pers K S H S H':=.of e.keep fun _ h=>h
mutual
theorem AtD.less{p:Addr}(hp:H p=none)(hs:∀ a,S a->a ≠ p->S' a):∀ (d:PyData) (v:V),AtD K H S d v->AtD K H S' d v
 | .none,_,h=>by unfold AtD at h ⊢;exact h
 | .bool _,_,h=>by unfold AtD at h ⊢;exact h
 | .int _,_,h=>by unfold AtD at h ⊢;exact h
 | .str _,_,h=>by unfold AtD at h ⊢;exact h
 | .list ds,v,h=>by
  obtain⟨a,xs,e1,s,q,r⟩:=qa3o h
  subst e1
  exact qa1w (hs a s (qa0z q hp)) q (qa0b.less hp hs ds xs r)
 | .tuple ds,v,h=>by
  obtain⟨a,xs,e1,q,r⟩:=qa3e h
  subst e1
  exact qa3j q (qa0b.less hp hs ds xs r)
 | .dict kvs,v,h=>by
  obtain⟨a,ν,e1,s,q,e2⟩:=qa7z h
  subst e1
  exact qb1j (hs a s (qa0z q hp)) q (qa0o.less hp hs kvs ν e2)
theorem qa0b.less{p:Addr}(hp:H p=none)(hs:∀ a,S a->a ≠ p->S' a):∀ (ds:List PyData) (vs:List V),qa0b K H S ds vs->qa0b K H S' ds vs
 | [],_,h=>by rw [h.unnil];exact .nil
 | d :: ds,vs,h=>by
  obtain⟨v,r,rfl,h1,h2⟩:=h.uncons
  exact .cons (AtD.less hp hs d v h1) (qa0b.less hp hs ds r h2)
theorem qa0o.less{p:Addr}(hp:H p=none)(hs:∀ a,S a->a ≠ p->S' a):∀ (kvs:List (PyData × PyData)) (κ:List (Key × V)),qa0o K H S kvs κ->qa0o K H S' kvs κ
 | [],_,h=>by rw [h.unnil];exact .nil
 | (x,d) :: r,κ,h=>by
  obtain⟨k,v,t,rfl,rfl,h1,h2⟩:=h.uncons
  exact .cons (AtD.less hp hs d v h1) (qa0o.less hp hs r t h2)
end
theorem Pers.new{p:Addr}(hp:H p=none)(hs:∀ a,S a->a ≠ p->S' a)(o:HO):Pers K S H S' (upd H p o):=fun d v h =>
 AtD.mono (qa0t hp o).keep d v (AtD.less hp hs d v h)
end
section
variable{K:PySem.W.Frag}{c:Rc}{O:Own}{ρ:Rho}{σ:St}{H H':Hp}
theorem Scr.keep{a:Addr}{xs:List V}{S:Addr->Prop}(h:Scr K H a xs)(e:Keep S H H'):Scr K H' a xs:=by
 refine⟨h.1,?_⟩
 rcases h.2 with⟨o,h⟩ | h
 ·exact .inl ⟨o,e.2.1 _ _ _ h⟩
 ·exact .inr h
theorem Rel.to{c':Rc}{O':Own}(R:Rel K c O ρ σ H)(hO:∀ i,O' i=O i)(hB:∀ i p,O i=some p->qa8w c p->qa8w c' p)(hsa:c'.sa=c.sa)(hns:c'.ns=c.ns)
  (hp:Pers K (live c O) H (live c' O') H') (ho:∀ i p vs,O i=some p->H p=some (.lst vs)->H' p=some (.lst vs))
  (hA:∀ i p,O i=some p->c.A p->c'.A p) (am:∀ p,c'.A p->c'.M p ∨ c'.H0 p=none) (frs:∀ p,c'.H0 p=none->c'.S p) (same:∀ b o,¬ c'.M b->c'.H0 b=some o->H' b=some o) (kept:∀ b,c'.H0 b ≠ none->H' b ≠ none) (ml:∀ p,c'.M p->∃ vs,H' p=some (.lst vs))
  (pin:∀ p,c'.P p ∨ c'.B p->H' p ≠ none) (hl:∀ i,c'.lent i=c.lent i) (sc:Scr K H' c.sa (c.ns.map V.int)):Rel K c' O' ρ σ H' where
 dat i x e:=by obtain⟨v,h1,h2⟩:=R.dat i x e;exact⟨v,h1,hp _ _ h2⟩
 own i xs e:=by obtain⟨p,vs,h1,h2,h3,h4,h5⟩:=R.own i xs e;exact⟨p,vs,(hO i).trans h1,hB i p h1 h2,h3,ho i p vs h1 h4,hp.all h5⟩
 bor i xs e:=by obtain⟨p,vs,h1,h3,h4,h5⟩:=R.bor i xs e;exact⟨p,vs,(hO i).trans h1,h3,ho i p vs h1 h4,hp.all h5⟩
 tap i k e:=by obtain⟨p,h1,h2,h3⟩:=R.tap i k e;exact⟨p,(hO i).trans h1,h2,by rw [hsa];exact ho i p _ h1 h3⟩
 scr i e:=by rw [hsa];exact R.scr i e
 inj i j p e1 e2:=R.inj i j p ((hO i).symm.trans e1) ((hO j).symm.trans e2)
 has' i p e:=by
  have e':=(hO i).symm.trans e
  obtain⟨h0,vs,h⟩:=R.has' i p e'
  exact⟨hA i p e' h0,vs,ho i p vs e' h⟩
 am:=am
 frs:=frs
 same:=same
 kept:=kept
 ml:=ml
 pin:=pin
 lnt i p e l h1 h2:=(hO i).trans (R.lnt i p ((hl i).symm.trans e) l h1 h2)
 sc:=by rw [hsa,hns];exact sc
 len:=R.len
theorem qb5y{i:Nat}{p:Addr}(h:O i=some p):¬ live c O p:=fun z=>z.2.2 i h
theorem Rel.grow(R:Rel K c O ρ σ H)(e:Same H H'):Rel K c O ρ σ H':=
 R.to (fun _=>rfl) (fun _ _ _ z=>z) rfl rfl (.same e) (fun i p vs _ q=>e _ _ q) (fun _ _ _ z=>z) R.am R.frs (fun b o n q=>e _ _ (R.same b o n q))
  (fun b n z=>R.kept b n (e.free z)) (fun p h=>let ⟨vs,q⟩:=R.ml p h;⟨vs,e _ _ q⟩) (fun p h z=>R.pin p h (e.free z)) (fun _=>rfl) (R.sc.keep (S:=Any) e.keep)
theorem Rel.free0(R:Rel K c O ρ σ H){p:Addr}(h:H p=none):c.H0 p=none:=by
 cases q:c.H0 p with
 | none=>rfl
 | some o=>exact absurd h (R.kept p (by rw [q];exact fun z=>nomatch z))
theorem Rel.liveNew(R:Rel K c O ρ σ H){p:Addr}(h:H p=none):live c O p:=
 ⟨R.frs p (R.free0 h),fun z=>R.pin p (.inl z) h,fun i e=>by obtain⟨_,vs,q⟩:=R.has i p e;rw [h] at q;cases q⟩
theorem Rel.frsLive(R:Rel K c O ρ σ H):Frs (live c O) H:=fun _ h=>R.liveNew h
theorem Rel.write{i:Nat}{p:Addr}{xs:List PyData}{vs vs':List V}{l:L}(R:Rel K c O ρ σ H)(hO:O i=some p)(hH:H p=some (.lst vs))
  (hl:ρ[i]? = some (some (.own xs)) ∨ ρ[i]? = some (some (.bor xs)) ∨ ∃ k:Nat,ρ[i]? = some (some (.tape k)))
  (hl':(∃ ys,ρ[i]? = some (some (.own xs))/\l=.own ys/\qa0b K H (live c O) ys vs') ∨ (∃ ys,ρ[i]? = some (some (.bor xs))/\l=.bor ys/\qa0b K H (live c O) ys vs') ∨ (∃ k k':Nat,ρ[i]? = some (some (.tape k))/\l=.tape k'/\vs'=[.ref c.sa,.int k'])) :
  Rel K c O (ρ.set i (some l)) σ (upd H p (.lst vs'))/\Pers K (live c O) H (live c O) (upd H p (.lst vs')):=by
 have hi:i < ρ.length:=by
  rcases hl with h | h | ⟨k,h⟩<;>exact(List.getElem?_eq_some_iff.mp h).1
 have kp:Keep (live c O) H (upd H p (.lst vs')):=(qc1u hH).less fun b hb e=>by
  subst e;exact qb5y hO hb
 have P:Pers K (live c O) H (live c O) (upd H p (.lst vs')):=.of kp fun _ h=>h
 have at_i:(ρ.set i (some l))[i]? = some (some l):=by rw [List.getElem?_set_self hi]
 have at_j:∀ j,j ≠ i->(ρ.set i (some l))[j]? = ρ[j]?:=fun j hj=>List.getElem?_set_ne (Ne.symm hj)
 have other:∀ j q,j ≠ i->O j=some q->q ≠ p:=fun j q hj e z=>hj (R.inj j i p (by rw [← z];exact e) hO)
 have hσ:σ[i]? = some (some (.ref p)):=by
  rcases hl with h | h | ⟨k,h⟩
  ·obtain⟨p',_,h1,_,h3,_⟩:=R.own i xs h;rw [hO] at h1;cases h1;exact h3
  ·obtain⟨p',_,h1,h3,_⟩:=R.bor i xs h;rw [hO] at h1;cases h1;exact h3
  ·obtain⟨p',h1,h3,_⟩:=R.tap i k h;rw [hO] at h1;cases h1;exact h3
 refine⟨⟨fun j x e=>?_,fun j ys e=>?_,fun j ys e=>?_,fun j k e=>?_,fun j e=>?_,R.inj,fun j q e=>?_,R.am,R.frs,fun b o n q=>?_,fun b n z=>?_,fun q h=>?_,fun q h z=>?_,fun j q e l2 h1 h2=>?_,?_,?_⟩,P⟩
 ·by_cases hj:j=i
  ·subst hj;rw [at_i] at e
   rcases hl' with⟨ys,_,rfl,_⟩ | ⟨ys,_,rfl,_⟩ | ⟨k,k',_,rfl,_⟩<;>cases e
  ·rw [at_j j hj] at e
   obtain⟨v,h1,h2⟩:=R.dat j x e
   exact⟨v,h1,P _ _ h2⟩
 ·by_cases hj:j=i
  ·subst hj;rw [at_i] at e
   rcases hl' with⟨zs,h0,rfl,h⟩ | ⟨zs,_,rfl,_⟩ | ⟨k,k',_,rfl,_⟩<;>cases e
   obtain⟨p',_,h1,h2,h3,_⟩:=R.own j xs h0
   rw [hO] at h1;cases h1
   exact⟨p,vs',hO,h2,h3,qa0e,P.all h⟩
  ·rw [at_j j hj] at e
   obtain⟨q,ws,h1,h2,h3,h4,h5⟩:=R.own j ys e
   exact⟨q,ws,h1,h2,h3,by rw [qa0d (other j q hj h1)];exact h4,P.all h5⟩
 ·by_cases hj:j=i
  ·subst hj;rw [at_i] at e
   rcases hl' with⟨zs,_,rfl,_⟩ | ⟨zs,h0,rfl,h⟩ | ⟨k,k',_,rfl,_⟩<;>cases e
   exact⟨p,vs',hO,hσ,qa0e,P.all h⟩
  ·rw [at_j j hj] at e
   obtain⟨q,ws,h1,h3,h4,h5⟩:=R.bor j ys e
   exact⟨q,ws,h1,h3,by rw [qa0d (other j q hj h1)];exact h4,P.all h5⟩
 ·by_cases hj:j=i
  ·subst hj;rw [at_i] at e
   rcases hl' with⟨zs,_,rfl,_⟩ | ⟨zs,_,rfl,_⟩ | ⟨k1,k',_,rfl,h⟩<;>cases e
   exact⟨p,hO,hσ,by rw [qa0e,h]⟩
  ·rw [at_j j hj] at e
   obtain⟨q,h1,h3,h4⟩:=R.tap j k e
   exact⟨q,h1,h3,by rw [qa0d (other j q hj h1)];exact h4⟩
 ·by_cases hj:j=i
  ·subst hj;rw [at_i] at e
   rcases hl' with⟨ys,_,rfl,_⟩ | ⟨ys,_,rfl,_⟩ | ⟨k,k',_,rfl,_⟩<;>cases e
  ·rw [at_j j hj] at e
   exact R.scr j e
 ·obtain⟨h1,ws,h2⟩:=R.has' j q e
  refine⟨h1,?_⟩
  by_cases hq:q=p
  ·subst hq;exact⟨vs',qa0e⟩
  ·exact⟨ws,by rw [qa0d hq];exact h2⟩
 ·have hb:b ≠ p:=by
   rintro rfl
   rcases (R.has i b hO).1 with z | z
   ·exact n z
   ·rw [z] at q;cases q
  rw [qa0d hb];exact R.same b o n q
 ·by_cases hb:b=p
  ·subst hb;rw [qa0e] at z;cases z
  ·rw [qa0d hb] at z;exact R.kept b n z
 ·obtain⟨ws,h2⟩:=R.ml q h
  by_cases hq:q=p
  ·subst hq;exact⟨vs',qa0e⟩
  ·exact⟨ws,by rw [qa0d hq];exact h2⟩
 ·by_cases hb:q=p
  ·subst hb;rw [qa0e] at z;cases z
  ·rw [qa0d hb] at z;exact R.pin q h z
 ·by_cases hj:j=i
  ·subst hj;rw [at_i] at h1;cases h1
   rcases hl' with⟨zs,_,rfl,_⟩ | ⟨zs,h0,rfl,_⟩ | ⟨k1,k',h0,rfl,_⟩
   ·cases h2
   ·exact R.lnt j q e _ h0 rfl
   ·exact R.lnt j q e _ h0 rfl
  ·rw [at_j j hj] at h1;exact R.lnt j q e _ h1 h2
 ·exact R.sc.keep kp
 ·rw [List.length_set];exact R.len
noncomputable def qa4a(O:Own)(i:Nat):Own:=fun j=>if j=i then none else O j
theorem qb0i{i:Nat}{a:Addr}(h:live c O a):live c (qa4a O i) a:=⟨h.1,h.2.1,fun j e=>by
 unfold qa4a at e
 by_cases hj:j=i
 ·rw [if_pos hj] at e;cases e
 ·rw [if_neg hj] at e;exact h.2.2 j e⟩
theorem qa2m{i j:Nat}(h:j ≠ i):qa4a O i j=O j:=if_neg h
theorem qc0e{i:Nat}:qa4a O i i=none:=if_pos rfl
theorem qa2a{i j:Nat}{p:Addr}(e:qa4a O i j=some p):j ≠ i/\O j=some p:=by
 by_cases hj:j=i
 ·subst hj;rw [qc0e] at e;cases e
 ·rw [qa2m hj] at e;exact⟨hj,e⟩
theorem Rel.freeze{i:Nat}{xs:List PyData}(R:Rel K c O ρ σ H)(hl:ρ[i]? = some (some (.own xs))) :
  Rel K c (qa4a O i) (ρ.set i (some (.d (.list xs)))) σ H/\Pers K (live c O) H (live c (qa4a O i)) H:=by
 obtain⟨p,vs,hO,hB,hσ,hH,hA⟩:=R.own i xs hl
 have hi:i < ρ.length:=(List.getElem?_eq_some_iff.mp hl).1
 have P:Pers K (live c O) H (live c (qa4a O i)) H:=.of (Keep.refl _ _) fun _ h=>qb0i h
 have at_i:(ρ.set i (some (.d (.list xs))))[i]? = some (some (.d (.list xs))):=by rw [List.getElem?_set_self hi]
 have at_j:∀ j,j ≠ i->(ρ.set i (some (.d (.list xs))))[j]? = ρ[j]?:=fun j hj=>List.getElem?_set_ne (Ne.symm hj)
 have ne:∀ {j:Nat} {l:L},(ρ.set i (some (.d (.list xs))))[j]? = some (some l)->(∀ x,l ≠ .d x)->j ≠ i/\ρ[j]? = some (some l):=fun{j l} e n=>by
  by_cases hj:j=i
  ·subst hj;rw [at_i] at e;cases e;exact absurd rfl (n _)
  ·rw [at_j j hj] at e;exact⟨hj,e⟩
 refine⟨⟨fun j x e=>?_,fun j ys e=>?_,fun j ys e=>?_,fun j k e=>?_,fun j e=>?_,fun a b q e1 e2=>R.inj a b q (qa2a e1).2 (qa2a e2).2,fun j q e=>R.has' j q (qa2a e).2,R.am,R.frs,R.same,R.kept,R.ml,R.pin,fun j q e l h1 h2=>?_,R.sc,?_⟩,P⟩
 ·by_cases hj:j=i
  ·subst hj;rw [at_i] at e;cases e
   refine⟨.ref p,hσ,qa1w ⟨hB.2.1,hB.2.2,fun k e=>?_⟩ hH (P.all hA)⟩
   obtain⟨h1,h2⟩:=qa2a e
   exact h1 (R.inj k j p h2 hO)
  ·rw [at_j j hj] at e
   obtain⟨v,h1,h2⟩:=R.dat j x e
   exact⟨v,h1,P _ _ h2⟩
 ·obtain⟨hj,e⟩:=ne e fun _ z=>nomatch z
  obtain⟨q,ws,h1,h2,h3,h4,h5⟩:=R.own j ys e
  exact⟨q,ws,(qa2m hj).trans h1,h2,h3,h4,P.all h5⟩
 ·obtain⟨hj,e⟩:=ne e fun _ z=>nomatch z
  obtain⟨q,ws,h1,h3,h4,h5⟩:=R.bor j ys e
  exact⟨q,ws,(qa2m hj).trans h1,h3,h4,P.all h5⟩
 ·obtain⟨hj,e⟩:=ne e fun _ z=>nomatch z
  obtain⟨q,h1,h3,h4⟩:=R.tap j k e
  exact⟨q,(qa2m hj).trans h1,h3,h4⟩
 ·obtain⟨hj,e⟩:=ne e fun _ z=>nomatch z
  exact R.scr j e
 ·obtain⟨hj,e'⟩:=ne h1 fun x z=>by subst z;cases h2
  rw [qa2m hj];exact R.lnt j q e _ e' h2
 ·rw [List.length_set];exact R.len
theorem Rel.setD{i:Nat}{x:PyData}{v:V}(R:Rel K c O ρ σ H)(hi:i < ρ.length)(h:AtD K H (live c O) x v) :
  Rel K c (qa4a O i) (ρ.set i (some (.d x))) (σ.set i (some v)) H/\Pers K (live c O) H (live c (qa4a O i)) H:=by
 have P:Pers K (live c O) H (live c (qa4a O i)) H:=.of (Keep.refl _ _) fun _ h=>qb0i h
 have at_i:∀ l:Option L,(ρ.set i l)[i]? = some l:=fun l=>by rw [List.getElem?_set_self hi]
 have at_j:∀ (l:Option L) j,j ≠ i->(ρ.set i l)[j]? = ρ[j]?:=fun l j hj=>List.getElem?_set_ne (Ne.symm hj)
 have st_j:∀ j,j ≠ i->(σ.set i (some v))[j]? = σ[j]?:=fun j hj=>List.getElem?_set_ne (Ne.symm hj)
 have ne:∀ {j:Nat} {l:L},(ρ.set i (some (.d x)))[j]? = some (some l)->(∀ x,l ≠ .d x)->j ≠ i/\ρ[j]? = some (some l):=fun{j l} e n=>by
  by_cases hj:j=i
  ·subst hj;rw [at_i] at e;cases e;exact absurd rfl (n _)
  ·rw [at_j _ j hj] at e;exact⟨hj,e⟩
 refine⟨⟨fun j y e=>?_,fun j ys e=>?_,fun j ys e=>?_,fun j k e=>?_,fun j e=>?_,fun a b q e1 e2=>R.inj a b q (qa2a e1).2 (qa2a e2).2,fun j q e=>R.has' j q (qa2a e).2,R.am,R.frs,R.same,R.kept,R.ml,R.pin,fun j q e l h1 h2=>?_,R.sc,?_⟩,P⟩
 ·by_cases hj:j=i
  ·subst hj;rw [at_i] at e;cases e
   exact⟨v,by rw [List.getElem?_set_self (by rw [R.len];exact hi)],P _ _ h⟩
  ·rw [at_j _ j hj] at e
   obtain⟨v,h1,h2⟩:=R.dat j y e
   exact⟨v,by rw [st_j j hj];exact h1,P _ _ h2⟩
 ·obtain⟨hj,e⟩:=ne e fun _ z=>nomatch z
  obtain⟨q,ws,h1,h2,h3,h4,h5⟩:=R.own j ys e
  exact⟨q,ws,(qa2m hj).trans h1,h2,by rw [st_j j hj];exact h3,h4,P.all h5⟩
 ·obtain⟨hj,e⟩:=ne e fun _ z=>nomatch z
  obtain⟨q,ws,h1,h3,h4,h5⟩:=R.bor j ys e
  exact⟨q,ws,(qa2m hj).trans h1,by rw [st_j j hj];exact h3,h4,P.all h5⟩
 ·obtain⟨hj,e⟩:=ne e fun _ z=>nomatch z
  obtain⟨q,h1,h3,h4⟩:=R.tap j k e
  exact⟨q,(qa2m hj).trans h1,by rw [st_j j hj];exact h3,h4⟩
 ·obtain⟨hj,e⟩:=ne e fun _ z=>nomatch z
  rw [st_j j hj];exact R.scr j e
 ·obtain⟨hj,e'⟩:=ne h1 fun x z=>by subst z;cases h2
  rw [qa2m hj];exact R.lnt j q e _ e' h2
 ·rw [List.length_set,List.length_set];exact R.len
noncomputable def Rc.add(c:Rc)(p:Addr):Rc:={ c with P:=fun a=>c.P a ∨ a=p }
theorem qb0j{p a:Addr}(h:live c O a)(n:a ≠ p):live (c.add p) O a:=⟨h.1,fun z=>z.elim h.2.1 n,h.2.2⟩
theorem qa5w{p a:Addr}(h:live (c.add p) O a):live c O a/\a ≠ p:=⟨⟨h.1,fun z=>h.2.1 (.inl z),h.2.2⟩,fun z=>h.2.1 (.inr z)⟩
theorem Rel.lay{p:Addr}{o:HO}(R:Rel K c O ρ σ H)(hp:H p=none):Rel K (c.add p) O ρ σ (upd H p o)/\Pers K (live c O) H (live (c.add p) O) (upd H p o):=by
 have P:Pers K (live c O) H (live (c.add p) O) (upd H p o):=.new hp (fun a h n=>qb0j h n) o
 have S:=qa0t hp o
 refine⟨R.to (fun _=>rfl) (fun i q hq z=>⟨z.1,z.2.1,fun w=>w.elim z.2.2 fun e=>?_⟩) rfl rfl P (fun i q vs _ h=>S _ _ h) (fun _ _ _ z=>z) R.am R.frs (fun b ob n q=>S _ _ (R.same b ob n q))
  (fun b n z=>R.kept b n (S.free z)) (fun p h=>let ⟨vs,q⟩:=R.ml p h;⟨vs,S _ _ q⟩) (fun q h z=>?_) (fun _=>rfl) (R.sc.keep (S:=Any) S.keep),P⟩
 ·obtain⟨_,vs,h⟩:=R.has i q hq
  rw [e,hp] at h;cases h
 ·rcases h with(h | rfl) | h
  ·exact R.pin q (.inl h) (S.free z)
  ·rw [qa0e] at z;cases z
  ·exact R.pin q (.inr h) (S.free z)
theorem Rel.unadd{p:Addr}(R:Rel K (c.add p) O ρ σ H):Rel K c O ρ σ H/\Pers K (live (c.add p) O) H (live c O) H:=by
 have P:Pers K (live (c.add p) O) H (live c O) H:=.of (Keep.refl _ _) fun a h=>(qa5w h).1
 exact⟨R.to (fun _=>rfl) (fun i q _ z=>⟨z.1,z.2.1,fun w=>z.2.2 (.inl w)⟩) rfl rfl P (fun _ _ _ _ h=>h) (fun _ _ _ z=>z) R.am R.frs R.same R.kept R.ml (fun q h=>R.pin q (h.elim (fun z=>.inl (.inl z)) .inr)) (fun _=>rfl) R.sc,P⟩
noncomputable def owned(O:Own)(i:Nat)(p:Addr):Own:=fun j=>if j=i then some p else O j
theorem qa6m{i j:Nat}{p:Addr}(h:j ≠ i):owned O i p j=O j:=if_neg h
theorem qb0k{i:Nat}{p:Addr}:owned O i p i=some p:=if_pos rfl
theorem Rel.setOwn{i:Nat}{p:Addr}{xs:List PyData}{vs:List V}(R:Rel K (c.add p) O ρ σ H)(hi:i < ρ.length)(h0:c.H0 p=none)(hB:¬ c.B p)(hP:¬ c.P p)(hn:∀ j,O j ≠ some p)(hAp:c.A p)(hH:H p=some (.lst vs))(hA:qa0b K H (live (c.add p) O) xs vs) :
  Rel K c (owned O i p) (ρ.set i (some (.own xs))) (σ.set i (some (.ref p))) H/\Pers K (live (c.add p) O) H (live c (owned O i p)) H:=by
 have P:Pers K (live (c.add p) O) H (live c (owned O i p)) H:=.of (Keep.refl _ _) fun a h=>by
  obtain⟨h1,h2⟩:=qa5w h
  refine⟨h1.1,h1.2.1,fun j e=>?_⟩
  by_cases hj:j=i
  ·subst hj;rw [qb0k] at e;cases e;exact h2 rfl
  ·rw [qa6m hj] at e;exact h1.2.2 j e
 have at_i:(ρ.set i (some (.own xs)))[i]? = some (some (.own xs)):=by rw [List.getElem?_set_self hi]
 have at_j:∀ j,j ≠ i->(ρ.set i (some (.own xs)))[j]? = ρ[j]?:=fun j hj=>List.getElem?_set_ne (Ne.symm hj)
 have st_j:∀ j,j ≠ i->(σ.set i (some (.ref p)))[j]? = σ[j]?:=fun j hj=>List.getElem?_set_ne (Ne.symm hj)
 have ne:∀ {j:Nat} {l:L},(ρ.set i (some (.own xs)))[j]? = some (some l)->(∀ x,l ≠ .own x)->j ≠ i/\ρ[j]? = some (some l):=fun{j l} e n=>by
  by_cases hj:j=i
  ·subst hj;rw [at_i] at e;cases e;exact absurd rfl (n _)
  ·rw [at_j j hj] at e;exact⟨hj,e⟩
 have ow:∀ {j:Nat} {q:Addr},owned O i p j=some q->(j=i/\q=p) ∨ (j ≠ i/\O j=some q):=fun{j q} e=>by
  by_cases hj:j=i
  ·subst hj;rw [qb0k] at e;cases e;exact .inl ⟨rfl,rfl⟩
  ·rw [qa6m hj] at e;exact .inr ⟨hj,e⟩
 refine⟨⟨fun j y e=>?_,fun j ys e=>?_,fun j ys e=>?_,fun j k e=>?_,fun j e=>?_,fun a b q e1 e2=>?_,fun j q e=>?_,R.am,R.frs,R.same,R.kept,R.ml,fun q h=>R.pin q (h.elim (fun z=>.inl (.inl z)) .inr),fun j q e l h1 h2=>?_,R.sc,?_⟩,P⟩
 ·obtain⟨hj,e⟩:=ne e fun _ z=>nomatch z
  obtain⟨v,h1,h2⟩:=R.dat j y e
  exact⟨v,by rw [st_j j hj];exact h1,P _ _ h2⟩
 ·by_cases hj:j=i
  ·subst hj;rw [at_i] at e;cases e
   exact⟨p,vs,qb0k,⟨hB,R.frs p h0,hP⟩,by rw [List.getElem?_set_self (by rw [R.len];exact hi)],hH,P.all hA⟩
  ·rw [at_j j hj] at e
   obtain⟨q,ws,h1,h2,h3,h4,h5⟩:=R.own j ys e
   exact⟨q,ws,(qa6m hj).trans h1,⟨h2.1,h2.2.1,fun z=>h2.2.2 (.inl z)⟩,by rw [st_j j hj];exact h3,h4,P.all h5⟩
 ·obtain⟨hj,e⟩:=ne e fun _ z=>nomatch z
  obtain⟨q,ws,h1,h3,h4,h5⟩:=R.bor j ys e
  exact⟨q,ws,(qa6m hj).trans h1,by rw [st_j j hj];exact h3,h4,P.all h5⟩
 ·obtain⟨hj,e⟩:=ne e fun _ z=>nomatch z
  obtain⟨q,h1,h3,h4⟩:=R.tap j k e
  exact⟨q,(qa6m hj).trans h1,by rw [st_j j hj];exact h3,h4⟩
 ·obtain⟨hj,e⟩:=ne e fun _ z=>nomatch z
  rw [st_j j hj];exact R.scr j e
 ·rcases ow e1 with⟨h1,h2⟩ | ⟨h1,h2⟩<;>rcases ow e2 with⟨h3,h4⟩ | ⟨h3,h4⟩
  ·rw [h1,h3]
  ·rw [h2] at h4;exact absurd h4 (hn b)
  ·rw [h4] at h2;exact absurd h2 (hn a)
  ·exact R.inj a b q h2 h4
 ·rcases ow e with⟨h1,h2⟩ | ⟨h1,h2⟩
  ·subst h2;exact⟨hAp,vs,hH⟩
  ·exact R.has' j q h2
 ·obtain⟨hj,e'⟩:=ne h1 fun x z=>by subst z;cases h2
  rw [qa6m hj];exact R.lnt j q e _ e' h2
 ·rw [List.length_set,List.length_set];exact R.len
theorem Rel.disown{i:Nat}{xs:List PyData}(R:Rel K c O ρ σ H)(hl:ρ[i]? = some (some (.own xs))):∃ p vs,σ[i]? = some (some (.ref p))/\O i=some p/\qa8w c p/\H p=some (.lst vs)/\Rel K (c.add p) (qa4a O i) (ρ.set i none) σ H/\qa0b K H (live (c.add p) (qa4a O i)) xs vs:=by
 obtain⟨p,vs,hO,hB,hσ,hH,hA⟩:=R.own i xs hl
 have hlive:∀ a,live c O a->live (c.add p) (qa4a O i) a:=fun a h=>⟨h.1,fun z=>z.elim h.2.1 fun e=>by subst e;exact qb5y hO h,(qb0i (i:=i) h).2.2⟩
 have P:Pers K (live c O) H (live (c.add p) (qa4a O i)) H:=.of (Keep.refl _ _) hlive
 have ne:∀ {j:Nat} {l:L},(ρ.set i none)[j]? = some (some l)->j ≠ i/\ρ[j]? = some (some l):=fun{j l} e=>by
  by_cases hj:j=i
  ·subst hj
   rw [List.getElem?_set_self (List.getElem?_eq_some_iff.mp hl).1] at e
   cases e
  ·rw [List.getElem?_set_ne (Ne.symm hj)] at e;exact⟨hj,e⟩
 refine⟨p,vs,hσ,hO,hB,hH,⟨fun j x e=>?_,fun j ys e=>?_,fun j ys e=>?_,fun j k e=>?_,fun j e=>R.scr j (ne e).2,fun a b q e1 e2=>R.inj a b q (qa2a e1).2 (qa2a e2).2,fun j q e=>R.has' j q (qa2a e).2,R.am,R.frs,R.same,R.kept,R.ml,fun q h z=>?_,fun j q e l h1 h2=>?_,R.sc,?_⟩,P.all hA⟩
 ·obtain⟨hj,e⟩:=ne e
  obtain⟨v,h1,h2⟩:=R.dat j x e
  exact⟨v,h1,P _ _ h2⟩
 ·obtain⟨hj,e⟩:=ne e
  obtain⟨q,ws,h1,h2,h3,h4,h5⟩:=R.own j ys e
  exact⟨q,ws,(qa2m hj).trans h1,⟨h2.1,h2.2.1,fun z=>z.elim h2.2.2 fun e=>hj (R.inj j i p (by rw [← e];exact h1) hO)⟩,h3,h4,P.all h5⟩
 ·obtain⟨hj,e⟩:=ne e
  obtain⟨q,ws,h1,h3,h4,h5⟩:=R.bor j ys e
  exact⟨q,ws,(qa2m hj).trans h1,h3,h4,P.all h5⟩
 ·obtain⟨hj,e⟩:=ne e
  obtain⟨q,h1,h3,h4⟩:=R.tap j k e
  exact⟨q,(qa2m hj).trans h1,h3,h4⟩
 ·rcases h with(h | rfl) | h
  ·exact R.pin q (.inl h) z
  ·rw [hH] at z;cases z
  ·exact R.pin q (.inr h) z
 ·obtain⟨hj,e'⟩:=ne h1
  rw [qa2m hj];exact R.lnt j q e _ e' h2
 ·rw [List.length_set];exact R.len
end
end L2
end
section
namespace L2
open PySem PySem.Spec PyProof.Rows
inductive DV where
 | d (x:PyData)
 | sl (i:Nat)
noncomputable def AtV(K:PySem.W.Frag)(S:Addr->Prop)(σ:St)(H:Hp):DV->V->Prop
 | .d x,v=>AtD K H S x v
 | .sl i,v=>σ[i]? = some (some v)
noncomputable def qa9s:L->Option PyData
 | .d x=>some x
 | .own xs=>some (.list xs)
 | .bor xs=>some (.list xs)
 | _=>none
noncomputable def qa0p(ρ:Rho):DV->Option PyData
 | .d x=>some x
 | .sl i=>(ρ[i]?.join).bind qa9s
def AtT(K:PySem.W.Frag)(H:Hp)(S:Addr->Prop)(x:PyData)(v:V):Prop:=AtD K H S x v ∨ ∃ ds a vs,x=.list ds/\v=.ref a/\H a=some (.lst vs)/\qa0b K H S ds vs
def need{α:Type}(o:Option α)(k:α->Prop):Prop:=match o with
 | some a=>k a
 | none=>False
theorem qc1x{α:Type}{a:α}{k:α->Prop}:need (some a) k=k a:=rfl
theorem qc1y{α:Type}{k:α->Prop}:need (none:Option α) k=False:=rfl
theorem ne{α:Type}{o:Option α}{k:α->Prop}(h:need o k):∃ a,o=some a/\k a:=by
 cases o with
 | none=>exact h.elim
 | some a=>exact⟨a,rfl,h⟩
theorem need_mk{α:Type}{o:Option α}{k:α->Prop}{a:α}(e:o=some a)(h:k a):need o k:=by rw [e];exact h
theorem itT{a b:Prop}:(if true=true then a else b)=a:=rfl
theorem itF{a b:Prop}:(if false=true then a else b)=b:=rfl
theorem mapC{α β:Type}{f:α->β}{a:α}{l:List α}:(a :: l).map f=f a :: l.map f:=rfl
theorem mapN{α β:Type}{f:α->β}:([]:List α).map f=[]:=rfl
abbrev TDE:=Rho->(DV->Rho->Prop)->Prop
abbrev TDF:=Rho->(List PyData->Rho->Prop)->Prop
abbrev TDT:=Rho->(Bool->Rho->Prop)->Prop
abbrev TDA:=Rho->(List DV->Rho->Prop)->Prop
def qb1v(c:Rc)(O:Own)(p:Addr):Prop:=c.H0 p=none/\¬ c.B p/\¬ c.P p/\∀ j,O j ≠ some p
def AdE(K:PySem.W.Frag)(t:TE)(dt:TDE):Prop:=∀ (c:Rc) (O:Own) (ρ:Rho) (σ:St) (H:Hp) (Qd:DV->Rho->Prop) (Q:VK),Rel K c O ρ σ H->dt ρ Qd ->
 (∀ x ρ' O' v H',Qd x ρ'->Rel K c O' ρ' σ H'->Pers K (live c O) H (live c O') H'->AtV K (live c O') σ H' x v->Q v H')->t σ H Q
def AdF(K:PySem.W.Frag)(t:TE)(dt:TDF):Prop:=∀ (c:Rc) (O:Own) (ρ:Rho) (σ:St) (H:Hp) (Qd:List PyData->Rho->Prop) (Q:VK),Rel K c O ρ σ H->dt ρ Qd ->
 (∀ xs ρ' O' p vs H',Qd xs ρ'->Rel K (c.add p) O' ρ' σ H'->Pers K (live c O) H (live (c.add p) O') H'->qb1v c O' p->H' p=some (.lst vs)->qa0b K H' (live (c.add p) O') xs vs->Q (.ref p) H')->t σ H Q
def AdT(K:PySem.W.Frag)(t:TT)(dt:TDT):Prop:=∀ (c:Rc) (O:Own) (ρ:Rho) (σ:St) (H:Hp) (Qd:Bool->Rho->Prop) (Q:Bool->Hp->Prop),Rel K c O ρ σ H->dt ρ Qd ->
 (∀ b ρ' O' H',Qd b ρ'->Rel K c O' ρ' σ H'->Pers K (live c O) H (live c O') H'->Q b H')->t σ H Q
noncomputable def AtVs(K:PySem.W.Frag)(S:Addr->Prop)(σ:St)(H:Hp):List DV->List V->Prop:=Paired (AtV K S σ H)
def AdA(K:PySem.W.Frag)(t:TA)(dt:TDA):Prop:=∀ (c:Rc) (O:Own) (ρ:Rho) (σ:St) (H:Hp) (Qd:List DV->Rho->Prop) (Q:List V->Hp->Prop),Rel K c O ρ σ H->dt ρ Qd ->
 (∀ xs ρ' O' vs H',Qd xs ρ'->Rel K c O' ρ' σ H'->Pers K (live c O) H (live c O') H'->AtVs K (live c O') σ H' xs vs->Q vs H')->t σ H Q
def DE(X:Cx)(e:Expr)(dt:TDE):Prop:=∃ t,PE X e t/\AdE X.K t dt
def DF(X:Cx)(e:Expr)(dt:TDF):Prop:=∃ t,PE X e t/\AdF X.K t dt
def DT(X:Cx)(e:Expr)(dt:TDT):Prop:=∃ t,PT X e t/\AdT X.K t dt
def DW(X:Cx)(e:Expr)(dt:TDT):Prop:=∃ t,PW X e t/\AdT X.K t dt
def DA(X:Cx)(es:List Expr)(dt:TDA):Prop:=∃ t,PA X es t/\AdA X.K t dt
section
variable{K:PySem.W.Frag}{c:Rc}{O:Own}{ρ:Rho}{σ:St}{H H':Hp}{S S':Addr->Prop}
theorem AtV.pers{x:DV}{v:V}(h:AtV K S σ H x v)(P:Pers K S H S' H'):AtV K S' σ H' x v:=by
 cases x with
 | d x=>exact P _ _ h
 | sl i=>exact h
theorem AtVs.pers{xs:List DV}{vs:List V}(h:AtVs K S σ H xs vs)(P:Pers K S H S' H'):AtVs K S' σ H' xs vs:=Paired.imp' (fun _ _ q=>q.pers P) h
theorem Rel.top(R:Rel K c O ρ σ H){x:DV}{v:V}{d:PyData}(h:AtV K (live c O) σ H x v)(e:qa0p ρ x=some d):AtT K H (live c O) d v:=by
 cases x with
 | d x=>cases e;exact .inl h
 | sl i =>
  have h':σ[i]? = some (some v):=h
  have e':(ρ[i]?.join).bind qa9s=some d:=e
  cases q:ρ[i]? with
  | none=>rw [q] at e';cases e'
  | some ol =>
   cases ol with
   | none=>rw [q] at e';cases e'
   | some l =>
    rw [q] at e'
    cases l with
    | d x =>
     cases e'
     obtain⟨w,h1,h2⟩:=R.dat i _ q
     rw [h'] at h1;cases h1
     exact .inl h2
    | own xs =>
     cases e'
     obtain⟨p,vs,_,_,h1,h2,h3⟩:=R.own i _ q
     rw [h'] at h1;cases h1
     exact .inr ⟨xs,p,vs,rfl,rfl,h2,h3⟩
    | bor xs =>
     cases e'
     obtain⟨p,vs,_,h1,h2,h3⟩:=R.bor i _ q
     rw [h'] at h1;cases h1
     exact .inr ⟨xs,p,vs,rfl,rfl,h2,h3⟩
    | tape k=>cases e'
    | scr=>cases e'
theorem AtT.list{ds:List PyData}{v:V}(h:AtT K H S (.list ds) v):∃ a vs,v=.ref a/\H a=some (.lst vs)/\qa0b K H S ds vs:=by
 rcases h with h | ⟨ds',a,vs,e,e2,h1,h2⟩
 ·obtain⟨a,vs,e,_,h1,h2⟩:=qa3o h
  exact⟨a,vs,e,h1,h2⟩
 ·cases e;exact⟨a,vs,e2,h1,h2⟩
theorem AtT.at{x:PyData}{v:V}(h:AtT K H S x v)(n:∀ ds,x ≠ .list ds):AtD K H S x v:=by
 rcases h with h | ⟨ds',a,vs,e,_⟩
 ·exact h
 ·exact absurd e (n ds')
theorem AtT.any{x:PyData}{v:V}(h:AtT K H S x v):AtD K H Any x v:=by
 rcases h with h | ⟨ds',a,vs,e,e2,h1,h2⟩
 ·exact AtD.more (fun _ _=>trivial) _ _ h
 ·subst e e2;exact qa1w trivial h1 (qa0b.more (fun _ _=>trivial) _ _ h2)
def dVar(i:Nat):TDE:=fun ρ Q=>(ρ[i]?.join).isSome=true/\Q (.sl i) ρ
theorem ad_var{i:Nat}:AdE K (tVar i) (dVar i):=by
 intro c O ρ σ H Qd Q R h k
 obtain⟨h0,h⟩:=h
 have ex:∃ v,σ[i]? = some (some v):=by
  cases q:ρ[i]? with
  | none=>rw [q] at h0;cases h0
  | some ol =>
   cases ol with
   | none=>rw [q] at h0;cases h0
   | some l =>
    cases l with
    | d x=>obtain⟨w,h1,_⟩:=R.dat i _ q;exact⟨w,h1⟩
    | own xs=>obtain⟨p,vs,_,_,h1,_⟩:=R.own i _ q;exact⟨_,h1⟩
    | bor xs=>obtain⟨p,vs,_,h1,_⟩:=R.bor i _ q;exact⟨_,h1⟩
    | tape k=>obtain⟨p,_,h1,_⟩:=R.tap i _ q;exact⟨_,h1⟩
    | scr=>exact⟨_,R.scr i q⟩
 obtain⟨v,hv⟩:=ex
 exact⟨v,hv,k _ _ _ _ _ h R .refl hv⟩
def dC(x:PyData):TDE:=fun ρ Q=>Q (.d x) ρ
theorem ad_c{x:PyData}{v:V}(hx:∀ (S:Addr->Prop) H,AtD K H S x v):AdE K (tC v) (dC x):=fun c O ρ σ H Qd Q R h k=>k _ _ _ _ _ h R .refl (hx _ _)
end
section
variable{X:Cx}{a b e:Expr}{es:List Expr}{da db:TDE}{pos:Pos}
theorem dv(i:Nat){x:Str}(hN:X.N[i]? = some x:=by rfl)(hv:Vis X.env.scope x:=by first | exact Or.inl rfl | exact Or.inr (Or.inl rfl) | exact Or.inr (Or.inr rfl)) (hd:(x == ("__debug__" : Str))=false:=by decide)
  (hcd:(x == ("__classdict__" : Str))=false:=by decide):DE X (.Name x pos) (dVar i):=⟨_,qa9k hN hv hd hcd,ad_var⟩
theorem qa0k{i j}:DE X (.Constant (.int i) j pos) (dC (.int i)):=⟨_,qa0w,ad_c fun _ _=>qa2e i⟩
theorem qa0m{i j}:DE X (.Constant (.str i) j pos) (dC (.str i)):=⟨_,qa2o,ad_c fun _ _=>qb1t i⟩
theorem qa7p{i j}:DE X (.Constant (.bool i) j pos) (dC (.bool i)):=⟨_,pe_bl,ad_c fun _ _=>qa2t i⟩
theorem qa7d{j}:DE X (.Constant .none j pos) (dC .none):=⟨_,pe_non,ad_c fun _ _=>qb0g⟩
abbrev F2:=PyData->PyData->Option PyData
def AdR(K:PySem.W.Frag)(r:R2)(f:F2):Prop:=∀ (S:Addr->Prop) (H:Hp) (x y:V) (dx dy z:PyData) (Q:VK),Frs S H->AtT K H S dx x->AtT K H S dy y->f dx dy=some z ->
 (∀ v H',Same H H'->AtD K H' S z v->Q v H')->r x y H Q
def dOp(f:F2)(da db:TDE):TDE:=fun ρ Q=>da ρ fun x ρ1=>db ρ1 fun y ρ2=>need (qa0p ρ2 x) fun dx=>need (qa0p ρ2 y) fun dy=>need (f dx dy) fun z=>Q (.d z) ρ2
theorem ad_op{K:PySem.W.Frag}{r:R2}{f:F2}{ta tb:TE}(hr:AdR K r f)(ha:AdE K ta da)(hb:AdE K tb db):AdE K (tOp r ta tb) (dOp f da db):=by
 intro c O ρ σ H Qd Q R h k
 refine ha c O ρ σ H _ _ R h fun x ρ1 O1 v H1 h1 R1 P1 a1=>?_
 refine hb c O1 ρ1 σ H1 _ _ R1 h1 fun y ρ2 O2 u H2 h2 R2 P2 a2=>?_
 obtain⟨dx,e1,hn1⟩:=ne (h2)
 obtain⟨dy,e2,hn2⟩:=ne (hn1)
 obtain⟨z,e3,h3⟩:=ne (hn2)
 refine hr (live c O2) H2 v u dx dy z Q R2.frsLive (R2.top (a1.pers P2) e1) (R2.top a2 e2) e3 fun w H3 s3 a3=>?_
 exact k _ _ _ _ _ h3 (R2.grow s3) ((P1.trans P2).trans (.same s3)) a3
theorem qa2n{op:Operator}{r:R2}{f:F2}(ho:OpR X (binaryOp op) r)(hr:AdR X.K r f)(ha:DE X a da)(hb:DE X b db):DE X (.BinOp a op b pos) (dOp f da db):=by
 obtain⟨ta,pa,aa⟩:=ha
 obtain⟨tb,pb,ab⟩:=hb
 exact⟨_,qa1z ho pa pb,ad_op hr aa ab⟩
theorem qa2k{op:CmpOp}{r:R2}{f:F2}(ho:OpR X (compareOp op) r)(hr:AdR X.K r f)(ha:DE X a da)(hb:DE X b db)(hm:behindInMarks op b=false):DE X (.Compare a [op] [b] pos) (dOp f da db):=by
 obtain⟨ta,pa,aa⟩:=ha
 obtain⟨tb,pb,ab⟩:=hb
 exact⟨_,qa9l ho pa pb hm,ad_op hr aa ab⟩
theorem qa1b{r:R2}{f:F2}(ho:IxR X r)(hr:AdR X.K r f)(ha:DE X a da)(hb:DE X b db)(hs:qb3u b):DE X (.Subscript a b pos) (dOp f da db):=by
 obtain⟨ta,pa,aa⟩:=ha
 obtain⟨tb,pb,ab⟩:=hb
 exact⟨_,qa3m ho pa pb hs,ad_op hr aa ab⟩
end
section
variable{K:PySem.W.Frag}
theorem AtT.int{H:Hp}{S:Addr->Prop}{i:Int}{v:V}(h:AtT K H S (.int i) v):v=.int i:=qa4d (h.at fun _ z=>nomatch z)
theorem AtT.str{H:Hp}{S:Addr->Prop}{i:Str}{v:V}(h:AtT K H S (.str i) v):v=.str i:=qa5t (h.at fun _ z=>nomatch z)
theorem AtT.bool{H:Hp}{S:Addr->Prop}{i:Bool}{v:V}(h:AtT K H S (.bool i) v):v=.bl i:=qa4s (h.at fun _ z=>nomatch z)
theorem AtT.none{H:Hp}{S:Addr->Prop}{v:V}(h:AtT K H S .none v):v=.non:=qa9q (h.at fun _ z=>nomatch z)
theorem AtT.tup{H:Hp}{S:Addr->Prop}{ds:List PyData}{v:V}(h:AtT K H S (.tuple ds) v):∃ a xs,v=.ref a/\SqT K H a xs/\qa0b K H S ds xs:=qa3e (h.at fun _ z=>nomatch z)
theorem qa0b.eq_nil{H:Hp}{S:Addr->Prop}{ds:List PyData}(h:qa0b K H S ds []):ds=[]:=List.eq_nil_of_length_eq_zero h.length.symm
noncomputable def fAdd:F2
 | .int i,.int j=>some (.int (i + j))
 | .str x,.str y=>if x.length + y.length <= sizeLine then some (.str (x ++ y)) else none
 | .list xs,.list ys=>if xs.length + ys.length <= sizeLine then some (.list (xs ++ ys)) else none
 | .tuple xs,.tuple ys=>if xs.length + ys.length <= sizeLine then some (.tuple (xs ++ ys)) else none
 | _,_=>none
noncomputable def fSub:F2
 | .int i,.int j=>some (.int (i - j))
 | _,_=>none
noncomputable def fCmp(p:Int->Int->Bool):F2
 | .int i,.int j=>some (.bool (p i j))
 | _,_=>none
theorem qa4m:AdR K (rI0 fun i j=>.int (i - j)) fSub:=by
 intro S H x y dx dy z Q f hx hy e k
 unfold fSub at e
 split at e<;>cases e
 rw [hx.int,hy.int]
 exact⟨_,_,rfl,rfl,k _ _ (Same.refl _) (qa2e _)⟩
theorem qa5x(p:Int->Int->Bool):AdR K (rI0 fun i j=>.bl (p i j)) (fCmp p):=by
 intro S H x y dx dy z Q f hx hy e k
 unfold fCmp at e
 split at e<;>cases e
 rw [hx.int,hy.int]
 exact⟨_,_,rfl,rfl,k _ _ (Same.refl _) (qa2t _)⟩
def rCat0(K:PySem.W.Frag):R2:=fun x y H Q=>∃ a b ys,x=.ref a/\y=.ref b/\SqT K H a []/\SqT K H b ys/\Q (.ref b) H
theorem op_cat0{X:Cx}:OpR X (binaryOp .Add) (rCat0 X.K):=by
 intro pins s σ H x y v u Q I rx ry h
 obtain⟨a,b,ys,rfl,rfl,ha,hb,q⟩:=h
 cases rx
 cases ry
 obtain⟨its,r1,p1,_⟩:=I.tuple ha
 obtain⟨its2,r2,p2,_⟩:=I.tuple hb
 cases r1
 obtain⟨⟨cls,dd,data,sl⟩,ho,hc,n,hd⟩:=id p1
 obtain⟨⟨cls2,dd2,data2,sl2⟩,ho2,hc2,n2,hd2⟩:=id p2
 simp only at hc hd hc2 hd2
 subst hc hd hc2 hd2
 exact concat_meets ⟨_,ho,rfl⟩ ⟨_,ho2,rfl⟩ noFill_tuple_add seq_tuple_add PySem.F.slot_tuple_add PySem.F.entry_tuple_add (PySem.F.args_tuple_add_2 _ _)
   (tuple_addW0 a b _ its2.toArray n n2 dd dd2 sl sl2 (by simp)) ⟨ho,ho2,⟨.ref b,H,I,rfl,q⟩⟩
def qb8s(K:PySem.W.Frag):R2:=fun x y H Q=>rI0 (fun i j=>.int (i + j)) x y H Q ∨ (∃ i j,x=.str i/\y=.str j/\i.length + j.length <= sizeLine/\Q (.str (i ++ j)) H) ∨ rCat x y H Q ∨ rCatT K x y H Q ∨ rCat0 K x y H Q
theorem qa2g{X:Cx}:OpR X (binaryOp .Add) (qb8s X.K):=qb2r.or (qb9u.or (op_cat.or (op_catT.or op_cat0)))
theorem qa4e:AdR K (qb8s K) fAdd:=by
 intro S H x y dx dy z Q f hx hy e k
 unfold fAdd at e
 split at e
 ·cases e
  rw [hx.int,hy.int]
  exact .inl ⟨_,_,rfl,rfl,k _ _ (Same.refl _) (qa2e _)⟩
 ·split at e
  ·rename_i hc
   cases e
   rw [hx.str,hy.str]
   exact .inr (.inl ⟨_,_,rfl,rfl,hc,k _ _ (Same.refl _) (qb1t _)⟩)
  ·cases e
 ·split at e
  ·rename_i hc
   cases e
   obtain⟨a,vs,rfl,h1,h2⟩:=hx.list
   obtain⟨b,ws,rfl,h3,h4⟩:=hy.list
   refine .inr (.inr (.inl ⟨a,b,vs,ws,rfl,rfl,h1,h3,by rw [h2.length,h4.length];exact hc,fun p hp=>k _ _ (qa0t hp _) (qc3n (f p hp) hp (h2.append h4))⟩))
  ·cases e
 ·split at e
  ·rename_i hc
   cases e
   obtain⟨a,vs,rfl,h1,h2⟩:=hx.tup
   obtain⟨b,ws,rfl,h3,h4⟩:=hy.tup
   by_cases hv:vs=[]
   ·subst hv
    obtain rfl:=h2.eq_nil
    refine .inr (.inr (.inr (.inr ⟨a,b,ws,rfl,rfl,h1,h3,k _ _ (Same.refl _) ?_⟩)))
    exact qa3j h3 h4
   ·refine .inr (.inr (.inr (.inl ⟨a,b,vs,ws,rfl,rfl,h1,h3,hv,by rw [h2.length,h4.length];exact hc,fun ew=>k _ _ (Same.refl _) ?_,fun ew p hp=>k _ _ (qa0t hp _) (qa8g hp (h2.append h4))⟩)))
    subst ew
    obtain rfl:=h4.eq_nil
    rw [List.append_nil]
    exact qa3j h1 h2
  ·cases e
 ·cases e
theorem qa0b.rep{H:Hp}{S:Addr->Prop}{ds:List PyData}{xs:List V}(h:qa0b K H S ds xs):∀ n:Nat,qa0b K H S (List.replicate n ds).flatten (List.replicate n xs).flatten
 | 0=>.nil
 | n + 1=>by
  rw [List.replicate_succ,List.replicate_succ,List.flatten_cons,List.flatten_cons]
  exact h.append (qa0b.rep h n)
noncomputable def fEq(neg:Bool):F2:=fun d e=>if SeqAt.shaped d=true/\SeqAt.shaped e=true then some (.bool (if neg then !PyData.eqv d e else PyData.eqv d e)) else none
theorem ad_eq{neg:Bool}:AdR K (rEqD K neg) (fEq neg):=by
 intro S H x y dx dy z Q f hx hy e k
 unfold fEq at e
 split at e
 ·rename_i hc
  cases e
  exact⟨Any,Any,dx,dy,hx.any,hy.any,hc.1,hc.2,k _ _ (Same.refl _) (qa2t _)⟩
 ·cases e
noncomputable def fIx:F2
 | .list xs,.int i=>atI xs i
 | .tuple xs,.int i=>atI xs i
 | .str x,.int i=>if x.length <= sizeLine then(atI x.cps.toList i).map fun c=>.str ⟨#[c]⟩ else none
 | _,_=>none
theorem qa1c:AdR K (rIx K) fIx:=by
 intro S H x y dx dy z Q f hx hy e k
 unfold fIx at e
 split at e
 ·obtain⟨a,vs,rfl,h1,h2⟩:=hx.list
  rw [hy.int]
  obtain⟨v,e1,e2⟩:=qb1u h2 e
  exact .inl ⟨a,vs,_,v,rfl,rfl,SqL.of h1,e1,k _ _ (Same.refl _) e2⟩
 ·obtain⟨a,vs,rfl,h1,h2⟩:=hx.tup
  rw [hy.int]
  obtain⟨v,e1,e2⟩:=qb1u h2 e
  exact .inr (.inl ⟨a,vs,_,v,rfl,rfl,h1,e1,k _ _ (Same.refl _) e2⟩)
 ·split at e
  ·rename_i hc
   rw [hx.str,hy.int]
   cases q:atI (PySem.Str.cps _).toList _ with
   | none=>rw [q] at e;cases e
   | some cc =>
    rw [q] at e
    cases e
    exact .inr (.inr ⟨_,_,cc,rfl,rfl,hc,q,k _ _ (Same.refl _) (qb1t _)⟩)
  ·cases e
 ·cases e
noncomputable def qa1d:PyData->Bool
 | .none=>true | .bool _=>true | .int _=>true | .str _=>true
 | _=>false
noncomputable def seqD:PyData->Option (List PyData)
 | .list xs=>some xs
 | .tuple xs=>some xs
 | _=>none
noncomputable def eqF:PyData->PyData->Bool
 | .none,.none=>true
 | .bool a,.bool b=>a == b
 | .int a,.int b=>a == b
 | .bool a,.int b=>(if a then(1:Int) else 0) == b
 | .int a,.bool b=>a == (if b then(1:Int) else 0)
 | .str a,.str b=>a == b
 | _,_=>false
noncomputable def inF(x:PyData)(xs:List PyData):Bool:=xs.any fun y=>eqF y x
noncomputable def fIn(neg:Bool):F2:=fun x y=>match y with
 | .str z=>match x with
  | .str w=>some (.bool (if neg then !(!(Builtin.Str.occurrences z w 0 z.length 1).isEmpty) else !(Builtin.Str.occurrences z w 0 z.length 1).isEmpty))
  | _=>none
 | y=>match seqD y with
  | some xs=>if qa1d x && xs.all qa1d then some (.bool (if neg then !inF x xs else inF x xs)) else none
  | none=>none
end
end L2
end
section
namespace L2
open PySem PySem.Spec PyProof.Rows
section
variable{K:PySem.W.Frag}{c:Rc}{O:Own}{ρ:Rho}{σ:St}{H H':Hp}{S S':Addr->Prop}
noncomputable def toV:PyData->V
 | .bool b=>.bl b
 | .int i=>.int i
 | .str x=>.str x
 | _=>.non
theorem qa8a{d:PyData}{v:V}(h:AtD K H S d v)(f:qa1d d=true):v=toV d/\qa6r v=true:=by
 cases d with
 | none=>rw [qa9q h];exact⟨rfl,rfl⟩
 | bool b=>rw [qa4s h];exact⟨rfl,rfl⟩
 | int i=>rw [qa4d h];exact⟨rfl,rfl⟩
 | str x=>rw [qa5t h];exact⟨rfl,rfl⟩
 | _=>cases f
theorem eq_flat{x y:PyData}(fx:qa1d x=true)(fy:qa1d y=true):eqV (toV y) (toV x)=eqF y x:=by
 cases x<;>cases y<;>first | rfl | (cases fx;done) | (cases fy;done)
theorem qb5z{x:PyData}(fx:qa1d x=true):∀ {ds:List PyData} {vs:List V},qa0b K H S ds vs->ds.all qa1d=true->vs.all qa6r=true/\inV (toV x) vs=inF x ds
 | [],vs,h,_=>by rw [h.unnil];exact⟨rfl,rfl⟩
 | d :: ds,vs,h,f=>by
  obtain⟨v,r,rfl,h1,h2⟩:=h.uncons
  rw [List.all_cons,Bool.and_eq_true] at f
  obtain⟨e1,e2⟩:=qa8a h1 f.1
  obtain⟨e3,e4⟩:=qb5z fx h2 f.2
  refine⟨by rw [List.all_cons,e2,e3];rfl,?_⟩
  show(eqV v (toV x) || inV (toV x) r)=(eqF d x || inF x ds)
  rw [e1,eq_flat fx f.1,e4]
def qb6a(K:PySem.W.Frag)(neg:Bool):R2:=fun x y H Q=>rIn K neg x y H Q ∨ (∃ i j,x=.str i/\y=.str j/\Q (.bl (if neg then !(!(Builtin.Str.occurrences j i 0 j.length 1).isEmpty) else !(Builtin.Str.occurrences j i 0 j.length 1).isEmpty)) H)
theorem qc3t{X:Cx}:OpR X (compareOp .In) (qb6a X.K false):=qc1q.or qc1m
theorem qb2b{X:Cx}:OpR X (compareOp .NotIn) (qb6a X.K true):=qb5t.or qb5u
theorem AtT.seq{x:PyData}{ds:List PyData}{v:V}(h:AtT K H S x v)(e:seqD x=some ds):∃ a vs,v=.ref a/\(SqL K H a vs ∨ SqT K H a vs)/\qa0b K H S ds vs:=by
 cases x with
 | list xs=>cases e;obtain⟨a,vs,e1,h1,h2⟩:=h.list;exact⟨a,vs,e1,.inl (SqL.of h1),h2⟩
 | tuple xs=>cases e;obtain⟨a,vs,e1,h1,h2⟩:=h.tup;exact⟨a,vs,e1,.inr h1,h2⟩
 | _=>cases e
theorem ad_in{neg:Bool}:AdR K (qb6a K neg) (fIn neg):=by
 intro S H x y dx dy z Q f hx hy e k
 unfold fIn at e
 split at e
 ·split at e
  ·cases e
   rw [hx.str,hy.str]
   exact .inr ⟨_,_,rfl,rfl,k _ _ (Same.refl _) (qa2t _)⟩
  ·cases e
 ·split at e
  ·rename_i xs es
   split at e
   ·rename_i hf
    cases e
    rw [Bool.and_eq_true] at hf
    obtain⟨a,vs,rfl,h1,h2⟩:=hy.seq es
    obtain⟨e1,e2⟩:=qa8a (hx.at fun ds z=>by subst z;exact absurd hf.1 (by simp [qa1d])) hf.1
    obtain⟨e3,e4⟩:=qb5z hf.1 h2 hf.2
    refine .inl ⟨a,vs,rfl,h1,e2,e3,?_⟩
    rw [e1,e4]
    exact k _ _ (Same.refl _) (qa2t _)
   ·cases e
  ·cases e
def fz(ρ:Rho)(x:DV)(Q:PyData->Rho->Prop):Prop:=match x with
 | .d y=>Q y ρ
 | .sl i=>match ρ[i]?.join with
  | some (.d y)=>Q y ρ
  | some (.own xs)=>Q (.list xs) (ρ.set i (some (.d (.list xs))))
  | _=>False
theorem qa1r{i:Nat}{l:L}(h:ρ[i]?.join=some l):ρ[i]? = some (some l):=by
 cases q:ρ[i]? with
 | none=>rw [q] at h;cases h
 | some o=>rw [q] at h;cases o with
  | none=>cases h
  | some l'=>cases h;rfl
theorem Rel.fz{x:DV}{v:V}{Q:PyData->Rho->Prop}(R:Rel K c O ρ σ H)(a:AtV K (live c O) σ H x v)(h:fz ρ x Q):∃ y ρ' O',Q y ρ'/\Rel K c O' ρ' σ H/\Pers K (live c O) H (live c O') H/\AtD K H (live c O') y v:=by
 cases x with
 | d y=>exact⟨y,ρ,O,h,R,.refl,a⟩
 | sl i =>
  have a':σ[i]? = some (some v):=a
  simp only [L2.fz] at h
  split at h
  ·rename_i y e
   have e':=qa1r e
   obtain⟨w,h1,h2⟩:=R.dat i y e'
   rw [a'] at h1;cases h1
   exact⟨y,ρ,O,h,R,.refl,h2⟩
  ·rename_i xs e
   have e':=qa1r e
   obtain⟨R',P⟩:=R.freeze e'
   have hi:i < ρ.length:=(List.getElem?_eq_some_iff.mp e').1
   obtain⟨w,h1,h2⟩:=R'.dat i (.list xs) (by rw [List.getElem?_set_self hi])
   rw [a'] at h1;cases h1
   exact⟨_,_,_,h,R',P,h2⟩
  ·exact h.elim
noncomputable def fzs:Rho->List DV->(List PyData->Rho->Prop)->Prop
 | ρ,[],Q=>Q [] ρ
 | ρ,x :: xs,Q=>fz ρ x fun y ρ1=>fzs ρ1 xs fun ys ρ2=>Q (y :: ys) ρ2
theorem qb8t{xs:List DV}:∀ {vs:List V} {ρ:Rho} {O:Own} {Q:List PyData->Rho->Prop},Rel K c O ρ σ H->AtVs K (live c O) σ H xs vs->fzs ρ xs Q->∃ ys ρ' O',Q ys ρ'/\Rel K c O' ρ' σ H/\Pers K (live c O) H (live c O') H/\qa0b K H (live c O') ys vs:=by
 induction xs with
 | nil =>
  intro vs ρ O Q R a h
  cases a
  exact⟨[],ρ,O,h,R,.refl,.nil⟩
 | cons x xs ih =>
  intro vs ρ O Q R a h
  cases a with
  | cons a as =>
   obtain⟨y,ρ1,O1,h1,R1,P1,a1⟩:=R.fz a h
   obtain⟨ys,ρ2,O2,h2,R2,P2,a2⟩:=ih R1 (AtVs.pers as P1) h1
   exact⟨y :: ys,ρ2,O2,h2,R2,P1.trans P2,.cons (P2 _ _ a1) a2⟩
def dNil:TDA:=fun ρ Q=>Q [] ρ
def qa5y(de:TDE)(dr:TDA):TDA:=fun ρ Q=>de ρ fun x ρ1=>dr ρ1 fun xs ρ2=>Q (x :: xs) ρ2
theorem ad_nil:AdA K tNil dNil:=fun c O ρ σ H Qd Q R h k=>k _ _ _ _ _ h R .refl .nil
theorem ad_cons{te:TE}{ta:TA}{de:TDE}{da:TDA}(he:AdE K te de)(ha:AdA K ta da):AdA K (qa2z te ta) (qa5y de da):=by
 intro c O ρ σ H Qd Q R h k
 refine he c O ρ σ H _ _ R h fun x ρ1 O1 v H1 h1 R1 P1 a1=>?_
 refine ha c O1 ρ1 σ H1 _ _ R1 h1 fun xs ρ2 O2 vs H2 h2 R2 P2 a2=>?_
 exact k _ _ _ _ _ h2 R2 (P1.trans P2) (.cons (a1.pers P2) a2)
def dTup(da:TDA):TDE:=fun ρ Q=>da ρ fun xs ρ1=>fzs ρ1 xs fun ys ρ2=>ys.length <= 1000000/\Q (.d (.tuple ys)) ρ2
def dLst(da:TDA):TDF:=fun ρ Q=>da ρ fun xs ρ1=>fzs ρ1 xs fun ys ρ2=>ys.length <= 1000000/\Q ys ρ2
theorem mil{n:Nat}(h:n <= 1000000):n < sizeLine:=Nat.lt_of_le_of_lt h (by decide +kernel)
theorem ad_tup{ta:TA}{da:TDA}(ha:AdA K ta da):AdE K (tTup ta) (dTup da):=by
 intro c O ρ σ H Qd Q R h k
 refine ha c O ρ σ H _ _ R h fun xs ρ1 O1 vs H1 h1 R1 P1 a1=>?_
 obtain⟨ys,ρ2,O2,⟨hz,h2⟩,R2,P2,a2⟩:=qb8t R1 a1 h1
 refine⟨by rw [a2.length];exact Nat.le_of_lt (mil hz),fun p hp=>?_⟩
 have s:=qa0t hp (.tup vs)
 exact k _ _ _ _ _ h2 (R2.grow s) ((P1.trans P2).trans (.same s)) (qa8g hp a2)
theorem qb2l{p:Addr}(R:Rel K c O ρ σ H)(hp:H p=none):qb1v c O p:=⟨R.free0 hp,fun z=>R.pin p (.inr z) hp,fun z=>R.pin p (.inl z) hp,fun j e=>by obtain⟨_,vs,q⟩:=R.has j p e;rw [hp] at q;cases q⟩
theorem Rel.newL{p:Addr}{ys:List PyData}{vs:List V}(R:Rel K c O ρ σ H)(hp:H p=none)(h:qa0b K H (live c O) ys vs) :
  Rel K (c.add p) O ρ σ (upd H p (.lst vs))/\Pers K (live c O) H (live (c.add p) O) (upd H p (.lst vs))/\qb1v c O p/\qa0b K (upd H p (.lst vs)) (live (c.add p) O) ys vs:=by
 obtain⟨R1,P1⟩:=R.lay (o:=.lst vs) hp
 exact⟨R1,P1,qb2l R hp,P1.all h⟩
theorem ad_lst{ta:TA}{da:TDA}(ha:AdA K ta da):AdF K (tLst ta) (dLst da):=by
 intro c O ρ σ H Qd Q R h k
 refine ha c O ρ σ H _ _ R h fun xs ρ1 O1 vs H1 h1 R1 P1 a1=>?_
 obtain⟨ys,ρ2,O2,⟨hz,h2⟩,R2,P2,a2⟩:=qb8t R1 a1 h1
 refine⟨by rw [a2.length];exact Nat.le_of_lt (mil hz),fun p hp=>?_⟩
 obtain⟨R3,P3,f3,a3⟩:=R2.newL hp a2
 exact k _ _ _ _ _ _ h2 R3 ((P1.trans P2).trans P3) f3 qa0e a3
def dFz(df:TDF):TDE:=fun ρ Q=>df ρ fun xs ρ1=>Q (.d (.list xs)) ρ1
theorem ad_fz{t:TE}{df:TDF}(h:AdF K t df):AdE K t (dFz df):=by
 intro c O ρ σ H Qd Q R h0 k
 refine h c O ρ σ H _ _ R h0 fun xs ρ1 O1 p vs H1 h1 R1 P1 f1 hp a1=>?_
 obtain⟨R2,P2⟩:=R1.unadd
 exact k _ _ _ _ _ h1 R2 (P1.trans P2) (qa1w ⟨R1.frs p f1.1,f1.2.2.1,f1.2.2.2⟩ hp (P2.all a1))
abbrev F2L:=PyData->PyData->Option (List PyData)
def AdRF(K:PySem.W.Frag)(r:R2)(f:F2L):Prop:=∀ (S:Addr->Prop) (H:Hp) (x y:V) (dx dy:PyData) (z:List PyData) (Q:VK),AtT K H S dx x->AtT K H S dy y->f dx dy=some z ->
 (∀ p vs,H p=none->qa0b K H S z vs->Q (.ref p) (upd H p (.lst vs)))->r x y H Q
def dOpF(f:F2L)(da db:TDE):TDF:=fun ρ Q=>da ρ fun x ρ1=>db ρ1 fun y ρ2=>need (qa0p ρ2 x) fun dx=>need (qa0p ρ2 y) fun dy=>need (f dx dy) fun z=>Q z ρ2
theorem ad_opF{r:R2}{f:F2L}{ta tb:TE}{da db:TDE}(hr:AdRF K r f)(ha:AdE K ta da)(hb:AdE K tb db):AdF K (tOp r ta tb) (dOpF f da db):=by
 intro c O ρ σ H Qd Q R h k
 refine ha c O ρ σ H _ _ R h fun x ρ1 O1 v H1 h1 R1 P1 a1=>?_
 refine hb c O1 ρ1 σ H1 _ _ R1 h1 fun y ρ2 O2 u H2 h2 R2 P2 a2=>?_
 obtain⟨dx,e1,hn3⟩:=ne (h2)
 obtain⟨dy,e2,hn4⟩:=ne (hn3)
 obtain⟨z,e3,h3⟩:=ne (hn4)
 refine hr (live c O2) H2 v u dx dy z Q (R2.top (a1.pers P2) e1) (R2.top a2 e2) e3 fun p vs hp a3=>?_
 obtain⟨R3,P3,f3,a4⟩:=R2.newL hp a3
 exact k _ _ _ _ _ _ h3 R3 ((P1.trans P2).trans P3) f3 qa0e a4
noncomputable def fRep:F2L
 | .list xs,.int j=>@ite _ (-(2 ^ 63) <= j/\j < 2 ^ 63/\xs.length * j.toNat <= sizeLine) (Classical.propDecidable _) (some (List.replicate j.toNat xs).flatten) none
 | _,_=>none
theorem qb1n:AdRF K rRep fRep:=by
 intro S H x y dx dy z Q hx hy e k
 unfold fRep at e
 split at e
 ·split at e
  ·rename_i hc
   cases e
   obtain⟨a,vs,rfl,h1,h2⟩:=hx.list
   rw [hy.int]
   exact⟨a,_,vs,rfl,rfl,h1,hc.1,hc.2.1,by rw [h2.length];exact hc.2.2,fun p hp=>k p _ hp (h2.rep _)⟩
  ·cases e
 ·cases e
noncomputable def qa3p(ρ:Rho):List DV->Option (List PyData)
 | []=>some []
 | x :: xs=>(qa0p ρ x).bind fun y=>(qa3p ρ xs).map (y :: ·)
noncomputable def AtTs(K:PySem.W.Frag)(H:Hp)(S:Addr->Prop):List PyData->List V->Prop:=Paired (AtT K H S)
theorem Rel.tops(R:Rel K c O ρ σ H){xs:List DV}:∀ {vs:List V} {ds:List PyData},AtVs K (live c O) σ H xs vs->qa3p ρ xs=some ds->AtTs K H (live c O) ds vs:=by
 induction xs with
 | nil =>
  intro vs ds a e
  cases a;cases e;exact .nil
 | cons x xs ih =>
  intro vs ds a e
  cases a with
  | cons a as =>
   unfold qa3p at e
   cases q:qa0p ρ x with
   | none=>rw [q] at e;cases e
   | some y =>
    rw [q] at e
    have e':(qa3p ρ xs).map (y :: ·)=some ds:=e
    cases q2:qa3p ρ xs with
    | none=>rw [q2] at e';cases e'
    | some ys =>
     rw [q2] at e'
     cases e'
     exact .cons (R.top a q) (ih as q2)
abbrev FC:=List PyData->Option PyData
abbrev FCL:=List PyData->Option (List PyData)
def AdC(K:PySem.W.Frag)(r:List V->Hp->VK->Prop)(f:FC):Prop:=∀ (S:Addr->Prop) (H:Hp) (vs:List V) (ds:List PyData) (z:PyData) (Q:VK),Frs S H->AtTs K H S ds vs->f ds=some z ->
 (∀ v H',Same H H'->AtD K H' S z v->Q v H')->r vs H Q
def dCB(f:FC)(da:TDA):TDE:=fun ρ Q=>da ρ fun xs ρ1=>need (qa3p ρ1 xs) fun ds=>need (f ds) fun z=>Q (.d z) ρ1
def dCBF(f:FCL)(da:TDA):TDF:=fun ρ Q=>da ρ fun xs ρ1=>need (qa3p ρ1 xs) fun ds=>need (f ds) fun z=>Q z ρ1
theorem ad_cb{r:List V->Hp->VK->Prop}{f:FC}{ta:TA}{da:TDA}(hr:AdC K r f)(ha:AdA K ta da):AdE K (tCB r ta) (dCB f da):=by
 intro c O ρ σ H Qd Q R h k
 refine ha c O ρ σ H _ _ R h fun xs ρ1 O1 vs H1 h1 R1 P1 a1=>?_
 obtain⟨ds,e1,hn2⟩:=ne (h1)
 obtain⟨z,e2,h2⟩:=ne (hn2)
 refine hr (live c O1) H1 vs ds z Q R1.frsLive (R1.tops a1 e1) e2 fun v H2 s2 a2=>?_
 exact k _ _ _ _ _ h2 (R1.grow s2) (P1.trans (.same s2)) a2
theorem AtTs.one{d:PyData}{vs:List V}(h:AtTs K H S [d] vs):∃ v,vs=[v]/\AtT K H S d v:=by
 cases h with
 | cons h t=>cases t;exact⟨_,rfl,h⟩
noncomputable def fLen:FC
 | [.list xs]=>some (.int xs.length)
 | [.tuple xs]=>some (.int xs.length)
 | [.str x]=>if x.length <= sizeLine then some (.int x.length) else none
 | _=>none
noncomputable def qb8u(K:PySem.W.Frag):List V->Hp->VK->Prop:=fun xs H Q=>(∃ p ys,xs=[.ref p]/\(SqL K H p ys ∨ SqT K H p ys)/\Q (.int ys.length) H) ∨ (∃ z,xs=[.str z]/\z.length <= sizeLine/\Q (.int z.length) H)
theorem qa0v{X:Cx}:qa3h X (.builtin "len") (qb8u X.K):=qa3d.or qb5v
theorem qa2q:AdC K (qb8u K) fLen:=by
 intro S H vs ds z Q f h e k
 unfold fLen at e
 split at e
 ·cases e
  obtain⟨v,rfl,h1⟩:=h.one
  obtain⟨a,ws,rfl,h2,h3⟩:=h1.list
  exact .inl ⟨a,ws,rfl,.inl (SqL.of h2),by rw [h3.length];exact k _ _ (Same.refl _) (qa2e _)⟩
 ·cases e
  obtain⟨v,rfl,h1⟩:=h.one
  obtain⟨a,ws,rfl,h2,h3⟩:=h1.tup
  exact .inl ⟨a,ws,rfl,.inr h2,by rw [h3.length];exact k _ _ (Same.refl _) (qa2e _)⟩
 ·split at e
  ·rename_i hc
   cases e
   obtain⟨v,rfl,h1⟩:=h.one
   rw [h1.str]
   exact .inr ⟨_,rfl,hc,k _ _ (Same.refl _) (qa2e _)⟩
  ·cases e
 ·cases e
noncomputable def qb3a:FC
 | [.list xs]=>some (.tuple xs)
 | [.tuple xs]=>some (.tuple xs)
 | _=>none
theorem qb6b:AdC K (fun xs H Q=>∃ p ys,xs=[.ref p]/\((SqL K H p ys/\∀ l,H l=none->Q (.ref l) (upd H l (.tup ys))) ∨ (SqT K H p ys/\Q (.ref p) H))) qb3a:=by
 intro S H vs ds z Q f h e k
 unfold qb3a at e
 split at e
 ·cases e
  obtain⟨v,rfl,h1⟩:=h.one
  obtain⟨a,ws,rfl,h2,h3⟩:=h1.list
  exact⟨a,ws,rfl,.inl ⟨SqL.of h2,fun l hl=>k _ _ (qa0t hl _) (qa8g hl h3)⟩⟩
 ·cases e
  obtain⟨v,rfl,h1⟩:=h.one
  obtain⟨a,ws,rfl,h2,h3⟩:=h1.tup
  exact⟨a,ws,rfl,.inr ⟨h2,k _ _ (Same.refl _) (qa3j h2 h3)⟩⟩
 ·cases e
noncomputable def fList:FCL
 | [.list xs]=>some xs
 | [.tuple xs]=>some xs
 | _=>none
end
section
variable{X:Cx}{a b e:Expr}{es:List Expr}{da db de:TDE}{daa:TDA}{pos:Pos}
theorem qa0c:DA X [] dNil:=⟨_,qa0q,ad_nil⟩
theorem qa0a(he:DE X e de)(ha:DA X es daa)(hs:starEach (e :: es) X.env=(false,eval e X.env) :: starEach es X.env:=by rfl):DA X (e :: es) (qa5y de daa):=by
 obtain⟨te,p1,a1⟩:=he
 obtain⟨ta,p2,a2⟩:=ha
 exact⟨_,qa0g p1 p2 hs,ad_cons a1 a2⟩
theorem qa1g{x1}(ha:DA X es daa):DE X (.Tuple es x1 pos) (dTup daa):=by obtain⟨t,p,a⟩:=ha;exact⟨_,qb2t p,ad_tup a⟩
theorem qa1n(ha:DA X es daa):DF X (.List es pos) (dLst daa):=by obtain⟨t,p,a⟩:=ha;exact⟨_,qa7a p,ad_lst a⟩
theorem qa2b{df:TDF}(h:DF X e df):DE X e (dFz df):=by obtain⟨t,p,a⟩:=h;exact⟨t,p,ad_fz a⟩
theorem df_op{op:Operator}{r:R2}{f:F2L}(ho:OpR X (binaryOp op) r)(hr:AdRF X.K r f)(ha:DE X a da)(hb:DE X b db):DF X (.BinOp a op b pos) (dOpF f da db):=by
 obtain⟨ta,pa,aa⟩:=ha
 obtain⟨tb,pb,ab⟩:=hb
 exact⟨_,qa1z ho pa pb,ad_opF hr aa ab⟩
theorem qa1o{x:Str}{p:Pos}{id:String}{r:List V->Hp->VK->Prop}{f:FC}(hc:qa3h X (.builtin id) r)(hr:AdC X.K r f)(hg:Gl X x)(hm:X.mg x=none)(hv:bootBuiltins x=some (.builtin id))(ha:DA X (e :: es) daa) (hn:x ≠ "__name__":=by decide) (hdb:(x == ("__debug__" : Str))=false:=by decide)
  (he:starEach (e :: es) X.env=(false,eval e X.env) :: starEach es X.env:=by rfl) (hpl:(backTo pos (starEach es X.env)).any (·.1)=false:=by rfl):DE X (.Call (.Name x p) (e :: es) [] pos) (dCB f daa):=by
 obtain⟨ta,pa,aa⟩:=ha
 exact⟨_,qa3q hc hg hm hv pa hn hdb he hpl,ad_cb hr aa⟩
theorem qb4x{x:Str}{p:Pos}{T:String}{r:List V->Hp->VK->Prop}{f:FC}(hc:qa3h X (.type T) r)(hr:AdC X.K r f)(hg:Gl X x)(hm:X.mg x=none)(hv:bootBuiltins x=some (.type T))(ha:DA X (e :: es) daa) (hn:x ≠ "__name__":=by decide) (hdb:(x == ("__debug__" : Str))=false:=by decide)
  (he:starEach (e :: es) X.env=(false,eval e X.env) :: starEach es X.env:=by rfl) (hpl:(backTo pos (starEach es X.env)).any (·.1)=false:=by rfl):DE X (.Call (.Name x p) (e :: es) [] pos) (dCB f daa):=by
 obtain⟨ta,pa,aa⟩:=ha
 exact⟨_,qb4t hc hg hm hv pa hn hdb he hpl,ad_cb hr aa⟩
end
end L2
end
section
namespace L2
open PySem PySem.Spec PyProof.Rows
section
variable{K:PySem.W.Frag}{c:Rc}{O:Own}{ρ:Rho}{σ:St}{H H':Hp}{S S':Addr->Prop}
noncomputable def asB:PyData->Option Bool
 | .bool b=>some b
 | _=>none
def dB(de:TDE):TDT:=fun ρ Q=>de ρ fun x ρ1=>need (qa0p ρ1 x) fun d=>need (asB d) fun b=>Q b ρ1
theorem ad_b{t:TE}{de:TDE}(h:AdE K t de):AdT K (fun σ H Q=>t σ H fun x H'=>∃ k,x=.bl k/\Q k H') (dB de):=by
 intro c O ρ σ H Qd Q R h0 k
 refine h c O ρ σ H _ _ R h0 fun x ρ1 O1 v H1 h1 R1 P1 a1=>?_
 obtain⟨d,e1,hn12⟩:=ne (h1)
 obtain⟨b,e2,h2⟩:=ne (hn12)
 have a2:=R1.top a1 e1
 cases d with
 | bool b'=>cases e2;exact⟨b,a2.bool,k _ _ _ _ h2 R1 P1⟩
 | _=>cases e2
noncomputable def tru:PyData->Option Bool
 | .none=>some false
 | .bool b=>some b
 | .int i=>some (i != 0)
 | .str x=>if x.length <= sizeLine then some ((x.length:Int) != 0) else none
 | .list xs=>some (!xs.isEmpty)
 | .tuple xs=>some (!xs.isEmpty)
 | .dict _=>none
def dTru(de:TDE):TDT:=fun ρ Q=>de ρ fun x ρ1=>need (qa0p ρ1 x) fun d=>need (tru d) fun b=>Q b ρ1
theorem qa0b.empty{ds:List PyData}{vs:List V}(h:qa0b K H S ds vs):(!vs.isEmpty) = !ds.isEmpty:=by
 have:=h.length
 cases ds<;>cases vs<;>simp at this ⊢
theorem ad_tru{t:TE}{de:TDE}(h:AdE K t de):AdT K (fun σ H Q=>t σ H fun x H'=>∃ k,TruV K x H' k/\Q k H') (dTru de):=by
 intro c O ρ σ H Qd Q R h0 k
 refine h c O ρ σ H _ _ R h0 fun x ρ1 O1 v H1 h1 R1 P1 a1=>?_
 obtain⟨d,e1,hn11⟩:=ne (h1)
 obtain⟨b,e2,h2⟩:=ne (hn11)
 have a2:=R1.top a1 e1
 refine⟨b,?_,k _ _ _ _ h2 R1 P1⟩
 cases d with
 | none=>cases e2;rw [a2.none];rfl
 | bool b'=>cases e2;rw [a2.bool];rfl
 | int i=>cases e2;rw [a2.int];rfl
 | str x =>
  simp only [tru] at e2
  split at e2
  ·rename_i hc
   cases e2;rw [a2.str];exact⟨hc,rfl⟩
  ·cases e2
 | list xs =>
  cases e2
  obtain⟨a,vs,rfl,h3,h4⟩:=a2.list
  exact .inl ⟨vs,SqL.of h3,h4.empty.symm⟩
 | tuple xs =>
  cases e2
  obtain⟨a,vs,rfl,h3,h4⟩:=a2.tup
  exact .inr (.inl ⟨vs,h3,h4.empty.symm⟩)
 | dict _=>cases e2
def dAnd(t u:TDT):TDT:=fun ρ Q=>t ρ fun b ρ1=>if b=true then u ρ1 Q else Q false ρ1
def dOr(t u:TDT):TDT:=fun ρ Q=>t ρ fun b ρ1=>if b=true then Q true ρ1 else u ρ1 Q
def dNot(t:TDT):TDT:=fun ρ Q=>t ρ fun b ρ1=>Q (!b) ρ1
theorem ad_and{t u:TT}{dt du:TDT}(h:AdT K t dt)(h':AdT K u du):AdT K (tAnd t u) (dAnd dt du):=by
 intro c O ρ σ H Qd Q R h0 k
 refine h c O ρ σ H _ _ R h0 fun b ρ1 O1 H1 h1 R1 P1=>?_
 cases b with
 | true=>rw [if_pos rfl] at h1 ⊢;exact h' c O1 ρ1 σ H1 _ _ R1 h1 fun b ρ2 O2 H2 h2 R2 P2=>k _ _ _ _ h2 R2 (P1.trans P2)
 | false=>rw [if_neg Bool.false_ne_true] at h1 ⊢;exact k _ _ _ _ h1 R1 P1
theorem ad_or{t u:TT}{dt du:TDT}(h:AdT K t dt)(h':AdT K u du):AdT K (tOr t u) (dOr dt du):=by
 intro c O ρ σ H Qd Q R h0 k
 refine h c O ρ σ H _ _ R h0 fun b ρ1 O1 H1 h1 R1 P1=>?_
 cases b with
 | true=>rw [if_pos rfl] at h1 ⊢;exact k _ _ _ _ h1 R1 P1
 | false=>rw [if_neg Bool.false_ne_true] at h1 ⊢;exact h' c O1 ρ1 σ H1 _ _ R1 h1 fun b ρ2 O2 H2 h2 R2 P2=>k _ _ _ _ h2 R2 (P1.trans P2)
theorem ad_not{t:TT}{dt:TDT}(h:AdT K t dt):AdT K (tNot t) (dNot dt):=by
 intro c O ρ σ H Qd Q R h0 k
 exact h c O ρ σ H _ _ R h0 fun b ρ1 O1 H1 h1 R1 P1=>k _ _ _ _ h1 R1 P1
def dIfE(c:TDT)(a b:TDE):TDE:=fun ρ Q=>c ρ fun k ρ1=>if k=true then a ρ1 Q else b ρ1 Q
theorem ad_ifE{t:TT}{ta tb:TE}{dt:TDT}{da db:TDE}(h:AdT K t dt)(ha:AdE K ta da)(hb:AdE K tb db):AdE K (tIf t ta tb) (dIfE dt da db):=by
 intro c O ρ σ H Qd Q R h0 k
 refine h c O ρ σ H _ _ R h0 fun b ρ1 O1 H1 h1 R1 P1=>?_
 cases b with
 | true=>rw [if_pos rfl] at h1 ⊢;exact ha c O1 ρ1 σ H1 _ _ R1 h1 fun x ρ2 O2 v H2 h2 R2 P2 a2=>k _ _ _ _ _ h2 R2 (P1.trans P2) a2
 | false=>rw [if_neg Bool.false_ne_true] at h1 ⊢;exact hb c O1 ρ1 σ H1 _ _ R1 h1 fun x ρ2 O2 v H2 h2 R2 P2 a2=>k _ _ _ _ _ h2 R2 (P1.trans P2) a2
theorem qc3u:AtV K S σ H (.d .none) .non:=(qb0g:AtD K H S .none .non)
theorem qb0l{b:Bool}:AtV K S σ H (.d (.bool b)) (.bl b):=(qa2t b:AtD K H S (.bool b) (.bl b))
def dAndV(a b:TDE):TDE:=fun ρ Q=>a ρ fun x ρ1=>need (qa0p ρ1 x) fun d=>need (asB d) fun k=>if k=true then b ρ1 Q else Q (.d (.bool false)) ρ1
def dOrV(a b:TDE):TDE:=fun ρ Q=>a ρ fun x ρ1=>need (qa0p ρ1 x) fun d=>need (asB d) fun k=>if k=true then Q (.d (.bool true)) ρ1 else b ρ1 Q
theorem asB_at{d:PyData}{v:V}{b:Bool}(h:AtT K H S d v)(e:asB d=some b):v=.bl b:=by
 cases d with
 | bool b'=>cases e;exact h.bool
 | _=>cases e
theorem ad_andV{ta tb:TE}{da db:TDE}(ha:AdE K ta da)(hb:AdE K tb db):AdE K (tAndV ta tb) (dAndV da db):=by
 intro c O ρ σ H Qd Q R h0 k
 refine ha c O ρ σ H _ _ R h0 fun x ρ1 O1 v H1 h1 R1 P1 a1=>?_
 obtain⟨d,e1,hn10⟩:=ne (h1)
 obtain⟨b,e2,h2⟩:=ne (hn10)
 refine⟨b,asB_at (R1.top a1 e1) e2,?_⟩
 cases b with
 | true=>rw [if_pos rfl] at h2 ⊢;exact hb c O1 ρ1 σ H1 _ _ R1 h2 fun x ρ2 O2 v H2 h2 R2 P2 a2=>k _ _ _ _ _ h2 R2 (P1.trans P2) a2
 | false=>rw [if_neg Bool.false_ne_true] at h2 ⊢;exact k _ _ _ _ _ h2 R1 P1 qb0l
def dNotV(a:TDE):TDE:=fun ρ Q=>a ρ fun x ρ1=>need (qa0p ρ1 x) fun d=>need (asB d) fun k=>Q (.d (.bool (!k))) ρ1
theorem ad_notV{ta:TE}{da:TDE}(ha:AdE K ta da):AdE K (tNotV ta) (dNotV da):=by
 intro c O ρ σ H Qd Q R h0 k
 refine ha c O ρ σ H _ _ R h0 fun x ρ1 O1 v H1 h1 R1 P1 a1=>?_
 obtain⟨d,e1,hn8⟩:=ne (h1)
 obtain⟨b,e2,h2⟩:=ne (hn8)
 exact⟨b,asB_at (R1.top a1 e1) e2,k _ _ _ _ _ h2 R1 P1 qb0l⟩
def dChain(f f':F2)(da db dc:TDE):TDE:=fun ρ Q=>da ρ fun x ρ1=>db ρ1 fun y ρ2=>need (qa0p ρ2 x) fun dx=>need (qa0p ρ2 y) fun dy=>need (f dx dy) fun z=>need (asB z) fun k =>
 if k=true then dc ρ2 fun w ρ3=>need (qa0p ρ3 y) fun dy=>need (qa0p ρ3 w) fun dw=>need (f' dy dw) fun z'=>Q (.d z') ρ3 else Q (.d (.bool false)) ρ2
end
section
variable{X:Cx}{a b c e:Expr}{rest:List Expr}{da db dc de:TDE}{dt du:TDT}{pos:Pos}
theorem qa5b(h:DE X e de)(he:∀ whole,isTrue e X.env whole=(do let v ← whole;standAt e.pos;holding [v] (truthy v)):=by intro _;rfl):DT X e (dB de):=by
 obtain⟨t,p,a⟩:=h
 exact⟨_,pt_val p he,ad_b a⟩
theorem qb6c(h:DE X e de)(he:∀ whole,isTrue e X.env whole=(do let v ← whole;standAt e.pos;holding [v] (truthy v)):=by intro _;rfl):DT X e (dTru de):=by
 obtain⟨t,p,a⟩:=h
 exact⟨_,qc3d p he,ad_tru a⟩
theorem qa1k{op:CmpOp}{r:R2}{f:F2}(ho:OpR X (compareOp op) r)(hr:AdR X.K r f)(ha:DE X a da)(hb:DE X b db)(hm:behindInMarks op b=false):DT X (.Compare a [op] [b] pos) (dB (dOp f da db)):=by
 obtain⟨ta,pa,aa⟩:=ha
 obtain⟨tb,pb,ab⟩:=hb
 exact⟨_,qa3v ho pa pb hm,ad_b (ad_op hr aa ab)⟩
theorem DW.toT(h:DW X e dt):DT X e dt:=by obtain⟨t,p,a⟩:=h;exact⟨t,p.pt,a⟩
theorem qb3y(ha:DT X a dt):DW X (.BoolOp .And [a] pos) dt:=by obtain⟨t,p,a⟩:=ha;exact⟨t,qb8g p,a⟩
theorem qa7e(ha:DT X a dt):DW X (.BoolOp .Or [a] pos) dt:=by obtain⟨t,p,a⟩:=ha;exact⟨t,pw_or1 p,a⟩
theorem qb6d(ha:DT X a dt)(hb:DW X (.BoolOp .And (b :: rest) pos) du):DW X (.BoolOp .And (a :: b :: rest) pos) (dAnd dt du):=by obtain⟨_,p,a⟩:=ha;obtain⟨_,p',a'⟩:=hb;exact⟨_,pw_and p p',ad_and a a'⟩
theorem qa8x(ha:DT X a dt)(hb:DW X (.BoolOp .Or (b :: rest) pos) du):DW X (.BoolOp .Or (a :: b :: rest) pos) (dOr dt du):=by obtain⟨_,p,a⟩:=ha;obtain⟨_,p',a'⟩:=hb;exact⟨_,pw_or p p',ad_or a a'⟩
theorem dt_not(ha:DT X a dt):DT X (.UnaryOp .Not a pos) (dNot dt):=by obtain⟨_,p,a⟩:=ha;exact⟨_,pt_not p,ad_not a⟩
theorem qa5c{op}(h:DE X a da):DE X (.BoolOp op [a] pos) da:=by obtain⟨t,p,a⟩:=h;exact⟨t,pe_one p,a⟩
theorem qa4f(ha:DE X a da)(hb:DE X (.BoolOp .And (b :: rest) pos) db):DE X (.BoolOp .And (a :: b :: rest) pos) (dAndV da db):=by obtain⟨_,p,a⟩:=ha;obtain⟨_,p',a'⟩:=hb;exact⟨_,pe_and p p',ad_andV a a'⟩
theorem de_not(ha:DE X a da):DE X (.UnaryOp .Not a pos) (dNotV da):=by obtain⟨_,p,a⟩:=ha;exact⟨_,pe_not p,ad_notV a⟩
theorem de_if(hc:DT X c dt)(ha:DE X a da)(hb:DE X b db):DE X (.IfExp c a b pos) (dIfE dt da db):=by obtain⟨_,p,a⟩:=hc;obtain⟨_,p',a'⟩:=ha;obtain⟨_,p2,a2⟩:=hb;exact⟨_,qc3b p p' p2,ad_ifE a a' a2⟩
end
inductive RV where
 | d (x:PyData)
 | new (xs:List PyData)
structure DEnds where
 nx:Rho->Prop
 rt:RV->Rho->Prop
 bk:Rho->Prop:=fun _=>False
 ct:Rho->Prop:=fun _=>False
abbrev TDS:=DEnds->Rho->Prop
noncomputable def RetOk(K:PySem.W.Frag)(c:Rc)(O:Own)(ρ:Rho)(σ:St)(H:Hp):RV->V->Prop
 | .d x,v=>Rel K c O ρ σ H/\AtD K H (live c O) x v
 | .new xs,v=>∃ p vs,v=.ref p/\Rel K (c.add p) O ρ σ H/\qb1v c O p/\H p=some (.lst vs)/\qa0b K H (live (c.add p) O) xs vs
structure EndsOk(K:PySem.W.Frag)(c:Rc)(S0:Addr->Prop)(H0:Hp)(D:Ends)(Dd:DEnds):Prop where
 nx:∀ O ρ σ H,Rel K c O ρ σ H->Pers K S0 H0 (live c O) H->Dd.nx ρ->D.nx σ H
 rt:∀ r O ρ σ H v,RetOk K c O ρ σ H r v->Dd.rt r ρ->D.rt v H
 bk:∀ O ρ σ H,Rel K c O ρ σ H->Pers K S0 H0 (live c O) H->Dd.bk ρ->D.bk σ H
 ct:∀ O ρ σ H,Rel K c O ρ σ H->Pers K S0 H0 (live c O) H->Dd.ct ρ->D.ct σ H
 mb:∀ p,c.M p->c.B p
 oa:∀ p,c.H0 p=none->c.A p
theorem EndsOk.later{K:PySem.W.Frag}{c:Rc}{S0 S1:Addr->Prop}{H0 H1:Hp}{D:Ends}{Dd:DEnds}(E:EndsOk K c S0 H0 D Dd)(P:Pers K S0 H0 S1 H1):EndsOk K c S1 H1 D Dd:=
 ⟨fun O ρ σ H R q=>E.nx O ρ σ H R (P.trans q),E.rt,fun O ρ σ H R q=>E.bk O ρ σ H R (P.trans q),fun O ρ σ H R q=>E.ct O ρ σ H R (P.trans q),E.mb,E.oa⟩
def AdS(K:PySem.W.Frag)(t:TS)(dt:TDS):Prop:=∀ (c:Rc) (O:Own) (ρ:Rho) (σ:St) (H:Hp) (D:Ends) (Dd:DEnds),Rel K c O ρ σ H->EndsOk K c (live c O) H D Dd->dt Dd ρ->t D σ H
def DS(X:Cx)(st:Stmt)(dt:TDS):Prop:=∃ t,PS X st t/\AdS X.K t dt
def DSs(X:Cx)(st:List Stmt)(dt:TDS):Prop:=∃ t,PSs X st t/\AdS X.K t dt
section
variable{K:PySem.W.Frag}{c:Rc}{O:Own}{ρ:Rho}{σ:St}{H H':Hp}{S S':Addr->Prop}
def dNext:TDS:=fun D ρ=>D.nx ρ
def dSeq(t u:TDS):TDS:=fun D ρ=>t { D with nx:=u D } ρ
theorem ad_next:AdS K tNext dNext:=fun c O ρ σ H D Dd R E h=>E.nx O ρ σ H R .refl h
theorem ad_seq{t u:TS}{dt du:TDS}(h:AdS K t dt)(h':AdS K u du):AdS K (tSeq t u) (dSeq dt du):=fun c O ρ σ H D Dd R E q =>
 h c O ρ σ H { D with nx:=u D } { Dd with nx:=du Dd } R ⟨fun O1 ρ1 σ1 H1 R1 P1 q1=>h' c O1 ρ1 σ1 H1 D Dd R1 (E.later P1) q1,E.rt,E.bk,E.ct,E.mb,E.oa⟩ q
def dBreak:TDS:=fun D ρ=>D.bk ρ
def dCont:TDS:=fun D ρ=>D.ct ρ
def dDrop(de:TDE):TDS:=fun D ρ=>de ρ fun _ ρ1=>D.nx ρ1
theorem ad_drop{t:TE}{de:TDE}(h:AdE K t de):AdS K (tDrop t) (dDrop de):=fun c O ρ σ H D Dd R E q =>
 h c O ρ σ H _ _ R q fun x ρ1 O1 v H1 h1 R1 P1 a1=>E.nx O1 ρ1 σ H1 R1 P1 h1
def dRet(de:TDE):TDS:=fun D ρ=>de ρ fun x ρ1=>fz ρ1 x fun y ρ2=>D.rt (.d y) ρ2
theorem ad_ret{t:TE}{de:TDE}(h:AdE K t de):AdS K (tRet t) (dRet de):=fun c O ρ σ H D Dd R E q =>
 h c O ρ σ H _ _ R q fun x ρ1 O1 v H1 h1 R1 P1 a1=>by
  obtain⟨y,ρ2,O2,h2,R2,P2,a2⟩:=R1.fz a1 h1
  exact E.rt (.d y) O2 ρ2 σ H1 v ⟨R2,a2⟩ h2
def dRetF(df:TDF):TDS:=fun D ρ=>df ρ fun xs ρ1=>D.rt (.new xs) ρ1
noncomputable def ownAt(ρ:Rho)(i:Nat):Option (List PyData):=match ρ[i]?.join with
 | some (.own xs)=>some xs
 | _=>none
def qb3z(i:Nat):TDS:=fun D ρ=>need (ownAt ρ i) fun xs=>D.rt (.new xs) (ρ.set i none)
theorem qc0f{i:Nat}{xs:List PyData}(h:ownAt ρ i=some xs):ρ[i]? = some (some (.own xs)):=by
 unfold ownAt at h
 split at h
 ·rename_i ys e
  cases h
  exact qa1r e
 ·cases h
theorem qc1z{i:Nat}:AdS K (tRet (tVar i)) (qb3z i):=by
 intro c O ρ σ H D Dd R E q
 obtain⟨xs,e,q⟩:=ne (q)
 have e':=qc0f e
 obtain⟨p,vs,h1,h2,h3,h4,R1,a1⟩:=R.disown e'
 refine⟨.ref p,h1,E.rt (.new xs) _ _ σ H _ ⟨p,vs,rfl,R1,⟨?_,h3.1,h3.2.2,fun j ej=>?_⟩,h4,a1⟩ q⟩
 ·rcases (R.has i p h2).1 with z | z
  ·exact absurd (E.mb p z) h3.1
  ·exact z
 ·obtain⟨n,ej⟩:=qa2a ej
  exact n (R.inj j i p ej h2)
def dIf(c:TDT)(t u:TDS):TDS:=fun D ρ=>c ρ fun b ρ1=>if b=true then t D ρ1 else u D ρ1
theorem ad_if{tc:TT}{t u:TS}{dc:TDT}{dt du:TDS}(hc:AdT K tc dc)(h:AdS K t dt)(h':AdS K u du):AdS K (tIfS tc t u) (dIf dc dt du):=fun c O ρ σ H D Dd R E q =>
 hc c O ρ σ H _ _ R q fun b ρ1 O1 H1 h1 R1 P1=>by
  cases b with
  | true=>rw [if_pos rfl] at h1 ⊢;exact h c O1 ρ1 σ H1 D Dd R1 (E.later P1) h1
  | false=>rw [if_neg Bool.false_ne_true] at h1 ⊢;exact h' c O1 ρ1 σ H1 D Dd R1 (E.later P1) h1
def dRetN:TDS:=fun D ρ=>D.rt (.d .none) ρ
def dSet(i:Nat)(de:TDE):TDS:=fun D ρ=>de ρ fun x ρ1=>fz ρ1 x fun y ρ2=>i < ρ2.length/\D.nx (ρ2.set i (some (.d y)))
theorem ad_set{i:Nat}{t:TE}{de:TDE}(h:AdE K t de):AdS K (tAsg t (qa3l i)) (dSet i de):=fun c O ρ σ H D Dd R E q =>
 h c O ρ σ H _ _ R q fun x ρ1 O1 v H1 h1 R1 P1 a1=>by
  obtain⟨y,ρ2,O2,⟨hi,h2⟩,R2,P2,a2⟩:=R1.fz a1 h1
  obtain⟨R3,P3⟩:=R2.setD hi a2
  exact E.nx _ _ _ H1 R3 ((P1.trans P2).trans P3) h2
def dSetF(i:Nat)(df:TDF):TDS:=fun D ρ=>df ρ fun xs ρ1=>i < ρ1.length/\D.nx (ρ1.set i (some (.own xs)))
theorem qb8v{i:Nat}{t:TE}{df:TDF}(h:AdF K t df):AdS K (tAsg t (qa3l i)) (dSetF i df):=fun c O ρ σ H D Dd R E q =>
 h c O ρ σ H _ _ R q fun xs ρ1 O1 p vs H1 h1 R1 P1 f1 hp a1=>by
  obtain⟨hi,h2⟩:=h1
  obtain⟨R3,P3⟩:=R1.setOwn hi f1.1 f1.2.1 f1.2.2.1 f1.2.2.2 (E.oa _ f1.1) hp a1
  exact E.nx _ _ _ H1 R3 (P1.trans P3) h2
abbrev TDG:=PyData->Rho->(Rho->Prop)->Prop
abbrev TDGs:=List PyData->Rho->(Rho->Prop)->Prop
def AdG(K:PySem.W.Frag)(g:TG)(dg:TDG):Prop:=∀ (c:Rc) (O:Own) (ρ:Rho) (σ:St) (H:Hp) (x:PyData) (v:V) (Qd:Rho->Prop) (Q:St->Hp->Prop),Rel K c O ρ σ H->AtD K H (live c O) x v->dg x ρ Qd ->
 (∀ O' ρ' σ' ,Rel K c O' ρ' σ' H->Pers K (live c O) H (live c O') H->Qd ρ'->Q σ' H)->g v σ H Q
def AdGs(K:PySem.W.Frag)(g:TGs)(dg:TDGs):Prop:=∀ (c:Rc) (O:Own) (ρ:Rho) (σ:St) (H:Hp) (x:List PyData) (v:List V) (Qd:Rho->Prop) (Q:St->Hp->Prop),Rel K c O ρ σ H->qa0b K H (live c O) x v->dg x ρ Qd ->
 (∀ O' ρ' σ' ,Rel K c O' ρ' σ' H->Pers K (live c O) H (live c O') H->Qd ρ'->Q σ' H)->g v σ H Q
def qb3b(i:Nat):TDG:=fun x ρ Q=>i < ρ.length/\Q (ρ.set i (some (.d x)))
theorem ag_name{i:Nat}:AdG K (qa3l i) (qb3b i):=fun c O ρ σ H x v Qd Q R a h k=>by
 obtain⟨R1,P1⟩:=R.setD h.1 a
 exact k _ _ _ R1 P1 h.2
noncomputable def dgNil:TDGs:=fun xs ρ Q=>xs=[]/\Q ρ
def qb6e(t:TDG)(u:TDGs):TDGs:=fun xs ρ Q=>match xs with
 | x :: r=>t x ρ fun ρ1=>u r ρ1 Q
 | []=>False
theorem ag_nil:AdGs K gNil dgNil:=fun c O ρ σ H x v Qd Q R a h k=>by
 obtain⟨rfl,h⟩:=h
 exact⟨a.unnil,k _ _ _ R .refl h⟩
theorem ag_cons{t:TG}{u:TGs}{dt:TDG}{du:TDGs}(h:AdG K t dt)(h':AdGs K u du):AdGs K (gCons t u) (qb6e dt du):=fun c O ρ σ H x v Qd Q R a q k=>by
 cases x with
 | nil=>exact(show False from q).elim
 | cons x r =>
  obtain⟨w,ws,rfl,a1,a2⟩:=a.uncons
  exact⟨w,ws,rfl,h c O ρ σ H x w _ _ R a1 q fun O1 ρ1 σ1 R1 P1 q1=>h' c O1 ρ1 σ1 H r ws _ _ R1 (P1.all a2) q1 fun O2 ρ2 σ2 R2 P2 q2=>k _ _ _ R2 (P1.trans P2) q2⟩
def dgTup(n:Nat)(t:TDGs):TDG:=fun x ρ Q=>match x with
 | .tuple xs=>xs.length=n/\t xs ρ Q
 | _=>False
theorem ag_tup{n:Nat}{t:TGs}{dt:TDGs}(h:AdGs K t dt):AdG K (gTup K n t) (dgTup n dt):=fun c O ρ σ H x v Qd Q R a q k=>by
 cases x with
 | tuple xs =>
  obtain⟨hn,q⟩:=q
  obtain⟨b,ws,rfl,h1,h2⟩:=qa3e a
  exact⟨b,ws,rfl,h1,by rw [h2.length];exact hn,h c O ρ σ H xs ws _ _ R h2 q k⟩
 | _=>exact(show False from q).elim
def dAsg(de:TDE)(g:TDG):TDS:=fun D ρ=>de ρ fun x ρ1=>fz ρ1 x fun y ρ2=>g y ρ2 D.nx
inductive OK where | o | b
noncomputable def ownB(ρ:Rho)(i:Nat):Option (OK × List PyData):=match ρ[i]?.join with
 | some (.own xs)=>some (.o,xs)
 | some (.bor xs)=>some (.b,xs)
 | _=>none
noncomputable def okL:OK->List PyData->L
 | .o,xs=>.own xs
 | .b,xs=>.bor xs
theorem qa9t{i:Nat}{o:OK}{xs:List PyData}(R:Rel K c O ρ σ H)(h:ownB ρ i=some (o,xs)):ρ[i]? = some (some (okL o xs))/\∃ p vs,O i=some p/\σ[i]? = some (some (.ref p))/\H p=some (.lst vs)/\qa0b K H (live c O) xs vs:=by
 unfold ownB at h
 split at h
 ·rename_i ys e
  cases h
  have e':=qa1r e
  obtain⟨p,vs,h1,_,h3,h4,h5⟩:=R.own i _ e'
  exact⟨e',p,vs,h1,h3,h4,h5⟩
 ·rename_i ys e
  cases h
  have e':=qa1r e
  obtain⟨p,vs,h1,h3,h4,h5⟩:=R.bor i _ e'
  exact⟨e',p,vs,h1,h3,h4,h5⟩
 ·cases h
theorem Rel.writeB{i:Nat}{o:OK}{p:Addr}{xs ys:List PyData}{vs vs':List V}(R:Rel K c O ρ σ H)(hO:O i=some p)(hH:H p=some (.lst vs))(e:ρ[i]? = some (some (okL o xs)))(h:qa0b K H (live c O) ys vs') :
  Rel K c O (ρ.set i (some (okL o ys))) σ (upd H p (.lst vs'))/\Pers K (live c O) H (live c O) (upd H p (.lst vs')):=by
 cases o with
 | o=>exact R.write hO hH (.inl e) (.inl ⟨ys,e,rfl,h⟩)
 | b=>exact R.write hO hH (.inr (.inl e)) (.inr (.inl ⟨ys,e,rfl,h⟩))
def qb4a(i:Nat)(de:TDE):TDE:=fun ρ Q=>need (ownB ρ i) fun _=>de ρ fun x ρ1=>fz ρ1 x fun y ρ2=>need (ownB ρ2 i) fun o=>o.2.length <= 1000000/\Q (.d .none) (ρ2.set i (some (okL o.1 (o.2 ++ [y]))))
theorem qc2a{i:Nat}{t:TE}{de:TDE}(h:AdE K t de):AdE K (tBM K "list" qb8p (tVar i) (qa2z t tNil)) (qb4a i de):=by
 intro c O ρ σ H Qd Q R q k
 obtain⟨hz6,e,q⟩:=ne (q)
 obtain⟨o,xs⟩:=hz6
 obtain⟨e0,p,vs,hO,hσ,hH,hA⟩:=qa9t R e
 refine⟨.ref p,hσ,.inl ⟨rfl,vs,SqL.of hH⟩,?_⟩
 refine h c O ρ σ H _ _ R q fun x ρ1 O1 v H1 h1 R1 P1 a1=>?_
 obtain⟨y,ρ2,O2,hz19,R2,P2,a2⟩:=R1.fz a1 h1
 obtain⟨hz23,e2,hn25⟩:=ne (hz19)
 obtain⟨hz,h2⟩:=hn25
 obtain⟨o2,xs2⟩:=hz23
 obtain⟨e3,p2,vs2,hO2,hσ2,hH2,hA2⟩:=qa9t R2 e2
 rw [hσ] at hσ2;cases hσ2
 refine⟨p,vs2,v,rfl,rfl,hH2,by rw [hA2.length];exact mil hz,?_⟩
 obtain⟨R3,P3⟩:=R2.writeB hO2 hH2 e3 (hA2.snoc a2)
 exact k _ _ _ _ _ h2 R3 ((P1.trans P2).trans P3) qc3u
def dPop(i:Nat):TDE:=fun ρ Q=>need (ownB ρ i) fun o=>need o.2.getLast? fun y=>Q (.d y) (ρ.set i (some (okL o.1 o.2.dropLast)))
theorem qa0b.dropLast{ds:List PyData}{vs:List V}(h:qa0b K H S ds vs):qa0b K H S ds.dropLast vs.dropLast:=by
 rw [List.dropLast_eq_take,List.dropLast_eq_take,h.length];exact h.take _
theorem ad_pop{i:Nat}:AdE K (tBM0 K "list" rPop (tVar i)) (dPop i):=by
 intro c O ρ σ H Qd Q R q k
 obtain⟨hz5,e,hn16⟩:=ne (q)
 obtain⟨y,ey,q⟩:=ne (hn16)
 obtain⟨o,xs⟩:=hz5
 obtain⟨e0,p,vs,hO,hσ,hH,hA⟩:=qa9t R e
 have ey':xs[xs.length - 1]? = some y:=by rw [← List.getLast?_eq_getElem?];exact ey
 obtain⟨v,ev,av⟩:=hA.get ey'
 refine⟨.ref p,hσ,.inl ⟨rfl,vs,SqL.of hH⟩,p,vs,v,rfl,rfl,hH,by rw [hA.length];exact ev,?_⟩
 obtain⟨R3,P3⟩:=R.writeB hO hH e0 hA.dropLast
 exact k _ _ _ _ _ q R3 P3 (P3 _ _ av:AtD _ _ _ y v)
def qa9u(i:Nat)(di de:TDE):TDS:=fun D ρ=>de ρ fun x ρ1=>fz ρ1 x fun y ρ2=>need (ownB ρ2 i) fun _=>di ρ2 fun z ρ3=>need (qa0p ρ3 z) fun dz=>need (asI dz) fun n=>need (ownB ρ3 i) fun o=>need (ixN o.2.length n) fun j=>D.nx (ρ3.set i (some (okL o.1 (o.2.set j y))))
 where asI:PyData->Option Int
  | .int i=>some i
  | _=>none
theorem qc3v{i:Nat}{ti te:TE}{di de:TDE}(hi:AdE K ti di)(h:AdE K te de):AdS K (tAsg te (gSub (tVar i) ti rSetL)) (qa9u i di de):=fun c O ρ σ H D Dd R E q =>
 h c O ρ σ H _ _ R q fun x ρ1 O1 v H1 h1 R1 P1 a1=>by
  obtain⟨y,ρ2,O2,hz4,R2,P2,a2⟩:=R1.fz a1 h1
  obtain⟨hz15,e,h2⟩:=ne (hz4)
  obtain⟨o,xs⟩:=hz15
  obtain⟨e0,p,vs,hO,hσ,hH,hA⟩:=qa9t R2 e
  refine⟨.ref p,hσ,?_⟩
  refine hi c O2 ρ2 σ H1 _ _ R2 h2 fun z ρ3 O3 w H3 h3 R3 P3 a3=>?_
  obtain⟨dz,e1,hn24⟩:=ne (h3)
  obtain⟨n,e2,hn27⟩:=ne (hn24)
  obtain⟨hz22,e4,hn29⟩:=ne (hn27)
  obtain⟨j,e5,h4⟩:=ne (hn29)
  obtain⟨o4,xs4⟩:=hz22
  obtain⟨e6,p4,vs4,hO4,hσ4,hH4,hA4⟩:=qa9t R3 e4
  rw [hσ] at hσ4;cases hσ4
  have a4:=R3.top a3 e1
  cases dz with
  | int n' =>
   cases e2
   refine⟨p,vs4,n,j,rfl,a4.int,hH4,by rw [hA4.length];exact e5,?_⟩
   obtain⟨R5,P5⟩:=R3.writeB hO4 hH4 e6 (hA4.set j (P3 _ _ a2))
   exact E.nx _ _ _ _ R5 (((P1.trans P2).trans P3).trans P5) h4
  | _=>cases e2
def qb6f(c:TDT)(b:TDS):TDS:=fun D ρ=>∃ W:Nat->Rho->Prop,(∃ m,W m ρ)/\∀ m ρ,W m ρ->c ρ fun k ρ1=>if k=true then b { D with nx:=fun ρ2=>∃ m',m' < m/\W m' ρ2,ct:=fun ρ2=>∃ m',m' < m/\W m' ρ2,bk:=D.nx } ρ1 else D.nx ρ1
theorem qc3w{tc:TT}{tb:TS}{dc:TDT}{db:TDS}(hc:AdT K tc dc)(hb:AdS K tb db):AdS K (tWhile tc tb) (qb6f dc db):=fun c O ρ σ H D Dd R E q=>by
 obtain⟨W,⟨m0,w0⟩,turn⟩:=q
 refine⟨fun m σ' H'=>∃ O' ρ',Rel K c O' ρ' σ' H'/\Pers K (live c O) H (live c O') H'/\W m ρ',⟨m0,O,ρ,R,.refl,w0⟩,?_⟩
 rintro m σ1 H1 ⟨O1,ρ1,R1,P1,w1⟩
 refine hc c O1 ρ1 σ1 H1 _ _ R1 (turn m ρ1 w1) fun b ρ2 O2 H2 h2 R2 P2=>?_
 have P:=P1.trans P2
 cases b with
 | true =>
  rw [if_pos rfl] at h2 ⊢
  refine⟨fun σ' H'=>∃ O' ρ' m',Rel K c O' ρ' σ' H'/\Pers K (live c O) H (live c O') H'/\m' < m/\W m' ρ',fun σ' H' hq8=>by obtain⟨O',ρ',m',R',P',hm,w'⟩:=hq8;exact⟨m',hm,O',ρ',R',P',w'⟩,?_⟩
  exact hb c O2 ρ2 σ1 H2 _ { Dd with nx:=fun ρ2=>∃ m',m' < m/\W m' ρ2,ct:=fun ρ2=>∃ m',m' < m/\W m' ρ2,bk:=Dd.nx } R2 ⟨fun O3 ρ3 σ3 H3 R3 P3 hq8=>by obtain⟨m',hm,w3⟩:=hq8;exact⟨O3,ρ3,m',R3,P.trans P3,hm,w3⟩,E.rt,fun O3 ρ3 σ3 H3 R3 P3=>E.nx _ _ _ _ R3 (P.trans P3),fun O3 ρ3 σ3 H3 R3 P3 hq8=>by obtain⟨m',hm,w3⟩:=hq8;exact⟨O3,ρ3,m',R3,P.trans P3,hm,w3⟩,E.mb,E.oa⟩ h2
 | false =>
  rw [if_neg Bool.false_ne_true] at h2 ⊢
  exact E.nx _ _ _ _ R2 P h2
abbrev TDI:=Rho->(List PyData->Rho->Prop)->Prop
def qa8h(K:PySem.W.Frag)(S:Addr->Prop)(H:Hp)(J:It)(xs:List PyData):Prop:=∀ (S':Addr->Prop) (H':Hp),Pers K S H S' H' ->
 (∀ (i:Nat) (x:PyData),xs[i]? = some x->J.go i H'/\∀ v H'',J.yld i H' v H''->Same H' H''/\AtD K H'' S' x v)/\J.stop xs.length H'
def AdI(K:PySem.W.Frag)(t:TI)(di:TDI):Prop:=∀ (c:Rc) (O:Own) (ρ:Rho) (σ:St) (H:Hp) (Qd:List PyData->Rho->Prop) (Q:It->Hp->Prop),Rel K c O ρ σ H->di ρ Qd ->
 (∀ xs ρ' O' J H',Qd xs ρ'->Rel K c O' ρ' σ H'->Pers K (live c O) H (live c O') H'->qa8h K (live c O') H' J xs->Q J H')->t σ H Q
def DI(X:Cx)(tg iter:Expr)(di:TDI):Prop:=∃ t,PI X tg iter t/\AdI X.K t di
theorem qc0g{a:Addr}{vs:List V}{xs:List PyData}(h1:SqT K H a vs)(h2:qa0b K H S xs vs):qa8h K S H (Itt K a) xs:=fun S' H' P=>by
 obtain⟨b,ws,e,h3,h4⟩:=qa3e (P _ _ (qa3j h1 h2))
 cases e
 refine⟨fun i x e=>?_,⟨ws,h3,by rw [h4.length];exact Nat.le_refl _⟩⟩
 obtain⟨w,e1,e2⟩:=h4.get e
 refine⟨⟨ws,w,h3,e1⟩,fun v H'' y=>?_⟩
 obtain⟨rfl,y⟩:=y
 have e3:=y ws h3
 rw [e1] at e3;cases e3
 exact⟨Same.refl _,e2⟩
theorem qc0h{a:Addr}{vs:List V}{xs:List PyData}(hS:S a)(h1:H a=some (.lst vs))(h2:qa0b K H S xs vs):qa8h K S H (Itl K a) xs:=fun S' H' P=>by
 obtain⟨b,ws,e,_,h3,h4⟩:=qa3o (P _ _ (qa1w hS h1 h2))
 cases e
 refine⟨fun i x e=>?_,⟨ws,SqL.of h3,by rw [h4.length];exact Nat.le_refl _⟩⟩
 obtain⟨w,e1,e2⟩:=h4.get e
 refine⟨⟨ws,w,SqL.of h3,e1⟩,fun v H'' y=>?_⟩
 obtain⟨rfl,y⟩:=y
 have e3:=y ws (SqL.of h3)
 rw [e1] at e3;cases e3
 exact⟨Same.refl _,e2⟩
def diDat(de:TDE):TDI:=fun ρ Q=>de ρ fun x ρ1=>fz ρ1 x fun y ρ2=>need (seqD y) fun xs=>Q xs ρ2
theorem ai_dat{t:TE}{de:TDE}(h:AdE K t de):AdI K (iDat K t) (diDat de):=fun c O ρ σ H Qd Q R q k =>
 h c O ρ σ H _ _ R q fun x ρ1 O1 v H1 h1 R1 P1 a1=>by
  obtain⟨y,ρ2,O2,hz3,R2,P2,a2⟩:=R1.fz a1 h1
  obtain⟨xs,e,h2⟩:=ne (hz3)
  cases y with
  | list ys =>
   cases e
   obtain⟨a,vs,rfl,hS,h3,h4⟩:=qa3o a2
   exact .inr ⟨a,rfl,⟨vs,SqL.of h3⟩,k _ _ _ _ _ h2 R2 (P1.trans P2) (qc0h hS h3 h4)⟩
  | tuple ys =>
   cases e
   obtain⟨a,vs,rfl,h3,h4⟩:=qa3e a2
   exact .inl ⟨a,rfl,⟨vs,h3⟩,k _ _ _ _ _ h2 R2 (P1.trans P2) (qc0g h3 h4)⟩
  | _=>cases e
noncomputable def rngD(lo:Int)(n:Nat):List PyData:=(List.range n).map fun i=>.int (lo + (i:Nat))
theorem qc0i{lo:Int}{n:Nat}:qa8h K S H (Itr lo n) (rngD lo n):=fun S' H' P=>by
 have hl:(rngD lo n).length=n:=by simp [rngD]
 refine⟨fun i x e=>?_,by rw [hl];exact Nat.le_refl _⟩
 have hi:i < n:=by rw [← hl];exact(List.getElem?_eq_some_iff.mp e).1
 have ex:x=.int (lo + (i:Nat)):=by
  simp only [rngD,List.getElem?_map,List.getElem?_range hi,Option.map_some] at e
  exact(Option.some.inj e).symm
 subst ex
 refine⟨hi,fun v H'' y=>?_⟩
 obtain⟨rfl,rfl⟩:=y
 exact⟨Same.refl _,qa2e _⟩
noncomputable def asI:PyData->Option Int
 | .int i=>some i
 | _=>none
theorem qb6g{d:PyData}{v:V}{i:Int}(h:AtT K H S d v)(e:asI d=some i):v=.int i:=by
 cases d with
 | int i'=>cases e;exact h.int
 | _=>cases e
def sm62(i:Int):Prop:=-(2 ^ 62) <= i/\i < 2 ^ 62
def qb6h(de:TDE):TDI:=fun ρ Q=>de ρ fun x ρ1=>need (qa0p ρ1 x) fun d=>need (asI d) fun j=>sm62 j/\Q (rngD 0 j.toNat) ρ1
theorem ai_rng1{t:TE}{de:TDE}(h:AdE K t de):AdI K (iRng1 (qa2z t tNil)) (qb6h de):=fun c O ρ σ H Qd Q R q k =>
 h c O ρ σ H _ _ R q fun x ρ1 O1 v H1 h1 R1 P1 a1=>by
  obtain⟨d,e1,hn2⟩:=ne (h1)
  obtain⟨j,e2,hn14⟩:=ne (hn2)
  obtain⟨hj,h2⟩:=hn14
  have ev:=qb6g (R1.top a1 e1) e2
  exact⟨j,by rw [ev],hj.1,hj.2,k _ _ _ _ _ h2 R1 P1 qc0i⟩
def qa4t(g:TDG)(b:TDS)(D:DEnds):List PyData->Rho->Prop
 | [],ρ=>D.nx ρ
 | x :: r,ρ=>g x ρ fun ρ1=>b { D with nx:=qa4t g b D r,ct:=qa4t g b D r,bk:=D.nx } ρ1
def dFor(di:TDI)(g:TDG)(b:TDS):TDS:=fun D ρ=>di ρ fun xs ρ1=>qa4t g b D xs ρ1
theorem ad_for{ti:TI}{tg:TG}{tb:TS}{di:TDI}{dg:TDG}{db:TDS}(hi:AdI K ti di)(hg:AdG K tg dg)(hb:AdS K tb db):AdS K (tFor ti tg tb) (dFor di dg db):=fun c O ρ σ H D Dd R E q =>
 hi c O ρ σ H _ _ R q fun xs ρ1 O1 J H1 h1 R1 P1 I1=>by
  refine⟨fun i m σ' H'=>m=xs.length - i/\i <= xs.length/\∃ O' ρ',Rel K c O' ρ' σ' H'/\Pers K (live c O1) H1 (live c O') H'/\qa4t dg db Dd (xs.drop i) ρ',⟨xs.length,by simp,Nat.zero_le _,O1,ρ1,R1,.refl,by rw [List.drop_zero];exact h1⟩,?_⟩
  rintro i m σ2 H2 ⟨rfl,hle,O2,ρ2,R2,P2,h2⟩
  obtain⟨it,stop⟩:=I1 _ _ P2
  by_cases hlt:i < xs.length
  ·rw [List.drop_eq_getElem_cons hlt] at h2
   obtain⟨go,yld⟩:=it i xs[i] (List.getElem?_eq_getElem hlt)
   have h2':dg xs[i] ρ2 fun ρ1=>db { Dd with nx:=qa4t dg db Dd (xs.drop (i + 1)),ct:=qa4t dg db Dd (xs.drop (i + 1)),bk:=Dd.nx } ρ1:=h2
   refine .inr ⟨go,fun σ' H'=>∃ O' ρ',Rel K c O' ρ' σ' H'/\Pers K (live c O1) H1 (live c O') H'/\qa4t dg db Dd (xs.drop (i + 1)) ρ',fun σ' H' hq8=>by obtain⟨O',ρ',R',P',q'⟩:=hq8;exact⟨xs.length - (i + 1),by omega,rfl,hlt,O',ρ',R',P',q'⟩,fun v H3 y=>?_⟩
   obtain⟨s3,a3⟩:=yld v H3 y
   refine hg c O2 ρ2 σ2 H3 xs[i] v _ _ (R2.grow s3) a3 h2' fun O4 ρ4 σ4 R4 P4 h4=>?_
   have P5:Pers K (live c O1) H1 (live c O4) H3:=(P2.trans (.same s3)).trans P4
   exact hb c O4 ρ4 σ4 H3 _ { Dd with nx:=qa4t dg db Dd (xs.drop (i + 1)),ct:=qa4t dg db Dd (xs.drop (i + 1)),bk:=Dd.nx } R4 ⟨fun O6 ρ6 σ6 H6 R6 P6 q6=>⟨O6,ρ6,R6,P5.trans P6,q6⟩,E.rt,fun O6 ρ6 σ6 H6 R6 P6=>E.nx _ _ _ _ R6 ((P1.trans P5).trans P6),fun O6 ρ6 σ6 H6 R6 P6 q6=>⟨O6,ρ6,R6,P5.trans P6,q6⟩,E.mb,E.oa⟩ h4
  ·have e:i=xs.length:=by omega
   subst e
   rw [List.drop_eq_nil_of_le (Nat.le_refl _)] at h2
   exact .inl ⟨stop,E.nx _ _ _ _ R2 (P1.trans P2) h2⟩
end
end L2
end
section
namespace L2
open PySem PySem.Spec PyProof.Rows
noncomputable def qa5z:L->L->Option L
 | .own _,.bor xs=>some (.own xs)
 | .bor _,.bor xs=>some (.bor xs)
 | .tape _,.tape k=>some (.tape k)
 | _,_=>none
noncomputable def lend:L->L
 | .own xs=>.bor xs
 | l=>l
noncomputable def isOw:L->Bool
 | .own _=>true
 | .bor _=>true
 | .tape _=>true
 | _=>false
abbrev Lent:=Nat->Option Nat
section
variable{K:PySem.W.Frag}{c:Rc}{O:Own}{ρ:Rho}{σ:St}{H H':Hp}{S S':Addr->Prop}
theorem Rel.ow{i:Nat}{l:L}(R:Rel K c O ρ σ H)(h:ρ[i]? = some (some l))(ho:isOw l=true):∃ p,O i=some p/\σ[i]? = some (some (.ref p)):=by
 cases l with
 | own xs=>obtain⟨p,vs,h1,_,h3,_⟩:=R.own i xs h;exact⟨p,h1,h3⟩
 | bor xs=>obtain⟨p,vs,h1,h3,_⟩:=R.bor i xs h;exact⟨p,h1,h3⟩
 | tape k=>obtain⟨p,h1,h3,_⟩:=R.tap i k h;exact⟨p,h1,h3⟩
 | _=>cases ho
noncomputable def Holds(K:PySem.W.Frag)(c:Rc)(S:Addr->Prop)(H:Hp)(p:Addr):L->Prop
 | .own xs=>∃ vs,H p=some (.lst vs)/\qa0b K H S xs vs
 | .bor xs=>∃ vs,H p=some (.lst vs)/\qa0b K H S xs vs
 | .tape k=>H p=some (.lst [.ref c.sa,.int k])
 | _=>False
theorem Rel.holds{i:Nat}{l:L}(R:Rel K c O ρ σ H)(h:ρ[i]? = some (some l))(ho:isOw l=true):∃ p,O i=some p/\σ[i]? = some (some (.ref p))/\Holds K c (live c O) H p l/\(∀ xs,l=.own xs->qa8w c p):=by
 cases l with
 | own xs=>obtain⟨p,vs,h1,h2,h3,h4,h5⟩:=R.own i xs h;exact⟨p,h1,h3,⟨vs,h4,h5⟩,fun _ _=>h2⟩
 | bor xs=>obtain⟨p,vs,h1,h3,h4,h5⟩:=R.bor i xs h;exact⟨p,h1,h3,⟨vs,h4,h5⟩,fun _ z=>nomatch z⟩
 | tape k=>obtain⟨p,h1,h3,h4⟩:=R.tap i k h;exact⟨p,h1,h3,h4,fun _ z=>nomatch z⟩
 | _=>cases ho
mutual
theorem AtD.inH(hs:∀ a,S a->H a ≠ none->S' a):∀ (d:PyData) (v:V),AtD K H S d v->AtD K H S' d v
 | .none,_,h=>by unfold AtD at h ⊢;exact h
 | .bool _,_,h=>by unfold AtD at h ⊢;exact h
 | .int _,_,h=>by unfold AtD at h ⊢;exact h
 | .str _,_,h=>by unfold AtD at h ⊢;exact h
 | .list ds,v,h=>by
  obtain⟨a,xs,e1,s,q,r⟩:=qa3o h
  subst e1
  exact qa1w (hs a s (by rw [q];exact fun z=>nomatch z)) q (qa0b.inH hs ds xs r)
 | .tuple ds,v,h=>by
  obtain⟨a,xs,e1,q,r⟩:=qa3e h
  subst e1
  exact qa3j q (qa0b.inH hs ds xs r)
 | .dict kvs,v,h=>by
  obtain⟨a,ν,e1,s,q,e2⟩:=qa7z h
  subst e1
  exact qb1j (hs a s (by rw [q];exact fun z=>nomatch z)) q (qa0o.inH hs kvs ν e2)
theorem qa0b.inH(hs:∀ a,S a->H a ≠ none->S' a):∀ (ds:List PyData) (vs:List V),qa0b K H S ds vs->qa0b K H S' ds vs
 | [],_,h=>by rw [h.unnil];exact .nil
 | d :: ds,vs,h=>by
  obtain⟨v,r,rfl,h1,h2⟩:=h.uncons
  exact .cons (AtD.inH hs d v h1) (qa0b.inH hs ds r h2)
theorem qa0o.inH(hs:∀ a,S a->H a ≠ none->S' a):∀ (kvs:List (PyData × PyData)) (κ:List (Key × V)),qa0o K H S kvs κ->qa0o K H S' kvs κ
 | [],_,h=>by rw [h.unnil];exact .nil
 | (x,d) :: r,κ,h=>by
  obtain⟨k,v,t,rfl,rfl,h1,h2⟩:=h.uncons
  exact .cons (AtD.inH hs d v h1) (qa0o.inH hs r t h2)
end
noncomputable def qa1a(O:Own)(ρ:Rho)(f:Lent):Own:=fun j=>(f j).bind fun i=>match ρ[i]?.join with
 | some l=>if isOw l then O i else none
 | none=>none
noncomputable def Rc.in(c:Rc)(O Oc:Own)(P:Addr->Prop)(b:Bool)(H:Hp):Rc:={ A:=fun p=>(∃ j,Oc j=some p) ∨ (b=true/\H p=none),H0:=H,S:=live c O,P:=P,M:=fun p=>∃ j,Oc j=some p,B:=fun p=>∃ j,Oc j=some p,lent:=Oc,sa:=c.sa,ns:=c.ns }
theorem qa2c{f:Lent}{j:Nat}{p:Addr}(h:qa1a O ρ f j=some p):∃ i l,f j=some i/\ρ[i]? = some (some l)/\isOw l=true/\O i=some p:=by
 unfold qa1a at h
 cases e:f j with
 | none=>rw [e] at h;cases h
 | some i =>
  rw [e] at h
  have h':(match ρ[i]?.join with | some l=>if isOw l then O i else none | none=>none)=some p:=h
  split at h'
  ·rename_i l el
   split at h'
   ·rename_i ho
    exact⟨i,l,rfl,qa1r el,ho,h'⟩
   ·cases h'
  ·cases h'
theorem qb2m{f:Lent}{j i:Nat}{l:L}(e:f j=some i)(h:ρ[i]? = some (some l))(ho:isOw l=true):qa1a O ρ f j=O i:=by
 unfold qa1a
 rw [e]
 show(match ρ[i]?.join with | some l=>if isOw l then O i else none | none=>none)=O i
 rw [h]
 show(if isOw l then O i else none)=O i
 rw [if_pos ho]
structure Begins(K:PySem.W.Frag)(c:Rc)(O:Own)(ρ:Rho)(σ:St)(H:Hp)(f:Lent)(ρi:Rho)(σi:St):Prop where
 io:∀ (j:Nat) (l:L),ρi[j]? = some (some l)->isOw l=true->∃ i l0,f j=some i/\ρ[i]? = some (some l0)/\isOw l0=true/\l=lend l0/\σi[j]? = σ[i]?
 dat:∀ (j:Nat) (x:PyData),ρi[j]? = some (some (.d x))->∃ v,σi[j]? = some (some v)/\AtD K H (live c O) x v
 scr:∀ j:Nat,ρi[j]? = some (some .scr)->σi[j]? = some (some (.ref c.sa))
 inj:∀ j k i,f j=some i->f k=some i->j=k
 len:σi.length=ρi.length
theorem Rel.begin{b:Bool}{f:Lent}{ρi:Rho}{σi:St}{P:Addr->Prop}{H':Hp}(R:Rel K c O ρ σ H)(B:Begins K c O ρ σ H f ρi σi)(hs:Same H H')(hP:∀ p,P p->H p=none/\H' p ≠ none) :
  Rel K (c.in O (qa1a O ρ f) P b H') (qa1a O ρ f) ρi σi H'/\Pers K (live c O) H (live (c.in O (qa1a O ρ f) P b H') (qa1a O ρ f)) H':=by
 have hl:∀ a,live c O a->H a ≠ none->live (c.in O (qa1a O ρ f) P b H') (qa1a O ρ f) a:=fun a h n=>⟨h,fun z=>n (hP a z).1,fun j e=>by
  obtain⟨i,l,_,_,_,e2⟩:=qa2c e
  exact h.2.2 i e2⟩
 have P1:Pers K (live c O) H (live (c.in O (qa1a O ρ f) P b H') (qa1a O ρ f)) H':=fun d v h =>
  AtD.mono hs.keep _ _ (AtD.inH hl d v h)
 refine⟨⟨fun j x e=>?_,fun j xs e=>?_,fun j xs e=>?_,fun j k e=>?_,fun j e=>B.scr j e,fun j k p e1 e2=>?_,fun j p e=>?_,fun p hp=>hp.elim .inl fun z=>.inr z.2,fun p hp=>?_,fun b o _ q=>q,fun b n=>n,fun p h=>?_,fun p h=>?_,fun j p e l h1 h2=>e,?_,B.len⟩,P1⟩
 ·obtain⟨v,h1,h2⟩:=B.dat j x e
  exact⟨v,h1,P1 _ _ h2⟩
 ·obtain⟨i,l0,_,h2,h3,h4,_⟩:=B.io j _ e rfl
  cases l0<;>cases h4
 ·obtain⟨i,l0,h1,h2,h3,h4,h5⟩:=B.io j _ e rfl
  obtain⟨p,e1,e2,e3,_⟩:=R.holds h2 h3
  have eO:qa1a O ρ f j=some p:=(qb2m h1 h2 h3).trans e1
  cases l0 with
  | own ys=>cases h4;obtain⟨vs,e4,e5⟩:=e3;exact⟨p,vs,eO,by rw [h5];exact e2,hs _ _ e4,P1.all e5⟩
  | bor ys=>cases h4;obtain⟨vs,e4,e5⟩:=e3;exact⟨p,vs,eO,by rw [h5];exact e2,hs _ _ e4,P1.all e5⟩
  | _=>cases h4
 ·obtain⟨i,l0,h1,h2,h3,h4,h5⟩:=B.io j _ e rfl
  obtain⟨p,e1,e2,e3,_⟩:=R.holds h2 h3
  have eO:qa1a O ρ f j=some p:=(qb2m h1 h2 h3).trans e1
  cases l0 with
  | tape k0=>cases h4;exact⟨p,eO,by rw [h5];exact e2,hs _ _ e3⟩
  | _=>cases h4
 ·obtain⟨i1,_,f1,_,_,o1⟩:=qa2c e1
  obtain⟨i2,_,f2,_,_,o2⟩:=qa2c e2
  have:=R.inj i1 i2 p o1 o2
  subst this
  exact B.inj j k i1 f1 f2
 ·obtain⟨i1,_,f1,_,_,o1⟩:=qa2c e
  obtain⟨_,vs,h⟩:=R.has i1 p o1
  exact⟨.inl ⟨j,e⟩,vs,hs _ _ h⟩
 ·have hp':H p=none:=hs.free hp
  exact R.liveNew hp'
 ·obtain⟨j,e⟩:=h
  obtain⟨i1,_,f1,_,_,o1⟩:=qa2c e
  obtain⟨_,vs,h⟩:=R.has i1 p o1
  exact⟨vs,hs _ _ h⟩
 ·rcases h with h | ⟨j,e⟩
  ·exact(hP p h).2
  ·obtain⟨i1,_,f1,_,_,o1⟩:=qa2c e
   obtain⟨_,vs,h⟩:=R.has i1 p o1
   rw [hs _ _ h];exact fun z=>nomatch z
 ·exact R.sc.keep (S:=Any) hs.keep
end
end L2
end
section
namespace L2
open PySem PySem.Spec PyProof.Rows
noncomputable def qa6a(ρi:Rho)(l0:L)(j:Nat):Option L:=(ρi[j]?.join).bind (qa5z l0)
noncomputable def qa4u(ρi:Rho)(j i:Nat)(ρ:Rho):Rho:=match ρ[i]?.join with
 | some l0=>if isOw l0 then ρ.set i (qa6a ρi l0 j) else ρ
 | none=>ρ
noncomputable def fills(ρi:Rho):List (Nat × Nat)->Rho->Rho
 | [],ρ=>ρ
 | (j,i) :: r,ρ=>fills ρi r (qa4u ρi j i ρ)
theorem qb6i{ρi ρ:Rho}{j i k:Nat}(h:k ≠ i):(qa4u ρi j i ρ)[k]? = ρ[k]?:=by
 unfold qa4u
 split
 ·split
  ·exact List.getElem?_set_ne (Ne.symm h)
  ·rfl
 ·rfl
theorem qc3x{ρi ρ:Rho}{j i:Nat}{l0:L}(h:ρ[i]? = some (some l0))(ho:isOw l0=true):(qa4u ρi j i ρ)[i]? = some (qa6a ρi l0 j):=by
 have hi:i < ρ.length:=(List.getElem?_eq_some_iff.mp h).1
 unfold qa4u
 rw [h]
 show(if isOw l0 then ρ.set i (qa6a ρi l0 j) else ρ)[i]? = _
 rw [if_pos ho,List.getElem?_set_self hi]
theorem qc3y{ρi ρ:Rho}{j i:Nat}(h:∀ l0,ρ[i]? = some (some l0)->isOw l0=false):qa4u ρi j i ρ=ρ:=by
 unfold qa4u
 split
 ·rename_i l0 e
  rw [h l0 (qa1r e)]
  rfl
 ·rfl
theorem qc2b{ρi ρ:Rho}{j i:Nat}:(qa4u ρi j i ρ).length=ρ.length:=by
 unfold qa4u
 split
 ·split
  ·rw [List.length_set]
  ·rfl
 ·rfl
theorem qb4y{ρi:Rho}:∀ {fl:List (Nat × Nat)} {ρ:Rho},(fills ρi fl ρ).length=ρ.length
 | [],_=>rfl
 | (j,i) :: r,ρ=>by unfold fills;rw [qb4y,qc2b]
theorem qa6t{ρi:Rho}:∀ {fl:List (Nat × Nat)} {ρ:Rho} {k:Nat},(∀ j,(j,k) ∈ fl->∀ l0,ρ[k]? = some (some l0)->isOw l0=false)->(fills ρi fl ρ)[k]? = ρ[k]?
 | [],_,_,_=>rfl
 | (j,i) :: r,ρ,k,h=>by
  unfold fills
  by_cases hk:k=i
  ·subst hk
   have e:=qc3y (ρi:=ρi) (j:=j) (h j List.mem_cons_self)
   rw [e]
   exact qa6t fun j' m=>h j' (List.mem_cons_of_mem _ m)
  ·have e:=qb6i (ρi:=ρi) (ρ:=ρ) (j:=j) hk
   rw [qa6t (ρ:=qa4u ρi j i ρ) (fun j' m l0 q=>h j' (List.mem_cons_of_mem _ m) l0 (by rw [← e];exact q)),e]
theorem qb6j{ρi:Rho}:∀ {fl:List (Nat × Nat)} {ρ:Rho} {j i:Nat} {l0:L},(fl.map (·.2)).Nodup->(j,i) ∈ fl->ρ[i]? = some (some l0)->isOw l0=true->(fills ρi fl ρ)[i]? = some (qa6a ρi l0 j)
 | (j',i') :: r,ρ,j,i,l0,nd,m,h,ho=>by
  rw [List.map_cons,List.nodup_cons] at nd
  unfold fills
  rcases List.mem_cons.mp m with e | m2
  ·cases e
   rw [qa6t fun j2 m2=>absurd (List.mem_map.mpr ⟨(j2,_),m2,rfl⟩) nd.1]
   exact qc3x h ho
  ·have ne:i ≠ i':=by
    rintro rfl
    exact nd.1 (List.mem_map.mpr ⟨(j,_),m2,rfl⟩)
   exact qb6j nd.2 m2 (by rw [qb6i ne];exact h) ho
section
variable{K:PySem.W.Frag}{c:Rc}{O:Own}{ρ:Rho}{σ:St}{H H':Hp}{S S':Addr->Prop}
theorem qb6k{l:L}(h:isIO l=true):isOw l=true:=by cases l<;>first | rfl | cases h
theorem Rel.finish{P':Addr->Prop}{fl:List (Nat × Nat)}{f:Lent}{ρi:Rho}{Oi:Own}{ci:Rc}{σi:St}(R:Rel K c O ρ σ H)(nd:(fl.map (·.2)).Nodup)(hf:∀ j i,(j,i) ∈ fl->f j=some i)(hf':∀ j i,f j=some i->(j,i) ∈ fl)
  (Ri:Rel K ci Oi ρi σi H') (hln:∀ j,ci.lent j=qa1a O ρ f j) (hsa:ci.sa=c.sa) (hns:ci.ns=c.ns)
  (fr:∀ b o,(∀ j,qa1a O ρ f j ≠ some b)->H b=some o->H' b=some o) (hk:∀ j p,qa1a O ρ f j=some p->∃ vs,H' p=some (.lst vs))
  (hP:Pers K (live ci Oi) H' (live { c with P:=P' } O) H') (hp:Pers K (live c O) H (live { c with P:=P' } O) H')
  (hP':∀ p,P' p->c.P p ∨ (H' p ≠ none/\∀ i,O i ≠ some p)):Rel K { c with P:=P' } O (fills ρi fl ρ) σ H':=by
 -- a slot is lent, or it is as it was
 have cases_:∀ i:Nat,(∃ j l0,(j,i) ∈ fl/\ρ[i]? = some (some l0)/\isOw l0=true/\(fills ρi fl ρ)[i]? = some (qa6a ρi l0 j)) ∨ ((fills ρi fl ρ)[i]? = ρ[i]? /\ ∀ p,O i=some p->(∃ l,ρ[i]? = some (some l)/\isOw l=true)->∀ j,qa1a O ρ f j ≠ some p):=fun i=>by
  by_cases h:∃ j l0,(j,i) ∈ fl/\ρ[i]? = some (some l0)/\isOw l0=true
  ·obtain⟨j,l0,h1,h2,h3⟩:=h
   exact .inl ⟨j,l0,h1,h2,h3,qb6j nd h1 h2 h3⟩
  ·refine .inr ⟨qa6t fun j m l0 q=>?_,fun p hO ⟨l,e1,e2⟩ j z=>?_⟩
   ·cases q2:isOw l0 with
    | false=>rfl
    | true=>exact absurd ⟨j,l0,m,q,q2⟩ h
   ·obtain⟨i2,l2,g1,g2,g3,g4⟩:=qa2c z
    have:=R.inj i2 i p g4 hO
    subst this
    exact h ⟨j,l2,hf' j _ g1,g2,g3⟩
 -- what a lent slot has now
 have lent_:∀ {i j:Nat} {l0 l:L},(j,i) ∈ fl->ρ[i]? = some (some l0)->isOw l0=true->qa6a ρi l0 j=some l->∃ p l',O i=some p/\σ[i]? = some (some (.ref p))/\isIO l'=true/\qa5z l0 l'=some l/\Holds K c (live { c with P:=P' } O) H' p l'/\(∀ xs,l0=.own xs->qa8w c p):=fun{i j l0 l} m h2 h3 e=>by
  obtain⟨p,e1,e2,e3,e4⟩:=R.holds h2 h3
  unfold qa6a at e
  cases el:ρi[j]?.join with
  | none=>rw [el] at e;cases e
  | some l' =>
   rw [el] at e
   have e':qa5z l0 l'=some l:=e
   have hio:isIO l'=true:=by cases l0<;>cases l'<;>first | rfl | cases e'
   have el':=qa1r el
   have elent:ci.lent j=some p:=(hln j).trans ((qb2m (hf j i m) h2 h3).trans e1)
   have eO:=Ri.lnt j p elent l' el' hio
   obtain⟨p',g1,_,g3,_⟩:=Ri.holds el' (qb6k hio)
   rw [eO] at g1;cases g1
   refine⟨p,l',e1,e2,hio,e',?_,e4⟩
   cases l' with
   | bor xs=>obtain⟨vs,q1,q2⟩:=g3;exact⟨vs,q1,hP.all q2⟩
   | tape k=>show H' p=_;rw [← hsa];exact g3
   | _=>cases hio
 have ok':∀ i p,O i=some p->qa8w c p->qa8w { c with P:=P' } p:=fun i p e h=>⟨h.1,h.2.1,fun z=>(hP' p z).elim h.2.2 fun w=>w.2 i e⟩
 have stay:∀ i p o,O i=some p->(∃ l,ρ[i]? = some (some l)/\isOw l=true)->(∀ p,O i=some p->(∃ l,ρ[i]? = some (some l)/\isOw l=true)->∀ j,qa1a O ρ f j ≠ some p)->H p=some o->H' p=some o:=fun i p o e l n q=>fr p o (n p e l) q
 refine⟨fun i x e=>?_,fun i xs e=>?_,fun i xs e=>?_,fun i k e=>?_,fun i e=>?_,R.inj,fun i p e=>⟨(R.has' i p e).1,?_⟩,R.am,R.frs,fun b o n q=>?_,fun b n=>?_,fun p h=>?_,fun p h=>?_,fun i p e l h1 h2=>?_,?_,?_⟩
 ·rcases cases_ i with⟨j,l0,m,h2,h3,h4⟩ | ⟨h1,_⟩
  ·rw [h4] at e
   obtain⟨p,l',_,_,hio,hl,_⟩:=lent_ m h2 h3 (Option.some.inj e)
   cases l'<;>first | (cases hio;done) | (cases l0<;>cases hl)
  ·rw [h1] at e
   obtain⟨v,e1,e2⟩:=R.dat i x e
   exact⟨v,e1,hp _ _ e2⟩
 ·rcases cases_ i with⟨j,l0,m,h2,h3,h4⟩ | ⟨h1,h2⟩
  ·rw [h4] at e
   obtain⟨p,l',g1,g2,hio,hl,g3,g4⟩:=lent_ m h2 h3 (Option.some.inj e)
   cases l' with
   | bor ys =>
    cases l0 with
    | own zs=>cases hl;obtain⟨vs,q1,q2⟩:=g3;exact⟨p,vs,g1,ok' i p g1 (g4 _ rfl),g2,q1,q2⟩
    | _=>cases hl
   | tape k=>cases l0<;>cases hl
   | _=>cases hio
  ·rw [h1] at e
   obtain⟨p,vs,g1,g2,g3,g4,g5⟩:=R.own i xs e
   exact⟨p,vs,g1,ok' i p g1 g2,g3,stay i p _ g1 ⟨_,e,rfl⟩ h2 g4,hp.all g5⟩
 ·rcases cases_ i with⟨j,l0,m,h2,h3,h4⟩ | ⟨h1,h2⟩
  ·rw [h4] at e
   obtain⟨p,l',g1,g2,hio,hl,g3,g4⟩:=lent_ m h2 h3 (Option.some.inj e)
   cases l' with
   | bor ys =>
    cases l0<;>cases hl<;>(obtain⟨vs,q1,q2⟩:=g3;exact⟨p,vs,g1,g2,q1,q2⟩)
   | tape k=>cases l0<;>cases hl
   | _=>cases hio
  ·rw [h1] at e
   obtain⟨p,vs,g1,g3,g4,g5⟩:=R.bor i xs e
   exact⟨p,vs,g1,g3,stay i p _ g1 ⟨_,e,rfl⟩ h2 g4,hp.all g5⟩
 ·rcases cases_ i with⟨j,l0,m,h2,h3,h4⟩ | ⟨h1,h2⟩
  ·rw [h4] at e
   obtain⟨p,l',g1,g2,hio,hl,g3,g4⟩:=lent_ m h2 h3 (Option.some.inj e)
   cases l' with
   | bor ys=>cases l0<;>cases hl
   | tape k2=>cases l0<;>cases hl<;>exact⟨p,g1,g2,g3⟩
   | _=>cases hio
  ·rw [h1] at e
   obtain⟨p,g1,g3,g4⟩:=R.tap i k e
   exact⟨p,g1,g3,stay i p _ g1 ⟨_,e,rfl⟩ h2 g4⟩
 ·rcases cases_ i with⟨j,l0,m,h2,h3,h4⟩ | ⟨h1,h2⟩
  ·rw [h4] at e
   obtain⟨p,l',g1,g2,hio,hl,g3,g4⟩:=lent_ m h2 h3 (Option.some.inj e)
   cases l'<;>first | (cases hio;done) | (cases l0<;>cases hl)
  ·rw [h1] at e;exact R.scr i e
 ·obtain⟨_,vs,q⟩:=R.has i p e
  by_cases hlt:∃ j,qa1a O ρ f j=some p
  ·obtain⟨j,hj⟩:=hlt;exact hk j p hj
  ·exact⟨vs,fr p _ (fun j z=>hlt ⟨j,z⟩) q⟩
 ·refine fr b o (fun j z=>?_) (R.same b o n q)
  obtain⟨i,l,_,_,_,hO⟩:=qa2c z
  rcases (R.has i b hO).1 with w | w
  ·exact n w
  ·rw [w] at q;cases q
 ·have n':=R.kept b n
  by_cases hlt:∃ j,qa1a O ρ f j=some b
  ·obtain⟨j,hj⟩:=hlt
   obtain⟨vs,q⟩:=hk j b hj
   rw [q];exact fun z=>nomatch z
  ·cases q:H b with
   | none=>exact absurd q n'
   | some o=>rw [fr b o (fun j z=>hlt ⟨j,z⟩) q];exact fun z=>nomatch z
 ·obtain⟨vs,q⟩:=R.ml p h
  by_cases hlt:∃ j,qa1a O ρ f j=some p
  ·obtain⟨j,hj⟩:=hlt;exact hk j p hj
  ·exact⟨vs,fr p _ (fun j z=>hlt ⟨j,z⟩) q⟩
 ·have fin:∀ q,(c.P q ∨ c.B q)->H' q ≠ none:=fun q hq=>by
   have n':=R.pin q hq
   by_cases hlt:∃ j,qa1a O ρ f j=some q
   ·obtain⟨j,hj⟩:=hlt
    obtain⟨vs,q⟩:=hk j q hj
    rw [q];exact fun z=>nomatch z
   ·cases q2:H q with
    | none=>exact absurd q2 n'
    | some o=>rw [fr q o (fun j z=>hlt ⟨j,z⟩) q2];exact fun z=>nomatch z
  rcases h with h | h
  ·rcases hP' p h with w | w
   ·exact fin p (.inl w)
   ·exact w.1
  ·exact fin p (.inr h)
 ·rcases cases_ i with⟨j,l0,m,h3,h4,h5⟩ | ⟨h3,h4⟩
  ·rw [h5] at h1
   obtain⟨p',l',g1,g2,hio,hl,g3,g4⟩:=lent_ m h3 h4 (Option.some.inj h1)
   cases l0 with
   | own zs=>cases l'<;>cases hl;cases h2
   | bor zs=>exact R.lnt i p e _ h3 rfl
   | tape k=>exact R.lnt i p e _ h3 rfl
   | _=>cases h4
  ·rw [h3] at h1;exact R.lnt i p e l h1 h2
 ·have:=Ri.sc
  rw [hsa,hns] at this
  exact this
 ·rw [qb4y];exact R.len
end
end L2
end
section
namespace L2
open PySem PySem.Spec PyProof.Rows
abbrev DSp:=List L->(RV->Rho->Prop)->Prop
noncomputable def mask:List L->Rho->Rho
 | [],_=>[]
 | l :: ls,ρ=>(if isIO l then ρ.head?.join else none) :: mask ls ρ.tail
noncomputable def qb3c(N:List Str)(ls:List L):Rho:=ls.map some ++ List.replicate (N.length - ls.length) none
def spD(K:PySem.W.Frag)(ds:DSp):Sp:=fun vs H Q _=>∃ (c:Rc) (O:Own) (ls:List L) (Qd:RV->Rho->Prop),c.H0=H/\(∀ p,¬ c.P p)/\(∀ p,c.M p->c.B p)/\(∀ p,c.H0 p=none->c.A p)/\(∀ i,c.lent i=O i)/\Rel K c O (ls.map some) (vs.map some) H/\ds ls Qd /\
 ∀ r O' ρ' σ' v H',Qd r (mask ls ρ')->RetOk K c O' ρ' σ' H' r v->Q v H'
section
variable{K:PySem.W.Frag}{c:Rc}{O:Own}{ρ:Rho}{σ:St}{H H':Hp}{S S':Addr->Prop}
theorem Rel.more{n:Nat}(R:Rel K c O ρ σ H):Rel K c O (ρ ++ List.replicate n none) (σ ++ List.replicate n none) H:=by
 have at_:∀ {i:Nat} {l:L},(ρ ++ List.replicate n none)[i]? = some (some l)->ρ[i]? = some (some l):=fun{i l} e=>by
  by_cases hi:i < ρ.length
  ·rwa [List.getElem?_append_left hi] at e
  ·rw [List.getElem?_append_right (by omega),List.getElem?_replicate] at e
   split at e<;>cases e
 have st:∀ {i:Nat} {v:V},σ[i]? = some (some v)->(σ ++ List.replicate n none)[i]? = some (some v):=fun{i v} e=>by
  rw [List.getElem?_append_left (List.getElem?_eq_some_iff.mp e).1];exact e
 refine⟨fun i x e=>?_,fun i xs e=>?_,fun i xs e=>?_,fun i k e=>?_,fun i e=>st (R.scr i (at_ e)),R.inj,R.has',R.am,R.frs,R.same,R.kept,R.ml,R.pin,fun i p e l h1 h2=>R.lnt i p e l (at_ h1) h2,R.sc,?_⟩
 ·obtain⟨v,h1,h2⟩:=R.dat i x (at_ e);exact⟨v,st h1,h2⟩
 ·obtain⟨p,vs,h1,h2,h3,h4⟩:=R.own i xs (at_ e);exact⟨p,vs,h1,h2,st h3,h4⟩
 ·obtain⟨p,vs,h1,h3,h4⟩:=R.bor i xs (at_ e);exact⟨p,vs,h1,st h3,h4⟩
 ·obtain⟨p,h1,h3,h4⟩:=R.tap i k (at_ e);exact⟨p,h1,st h3,h4⟩
 ·rw [List.length_append,List.length_append,R.len,List.length_replicate,List.length_replicate]
end
section
variable{P:Program}{w:World}{K:PySem.W.Frag}{mg:Str->Option Value}{base:Heap}
theorem Fun.dok{x qual:Str}{st:Stmt}{f:Addr}{fd:FuncData}{N ps:List Str}{k:Nat}{ds:DSp}(F:Fun K x qual st f fd)(S:FnScope N ps (qa0i st))
  (hbody:∀ (cdv:Value) (A:Around) (outer:List Env) (s:Shared) (H:Hp) (E:XK),Room k (A.deeper (envOfC qual (qa0i st) s.heap.objs.size f cdv)) ->
   ∀ (ls:List L) (Qd:RV->Rho->Prop),ds ls Qd->ls.length=ps.length/\∃ dt,DSs (cxOf CX0 P w K mg base N qual (qa0i st) f cdv A outer s H E).nox (qa3c st) dt/\dt { nx:=fun ρ=>Qd (.d .none) (mask ls ρ),rt:=fun r ρ=>Qd r (mask ls ρ) } (qb3c N ls)) (len:∀ ls Qd,ds ls Qd->ls.length=ps.length):FnOk P w K mg base CX0 (k + 1) f fd ps (spD K ds):=by
 refine F.ok S (fun vs H Q E h=>?_) (fun cdv A outer s H vs Q E hr h=>?_)
 ·obtain⟨c,O,ls,Qd,_,_,_,_,_,R,h1,_⟩:=h
  have:=R.len
  rw [List.length_map,List.length_map] at this
  rw [this];exact len ls Qd h1
 ·obtain⟨c,O,ls,Qd,h0,hP,hM,hA,hL,R,h1,fin⟩:=h
  obtain⟨hl,dt,⟨t,p,a⟩,q⟩:=hbody cdv A outer s H E hr ls Qd h1
  have hlv:vs.length=ls.length:=by have:=R.len;rwa [List.length_map,List.length_map] at this
  refine⟨t,p,a c O (qb3c N ls) (start N vs) H _ { nx:=fun ρ=>Qd (.d .none) (mask ls ρ),rt:=fun r ρ=>Qd r (mask ls ρ) } ?_ ⟨fun O1 ρ1 σ1 H1 R1 _ q1=>?_,fun r O1 ρ1 σ1 H1 v h q1=>?_,fun _ _ _ _ _ _ z=>(show False from z).elim,fun _ _ _ _ _ _ z=>(show False from z).elim,hM,hA⟩ q⟩
  ·unfold qb3c start
   rw [hlv]
   exact R.more
  ·exact fin (.d .none) O1 ρ1 σ1 .non H1 q1 ⟨R1,qb0g⟩
  ·exact fin r O1 ρ1 σ1 v H1 q1 h
end
def fzL(ρ:Rho)(x:DV)(Q:L->Rho->Prop):Prop:=match x with
 | .d y=>Q (.d y) ρ
 | .sl i=>match ρ[i]?.join with
  | some (.d y)=>Q (.d y) ρ
  | some (.own xs)=>Q (.d (.list xs)) (ρ.set i (some (.d (.list xs))))
  | some .scr=>Q .scr ρ
  | _=>False
noncomputable def ioAt(ρ:Rho)(i:Nat):Option L:=match ρ[i]?.join with
 | some l=>if isOw l then some (lend l) else none
 | none=>none
noncomputable def pass:List Bool->List DV->Rho->(List L->Rho->Prop)->Prop
 | [],[],ρ,Q=>Q [] ρ
 | false :: fs,x :: xs,ρ,Q=>fzL ρ x fun l ρ1=>pass fs xs ρ1 fun ls ρ2=>Q (l :: ls) ρ2
 | true :: fs,.sl i :: xs,ρ,Q=>pass fs xs ρ fun ls ρ2=>need (ioAt ρ2 i) fun l=>Q (l :: ls) ρ2
 | _,_,_,_=>False
noncomputable def qa1s:List Bool->List DV->Lent
 | true :: _,.sl i :: _,0=>some i
 | _ :: fs,_ :: xs,j + 1=>qa1s fs xs j
 | _,_,_=>none
noncomputable def flOf:Nat->List Bool->List DV->List (Nat × Nat)
 | j,true :: fs,.sl i :: xs=>(j,i) :: flOf (j + 1) fs xs
 | j,true :: fs,.d _ :: xs=>flOf (j + 1) fs xs
 | j,false :: fs,_ :: xs=>flOf (j + 1) fs xs
 | _,_,_=>[]
theorem qb0m{fs:List Bool}:∀ {xs:List DV} {j0 j i:Nat},(j,i) ∈ flOf j0 fs xs ↔ ∃ k,j=j0 + k/\qa1s fs xs k=some i:=by
 induction fs with
 | nil =>
  intro xs j0 j i
  have e1:flOf j0 [] xs=[]:=by cases xs<;>rfl
  have e2:∀ k,qa1s [] xs k=none:=fun k=>by cases xs<;>cases k<;>rfl
  rw [e1]
  exact⟨fun h=>absurd h (List.not_mem_nil),fun hq8=>by obtain⟨k,_,h⟩:=hq8;rw [e2] at h;cases h⟩
 | cons f fs ih =>
  intro xs j0 j i
  cases xs with
  | nil =>
   have e1:flOf j0 (f :: fs) []=[]:=by cases f<;>rfl
   have e2:∀ k,qa1s (f :: fs) [] k=none:=fun k=>by cases f<;>cases k<;>rfl
   rw [e1]
   exact⟨fun h=>absurd h (List.not_mem_nil),fun hq8=>by obtain⟨k,_,h⟩:=hq8;rw [e2] at h;cases h⟩
  | cons x xs =>
   have step:(∃ k,j=j0 + 1 + k/\qa1s fs xs k=some i)->∃ k,j=j0 + k/\qa1s (f :: fs) (x :: xs) k=some i:=fun hq8=>by obtain⟨k,e1,e2⟩:=hq8;exact⟨k + 1,by omega,by cases f<;>cases x<;>exact e2⟩
   have back:∀ k,j=j0 + (k + 1)->qa1s (f :: fs) (x :: xs) (k + 1)=some i->∃ k,j=j0 + 1 + k/\qa1s fs xs k=some i:=fun k e1 e2=>⟨k,by omega,by cases f<;>cases x<;>exact e2⟩
   cases f with
   | false =>
    have e:flOf j0 (false :: fs) (x :: xs)=flOf (j0 + 1) fs xs:=by cases x<;>rfl
    rw [e,ih]
    refine⟨step,fun hq8=>?_⟩
    obtain⟨k,e1,e2⟩:=hq8
    cases k with
    | zero=>cases x<;>cases e2
    | succ k=>exact back k e1 e2
   | true =>
    cases x with
    | d y =>
     show(j,i) ∈ flOf (j0 + 1) fs xs ↔ _
     rw [ih]
     refine⟨step,fun hq8=>?_⟩
     obtain⟨k,e1,e2⟩:=hq8
     cases k with
     | zero=>cases e2
     | succ k=>exact back k e1 e2
    | sl i0 =>
     show(j,i) ∈ (j0,i0) :: flOf (j0 + 1) fs xs ↔ _
     rw [List.mem_cons,ih]
     constructor
     ·rintro(e | h)
      ·cases e;exact⟨0,rfl,rfl⟩
      ·exact step h
     ·rintro⟨k,e1,e2⟩
      cases k with
      | zero =>
       have e3:some i0=some i:=e2
       cases e3
       exact .inl (by rw [e1];rfl)
      | succ k=>exact .inr (back k e1 e2)
inductive Args (K:PySem.W.Frag) (S:Addr->Prop) (sa:Addr) (ρ:Rho) (σ:St) (H:Hp):List Bool->List DV->List L->List V->Prop where
 | nil:Args K S sa ρ σ H [] [] [] []
 | dat {fs xs ls vs x y v}:AtD K H S y v->Args K S sa ρ σ H fs xs ls vs->Args K S sa ρ σ H (false :: fs) (x :: xs) (.d y :: ls) (v :: vs)
 | scr {fs xs ls vs x}:Args K S sa ρ σ H fs xs ls vs->Args K S sa ρ σ H (false :: fs) (x :: xs) (.scr :: ls) (.ref sa :: vs)
 | io {fs xs ls vs v} {i:Nat} {l0:L}:ρ[i]? = some (some l0)->isOw l0=true->σ[i]? = some (some v)->Args K S sa ρ σ H fs xs ls vs->Args K S sa ρ σ H (true :: fs) (.sl i :: xs) (lend l0 :: ls) (v :: vs)
section
variable{K:PySem.W.Frag}{c:Rc}{O:Own}{ρ:Rho}{σ:St}{H H':Hp}{S S':Addr->Prop}
theorem Rel.fzL{x:DV}{v:V}{Q:L->Rho->Prop}(R:Rel K c O ρ σ H)(a:AtV K (live c O) σ H x v)(h:fzL ρ x Q):∃ l ρ' O',Q l ρ'/\Rel K c O' ρ' σ H/\Pers K (live c O) H (live c O') H/\((∃ y,l=.d y/\AtD K H (live c O') y v) ∨ (l=.scr/\v=.ref c.sa)):=by
 cases x with
 | d y=>exact⟨.d y,ρ,O,h,R,.refl,.inl ⟨y,rfl,a⟩⟩
 | sl i =>
  have a':σ[i]? = some (some v):=a
  simp only [L2.fzL] at h
  split at h
  ·rename_i y e
   obtain⟨w,h1,h2⟩:=R.dat i y (qa1r e)
   rw [a'] at h1;cases h1
   exact⟨.d y,ρ,O,h,R,.refl,.inl ⟨y,rfl,h2⟩⟩
  ·rename_i xs e
   have e':=qa1r e
   obtain⟨R',P⟩:=R.freeze e'
   have hi:i < ρ.length:=(List.getElem?_eq_some_iff.mp e').1
   obtain⟨w,h1,h2⟩:=R'.dat i (.list xs) (by rw [List.getElem?_set_self hi])
   rw [a'] at h1;cases h1
   exact⟨_,_,_,h,R',P,.inl ⟨_,rfl,h2⟩⟩
  ·rename_i e
   have:=R.scr i (qa1r e)
   rw [a'] at this;cases this
   exact⟨_,ρ,O,h,R,.refl,.inr ⟨rfl,rfl⟩⟩
  ·exact h.elim
theorem pass_ok{fs:List Bool}:∀ {xs:List DV} {vs:List V} {ρ:Rho} {O:Own} {Q:List L->Rho->Prop},Rel K c O ρ σ H->AtVs K (live c O) σ H xs vs->pass fs xs ρ Q ->
  ∃ ls ρ' O',Q ls ρ'/\Rel K c O' ρ' σ H/\Pers K (live c O) H (live c O') H/\Args K (live c O') c.sa ρ' σ H fs xs ls vs:=by
 induction fs with
 | nil =>
  intro xs vs ρ O Q R a h
  cases xs with
  | nil=>cases a;exact⟨[],ρ,O,h,R,.refl,.nil⟩
  | cons _ _=>exact(show False from h).elim
 | cons f fs ih =>
  intro xs vs ρ O Q R a h
  cases xs with
  | nil=>cases f<;>exact(show False from h).elim
  | cons x xs =>
   cases a with
   | @cons _ _ v vs a as =>
   cases f with
   | false =>
    have h':L2.fzL ρ x fun l ρ1=>pass fs xs ρ1 fun ls ρ2=>Q (l :: ls) ρ2:=h
    obtain⟨l,ρ1,O1,h1,R1,P1,a1⟩:=R.fzL a h'
    obtain⟨ls,ρ2,O2,h2,R2,P2,a2⟩:=ih R1 (AtVs.pers as P1) h1
    refine⟨l :: ls,ρ2,O2,h2,R2,P1.trans P2,?_⟩
    rcases a1 with⟨y,rfl,a1⟩ | ⟨rfl,rfl⟩
    ·exact .dat (P2 _ _ a1) a2
    ·exact .scr a2
   | true =>
    cases x with
    | d y=>exact(show False from h).elim
    | sl i =>
     have h':pass fs xs ρ fun ls ρ2=>need (ioAt ρ2 i) fun l=>Q (l :: ls) ρ2:=h
     obtain⟨ls,ρ2,O2,hz1,R2,P2,a2⟩:=ih R as h'
     obtain⟨l,e,h2⟩:=ne (hz1)
     refine⟨l :: ls,ρ2,O2,h2,R2,P2,?_⟩
     unfold ioAt at e
     split at e
     ·rename_i l0 el
      split at e
      ·rename_i ho
       cases e
       exact .io (qa1r el) ho a a2
      ·cases e
     ·cases e
theorem Args.begins{fs:List Bool}{xs:List DV}{ls:List L}{vs:List V}(a:Args K (live c O) c.sa ρ σ H fs xs ls vs)(inj:∀ j k i,qa1s fs xs j=some i->qa1s fs xs k=some i->j=k) :
  Begins K c O ρ σ H (qa1s fs xs) (ls.map some) (vs.map some):=by
 refine⟨?_,?_,?_,inj,?_⟩
 ·clear inj
  induction a with
  | nil=>intro j l e;simp at e
  | dat h _ ih =>
   intro j l e ho
   cases j with
   | zero=>cases e;cases ho
   | succ j=>obtain⟨i,l0,h1,h2⟩:=ih j l (by simpa using e) ho;exact⟨i,l0,h1,by simpa using h2⟩
  | scr _ ih =>
   intro j l e ho
   cases j with
   | zero=>cases e;cases ho
   | succ j=>obtain⟨i,l0,h1,h2⟩:=ih j l (by simpa using e) ho;exact⟨i,l0,h1,by simpa using h2⟩
  | @io fs xs ls vs v i l0 h1 h2 h3 _ ih =>
   intro j l e ho
   cases j with
   | zero=>cases e;exact⟨i,l0,rfl,h1,h2,rfl,by simpa using h3.symm⟩
   | succ j=>obtain⟨i,l0,h1,h2⟩:=ih j l (by simpa using e) ho;exact⟨i,l0,h1,by simpa using h2⟩
 ·clear inj
  induction a with
  | nil=>intro j x e;simp at e
  | dat h _ ih =>
   intro j x e
   cases j with
   | zero=>cases e;exact⟨_,rfl,h⟩
   | succ j=>obtain⟨v,h1,h2⟩:=ih j x (by simpa using e);exact⟨v,by simpa using h1,h2⟩
  | scr _ ih =>
   intro j x e
   cases j with
   | zero=>cases e
   | succ j=>obtain⟨v,h1,h2⟩:=ih j x (by simpa using e);exact⟨v,by simpa using h1,h2⟩
  | @io fs xs ls vs v i l0 h1 h2 h3 _ ih =>
   intro j x e
   cases j with
   | zero=>cases l0<;>first | (cases h2;done) | cases e
   | succ j=>obtain⟨v,h1,h2⟩:=ih j x (by simpa using e);exact⟨v,by simpa using h1,h2⟩
 ·clear inj
  induction a with
  | nil=>intro j e;simp at e
  | dat h _ ih =>
   intro j e
   cases j with
   | zero=>cases e
   | succ j=>have:=ih j (by simpa using e);simpa using this
  | scr _ ih =>
   intro j e
   cases j with
   | zero=>rfl
   | succ j=>have:=ih j (by simpa using e);simpa using this
  | @io fs xs ls vs v i l0 h1 h2 h3 _ ih =>
   intro j e
   cases j with
   | zero=>cases l0<;>first | (cases h2;done) | cases e
   | succ j=>have:=ih j (by simpa using e);simpa using this
 ·clear inj
  rw [List.length_map,List.length_map]
  induction a with
  | nil=>rfl
  | dat _ _ ih=>simp [ih]
  | scr _ ih=>simp [ih]
  | io _ _ _ _ ih=>simp [ih]
theorem Args.mask{fs:List Bool}{xs:List DV}{ls:List L}{vs:List V}(a:Args K (live c O) c.sa ρ σ H fs xs ls vs):∀ (ρ':Rho) {j i:Nat},qa1s fs xs j=some i->(L2.mask ls ρ')[j]?.join=ρ'[j]?.join:=by
 have hd:∀ ρ':Rho,ρ'.head?.join=ρ'[0]?.join:=fun ρ'=>by cases ρ'<;>rfl
 have tl:∀ (ρ':Rho) (j:Nat),ρ'.tail[j]? = ρ'[j + 1]?:=fun ρ' j=>by cases ρ'<;>simp
 induction a with
 | nil=>intro ρ' j i e;cases e
 | dat h _ ih =>
  intro ρ' j i e
  cases j with
  | zero=>cases e
  | succ j =>
   have:=ih ρ'.tail (j:=j) (i:=i) e
   rw [tl] at this
   rw [← this];simp [L2.mask]
 | scr _ ih =>
  intro ρ' j i e
  cases j with
  | zero=>cases e
  | succ j =>
   have:=ih ρ'.tail (j:=j) (i:=i) e
   rw [tl] at this
   rw [← this];simp [L2.mask]
 | @io fs xs ls vs v i0 l0 h1 h2 h3 _ ih =>
  intro ρ' j i e
  cases j with
  | zero =>
   have hio:isIO (lend l0)=true:=by cases l0<;>first | rfl | cases h2
   simp only [L2.mask,hio,if_true,List.getElem?_cons_zero]
   show ρ'.head?.join=_
   exact hd ρ'
  | succ j =>
   have:=ih ρ'.tail (j:=j) (i:=i) e
   rw [tl] at this
   rw [← this];simp [L2.mask]
end
theorem qb2c{ρi ρj:Rho}:∀ {fl:List (Nat × Nat)} {ρ:Rho},(∀ j i,(j,i) ∈ fl->ρi[j]?.join=ρj[j]?.join)->fills ρi fl ρ=fills ρj fl ρ
 | [],_,_=>rfl
 | (j,i) :: r,ρ,h=>by
  have e:qa4u ρi j i ρ=qa4u ρj j i ρ:=by
   unfold qa4u qa6a
   rw [h j i List.mem_cons_self]
  unfold fills
  rw [e]
  exact qb2c fun j' i' m=>h j' i' (List.mem_cons_of_mem _ m)
def dCall(fs:List Bool)(sp:DSp)(da:TDA)(ρ:Rho)(Q:RV->Rho->Prop):Prop:=da ρ fun xs ρ1=>pass fs xs ρ1 fun ls ρ2=>((flOf 0 fs xs).map (·.2)).Nodup/\sp ls fun r outs=>Q r (fills outs (flOf 0 fs xs) ρ2)
def qb3d(fs:List Bool)(sp:DSp)(da:TDA):TDE:=fun ρ Q=>dCall fs sp da ρ fun r ρ1=>match r with
 | .d x=>Q (.d x) ρ1
 | .new xs=>Q (.d (.list xs)) ρ1
def dCallF(fs:List Bool)(sp:DSp)(da:TDA):TDF:=fun ρ Q=>dCall fs sp da ρ fun r ρ1=>match r with
 | .d _=>False
 | .new xs=>Q xs ρ1
section
variable{K:PySem.W.Frag}{c:Rc}{O:Own}{ρ:Rho}{σ:St}{H H':Hp}{S S':Addr->Prop}
theorem qc2c{fs:List Bool}{xs:List DV}(nd:((flOf 0 fs xs).map (·.2)).Nodup):∀ j k i,qa1s fs xs j=some i->qa1s fs xs k=some i->j=k:=fun j k i e1 e2=>by
 have m1:(j,i) ∈ flOf 0 fs xs:=qb0m.mpr ⟨j,by omega,e1⟩
 have m2:(k,i) ∈ flOf 0 fs xs:=qb0m.mpr ⟨k,by omega,e2⟩
 exact congrArg Prod.fst (key _ nd m1 m2 rfl)
where
 key:∀ (l:List (Nat × Nat)) {a b:Nat × Nat},(l.map (·.2)).Nodup->a ∈ l->b ∈ l->a.2=b.2->a=b:=fun l=>by
  induction l with
  | nil=>intro a b _ h;cases h
  | cons x l ih =>
   intro a b nd ha hb e
   rw [List.map_cons,List.nodup_cons] at nd
   rcases List.mem_cons.mp ha with ea | ha2<;>rcases List.mem_cons.mp hb with eb | hb2
   ·rw [ea,eb]
   ·exact absurd (List.mem_map.mpr ⟨b,hb2,by rw [← e,ea]⟩) nd.1
   ·exact absurd (List.mem_map.mpr ⟨a,ha2,by rw [e,eb]⟩) nd.1
   ·exact ih nd.2 ha2 hb2 e
theorem qb3e{fs:List Bool}{sp:DSp}{ta:TA}{da:TDA}(ha:∀ (Qa:List DV->Rho->Prop) (Qv:List V->Hp->Prop),da ρ Qa->(∀ xs ρ1 O1 vs H1,Qa xs ρ1->Rel K c O1 ρ1 σ H1->Pers K (live c O) H (live c O1) H1->AtVs K (live c O1) σ H1 xs vs->Qv vs H1)->ta σ H Qv)
  {Qd:RV->Rho->Prop} {Q:VK} (h:dCall fs sp da ρ Qd)
  (k:∀ r ρ' O' v H',Qd r ρ'->RetOk K c O' ρ' σ H' r v->Pers K (live c O) H (match r with | .d _=>live c O' | .new _=>fun a=>live c O' a/\v ≠ .ref a) H'->Q v H'):tCall (spD K sp) [] E0 ta σ H Q:=by
 refine ha _ _ h fun xs ρ1 O1 vs H1 h1 R1 P1 a1=>?_
 obtain⟨ls,ρ2,O2,⟨nd,h2⟩,R2,P2,as⟩:=pass_ok R1 a1 h1
 have inj:=qc2c nd
 obtain⟨Ri,Pi⟩:=R2.begin (b:=true) (P:=fun _=>False) (H':=H1) (as.begins inj) (Same.refl _) (fun p z=>z.elim)
 rw [List.append_nil]
 have hf:∀ j i,(j,i) ∈ flOf 0 fs xs->qa1s fs xs j=some i:=fun j i m=>by
  obtain⟨k,e1,e2⟩:=qb0m.mp m
  have:j=k:=by omega
  subst this;exact e2
 have hf':∀ j i,qa1s fs xs j=some i->(j,i) ∈ flOf 0 fs xs:=fun j i e=>qb0m.mpr ⟨j,by omega,e⟩
 refine⟨c.in O2 (qa1a O2 ρ2 (qa1s fs xs)) (fun _=>False) true H1,qa1a O2 ρ2 (qa1s fs xs),ls,_,rfl,fun p z=>z,fun p z=>z,fun p z=>.inr ⟨rfl,z⟩,fun i=>rfl,Ri,h2,fun r O' ρ' σ' v H' q ok=>?_⟩
 have ef:fills (mask ls ρ') (flOf 0 fs xs) ρ2=fills ρ' (flOf 0 fs xs) ρ2:=qb2c fun j i m=>as.mask ρ' (hf j i m)
 rw [ef] at q
 have P12:=P1.trans P2
 have lentM:∀ {b:Addr},(∃ j,qa1a O2 ρ2 (qa1s fs xs) j=some b)->∃ vs,H1 b=some (.lst vs):=fun hq8=>by
  obtain⟨j,e⟩:=hq8
  obtain⟨i,_,_,_,_,hO⟩:=qa2c e
  exact(R2.has i _ hO).2
 have hsame:∀ {ci:Rc},Rel K ci O' ρ' σ' H'->ci.H0=H1->(∀ p,ci.M p->∃ j,qa1a O2 ρ2 (qa1s fs xs) j=some p)->(∀ b o,(∀ j,qa1a O2 ρ2 (qa1s fs xs) j ≠ some b)->H1 b=some o->H' b=some o):=fun{ci} Rf h0 hM b o n q=>by
  refine Rf.same b o (fun z=>?_) (by rw [h0];exact q)
  obtain⟨j,e⟩:=hM b z
  exact n j e
 have keep:(∀ b o,(∀ j,qa1a O2 ρ2 (qa1s fs xs) j ≠ some b)->H1 b=some o->H' b=some o)->Keep (live c O2) H1 H':=fun fr =>
  ⟨fun b ws e=>fr b _ (fun j z=>by obtain⟨vs,w⟩:=lentM ⟨j,z⟩;rw [e] at w;cases w) e,fun b o u e=>fr b _ (fun j z=>by obtain⟨vs,w⟩:=lentM ⟨j,z⟩;rw [e] at w;cases w) e,
   fun b ws hl e=>fr b _ (fun j z=>by obtain⟨i,_,_,_,_,hO⟩:=qa2c z;exact hl.2.2 i hO) e⟩
 cases r with
 | d x =>
  obtain⟨Rf,ax⟩:=ok
  have fr:=hsame Rf rfl (fun p z=>z)
  have hl:∀ a,live (c.in O2 (qa1a O2 ρ2 (qa1s fs xs)) (fun _=>False) true H1) O' a->live c O2 a:=fun a z=>z.1
  have hp:Pers K (live c O2) H1 (live c O2) H':=.of (keep fr) fun _ z=>z
  have hP:Pers K (live (c.in O2 (qa1a O2 ρ2 (qa1s fs xs)) (fun _=>False) true H1) O') H' (live c O2) H':=.of (Keep.refl _ _) hl
  have Rn:=R2.finish (P':=c.P) nd hf hf' Rf (fun _=>rfl) rfl rfl fr (fun j p e=>Rf.ml p ⟨j,e⟩) hP hp (fun p z=>.inl z)
  exact k (.d x) _ O2 v H' q ⟨Rn,hP _ _ ax⟩ (P12.trans hp)
 | new ys =>
  obtain⟨p,ws,rfl,Rf,ff,hH,ax⟩:=ok
  have fr:=hsame Rf rfl (fun p z=>z)
  have h1p:H1 p=none:=ff.1
  have hl:∀ a,live ((c.in O2 (qa1a O2 ρ2 (qa1s fs xs)) (fun _=>False) true H1).add p) O' a->live (c.add p) O2 a:=fun a z=>by
   have z1:live c O2 a:=z.1
   exact qb0j z1 fun e=>z.2.1 (.inr e)
  have hp:Pers K (live c O2) H1 (live (c.add p) O2) H':=fun d u h=>by
   refine AtD.mono (S:=live (c.add p) O2) ((keep fr).less fun b z=>(qa5w z).1) _ _ (AtD.less h1p (fun a z n=>qb0j z n) _ _ h)
  have hP:Pers K (live ((c.in O2 (qa1a O2 ρ2 (qa1s fs xs)) (fun _=>False) true H1).add p) O') H' (live (c.add p) O2) H':=.of (Keep.refl _ _) hl
  have fp:=qb2l R2 h1p
  have Rn:Rel K (c.add p) O2 (fills ρ' (flOf 0 fs xs) ρ2) σ H':=R2.finish (P':=fun a=>c.P a ∨ a=p) nd hf hf' Rf (fun _=>rfl) rfl rfl fr (fun j q e=>Rf.ml q ⟨j,e⟩) hP hp (fun q z=>z.elim .inl fun e=>.inr (by subst e;exact⟨by rw [hH];exact(fun z=>nomatch z),fp.2.2.2⟩))
  refine k (.new ys) _ O2 _ H' q ⟨p,ws,rfl,Rn,fp,hH,hP.all ax⟩ ((P12.trans hp).trans (.of (Keep.refl _ _) fun a z=>⟨(qa5w z).1,fun e=>(qa5w z).2 (by cases e;rfl)⟩))
theorem qc2d{fs:List Bool}{sp:DSp}{ta:TA}{da:TDA}(ha:AdA K ta da)(R:Rel K c O ρ σ H){Qd:RV->Rho->Prop}{Q:VK}(h:dCall fs sp da ρ Qd)
  (k:∀ r ρ' O' v H',Qd r ρ'->RetOk K c O' ρ' σ H' r v->Pers K (live c O) H (match r with | .d _=>live c O' | .new _=>fun a=>live c O' a/\v ≠ .ref a) H'->Q v H'):tCall (spD K sp) [] E0 ta σ H Q:=
 qb3e (fun Qa Qv q k'=>ha c O ρ σ H Qa Qv R q k') h k
theorem qc3z{fs:List Bool}{sp:DSp}{ta:TA}{da:TDA}(ha:AdA K ta da):AdE K (tCall (spD K sp) [] E0 ta) (qb3d fs sp da):=fun c O ρ σ H Qd Q R h k =>
 qc2d ha R h fun r ρ' O' v H' q ok P=>by
  cases r with
  | d x=>exact k _ _ _ _ _ q ok.1 P ok.2
  | new xs =>
   obtain⟨p,ws,rfl,Rn,fp,hH,ax⟩:=ok
   obtain⟨R2,P2⟩:=Rn.unadd
   exact k _ _ _ _ _ q R2 (P.trans (.of (Keep.refl _ _) fun a z=>z.1)) (qa1w ⟨Rn.frs p fp.1,fp.2.2.1,fp.2.2.2⟩ hH (P2.all ax))
end
section
variable{X:Cx}{k:Nat}{f:Addr}{fd:FuncData}{ps:List Str}{sp:DSp}{x:Str}{st:Stmt}{p pos:Pos}{e:Expr}{es:List Expr}{da:TDA}
theorem qa0l(fs:List Bool)(d:Def X.K X.mg x st ps f fd)(g:FnOk X.prog X.w X.K X.mg X.base CX0 k f fd ps (spD X.K sp))(hr:Room k X.A)(hg:Gl X x)(ha:DA X (e :: es) da) (hdb:(x == ("__debug__" : Str))=false:=by decide)
  (he:starEach (e :: es) X.env=(false,eval e X.env) :: starEach es X.env:=by rfl) (hpl:(backTo pos (starEach es X.env)).any (·.1)=false:=by rfl):DE X (.Call (.Name x p) (e :: es) [] pos) (qb3d fs sp da):=by
 obtain⟨t,pt,at_⟩:=ha
 exact⟨_,qa3r d g hr hg pt hdb he hpl,qc3z at_⟩
end
end L2
end
section
namespace L2
open PySem PySem.Spec PyProof.Rows
noncomputable def capR(n:Nat)(cap:List (Str × Nat))(ρ:Rho):Rho:=List.replicate n none ++ cap.map fun p=>(ρ[p.2]?.join).map lend
noncomputable def flC:Nat->List (Str × Nat)->List (Nat × Nat)
 | _,[]=>[]
 | j,p :: r=>(j,p.2) :: flC (j + 1) r
noncomputable def qa7q(n:Nat)(cap:List (Str × Nat)):Lent:=fun j=>if j < n then none else(cap[j - n]?).map (·.2)
theorem qb8w:∀ {cap:List (Str × Nat)} {n j i:Nat},(j,i) ∈ flC n cap ↔ n <= j/\(cap[j - n]?).map (·.2)=some i:=by
 intro cap
 induction cap with
 | nil=>intro n j i;simp [flC]
 | cons p r ih =>
  intro n j i
  unfold flC
  rw [List.mem_cons,ih]
  constructor
  ·rintro(e | ⟨h1,h2⟩)
   ·cases e;simp
   ·refine⟨by omega,?_⟩
    have:j - n=(j - (n + 1)) + 1:=by omega
    rw [this,List.getElem?_cons_succ];exact h2
  ·rintro⟨h1,h2⟩
   by_cases e:j=n
   ·subst e
    simp at h2
    exact .inl (by rw [h2])
   ·refine .inr ⟨by omega,?_⟩
    have:j - n=(j - (n + 1)) + 1:=by omega
    rw [this,List.getElem?_cons_succ] at h2;exact h2
theorem qb8x:∀ {cap:List (Str × Nat)} {n:Nat},(flC n cap).map (·.2)=cap.map (·.2)
 | [],_=>rfl
 | p :: r,n=>by unfold flC;rw [List.map_cons,List.map_cons,qb8x]
def qa2h(g:TDG)(tt:TDT)(te:TDE)(Q:List PyData->Rho->Prop):List PyData->Rho->List PyData->Prop
 | [],ρ,acc=>Q acc ρ
 | x :: r,ρ,acc=>g x ρ fun ρ1=>tt ρ1 fun b ρ2=>if b=true then te ρ2 fun y ρ3=>fz ρ3 y fun z ρ4=>qa2h g tt te Q r ρ4 (acc ++ [z]) else qa2h g tt te Q r ρ2 acc
def dComp(n:Nat)(cap:List (Str × Nat))(di:TDI)(g:TDG)(tt:TDT)(te:TDE):TDF:=fun ρ Q=>di ρ fun xs ρ1=>xs.length <= 1000000/\(cap.map (·.2)).Nodup/\qa2h g tt te (fun acc ρ'=>Q acc (fills ρ' (flC n cap) ρ1)) xs (capR n cap ρ1) []
section
variable{K:PySem.W.Frag}{c:Rc}{O:Own}{ρ:Rho}{σ:St}{H H':Hp}{S S':Addr->Prop}
theorem qc2e{l:L}:isOw (lend l)=isOw l:=by cases l<;>rfl
theorem qc0j{n:Nat}{cap:List (Str × Nat)}{own:List Str}(hn:own.length=n)(R:Rel K c O ρ σ H)(nd:(cap.map (·.2)).Nodup):Begins K c O ρ σ H (qa7q n cap) (capR n cap ρ) (qa6s own cap σ):=by
 have at_:∀ {j:Nat} {l:L},(capR n cap ρ)[j]? = some (some l)->n <= j/\∃ p l0,cap[j - n]? = some p/\ρ[p.2]? = some (some l0)/\l=lend l0:=fun{j l} e=>by
  unfold capR at e
  by_cases hj:j < n
  ·rw [List.getElem?_append_left (by simpa using hj),List.getElem?_replicate,if_pos hj] at e;cases e
  ·rw [List.getElem?_append_right (by simpa using Nat.le_of_not_lt hj),List.length_replicate,List.getElem?_map] at e
   cases q:cap[j - n]? with
   | none=>rw [q] at e;cases e
   | some p =>
    rw [q] at e
    have e':(ρ[p.2]?.join).map lend=some l:=Option.some.inj e
    cases q2:ρ[p.2]?.join with
    | none=>rw [q2] at e';cases e'
    | some l0=>rw [q2] at e';cases e';exact⟨by omega,p,l0,rfl,qa1r q2,rfl⟩
 have st:∀ {j:Nat} {p:Str × Nat},n <= j->cap[j - n]? = some p->(qa6s own cap σ)[j]? = some (σ[p.2]?).join:=fun{j p} h1 h2=>by
  unfold qa6s
  rw [List.getElem?_append_right (by simp;omega),List.length_replicate,hn,List.getElem?_map,h2];rfl
 refine⟨fun j l e ho=>?_,fun j x e=>?_,fun j e=>?_,fun j k i e1 e2=>?_,?_⟩
 ·obtain⟨h1,p,l0,h2,h3,h4⟩:=at_ e
  have ho':isOw l0=true:=by rw [h4,qc2e] at ho;exact ho
  obtain⟨q,_,hq⟩:=R.ow h3 ho'
  refine⟨p.2,l0,?_,h3,ho',h4,?_⟩
  ·unfold qa7q;rw [if_neg (by omega),h2];rfl
  ·rw [st h1 h2,hq];rfl
 ·obtain⟨h1,p,l0,h2,h3,h4⟩:=at_ e
  cases l0 with
  | d y =>
   cases h4
   obtain⟨v,e1,e2⟩:=R.dat _ _ h3
   exact⟨v,by rw [st h1 h2,e1];rfl,e2⟩
  | _=>cases h4
 ·obtain⟨h1,p,l0,h2,h3,h4⟩:=at_ e
  cases l0 with
  | scr=>rw [st h1 h2,R.scr _ h3];rfl
  | _=>cases h4
 ·unfold qa7q at e1 e2
  split at e1
  ·cases e1
  ·split at e2
   ·cases e2
   ·rename_i h1 h2
    rw [← List.getElem?_map] at e1 e2
    obtain⟨a1,b1⟩:=List.getElem?_eq_some_iff.mp e1
    obtain⟨a2,b2⟩:=List.getElem?_eq_some_iff.mp e2
    have:=(List.getElem_inj nd).mp (b1.trans b2.symm)
    omega
 ·unfold qa6s capR;simp [hn]
theorem qb8y{n:Nat}{own:List Str}{cap:List (Str × Nat)}{wi:TI}{g:TG}{tt:TT}{te:TE}{di:TDI}{dg:TDG}{dt:TDT}{de:TDE}(hn:own.length=n)(hi:AdI K wi di)(hg:AdG K g dg)(ht:AdT K tt dt)(he:AdE K te de) :
  AdF K (tComp own cap wi g tt te) (dComp n cap di dg dt de):=by
 intro c O ρ σ H Qd Q R h k
 refine hi c O ρ σ H _ _ R h fun xs ρ1 O1 J H1 h1 R1 P1 I1 D hD=>?_
 obtain⟨hz,nd,hloop⟩:=h1
 have B:=qc0j (own:=own) hn R1 nd
 generalize hOc:qa1a O1 ρ1 (qa7q n cap)=Oc
 have s0:=qa0t hD (.lst [])
 obtain⟨R2,P2⟩:=R1.begin (b:=false) (P:=fun a=>a=D) B s0 (fun p e=>by subst e;exact⟨hD,by rw [qa0e];exact fun z=>nomatch z⟩)
 rw [hOc] at R2 P2
 have lentM:∀ {b:Addr},(∃ j,Oc j=some b)->∃ vs,H1 b=some (.lst vs):=fun hq8=>by
  obtain⟨j,e⟩:=hq8
  rw [← hOc] at e
  obtain⟨i,_,_,_,_,hO⟩:=qa2c e
  exact(R1.has i _ hO).2
 have nD:∀ j,Oc j ≠ some D:=fun j e=>by
  obtain⟨vs,q⟩:=lentM ⟨j,e⟩
  rw [hD] at q;cases q
 -- what holds between two turns
 let Jn:St->Hp->Own->Rho->List PyData->List V->Prop:=fun σ' H' O' ρ' acc ys=>Rel K (c.in O1 Oc (fun a=>a=D) false H') O' ρ' σ' H'/\H' D=some (.lst ys)/\qa0b K H' (live (c.in O1 Oc (fun a=>a=D) false H') O') acc ys /\
  (∀ b o,(∀ j,Oc j ≠ some b)->b ≠ D->H1 b=some o->H' b=some o)/\Pers K (live c O1) H1 (live (c.in O1 Oc (fun a=>a=D) false H') O') H'
 refine⟨fun i m σ' H'=>m=xs.length - i/\i <= xs.length/\∃ O' ρ' acc ys,Jn σ' H' O' ρ' acc ys/\acc.length <= i/\qa2h dg dt de (fun acc ρ'=>Qd acc (fills ρ' (flC n cap) ρ1)) (xs.drop i) ρ' acc,⟨xs.length,by simp,Nat.zero_le _,Oc,_,[],[],⟨R2,qa0e,.nil,fun b o _ nb q=>by rw [qa0d nb];exact q,P2⟩,Nat.le_refl _,by rw [List.drop_zero];exact hloop⟩,?_⟩
 rintro i m σ' H' ⟨rfl,hle,O',ρ',acc,ys,⟨R3,hDy,hacc,fr3,P3⟩,hal,q3⟩
 obtain⟨it,stop⟩:=I1 _ _ P3
 by_cases hlt:i < xs.length
 ·rw [List.drop_eq_getElem_cons hlt] at q3
  obtain⟨go,yld⟩:=it i xs[i] (List.getElem?_eq_getElem hlt)
  have q3':dg xs[i] ρ' fun ρ1'=>dt ρ1' fun b ρ2=>if b=true then de ρ2 fun y ρ3=>fz ρ3 y fun z ρ4=>qa2h dg dt de (fun acc ρ'=>Qd acc (fills ρ' (flC n cap) ρ1)) (xs.drop (i + 1)) ρ4 (acc ++ [z]) else qa2h dg dt de (fun acc ρ'=>Qd acc (fills ρ' (flC n cap) ρ1)) (xs.drop (i + 1)) ρ2 acc:=q3
  -- to the next turn, at a heap that differs from H4 at D alone
  have next:∀ (σ4:St) (H4 H5:Hp) (O4:Own) (ρ4:Rho) (acc':List PyData) (ys':List V),Rel K (c.in O1 Oc (fun a=>a=D) false H') O4 ρ4 σ4 H4->Pers K (live (c.in O1 Oc (fun a=>a=D) false H') O') H' (live (c.in O1 Oc (fun a=>a=D) false H') O4) H4 ->
    H5 D=some (.lst ys')->(∀ b,b ≠ D->H5 b=H4 b)->qa0b K H4 (live (c.in O1 Oc (fun a=>a=D) false H') O4) acc' ys'->Jn σ4 H5 O4 ρ4 acc' ys':=fun σ4 H4 H5 O4 ρ4 acc' ys' R4 P4 h5 ne a4=>by
   have h4D:H4 D ≠ none:=R4.kept D (by show H' D ≠ none;rw [hDy];exact fun z=>nomatch z)
   have kp:Keep (live (c.in O1 Oc (fun a=>a=D) false H') O4) H4 H5:=by
    have hDl:∃ zs,H4 D=some (.lst zs):=⟨ys,R4.same D _ (fun hq8=>by obtain⟨j,e⟩:=hq8;exact nD j e) hDy⟩
    obtain⟨zs,hDl⟩:=hDl
    exact⟨fun b ws e=>by rw [ne b (qa8s e hDl (by intro z;cases z))];exact e,fun b o u e=>by rw [ne b (qa8s e hDl (by intro z;cases z))];exact e,fun b ws hl e=>by rw [ne b (fun z=>hl.2.1 z)];exact e⟩
   have hl:∀ a,live (c.in O1 Oc (fun a=>a=D) false H') O4 a->live (c.in O1 Oc (fun a=>a=D) false H5) O4 a:=fun a z=>z
   have P5:Pers K (live (c.in O1 Oc (fun a=>a=D) false H') O4) H4 (live (c.in O1 Oc (fun a=>a=D) false H5) O4) H5:=.of kp hl
   have inM:∀ i p,O4 i=some p->∃ j,Oc j=some p:=fun i p e=>by
    rcases (R4.has' i p e).1 with z | z
    ·exact z
    ·exact absurd z.1 Bool.false_ne_true
   refine⟨R4.to (fun _=>rfl) (fun _ _ _ z=>z) rfl rfl P5 (fun i p vs e q=>?_) (fun i p e _=>.inl (inM i p e)) (fun p z=>z.elim .inl fun w=>absurd w.1 Bool.false_ne_true) (fun p z=>?_) (fun b o _ z=>z) (fun b z=>z) (fun p z=>?_) (fun p z=>?_) (fun _=>rfl) (R4.sc.keep kp),h5,P5.all a4,fun b o n1 n2 q=>?_,(P3.trans P4).trans P5⟩
   ·obtain⟨j,ej⟩:=inM i p e
    rw [ne p (fun z=>nD j (by rw [← z];exact ej))];exact q
   ·have z':H5 p=none:=z
    have np:p ≠ D:=by rintro rfl;rw [h5] at z';cases z'
    rw [ne p np] at z'
    exact R4.frs p (R4.free0 z')
   ·obtain⟨j,ej⟩:=z
    obtain⟨vs,q⟩:=R4.ml p ⟨j,ej⟩
    exact⟨vs,by rw [ne p (fun w=>nD j (by rw [← w];exact ej))];exact q⟩
   ·rcases z with z | ⟨j,ej⟩
    ·rw [show p=D from z,h5];exact fun w=>nomatch w
    ·obtain⟨vs,q⟩:=R4.ml p ⟨j,ej⟩
     rw [ne p (fun w=>nD j (by rw [← w];exact ej)),q];exact fun w=>nomatch w
   ·rw [ne b n2]
    exact R4.same b o (fun hq8=>by obtain⟨j,e⟩:=hq8;exact n1 j e) (fr3 b o n1 n2 q)
  refine .inr ⟨go,fun σ'' H''=>∃ O'' ρ'' acc' ys',Jn σ'' H'' O'' ρ'' acc' ys'/\acc'.length <= i + 1/\qa2h dg dt de (fun acc ρ'=>Qd acc (fills ρ' (flC n cap) ρ1)) (xs.drop (i + 1)) ρ'' acc',fun σ'' H'' hq8=>by obtain⟨O'',ρ'',acc',ys',a1,a2,a3⟩:=hq8;exact⟨xs.length - (i + 1),by omega,rfl,hlt,O'',ρ'',acc',ys',a1,a2,a3⟩,fun v H4 y=>?_⟩
  obtain⟨s4,a4⟩:=yld v H4 y
  refine hg _ O' ρ' σ' H4 xs[i] v _ _ (R3.grow s4) a4 q3' fun O5 ρ5 σ5 R5 P5 q5=>?_
  refine ht _ O5 ρ5 σ5 H4 _ _ R5 q5 fun b ρ6 O6 H6 q6 R6 P6=>?_
  have P06:=((Pers.same s4).trans P5).trans P6
  have dAt:∀ {O9:Own} {ρ9:Rho} {σ9:St} {H9:Hp},Rel K (c.in O1 Oc (fun a=>a=D) false H') O9 ρ9 σ9 H9->H9 D=some (.lst ys):=fun Rx=>Rx.same D _ (fun hq8=>by obtain⟨j,e⟩:=hq8;exact nD j e) hDy
  cases b with
  | false =>
   rw [if_neg Bool.false_ne_true] at q6 ⊢
   exact⟨O6,ρ6,acc,ys,next σ5 H6 H6 O6 ρ6 acc ys R6 P06 (dAt R6) (fun _ _=>rfl) (P06.all hacc),by omega,q6⟩
  | true =>
   rw [if_pos rfl] at q6 ⊢
   refine he _ O6 ρ6 σ5 H6 _ _ R6 q6 fun y ρ7 O7 u H7 q7 R7 P7 a7=>?_
   obtain⟨z,ρ8,O8,q8,R8,P8,a8⟩:=R7.fz a7 q7
   have P08:=(P06.trans P7).trans P8
   have accl:ys.length=acc.length:=hacc.length
   refine⟨ys,dAt R8,by rw [accl];exact mil (by omega),O8,ρ8,acc ++ [z],ys ++ [u],next σ5 H7 _ O8 ρ8 _ _ R8 P08 qa0e (fun b nb=>qa0d nb) ((P08.all hacc).snoc a8),by rw [List.length_append,List.length_singleton];omega,q8⟩
 ·have e:i=xs.length:=by omega
  subst e
  rw [List.drop_eq_nil_of_le (Nat.le_refl _)] at q3
  refine .inl ⟨stop,?_⟩
  have fr:∀ b o,(∀ j,qa1a O1 ρ1 (qa7q n cap) j ≠ some b)->H1 b=some o->H' b=some o:=fun b o n1 q=>fr3 b o (by rw [← hOc];exact n1) (qa0z q hD) q
  have fp:=qb2l R1 hD
  have hl:∀ a,live (c.in O1 Oc (fun a=>a=D) false H') O' a->live (c.add D) O1 a:=fun a z=>qb0j z.1 z.2.1
  have hP:Pers K (live (c.in O1 Oc (fun a=>a=D) false H') O') H' (live (c.add D) O1) H':=.of (Keep.refl _ _) hl
  have hp:Pers K (live c O1) H1 (live (c.add D) O1) H':=P3.trans hP
  have hf:∀ j i,(j,i) ∈ flC n cap->qa7q n cap j=some i:=fun j i m=>by
   obtain⟨h1,h2⟩:=qb8w.mp m
   unfold qa7q;rw [if_neg (by omega)];exact h2
  have hf':∀ j i,qa7q n cap j=some i->(j,i) ∈ flC n cap:=fun j i e=>by
   unfold qa7q at e
   split at e
   ·cases e
   ·exact qb8w.mpr ⟨by omega,e⟩
  have Rn:Rel K (c.add D) O1 (fills ρ' (flC n cap) ρ1) σ H':=R1.finish (P':=fun a=>c.P a ∨ a=D) (by rw [qb8x];exact nd) hf hf' R3 (fun j=>by rw [hOc];rfl) rfl rfl fr (fun j p e=>R3.ml p ⟨j,by rw [← hOc];exact e⟩) hP hp (fun q z=>z.elim .inl fun e=>.inr (by subst e;exact⟨by rw [hDy];exact(fun z=>nomatch z),fp.2.2.2⟩))
  exact k _ _ O1 D ys H' q3 Rn (P1.trans hp) fp hDy (hP.all hacc)
end
end L2
end
section
namespace L2
open PySem PySem.Spec PyProof.Rows
def DG(X:Cx)(target:Expr)(dg:TDG):Prop:=∃ g,PG X target g/\AdG X.K g dg
def DGs(X:Cx)(ts:List Expr)(dg:TDGs):Prop:=∃ g,PGs X ts g/\AdGs X.K g dg
def DIf(X:Cx)(ifs:List Expr)(dt:TDT):Prop:=∃ t,PIf X ifs t/\AdT X.K t dt
section
variable{X:Cx}{st:Stmt}{rest:List Stmt}{e tg iter a b c:Expr}{es ifs:List Expr}{de da db dc:TDE}{df:TDF}{dt du:TDS}{dg:TDG}{dgs:TDGs}{di:TDI}{dtt:TDT}{daa:TDA}{pos:Pos}
theorem qa1m:DSs X [] dNext:=⟨_,qa5l,ad_next⟩
theorem qa0f(h1:DS X st dt)(h2:DSs X rest du):DSs X (st :: rest) (dSeq dt du):=by obtain⟨_,p,a⟩:=h1;obtain⟨_,p',a'⟩:=h2;exact⟨_,qa1i p p',ad_seq a a'⟩
theorem qa0h(h1:DS X st dt):DSs X [st] dt:=by obtain⟨_,p,a⟩:=h1;exact⟨_,qa2d p,a⟩
theorem qb4b(he:DE X e de)(hs:swapsWith e none pos.line X.env=pure false:=by rfl):DS X (.Expr e pos) (dDrop de):=by obtain⟨_,p,a⟩:=he;exact⟨_,qb1s p hs,ad_drop a⟩
theorem qa0x(he:DE X e de):DS X (.Return (some e) pos) (dRet de):=by obtain⟨_,p,a⟩:=he;exact⟨_,qa5a p,ad_ret a⟩
theorem qa7f(i:Nat){x:Str}{p:Pos}(hN:X.N[i]? = some x:=by rfl)(hv:Vis X.env.scope x:=by first | exact Or.inl rfl | exact Or.inr (Or.inl rfl) | exact Or.inr (Or.inr rfl)) (hd:(x == ("__debug__" : Str))=false:=by decide)
  (hcd:(x == ("__classdict__" : Str))=false:=by decide):DS X (.Return (some (.Name x p)) pos) (qb3z i):=⟨_,qa5a (qa9k hN hv hd hcd),qc1z⟩
theorem qa2r{c:Expr}{a b:List Stmt}(hc:DT X c dtt)(ha:DSs X a dt)(hb:DSs X b du):DS X (.If c a b pos) (dIf dtt dt du):=by obtain⟨_,p,a⟩:=hc;obtain⟨_,p',a'⟩:=ha;obtain⟨_,p2,a2⟩:=hb;exact⟨_,qa8t p p' p2,ad_if a a' a2⟩
theorem qa1x{i:Nat}{x:Str}{pos':Pos}(hN:X.N.Nodup)(hi:X.N[i]? = some x)(hx:Loc X.env.scope x)(he:DE X e de)(hs:swapsWith e (some (.Name x pos')) pos.line X.env=pure false:=by rfl)(hf:X.fn x=true ∨ X.env.scope.names.lookup x=some .local:=by first | exact .inl rfl | exact .inr rfl) :
  DS X (.Assign [.Name x pos'] e pos) (dSet i de):=by obtain⟨_,p,a⟩:=he;exact⟨_,qa2v hN hi hx p hs hf,ad_set a⟩
theorem qa5o{i:Nat}{x:Str}{pos':Pos}(hN:X.N.Nodup)(hi:X.N[i]? = some x)(hx:Loc X.env.scope x)(he:DF X e df)(hs:swapsWith e (some (.Name x pos')) pos.line X.env=pure false:=by rfl)(hf:X.fn x=true ∨ X.env.scope.names.lookup x=some .local:=by first | exact .inl rfl | exact .inr rfl) :
  DS X (.Assign [.Name x pos'] e pos) (dSetF i df):=by obtain⟨_,p,a⟩:=he;exact⟨_,qa2v hN hi hx p hs hf,qb8v a⟩
theorem qa1h{i:Nat}{x:Str}(hN:X.N.Nodup)(hi:X.N[i]? = some x)(hx:Loc X.env.scope x)(hf:X.fn x=true ∨ X.env.scope.names.lookup x=some .local:=by first | exact .inl rfl | exact .inr rfl | assumption):DG X (.Name x pos) (qb3b i):=⟨_,qa6i hN hi hx hf,ag_name⟩
theorem qa8b:DGs X [] dgNil:=⟨_,qb3r,ag_nil⟩
theorem qa2u(h1:DG X e dg)(h2:DGs X es dgs)(hs:(assignEach (e :: es) X.env).map (·.2)=assign e X.env :: (assignEach es X.env).map (·.2):=by rfl):DGs X (e :: es) (qb6e dg dgs):=by obtain⟨_,p,a⟩:=h1;obtain⟨_,p',a'⟩:=h2;exact⟨_,qa8d p p' hs,ag_cons a a'⟩
theorem qa9v{k n:Nat}(hc:X.calm=true)(h:DGs X es dgs)(hn:(assignEach es X.env).length=n:=by rfl)(hst:(assignEach es X.env).findIdx? (·.1)=none:=by rfl):DG X (.Tuple es k pos) (dgTup n dgs):=by obtain⟨_,p,a⟩:=h;exact⟨_,qb5p hc p hn hst,ag_tup a⟩
theorem qa6n(i:Nat){x:Str}{b:Expr}{p p2:Pos}(hN:X.N[i]? = some x)(hb:DE X b db)(he:DE X e de)(hv:Vis X.env.scope x:=by first | exact Or.inl rfl | exact Or.inr (Or.inl rfl) | exact Or.inr (Or.inr rfl)) (hd:(x == ("__debug__" : Str))=false:=by decide)
  (hcd:(x == ("__classdict__" : Str))=false:=by decide) (ha:∀ v,assign (.Subscript (.Name x p) b p2) X.env v=(do
   let ov ← holding [v] (eval (.Name x p) X.env)
   let iv ← holding [v,ov] (eval b X.env)
   standAt p2
   holding [v,ov,iv] (setItem ov iv v)
   release [v,ov,iv] []):=by intro _;rfl)
  (hs:swapsWithSole [.Subscript (.Name x p) b p2] e pos.line X.env=pure false:=by rfl) (hw:swappedStores [.Subscript (.Name x p) b p2] e X.env=pure none:=by rfl)
  (h1:(assignEach [.Subscript (.Name x p) b p2] X.env).map (·.2)=[assign (.Subscript (.Name x p) b p2) X.env]:=by rfl):DS X (.Assign [.Subscript (.Name x p) b p2] e pos) (qa9u i db de):=by
 obtain⟨ti,pi,ai⟩:=hb
 obtain⟨te,pe,ae⟩:=he
 exact⟨_,ps_asg pe (pg_sub (qa9k hN hv hd hcd) pi set_list ha) hs hw h1,qc3v ai ae⟩
theorem qb1o(i:Nat){x:Str}{p p2:Pos}(hN:X.N[i]? = some x)(he:DE X e de)(hv:Vis X.env.scope x:=by first | exact Or.inl rfl | exact Or.inr (Or.inl rfl) | exact Or.inr (Or.inr rfl)) (hd:(x == ("__debug__" : Str))=false:=by decide)
  (hcd:(x == ("__classdict__" : Str))=false:=by decide) (hs:starEach [e] X.env=[(false,eval e X.env)]:=by rfl)
  (hbase:attributeBase (.Name x p) "append" X.env (eval (.Name x p) X.env)=eval (.Name x p) X.env:=by rfl)
  (hfew:((backTo pos (starEach [e] X.env)).all (fun x=>!x.1) && (backToKw pos (keywordEach [] X.env)).all (fun x=>x.1.isSome)
   && decide (([e]:List Expr).length + ([]:List Keyword).length + (if ([]:List Keyword).isEmpty then 0 else 1) < 30))=true:=by rfl)
  (hline:(p2.endLine == pos.line)=true:=by rfl):DE X (.Call (.Attribute (.Name x p) "append" p2) [e] [] pos) (qb4a i de):=by
 obtain⟨te,pe,ae⟩:=he
 exact⟨_,pe_bm PySem.F.plainAttrs_list PySem.F.slot_list_append PySem.F.type_list_append qa8v (qa9k hN hv hd hcd) (qa0g pe qa0q hs) hbase hfew hline hs rfl,qc2a ae⟩
theorem de_pop(i:Nat){x:Str}{p p2:Pos}(hN:X.N[i]? = some x)(hv:Vis X.env.scope x:=by first | exact Or.inl rfl | exact Or.inr (Or.inl rfl) | exact Or.inr (Or.inr rfl)) (hd:(x == ("__debug__" : Str))=false:=by decide)
  (hcd:(x == ("__classdict__" : Str))=false:=by decide) (hbase:attributeBase (.Name x p) "pop" X.env (eval (.Name x p) X.env)=eval (.Name x p) X.env:=by rfl) (hline:(p2.endLine == pos.line)=true:=by rfl):DE X (.Call (.Attribute (.Name x p) "pop" p2) [] [] pos) (dPop i):=
 ⟨_,pe_bm0 PySem.F.plainAttrs_list PySem.F.slot_list_pop PySem.F.type_list_pop mt_pop (qa9k hN hv hd hcd) hbase hline,ad_pop⟩
theorem qb6l{c:Expr}{body:List Stmt}(hp:PassesOwn (model X.prog X.w) X.A X.env X.xe)(hc:DT X c dtt)(hb:DSs X body dt):DS X (.While c body [] pos) (qb6f dtt dt):=by obtain⟨_,p,a⟩:=hc;obtain⟨_,p',a'⟩:=hb;exact⟨_,qc3c hp p p',qc3w a a'⟩
theorem qa4n{body:List Stmt}(hp:PassesOwn (model X.prog X.w) X.A X.env X.xe)(hc:X.calm=true)(hi:DI X tg iter di)(hg:DG X tg dg)(hb:DSs X body dt)(hs:∀ x,foldedSetIterable iter X.env x=pure x:=by intro _;rfl):DS X (.For tg iter body [] pos) (dFor di dg dt):=
 by obtain⟨_,p,a⟩:=hi;obtain⟨_,p',a'⟩:=hg;obtain⟨_,p2,a2⟩:=hb;exact⟨_,ps_for hp hc p p' p2 hs,ad_for a a' a2⟩
theorem qa8i(h:DE X e de):DI X tg e (diDat de):=by obtain⟨_,p,a⟩:=h;exact⟨_,qb2x p,ai_dat a⟩
theorem qa8y{p:Pos} (hg:Gl X "range") (hm:X.mg "range" = none) (ha:DE X a da) (hs:starEach [a] X.env=[(false,eval a X.env)]:=by rfl):DI X tg (.Call (.Name "range" p) [a] [] pos) (qb6h da):=
 by obtain⟨_,p,a⟩:=ha;exact⟨_,qc1i hg hm (qa0g p qa0q hs) hs,ai_rng1 a⟩
theorem qb1w:DIf X [] (fun ρ Q=>Q true ρ):=⟨_,qb3w,fun c O ρ σ H Qd Q R h k=>k _ _ _ _ h R .refl⟩
theorem dif_one(h:DT X e dtt):DIf X [e] dtt:=by obtain⟨_,p,a⟩:=h;exact⟨_,qb8q p,a⟩
end
def upE(K:PySem.W.Frag)(dt:TDE):TE:=fun σ H Q=>∃ c O ρ Qd,Rel K c O ρ σ H/\dt ρ Qd/\(∀ x ρ' O' v H',Qd x ρ'->Rel K c O' ρ' σ H'->Pers K (live c O) H (live c O') H'->AtV K (live c O') σ H' x v->Q v H')
def upT(K:PySem.W.Frag)(dt:TDT):TT:=fun σ H Q=>∃ c O ρ Qd,Rel K c O ρ σ H/\dt ρ Qd/\(∀ b ρ' O' H',Qd b ρ'->Rel K c O' ρ' σ H'->Pers K (live c O) H (live c O') H'->Q b H')
def upG(K:PySem.W.Frag)(dg:TDG):TG:=fun v σ H Q=>∃ c O ρ x Qd,Rel K c O ρ σ H/\AtD K H (live c O) x v/\dg x ρ Qd/\(∀ O' ρ' σ' ,Rel K c O' ρ' σ' H->Pers K (live c O) H (live c O') H->Qd ρ'->Q σ' H)
theorem ad_upE{K:PySem.W.Frag}{dt:TDE}:AdE K (upE K dt) dt:=fun c O ρ σ H Qd Q R h k=>⟨c,O,ρ,Qd,R,h,k⟩
theorem ad_upT{K:PySem.W.Frag}{dt:TDT}:AdT K (upT K dt) dt:=fun c O ρ σ H Qd Q R h k=>⟨c,O,ρ,Qd,R,h,k⟩
theorem ad_upG{K:PySem.W.Frag}{dg:TDG}:AdG K (upG K dg) dg:=fun c O ρ σ H x v Qd Q R a h k=>⟨c,O,ρ,x,Qd,R,a,h,k⟩
theorem DE.up{X:Cx}{e:Expr}{de:TDE}(h:DE X e de):PE X e (upE X.K de):=fun pins s σ H Q I q=>by
 obtain⟨t,p,a⟩:=h
 obtain⟨c,O,ρ,Qd,R,q,k⟩:=q
 exact p pins s σ H Q I (a c O ρ σ H Qd Q R q k)
theorem DIf.up{X:Cx}{e:List Expr}{de:TDT}(h:DIf X e de):PIf X e (upT X.K de):=fun pins s σ H Q I q=>by
 obtain⟨t,p,a⟩:=h
 obtain⟨c,O,ρ,Qd,R,q,k⟩:=q
 exact p pins s σ H Q I (a c O ρ σ H Qd Q R q k)
theorem DG.up{X:Cx}{e:Expr}{dg:TDG}(h:DG X e dg):PG X e (upG X.K dg):=fun pins s σ H v u Q I r q=>by
 obtain⟨t,p,a⟩:=h
 obtain⟨c,O,ρ,x,Qd,R,ax,q,k⟩:=q
 exact p pins s σ H v u Q I r (a c O ρ σ H x v Qd Q R ax q k)
section
variable{X:Cx}{elt tg iter:Expr}{ifs:List Expr}{scope:Scope}{pos:Pos}{own:List Str}{cap:List (Str × Nat)}{di:TDI}{dg:TDG}{dt:TDT}{de:TDE}
theorem qb4c(own:List Str)(cap:List (Str × Nat))(hc:X.calm=true)(hok:qa5h X scope own cap=true)(hnd:(scope.names.map (·.1)).Nodup)(hi:DI X tg iter di)
  (hg:∀ fp s2 H2,DG (cxC X scope own cap fp s2 H2) tg dg) (ht:∀ fp s2 H2,DIf (cxC X scope own cap fp s2 H2) ifs dt) (he:∀ fp s2 H2,DE (cxC X scope own cap fp s2 H2) elt de)
  (hs:∀ x,foldedSetIterable iter X.env x=pure x:=by intro _;rfl):DF X (.ListComp elt [⟨tg,iter,ifs,0⟩] scope pos) (dComp own.length cap di dg dt de):=by
 obtain⟨ti,pi,ai⟩:=hi
 exact⟨_,qb3x hc hok hnd pi (fun a b c=>(hg a b c).up) (fun a b c=>(ht a b c).up) (fun a b c=>(he a b c).up) hs,qb8y rfl ai ad_upG ad_upT ad_upE⟩
theorem qb8z{i:Nat}{y:Str}{py spos:Pos}(hN:X.N.Nodup)(hi':X.N[i]? = some y)(hy:X.env.scope.names.lookup y=some .local)
  (own:List Str) (cap:List (Str × Nat)) (hc:X.calm=true) (hok:qa5h X scope own cap=true) (hnd:(scope.names.map (·.1)).Nodup) (hi:DI X tg iter di)
  (hg:∀ fp s2 H2,DG (cxC X scope own cap fp s2 H2) tg dg) (ht:∀ fp s2 H2,DIf (cxC X scope own cap fp s2 H2) ifs dt) (he:∀ fp s2 H2,DE (cxC X scope own cap fp s2 H2) elt de)
  (hsw:swapsWith (.ListComp elt [⟨tg,iter,ifs,0⟩] scope pos) (some (.Name y py)) spos.line X.env=pure true:=by rfl)
  (hs:∀ x,foldedSetIterable iter X.env x=pure x:=by intro _;rfl):DS X (.Assign [.Name y py] (.ListComp elt [⟨tg,iter,ifs,0⟩] scope pos) spos) (dSetF i (dComp own.length cap di dg dt de)):=by
 obtain⟨ti,pi,ai⟩:=hi
 exact⟨_,qb8r hN hi' hy hc hok hnd pi (fun a b c=>(hg a b c).up) (fun a b c=>(ht a b c).up) (fun a b c=>(he a b c).up) hsw hs,qb8v (qb8y rfl ai ad_upG ad_upT ad_upE)⟩
end
section
variable{K:PySem.W.Frag}
def dIs(T:String)(de:TDE):TDE:=fun ρ Q=>de ρ fun x ρ1=>need (qa0p ρ1 x) fun d=>Q (.d (.bool (isD T d))) ρ1
theorem ad_is{t:TE}{de:TDE}{T:String}(hT:qa1q T=true)(h:AdE K t de):AdE K (tCB (fun xs H Q=>∃ v S d T,xs=[v,.ty T]/\AtD K H S d v/\qa1q T=true/\Q (.bl (isD T d)) H) (qa2z t (qa2z (tC (.ty T)) tNil))) (dIs T de):=fun c O ρ σ H Qd Q R q k =>
 h c O ρ σ H _ _ R q fun x ρ1 O1 v H1 h1 R1 P1 a1=>by
  obtain⟨d,e1,h2⟩:=ne (h1)
  exact⟨v,Any,d,T,rfl,(R1.top a1 e1).any,hT,k _ _ _ _ _ h2 R1 P1 qb0l⟩
end
theorem qa2j{X:Cx}{e:Expr}{de:TDE}{x:Str}{T:String}{p p2 pos:Pos} (hg:Gl X "isinstance") (hm:X.mg "isinstance" = none) (hg2:Gl X x) (hm2:X.mg x=none) (hv:bootBuiltins x=some (.type T)) (hT:qa1q T=true) (he:DE X e de) (hn:x ≠ "__name__":=by decide) (hd:(x == ("__debug__" : Str))=false:=by decide)
  (hs:starEach [e,.Name x p2] X.env=(false,eval e X.env) :: starEach [.Name x p2] X.env:=by rfl):DE X (.Call (.Name "isinstance" p) [e,.Name x p2] [] pos) (dIs T de):=by
 obtain⟨t,pe,ae⟩:=he
 exact⟨_,qa3q qc3p hg hm qb1a (qa0g pe (qa0g (pe_ty hg2 hm2 hv hn hd) qa0q) hs) (by decide) (by decide) hs rfl,ad_is hT ae⟩
end L2
end
section
namespace L2
open PySem PySem.Spec PyProof.Rows
noncomputable def fEqA(neg:Bool):F2:=fun x y=>if (qa1d x && qa1d y && scal (toV x) (toV y))=true then some (.bool (if neg then !decide (toV x=toV y) else decide (toV x=toV y))) else fEq neg x y
section
variable{K:PySem.W.Frag}
theorem qa2w:AdR K (fun x y H Q=>rEq x y H Q ∨ rEqD K false x y H Q) (fEqA false):=by
 intro S H x y dx dy z Q f hx hy e k
 unfold fEqA at e
 split at e
 ·rename_i hc
  rw [Bool.and_eq_true,Bool.and_eq_true] at hc
  cases e
  obtain⟨e1,_⟩:=qa8a (hx.at fun ds z=>by subst z;exact absurd hc.1.1 (by simp [qa1d])) hc.1.1
  obtain⟨e2,_⟩:=qa8a (hy.at fun ds z=>by subst z;exact absurd hc.1.2 (by simp [qa1d])) hc.1.2
  rw [e1,e2]
  exact .inl ⟨hc.2,k _ _ (Same.refl _) (qa2t _)⟩
 ·exact .inr (ad_eq S H x y dx dy z Q f hx hy e k)
theorem qa9w:AdR K (fun x y H Q=>rNe x y H Q ∨ rEqD K true x y H Q) (fEqA true):=by
 intro S H x y dx dy z Q f hx hy e k
 unfold fEqA at e
 split at e
 ·rename_i hc
  rw [Bool.and_eq_true,Bool.and_eq_true] at hc
  cases e
  obtain⟨e1,_⟩:=qa8a (hx.at fun ds z=>by subst z;exact absurd hc.1.1 (by simp [qa1d])) hc.1.1
  obtain⟨e2,_⟩:=qa8a (hy.at fun ds z=>by subst z;exact absurd hc.1.2 (by simp [qa1d])) hc.1.2
  rw [e1,e2]
  exact .inl ⟨hc.2,k _ _ (Same.refl _) (qa2t _)⟩
 ·exact .inr (ad_eq S H x y dx dy z Q f hx hy e k)
theorem qa2x{X:Cx}(hu:X.A.units + 64 < cLine):OpR X (compareOp .Eq) (fun x y H Q=>rEq x y H Q ∨ rEqD X.K false x y H Q):=qa5r.or (op_eqD hu)
theorem qa9x{X:Cx}(hu:X.A.units + 64 < cLine):OpR X (compareOp .NotEq) (fun x y H Q=>rNe x y H Q ∨ rEqD X.K true x y H Q):=op_ne.or (op_neD hu)
end
theorem qc4a{neg:Bool}{x y:Str}:fEqA neg (.str x) (.str y)=some (.bool (if neg then !decide (x=y) else decide (x=y))):=by
 have e:decide (V.str x=V.str y)=decide (x=y):=by simp
 unfold fEqA
 rw [if_pos (show(qa1d (.str x) && qa1d (.str y) && scal (toV (.str x)) (toV (.str y)))=true from rfl)]
 show some (PyData.bool (if neg=true then !decide (V.str x=V.str y) else decide (V.str x=V.str y)))=_
 rw [e]
theorem qc4b{neg:Bool}{x y:Int}:fEqA neg (.int x) (.int y)=some (.bool (if neg then !decide (x=y) else decide (x=y))):=by
 have e:decide (V.int x=V.int y)=decide (x=y):=by simp
 unfold fEqA
 rw [if_pos (show(qa1d (.int x) && qa1d (.int y) && scal (toV (.int x)) (toV (.int y)))=true from rfl)]
 show some (PyData.bool (if neg=true then !decide (V.int x=V.int y) else decide (V.int x=V.int y)))=_
 rw [e]
theorem qc2f{neg:Bool}{x y:Bool}:fEqA neg (.bool x) (.bool y)=some (.bool (if neg then !decide (x=y) else decide (x=y))):=by
 have e:decide (V.bl x=V.bl y)=decide (x=y):=by simp
 unfold fEqA
 rw [if_pos (show(qa1d (.bool x) && qa1d (.bool y) && scal (toV (.bool x)) (toV (.bool y)))=true from rfl)]
 show some (PyData.bool (if neg=true then !decide (V.bl x=V.bl y) else decide (V.bl x=V.bl y)))=_
 rw [e]
theorem qc4c{neg:Bool}{x y:PyData}(h:(qa1d x && qa1d y)=false)(hx:SeqAt.shaped x=true)(hy:SeqAt.shaped y=true):fEqA neg x y=some (.bool (if neg then !PyData.eqv x y else PyData.eqv x y)):=by
 unfold fEqA fEq
 rw [h,Bool.false_and,if_neg Bool.false_ne_true,if_pos ⟨hx,hy⟩]
theorem fIx_l{xs:List PyData}{i:Int}:fIx (.list xs) (.int i)=atI xs i:=rfl
theorem fIx_t{xs:List PyData}{i:Int}:fIx (.tuple xs) (.int i)=atI xs i:=rfl
theorem fAdd_i{i j:Int}:fAdd (.int i) (.int j)=some (.int (i + j)):=rfl
theorem fSub_i{i j:Int}:fSub (.int i) (.int j)=some (.int (i - j)):=rfl
theorem fCmp_i{p:Int->Int->Bool}{i j:Int}:fCmp p (.int i) (.int j)=some (.bool (p i j)):=rfl
theorem fLen_l{xs:List PyData}:fLen [.list xs]=some (.int xs.length):=rfl
theorem fLen_t{xs:List PyData}:fLen [.tuple xs]=some (.int xs.length):=rfl
theorem qc4d{xs:List PyData}:qb3a [.list xs]=some (.tuple xs):=rfl
theorem qc4e{xs:List PyData}:qb3a [.tuple xs]=some (.tuple xs):=rfl
theorem fList_l{xs:List PyData}:fList [.list xs]=some xs:=rfl
theorem fList_t{xs:List PyData}:fList [.tuple xs]=some xs:=rfl
theorem fIn_f{neg:Bool}{x:PyData}{xs:List PyData}(h:(qa1d x && xs.all qa1d)=true):fIn neg x (.tuple xs)=some (.bool (if neg then !inF x xs else inF x xs)):=by
 show(if qa1d x && xs.all qa1d then some (PyData.bool (if neg then !inF x xs else inF x xs)) else none)=_
 rw [if_pos h]
theorem fIn_fl{neg:Bool}{x:PyData}{xs:List PyData}(h:(qa1d x && xs.all qa1d)=true):fIn neg x (.list xs)=some (.bool (if neg then !inF x xs else inF x xs)):=by
 show(if qa1d x && xs.all qa1d then some (PyData.bool (if neg then !inF x xs else inF x xs)) else none)=_
 rw [if_pos h]
theorem qb6m{xs ys:List PyData}(h:xs.length + ys.length <= sizeLine):fAdd (.list xs) (.list ys)=some (.list (xs ++ ys)):=by
 show(if xs.length + ys.length <= sizeLine then some (PyData.list (xs ++ ys)) else none)=_
 rw [if_pos h]
theorem fAdd_t{xs ys:List PyData}(h:xs.length + ys.length <= sizeLine):fAdd (.tuple xs) (.tuple ys)=some (.tuple (xs ++ ys)):=by
 show(if xs.length + ys.length <= sizeLine then some (PyData.tuple (xs ++ ys)) else none)=_
 rw [if_pos h]
theorem qa4v{xs:List PyData}{i:Int}{k:PyData->Prop}(h0:0 <= i)(h1:i < xs.length)(h:∀ d,d ∈ xs->xs[i.toNat]? = some d->k d):need (atI xs i) k:=by
 obtain⟨x,e1,e2,e3⟩:=atI_in h0 h1
 exact need_mk e1 (h x e2 e3)
theorem qc2g{α:Type}{xs r:List α}{i:Nat}{x:α}(h:xs.drop i=x :: r):xs[i]? = some x/\xs.drop (i + 1)=r:=by
 have hi:i < xs.length:=by
  by_cases h':i < xs.length
  ·exact h'
  ·rw [List.drop_eq_nil_of_le (by omega)] at h;cases h
 rw [List.drop_eq_getElem_cons hi] at h
 injection h with h1 h2
 exact⟨by rw [List.getElem?_eq_getElem hi,h1],h2⟩
theorem qc4f{α:Type}{xs:List α}{i:Nat}(hi:i <= xs.length)(h:xs.drop i=[]):i=xs.length:=by
 have:=congrArg List.length h
 simp at this
 omega
theorem qa3f{g:TDG}{b:TDS}{D:DEnds}{xs:List PyData}{ρ:Rho}(Pv:Nat->Rho->Prop)(h0:Pv 0 ρ)
  (hs:∀ (i:Nat) (x:PyData) (ρ:Rho) (N:Rho->Prop),xs[i]? = some x->Pv i ρ->(∀ ρ',Pv (i + 1) ρ'->N ρ')->g x ρ fun ρ1=>b { D with nx:=N,ct:=N,bk:=D.nx } ρ1)
  (hd:∀ ρ,Pv xs.length ρ->D.nx ρ):qa4t g b D xs ρ:=by
 have key:∀ (r:List PyData) (i:Nat),i <= xs.length->xs.drop i=r->∀ ρ,Pv i ρ->qa4t g b D r ρ:=fun r=>by
  induction r with
  | nil =>
   intro i hi e ρ p
   rw [qc4f hi e] at p
   exact hd ρ p
  | cons x r ih =>
   intro i hi e ρ p
   obtain⟨e1,e2⟩:=qc2g e
   have hlt:i < xs.length:=(List.getElem?_eq_some_iff.mp e1).1
   exact hs i x ρ _ e1 p fun ρ' p'=>ih (i + 1) hlt e2 ρ' p'
 exact key xs 0 (Nat.zero_le _) (by simp) ρ h0
end L2
end
section
namespace L2
open PySem PySem.Spec PyProof.Rows
def later(u:TDS)(D:DEnds)(ρ:Rho):Prop:=u D ρ
theorem qb9a{u:TDS}{D:DEnds}{ρ:Rho}(h:u D ρ):later u D ρ:=h
section
variable{t u b:TDS}{c tt:TDT}{D:DEnds}{ρ ρi:Rho}{i j n:Nat}{da db dc de te:TDE}{df:TDF}{daa:TDA}{f f':F2}{fl:F2L}{fc:FC}{fcl:FCL}{T:String}{dg g:TDG}{dgs:TDGs}{di:TDI}{x:PyData}{y:DV}{xs:List PyData}{ys:List DV}{fs:List Bool}{sp:DSp}
 {Q:DV->Rho->Prop} {QF:List PyData->Rho->Prop} {QB:Bool->Rho->Prop} {QA:List DV->Rho->Prop} {QR:RV->Rho->Prop} {QD:PyData->Rho->Prop} {N:Rho->Prop} {QL:L->Rho->Prop} {QLs:List L->Rho->Prop}
theorem dSeq_a:dSeq t u D ρ=t { D with nx:=later u D } ρ:=rfl
theorem dNext_a:dNext D ρ=D.nx ρ:=rfl
theorem qc4g:dBreak D ρ=D.bk ρ:=rfl
theorem dCont_a:dCont D ρ=D.ct ρ:=rfl
theorem dIf_a:dIf c t u D ρ=c ρ fun b ρ1=>if b=true then t D ρ1 else u D ρ1:=rfl
theorem dDrop_a:dDrop de D ρ=de ρ fun _ ρ1=>D.nx ρ1:=rfl
theorem dRet_a:dRet de D ρ=de ρ fun x ρ1=>fz ρ1 x fun y ρ2=>D.rt (.d y) ρ2:=rfl
theorem dRetF_a:dRetF df D ρ=df ρ fun xs ρ1=>D.rt (.new xs) ρ1:=rfl
theorem dRetN_a:dRetN D ρ=D.rt (.d .none) ρ:=rfl
noncomputable def ownAtJ:Option L->Option (List PyData)
 | some (.own xs)=>some xs
 | _=>none
theorem qc4h:ownAtJ (some (.own xs))=some xs:=rfl
theorem qc2h:qb3z i D ρ=need (ownAtJ (ρ[i]?.join)) fun xs=>D.rt (.new xs) (ρ.set i none):=rfl
theorem dSet_a:dSet i de D ρ=de ρ fun x ρ1=>fz ρ1 x fun y ρ2=>i < ρ2.length/\D.nx (ρ2.set i (some (.d y))):=rfl
theorem dSetF_a:dSetF i df D ρ=df ρ fun xs ρ1=>i < ρ1.length/\D.nx (ρ1.set i (some (.own xs))):=rfl
theorem dAsg_a:dAsg de dg D ρ=de ρ fun x ρ1=>fz ρ1 x fun y ρ2=>dg y ρ2 D.nx:=rfl
theorem dFor_a:dFor di dg b D ρ=di ρ fun xs ρ1=>qa4t dg b D xs ρ1:=rfl
theorem dVar_a:dVar i ρ Q=((ρ[i]?.join).isSome=true/\Q (.sl i) ρ):=rfl
theorem dC_a:dC x ρ Q=Q (.d x) ρ:=rfl
theorem dOp_a:dOp f da db ρ Q=da ρ fun x ρ1=>db ρ1 fun y ρ2=>need (qa0p ρ2 x) fun dx=>need (qa0p ρ2 y) fun dy=>need (f dx dy) fun z=>Q (.d z) ρ2:=rfl
theorem dOpF_a:dOpF fl da db ρ QF=da ρ fun x ρ1=>db ρ1 fun y ρ2=>need (qa0p ρ2 x) fun dx=>need (qa0p ρ2 y) fun dy=>need (fl dx dy) fun z=>QF z ρ2:=rfl
theorem dCB_a:dCB fc daa ρ Q=daa ρ fun xs ρ1=>need (qa3p ρ1 xs) fun ds=>need (fc ds) fun z=>Q (.d z) ρ1:=rfl
theorem dCBF_a:dCBF fcl daa ρ QF=daa ρ fun xs ρ1=>need (qa3p ρ1 xs) fun ds=>need (fcl ds) fun z=>QF z ρ1:=rfl
theorem dTup_a:dTup daa ρ Q=daa ρ fun xs ρ1=>fzs ρ1 xs fun ys ρ2=>ys.length <= 1000000/\Q (.d (.tuple ys)) ρ2:=rfl
theorem dLst_a:dLst daa ρ QF=daa ρ fun xs ρ1=>fzs ρ1 xs fun ys ρ2=>ys.length <= 1000000/\QF ys ρ2:=rfl
theorem dFz_a:dFz df ρ Q=df ρ fun xs ρ1=>Q (.d (.list xs)) ρ1:=rfl
theorem dNil_a:dNil ρ QA=QA [] ρ:=rfl
theorem dCons_a:qa5y de daa ρ QA=de ρ fun x ρ1=>daa ρ1 fun xs ρ2=>QA (x :: xs) ρ2:=rfl
theorem dB_a:dB de ρ QB=de ρ fun x ρ1=>need (qa0p ρ1 x) fun d=>need (asB d) fun b=>QB b ρ1:=rfl
theorem dTru_a:dTru de ρ QB=de ρ fun x ρ1=>need (qa0p ρ1 x) fun d=>need (tru d) fun b=>QB b ρ1:=rfl
theorem dAnd_a{v w:TDT}:dAnd v w ρ QB=v ρ fun b ρ1=>if b=true then w ρ1 QB else QB false ρ1:=rfl
theorem dOr_a{v w:TDT}:dOr v w ρ QB=v ρ fun b ρ1=>if b=true then QB true ρ1 else w ρ1 QB:=rfl
theorem dNot_a{v:TDT}:dNot v ρ QB=v ρ fun b ρ1=>QB (!b) ρ1:=rfl
theorem dIfE_a:dIfE c da db ρ Q=c ρ fun k ρ1=>if k=true then da ρ1 Q else db ρ1 Q:=rfl
theorem dAndV_a:dAndV da db ρ Q=da ρ fun x ρ1=>need (qa0p ρ1 x) fun d=>need (asB d) fun k=>if k=true then db ρ1 Q else Q (.d (.bool false)) ρ1:=rfl
theorem dOrV_a:dOrV da db ρ Q=da ρ fun x ρ1=>need (qa0p ρ1 x) fun d=>need (asB d) fun k=>if k=true then Q (.d (.bool true)) ρ1 else db ρ1 Q:=rfl
theorem dNotV_a:dNotV da ρ Q=da ρ fun x ρ1=>need (qa0p ρ1 x) fun d=>need (asB d) fun k=>Q (.d (.bool (!k))) ρ1:=rfl
theorem qc4i:dChain f f' da db dc ρ Q=da ρ fun x ρ1=>db ρ1 fun y ρ2=>need (qa0p ρ2 x) fun dx=>need (qa0p ρ2 y) fun dy=>need (f dx dy) fun z=>need (asB z) fun k =>
 if k=true then dc ρ2 fun w ρ3=>need (qa0p ρ3 y) fun dy=>need (qa0p ρ3 w) fun dw=>need (f' dy dw) fun z'=>Q (.d z') ρ3 else Q (.d (.bool false)) ρ2:=rfl
theorem dIs_a:dIs T de ρ Q=de ρ fun x ρ1=>need (qa0p ρ1 x) fun d=>Q (.d (.bool (isD T d))) ρ1:=rfl
noncomputable def qa8z:Option L->Option (OK × List PyData)
 | some (.own xs)=>some (.o,xs)
 | some (.bor xs)=>some (.b,xs)
 | _=>none
theorem ownB_j:ownB ρ i=qa8z (ρ[i]?.join):=rfl
theorem ownBJ_o:qa8z (some (.own xs))=some (.o,xs):=rfl
theorem ownBJ_b:qa8z (some (.bor xs))=some (.b,xs):=rfl
theorem okL_o:okL .o xs=.own xs:=rfl
theorem okL_b:okL .b xs=.bor xs:=rfl
theorem qc2i:qb4a i de ρ Q=need (qa8z (ρ[i]?.join)) fun _=>de ρ fun x ρ1=>fz ρ1 x fun y ρ2=>need (qa8z (ρ2[i]?.join)) fun o=>o.2.length <= 1000000/\Q (.d .none) (ρ2.set i (some (okL o.1 (o.2 ++ [y])))):=rfl
theorem dPop_a:dPop i ρ Q=need (qa8z (ρ[i]?.join)) fun o=>need o.2.getLast? fun y=>Q (.d y) (ρ.set i (some (okL o.1 o.2.dropLast))):=rfl
theorem qc4j:qa9u i di' de D ρ=de ρ fun x ρ1=>fz ρ1 x fun y ρ2=>need (qa8z (ρ2[i]?.join)) fun _=>di' ρ2 fun z ρ3=>need (qa0p ρ3 z) fun dz=>need (qa9u.asI dz) fun n=>need (qa8z (ρ3[i]?.join)) fun o=>need (ixN o.2.length n) fun j=>D.nx (ρ3.set i (some (okL o.1 (o.2.set j y)))):=rfl
theorem asI2_i{n:Int}:qa9u.asI (.int n)=some n:=rfl
theorem asI_i{n:Int}:asI (.int n)=some n:=rfl
theorem qc4k:qb3b i x ρ N=(i < ρ.length/\N (ρ.set i (some (.d x)))):=rfl
theorem dgTup_a:dgTup n dgs (.tuple xs) ρ N=(xs.length=n/\dgs xs ρ N):=rfl
theorem qc4l:qb6e dg dgs (x :: xs) ρ N=dg x ρ fun ρ1=>dgs xs ρ1 N:=rfl
theorem dgNil_a:dgNil [] ρ N=N ρ:=by unfold dgNil;simp
theorem diDat_a:diDat de ρ QF=de ρ fun x ρ1=>fz ρ1 x fun y ρ2=>need (seqD y) fun xs=>QF xs ρ2:=rfl
theorem qc4m:qb6h de ρ QF=de ρ fun x ρ1=>need (qa0p ρ1 x) fun d=>need (asI d) fun j=>sm62 j/\QF (rngD 0 j.toNat) ρ1:=rfl
theorem qc4n:qb3d fs sp daa ρ Q=daa ρ fun xs ρ1=>pass fs xs ρ1 fun ls ρ2=>((flOf 0 fs xs).map (·.2)).Nodup/\sp ls fun r outs=>match r with
 | .d x=>Q (.d x) (fills outs (flOf 0 fs xs) ρ2)
 | .new ys=>Q (.d (.list ys)) (fills outs (flOf 0 fs xs) ρ2):=rfl
theorem qc4o:dCallF fs sp daa ρ QF=daa ρ fun xs ρ1=>pass fs xs ρ1 fun ls ρ2=>((flOf 0 fs xs).map (·.2)).Nodup/\sp ls fun r outs=>match r with
 | .d _=>False
 | .new ys=>QF ys (fills outs (flOf 0 fs xs) ρ2):=rfl
theorem pass_n:pass [] [] ρ QLs=QLs [] ρ:=rfl
theorem pass_f:pass (false :: fs) (y :: ys) ρ QLs=fzL ρ y fun l ρ1=>pass fs ys ρ1 fun ls ρ2=>QLs (l :: ls) ρ2:=by cases y<;>rfl
noncomputable def ioJ:Option L->Option L
 | some l=>if isOw l then some (lend l) else none
 | none=>none
theorem pass_t:pass (true :: fs) (.sl i :: ys) ρ QLs=pass fs ys ρ fun ls ρ2=>need (ioJ (ρ2[i]?.join)) fun l=>QLs (l :: ls) ρ2:=rfl
theorem ioJ_o:ioJ (some (.own xs))=some (.bor xs):=rfl
theorem ioJ_b:ioJ (some (.bor xs))=some (.bor xs):=rfl
theorem ioJ_t:ioJ (some (.tape n))=some (.tape n):=rfl
def fzJ(l:Option L)(ρ:Rho)(i:Nat)(Q:PyData->Rho->Prop):Prop:=match l with
 | some (.d y)=>Q y ρ
 | some (.own xs)=>Q (.list xs) (ρ.set i (some (.d (.list xs))))
 | _=>False
theorem fz_d:fz ρ (.d x) QD=QD x ρ:=rfl
theorem fz_sl:fz ρ (.sl i) QD=fzJ (ρ[i]?.join) ρ i QD:=rfl
theorem fzJ_d:fzJ (some (.d x)) ρ i QD=QD x ρ:=rfl
theorem fzJ_o:fzJ (some (.own xs)) ρ i QD=QD (.list xs) (ρ.set i (some (.d (.list xs)))):=rfl
def fzLJ(l:Option L)(ρ:Rho)(i:Nat)(Q:L->Rho->Prop):Prop:=match l with
 | some (.d y)=>Q (.d y) ρ
 | some (.own xs)=>Q (.d (.list xs)) (ρ.set i (some (.d (.list xs))))
 | some .scr=>Q .scr ρ
 | _=>False
theorem fzL_d:fzL ρ (.d x) QL=QL (.d x) ρ:=rfl
theorem fzL_sl:fzL ρ (.sl i) QL=fzLJ (ρ[i]?.join) ρ i QL:=rfl
theorem fzLJ_d:fzLJ (some (.d x)) ρ i QL=QL (.d x) ρ:=rfl
theorem fzLJ_o:fzLJ (some (.own xs)) ρ i QL=QL (.d (.list xs)) (ρ.set i (some (.d (.list xs)))):=rfl
theorem fzLJ_s:fzLJ (some .scr) ρ i QL=QL .scr ρ:=rfl
theorem fzs_n:fzs ρ [] QF=QF [] ρ:=rfl
theorem fzs_c:fzs ρ (y :: ys) QF=fz ρ y fun z ρ1=>fzs ρ1 ys fun zs ρ2=>QF (z :: zs) ρ2:=rfl
theorem flOf_n:flOf n [] ys=[]:=by cases ys<;>rfl
theorem flOf_f:flOf n (false :: fs) (y :: ys)=flOf (n + 1) fs ys:=by cases y<;>rfl
theorem flOf_t:flOf n (true :: fs) (.sl i :: ys)=(n,i) :: flOf (n + 1) fs ys:=rfl
noncomputable def qa8j(l:Option L)(ρi:Rho)(j i:Nat)(ρ:Rho):Rho:=match l with
 | some l0=>if isOw l0 then ρ.set i (qa6a ρi l0 j) else ρ
 | none=>ρ
theorem fills_n:fills ρi [] ρ=ρ:=rfl
theorem fills_c{r:List (Nat × Nat)}:fills ρi ((j,i) :: r) ρ=fills ρi r (qa8j (ρ[i]?.join) ρi j i ρ):=rfl
theorem qc4p:qa8j (some (.own xs)) ρi j i ρ=ρ.set i ((ρi[j]?.join).bind (qa5z (.own xs))):=rfl
theorem qc4q:qa8j (some (.bor xs)) ρi j i ρ=ρ.set i ((ρi[j]?.join).bind (qa5z (.bor xs))):=rfl
theorem qc4r:qa8j (some (.tape n)) ρi j i ρ=ρ.set i ((ρi[j]?.join).bind (qa5z (.tape n))):=rfl
theorem qc4s:qa8j (some (.d x)) ρi j i ρ=ρ:=rfl
theorem qc4t:qa8j (some .scr) ρi j i ρ=ρ:=rfl
theorem qc4u:qa8j none ρi j i ρ=ρ:=rfl
theorem relab_o:qa5z (.own xs) (.bor x')=some (.own x'):=rfl
theorem relab_b:qa5z (.bor xs) (.bor x')=some (.bor x'):=rfl
theorem relab_t{m:Nat}:qa5z (.tape n) (.tape m)=some (.tape m):=rfl
theorem lend_o:lend (.own xs)=.bor xs:=rfl
theorem lend_b:lend (.bor xs)=.bor xs:=rfl
theorem lend_t:lend (.tape n)=.tape n:=rfl
theorem lend_d:lend (.d x)=.d x:=rfl
theorem lend_s:lend .scr=.scr:=rfl
theorem dComp_a{cap:List (Str × Nat)}:dComp n cap di g tt te ρ QF=di ρ fun xs ρ1=>xs.length <= 1000000/\(cap.map (·.2)).Nodup/\qa2h g tt te (fun acc ρ'=>QF acc (fills ρ' (flC n cap) ρ1)) xs (capR n cap ρ1) []:=rfl
theorem flC_n:flC n []=[]:=rfl
theorem flC_c{p:Str × Nat}{r:List (Str × Nat)}:flC n (p :: r)=(n,p.2) :: flC (n + 1) r:=rfl
theorem capR_a{cap:List (Str × Nat)}:capR n cap ρ=List.replicate n none ++ cap.map fun p=>(ρ[p.2]?.join).map lend:=rfl
theorem deref_d:qa0p ρ (.d x)=some x:=rfl
theorem qc4v:qa0p ρ (.sl i)=(ρ[i]?.join).bind qa9s:=rfl
theorem qc4w:qa9s (.d x)=some x:=rfl
theorem qc4x:qa9s (.own xs)=some (.list xs):=rfl
theorem qc4y:qa9s (.bor xs)=some (.list xs):=rfl
theorem qc4z:qa3p ρ []=some []:=rfl
theorem qc5a:qa3p ρ (y :: ys)=(qa0p ρ y).bind fun z=>(qa3p ρ ys).map (z :: ·):=rfl
theorem asB_b{b:Bool}:asB (.bool b)=some b:=rfl
theorem tru_b{b:Bool}:tru (.bool b)=some b:=rfl
theorem tru_n:tru .none=some false:=rfl
theorem tru_i{i:Int}:tru (.int i)=some (i != 0):=rfl
theorem tru_l:tru (.list xs)=some (!xs.isEmpty):=rfl
theorem tru_t:tru (.tuple xs)=some (!xs.isEmpty):=rfl
theorem seqD_l:seqD (.list xs)=some xs:=rfl
theorem seqD_t:seqD (.tuple xs)=some xs:=rfl
theorem mask_n:mask [] ρ=[]:=rfl
theorem mask_d{ls:List L}{l:Option L}:mask (.d x :: ls) (l :: ρ)=none :: mask ls ρ:=rfl
theorem mask_s{ls:List L}{l:Option L}:mask (.scr :: ls) (l :: ρ)=none :: mask ls ρ:=rfl
theorem mask_t{ls:List L}{l:Option L}:mask (.tape n :: ls) (l :: ρ)=l :: mask ls ρ:=rfl
theorem mask_b{ls:List L}{l:Option L}:mask (.bor xs :: ls) (l :: ρ)=l :: mask ls ρ:=rfl
end
end L2
namespace L2
open PySem
theorem qb0n{g:TDG}{tt:TDT}{te:TDE}{Q:List PyData->Rho->Prop}{xs:List PyData}{ρ:Rho}(Sh:Rho->Prop)(fm:PyData->Option PyData)(h0:Sh ρ)
  (hs:∀ (x:PyData) (ρ:Rho) (N:Rho->Option PyData->Prop),x ∈ xs->Sh ρ->(∀ ρ',Sh ρ'->N ρ' (fm x))->g x ρ fun ρ1=>tt ρ1 fun b ρ2=>if b=true then te ρ2 fun y ρ3=>fz ρ3 y fun z ρ4=>N ρ4 (some z) else N ρ2 none)
  (hd:∀ ρ,Sh ρ->Q (xs.filterMap fm) ρ):qa2h g tt te Q xs ρ []:=by
 have key:∀ (r:List PyData) (acc:List PyData) (ρ:Rho),(∀ x ∈ r,x ∈ xs)->Sh ρ->(∀ ρ,Sh ρ->Q (acc ++ r.filterMap fm) ρ)->qa2h g tt te Q r ρ acc:=fun r=>by
  induction r with
  | nil=>intro acc ρ _ h hq;have:=hq ρ h;show Q acc ρ;simpa using this
  | cons x r ih =>
   intro acc ρ hm h hq
   have step:=hs x ρ (fun ρ' o=>match o with | some z=>qa2h g tt te Q r ρ' (acc ++ [z]) | none=>qa2h g tt te Q r ρ' acc) (hm x List.mem_cons_self) h fun ρ' h'=>?_
   ·exact step
   ·cases e:fm x with
    | none =>
     refine ih acc ρ' (fun y hy=>hm y (List.mem_cons_of_mem _ hy)) h' fun ρ2 h2=>?_
     have:=hq ρ2 h2
     rwa [List.filterMap_cons_none e] at this
    | some z =>
     refine ih (acc ++ [z]) ρ' (fun y hy=>hm y (List.mem_cons_of_mem _ hy)) h' fun ρ2 h2=>?_
     have:=hq ρ2 h2
     rw [List.filterMap_cons_some e] at this
     simpa using this
 exact key xs [] ρ (fun _ h=>h) h0 fun ρ h=>by simpa using hd ρ h
theorem qa3w{c A B:Prop}[Decidable c](h1:c->A)(h2:¬ c->B):if decide c=true then A else B:=by
 by_cases h:c
 ·rw [if_pos (decide_eq_true h)];exact h1 h
 ·rw [if_neg (by simpa using h)];exact h2 h
theorem ite_b{b:Bool}{A B:Prop}(h1:b=true->A)(h2:b=false->B):if b=true then A else B:=by
 cases b
 ·rw [if_neg Bool.false_ne_true];exact h2 rfl
 ·rw [if_pos rfl];exact h1 rfl
end L2
namespace L2
theorem ite_or{a b A B:Prop}[Decidable a][Decidable b](h1:a ∨ b->A)(h2:¬ a->¬ b->B):if decide a=true then A else if decide b=true then A else B:=
 qa3w (fun c=>h1 (.inl c)) fun c=>qa3w (fun c'=>h1 (.inr c')) fun c'=>h2 c c'
theorem qb9b{a b A B:Prop}[Decidable a][Decidable b](h1:a->b->A)(h2:¬ (a/\b)->B):if decide a=true then(if decide b=true then A else B) else B:=
 qa3w (fun c=>qa3w (fun c'=>h1 c c') fun c'=>h2 fun z=>c' z.2) fun c=>h2 fun z=>c z.1
end L2
end
section
namespace L2
open PySem PySem.Spec PyProof.Rows
abbrev TDO:=Rho->(Option Int->Rho->Prop)->Prop
section
variable{K:PySem.W.Frag}{c:Rc}{O:Own}{ρ:Rho}{σ:St}{H H':Hp}{S S':Addr->Prop}
def AdO(K:PySem.W.Frag)(t:TO)(dt:TDO):Prop:=∀ (c:Rc) (O:Own) (ρ:Rho) (σ:St) (H:Hp) (Qd:Option Int->Rho->Prop) (Q:Option Int->Hp->Prop),Rel K c O ρ σ H->dt ρ Qd ->
 (∀ o ρ' O' H',Qd o ρ'->Rel K c O' ρ' σ H'->Pers K (live c O) H (live c O') H'->Q o H')->t σ H Q
noncomputable def qb6n:TDO:=fun ρ Q=>Q none ρ
def qb6o(de:TDE):TDO:=fun ρ Q=>de ρ fun x ρ1=>need (qa0p ρ1 x) fun d=>need (asI d) fun i=>Q (some i) ρ1
theorem ao_none:AdO K qb8n qb6n:=fun c O ρ σ H Qd Q R h k=>k _ _ _ _ h R .refl
theorem ao_some{t:TE}{de:TDE}(h:AdE K t de):AdO K (tPart t) (qb6o de):=fun c O ρ σ H Qd Q R q k =>
 h c O ρ σ H _ _ R q fun x ρ1 O1 v H1 h1 R1 P1 a1=>by
  obtain⟨d,e1,hn6⟩:=ne (h1)
  obtain⟨i,e2,h2⟩:=ne (hn6)
  exact⟨i,qb6g (R1.top a1 e1) e2,k _ _ _ _ h2 R1 P1⟩
noncomputable def cutD(xs:List PyData)(lo hi:Option Int):List PyData:=(xs.drop (HT.sIx xs.length 0 lo)).take (HT.sIx xs.length xs.length hi - HT.sIx xs.length 0 lo)
theorem qa0b.cut{ds:List PyData}{vs:List V}(h:qa0b K H S ds vs)(lo hi:Option Int):qa0b K H S (cutD ds lo hi) (cutV vs lo hi):=by
 unfold cutD cutV
 rw [h.length]
 exact(h.drop _).take _
abbrev FSl:=PyData->Option Int->Option Int->Option PyData
def dSl(f:FSl)(de:TDE)(dl dh:TDO):TDE:=fun ρ Q=>de ρ fun x ρ1=>dl ρ1 fun lo ρ2=>dh ρ2 fun hi ρ3=>need (qa0p ρ3 x) fun d=>need (f d lo hi) fun z=>Q (.d z) ρ3
def AdSl(K:PySem.W.Frag)(r:V->Option Int->Option Int->Hp->VK->Prop)(f:FSl):Prop:=∀ (S:Addr->Prop) (H:Hp) (x:V) (d z:PyData) (lo hi:Option Int) (Q:VK),Frs S H->AtT K H S d x->f d lo hi=some z->(∀ v H',Same H H'->AtD K H' S z v->Q v H')->r x lo hi H Q
theorem ad_sl{r:V->Option Int->Option Int->Hp->VK->Prop}{f:FSl}{te:TE}{tl th:TO}{de:TDE}{dl dh:TDO}(hr:AdSl K r f)(he:AdE K te de)(hl:AdO K tl dl)(hh:AdO K th dh):AdE K (tSl r te tl th) (dSl f de dl dh):=by
 intro c O ρ σ H Qd Q R h k
 refine he c O ρ σ H _ _ R h fun x ρ1 O1 v H1 h1 R1 P1 a1=>?_
 refine hl c O1 ρ1 σ H1 _ _ R1 h1 fun lo ρ2 O2 H2 h2 R2 P2=>?_
 refine hh c O2 ρ2 σ H2 _ _ R2 h2 fun hi ρ3 O3 H3 h3 R3 P3=>?_
 obtain⟨d,e1,hn5⟩:=ne (h3)
 obtain⟨z,e2,h4⟩:=ne (hn5)
 refine hr (live c O3) H3 v d z lo hi Q R3.frsLive (R3.top ((a1.pers P2).pers P3) e1) e2 fun w H4 s4 a4=>?_
 exact k _ _ _ _ _ h4 (R3.grow s4) (((P1.trans P2).trans P3).trans (.same s4)) a4
noncomputable def fSlT:FSl
 | .tuple xs,lo,hi=>if HT.sIx xs.length 0 lo=0/\HT.sIx xs.length xs.length hi=xs.length then none else some (.tuple (cutD xs lo hi))
 | _,_,_=>none
theorem ad_slT:AdSl K (rSlT K) fSlT:=by
 intro S H x d z lo hi Q f hx e k
 unfold fSlT at e
 split at e
 ·split at e
  ·cases e
  ·rename_i hn
   cases e
   obtain⟨a,vs,rfl,h1,h2⟩:=hx.tup
   exact⟨a,vs,rfl,h1,by rw [h2.length];exact hn,fun p hp=>k _ _ (qa0t hp _) (qa8g hp (h2.cut lo hi))⟩
 ·cases e
def Tab(K:PySem.W.Frag)(w:World)(mg:Str->Option Value)(x:Str)(tab:List (Str × PyData)):Prop:=∃ (a:Addr) (kvs:List (Str × V)),mg x=some (.ref a)/\KDict K w a kvs/\∀ z d,tab.lookup z=some d->∃ v,kvs.lookup z=some v/\∀ (S:Addr->Prop) (H:Hp),AtD K H S d v
noncomputable def fTab(tab:List (Str × PyData)):PyData->Option PyData
 | .str x=>tab.lookup x
 | _=>none
def dTab(tab:List (Str × PyData))(de:TDE):TDE:=fun ρ Q=>de ρ fun x ρ1=>need (qa0p ρ1 x) fun d=>need (fTab tab d) fun z=>Q (.d z) ρ1
theorem ad_tab{w:World}{a:Addr}{kvs:List (Str × V)}{tab:List (Str × PyData)}{t:TE}{de:TDE}(hD:KDict K w a kvs)(hT:∀ z d,tab.lookup z=some d->∃ v,kvs.lookup z=some v/\∀ (S:Addr->Prop) (H:Hp),AtD K H S d v)(h:AdE K t de):AdE K (tOp (rIxK K w) (tC (.ref a)) t) (dTab tab de):=fun c O ρ σ H Qd Q R q k =>
 h c O ρ σ H _ _ R q fun x ρ1 O1 v H1 h1 R1 P1 a1=>by
  obtain⟨d,e1,hn4⟩:=ne (h1)
  obtain⟨z,e2,h2⟩:=ne (hn4)
  have a2:=R1.top a1 e1
  cases d with
  | str y =>
   obtain⟨u,e3,e4⟩:=hT y z e2
   exact⟨a,kvs,y,u,rfl,hD,a2.str,e3,k _ _ _ _ _ h2 R1 P1 (e4 _ _)⟩
  | _=>cases e2
def diRev(de:TDE):TDI:=fun ρ Q=>de ρ fun x ρ1=>need (qa0p ρ1 x) fun d=>need (asT d) fun xs=>Q xs.reverse ρ1
 where asT:PyData->Option (List PyData)
  | .tuple xs=>some xs
  | _=>none
theorem qc0k{a:Addr}{vs:List V}{xs:List PyData}(h1:SqT K H a vs)(h2:qa0b K H S xs vs):qa8h K S H (Itrv K a vs.length) xs.reverse:=fun S' H' P=>by
 obtain⟨b,ws,e,h3,h4⟩:=qa3e (P _ _ (qa3j h1 h2))
 cases e
 have hl:ws.length=vs.length:=by rw [h4.length,h2.length]
 refine⟨fun i x e=>?_,?_⟩
 ·obtain⟨w,e1,e2⟩:=h4.reverse.get e
  refine⟨⟨ws,w,h3,hl,e1⟩,fun v H'' y=>?_⟩
  obtain⟨rfl,y⟩:=y
  have e3:=y ws h3
  rw [e1] at e3;cases e3
  exact⟨Same.refl _,e2⟩
 ·show vs.length=xs.reverse.length
  rw [List.length_reverse,h2.length]
theorem ai_rev{t:TE}{de:TDE}(h:AdE K t de):AdI K (iRev K t) (diRev de):=fun c O ρ σ H Qd Q R q k =>
 h c O ρ σ H _ _ R q fun x ρ1 O1 v H1 h1 R1 P1 a1=>by
  obtain⟨d,e1,hn3⟩:=ne (h1)
  obtain⟨xs,e2,h2⟩:=ne (hn3)
  have a2:=R1.top a1 e1
  cases d with
  | tuple ys =>
   cases e2
   obtain⟨a,vs,rfl,h3,h4⟩:=a2.tup
   exact⟨a,vs,rfl,h3,k _ _ _ _ _ h2 R1 P1 (qc0k h3 h4)⟩
  | _=>cases e2
noncomputable def qa7r(hi:Int)(n:Nat):List PyData:=(List.range n).map fun i=>.int (hi - (i:Nat))
theorem qb7p{hi:Int}{n:Nat}:qa8h K S H (Itd hi n) (qa7r hi n):=fun S' H' P=>by
 have hl:(qa7r hi n).length=n:=by simp [qa7r]
 refine⟨fun i x e=>?_,by rw [hl];exact Nat.le_refl _⟩
 have hi':i < n:=by rw [← hl];exact(List.getElem?_eq_some_iff.mp e).1
 have ex:x=.int (hi - (i:Nat)):=by
  simp only [qa7r,List.getElem?_map,List.getElem?_range hi',Option.map_some] at e
  exact(Option.some.inj e).symm
 subst ex
 refine⟨hi',fun v H'' y=>?_⟩
 obtain⟨rfl,rfl⟩:=y
 exact⟨Same.refl _,qa2e _⟩
def sm60(i:Int):Prop:=-(2 ^ 60) <= i/\i < 2 ^ 60
def qa9y(da:TDA):TDI:=fun ρ Q=>da ρ fun xs ρ1=>need (qa3p ρ1 xs) fun ds=>need (three ds) fun p=>(sm60 p.1/\sm60 p.2)/\Q (qa7r p.1 (p.1 - p.2).toNat) ρ1
 where three:List PyData->Option (Int × Int)
  | [.int i,.int j,.int (-1)]=>some (i,j)
  | _=>none
theorem ai_down{ta:TA}{da:TDA}(ha:AdA K ta da):AdI K (iDown ta) (qa9y da):=fun c O ρ σ H Qd Q R q k =>
 ha c O ρ σ H _ _ R q fun xs ρ1 O1 vs H1 h1 R1 P1 a1=>by
  obtain⟨ds,e1,hn2⟩:=ne (h1)
  obtain⟨p,e2,hn7⟩:=ne (hn2)
  obtain⟨hp,h2⟩:=hn7
  have a2:=R1.tops a1 e1
  unfold qa9y.three at e2
  split at e2
  ·cases e2
   cases a2 with
   | cons x1 t=>cases t with
    | cons x2 t=>cases t with
     | cons x3 t =>
      cases t
      exact⟨_,_,by rw [x1.int,x2.int,x3.int],⟨hp.1.1,hp.1.2,hp.2.1,hp.2.2⟩,k _ _ _ _ _ h2 R1 P1 qb7p⟩
  ·cases e2
theorem atV_int{i:Int}:AtV K S σ H (.d (.int i)) (.int i):=(qa2e i:AtD K H S (.int i) (.int i))
def dNeg(de:TDE):TDE:=fun ρ Q=>de ρ fun x ρ1=>need (qa0p ρ1 x) fun d=>need (asI d) fun i=>Q (.d (.int (-i))) ρ1
theorem ad_neg{t:TE}{de:TDE}(h:AdE K t de):AdE K (tUn (rU fun i=>.int (-i)) t) (dNeg de):=fun c O ρ σ H Qd Q R q k =>
 h c O ρ σ H _ _ R q fun x ρ1 O1 v H1 h1 R1 P1 a1=>by
  obtain⟨d,e1,hn1⟩:=ne (h1)
  obtain⟨i,e2,h2⟩:=ne (hn1)
  exact⟨i,qb6g (R1.top a1 e1) e2,k _ _ _ _ _ h2 R1 P1 atV_int⟩
end
section
variable{X:Cx}{e a b:Expr}{de da db:TDE}{lo hi:Option Expr}{dl dh:TDO}{tg:Expr}{pos p2:Pos}
def DO(X:Cx)(e:Option Expr)(dt:TDO):Prop:=∃ t,PO X e t/\AdO X.K t dt
theorem do_none:DO X none qb6n:=⟨_,po_none,ao_none⟩
theorem do_some(h:DE X e de):DO X (some e) (qb6o de):=by obtain⟨_,p,a⟩:=h;exact⟨_,po_some p,ao_some a⟩
theorem qc5b{r:V->Option Int->Option Int->Hp->VK->Prop}{f:FSl}(hr:SlR X r)(ha:AdSl X.K r f)(he:DE X e de)(hl:DO X lo dl)(hu:DO X hi dh):DE X (.Subscript e (.Slice lo hi none p2) pos) (dSl f de dl dh):=
 by obtain⟨_,p,a⟩:=he;obtain⟨_,p',a'⟩:=hl;obtain⟨_,p3,a3⟩:=hu;exact⟨_,qc3i hr p p' p3,ad_sl ha a a' a3⟩
theorem de_tab{x:Str}{p:Pos}{tab:List (Str × PyData)}(hT:Tab X.K X.w X.mg x tab)(hg:Gl X x)(he:DE X b de)(hs:qb3u b) (hd:(x == ("__debug__" : Str))=false:=by decide):DE X (.Subscript (.Name x p) b pos) (dTab tab de):=by
 obtain⟨a,kvs,hm,hD,hv⟩:=hT
 obtain⟨t,pt,at_⟩:=he
 exact⟨_,qa3m qc3s (pe_glob hg hm (v:=.ref a) rfl hd) pt hs,ad_tab hD hv at_⟩
theorem di_rev{p:Pos} (hg:Gl X "reversed") (hm:X.mg "reversed" = none) (hl:DE X e de) (hs:starEach [e] X.env=[(false,eval e X.env)]:=by rfl):DI X tg (.Call (.Name "reversed" p) [e] [] pos) (diRev de):=
 by obtain⟨_,p,a⟩:=hl;exact⟨_,pi_rev hg hm p hs,ai_rev a⟩
theorem di_down{p:Pos}{c:Expr}{daa:TDA} (hg:Gl X "range") (hm:X.mg "range" = none) (ha:DA X [a,b,c] daa) (hs:starEach [a,b,c] X.env=(false,eval a X.env) :: starEach [b,c] X.env:=by rfl) (hs2:(backTo pos (starEach [b,c] X.env)).any (·.1)=false:=by rfl):DI X tg (.Call (.Name "range" p) [a,b,c] [] pos) (qa9y daa):=
 by obtain⟨_,p,a⟩:=ha;exact⟨_,pi_down hg hm p hs hs2,ai_down a⟩
theorem de_neg(h:DE X a da):DE X (.UnaryOp .USub a pos) (dNeg da):=by obtain⟨_,p,a⟩:=h;exact⟨_,pe_un un_neg p,ad_neg a⟩
end
section
variable{ρ:Rho}{de:TDE}{daa:TDA}{dl dh:TDO}{f:FSl}{tab:List (Str × PyData)}{Q:DV->Rho->Prop}{QF:List PyData->Rho->Prop}{QO:Option Int->Rho->Prop}{xs:List PyData}{x:Str}{i j:Int}
theorem dSl_a:dSl f de dl dh ρ Q=de ρ fun x ρ1=>dl ρ1 fun lo ρ2=>dh ρ2 fun hi ρ3=>need (qa0p ρ3 x) fun d=>need (f d lo hi) fun z=>Q (.d z) ρ3:=rfl
theorem qc5c:qb6n ρ QO=QO none ρ:=rfl
theorem qc5d:qb6o de ρ QO=de ρ fun x ρ1=>need (qa0p ρ1 x) fun d=>need (asI d) fun i=>QO (some i) ρ1:=rfl
theorem dTab_a:dTab tab de ρ Q=de ρ fun x ρ1=>need (qa0p ρ1 x) fun d=>need (fTab tab d) fun z=>Q (.d z) ρ1:=rfl
theorem fTab_s:fTab tab (.str x)=tab.lookup x:=rfl
theorem diRev_a:diRev de ρ QF=de ρ fun x ρ1=>need (qa0p ρ1 x) fun d=>need (diRev.asT d) fun xs=>QF xs.reverse ρ1:=rfl
theorem asT_t:diRev.asT (.tuple xs)=some xs:=rfl
theorem qc5e:qa9y daa ρ QF=daa ρ fun xs ρ1=>need (qa3p ρ1 xs) fun ds=>need (qa9y.three ds) fun p=>(sm60 p.1/\sm60 p.2)/\QF (qa7r p.1 (p.1 - p.2).toNat) ρ1:=rfl
theorem three_a:qa9y.three [.int i,.int j,.int (-1)]=some (i,j):=rfl
theorem dNeg_a:dNeg de ρ Q=de ρ fun x ρ1=>need (qa0p ρ1 x) fun d=>need (asI d) fun i=>Q (.d (.int (-i))) ρ1:=rfl
end
end L2
namespace L2
open PySem
theorem fRep_l{xs:List PyData}{j:Int}(h:-(2 ^ 63) <= j/\j < 2 ^ 63/\xs.length * j.toNat <= sizeLine):fRep (.list xs) (.int j)=some (List.replicate j.toNat xs).flatten:=by
 unfold fRep
 exact if_pos h
theorem qb4z{c:TDT}{b:TDS}{D:DEnds}{ρ:Rho}(W:Nat->Rho->Prop)(m:Nat)(h0:W m ρ)
  (hs:∀ (m:Nat) (ρ:Rho) (N:Rho->Prop),W m ρ->(∀ m' ρ',m' < m->W m' ρ'->N ρ')->c ρ fun k ρ1=>if k=true then b { D with nx:=N,ct:=N,bk:=D.nx } ρ1 else D.nx ρ1):qb6f c b D ρ:=
 ⟨W,⟨m,h0⟩,fun m ρ h=>hs m ρ _ h fun m' ρ' hm h'=>⟨m',hm,h'⟩⟩
end L2
end
section
namespace L2
open PySem PySem.Spec PyProof.Rows
section
variable{α:Type}{a b c d e:α}{l:List α}{x y:Str}{i j:Int}{r:List PyData}
theorem atI_0:atI (a :: l) 0=some a:=qa1f (j:=0) rfl
theorem atI_1:atI (a :: b :: l) 1=some b:=qa1f (j:=1) rfl
theorem atI_2:atI (a :: b :: c :: l) 2=some c:=qa1f (j:=2) rfl
theorem atI_3:atI (a :: b :: c :: d :: l) 3=some d:=qa1f (j:=3) rfl
theorem atI_4:atI (a :: b :: c :: d :: e :: l) 4=some e:=qa1f (j:=4) rfl
theorem flatD_s:qa1d (.str x)=true:=rfl
theorem flatD_i:qa1d (.int i)=true:=rfl
theorem inF_nil{z:PyData}:inF z []=false:=rfl
theorem inF_s:inF (.str x) (.str y :: r)=(decide (y=x) || inF (.str x) r):=by
 show((y == x) || inF (.str x) r)=_
 congr 1
theorem inF_i:inF (.int i) (.int j :: r)=(decide (j=i) || inF (.int i) r):=by
 show((j == i) || inF (.int i) r)=_
 congr 1
end
end L2
namespace L2
open PySem PySem.Spec PyProof.Rows
def spLaw(K:PySem.W.Frag):Sp:=fun vs H Q _=>∃ (a:Addr) (ns:List Int),vs=[.ref a]/\SqL K H a (ns.map V.int)/\Only H/\ns.length <= 63/\∀ H',Q (.bl true) H'
section
variable{P:Program}{w:World}{K:PySem.W.Frag}{mg:Str->Option Value}{base:Heap}
theorem rel_law{H:Hp}{a p:Addr}{ns:List Int}{n:Nat}(hO:Only H)(hS:SqL K H a (ns.map V.int))(hl:ns.length <= 63)(hp:H p=none) :
  Rel K { H0:=upd H p (.lst [.ref a,.int 0]),S:=fun b=>b ≠ p,P:=fun _=>False,M:=fun b=>b=p,A:=fun b=>b=p ∨ upd H p (.lst [.ref a,.int 0]) b=none,B:=fun b=>b=p,lent:=fun i=>if i=1 then some p else none,sa:=a,ns:=ns }
   (fun i=>if i=1 then some p else none) (some .scr :: some (.tape 0) :: List.replicate n none) (some (.ref a) :: some (.ref p) :: List.replicate n none) (upd H p (.lst [.ref a,.int 0])):=by
 have at_:∀ {i:Nat} {l:L},(some L.scr :: some (L.tape 0) :: List.replicate n none:Rho)[i]? = some (some l)->(i=0/\l=.scr) ∨ (i=1/\l=.tape 0):=fun{i l} e=>by
  match i,e with
  | 0,e=>cases e;exact .inl ⟨rfl,rfl⟩
  | 1,e=>cases e;exact .inr ⟨rfl,rfl⟩
  | i + 2,e =>
   rw [List.getElem?_cons_succ,List.getElem?_cons_succ,List.getElem?_replicate] at e
   split at e<;>cases e
 have own:∀ {i:Nat} {q:Addr},(if i=1 then some p else none)=some q->i=1/\q=p:=fun{i q} e=>by
  split at e
  ·cases e;exact⟨by assumption,rfl⟩
  ·cases e
 have sc:Scr K H a (ns.map V.int):=by
  refine⟨by simpa using hl,?_⟩
  rcases hS with(h | h) | h
  ·rcases hO a with z | ⟨o,xs,z⟩<;>rw [h] at z<;>cases z
  ·exact .inl h
  ·exact .inr h
 refine⟨fun i x e=>?_,fun i x e=>?_,fun i x e=>?_,fun i k e=>?_,fun i e=>?_,fun i j q e1 e2=>?_,fun i q e=>?_,fun q h=>?_,fun q h=>?_,fun b o _ h=>h,fun b h=>h,fun q h=>?_,fun q h=>?_,fun i q e l h1 h2=>e,sc.keep (S:=Any) (qa0t hp _).keep,by simp⟩
 ·rcases at_ e with⟨_,z⟩ | ⟨_,z⟩<;>cases z
 ·rcases at_ e with⟨_,z⟩ | ⟨_,z⟩<;>cases z
 ·rcases at_ e with⟨_,z⟩ | ⟨_,z⟩<;>cases z
 ·rcases at_ e with⟨_,z⟩ | ⟨rfl,z⟩
  ·cases z
  ·cases z;exact⟨p,if_pos rfl,rfl,qa0e⟩
 ·rcases at_ e with⟨rfl,_⟩ | ⟨_,z⟩
  ·rfl
  ·cases z
 ·rw [(own e1).1,(own e2).1]
 ·rw [(own e).2];exact⟨.inl rfl,_,qa0e⟩
 ·rcases h with h | h
  ·exact .inl h
  ·exact .inr h
 ·rintro rfl
  have h':upd H q (.lst [.ref a,.int 0]) q=none:=h
  rw [qa0e] at h';cases h'
 ·have h':q=p:=h
  subst h';exact⟨_,qa0e⟩
 ·rcases h with h | h
  ·exact h.elim
  ·have h':q=p:=h
   subst h';rw [qa0e];exact fun z=>nomatch z
theorem Fun.law{st:Stmt}{f:Addr}{fd:FuncData}{N':List Str}{k:Nat} (F:Fun K "law" "law" st f fd) (S:FnScope ("_law_script" :: "_law_tape" :: N') ["_law_script"] (qa0i st))
  (hbody:∀ (cdv:Value) (A:Around) (outer:List Env) (s:Shared) (H:Hp) (E:XK),Room k (A.deeper (envOfC "law" (qa0i st) s.heap.objs.size f cdv)) ->
   ∃ (st0:Stmt) (rest:List Stmt),qa3c st=st0 :: rest/\PS (cxOf CX0 P w K mg base ("_law_script" :: "_law_tape" :: N') "law" (qa0i st) f cdv A outer s H E).nox st0 (tAsg (tLst (qa2z (tVar 0) (qa2z (tC (.int 0)) tNil))) (qa3l 1)) /\
    ∃ dt,DSs (cxOf CX0 P w K mg base ("_law_script" :: "_law_tape" :: N') "law" (qa0i st) f cdv A outer s H E).nox rest dt/\dt { nx:=fun _=>False,rt:=fun r _=>r=.d (.bool true) } (some .scr :: some (.tape 0) :: List.replicate N'.length none)) :
  FnOk P w K mg base CX0 (k + 1) f fd ["_law_script"] (spLaw K):=by
 refine F.ok S (fun vs H Q E h=>?_) (fun cdv A outer s H vs Q E hr h=>?_)
 ·obtain⟨a,ns,rfl,_⟩:=h;rfl
 obtain⟨a,ns,rfl,hS,hO,hl,q⟩:=h
 obtain⟨st0,rest,eb,p0,dt,⟨t,pt,at_⟩,hd⟩:=hbody cdv A outer s H E hr
 rw [eb]
 refine⟨_,qa1i p0 pt,⟨.ref a,rfl,by show 2 <= sizeLine;decide,fun p hp=>?_⟩⟩
 have e:(start ("_law_script" :: "_law_tape" :: N') [.ref a]).set 1 (some (.ref p))=some (.ref a) :: some (.ref p) :: List.replicate N'.length none:=by
  unfold start
  simp [List.replicate_succ]
 show t _ ((start ("_law_script" :: "_law_tape" :: N') [.ref a]).set 1 (some (.ref p))) (upd H p (.lst [.ref a,.int 0]))
 rw [e]
 refine at_ _ _ _ _ _ _ _ (rel_law hO hS hl hp) ⟨fun _ _ _ _ _ _ z=>(show False from z).elim,fun r O1 ρ1 σ1 H1 v h z=>?_,fun _ _ _ _ _ _ z=>(show False from z).elim,fun _ _ _ _ _ _ z=>(show False from z).elim,fun _ z=>z,fun _ z=>.inr z⟩ hd
 have z':r=.d (.bool true):=z
 subst z'
 have ev:=qa4s h.2
 subst ev
 exact q H1
end
end L2
end
section
namespace L2
open PySem PySem.Spec PyProof.Rows
section
variable{P:Program}{w:World}{K:PySem.W.Frag}{mg:Str->Option Value}{base:Heap}
theorem qb9c{n:Nat}{f:Addr}{fd:FuncData}{ps:List Str}{ds:DSp}(h:∀ ls Q,¬ ds ls Q):FnOk P w K mg base CX0 n f fd ps (spD K ds):=by
 have no:∀ vs H Q E,¬ spD K ds vs H Q E:=fun vs H Q E z=>by
  obtain⟨c,O,ls,Qd,_,_,_,_,_,_,z,_⟩:=z
  exact h _ _ z
 exact⟨fun vs H Q E h=>absurd h (no vs H Q E),fun A outer s H args us vs Q E _ _ _ _ h=>absurd h (no vs H Q E)⟩
theorem tab_all{l:List (Str × PyData × V)}(h:∀ q ∈ l,∀ (S:Addr->Prop) (H:Hp),AtD K H S q.2.1 q.2.2):∀ z d,(l.map fun q=>(q.1,q.2.1)).lookup z=some d->∃ v,(l.map fun q=>(q.1,q.2.2)).lookup z=some v/\∀ (S:Addr->Prop) (H:Hp),AtD K H S d v:=by
 induction l with
 | nil=>intro z d e;simp at e
 | cons q r ih =>
  intro z d e
  simp only [List.map_cons,List.lookup_cons] at e ⊢
  by_cases c:(z == q.1)=true
  ·rw [c] at e ⊢
   cases e
   exact⟨_,rfl,h q (List.mem_cons_self ..)⟩
  ·rw [Bool.not_eq_true] at c
   rw [c] at e ⊢
   exact ih (fun q' m=>h q' (List.mem_cons_of_mem _ m)) z d e
theorem qa5d{p:Addr}{its:Array Value}{n:Nat}{o:Obj}{ds:List PyData}{vs:List V}(l:K.lookup p=some o) (hc:o.cls=.type "tuple") (hd:o.data=.seq its n) (hz:its.size <= sizeLine) (hv:Vals vs its.toList) (ha:∀ (S:Addr->Prop) (H:Hp),qa0b K H S ds vs) (hn:o.dict=none:=by rfl):∀ (S:Addr->Prop) (H:Hp),AtD K H S (.tuple ds) (.ref p):=fun S H =>
 qa3j (.inr ⟨o,its,n,l,⟨hc,hn⟩,hd,hz,hv⟩) (ha S H)
end
end L2
end
section
namespace L2
open PySem PySem.Spec PyProof.Rows
def ItX(b:Bool)(h:Heap)(it a:Addr)(k:Nat):Prop:=match b with | true=>h.IsListIter it a k | false=>h.IsTupleIter it a k
def SqX(b:Bool)(h:Heap)(a:Addr)(xs:Array Value):Prop:=match b with | true=>h.IsList a xs | false=>h.IsTuple a xs
section
variable{prog:Program}{w:World}{A:Around}{E:Value->Shared->Prop}{s:Shared}
end
section
variable{X:Cx}{pins:List (Addr × Obj)}{σ:List (Option V)}{H H':Hp}{s:Shared}{h':Heap}
theorem Inv.turnedL{t':Nat}{ch:List Addr}(I:Inv X pins σ H s)(k:∀ b o,b ∉ ch->s.heap.get? b=some o->h'.get? b=some o)(hf:∀ b ∈ ch,FpOk X pins H b):Inv X pins σ H { s with heap:=h',toks:=t' }:=by
 have nit:∀ b u,H b=some u->b ∉ ch:=fun b u e z=>by have:=(hf b z).1;rw [e] at this;cases this
 have nl:X.env.locals ∉ ch:=fun z=>(hf _ z).2.1 rfl
 refine I.step (g':=s.gens) (d':=s.drawn) (ch:=ch) (fun b hb=>⟨(hf b hb).2.2.2.1,(hf b hb).2.1,(hf b hb).2.2.2.2.1,(hf b hb).2.2.2.2.2⟩) (fun b o _ _ hc e _=>k b o hc e) (fun b o _ _ hc e _=>⟨o.slots,k b o hc e⟩) (fun _ _ _ _ n=>n)
  (fun b o hc e=>⟨o,k b o hc e⟩) (fun _ _ e=>e) (fun _ _ _ e=>e) (fun b ps e=>⟨#[],by rw [e];simp⟩) (fun m hm=>?_) (fun b u e=>?_) I.bare
 ·obtain⟨o,es,ep,ho,r⟩:=hm
  exact⟨o,es,ep,k _ o nl ho,r⟩
 ·refine(I.hok b u e).stay (fun c v hc q=>k c v ?_ q) (fun _ q=>q) fun _ _ q=>q
  rcases hc with z | z
  ·rw [z];exact nit b u e
  ·exact nit c _ z
def SqB(b:Bool)(K:PySem.W.Frag)(H:Hp)(a:Addr)(xs:List V):Prop:=match b with | true=>SqL K H a xs | false=>SqT K H a xs
end
end L2
end
section
namespace L2
open PySem PySem.Spec PyProof.Rows
section
variable{X:Cx}
end
section
variable{K:PySem.W.Frag}{S:Addr->Prop}{H:Hp}
noncomputable def zipP(xs ys:List PyData):List PyData:=List.zipWith (fun x y=>.tuple [x,y]) xs ys
noncomputable def zipD:List PyData->Option (List PyData)
 | [.list xs,.list ys]=>if xs.length=ys.length then some (zipP xs ys) else none
 | [.tuple xs,.tuple ys]=>if xs.length=ys.length then some (zipP xs ys) else none
 | _=>none
def SqS(b:Bool)(K:PySem.W.Frag)(S:Addr->Prop)(H:Hp)(a:Addr)(vs:List V):Prop:=match b with | true=>S a/\H a=some (.lst vs) | false=>SqT K H a vs
def diZip(da:TDA):TDI:=fun ρ Q=>da ρ fun xs ρ1=>fzs ρ1 xs fun ds ρ2=>need (zipD ds) fun zs=>Q zs ρ2
end
section
variable{ρ:Rho}{daa:TDA}{Q:List PyData->Rho->Prop}
theorem diZip_a:diZip daa ρ Q=daa ρ fun xs ρ1=>fzs ρ1 xs fun ds ρ2=>need (zipD ds) fun zs=>Q zs ρ2:=rfl
end
end L2
end
section
namespace L2
open PySem PySem.Spec PyProof.Rows
section
variable{X:Cx}
theorem kit2(K:PySem.W.Frag)(d:PyData)(T U:String)(hT:qa1q T=true)(hU:qa1q U=true):PySem.W.kitAny K (.type (tyD d)) [.type T,.type U]=some (isD T d || isD U d):=by
 have e1:=qb5x K d T hT
 have e2:=qb5x K d U hU
 simp only [PySem.W.kitAny,e1,e2]
 cases isD T d<;>cases isD U d<;>rfl
theorem qc2j{pins:List (Addr × Obj)}{s:Shared}{σ:St}{H:Hp}{S:Addr->Prop}{d:PyData}{v:V}{u:Value}{tp:Addr}{T U:String}{Q:VK}(I:Inv X pins σ H s)(h:AtD X.K H S d v)(r:RelV v u)(ht:SqT X.K H tp [.ty T,.ty U])
  (hT:qa1q T=true) (hU:qa1q U=true) (q:Q (.bl (isD T d || isD U d)) H):wpAny (model X.prog X.w) X.A (call (.builtin "isinstance") [u,.ref tp]) (EP X pins σ Q) X.xe s:=by
 obtain⟨its,rv,⟨⟨oc,od,odt,osl⟩,e,hc,n,hd⟩,_⟩:=I.tuple ht
 obtain⟨t1,t2,rfl,q1,q2⟩:=rv.two
 cases q1;cases q2
 simp only at hc hd
 subst hc;subst hd
 have fin:∀ tk,EP X pins σ Q (.bool (isD T d || isD U d)) { s with toks:=tk }:=fun tk=>⟨.bl _,H,I.tok tk,rfl,q⟩
 have k2:=kit2 X.K d T U hT hU
 cases d with
 | none=>cases qa9q h;cases r;exact PySem.W.kia_tup PySem.W.kitx_none I.kIn True.intro e k2 (fun z=>nomatch z) fin
 | bool b=>cases qa4s h;cases r;exact PySem.W.kia_tup PySem.W.kitx_bool I.kIn True.intro e k2 (fun z=>nomatch z) fin
 | int i=>cases qa4d h;obtain⟨t,rfl⟩:=r;exact PySem.W.kia_tup PySem.W.kitx_int I.kIn True.intro e k2 (fun z=>nomatch z) fin
 | str x=>cases qa5t h;obtain⟨t,rfl⟩:=r;exact PySem.W.kia_tup PySem.W.kitx_str I.kIn True.intro e k2 (fun z=>nomatch z) fin
 | list ds =>
  obtain⟨a,xs,rfl,_,hq,_⟩:=qa3o h
  cases r
  obtain⟨its,_,⟨o,n,e',hc,_,hd⟩,_⟩:=I.list (SqL.of hq)
  exact PySem.W.kia_tup PySem.W.kitx_list I.kIn ⟨o,e',hc⟩ e k2 (fun z=>nomatch z) fin
 | tuple ds =>
  obtain⟨a,xs,rfl,hq,_⟩:=qa3e h
  cases r
  obtain⟨its,_,⟨o,e',hc,n,hd⟩,_⟩:=I.tuple hq
  exact PySem.W.kia_tup PySem.W.kitx_tuple I.kIn ⟨o,e',hc⟩ e k2 (fun z=>nomatch z) fin
 | dict kvs =>
  obtain⟨a,ν,rfl,_,hq,_⟩:=qa7z h
  cases r
  obtain⟨_,_,vs,kv,o,es,ep,e',hc,hd,_,hp,_⟩:=(show qa1v X.prog X.w H s.heap a (.dK ν) from I.hok a _ hq)
  exact PySem.W.kia_tup PySem.W.kitx_dict I.kIn ⟨o,e',hc.1⟩ e k2 (fun z=>nomatch z) fin
noncomputable def rIs2(K:PySem.W.Frag):List V->Hp->VK->Prop:=fun xs H Q=>∃ v S d tp T U,xs=[v,.ref tp]/\AtD K H S d v/\SqT K H tp [.ty T,.ty U]/\qa1q T=true/\qa1q U=true/\Q (.bl (isD T d || isD U d)) H
theorem qc2k:qa3h X (.builtin "isinstance") (rIs2 X.K):=by
 intro pins s σ H xs us Q I rs h
 obtain⟨v,S,d,tp,T,U,rfl,hd,ht,hT,hU,q⟩:=h
 obtain⟨u,u2,rfl,r1,r2⟩:=rs.two
 cases r2
 exact qc2j I hd r1 ht hT hU q
end
section
variable{K:PySem.W.Frag}
def dIs2(T U:String)(de:TDE):TDE:=fun ρ Q=>de ρ fun x ρ1=>need (qa0p ρ1 x) fun d=>Q (.d (.bool (isD T d || isD U d))) ρ1
theorem ad_is2{t:TE}{de:TDE}{T U:String}(hT:qa1q T=true)(hU:qa1q U=true)(h:AdE K t de):AdE K (tCB (rIs2 K) (qa2z t (qa2z (tTup (qa2z (tC (.ty T)) (qa2z (tC (.ty U)) tNil))) tNil))) (dIs2 T U de):=fun c O ρ σ H Qd Q R q k =>
 h c O ρ σ H _ _ R q fun x ρ1 O1 v H1 h1 R1 P1 a1=>by
  obtain⟨d,e1,h2⟩:=ne (h1)
  refine⟨by show 2 <= sizeLine;decide,fun p hp=>?_⟩
  have e:=qa0t hp (.tup [V.ty T,V.ty U])
  exact⟨v,Any,d,p,T,U,rfl,AtD.mono e.keep _ _ (R1.top a1 e1).any,SqT.of qa0e,hT,hU,k _ _ _ _ _ h2 (R1.grow e) (P1.trans (Pers.of e.keep fun _ z=>z)) qb0l⟩
end
theorem de_is2{X:Cx}{e:Expr}{de:TDE}{x y:Str}{T U:String}{p p2 p3 pt pos:Pos}{kk:Nat} (hg:Gl X "isinstance") (hm:X.mg "isinstance" = none) (hg2:Gl X x) (hm2:X.mg x=none) (hv:bootBuiltins x=some (.type T)) (hT:qa1q T=true)
  (hg3:Gl X y) (hm3:X.mg y=none) (hv3:bootBuiltins y=some (.type U)) (hU:qa1q U=true) (he:DE X e de) (hn:x ≠ "__name__":=by decide) (hd:(x == ("__debug__" : Str))=false:=by decide) (hn3:y ≠ "__name__":=by decide) (hd3:(y == ("__debug__" : Str))=false:=by decide)
  (hs:starEach [e,.Tuple [.Name x p2,.Name y p3] kk pt] X.env=(false,eval e X.env) :: starEach [.Tuple [.Name x p2,.Name y p3] kk pt] X.env:=by rfl):DE X (.Call (.Name "isinstance" p) [e,.Tuple [.Name x p2,.Name y p3] kk pt] [] pos) (dIs2 T U de):=by
 obtain⟨t,pe,ae⟩:=he
 exact⟨_,qa3q qc2k hg hm qb1a (qa0g pe (qa0g (qb2t (qa0g (pe_ty hg2 hm2 hv hn hd) (qa0g (pe_ty hg3 hm3 hv3 hn3 hd3) qa0q))) qa0q) hs) (by decide) (by decide) hs rfl,ad_is2 hT hU ae⟩
theorem dIs2_a{T U:String}{de:TDE}{ρ:Rho}{Q:DV->Rho->Prop}:dIs2 T U de ρ Q=de ρ fun x ρ1=>need (qa0p ρ1 x) fun d=>Q (.d (.bool (isD T d || isD U d))) ρ1:=rfl
section
variable{K:PySem.W.Frag}{H:Hp}
end
end L2
end
section
namespace L2
open PySem PySem.Spec PyProof.Rows
section
variable{K:PySem.W.Frag}{c:Rc}{O:Own}{ρ:Rho}{σ:St}{H H':Hp}
end
end L2
end
section
namespace L2
open PySem PySem.Spec PyProof.Rows
theorem qb6p:bootBuiltins "enumerate" = some (.type "enumerate"):=by decide +kernel
noncomputable def Ite(K:PySem.W.Frag)(a:Addr):It:=
 ⟨fun i H=>∃ xs x,SqL K H a xs/\xs[i]? = some x,fun i H v H'=>∃ T x,v=.ref T/\H T=none/\H'=upd H T (.tup [.int i,x])/\∀ xs,SqL K H a xs->xs[i]? = some x,fun i H=>∃ xs,SqL K H a xs/\xs.length <= i⟩
def ESt(e it a:Addr)(i:Nat)(h:Heap):Prop:=(∃ old,IsEnum h e it i old)/\h.IsListIter it a i
theorem qc2l{P:Program}{w:World}{K:PySem.W.Frag}{elts:List Expr}{kk:Nat}{tp:Pos}{e it a:Addr}(ne:e ≠ it):Turn P w K (.Tuple elts kk tp) (Ite K a) [e,it] e (ESt e it a) where
 mem:=by simp
 obj:=fun i h st c hc=>by
  obtain⟨⟨old,x1⟩,x2⟩:=st
  have hc:c=e ∨ c=it:=by simpa using hc
  rcases hc with rfl | rfl
  ·exact⟨_,x1,fun v y=>by cases (show Data.fields _=Data.cell v from y)⟩
  ·obtain⟨o,g,_,d⟩:=x2
   exact⟨o,g,fun v y=>by rw [d] at y;cases y⟩
 keep:=fun i h h' st k=>by
  obtain⟨⟨old,x1⟩,x2⟩:=st
  exact⟨⟨old,k e (by simp) _ x1⟩,x2.at fun o g=>k it (by simp) o g⟩
 item:=by
  intro X hP hw hK hc i pins s σ H E I hf st hg
  subst hP hw hK
  obtain⟨xs,x,hq,hx⟩:=hg
  obtain⟨⟨old,x1⟩,x2⟩:=id st
  obtain⟨its,rv,p,_⟩:=I.list hq
  obtain⟨u,hu,ru⟩:=rv.get hx
  have lt:∀ c ∈ [e,it],c < s.heap.objs.size:=fun c hc=>by
   have hc:c=e ∨ c=it:=by simpa using hc
   rcases hc with rfl | rfl
   ·exact Heap.lt_size x1
   ·obtain⟨o,g,_⟩:=x2;exact Heap.lt_size g
  refine wpAny_pyNext_enum_item x1 x2 p.isList (x:=u) (by simpa using hu) ne fun h1 j1 j2 j3 j4 j5=>⟨_,rfl,wpAny_letOwnedTupleGo_enum j1 fun h2 e2 s2=>?_⟩
  have up:∀ c o,c ≠ e->h1.get? c=some o->h2.get? c=some o:=fun c o d g=>s2.extBut _ _ d g
  have I1:Inv X pins σ (upd H s.heap.objs.size (.tup [.int i,x])) { s with heap:=s.heap.push { cls:=.type "tuple",data:=.seq [Value.int i s.toks,u].toArray } }:=
   I.laid (t':=s.toks) (fun b o e=>Heap.get?_push_of_some _ e) (Nat.le_refl _) (show qa1v X.prog X.w _ _ _ (.tup [.int i,x]) from⟨by show 2 <= sizeLine;decide,[Value.int i s.toks,u],.cons ⟨_,rfl⟩ (.cons ru .nil),qa4z.new _ _⟩)
  have fpn:∀ c ∈ [e,it],(upd H s.heap.objs.size (.tup [.int i,x])) c=none:=fun c hc=>by rw [qa0d (Nat.ne_of_lt (lt c hc))];exact(hf c hc).1
  have I2:Inv X pins σ (upd H s.heap.objs.size (.tup [.int i,x])) { s with heap:=h2,toks:=s.toks + 1 }:=by
   refine Inv.turnedL (s:={ s with heap:=s.heap.push { cls:=.type "tuple",data:=.seq [Value.int i s.toks,u].toArray } }) (t':=s.toks + 1) (ch:=[e,it]) I1 (fun c o hc g=>?_) fun c hc=>⟨fpn c hc,(hf c hc).2⟩
   have g:(s.heap.push { cls:=.type "tuple",data:=.seq [Value.int i s.toks,u].toArray }).get? c=some o:=g
   have hc:c ≠ e/\c ≠ it:=by simpa using hc
   refine up c o hc.1 ?_
   rcases Heap.get?_push_cases g with⟨rfl,rfl⟩ | g'
   ·exact j3
   ·exact j5 c o hc.1 hc.2 g'
  exact⟨.ref s.heap.objs.size,_,I2,rfl,⟨_,x,rfl,I.hok.fresh (Nat.le_refl _),rfl,fun zs hz=>by rw [I.list_inj hz hq];exact hx⟩,⟨⟨_,by simpa using e2⟩,j2.at fun o g=>up _ _ (Ne.symm ne) g⟩,fpn⟩
 done:=by
  intro X hP hw hK hc i pins s σ H E I hf st hg
  subst hP hw hK
  obtain⟨xs,hq,hx⟩:=hg
  obtain⟨⟨old,x1⟩,x2⟩:=id st
  obtain⟨its,rv,p,_⟩:=I.list hq
  have hl:=rv.length
  refine wpAny_pyNext_enum_end (I.ok.hd hc) x1 x2 p.isList (by simp;omega) fun h1 j=>⟨rfl,?_⟩
  exact I.turnedL (t':=s.toks) (ch:=[e,it]) (fun c o hc g=>j c o (fun z=>hc (by simp [z])) g) hf
 self:=fun _ _ _ _ _ st h=>by obtain⟨⟨old,x1⟩,_⟩:=st;exact wpAny_pyIter_enum x1 h
section
variable{X:Cx}
def iEnum(K:PySem.W.Frag)(ta:TE):TI:=fun σ H R=>ta σ H fun x H1=>∃ a xs,x=.ref a/\SqL K H1 a xs/\R (Ite K a) H1
theorem pi_enum{l:Expr}{tl:TE}{p pos tp:Pos}{elts:List Expr}{kk:Nat} (hg:Gl X "enumerate") (hm:X.mg "enumerate" = none) (hl:PE X l tl) (hs:starEach [l] X.env=[(false,eval l X.env)]:=by rfl) :
  PI X (.Tuple elts kk tp) (.Call (.Name "enumerate" p) [l] [] pos) (iEnum X.K tl):=by
 intro pins s σ H R I h
 refine Call_ (qa6y I hg hm qb6p (PyProof.Rows.callWith_type1 (thn ((qa0g (t:=tNil) hl qa0q hs) pos pins s σ H (fun vs H1=>∃ a xs,vs=[.ref a]/\SqL X.K H1 a xs/\R (Ite X.K a) H1) I ?_) fun us s1 ⟨vs,H1,I1,r1,q1⟩=>?_) hs rfl))
 ·show tl σ H fun x H1=>∃ a xs,[x]=[V.ref a]/\SqL X.K H1 a xs/\R (Ite X.K a) H1
  simpa [iEnum] using h
 ·obtain⟨a,xs,rfl,hq,q⟩:=q1
  obtain⟨u,rfl,ru⟩:=r1.one
  cases ru
  obtain⟨its,rv,pl,hz⟩:=I1.list hq
  refine call_enumerate_list pl.isList fun h' j1 j2 j3 j4=>wpAny_pyIter_enum j1 ⟨s1.heap.objs.size + 1,[s1.heap.objs.size + 1,s1.heap.objs.size],_,_,H1,rfl,I1.kept (t':=s1.toks) j4,qc2l (Nat.succ_ne_self _),⟨⟨_,j1⟩,j2⟩,fun c hc=>?_,q⟩
  have hc:c=s1.heap.objs.size + 1 ∨ c=s1.heap.objs.size:=by simpa using hc
  have ge:s1.heap.objs.size <= c:=by rcases hc with rfl | rfl;exact Nat.le_succ _;exact Nat.le_refl _
  exact I1.fpOk ge (I1.hok.fresh ge)
end
section
variable{K:PySem.W.Frag}{S:Addr->Prop}{H:Hp}
noncomputable def qb0o(xs:List PyData):List PyData:=xs.zipIdx.map fun p=>.tuple [.int (p.2:Int),p.1]
theorem qa6b(xs:List PyData):(qb0o xs).length=xs.length:=by unfold qb0o;rw [List.length_map,List.length_zipIdx]
theorem qa9a{xs:List PyData}{i:Nat}:(qb0o xs)[i]? = (xs[i]?).map fun x=>.tuple [.int (i:Int),x]:=by
 unfold qb0o
 rw [List.getElem?_map,List.getElem?_zipIdx]
 cases xs[i]?<;>simp
theorem qb7q{a:Addr}{vs:List V}{xs:List PyData}(hS:S a)(h1:H a=some (.lst vs))(h2:qa0b K H S xs vs):qa8h K S H (Ite K a) (qb0o xs):=fun S' H' P=>by
 obtain⟨b,ws,e,_,h3,h4⟩:=qa3o (P _ _ (qa1w hS h1 h2))
 cases e
 refine⟨fun i x e=>?_,⟨ws,SqL.of h3,by rw [qa6b,h4.length];exact Nat.le_refl _⟩⟩
 rw [qa9a] at e
 obtain⟨y,ey,rfl⟩:=Option.map_eq_some_iff.mp e
 obtain⟨w,e1,e2⟩:=h4.get ey
 refine⟨⟨ws,w,SqL.of h3,e1⟩,fun v H'' q=>?_⟩
 obtain⟨T,x',rfl,hT,rfl,k⟩:=q
 have q1:=k _ (SqL.of h3);rw [e1] at q1;cases q1
 exact⟨qa0t hT _,qa8g hT (.cons (qa2e _) (.cons e2 .nil))⟩
def qb6q(de:TDE):TDI:=fun ρ Q=>de ρ fun x ρ1=>fz ρ1 x fun y ρ2=>need (match y with | .list xs=>some xs | _=>none) fun xs=>Q (qb0o xs) ρ2
theorem ai_enum{t:TE}{de:TDE}(h:AdE K t de):AdI K (iEnum K t) (qb6q de):=fun c O ρ σ H Qd Q R q k =>
 h c O ρ σ H _ _ R q fun x ρ1 O1 v H1 h1 R1 P1 a1=>by
  obtain⟨y,ρ2,O2,hz1,R2,P2,a2⟩:=R1.fz a1 h1
  obtain⟨xs,e,h2⟩:=ne (hz1)
  cases y with
  | list ys =>
   cases e
   obtain⟨a,vs,rfl,hS,h3,h4⟩:=qa3o a2
   exact⟨a,vs,rfl,SqL.of h3,k _ _ _ _ _ h2 R2 (P1.trans P2) (qb7q hS h3 h4)⟩
  | _=>cases e
end
theorem qb4d{X:Cx}{l:Expr}{de:TDE}{p pos tp:Pos}{elts:List Expr}{kk:Nat} (hg:Gl X "enumerate") (hm:X.mg "enumerate" = none) (hl:DE X l de) (hs:starEach [l] X.env=[(false,eval l X.env)]:=by rfl) :
  DI X (.Tuple elts kk tp) (.Call (.Name "enumerate" p) [l] [] pos) (qb6q de):=by obtain⟨_,p,a⟩:=hl;exact⟨_,pi_enum hg hm p hs,ai_enum a⟩
theorem qc5f{de:TDE}{ρ:Rho}{Q:List PyData->Rho->Prop}:qb6q de ρ Q=de ρ fun x ρ1=>fz ρ1 x fun y ρ2=>need (match y with | .list xs=>some xs | _=>none) fun xs=>Q (qb0o xs) ρ2:=rfl
end L2
end
section
namespace L2
open PySem PySem.Spec PyProof.Rows
section
variable{K:PySem.W.Frag}{c:Rc}{O:Own}{ρ:Rho}{σ:St}{H H':Hp}
end
end L2
end
section
namespace L2
open PySem PySem.Spec PyProof.Rows
section
variable{κ:Type}[DecidableEq κ]
noncomputable def valV(kvs:List (κ × V))(k:κ):Option V:=(kvs.find? fun kv=>decide (kv.1=k)).map (·.2)
noncomputable def putK(kvs:List (κ × V))(k:κ)(v:V):List (κ × V):=
 if (kvs.any fun kv=>decide (kv.1=k))=true then kvs.map (fun kv=>if kv.1=k then(kv.1,v) else kv) else kvs ++ [(k,v)]
noncomputable def dropK(kvs:List (κ × V))(k:κ):List (κ × V):=kvs.filter fun kv=>decide (kv.1 ≠ k)
theorem qa5j{p:κ × V}{r:List (κ × V)}{k:κ}(e:p.1=k):valV (p :: r) k=some p.2:=by simp [valV,List.find?_cons,e]
theorem qa4o{p:κ × V}{r:List (κ × V)}{k:κ}(e:¬ p.1=k):valV (p :: r) k=valV r k:=by simp [valV,List.find?_cons,e]
theorem qb2n(k:κ):∀ kvs:List (κ × V),(kvs.any fun kv=>decide (kv.1=k))=(valV kvs k).isSome
 | []=>rfl
 | p :: r=>by
  rw [List.any_cons]
  by_cases e:p.1=k
  ·simp only [qa5j e,decide_eq_true e,Bool.true_or,Option.isSome_some]
  ·rw [qa4o e,decide_eq_false e,Bool.false_or];exact qb2n k r
theorem qa9h(kvs:List (κ × V))(k:κ)(v:V):(putK kvs k v).length <= kvs.length + 1:=by
 unfold putK
 split
 ·rw [List.length_map];omega
 ·rw [List.length_append,List.length_cons,List.length_nil];omega
theorem qc5g{kvs:List (κ × V)}{k:κ}(v:V)(h:valV kvs k=none):putK kvs k v=kvs ++ [(k,v)]:=by
 unfold putK
 rw [qb2n,h]
 exact if_neg (by decide)
theorem RelO.isSome_eq{o:Option V}{u:Option Value}(r:RelO o u):o.isSome=u.isSome:=by
 cases o with
 | none=>cases u with
  | none=>rfl
  | some _=>exact(show False from r).elim
 | some _=>cases u with
  | none=>exact(show False from r).elim
  | some _=>rfl
theorem RelO.getD{o:Option V}{u:Option Value}{d:V}{d':Value}(r:RelO o u)(rd:RelV d d'):RelV (o.getD d) (u.getD d'):=by
 cases o with
 | none=>cases u with
  | none=>exact rd
  | some _=>exact(show False from r).elim
 | some _=>cases u with
  | none=>exact(show False from r).elim
  | some _=>exact r
theorem KV.val{kvs:List (κ × V)}{vs:List (κ × Value)}(r:KV kvs vs)(k:κ):RelO (valV kvs k) (valueAt vs k):=by
 unfold KV at r
 induction r with
 | nil=>exact True.intro
 | @cons p q ps qs h t ih =>
  obtain⟨h1,h2⟩:=h
  by_cases e:p.1=k
  ·have e':q.1=k:=h1.symm.trans e
   have b:valueAt (q :: qs) k=some q.2:=by simp [valueAt,List.find?_cons,e']
   rw [qa5j e,b];exact h2
  ·have e':¬ q.1=k:=fun z=>e (h1.trans z)
   have b:valueAt (q :: qs) k=valueAt qs k:=by simp [valueAt,List.find?_cons,e']
   rw [qa4o e,b];exact ih
theorem KV.any{kvs:List (κ × V)}{vs:List (κ × Value)}(r:KV kvs vs)(k:κ):(kvs.any fun kv=>decide (kv.1=k))=vs.any fun kv=>decide (kv.1=k):=by
 unfold KV at r
 induction r with
 | nil=>rfl
 | cons h t ih=>rw [List.any_cons,List.any_cons,ih,h.1]
theorem KV.repl{kvs:List (κ × V)}{vs:List (κ × Value)}(r:KV kvs vs)(k:κ){y:V}{u:Value}(ry:RelV y u) :
  KV (kvs.map fun kv=>if kv.1=k then(kv.1,y) else kv) (vs.map fun kv=>if kv.1=k then(kv.1,u) else kv):=by
 unfold KV at r ⊢
 induction r with
 | nil=>exact .nil
 | @cons p q ps qs h t ih =>
  rw [List.map_cons,List.map_cons]
  refine .cons ?_ ih
  obtain⟨h1,h2⟩:=h
  by_cases e:p.1=k
  ·rw [if_pos e,if_pos (h1.symm.trans e)];exact⟨h1,ry⟩
  ·rw [if_neg e,if_neg (fun z=>e (h1.trans z))];exact⟨h1,h2⟩
theorem KV.put{kvs:List (κ × V)}{vs:List (κ × Value)}(r:KV kvs vs)(k:κ){y:V}{u:Value}(ry:RelV y u):KV (putK kvs k y) (stored vs k u):=by
 unfold putK stored
 rw [r.any k]
 by_cases e:(vs.any fun kv=>decide (kv.1=k))=true
 ·rw [if_pos e,if_pos e];exact r.repl k ry
 ·rw [if_neg e,if_neg e];exact Paired.snoc r ⟨rfl,ry⟩
theorem KV.length{kvs:List (κ × V)}{vs:List (κ × Value)}(r:KV kvs vs):kvs.length=vs.length:=Paired.length r
end
theorem kV_is{P:Program}{w:World}{k:Key}{u:Value}(r:RelV (kV k) u):(qa1t P w).is k u=true:=by
 cases k with
 | inl i=>obtain⟨t,e⟩:=(show ∃ t,u=Value.int i t from r);subst e;exact qb7j P w i t
 | inr x=>obtain⟨t,e⟩:=(show ∃ t,u=Value.str x t from r);subst e;exact qb7k P w x t
theorem qb5a{P:Program}{w:World}:∀ {ks:List Key} {us:List Value},Vals (ks.map kV) us->ItemsAre (qa1t P w) ks us
 | [],_,r=>by rw [List.map_nil] at r;cases r;exact .nil
 | k :: ks,_,r=>by
  rw [List.map_cons] at r
  cases r with
  | cons h t=>exact .cons (kV_is h) (qb5a t)
abbrev KT(H:Hp):List (List Key × V)->List (List Key × Addr × Value)->Prop:=Paired fun p q=>p.1=q.1/\H q.2.1=some (.tup (p.1.map kV))/\RelV p.2 q.2.2
theorem KT.val{H:Hp}{kvs:List (List Key × V)}{xs:List (List Key × Addr × Value)}(r:KT H kvs xs)(k:List Key):RelO (valV kvs k) ((atKey xs k).map (·.2)):=by
 induction r with
 | nil=>exact True.intro
 | @cons p q ps qs h t ih =>
  obtain⟨h1,_,h2⟩:=h
  by_cases e:p.1=k
  ·have e':q.1=k:=h1.symm.trans e
   have b:atKey (q :: qs) k=some q.2:=by simp [atKey,List.find?_cons,e']
   rw [qa5j e,b];exact h2
  ·have e':¬ q.1=k:=fun z=>e (h1.trans z)
   have b:atKey (q :: qs) k=atKey qs k:=by simp [atKey,List.find?_cons,e']
   rw [qa4o e,b];exact ih
theorem KT.repl{H:Hp}{kvs:List (List Key × V)}{xs:List (List Key × Addr × Value)}(r:KT H kvs xs)(k:List Key){y:V}{u:Value}(ry:RelV y u) :
  KT H (kvs.map fun kv=>if kv.1=k then(kv.1,y) else kv) (xs.map (putAt k u)):=by
 induction r with
 | nil=>exact .nil
 | @cons p q ps qs h t ih =>
  rw [List.map_cons,List.map_cons]
  refine .cons ?_ ih
  obtain⟨h1,h2,h3⟩:=h
  unfold putAt
  by_cases e:p.1=k
  ·rw [if_pos e,if_pos (h1.symm.trans e)];exact⟨h1,h2,ry⟩
  ·rw [if_neg e,if_neg (fun z=>e (h1.trans z))];exact⟨h1,h2,h3⟩
theorem KT.put{H:Hp}{kvs:List (List Key × V)}{xs:List (List Key × Addr × Value)}(r:KT H kvs xs)(k:List Key){b:Addr}{y:V}{u:Value}(hb:H b=some (.tup (k.map kV)))(ry:RelV y u) :
  KT H (putK kvs k y) (storedH xs k b u):=by
 have e:(kvs.any fun kv=>decide (kv.1=k))=(atKey xs k).isSome:=by
  rw [qb2n,(r.val k).isSome_eq,Option.isSome_map]
 unfold putK storedH
 rw [e]
 by_cases q:(atKey xs k).isSome=true
 ·rw [if_pos q,if_pos q];exact r.repl k ry
 ·rw [if_neg q,if_neg q];exact Paired.snoc r ⟨rfl,hb,ry⟩
theorem KT.keeps{H H':Hp}{kvs:List (List Key × V)}{xs:List (List Key × Addr × Value)}(r:KT H kvs xs)(ht:∀ b ys,H b=some (.tup ys)->H' b=some (.tup ys)):KT H' kvs xs:=
 Paired.mapP r fun _ _ z=>⟨z.1,ht _ _ z.2.1,z.2.2⟩
section
variable{P:Program}{w:World}{H:Hp}{h:Heap}{a:Addr}
theorem rd_of{u:HO}(ok:HOk P w H h)(e:Rd H a u):qa1v P w H h a u:=e.ok ok
theorem dk_rd{kvs:List (Key × V)}(ok:HOk P w H h)(e:Rd H a (.dK kvs)):kvs.length <= sizeLine/\(a == sysModules)=false/\∃ vs,KV kvs vs/\h.DictOf (qa1t P w) a vs:=
 show qa1v P w H h a (.dK kvs) from rd_of ok e
theorem dk_of{kvs:List (Key × V)}(ok:HOk P w H h)(e:H a=some (.dK kvs)):kvs.length <= sizeLine/\(a == sysModules)=false/\∃ vs,KV kvs vs/\h.DictOf (qa1t P w) a vs:=dk_rd ok (.inl e)
theorem qb6r{ks:List Key}(ok:HOk P w H h)(e:H a=some (.tup (ks.map kV))):(tupleKind (qa1t P w)).is h ks a:=by
 obtain⟨_,its,r,o,h1,h2,n,h3⟩:=(show qa1v P w H h a (.tup (ks.map kV)) from ok a _ e)
 exact⟨o,its.toArray,n,h1,h2.1,h3,by simpa using qb5a r⟩
theorem dt_rd{kvs:List (List Key × V)}(ok:HOk P w H h)(e:Rd H a (.dT kvs)):kvs.length <= sizeLine/\(a == sysModules)=false /\
  ∃ xs,KT H kvs xs/\h.DictOfH (tupleKind (qa1t P w)) a xs:=by
 obtain⟨z,y,xs,r,o,es,ep,h1,h2,h3,h4,h5⟩:=(show qa1v P w H h a (.dT kvs) from rd_of ok e)
 refine⟨z,y,xs,r,o,es,ep,h1,h2,h3,h4,fun x hx=>?_,h5⟩
 have all:∀ {l:List (List Key × V)} {m:List (List Key × Addr × Value)},KT H l m->∀ x ∈ m,(tupleKind (qa1t P w)).is h x.1 x.2.1:=by
  intro l m q
  induction q with
  | nil=>intro x hx;exact nomatch hx
  | @cons p q ps qs hq t ih =>
   intro x hx
   rcases List.mem_cons.mp hx with e | hx
   ·subst e
    exact qb6r ok (by rw [← hq.1];exact hq.2.1)
   ·exact ih x hx
 exact all r x hx
theorem dt_of{kvs:List (List Key × V)}(ok:HOk P w H h)(e:H a=some (.dT kvs)):kvs.length <= sizeLine/\(a == sysModules)=false /\
  ∃ xs,KT H kvs xs/\h.DictOfH (tupleKind (qa1t P w)) a xs:=dt_rd ok (.inl e)
end
def DGet(H:Hp)(a:Addr)(y:V)(r:Option V):Prop:=
 (∃ kvs k,Rd H a (.dK kvs)/\y=kV k/\r=valV kvs k) ∨ ∃ kvs k b,Rd H a (.dT kvs)/\y=.ref b/\H b=some (.tup (k.map kV))/\r=valV kvs k
def DPut(H:Hp)(a:Addr)(y v:V)(H':Hp):Prop:=
 (∃ kvs k,H a=some (.dK kvs)/\y=kV k/\kvs.length < sizeLine/\H'=upd H a (.dK (putK kvs k v))) ∨
 ∃ kvs k b,H a=some (.dT kvs)/\y=.ref b/\H b=some (.tup (k.map kV))/\kvs.length < sizeLine/\H'=upd H a (.dT (putK kvs k v))
theorem DGet.k{H:Hp}{a:Addr}{kvs:List (Key × V)}{k:Key}(e:H a=some (.dK kvs)):DGet H a (kV k) (valV kvs k):=.inl ⟨kvs,k,.inl e,rfl,rfl⟩
theorem DPut.k{H:Hp}{a:Addr}{kvs:List (Key × V)}{k:Key}{v:V}(e:H a=some (.dK kvs))(hl:kvs.length < sizeLine):DPut H a (kV k) v (upd H a (.dK (putK kvs k v))):=.inl ⟨kvs,k,e,rfl,hl,rfl⟩
section
variable{X:Cx}{pins:List (Addr × Obj)}{σ:St}{H:Hp}{s:Shared}{a:Addr}{y v:V}{u r:Value}{o:Option V}{A:Around}{E:Value->Shared->Prop}
theorem Inv.big(I:Inv X pins σ H s):sysModules < s.heap.objs.size:=by
 have h:mainGlobals < s.heap.objs.size:=(I.mod.glob.keeps I.bk).lt
 exact Nat.lt_trans (by decide) h
theorem qc2m{Q:Value->Shared->Prop}(hu:A.units + 1 < cLine)(I:Inv X pins σ H s)(g:DGet H a y (some v))(ry:RelV y u)(h:∀ w' s',Inv X pins σ H s'->RelV v w'->Q w' s') :
  wpAny (model X.prog X.w) A (getItem (.ref a) u) Q E s:=by
 rcases g with⟨kvs,k,e,ey,l⟩ | ⟨kvs,k,b,e,ey,eb,l⟩
 ·subst ey
  obtain⟨z,hd,vs,rel,dd⟩:=dk_rd I.hok e
  obtain⟨w',hw,rw'⟩:=RelO.some_of (v:=v) (o:=valueAt vs k) (by rw [l];exact rel.val k)
  exact wpAny_getItem_of (kV_is ry) dd.mapOf hw (h w' _ (I.tok _) rw')
 ·subst ey
  cases (show u=Value.ref b from ry)
  obtain⟨z,hd,xs,rel,dd⟩:=dt_rd I.hok e
  obtain⟨w',hw,rw'⟩:=RelO.some_of (v:=v) (o:=(atKey xs k).map (·.2)) (by rw [l];exact rel.val k)
  obtain⟨p,hp,hp2⟩:=Option.map_eq_some_iff.mp hw
  refine wpAny_getItem_heap (tupleKind_room_in1 hu) (qb6r I.hok eb) dd hp ?_
  rw [hp2]
  exact h w' _ (I.tok _) rw'
theorem qb4e{h':Heap}{t':Nat}{ob:HO}(I:Inv X pins σ H s)(mu:Mut (H a))(hs:Heap.SameBut a s.heap h')(he:∃ q,h'.get? a=some q)(new:qa1v X.prog X.w (upd H a ob) h' a ob) :
  Inv X pins σ (upd H a ob) { s with heap:=h',toks:=t' }:=
 I.write (x:=a) (e:=a) mu (.inl rfl) (fun b q hb z=>(hs.2 b hb).trans z) he new
theorem dk_new{P:Program}{w:World}{H':Hp}{h':Heap}{kvs:List (Key × V)}{vs:List (Key × Value)}(z:kvs.length <= sizeLine)(hd:(a == sysModules)=false)(rel:KV kvs vs)(dd:h'.DictOf (qa1t P w) a vs) :
  qa1v P w H' h' a (.dK kvs):=⟨z,hd,vs,rel,dd⟩
theorem qc2n{H':Hp}{Q:Unit->Shared->Prop}(hu:A.units + 1 < cLine)(I:Inv X pins σ H s)(g:DPut H a y v H')(ry:RelV y u)(rv:RelV v r)(h:∀ s',Inv X pins σ H' s'->Q () s') :
  wpAny (model X.prog X.w) A (setItem (.ref a) u r) Q E s:=by
 rcases g with⟨kvs,k,e,ey,l,eH⟩ | ⟨kvs,k,b,e,ey,eb,l,eH⟩
 ·subst ey eH
  obtain⟨z,hd,vs,rel,dd⟩:=dk_of I.hok e
  have hz:vs.length <= sizeLine:=by rw [← rel.length];exact z
  have hl:(putK kvs k v).length <= sizeLine:=by have:=qa9h kvs k v;omega
  refine wpAny_setItem_pairs (hsz:=hz) (kV_is ry) dd fun h' dd' hs=>h _ ?_
  have he:∃ q,h'.get? a=some q:=by obtain⟨q,_,_,hq,_⟩:=dd';exact⟨q,hq⟩
  exact qb4e I (by rw [e];exact True.intro) hs he (dk_new hl hd (rel.put k rv) dd')
 ·subst ey eH
  cases (show u=Value.ref b from ry)
  obtain⟨z,hd,xs,rel,dd⟩:=dt_of I.hok e
  have hz:xs.length <= sizeLine:=by rw [← Paired.length rel];exact z
  have hl:(putK kvs k v).length <= sizeLine:=by have:=qa9h kvs k v;omega
  refine wpAny_setItem_heap (hsz:=hz) (tupleKind_room_in1 hu) (qb6r I.hok eb) dd fun h' dd' hs=>h _ ?_
  obtain⟨q,es,ep,hq,h2,h3,h4,_,h5⟩:=dd'
  refine qb4e I (by rw [e];exact True.intro) hs ⟨q,hq⟩ ⟨hl,hd,_,(rel.put k eb rv).keeps fun c ys ec=>?_,q,es,ep,hq,h2,h3,h4,h5⟩
  rw [qa0d (qa8s ec e (fun z=>nomatch z))]
  exact ec
end
section
variable{X:Cx}{pins:List (Addr × Obj)}{σ:St}{H:Hp}{s:Shared}{a:Addr}{kvs:List (Key × V)}{k:Key}{u:Value}{A:Around}{E:Value->Shared->Prop}
end
def NoSl(i:Expr):Prop:=∀ ov iv,subscripted i false ov iv=operate [ov,iv] (getItem ov iv)
theorem subD_of{prog:Program}{w:World}{A:Around}{E:Value->Shared->Prop}{s:Shared}{env:Env}{value slice:Expr}{pos:Pos}{T id:String}{Q:Value->Shared->Prop}
  (hl:typeLookup (.type T) "__getitem__" = pure (some (.builtin id))) (hs:NoSl slice)
  (h:wpAny (model prog w) A (eval value env) (fun o s₁=>wpAny (model prog w) A (eval slice env) (fun i s₂=>s₂.TypeIs o T/\wpAny (model prog w) A (getItem o i) Q E s₂) E s₁) E s) :
  wpAny (model prog w) A (eval (.Subscript value slice pos) env) Q E s:=by
 refine Subscript_ (wpAny_mono h (fun o s₁ h₁=>wpAny_mono h₁ (fun i s₂ h₂=>?_) fun _ _ x=>x) fun _ _ x=>x)
 obtain⟨hT,h₂⟩:=h₂
 unfold subscriptTail
 refine wpAny_bind ?_
 rw [getitemInPython_of_ne hT.not_modules]
 refine wpAny_bind (wpAny_specialOf hT hl ?_)
 have fin:wpAny (model prog w) A (subscripted slice false o i) (fun r s₃=>wpAny (model prog w) A (letTemporaryGo value o r >>= fun _=>pure r) Q E s₃) E s₂:=by
  rw [hs o i]
  exact wpAny_operating (wpAny_mono h₂ (fun r s₃ h₃=>wpAny_bind (wpAny_letTemporaryGo (wpAny_pure h₃))) fun _ _ x=>x)
 first
  | exact wpAny_pure (wpAny_bind fin)
  | exact wpAny_bind (wpAny_pure (wpAny_bind fin))
  | exact wpAny_bind fin
theorem qb7r{X:Cx}{pins:List (Addr × Obj)}{σ:St}{H:Hp}{s:Shared}{a:Addr}{y:V}{o:Option V}(I:Inv X pins σ H s)(g:DGet H a y o):s.TypeIs (.ref a) "dict":=by
 rcases g with⟨kvs,k,e,_,_⟩ | ⟨kvs,k,b,e,_,_,_⟩
 ·obtain⟨_,_,vs,_,dd⟩:=dk_rd I.hok e
  exact dd.typeIs
 ·obtain⟨_,_,xs,_,dd⟩:=dt_rd I.hok e
  exact dd.typeIs
def tDGet(td ty:TE):TE:=fun σ H Q=>td σ H fun x H1=>ty σ H1 fun y H2=>∃ a v,x=.ref a/\DGet H2 a y (some v)/\Q v H2
def sDPut(td ty tv:TE):TS:=fun D σ H=>tv σ H fun v H1=>td σ H1 fun x H2=>ty σ H2 fun y H3=>∃ a H4,x=.ref a/\DPut H3 a y v H4/\D.nx σ H4
section
variable{X:Cx}{o i e value:Expr}{pos pos' tpos:Pos}{td ty tv:TE}
theorem qb4f(hu:X.A.units + 1 < cLine)(ho:PE X o td)(hi:PE X i ty)(hs:NoSl i):PE X (.Subscript o i pos) (tDGet td ty):=by
 intro pins s σ H Q I h
 refine subD_of PySem.F.slot_dict_getitem.lookup hs (thn (ho pins s σ H _ I h) fun u s1 ⟨x,H1,I1,rx,q1⟩=>thn (hi pins s1 σ H1 _ I1 q1) fun iv s2 hq9=>?_)
 obtain⟨y,H2,I2,ry,a,v,ex,g,q2⟩:=hq9
 subst ex
 obtain rfl:u=Value.ref a:=rx
 exact⟨qb7r I2 g,qc2m hu I2 g ry fun w' s3 I3 rw'=>⟨v,H2,I3,rw',q2⟩⟩
theorem ps_dput(hu:X.A.units + 1 < cLine)(ho:PE X o td)(hi:PE X i ty)(hv:PE X value tv)(hs:swapsWith value (some (.Subscript o i pos')) pos.line X.env=pure false) :
  PS X (.Assign [.Subscript o i pos'] value pos) (sDPut td ty tv):=by
 intro pins s σ H D I h
 refine wpAny_Assign_Subscript (thn (hv pins s σ H _ I h) fun r s1 ⟨v,H1,I1,rv,q1⟩=>thn (ho pins s1 σ H1 _ I1 q1) fun u s2 ⟨x,H2,I2,rx,q2⟩=>thn (hi pins s2 σ H2 _ I2 q2) fun iv s3 hq8=>?_) hs
 obtain⟨y,H3,I3,ry,a,H4,ex,g,q3⟩:=hq8
 subst ex
 obtain rfl:u=Value.ref a:=rx
 exact qc2n hu I3 g ry rv fun s4 I4=>⟨σ,H4,I4,q3⟩
end
theorem qc5h{P:Program}{w:World}{H:Hp}(h:Heap)(hb:sysModules < h.objs.size):qa1v P w H (h.push { cls:=.type "dict",data:=.dict #[] }) h.objs.size (.dK []):=
 ⟨Nat.zero_le _,beq_eq_false_iff_ne.mpr (Ne.symm (Nat.ne_of_lt hb)),[],.nil,Heap.DictOf.new h⟩
section
variable{X:Cx}{pos:Pos}
end
end L2
end
section
namespace L2
open PySem PySem.Spec PyProof.Rows
section
variable{X:Cx}
end
section
variable{K:PySem.W.Frag}{H:Hp}{S:Addr->Prop}
theorem AtT.dict{H:Hp}{S:Addr->Prop}{kvs:List (PyData × PyData)}{v:V}(h:AtT K H S (.dict kvs) v):∃ (a:Addr) (κ:List (Key × V)),v=.ref a/\S a/\H a=some (.dK κ)/\qa0o K H S kvs κ:=qa7z (h.at fun _ z=>nomatch z)
end
section
variable{K:PySem.W.Frag}{da db:TDE}
end
end L2
end
section
namespace L2
open PySem PySem.Spec PyProof.Rows
noncomputable def Rc.reb(c:Rc)(O:Own)(p:Addr)(H:Hp):Rc:={ c with H0:=H,P:=fun a=>c.P a ∨ a=p,M:=fun a=>∃ j,O j=some a,A:=fun a=>∃ j,O j=some a }
structure Pin(K:PySem.W.Frag)(c:Rc)(p:Addr)(ν:List (Str × Int))(i:Nat)(O:Own)(ρ:Rho)(σ:St)(H:Hp):Prop where
 rel:Rel K (c.reb O p H) O ρ σ H
 at_:H p=some (.dK (ν.map kvE))
 slot:σ[i]? = some (some (.ref p))
 nul:ρ[i]? = some none
 bA:∀ j q,O j=some q->c.A q
 bS:∀ b o,¬ c.M b->c.H0 b=some o->H b=some o
 bK:∀ b,c.H0 b ≠ none->H b ≠ none
 bM:∀ q,c.M q->∃ vs,H q=some (.lst vs)
 am:∀ q,c.A q->c.M q ∨ c.H0 q=none
 frs:∀ q,c.H0 q=none->c.S q
 fr0:c.H0 p=none
 np:¬ c.P p
section
variable{K:PySem.W.Frag}{c:Rc}{O O1:Own}{ρ ρ1:Rho}{σ σ1:St}{H H1 H2:Hp}{p:Addr}{ν μ:List (Str × Int)}{i:Nat}
end
section
variable{K:PySem.W.Frag}
end
section
variable{X:Cx}{iter kE vE:Expr}{rest:List Stmt}{di:TDI}{dk dv:TDE}{du:TDS}{x y:Str}{p1 p2 p3 p4 p5 p6 p7 p8 p9 p10 p11 p12 p13:Pos}
end
end L2
end
section
namespace L2
open PySem PySem.Spec PyProof.Rows
section
variable{prog:Program}{w:World}{A:Around}{R:Result->Shared->Prop}{I:Addr}{fp wr:List Addr}{G:Array GenState->Array GenState->Prop}{St:Nat->Shared->Prop}{items:Array Value}{ps:List (Str × Int)}
end
section
variable{prog:Program}{w:World}{A:Around}{E:Value->Shared->Prop}{s:Shared}
end
end L2
end
section
namespace L2
open PySem PySem.Spec PyProof.Rows
def NotSq(o:HO):Prop:=(∀ xs,o ≠ .lst xs)/\(∀ xs,o ≠ .tup xs)/\∀ a u,o ≠ .frz a u
theorem qa5p{C dx:Addr}{fs:List (Str × V)}:NotSq (.ins C dx fs):=⟨(fun _ z=>nomatch z),(fun _ z=>nomatch z),(fun _ _ z=>nomatch z)⟩
structure PinG(K:PySem.W.Frag)(c:Rc)(p:Addr)(o:HO)(O:Own)(ρ:Rho)(σ:St)(H:Hp):Prop where
 rel:Rel K (c.reb O p H) O ρ σ H
 at_:H p=some o
 nsq:NotSq o
 bA:∀ j q,O j=some q->c.A q
 bS:∀ b o,¬ c.M b->c.H0 b=some o->H b=some o
 bK:∀ b,c.H0 b ≠ none->H b ≠ none
 bM:∀ q,c.M q->∃ vs,H q=some (.lst vs)
 am:∀ q,c.A q->c.M q ∨ c.H0 q=none
 frs:∀ q,c.H0 q=none->c.S q
 fr0:c.H0 p=none
 np:¬ c.P p
section
variable{K:PySem.W.Frag}{c:Rc}{O O1:Own}{ρ ρ1:Rho}{σ σ1:St}{H H1 H2:Hp}{p:Addr}{o o2:HO}
theorem PinG.notO(P:PinG K c p o O ρ σ H)(j:Nat):O j ≠ some p:=fun e=>by
 obtain⟨_,vs,h⟩:=P.rel.has j p e
 rw [P.at_] at h
 exact P.nsq.1 vs (Option.some.inj h)
theorem PinG.stays(P:PinG K c p o O ρ σ H)(R:Rel K (c.reb O p H) O1 ρ1 σ1 H1):H1 p=some o:=R.same p _ (fun hq8=>by obtain⟨j,e⟩:=hq8;exact P.notO j e) P.at_
theorem PinG.step(P:PinG K c p o O ρ σ H)(R:Rel K (c.reb O p H) O1 ρ1 σ1 H1)(ne:∀ b,b ≠ p->H2 b=H1 b)(h2:H2 p=some o2)(n2:NotSq o2) :
  PinG K c p o2 O1 ρ1 σ1 H2/\Pers K (live (c.reb O p H) O1) H1 (live (c.reb O1 p H2) O1) H2:=by
 have h1:=P.stays R
 have nl:∀ {q vs},H1 q=some (.lst vs)->q ≠ p:=fun e=>qa8s e h1 fun z=>P.nsq.1 _ z.symm
 have kp:Keep (live (c.reb O p H) O1) H1 H2:=⟨fun b ws e=>by rw [ne b (qa8s e h1 fun z=>P.nsq.2.1 _ z.symm)];exact e,fun b a u e=>by rw [ne b (qa8s e h1 fun z=>P.nsq.2.2 _ _ z.symm)];exact e,fun b o hl e=>by rw [ne b (fun z=>hl.2.1 (.inr z))];exact e⟩
 have hp:Pers K (live (c.reb O p H) O1) H1 (live (c.reb O1 p H2) O1) H2:=.of kp fun a z=>z
 have ho:∀ j q vs,O1 j=some q->H1 q=some (.lst vs)->H2 q=some (.lst vs):=fun j q vs _ e=>by rw [ne q (nl e)];exact e
 have nn:∀ q,H2 q=none->q ≠ p/\H1 q=none:=fun q z=>by
  have:q ≠ p:=by rintro rfl;rw [h2] at z;cases z
  exact⟨this,by rw [← ne q this];exact z⟩
 refine⟨⟨R.to (fun _=>rfl) (fun _ _ _ z=>z) rfl rfl hp ho (fun j q e _=>⟨j,e⟩) (fun q z=>.inl z) (fun q z=>R.frs q (R.free0 (nn q z).2)) (fun b o _ z=>z) (fun b z=>z) (fun q ⟨j,e⟩=>?_) (fun q z w=>R.pin q z (nn q w).2) (fun _=>rfl) (R.sc.keep kp),h2,n2,fun j q e=>?_,fun b o nM e=>?_,fun b z w=>?_,fun q z=>?_,P.am,P.frs,P.fr0,P.np⟩,hp⟩
 ·obtain⟨_,vs,e'⟩:=R.has j q e
  exact⟨vs,ho j q vs e e'⟩
 ·obtain⟨j',e'⟩:=(R.has' j q e).1
  exact P.bA j' q e'
 ·have hb:b ≠ p:=by rintro rfl;rw [P.fr0] at e;cases e
  rw [ne b hb]
  refine R.same b o (fun hq8=>?_) (P.bS b o nM e)
  obtain⟨j,e'⟩:=hq8
  rcases P.am b (P.bA j b e') with z | z
  ·exact nM z
  ·rw [e] at z;cases z
 ·obtain⟨_,w'⟩:=nn b w
  exact R.kept b (P.bK b z) w'
 ·have hq:∃ vs,H1 q=some (.lst vs):=by
   by_cases hj:∃ j,O j=some q
   ·exact R.ml q hj
   ·obtain⟨vs,e⟩:=P.bM q z
    exact⟨vs,R.same q _ hj e⟩
  obtain⟨vs,e⟩:=hq
  exact⟨vs,by rw [ne q (nl e)];exact e⟩
theorem PinG.start(R:Rel K c O ρ σ H)(hp:H p=none)(n:NotSq o):PinG K c p o O ρ σ (upd H p o)/\Pers K (live c O) H (live (c.reb O p (upd H p o)) O) (upd H p o):=by
 obtain⟨R4,P4⟩:=R.lay (o:=o) hp
 refine⟨⟨R4.to (fun _=>rfl) (fun _ _ _ z=>z) rfl rfl (.of (Keep.refl _ _) fun a z=>z) (fun _ _ _ _ q=>q) (fun j q e _=>⟨j,e⟩) (fun q z=>.inl z) (fun q z=>R4.frs q (R4.free0 z)) (fun b o _ z=>z) (fun b z=>z) (fun q hq8=>by obtain⟨j,e⟩:=hq8;exact(R4.has j q e).2) R4.pin (fun _=>rfl) R4.sc,
  qa0e,n,fun j q e=>(R4.has' j q e).1,R4.same,R4.kept,R4.ml,R4.am,R4.frs,R.free0 hp,fun z=>R.pin p (.inl z) hp⟩,P4.trans (.of (Keep.refl _ _) fun a z=>z)⟩
theorem PinG.finish(P:PinG K c p o O ρ σ H):Rel K c O ρ σ H/\Pers K (live (c.reb O p H) O) H (live c O) H:=by
 have R1:Rel K (c.add p) O ρ σ H:=P.rel.to (fun _=>rfl) (fun _ _ _ z=>z) rfl rfl (.of (Keep.refl _ _) fun a z=>z) (fun _ _ _ _ q=>q) (fun j q e _=>P.bA j q e) P.am P.frs P.bS P.bK P.bM P.rel.pin (fun _=>rfl) P.rel.sc
 obtain⟨R2,P2⟩:=R1.unadd
 exact⟨R2,Pers.trans (.of (Keep.refl _ _) fun a z=>z) P2⟩
end
theorem qb9d(ρ:Rho):∀ (ds:List PyData) (Q:List L->Rho->Prop),pass (ds.map fun _=>false) (ds.map DV.d) ρ Q=Q (ds.map L.d) ρ
 | [],Q=>rfl
 | d :: r,Q=>by
  rw [List.map_cons,List.map_cons,pass_f,fzL_d,qb9d ρ r];rfl
theorem qb4g:∀ (ds:List PyData) (j:Nat),flOf j (ds.map fun _=>false) (ds.map DV.d)=[]
 | [],_=>rfl
 | d :: r,j=>by
  show flOf (j + 1) (r.map fun _=>false) (r.map DV.d)=[]
  exact qb4g r (j + 1)
noncomputable def retD:RV->PyData
 | .d x=>x
 | .new xs=>.list xs
theorem qa7g{K:PySem.W.Frag}{c:Rc}{O:Own}{ρ:Rho}{σ:St}{H:Hp}{sp:DSp}{ds:List PyData}{vs:List V}{Qd:PyData->Prop}{Q:VK}(R:Rel K c O ρ σ H)(av:qa0b K H (live c O) ds vs)(hs:sp (ds.map .d) fun r _=>Qd (retD r))
  (k:∀ d O' v H',Qd d->Rel K c O' ρ σ H'->Pers K (live c O) H (live c O') H'->AtD K H' (live c O') d v->Q v H'):spD K sp (vs ++ []) H Q E0:=by
 have atv:∀ {ds:List PyData} {vs:List V},qa0b K H (live c O) ds vs->AtVs K (live c O) σ H (ds.map DV.d) vs:=fun{ds}=>by
  induction ds with
  | nil=>intro vs h;cases h.unnil;exact .nil
  | cons d r ih =>
   intro vs h
   obtain⟨v,t,rfl,h1,h2⟩:=h.uncons
   exact .cons h1 (ih h2)
 refine qb3e (fs:=ds.map fun _=>false) (ta:=fun _ H' Q'=>Q' vs H') (da:=fun ρ' Q'=>Q' (ds.map DV.d) ρ') (Qd:=fun r ρ'=>Qd (retD r)/\ρ'=ρ) (ρ:=ρ) (σ:=σ) (c:=c) (O:=O) (fun Qa Qv q k'=>k' _ _ O _ _ q R .refl (atv av)) ?_ fun r ρ' O' v H' q ok P=>?_
 ·show pass _ _ ρ _
  rw [qb9d]
  refine⟨by rw [qb4g];exact List.nodup_nil,?_⟩
  rw [qb4g]
  have e:(fun r outs=>Qd (retD r)/\fills outs [] ρ=ρ)=fun r (_:Rho)=>Qd (retD r):=by
   funext r outs
   exact propext ⟨fun z=>z.1,fun z=>⟨z,rfl⟩⟩
  rw [e];exact hs
 ·obtain⟨q,rfl⟩:=q
  cases r with
  | d x=>exact k _ _ _ _ q ok.1 P ok.2
  | new xs =>
   obtain⟨p,ws,rfl,Rn,fp,hH,ax⟩:=ok
   obtain⟨R2,P2⟩:=Rn.unadd
   exact k _ _ _ _ q R2 (P.trans (.of (Keep.refl _ _) fun a z=>z.1)) (qa1w ⟨Rn.frs p fp.1,fp.2.2.1,fp.2.2.2⟩ hH (P2.all ax))
end L2
end
section
namespace Sx
open PySem
abbrev Up(xs:Array Nat):Prop:=∀ i k:Nat,i < k->∀ hk:k < xs.size,∀ hi:i < xs.size,xs[i] < xs[k]
structure Bel(xs:Array Nat)(j r:Nat):Prop where
 le:r <= xs.size
 lo:∀ i,i < r->∀ h:i < xs.size,xs[i] < j
 hi:∀ i,r <= i->∀ h:i < xs.size,j <= xs[i]
abbrev UpL(xs:List Nat):Prop:=xs.Pairwise (· < ·)
structure TOk(t:SetTable):Prop where
 none:t.dummies = #[]
 up:UpL t.place.toList
end Sx
end
section
namespace Sx
open PySem
section
variable{prog:Program}{w:World}{K:Type}[DecidableEq K](knd:KeyKind prog w K)(dec:Value->K)
structure Fc(ks:List K)(es:Array (Int × Value))(t:SetTable):Prop where
 el:ElemsOf knd es.toList
 pm:(es.toList.map fun e=>dec e.2).Perm ks
 nd:ks.Nodup
 sz:es.size < scanBound
 ft:t.fits es.size=true
 ok:TOk t
 ld:t.led = !w.params.followText "set-order"
noncomputable def ins(ks:List K)(k:K):List K:=if k ∈ ks then ks else ks ++ [k]
variable{knd dec}
variable{A:Around}{E:Value->Shared->Prop}{s:Shared}
end
end Sx
end
section
namespace Sx
open PySem
section
variable{K:Type}[DecidableEq K]
end
section
variable{prog:Program}{w:World}{K:Type}[DecidableEq K]{knd:KeyKind prog w K}{dec:Value->K}{A:Around}{R:Result->Shared->Prop}{I:Addr}{fp wr:List Addr}{G:Array GenState->Array GenState->Prop}{St:Nat->Shared->Prop}{items:Array Value}{ks:List K}
end
section
variable{prog:Program}{w:World}{A:Around}{E:Value->Shared->Prop}{s:Shared}
end
end Sx
end
section
namespace Sx
open PySem
section
variable{M:Model}{A:Around}{E:Value->Shared->Prop}{s:Shared}
end
section
variable{prog:Program}{w:World}{A:Around}{E:Value->Shared->Prop}{s:Shared}{I S:Addr}{es:Array (Int × Value)}{ep i n:Nat}{t:SetTable}{first:Value}
end
end Sx
end
section
namespace Sx
open PySem
section
variable{prog:Program}{w:World}{A:Around}{I S:Addr}{es:Array (Int × Value)}{ep:Nat}{t:SetTable}
end
section
variable{prog:Program}{w:World}{A:Around}{E:Value->Shared->Prop}{s:Shared}{S:Addr}{es:Array (Int × Value)}{ep:Nat}{t:SetTable}
end
end Sx
end
section
namespace Sx
open PySem
section
variable{prog:Program}{w:World}{A:Around}{E:Value->Shared->Prop}{s:Shared}{S:Addr}{es:Array (Int × Value)}{ep:Nat}{t:SetTable}
end
end Sx
end
section
namespace L2
open PySem PySem.Spec PyProof.Rows
section
variable{X:Cx}
noncomputable def rGet2:V->List V->Hp->VK->Prop:=fun x vs H Q=>∃ a kvs,∃ k:Str,∃ d,x=.ref a/\vs=[.str k,d]/\H a=some (.dK kvs)/\Q ((valV kvs (Sum.inr k)).getD d) H
theorem mt_get2:MtM X "dict.get" rGet2:=by
 intro pins s σ H x vs v us Q I rx rv h
 obtain⟨a,kvs,k,d,rfl,rfl,e,q⟩:=h
 cases rx
 obtain⟨u,r,rfl,ru,rr⟩:=Vals.two rv
 obtain⟨_,hd,ws,rel,dd⟩:=dk_of I.hok e
 have ku:RelV (kV (Sum.inr k)) u:=ru
 exact call_meetsIn PySem.F.slot_dict_get dd.typeIs PySem.F.entry_dict_get (PySem.F.args_dict_get_3 _ _ _) (meets_dict_get_default (qa1t X.prog X.w) a (kV_is ku) hd r) ⟨_,dd.mapOf,_,H,I.tok _,(rel.val (Sum.inr k)).getD rr,q⟩
end
end L2
end
section
namespace L2
open PySem PySem.Spec PyProof.Rows
section
variable{X:Cx}
end
section
variable{K:PySem.W.Frag}{H:Hp}{S:Addr->Prop}
end
section
variable{X:Cx}{e e1 e2:Expr}{es:List Expr}{daa:TDA}{de d1 d2:TDE}{pos:Pos}
end
section
variable{i:Nat}{de di da dd:TDA}{ρ:Rho}{Q:DV->Rho->Prop}{d1 d2:TDE}
end
section
variable{K:PySem.W.Frag}
end
section
variable{X:Cx}{iter kE vE tg:Expr}{rest:List Stmt}{di:TDI}{dg:TDG}{dk dv:TDE}{du:TDS}{x y z:Str}{pos p1 p2 p3 p4 p5 p6 p7 p8 p9 p10 p11 p12 p13:Pos}
end
end L2
end
section
namespace L2
open PySem PySem.Spec PyProof.Rows
section
variable{prog:Program}{w:World}{A:Around}{E:Value->Shared->Prop}{s:Shared}
def IsZ2(h:Heap)(z TI TO T:Addr)(b:Bool):Prop:=h.get? z=some { cls:=.type "zip",dict:=none,data:=.fields #[rawInt T,.bool b,.bool false,.ref TI,.ref TO],slots:=#[] }
def ZF(h:Heap)(z TI TO:Addr):Prop:=(IsZip h z TI TO .none/\∃ p q,IsPair h TO p q) ∨ ∃ T b o,IsZ2 h z TI TO T b/\h.get? T=some o
end
end L2
end
section
namespace L2
open PySem PySem.Spec PyProof.Rows
section
variable{prog:Program}{w:World}{A:Around}{R:Result->Shared->Prop}{ps:List (Str × Int)}{z TI TO i1 i2 l1 l2:Addr}{xs ys:Array Value}
end
section
variable{prog:Program}{w:World}{A:Around}{E:Value->Shared->Prop}{s:Shared}
end
section
variable{X:Cx}
end
end L2
end
section
namespace L2
open PySem
noncomputable def qb9e:PyData->Bool
 | .none=>true
 | _=>false
noncomputable def fIsN:F2:=fun x y=>match y with
 | .none=>some (.bool (qb9e x))
 | _=>none
section
variable{K:PySem.W.Frag}{H:Hp}{S:Addr->Prop}
theorem qc2o{d:PyData}{v:V}(h:AtT K H S d v):decide (v=.non)=qb9e d:=by
 cases d with
 | none=>rw [h.none];rfl
 | bool b=>rw [h.bool];rfl
 | int i=>rw [h.int];rfl
 | str x=>rw [h.str];rfl
 | list xs=>obtain⟨a,ws,rfl,_,_⟩:=h.list;rfl
 | tuple xs=>obtain⟨a,ws,rfl,_,_⟩:=h.tup;rfl
 | dict kvs=>obtain⟨a,ν,rfl,_⟩:=h.dict;rfl
theorem qa7h:AdR K (fun x y H Q=>y=.non/\Q (.bl (decide (x=.non))) H) fIsN:=by
 intro S H x y dx dy z Q f hx hy e k
 unfold fIsN at e
 split at e<;>cases e
 rw [hy.none,qc2o hx]
 exact⟨rfl,k _ _ (Same.refl _) (qa2t _)⟩
end
end L2
end
section
namespace L2
open PySem PySem.Spec PyProof.Rows
section
variable{prog:Program}{w:World}{A:Around}{E:Value->Shared->Prop}{s:Shared}
end
section
variable{X:Cx}{e:Expr}{te:TE}{pos p2:Pos}
end
end L2
end
section
namespace L2
open PySem PySem.Spec PyProof.Rows
section
variable{K:PySem.W.Frag}{H:Hp}{S:Addr->Prop}
end
section
variable{X:Cx}{e st:Expr}{de ds:TDE}{pos p2:Pos}
end
section
variable{i:Nat}{ρ:Rho}{Q:DV->Rho->Prop}{d1 d2:TDE}{keys:List Str}
end
end L2
end
section
namespace L2
open PySem PySem.Spec PyProof.Rows
noncomputable def qb3f:List (TE × TE)->St->Hp->(List (V × V)->Hp->Prop)->Prop
 | [],_,H,Q=>Q [] H
 | (tk,tv) :: r,σ,H,Q=>tk σ H fun x H1=>tv σ H1 fun y H2=>qb3f r σ H2 fun ps H3=>Q ((x,y) :: ps) H3
abbrev VV:List (V × V)->List (Value × Value)->Prop:=Paired fun p q=>RelV p.1 q.1/\RelV p.2 q.2
def PPs(X:Cx)(pos:Pos)(keys:List (Option Expr))(values:List Expr)(trs:List (TE × TE)):Prop:=
 ∀ (pins:List (Addr × Obj)) (s:Shared) (σ:St) (H:Hp) (Q:List (V × V)->Hp->Prop),Inv X pins σ H s->qb3f trs σ H Q ->
  wpAny (model X.prog X.w) X.A (evalPairs (pairTrees keys values X.env pos)) (fun vs s'=>∃ ps H',Inv X pins σ H' s'/\VV ps vs/\Q ps H') X.xe s
theorem qb9f{X:Cx}{pos:Pos}:PPs X pos [] [] []:=fun pins s σ H Q I h=>pairTrees_nil_walk ⟨[],H,I,.nil,h⟩
theorem qa5k{X:Cx}{pos:Pos}{k v:Expr}{ks:List (Option Expr)}{vs:List Expr}{tk tv:TE}{trs:List (TE × TE)}(hk:PE X k tk)(hv:PE X v tv)(hr:PPs X pos ks vs trs) :
  PPs X pos (some k :: ks) (v :: vs) ((tk,tv) :: trs):=fun pins s σ H Q I h =>
 pairTrees_cons_walk (thn (hk pins s σ H _ I h) fun u s1 ⟨x,H1,I1,rx,q1⟩=>thn (hv pins s1 σ H1 _ I1 q1) fun w2 s2 ⟨y,H2,I2,ry,q2⟩ =>
  thn (hr pins s2 σ H2 _ I2 q2) fun ws s3 hq8=>by obtain⟨ps,H3,I3,rel,q3⟩:=hq8;exact⟨(x,y) :: ps,H3,I3,.cons ⟨rx,ry⟩ rel,q3⟩)
noncomputable def qa6c(kvs more:List (Key × V)):List (Key × V):=more.foldl (fun acc kv=>putK acc kv.1 kv.2) kvs
theorem KV.merge:∀ {more:List (Key × V)} {rs:List (Key × Value)} {kvs:List (Key × V)} {vs:List (Key × Value)},KV more rs->KV kvs vs->KV (qa6c kvs more) (merged vs rs):=by
 intro more rs kvs vs r
 unfold KV at r
 induction r generalizing kvs vs with
 | nil=>intro q;exact q
 | @cons p q ps qs h t ih =>
  intro r0
  have e:KV (putK kvs p.1 p.2) (stored vs q.1 q.2):=by
   have:=r0.put p.1 h.2
   rw [← h.1];exact this
  exact ih e
theorem qb1b:∀ (more kvs:List (Key × V)),(qa6c kvs more).length <= kvs.length + more.length
 | [],kvs=>by show kvs.length <= kvs.length + 0;omega
 | p :: r,kvs=>by
  have h1:=qb1b r (putK kvs p.1 p.2)
  have h2:=qa9h kvs p.1 p.2
  show(qa6c (putK kvs p.1 p.2) r).length <= _
  rw [List.length_cons];omega
theorem qb3g{P:Program}{w:World}:∀ {kvs:List (Key × V)} {ws:List (Value × Value)},VV (kvs.map fun kv=>(kV kv.1,kv.2)) ws->∃ rs,Carries (qa1t P w) ws rs/\KV kvs rs
 | [],_,r=>by rw [List.map_nil] at r;cases r;exact⟨[],True.intro,.nil⟩
 | p :: kvs,_,r=>by
  rw [List.map_cons] at r
  cases r with
  | @cons a b as bs h t =>
   obtain⟨rs,c,q⟩:=qb3g (P:=P) (w:=w) t
   obtain⟨b1,b2⟩:=b
   exact⟨(p.1,b2) :: rs,⟨kV_is h.1,rfl,c⟩,.cons ⟨rfl,h.2⟩ q⟩
def tDisp(trs:List (TE × TE)):TE:=fun σ H Q=>∀ p,H p=none->qb3f trs σ (upd H p (.dK [])) fun ps H2=>H2 p=some (.dK [])/\∃ kvs:List (Key × V),ps=kvs.map (fun kv=>(kV kv.1,kv.2))/\kvs.length <= 15/\Q (.ref p) (upd H2 p (.dK (qa6c [] kvs)))
theorem qb9g{X:Cx}{pos:Pos}{keys:List (Option Expr)}{values:List Expr}{trs:List (TE × TE)}(h:PPs X pos keys values trs)(hall:keys.all (·.isSome)=true)(hl:keys.length=values.length)(h0:keys ≠ [])
  (h15:keys.length <= 15):PE X (.Dict keys values pos) (tDisp trs):=by
 intro pins s σ H Q I q
 have hn:=I.hok.fresh (Nat.le_refl s.heap.objs.size)
 have I1:=I.laid (a:=s.heap.objs.size) (o:=.dK []) (h':=s.heap.push { cls:=.type "dict",data:=.dict #[] }) (t':=s.toks) (fun _ _ q=>Heap.get?_push_of_some _ q) (Nat.le_refl _) (qc5h s.heap I.big)
 refine wpAny_Dict_walk (knd:=qa1t X.prog X.w) hall hl h0 h15 (thn (h pins _ σ _ _ I1 (q _ hn)) fun ws s2 hq9=>?_)
 obtain⟨ps,H2,I2,rel,e,kvs,ep,lk,q2⟩:=hq9
 subst ep
 obtain⟨rs,c,rk⟩:=qb3g (P:=X.prog) (w:=X.w) rel
 obtain⟨z,hd,vs0,r0,dd⟩:=dk_of I2.hok e
 cases r0
 refine⟨rs,c,dd,fun h' dd' hs=>⟨.ref s.heap.objs.size,_,?_,rfl,q2⟩⟩
 have hz:(qa6c [] kvs).length <= sizeLine:=by
  have h1:=qb1b kvs []
  rw [List.length_nil] at h1
  rw [sizeLine_eq];omega
 have he:∃ q,h'.get? s.heap.objs.size=some q:=by obtain⟨q,_,_,hq,_⟩:=dd';exact⟨q,hq⟩
 exact qb4e I2 (by rw [e];exact True.intro) hs he (dk_new hz hd (rk.merge .nil) dd')
end L2
end
section
namespace L2
open PySem PySem.Spec PyProof.Rows
noncomputable def trsC(ν:List (Str × Int)):List (TE × TE):=ν.map fun p=>(tC (.str p.1),tC (.int p.2))
theorem qb6s:∀ (ν:List (Str × Int)) (σ:St) (H:Hp) (Q:List (V × V)->Hp->Prop),Q (ν.map fun p=>(V.str p.1,V.int p.2)) H->qb3f (trsC ν) σ H Q
 | [],_,_,_,h=>h
 | p :: r,σ,H,Q,h=>qb6s r σ H _ h
end L2
end
section
namespace L2
open PySem PySem.Spec PyProof.Rows
section
variable{X:Cx}
end
end L2
end
section
namespace Sx
open PySem PySem.Spec PyProof.Rows
def leS(a b:Str):Prop:=a.cps.toList <= b.cps.toList
instance (a b:Str):Decidable (leS a b):=by unfold leS;infer_instance
section
variable{prog:Program}{w:World}{A:Around}{E:Value->Shared->Prop}{s:Shared}{S:Addr}
end
end Sx
end
section
namespace L2
open PySem PySem.Spec PyProof.Rows
section
variable{X:Cx}{pins:List (Addr × Obj)}{σ:List (Option V)}{H:Hp}{s:Shared}
end
section
variable{K:PySem.W.Frag}{H:Hp}{S:Addr->Prop}
end
section
variable{X:Cx}{a:Expr}{daa:TDA}{p p2 pos pos2:Pos}
end
end L2
end
section
namespace L2
open PySem PySem.Spec PyProof.Rows
section
variable{X:Cx}{pins:List (Addr × Obj)}{σ:List (Option V)}{H:Hp}{s:Shared}
end
end L2
end
section
namespace L2
open PySem PySem.Spec PyProof.Rows
section
variable{fs:List Bool}{y:PyData}{i n:Nat}{ys:List DV}{ρ:Rho}{QLs:List L->Rho->Prop}
theorem pass_fd:pass (false :: fs) (.d y :: ys) ρ QLs=fzL ρ (.d y) fun l ρ1=>pass fs ys ρ1 fun ls ρ2=>QLs (l :: ls) ρ2:=rfl
theorem pass_fs:pass (false :: fs) (.sl i :: ys) ρ QLs=fzL ρ (.sl i) fun l ρ1=>pass fs ys ρ1 fun ls ρ2=>QLs (l :: ls) ρ2:=rfl
theorem flOf_n0:flOf n [] []=[]:=rfl
theorem flOf_fd:flOf n (false :: fs) (.d y :: ys)=flOf (n + 1) fs ys:=rfl
theorem flOf_fs:flOf n (false :: fs) (.sl i :: ys)=flOf (n + 1) fs ys:=rfl
end
end L2
end
section
namespace Sn
open PySem
inductive Sen where
 | leaf (w:Str) (a:PyData)
 | one (w:Str) (pre:List PyData) (s:Sen)
 | two (w:Str) (pre:List PyData) (s t:Sen)
namespace Sen
noncomputable def enc:Sen->PyData
 | .leaf w a=>.tuple [.str w,a]
 | .one w pre s=>.tuple (.str w :: (pre ++ [enc s]))
 | .two w pre s t=>.tuple (.str w :: (pre ++ [enc s,enc t]))
noncomputable def word:Sen->Str
 | .leaf w _=>w
 | .one w _ _=>w
 | .two w _ _ _=>w
noncomputable def kids:Sen->List Sen
 | .leaf _ _=>[]
 | .one _ _ s=>[s]
 | .two _ _ s t=>[s,t]
noncomputable def size:Sen->Nat
 | .leaf _ _=>1
 | .one _ _ s=>s.size + 1
 | .two _ _ s t=>s.size + t.size + 1
noncomputable def all:Sen->List Sen
 | .leaf w a=>[.leaf w a]
 | .one w pre s=>.one w pre s :: s.all
 | .two w pre s t=>.two w pre s t :: (s.all ++ t.all)
theorem size_pos:∀ s:Sen,0 < s.size
 | .leaf _ _=>Nat.one_pos
 | .one _ _ _=>Nat.succ_pos _
 | .two _ _ _ _=>Nat.succ_pos _
theorem all_length:∀ s:Sen,s.all.length=s.size
 | .leaf _ _=>rfl
 | .one _ _ s=>by simp only [all,size,List.length_cons,all_length s]
 | .two _ _ s t=>by simp only [all,size,List.length_cons,List.length_append,all_length s,all_length t]
theorem all_kids:∀ s:Sen,s.all=s :: (s.kids.flatMap all)
 | .leaf _ _=>rfl
 | .one _ _ s=>by simp [all,kids]
 | .two _ _ s t=>by simp [all,kids]
theorem qb0p(s:Sen):s.all[0]? = some s:=by rw [all_kids];rfl
theorem qa8k:∀ (s:Sen) (i:Nat) (x:Sen),s.all[i]? = some x->∃ rest,s.all.drop i=x.all ++ rest
 | .leaf w a,i,x,h=>by
  cases i with
  | zero=>simp [all] at h;subst h;exact⟨[],by simp [all]⟩
  | succ i=>simp [all] at h
 | .one w pre s,i,x,h=>by
  cases i with
  | zero=>simp [all] at h;subst h;exact⟨[],by simp⟩
  | succ i =>
   simp only [all,List.getElem?_cons_succ] at h
   obtain⟨r,e⟩:=qa8k s i x h
   exact⟨r,by simpa [all] using e⟩
 | .two w pre s t,i,x,h=>by
  cases i with
  | zero=>simp [all] at h;subst h;exact⟨[],by simp⟩
  | succ i =>
   simp only [all,List.getElem?_cons_succ] at h
   by_cases hi:i < s.all.length
   ·rw [List.getElem?_append_left hi] at h
    obtain⟨r,e⟩:=qa8k s i x h
    refine⟨r ++ t.all,?_⟩
    simp only [all,List.drop_succ_cons]
    rw [List.drop_append_of_le_length (Nat.le_of_lt hi),e,List.append_assoc]
   ·rw [List.getElem?_append_right (by omega)] at h
    obtain⟨r,e⟩:=qa8k t _ x h
    refine⟨r,?_⟩
    simp only [all,List.drop_succ_cons]
    rw [List.drop_append,List.drop_eq_nil_of_le (by omega),List.nil_append,e]
theorem qb0q{s:Sen}{i:Nat}{x:Sen}(h:s.all[i]? = some x)(k:Nat)(hk:k < x.size):s.all[i + k]? = x.all[k]?:=by
 obtain⟨r,e⟩:=qa8k s i x h
 have q:(s.all.drop i)[k]? = s.all[i + k]?:=by rw [List.getElem?_drop]
 rw [← q,e,List.getElem?_append_left (by rw [all_length];exact hk)]
theorem all_fits{s:Sen}{i:Nat}{x:Sen}(h:s.all[i]? = some x):i + x.size <= s.size:=by
 obtain⟨r,e⟩:=qa8k s i x h
 have hi:i < s.all.length:=(List.getElem?_eq_some_iff.mp h).1
 have q:=congrArg List.length e
 rw [List.length_drop,List.length_append,all_length,all_length] at q
 rw [all_length] at hi
 omega
noncomputable def kidNums(i:Nat):Sen->List Nat
 | .leaf _ _=>[]
 | .one _ _ _=>[i + 1]
 | .two _ _ s _=>[i + 1,i + 1 + s.size]
theorem kid_one{s:Sen}{i:Nat}{w pre x}(h:s.all[i]? = some (.one w pre x)):s.all[i + 1]? = some x:=by
 rw [qb0q h 1 (by have:=x.size_pos;simp only [size];omega)]
 simp only [all,List.getElem?_cons_succ]
 exact qb0p x
theorem qb9h{s:Sen}{i:Nat}{w pre x y}(h:s.all[i]? = some (.two w pre x y)):s.all[i + 1]? = some x/\s.all[i + 1 + x.size]? = some y:=by
 have hx:=x.size_pos
 have hy:=y.size_pos
 constructor
 ·rw [qb0q h 1 (by simp only [size];omega)]
  simp only [all,List.getElem?_cons_succ]
  rw [List.getElem?_append_left (by rw [all_length];exact hx)]
  exact qb0p x
 ·rw [Nat.add_assoc,qb0q h (1 + x.size) (by simp only [size];omega),Nat.add_comm 1]
  simp only [all,List.getElem?_cons_succ]
  rw [List.getElem?_append_right (by rw [all_length];omega),all_length,Nat.sub_self]
  exact qb0p y
noncomputable def par:Sen->Nat->Bool
 | _,0=>false
 | .leaf _ _,_ + 1=>false
 | .one w _ s,k + 1=>xor (w == "not") (s.par k)
 | .two _ _ s t,k + 1=>if k < s.size then s.par k else t.par (k - s.size)
noncomputable def flipAll(O:List (Nat × Bool)):List (Nat × Bool):=O.map fun p=>(p.1,!p.2)
noncomputable def nextO(w:Str)(O:List (Nat × Bool))(n:Nat):List (Nat × Bool):=if w == "not" then flipAll O else if w == "least" || w == "most" then O ++ [(n,false)] else O
noncomputable def walkR:Sen->List (Nat × Bool)->Nat->List (List (Nat × Bool) × Sen)
 | .leaf w a,O,_=>[(O,.leaf w a)]
 | .one w pre s,O,n=>(O,.one w pre s) :: walkR s (nextO w O n) (n + 1)
 | .two w pre s t,O,n=>(O,.two w pre s t) :: (walkR s O (n + 1) ++ walkR t O (n + 1 + s.size))
theorem walkR_length:∀ (s:Sen) (O:List (Nat × Bool)) (n:Nat),(walkR s O n).length=s.size
 | .leaf _ _,_,_=>rfl
 | .one _ _ s,O,n=>by simp only [walkR,size,List.length_cons,walkR_length s]
 | .two _ _ s t,O,n=>by simp only [walkR,size,List.length_cons,List.length_append,walkR_length s,walkR_length t]
theorem walkR_snd:∀ (s:Sen) (O:List (Nat × Bool)) (n:Nat),(walkR s O n).map (·.2)=s.all
 | .leaf _ _,_,_=>rfl
 | .one _ _ s,O,n=>by simp only [walkR,all,List.map_cons,walkR_snd s]
 | .two _ _ s t,O,n=>by simp only [walkR,all,List.map_cons,List.map_append,walkR_snd s,walkR_snd t]
noncomputable def isB(w:Str):Bool:=w == "least" || w == "most"
theorem not_isB{w:Str}(h:isB w=true):(w == ("not" : Str))=false:=by
 simp only [isB,Bool.or_eq_true,beq_iff_eq] at h
 rcases h with rfl | rfl<;>decide
theorem qa7s:∀ (s:Sen) (O:List (Nat × Bool)) (n k:Nat) (odds:List (Nat × Bool)) (x:Sen),(walkR s O n)[k]? = some (odds,x)->∀ b o,(b,o) ∈ odds ->
  (∃ o0,(b,o0) ∈ O/\o=xor o0 (s.par k)) ∨ (∃ j w pre y,b=n + j/\j <= k/\s.all[j]? = some (.one w pre y)/\isB w=true/\k < j + (Sen.one w pre y).size/\o=(Sen.one w pre y).par (k - j))
 | .leaf w a,O,n,k,odds,x,h,b,o,hb=>by
  cases k with
  | zero=>simp [walkR] at h;obtain⟨rfl,rfl⟩:=h;exact .inl ⟨o,hb,by simp [par]⟩
  | succ k=>simp [walkR] at h
 | .one w pre s,O,n,k,odds,x,h,b,o,hb=>by
  cases k with
  | zero=>simp [walkR] at h;obtain⟨rfl,rfl⟩:=h;exact .inl ⟨o,hb,by simp [par]⟩
  | succ k =>
   simp only [walkR,List.getElem?_cons_succ] at h
   have hk:k < s.size:=by
    have:=(List.getElem?_eq_some_iff.mp h).1
    rwa [walkR_length] at this
   rcases qa7s s (nextO w O n) (n + 1) k odds x h b o hb with⟨o0,h0,e⟩ | ⟨j,w',pre',y,e1,e2,e3,e4,e5,e6⟩
   ·by_cases hn:(w == ("not" : Str))=true
    ·simp only [nextO,if_pos hn,flipAll,List.mem_map] at h0
     obtain⟨⟨b',o1⟩,h1,h2⟩:=h0
     cases h2
     refine .inl ⟨o1,h1,?_⟩
     rw [e];simp only [par,hn]
     cases o1<;>cases s.par k<;>rfl
    ·have hn':(w == ("not" : Str))=false:=by simpa using hn
     by_cases hw:isB w=true
     ·have hw':(w == ("least" : Str) || w == ("most" : Str))=true:=hw
      simp only [nextO,hn',Bool.false_eq_true,if_false,if_pos hw',List.mem_append,List.mem_singleton] at h0
      rcases h0 with h0 | h0
      ·exact .inl ⟨o0,h0,by rw [e];simp only [par,hn'];cases o0<;>cases s.par k<;>rfl⟩
      ·cases h0
       refine .inr ⟨0,w,pre,s,by omega,by omega,by simp [all],hw,by simp only [size];omega,?_⟩
       rw [e];simp only [par,hn',Nat.sub_zero]
     ·have hw':¬ (w == ("least" : Str) || w == ("most" : Str))=true:=hw
      simp only [nextO,hn',Bool.false_eq_true,if_false,if_neg hw'] at h0
      exact .inl ⟨o0,h0,by rw [e];simp only [par,hn'];cases o0<;>cases s.par k<;>rfl⟩
   ·refine .inr ⟨j + 1,w',pre',y,by omega,by omega,by simpa [all] using e3,e4,by omega,?_⟩
    rw [e6];congr 1;omega
 | .two w pre s t,O,n,k,odds,x,h,b,o,hb=>by
  cases k with
  | zero=>simp [walkR] at h;obtain⟨rfl,rfl⟩:=h;exact .inl ⟨o,hb,by simp [par]⟩
  | succ k =>
   simp only [walkR,List.getElem?_cons_succ] at h
   by_cases hk:k < s.size
   ·rw [List.getElem?_append_left (by rw [walkR_length];exact hk)] at h
    rcases qa7s s O (n + 1) k odds x h b o hb with⟨o0,h0,e⟩ | ⟨j,w',pre',y,e1,e2,e3,e4,e5,e6⟩
    ·exact .inl ⟨o0,h0,by rw [e];simp only [par,if_pos hk]⟩
    ·refine .inr ⟨j + 1,w',pre',y,by omega,by omega,?_,e4,by omega,?_⟩
     ·simp only [all,List.getElem?_cons_succ]
      rw [List.getElem?_append_left (by rw [all_length];omega)];exact e3
     ·rw [e6];congr 1;omega
   ·rw [List.getElem?_append_right (by rw [walkR_length];omega),walkR_length] at h
    rcases qa7s t O (n + 1 + s.size) (k - s.size) odds x h b o hb with⟨o0,h0,e⟩ | ⟨j,w',pre',y,e1,e2,e3,e4,e5,e6⟩
    ·exact .inl ⟨o0,h0,by rw [e];simp only [par,if_neg hk]⟩
    ·refine .inr ⟨j + s.size + 1,w',pre',y,by omega,by omega,?_,e4,by omega,?_⟩
     ·simp only [all,List.getElem?_cons_succ]
      rw [List.getElem?_append_right (by rw [all_length];omega),all_length]
      have:j + s.size - s.size=j:=by omega
      rw [this];exact e3
     ·rw [e6];congr 1;omega
theorem walkR_root{s:Sen}{k:Nat}{odds:List (Nat × Bool)}{x:Sen}(h:(walkR s [] 0)[k]? = some (odds,x)){b:Nat}{o:Bool}(hb:(b,o) ∈ odds) :
  ∃ w pre y,s.all[b]? = some (.one w pre y)/\isB w=true/\b <= k/\k < b + (Sen.one w pre y).size/\o=(Sen.one w pre y).par (k - b):=by
 rcases qa7s s [] 0 k odds x h b o hb with⟨o0,h0,_⟩ | ⟨j,w,pre,y,e1,e2,e3,e4,e5,e6⟩
 ·cases h0
 ·have:b=j:=by omega
  subst this
  exact⟨w,pre,y,e3,e4,e2,e5,e6⟩
noncomputable def nmA:Nat->Str
 | 0 => "x" | 1 => "xy" | _ => "y"
noncomputable def nmB:Nat->Str
 | 0 => "p" | 1 => "pq" | _ => "q"
def IsNm(b:Nat)(n:Str):Prop:=b < 3/\(n=nmA b ∨ n=nmB b)
noncomputable def flipF(F:List (Str × Bool)):List (Str × Bool):=F.map fun p=>(p.1,!p.2)
noncomputable def Good:List (Str × Bool)->Nat->Sen->Prop
 | F,_,.leaf w a=>(w = "fact" /\ ∃ n,a=.str n) ∨ (w = "wish" /\ ∃ n,a=.str n/\(n,false) ∈ F)
 | F,b,.one w pre s=>(w = "not" /\ pre=[]/\Good (flipF F) b s) ∨ ((w = "some" ∨ w = "every")/\(∃ d,pre=[d])/\Good F b s) ∨
   ((w = "least" ∨ w = "most")/\∃ n,pre=[.str n]/\IsNm b n/\Good (F ++ [(n,false)]) (b + 1) s)
 | F,b,.two w pre s t=>((w = "and" ∨ w = "or")/\pre=[]/\Good F b s/\Good F b t) ∨ (w = "show" /\ (∃ d,pre=[d])/\Good [] b s/\Good [] b t)
def NmAt(root:Sen)(c:Nat)(m:Str):Prop:=∃ w y,root.all[c]? = some (.one w [.str m] y)
structure Fits(root:Sen)(F:List (Str × Bool))(b:Nat)(O:List (Nat × Bool)):Prop where
 od:∀ c o,(c,o) ∈ O->∃ lvl m,IsNm lvl m/\lvl < b/\NmAt root c m/\∀ o',(m,o') ∈ F->o'=o
 fr:∀ m o,(m,o) ∈ F->∃ lvl,IsNm lvl m/\lvl < b
noncomputable def endN(i:Nat):Sen->Nat->Nat
 | _,0=>i + 1
 | .leaf _ _,_ + 1=>0
 | .one _ _ s,_ + 1=>i + 1 + s.size
 | .two _ _ s _,1=>i + 1 + s.size
 | .two _ _ s t,_ + 2=>i + 1 + s.size + t.size
theorem endN_zero(i:Nat)(y:Sen):endN i y 0=i + 1:=by cases y<;>rfl
theorem endN_last(i:Nat):∀ y:Sen,endN i y y.kids.length=i + y.size
 | .leaf _ _=>rfl
 | .one _ _ s=>by show i + 1 + s.size=i + (s.size + 1);omega
 | .two _ _ s t=>by show i + 1 + s.size + t.size=i + (s.size + t.size + 1);omega
theorem kidNums_length(i:Nat):∀ y:Sen,(kidNums i y).length=y.kids.length
 | .leaf _ _=>rfl
 | .one _ _ _=>rfl
 | .two _ _ _ _=>rfl
theorem endN_step{x:Sen}{i:Nat}:∀ {y:Sen},x.all[i]? = some y->∀ j,j < y.kids.length->∃ kid,x.all[endN i y j]? = some kid/\endN i y (j + 1)=endN i y j + kid.size/\(kidNums i y)[j]? = some (endN i y j)
 | .leaf _ _,h,j,hj=>by cases hj
 | .one w pre s,h,j,hj=>by
  have e:j=0:=by simp [kids] at hj;exact hj
  subst e
  exact⟨s,kid_one h,rfl,rfl⟩
 | .two w pre s t,h,j,hj=>by
  have e:j=0 ∨ j=1:=by simp [kids] at hj;omega
  rcases e with rfl | rfl
  ·exact⟨s,(qb9h h).1,rfl,rfl⟩
  ·exact⟨t,(qb9h h).2,rfl,rfl⟩
theorem mem_all_get{x:Sen}{i:Nat}(h:i < x.size):∃ y,x.all[i]? = some y/\y ∈ x.all:=by
 have h':i < x.all.length:=by rw [all_length];exact h
 exact⟨_,List.getElem?_eq_getElem h',List.getElem_mem h'⟩
end Sen
end Sn
end
section
namespace Sn
open PySem
namespace Sen
noncomputable def isBd(s:Sen):Bool:=s.word == "least" || s.word == "most"
noncomputable def inB(s:Sen)(n:Nat)(bs:List Nat):List Nat:=if s.isBd then bs ++ [n] else bs
noncomputable def bnd:Sen->Nat->List Nat->List (List Nat)
 | .leaf _ _,_,bs=>[bs]
 | .one w pre s,n,bs=>bs :: bnd s (n + 1) (inB (.one w pre s) n bs)
 | .two w pre s t,n,bs=>bs :: (bnd s (n + 1) (inB (.two w pre s t) n bs) ++ bnd t (n + 1 + s.size) (inB (.two w pre s t) n bs))
theorem bnd_length:∀ (s:Sen) (n:Nat) (bs:List Nat),(bnd s n bs).length=s.size
 | .leaf _ _,_,_=>rfl
 | .one _ _ s,n,bs=>by simp only [bnd,size,List.length_cons,bnd_length s]
 | .two _ _ s t,n,bs=>by simp only [bnd,size,List.length_cons,List.length_append,bnd_length s,bnd_length t]
theorem bnd_head:∀ (s:Sen) (n:Nat) (bs:List Nat),(bnd s n bs)[0]? = some bs
 | .leaf _ _,_,_=>rfl
 | .one _ _ _,_,_=>rfl
 | .two _ _ _ _,_,_=>rfl
theorem bnd_kid:∀ (s:Sen) (n:Nat) (bs:List Nat) (i:Nat) (y:Sen) (l:List Nat),s.all[i]? = some y->(bnd s n bs)[i]? = some l->∀ k ∈ kidNums i y,(bnd s n bs)[k]? = some (inB y (n + i) l)
 | .leaf w a,n,bs,i,y,l,hy,hl,k,hk=>by
  cases i with
  | zero=>simp [all] at hy;subst hy;simp [kidNums] at hk
  | succ i=>simp [all] at hy
 | .one w pre s,n,bs,i,y,l,hy,hl,k,hk=>by
  cases i with
  | zero =>
   simp [all] at hy;subst hy
   simp [kidNums] at hk;subst hk
   simp [bnd] at hl;subst hl
   simp only [bnd,List.getElem?_cons_succ]
   exact bnd_head s _ _
  | succ i =>
   simp only [all,List.getElem?_cons_succ] at hy
   simp only [bnd,List.getElem?_cons_succ] at hl ⊢
   have e:∃ k',k=k' + 1/\k' ∈ kidNums i y:=by
    cases y with
    | leaf=>simp [kidNums] at hk
    | one=>simp [kidNums] at hk ⊢;omega
    | two=>simp [kidNums] at hk ⊢;rcases hk with rfl | rfl;exact⟨_,rfl,.inl rfl⟩;exact⟨_,by omega,.inr rfl⟩
   obtain⟨k',rfl,hk'⟩:=e
   have:=bnd_kid s (n + 1) _ i y l hy hl k' hk'
   simp only [List.getElem?_cons_succ]
   rw [this,show n + 1 + i=n + (i + 1) by omega]
 | .two w pre s t,n,bs,i,y,l,hy,hl,k,hk=>by
  cases i with
  | zero =>
   simp [all] at hy;subst hy
   simp [bnd] at hl;subst hl
   have hs:=s.size_pos
   have ht:=t.size_pos
   simp [kidNums] at hk
   rcases hk with rfl | rfl
   ·simp only [bnd,List.getElem?_cons_succ]
    rw [List.getElem?_append_left (by rw [bnd_length];exact hs)]
    exact bnd_head s _ _
   ·rw [show 0 + 1 + s.size=s.size + 1 by omega]
    simp only [bnd,List.getElem?_cons_succ]
    rw [List.getElem?_append_right (by rw [bnd_length];exact Nat.le_refl _),bnd_length,Nat.sub_self]
    exact bnd_head t _ _
  | succ i =>
   simp only [all,List.getElem?_cons_succ] at hy
   simp only [bnd,List.getElem?_cons_succ] at hl
   have fit:=fun(z:Sen) (j:Nat) (h:z.all[j]? = some y)=>all_fits h
   have e:∀ d,d <= i->∃ k',k=k' + 1 + d/\k' ∈ kidNums (i - d) y:=fun d hd=>by
    cases y with
    | leaf=>simp [kidNums] at hk
    | one=>simp [kidNums] at hk;exact⟨i - d + 1,by omega,by simp [kidNums]⟩
    | two w' p' a b =>
     simp [kidNums] at hk
     rcases hk with rfl | rfl
     ·exact⟨i - d + 1,by omega,by simp [kidNums]⟩
     ·exact⟨i - d + 1 + a.size,by omega,by simp [kidNums]⟩
   by_cases hi:i < s.size
   ·rw [List.getElem?_append_left (by rw [all_length];exact hi)] at hy
    rw [List.getElem?_append_left (by rw [bnd_length];exact hi)] at hl
    obtain⟨k',rfl,hk'⟩:=e 0 (Nat.zero_le _)
    rw [Nat.sub_zero] at hk'
    have q:=bnd_kid s (n + 1) _ i y l hy hl k' hk'
    have lk:k' < (bnd s (n + 1) (inB (.two w pre s t) n bs)).length:=(List.getElem?_eq_some_iff.mp q).1
    rw [Nat.add_zero]
    simp only [bnd,List.getElem?_cons_succ]
    rw [List.getElem?_append_left lk,q,show n + 1 + i=n + (i + 1) by omega]
   ·rw [List.getElem?_append_right (by rw [all_length];omega),all_length] at hy
    rw [List.getElem?_append_right (by rw [bnd_length];omega),bnd_length] at hl
    obtain⟨k',rfl,hk'⟩:=e s.size (by omega)
    have q:=bnd_kid t (n + 1 + s.size) _ (i - s.size) y l hy hl k' hk'
    rw [show k' + 1 + s.size=(k' + s.size) + 1 by omega]
    simp only [bnd,List.getElem?_cons_succ]
    rw [List.getElem?_append_right (by rw [bnd_length];omega),bnd_length,Nat.add_sub_cancel,q,show n + 1 + s.size + (i - s.size)=n + (i + 1) by omega]
theorem qa7n{i d j k:Nat}{y:Sen}(h:(kidNums (i + 1) y)[j]? = some k)(hd:d <= i):∃ k',k=k' + 1 + d/\(kidNums (i - d) y)[j]? = some k':=by
 cases y with
 | leaf=>simp [kidNums] at h
 | one w p a =>
  match j with
  | 0=>simp [kidNums] at h;exact⟨i - d + 1,by omega,rfl⟩
  | j + 1=>simp [kidNums] at h
 | two w p a b =>
  match j with
  | 0=>simp [kidNums] at h;exact⟨i - d + 1,by omega,rfl⟩
  | 1=>simp [kidNums] at h;exact⟨i - d + 1 + a.size,by omega,rfl⟩
  | j + 2=>simp [kidNums] at h
noncomputable def inR(s:Sen)(j n:Nat)(rs:List Nat):List Nat:=if s.word == "show" && j == 1 then rs ++ [n] else rs
noncomputable def rms:Sen->Nat->List Nat->List (List Nat)
 | .leaf _ _,_,rs=>[rs]
 | .one _ _ s,n,rs=>rs :: rms s (n + 1) rs
 | .two w pre s t,n,rs=>rs :: (rms s (n + 1) rs ++ rms t (n + 1 + s.size) (inR (.two w pre s t) 1 n rs))
theorem rms_length:∀ (s:Sen) (n:Nat) (rs:List Nat),(rms s n rs).length=s.size
 | .leaf _ _,_,_=>rfl
 | .one _ _ s,n,rs=>by simp only [rms,size,List.length_cons,rms_length s]
 | .two _ _ s t,n,rs=>by simp only [rms,size,List.length_cons,List.length_append,rms_length s,rms_length t]
theorem rms_head:∀ (s:Sen) (n:Nat) (rs:List Nat),(rms s n rs)[0]? = some rs
 | .leaf _ _,_,_=>rfl
 | .one _ _ _,_,_=>rfl
 | .two _ _ _ _,_,_=>rfl
theorem inR_0(s:Sen)(n:Nat)(rs:List Nat):inR s 0 n rs=rs:=by unfold inR;simp
theorem rms_kid:∀ (s:Sen) (n:Nat) (rs:List Nat) (i:Nat) (y:Sen) (l:List Nat),s.all[i]? = some y->(rms s n rs)[i]? = some l->∀ j k,(kidNums i y)[j]? = some k->(rms s n rs)[k]? = some (inR y j (n + i) l)
 | .leaf w a,n,rs,i,y,l,hy,hl,j,k,hk=>by
  cases i with
  | zero=>simp [all] at hy;subst hy;simp [kidNums] at hk
  | succ i=>simp [all] at hy
 | .one w pre s,n,rs,i,y,l,hy,hl,j,k,hk=>by
  cases i with
  | zero =>
   simp [all] at hy;subst hy
   simp [rms] at hl;subst hl
   have ej:j=0/\k=1:=by
    cases j with
    | zero=>simp [kidNums] at hk;exact⟨rfl,hk.symm⟩
    | succ j=>simp [kidNums] at hk
   rw [ej.1,ej.2,inR_0]
   simp only [rms,List.getElem?_cons_succ]
   exact rms_head s _ _
  | succ i =>
   simp only [all,List.getElem?_cons_succ] at hy
   simp only [rms,List.getElem?_cons_succ] at hl
   obtain⟨k',rfl,hk'⟩:=qa7n (d:=0) hk (Nat.zero_le _)
   rw [Nat.sub_zero] at hk'
   have q:=rms_kid s (n + 1) _ i y l hy hl j k' hk'
   rw [Nat.add_zero]
   simp only [rms,List.getElem?_cons_succ]
   rw [q,show n + 1 + i=n + (i + 1) by omega]
 | .two w pre s t,n,rs,i,y,l,hy,hl,j,k,hk=>by
  cases i with
  | zero =>
   simp [all] at hy;subst hy
   simp [rms] at hl;subst hl
   have hs:=s.size_pos
   have ht:=t.size_pos
   have ej:(j=0/\k=1) ∨ (j=1/\k=s.size + 1):=by
    match j with
    | 0=>simp [kidNums] at hk;exact .inl ⟨rfl,hk.symm⟩
    | 1=>simp [kidNums] at hk;exact .inr ⟨rfl,by omega⟩
    | j + 2=>simp [kidNums] at hk
   rcases ej with⟨rfl,rfl⟩ | ⟨rfl,rfl⟩
   ·rw [inR_0]
    simp only [rms,List.getElem?_cons_succ]
    rw [List.getElem?_append_left (by rw [rms_length];exact hs)]
    exact rms_head s _ _
   ·simp only [rms,List.getElem?_cons_succ]
    rw [List.getElem?_append_right (by rw [rms_length];exact Nat.le_refl _),rms_length,Nat.sub_self]
    exact rms_head t _ _
  | succ i =>
   simp only [all,List.getElem?_cons_succ] at hy
   simp only [rms,List.getElem?_cons_succ] at hl
   by_cases hi:i < s.size
   ·rw [List.getElem?_append_left (by rw [all_length];exact hi)] at hy
    rw [List.getElem?_append_left (by rw [rms_length];exact hi)] at hl
    obtain⟨k',rfl,hk'⟩:=qa7n (d:=0) hk (Nat.zero_le _)
    rw [Nat.sub_zero] at hk'
    have q:=rms_kid s (n + 1) _ i y l hy hl j k' hk'
    have lk:k' < (rms s (n + 1) rs).length:=(List.getElem?_eq_some_iff.mp q).1
    rw [Nat.add_zero]
    simp only [rms,List.getElem?_cons_succ]
    rw [List.getElem?_append_left lk,q,show n + 1 + i=n + (i + 1) by omega]
   ·rw [List.getElem?_append_right (by rw [all_length];omega),all_length] at hy
    rw [List.getElem?_append_right (by rw [rms_length];omega),rms_length] at hl
    obtain⟨k',rfl,hk'⟩:=qa7n (d:=s.size) hk (by omega)
    have q:=rms_kid t (n + 1 + s.size) _ (i - s.size) y l hy hl j k' hk'
    rw [show k' + 1 + s.size=(k' + s.size) + 1 by omega]
    simp only [rms,List.getElem?_cons_succ]
    rw [List.getElem?_append_right (by rw [rms_length];omega),rms_length,Nat.add_sub_cancel,q,show n + 1 + s.size + (i - s.size)=n + (i + 1) by omega]
theorem has_up:∀ (s:Sen) (j:Nat),0 < j->j < s.size->∃ p y,p < j/\s.all[p]? = some y/\j ∈ kidNums p y
 | .leaf _ _,j,h0,h1=>by simp only [size] at h1;omega
 | .one w pre s,j,h0,h1=>by
  simp only [size] at h1
  by_cases e:j=1
  ·subst e;exact⟨0,_,by omega,rfl,by simp [kidNums]⟩
  ·obtain⟨p,y,hp,hy,hj⟩:=has_up s (j - 1) (by omega) (by omega)
   refine⟨p + 1,y,by omega,by simpa [all] using hy,?_⟩
   cases y<;>simp [kidNums] at hj ⊢<;>omega
 | .two w pre s t,j,h0,h1=>by
  simp only [size] at h1
  have hs:=s.size_pos
  by_cases e:j=1
  ·subst e;exact⟨0,_,by omega,rfl,by simp [kidNums]⟩
  ·by_cases e2:j=1 + s.size
   ·subst e2;exact⟨0,_,by omega,rfl,by simp [kidNums]⟩
   ·by_cases e3:j - 1 < s.size
    ·obtain⟨p,y,hp,hy,hj⟩:=has_up s (j - 1) (by omega) e3
     refine⟨p + 1,y,by omega,?_,?_⟩
     ·simp only [all,List.getElem?_cons_succ]
      rw [List.getElem?_append_left (by rw [all_length];omega)];exact hy
     ·cases y<;>simp [kidNums] at hj ⊢<;>omega
    ·obtain⟨p,y,hp,hy,hj⟩:=has_up t (j - 1 - s.size) (by omega) (by omega)
     refine⟨p + 1 + s.size,y,by omega,?_,?_⟩
     ·rw [show p + 1 + s.size=(p + s.size) + 1 by omega]
      simp only [all,List.getElem?_cons_succ]
      rw [List.getElem?_append_right (by rw [all_length];omega),all_length,Nat.add_sub_cancel];exact hy
     ·cases y<;>simp [kidNums] at hj ⊢<;>omega
end Sen
end Sn
end
section
namespace Sn
open PySem
namespace Sen
noncomputable def inN(s:Sen)(c:Nat):Nat:=if s.word == "not" then c + 1 else c
noncomputable def nts:Sen->Nat->List Nat
 | .leaf _ _,c=>[c]
 | .one w pre s,c=>c :: nts s (inN (.one w pre s) c)
 | .two w pre s t,c=>c :: (nts s (inN (.two w pre s t) c) ++ nts t (inN (.two w pre s t) c))
theorem nts_length:∀ (s:Sen) (c:Nat),(nts s c).length=s.size
 | .leaf _ _,_=>rfl
 | .one _ _ s,c=>by simp only [nts,size,List.length_cons,nts_length s]
 | .two _ _ s t,c=>by simp only [nts,size,List.length_cons,List.length_append,nts_length s,nts_length t]
theorem nts_head:∀ (s:Sen) (c:Nat),(nts s c)[0]? = some c
 | .leaf _ _,_=>rfl
 | .one _ _ _,_=>rfl
 | .two _ _ _ _,_=>rfl
theorem nts_within:∀ (s:Sen) (c i:Nat) (y:Sen) (m:Nat),s.all[i]? = some y->(nts s c)[i]? = some m->∀ j,j < y.size->(nts s c)[i + j]? = (nts y m)[j]?
 | s,c,0,y,m,hy,hm,j,hj=>by
  rw [qb0p] at hy
  rw [nts_head] at hm
  cases hy;cases hm
  rw [Nat.zero_add]
 | .leaf w a,c,i + 1,y,m,hy,hm,j,hj=>by simp [all] at hy
 | .one w pre s,c,i + 1,y,m,hy,hm,j,hj=>by
  simp only [all,List.getElem?_cons_succ] at hy
  simp only [nts,List.getElem?_cons_succ] at hm
  rw [show i + 1 + j=(i + j) + 1 by omega]
  simp only [nts,List.getElem?_cons_succ]
  exact nts_within s _ i y m hy hm j hj
 | .two w pre s t,c,i + 1,y,m,hy,hm,j,hj=>by
  simp only [all,List.getElem?_cons_succ] at hy
  simp only [nts,List.getElem?_cons_succ] at hm
  rw [show i + 1 + j=(i + j) + 1 by omega]
  simp only [nts,List.getElem?_cons_succ]
  by_cases hi:i < s.size
  ·rw [List.getElem?_append_left (by rw [all_length];exact hi)] at hy
   rw [List.getElem?_append_left (by rw [nts_length];exact hi)] at hm
   have:=all_fits hy
   rw [List.getElem?_append_left (by rw [nts_length];omega)]
   exact nts_within s _ i y m hy hm j hj
  ·rw [List.getElem?_append_right (by rw [all_length];omega),all_length] at hy
   rw [List.getElem?_append_right (by rw [nts_length];omega),nts_length] at hm
   rw [List.getElem?_append_right (by rw [nts_length];omega),nts_length,show i + j - s.size=(i - s.size) + j by omega]
   exact nts_within t _ (i - s.size) y m hy hm j hj
theorem nts_kid{s:Sen}{c i:Nat}{y:Sen}{m:Nat}(hy:s.all[i]? = some y)(hm:(nts s c)[i]? = some m):∀ k ∈ kidNums i y,(nts s c)[k]? = some (inN y m):=fun k hk=>by
 cases y with
 | leaf=>simp [kidNums] at hk
 | one w p a =>
  simp [kidNums] at hk;subst hk
  rw [nts_within s c i _ m hy hm 1 (by have:=a.size_pos;simp only [size];omega)]
  simp only [nts,List.getElem?_cons_succ]
  exact nts_head a _
 | two w p a b =>
  have ha:=a.size_pos
  have hb:=b.size_pos
  simp [kidNums] at hk
  rcases hk with rfl | rfl
  ·rw [nts_within s c i _ m hy hm 1 (by simp only [size];omega)]
   simp only [nts,List.getElem?_cons_succ]
   rw [List.getElem?_append_left (by rw [nts_length];exact ha)]
   exact nts_head a _
  ·rw [Nat.add_assoc,nts_within s c i _ m hy hm (1 + a.size) (by simp only [size];omega),Nat.add_comm 1]
   simp only [nts,List.getElem?_cons_succ]
   rw [List.getElem?_append_right (by rw [nts_length];exact Nat.le_refl _),nts_length,Nat.sub_self]
   exact nts_head b _
noncomputable def noTwo:Sen->Prop
 | .leaf _ _=>True
 | .one _ _ s=>noTwo s
 | .two w _ s t=>(w == ("not" : Str))=false/\noTwo s/\noTwo t
theorem nts_par:∀ (s:Sen) (c k m:Nat),noTwo s->(nts s c)[k]? = some m->c <= m/\decide ((m - c) % 2=1)=s.par k
 | s,c,0,m,_,h=>by
  rw [nts_head] at h;cases h
  refine⟨Nat.le_refl _,?_⟩
  rw [Nat.sub_self]
  cases s<;>simp [par]
 | .leaf _ _,c,k + 1,m,_,h=>by simp [nts] at h
 | .one w pre s,c,k + 1,m,hn,h=>by
  simp only [nts,List.getElem?_cons_succ] at h
  obtain⟨h1,h2⟩:=nts_par s _ k m hn h
  simp only [par]
  rw [← h2]
  by_cases hw:(w == ("not" : Str))=true
  ·have e:inN (.one w pre s) c=c + 1:=if_pos hw
   rw [e] at h1
   rw [e,hw,Bool.true_xor]
   refine⟨by omega,?_⟩
   rw [← decide_not,decide_eq_decide]
   omega
  ·have e:inN (.one w pre s) c=c:=if_neg hw
   rw [e] at h1
   rw [e,Bool.eq_false_iff.mpr hw,Bool.false_xor]
   exact⟨h1,rfl⟩
 | .two w pre s t,c,k + 1,m,hn,h=>by
  obtain⟨hw,hs,ht⟩:=hn
  have ei:inN (.two w pre s t) c=c:=if_neg (by show ¬ (w == ("not" : Str))=true;rw [hw];exact Bool.false_ne_true)
  simp only [nts,List.getElem?_cons_succ,ei] at h
  simp only [par]
  by_cases hk:k < s.size
  ·rw [if_pos hk]
   rw [List.getElem?_append_left (by rw [nts_length];exact hk)] at h
   exact nts_par s c k m hs h
  ·rw [if_neg hk]
   rw [List.getElem?_append_right (by rw [nts_length];omega),nts_length] at h
   exact nts_par t c (k - s.size) m ht h
end Sen
end Sn
end
section
namespace Sx
open PySem PySem.W PyProof.Rows
section
variable{n:Nat}(hn:0 < n)
include hn
end
section
variable{prog:Program}{w:World}{A:Around}{E:Value->Shared->Prop}{s:Shared}
end
end Sx
end
section
namespace L2
open PySem PySem.Spec PyProof.Rows
section
variable{prog:Program}{w:World}{A:Around}{E:Value->Shared->Prop}{s:Shared}
end
section
variable{K:PySem.W.Frag}{H:Hp}{S:Addr->Prop}
end
section
variable{X:Cx}
end
section
variable{K:PySem.W.Frag}
end
section
variable{X:Cx}{e:Expr}{es:List Expr}{daa:TDA}{pos:Pos}
end
end L2
namespace Sn
instance stands:Nonempty Unit:=⟨()⟩
end Sn
end
section
namespace L2
open PySem PySem.Spec PyProof.Rows
section
variable{X:Cx}
end
end L2
end
section
namespace L2
open PySem PySem.Spec PyProof.Rows
section
variable{X:Cx}{tg:Expr}
end
section
variable{K:PySem.W.Frag}{H:Hp}{S:Addr->Prop}
end
section
variable{X:Cx}
end
end L2
end
section
namespace L2
open PySem PySem.Spec PyProof.Rows
section
variable{X:Cx}
end
end L2
end
section
namespace L2
open PySem PySem.Spec PyProof.Rows
section
variable{X:Cx}
end
end L2
end
section
namespace L2
open PySem PySem.Spec PyProof.Rows
noncomputable def qb0r:PyData->Option Key
 | .int i=>some (.inl i)
 | .str x=>some (.inr x)
 | _=>none
theorem qc5i{K:PySem.W.Frag}{H:Hp}{S:Addr->Prop}{d:PyData}{v:V}{k:Key}(h:AtT K H S d v)(e:qb0r d=some k):v=kV k:=by
 cases d with
 | int i=>cases e;exact h.int
 | str x=>cases e;exact h.str
 | _=>cases e
structure PinK(K:PySem.W.Frag)(c:Rc)(p:Addr)(ν:List (Key × V))(i:Nat)(O:Own)(ρ:Rho)(σ:St)(H:Hp):Prop where
 rel:Rel K (c.reb O p H) O ρ σ H
 at_:H p=some (.dK ν)
 slot:σ[i]? = some (some (.ref p))
 nul:ρ[i]? = some none
 bA:∀ j q,O j=some q->c.A q
 bS:∀ b o,¬ c.M b->c.H0 b=some o->H b=some o
 bK:∀ b,c.H0 b ≠ none->H b ≠ none
 bM:∀ q,c.M q->∃ vs,H q=some (.lst vs)
 am:∀ q,c.A q->c.M q ∨ c.H0 q=none
 frs:∀ q,c.H0 q=none->c.S q
 fr0:c.H0 p=none
 np:¬ c.P p
section
variable{K:PySem.W.Frag}{c:Rc}{O O1:Own}{ρ ρ1:Rho}{σ σ1:St}{H H1 H2:Hp}{p:Addr}{ν μ:List (Key × V)}{i:Nat}
end
section
variable{K:PySem.W.Frag}
end
section
variable{X:Cx}{iter kE vE tg:Expr}{rest:List Stmt}{di:TDI}{dg:TDG}{dk dv:TDE}{du:TDS}{x y z:Str}{pos p1 p2 p3 p4 p5 p6 p7 p8 p9 p10 p11 p12 p13:Pos}
end
section
variable{X:Cx}
end
theorem qb6t(k:Key):qb0r (keyD k)=some k:=by cases k<;>rfl
end L2
end
section
namespace L2
open PySem PySem.Spec PyProof.Rows
noncomputable def kD(q:Key × PyData):PyData × PyData:=(keyD q.1,q.2)
noncomputable def putA(ν:List (Key × PyData))(k:Key)(d:PyData):List (Key × PyData):=if (ν.any fun q=>decide (q.1=k))=true then ν.map (fun q=>if q.1=k then(q.1,d) else q) else ν ++ [(k,d)]
noncomputable def foldA(μ ν:List (Key × PyData)):List (Key × PyData):=ν.foldl (fun acc q=>putA acc q.1 q.2) μ
section
variable{K:PySem.W.Frag}{H:Hp}{S:Addr->Prop}
end
abbrev TDP:=DEnds->Rho->List (Key × PyData)->Prop
section
variable{K:PySem.W.Frag}
end
section
variable{X:Cx}{iter kE vE tg:Expr}{rest:List Stmt}{di:TDI}{dg:TDG}{dk dv:TDE}{du:TDS}{dp:TDP}{x y z:Str}{pos p1 p2 p3 p4 p5 p6 p7 p8 p9 p13:Pos}{i:Nat}
end
section
variable{X:Cx}
end
noncomputable def getA:List (PyData × PyData)->Key->Option PyData
 | [],_=>none
 | q :: r,k=>if qb0r q.1=some k then some q.2 else getA r k
noncomputable def fGetA:F2:=fun x y=>match x with
 | .dict kvs=>(qb0r y).bind fun k=>getA kvs k
 | _=>none
section
variable{K:PySem.W.Frag}{H:Hp}{S:Addr->Prop}
theorem qa0o.get(k:Key):∀ {kvs:List (PyData × PyData)} {κ:List (Key × V)},qa0o K H S kvs κ->(getA kvs k=none/\valV κ k=none) ∨ ∃ d v,getA kvs k=some d/\valV κ k=some v/\AtD K H S d v
 | [],κ,h=>by rw [h.unnil];exact .inl ⟨rfl,rfl⟩
 | (x,d) :: r,κ,h=>by
  obtain⟨a,v,t,rfl,rfl,h1,h2⟩:=h.uncons
  by_cases c:a=k
  ·subst c
   exact .inr ⟨d,v,if_pos (qb6t a),qa5j rfl,h1⟩
  ·rw [qa4o (p:=(a,v)) c,show getA ((keyD a,d) :: r) k=getA r k from if_neg (by rw [qb6t];exact fun z=>c (Option.some.inj z))]
   exact qa0o.get k h2
theorem ad_getA{ta tb:TE}{da db:TDE}(ha:AdE K ta da)(hb:AdE K tb db):AdE K (tDGet ta tb) (dOp fGetA da db):=by
 intro c O ρ σ H Qd Q R h k
 refine ha c O ρ σ H _ _ R h fun x ρ1 O1 v H1 h1 R1 P1 a1=>?_
 refine hb c O1 ρ1 σ H1 _ _ R1 h1 fun y ρ2 O2 u H2 h2 R2 P2 a2=>?_
 obtain⟨dx,e1,hn2⟩:=ne (h2)
 obtain⟨dy,e2,hn4⟩:=ne (hn2)
 obtain⟨z,e3,h3⟩:=ne (hn4)
 have t1:=R2.top (a1.pers P2) e1
 have t2:=R2.top a2 e2
 unfold fGetA at e3
 split at e3
 ·rename_i kvs
  obtain⟨kk,e5,e3⟩:=Option.bind_eq_some_iff.mp e3
  obtain⟨a,κ,rfl,_,q,t⟩:=t1.dict
  rcases t.get kk with⟨g1,g2⟩ | ⟨d,v,g1,g2,g3⟩
  ·rw [g1] at e3;cases e3
  ·rw [g1] at e3
   cases e3
   refine⟨a,v,rfl,?_,k (.d z) ρ2 O2 v H2 h3 R2 (P1.trans P2) (show AtD K H2 (live c O2) z v from g3)⟩
   rw [qc5i t2 e5]
   have g:=DGet.k (k:=kk) q
   rw [g2] at g
   exact g
 ·cases e3
end
theorem qb9i{X:Cx}{a b:Expr}{da db:TDE}{pos:Pos}(hu:X.A.units + 64 < cLine)(ha:DE X a da)(hb:DE X b db)(hs:NoSl b):DE X (.Subscript a b pos) (dOp fGetA da db):=by
 obtain⟨ta,pa,aa⟩:=ha
 obtain⟨tb,pb,ab⟩:=hb
 exact⟨_,qb4f (by omega) pa pb hs,ad_getA aa ab⟩
end L2
end
section
namespace K37
open PySem L2 Sn
open Lean in
def dl37 (p : Bool) : MacroM (TSyntaxArray `Lean.Parser.Tactic.simpLemma) := (("↓itT ↓itF mapC mapN qc4h ownBJ_o ownBJ_b ↓diRev_a ↓pass_fd ↓pass_fs flOf_n0 flOf_fd flOf_fs ↓dSeq_a ↓qc4g ↓dCont_a ↓dIs2_a ↓dNeg_a ↓dOpF_a ↓dRetN_a ↓qc2h ↓qc4j ↓qc5e ↓qc5f ↓diZip_a ↓qc4o ↓dNext_a ↓dIf_a ↓dDrop_a ↓dRet_a ↓dRetF_a ↓dSet_a ↓dSetF_a ↓dAsg_a ↓dFor_a ↓dVar_a ↓dC_a ↓dOp_a ↓dCB_a ↓dCBF_a ↓dTup_a ↓dLst_a ↓dFz_a ↓dNil_a ↓dCons_a ↓dB_a ↓dTru_a ↓dAnd_a ↓dOr_a ↓dNot_a ↓dIfE_a ↓dAndV_a ↓dOrV_a ↓dNotV_a ↓qc4i ↓dIs_a ↓qc2i ↓dPop_a ↓qc4k ↓dgTup_a ↓qc4l ↓diDat_a ↓qc4m ↓qc4n ↓pass_n ↓pass_t ↓fz_d ↓fz_sl ↓fzL_d ↓fzL_sl ↓fzs_n ↓fzs_c ↓dComp_a ↓dSl_a ↓qc5c ↓qc5d ↓dTab_a fTab_s asT_t flatD_s flatD_i inF_nil List.all_cons List.all_nil three_a ownB_j okL_o okL_b asI2_i asI_i ioJ_o ioJ_b ioJ_t fzJ_d fzJ_o fzLJ_d fzLJ_o fzLJ_s flOf_t fills_n fills_c qc4p qc4q qc4r qc4s qc4t qc4u relab_o relab_b relab_t lend_o lend_b lend_t lend_d lend_s flC_n flC_c capR_a deref_d qc4v qc4w qc4x qc4y qc4z qc5a asB_b tru_b tru_n tru_i tru_l tru_t seqD_l seqD_t mask_n mask_d mask_s mask_t mask_b qc1x qc1y fAdd_i fSub_i fCmp_i fLen_l fLen_t qc4d qc4e fList_l fList_t fIx_l fIx_t List.getElem?_cons_zero List.getElem?_cons_succ List.getElem?_nil List.set_cons_zero List.set_cons_succ Option.join_some Option.join_none Option.bind_some Option.bind_none Option.map_some Option.map_none Option.isSome_some List.length_cons List.length_nil List.cons_append List.nil_append qb3c Nat.reduceAdd Nat.reduceSub Bool.not_true Bool.not_false" ++ (if p then " ↓dgNil_a ↓pass_f atI_0 atI_1 atI_2 atI_3 atI_4 fIn_f fIn_fl inF_s inF_i Bool.and_self Bool.and_true Bool.or_false Bool.or_true Bool.true_or Bool.false_or flOf_n flOf_f qc4a qc4b qc2f List.map_cons List.map_nil List.replicate if_true if_false Bool.false_eq_true true_and and_true List.nodup_cons List.nodup_nil List.not_mem_nil not_false_eq_true List.mem_cons Nat.reduceLeDiff Nat.reduceLT reduceCtorEq Nat.zero_add Nat.reduceEqDiff false_or or_false" else "")).splitOn " ").toArray.mapM fun s => if s.startsWith "↓" then `(Parser.Tactic.simpLemma| ↓$(mkIdent (s.drop 1).toName):ident) else `(Parser.Tactic.simpLemma| $(mkIdent s.toName):ident)
local macro_rules | `(tactic| walk_at "p1") => do let a ← dl37 true; `(tactic| simp only [$[$a:simpLemma],*])
local macro_rules | `(tactic| walk_at "d1") => do let a ← dl37 false; `(tactic| first | dsimp only [$[$a:simpLemma],*] | walk_at "p1")
local macro_rules | `(tactic| walk_at "dd") => `(tactic| (repeat first | (with_reducible refine qb9a ?_) | walk_at "d1"))
local macro_rules | `(tactic| walk_at "k1") => do let a ← dl37 true; `(tactic| simp +decide only [$[$a:simpLemma],*])
local macro_rules | `(tactic| walk_at "dk") => `(tactic| (repeat first | (with_reducible refine qb9a ?_) | walk_at "k1"))
noncomputable def top(i:Nat):Stmt:=PySem.Challenge.pw_worldsay_k37_hard_binders.main.body.getD i (.Pass ⟨0,0,0,0⟩)
--TOP
structure Bl(mg:Str->Option Value):Prop where
 len_:mg "len" = none
 range_:mg "range" = none
 tuple_:mg "tuple" = none
 bool_:mg "bool" = none
 isinstance_:mg "isinstance" = none
 reversed_:mg "reversed" = none
 max_:mg "max" = none
 zip_:mg "zip" = none
 list_:mg "list" = none
 str_:mg "str" = none
 enumerate_:mg "enumerate" = none
 dict_:mg "dict" = none
 int_:mg "int" = none
def spCell(K:W.Frag):Sp:=fun vs H Q _=>∃ (v:Addr) (ns:List Int) (k:Int),vs=[.ref v,.int k]/\SqL K H v (ns.map V.int)/\0 <= k/\∀ c:Int,(ns=[]->c=0)->Q (.int c) H
def spBy(K:W.Frag):Sp:=fun vs H Q _=>∃ (v:Addr) (ns:List Int) (k many:Int),vs=[.ref v,.int k,.int many]/\SqL K H v (ns.map V.int)/\ns.length <= 63/\0 <= k/\k <= 1000000/\0 < many/\∀ r:Int,0 <= r->r < many->Q (.int r) H
def qb6u:DSp:=fun ls Q=>∃ (k:Nat) (many:Int),ls=[.tape k,.d (.int many)]/\0 < many/\k < 1000000/\∀ r:Int,0 <= r->r < many->Q (.d (.int r)) [some (.tape (k + 1)),none]
section
variable{P:Program}{w:World}{K:W.Frag}{mg:Str->Option Value}{base:Heap}
abbrev qa4g:Stmt:=top 15
theorem qb4h:FnScope ["_law_script","_law_k"] ["_law_script","_law_k"] (qa0i qa4g):=⟨rfl,rfl,rfl,by decide +kernel,rfl,by decide +kernel,by decide +kernel⟩
theorem qc0l{f:Addr}{fd:FuncData} (F:Fun K "_law_cell_at" "_law_cell_at" qa4g f fd) (B:Bl mg):FnOk P w K mg base CX0 1 f fd ["_law_script","_law_k"] (spCell K):=by
 refine F.ok qb4h (fun vs H Q E h=>?_) (fun cdv A outer s H vs Q E hr h=>?_)
 ·obtain⟨v,ns,k,rfl,_⟩:=h
  rfl
 obtain⟨v,ns,k,rfl,hv,hk,q⟩:=h
 refine⟨_,(qa1i (qa8t (qa3v op_gt (qa3q qa3d rfl B.len_ qa1j (qa0g (pv 0) qa0q)) qa0w (qa0j _))
  (qa2d (qa5a (qa3m qa5m (pv 0) (qa1z qa8e (pv 1) (qa3q qa3d rfl B.len_ qa1j (qa0g (pv 0) qa0q))) (fun _ _=>rfl))))
  qa5l)
  (qa2d (qa5a qa0w))),?_⟩
 have hl:(ns.map V.int).length=ns.length:=List.length_map _
 refine⟨_,rfl,v,_,rfl,.inl hv,_,_,rfl,rfl,_,rfl,?_⟩
 rw [hl]
 refine ite2 (fun c=>?_) (fun c=>?_)
 ·have c':(0:Int) < (ns.length:Int):=of_decide_eq_true c
  refine⟨_,rfl,_,rfl,_,rfl,v,_,rfl,.inl hv,_,_,rfl,rfl,?_,?_⟩
  ·rw [hl];exact c'
  ·rw [hl]
   have m0:0 <= k % (ns.length:Int):=Int.emod_nonneg _ (by omega)
   have m1:k % (ns.length:Int) < (ns.length:Int):=Int.emod_lt_of_pos _ c'
   obtain⟨d,e1,e2,_⟩:=atI_in (xs:=ns.map V.int) m0 (by rw [hl];exact m1)
   obtain⟨n,_,rfl⟩:=List.mem_map.mp e2
   exact⟨v,_,_,_,rfl,rfl,hv,e1,q n fun e=>by rw [e] at c';exact absurd c' (by decide)⟩
 ·exact q 0 fun _=>rfl
abbrev qb0s:Stmt:=top 16
theorem qa7i:FnScope ["_law_script","_law_k","_law_many","_law_cell","_law_part","_law_seed"] ["_law_script","_law_k","_law_many"] (qa0i qb0s):=⟨rfl,rfl,rfl,by decide +kernel,rfl,by decide +kernel,by decide +kernel⟩
theorem ok_by{f f1:Addr}{fd fd1:FuncData} (F:Fun K "_law_by" "_law_by" qb0s f fd) (B:Bl mg) (qa3k:Def K mg "_law_cell_at" qa4g ["_law_script","_law_k"] f1 fd1):FnOk P w K mg base CX0 2 f fd ["_law_script","_law_k","_law_many"] (spBy K):=by
 have qb5j:FnOk P w K mg base CX0 1 f1 fd1 ["_law_script","_law_k"] (spCell K):=qc0l qa3k.fn B
 refine F.ok qa7i (fun vs H Q E h=>?_) (fun cdv A outer s H vs Q E hr h=>?_)
 ·obtain⟨v,ns,k,many,rfl,_⟩:=h
  rfl
 obtain⟨v,ns,k,many,rfl,hv,hl,hk,hk2,hm,q⟩:=h
 refine⟨_,(qa1i (qa2v (i:=3) qa7i.nd rfl (Or.inl rfl) (qa3r qa3k qb5j hr rfl (qa0g (pv 0) (qa0g (pv 1) qa0q))))
  (qa1i (qa2v (i:=4) qa7i.nd rfl (Or.inl rfl) qa0w)
  (qa1i (qa8t (qa3v op_ge (pv 3) (qa1z op_pow qa0w qa0w) (qa0j _))
  (qa2d (qa2v (i:=4) qa7i.nd rfl (Or.inl rfl) (qa1z op_shr (pv 3) (qa1z qb1f qa0w (qa1z op_fdiv (pv 1) (qa3q qa3d rfl B.len_ qa1j (qa0g (pv 0) qa0q)))))))
  qa5l)
  (qa1i (qa8t (qa3v op_gt (pv 4) qa0w (qa0j _))
  (qa2d (qa5a (qa1z qa8e (pv 4) (pv 2))))
  qa5l)
  (qa1i (qa2v (i:=5) qa7i.nd rfl (Or.inl rfl) (qa1z qb2r (qa1z qb2r (qa1z qa8e (pv 3) qa0w) (qa1z qb1f (qa1z qb1f qa0w (pv 1)) (pv 1))) qa0w))
  (qa2d (qa5a (qa1z qa8e (qa1z qa8e (qa1z qb1f (qa1z qa8e (qa1z qb1f (pv 5) qa0w) qa0w) qa0w) qa0w) (pv 2))))))))),?_⟩
 have hln:(ns.map V.int).length=ns.length:=List.length_map _
 refine⟨_,rfl,_,rfl,v,ns,k,rfl,hv,hk,fun c hc=>?_⟩
 have e64:(2:Int) ^ 64=18446744073709551616:=by decide
 refine⟨_,rfl,_,_,rfl,rfl,⟨by decide,by decide,by decide⟩,_,_,rfl,rfl,_,rfl,?_⟩
 refine ite2 (fun c1=>?_) (fun c1=>?_)
 ·have c1':(10:Int) ^ (18:Int).toNat <= c:=of_decide_eq_true c1
  have hne:0 < ns.length:=by
   cases ns with
   | nil=>rw [hc rfl] at c1';exact absurd c1' (by decide)
   | cons _ _=>exact Nat.succ_pos _
  have hd0:0 <= k / (ns.length:Int):=Int.ediv_nonneg hk (by omega)
  refine⟨_,rfl,_,rfl,_,rfl,v,_,rfl,.inl hv,_,_,rfl,rfl,?_,_,_,rfl,rfl,.inl ⟨by decide,by decide⟩,_,_,rfl,rfl,?_,?_⟩
  ·rw [hln];exact⟨by omega,by omega⟩
  ·rw [hln];show(0:Int) <= 20 * (k / (ns.length:Int));omega
  refine⟨_,rfl,_,_,rfl,rfl,_,rfl,?_⟩
  refine ite2 (fun c2=>?_) (fun c2=>?_)
  ·exact⟨_,rfl,_,rfl,_,_,rfl,rfl,hm,q _ (Int.emod_nonneg _ (by omega)) (Int.emod_lt_of_pos _ hm)⟩
  ·refine⟨_,rfl,_,_,rfl,rfl,(by show(0:Int) < 1000003;decide),_,rfl,_,_,rfl,rfl,.inl ⟨by decide,by decide⟩,_,rfl,_,_,rfl,rfl,.inr ⟨by omega,by omega⟩,_,_,rfl,rfl,_,_,rfl,rfl,?_⟩
   refine⟨_,rfl,_,_,rfl,rfl,.inr ⟨by decide,by decide⟩,_,_,rfl,rfl,(by show(0:Int) < 999983;decide),_,_,rfl,rfl,.inr ⟨by decide,by decide⟩,_,_,rfl,rfl,(by show(0:Int) < 524287;decide),_,rfl,_,_,rfl,rfl,hm,?_⟩
   exact q _ (Int.emod_nonneg _ (by omega)) (Int.emod_lt_of_pos _ hm)
 ·refine⟨_,rfl,_,_,rfl,rfl,_,rfl,?_⟩
  refine ite2 (fun c2=>?_) (fun c2=>?_)
  ·exact⟨_,rfl,_,rfl,_,_,rfl,rfl,hm,q _ (Int.emod_nonneg _ (by omega)) (Int.emod_lt_of_pos _ hm)⟩
  ·refine⟨_,rfl,_,_,rfl,rfl,(by show(0:Int) < 1000003;decide),_,rfl,_,_,rfl,rfl,.inl ⟨by decide,by decide⟩,_,rfl,_,_,rfl,rfl,.inr ⟨by omega,by omega⟩,_,_,rfl,rfl,_,_,rfl,rfl,?_⟩
   refine⟨_,rfl,_,_,rfl,rfl,.inr ⟨by decide,by decide⟩,_,_,rfl,rfl,(by show(0:Int) < 999983;decide),_,_,rfl,rfl,.inr ⟨by decide,by decide⟩,_,_,rfl,rfl,(by show(0:Int) < 524287;decide),_,rfl,_,_,rfl,rfl,hm,?_⟩
   exact q _ (Int.emod_nonneg _ (by omega)) (Int.emod_lt_of_pos _ hm)
abbrev qa7t:Stmt:=top 17
theorem qb7s:FnScope ["_law_tape","_law_many"] ["_law_tape","_law_many"] (qa0i qa7t):=⟨rfl,rfl,rfl,by decide +kernel,rfl,by decide +kernel,by decide +kernel⟩
theorem ok_next{f f1 f2:Addr}{fd fd1 fd2:FuncData} (F:Fun K "_law_next" "_law_next" qa7t f fd) (B:Bl mg) (qa3k:Def K mg "_law_cell_at" qa4g ["_law_script","_law_k"] f1 fd1)
  (qb0t:Def K mg "_law_by" qb0s ["_law_script","_law_k","_law_many"] f2 fd2):FnOk P w K mg base CX0 3 f fd ["_law_tape","_law_many"] (spD K qb6u):=by
 have qc5j:FnOk P w K mg base CX0 2 f2 fd2 ["_law_script","_law_k","_law_many"] (spBy K):=ok_by qb0t.fn B qa3k
 refine F.ok qb7s (fun vs H Q E h=>?_) (fun cdv A outer s H vs Q E hr h=>?_)
 ·obtain⟨c,O,ls,Qd,_,_,_,_,_,R,⟨k,many,rfl,_⟩,_⟩:=h
  have:=R.len
  rw [List.length_map] at this
  exact this
 obtain⟨c,O,ls,Qd,_,_,_,_,_,R,⟨k,many,rfl,hm,hk2,q⟩,fin⟩:=h
 obtain⟨t,hO,hσ0,ht⟩:=R.tap 0 k rfl
 obtain⟨v1,hσ1,a1⟩:=R.dat 1 _ rfl
 have e1:=qa4d a1
 subst e1
 have hvs:vs=[.ref t,.int many]:=by
  have hl:=R.len
  rw [List.length_map] at hl
  match vs,hl with
  | [x,y],_ =>
   have e0:x=.ref t:=by simpa using hσ0
   have e1:y=.int many:=by simpa using hσ1
   rw [e0,e1]
 subst hvs
 have hs:=R.sc
 have hl:c.ns.length <= 63:=by simpa using hs.1
 refine⟨_,(qa1i (ps_asg (qa1z qb2r (qa3m qa5m (pv 0) qa0w (fun _ _=>rfl)) qa0w) (pg_sub (pv 0) qa0w set_list))
  (qa2d (qa5a (qa3r qb0t qc5j hr rfl (qa0g (qa3m qa5m (pv 0) qa0w (fun _ _=>rfl)) (qa0g (qa3m qa5m (pv 0) qa0w (fun _ _=>rfl)) (qa0g (pv 1) qa0q))))))),?_⟩
 have ht':(upd H t (.lst ([V.ref c.sa,V.int k].set 1 (.int ((k:Int) + 1))))) t=some (.lst [.ref c.sa,.int ((k:Int) + 1)]):=qa0e
 obtain⟨R2,P2⟩:=R.write (l:=.tape (k + 1)) (xs:=[]) (vs':=[.ref c.sa,.int ((k + 1:Nat):Int)]) hO ht (.inr (.inr ⟨k,rfl⟩)) (.inr (.inr ⟨k,k + 1,rfl,rfl,rfl⟩))
 have ek:((k + 1:Nat):Int)=(k:Int) + 1:=by omega
 rw [ek] at R2
 refine⟨_,rfl,t,_,1,_,rfl,rfl,SqL.of ht,rfl,_,_,rfl,rfl,_,rfl,t,_,1,1,rfl,rfl,ht,rfl,?_⟩
 refine⟨_,rfl,t,_,0,_,rfl,rfl,SqL.of ht',rfl,_,rfl,t,_,1,_,rfl,rfl,SqL.of ht',rfl,_,rfl,?_⟩
 refine⟨_,c.ns,_,_,rfl,R2.sc.seq,hl,by omega,by omega,hm,fun r h0 h1=>?_⟩
 exact fin (.d (.int r)) O [some (.tape (k + 1)),some (.d (.int many))] _ _ _ (q r h0 h1) ⟨R2,qa2e r⟩
end
noncomputable def okD:PyData->Bool
 | .dict _=>false
 | .list xs=>okAll xs && decide (xs.length <= 900)
 | .tuple xs=>okAll xs && decide (xs.length <= 900)
 | _=>true
where okAll:List PyData->Bool
 | []=>true
 | x :: r=>okD x && okAll r
noncomputable def OkS:Sen->Prop
 | .leaf w a=>(w = "fact" ∨ w = "wish")/\qa2l a=true
 | .one w pre s=>(w = "not" ∨ w = "some" ∨ w = "every" ∨ w = "least" ∨ w = "most")/\pre.length <= 1/\qa4i pre=true/\OkS s
 | .two w pre s t=>(w = "and" ∨ w = "or" ∨ w = "show")/\pre.length <= 1/\qa4i pre=true/\OkS s/\OkS t
noncomputable def qb3h:List PyData:=[.tuple [.str "a"],.tuple [.str "ab"],.tuple [.str "b"],.tuple [.str "a",.str "b"],.tuple [.str "a",.str "ab"],.tuple [.str "a",.str "ab",.str "b"],.tuple [.str "ab",.str "b"],.tuple [.str "a",.str "zz"]]
def qb4i:DSp:=fun ls Q=>∃ k:Nat,ls=[.tape k]/\k < 1000000/\∀ d ∈ qb3h,Q (.d d) [some (.tape (k + 1))]
def IsStep(d:PyData):Prop:=d=.tuple [.str "on"] ∨ d=.tuple [.str "back"] ∨ ∃ h ∈ qb3h,d=.tuple [.str "one",h] ∨ d=.tuple [.str "pool",h]
def spStep:DSp:=fun ls Q=>∃ k:Nat,ls=[.tape k]/\k < 999990/\∀ (d:PyData) (k':Nat),k' <= k + 2->IsStep d->Q (.d d) [some (.tape k')]
section
variable{P:Program}{w:World}{K:W.Frag}{mg:Str->Option Value}{base:Heap}{n:Nat}
abbrev GNext(P:Program)(w:World)(K:W.Frag)(mg:Str->Option Value)(base:Heap)(n:Nat)(f:Addr)(fd:FuncData):Prop:=FnOk P w K mg base CX0 n f fd ["_law_tape","_law_many"] (spD K qb6u)
abbrev DNext(K:W.Frag)(mg:Str->Option Value)(f:Addr)(fd:FuncData):Prop:=Def K mg "_law_next" qa7t ["_law_tape","_law_many"] f fd
abbrev qa5e:Stmt:=top 18
theorem qb1p:FnScope ["_law_tape","_law_some"] ["_law_tape"] (qa0i qa5e):=⟨rfl,rfl,rfl,by decide +kernel,rfl,by decide +kernel,by decide +kernel⟩
theorem qc5k{f f1:Addr}{fd fd1:FuncData} (F:Fun K "_law_hands" "_law_hands" qa5e f fd) (B:Bl mg) (qa0r:DNext K mg f1 fd1) (qa1e:GNext P w K mg base n f1 fd1) :
  FnOk P w K mg base CX0 (n + 1) f fd ["_law_tape"] (spD K qb4i):=by
 refine F.dok qb1p (fun cdv A outer s H E hr ls Qd h=>?_) (fun ls Qd hq8=>by obtain⟨k,e,_⟩:=hq8;rw [e];rfl)
 obtain⟨k,rfl,hk,q⟩:=h
 refine⟨rfl,?_⟩
 refine⟨_,(qa0f (qa1x (i:=1) qb1p.nd rfl (Or.inl rfl) (qa2b (qa1n (qa0a (qa1g (qa0a qa0m qa0c)) (qa0a (qa1g (qa0a qa0m qa0c)) (qa0a (qa1g (qa0a qa0m qa0c)) (qa0a (qa1g (qa0a qa0m (qa0a qa0m qa0c))) (qa0a (qa1g (qa0a qa0m (qa0a qa0m qa0c))) (qa0a (qa1g (qa0a qa0m (qa0a qa0m (qa0a qa0m qa0c)))) (qa0a (qa1g (qa0a qa0m (qa0a qa0m qa0c))) (qa0a (qa1g (qa0a qa0m (qa0a qa0m qa0c))) qa0c)))))))))))
  (qa0h (qa0x (qa1b qa0s qa1c (dv 1) (qa0l [true,false] qa0r qa1e hr rfl (qa0a (dv 0) (qa0a qa0k qa0c))) (fun _ _=>rfl))))),?_⟩
 walk_at "dd"
 refine⟨k,8,rfl,by decide,hk,fun r h0 h1=>?_⟩
 walk_at "dd"
 exact qa4v h0 h1 fun d hd _=>q d hd
abbrev qa7u:Stmt:=top 19
theorem qb2d:FnScope ["_law_tape","_law_way"] ["_law_tape"] (qa0i qa7u):=⟨rfl,rfl,rfl,by decide +kernel,rfl,by decide +kernel,by decide +kernel⟩
theorem ok_step{f f1 f2:Addr}{fd fd1 fd2:FuncData} (F:Fun K "_law_step" "_law_step" qa7u f fd) (B:Bl mg) (qa0r:DNext K mg f1 fd1) (qa1e:GNext P w K mg base n f1 fd1)
  (qa4j:Def K mg "_law_hands" qa5e ["_law_tape"] f2 fd2) (qa9i:FnOk P w K mg base CX0 n f2 fd2 ["_law_tape"] (spD K qb4i)):FnOk P w K mg base CX0 (n + 1) f fd ["_law_tape"] (spD K spStep):=by
 refine F.dok qb2d (fun cdv A outer s H E hr ls Qd h=>?_) (fun ls Qd hq8=>by obtain⟨k,e,_⟩:=hq8;rw [e];rfl)
 obtain⟨k,rfl,hk,q⟩:=h
 refine⟨rfl,?_⟩
 refine⟨_,(qa0f (qa1x (i:=1) qb2d.nd rfl (Or.inl rfl) (qa0l [true,false] qa0r qa1e hr rfl (qa0a (dv 0) (qa0a qa0k qa0c))))
  (qa0f (qa2r (qa1k qa8u (qa5x _) (dv 1) qa0k (qa0j _))
  (qa0h (qa0x (qa1g (qa0a qa0m qa0c))))
  qa1m)
  (qa0f (qa2r (qa1k (qa2x hr.units) qa2w (dv 1) qa0k (qa0j _))
  (qa0h (qa0x (qa1g (qa0a qa0m qa0c))))
  qa1m)
  (qa0h (qa0x (qa1g (qa0a (qa1b qa0s qa1c (qa2b (qa1n (qa0a qa0m (qa0a qa0m (qa0a qa0m qa0c))))) (qa2n qa4b qa4m (dv 1) qa0k) (fun _ _=>rfl)) (qa0a (qa0l [true] qa4j qa9i hr rfl (qa0a (dv 0) qa0c)) qa0c)))))))),?_⟩
 walk_at "dd"
 refine⟨k,6,rfl,by decide,by omega,fun r h0 h1=>?_⟩
 walk_at "dd"
 refine qa3w (fun c=>q _ _ (by omega) (.inl rfl)) fun c'=>?_
 walk_at "dd"
 refine qa3w (fun c2=>q _ _ (by omega) (.inr (.inl rfl))) fun c2'=>?_
 walk_at "dd"
 refine qa4v (by omega) (by simp;omega) fun d hd _=>?_
 refine⟨k + 1,rfl,by omega,fun h hh=>?_⟩
 walk_at "dd"
 refine q _ _ (by omega) (.inr (.inr ⟨h,hh,?_⟩))
 simp at hd
 rcases hd with rfl | rfl
 ·exact .inl rfl
 ·exact .inr rfl
noncomputable def encF(F:List (Str × Bool)):List PyData:=F.map fun p=>.tuple [.str p.1,.bool p.2]
structure SenOk(F:List (Str × Bool))(b n:Nat)(s:Sen):Prop where
 good:Sen.Good F b s
 ok:OkS s
 size:s.size <= n
 lay:s.enc.canLay0=true
 deep:s.enc.depth <= s.size + 2
 short:okD s.enc=true
def qb6v:DSp:=fun ls Q=>∃ (k:Nat) (F:List (Str × Bool)),ls=[.tape k,.d (.list (encF F))]/\k < 999990/\F.length <= 1000/\(∀ p ∈ F,PyData.strOk p.1=true)/\∀ (s:Sen) (k':Nat),k' <= k + 2->(∀ b n,1 <= n->SenOk F b n s)->Q (.d s.enc) [some (.tape k'),none]
noncomputable def evenF:PyData->Option PyData
 | .tuple [.str m,.bool false]=>some (.str m)
 | _=>none
theorem qb5b{F:List (Str × Bool)}{x:PyData}(h:x ∈ (encF F).filterMap evenF):∃ m,x=.str m/\(m,false) ∈ F:=by
 obtain⟨y,hy,e⟩:=List.mem_filterMap.mp h
 obtain⟨⟨m,b⟩,hp,rfl⟩:=List.mem_map.mp hy
 cases b with
 | true=>cases e
 | false=>cases e;exact⟨m,rfl,hp⟩
theorem qc2p{F:List (Str × Bool)}(hS:∀ p ∈ F,PyData.strOk p.1=true):SeqAt.shaped (.list ((encF F).filterMap evenF))=true:=by
 have key:∀ xs:List PyData,(∀ x ∈ xs,∃ m,x=.str m/\PyData.strOk m=true)->PyData.canLayAll0 xs=true/\PyData.depthAll xs=0:=fun xs=>by
  induction xs with
  | nil=>intro _;exact⟨rfl,rfl⟩
  | cons x r ih =>
   intro h
   obtain⟨m,rfl,hm⟩:=h x List.mem_cons_self
   obtain⟨h1,h2⟩:=ih fun y hy=>h y (List.mem_cons_of_mem _ hy)
   simp [PyData.canLayAll0,PyData.canLay0,PyData.depthAll,PyData.depth,hm,h1,h2]
 obtain⟨h1,h2⟩:=key ((encF F).filterMap evenF) fun x hx=>by
  obtain⟨m,e,hm⟩:=qb5b hx
  exact⟨m,e,hS _ hm⟩
 simp [SeqAt.shaped,PyData.canLay0,PyData.depth,h1,h2]
theorem qb3i{F:List (Str × Bool)}{b n:Nat}{w m:Str}(h:Sen.Good F b (.leaf w (.str m))) (hw:w = "fact" ∨ w = "wish") (hm:PyData.strOk m=true) (hn:1 <= n):SenOk F b n (.leaf w (.str m)):=by
 have hs:PyData.strOk w=true:=by rcases hw with rfl | rfl<;>decide +kernel
 exact⟨h,⟨hw,rfl⟩,hn,by simp [Sen.enc,PyData.canLay0,PyData.canLayAll0,hs,hm],by simp [Sen.enc,PyData.depth,PyData.depthAll,Sen.size],by simp [Sen.enc,okD,okD.okAll]⟩
abbrev qa7v:Stmt:=top 20
theorem qb2e:FnScope ["_law_tape","_law_free","_law_some"] ["_law_tape","_law_free"] (qa0i qa7v):=⟨rfl,rfl,rfl,by decide +kernel,rfl,by decide +kernel,by decide +kernel⟩
theorem ok_leaf{f f1:Addr}{fd fd1:FuncData} (F:Fun K "_law_leaf" "_law_leaf" qa7v f fd) (B:Bl mg) (qa0r:DNext K mg f1 fd1) (qa1e:GNext P w K mg base n f1 fd1) :
  FnOk P w K mg base CX0 (n + 1) f fd ["_law_tape","_law_free"] (spD K qb6v):=by
 refine F.dok qb2e (fun cdv A outer s H E hr ls Qd h=>?_) (fun ls Qd hq8=>by obtain⟨k,F,e,_⟩:=hq8;rw [e];rfl)
 obtain⟨k,F,rfl,hk,hF,hS,q⟩:=h
 refine⟨rfl,?_⟩
 refine⟨_,(qa0f (qb8z (i:=2) qb2e.nd rfl rfl ["_law_name","_law_odd"] [] rfl (by rfl) (by decide +kernel) (qa8i (dv 1)) (fun _ _ _=>(qa9v (n:=2) rfl (qa2u (qa1h (i:=0) (show(["_law_name","_law_odd"]:List Str).Nodup by decide +kernel) rfl (Or.inl rfl)) (qa2u (qa1h (i:=1) (show(["_law_name","_law_odd"]:List Str).Nodup by decide +kernel) rfl (Or.inl rfl)) qa8b)))) (fun _ _ _=>(dif_one (dt_not (qb6c (dv 1))))) (fun _ _ _=>(dv 0)))
  (qa0f (qa2r (DW.toT (qb6d (qa1k (qa9x hr.units) qa9w (dv 2) (qa2b (qa1n qa0c)) (qa0j _)) (qb3y (qa1k op_gt (qa5x _) (qa0l [true,false] qa0r qa1e hr rfl (qa0a (dv 0) (qa0a qa0k qa0c))) qa0k (qa0j _)))))
  (qa0h (qa0x (qa1g (qa0a qa0m (qa0a (qa1b qa0s qa1c (dv 2) (qa0l [true,false] qa0r qa1e hr rfl (qa0a (dv 0) (qa0a (qa1o qa0v qa2q rfl B.len_ qa1j (qa0a (dv 2) qa0c)) qa0c))) (fun _ _=>rfl)) qa0c)))))
  qa1m)
  (qa0h (qa0x (qa1g (qa0a qa0m (qa0a (qa1b qa0s qa1c (qa2b (qa1n (qa0a qa0m (qa0a qa0m (qa0a qa0m (qa0a qa0m qa0c)))))) (qa0l [true,false] qa0r qa1e hr rfl (qa0a (dv 0) (qa0a qa0k qa0c))) (fun _ _=>rfl)) qa0c))))))),?_⟩
 walk_at "dd"
 refine⟨by simp [encF];omega,qb0n (fun ρ=>∃ a b,ρ=[a,b]) evenF ⟨none,none,rfl⟩ (fun x ρ N hx hρ hN=>?_) fun ρ _=>?_⟩
 ·obtain⟨a,b,rfl⟩:=hρ
  obtain⟨⟨m,o⟩,_,rfl⟩:=List.mem_map.mp hx
  walk_at "dd"
  cases o with
  | true=>exact hN _ ⟨_,_,rfl⟩
  | false=>exact hN _ ⟨_,_,rfl⟩
 generalize hE:(encF F).filterMap evenF=ev
 have hev:∀ x ∈ ev,∃ m,x=.str m/\(m,false) ∈ F:=fun x hx=>qb5b (by rw [hE];exact hx)
 have hsh:=qc2p hS
 rw [hE] at hsh
 walk_at "dd"
 rw [qc4c rfl hsh rfl]
 walk_at "dd"
 have fact:∀ k',k' <= k + 1->later (dRet (dTup (qa5y (dC (PyData.str "fact")) (qa5y (dOp fIx (dFz (dLst (qa5y (dC (PyData.str "p")) (qa5y (dC (PyData.str "pq")) (qa5y (dC (PyData.str "q")) (qa5y (dC (PyData.str "zz")) dNil)))))) (qb3d [true,false] qb6u (qa5y (dVar 0) (qa5y (dC (PyData.int 4)) dNil)))) dNil))))
   { nx:=fun ρ=>Qd (RV.d PyData.none) (mask [L.tape k,L.d (PyData.list (encF F))] ρ),rt:=fun r ρ=>Qd r (mask [L.tape k,L.d (PyData.list (encF F))] ρ) } [some (L.tape k'),some (L.d (PyData.list (encF F))),some (L.own ev)]:=fun k' hk'=>by
  walk_at "dd"
  refine⟨k',4,rfl,by decide,by omega,fun r h0 h1=>?_⟩
  walk_at "dd"
  refine qa4v h0 h1 fun d hd _=>?_
  walk_at "dd"
  simp at hd
  rcases hd with rfl | rfl | rfl | rfl<;>exact q (.leaf "fact" (.str _)) _ (by omega) fun b n hn=>qb3i (.inl ⟨rfl,_,rfl⟩) (.inl rfl) (by decide +kernel) hn
 refine ite_b (fun c=>?_) (fun c=>?_)
 ·have hne:0 < ev.length:=by
   cases ev with
   | nil=>simp [PyData.eqv,PyData.eqvAll] at c
   | cons _ _=>simp
  have hle:ev.length <= F.length:=by
   rw [← hE]
   exact Nat.le_trans (List.length_filterMap_le _ _) (by simp [encF])
  refine⟨k,3,rfl,by decide,by omega,fun r h0 h1=>?_⟩
  walk_at "dd"
  refine qa3w (fun c2=>?_) (fun c2=>fact _ (by omega))
  refine⟨k + 1,ev.length,rfl,by omega,by omega,fun r2 h2 h3=>?_⟩
  walk_at "dd"
  refine qa4v h2 h3 fun d hd _=>?_
  walk_at "dd"
  obtain⟨m,rfl,hm⟩:=hev d hd
  exact q (.leaf "wish" (.str m)) _ (by omega) fun b n hn=>qb3i (.inr ⟨rfl,_,rfl,hm⟩) (.inr rfl) (hS _ hm) hn
 ·exact fact _ (by omega)
def spSen(m:Nat):DSp:=fun ls Q=>∃ (k size b sh:Nat) (F:List (Str × Bool)),ls=[.tape k,.d (.int size),.d (.list (encF F)),.d (.int b),.d (.int sh)]/\1 <= size/\size <= m/\size <= 100/\b <= 3/\F.length <= b/\k + 10 * size <= 990000/\(∀ p ∈ F,PyData.strOk p.1=true) /\
 ∀ (s:Sen) (k':Nat),k' <= k + 10 * size->SenOk F b size s->Q (.d s.enc) [some (.tape k'),none,none,none,none]
noncomputable def flipD:PyData->Option PyData
 | .tuple [.str m,.bool o]=>some (.tuple [.str m,.bool !o])
 | _=>none
theorem qc5l(F:List (Str × Bool)):(encF F).filterMap flipD=encF (Sen.flipF F):=by
 induction F with
 | nil=>rfl
 | cons p r ih =>
  obtain⟨m,o⟩:=p
  show(PyData.tuple [.str m,.bool o] :: encF r).filterMap flipD=_
  have e:flipD (PyData.tuple [.str m,.bool o])=some (PyData.tuple [.str m,.bool !o]):=rfl
  rw [List.filterMap_cons_some e,ih]
  rfl
theorem flip_ok{F:List (Str × Bool)}(h:∀ p ∈ F,PyData.strOk p.1=true):∀ p ∈ Sen.flipF F,PyData.strOk p.1=true:=fun p hp=>by
 obtain⟨q,hq,rfl⟩:=List.mem_map.mp hp
 exact h q hq
theorem qb2o{d:PyData}(h:d ∈ qb3h):d.canLay0=true/\d.depth <= 1/\(qa2l d=true/\okD d=true):=by
 simp only [qb3h,List.mem_cons,List.not_mem_nil,or_false] at h
 rcases h with rfl | rfl | rfl | rfl | rfl | rfl | rfl | rfl<;>exact⟨by decide +kernel,by decide +kernel,rfl,by simp [okD,okD.okAll]⟩
theorem qb9j{d:PyData}(h:IsStep d):d.canLay0=true/\d.depth <= 2/\(qa2l d=true/\okD d=true):=by
 rcases h with rfl | rfl | ⟨x,hx,rfl | rfl⟩
 ·exact⟨by decide +kernel,by decide +kernel,rfl,by simp [okD,okD.okAll]⟩
 ·exact⟨by decide +kernel,by decide +kernel,rfl,by simp [okD,okD.okAll]⟩
 ·obtain⟨h1,h2,h3,h4⟩:=qb2o hx
  have ho:PyData.strOk "one" = true:=by decide +kernel
  exact⟨by simp [PyData.canLay0,PyData.canLayAll0,h1,ho],by simp [PyData.depth,PyData.depthAll];omega,by simp [qa2l,qa4i,h3],by simp [okD,okD.okAll,h4]⟩
 ·obtain⟨h1,h2,h3,h4⟩:=qb2o hx
  have ho:PyData.strOk "pool" = true:=by decide +kernel
  exact⟨by simp [PyData.canLay0,PyData.canLayAll0,h1,ho],by simp [PyData.depth,PyData.depthAll];omega,by simp [qa2l,qa4i,h3],by simp [okD,okD.okAll,h4]⟩
theorem qb9k{w:Str} (h:w ∈ (["fact","wish","not","and","or","some","every","least","most","show"]:List Str)):PyData.strOk w=true:=by
 simp only [List.mem_cons,List.not_mem_nil,or_false] at h
 rcases h with rfl | rfl | rfl | rfl | rfl | rfl | rfl | rfl | rfl | rfl<;>decide +kernel
theorem qa7j{F F':List (Str × Bool)}{b b' n:Nat}{w:Str}{pre:List PyData}{s:Sen}(h:SenOk F' b' (n - 1) s)(hn:1 <= n)(g:Sen.Good F b (.one w pre s)) (hw:w = "not" ∨ w = "some" ∨ w = "every" ∨ w = "least" ∨ w = "most") (hp:pre.length <= 1) (hq:∀ d ∈ pre,d.canLay0=true/\d.depth <= 2/\qa2l d=true/\okD d=true):SenOk F b n (.one w pre s):=by
 have hw':PyData.strOk w=true:=qb9k (by simp;rcases hw with rfl | rfl | rfl | rfl | rfl<;>simp)
 have h1:=h.lay
 have h2:=h.deep
 have h3:=h.size
 have sp:=s.size_pos
 match pre,hp,hq,g with
 | [],_,_,g=>exact⟨g,⟨hw,Nat.zero_le _,rfl,h.ok⟩,by simp only [Sen.size];omega,by simp [Sen.enc,PyData.canLay0,PyData.canLayAll0,hw',h1],by simp only [Sen.enc,PyData.depth,PyData.depthAll,Sen.size,List.nil_append];omega,by simp [Sen.enc,okD,okD.okAll,h.short]⟩
 | [d],_,hq,g =>
  obtain⟨q1,q2,q3,q4⟩:=hq d List.mem_cons_self
  exact⟨g,⟨hw,Nat.le_refl _,by simp [qa4i,q3],h.ok⟩,by simp only [Sen.size];omega,by simp [Sen.enc,PyData.canLay0,PyData.canLayAll0,hw',h1,q1],by simp only [Sen.enc,PyData.depth,PyData.depthAll,Sen.size,List.cons_append,List.nil_append];omega,by simp [Sen.enc,okD,okD.okAll,q4,h.short]⟩
theorem qb1q{F F':List (Str × Bool)}{b n n1 n2:Nat}{w:Str}{pre:List PyData}{s t:Sen}(h:SenOk F' b n1 s)(h':SenOk F' b n2 t)(hn:n1 + n2 + 1 <= n)(g:Sen.Good F b (.two w pre s t)) (hw:w = "and" ∨ w = "or" ∨ w = "show") (hp:pre.length <= 1) (hq:∀ d ∈ pre,d.canLay0=true/\d.depth <= 2/\qa2l d=true/\okD d=true):SenOk F b n (.two w pre s t):=by
 have hw':PyData.strOk w=true:=qb9k (by simp;rcases hw with rfl | rfl | rfl<;>simp)
 have h1:=h.lay
 have h2:=h.deep
 have h3:=h.size
 have h1':=h'.lay
 have h2':=h'.deep
 have h3':=h'.size
 have sp:=s.size_pos
 have sp':=t.size_pos
 match pre,hp,hq,g with
 | [],_,_,g=>exact⟨g,⟨hw,Nat.zero_le _,rfl,h.ok,h'.ok⟩,by simp only [Sen.size];omega,by simp [Sen.enc,PyData.canLay0,PyData.canLayAll0,hw',h1,h1'],by simp only [Sen.enc,PyData.depth,PyData.depthAll,Sen.size,List.nil_append];omega,by simp [Sen.enc,okD,okD.okAll,h.short,h'.short]⟩
 | [d],_,hq,g =>
  obtain⟨q1,q2,q3,q4⟩:=hq d List.mem_cons_self
  exact⟨g,⟨hw,Nat.le_refl _,by simp [qa4i,q3],h.ok,h'.ok⟩,by simp only [Sen.size];omega,by simp [Sen.enc,PyData.canLay0,PyData.canLayAll0,hw',h1,h1',q1],by simp only [Sen.enc,PyData.depth,PyData.depthAll,Sen.size,List.cons_append,List.nil_append];omega,by simp [Sen.enc,okD,okD.okAll,q4,h.short,h'.short]⟩
theorem SenOk.up{F:List (Str × Bool)}{b n n':Nat}{s:Sen}(h:SenOk F b n s)(hn:n <= n'):SenOk F b n' s:=⟨h.good,h.ok,Nat.le_trans h.size hn,h.lay,h.deep,h.short⟩
abbrev qa3x:Stmt:=top 21
theorem qa1l:FnScope ["_law_tape","_law_size","_law_free","_law_binders","_law_shows","_law_way","_law_flipped","_law_word","_law_name","_law_body","_law_first","_law_told","_law_one"] ["_law_tape","_law_size","_law_free","_law_binders","_law_shows"] (qa0i qa3x):=⟨rfl,rfl,rfl,by decide +kernel,rfl,by decide +kernel,by decide +kernel⟩
theorem qb7t{f f1 f2 f3 f4:Addr}{fd fd1 fd2 fd3 fd4:FuncData} (F:Fun K "_law_sentence" "_law_sentence" qa3x f fd) (B:Bl mg) (qa0r:DNext K mg f1 fd1)
  (qa4j:Def K mg "_law_hands" qa5e ["_law_tape"] f2 fd2) (qb0u:Def K mg "_law_step" qa7u ["_law_tape"] f3 fd3) (qb0v:Def K mg "_law_leaf" qa7v ["_law_tape","_law_free"] f4 fd4)
  (qa0y:Def K mg "_law_sentence" qa3x ["_law_tape","_law_size","_law_free","_law_binders","_law_shows"] f fd) {m:Nat} (qa1e:GNext P w K mg base n f1 fd1) (qa9i:FnOk P w K mg base CX0 n f2 fd2 ["_law_tape"] (spD K qb4i))
  (qc0m:FnOk P w K mg base CX0 n f3 fd3 ["_law_tape"] (spD K spStep)) (qc0n:FnOk P w K mg base CX0 n f4 fd4 ["_law_tape","_law_free"] (spD K qb6v)) (qa1p:FnOk P w K mg base CX0 n f fd ["_law_tape","_law_size","_law_free","_law_binders","_law_shows"] (spD K (spSen m))) :
  FnOk P w K mg base CX0 (n + 1) f fd ["_law_tape","_law_size","_law_free","_law_binders","_law_shows"] (spD K (spSen (m + 1))):=by
 refine F.dok qa1l (fun cdv A outer s H E hr ls Qd h=>?_) (fun ls Qd hq8=>by obtain⟨k,_,_,_,F,e,_⟩:=hq8;rw [e];rfl)
 obtain⟨k,size,b,sh,F,rfl,hs1,hs2,hs3,hb,hF,hk,hS,q⟩:=h
 refine⟨rfl,?_⟩
 refine⟨_,(qa0f (qa1x (i:=5) qa1l.nd rfl (Or.inl rfl) (qa0l [true,false] qa0r qa1e hr rfl (qa0a (dv 0) (qa0a qa0k qa0c))))
  (qa0f (qa2r (DW.toT (qa8x (qa1k qa8u (qa5x _) (dv 1) qa0k (qa0j _)) (qa7e (qa1k (qa2x hr.units) qa2w (dv 5) qa0k (qa0j _)))))
  (qa0h (qa0x (qa0l [true,false] qb0v qc0n hr rfl (qa0a (dv 0) (qa0a (dv 2) qa0c)))))
  qa1m)
  (qa0f (qa2r (qa1k (qa2x hr.units) qa2w (dv 5) qa0k (qa0j _))
  (qa0f (qb8z (i:=6) qa1l.nd rfl rfl ["_law_name","_law_odd"] [] rfl (by rfl) (by decide +kernel) (qa8i (dv 2)) (fun _ _ _=>(qa9v (n:=2) rfl (qa2u (qa1h (i:=0) (show(["_law_name","_law_odd"]:List Str).Nodup by decide +kernel) rfl (Or.inl rfl)) (qa2u (qa1h (i:=1) (show(["_law_name","_law_odd"]:List Str).Nodup by decide +kernel) rfl (Or.inl rfl)) qa8b)))) (fun _ _ _=>qb1w) (fun _ _ _=>(qa1g (qa0a (dv 0) (qa0a (de_not (dv 1)) qa0c)))))
  (qa0h (qa0x (qa1g (qa0a qa0m (qa0a (qa0l [true,false,false,false,false] qa0y qa1p hr rfl (qa0a (dv 0) (qa0a (qa2n qa4b qa4m (dv 1) qa0k) (qa0a (dv 6) (qa0a (dv 3) (qa0a (dv 4) qa0c)))))) qa0c))))))
  qa1m)
  (qa0f (qa2r (DW.toT (qa8x (qa1k qa8u (qa5x _) (dv 5) qa0k (qa0j _)) (qa7e (qa1k qa8u (qa5x _) (dv 1) qa0k (qa0j _)))))
  (qa0f (qa1x (i:=7) qa1l.nd rfl (Or.inl rfl) (qa1b qa0s qa1c (qa2b (qa1n (qa0a qa0m (qa0a qa0m qa0c)))) (qa0l [true,false] qa0r qa1e hr rfl (qa0a (dv 0) (qa0a qa0k qa0c))) (fun _ _=>rfl)))
  (qa0h (qa0x (qa1g (qa0a (dv 7) (qa0a (qa0l [true] qb0u qc0m hr rfl (qa0a (dv 0) qa0c)) (qa0a (qa0l [true,false,false,false,false] qa0y qa1p hr rfl (qa0a (dv 0) (qa0a (qa2n qa4b qa4m (dv 1) qa0k) (qa0a (dv 2) (qa0a (dv 3) (qa0a (dv 4) qa0c)))))) qa0c)))))))
  qa1m)
  (qa0f (qa2r (DW.toT (qb6d (qa1k qa8u (qa5x _) (dv 5) qa0k (qa0j _)) (qb3y (qa1k qa8u (qa5x _) (dv 3) qa0k (qa0j _)))))
  (qa0f (qa1x (i:=8) qa1l.nd rfl (Or.inl rfl) (qa1b qa0s qa1c (qa1b qa0s qa1c (qa2b (qa1n (qa0a (qa2b (qa1n (qa0a qa0m (qa0a qa0m (qa0a qa0m qa0c))))) (qa0a (qa2b (qa1n (qa0a qa0m (qa0a qa0m (qa0a qa0m qa0c))))) qa0c)))) (qa0l [true,false] qa0r qa1e hr rfl (qa0a (dv 0) (qa0a qa0k qa0c))) (fun _ _=>rfl)) (dv 3) (fun _ _=>rfl)))
  (qa0f (qa1x (i:=9) qa1l.nd rfl (Or.inl rfl) (qa0l [true,false,false,false,false] qa0y qa1p hr rfl (qa0a (dv 0) (qa0a (qa2n qa4b qa4m (dv 1) qa0k) (qa0a (qa2n qa2g qa4e (dv 2) (qa2b (qa1n (qa0a (qa1g (qa0a (dv 8) (qa0a qa7p qa0c))) qa0c)))) (qa0a (qa2n qa2g qa4e (dv 3) qa0k) (qa0a (dv 4) qa0c)))))))
  (qa0h (qa0x (qa1g (qa0a (qa1b qa0s qa1c (qa2b (qa1n (qa0a qa0m (qa0a qa0m qa0c)))) (qa0l [true,false] qa0r qa1e hr rfl (qa0a (dv 0) (qa0a qa0k qa0c))) (fun _ _=>rfl)) (qa0a (dv 8) (qa0a (dv 9) qa0c))))))))
  qa1m)
  (qa0f (qa1x (i:=10) qa1l.nd rfl (Or.inl rfl) (qa2n qa2g qa4e qa0k (qa0l [true,false] qa0r qa1e hr rfl (qa0a (dv 0) (qa0a (qa2n qa4b qa4m (dv 1) qa0k) qa0c)))))
  (qa0f (qa2r (DW.toT (qb6d (qa1k (qa2x hr.units) qa2w (dv 5) qa0k (qa0j _)) (qb3y (qa1k qa8u (qa5x _) (dv 4) qa0k (qa0j _)))))
  (qa0f (qa1x (i:=11) qa1l.nd rfl (Or.inl rfl) (qa0l [true,false,false,false,false] qa0y qa1p hr rfl (qa0a (dv 0) (qa0a (dv 10) (qa0a (qa2b (qa1n qa0c)) (qa0a (dv 3) (qa0a (qa2n qa2g qa4e (dv 4) qa0k) qa0c)))))))
  (qa0h (qa0x (qa1g (qa0a qa0m (qa0a (qa0l [true] qa4j qa9i hr rfl (qa0a (dv 0) qa0c)) (qa0a (dv 11) (qa0a (qa0l [true,false,false,false,false] qa0y qa1p hr rfl (qa0a (dv 0) (qa0a (qa2n qa4b qa4m (qa2n qa4b qa4m (dv 1) qa0k) (dv 10)) (qa0a (qa2b (qa1n qa0c)) (qa0a (dv 3) (qa0a (qa2n qa2g qa4e (dv 4) qa0k) qa0c)))))) qa0c))))))))
  qa1m)
  (qa0f (qa1x (i:=12) qa1l.nd rfl (Or.inl rfl) (qa0l [true,false,false,false,false] qa0y qa1p hr rfl (qa0a (dv 0) (qa0a (dv 10) (qa0a (dv 2) (qa0a (dv 3) (qa0a (dv 4) qa0c)))))))
  (qa0h (qa0x (qa1g (qa0a (qa1b qa0s qa1c (qa2b (qa1n (qa0a qa0m (qa0a qa0m qa0c)))) (qa0l [true,false] qa0r qa1e hr rfl (qa0a (dv 0) (qa0a qa0k qa0c))) (fun _ _=>rfl)) (qa0a (dv 12) (qa0a (qa0l [true,false,false,false,false] qa0y qa1p hr rfl (qa0a (dv 0) (qa0a (qa2n qa4b qa4m (qa2n qa4b qa4m (dv 1) qa0k) (dv 10)) (qa0a (dv 2) (qa0a (dv 3) (qa0a (dv 4) qa0c)))))) qa0c)))))))))))))),?_⟩
 walk_at "dd"
 refine⟨k,12,rfl,by decide,by omega,fun way h0 h1=>?_⟩
 walk_at "dd"
 have leaf:qb6v [L.tape (k + 1),L.d (PyData.list (encF F))] fun r outs=>match r with
   | RV.d x=>Qd (RV.d x) [outs[0]?.join.bind (qa5z (L.tape (k + 1))),none,none,none,none]
   | RV.new ys=>Qd (RV.d (PyData.list ys)) [outs[0]?.join.bind (qa5z (L.tape (k + 1))),none,none,none,none]:=by
  refine⟨k + 1,F,rfl,by omega,by omega,hS,fun s k' hk' ok=>?_⟩
  walk_at "dd"
  exact q s k' (by omega) (ok b size hs1)
 refine ite_or (fun _=>leaf) fun c1 c2=>?_
 have e1:(size:Int) - 1=((size - 1:Nat):Int):=by omega
 walk_at "dd"
 refine qa3w (fun c3=>?_) fun c3=>?_
 ·-- not
  walk_at "dd"
  refine⟨by simp [encF];omega,qb0n (fun ρ=>∃ a b,ρ=[a,b]) flipD ⟨none,none,rfl⟩ (fun x ρ N hx hρ hN=>?_) fun ρ _=>?_⟩
  ·obtain⟨a,b,rfl⟩:=hρ
   obtain⟨⟨m,o⟩,_,rfl⟩:=List.mem_map.mp hx
   walk_at "dd"
   exact hN _ ⟨_,_,rfl⟩
  rw [qc5l]
  walk_at "dd"
  refine⟨k + 1,size - 1,b,sh,Sen.flipF F,by rw [e1],by omega,by omega,by omega,hb,by simpa [Sen.flipF] using hF,by omega,flip_ok hS,fun s k' hk' ok=>?_⟩
  walk_at "dd"
  exact q (.one "not" [] s) k' (by omega) (qa7j ok hs1 (.inl ⟨rfl,rfl,ok.good⟩) (.inl rfl) (Nat.zero_le _) fun d hd=>by cases hd)
 walk_at "dd"
 refine ite_or (fun c4=>?_) fun c4 c5=>?_
 ·-- some, every
  refine⟨k + 1,2,rfl,by decide,by omega,fun r g0 g1=>?_⟩
  walk_at "dd"
  refine qa4v g0 g1 fun wd hwd _=>?_
  walk_at "dd"
  refine⟨k + 2,rfl,by omega,fun st k2 hk2 hst=>?_⟩
  walk_at "dd"
  refine⟨k2,size - 1,b,sh,F,by rw [e1],by omega,by omega,by omega,hb,hF,by omega,hS,fun s k' hk' ok=>?_⟩
  walk_at "dd"
  simp at hwd
  rcases hwd with rfl | rfl
  ·exact q (.one "some" [st] s) k' (by omega) (qa7j ok hs1 (.inr (.inl ⟨.inl rfl,⟨_,rfl⟩,ok.good⟩)) (.inr (.inl rfl)) (Nat.le_refl _) fun d hd=>by simp at hd;subst hd;exact qb9j hst)
  ·exact q (.one "every" [st] s) k' (by omega) (qa7j ok hs1 (.inr (.inl ⟨.inr rfl,⟨_,rfl⟩,ok.good⟩)) (.inr (.inr (.inl rfl))) (Nat.le_refl _) fun d hd=>by simp at hd;subst hd;exact qb9j hst)
 walk_at "dd"
 refine qb9b (fun c6 c7=>?_) fun c6=>?_
 ·-- least, most
  have hb3:b < 3:=by omega
  refine⟨k + 1,2,rfl,by decide,by omega,fun r g0 g1=>?_⟩
  walk_at "dd"
  refine qa4v g0 g1 fun nms hnms _=>?_
  have hx:∃ xs,nms=.list xs/\xs.length=3/\∀ d,xs[b]? = some d->∃ m,d=.str m/\Sen.IsNm b m/\PyData.strOk m=true:=by
   have cb:b=0 ∨ b=1 ∨ b=2:=by omega
   simp at hnms
   rcases hnms with rfl | rfl<;>refine⟨_,rfl,rfl,fun d hd=>?_⟩<;>rcases cb with rfl | rfl | rfl<;>simp at hd<;>subst hd<;>refine⟨_,rfl,⟨by decide,?_⟩,by decide +kernel⟩<;>first | exact .inl rfl | exact .inr rfl
  obtain⟨xs,rfl,hxl,hxs⟩:=hx
  walk_at "dd"
  refine qa4v (by omega) (by rw [hxl];omega) fun d _ hd=>?_
  obtain⟨nm,rfl,hnm,hok⟩:=hxs d (by simpa using hd)
  walk_at "dd"
  have e2:(b:Int) + 1=((b + 1:Nat):Int):=by omega
  have eF:encF F ++ [PyData.tuple [.str nm,.bool false]]=encF (F ++ [(nm,false)]):=by simp [encF]
  have hFl:(encF F).length=F.length:=by simp [encF]
  rw [qb6m (by rw [hFl];exact Nat.le_of_lt (mil (by simp;omega))),eF]
  walk_at "dd"
  refine⟨k + 1 + 1,size - 1,b + 1,sh,F ++ [(nm,false)],by rw [e1,e2],by omega,by omega,by omega,by omega,by rw [List.length_append,List.length_singleton];omega,by omega,fun p hp=>?_,fun s k' hk' ok=>?_⟩
  ·rcases List.mem_append.mp hp with hp | hp
   ·exact hS p hp
   ·simp at hp;subst hp;exact hok
  walk_at "dd"
  refine⟨k',2,rfl,by decide,by omega,fun r2 g2 g3=>?_⟩
  walk_at "dd"
  refine qa4v g2 g3 fun wd hwd _=>?_
  walk_at "dd"
  simp at hwd
  have hpre:∀ d ∈ [PyData.str nm],d.canLay0=true/\d.depth <= 2/\qa2l d=true/\okD d=true:=fun d hd=>by
   simp at hd;subst hd
   exact⟨by simpa [PyData.canLay0] using hok,by simp [PyData.depth],rfl,rfl⟩
  rcases hwd with rfl | rfl
  ·exact q (.one "least" [.str nm] s) _ (by omega) (qa7j ok hs1 (.inr (.inr ⟨.inl rfl,nm,rfl,hnm,ok.good⟩)) (.inr (.inr (.inr (.inl rfl)))) (Nat.le_refl _) hpre)
  ·exact q (.one "most" [.str nm] s) _ (by omega) (qa7j ok hs1 (.inr (.inr ⟨.inr rfl,nm,rfl,hnm,ok.good⟩)) (.inr (.inr (.inr (.inr rfl)))) (Nat.le_refl _) hpre)
 walk_at "dd"
 refine⟨k + 1,size - 2,by rw [show(size:Int) - 2=((size - 2:Nat):Int) by omega],by omega,by omega,fun r g0 g1=>?_⟩
 walk_at "dd"
 obtain⟨fi,rfl⟩:∃ fi:Nat,r=fi:=⟨r.toNat,by omega⟩
 have e3:(1:Int) + (fi:Int)=((1 + fi:Nat):Int):=by omega
 have e4:(size:Int) - 1 - (1 + (fi:Int))=((size - 1 - (1 + fi):Nat):Int):=by omega
 refine qb9b (fun c7 c8=>?_) fun c7=>?_
 ·-- show
  have e5:(sh:Int) + 1=((sh + 1:Nat):Int):=by omega
  walk_at "dd"
  refine⟨k + 1 + 1,1 + fi,b,sh + 1,[],by rw [e3,e5];rfl,by omega,by omega,by omega,hb,Nat.zero_le _,by omega,fun p hp=>(by cases hp),fun s k' hk' ok=>?_⟩
  walk_at "dd"
  refine⟨k',rfl,by omega,fun h hh=>?_⟩
  walk_at "dd"
  refine⟨k' + 1,size - 1 - (1 + fi),b,sh + 1,[],by rw [e4,e5];rfl,by omega,by omega,by omega,hb,Nat.zero_le _,by omega,fun p hp=>(by cases hp),fun t k2 hk2 ok2=>?_⟩
  walk_at "dd"
  exact q (.two "show" [h] s t) _ (by omega) (qb1q ok ok2 (by omega) (.inr ⟨rfl,⟨_,rfl⟩,ok.good,ok2.good⟩) (.inr (.inr rfl)) (Nat.le_refl _) fun d hd=>by
   simp at hd;subst hd
   obtain⟨a1,a2,a3⟩:=qb2o hh
   exact⟨a1,by omega,a3⟩)
 ·walk_at "dd"
  refine⟨k + 1 + 1,1 + fi,b,sh,F,by rw [e3],by omega,by omega,by omega,hb,hF,by omega,hS,fun s k' hk' ok=>?_⟩
  walk_at "dd"
  refine⟨k',2,rfl,by decide,by omega,fun r2 g2 g3=>?_⟩
  walk_at "dd"
  refine qa4v g2 g3 fun wd hwd _=>?_
  walk_at "dd"
  refine⟨k' + 1,size - 1 - (1 + fi),b,sh,F,by rw [e4],by omega,by omega,by omega,hb,hF,by omega,hS,fun t k2 hk2 ok2=>?_⟩
  walk_at "dd"
  simp at hwd
  rcases hwd with rfl | rfl
  ·exact q (.two "and" [] s t) _ (by omega) (qb1q ok ok2 (by omega) (.inl ⟨.inl rfl,rfl,ok.good,ok2.good⟩) (.inl rfl) (Nat.zero_le _) fun d hd=>by cases hd)
  ·exact q (.two "or" [] s t) _ (by omega) (qb1q ok ok2 (by omega) (.inl ⟨.inr rfl,rfl,ok.good,ok2.good⟩) (.inr (.inl rfl)) (Nat.zero_le _) fun d hd=>by cases hd)
end
noncomputable def qb6w:List (Str × PyData):=[("fact",.tuple [.str "name",.int 0]),("wish",.tuple [.str "name",.int 0]),("not",.tuple [.str "",.int 1]),("and",.tuple [.str "",.int 2]),("or",.tuple [.str "",.int 2]),("some",.tuple [.str "step",.int 1]),("every",.tuple [.str "step",.int 1]),("least",.tuple [.str "name",.int 1]),("most",.tuple [.str "name",.int 1]),("show",.tuple [.str "hands",.int 2])]
theorem qc5m:∀ {x:Sen},OkS x->∃ z,qb6w.lookup x.word=some (.tuple [.str z,.int x.kids.length])
 | .leaf w a,h=>by rcases h.1 with rfl | rfl<;>exact⟨_,rfl⟩
 | .one w pre s,h=>by rcases h.1 with rfl | rfl | rfl | rfl | rfl<;>exact⟨_,rfl⟩
 | .two w pre s t,h=>by rcases h.1 with rfl | rfl | rfl<;>exact⟨_,rfl⟩
theorem qc5n:∀ {x:Sen},OkS x->∀ y ∈ x.kids,OkS y
 | .leaf w a,_,y,hy=>by cases hy
 | .one w pre s,h,y,hy=>by
  have e:y=s:=by simpa [Sen.kids] using hy
  subst e;exact h.2.2.2
 | .two w pre s t,h,y,hy=>by
  have e:y=s ∨ y=t:=by simpa [Sen.kids] using hy
  rcases e with rfl | rfl
  ·exact h.2.2.2.1
  ·exact h.2.2.2.2
theorem qa8c:∀ {x:Sen},OkS x->∀ y ∈ x.all,OkS y
 | .leaf w a,h,y,hy=>by
  have e:y=.leaf w a:=by simpa [Sen.all] using hy
  subst e;exact h
 | .one w pre s,h,y,hy=>by
  have e:y=.one w pre s ∨ y ∈ s.all:=by simpa [Sen.all] using hy
  rcases e with rfl | e
  ·exact h
  ·exact qa8c h.2.2.2 y e
 | .two w pre s t,h,y,hy=>by
  have e:y=.two w pre s t ∨ y ∈ s.all ∨ y ∈ t.all:=by simpa [Sen.all] using hy
  rcases e with rfl | e | e
  ·exact h
  ·exact qa8c h.2.2.2.1 y e
  ·exact qa8c h.2.2.2.2 y e
noncomputable def heads:Sen->List PyData
 | .leaf w a=>[.str w,a]
 | .one w pre _=>.str w :: pre
 | .two w pre _ _=>.str w :: pre
theorem enc_eq:∀ x:Sen,x.enc=.tuple (heads x ++ x.kids.map Sen.enc)
 | .leaf w a=>rfl
 | .one w pre s=>by simp [Sen.enc,heads,Sen.kids]
 | .two w pre s t=>by simp [Sen.enc,heads,Sen.kids]
theorem qc2q:∀ x:Sen,1 <= (heads x).length/\(heads x)[0]? = some (.str x.word)
 | .leaf w a=>⟨Nat.le_of_ble_eq_true rfl,rfl⟩
 | .one w pre _=>⟨Nat.succ_le_succ (Nat.zero_le _),rfl⟩
 | .two w pre _ _=>⟨Nat.succ_le_succ (Nat.zero_le _),rfl⟩
theorem qb7u:∀ {x:Sen},OkS x->(heads x).length <= 2
 | .leaf w a,_=>Nat.le_refl _
 | .one w pre _,h=>Nat.succ_le_succ h.2.1
 | .two w pre _ _,h=>Nat.succ_le_succ h.2.1
theorem qb0w:∀ x:Sen,x.kids.length <= 2
 | .leaf _ _=>Nat.zero_le _
 | .one _ _ _=>Nat.le_of_ble_eq_true rfl
 | .two _ _ _ _=>Nat.le_refl _
def qb4j:DSp:=fun ls Q=>∃ x:Sen,ls=[.d x.enc]/\OkS x/\Q (.d (.tuple (x.kids.map Sen.enc))) [none]
section
variable{P:Program}{w:World}{K:W.Frag}{mg:Str->Option Value}{base:Heap}{n:Nat}
abbrev qa6d:Stmt:=top 3
theorem qb7v:FnScope ["sentence"] ["sentence"] (qa0i qa6d):=⟨rfl,rfl,rfl,by decide +kernel,rfl,by decide +kernel,by decide +kernel⟩
theorem qb7w{f:Addr}{fd:FuncData} (F:Fun K "parts_of" "parts_of" qa6d f fd) (B:Bl mg) (t_FORMS:Tab K w mg "FORMS" qb6w):FnOk P w K mg base CX0 (n + 1) f fd ["sentence"] (spD K qb4j):=by
 refine F.dok qb7v (fun cdv A outer s H E hr ls Qd h=>?_) (fun ls Qd hq8=>by obtain⟨x,e,_⟩:=hq8;rw [e];rfl)
 obtain⟨x,rfl,hx,q⟩:=h
 refine⟨rfl,?_⟩
 refine⟨_,(qa0h (qa0x (qc5b sl_tup ad_slT (dv 0) (do_some (qa2n qa4b qa4m (qa1o qa0v qa2q rfl B.len_ qa1j (qa0a (dv 0) qa0c)) (qa1b qa0s qa1c (de_tab t_FORMS rfl (qa1b qa0s qa1c (dv 0) qa0k (fun _ _=>rfl)) (fun _ _=>rfl)) qa0k (fun _ _=>rfl)))) do_none))),?_⟩
 obtain⟨h1,h2⟩:=qc2q x
 have h3:=qb7u hx
 have h4:=qb0w x
 obtain⟨z,hz⟩:=qc5m hx
 have hlen:(heads x ++ x.kids.map Sen.enc).length=(heads x).length + x.kids.length:=by rw [List.length_append,List.length_map]
 have e0:atI (heads x ++ x.kids.map Sen.enc) 0=some (.str x.word):=qa1f (j:=0) (by rw [List.getElem?_append_left (by omega)];exact h2)
 rw [enc_eq x]
 walk_at "dd"
 rw [e0]
 walk_at "dd"
 rw [hz]
 walk_at "dd"
 try rw [show atI [PyData.str z,PyData.int (x.kids.length:Int)] 1=some (.int x.kids.length) from rfl]
 try walk_at "dd"
 have ei:(((heads x ++ x.kids.map Sen.enc).length:Nat):Int) - (x.kids.length:Int)=(((heads x).length:Nat):Int):=by rw [hlen];omega
 have ec:fSlT (.tuple (heads x ++ x.kids.map Sen.enc)) (some (((heads x).length:Nat):Int)) none=some (.tuple (x.kids.map Sen.enc)):=by
  show(if _ then none else some (PyData.tuple (cutD _ _ _)))=_
  rw [HT.qb8l,HT.qb5s,hlen,Nat.min_eq_left (by omega),if_neg (by omega)]
  unfold cutD
  rw [HT.qb8l,HT.qb5s,hlen,Nat.min_eq_left (by omega),List.drop_left,Nat.add_sub_cancel_left,List.take_of_length_le (by rw [List.length_map];exact Nat.le_refl _)]
 rw [ei,ec]
 walk_at "dd"
 exact q
def qa8l:DSp:=fun ls Q=>∃ x:Sen,ls=[.d x.enc]/\OkS x/\x.size <= 900/\Q (.new (x.all.map Sen.enc)) [none]
theorem qb9l:∀ ws:List Sen,ws.length <= (ws.flatMap Sen.all).length
 | []=>Nat.le_refl _
 | y :: r=>by
  have h1:=qb9l r
  have h2:=y.size_pos
  rw [List.flatMap_cons,List.length_append,Sen.all_length,List.length_cons]
  omega
abbrev qa3s:Stmt:=top 6
theorem qa4p:FnScope ["sentence","things","waiting","thing","part"] ["sentence"] (qa0i qa3s):=⟨rfl,rfl,rfl,by decide +kernel,rfl,by decide +kernel,by decide +kernel⟩
theorem qb6x{f f1:Addr}{fd fd1:FuncData} (F:Fun K "things_of" "things_of" qa3s f fd) (B:Bl mg) (d_parts_of:Def K mg "parts_of" qa6d ["sentence"] f1 fd1) (g_parts_of:FnOk P w K mg base CX0 n f1 fd1 ["sentence"] (spD K qb4j)):FnOk P w K mg base CX0 (n + 1) f fd ["sentence"] (spD K qa8l):=by
 refine F.dok qa4p (fun cdv A outer s H E hr ls Qd h=>?_) (fun ls Qd hq8=>by obtain⟨x,e,_⟩:=hq8;rw [e];rfl)
 obtain⟨x,rfl,hx,hsz,q⟩:=h
 refine⟨rfl,?_⟩
 refine⟨_,(qa0f (qa5o (i:=1) qa4p.nd rfl (Or.inl rfl) (qa1n qa0c))
  (qa0f (qa5o (i:=2) qa4p.nd rfl (Or.inl rfl) (qa1n (qa0a (dv 0) qa0c)))
  (qa0f (qb6l PassesOwn.never (qb6c (dv 2))
  (qa0f (qa1x (i:=3) qa4p.nd rfl (Or.inl rfl) (de_pop 2 rfl))
  (qa0f (qb4b (qb1o 1 rfl (dv 3)))
  (qa0h (qa4n PassesOwn.never rfl (di_rev rfl B.reversed_ (qa0l [false] d_parts_of g_parts_of hr rfl (qa0a (dv 3) qa0c))) (qa1h (i:=4) qa4p.nd rfl (Or.inl rfl))
  (qa0h (qb4b (qb1o 2 rfl (dv 4)))))))))
  (qa0h (qa7f 1))))),?_⟩
 walk_at "dd"
 refine qb4z (fun m ρ=>∃ (ts ws:List Sen) (v3 v4:Option L),ρ=[some (.d x.enc),some (.own (ts.map Sen.enc)),some (.own (ws.map Sen.enc)),v3,v4]/\ts ++ ws.reverse.flatMap Sen.all=x.all/\m + ts.length=x.size/\∀ y ∈ ws,OkS y) x.size
  ⟨[],[x],none,none,rfl,by simp,by simp,fun y hy=>by simp at hy;subst hy;exact hx⟩ ?_
 rintro m ρ N ⟨ts,ws,v3,v4,rfl,hall,hm,hok⟩ hN
 walk_at "dd"
 rcases List.eq_nil_or_concat ws with rfl | ⟨ws0,y,rfl⟩
 ·refine iteF ?_
  walk_at "dd"
  have e:ts=x.all:=by simpa using hall
  rw [e];exact q
 ·rw [List.concat_eq_append] at *
  have hall':ts ++ (y.all ++ ws0.reverse.flatMap Sen.all)=x.all:=by simpa using hall
  have hyok:OkS y:=hok y (by simp)
  have lw:ts.length + ws0.length + 1 <= x.size:=by
   have e:=congrArg List.length hall'
   rw [List.length_append,List.length_append,Sen.all_length,Sen.all_length] at e
   have:=qb9l ws0.reverse
   rw [List.length_reverse] at this
   have:=y.size_pos
   omega
  have eb:(!(List.map Sen.enc (ws0 ++ [y])).isEmpty)=true:=by simp
  rw [eb]
  refine iteT ?_
  rw [List.map_append,List.map_cons,List.map_nil,List.getLast?_concat,List.dropLast_concat]
  walk_at "dd"
  refine⟨by rw [List.length_map];omega,?_⟩
  walk_at "dd"
  refine⟨y,rfl,hyok,?_⟩
  walk_at "dd"
  have lk:=qb0w y
  refine qa3f (fun i ρ=>∃ v4,ρ=[some (.d x.enc),some (.own ((ts ++ [y]).map Sen.enc)),some (.own ((ws0 ++ y.kids.reverse.take i).map Sen.enc)),some (.d y.enc),v4]) ⟨v4,by simp⟩ ?_ ?_
  ·rintro i u ρ N2 hu ⟨v4',rfl⟩ hN2
   have hi:i < y.kids.length:=by
    have:=(List.getElem?_eq_some_iff.mp hu).1
    rwa [List.length_reverse,List.length_map] at this
   rw [← List.map_reverse,List.getElem?_map] at hu
   obtain⟨kid,ek,rfl⟩:=Option.map_eq_some_iff.mp hu
   walk_at "dd"
   refine⟨by simp;omega,hN2 _ ⟨some (.d kid.enc),?_⟩⟩
   rw [List.take_add_one,ek,Option.toList_some,← List.append_assoc,List.map_append (l₁:=ws0 ++ _)]
   rfl
  ·rintro ρ ⟨v4',rfl⟩
   refine hN (m - 1) _ (by omega) ⟨ts ++ [y],ws0 ++ y.kids.reverse,some (.d y.enc),v4',?_,?_,?_,?_⟩
   ·rw [List.length_reverse,List.length_map,List.take_of_length_le (by rw [List.length_reverse];exact Nat.le_refl _)]
   ·rw [← hall',y.all_kids];simp
   ·rw [List.length_append,List.length_singleton];omega
   ·intro z hz
    rcases List.mem_append.mp hz with hz | hz
    ·exact hok z (List.mem_append_left _ hz)
    ·exact qc5n hyok z (List.mem_reverse.mp hz)
abbrev numD(n:Nat):PyData:=.int (n:Int)
noncomputable def qa8m(x:Sen)(i:Nat):PyData:=match x.all[i]? with | some y=>.tuple ((y.kidNums i).map numD) | none=>.tuple []
noncomputable def qa2s(x:Sen):List PyData:=(List.range x.size).map (qa8m x)
theorem qa9b{x y:Sen}{i:Nat}(h:x.all[i]? = some y):qa8m x i=.tuple ((y.kidNums i).map numD):=by unfold qa8m;rw [h]
theorem qa6o{n k:Nat}(h:k < n):ixN n (k:Int)=some k:=by
 unfold ixN
 rw [if_pos (by omega),if_pos (by omega),Int.toNat_natCast]
theorem bits63{n:Nat}(h:n <= 1000):-(2 ^ 63) <= (n:Int)/\(n:Int) < 2 ^ 63:=by
 have e:(2:Int) ^ 63=9223372036854775808:=by decide
 rw [e];omega
theorem qa9z{d:PyData}{n:Nat}(h:n <= 1000):fRep (.list [d]) (.int n)=some (List.replicate n d):=by
 have b:=bits63 h
 rw [fRep_l ⟨b.1,b.2,by rw [Int.toNat_natCast,List.length_singleton,Nat.one_mul];exact Nat.le_of_lt (qa3a h)⟩,Int.toNat_natCast,List.flatten_replicate_singleton]
def qa9c:DSp:=fun ls Q=>∃ x:Sen,ls=[.d x.enc]/\OkS x/\x.size <= 900/\Q (.new (qa2s x)) [none]
theorem qb5c{x y:Sen}{i:Nat}(h:x.all[i]? = some y):atI (x.all.map Sen.enc) (i:Int)=some y.enc:=qa1f (by rw [List.getElem?_map,h];rfl)
abbrev qa4w:Stmt:=top 7
theorem qa3b:FnScope ["sentence","things","told","behind","number","parts","place"] ["sentence"] (qa0i qa4w):=⟨rfl,rfl,rfl,by decide +kernel,rfl,by decide +kernel,by decide +kernel⟩
theorem qb7x{f f1 f2:Addr}{fd fd1 fd2:FuncData} (F:Fun K "parts_at" "parts_at" qa4w f fd) (B:Bl mg) (d_parts_of:Def K mg "parts_of" qa6d ["sentence"] f1 fd1) (g_parts_of:FnOk P w K mg base CX0 n f1 fd1 ["sentence"] (spD K qb4j))
  (d_things_of:Def K mg "things_of" qa3s ["sentence"] f2 fd2) (g_things_of:FnOk P w K mg base CX0 n f2 fd2 ["sentence"] (spD K qa8l)):FnOk P w K mg base CX0 (n + 1) f fd ["sentence"] (spD K qa9c):=by
 refine F.dok qa3b (fun cdv A outer s H E hr ls Qd h=>?_) (fun ls Qd hq8=>by obtain⟨x,e,_⟩:=hq8;rw [e];rfl)
 obtain⟨x,rfl,hx,hsz,q⟩:=h
 refine⟨rfl,?_⟩
 have lall:(x.all.map Sen.enc).length=x.size:=by rw [List.length_map,Sen.all_length]
 refine⟨_,(qa0f (qa1x (i:=1) qa3b.nd rfl (Or.inl rfl) (qa0l [false] d_things_of g_things_of hr rfl (qa0a (dv 0) qa0c)))
  (qa0f (qa5o (i:=2) qa3b.nd rfl (Or.inl rfl) (df_op qb1i qb1n (qa2b (qa1n (qa0a (qa1g qa0c) qa0c))) (qa1o qa0v qa2q rfl B.len_ qa1j (qa0a (dv 1) qa0c))))
  (qa0f (qa5o (i:=3) qa3b.nd rfl (Or.inl rfl) (df_op qb1i qb1n (qa2b (qa1n (qa0a qa0k qa0c))) (qa1o qa0v qa2q rfl B.len_ qa1j (qa0a (dv 1) qa0c))))
  (qa0f (qa4n PassesOwn.never rfl (di_down rfl B.range_ (qa0a (qa2n qa4b qa4m (qa1o qa0v qa2q rfl B.len_ qa1j (qa0a (dv 1) qa0c)) qa0k) (qa0a (de_neg qa0k) (qa0a (de_neg qa0k) qa0c)))) (qa1h (i:=4) qa3b.nd rfl (Or.inl rfl))
  (qa0f (qa5o (i:=5) qa3b.nd rfl (Or.inl rfl) (qa1n qa0c))
  (qa0f (qa1x (i:=6) qa3b.nd rfl (Or.inl rfl) (qa2n qa2g qa4e (dv 4) qa0k))
  (qa0f (qb6l PassesOwn.never (qa1k qa8u (qa5x _) (qa1o qa0v qa2q rfl B.len_ qa1j (qa0a (dv 5) qa0c)) (qa1o qa0v qa2q rfl B.len_ qa1j (qa0a (qa0l [false] d_parts_of g_parts_of hr rfl (qa0a (qa1b qa0s qa1c (dv 1) (dv 4) (fun _ _=>rfl)) qa0c)) qa0c)) (qa0j _))
  (qa0f (qb4b (qb1o 5 rfl (dv 6)))
  (qa0h (qa1x (i:=6) qa3b.nd rfl (Or.inl rfl) (qa1b qa0s qa1c (dv 3) (dv 6) (fun _ _=>rfl))))))
  (qa0f (qa6n 2 rfl (dv 4) (qb4x qa7m qb6b rfl B.tuple_ qa3z (qa0a (dv 5) qa0c)))
  (qa0h (qa6n 3 rfl (dv 4) (dv 6))))))))
  (qa0h (qa7f 2)))))),?_⟩
 walk_at "dd"
 refine⟨x,rfl,hx,hsz,?_⟩
 walk_at "dd"
 rw [lall,qa9z (by omega)]
 walk_at "dd"
 rw [lall,qa9z (by omega)]
 walk_at "dd"
 have e60:(2:Int) ^ 60=1152921504606846976:=by decide
 refine⟨⟨⟨by rw [lall,e60];omega,by rw [lall,e60];omega⟩,⟨by decide,by decide⟩⟩,?_⟩
 have ed:((((x.all.map Sen.enc).length:Nat):Int) - 1 - -1).toNat=x.size:=by rw [lall];omega
 rw [ed,lall]
 refine qa3f (fun i ρ=>i <= x.size/\∃ (ds:List PyData) (bs:List Nat) (v4 v5 v6:Option L),ρ=[some (.d x.enc),some (.d (.list (x.all.map Sen.enc))),some (.own ds),some (.own (bs.map numD)),v4,v5,v6]/\ds.length=x.size/\bs.length=x.size /\
  ∀ j,x.size - i <= j->j < x.size->ds[j]? = some (qa8m x j)/\∃ y,x.all[j]? = some y/\bs[j]? = some (j + y.size))
  ⟨Nat.zero_le _,_,List.replicate x.size 0,none,none,none,by rw [List.map_replicate];rfl,by simp,by simp,fun j h1 h2=>by omega⟩ ?_ ?_
 ·rintro i u ρ N hu ⟨_,ds,bs,v4,v5,v6,rfl,ld,lb,done⟩ hN
  have hi:i < x.size:=by
   have:=(List.getElem?_eq_some_iff.mp hu).1
   simpa [qa7r] using this
  have eu:u=.int ((x.size - 1 - i:Nat):Int):=by
   simp only [qa7r,List.getElem?_map,List.getElem?_range hi,Option.map_some] at hu
   have:=(Option.some.inj hu).symm
   rw [this];congr 1;omega
  subst eu
  generalize hnm:x.size - 1 - i=nm
  have lnm:nm < x.size:=by omega
  obtain⟨y,hy,my⟩:=Sen.mem_all_get lnm
  have oky:=qa8c hx y my
  have lk:=qb0w y
  have lkn:=Sen.kidNums_length nm y
  walk_at "dd"
  refine qb4z (fun m ρ=>∃ j,m + j=y.kids.length/\ρ=[some (.d x.enc),some (.d (.list (x.all.map Sen.enc))),some (.own ds),some (.own (bs.map numD)),some (.d (.int (nm:Int))),some (.own (((y.kidNums nm).take j).map numD)),some (.d (numD (Sen.endN nm y j)))]) y.kids.length ⟨0,rfl,?_⟩ ?_
  ·rw [Sen.endN_zero];rfl
  ·rintro m ρ N2 ⟨j,hj,rfl⟩ hN2
   walk_at "dd"
   rw [qb5c hy]
   walk_at "dd"
   refine⟨y,rfl,oky,?_⟩
   walk_at "dd"
   simp only [List.length_map,List.length_take,lkn]
   refine qa3w (fun c=>?_) (fun c=>?_)
   ·have hjk:j < y.kids.length:=by omega
    obtain⟨kid,hk1,hk2,hk3⟩:=Sen.endN_step hy j hjk
    have hfit:=Sen.all_fits hk1
    have kp:=kid.size_pos
    have pos:nm + 1 <= Sen.endN nm y j:=by
     have:∀ j,j <= y.kids.length->nm + 1 <= Sen.endN nm y j:=by
      intro j
      induction j with
      | zero=>intro _;rw [Sen.endN_zero];exact Nat.le_refl _
      | succ j ih =>
       intro hj'
       obtain⟨kid',_,e2,_⟩:=Sen.endN_step hy j (by omega)
       rw [e2]
       have:=ih (by omega)
       omega
     exact this j (by omega)
    obtain⟨_,y2,e1,e2⟩:=done (Sen.endN nm y j) (by omega) (by omega)
    rw [hk1] at e1
    have e1':kid=y2:=Option.some.inj e1
    subst e1'
    walk_at "dd"
    refine⟨by first | omega | (simp;omega),?_⟩
    walk_at "dd"
    have eg:(bs.map numD)[Sen.endN nm y j]? = some (numD (Sen.endN nm y (j + 1))):=by rw [List.getElem?_map,e2,hk2];rfl
    have eg2:atI (bs.map numD) ((Sen.endN nm y j:Nat):Int)=some (numD (Sen.endN nm y (j + 1))):=qa1f eg
    rw [eg2]
    walk_at "dd"
    refine hN2 (m - 1) _ (by omega) ⟨j + 1,by omega,?_⟩
    rw [List.take_add_one,hk3,Option.toList_some,List.map_append (l₁:=List.take _ _)]
    rfl
   ·have hjk:j=y.kids.length:=by omega
    subst hjk
    have ek:(y.kidNums nm).take y.kids.length=y.kidNums nm:=List.take_of_length_le (by rw [lkn];exact Nat.le_refl _)
    rw [ek,Sen.endN_last]
    walk_at "dd"
    rw [ld,qa6o lnm]
    walk_at "dd"
    rw [List.length_map,lb,qa6o lnm]
    walk_at "dd"
    refine hN _ ⟨by omega,_,bs.set nm (nm + y.size),_,_,_,by rw [List.map_set],by rw [List.length_set];exact ld,by rw [List.length_set];exact lb,fun j h1 h2=>?_⟩
    by_cases e:j=nm
    ·subst e
     refine⟨by rw [List.getElem?_set_self (by omega),qa9b hy],y,hy,by rw [List.getElem?_set_self (by omega)]⟩
    ·obtain⟨d1,d2⟩:=done j (by omega) h2
     refine⟨by rw [List.getElem?_set_ne (Ne.symm e)];exact d1,?_⟩
     obtain⟨y',g1,g2⟩:=d2
     exact⟨y',g1,by rw [List.getElem?_set_ne (Ne.symm e)];exact g2⟩
 ·rintro ρ ⟨_,ds,bs,v4,v5,v6,rfl,ld,lb,done⟩
  walk_at "dd"
  have eds:ds=qa2s x:=by
   refine List.ext_getElem? fun j=>?_
   unfold qa2s
   rw [List.getElem?_map]
   by_cases hj:j < x.size
   ·rw [(done j (by simp [qa7r]) hj).1,List.getElem?_range hj];rfl
   ·rw [List.getElem?_eq_none (by omega),List.getElem?_eq_none (by rw [List.length_range];omega)];rfl
  rw [eds];exact q
end
noncomputable def encO(O:List (Nat × Bool)):List PyData:=O.map fun p=>.tuple [numD p.1,.bool p.2]
theorem qa8n(O:List (Nat × Bool)):(encO O).length=O.length:=List.length_map _
structure Ent where
 e:Addr
 q:Addr
 x:Sen
 O:List (Nat × Bool)
def InT(l:Addr)(τ:List Ent)(a:Addr):Prop:=a=l ∨ ∃ t ∈ τ,a=t.e ∨ a=t.q
noncomputable def reg(S:Addr->Prop)(l:Addr)(τ:List Ent):Addr->Prop:=fun a=>S a/\¬ InT l τ a
noncomputable def entK(x:Sen)(q:Addr)(vs va vr vh:V):List (Key × V):=[(Sum.inr "word",.str x.word),(Sum.inr "s",vs),(Sum.inr "parts",.ref q),(Sum.inr "around",va),(Sum.inr "room",vr),(Sum.inr "home",vh)]
noncomputable def numV(ps:List Nat):List V:=ps.map fun(c:Nat)=>V.int (c:Int)
def EntOk(K:W.Frag)(R:Addr->Prop)(H:Hp)(t:Ent):Prop:=∃ (vs va vr vh:V) (ps rs:List Nat),H t.e=some (.dK (entK t.x t.q vs va vr vh))/\AtD K H R t.x.enc vs/\AtD K H R (.list (encO t.O)) va/\AtD K H R (.list (rs.map numD)) vr /\
 (vh=.non ∨ ∃ i:Nat,vh=.int (i:Int))/\H t.q=some (.lst (numV ps))
structure TbL(K:W.Frag)(S:Addr->Prop)(H:Hp)(l:Addr)(τ:List Ent):Prop where
 lst:H l=some (.lst (τ.map fun t=>V.ref t.e))
 ent:∀ t ∈ τ,EntOk K (reg S l τ) H t
 sl:S l
 se:∀ t ∈ τ,S t.e/\S t.q
structure Go(K:W.Frag)(S:Addr->Prop)(l:Addr)(τ:List Ent)(H:Hp)(τ':List Ent)(H':Hp):Prop where
 tab:TbL K S H' l τ'
 pre:∃ ν,τ'=τ ++ ν/\∀ t ∈ ν,H t.e=none/\H t.q=none
 nt:∀ a o,¬ InT l τ a->H a=some o->H' a=some o
 frs:Frs S H'
 per:Pers K (reg S l τ) H (reg S l τ') H'
 kn:∀ a,H' a=none->H a=none
 oq:∀ t ∈ τ,∀ o,H t.q=some o->H' t.q=some o
section
variable{K:W.Frag}{S:Addr->Prop}{l:Addr}{τ τ1 τ2:List Ent}{H H1 H2:Hp}
theorem InT.more{ν:List Ent}{a:Addr}(h:InT l τ a):InT l (τ ++ ν) a:=by
 rcases h with h | ⟨t,ht,h⟩
 ·exact .inl h
 ·exact .inr ⟨t,List.mem_append_left _ ht,h⟩
theorem Go.trans(a:Go K S l τ H τ1 H1)(b:Go K S l τ1 H1 τ2 H2):Go K S l τ H τ2 H2:=by
 obtain⟨ν1,e1,f1⟩:=a.pre
 obtain⟨ν2,e2,f2⟩:=b.pre
 refine⟨b.tab,⟨ν1 ++ ν2,by rw [e2,e1,List.append_assoc],fun t ht=>?_⟩,fun x o hx ho=>?_,b.frs,a.per.trans b.per,fun x hx=>a.kn x (b.kn x hx),fun t ht o h=>b.oq t (by rw [e1];exact List.mem_append_left _ ht) o (a.oq t ht o h)⟩
 ·rcases List.mem_append.mp ht with h | h
  ·exact f1 t h
  ·exact⟨a.kn _ (f2 t h).1,a.kn _ (f2 t h).2⟩
 ·refine b.nt x o (fun z=>?_) (a.nt x o hx ho)
  rw [e1] at z
  rcases z with z | ⟨t,ht,z⟩
  ·exact hx (.inl z)
  ·rcases List.mem_append.mp ht with h | h
   ·exact hx (.inr ⟨t,h,z⟩)
   ·rcases z with z | z
    ·rw [z,(f1 t h).1] at ho;cases ho
    ·rw [z,(f1 t h).2] at ho;cases ho
theorem Go.refl(T:TbL K S H l τ)(f:Frs S H):Go K S l τ H τ H:=
 ⟨T,⟨[],by rw [List.append_nil],fun t ht=>by cases ht⟩,fun _ _ _ h=>h,f,Pers.refl,fun _ h=>h,fun _ _ _ h=>h⟩
theorem TbL.to(T:TbL K S H l τ)(hp:Pers K (reg S l τ) H (reg S l τ) H1)(hl:∀ o,H l=some o->H1 l=some o)(he:∀ t ∈ τ,(∀ o,H t.e=some o->H1 t.e=some o)/\∀ o,H t.q=some o->H1 t.q=some o):TbL K S H1 l τ where
 lst:=hl _ T.lst
 ent t ht:=by
  obtain⟨vs,va,vr,vh,ps,rs,h1,h2,h3,h4,h5,h6⟩:=T.ent t ht
  exact⟨vs,va,vr,vh,ps,rs,(he t ht).1 _ h1,hp _ _ h2,hp _ _ h3,hp _ _ h4,h5,(he t ht).2 _ h6⟩
 sl:=T.sl
 se:=T.se
theorem Go.same(T:TbL K S H l τ)(f:Frs S H)(s:Same H H1):Go K S l τ H τ H1:=
 ⟨T.to (.same s) (fun o h=>s _ _ h) (fun t _=>⟨fun o h=>s _ _ h,fun o h=>s _ _ h⟩),⟨[],by rw [List.append_nil],fun t ht=>by cases ht⟩,fun _ _ _ h=>s _ _ h,
  fun p hp=>f p (by cases e:H p with | none=>rfl | some o=>rw [s _ _ e] at hp;cases hp),.same s,fun p hp=>(by cases e:H p with | none=>rfl | some o=>(rw [s _ _ e] at hp;cases hp)),fun _ _ o h=>s _ _ h⟩
theorem qa6p{R:Addr->Prop}{a:Addr}{o:HO}(hr:¬ R a)(ht:∀ xs,H a ≠ some (.tup xs))(hf:∀ b u,H a ≠ some (.frz b u)):Keep R H (upd H a o):=
 ⟨fun b xs h=>by rw [qa0d (show b ≠ a from fun z=>ht xs (by rw [← z];exact h))];exact h,fun b c u h=>by rw [qa0d (show b ≠ a from fun z=>hf c u (by rw [← z];exact h))];exact h,fun b u s h=>by rw [qa0d (show b ≠ a from fun z=>hr (by rw [← z];exact s))];exact h⟩
theorem qa3g{a:Addr}{o:HO}(x:Addr)(h:upd H a o x=none):H x=none:=by
 by_cases e:x=a
 ·subst e;rw [qa0e] at h;cases h
 ·rw [qa0d e] at h;exact h
theorem qa4x{a:Addr}{o:HO}(f:Frs S H):Frs S (upd H a o):=fun p hp=>f p (qa3g p hp)
theorem qa7k{a:Addr}{xs:List V}(h:H a=some (.lst xs)):(∀ ys,H a ≠ some (.tup ys))/\∀ b u,H a ≠ some (.frz b u):=⟨fun ys e=>by(rw [h] at e;cases e),fun b u e=>by(rw [h] at e;cases e)⟩
theorem dk_ne{a:Addr}{xs:List (Key × V)}(h:H a=some (.dK xs)):(∀ ys,H a ≠ some (.tup ys))/\∀ b u,H a ≠ some (.frz b u):=⟨fun ys e=>by(rw [h] at e;cases e),fun b u e=>by(rw [h] at e;cases e)⟩
theorem Go.part(G:Go K S l τ H τ1 H1){t:Ent}(ht:t ∈ τ1)(hf:H t.q=none){ps:List Nat}(ps':List Nat)(hq:H1 t.q=some (.lst (numV ps))):Go K S l τ H τ1 (upd H1 t.q (.lst (numV ps'))):=by
 have T:=G.tab
 have nr:¬ reg S l τ1 t.q:=fun z=>z.2 (.inr ⟨t,ht,.inr rfl⟩)
 have kp:Keep (reg S l τ1) H1 (upd H1 t.q (.lst (numV ps'))):=qa6p nr (qa7k hq).1 (qa7k hq).2
 have hp:Pers K (reg S l τ1) H1 (reg S l τ1) (upd H1 t.q (.lst (numV ps'))):=.of kp fun _ h=>h
 have nl:l ≠ t.q:=fun z=>by
  have e:=T.lst
  rw [z,hq] at e
  have e':=HO.lst.inj (Option.some.inj e)
  have hm:V.ref t.e ∈ τ1.map fun t=>V.ref t.e:=List.mem_map.mpr ⟨t,ht,rfl⟩
  rw [← e'] at hm
  obtain⟨c,_,hc⟩:=List.mem_map.mp hm
  cases hc
 have old:∀ a o,H a=some o->a ≠ t.q:=fun a o h z=>by rw [z,hf] at h;cases h
 refine⟨⟨by rw [qa0d nl];exact T.lst,fun u hu=>?_,T.sl,T.se⟩,G.pre,fun a o ha ho=>by rw [qa0d (old a o ho)];exact G.nt a o ha ho,qa4x G.frs,G.per.trans hp,fun x h=>G.kn x (qa3g x h),fun u hu o h=>by rw [qa0d (old _ o h)];exact G.oq u hu o h⟩
 obtain⟨vs,va,vr,vh,qs,rs,h1,h2',h3,h4,h5,h6⟩:=T.ent u hu
 have ne:u.e ≠ t.q:=fun z=>by rw [z,hq] at h1;cases h1
 have e6:∃ qs',upd H1 t.q (.lst (numV ps')) u.q=some (.lst (numV qs')):=by
  by_cases z:u.q=t.q
  ·exact⟨ps',by rw [z,qa0e]⟩
  ·exact⟨qs,by rw [qa0d z];exact h6⟩
 obtain⟨qs',h6'⟩:=e6
 exact⟨vs,va,vr,vh,qs',rs,by rw [qa0d ne];exact h1,hp _ _ h2',hp _ _ h3,hp _ _ h4,h5,h6'⟩
theorem qc2r{x:Sen}{q:Addr}{vs va vr vh v:V}:putK (entK x q vs va vr vh) (Sum.inr "home") v=entK x q vs va vr v:=by
 unfold putK entK
 simp only [List.any_cons,List.any_nil,List.map_cons,List.map_nil]
 rw [if_pos (by simp)]
 rw [if_neg (by decide +kernel),if_neg (by decide +kernel),if_neg (by decide +kernel),if_neg (by decide +kernel),if_neg (by decide +kernel),if_pos trivial]
theorem qc5o{x y:Sen}{q r:Addr}{vs va vr vh vs' va' vr' vh':V}(h:entK x q vs va vr vh=entK y r vs' va' vr' vh'):x.word=y.word/\q=r/\vs=vs'/\va=va'/\vr=vr':=by
 unfold entK at h
 simp only [List.cons.injEq,Prod.mk.injEq,V.str.injEq,V.ref.injEq,true_and] at h
 exact⟨h.1,h.2.2.1,h.2.1,h.2.2.2.1,h.2.2.2.2.1⟩
theorem Go.home(T:TbL K S H l τ)(f:Frs S H){t:Ent}(ht:t ∈ τ){vs va vr vh:V}(i:Nat)(hq:H t.e=some (.dK (entK t.x t.q vs va vr vh))):Go K S l τ H τ (upd H t.e (.dK (entK t.x t.q vs va vr (.int (i:Int))))):=by
 have nr:¬ reg S l τ t.e:=fun z=>z.2 (.inr ⟨t,ht,.inl rfl⟩)
 have kp:Keep (reg S l τ) H (upd H t.e (.dK (entK t.x t.q vs va vr (.int (i:Int))))):=qa6p nr (dk_ne hq).1 (dk_ne hq).2
 have hp:Pers K (reg S l τ) H (reg S l τ) (upd H t.e (.dK (entK t.x t.q vs va vr (.int (i:Int))))):=.of kp fun _ h=>h
 have nl:l ≠ t.e:=fun z=>by
  have e:=T.lst
  rw [z,hq] at e;cases e
 refine⟨⟨by rw [qa0d nl];exact T.lst,fun u hu=>?_,T.sl,T.se⟩,⟨[],by rw [List.append_nil],fun t ht=>by cases ht⟩,fun a o ha ho=>?_,qa4x f,hp,fun x h=>qa3g x h,fun u hu o h=>?_⟩
 ·obtain⟨us,ua,ur,uh,qs,rs,h1,h2,h3,h4,h5,h6⟩:=T.ent u hu
  have ne:u.q ≠ t.e:=fun z=>by rw [z,hq] at h6;cases h6
  by_cases z:u.e=t.e
  ·have h1':=h1
   rw [z,hq] at h1'
   obtain⟨i1,i2,i3,i4,i5⟩:=qc5o (HO.dK.inj (Option.some.inj h1'))
   refine⟨us,ua,ur,.int (i:Int),qs,rs,?_,hp _ _ h2,hp _ _ h3,hp _ _ h4,.inr ⟨i,rfl⟩,by rw [qa0d ne];exact h6⟩
   rw [z,qa0e,i3,i4,i5,i2]
   unfold entK
   rw [i1]
  ·exact⟨us,ua,ur,uh,qs,rs,by rw [qa0d z];exact h1,hp _ _ h2,hp _ _ h3,hp _ _ h4,h5,by rw [qa0d ne];exact h6⟩
 ·rw [qa0d (fun z=>ha (.inr ⟨t,ht,.inl z⟩))];exact ho
 ·obtain⟨_,_,_,_,qs,_,_,_,_,_,_,h6⟩:=T.ent u hu
  rw [qa0d (fun z=>by rw [z,hq] at h6;cases h6)];exact h
theorem Go.entry(T:TbL K S H l τ)(f:Frs S H){e q:Addr}(he:H e=none)(hq:(upd H e (.dK [])) q=none){x:Sen}{O:List (Nat × Bool)}{rs:List Nat}{vs va vr:V}(h1:AtD K H (reg S l τ) x.enc vs)(h2:AtD K H (reg S l τ) (.list (encO O)) va)(h3:AtD K H (reg S l τ) (.list (rs.map numD)) vr) :
  Go K S l τ H (τ ++ [⟨e,q,x,O⟩]) (upd (upd (upd (upd H e (.dK [])) q (.lst [])) e (.dK (entK x q vs va vr .non))) l (.lst ((τ.map fun t=>V.ref t.e) ++ [V.ref e]))):=by
 have hq':H q=none:=qa3g q hq
 have qe:q ≠ e:=fun z=>by rw [z,qa0e] at hq;cases hq
 have le:l ≠ e:=fun z=>by have:=T.lst;rw [z,he] at this;cases this
 have lq:l ≠ q:=fun z=>by have:=T.lst;rw [z,hq'] at this;cases this
 let R1:Addr->Prop:=fun a=>reg S l τ a/\a ≠ e
 let R2:Addr->Prop:=fun a=>R1 a/\a ≠ q
 have r2:∀ a,R2 a->reg S l (τ ++ [⟨e,q,x,O⟩]) a:=fun a ha=>⟨ha.1.1.1,fun z=>by
  rcases z with z | ⟨t,ht,z⟩
  ·exact ha.1.1.2 (.inl z)
  ·rcases List.mem_append.mp ht with h | h
   ·exact ha.1.1.2 (.inr ⟨t,h,z⟩)
   ·cases List.mem_singleton.mp h
    rcases z with z | z
    ·exact ha.1.2 z
    ·exact ha.2 z⟩
 have p1:Pers K (reg S l τ) H R1 (upd H e (.dK [])):=.new he (fun a h n=>⟨h,n⟩) _
 have p2:Pers K R1 (upd H e (.dK [])) R2 (upd (upd H e (.dK [])) q (.lst [])):=.new hq (fun a h n=>⟨h,n⟩) _
 have e3:upd (upd H e (.dK [])) q (.lst []) e=some (.dK []):=by rw [qa0d (Ne.symm qe),qa0e]
 have p3:Pers K R2 (upd (upd H e (.dK [])) q (.lst [])) R2 (upd (upd (upd H e (.dK [])) q (.lst [])) e (.dK (entK x q vs va vr .non))):=
  .of (qa6p (fun z=>z.1.2 rfl) (dk_ne e3).1 (dk_ne e3).2) fun _ h=>h
 have e4:upd (upd (upd H e (.dK [])) q (.lst [])) e (.dK (entK x q vs va vr .non)) l=some (.lst (τ.map fun t=>V.ref t.e)):=by rw [qa0d le,qa0d lq,qa0d le];exact T.lst
 have p4:Pers K R2 (upd (upd (upd H e (.dK [])) q (.lst [])) e (.dK (entK x q vs va vr .non))) R2 (upd (upd (upd (upd H e (.dK [])) q (.lst [])) e (.dK (entK x q vs va vr .non))) l (.lst ((τ.map fun t=>V.ref t.e) ++ [V.ref e]))):=
  .of (qa6p (fun z=>z.1.1.2 (.inl rfl)) (qa7k e4).1 (qa7k e4).2) fun _ h=>h
 have p5:Pers K R2 (upd (upd (upd (upd H e (.dK [])) q (.lst [])) e (.dK (entK x q vs va vr .non))) l (.lst ((τ.map fun t=>V.ref t.e) ++ [V.ref e]))) (reg S l (τ ++ [⟨e,q,x,O⟩])) (upd (upd (upd (upd H e (.dK [])) q (.lst [])) e (.dK (entK x q vs va vr .non))) l (.lst ((τ.map fun t=>V.ref t.e) ++ [V.ref e]))):=fun d v h=>AtD.more r2 d v h
 have p:=(((p1.trans p2).trans p3).trans p4).trans p5
 have old:∀ a o,a ≠ l->H a=some o->upd (upd (upd (upd H e (.dK [])) q (.lst [])) e (.dK (entK x q vs va vr .non))) l (.lst ((τ.map fun t=>V.ref t.e) ++ [V.ref e])) a=some o:=fun a o hl ho=>by
  have n1:a ≠ e:=fun z=>by rw [z,he] at ho;cases ho
  have n2:a ≠ q:=fun z=>by rw [z,hq'] at ho;cases ho
  rw [qa0d hl,qa0d n1,qa0d n2,qa0d n1];exact ho
 have nql:∀ u ∈ τ,u.q ≠ l:=fun u h z=>by
  obtain⟨_,_,_,_,qs,_,_,_,_,_,_,g6⟩:=T.ent u h
  have e:=T.lst
  rw [← z,g6] at e
  have e':=HO.lst.inj (Option.some.inj e)
  have hm:V.ref u.e ∈ τ.map fun t=>V.ref t.e:=List.mem_map.mpr ⟨u,h,rfl⟩
  rw [← e'] at hm
  obtain⟨c,_,hc⟩:=List.mem_map.mp hm
  cases hc
 refine⟨⟨by rw [qa0e,List.map_append];rfl,fun u hu=>?_,T.sl,fun u hu=>?_⟩,⟨[⟨e,q,x,O⟩],rfl,fun t ht=>by cases List.mem_singleton.mp ht;exact⟨he,hq'⟩⟩,fun a o ha ho=>old a o (fun z=>ha (.inl z)) ho,qa4x (qa4x (qa4x (qa4x f))),p,fun a h=>qa3g a (qa3g a (qa3g a (qa3g a h))),fun u hu o h=>?_⟩
 ·rcases List.mem_append.mp hu with h | h
  ·obtain⟨us,ua,ur,uh,qs,rs',g1,g2,g3,g4,g5,g6⟩:=T.ent u h
   have n1:u.e ≠ l:=fun z=>by have:=T.lst;rw [← z,g1] at this;cases this
   have n2:u.q ≠ l:=nql u h
   exact⟨us,ua,ur,uh,qs,rs',old _ _ n1 g1,p _ _ g2,p _ _ g3,p _ _ g4,g5,old _ _ n2 g6⟩
  ·cases List.mem_singleton.mp h
   exact⟨vs,va,vr,.non,[],rs,by rw [qa0d (Ne.symm le),qa0e],p _ _ h1,p _ _ h2,p _ _ h3,.inl rfl,by rw [qa0d (Ne.symm lq),qa0d qe,qa0e];rfl⟩
 ·rcases List.mem_append.mp hu with h | h
  ·exact T.se u h
  ·cases List.mem_singleton.mp h
   exact⟨f e he,f q hq'⟩
 ·exact old _ o (nql u hu) h
theorem TbL.has(T:TbL K S H l τ){a:Addr}(h:InT l τ a):H a ≠ none:=by
 rcases h with h | ⟨t,ht,h⟩
 ·rw [h,T.lst];nofun
 ·obtain⟨_,_,_,_,qs,_,h1,_,_,_,_,h6⟩:=T.ent t ht
  rcases h with h | h
  ·rw [h,h1];nofun
  ·rw [h,h6];nofun
theorem TbL.frsR(T:TbL K S H l τ)(f:Frs S H):Frs (reg S l τ) H:=fun p hp=>⟨f p hp,fun z=>T.has z hp⟩
theorem qb1r:∀ (more acc:List (Key × V)),((acc ++ more).map (·.1)).Nodup->qa6c acc more=acc ++ more
 | [],acc,_=>by rw [List.append_nil];rfl
 | (k,v) :: r,acc,h=>by
  have hn:valV acc k=none:=by
   rw [List.map_append,List.nodup_append] at h
   have:=h.2.2
   unfold valV
   rw [List.find?_eq_none.mpr]
   ·rfl
   ·intro p hp
    have:=this p.1 (List.mem_map.mpr ⟨p,hp,rfl⟩) k (by simp)
    simpa using this
  show qa6c (putK acc k v) r=_
  rw [qc5g v hn,qb1r r _ (by rw [List.append_assoc];exact h),List.append_assoc]
  rfl
theorem qc0o{x:Sen}{q:Addr}{vs va vr vh:V}:qa6c [] (entK x q vs va vr vh)=entK x q vs va vr vh:=by
 refine qb1r _ [] ?_
 show(([Sum.inr "word",Sum.inr "s",Sum.inr "parts",Sum.inr "around",Sum.inr "room",Sum.inr "home"]:List Key)).Nodup
 decide +kernel
theorem qc0p{x:Sen}{q:Addr}{vs va vr vh:V}:valV (entK x q vs va vr vh) (Sum.inr "parts")=some (.ref q):=by
 unfold entK
 rw [qa4o (show ¬ ((Sum.inr ("word" : Str):Key)=(Sum.inr ("parts" : Str):Key)) from by decide +kernel),qa4o (show ¬ ((Sum.inr ("s" : Str):Key)=(Sum.inr ("parts" : Str):Key)) from by decide +kernel),qa5j rfl]
theorem entK_s{x:Sen}{q:Addr}{vs va vr vh:V}:valV (entK x q vs va vr vh) (Sum.inr "s")=some vs:=by
 unfold entK
 rw [qa4o (show ¬ ((Sum.inr ("word" : Str):Key)=(Sum.inr ("s" : Str):Key)) from by decide +kernel),qa5j rfl]
theorem qb6y:∀ (ν:List (Str × Int)) (w:Str),valV (ν.map kvE) (Sum.inr w)=((ν.find? fun p=>decide (p.1=w)).map (·.2)).map V.int
 | [],w=>rfl
 | (k,v) :: r,w=>by
  by_cases e:k=w
  ·subst e
   rw [List.map_cons,qa5j (p:=kvE (k,v)) (k:=Sum.inr k) rfl,List.find?_cons_of_pos (by simp)]
   rfl
  ·rw [List.map_cons,qa4o (p:=kvE (k,v)) (k:=Sum.inr w) (fun z=>e (Sum.inr.inj z)),qb6y r w,List.find?_cons_of_neg (by simpa using e)]
end
inductive ConstKV:List (Option Expr)->List Expr->List (Str × Int)->Prop
 | nil:ConstKV [] [] []
 | cons {k:Str} {v:Int} {j j':Nat} {p p':Pos} {ks:List (Option Expr)} {vs:List Expr} {ν:List (Str × Int)}:ConstKV ks vs ν->ConstKV (some (.Constant (.str k) j p) :: ks) (.Constant (.int v) j' p' :: vs) ((k,v) :: ν)
theorem qc2s{X:Cx}{pos:Pos}{ks:List (Option Expr)}{vs:List Expr}{ν:List (Str × Int)}(h:ConstKV ks vs ν):PPs X pos ks vs (trsC ν):=by
 induction h with
 | nil=>exact qb9f
 | cons _ ih=>exact qa5k qa2o qa0w ih
theorem ConstKV.len{ks:List (Option Expr)}{vs:List Expr}{ν:List (Str × Int)}(h:ConstKV ks vs ν):ks.all (·.isSome)=true/\ks.length=vs.length/\ks.length=ν.length:=by
 induction h with
 | nil=>exact⟨rfl,rfl,rfl⟩
 | cons _ ih=>exact⟨by simp [ih.1],by simp [ih.2.1],by simp [ih.2.2]⟩
theorem qc5p{X:Cx}{pos:Pos}{ks:List (Option Expr)}{vs:List Expr}(ν:List (Str × Int))(h:ConstKV ks vs ν)(h0:ν ≠ [])(h1:ν.length <= 15):PE X (.Dict ks vs pos) (tDisp (trsC ν)):=
 qb9g (qc2s h) h.len.1 h.len.2.1 (fun z=>h0 (by have:=h.len.2.2;rw [z] at this;exact List.eq_nil_of_length_eq_zero this.symm)) (by rw [h.len.2.2];exact h1)
theorem qb0x(x:Sen):∃ r,x.enc=.tuple (.str x.word :: r):=by cases x<;>exact⟨_,rfl⟩
abbrev encB(l:List Nat):PyData:=.tuple (l.map numD)
def spIsB:DSp:=fun ls Q=>∃ x:Sen,ls=[.d x.enc]/\Q (.d (.bool x.isBd)) [none]
noncomputable def binds(x:Sen):List PyData:=(x.bnd 0 []).map encB
theorem qb6z(x:Sen):(binds x).length=x.size:=by unfold binds;rw [List.length_map,Sen.bnd_length]
def qb5d:DSp:=fun ls Q=>∃ x:Sen,ls=[.d x.enc]/\OkS x/\x.size <= 900/\Q (.new (binds x)) [none]
theorem qa5q:∀ (s:Sen) (n:Nat) (bs:List Nat) (l:List Nat),l ∈ s.bnd n bs->l.length <= bs.length + s.size
 | .leaf _ _,n,bs,l,h=>by
  have e:l=bs:=by simpa [Sen.bnd] using h
  subst e;omega
 | .one w pre s,n,bs,l,h=>by
  have e:l=bs ∨ l ∈ s.bnd (n + 1) (Sen.inB (.one w pre s) n bs):=by simpa [Sen.bnd] using h
  simp only [Sen.size]
  rcases e with rfl | e
  ·omega
  ·have:=qa5q s _ _ l e
   have:(Sen.inB (.one w pre s) n bs).length <= bs.length + 1:=by unfold Sen.inB;split<;>simp
   omega
 | .two w pre s t,n,bs,l,h=>by
  have e:l=bs ∨ l ∈ s.bnd (n + 1) (Sen.inB (.two w pre s t) n bs) ∨ l ∈ t.bnd (n + 1 + s.size) (Sen.inB (.two w pre s t) n bs):=by simpa [Sen.bnd] using h
  have:(Sen.inB (.two w pre s t) n bs).length <= bs.length + 1:=by unfold Sen.inB;split<;>simp
  simp only [Sen.size]
  rcases e with rfl | e | e
  ·omega
  ·have:=qa5q s _ _ l e;omega
  ·have:=qa5q t _ _ l e;omega
section
variable{P:Program}{w:World}{K:W.Frag}{mg:Str->Option Value}{base:Heap}{n:Nat}
abbrev qa6u:Stmt:=top 4
theorem qb7a:FnScope ["sentence"] ["sentence"] (qa0i qa6u):=⟨rfl,rfl,rfl,by decide +kernel,rfl,by decide +kernel,by decide +kernel⟩
theorem qb7b{f:Addr}{fd:FuncData} (F:Fun K "is_binder" "is_binder" qa6u f fd) (B:Bl mg):FnOk P w K mg base CX0 (n + 1) f fd ["sentence"] (spD K spIsB):=by
 refine F.dok qb7a (fun cdv A outer s H E hr ls Qd h=>?_) (fun ls Qd hq8=>by obtain⟨x,e,_⟩:=hq8;rw [e];rfl)
 obtain⟨x,rfl,q⟩:=h
 refine⟨rfl,?_⟩
 refine⟨_,(qa0h (qa0x (qa2k qc3t ad_in (qa1b qa0s qa1c (dv 0) qa0k (fun _ _=>rfl)) (qa1g (qa0a qa0m (qa0a qa0m qa0c))) (by rfl)))),?_⟩
 obtain⟨r,er⟩:=qb0x x
 rw [er]
 walk_at "dd"
 have e:(decide (Str.ofString "least" = x.word) || decide (Str.ofString "most" = x.word))=x.isBd:=by
  unfold Sen.isBd
  congr 1<;>(rw [Bool.eq_iff_iff,decide_eq_true_eq,beq_iff_eq];exact eq_comm)
 rw [e]
 exact q
abbrev qa6e:Stmt:=top 8
theorem qa2i:FnScope ["sentence","things","parts","told","number","thing","inside","part"] ["sentence"] (qa0i qa6e):=⟨rfl,rfl,rfl,by decide +kernel,rfl,by decide +kernel,by decide +kernel⟩
theorem qb5k{f f1 f2 f3:Addr}{fd fd1 fd2 fd3:FuncData} (F:Fun K "binders_at" "binders_at" qa6e f fd) (B:Bl mg) (d_things_of:Def K mg "things_of" qa3s ["sentence"] f1 fd1) (g_things_of:FnOk P w K mg base CX0 n f1 fd1 ["sentence"] (spD K qa8l))
  (d_parts_at:Def K mg "parts_at" qa4w ["sentence"] f2 fd2) (g_parts_at:FnOk P w K mg base CX0 n f2 fd2 ["sentence"] (spD K qa9c)) (d_is_binder:Def K mg "is_binder" qa6u ["sentence"] f3 fd3) (g_is_binder:FnOk P w K mg base CX0 n f3 fd3 ["sentence"] (spD K spIsB)):FnOk P w K mg base CX0 (n + 1) f fd ["sentence"] (spD K qb5d):=by
 refine F.dok qa2i (fun cdv A outer s H E hr ls Qd h=>?_) (fun ls Qd hq8=>by obtain⟨x,e,_⟩:=hq8;rw [e];rfl)
 obtain⟨x,rfl,hx,hsz,q⟩:=h
 refine⟨rfl,?_⟩
 have lall:(x.all.map Sen.enc).length=x.size:=by rw [List.length_map,Sen.all_length]
 refine⟨_,(qa0f (qa1x (i:=1) qa2i.nd rfl (Or.inl rfl) (qa0l [false] d_things_of g_things_of hr rfl (qa0a (dv 0) qa0c)))
  (qa0f (qa1x (i:=2) qa2i.nd rfl (Or.inl rfl) (qa0l [false] d_parts_at g_parts_at hr rfl (qa0a (dv 0) qa0c)))
  (qa0f (qa5o (i:=3) qa2i.nd rfl (Or.inl rfl) (df_op qb1i qb1n (qa2b (qa1n (qa0a (qa1g qa0c) qa0c))) (qa1o qa0v qa2q rfl B.len_ qa1j (qa0a (dv 1) qa0c))))
  (qa0f (qa4n PassesOwn.never rfl (qb4d rfl B.enumerate_ (dv 1)) (qa9v (n:=2) rfl (qa2u (qa1h (i:=4) qa2i.nd rfl (Or.inl rfl)) (qa2u (qa1h (i:=5) qa2i.nd rfl (Or.inl rfl)) qa8b)))
  (qa0f (qa1x (i:=6) qa2i.nd rfl (Or.inl rfl) (de_if (qa5b (qa0l [false] d_is_binder g_is_binder hr rfl (qa0a (dv 5) qa0c))) (qa2n qa2g qa4e (qa1b qa0s qa1c (dv 3) (dv 4) (fun _ _=>rfl)) (qa1g (qa0a (dv 4) qa0c))) (qa1b qa0s qa1c (dv 3) (dv 4) (fun _ _=>rfl))))
  (qa0h (qa4n PassesOwn.never rfl (qa8i (qa1b qa0s qa1c (dv 2) (dv 4) (fun _ _=>rfl))) (qa1h (i:=7) qa2i.nd rfl (Or.inl rfl))
  (qa0h (qa6n 3 rfl (dv 7) (dv 6)))))))
  (qa0h (qa7f 3)))))),?_⟩
 walk_at "dd"
 refine⟨x,rfl,hx,hsz,?_⟩
 walk_at "dd"
 refine⟨x,rfl,hx,hsz,?_⟩
 walk_at "dd"
 rw [lall,qa9z (by omega)]
 walk_at "dd"
 refine qa3f (fun i ρ=>∃ (ds:List PyData) (v4 v5 v6 v7:Option L),ρ=[some (.d x.enc),some (.d (.list (x.all.map Sen.enc))),some (.d (.list (qa2s x))),some (.own ds),v4,v5,v6,v7]/\ds.length=x.size /\
  ∀ j,j < x.size->(j=0 ∨ ∃ p y,p < i/\x.all[p]? = some y/\j ∈ Sen.kidNums p y)->ds[j]? = (binds x)[j]?)
  ⟨_,none,none,none,none,rfl,by simp,fun j hj h=>?_⟩ ?_ ?_
 ·rcases h with rfl | ⟨p,_,hp,_⟩
  ·unfold binds
   rw [List.getElem?_replicate,if_pos hj,List.getElem?_map,Sen.bnd_head];rfl
  ·omega
 ·rintro i u ρ N hu ⟨ds,v4,v5,v6,v7,rfl,ld,done⟩ hN
  rw [qa9a] at hu
  obtain⟨u',hu',rfl⟩:=Option.map_eq_some_iff.mp hu
  rw [List.getElem?_map] at hu'
  obtain⟨y,hy,rfl⟩:=Option.map_eq_some_iff.mp hu'
  have hi:i < x.size:=by
   have:=(List.getElem?_eq_some_iff.mp hy).1
   rwa [Sen.all_length] at this
  obtain⟨l,hl⟩:∃ l,(x.bnd 0 [])[i]? = some l:=⟨_,List.getElem?_eq_getElem (by rw [Sen.bnd_length];exact hi)⟩
  have hb:(binds x)[i]? = some (encB l):=by unfold binds;rw [List.getElem?_map,hl];rfl
  have ll:=qa5q x 0 [] l (List.mem_of_getElem? hl)
  have hdi:ds[i]? = some (encB l):=by
   rw [← hb]
   refine done i hi ?_
   by_cases e0:i=0
   ·exact .inl e0
   ·exact .inr (Sen.has_up x i (by omega) hi)
  have atd:atI ds ((i:Nat):Int)=some (encB l):=qa1f hdi
  have kid:=Sen.bnd_kid x 0 [] i y l hy hl
  have atp:atI (qa2s x) ((i:Nat):Int)=some (.tuple ((Sen.kidNums i y).map numD)):=qa1f (by unfold qa2s;rw [List.getElem?_map,List.getElem?_range hi];show some (qa8m x i)=_;rw [qa9b hy])
  have go:∀ (v7:Option L) (bk:Rho->Prop),qa4t (qb3b 7) (qa9u 3 (dVar 7) (dVar 6)) { nx:=N,rt:=fun r ρ=>Qd r (mask [L.d x.enc] ρ),bk:=bk,ct:=N } ((Sen.kidNums i y).map numD)
    [some (.d x.enc),some (.d (.list (x.all.map Sen.enc))),some (.d (.list (qa2s x))),some (.own ds),some (.d (.int (i:Int))),some (.d y.enc),some (.d (encB (Sen.inB y i l))),v7]:=fun v7 bk=>by
   refine qa3f (fun j ρ=>∃ (ds':List PyData) (v7:Option L),ρ=[some (.d x.enc),some (.d (.list (x.all.map Sen.enc))),some (.d (.list (qa2s x))),some (.own ds'),some (.d (.int (i:Int))),some (.d y.enc),some (.d (encB (Sen.inB y i l))),v7]/\ds'.length=x.size /\
    (∀ j,j < x.size->(j=0 ∨ ∃ p y,p < i/\x.all[p]? = some y/\j ∈ Sen.kidNums p y)->ds'[j]? = (binds x)[j]?)/\∀ k ∈ (Sen.kidNums i y).take j,ds'[k]? = (binds x)[k]?)
    ⟨ds,v7,rfl,ld,done,fun k hk=>by simp at hk⟩ ?_ ?_
   ·rintro j u ρ N2 hu ⟨ds',v7,rfl,ld',done',kids'⟩ hN2
    rw [List.getElem?_map] at hu
    obtain⟨k,hk,rfl⟩:=Option.map_eq_some_iff.mp hu
    have hkm:=List.mem_of_getElem? hk
    have hkb:=kid k hkm
    rw [Nat.zero_add] at hkb
    have hks:k < x.size:=by
     have:=(List.getElem?_eq_some_iff.mp hkb).1
     rwa [Sen.bnd_length] at this
    have hkf:(binds x)[k]? = some (encB (Sen.inB y i l)):=by unfold binds;rw [List.getElem?_map,hkb];rfl
    walk_at "dd"
    rw [ld',qa6o hks]
    walk_at "dd"
    refine hN2 _ ⟨_,_,rfl,by rw [List.length_set];exact ld',fun m hm h=>?_,fun m hm=>?_⟩
    ·by_cases e:m=k
     ·subst e;rw [List.getElem?_set_self (by omega),hkf]
     ·rw [List.getElem?_set_ne (Ne.symm e)];exact done' m hm h
    ·by_cases e:m=k
     ·subst e;rw [List.getElem?_set_self (by omega),hkf]
     ·rw [List.getElem?_set_ne (Ne.symm e)]
      rw [List.take_add_one,hk] at hm
      rcases List.mem_append.mp hm with hm | hm
      ·exact kids' m hm
      ·exact absurd (by simpa using hm) e
   ·rintro ρ ⟨ds',v7,rfl,ld',done',kids'⟩
    rw [List.length_map,List.take_length] at kids'
    refine hN _ ⟨ds',_,_,_,_,rfl,ld',fun j hj h=>?_⟩
    rcases h with h | ⟨p,z,hp,hz,hjz⟩
    ·exact done' j hj (.inl h)
    ·by_cases e:p=i
     ·subst e
      rw [hy] at hz;cases hz
      exact kids' j hjz
     ·exact done' j hj (.inr ⟨p,z,by omega,hz,hjz⟩)
  walk_at "dd"
  refine⟨y,rfl,?_⟩
  walk_at "dd"
  unfold Sen.inB at go
  cases hB:y.isBd with
  | true =>
   rw [hB,if_pos rfl,show encB (l ++ [i])=.tuple (l.map numD ++ [.int (i:Int)]) by simp [encB]] at go
   rw [if_pos rfl,atd]
   walk_at "dd"
   rw [fAdd_t (by simp only [List.length_map,List.length_cons,List.length_nil];exact Nat.le_of_lt (qa3a (by simp at ll;omega)))]
   walk_at "dd"
   rw [atp]
   walk_at "dd"
   exact go _ _
  | false =>
   rw [hB,if_neg Bool.false_ne_true] at go
   rw [if_neg Bool.false_ne_true,atd]
   walk_at "dd"
   rw [atp]
   walk_at "dd"
   exact go _ _
 ·rintro ρ ⟨ds,v4,v5,v6,v7,rfl,ld,done⟩
  walk_at "dd"
  have e:ds=binds x:=List.ext_getElem? fun j=>by
   by_cases hj:j < x.size
   ·refine done j hj ?_
    by_cases e0:j=0
    ·exact .inl e0
    ·obtain⟨p,y,hp,hy,hk⟩:=Sen.has_up x j (by omega) hj
     refine .inr ⟨p,y,?_,hy,hk⟩
     rw [qa6b,lall];omega
   ·rw [List.getElem?_eq_none (by omega),List.getElem?_eq_none (by rw [qb6z];omega)]
  rw [e];exact q
end
noncomputable def WOk:List Str->Sen->Prop
 | ns,.leaf w a=>w = "fact" ∨ (w = "wish" /\ ∃ m,a=.str m/\m ∈ ns)
 | ns,.one w pre s=>(w = "not" /\ pre=[]/\WOk ns s) ∨ ((w = "some" ∨ w = "every")/\(∃ d,pre=[d])/\WOk ns s) ∨ ((w = "least" ∨ w = "most")/\∃ m,pre=[.str m]/\WOk (ns ++ [m]) s)
 | ns,.two w pre s t=>((w = "and" ∨ w = "or")/\pre=[]/\WOk ns s/\WOk ns t) ∨ (w = "show" /\ (∃ d,pre=[d])/\WOk ns s/\WOk ns t)
theorem qa7l:∀ (s:Sen) (F:List (Str × Bool)) (b:Nat) (ns:List Str),Sen.Good F b s->(∀ p ∈ F,p.1 ∈ ns)->WOk ns s
 | .leaf w a,F,b,ns,h,hF=>by
  rcases h with⟨rfl,_⟩ | ⟨rfl,n,rfl,hm⟩
  ·exact .inl rfl
  ·exact .inr ⟨rfl,n,rfl,hF _ hm⟩
 | .one w pre s,F,b,ns,h,hF=>by
  rcases h with⟨rfl,rfl,g⟩ | ⟨hw,hd,g⟩ | ⟨hw,n,rfl,_,g⟩
  ·exact .inl ⟨rfl,rfl,qa7l s _ b ns g fun p hp=>by obtain⟨q,hq,rfl⟩:=List.mem_map.mp hp;exact hF q hq⟩
  ·exact .inr (.inl ⟨hw,hd,qa7l s _ b ns g hF⟩)
  ·refine .inr (.inr ⟨hw,n,rfl,qa7l s _ _ _ g fun p hp=>?_⟩)
   rcases List.mem_append.mp hp with h | h
   ·exact List.mem_append_left _ (hF p h)
   ·cases List.mem_singleton.mp h;exact List.mem_append_right _ (List.mem_singleton.mpr rfl)
 | .two w pre s t,F,b,ns,h,hF=>by
  rcases h with⟨hw,rfl,g1,g2⟩ | ⟨rfl,hd,g1,g2⟩
  ·exact .inl ⟨hw,rfl,qa7l s _ _ _ g1 hF,qa7l t _ _ _ g2 hF⟩
  ·exact .inr ⟨rfl,hd,qa7l s _ _ _ g1 (fun p hp=>by cases hp),qa7l t _ _ _ g2 (fun p hp=>by cases hp)⟩
def NmO(τ:List Ent)(O:List (Nat × Bool))(ns:List Str):Prop:=(∀ p ∈ O,∃ t w m y,τ[p.1]? = some t/\t.x=.one w [.str m] y)/\∀ m ∈ ns,∃ p ∈ O,∃ t w y,τ[p.1]? = some t/\t.x=.one w [.str m] y
noncomputable def qa2y:List (Str × Int):=[("not",1),("and",1),("or",1),("some",2),("every",2),("least",2),("most",2),("show",2)]
noncomputable def its:Sen->List PyData
 | .leaf w a=>[.str w,a]
 | .one w pre s=>.str w :: (pre ++ [s.enc])
 | .two w pre s t=>.str w :: (pre ++ [s.enc,t.enc])
theorem qb4k(x:Sen):x.enc=.tuple (its x):=by cases x<;>rfl
theorem qc5q(x:Sen):∃ r,its x=.str x.word :: r:=by cases x<;>exact⟨_,rfl⟩
noncomputable def stN(x:Sen):Nat:=(its x).length - x.kids.length
theorem stN_len(x:Sen):stN x + x.kids.length=(its x).length:=by
 cases x<;>simp [stN,its,Sen.kids]<;>omega
theorem its_kid:∀ (x:Sen) (j:Nat) (k:Sen),x.kids[j]? = some k->(its x)[stN x + j]? = some k.enc
 | .leaf w a,j,k,h=>by simp [Sen.kids] at h
 | .one w pre s,j,k,h=>by
  have e:j=0:=by
   cases j with
   | zero=>rfl
   | succ j=>simp [Sen.kids] at h
  subst e
  have ek:s=k:=by simpa [Sen.kids] using h
  subst ek
  have es:stN (.one w pre s)=pre.length + 1:=by simp [stN,its,Sen.kids]
  rw [es]
  show(PyData.str w :: (pre ++ [s.enc]))[pre.length + 1]? = _
  rw [List.getElem?_cons_succ,List.getElem?_append_right (Nat.le_refl _),Nat.sub_self];rfl
 | .two w pre s t,j,k,h=>by
  have es:stN (.two w pre s t)=pre.length + 1:=by simp [stN,its,Sen.kids]
  rw [es]
  show(PyData.str w :: (pre ++ [s.enc,t.enc]))[pre.length + 1 + j]? = _
  rw [show pre.length + 1 + j=pre.length + j + 1 by omega,List.getElem?_cons_succ,List.getElem?_append_right (by omega),show pre.length + j - pre.length=j by omega]
  match j,h with
  | 0,h =>
   have ek:s=k:=by simpa [Sen.kids] using h
   subst ek;rfl
  | 1,h =>
   have ek:t=k:=by simpa [Sen.kids] using h
   subst ek;rfl
  | j + 2,h=>simp [Sen.kids] at h
theorem qc5r(x:Sen):x.kids.length <= 2:=by cases x<;>simp [Sen.kids]
theorem qc2t{x:Sen}{ns:List Str}(h:WOk ns x):((valV (qa2y.map kvE) (Sum.inr x.word)).getD (.int ((its x).length:Int)))=.int (stN x:Int):=by
 rw [qb6y]
 have f:∀ (w:Str) (i:Int),(qa2y.find? fun p=>decide (p.1=w)).map (·.2)=some i->(Option.map V.int ((qa2y.find? fun p=>decide (p.1=w)).map (·.2))).getD (.int ((its x).length:Int))=.int i:=fun w i e=>by rw [e];rfl
 have g:∀ (w:Str),(qa2y.find? fun p=>decide (p.1=w)).map (·.2)=none->(Option.map V.int ((qa2y.find? fun p=>decide (p.1=w)).map (·.2))).getD (.int ((its x).length:Int))=.int ((its x).length:Int):=fun w e=>by rw [e];rfl
 cases x with
 | leaf w a =>
  rcases h with rfl | ⟨rfl,_⟩
  ·exact g "fact" (by decide +kernel)
  ·exact g "wish" (by decide +kernel)
 | one w pre s =>
  rcases h with⟨rfl,rfl,_⟩ | ⟨rfl | rfl,⟨d,rfl⟩,_⟩ | ⟨rfl | rfl,m,rfl,_⟩
  ·exact f "not" 1 (by decide +kernel)
  ·exact f "some" 2 (by decide +kernel)
  ·exact f "every" 2 (by decide +kernel)
  ·exact f "least" 2 (by decide +kernel)
  ·exact f "most" 2 (by decide +kernel)
 | two w pre s t =>
  rcases h with⟨rfl | rfl,rfl,_⟩ | ⟨rfl,⟨d,rfl⟩,_⟩
  ·exact f "and" 1 (by decide +kernel)
  ·exact f "or" 1 (by decide +kernel)
  ·exact f "show" 2 (by decide +kernel)
noncomputable def walks(O:List (Nat × Bool)):Nat->List Sen->List (List (Nat × Bool) × Sen)
 | _,[]=>[]
 | n,k :: ks=>Sen.walkR k O n ++ walks O (n + k.size) ks
noncomputable def sizes:List Sen->Nat
 | []=>0
 | k :: ks=>k.size + sizes ks
theorem qb5e(O:List (Nat × Bool)):∀ (ks:List Sen) (n:Nat),(walks O n ks).length=sizes ks
 | [],_=>rfl
 | k :: ks,n=>by rw [walks,sizes,List.length_append,Sen.walkR_length,qb5e O ks]
theorem qb5f(O:List (Nat × Bool)):∀ (a b:List Sen) (n:Nat),walks O n (a ++ b)=walks O n a ++ walks O (n + sizes a) b
 | [],b,n=>rfl
 | k :: a,b,n=>by
  rw [List.cons_append,walks,walks,sizes,qb5f O a b,List.append_assoc,Nat.add_assoc]
theorem qc0q(x:Sen):sizes x.kids + 1=x.size:=by cases x<;>simp [Sen.kids,sizes,Sen.size]<;>omega
theorem qb5g:∀ (a b:List Sen),sizes (a ++ b)=sizes a + sizes b
 | [],b=>by rw [List.nil_append,sizes,Nat.zero_add]
 | k :: a,b=>by rw [List.cons_append,sizes,sizes,qb5g a b];omega
theorem qc0r{x:Sen}{ns:List Str}(hw:WOk ns x)(O:List (Nat × Bool))(n:Nat):Sen.walkR x O n=(O,x) :: walks (Sen.nextO x.word O n) (n + 1) x.kids:=by
 cases x with
 | leaf w a=>rfl
 | one w pre s=>simp only [Sen.walkR,Sen.kids,walks,List.append_nil,Sen.word]
 | two w pre s t =>
  have e:Sen.nextO w O n=O:=by
   rcases hw with⟨rfl | rfl,_⟩ | ⟨rfl,_⟩<;>rfl
  simp only [Sen.walkR,Sen.kids,walks,List.append_nil,Sen.word,e]
theorem NmO.more{τ ν:List Ent}{O:List (Nat × Bool)}{ns:List Str}(h:NmO τ O ns):NmO (τ ++ ν) O ns:=by
 have up:∀ i t,τ[i]? = some t->(τ ++ ν)[i]? = some t:=fun i t e=>by rw [List.getElem?_append_left (List.getElem?_eq_some_iff.mp e).1];exact e
 exact⟨fun p hp=>by obtain⟨t,w,m,y,e,z⟩:=h.1 p hp;exact⟨t,w,m,y,up _ _ e,z⟩,fun m hm=>by obtain⟨p,hp,t,w,y,e,z⟩:=h.2 m hm;exact⟨p,hp,t,w,y,up _ _ e,z⟩⟩
theorem NmO.flip{τ:List Ent}{O:List (Nat × Bool)}{ns:List Str}(h:NmO τ O ns):NmO τ (Sen.flipAll O) ns:=
 ⟨fun p hp=>by obtain⟨p',hp',rfl⟩:=List.mem_map.mp hp;exact h.1 p' hp',fun m hm=>by obtain⟨p,hp,r⟩:=h.2 m hm;exact⟨(p.1,!p.2),List.mem_map.mpr ⟨p,hp,rfl⟩,r⟩⟩
theorem NmO.add{τ:List Ent}{O:List (Nat × Bool)}{ns:List Str}{n:Nat}{t:Ent}{w m:Str}{y:Sen}(h:NmO τ O ns)(ht:τ[n]? = some t)(hx:t.x=.one w [.str m] y):NmO τ (O ++ [(n,false)]) (ns ++ [m]):=by
 refine⟨fun p hp=>?_,fun m' hm=>?_⟩
 ·rcases List.mem_append.mp hp with hp | hp
  ·exact h.1 p hp
  ·cases List.mem_singleton.mp hp;exact⟨t,w,m,y,ht,hx⟩
 ·rcases List.mem_append.mp hm with hm | hm
  ·obtain⟨p,hp,r⟩:=h.2 m' hm;exact⟨p,List.mem_append_left _ hp,r⟩
  ·cases List.mem_singleton.mp hm;exact⟨(n,false),List.mem_append_right _ (List.mem_singleton.mpr rfl),t,w,y,ht,hx⟩
theorem kids_ok{x:Sen}{ns:List Str}{τ:List Ent}{O:List (Nat × Bool)}{e q:Addr}(hw:WOk ns x)(hn:NmO τ O ns):∃ ns2,NmO (τ ++ [⟨e,q,x,O⟩]) (Sen.nextO x.word O τ.length) ns2/\∀ k ∈ x.kids,WOk ns2 k:=by
 have h0:NmO (τ ++ [⟨e,q,x,O⟩]) O ns:=hn.more
 have ht:(τ ++ [(⟨e,q,x,O⟩:Ent)])[τ.length]? = some ⟨e,q,x,O⟩:=by rw [List.getElem?_append_right (Nat.le_refl _),Nat.sub_self];rfl
 cases x with
 | leaf w a =>
  refine⟨ns,?_,fun k hk=>by cases hk⟩
  rcases hw with rfl | ⟨rfl,_⟩<;>exact h0
 | one w pre s =>
  rcases hw with⟨rfl,rfl,g⟩ | ⟨rfl | rfl,⟨d,rfl⟩,g⟩ | ⟨rfl | rfl,m,rfl,g⟩
  ·exact⟨ns,h0.flip,fun k hk=>by cases List.mem_singleton.mp hk;exact g⟩
  ·exact⟨ns,h0,fun k hk=>by cases List.mem_singleton.mp hk;exact g⟩
  ·exact⟨ns,h0,fun k hk=>by cases List.mem_singleton.mp hk;exact g⟩
  ·exact⟨ns ++ [m],h0.add ht rfl,fun k hk=>by cases List.mem_singleton.mp hk;exact g⟩
  ·exact⟨ns ++ [m],h0.add ht rfl,fun k hk=>by cases List.mem_singleton.mp hk;exact g⟩
 | two w pre s t =>
  refine⟨ns,?_,fun k hk=>?_⟩
  ·rcases hw with⟨rfl | rfl,_⟩ | ⟨rfl,_⟩<;>exact h0
  ·have hk':k=s ∨ k=t:=by simpa [Sen.kids] using hk
   rcases hw with⟨_,_,g1,g2⟩ | ⟨_,_,g1,g2⟩<;>rcases hk' with rfl | rfl<;>assumption
theorem qc2u(w:Str)(O:List (Nat × Bool))(n:Nat):(Sen.nextO w O n).length <= O.length + 1:=by
 unfold Sen.nextO
 split
 ·simp [Sen.flipAll]
 ·split<;>simp
theorem wish_of{x:Sen}{ns:List Str}(hw:WOk ns x) (h:x.word = "wish"):∃ m ∈ ns,x=.leaf "wish" (.str m):=by
 cases x with
 | leaf w a =>
  change w = "wish" at h
  rcases hw with rfl | ⟨rfl,m,rfl,hm⟩
  ·exact absurd h (by decide)
  ·exact⟨m,hm,rfl⟩
 | one w pre s =>
  change w = "wish" at h
  rcases hw with⟨rfl,_⟩ | ⟨rfl | rfl,_⟩ | ⟨rfl | rfl,_⟩<;>exact absurd h (by decide)
 | two w pre s t =>
  change w = "wish" at h
  rcases hw with⟨rfl | rfl,_⟩ | ⟨rfl,_⟩<;>exact absurd h (by decide)
noncomputable def nmE(t:Ent):Option Str:=match t.x with
 | .one _ (.str m :: _) _=>some m
 | _=>none
noncomputable def hits(τ:List Ent)(m:Str)(O:List (Nat × Bool)):List Nat:=(O.filter fun p=>decide ((τ[p.1]?).bind nmE=some m)).map (·.1)
theorem nmE_of{t:Ent}{w m:Str}{y:Sen}(h:t.x=.one w [.str m] y):nmE t=some m:=by unfold nmE;rw [h]
theorem qc2v{τ:List Ent}{m m':Str}{O:List (Nat × Bool)}{b:Nat}{o:Bool}{t:Ent}(ht:τ[b]? = some t)(hm:nmE t=some m'):hits τ m (O ++ [(b,o)])=hits τ m O ++ (if m'=m then [b] else []):=by
 unfold hits
 rw [List.filter_append,List.map_append]
 congr 1
 by_cases e:m'=m
 ·simp [ht,hm,e]
 ·simp [ht,hm,e]
theorem qc5s(τ:List Ent)(m:Str)(O:List (Nat × Bool)):(hits τ m O).length <= O.length:=by
 unfold hits
 rw [List.length_map];exact List.length_filter_le _ _
theorem hits_ne{τ:List Ent}{m:Str}{O:List (Nat × Bool)}{ns:List Str}(hn:NmO τ O ns)(hm:m ∈ ns):∃ cs c,hits τ m O=cs ++ [c]:=by
 obtain⟨p,hp,t,w,y,ht,hx⟩:=hn.2 m hm
 have hmem:p.1 ∈ hits τ m O:=List.mem_map.mpr ⟨p,List.mem_filter.mpr ⟨hp,decide_eq_true (by rw [ht];exact nmE_of hx)⟩,rfl⟩
 rcases List.eq_nil_or_concat (hits τ m O) with e | ⟨cs,c,e⟩
 ·rw [e] at hmem;cases hmem
 ·exact⟨cs,c,by rw [e,List.concat_eq_append]⟩
theorem qc2w{x:Sen}{ns:List Str}(hw:WOk ns x):(its x).length <= 5:=by
 cases x with
 | leaf w a=>exact(show(2:Nat) <= 5 by decide)
 | one w pre s=>rcases hw with⟨_,rfl,_⟩ | ⟨_,⟨d,rfl⟩,_⟩ | ⟨_,m,rfl,_⟩<;>simp [its]
 | two w pre s t=>rcases hw with⟨_,rfl,_⟩ | ⟨_,⟨d,rfl⟩,_⟩<;>simp [its]
theorem qc5t{x k:Sen}{i:Nat}(h:x.kids[i]? = some k):sizes (x.kids.take i) + k.size + 1 <= x.size:=by
 have e:=qc0q x
 have hs:x.kids=x.kids.take i ++ k :: x.kids.drop (i + 1):=by
  have hi:=(List.getElem?_eq_some_iff.mp h)
  obtain⟨hl,hk⟩:=hi
  rw [← hk,List.getElem_cons_drop,List.take_append_drop]
 rw [hs,qb5g,sizes] at e
 omega
def qa8o(K:W.Frag)(m:Nat):Sp:=fun vs H Q _=>∃ (S:Addr->Prop) (x:Sen) (O:List (Nat × Bool)) (rs:List Nat) (l:Addr) (τ:List Ent) (v1 v2 v3:V) (ns:List Str),vs=[v1,v2,v3,.ref l]/\x.size <= m/\WOk ns x/\NmO τ O ns/\TbL K S H l τ/\Frs S H /\
 AtD K H (reg S l τ) x.enc v1/\AtD K H (reg S l τ) (.list (encO O)) v2/\AtD K H (reg S l τ) (.list (rs.map numD)) v3/\τ.length + x.size <= 900/\O.length + x.size <= 900/\rs.length + x.size <= 900 /\
 ∀ H' ν,Go K S l τ H (τ ++ ν) H'->(ν.map fun t=>(t.O,t.x))=Sen.walkR x O τ.length->Q (.ref l) H'
theorem qa5f{X:Cx}{st:Stmt}{rest:List Stmt}{t:TS}{C:TS->Prop}(h1:PS X st t)(h2:∃ u,PSs X rest u/\C (tSeq t u)):∃ u,PSs X (st :: rest) u/\C u:=by obtain⟨_,p,q⟩:=h2;exact⟨_,qa1i h1 p,q⟩
theorem qb3j{c:TT}{t u rest:TS}{D:Ends}{σ:St}{H:Hp}(R:St->Hp->Prop)(hr:∀ σ' H',R σ' H'->rest D σ' H')
  (h:(∀ σ' H',R σ' H'->rest D σ' H')->c σ H fun b H1=>if b=true then t { D with nx:=rest D } σ H1 else u { D with nx:=rest D } σ H1):tSeq (tIfS c t u) rest D σ H:=h hr
theorem or_eq{i:Nat}{w a b:Str}{σ:St}{H:Hp}{Q:Bool->Hp->Prop}(h:σ[i]? = some (some (.str w)))(q:Q (decide (w=a) || decide (w=b)) H) :
  tOr (tTest (tOp rEq (tVar i) (tC (.str a)))) (tTest (tOp rEq (tVar i) (tC (.str b)))) σ H Q:=by
 refine⟨_,h,rfl,_,rfl,?_⟩
 by_cases e:w=a
 ·subst e
  rw [decide_eq_true rfl] at q
  exact ite2 (fun _=>q) fun c=>absurd (decide_eq_true rfl) c
 ·rw [decide_eq_false e] at q
  refine ite2 (fun c=>absurd (V.str.inj (of_decide_eq_true c)) e) fun _=>⟨_,h,rfl,_,rfl,?_⟩
  by_cases e2:w=b
  ·subst e2
   rw [decide_eq_true rfl] at q ⊢;exact q
  ·rw [decide_eq_false e2] at q
   rw [decide_eq_false (fun z=>e2 (V.str.inj z))];exact q
theorem and_eq{i j:Nat}{w a:Str}{m k:Int}{σ:St}{H:Hp}{Q:Bool->Hp->Prop}(h:σ[i]? = some (some (.str w)))(h2:σ[j]? = some (some (.int m)))(q:Q (decide (w=a) && decide (m=k)) H) :
  tAnd (tTest (tOp rEq (tVar i) (tC (.str a)))) (tTest (tOp rEq (tVar j) (tC (.int k)))) σ H Q:=by
 refine⟨_,h,rfl,_,rfl,?_⟩
 by_cases e:w=a
 ·subst e
  rw [decide_eq_true rfl] at q
  refine ite2 (fun _=>⟨_,h2,rfl,_,rfl,?_⟩) fun c=>absurd (decide_eq_true rfl) c
  by_cases e2:m=k
  ·subst e2
   rw [decide_eq_true rfl] at q ⊢;exact q
  ·rw [decide_eq_false e2] at q
   rw [decide_eq_false (fun z=>e2 (V.int.inj z))];exact q
 ·rw [decide_eq_false e] at q
  exact ite2 (fun c=>absurd (V.str.inj (of_decide_eq_true c)) e) fun _=>q
section
variable{P:Program}{w:World}{K:W.Frag}{mg:Str->Option Value}{base:Heap}{n m:Nat}
abbrev qa6f:Stmt:=top 23
theorem qa1u:FnScope ["_law_sentence_here","_law_around","_law_room","_law_found","_law_number","_law_word","_law_entry","_law_inner","_law_first","_law_k","_law_deeper"] ["_law_sentence_here","_law_around","_law_room","_law_found"] (qa0i qa6f):=⟨rfl,rfl,rfl,by decide +kernel,rfl,by decide +kernel,by decide +kernel⟩
theorem ok_laid{f f1:Addr}{fd fd1:FuncData} (F:Fun K "_law_laid" "_law_laid" qa6f f fd) (B:Bl mg) (qa4y:Def K mg "_law_laid" qa6f ["_law_sentence_here","_law_around","_law_room","_law_found"] f1 fd1)
  (qb0y:FnOk P w K mg base CX0 n f1 fd1 ["_law_sentence_here","_law_around","_law_room","_law_found"] (qa8o K m)):FnOk P w K mg base CX0 (n + 1) f fd ["_law_sentence_here","_law_around","_law_room","_law_found"] (qa8o K (m + 1)):=by
 refine F.ok qa1u (fun vs H Q E h=>?_) (fun cdv A outer s H vs Q E hr h=>?_)
 ·obtain⟨_,_,_,_,_,_,_,_,_,_,rfl,_⟩:=h
  rfl
 obtain⟨S,x,O,rs,l,τ,v1,v2,v3,ns,rfl,hsz,hw,hn,T,fr,a1,a2,a3,lt,lo,lr,k⟩:=h
 refine qa5f (qa2v (i:=4) qa1u.nd rfl (Or.inl rfl) (qa3q qa3d rfl B.len_ qa1j (qa0g (pv 3) qa0q))) ?_
 refine qa5f (qa2v (i:=5) qa1u.nd rfl (Or.inl rfl) (qa3m qa5u (pv 0) qa0w (fun _ _=>rfl))) ?_
 refine qa5f (t:=tAsg (tDisp [(tC (.str "word"),tVar 5),(tC (.str "s"),tVar 0),(tC (.str "parts"),tLst tNil),(tC (.str "around"),tVar 1),(tC (.str "room"),tVar 2),(tC (.str "home"),tC .non)]) (qa3l 6)) ?_ ?_
 ·refine qa2v (i:=6) ?a ?b ?c ?d ?e ?f
  case a=>exact qa1u.nd
  case b=>rfl
  case c=>exact Or.inl rfl
  case f=>exact .inl rfl
  case e=>rfl
  refine qb9g ?_ ?_ ?_ ?_ ?_
  ·exact(qa5k qa2o (pv 5) (qa5k qa2o (pv 0) (qa5k qa2o (qa7a qa0q) (qa5k qa2o (pv 1) (qa5k qa2o (pv 2) (qa5k qa2o pe_non qb9f))))))
  ·rfl
  ·rfl
  ·simp
  ·decide
 refine qa5f (qb1s (pe_bm PySem.F.plainAttrs_list PySem.F.slot_list_append PySem.F.type_list_append qa8v (pv 3) (qa0g (pv 6) qa0q))) ?_
 refine qa5f (qa2v (i:=7) qa1u.nd rfl (Or.inl rfl) (pv 1)) ?_
 refine qa5f (qa8t (qa3v qa5r (pv 5) qa2o (qa0j _))
  (qa2d (qb8r (i:=7) qa1u.nd rfl rfl (own:=["_law_binder","_law_odd"]) (cap:=[]) (g:=gTup K 2 (gCons (qa3l 0) (gCons (qa3l 1) gNil))) rfl (by rfl) (by decide +kernel) (qb2x (pv 1)) (fun _ _ _=>(qb5p rfl (qa8d (qa6i (i:=0) (show(["_law_binder","_law_odd"]:List Str).Nodup by decide +kernel) rfl (Or.inl rfl)) (qa8d (qa6i (i:=1) (show(["_law_binder","_law_odd"]:List Str).Nodup by decide +kernel) rfl (Or.inl rfl)) qb3r)))) (fun _ _ _=>qb3w) (fun _ _ _=>(qb2t (qa0g (pv 0) (qa0g (pe_not (pv 1)) qa0q))))))
  qa5l) ?_
 refine qa5f (qa8t (pw_or (qa3v qa5r (pv 5) qa2o (qa0j _)) (pw_or1 (qa3v qa5r (pv 5) qa2o (qa0j _)))).pt
  (qa2d (qa2v (i:=7) qa1u.nd rfl (Or.inl rfl) (qa1z qa2g (pv 1) (qa7a (qa0g (qb2t (qa0g (pv 4) (qa0g pe_bl qa0q))) qa0q)))))
  qa5l) ?_
 refine qa5f (qa8t (qa3v qa5r (pv 5) qa2o (qa0j _))
  (qa2d (ps_dput (hu_of hr) (pv 6) qa2o (qa3m qa5m (qb3x (own:=["_law_binder","_law_odd"]) (cap:=[("_law_found",3),("_law_sentence_here",0)]) (g:=gTup K 2 (gCons (qa3l 0) (gCons (qa3l 1) gNil))) (tt:=fun σ H Q=>tOp rEq (tOp (rIxD K) (tDGet (tOp (rIxL K) (tVar 2) (tVar 0)) (tC (.str "s"))) (tC (.int 1))) (tOp (rIxD K) (tVar 3) (tC (.int 1))) σ H fun z H'=>∃ k,z=.bl k/\Q k H') rfl (by rfl) (by decide +kernel) (qb2x (pv 1)) (fun _ _ _=>(qb5p rfl (qa8d (qa6i (i:=0) (show(["_law_binder","_law_odd","_law_found","_law_sentence_here"]:List Str).Nodup by decide +kernel) rfl (Or.inl rfl)) (qa8d (qa6i (i:=1) (show(["_law_binder","_law_odd","_law_found","_law_sentence_here"]:List Str).Nodup by decide +kernel) rfl (Or.inl rfl)) qb3r)))) (fun _ _ _=>(qb8q (qa3v qa5r (qa3m qa5u (qb4f (hu_of hr) (qa3m qa5m (pv 2) (pv 0) (fun _ _=>rfl)) qa2o (fun _ _=>rfl)) qa0w (fun _ _=>rfl)) (qa3m qa5u (pv 3) qa0w (fun _ _=>rfl)) (qa0j _)))) (fun _ _ _=>(pv 0))) (pe_un un_neg qa0w) (fun _ _=>rfl)) rfl))
  qa5l) ?_
 refine qa5f (t:=tAsg (tDisp (trsC qa2y)) (qa3l 8)) ?_ ?_
 ·refine qa2v (i:=8) ?a9 ?b9 ?c9 ?d9 ?e9 ?f9
  case a9=>exact qa1u.nd
  case b9=>rfl
  case c9=>exact Or.inl rfl
  case f9=>exact .inl rfl
  case e9=>rfl
  refine qc5p qa2y ?_ ?_ ?_
  ·exact .cons (.cons (.cons (.cons (.cons (.cons (.cons (.cons .nil)))))))
  ·simp [qa2y]
  ·decide
 refine qa5f (ps_for PassesOwn.never rfl (qc1j rfl B.range_ (qa0g (pe_bm PySem.F.plainAttrs_dict PySem.F.slot_dict_get PySem.F.type_dict_get mt_get2 (pv 8) (qa0g (pv 5) (qa0g (qa3q qb4v rfl B.len_ qa1j (qa0g (pv 0) qa0q)) qa0q))) (qa0g (qa3q qb4v rfl B.len_ qa1j (qa0g (pv 0) qa0q)) qa0q))) (qa6i (i:=9) qa1u.nd rfl (Or.inl rfl))
  (qa1i (qb1s (pe_bm PySem.F.plainAttrs_list PySem.F.slot_list_append PySem.F.type_list_append qa8v (qb4f (hu_of hr) (pv 6) qa2o (fun _ _=>rfl)) (qa0g (qa3q qa3d rfl B.len_ qa1j (qa0g (pv 3) qa0q)) qa0q)))
  (qa1i (qa2v (i:=10) qa1u.nd rfl (Or.inl rfl) (pv 2))
  (qa1i (qa8t (pw_and (qa3v qa5r (pv 5) qa2o (qa0j _)) (qb8g (qa3v qa5r (pv 9) qa0w (qa0j _)))).pt
  (qa2d (qa2v (i:=10) qa1u.nd rfl (Or.inl rfl) (qa1z qa2g (pv 2) (qa7a (qa0g (pv 4) qa0q)))))
  qa5l)
  (qa2d (qb1s (qa3r qa4y qb0y hr rfl (qa0g (qa3m qa5u (pv 0) (pv 9) (fun _ _=>rfl)) (qa0g (pv 7) (qa0g (pv 10) (qa0g (pv 3) qa0q))))))))))) ?_
 refine⟨_,qa2d (qa5a (pv 3)),?_⟩
 have hlm:(τ.map fun t=>V.ref t.e).length=τ.length:=List.length_map _
 -- number, word
 refine⟨_,rfl,l,_,rfl,.inl (SqL.of T.lst),?_⟩
 rw [hlm]
 obtain⟨r,er⟩:=qc5q x
 have a1t:AtD K H (reg S l τ) (.tuple (its x)) v1:=by rw [← qb4k];exact a1
 refine⟨v1,rfl,reg S l τ,_,0,.str x.word,.inl a1t,rfl,by rw [er];exact atI_0,fun v av=>?_⟩
 rw [qa5t av]
 clear av v
 -- the entry
 refine fun e he=>?_
 refine⟨_,rfl,_,rfl,by decide,fun q hq=>⟨_,rfl,_,rfl,?_,entK x q v1 v2 v3 .non,rfl,(show(6:Nat) <= 15 by decide),?_⟩⟩
 ·have qe:q ≠ e:=fun z=>by rw [z,qa0e] at hq;cases hq
  rw [qa0d (Ne.symm qe),qa0e]
 rw [qc0o]
 have G1:=Go.entry T fr he hq a1 a2 a3
 have hl1:upd (upd (upd H e (.dK [])) q (.lst [])) e (.dK (entK x q v1 v2 v3 .non)) l=some (.lst (τ.map fun t=>V.ref t.e)):=by
  have le:l ≠ e:=fun z=>by have:=T.lst;rw [z,he] at this;cases this
  have lq:l ≠ q:=fun z=>by have:=T.lst;rw [z,qa3g q hq] at this;cases this
  rw [qa0d le,qa0d lq,qa0d le];exact T.lst
 refine⟨_,rfl,.inl ⟨rfl,_,SqL.of hl1⟩,_,rfl,l,_,_,rfl,rfl,hl1,by rw [hlm];exact qa3a (by omega),?_⟩
 have hqf:H q=none:=qa3g q hq
 have hq1:upd (upd (upd (upd H e (.dK [])) q (.lst [])) e (.dK (entK x q v1 v2 v3 .non))) l (.lst ((τ.map fun t=>V.ref t.e) ++ [V.ref e])) q=some (.lst []):=by
  have qe:q ≠ e:=fun z=>by rw [z,qa0e] at hq;cases hq
  have ql:q ≠ l:=fun z=>by have:=T.lst;rw [← z,hqf] at this;cases this
  rw [qa0d ql,qa0d qe,qa0e]
 generalize upd (upd (upd (upd H e (.dK [])) q (.lst [])) e (.dK (entK x q v1 v2 v3 .non))) l (.lst ((τ.map fun t=>V.ref t.e) ++ [V.ref e]))=H1 at G1 hq1 ⊢
 obtain⟨ns2,hn2,hk2⟩:=kids_ok (e:=e) (q:=q) hw hn
 have lτ1:(τ ++ [(⟨e,q,x,O⟩:Ent)]).length=τ.length + 1:=by simp
 have ht0:(⟨e,q,x,O⟩:Ent) ∈ τ ++ [(⟨e,q,x,O⟩:Ent)]:=List.mem_append_right _ (List.mem_singleton.mpr rfl)
 generalize eτ1:τ ++ [(⟨e,q,x,O⟩:Ent)]=τ1 at G1 hn2 lτ1 ht0
 -- inner
 refine⟨_,rfl,?_⟩
 dsimp only [qa3l]
 refine qb3j (fun σ' H'=>∃ v,σ'=[some v1,some v2,some v3,some (.ref l),some (.int (τ.length:Int)),some (.str x.word),some (.ref e),some v,none,none,none]/\Go K S l τ H τ1 H'/\AtD K H' (reg S l τ1) (.list (encO (if x.word = "not" then Sen.flipAll O else O))) v/\H' q=some (.lst [])) ?_ ?_
 ·rintro σ' H' ⟨v,rfl,G2,ai,hq2⟩
  refine qb3j (fun σ' H'=>∃ v,σ'=[some v1,some v2,some v3,some (.ref l),some (.int (τ.length:Int)),some (.str x.word),some (.ref e),some v,none,none,none]/\Go K S l τ H τ1 H'/\AtD K H' (reg S l τ1) (.list (encO (Sen.nextO x.word O τ.length))) v/\H' q=some (.lst [])) ?_ ?_
  ·rintro σ' H' ⟨v,rfl,G3,ai,hq3⟩
   refine qb3j (fun σ' H'=>σ'=[some v1,some v2,some v3,some (.ref l),some (.int (τ.length:Int)),some (.str x.word),some (.ref e),some v,none,none,none]/\Go K S l τ H τ1 H'/\AtD K H' (reg S l τ1) (.list (encO (Sen.nextO x.word O τ.length))) v/\H' q=some (.lst [])) ?_ ?_
   ·rintro σ' H' ⟨rfl,G4,ai4,hq4⟩
    refine fun p hp=>qb6s qa2y _ _ _ ⟨qa0e,qa2y.map kvE,by rw [List.map_map];rfl,by decide,?_⟩
    rw [show qa6c [] (qa2y.map kvE)=qa2y.map kvE from qb1r _ [] (by decide +kernel)]
    have s5:Same H' (upd (upd H' p (.dK [])) p (.dK (qa2y.map kvE))):=fun b o h=>by rw [qa0d (qa0z h hp),qa0d (qa0z h hp)];exact h
    have G5:=G4.trans (Go.same G4.tab G4.frs s5)
    have ai5:=(Go.same G4.tab G4.frs s5).per _ _ ai4
    have hq5:=s5 _ _ hq4
    have hp5:upd (upd H' p (.dK [])) p (.dK (qa2y.map kvE)) p=some (.dK (qa2y.map kvE)):=qa0e
    generalize upd (upd H' p (.dK [])) p (.dK (qa2y.map kvE))=H5 at G5 ai5 hq5 hp5 ⊢
    dsimp only [qa3l]
    have a1t5:AtD K H5 (reg S l τ1) (.tuple (its x)) v1:=by rw [← qb4k];exact G5.per _ _ a1
    have hit:=qc2w hw
    have hst:=stN_len x
    have hkt:=qc5r x
    refine⟨_,rfl,.inr (.inr (.inl ⟨rfl,.inl ⟨_,hp5⟩⟩)),_,rfl,_,rfl,v1,reg S l τ1,its x,rfl,.inl a1t5,p,_,x.word,_,rfl,rfl,hp5,?_⟩
    rw [qc2t hw]
    have e62:(2:Int) ^ 62=4611686018427387904:=by decide
    refine⟨_,rfl,v1,reg S l τ1,its x,rfl,.inl a1t5,(stN x:Int),((its x).length:Int),rfl,by rw [e62];omega,?_⟩
    have en:(((its x).length:Int) - (stN x:Int)).toNat=x.kids.length:=by omega
    rw [en]
    refine qc1l (fun i σ' H2=>∃ v9 v10 ν ps,σ'=[some v1,some v2,some v3,some (.ref l),some (.int (τ.length:Int)),some (.str x.word),some (.ref e),some v,some (.ref p),v9,v10]/\Go K S l τ H (τ1 ++ ν) H2/\AtD K H2 (reg S l (τ1 ++ ν)) (.list (encO (Sen.nextO x.word O τ.length))) v /\
     (ν.map fun t=>(t.O,t.x))=walks (Sen.nextO x.word O τ.length) (τ.length + 1) (x.kids.take i)/\H2 q=some (.lst (numV ps))/\ps.length=i) ?_ ?_ ?_
    ·exact⟨none,none,[],[],rfl,by rw [List.append_nil];exact G5,by rw [List.append_nil];exact ai5,rfl,hq5,rfl⟩
    ·rintro i σ' H2 hi ⟨v9,v10,ν,ps,rfl,G6,ai6,eν,hq6,lps⟩
     have ht6:(⟨e,q,x,O⟩:Ent) ∈ τ1 ++ ν:=List.mem_append_left _ ht0
     obtain⟨vs,va,vr,vh,ps',rs',g1,_⟩:=G6.tab.ent _ ht6
     refine⟨_,rfl,e,.ref q,rfl,(by have:=DGet.k (k:=Sum.inr "parts") g1;rw [qc0p] at this;exact this),.inl ⟨rfl,_,SqL.of hq6⟩,_,rfl,l,_,rfl,.inl (SqL.of G6.tab.lst),q,_,_,rfl,rfl,hq6,?_,?_⟩
     ·unfold numV
      rw [List.length_map];exact qa3a (by omega)
     have G7:=G6.part ht6 hqf (ps ++ [(τ1 ++ ν).length]) hq6
     have eP:numV ps ++ [V.int ((((τ1 ++ ν).map fun t=>V.ref t.e).length:Nat):Int)]=numV (ps ++ [(τ1 ++ ν).length]):=by
      rw [List.length_map]
      unfold numV
      rw [List.map_append];rfl
     rw [eP]
     have hq7:upd H2 q (.lst (numV (ps ++ [(τ1 ++ ν).length]))) q=some (.lst (numV (ps ++ [(τ1 ++ ν).length]))):=qa0e
     have ai7:AtD K (upd H2 q (.lst (numV (ps ++ [(τ1 ++ ν).length])))) (reg S l (τ1 ++ ν)) (.list (encO (Sen.nextO x.word O τ.length))) v:=
      AtD.mono (qa6p (fun z=>z.2 (.inr ⟨_,ht6,.inr rfl⟩)) (qa7k hq6).1 (qa7k hq6).2) _ _ ai6
     generalize upd H2 q (.lst (numV (ps ++ [(τ1 ++ ν).length])))=H3 at G7 hq7 ai7 ⊢
     refine⟨_,rfl,?_⟩
     dsimp only [qa3l]
     refine qb3j (fun σ' H'=>∃ (v10:V) (rs':List Nat),σ'=[some v1,some v2,some v3,some (.ref l),some (.int (τ.length:Int)),some (.str x.word),some (.ref e),some v,some (.ref p),some (.int ((stN x:Int) + (i:Int))),some v10]/\Go K S l τ H (τ1 ++ ν) H'/\AtD K H' (reg S l (τ1 ++ ν)) (.list (encO (Sen.nextO x.word O τ.length))) v/\H' q=some (.lst (numV (ps ++ [(τ1 ++ ν).length]))) /\
      AtD K H' (reg S l (τ1 ++ ν)) (.list (rs'.map numD)) v10/\rs'.length <= rs.length + 1) ?_ ?_
     ·rintro σ' H4 ⟨v10,rs',rfl,G8,ai8,hq8,ar8,lrs⟩
      obtain⟨k1,hk1⟩:∃ k1,x.kids[i]? = some k1:=⟨_,List.getElem?_eq_getElem hi⟩
      have hks:=qc5t hk1
      have a1t8:AtD K H4 (reg S l (τ1 ++ ν)) (.tuple (its x)) v1:=by rw [← qb4k];exact G8.per _ _ a1
      have hlν:ν.length=sizes (x.kids.take i):=by
       have:=congrArg List.length eν
       rw [List.length_map,qb5e] at this;exact this
      have hlO:=qc2u x.word O τ.length
      have hik:=its_kid x i k1 hk1
      refine⟨_,rfl,_,rfl,reg S l (τ1 ++ ν),its x,(stN x:Int) + (i:Int),k1.enc,.inl a1t8,rfl,qa1f (j:=stN x + i) hik,fun vk avk=>?_⟩
      refine⟨_,rfl,_,rfl,_,rfl,?_⟩
      refine⟨S,k1,Sen.nextO x.word O τ.length,rs',l,τ1 ++ ν,vk,v,v10,ns2,rfl,by omega,hk2 k1 (List.mem_of_getElem? hk1),hn2.more,G8.tab,G8.frs,avk,ai8,ar8,by rw [List.length_append,lτ1];omega,by omega,by omega,fun H5' ν' G9 e9=>?_⟩
      have etk:x.kids.take (i + 1)=x.kids.take i ++ [k1]:=by rw [List.take_add_one,hk1];rfl
      refine⟨_,_,ν ++ ν',ps ++ [(τ1 ++ ν).length],rfl,by rw [← List.append_assoc];exact G8.trans G9,by rw [← List.append_assoc];exact G9.per _ _ ai8,?_,G9.oq _ ht6 _ hq8,by simp [lps]⟩
      rw [List.map_append,eν,e9,etk,qb5f,← hlν]
      congr 1
      rw [List.length_append,lτ1]
      simp only [walks,List.append_nil]
     ·intro hrest
      refine and_eq rfl rfl (ite2 (fun c=>?_) (fun c=>?_))
      ·refine⟨_,rfl,_,rfl,(show(1:Nat) <= sizeLine by decide),fun p2 hp2=>?_⟩
       have s1:=qa0t hp2 (.lst [.int (τ.length:Int)])
       have G8:=G7.trans (Go.same G7.tab G7.frs s1)
       refine qa4e (reg S l (τ1 ++ ν)) _ _ _ (.list (rs.map numD)) (.list [numD τ.length]) (.list (rs.map numD ++ [numD τ.length])) _ (G8.tab.frsR G8.frs) (.inl (G8.per _ _ a3)) (.inl ?_) (qb6m ?_) fun v' H4 s3 av=>?_
       ·exact qa1w (G7.tab.frsR G7.frs p2 hp2) qa0e (.cons (qa2e _) .nil)
       ·rw [List.length_map];exact Nat.le_of_lt (qa3a (by simp;omega))
       ·refine hrest _ _ ⟨v',rs ++ [τ.length],rfl,G8.trans (Go.same G8.tab G8.frs s3),(Go.same G8.tab G8.frs s3).per _ _ ((Go.same G7.tab G7.frs s1).per _ _ ai7),s3 _ _ (s1 _ _ hq7),?_,by simp⟩
        rw [List.map_append];exact av
      ·exact hrest _ _ ⟨v3,rs,rfl,G7,ai7,hq7,G7.per _ _ a3,Nat.le_succ _⟩
    ·rintro σ' H2 ⟨v9,v10,ν,ps,rfl,G6,ai6,eν,hq6,lps⟩
     refine⟨_,rfl,?_⟩
     refine k H2 (⟨e,q,x,O⟩ :: ν) ?_ ?_
     ·rw [← eτ1,List.append_assoc] at G6;exact G6
     ·rw [List.take_length] at eν
      rw [List.map_cons,eν,qc0r hw]
   ·intro hrest
    refine⟨_,rfl,rfl,_,rfl,ite2 (fun c=>?_) (fun c=>?_)⟩
    ·have cw:x.word = "wish":=V.str.inj (of_decide_eq_true c)
     obtain⟨m,hm,ex⟩:=wish_of hw cw
     have hn1:NmO τ1 O ns:=by rw [← eτ1];exact hn.more
     obtain⟨cs,c0,ecs⟩:=hits_ne hn1 hm
     obtain⟨a,xs,ea,sa,ha,hA⟩:=qa3o (G3.per _ _ a2)
     refine⟨_,rfl,.inr ⟨a,ea,⟨_,SqL.of ha⟩,fun D hD=>qb1k (qb4w (xs:=xs) (fun i σ' H2=>∃ u0 u1,σ'=[u0,u1,some (.ref l),some v1]/\Same H' H2/\H2 D=some (.lst (numV (hits τ1 m (O.take i))))) ⟨none,none,rfl,qa0t hD _,qa0e⟩ (fun i σ' H2 _ hq8=>by obtain⟨_,_,_,s',_⟩:=hq8;exact SqL.of (s' _ _ ha)) ?_ ?_)⟩⟩
     ·rintro i y σ' H2 hy ⟨u0,u1,rfl,s',hD'⟩
      obtain⟨d,hd,ad⟩:=hA.at hy
      unfold encO at hd
      rw [List.getElem?_map] at hd
      obtain⟨⟨b,o⟩,hbo,rfl⟩:=Option.map_eq_some_iff.mp hd
      obtain⟨p,zs,rfl,hp,hz⟩:=qa3e (AtD.mono s'.keep _ _ ad)
      obtain⟨z0,r0,rfl,h0,hz⟩:=hz.uncons
      obtain⟨z1,r1,rfl,h1,hz⟩:=hz.uncons
      cases hz.unnil
      rw [qa4d h0,qa4s h1] at hp
      have hi:i < O.length:=(List.getElem?_eq_some_iff.mp hbo).1
      obtain⟨t,w',m',y',ht,hx'⟩:=hn1.1 (b,o) (List.mem_of_getElem? hbo)
      have G4:=G3.trans (Go.same G3.tab G3.frs s')
      obtain⟨vs,va,vr,vh,ps,rs',g1,g2,_⟩:=G4.tab.ent t (List.mem_of_getElem? ht)
      have g2':AtD K H2 (reg S l τ1) (.tuple [.str w',.str m',y'.enc]) vs:=by rw [hx'] at g2;exact g2
      have a1':AtD K H2 (reg S l τ1) (.tuple [.str "wish",.str m]) v1:=by
       have:=G4.per _ _ a1
       rw [ex] at this;exact this
      have es:hits τ1 m (O.take (i + 1))=hits τ1 m (O.take i) ++ (if m'=m then [b] else []):=by
       rw [List.take_add_one,hbo,Option.toList_some];exact qc2v ht (nmE_of hx')
      refine⟨p,_,rfl,hp,rfl,_,_,rfl,_,_,rfl,rfl,?_⟩
      show(tOp _ _ _:TE) _ _ _
      refine⟨_,rfl,_,rfl,l,_,_,.ref t.e,rfl,rfl,SqL.of G4.tab.lst,qa1f (by rw [List.getElem?_map,ht];rfl),?_⟩
      refine⟨t.e,vs,rfl,(by have:=DGet.k (k:=Sum.inr "s") g1;rw [entK_s] at this;exact this),?_⟩
      refine⟨reg S l τ1,_,1,.str m',.inl g2',rfl,atI_1,fun v' av'=>?_⟩
      rw [qa5t av']
      refine⟨_,rfl,reg S l τ1,_,1,.str m,.inl a1',rfl,atI_1,fun v2' av2=>?_⟩
      rw [qa5t av2]
      refine⟨rfl,_,rfl,?_⟩
      have hlen:=qc5s τ1 m (O.take i)
      have:=List.length_take_le i O
      refine ite2 (fun c=>?_) (fun c=>?_)
      ·have e':m'=m:=V.str.inj (of_decide_eq_true c)
       rw [if_pos e'] at es
       refine⟨_,rfl,_,hD',?_,_,_,rfl,fun c o' ho=>?_,?_⟩
       ·unfold numV
        rw [List.length_map];exact qa3a (by omega)
       ·rw [qa0d (qa0z ho hD)];exact s' _ _ ho
       ·rw [qa0e,es];unfold numV;rw [List.map_append];rfl
      ·have e':¬ m'=m:=fun z=>c (decide_eq_true (congrArg V.str z))
       rw [if_neg e',List.append_nil] at es
       exact⟨_,_,rfl,s',by rw [es];exact hD'⟩
     ·rintro σ' H2 ⟨u0,u1,rfl,s',hD'⟩
      have hxl:xs.length=O.length:=by rw [hA.length,qa8n]
      rw [hxl,List.take_length,ecs] at hD'
      have G4:=G3.trans (Go.same G3.tab G3.frs s')
      obtain⟨vs,va,vr,vh,ps,rs',g1,g2,_⟩:=G4.tab.ent _ ht0
      have hD2:H2 D=some (.lst (numV cs ++ [.int (c0:Int)])):=by rw [hD'];unfold numV;rw [List.map_append];rfl
      refine⟨1,rfl,D,_,-1,.int (c0:Int),rfl,rfl,SqL.of hD2,qc3j _ _,?_⟩
      refine⟨_,rfl,e,_,rfl,DPut.k (k:=Sum.inr "home") g1 (by show(6:Nat) < sizeLine;decide),?_⟩
      rw [qc2r]
      have Gh:=Go.home G4.tab G4.frs ht0 c0 g1
      exact hrest _ _ ⟨rfl,G4.trans Gh,Gh.per _ _ ((Go.same G3.tab G3.frs s').per _ _ ai),Gh.oq _ ht0 _ (s' _ _ hq3)⟩
    ·exact hrest _ _ ⟨rfl,G3,ai,hq3⟩
  ·intro hrest
   refine or_eq rfl (ite2 (fun c=>?_) (fun c=>?_))
   ·have hb:(x.word == "least" || x.word == "most")=true:=by
     rcases Bool.or_eq_true _ _ ▸ c with c | c
     ·rw [of_decide_eq_true c];rfl
     ·rw [of_decide_eq_true c];rfl
    have hn':(x.word == ("not" : Str))=false:=Sen.not_isB hb
    have eN:Sen.nextO x.word O τ.length=O ++ [(τ.length,false)]:=by
     unfold Sen.nextO
     rw [if_neg (by rw [hn'];decide),if_pos hb]
    refine⟨_,rfl,_,rfl,(show(2:Nat) <= sizeLine by decide),fun p hp=>⟨(show(1:Nat) <= sizeLine by decide),fun p2 hp2=>?_⟩⟩
    have s1:=qa0t hp (.tup [.int (τ.length:Int),.bl false])
    have s2:=qa0t hp2 (.lst [.ref p])
    have G3:=G2.trans (Go.same G2.tab G2.frs (fun b o h=>s2 _ _ (s1 _ _ h)))
    refine qa4e (reg S l τ1) _ _ _ (.list (encO O)) (.list [.tuple [numD τ.length,.bool false]]) (.list (encO O ++ [.tuple [numD τ.length,.bool false]])) _ (G3.tab.frsR G3.frs) (.inl (G3.per _ _ a2)) (.inl ?_) (qb6m ?_) fun v' H' s3 av=>?_
    ·refine qa1w ⟨G2.frs p2 (qa3g p2 hp2),fun z=>G2.tab.has z (qa3g p2 hp2)⟩ qa0e (.cons (qa3j (SqT.of (xs:=[.int (τ.length:Int),.bl false]) (s2 _ _ qa0e)) (.cons (qa2e _) (.cons (qa2t _) .nil))) .nil)
    ·rw [qa8n];exact Nat.le_of_lt (qa3a (by simp;omega))
    ·refine hrest _ _ ⟨v',rfl,G3.trans (Go.same G3.tab G3.frs s3),?_,s3 _ _ (s2 _ _ (s1 _ _ hq2))⟩
     rw [eN]
     have e2:encO (O ++ [(τ.length,false)])=encO O ++ [.tuple [numD τ.length,.bool false]]:=by unfold encO;rw [List.map_append];rfl
     rw [e2];exact av
   ·have hb:(x.word == "least" || x.word == "most")=false:=by
     have c':=Bool.not_eq_true _ ▸ c
     rw [Bool.or_eq_false_iff] at c' ⊢
     exact⟨by simpa using of_decide_eq_false c'.1,by simpa using of_decide_eq_false c'.2⟩
    have eN:Sen.nextO x.word O τ.length=if x.word = "not" then Sen.flipAll O else O:=by
     unfold Sen.nextO
     by_cases z:x.word = "not"
     ·rw [if_pos (by rw [z];rfl),if_pos z]
     ·rw [if_neg (by simpa using z),if_neg (by rw [hb];decide),if_neg z]
    exact hrest _ _ ⟨v,rfl,G2,by rw [eN];exact ai,hq2⟩
 ·intro hrest
  refine⟨_,rfl,rfl,_,rfl,?_⟩
  refine ite2 (fun c=>?_) (fun c=>?_)
  ·have cw:x.word = "not":=V.str.inj (of_decide_eq_true c)
   obtain⟨a,xs,rfl,sa,ha,hA⟩:=qa3o (G1.per _ _ a2)
   refine⟨_,rfl,.inr ⟨a,rfl,⟨_,SqL.of ha⟩,fun D hD=>qb1k (qb4w (xs:=xs) (fun i σ' H'=>∃ u0 u1 ws,σ'=[u0,u1]/\Same H1 H'/\H' D=some (.lst ws)/\qa0b K H' (fun _=>False) (encO (Sen.flipAll (O.take i))) ws) ⟨none,none,[],rfl,qa0t hD _,qa0e,.nil⟩ (fun i σ' H' _ hq8=>by obtain⟨_,_,_,_,s',_⟩:=hq8;exact SqL.of (s' _ _ ha)) ?_ ?_)⟩⟩
   ·rintro i y σ' H' hy ⟨u0,u1,ws,rfl,s',hD',hw'⟩
    obtain⟨d,hd,ad⟩:=hA.at hy
    unfold encO at hd
    rw [List.getElem?_map] at hd
    obtain⟨⟨b,o⟩,hbo,rfl⟩:=Option.map_eq_some_iff.mp hd
    obtain⟨p,zs,rfl,hp,hz⟩:=qa3e (AtD.mono s'.keep _ _ ad)
    obtain⟨z0,r0,rfl,h0,hz⟩:=hz.uncons
    obtain⟨z1,r1,rfl,h1,hz⟩:=hz.uncons
    cases hz.unnil
    rw [qa4d h0,qa4s h1] at hp
    have hi:i < O.length:=(List.getElem?_eq_some_iff.mp hbo).1
    refine⟨p,_,rfl,hp,rfl,_,_,rfl,_,_,rfl,rfl,?_⟩
    dsimp only [tYes]
    rw [if_pos rfl]
    refine⟨_,rfl,_,rfl,o,rfl,(show(2:Nat) <= sizeLine by decide),fun p2 hp2=>⟨ws,?_,?_,?_⟩⟩
    ·rw [qa0d (qa0z hD' hp2)];exact hD'
    ·rw [hw'.length,qa8n]
     have:=List.length_take_le i O
     exact qa3a (by rw [Sen.flipAll,List.length_map];omega)
    ·have dp:D ≠ p2:=qa0z hD' hp2
     have kp:Keep (fun _=>False) H' (upd (upd H' p2 (.tup [.int (b:Int),.bl (!o)])) D (.lst (ws ++ [.ref p2]))):=
      ((qa0t hp2 _).keep).trans (qa6p (fun z=>z) (qa7k (by rw [qa0d dp];exact hD')).1 (qa7k (by rw [qa0d dp];exact hD')).2)
     refine⟨_,_,_,rfl,fun c o' ho=>?_,qa0e,?_⟩
     ·rw [qa0d (qa0z ho hD),qa0d (qa0z (s' _ _ ho) hp2)];exact s' _ _ ho
     ·have et:encO (Sen.flipAll (O.take (i + 1)))=encO (Sen.flipAll (O.take i)) ++ [.tuple [numD b,.bool (!o)]]:=by
       rw [List.take_add_one,hbo,Option.toList_some]
       unfold encO Sen.flipAll
       rw [List.map_append,List.map_append];rfl
      rw [et]
      refine(qa0b.mono kp _ _ hw').snoc (qa3j (SqT.of (xs:=[.int (b:Int),.bl (!o)]) ?_) (.cons (qa2e _) (.cons (qa2t _) .nil)))
      rw [qa0d (Ne.symm dp),qa0e]
   ·rintro σ' H' ⟨u0,u1,ws,rfl,s',hD',hw'⟩
    have G2:=G1.trans (Go.same G1.tab G1.frs s')
    refine hrest _ _ ⟨.ref D,rfl,G2,?_,s' _ _ hq1⟩
    rw [if_pos cw]
    have hxl:xs.length=O.length:=by rw [hA.length,qa8n]
    rw [hxl,List.take_length] at hw'
    exact qa1w (G1.tab.frsR G1.frs D hD) hD' (qa0b.more (fun _ z=>z.elim) _ _ hw')
  ·have cw:¬ x.word = "not":=fun z=>c (decide_eq_true (congrArg V.str z))
   exact hrest _ _ ⟨v2,rfl,G1,by rw [if_neg cw];exact G1.per _ _ a2,hq1⟩
end
noncomputable def entD(y:Sen)(O:List (Nat × Bool))(pd rd hd:PyData):PyData:=.dict [(.str "word",.str y.word),(.str "s",y.enc),(.str "parts",pd),(.str "around",.list (encO O)),(.str "room",rd),(.str "home",hd)]
def TabD(x:Sen)(ds:List PyData):Prop:=ds.length=x.size/\∀ (i:Nat) (O:List (Nat × Bool)) (y:Sen),(Sen.walkR x [] 0)[i]? = some (O,y)->∃ pd rd hd:PyData,ds[i]? = some (entD y O pd rd hd)
def dTable(i m:Nat):TDE:=fun ρ Q=>∃ x:Sen,ρ[i]? = some (some (.d x.enc))/\x.size <= m/\WOk [] x/\x.size <= 900/\∀ ds,TabD x ds->Q (.d (.list ds)) ρ
section
variable{K:W.Frag}{H:Hp}{S:Addr->Prop}
theorem qb9m:∀ ps:List Nat,qa0b K H S (ps.map numD) (numV ps)
 | []=>.nil
 | _ :: l=>.cons (qa2e _) (qb9m l)
theorem qc5u{l:Addr}{τ:List Ent}(T:TbL K S H l τ){t:Ent}(ht:t ∈ τ):∃ pd rd hd,AtD K H S (entD t.x t.O pd rd hd) (.ref t.e):=by
 obtain⟨vs,va,vr,vh,ps,rs,h1,h2,h3,h4,h5,h6⟩:=T.ent t ht
 have m:∀ a,reg S l τ a->S a:=fun _ h=>h.1
 obtain⟨hd,ah⟩:∃ hd,AtD K H S hd vh:=by
  rcases h5 with rfl | ⟨i,rfl⟩
  ·exact⟨.none,qb0g⟩
  ·exact⟨.int i,qa2e _⟩
 exact⟨.list (ps.map numD),.list (rs.map numD),hd,qb1j (T.se t ht).1 h1 (.cons (qb1t _) (.cons (AtD.more m _ _ h2) (.cons (qa1w (T.se t ht).2 h6 (qb9m ps)) (.cons (AtD.more m _ _ h3) (.cons (AtD.more m _ _ h4) (.cons ah .nil))))))⟩
theorem qb7c{l:Addr}{τ:List Ent}(T:TbL K S H l τ):∀ ν:List Ent,(∀ t ∈ ν,t ∈ τ)->∃ ds,qa0b K H S ds (ν.map fun t=>V.ref t.e)/\ds.length=ν.length/\∀ (i:Nat) (t:Ent),ν[i]? = some t->∃ pd rd hd,ds[i]? = some (entD t.x t.O pd rd hd)
 | [],_=>⟨[],.nil,rfl,fun i t h=>by cases h⟩
 | t :: ν,h=>by
  obtain⟨ds,a,e,g⟩:=qb7c T ν fun u hu=>h u (List.mem_cons_of_mem _ hu)
  obtain⟨pd,rd,hd,at_⟩:=qc5u T (h t List.mem_cons_self)
  refine⟨entD t.x t.O pd rd hd :: ds,.cons at_ a,by rw [List.length_cons,List.length_cons,e],fun i u hu=>?_⟩
  cases i with
  | zero=>cases hu;exact⟨pd,rd,hd,rfl⟩
  | succ i=>exact g i u hu
end
theorem qc5v{K:W.Frag}{i m:Nat}:AdE K (tCall (qa8o K m) [] E0 (qa2z (tVar i) (qa2z (tLst tNil) (qa2z (tLst tNil) (qa2z (tLst tNil) tNil))))) (dTable i m):=by
 intro c O ρ σ H Qd Q R h k
 obtain⟨x,hi,hm,hw,hsz,hq⟩:=h
 obtain⟨v,hv,av⟩:=R.dat i _ hi
 refine⟨v,hv,(show(0:Nat) <= sizeLine by decide),fun p1 h1=>⟨(show(0:Nat) <= sizeLine by decide),fun p2 h2=>⟨(show(0:Nat) <= sizeLine by decide),fun p3 h3=>?_⟩⟩⟩
 have s1:=qa0t h1 (.lst [])
 have s2:=qa0t h2 (.lst [])
 have s3:=qa0t h3 (.lst [])
 have f0:=R.frsLive
 have n2:H p2=none:=qa3g p2 h2
 have n3:H p3=none:=qa3g p3 (qa3g p3 h3)
 have d13:p1 ≠ p3:=fun z=>by rw [← z,s2 _ _ qa0e] at h3;cases h3
 have d23:p2 ≠ p3:=fun z=>by rw [← z,qa0e] at h3;cases h3
 have sA:Same H (upd (upd (upd H p1 (.lst [])) p2 (.lst [])) p3 (.lst [])):=fun b o hb=>s3 _ _ (s2 _ _ (s1 _ _ hb))
 have T:TbL K (live c O) (upd (upd (upd H p1 (.lst [])) p2 (.lst [])) p3 (.lst [])) p3 []:=⟨qa0e,fun t ht=>(by cases ht),f0 p3 n3,fun t ht=>(by cases ht)⟩
 have inT:∀ a,InT p3 [] a->a=p3:=fun a z=>by
  rcases z with z | ⟨t,ht,_⟩
  ·exact z
  ·cases ht
 have avR:AtD K H (reg (live c O) p3 []) x.enc v:=AtD.less n3 (fun a h n=>⟨h,fun z=>n (inT a z)⟩) _ _ av
 refine⟨live c O,x,[],[],p3,[],v,.ref p1,.ref p2,[],rfl,hm,hw,⟨fun p hp=>(by cases hp),fun m hm=>(by cases hm)⟩,T,qa4x (qa4x (qa4x f0)),AtD.mono sA.keep _ _ avR,?_,?_,by simp;exact hsz,by simp;exact hsz,by simp;exact hsz,fun H' ν G eν=>?_⟩
 ·exact qa1w ⟨f0 p1 h1,fun z=>d13 (inT _ z)⟩ (s3 _ _ (s2 _ _ qa0e)) .nil
 ·exact qa1w ⟨f0 p2 n2,fun z=>d23 (inT _ z)⟩ (s3 _ _ qa0e) .nil
 rw [List.nil_append] at G
 have sB:Same H H':=fun b o hb=>G.nt b o (fun z=>by have:=inT b z;rw [this,n3] at hb;cases hb) (sA _ _ hb)
 obtain⟨ds,aD,lD,gD⟩:=qb7c G.tab ν fun t ht=>ht
 refine k (.d (.list ds)) _ O (.ref p3) H' (hq ds ⟨?_,fun j O' y hj=>?_⟩) (R.grow sB) (.same sB) (show AtD K H' (live c O) (.list ds) (.ref p3) from qa1w G.tab.sl G.tab.lst aD)
 ·rw [lD]
  have:=congrArg List.length eν
  rw [List.length_map,Sen.walkR_length] at this;exact this
 ·have e1:(ν.map fun t=>(t.O,t.x))[j]? = some (O',y):=by rw [eν];exact hj
  rw [List.getElem?_map] at e1
  obtain⟨t,ht,et⟩:=Option.map_eq_some_iff.mp e1
  obtain⟨pd,rd,hd,e⟩:=gD j t ht
  cases et
  exact⟨pd,rd,hd,e⟩
noncomputable def qa4q(x:Sen):List PyData:=(x.rms 0 []).map encB
theorem qb7d(x:Sen):(qa4q x).length=x.size:=by unfold qa4q;rw [List.length_map,Sen.rms_length]
def qb9n:DSp:=fun ls Q=>∃ x:Sen,ls=[.d x.enc]/\OkS x/\x.size <= 900/\Q (.new (qa4q x)) [none]
theorem qa9d:∀ (s:Sen) (n:Nat) (bs:List Nat) (l:List Nat),l ∈ s.rms n bs->l.length <= bs.length + s.size
 | .leaf _ _,n,bs,l,h=>by
  have e:l=bs:=by simpa [Sen.rms] using h
  subst e;omega
 | .one w pre s,n,bs,l,h=>by
  have e:l=bs ∨ l ∈ s.rms (n + 1) bs:=by simpa [Sen.rms] using h
  simp only [Sen.size]
  rcases e with rfl | e
  ·omega
  ·have:=qa9d s _ _ l e;omega
 | .two w pre s t,n,bs,l,h=>by
  have e:l=bs ∨ l ∈ s.rms (n + 1) bs ∨ l ∈ t.rms (n + 1 + s.size) (Sen.inR (.two w pre s t) 1 n bs):=by simpa [Sen.rms] using h
  have:(Sen.inR (.two w pre s t) 1 n bs).length <= bs.length + 1:=by unfold Sen.inR;split<;>simp
  simp only [Sen.size]
  rcases e with rfl | e | e
  ·omega
  ·have:=qa9d s _ _ l e;omega
  ·have:=qa9d t _ _ l e;omega
theorem kid_gt{i k:Nat}{y:Sen}(h:k ∈ Sen.kidNums i y):i < k:=by
 cases y with
 | leaf=>simp [Sen.kidNums] at h
 | one=>simp [Sen.kidNums] at h;omega
 | two=>simp [Sen.kidNums] at h;omega
theorem qc5w{y:Sen}(h:OkS y) (hw:y.word = "show"):∃ pre a b,y=.two "show" pre a b:=by
 cases y with
 | leaf w a=>simp only [Sen.word] at hw;subst hw;rcases h.1 with e | e<;>exact absurd e (by decide)
 | one w pre s=>simp only [Sen.word] at hw;subst hw;rcases h.1 with e | e | e | e | e<;>exact absurd e (by decide)
 | two w pre s t=>simp only [Sen.word] at hw;subst hw;exact⟨pre,s,t,rfl⟩
section
variable{P:Program}{w:World}{K:W.Frag}{mg:Str->Option Value}{base:Heap}{n:Nat}
abbrev qa7w:Stmt:=top 9
theorem qa3t:FnScope ["sentence","things","parts","told","number","thing","part"] ["sentence"] (qa0i qa7w):=⟨rfl,rfl,rfl,by decide +kernel,rfl,by decide +kernel,by decide +kernel⟩
theorem qb7y{f f1 f2:Addr}{fd fd1 fd2:FuncData} (F:Fun K "rooms_at" "rooms_at" qa7w f fd) (B:Bl mg) (d_things_of:Def K mg "things_of" qa3s ["sentence"] f1 fd1) (g_things_of:FnOk P w K mg base CX0 n f1 fd1 ["sentence"] (spD K qa8l))
  (d_parts_at:Def K mg "parts_at" qa4w ["sentence"] f2 fd2) (g_parts_at:FnOk P w K mg base CX0 n f2 fd2 ["sentence"] (spD K qa9c)):FnOk P w K mg base CX0 (n + 1) f fd ["sentence"] (spD K qb9n):=by
 refine F.dok qa3t (fun cdv A outer s H E hr ls Qd h=>?_) (fun ls Qd hq8=>by obtain⟨x,e,_⟩:=hq8;rw [e];rfl)
 obtain⟨x,rfl,hx,hsz,q⟩:=h
 refine⟨rfl,?_⟩
 have lall:(x.all.map Sen.enc).length=x.size:=by rw [List.length_map,Sen.all_length]
 refine⟨_,(qa0f (qa1x (i:=1) qa3t.nd rfl (Or.inl rfl) (qa0l [false] d_things_of g_things_of hr rfl (qa0a (dv 0) qa0c)))
  (qa0f (qa1x (i:=2) qa3t.nd rfl (Or.inl rfl) (qa0l [false] d_parts_at g_parts_at hr rfl (qa0a (dv 0) qa0c)))
  (qa0f (qa5o (i:=3) qa3t.nd rfl (Or.inl rfl) (df_op qb1i qb1n (qa2b (qa1n (qa0a (qa1g qa0c) qa0c))) (qa1o qa0v qa2q rfl B.len_ qa1j (qa0a (dv 1) qa0c))))
  (qa0f (qa4n PassesOwn.never rfl (qb4d rfl B.enumerate_ (dv 1)) (qa9v (n:=2) rfl (qa2u (qa1h (i:=4) qa3t.nd rfl (Or.inl rfl)) (qa2u (qa1h (i:=5) qa3t.nd rfl (Or.inl rfl)) qa8b)))
  (qa0f (qa4n PassesOwn.never rfl (qa8i (qa1b qa0s qa1c (dv 2) (dv 4) (fun _ _=>rfl))) (qa1h (i:=6) qa3t.nd rfl (Or.inl rfl))
  (qa0h (qa6n 3 rfl (dv 6) (qa1b qa0s qa1c (dv 3) (dv 4) (fun _ _=>rfl)))))
  (qa0h (qa2r (qa1k (qa2x hr.units) qa2w (qa1b qa0s qa1c (dv 5) qa0k (fun _ _=>rfl)) qa0m (qa0j _))
  (qa0h (qa6n 3 rfl (qa1b qa0s qa1c (qa1b qa0s qa1c (dv 2) (dv 4) (fun _ _=>rfl)) qa0k (fun _ _=>rfl)) (qa2n qa2g qa4e (qa1b qa0s qa1c (dv 3) (dv 4) (fun _ _=>rfl)) (qa1g (qa0a (dv 4) qa0c)))))
  qa1m))))
  (qa0h (qa7f 3)))))),?_⟩
 walk_at "dd"
 refine⟨x,rfl,hx,hsz,?_⟩
 walk_at "dd"
 refine⟨x,rfl,hx,hsz,?_⟩
 walk_at "dd"
 rw [lall,qa9z (by omega)]
 walk_at "dd"
 refine qa3f (fun i ρ=>∃ (ds:List PyData) (v4 v5 v6:Option L),ρ=[some (.d x.enc),some (.d (.list (x.all.map Sen.enc))),some (.d (.list (qa2s x))),some (.own ds),v4,v5,v6]/\ds.length=x.size /\
  ∀ j,j < x.size->(j=0 ∨ ∃ p y,p < i/\x.all[p]? = some y/\j ∈ Sen.kidNums p y)->ds[j]? = (qa4q x)[j]?)
  ⟨_,none,none,none,rfl,by simp,fun j hj h=>?_⟩ ?_ ?_
 ·rcases h with rfl | ⟨p,_,hp,_⟩
  ·unfold qa4q
   rw [List.getElem?_replicate,if_pos hj,List.getElem?_map,Sen.rms_head];rfl
  ·omega
 ·rintro i u ρ N hu ⟨ds,v4,v5,v6,rfl,ld,done⟩ hN
  rw [qa9a] at hu
  obtain⟨u',hu',rfl⟩:=Option.map_eq_some_iff.mp hu
  rw [List.getElem?_map] at hu'
  obtain⟨y,hy,rfl⟩:=Option.map_eq_some_iff.mp hu'
  have hi:i < x.size:=by
   have:=(List.getElem?_eq_some_iff.mp hy).1
   rwa [Sen.all_length] at this
  have oky:=qa8c hx y (List.mem_of_getElem? hy)
  obtain⟨l,hl⟩:∃ l,(x.rms 0 [])[i]? = some l:=⟨_,List.getElem?_eq_getElem (by rw [Sen.rms_length];exact hi)⟩
  have hb:(qa4q x)[i]? = some (encB l):=by unfold qa4q;rw [List.getElem?_map,hl];rfl
  have ll:=qa9d x 0 [] l (List.mem_of_getElem? hl)
  have hdi:ds[i]? = some (encB l):=by
   rw [← hb]
   refine done i hi ?_
   by_cases e0:i=0
   ·exact .inl e0
   ·exact .inr (Sen.has_up x i (by omega) hi)
  have kid:∀ j k,(Sen.kidNums i y)[j]? = some k->(qa4q x)[k]? = some (encB (Sen.inR y j i l))/\k < x.size:=fun j k hk=>by
   have q:=Sen.rms_kid x 0 [] i y l hy hl j k hk
   rw [Nat.zero_add] at q
   refine⟨by unfold qa4q;rw [List.getElem?_map,q];rfl,?_⟩
   have:=(List.getElem?_eq_some_iff.mp q).1
   rwa [Sen.rms_length] at this
  have atp:atI (qa2s x) ((i:Nat):Int)=some (.tuple ((Sen.kidNums i y).map numD)):=qa1f (by unfold qa2s;rw [List.getElem?_map,List.getElem?_range hi];show some (qa8m x i)=_;rw [qa9b hy])
  walk_at "dd"
  rw [atp]
  walk_at "dd"
  refine qa3f (fun j ρ=>∃ (ds':List PyData) (v6:Option L),ρ=[some (.d x.enc),some (.d (.list (x.all.map Sen.enc))),some (.d (.list (qa2s x))),some (.own ds'),some (.d (.int (i:Int))),some (.d y.enc),v6]/\ds'.length=x.size/\ds'[i]? = some (encB l) /\
   (∀ j,j < x.size->(j=0 ∨ ∃ p y,p < i/\x.all[p]? = some y/\j ∈ Sen.kidNums p y)->j ∉ Sen.kidNums i y->ds'[j]? = (qa4q x)[j]?)/\∀ k ∈ (Sen.kidNums i y).take j,ds'[k]? = some (encB l))
   ⟨ds,v6,rfl,ld,hdi,fun j h1 h2 _=>done j h1 h2,fun k hk=>by simp at hk⟩ ?_ ?_
  ·rintro j u ρ N2 hu ⟨ds',v6,rfl,ld',hdi',done',kids'⟩ hN2
   rw [List.getElem?_map] at hu
   obtain⟨k,hk,rfl⟩:=Option.map_eq_some_iff.mp hu
   have hkm:=List.mem_of_getElem? hk
   have hks:=(kid j k hk).2
   have hgt:=kid_gt hkm
   walk_at "dd"
   rw [show atI ds' ((i:Nat):Int)=some (encB l) from qa1f hdi']
   walk_at "dd"
   rw [ld',qa6o hks]
   walk_at "dd"
   refine hN2 _ ⟨_,_,rfl,by rw [List.length_set];exact ld',by rw [List.getElem?_set_ne (by omega)];exact hdi',fun m hm h hn=>?_,fun m hm=>?_⟩
   ·have e:k ≠ m:=fun z=>hn (by rw [← z];exact hkm)
    rw [List.getElem?_set_ne e];exact done' m hm h hn
   ·by_cases e:m=k
    ·subst e;rw [List.getElem?_set_self (by omega)]
    ·rw [List.getElem?_set_ne (Ne.symm e)]
     rw [List.take_add_one,hk] at hm
     rcases List.mem_append.mp hm with hm | hm
     ·exact kids' m hm
     ·exact absurd (by simpa using hm) e
  ·rintro ρ ⟨ds',v6,rfl,ld',hdi',done',kids'⟩
   rw [List.length_map,List.take_length] at kids'
   have fin:∀ ds'':List PyData,ds''.length=x.size->(∀ j,j ∉ Sen.kidNums i y->ds''[j]? = ds'[j]?)->(∀ j k,(Sen.kidNums i y)[j]? = some k->ds''[k]? = some (encB (Sen.inR y j i l)))->∀ v6,N [some (.d x.enc),some (.d (.list (x.all.map Sen.enc))),some (.d (.list (qa2s x))),some (.own ds''),some (.d (.int (i:Int))),some (.d y.enc),v6]:=fun ds'' l2 h1 h2 v6=>by
    refine hN _ ⟨ds'',_,_,_,rfl,l2,fun j hj h=>?_⟩
    by_cases hm:j ∈ Sen.kidNums i y
    ·obtain⟨jj,hjj⟩:=List.getElem?_of_mem hm
     rw [h2 jj j hjj,(kid jj j hjj).1]
    ·rw [h1 j hm]
     refine done' j hj ?_ hm
     rcases h with h | ⟨p,z,hp,hz,hjz⟩
     ·exact .inl h
     ·by_cases e:p=i
      ·subst e
       rw [hy] at hz;cases hz
       exact absurd hjz hm
      ·exact .inr ⟨p,z,by omega,hz,hjz⟩
   obtain⟨r,er⟩:=qb0x y
   rw [er]
   walk_at "dd"
   rw [← er]
   refine qa3w (fun c=>?_) (fun c=>?_)
   ·obtain⟨pre,a,b,rfl⟩:=qc5w oky c
    walk_at "dd"
    have hk1:(Sen.kidNums i (.two "show" pre a b))[1]? = some (i + 1 + a.size):=rfl
    have sz:=a.size_pos
    rw [show atI ds' ((i:Nat):Int)=some (encB l) from qa1f hdi']
    walk_at "dd"
    rw [fAdd_t (by simp only [List.length_map,List.length_cons,List.length_nil];exact Nat.le_of_lt (qa3a (by simp at ll;omega)))]
    walk_at "dd"
    rw [atp]
    walk_at "dd"
    simp only [Sen.kidNums,List.map_cons,List.map_nil]
    walk_at "dd"
    rw [ld',qa6o (kid 1 _ hk1).2]
    walk_at "dd"
    refine fin _ (by rw [List.length_set];exact ld') (fun j hj=>by rw [List.getElem?_set_ne (fun z=>hj (by rw [← z];exact List.mem_of_getElem? hk1))]) (fun j k hk=>?_) _
    match j,hk with
    | 0,hk =>
     have e:k=i + 1:=by simpa [Sen.kidNums] using hk.symm
     rw [Sen.inR_0,List.getElem?_set_ne (by omega)]
     exact kids' k (List.mem_of_getElem? hk)
    | 1,hk =>
     have e:k=i + 1 + a.size:=by rw [hk1] at hk;exact(Option.some.inj hk).symm
     subst e
     rw [List.getElem?_set_self (by rw [ld'];exact(kid 1 _ hk1).2)]
     have e:Sen.inR (.two "show" pre a b) 1 i l=l ++ [i]:=rfl
     rw [e];simp [encB]
    | j + 2,hk=>simp [Sen.kidNums] at hk
   ·refine fin ds' ld' (fun _ _=>rfl) (fun j k hk=>?_) _
    have e:Sen.inR y j i l=l:=by unfold Sen.inR;rw [if_neg];simp [c]
    rw [e];exact kids' k (List.mem_of_getElem? hk)
 ·rintro ρ ⟨ds,v4,v5,v6,rfl,ld,done⟩
  walk_at "dd"
  have e:ds=qa4q x:=List.ext_getElem? fun j=>by
   by_cases hj:j < x.size
   ·refine done j hj ?_
    by_cases e0:j=0
    ·exact .inl e0
    ·obtain⟨p,y,hp,hy,hk⟩:=Sen.has_up x j (by omega) hj
     refine .inr ⟨p,y,?_,hy,hk⟩
     rw [qa6b,lall];omega
   ·rw [List.getElem?_eq_none (by omega),List.getElem?_eq_none (by rw [qb7d];omega)]
  rw [e];exact q
end
noncomputable def nots(x:Sen):List PyData:=(x.nts 0).map numD
theorem qb7z(x:Sen):(nots x).length=x.size:=by unfold nots;rw [List.length_map,Sen.nts_length]
def spNots:DSp:=fun ls Q=>∃ x:Sen,ls=[.d (.list (x.all.map Sen.enc)),.d (.list (qa2s x))]/\OkS x/\x.size <= 900/\Q (.new (nots x)) [none,none]
section
variable{P:Program}{w:World}{K:W.Frag}{mg:Str->Option Value}{base:Heap}{n:Nat}
abbrev qa9e:Stmt:=top 11
theorem qa6g:FnScope ["things","parts","told","number","thing","part"] ["things","parts"] (qa0i qa9e):=⟨rfl,rfl,rfl,by decide +kernel,rfl,by decide +kernel,by decide +kernel⟩
theorem qc0s{f:Addr}{fd:FuncData} (F:Fun K "nots_at" "nots_at" qa9e f fd) (B:Bl mg):FnOk P w K mg base CX0 (n + 1) f fd ["things","parts"] (spD K spNots):=by
 refine F.dok qa6g (fun cdv A outer s H E hr ls Qd h=>?_) (fun ls Qd hq8=>by obtain⟨x,e,_⟩:=hq8;rw [e];rfl)
 obtain⟨x,rfl,hx,hsz,q⟩:=h
 refine⟨rfl,?_⟩
 have lall:(x.all.map Sen.enc).length=x.size:=by rw [List.length_map,Sen.all_length]
 refine⟨_,(qa0f (qa5o (i:=2) qa6g.nd rfl (Or.inl rfl) (df_op qb1i qb1n (qa2b (qa1n (qa0a qa0k qa0c))) (qa1o qa0v qa2q rfl B.len_ qa1j (qa0a (dv 0) qa0c))))
  (qa0f (qa4n PassesOwn.never rfl (qb4d rfl B.enumerate_ (dv 0)) (qa9v (n:=2) rfl (qa2u (qa1h (i:=3) qa6g.nd rfl (Or.inl rfl)) (qa2u (qa1h (i:=4) qa6g.nd rfl (Or.inl rfl)) qa8b)))
  (qa0h (qa4n PassesOwn.never rfl (qa8i (qa1b qa0s qa1c (dv 1) (dv 3) (fun _ _=>rfl))) (qa1h (i:=5) qa6g.nd rfl (Or.inl rfl))
  (qa0h (qa6n 2 rfl (dv 5) (de_if (qa1k (qa2x hr.units) qa2w (qa1b qa0s qa1c (dv 4) qa0k (fun _ _=>rfl)) qa0m (qa0j _)) (qa2n qa2g qa4e (qa1b qa0s qa1c (dv 2) (dv 3) (fun _ _=>rfl)) qa0k) (qa1b qa0s qa1c (dv 2) (dv 3) (fun _ _=>rfl))))))))
  (qa0h (qa7f 2)))),?_⟩
 walk_at "dd"
 rw [lall,qa9z (by omega)]
 walk_at "dd"
 refine qa3f (fun i ρ=>∃ (ds:List PyData) (v3 v4 v5:Option L),ρ=[some (.d (.list (x.all.map Sen.enc))),some (.d (.list (qa2s x))),some (.own ds),v3,v4,v5]/\ds.length=x.size /\
  ∀ j,j < x.size->(j=0 ∨ ∃ p y,p < i/\x.all[p]? = some y/\j ∈ Sen.kidNums p y)->ds[j]? = (nots x)[j]?)
  ⟨_,none,none,none,rfl,by simp,fun j hj h=>?_⟩ ?_ ?_
 ·rcases h with rfl | ⟨p,_,hp,_⟩
  ·unfold nots
   rw [List.getElem?_replicate,if_pos hj,List.getElem?_map,Sen.nts_head];rfl
  ·omega
 ·rintro i u ρ N hu ⟨ds,v3,v4,v5,rfl,ld,done⟩ hN
  rw [qa9a] at hu
  obtain⟨u',hu',rfl⟩:=Option.map_eq_some_iff.mp hu
  rw [List.getElem?_map] at hu'
  obtain⟨y,hy,rfl⟩:=Option.map_eq_some_iff.mp hu'
  have hi:i < x.size:=by
   have:=(List.getElem?_eq_some_iff.mp hy).1
   rwa [Sen.all_length] at this
  obtain⟨c,hc⟩:∃ c,(x.nts 0)[i]? = some c:=⟨_,List.getElem?_eq_getElem (by rw [Sen.nts_length];exact hi)⟩
  have hb:(nots x)[i]? = some (numD c):=by unfold nots;rw [List.getElem?_map,hc];rfl
  have kid:=Sen.nts_kid (c:=0) hy hc
  have atp:atI (qa2s x) ((i:Nat):Int)=some (.tuple ((Sen.kidNums i y).map numD)):=qa1f (by unfold qa2s;rw [List.getElem?_map,List.getElem?_range hi];show some (qa8m x i)=_;rw [qa9b hy])
  have up:i=0 ∨ ∃ p y,p < i/\x.all[p]? = some y/\i ∈ Sen.kidNums p y:=by
   by_cases e0:i=0
   ·exact .inl e0
   ·exact .inr (Sen.has_up x i (by omega) hi)
  obtain⟨r,er⟩:=qb0x y
  walk_at "dd"
  rw [atp]
  walk_at "dd"
  refine qa3f (fun j ρ=>∃ (ds':List PyData) (v5:Option L),ρ=[some (.d (.list (x.all.map Sen.enc))),some (.d (.list (qa2s x))),some (.own ds'),some (.d (.int (i:Int))),some (.d y.enc),v5]/\ds'.length=x.size /\
    (∀ j,j < x.size->(j=0 ∨ ∃ p y,p < i/\x.all[p]? = some y/\j ∈ Sen.kidNums p y)->ds'[j]? = (nots x)[j]?)/\∀ k ∈ (Sen.kidNums i y).take j,ds'[k]? = (nots x)[k]?)
    ⟨ds,v5,rfl,ld,done,fun k hk=>by simp at hk⟩ ?_ ?_
  ·rintro j u ρ N2 hu ⟨ds',v5,rfl,ld',done',kids'⟩ hN2
   rw [List.getElem?_map] at hu
   obtain⟨k,hk,rfl⟩:=Option.map_eq_some_iff.mp hu
   have hkm:=List.mem_of_getElem? hk
   have hkb:=kid k hkm
   have hks:k < x.size:=by
    have:=(List.getElem?_eq_some_iff.mp hkb).1
    rwa [Sen.nts_length] at this
   have hkf:(nots x)[k]? = some (numD (Sen.inN y c)):=by unfold nots;rw [List.getElem?_map,hkb];rfl
   have atd:atI ds' ((i:Nat):Int)=some (numD c):=qa1f (by rw [done' i hi up];exact hb)
   have fin:=hN2 _ ⟨ds'.set k (numD (Sen.inN y c)),some (.d (numD k)),rfl,by rw [List.length_set];exact ld',fun m hm h=>?_,fun m hm=>?_⟩
   ·rw [er] at fin ⊢
    walk_at "dd"
    refine qa3w (fun c2=>?_) (fun c2=>?_)
    ·have e:Sen.inN y c=c + 1:=if_pos (beq_iff_eq.mpr c2)
     walk_at "dd"
     rw [atd]
     walk_at "dd"
     rw [ld',qa6o hks]
     walk_at "dd"
     rw [e] at fin
     exact fin
    ·have e:Sen.inN y c=c:=if_neg (fun z=>c2 (beq_iff_eq.mp z))
     walk_at "dd"
     rw [atd]
     walk_at "dd"
     rw [ld',qa6o hks]
     walk_at "dd"
     rw [e] at fin
     exact fin
   ·by_cases e:m=k
    ·subst e;rw [List.getElem?_set_self (by omega),hkf]
    ·rw [List.getElem?_set_ne (Ne.symm e)];exact done' m hm h
   ·by_cases e:m=k
    ·subst e;rw [List.getElem?_set_self (by omega),hkf]
    ·rw [List.getElem?_set_ne (Ne.symm e)]
     rw [List.take_add_one,hk] at hm
     rcases List.mem_append.mp hm with hm | hm
     ·exact kids' m hm
     ·exact absurd (by simpa using hm) e
  ·rintro ρ ⟨ds',v5,rfl,ld',done',kids'⟩
   rw [List.length_map,List.take_length] at kids'
   refine hN _ ⟨ds',_,_,_,rfl,ld',fun j hj h=>?_⟩
   rcases h with h | ⟨p,z,hp,hz,hjz⟩
   ·exact done' j hj (.inl h)
   ·by_cases e:p=i
    ·subst e
     rw [hy] at hz;cases hz
     exact kids' j hjz
    ·exact done' j hj (.inr ⟨p,z,by omega,hz,hjz⟩)
 ·rintro ρ ⟨ds,v3,v4,v5,rfl,ld,done⟩
  walk_at "dd"
  have e:ds=nots x:=List.ext_getElem? fun j=>by
   by_cases hj:j < x.size
   ·refine done j hj ?_
    by_cases e0:j=0
    ·exact .inl e0
    ·obtain⟨p,y,hp,hy,hk⟩:=Sen.has_up x j (by omega) hj
     refine .inr ⟨p,y,?_,hy,hk⟩
     rw [qa6b,lall];omega
   ·rw [List.getElem?_eq_none (by omega),List.getElem?_eq_none (by rw [qb7z];omega)]
  rw [e];exact q
end
abbrev qb0a:Stmt:=inClass (top 10) 0
abbrev qb0b:Stmt:=inClass (top 10) 2
abbrev qa6q:Stmt:=inClass (top 10) 3
theorem sc_init:FnScope ["self","sentence"] ["self","sentence"] (qa0i qb0a):=⟨rfl,rfl,rfl,by decide +kernel,rfl,by decide +kernel,by decide +kernel⟩
theorem sc_hard:FnScope ["self","number","truth"] ["self","number","truth"] (qa0i qb0b):=⟨rfl,rfl,rfl,by decide +kernel,rfl,by decide +kernel,by decide +kernel⟩
theorem qb5h:FnScope ["self","binder","number","truth","turned"] ["self","binder","number","truth"] (qa0i qa6q):=⟨rfl,rfl,rfl,by decide +kernel,rfl,by decide +kernel,by decide +kernel⟩
theorem qa3y{f:Str}{v:V}{n:Nat}:∀ {fs:List (Str × V)},fs.length < n->(putF f v fs).length < n + 1
 | [],h=>by
  show 1 < n + 1
  simp at h;omega
 | (g,y) :: r,h=>by
  rw [List.length_cons] at h
  unfold putF
  split
  ·rw [List.length_cons];omega
  ·rw [List.length_cons]
   have:=qa3y (f:=f) (v:=v) (n:=n - 1) (fs:=r) (by omega)
   omega
structure TxtF(K:W.Frag)(mg:Str->Option Value)(C:Addr):Prop where
 cl:Cls K C
 n1:qa4k K C "things"
 n2:qa4k K C "parts"
 n3:qa4k K C "binders"
 n4:qa4k K C "rooms"
 n5:qa4k K C "nots"
 mgC:mg "Frame" = some (.ref C)
def qb4l(K:W.Frag)(C:Addr):Sp:=fun vs H Q _=>∃ (c:Rc) (O:Own) (ρ:Rho) (σ:St) (x:Sen) (p dx:Addr) (v:V),vs=[.ref p,v]/\PinG K c p (.ins C dx []) O ρ σ H/\AtD K H (live (c.reb O p H) O) x.enc v/\OkS x/\x.size <= 900 /\
 ∀ O' H' fs v1 v3 v5,PinG K c p (.ins C dx fs) O' ρ σ H'->Pers K (live (c.reb O p H) O) H (live (c.reb O' p H') O') H'->fs.lookup ("things" : Str)=some v1->AtD K H' (live (c.reb O' p H') O') (.list (x.all.map Sen.enc)) v1->fs.lookup ("binders" : Str)=some v3->AtD K H' (live (c.reb O' p H') O') (.list (binds x)) v3->fs.lookup ("nots" : Str)=some v5->AtD K H' (live (c.reb O' p H') O') (.list (nots x)) v5->fs.lookup ("hard_binders" : Str)=none->fs.lookup ("is_hard" : Str)=none->Q .non H'
section
variable{P:Program}{w:World}{K:W.Frag}{mg:Str->Option Value}{base:Heap}{n:Nat}
theorem ok_init{f f1 f2 f3 f4 f5 C:Addr}{fd fd1 fd2 fd3 fd4 fd5:FuncData} (F:Fun K "__init__" "Frame.__init__" qb0a f fd) (T:TxtF K mg C) (d_things_of:Def K mg "things_of" qa3s ["sentence"] f1 fd1) (g_things_of:FnOk P w K mg base CX0 n f1 fd1 ["sentence"] (spD K qa8l))
  (d_parts_at:Def K mg "parts_at" qa4w ["sentence"] f2 fd2) (g_parts_at:FnOk P w K mg base CX0 n f2 fd2 ["sentence"] (spD K qa9c)) (d_binders_at:Def K mg "binders_at" qa6e ["sentence"] f3 fd3) (g_binders_at:FnOk P w K mg base CX0 n f3 fd3 ["sentence"] (spD K qb5d))
  (d_rooms_at:Def K mg "rooms_at" qa7w ["sentence"] f4 fd4) (g_rooms_at:FnOk P w K mg base CX0 n f4 fd4 ["sentence"] (spD K qb9n)) (d_nots_at:Def K mg "nots_at" qa9e ["things","parts"] f5 fd5) (g_nots_at:FnOk P w K mg base CX0 n f5 fd5 ["things","parts"] (spD K spNots)) :
  FnOk P w K mg base CX0 (n + 1) f fd ["self","sentence"] (qb4l K C):=by
 refine F.ok sc_init (fun vs H Q E h=>?_) (fun cdv A outer s H vs Q E hr h=>?_)
 ·obtain⟨c,O,ρ,σ,x,p,dx,v,rfl,_⟩:=h
  rfl
 obtain⟨c,O,ρ,σ,x,p,dx,v,rfl,Pn,ax,hx,hsz,k⟩:=h
 refine⟨_,qa1i (qb1h (pv 0) (qa3r d_things_of g_things_of hr rfl (qa0g (pv 1) qa0q)) rfl)
  (qa1i (qb1h (pv 0) (qa3r d_parts_at g_parts_at hr rfl (qa0g (pv 1) qa0q)) rfl)
  (qa1i (qb1h (pv 0) (qa3r d_binders_at g_binders_at hr rfl (qa0g (pv 1) qa0q)) rfl)
  (qa1i (qb1h (pv 0) (qa3r d_rooms_at g_rooms_at hr rfl (qa0g (pv 1) qa0q)) rfl)
  (qa2d (qb1h (pv 0) (qa3r d_nots_at g_nots_at hr rfl (qa0g (qa9m (pv 0) rfl) (qa0g (qa9m (pv 0) rfl) qa0q))) rfl))))),?_⟩
 refine⟨v,rfl,?_⟩
 refine qa7g (ds:=[x.enc]) (vs:=[v]) (Qd:=fun d=>d=.list (x.all.map Sen.enc)) Pn.rel (.cons ax .nil) ⟨x,rfl,hx,hsz,rfl⟩ fun d1 O1 v1 H1 e1 R1 P1 a1=>?_
 subst e1
 refine⟨.ref p,rfl,p,C,dx,[],rfl,Pn.stays R1,T.cl,T.n1,(by decide),?_⟩
 obtain⟨Pa,Qa⟩:=Pn.step (H2:=upd H1 p (.ins C dx (putF "things" v1 []))) R1 (fun b hb=>qa0d hb) qa0e qa5p
 have pa:=P1.trans Qa
 have ax1:=pa _ _ ax
 have a11:=Qa _ _ a1
 refine⟨v,rfl,?_⟩
 refine qa7g (ds:=[x.enc]) (vs:=[v]) (Qd:=fun d=>d=.list (qa2s x)) Pa.rel (.cons ax1 .nil) ⟨x,rfl,hx,hsz,rfl⟩ fun d2 O2 v2 H2 e2 R2 P2 a2=>?_
 subst e2
 refine⟨.ref p,rfl,p,C,dx,_,rfl,Pa.stays R2,T.cl,T.n2,(Nat.lt_of_lt_of_le (qa3y (show(0:Nat) < 1 by decide)) (by decide)),?_⟩
 obtain⟨Pb,Qb⟩:=Pa.step (H2:=upd H2 p (.ins C dx (putF "parts" v2 (putF "things" v1 [])))) R2 (fun b hb=>qa0d hb) qa0e qa5p
 have pb:=P2.trans Qb
 have ax2:=pb _ _ ax1
 have a12:=pb _ _ a11
 have a22:=Qb _ _ a2
 refine⟨v,rfl,?_⟩
 refine qa7g (ds:=[x.enc]) (vs:=[v]) (Qd:=fun d=>d=.list (binds x)) Pb.rel (.cons ax2 .nil) ⟨x,rfl,hx,hsz,rfl⟩ fun d3 O3 v3 H3 e3 R3 P3 a3=>?_
 subst e3
 refine⟨.ref p,rfl,p,C,dx,_,rfl,Pb.stays R3,T.cl,T.n3,(Nat.lt_of_lt_of_le (qa3y (qa3y (show(0:Nat) < 1 by decide))) (by decide)),?_⟩
 obtain⟨Pc,Qc⟩:=Pb.step (H2:=upd H3 p (.ins C dx (putF "binders" v3 (putF "parts" v2 (putF "things" v1 []))))) R3 (fun b hb=>qa0d hb) qa0e qa5p
 have pc:=P3.trans Qc
 have ax3:=pc _ _ ax2
 have a13:=pc _ _ a12
 have a23:=pc _ _ a22
 have a33:=Qc _ _ a3
 refine⟨v,rfl,?_⟩
 refine qa7g (ds:=[x.enc]) (vs:=[v]) (Qd:=fun d=>True) Pc.rel (.cons ax3 .nil) ⟨x,rfl,hx,hsz,trivial⟩ fun d4 O4 v4 H4 _ R4 P4 _=>?_
 refine⟨.ref p,rfl,p,C,dx,_,rfl,Pc.stays R4,T.cl,T.n4,(Nat.lt_of_lt_of_le (qa3y (qa3y (qa3y (show(0:Nat) < 1 by decide)))) (by decide)),?_⟩
 obtain⟨Pd,Qd⟩:=Pc.step (H2:=upd H4 p (.ins C dx (putF "rooms" v4 (putF "binders" v3 (putF "parts" v2 (putF "things" v1 [])))))) R4 (fun b hb=>qa0d hb) qa0e qa5p
 have pd:=P4.trans Qd
 have a14:=pd _ _ a13
 have a24:=pd _ _ a23
 have a34:=pd _ _ a33
 have ne:∀ {a b:Str},(a == b)=false->¬ a=b:=fun h e=>by subst e;simp at h
 have l1:(putF "rooms" v4 (putF "binders" v3 (putF "parts" v2 (putF "things" v1 [])))).lookup ("things" : Str)=some v1:=by
  rw [qa0n,if_neg (by decide +kernel),qa0n,if_neg (by decide +kernel),qa0n,if_neg (by decide +kernel),qa0n,if_pos rfl]
 have l2:(putF "rooms" v4 (putF "binders" v3 (putF "parts" v2 (putF "things" v1 [])))).lookup ("parts" : Str)=some v2:=by
  rw [qa0n,if_neg (by decide +kernel),qa0n,if_neg (by decide +kernel),qa0n,if_pos rfl]
 refine⟨.ref p,rfl,p,C,dx,_,v1,rfl,Pd.at_,T.cl,T.n1,l1,.ref p,rfl,p,C,dx,_,v2,rfl,Pd.at_,T.cl,T.n2,l2,?_⟩
 refine qa7g (ds:=[.list (x.all.map Sen.enc),.list (qa2s x)]) (vs:=[v1,v2]) (Qd:=fun d=>d=.list (nots x)) Pd.rel (.cons a14 (.cons a24 .nil)) ⟨x,rfl,hx,hsz,rfl⟩ fun d5 O5 v5 H5 e5 R5 P5 a5=>?_
 subst e5
 refine⟨.ref p,rfl,p,C,dx,_,rfl,Pd.stays R5,T.cl,T.n5,(Nat.lt_of_lt_of_le (qa3y (qa3y (qa3y (qa3y (show(0:Nat) < 1 by decide))))) (by decide)),?_⟩
 obtain⟨Pe,Qe⟩:=Pd.step (H2:=upd H5 p (.ins C dx (putF "nots" v5 (putF "rooms" v4 (putF "binders" v3 (putF "parts" v2 (putF "things" v1 []))))))) R5 (fun b hb=>qa0d hb) qa0e qa5p
 have pe:=P5.trans Qe
 refine k O5 _ _ v1 v3 v5 Pe ((((pa.trans pb).trans pc).trans pd).trans pe) ?_ (pe _ _ a14) ?_ (pe _ _ a34) ?_ (Qe _ _ a5) ?_ ?_
 ·rw [qa0n,if_neg (by decide +kernel)];exact l1
 ·rw [qa0n,if_neg (by decide +kernel),qa0n,if_neg (by decide +kernel),qa0n,if_pos rfl]
 ·rw [qa0n,if_pos rfl]
 ·rw [qa0n,if_neg (by decide +kernel),qa0n,if_neg (by decide +kernel),qa0n,if_neg (by decide +kernel),qa0n,if_neg (by decide +kernel),qa0n,if_neg (by decide +kernel)];rfl
 ·rw [qa0n,if_neg (by decide +kernel),qa0n,if_neg (by decide +kernel),qa0n,if_neg (by decide +kernel),qa0n,if_neg (by decide +kernel),qa0n,if_neg (by decide +kernel)];rfl
end
noncomputable def qa3i(x:Sen)(b:Nat):Nat:=((x.nts 0)[b]?).getD 0
noncomputable def qa5i(x:Sen)(n:Nat)(t:Bool)(b:Nat):Bool:=(decide ((x.all[b]?).map Sen.word=some "least")) == (t != decide (((qa3i x n:Int) - (qa3i x b:Int)) % 2=1))
theorem qb5i{x:Sen}{b:Nat}(h:b < x.size):atI (nots x) (b:Int)=some (numD (qa3i x b)):=qa1f (by
 unfold nots qa3i
 rw [List.getElem?_map,List.getElem?_eq_getElem (by rw [Sen.nts_length];exact h)];rfl)
def qb2p(K:W.Frag)(C:Addr):Sp:=fun vs H Q _=>∃ (S:Addr->Prop) (x:Sen) (p dx:Addr) (fs:List (Str × V)) (v1 v5:V) (b n:Nat) (t:Bool),vs=[.ref p,.int (b:Int),.int (n:Int),.bl t]/\H p=some (.ins C dx fs)/\fs.lookup ("things" : Str)=some v1/\AtD K H S (.list (x.all.map Sen.enc)) v1 /\
 fs.lookup ("nots" : Str)=some v5/\AtD K H S (.list (nots x)) v5/\b < x.size/\n < x.size/\Q (.bl (qa5i x n t b)) H
def qb3k(K:W.Frag)(C:Addr):Sp:=fun vs H Q _=>∃ (S:Addr->Prop) (x:Sen) (p dx:Addr) (fs:List (Str × V)) (v1 v3 v5:V) (n:Nat) (t:Bool) (l:List Nat),vs=[.ref p,.int (n:Int),.bl t]/\H p=some (.ins C dx fs)/\fs.lookup ("things" : Str)=some v1/\AtD K H S (.list (x.all.map Sen.enc)) v1 /\
 fs.lookup ("binders" : Str)=some v3/\AtD K H S (.list (binds x)) v3/\fs.lookup ("nots" : Str)=some v5/\AtD K H S (.list (nots x)) v5/\fs.lookup ("is_hard" : Str)=none/\n < x.size/\(x.bnd 0 [])[n]? = some l/\(∀ b ∈ l,b < x.size)/\l.length <= 900 /\
 ∀ H' q,Same H H'->H' q=some (.tup (l.map fun b=>V.bl (qa5i x n t b)))->Q (.ref q) H'
section
variable{P:Program}{w:World}{K:W.Frag}{mg:Str->Option Value}{base:Heap}{n:Nat}
theorem qc2x{f C:Addr}{fd:FuncData} (F:Fun K "is_hard" "Frame.is_hard" qa6q f fd) (T:TxtF K mg C):FnOk P w K mg base CX0 (n + 1) f fd ["self","binder","number","truth"] (qb2p K C):=by
 refine F.ok qb5h (fun vs H Q E h=>?_) (fun cdv A outer s H vs Q E hr h=>?_)
 ·obtain⟨S,x,p,dx,fs,v1,v5,b,n,t,rfl,_⟩:=h
  rfl
 obtain⟨S,x,p,dx,fs,v1,v5,b,n,t,rfl,hp,l1,a1,l5,a5,hb,hn,k⟩:=h
 refine⟨_,qa1i (qa2v (i:=4) qb5h.nd rfl (Or.inl rfl) (qa9l qa5r (qa1z qa8e (qa1z qa4b (qa3m qa5u (qa9m (pv 0) rfl) (pv 2) (fun _ _=>rfl)) (qa3m qa5u (qa9m (pv 0) rfl) (pv 1) (fun _ _=>rfl))) qa0w) qa0w (qa0j _)))
  (qa2d (qa5a (qa9l qa5r (qa9l qa5r (qa3m qa5u (qa3m qa5u (qa9m (pv 0) rfl) (pv 1) (fun _ _=>rfl)) qa0w (fun _ _=>rfl)) qa2o (qa0j _)) (qa9l op_ne (pv 3) (pv 4) (qa0j _)) (qa0j _)))),?_⟩
 obtain⟨y,hy,_⟩:=Sen.mem_all_get hb
 obtain⟨r,er⟩:=qb0x y
 refine⟨_,rfl,p,C,dx,fs,v5,rfl,hp,T.cl,T.n5,l5,_,rfl,S,_,_,_,.inr a5,rfl,qb5i hn,fun v av=>?_⟩
 have e1:=qa4d av
 subst e1
 refine⟨_,rfl,p,C,dx,fs,v5,rfl,hp,T.cl,T.n5,l5,_,rfl,S,_,_,_,.inr a5,rfl,qb5i hb,fun v' av'=>?_⟩
 have e2:=qa4d av'
 subst e2
 refine⟨_,_,rfl,rfl,_,_,rfl,rfl,(show(0:Int) < 2 by decide),rfl,?_⟩
 refine⟨_,rfl,p,C,dx,fs,v1,rfl,hp,T.cl,T.n1,l1,_,rfl,S,_,_,_,.inr a1,rfl,qb5c hy,fun v av=>?_⟩
 rw [er] at av
 refine⟨S,_,0,.str y.word,.inl av,rfl,atI_0,fun v' av'=>?_⟩
 rw [qa5t av']
 refine⟨rfl,_,rfl,_,rfl,rfl,rfl,?_⟩
 have e:decide (V.bl (decide (V.str y.word=V.str "least"))=V.bl (!decide (V.bl t=V.bl (decide (V.int (((qa3i x n:Int) - (qa3i x b:Int)) % 2)=V.int 1)))))=qa5i x n t b:=by
  unfold qa5i
  rw [hy]
  have d1:decide (V.str y.word=V.str "least")=decide ((some y).map Sen.word=some "least"):=by
   rw [decide_eq_decide];exact⟨fun z=>congrArg some (V.str.inj z),fun z=>congrArg V.str (Option.some.inj z)⟩
  have d2:decide (V.int (((qa3i x n:Int) - (qa3i x b:Int)) % 2)=V.int 1)=decide (((qa3i x n:Int) - (qa3i x b:Int)) % 2=1):=by
   rw [decide_eq_decide];exact⟨fun z=>V.int.inj z,fun z=>congrArg V.int z⟩
  rw [d1,d2]
  generalize decide ((some y).map Sen.word=some "least")=u
  generalize decide (((qa3i x n:Int) - (qa3i x b:Int)) % 2=1)=v
  cases u<;>cases v<;>cases t<;>rfl
 rw [← e] at k
 exact k
theorem ok_hard{f fH C:Addr}{fd fdH:FuncData} (F:Fun K "hard_binders" "Frame.hard_binders" qb0b f fd) (B:Bl mg) (T:TxtF K mg C) (mH:Meth K C "is_hard" fH) (bH:Binds K fdH ["self","binder","number","truth"] []) (GH:FnOk P w K mg base CX0 n fH fdH ["self","binder","number","truth"] (qb2p K C)):FnOk P w K mg base CX0 (n + 1) f fd ["self","number","truth"] (qb3k K C):=by
 refine F.ok sc_hard (fun vs H Q E h=>?_) (fun cdv A outer s H vs Q E hr h=>?_)
 ·obtain⟨S,x,p,dx,fs,v1,v3,v5,n,t,l,rfl,_⟩:=h
  rfl
 obtain⟨S,x,p,dx,fs,v1,v3,v5,n,t,l,rfl,hp,l1,a1,l3,a3,l5,a5,li,hn,hl,hall,hz,k⟩:=h
 refine⟨_,qa2d (qa5a (qb4t qa7m rfl B.tuple_ qa3z (qa0g (qb3x (own:=["binder"]) (cap:=[("self",0),("number",1),("truth",2)]) rfl (by rfl) (by decide +kernel) (qb2x (qa3m qa5u (qa9m (pv 0) rfl) (pv 1) (fun _ _=>rfl)))
   (fun _ _ _=>qa6i (i:=0) (show(["binder","self","number","truth"]:List Str).Nodup by decide +kernel) rfl (Or.inl rfl))
   (fun _ _ _=>qb3w)
   (fun _ _ _=>qb8k (pv 1) T.cl mH GH hr bH .nil pass0 (qa0g (pv 0) (qa0g (pv 2) (qa0g (pv 3) qa0q))))) qa0q))),?_⟩
 have hb:atI (binds x) (n:Int)=some (encB l):=qa1f (by unfold binds;rw [List.getElem?_map,hl];rfl)
 refine⟨_,rfl,p,C,dx,fs,v3,rfl,hp,T.cl,T.n3,l3,_,rfl,S,_,_,_,.inr a3,rfl,hb,fun vb avb=>?_⟩
 obtain⟨a,xs,rfl,q,ta⟩:=qa3e avb
 have ex:xs=l.map fun(c:Nat)=>V.int (c:Int):=by
  have e:l.map numD=(l.map fun(c:Nat)=>(c:Int)).map PyData.int:=by rw [List.map_map];rfl
  rw [e] at ta
  rw [ints_of_all ta,List.map_map];rfl
 subst ex
 refine .inl ⟨a,rfl,⟨_,q⟩,fun D hD=>qb1k (qc3q (xs:=l.map fun(c:Nat)=>V.int (c:Int)) (fun i σ' H'=>∃ v0,σ'=[v0,some (.ref p),some (.int (n:Int)),some (.bl t)]/\Same H H'/\H' D=some (.lst ((l.take i).map fun b=>V.bl (qa5i x n t b)))) ⟨none,rfl,qa0t hD _,qa0e⟩ (fun i σ' H' _ hq8=>by obtain⟨_,_,s',_⟩:=hq8;exact s'.seqT q) ?_ ?_)⟩
 ·rintro i y σ' H' hy ⟨v0,rfl,s',hD'⟩
  rw [List.getElem?_map] at hy
  obtain⟨c,hc,rfl⟩:=Option.map_eq_some_iff.mp hy
  have hcl:i < l.length:=(List.getElem?_eq_some_iff.mp hc).1
  dsimp only [qa3l,tYes]
  rw [if_pos rfl]
  refine⟨_,rfl,p,dx,fs,rfl,s' _ _ hp,li,_,rfl,_,rfl,_,rfl,?_⟩
  refine⟨S,x,p,dx,fs,v1,v5,c,n,t,rfl,s' _ _ hp,l1,AtD.mono s'.keep _ _ a1,l5,AtD.mono s'.keep _ _ a5,hall c (List.mem_of_getElem? hc),hn,?_⟩
  refine⟨_,hD',?_,_,rfl,fun b o e=>?_,?_⟩
  ·rw [List.length_map]
   have h2:=List.length_take_le i l
   exact qa3a (by omega)
  ·rw [qa0d (qa0z e hD)];exact s' _ _ e
  ·rw [qa0e,List.take_add_one,hc,Option.toList_some,List.map_append];rfl
 ·rintro σ' H' ⟨v0,rfl,s',hD'⟩
  rw [List.length_map,List.take_length] at hD'
  exact⟨D,_,rfl,.inl ⟨SqL.of hD',fun l' hl'=>k _ l' (fun b o h=>qa0t hl' _ _ _ (s' _ _ h)) qa0e⟩⟩
end
def qb7e:DSp:=fun ls Q=>∃ (x:Sen) (i:Nat) (t:Bool) (l:List Nat),ls=[.d x.enc,.d (numD i),.d (.bool t)]/\OkS x/\x.size <= 900/\i < x.size/\(x.bnd 0 [])[i]? = some l/\(∀ b ∈ l,b < x.size)/\Q (.d (.tuple (l.map fun b=>.bool (qa5i x i t b)))) [none,none,none]
def dHardAt:TDE:=fun ρ Q=>∃ (x:Sen) (i:Nat) (t:Bool) (l:List Nat),ρ=[some (.d x.enc),some (.d (numD i)),some (.d (.bool t))]/\OkS x/\x.size <= 900/\i < x.size/\(x.bnd 0 [])[i]? = some l/\(∀ b ∈ l,b < x.size)/\Q (.d (.tuple (l.map fun b=>.bool (qa5i x i t b)))) ρ
theorem qb7f{K:W.Frag}{H:Hp}{S:Addr->Prop}(g:Nat->Bool):∀ l:List Nat,qa0b K H S (l.map fun b=>.bool (g b)) (l.map fun b=>V.bl (g b))
 | []=>.nil
 | _ :: l=>.cons (qa2t _) (qb7f g l)
theorem qc2y{K:W.Frag}{C:Addr}:AdE K (tMeth C "hard_binders" (qb3k K C) [] E0 (tMake C (qb4l K C) [] E0 (qa2z (tVar 0) tNil)) (qa2z (tVar 1) (qa2z (tVar 2) tNil))) dHardAt:=by
 intro c O ρ σ H Qd Q R h k
 obtain⟨x,i,t,l,rfl,hx,hsz,hi,hl,hall,hq⟩:=h
 obtain⟨v,hv,av⟩:=R.dat 0 _ rfl
 obtain⟨vi,hvi,avi⟩:=R.dat 1 _ rfl
 obtain⟨vt,hvt,avt⟩:=R.dat 2 _ rfl
 have evi:=qa4d avi
 subst evi
 have evt:=qa4s avt
 subst evt
 refine⟨v,hv,fun p dx hp hdx hne=>?_⟩
 obtain⟨R0,P0⟩:=R.lay (o:=.own p) hdx
 obtain⟨R1,P1⟩:=R0.unadd
 have hp':(upd H dx (.own p)) p=none:=by rw [qa0d (Ne.symm hne)];exact hp
 obtain⟨Pn,Qn⟩:=PinG.start (p:=p) (o:=.ins C dx []) R1 hp' qa5p
 have ch:=(P0.trans P1).trans Qn
 have hz:=qa5q x 0 [] l (List.mem_of_getElem? hl)
 refine⟨c,O,_,σ,x,p,dx,v,rfl,Pn,ch _ _ av,hx,hsz,fun O' H' fs v1 v3 v5 P' Q' l1 a1 l3 a3 l5 a5 lh li=>⟨rfl,?_⟩⟩
 refine⟨p,dx,fs,rfl,P'.at_,lh,_,hvi,_,hvt,?_⟩
 refine⟨_,x,p,dx,fs,v1,v3,v5,i,t,l,rfl,P'.at_,l1,a1,l3,a3,l5,a5,li,hi,hl,hall,by simp at hz;omega,fun H3 q3 s3 h3=>?_⟩
 obtain⟨R2,P2⟩:=P'.finish
 exact k _ _ O' (.ref q3) H3 hq (R2.grow s3) (((ch.trans Q').trans P2).trans (.same s3)) (show AtD K H3 (live c O') (.tuple (l.map fun b=>.bool (qa5i x i t b))) (.ref q3) from qa3j (SqT.of h3) (qb7f _ l))
section
variable{P:Program}{w:World}{K:W.Frag}{mg:Str->Option Value}{base:Heap}{n:Nat}
abbrev qa9f:Stmt:=top 13
theorem qc0t:FnScope ["sentence","number","truth"] ["sentence","number","truth"] (qa0i qa9f):=⟨rfl,rfl,rfl,by decide +kernel,rfl,by decide +kernel,by decide +kernel⟩
theorem qc0u{f fI fW C:Addr}{fd fdI fdW:FuncData} (F:Fun K "hard_at" "hard_at" qa9f f fd) (B:Bl mg) (T:TxtF K mg C) (M:Mk K C fI) (bI:Binds K fdI ["self","sentence"] []) (GI:FnOk P w K mg base CX0 n fI fdI ["self","sentence"] (qb4l K C))
  (mW:Meth K C "hard_binders" fW) (bW:Binds K fdW ["self","number","truth"] []) (GW:FnOk P w K mg base CX0 (n + 1) fW fdW ["self","number","truth"] (qb3k K C)):FnOk P w K mg base CX0 (n + 1 + 1) f fd ["sentence","number","truth"] (spD K qb7e):=by
 refine F.dok qc0t (fun cdv A outer s H E hr ls Qd h=>?_) (fun ls Qd hq8=>by obtain⟨x,_,_,_,e,_⟩:=hq8;rw [e];rfl)
 obtain⟨x,i,t,l,rfl,hx,hsz,hi,hl,hall,q⟩:=h
 refine⟨rfl,?_⟩
 refine⟨_,qa0h (qa0x ⟨_,qb8k (pe_make M GI hr rfl T.mgC bI .nil pass0 (qa0g (pv 0) qa0q)) T.cl mW GW hr bW .nil pass0 (qa0g (pv 1) (qa0g (pv 2) qa0q)),qc2y⟩),?_⟩
 refine⟨x,i,t,l,rfl,hx,hsz,hi,hl,hall,?_⟩
 exact q
end
theorem usS{α:Type}{us:List α}{n:Nat}(h:us.length=n + 1):∃ a r,us=a :: r/\r.length=n:=by
 cases us with
 | nil=>cases h
 | cons a r=>exact⟨a,r,rfl,Nat.succ.inj h⟩
theorem qc2z{P:Program}{w:World}{K:W.Frag}{mg:Str->Option Value}{base:Heap}{n:Nat}{f:Addr}{fd:FuncData}{ps:List Str}:FnOk P w K mg base CX0 n f fd ps (qa8o K 0):=by
 have no:∀ vs H Q E,¬ qa8o K 0 vs H Q E:=fun vs H Q E z=>by
  obtain⟨_,x,_,_,_,_,_,_,_,_,_,hs,_⟩:=z
  have:=x.size_pos
  omega
 exact⟨fun vs H Q E h=>absurd h (no vs H Q E),fun A outer s H args us vs Q E _ _ _ _ h=>absurd h (no vs H Q E)⟩
noncomputable def bls(bs:List Bool):List PyData:=bs.map .bool
theorem qc0v(xs:List PyData):fIn true (.bool false) (.list (xs.filterMap fun _=>some (.bool true)))=some (.bool true):=by
 have h1:(xs.filterMap fun _=>some (PyData.bool true)).all qa1d=true:=by
  rw [List.all_eq_true]
  intro y hy
  obtain⟨_,_,e⟩:=List.mem_filterMap.mp hy
  cases e;rfl
 have h2:inF (.bool false) (xs.filterMap fun _=>some (PyData.bool true))=false:=by
  unfold inF
  rw [List.any_eq_false]
  intro y hy
  obtain⟨_,_,e⟩:=List.mem_filterMap.mp hy
  cases e;decide
 rw [fIn_fl (by rw [h1];rfl),h2]
 rfl
def spAl(m:Nat):DSp:=fun ls Q=>(∃ b:Bool,1 <= m/\ls=[.d (.bool b),.d (.bool b)]/\Q (.d (.bool true)) [none,none]) ∨ ∃ bs:List Bool,2 <= m/\ls=[.d (.tuple (bls bs)),.d (.tuple (bls bs))]/\bs.length <= 900/\Q (.d (.bool true)) [none,none]
section
variable{P:Program}{w:World}{K:W.Frag}{mg:Str->Option Value}{base:Heap}{n:Nat}
abbrev qa5g:Stmt:=top 22
theorem qb7g:FnScope ["_law_found","_law_due"] ["_law_found","_law_due"] (qa0i qa5g):=⟨rfl,rfl,rfl,by decide +kernel,rfl,by decide +kernel,by decide +kernel⟩
theorem qc5x{f f1:Addr}{fd fd1:FuncData}{m:Nat} (F:Fun K "_law_alike" "_law_alike" qa5g f fd) (B:Bl mg) (qa3u:Def K mg "_law_alike" qa5g ["_law_found","_law_due"] f1 fd1) (qa6v:FnOk P w K mg base CX0 n f1 fd1 ["_law_found","_law_due"] (spD K (spAl m))):FnOk P w K mg base CX0 (n + 1) f fd ["_law_found","_law_due"] (spD K (spAl (m + 1))):=by
 refine F.dok qb7g (fun cdv A outer s H E hr ls Qd h=>?_) (fun ls Qd h=>by rcases h with⟨_,_,e,_⟩ | ⟨_,_,e,_⟩<;>(rw [e];rfl))
 rcases h with⟨b,_,rfl,q⟩ | ⟨bs,hm,rfl,hl,q⟩
 ·refine⟨rfl,?_⟩
  refine⟨_,(qa0f (qa2r (qa5b (de_is2 rfl B.isinstance_ rfl B.tuple_ qa3z rfl rfl B.list_ qa7y rfl (dv 1)))
   (qa0f (qa2r (DW.toT (qa8x (qa1k (qa9x hr.units) qa9w (qa2j rfl B.isinstance_ rfl B.tuple_ qa3z rfl (dv 1)) (qa2j rfl B.isinstance_ rfl B.tuple_ qa3z rfl (dv 0)) (qa0j _)) (qa7e (qa1k (qa9x hr.units) qa9w (qa2j rfl B.isinstance_ rfl B.list_ qa7y rfl (dv 1)) (qa2j rfl B.isinstance_ rfl B.list_ qa7y rfl (dv 0)) (qa0j _)))))
   (qa0h (qa0x qa7p))
   qa1m)
   (qa0h (qa0x (qa4f (qa2k (qa2x hr.units) qa2w (qa1o qa0v qa2q rfl B.len_ qa1j (qa0a (dv 0) qa0c)) (qa1o qa0v qa2q rfl B.len_ qa1j (qa0a (dv 1) qa0c)) (qa0j _)) (qa5c (qa2k qb2b ad_in qa7p (qa2b (qb4c ["_law_k"] [("_law_found",0),("_law_due",1)] rfl (by rfl) (by decide +kernel) (qa8y rfl B.range_ (qa1o qa0v qa2q rfl B.len_ qa1j (qa0a (dv 1) qa0c))) (fun _ _ _=>(qa1h (i:=0) (show(["_law_k","_law_found","_law_due"]:List Str).Nodup by decide +kernel) rfl (Or.inl rfl))) (fun _ _ _=>qb1w) (fun _ _ _=>(qa0l [false,false] qa3u qa6v hr rfl (qa0a (qa1b qa0s qa1c (dv 1) (dv 0) (fun _ _=>rfl)) (qa0a (qa1b qa0s qa1c (dv 2) (dv 0) (fun _ _=>rfl)) qa0c)))))) (by rfl)))))))
   qa1m)
   (qa0f (qa2r (DW.toT (qa8x (qa1k qa6z qa7h (dv 1) qa7d (qa0j _)) (qa7e (qa1k qa6z qa7h (dv 0) qa7d (qa0j _)))))
   (qa0h (qa0x (qa4f (qa2k qa6z qa7h (dv 1) qa7d (qa0j _)) (qa5c (qa2k qa6z qa7h (dv 0) qa7d (qa0j _))))))
   qa1m)
   (qa0f (qa2r (DW.toT (qa8x (qa5b (qa2j rfl B.isinstance_ rfl B.bool_ qa5n rfl (dv 1))) (qa7e (qa5b (qa2j rfl B.isinstance_ rfl B.bool_ qa5n rfl (dv 0))))))
   (qa0h (qa0x (qa4f (qa2j rfl B.isinstance_ rfl B.bool_ qa5n rfl (dv 1)) (qa4f (qa2j rfl B.isinstance_ rfl B.bool_ qa5n rfl (dv 0)) (qa5c (qa2k (qa2x hr.units) qa2w (dv 1) (dv 0) (qa0j _)))))))
   qa1m)
   (qa0f (qa2r (qa5b (qa2j rfl B.isinstance_ rfl B.int_ qb2w rfl (dv 1)))
   (qa0h (qa0x (qa4f (qa2j rfl B.isinstance_ rfl B.int_ qb2w rfl (dv 0)) (qa5c (qa2k (qa2x hr.units) qa2w (dv 1) (dv 0) (qa0j _))))))
   qa1m)
   (qa0h (qa0x (qa4f (qa2j rfl B.isinstance_ rfl B.str_ bt_str rfl (dv 0)) (qa5c (qa2k (qa2x hr.units) qa2w (dv 1) (dv 0) (qa0j _)))))))))),?_⟩
  walk_at "dk"
  rw [show(isD "tuple" (PyData.bool b) || isD "list" (PyData.bool b))=false from rfl]
  walk_at "dk"
  rw [show fIsN (PyData.bool b) PyData.none=some (.bool false) from rfl]
  walk_at "dk"
  rw [show isD "bool" (PyData.bool b)=true from rfl]
  walk_at "dk"
  exact q
 ·refine⟨rfl,?_⟩
  refine⟨_,(qa0f (qa2r (qa5b (de_is2 rfl B.isinstance_ rfl B.tuple_ qa3z rfl rfl B.list_ qa7y rfl (dv 1)))
   (qa0f (qa2r (DW.toT (qa8x (qa1k (qa9x hr.units) qa9w (qa2j rfl B.isinstance_ rfl B.tuple_ qa3z rfl (dv 1)) (qa2j rfl B.isinstance_ rfl B.tuple_ qa3z rfl (dv 0)) (qa0j _)) (qa7e (qa1k (qa9x hr.units) qa9w (qa2j rfl B.isinstance_ rfl B.list_ qa7y rfl (dv 1)) (qa2j rfl B.isinstance_ rfl B.list_ qa7y rfl (dv 0)) (qa0j _)))))
   (qa0h (qa0x qa7p))
   qa1m)
   (qa0h (qa0x (qa4f (qa2k (qa2x hr.units) qa2w (qa1o qa0v qa2q rfl B.len_ qa1j (qa0a (dv 0) qa0c)) (qa1o qa0v qa2q rfl B.len_ qa1j (qa0a (dv 1) qa0c)) (qa0j _)) (qa5c (qa2k qb2b ad_in qa7p (qa2b (qb4c ["_law_k"] [("_law_found",0),("_law_due",1)] rfl (by rfl) (by decide +kernel) (qa8y rfl B.range_ (qa1o qa0v qa2q rfl B.len_ qa1j (qa0a (dv 1) qa0c))) (fun _ _ _=>(qa1h (i:=0) (show(["_law_k","_law_found","_law_due"]:List Str).Nodup by decide +kernel) rfl (Or.inl rfl))) (fun _ _ _=>qb1w) (fun _ _ _=>(qa0l [false,false] qa3u qa6v hr rfl (qa0a (qa1b qa0s qa1c (dv 1) (dv 0) (fun _ _=>rfl)) (qa0a (qa1b qa0s qa1c (dv 2) (dv 0) (fun _ _=>rfl)) qa0c)))))) (by rfl)))))))
   qa1m)
   (qa0f (qa2r (DW.toT (qa8x (qa1k qa6z qa7h (dv 1) qa7d (qa0j _)) (qa7e (qa1k qa6z qa7h (dv 0) qa7d (qa0j _)))))
   (qa0h (qa0x (qa4f (qa2k qa6z qa7h (dv 1) qa7d (qa0j _)) (qa5c (qa2k qa6z qa7h (dv 0) qa7d (qa0j _))))))
   qa1m)
   (qa0f (qa2r (DW.toT (qa8x (qa5b (qa2j rfl B.isinstance_ rfl B.bool_ qa5n rfl (dv 1))) (qa7e (qa5b (qa2j rfl B.isinstance_ rfl B.bool_ qa5n rfl (dv 0))))))
   (qa0h (qa0x (qa4f (qa2j rfl B.isinstance_ rfl B.bool_ qa5n rfl (dv 1)) (qa4f (qa2j rfl B.isinstance_ rfl B.bool_ qa5n rfl (dv 0)) (qa5c (qa2k (qa2x hr.units) qa2w (dv 1) (dv 0) (qa0j _)))))))
   qa1m)
   (qa0f (qa2r (qa5b (qa2j rfl B.isinstance_ rfl B.int_ qb2w rfl (dv 1)))
   (qa0h (qa0x (qa4f (qa2j rfl B.isinstance_ rfl B.int_ qb2w rfl (dv 0)) (qa5c (qa2k (qa2x hr.units) qa2w (dv 1) (dv 0) (qa0j _))))))
   qa1m)
   (qa0h (qa0x (qa4f (qa2j rfl B.isinstance_ rfl B.str_ bt_str rfl (dv 0)) (qa5c (qa2k (qa2x hr.units) qa2w (dv 1) (dv 0) (qa0j _)))))))))),?_⟩
  walk_at "dk"
  rw [show(isD "tuple" (PyData.tuple (bls bs)) || isD "list" (PyData.tuple (bls bs)))=true from rfl]
  walk_at "dk"
  have lb:(bls bs).length=bs.length:=List.length_map _
  refine⟨?_,?_,?_⟩
  ·have e62:(2:Int) ^ 62=4611686018427387904:=by decide
   rw [lb];exact⟨by rw [e62];omega,by rw [e62];omega⟩
  ·rw [lb];simp [rngD];omega
  refine L2.qb0n (fun ρ=>∃ v0:Option L,ρ=[v0,some (L.d (PyData.tuple (bls bs))),some (L.d (PyData.tuple (bls bs)))]) (fun _=>some (.bool true)) ⟨_,rfl⟩ ?_ ?_
  ·rintro y ρ N hy ⟨v0,rfl⟩ hN
   obtain⟨j,hj,rfl⟩:=List.mem_map.mp hy
   have hj':j < bs.length:=by
    have:=List.mem_range.mp hj
    rw [lb] at this;omega
   have e1:atI (bls bs) (0 + (j:Int))=some (.bool bs[j]):=by
    rw [Int.zero_add]
    exact qa1f (by unfold bls;rw [List.getElem?_map,List.getElem?_eq_getElem hj'];rfl)
   walk_at "dd"
   rw [e1]
   walk_at "dd"
   refine .inl ⟨_,by omega,rfl,?_⟩
   walk_at "dd"
   exact hN _ ⟨_,rfl⟩
  ·rintro ρ ⟨v0,rfl⟩
   rw [qc0v]
   walk_at "dd"
   exact q
end
theorem qc5y{y:Sen}{O:List (Nat × Bool)}{pd rd hd:PyData}:fGetA (entD y O pd rd hd) (.str "word")=some (.str y.word):=by
 show getA _ (Sum.inr "word")=_
 unfold getA
 exact if_pos rfl
theorem qc0w{y:Sen}{O:List (Nat × Bool)}{pd rd hd:PyData}:fGetA (entD y O pd rd hd) (.str "around")=some (.list (encO O)):=by
 show getA _ (Sum.inr "around")=_
 unfold getA
 rw [if_neg (show ¬ (qb0r (.str "word")=some (Sum.inr ("around" : Str))) by decide +kernel)]
 unfold getA
 rw [if_neg (show ¬ (qb0r (.str "s")=some (Sum.inr ("around" : Str))) by decide +kernel)]
 unfold getA
 rw [if_neg (show ¬ (qb0r (.str "parts")=some (Sum.inr ("around" : Str))) by decide +kernel)]
 unfold getA
 exact if_pos rfl
noncomputable def qa6w(x:Sen)(t:Bool)(p:Nat × Bool):Bool:=(decide ((x.all[p.1]?).map Sen.word=some "least")) == (t != p.2)
noncomputable def rowH(x:Sen)(t:Bool):PyData->Option PyData
 | .tuple [.int b,.bool o]=>some (.bool (qa6w x t (b.toNat,o)))
 | _=>none
theorem qb9o{x:Sen}{t:Bool}{b:Nat}{o:Bool}:rowH x t (.tuple [numD b,.bool o])=some (.bool (qa6w x t (b,o))):=by
 show some (PyData.bool (qa6w x t (((b:Int)).toNat,o)))=_
 rw [Int.toNat_natCast]
theorem qb7h{x:Sen}{t:Bool}:∀ O:List (Nat × Bool),(encO O).filterMap (rowH x t)=O.map fun p=>.bool (qa6w x t p)
 | []=>rfl
 | (b,o) :: O=>by
  show(PyData.tuple [numD b,.bool o] :: encO O).filterMap (rowH x t)=_
  rw [List.filterMap_cons,qb9o,qb7h O];rfl
def qb9p:DSp:=fun ls Q=>∃ (x y:Sen) (ds:List PyData) (i:Nat) (t:Bool) (O:List (Nat × Bool)),ls=[.d (.list ds),.d (numD i),.d (.bool t)]/\TabD x ds/\(Sen.walkR x [] 0)[i]? = some (O,y)/\O.length <= 900/\(∀ p ∈ O,p.1 < x.size)/\Q (.d (.list (O.map fun p=>.bool (qa6w x t p)))) [none,none,none]
section
variable{P:Program}{w:World}{K:W.Frag}{mg:Str->Option Value}{base:Heap}{n:Nat}
abbrev qa6x:Stmt:=top 24
theorem qb7i:FnScope ["_law_table","_law_number","_law_truth"] ["_law_table","_law_number","_law_truth"] (qa0i qa6x):=⟨rfl,rfl,rfl,by decide +kernel,rfl,by decide +kernel,by decide +kernel⟩
theorem qc5z{f:Addr}{fd:FuncData} (F:Fun K "_law_hards" "_law_hards" qa6x f fd) (B:Bl mg):FnOk P w K mg base CX0 (n + 1) f fd ["_law_table","_law_number","_law_truth"] (spD K qb9p):=by
 refine F.dok qb7i (fun cdv A outer s H E hr ls Qd h=>?_) (fun ls Qd hq8=>by obtain⟨_,_,_,_,_,_,e,_⟩:=hq8;rw [e];rfl)
 obtain⟨x,y,ds,i,t,O,rfl,T,hO,hl,hin,q⟩:=h
 refine⟨rfl,?_⟩
 refine⟨_,(qa0h (qa0x (qa2b (qb4c ["_law_binder","_law_odd"] [("_law_table",0),("_law_truth",2)] rfl (by rfl) (by decide +kernel) (qa8i (qb9i hr.units (qa1b qa0s qa1c (dv 0) (dv 1) (fun _ _=>rfl)) qa0m (fun _ _=>rfl))) (fun _ _ _=>(qa9v (n:=2) rfl (qa2u (qa1h (i:=0) (show(["_law_binder","_law_odd","_law_table","_law_truth"]:List Str).Nodup by decide +kernel) rfl (Or.inl rfl)) (qa2u (qa1h (i:=1) (show(["_law_binder","_law_odd","_law_table","_law_truth"]:List Str).Nodup by decide +kernel) rfl (Or.inl rfl)) qa8b)))) (fun _ _ _=>qb1w) (fun _ _ _=>(qa2k (qa2x hr.units) qa2w (qa2k (qa2x hr.units) qa2w (qb9i hr.units (qa1b qa0s qa1c (dv 2) (dv 0) (fun _ _=>rfl)) qa0m (fun _ _=>rfl)) qa0m (qa0j _)) (qa2k (qa9x hr.units) qa9w (dv 3) (dv 1) (qa0j _)) (qa0j _))))))),?_⟩
 obtain⟨pd,rd,hd,ei⟩:=T.2 i O y hO
 have e1:atI ds (i:Int)=some (entD y O pd rd hd):=qa1f ei
 walk_at "dd"
 rw [e1]
 walk_at "dd"
 rw [qc0w]
 walk_at "dd"
 refine⟨by rw [qa8n];omega,L2.qb0n (fun ρ=>∃ a b:Option L,ρ=[a,b,some (L.d (PyData.list ds)),some (L.d (PyData.bool t))]) (rowH x t) ⟨_,_,rfl⟩ ?_ ?_⟩
 ·rintro z ρ N hz ⟨a,b,rfl⟩ hN
  obtain⟨⟨b,o⟩,hbo,rfl⟩:=List.mem_map.mp hz
  have hb:=hin _ hbo
  obtain⟨⟨O',y'⟩,hy'⟩:∃ r,(Sen.walkR x [] 0)[b]? = some r:=⟨_,List.getElem?_eq_getElem (by rw [Sen.walkR_length];exact hb)⟩
  obtain⟨pd',rd',hd',eb⟩:=T.2 b O' y' hy'
  have ex:x.all[b]? = some y':=by rw [← Sen.walkR_snd x [] 0,List.getElem?_map,hy'];rfl
  have eb1:atI ds (b:Int)=some (entD y' O' pd' rd' hd'):=qa1f eb
  have hN':=hN [some (.d (numD b)),some (.d (.bool o)),some (L.d (PyData.list ds)),some (L.d (PyData.bool t))] ⟨_,_,rfl⟩
  rw [qb9o] at hN'
  walk_at "dd"
  rw [eb1]
  walk_at "dd"
  rw [qc5y]
  walk_at "dd"
  have e:decide (decide (y'.word = "least") = !decide (t=o))=qa6w x t (b,o):=by
   unfold qa6w
   rw [ex]
   have d1:decide (y'.word = "least")=decide ((some y').map Sen.word=some "least"):=by
    rw [decide_eq_decide];exact⟨fun z=>congrArg some z,fun z=>Option.some.inj z⟩
   rw [d1]
   generalize decide ((some y').map Sen.word=some "least")=u
   cases u<;>cases t<;>cases o<;>rfl
  rw [e]
  exact hN'
 ·rintro ρ ⟨a,b,rfl⟩
  rw [qb7h]
  exact q
end
theorem qb3l:∀ {x:Sen},OkS x->x.noTwo
 | .leaf _ _,_=>trivial
 | .one _ _ s,h=>qb3l (x:=s) h.2.2.2
 | .two w pre s t,h=>⟨by rcases h.1 with rfl | rfl | rfl<;>decide,qb3l (x:=s) h.2.2.2.1,qb3l (x:=t) h.2.2.2.2⟩
theorem qc6a(O:List (Nat × Bool)):(Sen.flipAll O).map (·.1)=O.map (·.1):=by unfold Sen.flipAll;rw [List.map_map];rfl
theorem qa9g:∀ (s:Sen) (O:List (Nat × Bool)) (n:Nat),OkS s->((Sen.walkR s O n).map fun r=>r.1.map (·.1))=Sen.bnd s n (O.map (·.1))
 | .leaf w a,O,n,_=>rfl
 | .one w pre s,O,n,h=>by
  have e:(Sen.nextO w O n).map (·.1)=Sen.inB (.one w pre s) n (O.map (·.1)):=by
   rcases h.1 with rfl | rfl | rfl | rfl | rfl
   ·exact qc6a O
   ·rfl
   ·rfl
   ·show(O ++ [(n,false)]).map (·.1)=_
    rw [List.map_append];rfl
   ·show(O ++ [(n,false)]).map (·.1)=_
    rw [List.map_append];rfl
  rw [Sen.walkR,Sen.bnd,List.map_cons,qa9g s _ _ h.2.2.2,e]
 | .two w pre s t,O,n,h=>by
  have e:Sen.inB (.two w pre s t) n (O.map (·.1))=O.map (·.1):=by
   rcases h.1 with rfl | rfl | rfl<;>rfl
  rw [Sen.walkR,Sen.bnd,List.map_cons,List.map_append,qa9g s _ _ h.2.2.2.1,qa9g t _ _ h.2.2.2.2,e]
theorem cnt_par{s y:Sen}{b i:Nat}(hs:OkS s)(hy:s.all[b]? = some y)(hb:b <= i)(hi:i < b + y.size):decide (((qa3i s i:Int) - (qa3i s b:Int)) % 2=1)=y.par (i - b):=by
 have bl:b < s.size:=by
  have:=(List.getElem?_eq_some_iff.mp hy).1
  rwa [Sen.all_length] at this
 have hf:=Sen.all_fits hy
 obtain⟨m,hm⟩:∃ m,(s.nts 0)[b]? = some m:=⟨_,List.getElem?_eq_getElem (by rw [Sen.nts_length];exact bl)⟩
 have hwi:=Sen.nts_within s 0 b y m hy hm (i - b) (by omega)
 rw [show b + (i - b)=i by omega] at hwi
 obtain⟨c,hc⟩:∃ c,(s.nts 0)[i]? = some c:=⟨_,List.getElem?_eq_getElem (by rw [Sen.nts_length];omega)⟩
 rw [hc] at hwi
 have hn:y.noTwo:=qb3l (qa8c hs y (List.mem_of_getElem? hy))
 obtain⟨h1,h2⟩:=Sen.nts_par y m (i - b) c hn hwi.symm
 have e1:qa3i s i=c:=by unfold qa3i;rw [hc];rfl
 have e2:qa3i s b=m:=by unfold qa3i;rw [hm];rfl
 rw [e1,e2,← h2,decide_eq_decide]
 omega
theorem hard_eq{s y:Sen}{i:Nat}{O:List (Nat × Bool)}(hs:OkS s)(t:Bool)(h:(Sen.walkR s [] 0)[i]? = some (O,y)):(s.bnd 0 [])[i]? = some (O.map (·.1))/\(∀ p ∈ O,p.1 < s.size)/\(O.map fun p=>PyData.bool (qa6w s t p))=(O.map (·.1)).map fun b=>PyData.bool (qa5i s i t b):=by
 have hr:∀ p ∈ O,p.1 < s.size/\qa6w s t p=qa5i s i t p.1:=fun p hp=>by
  obtain⟨w,pre,z,e1,_,e3,e4,e5⟩:=Sen.walkR_root (b:=p.1) (o:=p.2) h hp
  have:=(List.getElem?_eq_some_iff.mp e1).1
  rw [Sen.all_length] at this
  refine⟨this,?_⟩
  unfold qa6w qa5i
  rw [cnt_par hs e1 e3 e4,e5]
 refine⟨?_,fun p hp=>(hr p hp).1,?_⟩
 ·have:=qa9g s [] 0 hs
  show(Sen.bnd s 0 (([]:List (Nat × Bool)).map (·.1)))[i]? = _
  rw [← this,List.getElem?_map,h];rfl
 ·rw [List.map_map]
  exact List.map_congr_left fun p hp=>by show PyData.bool _=PyData.bool _;rw [(hr p hp).2]
section
variable{P:Program}{w:World}{K:W.Frag}{mg:Str->Option Value}{base:Heap}{n:Nat}
abbrev qa7x:Stmt:=top 25
theorem qa8p:FnScope ["_law_script","_law_tape","_law_k","_law_sentence_here","_law_table","_law_number","_law_truth"] ["_law_script"] (qa0i qa7x):=⟨rfl,rfl,rfl,by decide +kernel,rfl,by decide +kernel,by decide +kernel⟩
theorem ok_law{f f1 f2 f3 f4 f5 f6:Addr}{fd fd1 fd2 fd3 fd4 fd5 fd6:FuncData} (F:Fun K "law" "law" qa7x f fd) (B:Bl mg) (qa0r:DNext K mg f1 fd1) (qa1e:GNext P w K mg base n f1 fd1)
  (qa0y:Def K mg "_law_sentence" qa3x ["_law_tape","_law_size","_law_free","_law_binders","_law_shows"] f2 fd2) (qa1p:FnOk P w K mg base CX0 n f2 fd2 ["_law_tape","_law_size","_law_free","_law_binders","_law_shows"] (spD K (spSen 100)))
  (qa4y:Def K mg "_law_laid" qa6f ["_law_sentence_here","_law_around","_law_room","_law_found"] f3 fd3) (qb0y:FnOk P w K mg base CX0 n f3 fd3 ["_law_sentence_here","_law_around","_law_room","_law_found"] (qa8o K 100))
  (qa3u:Def K mg "_law_alike" qa5g ["_law_found","_law_due"] f4 fd4) (qa6v:FnOk P w K mg base CX0 n f4 fd4 ["_law_found","_law_due"] (spD K (spAl 3)))
  (qa9j:Def K mg "_law_hards" qa6x ["_law_table","_law_number","_law_truth"] f5 fd5) (qb8a:FnOk P w K mg base CX0 n f5 fd5 ["_law_table","_law_number","_law_truth"] (spD K qb9p))
  (d_hard_at:Def K mg "hard_at" qa9f ["sentence","number","truth"] f6 fd6) (g_hard_at:FnOk P w K mg base CX0 n f6 fd6 ["sentence","number","truth"] (spD K qb7e)):FnOk P w K mg base CX0 (n + 1) f fd ["_law_script"] (spLaw K):=by
 refine F.law qa8p (fun cdv A outer s H E hr=>?_)
 refine⟨_,_,rfl,qa2v (i:=1) qa8p.nd rfl (Or.inl rfl) (qa7a (qa0g (pv 0) (qa0g qa0w qa0q))),_,(qa0f (qa4n PassesOwn.never rfl (qa8y rfl B.range_ qa0k) (qa1h (i:=2) qa8p.nd rfl (Or.inl rfl))
  (qa0f (qa1x (i:=3) qa8p.nd rfl (Or.inl rfl) (qa0l [true,false,false,false,false] qa0y qa1p hr rfl (qa0a (dv 1) (qa0a (qa2n qa2g qa4e qa0k (qa0l [true,false] qa0r qa1e hr rfl (qa0a (dv 1) (qa0a qa0k qa0c)))) (qa0a (qa2b (qa1n qa0c)) (qa0a qa0k (qa0a qa0k qa0c)))))))
  (qa0f (qa1x (i:=4) qa8p.nd rfl (Or.inl rfl) ⟨_,qa3r qa4y qb0y hr rfl (qa0g (pv 3) (qa0g (qa7a qa0q) (qa0g (qa7a qa0q) (qa0g (qa7a qa0q) qa0q)))),qc5v⟩)
  (qa0h (qa4n PassesOwn.never rfl (qa8y rfl B.range_ (qa1o qa0v qa2q rfl B.len_ qa1j (qa0a (dv 4) qa0c))) (qa1h (i:=5) qa8p.nd rfl (Or.inl rfl))
  (qa0h (qa4n PassesOwn.never rfl (qa8i (qa2b (qa1n (qa0a qa7p (qa0a qa7p qa0c))))) (qa1h (i:=6) qa8p.nd rfl (Or.inl rfl))
  (qa0h (qa2r (dt_not (qa5b (qa0l [false,false] qa3u qa6v hr rfl (qa0a (qa0l [false,false,false] d_hard_at g_hard_at hr rfl (qa0a (dv 3) (qa0a (dv 5) (qa0a (dv 6) qa0c)))) (qa0a (qb4x qa7m qb6b rfl B.tuple_ qa3z (qa0a (qa0l [false,false,false] qa9j qb8a hr rfl (qa0a (dv 4) (qa0a (dv 5) (qa0a (dv 6) qa0c)))) qa0c)) qa0c)))))
  (qa0h (qa0x qa7p))
  qa1m)))))))))
  (qa0h (qa0x qa7p))),?_⟩
 walk_at "dd"
 refine⟨⟨by decide,by decide⟩,?_⟩
 refine qa3f (fun i ρ=>i <= 4/\∃ (k:Nat) (v2 v3 v4 v5 v6:Option L),ρ=[some .scr,some (.tape k),v2,v3,v4,v5,v6]/\k <= 1000 * i) ⟨by omega,0,none,none,none,none,none,rfl,by omega⟩ ?_ ?_
 ·rintro i u ρ N hu ⟨_,k,v2,v3,v4,v5,v6,rfl,hk⟩ hN
  have hi:i < 4:=by
   have:=(List.getElem?_eq_some_iff.mp hu).1
   simpa [rngD] using this
  walk_at "dd"
  refine⟨k,13,rfl,by decide,by omega,fun r h0 h1=>?_⟩
  walk_at "dd"
  obtain⟨z,rfl⟩:∃ z:Nat,r=z:=⟨r.toNat,by omega⟩
  refine⟨k + 1,4 + z,0,0,[],by simp [encF],by omega,by omega,by omega,by omega,Nat.zero_le _,by omega,fun p hp=>(by cases hp),fun s k' hk' ok=>?_⟩
  walk_at "dd"
  have hsz:=ok.size
  refine⟨s,rfl,by omega,qa7l s [] 0 [] ok.good (fun p hp=>by cases hp),by omega,fun ds T=>?_⟩
  walk_at "dd"
  have lds:=T.1
  have e62:(2:Int) ^ 62=4611686018427387904:=by decide
  refine⟨⟨by rw [lds,e62];omega,by rw [lds,e62];omega⟩,?_⟩
  refine qa3f (fun _ ρ=>∃ (v5 v6:Option L),ρ=[some .scr,some (.tape k'),some (.d u),some (.d s.enc),some (.d (.list ds)),v5,v6]) ⟨_,_,rfl⟩ ?_ ?_
  ·rintro j uj ρ N2 huj ⟨v5,v6,rfl⟩ hN2
   have hj:j < s.size:=by
    have:=(List.getElem?_eq_some_iff.mp huj).1
    rw [← lds]
    simpa [rngD] using this
   have euj:uj=numD j:=by
    simp only [rngD,List.getElem?_map,List.getElem?_range (show j < ((ds.length:Nat):Int).toNat by rw [lds];omega),Option.map_some] at huj
    have:=(Option.some.inj huj).symm
    rw [this];congr 1;omega
   subst euj
   obtain⟨⟨O,y⟩,hO⟩:∃ r,(Sen.walkR s [] 0)[j]? = some r:=⟨_,List.getElem?_eq_getElem (by rw [Sen.walkR_length];exact hj)⟩
   walk_at "dd"
   refine qa3f (fun _ ρ=>∃ (v6:Option L),ρ=[some .scr,some (.tape k'),some (.d u),some (.d s.enc),some (.d (.list ds)),some (.d (numD j)),v6]) ⟨_,rfl⟩ ?_ ?_
   ·rintro q uq ρ N3 huq ⟨v6,rfl⟩ hN3
    obtain⟨t,rfl⟩:∃ t:Bool,uq=.bool t:=by
     have hm:=List.mem_of_getElem? huq
     simp only [List.mem_cons,List.not_mem_nil,or_false] at hm
     rcases hm with rfl | rfl
     ·exact⟨_,rfl⟩
     ·exact⟨_,rfl⟩
    obtain⟨hb,hin,heq⟩:=hard_eq ok.ok t hO
    have hzb:=qa5q s 0 [] _ (List.mem_of_getElem? hb)
    rw [List.length_map] at hzb
    have lO:O.length <= 900:=by simp at hzb;omega
    walk_at "dd"
    refine⟨s,j,t,O.map (·.1),rfl,ok.ok,by omega,hj,hb,fun b hb=>by obtain⟨p,hp,rfl⟩:=List.mem_map.mp hb;exact hin p hp,?_⟩
    walk_at "dd"
    refine⟨s,y,ds,j,t,O,rfl,T,hO,lO,hin,?_⟩
    walk_at "dd"
    refine .inr ⟨(O.map (·.1)).map fun b=>qa5i s j t b,by decide,?_,by rw [List.length_map,List.length_map];exact lO,?_⟩
    ·rw [heq];unfold bls;simp only [List.map_map];rfl
    walk_at "dd"
    exact hN3 _ ⟨_,rfl⟩
   ·rintro ρ ⟨v6,rfl⟩
    exact hN2 _ ⟨_,_,rfl⟩
  ·rintro ρ ⟨v5,v6,rfl⟩
   exact hN _ ⟨by omega,k',_,_,_,_,_,rfl,by omega⟩
 ·rintro ρ ⟨_,k,v2,v3,v4,v5,v6,rfl,hk⟩
  walk_at "dd"
end
def Lies(K:W.Frag)(x:Str)(st:Stmt)(ps:List Str):Prop:=∃ f fd,Fun K x x st f fd/\W.nsIn K mainGlobals x=some (some (.ref f))/\Binds K fd ps []
abbrev fnX(x:Str)(st:Stmt)(kV dc pm:Value)(an:Option Addr)(cd ct:Value):FuncData:=W.fnOf x x (qa4h st) (qa3c st) (qa0i st) .none kV dc pm an cd ct
theorem qa4r{K:W.Frag}{x:Str}{st:Stmt}{ps:List Str}{f:Addr}{od an:Option Addr}{sl:Array (Option Value)}{oc kV dc pm cd ct:Value}
  (a:W.nsIn K mainGlobals x=some (some (.ref f))) (l:K.lookup f=some ⟨oc,od,.func (fnX x st kV dc pm an cd ct),sl⟩) (c:W.codeIn K cd x=true) (k:W.keepIn K (.ref f)=true) (hp:ps.length=1)
  (b:∀ (kV dc pm:Value) (an:Option Addr) (cd ct a0:Value),bindArgs (fnX x st kV dc pm an cd ct) ⟨[a0],[]⟩=pure (ps.zip [a0])):Lies K x st ps:=⟨f,_,qa3n l c k,a,(qa3n l c k).binds fun kV dc pm an cd ct us hl=>by
  rw [hp] at hl
  obtain⟨a0,u0,rfl,h0⟩:=usS hl
  obtain rfl:=List.eq_nil_of_length_eq_zero h0
  exact b kV dc pm an cd ct a0⟩
theorem qa8q{K:W.Frag}{x:Str}{st:Stmt}{ps:List Str}{f:Addr}{od an:Option Addr}{sl:Array (Option Value)}{oc kV dc pm cd ct:Value}
  (a:W.nsIn K mainGlobals x=some (some (.ref f))) (l:K.lookup f=some ⟨oc,od,.func (fnX x st kV dc pm an cd ct),sl⟩) (c:W.codeIn K cd x=true) (k:W.keepIn K (.ref f)=true) (hp:ps.length=2)
  (b:∀ (kV dc pm:Value) (an:Option Addr) (cd ct a0 a1:Value),bindArgs (fnX x st kV dc pm an cd ct) ⟨[a0,a1],[]⟩=pure (ps.zip [a0,a1])):Lies K x st ps:=⟨f,_,qa3n l c k,a,(qa3n l c k).binds fun kV dc pm an cd ct us hl=>by
  rw [hp] at hl
  obtain⟨a0,u0,rfl,h0⟩:=usS hl
  obtain⟨a1,u1,rfl,h1⟩:=usS h0
  obtain rfl:=List.eq_nil_of_length_eq_zero h1
  exact b kV dc pm an cd ct a0 a1⟩
theorem qb2q{K:W.Frag}{x:Str}{st:Stmt}{ps:List Str}{f:Addr}{od an:Option Addr}{sl:Array (Option Value)}{oc kV dc pm cd ct:Value}
  (a:W.nsIn K mainGlobals x=some (some (.ref f))) (l:K.lookup f=some ⟨oc,od,.func (fnX x st kV dc pm an cd ct),sl⟩) (c:W.codeIn K cd x=true) (k:W.keepIn K (.ref f)=true) (hp:ps.length=3)
  (b:∀ (kV dc pm:Value) (an:Option Addr) (cd ct a0 a1 a2:Value),bindArgs (fnX x st kV dc pm an cd ct) ⟨[a0,a1,a2],[]⟩=pure (ps.zip [a0,a1,a2])):Lies K x st ps:=⟨f,_,qa3n l c k,a,(qa3n l c k).binds fun kV dc pm an cd ct us hl=>by
  rw [hp] at hl
  obtain⟨a0,u0,rfl,h0⟩:=usS hl
  obtain⟨a1,u1,rfl,h1⟩:=usS h0
  obtain⟨a2,u2,rfl,h2⟩:=usS h1
  obtain rfl:=List.eq_nil_of_length_eq_zero h2
  exact b kV dc pm an cd ct a0 a1 a2⟩
theorem qc6b{K:W.Frag}{x:Str}{st:Stmt}{ps:List Str}{f:Addr}{od an:Option Addr}{sl:Array (Option Value)}{oc kV dc pm cd ct:Value}
  (a:W.nsIn K mainGlobals x=some (some (.ref f))) (l:K.lookup f=some ⟨oc,od,.func (fnX x st kV dc pm an cd ct),sl⟩) (c:W.codeIn K cd x=true) (k:W.keepIn K (.ref f)=true) (hp:ps.length=4)
  (b:∀ (kV dc pm:Value) (an:Option Addr) (cd ct a0 a1 a2 a3:Value),bindArgs (fnX x st kV dc pm an cd ct) ⟨[a0,a1,a2,a3],[]⟩=pure (ps.zip [a0,a1,a2,a3])):Lies K x st ps:=⟨f,_,qa3n l c k,a,(qa3n l c k).binds fun kV dc pm an cd ct us hl=>by
  rw [hp] at hl
  obtain⟨a0,u0,rfl,h0⟩:=usS hl
  obtain⟨a1,u1,rfl,h1⟩:=usS h0
  obtain⟨a2,u2,rfl,h2⟩:=usS h1
  obtain⟨a3,u3,rfl,h3⟩:=usS h2
  obtain rfl:=List.eq_nil_of_length_eq_zero h3
  exact b kV dc pm an cd ct a0 a1 a2 a3⟩
theorem qc6c{K:W.Frag}{x:Str}{st:Stmt}{ps:List Str}{f:Addr}{od an:Option Addr}{sl:Array (Option Value)}{oc kV dc pm cd ct:Value}
  (a:W.nsIn K mainGlobals x=some (some (.ref f))) (l:K.lookup f=some ⟨oc,od,.func (fnX x st kV dc pm an cd ct),sl⟩) (c:W.codeIn K cd x=true) (k:W.keepIn K (.ref f)=true) (hp:ps.length=5)
  (b:∀ (kV dc pm:Value) (an:Option Addr) (cd ct a0 a1 a2 a3 a4:Value),bindArgs (fnX x st kV dc pm an cd ct) ⟨[a0,a1,a2,a3,a4],[]⟩=pure (ps.zip [a0,a1,a2,a3,a4])):Lies K x st ps:=⟨f,_,qa3n l c k,a,(qa3n l c k).binds fun kV dc pm an cd ct us hl=>by
  rw [hp] at hl
  obtain⟨a0,u0,rfl,h0⟩:=usS hl
  obtain⟨a1,u1,rfl,h1⟩:=usS h0
  obtain⟨a2,u2,rfl,h2⟩:=usS h1
  obtain⟨a3,u3,rfl,h3⟩:=usS h2
  obtain⟨a4,u4,rfl,h4⟩:=usS h3
  obtain rfl:=List.eq_nil_of_length_eq_zero h4
  exact b kV dc pm an cd ct a0 a1 a2 a3 a4⟩
theorem all_mk{P:Program}{w:World}{K:W.Frag}{h:Heap}{mg:Str->Option Value}{fa:Addr}(X:K.In h)(G:h.Ns mainGlobals mg) (hfa:mg "law" = some (.ref fa))
  (h_parts_of:Lies K "parts_of" qa6d ["sentence"])
  (h_is_binder:Lies K "is_binder" qa6u ["sentence"])
  (h_things_of:Lies K "things_of" qa3s ["sentence"])
  (h_parts_at:Lies K "parts_at" qa4w ["sentence"])
  (h_binders_at:Lies K "binders_at" qa6e ["sentence"])
  (h_rooms_at:Lies K "rooms_at" qa7w ["sentence"])
  (h_nots_at:Lies K "nots_at" qa9e ["things","parts"])
  (h_hard_at:Lies K "hard_at" qa9f ["sentence","number","truth"])
  (h_law_cell_at:Lies K "_law_cell_at" qa4g ["_law_script","_law_k"])
  (h_law_by:Lies K "_law_by" qb0s ["_law_script","_law_k","_law_many"])
  (h_law_next:Lies K "_law_next" qa7t ["_law_tape","_law_many"])
  (h_law_hands:Lies K "_law_hands" qa5e ["_law_tape"])
  (h_law_step:Lies K "_law_step" qa7u ["_law_tape"])
  (h_law_leaf:Lies K "_law_leaf" qa7v ["_law_tape","_law_free"])
  (h_law_sentence:Lies K "_law_sentence" qa3x ["_law_tape","_law_size","_law_free","_law_binders","_law_shows"])
  (h_law_alike:Lies K "_law_alike" qa5g ["_law_found","_law_due"])
  (h_law_laid:Lies K "_law_laid" qa6f ["_law_sentence_here","_law_around","_law_room","_law_found"])
  (h_law_hards:Lies K "_law_hards" qa6x ["_law_table","_law_number","_law_truth"])
  {f_law:Addr} {od_law an_law:Option Addr} {sl_law:Array (Option Value)} {oc_law kV_law dc_law pm_law cd_law ct_law:Value}
  (a_law:W.nsIn K mainGlobals "law" = some (some (.ref f_law))) (l_law:K.lookup f_law=some ⟨oc_law,od_law,.func (W.fnOf "law" "law" (qa4h qa7x) (qa3c qa7x) (qa0i qa7x) .none kV_law dc_law pm_law an_law cd_law ct_law),sl_law⟩) (c_law:W.codeIn K cd_law "law" = true) (k_law:W.keepIn K (.ref f_law)=true)
  {C_Frame:Addr} (aC_Frame:W.nsIn K mainGlobals "Frame" = some (some (.ref C_Frame)))
  {f_init:Addr} {od_init an_init:Option Addr} {sl_init:Array (Option Value)} {oc_init kV_init dc_init pm_init cd_init ct_init:Value}
  (a_init:W.findIn K (.ref C_Frame) "__init__" = some (some (.ref f_init))) (i_init:W.isFn K (.ref f_init)=true) (l_init:K.lookup f_init=some ⟨oc_init,od_init,.func (W.fnOf "__init__" "Frame.__init__" (qa4h qb0a) (qa3c qb0a) (qa0i qb0a) .none kV_init dc_init pm_init an_init cd_init ct_init),sl_init⟩) (c_init:W.codeIn K cd_init "Frame.__init__" = true) (k_init:W.keepIn K (.ref f_init)=true)
  {f_hard:Addr} {od_hard an_hard:Option Addr} {sl_hard:Array (Option Value)} {oc_hard kV_hard dc_hard pm_hard cd_hard ct_hard:Value}
  (a_hard:W.findIn K (.ref C_Frame) "hard_binders" = some (some (.ref f_hard))) (i_hard:W.isFn K (.ref f_hard)=true) (l_hard:K.lookup f_hard=some ⟨oc_hard,od_hard,.func (W.fnOf "hard_binders" "Frame.hard_binders" (qa4h qb0b) (qa3c qb0b) (qa0i qb0b) .none kV_hard dc_hard pm_hard an_hard cd_hard ct_hard),sl_hard⟩) (c_hard:W.codeIn K cd_hard "Frame.hard_binders" = true) (k_hard:W.keepIn K (.ref f_hard)=true)
  {f_ishard:Addr} {od_ishard an_ishard:Option Addr} {sl_ishard:Array (Option Value)} {oc_ishard kV_ishard dc_ishard pm_ishard cd_ishard ct_ishard:Value}
  (a_ishard:W.findIn K (.ref C_Frame) "is_hard" = some (some (.ref f_ishard))) (i_ishard:W.isFn K (.ref f_ishard)=true) (l_ishard:K.lookup f_ishard=some ⟨oc_ishard,od_ishard,.func (W.fnOf "is_hard" "Frame.is_hard" (qa4h qa6q) (qa3c qa6q) (qa0i qa6q) .none kV_ishard dc_ishard pm_ishard an_ishard cd_ishard ct_ishard),sl_ishard⟩) (c_ishard:W.codeIn K cd_ishard "Frame.is_hard" = true) (k_ishard:W.keepIn K (.ref f_ishard)=true)
  (pg_Frame:W.plainGet K C_Frame Str.empty=true) (hd_Frame:W.hasDictIn K C_Frame=true) (po_Frame:W.plainOver K C_Frame=true) (sa_Frame:W.findIn K (.ref C_Frame) "__setattr__" = some (some (.builtin "object.__setattr__"))) (mk_Frame:W.makesIn K C_Frame=true) (kc_Frame:W.keepIn K (.ref C_Frame)=true)
  (n_things:W.findIn K (.ref C_Frame) "things" = some none)
  (n_parts:W.findIn K (.ref C_Frame) "parts" = some none)
  (n_binders:W.findIn K (.ref C_Frame) "binders" = some none)
  (n_rooms:W.findIn K (.ref C_Frame) "rooms" = some none)
  (n_nots:W.findIn K (.ref C_Frame) "nots" = some none)
  (z_len:W.nsIn K mainGlobals "len" = some none)
  (z_range:W.nsIn K mainGlobals "range" = some none)
  (z_tuple:W.nsIn K mainGlobals "tuple" = some none)
  (z_bool:W.nsIn K mainGlobals "bool" = some none)
  (z_isinstance:W.nsIn K mainGlobals "isinstance" = some none)
  (z_reversed:W.nsIn K mainGlobals "reversed" = some none)
  (z_max:W.nsIn K mainGlobals "max" = some none)
  (z_zip:W.nsIn K mainGlobals "zip" = some none)
  (z_list:W.nsIn K mainGlobals "list" = some none)
  (z_str:W.nsIn K mainGlobals "str" = some none)
  (z_enumerate:W.nsIn K mainGlobals "enumerate" = some none)
  (z_dict:W.nsIn K mainGlobals "dict" = some none)
  (z_int:W.nsIn K mainGlobals "int" = some none)
  {aT_FORMS:Addr} {ep_FORMS:Nat} {kt_FORMS_0 kt_FORMS_1 kt_FORMS_2 kt_FORMS_3 kt_FORMS_4 kt_FORMS_5 kt_FORMS_6 kt_FORMS_7 kt_FORMS_8 kt_FORMS_9:Tok} {p_FORMS_0 p_FORMS_1 p_FORMS_2 p_FORMS_3 p_FORMS_4 p_FORMS_5 p_FORMS_6 p_FORMS_7 p_FORMS_8 p_FORMS_9:Addr}
  (a_FORMS:W.nsIn K mainGlobals "FORMS" = some (some (.ref aT_FORMS)))
  (l_FORMS:K.lookup aT_FORMS=some ⟨.type "dict",none,.dict #[⟨PyData.keyHash w.params "fact",.str "fact" kt_FORMS_0,.ref p_FORMS_0⟩,⟨PyData.keyHash w.params "wish",.str "wish" kt_FORMS_1,.ref p_FORMS_1⟩,⟨PyData.keyHash w.params "not",.str "not" kt_FORMS_2,.ref p_FORMS_2⟩,⟨PyData.keyHash w.params "and",.str "and" kt_FORMS_3,.ref p_FORMS_3⟩,⟨PyData.keyHash w.params "or",.str "or" kt_FORMS_4,.ref p_FORMS_4⟩,⟨PyData.keyHash w.params "some",.str "some" kt_FORMS_5,.ref p_FORMS_5⟩,⟨PyData.keyHash w.params "every",.str "every" kt_FORMS_6,.ref p_FORMS_6⟩,⟨PyData.keyHash w.params "least",.str "least" kt_FORMS_7,.ref p_FORMS_7⟩,⟨PyData.keyHash w.params "most",.str "most" kt_FORMS_8,.ref p_FORMS_8⟩,⟨PyData.keyHash w.params "show",.str "show" kt_FORMS_9,.ref p_FORMS_9⟩] ep_FORMS,#[]⟩)
  {n_FORMS_0:Nat} {slp_FORMS_0:Array (Option Value)} {tk_FORMS_0_0 tk_FORMS_0_1:Tok} (l_FORMS_0:K.lookup p_FORMS_0=some ⟨.type "tuple",none,.seq #[.str "name" tk_FORMS_0_0,.int 0 tk_FORMS_0_1] n_FORMS_0,slp_FORMS_0⟩)
  {n_FORMS_1:Nat} {slp_FORMS_1:Array (Option Value)} {tk_FORMS_1_0 tk_FORMS_1_1:Tok} (l_FORMS_1:K.lookup p_FORMS_1=some ⟨.type "tuple",none,.seq #[.str "name" tk_FORMS_1_0,.int 0 tk_FORMS_1_1] n_FORMS_1,slp_FORMS_1⟩)
  {n_FORMS_2:Nat} {slp_FORMS_2:Array (Option Value)} {tk_FORMS_2_0 tk_FORMS_2_1:Tok} (l_FORMS_2:K.lookup p_FORMS_2=some ⟨.type "tuple",none,.seq #[.str "" tk_FORMS_2_0,.int 1 tk_FORMS_2_1] n_FORMS_2,slp_FORMS_2⟩)
  {n_FORMS_3:Nat} {slp_FORMS_3:Array (Option Value)} {tk_FORMS_3_0 tk_FORMS_3_1:Tok} (l_FORMS_3:K.lookup p_FORMS_3=some ⟨.type "tuple",none,.seq #[.str "" tk_FORMS_3_0,.int 2 tk_FORMS_3_1] n_FORMS_3,slp_FORMS_3⟩)
  {n_FORMS_4:Nat} {slp_FORMS_4:Array (Option Value)} {tk_FORMS_4_0 tk_FORMS_4_1:Tok} (l_FORMS_4:K.lookup p_FORMS_4=some ⟨.type "tuple",none,.seq #[.str "" tk_FORMS_4_0,.int 2 tk_FORMS_4_1] n_FORMS_4,slp_FORMS_4⟩)
  {n_FORMS_5:Nat} {slp_FORMS_5:Array (Option Value)} {tk_FORMS_5_0 tk_FORMS_5_1:Tok} (l_FORMS_5:K.lookup p_FORMS_5=some ⟨.type "tuple",none,.seq #[.str "step" tk_FORMS_5_0,.int 1 tk_FORMS_5_1] n_FORMS_5,slp_FORMS_5⟩)
  {n_FORMS_6:Nat} {slp_FORMS_6:Array (Option Value)} {tk_FORMS_6_0 tk_FORMS_6_1:Tok} (l_FORMS_6:K.lookup p_FORMS_6=some ⟨.type "tuple",none,.seq #[.str "step" tk_FORMS_6_0,.int 1 tk_FORMS_6_1] n_FORMS_6,slp_FORMS_6⟩)
  {n_FORMS_7:Nat} {slp_FORMS_7:Array (Option Value)} {tk_FORMS_7_0 tk_FORMS_7_1:Tok} (l_FORMS_7:K.lookup p_FORMS_7=some ⟨.type "tuple",none,.seq #[.str "name" tk_FORMS_7_0,.int 1 tk_FORMS_7_1] n_FORMS_7,slp_FORMS_7⟩)
  {n_FORMS_8:Nat} {slp_FORMS_8:Array (Option Value)} {tk_FORMS_8_0 tk_FORMS_8_1:Tok} (l_FORMS_8:K.lookup p_FORMS_8=some ⟨.type "tuple",none,.seq #[.str "name" tk_FORMS_8_0,.int 1 tk_FORMS_8_1] n_FORMS_8,slp_FORMS_8⟩)
  {n_FORMS_9:Nat} {slp_FORMS_9:Array (Option Value)} {tk_FORMS_9_0 tk_FORMS_9_1:Tok} (l_FORMS_9:K.lookup p_FORMS_9=some ⟨.type "tuple",none,.seq #[.str "hands" tk_FORMS_9_0,.int 2 tk_FORMS_9_1] n_FORMS_9,slp_FORMS_9⟩)
  : ∃ fd:FuncData,(∀ (s:Shared) (v:Value),BindsTo s fd ⟨[v],[]⟩ [("_law_script",v)])/\∀ base:Heap,K.In base->base.Ns mainGlobals mg->FnOk P w K mg base CX0 106 fa fd ["_law_script"] (spLaw K):=by
 have e:=hfa.symm.trans (W.mg_of X G a_law)
 cases e
 obtain⟨f_parts_of,_,F_parts_of,qc0x,b_parts_of⟩:=h_parts_of
 have d_parts_of:Def K mg _ _ _ _ _:=⟨F_parts_of,b_parts_of,W.mg_of X G qc0x⟩
 obtain⟨f_is_binder,_,F_is_binder,qb8b,b_is_binder⟩:=h_is_binder
 have d_is_binder:Def K mg _ _ _ _ _:=⟨F_is_binder,b_is_binder,W.mg_of X G qb8b⟩
 obtain⟨f_things_of,_,F_things_of,a_things_of,b_things_of⟩:=h_things_of
 have d_things_of:Def K mg _ _ _ _ _:=⟨F_things_of,b_things_of,W.mg_of X G a_things_of⟩
 obtain⟨f_parts_at,_,F_parts_at,a_parts_at,b_parts_at⟩:=h_parts_at
 have d_parts_at:Def K mg _ _ _ _ _:=⟨F_parts_at,b_parts_at,W.mg_of X G a_parts_at⟩
 obtain⟨f_binders_at,_,F_binders_at,a_binders_at,b_binders_at⟩:=h_binders_at
 have d_binders_at:Def K mg _ _ _ _ _:=⟨F_binders_at,b_binders_at,W.mg_of X G a_binders_at⟩
 obtain⟨f_rooms_at,_,F_rooms_at,a_rooms_at,b_rooms_at⟩:=h_rooms_at
 have d_rooms_at:Def K mg _ _ _ _ _:=⟨F_rooms_at,b_rooms_at,W.mg_of X G a_rooms_at⟩
 obtain⟨f_nots_at,_,F_nots_at,a_nots_at,b_nots_at⟩:=h_nots_at
 have d_nots_at:Def K mg _ _ _ _ _:=⟨F_nots_at,b_nots_at,W.mg_of X G a_nots_at⟩
 obtain⟨f_hard_at,_,F_hard_at,a_hard_at,b_hard_at⟩:=h_hard_at
 have d_hard_at:Def K mg _ _ _ _ _:=⟨F_hard_at,b_hard_at,W.mg_of X G a_hard_at⟩
 obtain⟨qc6f,_,qb5l,qb5m,b_law_cell_at⟩:=h_law_cell_at
 have qa3k:Def K mg _ _ _ _ _:=⟨qb5l,b_law_cell_at,W.mg_of X G qb5m⟩
 obtain⟨f_law_by,_,qc6d,qc6e,b_law_by⟩:=h_law_by
 have qb0t:Def K mg _ _ _ _ _:=⟨qc6d,b_law_by,W.mg_of X G qc6e⟩
 obtain⟨qc0y,_,qb3m,qc0z,b_law_next⟩:=h_law_next
 have qa0r:Def K mg _ _ _ _ _:=⟨qb3m,b_law_next,W.mg_of X G qc0z⟩
 obtain⟨f_law_hands,_,qb2f,qb8c,b_law_hands⟩:=h_law_hands
 have qa4j:Def K mg _ _ _ _ _:=⟨qb2f,b_law_hands,W.mg_of X G qb8c⟩
 obtain⟨f_law_step,_,qb3n,qc1a,b_law_step⟩:=h_law_step
 have qb0u:Def K mg _ _ _ _ _:=⟨qb3n,b_law_step,W.mg_of X G qc1a⟩
 obtain⟨f_law_leaf,_,qb3o,qc1b,b_law_leaf⟩:=h_law_leaf
 have qb0v:Def K mg _ _ _ _ _:=⟨qb3o,b_law_leaf,W.mg_of X G qc1b⟩
 obtain⟨qb4m,_,qb0c,qb4n,b_law_sentence⟩:=h_law_sentence
 have qa0y:Def K mg _ _ _ _ _:=⟨qb0c,b_law_sentence,W.mg_of X G qb4n⟩
 obtain⟨qb8d,_,qb2g,qb8e,b_law_alike⟩:=h_law_alike
 have qa3u:Def K mg _ _ _ _ _:=⟨qb2g,b_law_alike,W.mg_of X G qb8e⟩
 obtain⟨qc1c,_,qb3p,qc1d,b_law_laid⟩:=h_law_laid
 have qa4y:Def K mg _ _ _ _ _:=⟨qb3p,b_law_laid,W.mg_of X G qc1d⟩
 obtain⟨f_law_hards,_,qb2h,qb8f,b_law_hards⟩:=h_law_hards
 have qa9j:Def K mg _ _ _ _ _:=⟨qb2h,b_law_hards,W.mg_of X G qb8f⟩
 have F_law:=qa3n (st:=qa7x) l_law c_law k_law
 have F_init:=qa3n (st:=qb0a) l_init c_init k_init
 have b_init:=F_init.binds (ps:=["self","sentence"]) fun _ _ _ _ _ _ us hl=>match us,hl with | [_,_],_=>rfl
 have F_hard:=qa3n (st:=qb0b) l_hard c_hard k_hard
 have b_hard:=F_hard.binds (ps:=["self","number","truth"]) fun _ _ _ _ _ _ us hl=>match us,hl with | [_,_,_],_=>rfl
 have m_hard:Meth K C_Frame "hard_binders" f_hard:=⟨a_hard,i_hard,k_hard⟩
 have F_ishard:=qa3n (st:=qa6q) l_ishard c_ishard k_ishard
 have b_ishard:=F_ishard.binds (ps:=["self","binder","number","truth"]) fun _ _ _ _ _ _ us hl=>match us,hl with | [_,_,_,_],_=>rfl
 have m_ishard:Meth K C_Frame "is_hard" f_ishard:=⟨a_ishard,i_ishard,k_ishard⟩
 have T_Frame:TxtF K mg C_Frame:=⟨⟨pg_Frame,hd_Frame,po_Frame,sa_Frame⟩,n_things,n_parts,n_binders,n_rooms,n_nots,W.mg_of X G aC_Frame⟩
 have M_Frame:Mk K C_Frame f_init:=⟨mk_Frame,a_init,i_init,kc_Frame⟩
 have B:Bl mg:=⟨W.mg_none_of X G z_len,W.mg_none_of X G z_range,W.mg_none_of X G z_tuple,W.mg_none_of X G z_bool,W.mg_none_of X G z_isinstance,W.mg_none_of X G z_reversed,W.mg_none_of X G z_max,W.mg_none_of X G z_zip,W.mg_none_of X G z_list,W.mg_none_of X G z_str,W.mg_none_of X G z_enumerate,W.mg_none_of X G z_dict,W.mg_none_of X G z_int⟩
 have e_FORMS_0:∀ (S:Addr->Prop) (H:Hp),AtD K H S (.tuple [.str "name",.int 0]) (.ref p_FORMS_0):=qa5d (vs:=[.str "name",.int 0]) l_FORMS_0 rfl rfl (by show 2 <= sizeLine;decide) (.cons ⟨_,rfl⟩ (.cons ⟨_,rfl⟩ .nil)) (fun S H=>by simp [qa0b,AtD])
 have e_FORMS_1:∀ (S:Addr->Prop) (H:Hp),AtD K H S (.tuple [.str "name",.int 0]) (.ref p_FORMS_1):=qa5d (vs:=[.str "name",.int 0]) l_FORMS_1 rfl rfl (by show 2 <= sizeLine;decide) (.cons ⟨_,rfl⟩ (.cons ⟨_,rfl⟩ .nil)) (fun S H=>by simp [qa0b,AtD])
 have e_FORMS_2:∀ (S:Addr->Prop) (H:Hp),AtD K H S (.tuple [.str "",.int 1]) (.ref p_FORMS_2):=qa5d (vs:=[.str "",.int 1]) l_FORMS_2 rfl rfl (by show 2 <= sizeLine;decide) (.cons ⟨_,rfl⟩ (.cons ⟨_,rfl⟩ .nil)) (fun S H=>by simp [qa0b,AtD])
 have e_FORMS_3:∀ (S:Addr->Prop) (H:Hp),AtD K H S (.tuple [.str "",.int 2]) (.ref p_FORMS_3):=qa5d (vs:=[.str "",.int 2]) l_FORMS_3 rfl rfl (by show 2 <= sizeLine;decide) (.cons ⟨_,rfl⟩ (.cons ⟨_,rfl⟩ .nil)) (fun S H=>by simp [qa0b,AtD])
 have e_FORMS_4:∀ (S:Addr->Prop) (H:Hp),AtD K H S (.tuple [.str "",.int 2]) (.ref p_FORMS_4):=qa5d (vs:=[.str "",.int 2]) l_FORMS_4 rfl rfl (by show 2 <= sizeLine;decide) (.cons ⟨_,rfl⟩ (.cons ⟨_,rfl⟩ .nil)) (fun S H=>by simp [qa0b,AtD])
 have e_FORMS_5:∀ (S:Addr->Prop) (H:Hp),AtD K H S (.tuple [.str "step",.int 1]) (.ref p_FORMS_5):=qa5d (vs:=[.str "step",.int 1]) l_FORMS_5 rfl rfl (by show 2 <= sizeLine;decide) (.cons ⟨_,rfl⟩ (.cons ⟨_,rfl⟩ .nil)) (fun S H=>by simp [qa0b,AtD])
 have e_FORMS_6:∀ (S:Addr->Prop) (H:Hp),AtD K H S (.tuple [.str "step",.int 1]) (.ref p_FORMS_6):=qa5d (vs:=[.str "step",.int 1]) l_FORMS_6 rfl rfl (by show 2 <= sizeLine;decide) (.cons ⟨_,rfl⟩ (.cons ⟨_,rfl⟩ .nil)) (fun S H=>by simp [qa0b,AtD])
 have e_FORMS_7:∀ (S:Addr->Prop) (H:Hp),AtD K H S (.tuple [.str "name",.int 1]) (.ref p_FORMS_7):=qa5d (vs:=[.str "name",.int 1]) l_FORMS_7 rfl rfl (by show 2 <= sizeLine;decide) (.cons ⟨_,rfl⟩ (.cons ⟨_,rfl⟩ .nil)) (fun S H=>by simp [qa0b,AtD])
 have e_FORMS_8:∀ (S:Addr->Prop) (H:Hp),AtD K H S (.tuple [.str "name",.int 1]) (.ref p_FORMS_8):=qa5d (vs:=[.str "name",.int 1]) l_FORMS_8 rfl rfl (by show 2 <= sizeLine;decide) (.cons ⟨_,rfl⟩ (.cons ⟨_,rfl⟩ .nil)) (fun S H=>by simp [qa0b,AtD])
 have e_FORMS_9:∀ (S:Addr->Prop) (H:Hp),AtD K H S (.tuple [.str "hands",.int 2]) (.ref p_FORMS_9):=qa5d (vs:=[.str "hands",.int 2]) l_FORMS_9 rfl rfl (by show 2 <= sizeLine;decide) (.cons ⟨_,rfl⟩ (.cons ⟨_,rfl⟩ .nil)) (fun S H=>by simp [qa0b,AtD])
 have t_FORMS:Tab K w mg "FORMS" qb6w:=by
  refine⟨aT_FORMS,[("fact",.ref p_FORMS_0),("wish",.ref p_FORMS_1),("not",.ref p_FORMS_2),("and",.ref p_FORMS_3),("or",.ref p_FORMS_4),("some",.ref p_FORMS_5),("every",.ref p_FORMS_6),("least",.ref p_FORMS_7),("most",.ref p_FORMS_8),("show",.ref p_FORMS_9)],W.mg_of X G a_FORMS,⟨show(["fact","wish","not","and","or","some","every","least","most","show"]:List Str).Nodup by decide +kernel,_,_,l_FORMS,(.cons (by rfl) (.cons (by rfl) (.cons (by rfl) (.cons (by rfl) (.cons (by rfl) (.cons (by rfl) (.cons (by rfl) (.cons (by rfl) (.cons (by rfl) (.cons (by rfl) .nil))))))))))⟩,?_⟩
  refine tab_all (K:=K) (l:=[("fact",.tuple [.str "name",.int 0],.ref p_FORMS_0),("wish",.tuple [.str "name",.int 0],.ref p_FORMS_1),("not",.tuple [.str "",.int 1],.ref p_FORMS_2),("and",.tuple [.str "",.int 2],.ref p_FORMS_3),("or",.tuple [.str "",.int 2],.ref p_FORMS_4),("some",.tuple [.str "step",.int 1],.ref p_FORMS_5),("every",.tuple [.str "step",.int 1],.ref p_FORMS_6),("least",.tuple [.str "name",.int 1],.ref p_FORMS_7),("most",.tuple [.str "name",.int 1],.ref p_FORMS_8),("show",.tuple [.str "hands",.int 2],.ref p_FORMS_9)]) (fun q hq=>?_)
  simp only [List.mem_cons,List.not_mem_nil,or_false] at hq
  rcases hq with rfl | rfl | rfl | rfl | rfl | rfl | rfl | rfl | rfl | rfl
  ·exact e_FORMS_0
  ·exact e_FORMS_1
  ·exact e_FORMS_2
  ·exact e_FORMS_3
  ·exact e_FORMS_4
  ·exact e_FORMS_5
  ·exact e_FORMS_6
  ·exact e_FORMS_7
  ·exact e_FORMS_8
  ·exact e_FORMS_9
 refine⟨W.fnOf "law" "law" (qa4h qa7x) (qa3c qa7x) (qa0i qa7x) .none kV_law dc_law pm_law an_law cd_law ct_law,fun s v=>.of_eq rfl,fun base _ _=>?_⟩
 have gn:FnOk P w K mg base CX0 3 qc0y _ _ _:=ok_next qb3m B qa3k qb0t
 have gh:=qc5k qb2f B qa0r gn
 have gs:=ok_step qb3n B qa0r (gn.mono (by decide:3 <= 4)) qa4j gh
 have gl:=ok_leaf qb3o B qa0r gn
 have gS:∀ m:Nat,FnOk P w K mg base CX0 (5 + m) qb4m _ _ (spD K (spSen m)):=fun m=>by
  induction m with
  | zero=>exact qb9c fun ls Q h=>by obtain⟨_,size,_,_,_,_,h1,h2,_⟩:=h;omega
  | succ m ih=>exact qb7t qb0c B qa0r qa4j qb0u qb0v qa0y (n:=5 + m) (gn.mono (by omega:3 <= 5 + m)) (gh.mono (by omega:4 <= 5 + m)) (gs.mono (by omega:5 <= 5 + m)) (gl.mono (by omega:4 <= 5 + m)) ih
 have gA:∀ m:Nat,FnOk P w K mg base CX0 (5 + m) qb8d _ _ (spD K (spAl m)):=fun m=>by
  induction m with
  | zero=>exact qb9c fun ls Q h=>by rcases h with⟨_,h,_⟩ | ⟨_,h,_⟩<;>omega
  | succ m ih=>exact qc5x qb2g B qa3u ih
 have gL:∀ m:Nat,FnOk P w K mg base CX0 (5 + m) qc1c _ _ (qa8o K m):=fun m=>by
  induction m with
  | zero=>exact qc2z
  | succ m ih=>exact ok_laid qb3p B qa4y ih
 have gH:=qc5z (P:=P) (w:=w) (base:=base) (n:=0) qb2h B
 have gp:=qb7w (P:=P) (base:=base) (n:=0) F_parts_of B t_FORMS
 have gt:=qb6x F_things_of B d_parts_of gp
 have ga:=qb7x F_parts_at B d_parts_of (gp.mono (by decide:1 <= 2)) d_things_of gt
 have gb:=qb7b (P:=P) (w:=w) (base:=base) (n:=0) F_is_binder B
 have gB:=qb5k F_binders_at B d_things_of (gt.mono (by decide:2 <= 3)) d_parts_at ga d_is_binder (gb.mono (by decide:1 <= 3))
 have gR:=qb7y F_rooms_at B d_things_of (gt.mono (by decide:2 <= 3)) d_parts_at ga
 have gN:=qc0s (P:=P) (w:=w) (base:=base) (n:=3) F_nots_at B
 have gI:=ok_init F_init T_Frame d_things_of (gt.mono (by decide:2 <= 4)) d_parts_at (ga.mono (by decide:3 <= 4)) d_binders_at gB d_rooms_at gR d_nots_at gN
 have gi:FnOk P w K mg base CX0 5 f_ishard _ _ (qb2p K C_Frame):=qc2x (n:=4) F_ishard T_Frame
 have gw:FnOk P w K mg base CX0 6 f_hard _ _ (qb3k K C_Frame):=ok_hard (n:=5) F_hard B T_Frame m_ishard b_ishard gi
 have gO:=qc0u F_hard_at B T_Frame M_Frame b_init gI m_hard b_hard gw
 exact ok_law F_law B qa0r (gn.mono (by decide:3 <= 105)) qa0y (gS 100) qa4y (gL 100) qa3u ((gA 3).mono (by decide:8 <= 105)) qa9j (gH.mono (by decide:1 <= 105)) d_hard_at (gO.mono (by decide:7 <= 105))
end K37
namespace PySem.W.Fast
def tw9396004471857233914:=()
def tw3955129878095506564:=()
def tw4708821193560274480:=PySem.Challenge.pw_worldsay_k37_hard_binders
theorem te4708821193560274480:PySem.Challenge.pw_worldsay_k37_hard_binders=tw4708821193560274480:=rfl
def tw1502088832826008543:=()
def tw8386521313146797353:=()
def tw17816572656927373270:=()
def tw5609466808392224891:=()
def tw7305737222846173864:=()
def tw7142069591564029613:=()
def tw7784065965643124451:=()
def tw8193594495722229438:=()
def tw399170347501168880:=()
def tw13924065201076312448:=()
def tw13598309146214788142:=()
def tw5400767103677171197:=()
def tw4554787915474442329:=()
def tw14384570427122215607:=()
def tw13616440680773438623:=()
def tw588612117570665619:=()
def tw10699372254672240501:=()
def tw16898175428812663745:=()
def tw16324241209811183998:=()
def tw12915677645585747358:=()
def tw1034876343208199691:=()
def tw5890614300588573207:=()
def tw16580442368723741201:=()
def tw8683866250315223850:=()
def tw4172988113384046348:=()
def tw6006482174919115041:=()
def tw8334366394060277848:=()
def tw3722156941497085097:=()
def tw17775687434802734794:=()
def tw17643158333405205911:=()
def tw2346517097269654898:=()
def tw1452704652733977833:=()
def tw5924215672993740104:=()
def tw763152924130123097:=()
def tw14222554388614297085:=()
def tw8836708895685273443:=()
def tw4325774452632104118:=()
end PySem.W.Fast
open PySem PySem.W PyProof.Rows
set_option maxRecDepth 100000 in
set_option maxHeartbeats 0 in
theorem PySem.Challenge.cw_worldsay_k37_hard_binders_holds : PySem.Challenge.rw_worldsay_k37_hard_binders.Holds := by
 w_on;o_law;k_head;(case hw=>w_witness2)
 k_fill
 refine L2.walk_of (l:=PySem.Challenge.rw_worldsay_k37_hard_binders) (n:=63) (k:=106) (x:="_law_script") (CX:=fun _=>L2.CX0) (sp:=fun w=>L2.spLaw (_:PySem.W.Frag)) rfl (by decide) rfl ⟨rfl,by decide,by decide,rfl⟩ (fun w h Y=>PySem.W.kIn_of Y) ?F (fun w H a ns hl hO hS=>⟨a,ns,rfl,hS,hO,hl,fun _=>rfl⟩) (fun _ _ _ _ _ z=>z)
 case F =>
  intro w mg fa h KX G hmg
  refine' K37.all_mk KX G hmg ?h_parts_of ?h_is_binder ?h_things_of ?h_parts_at ?h_binders_at ?h_rooms_at ?h_nots_at ?h_hard_at ?h_law_cell_at ?h_law_by ?h_law_next ?h_law_hands ?h_law_step ?h_law_leaf ?h_law_sentence ?h_law_alike ?h_law_laid ?h_law_hards ?a_law ?l_law ?c_law ?k_law ?aC_Frame ?a_init ?i_init ?l_init ?c_init ?k_init ?a_hard ?i_hard ?l_hard ?c_hard ?k_hard ?a_ishard ?i_ishard ?l_ishard ?c_ishard ?k_ishard ?pg_Frame ?hd_Frame ?po_Frame ?sa_Frame ?mk_Frame ?kc_Frame ?n_things ?n_parts ?n_binders ?n_rooms ?n_nots ?z_len ?z_range ?z_tuple ?z_bool ?z_isinstance ?z_reversed ?z_max ?z_zip ?z_list ?z_str ?z_enumerate ?z_dict ?z_int ?a_FORMS ?l_FORMS ?l_FORMS_0 ?l_FORMS_1 ?l_FORMS_2 ?l_FORMS_3 ?l_FORMS_4 ?l_FORMS_5 ?l_FORMS_6 ?l_FORMS_7 ?l_FORMS_8 ?l_FORMS_9
  (case h_parts_of=>refine' K37.qa4r ?h_parts_ofa ?h_parts_ofl ?h_parts_ofc ?h_parts_ofk rfl (fun _ _ _ _ _ _ _  => rfl);(case h_parts_ofa=>k_is);(case h_parts_ofl=>k_is);(case h_parts_ofc=>k_is);(case h_parts_ofk=>k_is))
  (case h_is_binder=>refine' K37.qa4r ?h_is_bindera ?h_is_binderl ?h_is_binderc ?h_is_binderk rfl (fun _ _ _ _ _ _ _  => rfl);(case h_is_bindera=>k_is);(case h_is_binderl=>k_is);(case h_is_binderc=>k_is);(case h_is_binderk=>k_is))
  (case h_things_of=>refine' K37.qa4r ?h_things_ofa ?h_things_ofl ?h_things_ofc ?h_things_ofk rfl (fun _ _ _ _ _ _ _  => rfl);(case h_things_ofa=>k_is);(case h_things_ofl=>k_is);(case h_things_ofc=>k_is);(case h_things_ofk=>k_is))
  (case h_parts_at=>refine' K37.qa4r ?h_parts_ata ?h_parts_atl ?h_parts_atc ?h_parts_atk rfl (fun _ _ _ _ _ _ _  => rfl);(case h_parts_ata=>k_is);(case h_parts_atl=>k_is);(case h_parts_atc=>k_is);(case h_parts_atk=>k_is))
  (case h_binders_at=>refine' K37.qa4r ?h_binders_ata ?h_binders_atl ?h_binders_atc ?h_binders_atk rfl (fun _ _ _ _ _ _ _  => rfl);(case h_binders_ata=>k_is);(case h_binders_atl=>k_is);(case h_binders_atc=>k_is);(case h_binders_atk=>k_is))
  (case h_rooms_at=>refine' K37.qa4r ?h_rooms_ata ?h_rooms_atl ?h_rooms_atc ?h_rooms_atk rfl (fun _ _ _ _ _ _ _  => rfl);(case h_rooms_ata=>k_is);(case h_rooms_atl=>k_is);(case h_rooms_atc=>k_is);(case h_rooms_atk=>k_is))
  (case h_nots_at=>refine' K37.qa8q ?h_nots_ata ?h_nots_atl ?h_nots_atc ?h_nots_atk rfl (fun _ _ _ _ _ _ _ _  => rfl);(case h_nots_ata=>k_is);(case h_nots_atl=>k_is);(case h_nots_atc=>k_is);(case h_nots_atk=>k_is))
  (case h_hard_at=>refine' K37.qb2q ?h_hard_ata ?h_hard_atl ?h_hard_atc ?h_hard_atk rfl (fun _ _ _ _ _ _ _ _ _  => rfl);(case h_hard_ata=>k_is);(case h_hard_atl=>k_is);(case h_hard_atc=>k_is);(case h_hard_atk=>k_is))
  (case h_law_cell_at=>refine' K37.qa8q ?h_law_cell_ata ?h_law_cell_atl ?h_law_cell_atc ?h_law_cell_atk rfl (fun _ _ _ _ _ _ _ _  => rfl);(case h_law_cell_ata=>k_is);(case h_law_cell_atl=>k_is);(case h_law_cell_atc=>k_is);(case h_law_cell_atk=>k_is))
  (case h_law_by=>refine' K37.qb2q ?h_law_bya ?h_law_byl ?h_law_byc ?h_law_byk rfl (fun _ _ _ _ _ _ _ _ _  => rfl);(case h_law_bya=>k_is);(case h_law_byl=>k_is);(case h_law_byc=>k_is);(case h_law_byk=>k_is))
  (case h_law_next=>refine' K37.qa8q ?h_law_nexta ?h_law_nextl ?h_law_nextc ?h_law_nextk rfl (fun _ _ _ _ _ _ _ _  => rfl);(case h_law_nexta=>k_is);(case h_law_nextl=>k_is);(case h_law_nextc=>k_is);(case h_law_nextk=>k_is))
  (case h_law_hands=>refine' K37.qa4r ?h_law_handsa ?h_law_handsl ?h_law_handsc ?h_law_handsk rfl (fun _ _ _ _ _ _ _  => rfl);(case h_law_handsa=>k_is);(case h_law_handsl=>k_is);(case h_law_handsc=>k_is);(case h_law_handsk=>k_is))
  (case h_law_step=>refine' K37.qa4r ?h_law_stepa ?h_law_stepl ?h_law_stepc ?h_law_stepk rfl (fun _ _ _ _ _ _ _  => rfl);(case h_law_stepa=>k_is);(case h_law_stepl=>k_is);(case h_law_stepc=>k_is);(case h_law_stepk=>k_is))
  (case h_law_leaf=>refine' K37.qa8q ?h_law_leafa ?h_law_leafl ?h_law_leafc ?h_law_leafk rfl (fun _ _ _ _ _ _ _ _  => rfl);(case h_law_leafa=>k_is);(case h_law_leafl=>k_is);(case h_law_leafc=>k_is);(case h_law_leafk=>k_is))
  (case h_law_sentence=>refine' K37.qc6c ?h_law_sentencea ?h_law_sentencel ?h_law_sentencec ?h_law_sentencek rfl (fun _ _ _ _ _ _ _ _ _ _ _  => rfl);(case h_law_sentencea=>k_is);(case h_law_sentencel=>k_is);(case h_law_sentencec=>k_is);(case h_law_sentencek=>k_is))
  (case h_law_alike=>refine' K37.qa8q ?h_law_alikea ?h_law_alikel ?h_law_alikec ?h_law_alikek rfl (fun _ _ _ _ _ _ _ _  => rfl);(case h_law_alikea=>k_is);(case h_law_alikel=>k_is);(case h_law_alikec=>k_is);(case h_law_alikek=>k_is))
  (case h_law_laid=>refine' K37.qc6b ?h_law_laida ?h_law_laidl ?h_law_laidc ?h_law_laidk rfl (fun _ _ _ _ _ _ _ _ _ _  => rfl);(case h_law_laida=>k_is);(case h_law_laidl=>k_is);(case h_law_laidc=>k_is);(case h_law_laidk=>k_is))
  (case h_law_hards=>refine' K37.qb2q ?h_law_hardsa ?h_law_hardsl ?h_law_hardsc ?h_law_hardsk rfl (fun _ _ _ _ _ _ _ _ _  => rfl);(case h_law_hardsa=>k_is);(case h_law_hardsl=>k_is);(case h_law_hardsc=>k_is);(case h_law_hardsk=>k_is))
  (case a_law=>k_is)
  (case l_law=>k_is)
  (case c_law=>k_is)
  (case k_law=>k_is)
  (case aC_Frame=>k_is)
  (case a_init=>k_is)
  (case i_init=>k_is)
  (case l_init=>k_is)
  (case c_init=>k_is)
  (case k_init=>k_is)
  (case a_hard=>k_is)
  (case i_hard=>k_is)
  (case l_hard=>k_is)
  (case c_hard=>k_is)
  (case k_hard=>k_is)
  (case a_ishard=>k_is)
  (case i_ishard=>k_is)
  (case l_ishard=>k_is)
  (case c_ishard=>k_is)
  (case k_ishard=>k_is)
  (case pg_Frame=>k_is)
  (case hd_Frame=>k_is)
  (case po_Frame=>k_is)
  (case sa_Frame=>k_is)
  (case mk_Frame=>k_is)
  (case kc_Frame=>k_is)
  (case n_things=>k_is)
  (case n_parts=>k_is)
  (case n_binders=>k_is)
  (case n_rooms=>k_is)
  (case n_nots=>k_is)
  (case z_len=>k_is)
  (case z_range=>k_is)
  (case z_tuple=>k_is)
  (case z_bool=>k_is)
  (case z_isinstance=>k_is)
  (case z_reversed=>k_is)
  (case z_max=>k_is)
  (case z_zip=>k_is)
  (case z_list=>k_is)
  (case z_str=>k_is)
  (case z_enumerate=>k_is)
  (case z_dict=>k_is)
  (case z_int=>k_is)
  (case a_FORMS=>k_is)
  (case l_FORMS=>k_is)
  (case l_FORMS_0=>k_is)
  (case l_FORMS_1=>k_is)
  (case l_FORMS_2=>k_is)
  (case l_FORMS_3=>k_is)
  (case l_FORMS_4=>k_is)
  (case l_FORMS_5=>k_is)
  (case l_FORMS_6=>k_is)
  (case l_FORMS_7=>k_is)
  (case l_FORMS_8=>k_is)
  (case l_FORMS_9=>k_is)
end
end
