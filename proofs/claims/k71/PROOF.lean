import PyProof.Rows.All
import Wide.All
import OpenK.AllK
import Wide.FinOn
import Lean
import PyProof.EqAt
import PyProof.EqKinds
import PyProof.TupleCall
import PyProof.SetKind
import PyProof.SetNew
import PyProof.SetRoads
import PyProof.CollectIter
import PyProof.WalksMore
import PyProof.MakeMany
import PyProof.ZipIter
import PyProof.EnumMake
import PyProof.EnumFor
import KE.KDictOf
import KE.KEqDict
import PyProof.Rows.SortWalk
import PyProof.Rows.SortStr
import PyProof.ConsumeWalk
import KE.KItemsList
import PyProof.StrCalls
import PyProof.StrCaseBound
import PyProof.SetScanFacts
import KE.KSortTup
import PyProof.Rows.SortShellK
import PyProof.ReprRoads
import PyProof.ReprLen
import PyProof.ListRange
import PyProof.StrWalks
import PyProof.StrBlockI
import PyProof.SliceStr2
import PyProof.StrLawsIn
import KE.KDictList
import PyProof.FactsAll.set
import PyProof.CallFns
import PyProof.Ascii
import PySem.Challenge.RW_worldsay_k71_gone_through_once
set_option Elab.async false
set_option linter.all false
set_option maxRecDepth 100000
set_option maxHeartbeats 4000000
noncomputable section
section
namespace L2
open PySem PySem.Spec PyProof.Rows
abbrev Key:=Sum Int Str
noncomputable def qb0q:Key->Value->Bool
 | .inl k,v=>Value.isInt k v
 | .inr x,v=>Value.isStrOf x v
noncomputable def keyH(w:World):Key->Int
 | .inl k=>hashInt k
 | .inr x=>hashStr w x
theorem qa2p:∀ {k:Key} {v:Value},qb0q k v=true->(∃ i t,k=Sum.inl i/\v=Value.int i t) ∨ (∃ x t,k=Sum.inr x/\v=Value.str x t)
 | .inl i,v,h=>by
  obtain⟨t,e⟩:=Value.isInt_shape (k:=i) (v:=v) h
  exact .inl ⟨i,t,rfl,e⟩
 | .inr x,v,h=>by
  obtain⟨t,e⟩:=Value.isStrOf_shape (x:=x) (v:=v) h
  exact .inr ⟨x,t,rfl,e⟩
theorem qc8p(i:Int)(t:Tok):qb0q (.inl i) (.int i t)=true:=by simp [qb0q,Value.isInt]
theorem qc8q(x:Str)(t:Tok):qb0q (.inr x) (.str x t)=true:=by simp [qb0q,Value.isStrOf]
theorem key_ll(a b:Int):decide ((Sum.inl a:Key)=Sum.inl b)=(a == b):=by
 by_cases e:a=b
 ·subst e;simp
 ·have h:¬ (Sum.inl a:Key)=Sum.inl b:=fun q=>e (Sum.inl.inj q)
  rw [decide_eq_false h]
  exact(beq_eq_false_iff_ne.mpr e).symm
theorem key_rr(a b:Str):decide ((Sum.inr a:Key)=Sum.inr b)=decide (a=b):=by
 by_cases e:a=b
 ·subst e;simp
 ·have h:¬ (Sum.inr a:Key)=Sum.inr b:=fun q=>e (Sum.inr.inj q)
  rw [decide_eq_false h,decide_eq_false e]
theorem key_lr(a:Int)(b:Str):decide ((Sum.inl a:Key)=Sum.inr b)=false:=decide_eq_false (fun q=>nomatch q)
theorem key_rl(a:Str)(b:Int):decide ((Sum.inr a:Key)=Sum.inl b)=false:=decide_eq_false (fun q=>nomatch q)
noncomputable def qa1r(prog:Program)(w:World):PySem.KeyKind prog w Key where
 is:=qb0q
 hash:=keyH w
 inj:=fun v a b ha hb=>by
  rcases qa2p ha with⟨i,t,rfl,rfl⟩ | ⟨x,t,rfl,rfl⟩
  ·rcases qa2p hb with⟨j,u,rfl,e⟩ | ⟨y,u,rfl,e⟩
   ·injection e with e1 _;rw [e1]
   ·exact nomatch e
  ·rcases qa2p hb with⟨j,u,rfl,e⟩ | ⟨y,u,rfl,e⟩
   ·exact nomatch e
   ·injection e with e1 _;rw [e1]
 byValue:=fun k v h=>by
  rcases qa2p h with⟨i,t,rfl,rfl⟩ | ⟨x,t,rfl,rfl⟩<;>rfl
 pyHash:=fun hv h=>by
  rcases qa2p hv with⟨i,t,rfl,rfl⟩ | ⟨x,t,rfl,rfl⟩
  ·exact wpAny_pyHash_int h
  ·exact wpAny_pyHash_str h
 eqBool:=fun hu hv h=>by
  rcases qa2p hu with⟨i,t,rfl,rfl⟩ | ⟨x,t,rfl,rfl⟩
  ·rcases qa2p hv with⟨j,u,rfl,rfl⟩ | ⟨y,u,rfl,rfl⟩
   ·rw [key_ll] at h;exact wpAny_eqBool_int h
   ·rw [key_lr] at h;exact SeqAt.EqAt.int_str i t y u _ _ _ _ h
  ·rcases qa2p hv with⟨j,u,rfl,rfl⟩ | ⟨y,u,rfl,rfl⟩
   ·rw [key_rl] at h;exact SeqAt.EqAt.str_int x t j u _ _ _ _ h
   ·rw [key_rr] at h;exact wpAny_eqBool_str h
 «strs»:=fun k x t v h=>by
  rcases qa2p h with⟨i,u,rfl,e⟩ | ⟨y,u,rfl,e⟩
  ·exact nomatch e
  ·injection e with e1 _
   subst e1
   cases v<;>rfl
theorem qc3a(prog:Program)(w:World)(i:Int)(t:Tok):(qa1r prog w).is (.inl i) (.int i t)=true:=qc8p i t
theorem qb4v(prog:Program)(w:World)(x:Str)(t:Tok):(qa1r prog w).is (.inr x) (.str x t)=true:=qc8q x t
end L2
namespace L2
open PySem PySem.Spec PyProof.Rows
inductive V where
 | non | bl (b:Bool) | int (i:Int) | str (x:Str) | byt (b:Array UInt8) | flt (b:UInt64) | ref (a:Addr) | ty (n:String)
 deriving DecidableEq
noncomputable def RelV:V->Value->Prop
 | .non,u=>u=Value.none
 | .bl b,u=>u=Value.bool b
 | .int i,u=>∃ t,u=Value.int i t
 | .str x,u=>∃ t,u=Value.str x t
 | .byt b,u=>∃ t,u=Value.bytes b t
 | .flt b,u=>∃ t,u=Value.float b t
 | .ref a,u=>u=Value.ref a
 | .ty n,u=>u=Value.type n
abbrev Vals:List V->List Value->Prop:=Paired RelV
theorem Vals.length{xs:List V}{us:List Value}(r:Vals xs us):xs.length=us.length:=Paired.length r
theorem Vals.get:∀ {xs:List V} {us:List Value} {i:Nat} {x:V},Vals xs us->xs[i]? = some x->∃ u,us[i]? = some u/\RelV x u
 | _,_,_,_,.nil,e=>by simp at e
 | _,_,0,_,.cons r _,e=>by simp at e;subst e;exact⟨_,rfl,r⟩
 | _,_,i + 1,x,.cons _ t,e=>by
  obtain⟨u,h1,h2⟩:=Vals.get (i:=i) (x:=x) t (by simpa using e)
  exact⟨u,by simpa using h1,h2⟩
theorem Vals.set{x:V}{u:Value}(r:RelV x u):∀ {xs:List V} {us:List Value} (i:Nat),Vals xs us->Vals (xs.set i x) (us.set i u)
 | _,_,_,.nil=>.nil
 | _,_,0,.cons _ t=>.cons r t
 | _,_,i + 1,.cons q t=>.cons q (Vals.set r i t)
theorem Vals.append:∀ {xs ys:List V} {us ws:List Value},Vals xs us->Vals ys ws->Vals (xs ++ ys) (us ++ ws)
 | _,_,_,_,.nil,s=>s
 | _,_,_,_,.cons r t,s=>.cons r (Vals.append t s)
theorem Vals.take:∀ {xs:List V} {us:List Value} (n:Nat),Vals xs us->Vals (xs.take n) (us.take n)
 | _,_,0,_=>.nil
 | _,_,_ + 1,.nil=>.nil
 | _,_,n + 1,.cons r t=>.cons r (Vals.take n t)
theorem Vals.drop:∀ {xs:List V} {us:List Value} (n:Nat),Vals xs us->Vals (xs.drop n) (us.drop n)
 | _,_,0,r=>r
 | _,_,_ + 1,.nil=>.nil
 | _,_,n + 1,.cons _ t=>Vals.drop n t
noncomputable def RelO:Option V->Option Value->Prop
 | some v,some u=>RelV v u
 | none,none=>True
 | _,_=>False
noncomputable def KV{κ:Type}:List (κ × V)->List (κ × Value)->Prop:=Paired fun(p:κ × V) (q:κ × Value)=>p.1=q.1/\RelV p.2 q.2
noncomputable def kV:Key->V
 | .inl i=>.int i
 | .inr x=>.str x
inductive HO where
 /-- a list -/
 | lst (xs:List V)
 /-- a tuple (never changes) -/
 | tup (xs:List V)
 /-- a dict whose keys are ints and texts; one whose keys are tuples of ints and texts (the empty one is both) -/
 | dK (kvs:List (Key × V)) | dT (kvs:List (List Key × V))
 /-- a set of ints: its members, its size -/
 | set (S:Int->Bool) (n:Nat)
 /-- an instance of the class at C, its dict at dx, its attributes -/
 | ins (C dx:Addr) (fs:List (Str × V))
 /-- the dict of the instance at x -/
 | own (x:Addr)
 /-- the dict of an exception -/
 | xd (fs:List (Str × V))
 /-- a bound method, f of x -/
 | met (f x:Addr)
 /-- a range object lo, lo + 1, .. below hi -/
 | rng (lo hi:Int)
 /-- a thing that is known to the object (the script; a dict while a loop walks it): read, never written while it is so -/
 | frz (o:Obj) (u:HO)
 /-- a code object's table -/
 | tbl (ps:Array Value)
 /-- any other thing, by what is true of its one object (a def of one's own: SetO a S n := HO.ext fun h => ..) -/
 | ext (φ:Heap->Prop)
abbrev Hp:=Addr->Option HO
noncomputable def upd(H:Hp)(a:Addr)(o:HO):Hp:=fun b=>if b=a then some o else H b
theorem qa1d{H:Hp}{a:Addr}{o:HO}:upd H a o a=some o:=by unfold upd;rw [if_pos rfl]
theorem qa1h{H:Hp}{a b:Addr}{o:HO}(h:b ≠ a):upd H a o b=H b:=by unfold upd;rw [if_neg h]
theorem qa8p{H:Hp}{a b:Addr}{o u:HO}(h:H a=some o)(h':H b=some u)(d:o ≠ u):a ≠ b:=by
 intro e;subst e;rw [h] at h';exact d (Option.some.inj h')
theorem qa3g{H:Hp}{a b:Addr}{o:HO}(h:H a=some o)(h':H b=none):a ≠ b:=by
 intro e;subst e;rw [h] at h';cases h'
def qa6b(h:Heap)(a:Addr)(items:Array Value):Prop:=∃ o,h.get? a=some o/\(o.cls=.type "tuple" /\ o.dict=none)/\∃ n,o.data=.seq items n
theorem qa6b.tup{h:Heap}{a:Addr}{items:Array Value}(x:qa6b h a items):IsTup h a items:=by obtain⟨o,e,c,n,d⟩:=x;exact⟨o,e,c.1,n,d⟩
theorem qa6b.new(h:Heap)(xs:Array Value):qa6b (h.push { cls:=.type "tuple",data:=.seq xs }) h.objs.size xs:=⟨_,Heap.get?_push_size _ rfl,⟨rfl,rfl⟩,_,rfl⟩
section
variable(P:Program)(w:World)
noncomputable def qa2q(H:Hp)(h:Heap)(a:Addr):HO->Prop
 | .lst xs=>xs.length <= sizeLine/\∃ (its:List Value) (n:Nat),Vals xs its/\h.get? a=some { cls:=.type "list",data:=.seq its.toArray n }
 | .tup xs=>xs.length <= sizeLine/\∃ its:List Value,Vals xs its/\qa6b h a its.toArray
 | .dK kvs=>kvs.length <= sizeLine/\(a == sysModules)=false/\∃ vs,KV kvs vs/\h.DictOf (qa1r P w) a vs
 | .dT kvs=>kvs.length <= sizeLine/\(a == sysModules)=false/\∃ xs:List (List Key × Addr × Value),
   Paired (fun(p:List Key × V) (q:List Key × Addr × Value)=>p.1=q.1/\H q.2.1=some (.tup (p.1.map kV))/\RelV p.2 q.2.2) kvs xs /\
   ∃ o es ep,h.get? a=some o/\o.ExactDict/\o.data=.dict es ep/\es.toList=xs.map (entryOfKey (tupleKind (qa1r P w)))/\(xs.map (·.1)).Nodup
 | .set S n=>h.SetOf (intKind P w) a S n
 | .ins C dx fs=>H dx=some (.own a)/\fs.length <= 1000/\dx ≠ a/\h.get? a=some (PySem.W.instObj C dx) /\
   ∃ mA,h.Ns1 dx mA/\(∀ f,RelO (fs.lookup f) (mA f))/\PySem.Within mA (fs.map (·.1))
 | .own _=>∃ o,h.get? a=some o
 | .xd fs=>∃ mA,h.Ns1 a mA/\∀ f,RelO (fs.lookup f) (mA f)
 | .rng lo hi=>∃ t u v,h.get? a=some { cls:=.type "range",data:=.fields #[.int lo t,.int hi u,.int 1 v] }
 | .frz o u=>h.get? a=some o/\qa2q H h a u
 | .tbl ps=>h.get? a=some { cls:=.none,data:=.fields ps }
 | .met f x=>h.get? a=some (PySem.W.methodObj (.ref f) (.ref x))
 | .ext φ=>φ h/\(∃ o,h.get? a=some o)/\∀ h1 h2:Heap,φ h1->(∀ o,h1.get? a=some o->h2.get? a=some o)->φ h2
def HOk(H:Hp)(h:Heap):Prop:=∀ a o,H a=some o->qa2q P w H h a o
end
section
variable{P:Program}{w:World}{H H':Hp}{h h':Heap}{a:Addr}{o:HO}
theorem qa2q.lt(x:qa2q P w H h a o):a < h.objs.size:=by
 cases o with
 | lst xs=>obtain⟨_,_,_,_,e⟩:=x;exact Heap.lt_size e
 | tup xs=>obtain⟨_,_,_,p⟩:=x;exact p.tup.lt
 | dK kvs=>obtain⟨_,_,_,_,o,_,_,e,_⟩:=x;exact Heap.lt_size e
 | dT kvs=>obtain⟨_,_,_,_,o,_,_,e,_⟩:=x;exact Heap.lt_size e
 | set S n=>obtain⟨o,_,_,_,e,_⟩:=x;exact Heap.lt_size e
 | ins C dx fs=>obtain⟨_,_,_,e,_⟩:=x;exact Heap.lt_size e
 | own y=>obtain⟨_,e⟩:=x;exact Heap.lt_size e
 | xd fs=>obtain⟨_,⟨_,_,_,e,_⟩,_⟩:=x;exact Heap.lt_size e
 | rng lo hi=>obtain⟨_,_,_,e⟩:=x;exact Heap.lt_size e
 | frz ob u=>obtain⟨e,_⟩:=x;exact Heap.lt_size e
 | tbl ps=>exact Heap.lt_size (show h.get? a=some _ from x)
 | met f y=>exact Heap.lt_size (show h.get? a=some _ from x)
 | ext φ=>obtain⟨_,⟨_,e⟩,_⟩:=x;exact Heap.lt_size e
theorem Paired.mapP{α β:Type}{F G:α->β->Prop}:∀ {l₁:List α} {l₂:List β},Paired F l₁ l₂->(∀ a b,F a b->G a b)->Paired G l₁ l₂
 | _,_,.nil,_=>.nil
 | _,_,.cons r t,f=>.cons (f _ _ r) (Paired.mapP t f)
theorem Paired.imp'{α β:Type}{F G:α->β->Prop}(f:∀ a b,F a b->G a b){l₁:List α}{l₂:List β}(r:Paired F l₁ l₂):Paired G l₁ l₂:=Paired.mapP r f
theorem qa2q.stay(x:qa2q P w H h a o)(k:∀ b u,(b=a ∨ H b=some (.own a))->h.get? b=some u->h'.get? b=some u)
  (ho:∀ b,H b=some (.own a)->H' b=some (.own a)) (ht:∀ b xs,H b=some (.tup xs)->H' b=some (.tup xs)):qa2q P w H' h' a o:=by
 induction o with
 | lst xs=>obtain⟨z,its,n,r,e⟩:=x;exact⟨z,its,n,r,k _ _ (.inl rfl) e⟩
 | tup xs=>obtain⟨z,its,r,ob,e,c⟩:=x;exact⟨z,its,r,ob,k _ _ (.inl rfl) e,c⟩
 | dK kvs=>obtain⟨z,y,vs,r,ob,es,ep,e,c⟩:=x;exact⟨z,y,vs,r,ob,es,ep,k _ _ (.inl rfl) e,c⟩
 | dT kvs =>
  obtain⟨z,y,xs,r,ob,es,ep,e,c⟩:=x
  exact⟨z,y,xs,Paired.mapP r fun p q z=>⟨z.1,ht _ _ z.2.1,z.2.2⟩,ob,es,ep,k _ _ (.inl rfl) e,c⟩
 | set S n=>obtain⟨ob,es,ep,t,e,c⟩:=x;exact⟨ob,es,ep,t,k _ _ (.inl rfl) e,c⟩
 | ins C dx fs =>
  obtain⟨d,z,ne,e,mA,⟨od,es,ep,e2,c⟩,r⟩:=x
  exact⟨ho _ d,z,ne,k _ _ (.inl rfl) e,mA,⟨od,es,ep,k _ _ (.inr d) e2,c⟩,r⟩
 | own y=>obtain⟨ob,e⟩:=x;exact⟨ob,k _ _ (.inl rfl) e⟩
 | xd fs=>obtain⟨mA,⟨od,es,ep,e,c⟩,r⟩:=x;exact⟨mA,⟨od,es,ep,k _ _ (.inl rfl) e,c⟩,r⟩
 | rng lo hi=>obtain⟨t,u,v,e⟩:=x;exact⟨t,u,v,k _ _ (.inl rfl) e⟩
 | frz ob u ih=>obtain⟨e,q⟩:=x;exact⟨k _ _ (.inl rfl) e,ih q⟩
 | tbl ps =>
  have e:h.get? a=some { cls:=.none,data:=.fields ps }:=x
  show h'.get? a=some { cls:=.none,data:=.fields ps }
  exact k a _ (.inl rfl) e
 | met f y =>
  have e:h.get? a=some (PySem.W.methodObj (.ref f) (.ref y)):=x
  show h'.get? a=some (PySem.W.methodObj (.ref f) (.ref y))
  exact k a _ (.inl rfl) e
 | ext φ=>obtain⟨p,⟨o,e⟩,st⟩:=x;exact⟨st _ _ p fun o q=>k _ _ (.inl rfl) q,⟨o,k _ _ (.inl rfl) e⟩,st⟩
theorem HOk.lt(x:HOk P w H h)(e:H a=some o):a < h.objs.size:=(x a o e).lt
theorem HOk.fresh(x:HOk P w H h)(e:h.objs.size <= a):H a=none:=by
 cases q:H a with
 | none=>rfl
 | some u=>exact absurd (Nat.lt_of_lt_of_le (x.lt q) e) (Nat.lt_irrefl _)
theorem HOk.kept(x:HOk P w H h)(k:∀ b u,h.get? b=some u->h'.get? b=some u):HOk P w H h':=fun a o e =>
 (x a o e).stay (fun b u _ q=>k b u q) (fun _ q=>q) fun _ _ q=>q
theorem HOk.laid(x:HOk P w H h)(k:∀ b u,h.get? b=some u->h'.get? b=some u)(hp:h.objs.size <= a)(new:qa2q P w (upd H a o) h' a o):HOk P w (upd H a o) h':=fun b u e=>by
 have hn:=x.fresh hp
 by_cases hb:b=a
 ·subst hb;rw [qa1d] at e;cases e;exact new
 ·rw [qa1h hb] at e
  exact(x b u e).stay (fun c v _ q=>k c v q) (fun c q=>by rw [qa1h (qa3g q hn)];exact q) fun c xs q=>by rw [qa1h (qa3g q hn)];exact q
end
def Rd(H:Hp)(a:Addr)(u:HO):Prop:=H a=some u ∨ ∃ o,H a=some (.frz o u)
theorem Rd.ok{P:Program}{w:World}{H:Hp}{h:Heap}{a:Addr}{u:HO}(r:Rd H a u)(x:HOk P w H h):qa2q P w H h a u:=by
 rcases r with r | ⟨o,r⟩
 ·exact x a u r
 ·obtain⟨_,q⟩:=x a _ r
  exact q
noncomputable def Mut:Option HO->Prop
 | some (.lst _)=>True
 | some (.dK _)=>True
 | some (.dT _)=>True
 | some (.set _ _)=>True
 | some (.ins _ _ _)=>True
 | some (.ext _)=>True
 | _=>False
section
variable{P:Program}{w:World}{H:Hp}{h h':Heap}{x e:Addr}{o':HO}
theorem HOk.write(ok:HOk P w H h)(mu:Mut (H x))(he:e=x ∨ H e=some (.own x))(k:∀ b u,b ≠ e->h.get? b=some u->h'.get? b=some u)(heo:∃ u,h'.get? e=some u)
  (new:qa2q P w (upd H x o') h' x o'):HOk P w (upd H x o') h':=fun b u q=>by
 have nown:∀ c y,H c=some (.own y)->c ≠ x:=fun c y r z=>by subst z;rw [r] at mu;exact mu
 have ntup:∀ c xs,H c=some (.tup xs)->c ≠ x:=fun c xs r z=>by subst z;rw [r] at mu;exact mu
 by_cases hb:b=x
 ·subst hb;rw [qa1d] at q;cases q;exact new
 ·rw [qa1h hb] at q
  by_cases hbe:b=e
  ·have q':H b=some (.own x):=by
    rcases he with z | z
    ·exact absurd (hbe.trans z) hb
    ·rw [hbe];exact z
   rw [q] at q';cases q'
   obtain⟨v,hv⟩:=heo
   exact⟨v,by rw [hbe];exact hv⟩
  ·refine(ok b u q).stay (fun c v hc r=>k c v ?_ r) (fun c r=>by rw [qa1h (nown c b r)];exact r) fun c xs r=>by rw [qa1h (ntup c xs r)];exact r
   rcases hc with rfl | hc
   ·exact hbe
   ·rintro rfl
    rcases he with z | z
    ·exact nown c b hc z
    ·rw [hc] at z;cases z;exact hb rfl
end
structure Un(fs ex:List Addr)(H H':Hp)(h h':Heap):Prop where
 keep:∀ b o,h.get? b=some o->H b=none->b ∉ fs->b ∉ ex->h'.get? b=some o
 slot:∀ b o,h.get? b=some o->H b=none->b ∈ fs->b ∉ ex->∃ sl,h'.get? b=some { o with slots:=sl }
 free:∀ b o,h.get? b=some o->H b=none->b ∉ ex->H' b=none
 there:∀ b o,h.get? b=some o->b ∉ ex->∃ o',h'.get? b=some o'
 tups:∀ b xs,H b=some (.tup xs)->H' b=some (.tup xs)
 frzs:∀ b o u,H b=some (.frz o u)->H' b=some (.frz o u)
 tbls:∀ b ps,H b=some (.tbl ps)->∃ more,H' b=some (.tbl (ps ++ more))
section
variable{fs fs' ex ex':List Addr}{H H1 H2:Hp}{h h1 h2 h':Heap}{a x e:Addr}{o:HO}
theorem Un.any(u:Un fs ex H H1 h h1){b:Addr}{ob:Obj}(q:h.get? b=some ob)(n:H b=none)(hx:b ∉ ex):∃ sl,h1.get? b=some { ob with slots:=sl }:=by
 by_cases hb:b ∈ fs
 ·exact u.slot b ob q n hb hx
 ·exact⟨ob.slots,u.keep b ob q n hb hx⟩
theorem Un.kept(k:∀ b u,h.get? b=some u->h'.get? b=some u):Un fs ex H H h h':=
 ⟨fun b ob q _ _ _=>k b ob q,fun b ob q _ _ _=>⟨ob.slots,k b ob q⟩,fun _ _ _ n _=>n,fun b ob q _=>⟨ob,k b ob q⟩,fun _ _ q=>q,fun _ _ _ q=>q,fun _ ps q=>⟨#[],by rw [q];simp⟩⟩
theorem Un.refl:Un fs ex H H h h:=Un.kept fun _ _ q=>q
theorem Un.laid(k:∀ b u,h.get? b=some u->h'.get? b=some u)(hp:h.objs.size <= a)(hn:H a=none):Un fs ex H (upd H a o) h h' where
 keep:=fun b u q _ _ _=>k b u q
 slot:=fun b u q _ _ _=>⟨u.slots,k b u q⟩
 free:=fun b u q n _=>by rw [qa1h (Nat.ne_of_lt (Nat.lt_of_lt_of_le (Heap.lt_size q) hp))];exact n
 there:=fun b u q _=>⟨u,k b u q⟩
 tups:=fun b xs q=>by rw [qa1h (qa3g q hn)];exact q
 frzs:=fun b u xs q=>by rw [qa1h (qa3g q hn)];exact q
 tbls:=fun b ps q=>⟨#[],by rw [qa1h (qa3g q hn),q];simp⟩
theorem Un.write(mu:Mut (H x))(he:e=x ∨ H e=some (.own x))(k:∀ b u,b ≠ e->h.get? b=some u->h'.get? b=some u)(heo:∃ u,h'.get? e=some u):Un fs ex H (upd H x o) h h':=by
 have hx:∀ b,H b=none->b ≠ x:=fun b n z=>by subst z;rw [n] at mu;exact mu
 have hb:∀ b,H b=none->b ≠ e:=fun b n z=>by
  subst z
  rcases he with r | r
  ·exact hx b n r
  ·rw [n] at r;cases r
 have hm:∀ b u,H b=some u->¬ Mut (some u)->b ≠ x:=fun b u q nm z=>by subst z;rw [q] at mu;exact nm mu
 refine⟨fun b u q n _ _=>k b u (hb b n) q,fun b u q n _ _=>⟨u.slots,k b u (hb b n) q⟩,fun b u q n _=>by rw [qa1h (hx b n)];exact n,fun b u q _=>?_,
  fun b xs q=>by rw [qa1h (hm b _ q fun z=>z)];exact q,fun b u xs q=>by rw [qa1h (hm b _ q fun z=>z)];exact q,fun b ps q=>⟨#[],by rw [qa1h (hm b _ q fun z=>z),q];simp⟩⟩
 by_cases hbe:b=e
 ·subst hbe;exact heo
 ·exact⟨u,k b u hbe q⟩
end
noncomputable def trk(h:Heap)(H:Hp):List Addr:=(List.range h.objs.size).filter fun a=>(H a).isSome
noncomputable def hidT(h:Heap)(H:Hp):Heap:=PySem.W.hideAll h (trk h H)
theorem qc8r(h:Heap)(H:Hp):(hidT h H).objs.size=h.objs.size:=PySem.W.hideAll_size _ _
theorem qd0s{h:Heap}{H:Hp}{b:Addr}{o:Obj}(e:h.get? b=some o)(n:H b=none):(hidT h H).get? b=some o:=
 PySem.W.hideAll_get _ e fun hm=>by
  have q:(H b).isSome=true:=(List.mem_filter.mp hm).2
  rw [n] at q;simp at q
theorem of_hidT{h:Heap}{H:Hp}{b:Addr}{o:Obj}(e:(hidT h H).get? b=some o):h.get? b=some o/\H b=none:=by
 have e':h.get? b=some o:=PySem.W.of_hideAll (trk h H) e
 refine⟨e',?_⟩
 cases q:H b with
 | none=>rfl
 | some x =>
  have hm:b ∈ trk h H:=List.mem_filter.mpr ⟨List.mem_range.mpr (Heap.lt_size e'),by simp [q]⟩
  have z:(hidT h H).get? b=none:=PySem.W.hideAll_none (trk h H) hm
  rw [z] at e;cases e
noncomputable def allNews(g h:Heap)(L:Addr):List (Addr × Obj):=(List.range h.objs.size).filterMap fun a=>if a=L ∨ (g.get? a).isSome=true then none else(h.get? a).map fun o=>(a,o)
noncomputable def rest(g h:Heap)(L d:Addr):List (Addr × Obj):=(allNews g h L).filter fun p=>decide (p.1 ≠ d)
end L2
namespace L2
open PySem PySem.Spec PyProof.Rows
structure Mod(K:PySem.W.Frag)(mg:Str->Option Value)(base:Heap):Prop where
 kin:K.In base
 glob:base.Ns mainGlobals mg
 blt:∃ mb,base.Ns builtinsNs mb/\∀ x:Str,x ≠ "__name__" -> mb x=bootBuiltins x
 nolimit:base.NoLimit
structure Cx where
 prog:Program
 w:World
 K:PySem.W.Frag
 mg:Str->Option Value
 base:Heap
 A:Around
 N:List Str
 s₀:Shared
 H₀:Hp
 env:Env
 outer:List Env
 stack:List Env
 ex:List Addr
 fn:Str->Bool
 calm:Bool
 pn:List (Addr × Obj)
 xe:Value->Shared->Prop
noncomputable def frs(l:List Env):List Addr:=l.filterMap (·.frame)
abbrev Cx.fs(X:Cx):List Addr:=frs X.outer
def Vis(sc:Scope)(x:Str):Prop:=sc.names.lookup x=some .local ∨ sc.names.lookup x=some .cell ∨ sc.names.lookup x=some .free
def Loc(sc:Scope)(x:Str):Prop:=sc.names.lookup x=some .local ∨ sc.names.lookup x=some .cell
def Look(env:Env)(h:Heap)(m:Str->Option Value)(x:Str)(u:Value):Prop:=
 (env.kindOf x=some .local/\m x=some u) ∨ ((env.kindOf x=some .cell ∨ env.kindOf x=some .free)/\∃ c,env.cells.lookup x=some c/\h.IsCell c (some u))
structure Cx.Ok(X:Cx):Prop where
 mod:Mod X.K X.mg X.base
 kind:X.env.scope.kind=.function
 glob:X.env.globals=mainGlobals
 blt:X.env.builtins=builtinsNs
 above:X.s₀.heap.objs.size <= X.env.locals
 inj:∀ x y c,X.env.cells.lookup x=some c->X.env.cells.lookup y=some c->x=y
 has:∀ x,(X.env.kindOf x=some .cell ∨ X.env.kindOf x=some .free)->∃ c,X.env.cells.lookup x=some c
 cab:∀ x c,X.fn x=true->X.env.cells.lookup x=some c->X.s₀.heap.objs.size <= c
 hd:X.calm=true->X.A.handled=none
 frames:X.A.frames=some X.stack
 stk:X.stack=X.outer ∨ (X.stack=X.env :: X.outer/\X.env.frame=some X.env.locals)
 exf:∀ b ∈ X.ex,b ≠ X.env.locals/\∀ x c,X.env.cells.lookup x=some c->c ≠ b
 bs:∀ b o,X.base.get? b=some o->X.s₀.heap.get? b=some o/\X.H₀ b=none
 bsz:X.base.objs.size <= X.s₀.heap.objs.size
 noex:∀ b o,X.base.get? b=some o->b ∉ X.ex
 exfs:∀ b ∈ X.ex,b ∉ X.fs
 funs:X.s₀.heap.FunFrames X.base X.outer
 frf:∀ b ∈ X.fs,X.H₀ b=none
structure Inv(X:Cx)(pins:List (Addr × Obj))(σ:List (Option V))(H:Hp)(s:Shared):Prop where
 ok:X.Ok
 os:s.os=X.s₀.os
 bare:AllBare s.gens
 base:Un X.fs X.ex X.H₀ H X.s₀.heap s.heap
 loc:∃ m,s.heap.Ns X.env.locals m/\∀ (i:Nat) (x:Str) (v:V),X.N[i]? = some x->σ[i]? = some (some v)->Vis X.env.scope x->∃ u,RelV v u/\Look X.env s.heap m x u
 cell:∀ x c,X.env.cells.lookup x=some c->∃ v,s.heap.IsCell c v
 free:H X.env.locals=none
 freeC:∀ x c,X.env.cells.lookup x=some c->H c=none
 pin:∀ p ∈ X.pn ++ pins,s.heap.get? p.1=some p.2/\H p.1=none/\p.1 ≠ X.env.locals/\p.1 ∉ X.fs/\∀ v,p.2.data ≠ .cell v
 hok:HOk X.prog X.w H s.heap
 len:σ.length=X.N.length
section
variable{X:Cx}{pins:List (Addr × Obj)}{σ:List (Option V)}{H H':Hp}{s:Shared}{h':Heap}
theorem Cx.Ok.nofr(ok:X.Ok){b:Addr}{o:Obj}(e:X.base.get? b=some o):b ∉ X.fs:=fun hb=>by
 have:=(ok.funs.mem hb).1
 rw [e] at this;cases this
theorem Inv.bs(I:Inv X pins σ H s):∀ b o,X.base.get? b=some o->s.heap.get? b=some o/\H b=none:=fun b o e =>
 ⟨I.base.keep b o (I.ok.bs b o e).1 (I.ok.bs b o e).2 (I.ok.nofr e) (I.ok.noex b o e),I.base.free b o (I.ok.bs b o e).1 (I.ok.bs b o e).2 (I.ok.noex b o e)⟩
theorem Inv.bk(I:Inv X pins σ H s):∀ b o,X.base.get? b=some o->s.heap.get? b=some o:=fun b o e=>(I.bs b o e).1
theorem Inv.mod(I:Inv X pins σ H s):Mod X.K X.mg X.base:=I.ok.mod
theorem Inv.kIn(I:Inv X pins σ H s):X.K.In s.heap:=I.ok.mod.kin.keeps I.bk
theorem Inv.lt(I:Inv X pins σ H s):X.env.locals < s.heap.objs.size:=by obtain⟨_,hn,_⟩:=I.loc;exact hn.lt
theorem Inv.sz(I:Inv X pins σ H s):X.s₀.heap.objs.size <= s.heap.objs.size:=Nat.le_trans I.ok.above (Nat.le_of_lt I.lt)
theorem Inv.nofs(I:Inv X pins σ H s){a:Addr}(h:s.heap.objs.size <= a):a ∉ X.fs:=fun hb=>by
 obtain⟨_,o,ho,_⟩:=I.ok.funs.mem hb
 exact absurd (Nat.lt_of_lt_of_le (Heap.lt_size ho) (Nat.le_trans I.sz h)) (Nat.lt_irrefl _)
theorem Inv.cne(I:Inv X pins σ H s):∀ x c,X.env.cells.lookup x=some c->c ≠ X.env.locals:=fun x c e z=>by
 obtain⟨v,o,ho,hd⟩:=I.cell x c e
 obtain⟨m,⟨o',es,ep,ho',hd',_⟩,_⟩:=I.loc
 rw [z,ho'] at ho;cases ho;rw [hd'] at hd;cases hd
theorem Inv.funs(I:Inv X pins σ H s):s.heap.FunFrames X.base X.outer:=by
 have all:∀ (l:List Env),(∀ b ∈ frs l,b ∈ X.fs)->X.s₀.heap.FunFrames X.base l->s.heap.FunFrames X.base l:=by
  intro l
  induction l with
  | nil=>intro _ _;trivial
  | cons env r ih =>
   intro hs hl
   obtain⟨hk,⟨L,o,hf,hn,ho,hd⟩,hr⟩:=hl
   have hL:L ∈ X.fs:=hs L (by unfold frs;rw [List.filterMap_cons,hf];exact List.mem_cons_self)
   obtain⟨sl,e⟩:=I.base.slot L o ho (I.ok.frf L hL) hL fun z=>I.ok.exfs L z hL
   exact⟨hk,⟨L,_,hf,hn,e,hd⟩,ih (fun b hb=>hs b (by unfold frs;rw [List.filterMap_cons,hf];exact List.mem_cons_of_mem _ hb)) hr⟩
 exact all X.outer (fun _ hb=>hb) I.ok.funs
theorem Inv.stack(I:Inv X pins σ H s):s.heap.FunFrames X.base X.stack:=by
 rcases I.ok.stk with e | ⟨e,hf⟩
 ·rw [e];exact I.funs
 ·rw [e]
  obtain⟨m,hn,_⟩:=I.loc
  refine .cons (by rw [I.ok.kind];decide) hf hn ?_ I.funs
  exact Heap.get?_none_of_le (Nat.le_trans I.ok.bsz I.ok.above)
theorem Inv.stkSub(I:Inv X pins σ H s):∀ b ∈ frs X.stack,b ∈ X.env.locals :: X.fs:=fun b hb=>by
 rcases I.ok.stk with e | ⟨e,hf⟩
 ·rw [e] at hb;exact List.mem_cons_of_mem _ hb
 ·rw [e] at hb
  unfold frs at hb
  rw [List.filterMap_cons,hf] at hb
  exact hb
theorem Inv.stkFree(I:Inv X pins σ H s):∀ b ∈ frs X.stack,H b=none:=fun b hb=>by
 rcases List.mem_cons.mp (I.stkSub b hb) with e | hb
 ·rw [e];exact I.free
 ·obtain⟨_,o,ho,_⟩:=I.ok.funs.mem hb
  exact I.base.free b o ho (I.ok.frf b hb) fun z=>I.ok.exfs b z hb
theorem Inv.step{g':Array GenState}{t':Nat}{d':Drawn}{ch:List Addr}(I:Inv X pins σ H s)
  (hch:∀ b ∈ ch,(b ∈ X.ex ∨ X.s₀.heap.objs.size <= b)/\b ≠ X.env.locals/\(∀ x c,X.env.cells.lookup x=some c->c ≠ b)/\∀ p ∈ X.pn ++ pins,p.1 ≠ b)
  (keep:∀ b o,b ≠ X.env.locals->b ∉ X.fs->b ∉ ch->s.heap.get? b=some o->H b=none->h'.get? b=some o)
  (slot:∀ b o,b ≠ X.env.locals->b ∈ X.fs->b ∉ ch->s.heap.get? b=some o->H b=none->∃ sl,h'.get? b=some { o with slots:=sl }) (free:∀ b o,b ∉ ch->s.heap.get? b=some o->H b=none->H' b=none)
  (there:∀ b o,b ∉ ch->s.heap.get? b=some o->∃ o',h'.get? b=some o')
  (tups:∀ b xs,H b=some (.tup xs)->H' b=some (.tup xs)) (frzs:∀ b o u,H b=some (.frz o u)->H' b=some (.frz o u)) (tbls:∀ b ps,H b=some (.tbl ps)->∃ more,H' b=some (.tbl (ps ++ more)))
  (ns:∀ m,s.heap.Ns X.env.locals m->h'.Ns X.env.locals m) (hok:HOk X.prog X.w H' h') (hg:AllBare g') :
  Inv X pins σ H' { s with heap:=h',gens:=g',drawn:=d',toks:=t' }:=by
 have neL:∀ b o,X.s₀.heap.get? b=some o->b ≠ X.env.locals:=fun b o e=>Nat.ne_of_lt (Nat.lt_of_lt_of_le (Heap.lt_size e) I.ok.above)
 have neC:∀ b o,X.s₀.heap.get? b=some o->b ∉ X.ex->b ∉ ch:=fun b o e hx hb=>by
  rcases (hch b hb).1 with z | z
  ·exact hx z
  ·exact absurd (Nat.lt_of_lt_of_le (Heap.lt_size e) z) (Nat.lt_irrefl _)
 have cellK:∀ x c,X.env.cells.lookup x=some c->∀ v,s.heap.IsCell c v->h'.IsCell c v:=fun x c e v hq8=>by
  obtain⟨o,ho,hd⟩:=hq8
  have nch:c ∉ ch:=fun z=>(hch c z).2.2.1 x c e rfl
  by_cases hc:c ∈ X.fs
  ·obtain⟨sl,q⟩:=slot c o (I.cne x c e) hc nch ho (I.freeC x c e)
   exact⟨_,q,hd⟩
  ·exact⟨o,keep c o (I.cne x c e) hc nch ho (I.freeC x c e),hd⟩
 refine⟨I.ok,I.os,hg,⟨fun b o e n hb hx=>?_,fun b o e n hb hx=>?_,fun b o e n hx=>?_,fun b o e hx=>?_,fun b xs e=>tups b xs (I.base.tups b xs e),fun b o xs e=>frzs b o xs (I.base.frzs b o xs e),fun b ps e=>?_⟩,?_,fun x c e=>?_,?_,fun x c e=>?_,fun p hp=>?_,hok,I.len⟩
 ·exact keep b o (neL b o e) hb (neC b o e hx) (I.base.keep b o e n hb hx) (I.base.free b o e n hx)
 ·obtain⟨sl,e1⟩:=I.base.slot b o e n hb hx
  obtain⟨sl',e2⟩:=slot b _ (neL b o e) hb (neC b o e hx) e1 (I.base.free b o e n hx)
  exact⟨sl',e2⟩
 ·obtain⟨o',e1⟩:=I.base.there b o e hx
  exact free b o' (neC b o e hx) e1 (I.base.free b o e n hx)
 ·obtain⟨o',e1⟩:=I.base.there b o e hx
  exact there b o' (neC b o e hx) e1
 ·obtain⟨m1,e1⟩:=I.base.tbls b ps e
  obtain⟨m2,e2⟩:=tbls b _ e1
  exact⟨m1 ++ m2,by rw [e2,Array.append_assoc]⟩
 ·obtain⟨m,hn,hl⟩:=I.loc
  refine⟨m,ns m hn,fun i x v e1 e2 e3=>?_⟩
  obtain⟨u,r,l⟩:=hl i x v e1 e2 e3
  refine⟨u,r,?_⟩
  rcases l with l | ⟨k,c,e,z⟩
  ·exact .inl l
  ·exact .inr ⟨k,c,e,cellK x c e _ z⟩
 ·obtain⟨v,z⟩:=I.cell x c e
  exact⟨v,cellK x c e v z⟩
 ·obtain⟨m,⟨o,_,_,ho,_⟩,_⟩:=I.loc
  exact free _ o (fun z=>(hch _ z).2.1 rfl) ho I.free
 ·obtain⟨v,o,ho,hd⟩:=I.cell x c e
  exact free c o (fun z=>(hch c z).2.2.1 x c e rfl) ho (I.freeC x c e)
 ·obtain⟨e,n,ne,nf,d⟩:=I.pin p hp
  have nch:p.1 ∉ ch:=fun z=>(hch p.1 z).2.2.2 p hp rfl
  exact⟨keep p.1 p.2 ne nf nch e n,free p.1 p.2 nch e n,ne,nf,d⟩
theorem Inv.un{t':Nat}(I:Inv X pins σ H s)(u:Un X.fs [] H H' s.heap h')(hok:HOk X.prog X.w H' h'):Inv X pins σ H' { s with heap:=h',toks:=t' }:=by
 obtain⟨m,⟨o,es,ep,ho,r⟩,_⟩:=id I.loc
 obtain⟨sl,hL⟩:=u.any ho I.free (by simp)
 exact I.step (g':=s.gens) (d':=s.drawn) (ch:=[]) (fun _ z=>nomatch z) (fun b o _ hb _ e n=>u.keep b o e n hb (by simp)) (fun b o _ hb _ e n=>u.slot b o e n hb (by simp)) (fun b o _ e n=>u.free b o e n (by simp)) (fun b o _ e=>u.there b o e (by simp)) u.tups u.frzs u.tbls (fun m' hm=>by
  obtain⟨o',es',ep',ho',r'⟩:=hm
  rw [ho] at ho';cases ho'
  exact⟨_,es',ep',hL,r'⟩) hok I.bare
theorem Inv.call{g':Array GenState}{t':Nat}{d':Drawn}{ch:List Addr}(I:Inv X pins σ H s)(u:Un (frs X.stack) ch H H' s.heap h')(hok:HOk X.prog X.w H' h')(hg:AllBare g')
  (hch:∀ b ∈ ch,(b ∈ X.ex ∨ X.s₀.heap.objs.size <= b)/\b ≠ X.env.locals/\(∀ x c,X.env.cells.lookup x=some c->c ≠ b)/\∀ p ∈ X.pn ++ pins,p.1 ≠ b) :
  Inv X pins σ H' { s with heap:=h',gens:=g',drawn:=d',toks:=t' }:=by
 obtain⟨m,⟨o,es,ep,ho,r⟩,_⟩:=id I.loc
 obtain⟨sl,hL⟩:=u.any ho I.free fun z=>(hch _ z).2.1 rfl
 exact I.step (ch:=ch) hch (fun b o hL hb hc e n=>u.keep b o e n (fun z=>(List.mem_cons.mp (I.stkSub b z)).elim hL hb) hc) (fun b o _ _ hc e n=>u.any e n hc) (fun b o hc e n=>u.free b o e n hc) (fun b o hc e=>u.there b o e hc) u.tups u.frzs u.tbls (fun m' hm=>by
  obtain⟨o',es',ep',ho',r'⟩:=hm
  rw [ho] at ho';cases ho'
  exact⟨_,es',ep',hL,r'⟩) hok hg
theorem Inv.turned{t':Nat}{it:Addr}(I:Inv X pins σ H s)(k:∀ b o,b ≠ it->s.heap.get? b=some o->h'.get? b=some o)(hn:H it=none)(hL:it ≠ X.env.locals)
  (h1:it ∈ X.ex ∨ X.s₀.heap.objs.size <= it) (h2:∀ x c,X.env.cells.lookup x=some c->c ≠ it) (h3:∀ p ∈ X.pn ++ pins,p.1 ≠ it):Inv X pins σ H { s with heap:=h',toks:=t' }:=by
 have nit:∀ b u,H b=some u->b ≠ it:=fun b u e z=>by rw [z,hn] at e;cases e
 refine I.step (g':=s.gens) (d':=s.drawn) (ch:=[it]) (fun b hb=>?_) (fun b o _ _ hc e _=>k b o (fun z=>hc (by simp [z])) e) (fun b o _ _ hc e _=>⟨o.slots,k b o (fun z=>hc (by simp [z])) e⟩) (fun _ _ _ _ n=>n)
  (fun b o hc e=>⟨o,k b o (fun z=>hc (by simp [z])) e⟩) (fun _ _ e=>e) (fun _ _ _ e=>e) (fun b ps e=>⟨#[],by rw [e];simp⟩) (fun m hm=>?_) (fun b u e=>?_) I.bare
 ·have e:b=it:=by simpa using hb
  subst e
  exact⟨h1,hL,h2,h3⟩
 ·obtain⟨o,es,ep,ho,r⟩:=hm
  exact⟨o,es,ep,k _ o (Ne.symm hL) ho,r⟩
 ·refine(I.hok b u e).stay (fun c v hc q=>k c v ?_ q) (fun _ q=>q) fun _ _ q=>q
  rcases hc with z | z
  ·rw [z];exact nit b u e
  ·exact nit c _ z
theorem Inv.tok(I:Inv X pins σ H s)(t:Nat):Inv X pins σ H { s with toks:=t }:=I.un (h':=s.heap) (t':=t) Un.refl I.hok
theorem Inv.kept{t':Nat}(I:Inv X pins σ H s)(k:∀ b u,s.heap.get? b=some u->h'.get? b=some u):Inv X pins σ H { s with heap:=h',toks:=t' }:=I.un (Un.kept k) (I.hok.kept k)
theorem Inv.laid{a:Addr}{o:HO}{t':Nat}(I:Inv X pins σ H s)(k:∀ b u,s.heap.get? b=some u->h'.get? b=some u)(hp:s.heap.objs.size <= a)(new:qa2q X.prog X.w (upd H a o) h' a o) :
  Inv X pins σ (upd H a o) { s with heap:=h',toks:=t' }:=I.un (Un.laid k hp (I.hok.fresh hp)) (I.hok.laid k hp new)
theorem Inv.write{x e:Addr}{o:HO}{t':Nat}(I:Inv X pins σ H s)(mu:Mut (H x))(he:e=x ∨ H e=some (.own x))(k:∀ b u,b ≠ e->s.heap.get? b=some u->h'.get? b=some u)(heo:∃ u,h'.get? e=some u)
  (new:qa2q X.prog X.w (upd H x o) h' x o):Inv X pins σ (upd H x o) { s with heap:=h',toks:=t' }:=I.un (Un.write mu he k heo) (I.hok.write mu he k heo new)
theorem Inv.pins_of{pins':List (Addr × Obj)}(I:Inv X pins σ H s)(h:∀ p ∈ pins',s.heap.get? p.1=some p.2/\H p.1=none/\p.1 ≠ X.env.locals/\p.1 ∉ X.fs/\∀ v,p.2.data ≠ .cell v):Inv X pins' σ H s:=
 ⟨I.ok,I.os,I.bare,I.base,I.loc,I.cell,I.free,I.freeC,fun p hp=>(List.mem_append.mp hp).elim (fun z=>I.pin p (List.mem_append_left _ z)) (h p),I.hok,I.len⟩
theorem qb9y{N:List Str}(hN:N.Nodup){i j:Nat}{x:Str}(a:N[i]? = some x)(b:N[j]? = some x):i=j:=by
 obtain⟨h1,e1⟩:=List.getElem?_eq_some_iff.mp a
 obtain⟨h2,e2⟩:=List.getElem?_eq_some_iff.mp b
 exact(List.getElem_inj hN).mp (e1.trans e2.symm)
theorem qb8l{M:Model}{A:Around}{E:Value->Shared->Prop}{i:Nat}{x:Str}{v:V}{u:Value}{Q:Unit->Shared->Prop}(I:Inv X pins σ H s)(hN:X.N.Nodup)(hi:X.N[i]? = some x)(hx:Loc X.env.scope x)(r:RelV v u)
  (h:∀ s',Inv X pins (σ.set i (some v)) H s'->(∃ a,Heap.SameBut a s.heap s'.heap/\(a=X.env.locals ∨ X.env.cells.lookup x=some a))->Q () s') (hf:X.fn x=true ∨ X.env.scope.names.lookup x=some .local:=by first | exact .inl rfl | exact .inr rfl | assumption):wpAny M A (storeName X.env x u) Q E s:=by
 obtain⟨m,hn,hl⟩:=id I.loc
 have hcls:(X.env.scope.kind == .class || (X.env.scope.kind == .module && X.env.locals != X.env.globals))=false:=by rw [I.ok.kind];rfl
 have hiσ:i < σ.length:=by rw [I.len];exact(List.getElem?_eq_some_iff.mp hi).1
 have cne:=I.cne
 have tracked:∀ {a:Addr} {h':Heap},(∃ o,s.heap.get? a=some o/\H a=none)->Heap.SameBut a s.heap h'->HOk X.prog X.w H h':=fun{a h'} ha hs b ob e=>by
  obtain⟨_,_,hfree⟩:=ha
  refine(I.hok b ob e).stay (fun c w' hc q=>(hs.2 c ?_).trans q) (fun _ q=>q) fun _ _ q=>q
  rintro rfl
  rcases hc with rfl | hc
  ·rw [hfree] at e;cases e
  ·rw [hfree] at hc;cases hc
 rcases hx with hk | hk
 ·refine wpAny_storeName_local hk hn (fun h' hn' hs=>?_) hcls
  obtain⟨oL,_,_,hoL,_⟩:=id hn
  refine h _ ⟨I.ok,I.os,I.bare,⟨fun b o e n hb hx=>?_,fun b o e n hb hx=>?_,I.base.free,fun b o e hx=>?_,I.base.tups,I.base.frzs,I.base.tbls⟩,⟨_,hn',fun j y v' e1 e2 e3=>?_⟩,fun y c e=>?_,I.free,I.freeC,fun p hp=>?_,tracked ⟨oL,hoL,I.free⟩ hs,by simpa using I.len⟩ ⟨_,hs,.inl rfl⟩
  ·exact(hs.2 b (Nat.ne_of_lt (Nat.lt_of_lt_of_le (Heap.lt_size e) I.ok.above))).trans (I.base.keep b o e n hb hx)
  ·obtain⟨sl,e1⟩:=I.base.slot b o e n hb hx
   exact⟨sl,(hs.2 b (Nat.ne_of_lt (Nat.lt_of_lt_of_le (Heap.lt_size e) I.ok.above))).trans e1⟩
  ·obtain⟨o',e1⟩:=I.base.there b o e hx
   exact⟨o',(hs.2 b (Nat.ne_of_lt (Nat.lt_of_lt_of_le (Heap.lt_size e) I.ok.above))).trans e1⟩
  ·by_cases hj:j=i
   ·subst hj
    rw [hi] at e1;cases e1
    rw [List.getElem?_set_self hiσ] at e2
    cases e2
    exact⟨u,r,.inl ⟨hk,by simp⟩⟩
   ·rw [List.getElem?_set_ne (Ne.symm hj)] at e2
    obtain⟨u',r',q⟩:=hl j y v' e1 e2 e3
    refine⟨u',r',?_⟩
    rcases q with⟨k,e⟩ | ⟨k,c,e,z⟩
    ·refine .inl ⟨k,?_⟩
     have:y ≠ x:=fun e=>hj (qb9y hN e1 (e ▸ hi))
     simp [this,e]
    ·exact .inr ⟨k,c,e,z.sameBut hs (cne y c e)⟩
  ·obtain⟨w',z⟩:=I.cell y c e
   exact⟨w',z.sameBut hs (cne y c e)⟩
  ·obtain⟨e,n,ne,nf,d⟩:=I.pin p hp
   exact⟨(hs.2 p.1 ne).trans e,n,ne,nf,d⟩
 ·have hfn:X.fn x=true:=by
   rcases hf with z | z
   ·exact z
   ·rw [z] at hk;cases hk
  obtain⟨c,hc⟩:=I.ok.has x (.inl hk)
  obtain⟨w',z⟩:=I.cell x c hc
  refine wpAny_storeName_cell I.ok.kind hk hc z (fun h' hc' hs=>?_)
  obtain⟨oc,hoc,hocd⟩:=id z
  refine h { s with heap:=h' } ⟨I.ok,I.os,I.bare,⟨fun b o e n hb hx=>?_,fun b o e n hb hx=>?_,I.base.free,fun b o e hx=>?_,I.base.tups,I.base.frzs,I.base.tbls⟩,⟨m,hn.sameBut hs (Ne.symm (cne x c hc)),fun j y v' e1 e2 e3=>?_⟩,fun y c' e=>?_,I.free,I.freeC,fun p hp=>?_,tracked ⟨oc,hoc,I.freeC x c hc⟩ hs,by simpa using I.len⟩ ⟨c,hs,.inr hc⟩
  ·exact(hs.2 b (Nat.ne_of_lt (Nat.lt_of_lt_of_le (Heap.lt_size e) (I.ok.cab x c hfn hc)))).trans (I.base.keep b o e n hb hx)
  ·obtain⟨sl,e1⟩:=I.base.slot b o e n hb hx
   exact⟨sl,(hs.2 b (Nat.ne_of_lt (Nat.lt_of_lt_of_le (Heap.lt_size e) (I.ok.cab x c hfn hc)))).trans e1⟩
  ·obtain⟨o',e1⟩:=I.base.there b o e hx
   exact⟨o',(hs.2 b (Nat.ne_of_lt (Nat.lt_of_lt_of_le (Heap.lt_size e) (I.ok.cab x c hfn hc)))).trans e1⟩
  ·by_cases hj:j=i
   ·subst hj
    rw [hi] at e1;cases e1
    rw [List.getElem?_set_self hiσ] at e2
    cases e2
    exact⟨u,r,.inr ⟨.inl hk,c,hc,hc'⟩⟩
   ·rw [List.getElem?_set_ne (Ne.symm hj)] at e2
    obtain⟨u',r',q⟩:=hl j y v' e1 e2 e3
    refine⟨u',r',?_⟩
    rcases q with q | ⟨k,c',e,z'⟩
    ·exact .inl q
    ·refine .inr ⟨k,c',e,z'.sameBut hs ?_⟩
     rintro rfl
     exact hj (qb9y hN e1 (I.ok.inj _ _ _ e hc ▸ hi))
  ·by_cases hcc:c'=c
   ·subst hcc;exact⟨_,hc'⟩
   ·obtain⟨w2,z2⟩:=I.cell y c' e
    exact⟨w2,z2.sameBut hs hcc⟩
  ·obtain⟨e,n,ne,nf,d⟩:=I.pin p hp
   refine⟨(hs.2 p.1 ?_).trans e,n,ne,nf,d⟩
   intro q
   rw [q,hoc] at e
   have q':oc=p.2:=Option.some.inj e
   exact d w' (by rw [← q'];exact hocd)
theorem qb9z{M:Model}{A:Around}{E:Value->Shared->Prop}{i:Nat}{x:Str}{v:V}{u:Value}{Q:Unit->Shared->Prop}(I:Inv X pins σ H s)(hN:X.N.Nodup)(hi:X.N[i]? = some x)(hx:Loc X.env.scope x)(r:RelV v u)
  (h:∀ s',Inv X pins (σ.set i (some v)) H s'->Q () s') (hf:X.fn x=true ∨ X.env.scope.names.lookup x=some .local:=by first | exact .inl rfl | exact .inr rfl | assumption):wpAny M A (storeName X.env x u) Q E s:=
 qb8l I hN hi hx r (fun s' I' _=>h s' I') hf
theorem Inv.call'{s':Shared}{ch:List Addr}(I:Inv X pins σ H s)(ho:s'.os=s.os)(u:Un (frs X.stack) ch H H' s.heap s'.heap)(hok:HOk X.prog X.w H' s'.heap)(hg:AllBare s'.gens)
  (hch:∀ b ∈ ch,(b ∈ X.ex ∨ X.s₀.heap.objs.size <= b)/\b ≠ X.env.locals/\(∀ x c,X.env.cells.lookup x=some c->c ≠ b)/\∀ p ∈ X.pn ++ pins,p.1 ≠ b):Inv X pins σ H' s':=by
 obtain⟨h',g',d',t',o'⟩:=s'
 have e:o'=s.os:=ho
 subst e
 exact I.call (g':=g') (t':=t') (d':=d') u hok hg hch
end
abbrev XK:=Value->Option Addr->Hp->Prop
abbrev St:=List (Option V)
abbrev VK:=V->Hp->Prop
abbrev TE:=St->Hp->VK->Prop
abbrev TT:=St->Hp->(Bool->Hp->Prop)->Prop
abbrev TA:=St->Hp->(List V->Hp->Prop)->Prop
structure Ends where
 nx:St->Hp->Prop
 rt:VK
 bk:St->Hp->Prop:=fun _ _=>False
 ct:St->Hp->Prop:=fun _ _=>False
abbrev TS:=Ends->St->Hp->Prop
def EP(X:Cx)(pins:List (Addr × Obj))(σ:St)(Q:VK)(u:Value)(s':Shared):Prop:=∃ v H',Inv X pins σ H' s'/\RelV v u/\Q v H'
def TP(X:Cx)(pins:List (Addr × Obj))(σ:St)(Q:Bool->Hp->Prop)(b:Bool)(s':Shared):Prop:=∃ H',Inv X pins σ H' s'/\Q b H'
def AP(X:Cx)(pins:List (Addr × Obj))(σ:St)(Q:List V->Hp->Prop)(us:List Value)(s':Shared):Prop:=∃ vs H',Inv X pins σ H' s'/\Vals vs us/\Q vs H'
def SP(X:Cx)(pins:List (Addr × Obj))(D:Ends)(f:Flow)(s':Shared):Prop:=
 match f with
 | .next=>∃ σ' H',Inv X pins σ' H' s'/\D.nx σ' H'
 | .brk=>∃ σ' H',Inv X pins σ' H' s'/\D.bk σ' H'
 | .cont=>∃ σ' H',Inv X pins σ' H' s'/\D.ct σ' H'
 | .ret u=>∃ v σ' H',Inv X pins σ' H' s'/\RelV v u/\D.rt v H'
def PE(X:Cx)(e:Expr)(t:TE):Prop:=
 ∀ (pins:List (Addr × Obj)) (s:Shared) (σ:St) (H:Hp) (Q:VK),Inv X pins σ H s->t σ H Q->wpAny (model X.prog X.w) X.A (eval e X.env) (EP X pins σ Q) X.xe s
def PT(X:Cx)(e:Expr)(t:TT):Prop:=
 ∀ (pins:List (Addr × Obj)) (s:Shared) (σ:St) (H:Hp) (Q:Bool->Hp->Prop),Inv X pins σ H s->t σ H Q->wpAny (model X.prog X.w) X.A (isTrue e X.env (eval e X.env)) (TP X pins σ Q) X.xe s
def PW(X:Cx)(e:Expr)(t:TT):Prop:=
 ∀ (whole:Sem Value) (pins:List (Addr × Obj)) (s:Shared) (σ:St) (H:Hp) (Q:Bool->Hp->Prop),Inv X pins σ H s->t σ H Q->wpAny (model X.prog X.w) X.A (isTrue e X.env whole) (TP X pins σ Q) X.xe s
theorem PW.pt{X:Cx}{e:Expr}{t:TT}(h:PW X e t):PT X e t:=h _
def PA(X:Cx)(es:List Expr)(t:TA):Prop:=
 ∀ (pos:Pos) (pins:List (Addr × Obj)) (s:Shared) (σ:St) (H:Hp) (Q:List V->Hp->Prop),Inv X pins σ H s->t σ H Q->wpAny (model X.prog X.w) X.A (spliced (backTo pos (starEach es X.env))) (AP X pins σ Q) X.xe s
def PS(X:Cx)(st:Stmt)(t:TS):Prop:=
 ∀ (pins:List (Addr × Obj)) (s:Shared) (σ:St) (H:Hp) (D:Ends),Inv X pins σ H s->t D σ H->wpAny (model X.prog X.w) X.A (exec st X.env) (SP X pins D) X.xe s
def PSs(X:Cx)(st:List Stmt)(t:TS):Prop:=
 ∀ (pins:List (Addr × Obj)) (s:Shared) (σ:St) (H:Hp) (D:Ends),Inv X pins σ H s->t D σ H->wpAny (model X.prog X.w) X.A (execs st X.env) (SP X pins D) X.xe s
theorem thn{α:Type}{t:Sem α}{Q Q':α->Shared->Prop}{M:Model}{A:Around}{E:Value->Shared->Prop}{s:Shared}(h:wpAny M A t Q E s)(hQ:∀ a s,Q a s->Q' a s):wpAny M A t Q' E s:=wpAny_mono h hQ fun _ _ x=>x
end L2
namespace L2
open PySem PySem.Spec PyProof.Rows
section
variable{X:Cx}
def tVar(i:Nat):TE:=fun σ H Q=>∃ v,σ[i]? = some (some v)/\Q v H
def tC(v:V):TE:=fun _ H Q=>Q v H
theorem qb1f{i:Nat}{x:Str}{pos:Pos}(hN:X.N[i]? = some x)(hv:Vis X.env.scope x) (hd:(x == ("__debug__" : Str))=false:=by decide) (hcd:(x == ("__classdict__" : Str))=false:=by decide):PE X (.Name x pos) (tVar i):=by
 intro pins s σ H Q I h
 obtain⟨v,e,h⟩:=h
 obtain⟨m,hn,hl⟩:=I.loc
 obtain⟨u,r,l⟩:=hl i x v hN e hv
 have fin:EP X pins σ Q u s:=⟨v,H,I,r,h⟩
 rcases l with⟨hk,hm⟩ | ⟨hk,c,hc,hcell⟩
 ·exact wpAny_Name (wpAny_loadName_local I.ok.kind hk hn hm fin) hd
 ·rcases hk with hk | hk
  ·exact wpAny_Name (wpAny_loadName_cell I.ok.kind hk hc hcell fin) hd
  ·exact wpAny_Name (wpAny_loadName_free I.ok.kind hk hc hcell fin hcd) hd
theorem qa2f{i j pos}:PE X (.Constant (.int i) j pos) (tC (.int i)):=fun _ _ _ H _ I h=>wpAny_Constant_int ⟨.int i,H,I.tok _,⟨_,rfl⟩,h⟩
theorem pe_bl{b j pos}:PE X (.Constant (.bool b) j pos) (tC (.bl b)):=fun _ _ _ H _ I h=>Constant_bool ⟨.bl b,H,I,rfl,h⟩
theorem pe_non{j pos}:PE X (.Constant .none j pos) (tC .non):=fun _ _ _ H _ I h=>Constant_none ⟨.non,H,I,rfl,h⟩
theorem pe_str{x j pos}:PE X (.Constant (.str x) j pos) (tC (.str x)):=fun _ _ _ H _ I h=>Calls.Constant_str ⟨.str x,H,I.tok _,⟨_,rfl⟩,h⟩
def Gl(X:Cx)(x:Str):Prop:=X.env.kindOf x=some .globalImplicit
theorem qc4q{E:Value->Shared->Prop}{pins:List (Addr × Obj)}{s:Shared}{σ:St}{H:Hp}{x:Str}{u:Value}{pos:Pos}{Q:Value->Shared->Prop}(I:Inv X pins σ H s)(hg:Gl X x)(hm:X.mg x=some u)(h:Q u s)
  (hd:(x == ("__debug__" : Str))=false:=by decide):wpAny (model X.prog X.w) X.A (eval (.Name x pos) X.env) Q E s:=
 Calls.Name_function_global I.ok.kind hg (Calls.loadGlobal_global (by rw [I.ok.glob];exact I.mod.glob.keeps I.bk) hm h) hd
theorem qa6c{E:Value->Shared->Prop}{pins:List (Addr × Obj)}{s:Shared}{σ:St}{H:Hp}{x:Str}{u:Value}{pos:Pos}{Q:Value->Shared->Prop}(I:Inv X pins σ H s)(hg:Gl X x)(hm:X.mg x=none)(hv:bootBuiltins x=some u)(h:Q u s)
  (hn:x ≠ "__name__":=by decide) (hd:(x == ("__debug__" : Str))=false:=by decide):wpAny (model X.prog X.w) X.A (eval (.Name x pos) X.env) Q E s:=by
 obtain⟨mb,h1,h2⟩:=I.mod.blt
 exact Calls.Name_function_global I.ok.kind hg (Calls.loadGlobal_builtin (by rw [I.ok.glob];exact I.mod.glob.keeps I.bk) hm (by rw [I.ok.blt];exact h1.keeps I.bk) ((h2 x hn).trans hv) h) hd
theorem qb7k{x:Str}{v:V}{u:Value}{pos:Pos}(hg:Gl X x)(hm:X.mg x=some u)(r:RelV v u) (hd:(x == ("__debug__" : Str))=false:=by decide):PE X (.Name x pos) (tC v):=
 fun _ _ _ H _ I h=>qc4q I hg hm ⟨v,H,I,r,h⟩ hd
theorem pe_bltn{x:Str}{v:V}{u:Value}{pos:Pos}(hg:Gl X x)(hm:X.mg x=none)(hv:bootBuiltins x=some u)(r:RelV v u) (hn:x ≠ "__name__":=by decide) (hd:(x == ("__debug__" : Str))=false:=by decide):PE X (.Name x pos) (tC v):=
 fun _ _ _ H _ I h=>qa6c I hg hm hv ⟨v,H,I,r,h⟩ hn hd
variable{a b:Expr}{ta tb:TE}{pos:Pos}
def tB(t:TE):TT:=fun σ H Q=>t σ H fun x H1=>∃ c,x=.bl c/\Q c H1
theorem pt_val{e:Expr}{t:TE}(h:PE X e t)(he:∀ whole,isTrue e X.env whole=(do let v ← whole;standAt e.pos;holding [v] (truthy v)):=by intro _;rfl):PT X e (tB t):=by
 intro pins s σ H Q I hw
 refine isTrue_plain (thn (h pins s σ H _ I hw) fun v s1 hq8=>?_) (he _)
 obtain⟨x,H1,I1,r1,q1⟩:=hq8
 obtain⟨d,rfl,q⟩:=q1
 cases r1
 exact wpAny_truthy_bool ⟨H1,I1,q⟩
variable{tA tB':TT}{rest:List Expr}
def tAnd(t u:TT):TT:=fun σ H Q=>t σ H fun c H1=>if c=true then u σ H1 Q else Q false H1
def tOr(t u:TT):TT:=fun σ H Q=>t σ H fun c H1=>if c=true then Q true H1 else u σ H1 Q
def tNot(t:TT):TT:=fun σ H Q=>t σ H fun c H1=>Q (!c) H1
theorem pw_and1(ha:PT X a tA):PW X (.BoolOp .And [a] pos) tA:=by
 intro wh pins s σ H Q I h
 refine isTrue_and (thn (ha pins s σ H Q I h) fun c s1 e=>?_)
 cases c with
 | true=>exact isTrue_and_nil e
 | false=>exact e
theorem pw_or1(ha:PT X a tA):PW X (.BoolOp .Or [a] pos) tA:=by
 intro wh pins s σ H Q I h
 refine isTrue_or (thn (ha pins s σ H Q I h) fun c s1 e=>?_)
 cases c with
 | false=>exact isTrue_or_nil e
 | true=>exact e
theorem pw_and(ha:PT X a tA)(hb:PW X (.BoolOp .And (b :: rest) pos) tB'):PW X (.BoolOp .And (a :: b :: rest) pos) (tAnd tA tB'):=by
 intro wh pins s σ H Q I h
 refine isTrue_and (thn (ha pins s σ H _ I h) fun c s1 hq9=>?_)
 obtain⟨H1,I1,q1⟩:=hq9
 cases c with
 | true=>exact hb wh pins s1 σ H1 Q I1 q1
 | false=>exact⟨H1,I1,q1⟩
theorem pw_or(ha:PT X a tA)(hb:PW X (.BoolOp .Or (b :: rest) pos) tB'):PW X (.BoolOp .Or (a :: b :: rest) pos) (tOr tA tB'):=by
 intro wh pins s σ H Q I h
 refine isTrue_or (thn (ha pins s σ H _ I h) fun c s1 hq9=>?_)
 obtain⟨H1,I1,q1⟩:=hq9
 cases c with
 | true=>exact⟨H1,I1,q1⟩
 | false=>exact hb wh pins s1 σ H1 Q I1 q1
theorem pt_not(ha:PT X a tA):PT X (.UnaryOp .Not a pos) (tNot tA):=by
 intro pins s σ H Q I h
 exact isTrue_not (ha pins s σ H (fun c H1=>Q (!c) H1) I h)
def tAndV(ta tb:TE):TE:=fun σ H Q=>ta σ H fun x H1=>∃ c,x=.bl c/\if c=true then tb σ H1 Q else Q (.bl false) H1
def tOrV(ta tb:TE):TE:=fun σ H Q=>ta σ H fun x H1=>∃ c,x=.bl c/\if c=true then Q (.bl true) H1 else tb σ H1 Q
def tNotV(ta:TE):TE:=fun σ H Q=>ta σ H fun x H1=>∃ c,x=.bl c/\Q (.bl (!c)) H1
theorem pe_one{op}{t:TE}(h:PE X a t):PE X (.BoolOp op [a] pos) t:=fun pins s σ H Q I hw=>BoolOp_one (h pins s σ H Q I hw)
theorem pe_and(ha:PE X a ta)(hb:PE X (.BoolOp .And (b :: rest) pos) tb):PE X (.BoolOp .And (a :: b :: rest) pos) (tAndV ta tb):=by
 intro pins s σ H Q I h
 refine BoolOp_and (thn (ha pins s σ H _ I h) fun v s1 hq9=>?_)
 obtain⟨x,H1,I1,r1,q1⟩:=hq9
 obtain⟨c,rfl,q1⟩:=q1
 cases r1
 refine wpAny_truthy_bool ?_
 cases c with
 | true=>exact hb pins s1 σ H1 Q I1 q1
 | false=>exact⟨.bl false,H1,I1,rfl,q1⟩
theorem pe_or(ha:PE X a ta)(hb:PE X (.BoolOp .Or (b :: rest) pos) tb):PE X (.BoolOp .Or (a :: b :: rest) pos) (tOrV ta tb):=by
 intro pins s σ H Q I h
 refine BoolOp_or (thn (ha pins s σ H _ I h) fun v s1 hq9=>?_)
 obtain⟨x,H1,I1,r1,q1⟩:=hq9
 obtain⟨c,rfl,q1⟩:=q1
 cases r1
 refine wpAny_truthy_bool ?_
 cases c with
 | false=>exact hb pins s1 σ H1 Q I1 q1
 | true=>exact⟨.bl true,H1,I1,rfl,q1⟩
theorem pe_not(ha:PE X a ta):PE X (.UnaryOp .Not a pos) (tNotV ta):=by
 intro pins s σ H Q I h
 refine UnaryOp_ (thn (ha pins s σ H _ I h) fun v s1 hq9=>?_)
 obtain⟨x,H1,I1,r1,q1⟩:=hq9
 obtain⟨c,rfl,q1⟩:=q1
 cases r1
 exact not_of (wpAny_truthy_bool ⟨.bl (!c),H1,I1,rfl,q1⟩)
def tIf(t:TT)(ta tb:TE):TE:=fun σ H Q=>t σ H fun c H1=>if c=true then ta σ H1 Q else tb σ H1 Q
theorem qd0t{c:Expr}(hc:PT X c tA)(ha:PE X a ta)(hb:PE X b tb):PE X (.IfExp c a b pos) (tIf tA ta tb):=by
 intro pins s σ H Q I h
 refine wpAny_IfExp (thn (hc pins s σ H _ I h) fun d s1 hq9=>?_)
 obtain⟨H1,I1,q1⟩:=hq9
 cases d with
 | true=>exact ha pins s1 σ H1 Q I1 q1
 | false=>exact hb pins s1 σ H1 Q I1 q1
end
end L2
namespace L2
open PySem PySem.Spec PyProof.Rows
def SqL(K:PySem.W.Frag)(H:Hp)(a:Addr)(xs:List V):Prop:=
 Rd H a (.lst xs) ∨
  ∃ (o:Obj) (its:Array Value) (n:Nat),K.lookup a=some o/\o.cls=.type "list" /\ o.dict=none/\o.data=.seq its n/\its.size <= sizeLine/\Vals xs its.toList
def SqT(K:PySem.W.Frag)(H:Hp)(a:Addr)(xs:List V):Prop:=
 Rd H a (.tup xs) ∨
  ∃ (o:Obj) (its:Array Value) (n:Nat),K.lookup a=some o/\(o.cls=.type "tuple" /\ o.dict=none)/\o.data=.seq its n/\its.size <= sizeLine/\Vals xs its.toList
noncomputable def absV:Value->Option V
 | .none=>some .non
 | .bool b=>some (.bl b)
 | .int i _=>some (.int i)
 | .str x _=>some (.str x)
 | .bytes b _=>some (.byt b)
 | .float b _=>some (.flt b)
 | .ref a=>some (.ref a)
 | .type n=>some (.ty n)
 | _=>none
theorem RelV.abs{x:V}{u:Value}(r:RelV x u):absV u=some x:=by
 cases x with
 | non=>cases r;rfl
 | bl _=>cases r;rfl
 | int _=>obtain⟨t,rfl⟩:=r;rfl
 | str _=>obtain⟨t,rfl⟩:=r;rfl
 | byt _=>obtain⟨t,rfl⟩:=r;rfl
 | flt _=>obtain⟨t,rfl⟩:=r;rfl
 | ref _=>cases r;rfl
 | ty _=>cases r;rfl
theorem RelV.inj{x y:V}{u:Value}(r:RelV x u)(q:RelV y u):x=y:=Option.some.inj (r.abs.symm.trans q.abs)
theorem Vals.inj:∀ {xs ys:List V} {us:List Value},Vals xs us->Vals ys us->xs=ys
 | _,_,_,.nil,.nil=>rfl
 | _,_,_,.cons r t,.cons r' t'=>by rw [r.inj r',Vals.inj t t']
section
variable{X:Cx}{pins:List (Addr × Obj)}{σ:St}{H:Hp}{s:Shared}{a:Addr}{xs ys:List V}
theorem SqL.of{K:PySem.W.Frag}(h:H a=some (.lst xs)):SqL K H a xs:=.inl (.inl h)
theorem SqT.of{K:PySem.W.Frag}(h:H a=some (.tup xs)):SqT K H a xs:=.inl (.inl h)
theorem Inv.list(I:Inv X pins σ H s)(h:SqL X.K H a xs):∃ its:List Value,Vals xs its/\PlainL s.heap a its.toArray/\xs.length <= sizeLine:=by
 rcases h with h | ⟨o,its,n,hk,hc,hd,hs,hz,r⟩
 ·obtain⟨z,its,n,r,e⟩:=h.ok I.hok
  exact⟨its,r,⟨_,n,e,rfl,rfl,rfl⟩,z⟩
 ·refine⟨its.toList,r,⟨o,n,I.kIn a o hk,hc,hd,by simpa using hs⟩,?_⟩
  have e:=r.length
  simp only [Array.length_toList] at e
  omega
theorem Inv.tupleP(I:Inv X pins σ H s)(h:SqT X.K H a xs):∃ its:List Value,Vals xs its/\qa6b s.heap a its.toArray/\xs.length <= sizeLine:=by
 rcases h with h | ⟨o,its,n,hk,hc,hs,hz,r⟩
 ·obtain⟨z,its,r,p⟩:=h.ok I.hok
  exact⟨its,r,p,z⟩
 ·refine⟨its.toList,r,⟨o,I.kIn a o hk,hc,n,by simpa using hs⟩,?_⟩
  have e:=r.length
  simp only [Array.length_toList] at e
  omega
theorem Inv.tuple(I:Inv X pins σ H s)(h:SqT X.K H a xs):∃ its:List Value,Vals xs its/\IsTup s.heap a its.toArray/\xs.length <= sizeLine:=by obtain⟨its,r,p,z⟩:=I.tupleP h;exact⟨its,r,p.tup,z⟩
theorem Inv.list_inj(I:Inv X pins σ H s)(h:SqL X.K H a xs)(h':SqL X.K H a ys):xs=ys:=by
 obtain⟨its,r,⟨o,n,e,_,_,d⟩,_⟩:=I.list h
 obtain⟨its',r',⟨o',n',e',_,_,d'⟩,_⟩:=I.list h'
 rw [e] at e';cases e'
 rw [d] at d'
 injection d' with d1 _
 have:its=its':=by simpa using congrArg Array.toList d1
 subst this
 exact r.inj r'
theorem Inv.tuple_inj(I:Inv X pins σ H s)(h:SqT X.K H a xs)(h':SqT X.K H a ys):xs=ys:=by
 obtain⟨its,r,⟨o,e,_,n,d⟩,_⟩:=I.tuple h
 obtain⟨its',r',⟨o',e',_,n',d'⟩,_⟩:=I.tuple h'
 rw [e] at e';cases e'
 rw [d] at d'
 injection d' with d1 _
 have:its=its':=by simpa using congrArg Array.toList d1
 subst this
 exact r.inj r'
end
abbrev Cx.wish(X:Cx)(E:Value->Shared->Prop):Cx:={ X with xe:=E }
abbrev Cx.nox(X:Cx):Cx:=X.wish fun _ _=>False
theorem Cx.Ok.wish{X:Cx}(ok:X.Ok)(E:Value->Shared->Prop):(X.wish E).Ok:=
 ⟨ok.mod,ok.kind,ok.glob,ok.blt,ok.above,ok.inj,ok.has,ok.cab,ok.hd,ok.frames,ok.stk,ok.exf,ok.bs,ok.bsz,ok.noex,ok.exfs,ok.funs,ok.frf⟩
theorem Cx.Ok.unwish{X:Cx}{E:Value->Shared->Prop}(ok:(X.wish E).Ok):X.Ok:=
 ⟨ok.mod,ok.kind,ok.glob,ok.blt,ok.above,ok.inj,ok.has,ok.cab,ok.hd,ok.frames,ok.stk,ok.exf,ok.bs,ok.bsz,ok.noex,ok.exfs,ok.funs,ok.frf⟩
section
variable{X:Cx}{pins:List (Addr × Obj)}{σ:St}{H:Hp}{s:Shared}{E:Value->Shared->Prop}
theorem Inv.wish(I:Inv X pins σ H s)(E:Value->Shared->Prop):Inv (X.wish E) pins σ H s:=⟨I.ok.wish E,I.os,I.bare,I.base,I.loc,I.cell,I.free,I.freeC,I.pin,I.hok,I.len⟩
theorem Inv.unwish(I:Inv (X.wish E) pins σ H s):Inv X pins σ H s:=⟨I.ok.unwish,I.os,I.bare,I.base,I.loc,I.cell,I.free,I.freeC,I.pin,I.hok,I.len⟩
theorem SP.unwish{D:Ends}{f:Flow}{s':Shared}(h:SP (X.wish E) pins D f s'):SP X pins D f s':=by
 cases f with
 | next=>obtain⟨σ',H',I,q⟩:=h;exact⟨σ',H',I.unwish,q⟩
 | brk=>obtain⟨σ',H',I,q⟩:=h;exact⟨σ',H',I.unwish,q⟩
 | cont=>obtain⟨σ',H',I,q⟩:=h;exact⟨σ',H',I.unwish,q⟩
 | ret u=>obtain⟨v,σ',H',I,r,q⟩:=h;exact⟨v,σ',H',I.unwish,r,q⟩
theorem PSs.nox{st:List Stmt}{t:TS}(h:PSs X.nox st t):PSs X st t:=fun pins s σ H D I hw =>
 wpAny_mono (h pins s σ H D (I.wish _) hw) (fun _ _ q=>q.unwish) fun _ _ z=>False.elim z
end
section
variable{X:Cx}{st:Stmt}{rest:List Stmt}{t u:TS}{e:Expr}{te:TE}{pos:Pos}
def tNext:TS:=fun D σ H=>D.nx σ H
def tSeq(t u:TS):TS:=fun D σ H=>t { D with nx:=u D } σ H
theorem qb4k:PSs X [] tNext:=fun _ _ σ H _ I h=>wpAny_execs_nil ⟨σ,H,I,h⟩
theorem qa3l(h1:PS X st t)(h2:PSs X rest u):PSs X (st :: rest) (tSeq t u):=by
 intro pins s σ H D I h
 refine wpAny_execs_cons (thn (h1 pins s σ H { D with nx:=u D } I h) fun f s1 q=>?_)
 cases f with
 | next =>
  obtain⟨σ',H',I',q⟩:=q
  exact h2 pins s1 σ' H' D I' q
 | ret v=>exact q
 | brk=>exact q
 | cont=>exact q
theorem qa6t(h1:PS X st t):PSs X [st] t:=by
 intro pins s σ H D I h
 refine wpAny_execs_cons (thn (h1 pins s σ H D I h) fun f s1 q=>?_)
 cases f with
 | next=>exact wpAny_execs_nil q
 | ret v=>exact q
 | brk=>exact q
 | cont=>exact q
theorem Inv.quiet{pins:List (Addr × Obj)}{σ:St}{H:Hp}{s:Shared}(I:Inv X pins σ H s):interactive X.env=false:=by simp [interactive,I.ok.kind]
def tDrop(te:TE):TS:=fun D σ H=>te σ H fun _ H1=>D.nx σ H1
theorem ps_expr(he:PE X e te)(hs:swapsWith e none pos.line X.env=pure false:=by rfl):PS X (.Expr e pos) (tDrop te):=by
 intro pins s σ H D I h
 exact wpAny_Expr_any (thn (he pins s σ H _ I h) fun v s1 hq8=>by obtain⟨x,H1,I1,r1,q1⟩:=hq8;exact⟨σ,H1,I1,q1⟩) I.quiet hs
def tRet(te:TE):TS:=fun D σ H=>te σ H D.rt
theorem qa9y(he:PE X e te):PS X (.Return (some e) pos) (tRet te):=by
 intro pins s σ H D I h
 exact wpAny_Return_some (thn (he pins s σ H _ I h) fun v s1 hq8=>by obtain⟨x,H1,I1,r1,q1⟩:=hq8;exact⟨x,σ,H1,I1,r1,q1⟩)
def tIfS(c:TT)(t u:TS):TS:=fun D σ H=>c σ H fun b H1=>if b=true then t D σ H1 else u D σ H1
theorem ps_if{c:Expr}{a b:List Stmt}{tc:TT}(hc:PT X c tc)(ha:PSs X a t)(hb:PSs X b u):PS X (.If c a b pos) (tIfS tc t u):=by
 intro pins s σ H D I h
 refine wpAny_If (thn (hc pins s σ H _ I h) fun d s1 hq9=>?_)
 obtain⟨H1,I1,q1⟩:=hq9
 cases d with
 | true=>exact ha pins s1 σ H1 D I1 q1
 | false=>exact hb pins s1 σ H1 D I1 q1
end
abbrev TG:=V->St->Hp->(St->Hp->Prop)->Prop
abbrev TGs:=List V->St->Hp->(St->Hp->Prop)->Prop
def PG(X:Cx)(target:Expr)(t:TG):Prop:=
 ∀ (pins:List (Addr × Obj)) (s:Shared) (σ:St) (H:Hp) (v:V) (u:Value) (Q:St->Hp->Prop),Inv X pins σ H s->RelV v u->t v σ H Q ->
  wpAny (model X.prog X.w) X.A (assign target X.env u) (fun _ s'=>∃ σ' H',Inv X pins σ' H' s'/\Q σ' H') X.xe s
def PGs(X:Cx)(ts:List Expr)(t:TGs):Prop:=
 ∀ (pins:List (Addr × Obj)) (s:Shared) (σ:St) (H:Hp) (vs:List V) (us:List Value) (Q:St->Hp->Prop),Inv X pins σ H s->Vals vs us->t vs σ H Q ->
  wpAny (model X.prog X.w) X.A (assignInOrder ((assignEach ts X.env).map (·.2)) us) (fun _ s'=>∃ σ' H',Inv X pins σ' H' s'/\Q σ' H') X.xe s
abbrev TSet:=V->V->V->Hp->(Hp->Prop)->Prop
def PSet(X:Cx)(t:TSet):Prop:=
 ∀ (pins:List (Addr × Obj)) (s:Shared) (σ:St) (H:Hp) (o i v:V) (ov iv u:Value) (Q:Hp->Prop),Inv X pins σ H s->RelV o ov->RelV i iv->RelV v u->t o i v H Q ->
  wpAny (model X.prog X.w) X.A (setItem ov iv u) (fun _ s'=>∃ H',Inv X pins σ H' s'/\Q H') X.xe s
section
variable{X:Cx}{pos:Pos}
noncomputable def qa8q(i:Nat):TG:=fun v σ H Q=>Q (σ.set i (some v)) H
theorem pg_name{i:Nat}{x:Str}(hN:X.N.Nodup)(hi:X.N[i]? = some x)(hx:Loc X.env.scope x)(hf:X.fn x=true ∨ X.env.scope.names.lookup x=some .local:=by first | exact .inl rfl | exact .inr rfl | assumption):PG X (.Name x pos) (qa8q i):=by
 intro pins s σ H v u Q I r h
 exact wpAny_assign_Name (qb9z I hN hi hx r (fun s' I'=>⟨_,H,I',h⟩) hf)
noncomputable def gNil:TGs:=fun vs σ H Q=>vs=[]/\Q σ H
noncomputable def gCons(t:TG)(u:TGs):TGs:=fun vs σ H Q=>∃ v r,vs=v :: r/\t v σ H fun σ' H'=>u r σ' H' Q
theorem pgs_nil:PGs X [] gNil:=by
 intro pins s σ H vs us Q I r h
 obtain⟨e,h⟩:=h
 subst e
 cases r
 exact assignInOrder_nil ⟨σ,H,I,h⟩
theorem qd0u{e:Expr}{es:List Expr}{t:TG}{u:TGs}(h1:PG X e t)(h2:PGs X es u)
  (hs:(assignEach (e :: es) X.env).map (·.2)=assign e X.env :: (assignEach es X.env).map (·.2):=by rfl):PGs X (e :: es) (gCons t u):=by
 intro pins s σ H vs us Q I r h
 obtain⟨v,vr,e1,h⟩:=h
 subst e1
 cases r with
 | cons r rr =>
  rw [hs]
  refine assignInOrder_cons (thn (h1 pins s σ H _ _ _ I r h) fun _ s1 hq9=>?_)
  obtain⟨σ1,H1,I1,q1⟩:=hq9
  exact h2 pins s1 σ1 H1 _ _ Q I1 rr q1
noncomputable def gTup(K:PySem.W.Frag)(n:Nat)(t:TGs):TG:=fun v σ H Q=>∃ a xs,v=.ref a/\SqT K H a xs/\xs.length=n/\t xs σ H Q
theorem pg_tup{es:List Expr}{k:Nat}{t:TGs}{n:Nat}(hc:X.calm=true)(h:PGs X es t)
  (hn:(assignEach es X.env).length=n:=by rfl) (hst:(assignEach es X.env).findIdx? (·.1)=none:=by rfl):PG X (.Tuple es k pos) (gTup X.K n t):=by
 intro pins s σ H v u Q I r hw
 obtain⟨a,xs,e1,hq,hl,hw⟩:=hw
 subst e1
 cases r
 obtain⟨its,rv,ht,hz⟩:=I.tuple hq
 refine assign_Tuple_tuple (I.ok.hd hc) ht (by simp [hn,← hl,rv.length]) hst fun h' hx=>?_
 have I1:Inv X pins σ H { s with heap:=h' }:=I.kept (t':=s.toks) fun b o e=>hx b o (Nat.ne_of_lt (Heap.lt_size e)) e
 exact h pins _ σ H xs _ Q I1 (by simpa using rv) hw
def gSub(to ti:TE)(t:TSet):TG:=fun v σ H Q=>to σ H fun o H1=>ti σ H1 fun i H2=>t o i v H2 fun H3=>Q σ H3
theorem pg_sub{o i:Expr}{to ti:TE}{t:TSet}(ho:PE X o to)(hi:PE X i ti)(hs:PSet X t)
  (ha:∀ v,assign (.Subscript o i pos) X.env v=(do
   let ov ← holding [v] (eval o X.env)
   let iv ← holding [v,ov] (eval i X.env)
   standAt pos
   holding [v,ov,iv] (setItem ov iv v)
   release [v,ov,iv] []):=by intro _;rfl):PG X (.Subscript o i pos) (gSub to ti t):=by
 intro pins s σ H v u Q I r h
 rw [ha]
 refine wpAny_bind (wpAny_holding (thn (ho pins s σ H _ I h) fun ov s1 hq9=>?_))
 obtain⟨x,H1,I1,r1,q1⟩:=hq9
 refine wpAny_bind (wpAny_holding (thn (hi pins s1 σ H1 _ I1 q1) fun iv s2 hq9=>?_))
 obtain⟨y,H2,I2,r2,q2⟩:=hq9
 refine wpAny_bind (wpAny_standAt (wpAny_bind (wpAny_holding (thn (hs pins s2 σ H2 x y v ov iv u _ I2 r1 r2 r q2) fun _ s3 hq9=>?_))))
 obtain⟨H3,I3,q3⟩:=hq9
 exact wpAny_release ⟨σ,H3,I3,q3⟩
def tAsg(te:TE)(g:TG):TS:=fun D σ H=>te σ H fun x H1=>g x σ H1 D.nx
theorem ps_asg{tg e:Expr}{te:TE}{g:TG}(he:PE X e te)(hg:PG X tg g)(hs:swapsWithSole [tg] e pos.line X.env=pure false:=by rfl)(hw:swappedStores [tg] e X.env=pure none:=by rfl)
  (h1:(assignEach [tg] X.env).map (·.2)=[assign tg X.env]:=by rfl):PS X (.Assign [tg] e pos) (tAsg te g):=by
 intro pins s σ H D I h
 refine wpAny_Assign_stores (thn (he pins s σ H _ I h) fun v s1 hq8=>?_) hs hw
 obtain⟨x,H1,I1,r1,q1⟩:=hq8
 rw [h1]
 exact thn (hg pins s1 σ H1 x v _ I1 r1 q1) fun _ s2 q=>q
theorem qa8a{i:Nat}{x:Str}{e:Expr}{te:TE}{pos':Pos}(hN:X.N.Nodup)(hi:X.N[i]? = some x)(hx:Loc X.env.scope x)(he:PE X e te)(hs:swapsWith e (some (.Name x pos')) pos.line X.env=pure false:=by rfl)(hf:X.fn x=true ∨ X.env.scope.names.lookup x=some .local:=by first | exact .inl rfl | exact .inr rfl | assumption) :
  PS X (.Assign [.Name x pos'] e pos) (tAsg te (qa8q i)):=by
 intro pins s σ H D I h
 refine wpAny_Assign_Name (thn (he pins s σ H _ I h) fun v s1 hq8=>?_) hs
 obtain⟨y,H1,I1,r1,q1⟩:=hq8
 exact qb9z I1 hN hi hx r1 (fun s2 I2=>⟨_,H1,I2,q1⟩) hf
end
section
variable{X:Cx}{pos:Pos}
def tWhile(c:TT)(tb:TS):TS:=fun D σ H=>∃ W:Nat->St->Hp->Prop,(∃ m,W m σ H)/\∀ m σ H,W m σ H ->
 c σ H fun b H1=>if b=true then ∃ N:St->Hp->Prop,(∀ σ' H',N σ' H'->∃ m',m' < m/\W m' σ' H')/\tb { D with nx:=N,ct:=N,bk:=D.nx } σ H1 else D.nx σ H1
theorem qd0v{c:Expr}{body:List Stmt}{tc:TT}{tb:TS}(hp:PassesOwn (model X.prog X.w) X.A X.env X.xe)(hc:PT X c tc)(hb:PSs X body tb):PS X (.While c body [] pos) (tWhile tc tb):=by
 intro pins s σ H D I h
 obtain⟨W,⟨m0,w0⟩,turn⟩:=h
 refine wpAny_While (codeAny_whileLoop (fun n s'=>∃ σ' H',Inv X pins σ' H' s'/\W n σ' H') ?_ m0 ⟨σ,H,I,w0⟩)
 rintro n s1 ⟨σ1,H1,I1,w1⟩
 refine wpAny_passesOwn hp (thn (hc pins s1 σ1 H1 _ I1 (turn n σ1 H1 w1)) fun b s2 hq9=>?_)
 obtain⟨H2,I2,q2⟩:=hq9
 cases b with
 | true =>
  obtain⟨N,hN,q2⟩:=q2
  rw [if_pos rfl]
  refine wpAny_passesOwn hp (thn (hb pins s2 σ1 H2 _ I2 q2) fun f s3 q3=>?_)
  cases f with
  | next =>
   obtain⟨σ3,H3,I3,n3⟩:=q3
   obtain⟨m',hm,w3⟩:=hN σ3 H3 n3
   exact⟨m',hm,σ3,H3,I3,w3⟩
  | cont =>
   obtain⟨σ3,H3,I3,n3⟩:=q3
   obtain⟨m',hm,w3⟩:=hN σ3 H3 n3
   exact⟨m',hm,σ3,H3,I3,w3⟩
  | brk=>exact q3
  | ret v=>exact q3
 | false =>
  rw [if_neg Bool.false_ne_true]
  exact wpAny_execs_nil ⟨σ1,H2,I2,q2⟩
end
structure It where
 go:Nat->Hp->Prop
 yld:Nat->Hp->V->Hp->Prop
 stop:Nat->Hp->Prop
def FpOk(X:Cx)(pins:List (Addr × Obj))(H:Hp)(b:Addr):Prop:=
 H b=none/\b ≠ X.env.locals/\b ∉ X.fs/\(b ∈ X.ex ∨ X.s₀.heap.objs.size <= b)/\(∀ x c,X.env.cells.lookup x=some c->c ≠ b)/\∀ p ∈ X.pn ++ pins,p.1 ≠ b
theorem Inv.fpOk{X:Cx}{pins:List (Addr × Obj)}{σ:St}{H H':Hp}{s:Shared}{b:Addr}(I:Inv X pins σ H s)(hb:s.heap.objs.size <= b)(hn:H' b=none):FpOk X pins H' b:=by
 refine⟨hn,Nat.ne_of_gt (Nat.lt_of_lt_of_le I.lt hb),I.nofs hb,.inr (Nat.le_trans I.sz hb),fun x c e z=>?_,fun p hp z=>?_⟩
 ·obtain⟨v,q⟩:=I.cell x c e
  exact absurd (Nat.lt_of_lt_of_le q.lt (by rw [z];exact hb)) (Nat.lt_irrefl _)
 ·exact absurd (Nat.lt_of_lt_of_le (Heap.lt_size (I.pin p hp).1) (by rw [z];exact hb)) (Nat.lt_irrefl _)
structure Turn(P:Program)(w:World)(K:PySem.W.Frag)(tg:Expr)(J:It)(fp:List Addr)(it:Addr)(tn:Nat->Heap->Prop):Prop where
 mem:it ∈ fp
 obj:∀ i h,tn i h->∀ b ∈ fp,∃ o,h.get? b=some o/\∀ v,o.data ≠ .cell v
 keep:∀ i h h',tn i h->(∀ b ∈ fp,∀ o,h.get? b=some o->h'.get? b=some o)->tn i h'
 item:∀ (X:Cx),X.prog=P->X.w=w->X.K=K->X.calm=true->∀ (i:Nat) (pins:List (Addr × Obj)) (s:Shared) (σ:St) (H:Hp) (E:Value->Shared->Prop),Inv X pins σ H s->(∀ b ∈ fp,FpOk X pins H b)->tn i s.heap->J.go i H ->
  wpAny (model P w) X.A (pyNext (.ref it)) (fun r s1=>∃ u,r=some u /\
   wpAny (model P w) X.A (letOwnedTupleGo tg (.ref it) u) (fun _ s2=>∃ x H',Inv X pins σ H' s2/\RelV x u/\J.yld i H x H'/\tn (i + 1) s2.heap/\∀ b ∈ fp,H' b=none) E s1) E s
 done:∀ (X:Cx),X.prog=P->X.w=w->X.K=K->X.calm=true->∀ (i:Nat) (pins:List (Addr × Obj)) (s:Shared) (σ:St) (H:Hp) (E:Value->Shared->Prop),Inv X pins σ H s->(∀ b ∈ fp,FpOk X pins H b)->tn i s.heap->J.stop i H ->
  wpAny (model P w) X.A (pyNext (.ref it)) (fun r s1=>r=none/\Inv X pins σ H s1) E s
 self:∀ (A:Around) (i:Nat) (s:Shared) (Q:Value->Shared->Prop) (E:Value->Shared->Prop),tn i s.heap->Q (.ref it) s->wpAny (model P w) A (pyIter (.ref it)) Q E s
abbrev TI:=St->Hp->(It->Hp->Prop)->Prop
def PIE(X:Cx)(pins:List (Addr × Obj))(σ:St)(tg:Expr)(R:It->Hp->Prop)(itv:Value)(s2:Shared):Prop:=
 ∃ (it:Addr) (fp:List Addr) (tn:Nat->Heap->Prop) (J:It) (H':Hp),itv=.ref it/\Inv X pins σ H' s2/\Turn X.prog X.w X.K tg J fp it tn/\tn 0 s2.heap/\(∀ b ∈ fp,FpOk X pins H' b)/\R J H'
def PI(X:Cx)(tg iter:Expr)(wi:TI):Prop:=
 ∀ (pins:List (Addr × Obj)) (s:Shared) (σ:St) (H:Hp) (R:It->Hp->Prop),Inv X pins σ H s->wi σ H R ->
  wpAny (model X.prog X.w) X.A (eval iter X.env) (fun v s1=>wpAny (model X.prog X.w) X.A (pyIter v) (PIE X pins σ tg R) X.xe s1) X.xe s
theorem go_of{M:Model}{A:Around}{E:Value->Shared->Prop}{s:Shared}{tg:Expr}{it:Addr}{u:Value}{o:Obj}{n:String}{vs:Array Value}{Q:Unit->Shared->Prop}(ho:s.heap.get? it=some o)(hc:o.cls=.type n)(hd:o.data=.fields vs)
  (hn:["enumerate","zip","dict_itemiterator","dict_reverseitemiterator","odict_iterator","itertools.zip_longest","itertools.pairwise"].contains n=false) (hQ:Q () s):wpAny M A (letOwnedTupleGo tg (.ref it) u) Q E s:=by
 unfold letOwnedTupleGo
 cases tg<;>first
  | exact wpAny_pure hQ
  | (cases u<;>first
    | exact wpAny_pure hQ
    | (
      refine wpAny_bind (wpAny_load ho ?_)
      rw [hc,hd]
      show wpAny M A (if (["enumerate","zip","dict_itemiterator","dict_reverseitemiterator","odict_iterator","itertools.zip_longest","itertools.pairwise"].contains n && vs[0]? == some (rawInt _))=true then _ else _) Q E s
      rw [if_neg (by intro h;rw [hn,Bool.false_and] at h;cases h)]
      exact wpAny_pure hQ))
noncomputable def Itl(K:PySem.W.Frag)(a:Addr):It:=
 ⟨fun i H=>∃ xs x,SqL K H a xs/\xs[i]? = some x,fun i H x H'=>H'=H/\∀ xs,SqL K H a xs->xs[i]? = some x,fun i H=>∃ xs,SqL K H a xs/\xs.length <= i⟩
noncomputable def Itt(K:PySem.W.Frag)(a:Addr):It:=
 ⟨fun i H=>∃ xs x,SqT K H a xs/\xs[i]? = some x,fun i H x H'=>H'=H/\∀ xs,SqT K H a xs->xs[i]? = some x,fun i H=>∃ xs,SqT K H a xs/\xs.length <= i⟩
noncomputable def Itr(lo:Int)(n:Nat):It:=⟨fun i _=>i < n,fun i H x H'=>H'=H/\x=.int (lo + i),fun i _=>n <= i⟩
theorem qc8s{P:Program}{w:World}{K:PySem.W.Frag}{tg:Expr}(a it:Addr):Turn P w K tg (Itl K a) [it] it (fun i h=>h.IsListIter it a i) where
 mem:=by simp
 obj:=fun i h st b hb=>by
  have e:b=it:=by simpa using hb
  subst e
  obtain⟨o,e,c,d⟩:=st
  exact⟨o,e,fun v z=>by rw [d] at z;cases z⟩
 keep:=fun i h h' st k=>st.at fun o e=>k it (by simp) o e
 item:=by
  intro X hP hw hK hc i pins s σ H E I hf st hg
  subst hP hw hK
  obtain⟨xs,x,hq,hx⟩:=hg
  obtain⟨its,rv,p,hz⟩:=I.list hq
  obtain⟨u,hu,ru⟩:=rv.get hx
  obtain⟨f0,f1,f2,f3,f4,f5⟩:=hf it (by simp)
  refine wpAny_pyNext_list_item st p.isList (x:=u) (by simpa using hu) fun h' st' sb=>?_
  have I1:Inv X pins σ H { s with heap:=h' }:=I.turned (t':=s.toks) (fun b o hb e=>(sb.2 b hb).trans e) f0 f1 f3 f4 f5
  obtain⟨o,e,c,d⟩:=id st'
  exact⟨u,rfl,go_of (s:={ s with heap:=h' }) e c d (by decide) ⟨x,H,I1,ru,⟨rfl,fun ys hy=>by rw [I.list_inj hy hq];exact hx⟩,st',fun b hb=>(hf b hb).1⟩⟩
 done:=by
  intro X hP hw hK hc i pins s σ H E I hf st hg
  subst hP hw hK
  obtain⟨xs,hq,hx⟩:=hg
  obtain⟨its,rv,p,hz⟩:=I.list hq
  obtain⟨f0,f1,f2,f3,f4,f5⟩:=hf it (by simp)
  have hl:=rv.length
  exact wpAny_pyNext_list_end (I.ok.hd hc) st p.isList (by simp;omega) fun h' eb=>⟨rfl,I.turned (t':=s.toks) (fun b o hb e=>eb b o hb e) f0 f1 f3 f4 f5⟩
 self:=fun _ _ _ _ _ st h=>wpAny_pyIter_listiter st h
theorem qc6c{P:Program}{w:World}{K:PySem.W.Frag}{tg:Expr}(a it:Addr):Turn P w K tg (Itt K a) [it] it (fun i h=>h.IsTupleIter it a i) where
 mem:=by simp
 obj:=fun i h st b hb=>by
  have e:b=it:=by simpa using hb
  subst e
  obtain⟨o,e,c,d⟩:=st
  exact⟨o,e,fun v z=>by rw [d] at z;cases z⟩
 keep:=fun i h h' st k=>st.at fun o e=>k it (by simp) o e
 item:=by
  intro X hP hw hK hc i pins s σ H E I hf st hg
  subst hP hw hK
  obtain⟨xs,x,hq,hx⟩:=hg
  obtain⟨its,rv,p,hz⟩:=I.tuple hq
  obtain⟨u,hu,ru⟩:=rv.get hx
  obtain⟨f0,f1,f2,f3,f4,f5⟩:=hf it (by simp)
  refine wpAny_pyNext_tuple_item st (show s.heap.IsTuple a its.toArray from p) (x:=u) (by simpa using hu) fun h' st' sb=>?_
  have I1:Inv X pins σ H { s with heap:=h' }:=I.turned (t':=s.toks) (fun b o hb e=>(sb.2 b hb).trans e) f0 f1 f3 f4 f5
  obtain⟨o,e,c,d⟩:=id st'
  exact⟨u,rfl,go_of (s:={ s with heap:=h' }) e c d (by decide) ⟨x,H,I1,ru,⟨rfl,fun ys hy=>by rw [I.tuple_inj hy hq];exact hx⟩,st',fun b hb=>(hf b hb).1⟩⟩
 done:=by
  intro X hP hw hK hc i pins s σ H E I hf st hg
  subst hP hw hK
  obtain⟨xs,hq,hx⟩:=hg
  obtain⟨its,rv,p,hz⟩:=I.tuple hq
  obtain⟨f0,f1,f2,f3,f4,f5⟩:=hf it (by simp)
  have hl:=rv.length
  exact wpAny_pyNext_tuple_end (I.ok.hd hc) st (show s.heap.IsTuple a its.toArray from p) (by simp;omega) fun h' eb=>⟨rfl,I.turned (t':=s.toks) (fun b o hb e=>eb b o hb e) f0 f1 f3 f4 f5⟩
 self:=fun _ _ _ _ _ st h=>wpAny_pyIter_tupleiter st h
theorem qc6d{P:Program}{w:World}{K:PySem.W.Frag}{tg:Expr}(it:Addr)(lo:Int)(n:Nat):Turn P w K tg (Itr lo n) [it] it (fun i h=>IsRangeIter h it (lo + (i:Nat) * 1) ((n:Int) - (i:Nat)) 1) where
 mem:=by simp
 obj:=fun i h st b hb=>by
  have e:b=it:=by simpa using hb
  subst e
  exact⟨_,st,fun v z=>by
   have z':Data.fields _=Data.cell v:=z
   cases z'⟩
 keep:=fun i h h' st k=>k it (by simp) _ st
 item:=by
  intro X hP hw hK hc i pins s σ H E I hf st hg
  subst hP hw hK
  obtain⟨f0,f1,f2,f3,f4,f5⟩:=hf it (by simp)
  have W:=Walks.range (prog:=X.prog) (w:=X.w) (I.ok.hd hc) it lo 1 n
  refine W.item i s _ _ hg st fun v h' tk hv st' kk=>?_
  obtain⟨t,rfl⟩:=hv
  have I1:Inv X pins σ H { s with heap:=h',toks:=tk }:=I.turned (fun b o hb e=>kk b o (by simpa using hb) e) f0 f1 f3 f4 f5
  refine⟨_,rfl,go_of (s:={ s with heap:=h',toks:=tk }) (n:="range_iterator") st' rfl rfl (by decide) ⟨.int (lo + i),H,I1,⟨t,?_⟩,⟨rfl,rfl⟩,st',fun b hb=>(hf b hb).1⟩⟩
  rw [Int.mul_one]
 done:=by
  intro X hP hw hK hc i pins s σ H E I hf st hg
  subst hP hw hK
  obtain⟨f0,f1,f2,f3,f4,f5⟩:=hf it (by simp)
  exact wpAny_pyNext_range_end (I.ok.hd hc) st (by have:n <= i:=hg;omega) fun h' eb=>⟨rfl,I.turned (t':=s.toks) (fun b o hb e=>eb b o hb e) f0 f1 f3 f4 f5⟩
 self:=fun _ _ _ _ _ st h=>wpAny_pyIter_rangeiter st h
end L2
namespace L2
open PySem PySem.Spec PyProof.Rows
section
variable{X:Cx}{tg:Expr}
theorem qd0w{pins:List (Addr × Obj)}{σ:St}{H:Hp}{s:Shared}{R:It->Hp->Prop}{E:Value->Shared->Prop}{lo hi:Int}{t u v:Tok}{tk:Nat}(I:Inv X pins σ H s)(h1:-(2 ^ 62) <= lo)(h2:lo < 2 ^ 62)(h3:-(2 ^ 62) <= hi)(h4:hi < 2 ^ 62)
  (q:R (Itr lo (hi - lo).toNat) H):wpAny (model X.prog X.w) X.A (pyIter (.ref s.heap.objs.size)) (PIE X pins σ tg R) E { s with heap:=s.heap.push { cls:=.type "range",data:=.fields #[.int lo t,.int hi u,.int 1 v] },toks:=tk }:=by
 refine wpAny_pyIter_range (IsRange.new ..) (small_one h1 h2 h3 h4) ?_
 have I1:Inv X pins σ H { s with heap:=s.heap.push { cls:=.type "range",data:=.fields #[.int lo t,.int hi u,.int 1 v] },toks:=tk }:=I.kept fun b o e=>Heap.get?_push_of_some _ e
 refine⟨(s.heap.push { cls:=.type "range",data:=.fields #[.int lo t,.int hi u,.int 1 v] }).objs.size,[(s.heap.push { cls:=.type "range",data:=.fields #[.int lo t,.int hi u,.int 1 v] }).objs.size],_,_,H,rfl,
  I1.kept (t':=tk) fun b o e=>Heap.get?_push_of_some _ e,qc6d _ lo (hi - lo).toNat,?_,fun b hb=>?_,q⟩
 ·have e1:lo + ((0:Nat):Int) * 1=lo:=by simp
  have e2:(((hi - lo).toNat:Nat):Int) - ((0:Nat):Int)=Builtin.Range.rangeSize lo hi 1:=by rw [rangeSize_one];split<;>omega
  show IsRangeIter _ _ (lo + ((0:Nat):Int) * 1) ((((hi - lo).toNat:Nat):Int) - ((0:Nat):Int)) 1
  rw [e1,e2]
  exact Heap.get?_push_size _ rfl
 ·have e:b=(s.heap.push { cls:=.type "range",data:=.fields #[.int lo t,.int hi u,.int 1 v] }).objs.size:=by simpa using hb
  subst e
  exact I1.fpOk (Nat.le_refl _) (I1.hok.fresh (Nat.le_refl _))
def iRng1(ta:TA):TI:=fun σ H R=>ta σ H fun vs H1=>∃ j:Int,vs=[.int j] /\ -(2 ^ 62) <= j/\j < 2 ^ 62/\R (Itr 0 j.toNat) H1
theorem qc8t{a:Expr}{ta:TA}{p pos:Pos} (hg:Gl X "range") (hm:X.mg "range" = none) (ha:PA X [a] ta) (hs:starEach [a] X.env=[(false,eval a X.env)]:=by rfl):PI X tg (.Call (.Name "range" p) [a] [] pos) (iRng1 ta):=by
 intro pins s σ H R I h
 refine Call_ (qa6c I hg hm boot_range (PyProof.Rows.callWith_type1 (thn (ha pos pins s σ H _ I h) fun us s1 hq8=>?_) hs rfl))
 obtain⟨vs,H1,I1,r1,q1⟩:=hq8
 obtain⟨j,e,q1,q2,q⟩:=q1
 subst e
 cases r1 with
 | cons r rr =>
  cases rr
  obtain⟨t,rfl⟩:=r
  exact call_range_1 (qd0w I1 (by omega) (by omega) q1 q2 (by simpa using q))
def tFor(wi:TI)(g:TG)(tb:TS):TS:=fun D σ H=>wi σ H fun J H1=>∃ W:Nat->Nat->St->Hp->Prop,(∃ m,W 0 m σ H1)/\∀ i m σ H,W i m σ H ->
 (J.stop i H/\D.nx σ H) ∨ (J.go i H/\∃ N:St->Hp->Prop,(∀ σ' H',N σ' H'->∃ m',m' < m/\W (i + 1) m' σ' H')/\∀ x H',J.yld i H x H'->g x σ H' fun σ2 H2=>tb { D with nx:=N,ct:=N,bk:=D.nx } σ2 H2)
noncomputable def qb3i(fp:List Addr)(h:Heap):List (Addr × Obj):=fp.filterMap fun b=>(h.get? b).map fun o=>(b,o)
theorem qa8r{fp:List Addr}{h:Heap}{b:Addr}{o:Obj}(hb:b ∈ fp)(e:h.get? b=some o):(b,o) ∈ qb3i fp h:=List.mem_filterMap.mpr ⟨b,hb,by rw [e];rfl⟩
theorem qc8u{fp:List Addr}{h:Heap}{p:Addr × Obj}(hp:p ∈ qb3i fp h):p.1 ∈ fp/\h.get? p.1=some p.2:=by
 obtain⟨b,hb,e⟩:=List.mem_filterMap.mp hp
 cases q:h.get? b with
 | none=>rw [q] at e;cases e
 | some o =>
  rw [q] at e
  have e':(b,o)=p:=Option.some.inj e
  subst e'
  exact⟨hb,q⟩
theorem Inv.pinned{pins:List (Addr × Obj)}{σ:St}{H:Hp}{s:Shared}{fp:List Addr}(I:Inv X pins σ H s)(hf:∀ b ∈ fp,FpOk X pins H b)(ho:∀ b ∈ fp,∃ o,s.heap.get? b=some o/\∀ v,o.data ≠ .cell v):Inv X (pins ++ qb3i fp s.heap) σ H s:=
 I.pins_of fun p hp=>(List.mem_append.mp hp).elim (fun z=>I.pin p (List.mem_append_right _ z)) fun z=>by
  obtain⟨hb,e⟩:=qc8u z
  obtain⟨f0,f1,f2,_⟩:=hf p.1 hb
  obtain⟨o,e',d⟩:=ho p.1 hb
  rw [e] at e';cases e'
  exact⟨e,f0,f1,f2,d⟩
theorem Inv.unpinned{pins pl:List (Addr × Obj)}{σ:St}{H:Hp}{s:Shared}(I:Inv X (pins ++ pl) σ H s):Inv X pins σ H s:=I.pins_of fun p hp=>I.pin p (List.mem_append_right _ (List.mem_append_left _ hp))
theorem ps_for{iter:Expr}{body:List Stmt}{wi:TI}{g:TG}{tb:TS}{pos:Pos}(hp:PassesOwn (model X.prog X.w) X.A X.env X.xe)(hc:X.calm=true)(hi:PI X tg iter wi)(hg:PG X tg g)(hb:PSs X body tb)
  (hs:∀ x,foldedSetIterable iter X.env x=pure x:=by intro _;rfl):PS X (.For tg iter body [] pos) (tFor wi g tb):=by
 intro pins s σ H D I h
 refine wpAny_For (thn (hi pins s σ H _ I h) fun v s1 h1=>thn h1 fun itv s2 h2=>?_) hs
 obtain⟨it,fp,tn,J,H2,e,I2,T,st2,f2,W,⟨m0,w0⟩,turn⟩:=h2
 subst e
 -- what stays true of the iterator's objects through the loop
 have stat:∀ {H':Hp},(∀ b ∈ fp,H' b=none)->∀ b ∈ fp,FpOk X pins H' b:=fun hn b hb=>⟨hn b hb,(f2 b hb).2⟩
 refine codeAny_forLoop_any (fun n s'=>∃ i σ' H',Inv X pins σ' H' s'/\tn i s'.heap/\(∀ b ∈ fp,H' b=none)/\W i n σ' H') ?_ m0 ⟨0,σ,H2,I2,st2,fun b hb=>(f2 b hb).1,w0⟩
 rintro n s3 ⟨i,σ3,H3,I3,st3,fr3,w3⟩
 rcases turn i n σ3 H3 w3 with⟨stop,qn⟩ | ⟨go,N,hN,step⟩
 ·refine wpAny_passesOwn hp (thn (T.done X rfl rfl rfl hc i pins s3 σ3 H3 X.xe I3 (stat fr3) st3 stop) fun r s4 hq9=>?_)
  obtain⟨hr,I4⟩:=hq9
  subst hr
  exact wpAny_execs_nil ⟨σ3,H3,I4,qn⟩
 ·refine wpAny_passesOwn hp (thn (T.item X rfl rfl rfl hc i pins s3 σ3 H3 X.xe I3 (stat fr3) st3 go) fun r s4 hq9=>?_)
  obtain⟨u,hr,h4⟩:=hq9
  subst hr
  refine wpAny_passesOwn hp (thn h4 fun _ s5 hq9=>?_)
  obtain⟨x,H5,I5,r5,y5,st5,fr5⟩:=hq9
  have I5':=I5.pinned (stat fr5) (T.obj _ _ st5)
  refine wpAny_passesOwn hp (thn (hg _ s5 σ3 H5 x u _ I5' r5 (step x H5 y5)) fun _ s6 hq9=>?_)
  obtain⟨σ6,H6,I6,q6⟩:=hq9
  refine wpAny_passesOwn hp (thn (hb _ s6 σ6 H6 _ I6 q6) fun f s7 q7=>?_)
  have again:∀ {σ7:St} {H7:Hp},Inv X (pins ++ qb3i fp s5.heap) σ7 H7 s7->N σ7 H7->∃ m,m < n/\∃ i σ' H',Inv X pins σ' H' s7/\tn i s7.heap/\(∀ b ∈ fp,H' b=none)/\W i m σ' H':=fun{σ7 H7} I7 n7=>by
   obtain⟨m',hm,w7⟩:=hN σ7 H7 n7
   refine⟨m',hm,i + 1,σ7,H7,I7.unpinned,T.keep _ _ _ st5 fun b hb o e=>(I7.pin (b,o) (List.mem_append_right _ (List.mem_append_right _ (qa8r hb e)))).1,fun b hb=>?_,w7⟩
   obtain⟨o,e,d⟩:=T.obj _ _ st5 b hb
   exact(I7.pin (b,o) (List.mem_append_right _ (List.mem_append_right _ (qa8r hb e)))).2.1
  cases f with
  | next=>obtain⟨σ7,H7,I7,n7⟩:=q7;exact again I7 n7
  | cont=>obtain⟨σ7,H7,I7,n7⟩:=q7;exact again I7 n7
  | brk=>obtain⟨σ7,H7,I7,q7⟩:=q7;exact⟨σ7,H7,I7.unpinned,q7⟩
  | ret v=>obtain⟨x7,σ7,H7,I7,r7,q7⟩:=q7;exact⟨x7,σ7,H7,I7.unpinned,r7,q7⟩
end
end L2
namespace L2
open PySem PySem.Spec PyProof.Rows
abbrev R2:=V->V->Hp->VK->Prop
def OpR(X:Cx)(f:Value->Value->Sem Value)(r:R2):Prop:=
 ∀ (pins:List (Addr × Obj)) (s:Shared) (σ:St) (H:Hp) (x y:V) (v u:Value) (Q:VK),Inv X pins σ H s->RelV x v->RelV y u->r x y H Q ->
  wpAny (model X.prog X.w) X.A (f v u) (EP X pins σ Q) X.xe s
def qa2r(X:Cx)(f:Value)(r:List V->Hp->VK->Prop):Prop:=
 ∀ (pins:List (Addr × Obj)) (s:Shared) (σ:St) (H:Hp) (xs:List V) (us:List Value) (Q:VK),Inv X pins σ H s->Vals xs us->r xs H Q ->
  wpAny (model X.prog X.w) X.A (call f us) (EP X pins σ Q) X.xe s
def TruR(X:Cx)(r:V->Hp->(Bool->Hp->Prop)->Prop):Prop:=
 ∀ (pins:List (Addr × Obj)) (s:Shared) (σ:St) (H:Hp) (x:V) (v:Value) (Q:Bool->Hp->Prop),Inv X pins σ H s->RelV x v->r x H Q ->
  wpAny (model X.prog X.w) X.A (truthy v) (TP X pins σ Q) X.xe s
def tOp(r:R2)(ta tb:TE):TE:=fun σ H Q=>ta σ H fun x H1=>tb σ H1 fun y H2=>r x y H2 Q
def rI(C:Int->Int->Prop)(g:Int->Int->V):R2:=fun x y H Q=>∃ i j,x=.int i/\y=.int j/\C i j/\Q (g i j) H
def rI0(g:Int->Int->V):R2:=fun x y H Q=>∃ i j,x=.int i/\y=.int j/\Q (g i j) H
section
variable{X:Cx}{a b c:Expr}{ta tb tc:TE}{pos:Pos}
theorem binT(ha:PE X a ta)(hb:PE X b tb){pins:List (Addr × Obj)}{s:Shared}{σ:St}{H:Hp}{R:V->V->Hp->Prop}(I:Inv X pins σ H s)
  (h:ta σ H fun x H1=>tb σ H1 fun y H2=>R x y H2) {Q:Value->Shared->Prop} {f:Value->Value->Sem Value}
  (hf:∀ v u s2 x y H2,Inv X pins σ H2 s2->RelV x v->RelV y u->R x y H2->wpAny (model X.prog X.w) X.A (f v u) Q X.xe s2) :
  wpAny (model X.prog X.w) X.A (eval a X.env) (fun v s₁=>wpAny (model X.prog X.w) X.A (eval b X.env) (fun u s₂=>wpAny (model X.prog X.w) X.A (f v u) Q X.xe s₂) X.xe s₁) X.xe s:=by
 refine thn (ha pins s σ H _ I h) fun v s1 hq9=>?_
 obtain⟨x,H1,I1,r1,q1⟩:=hq9
 refine thn (hb pins s1 σ H1 _ I1 q1) fun u s2 hq9=>?_
 obtain⟨y,H2,I2,r2,q2⟩:=hq9
 exact hf v u s2 x y H2 I2 r1 r2 q2
theorem qa3o{op:Operator}{r:R2}(ho:OpR X (binaryOp op) r)(ha:PE X a ta)(hb:PE X b tb):PE X (.BinOp a op b pos) (tOp r ta tb):=by
 intro pins s σ H Q I h
 exact wpAny_BinOp (binT ha hb I h fun v u s2 x y H2 I2 rx ry q=>ho pins s2 σ H2 x y v u Q I2 rx ry q)
theorem opI{f:Value->Value->Sem Value}{C:Int->Int->Prop}{g:Int->Int->Int}
  (rule:∀ (i j:Int) (t u:Tok) (s:Shared) (Q:Value->Shared->Prop) (E:Value->Shared->Prop),C i j->Q (.int (g i j) s.toks) { s with toks:=s.toks + 1 }->wpAny (model X.prog X.w) X.A (f (.int i t) (.int j u)) Q E s) :
  OpR X f (rI C fun i j=>.int (g i j)):=by
 intro pins s σ H x y v u Q I rx ry h
 obtain⟨i,j,rfl,rfl,hc,q⟩:=h
 obtain⟨t,rfl⟩:=rx
 obtain⟨t',rfl⟩:=ry
 exact rule i j t t' s _ _ hc ⟨.int (g i j),H,I.tok _,⟨_,rfl⟩,q⟩
theorem opI0{f:Value->Value->Sem Value}{g:Int->Int->Int}
  (rule:∀ (i j:Int) (t u:Tok) (s:Shared) (Q:Value->Shared->Prop) (E:Value->Shared->Prop),Q (.int (g i j) s.toks) { s with toks:=s.toks + 1 }->wpAny (model X.prog X.w) X.A (f (.int i t) (.int j u)) Q E s) :
  OpR X f (rI0 fun i j=>.int (g i j)):=by
 intro pins s σ H x y v u Q I rx ry h
 obtain⟨i,j,rfl,rfl,q⟩:=h
 obtain⟨t,rfl⟩:=rx
 obtain⟨t',rfl⟩:=ry
 exact rule i j t t' s _ _ ⟨.int (g i j),H,I.tok _,⟨_,rfl⟩,q⟩
theorem opB0{f:Value->Value->Sem Value}{g:Int->Int->Bool}
  (rule:∀ (i j:Int) (t u:Tok) (s:Shared) (Q:Value->Shared->Prop) (E:Value->Shared->Prop),Q (.bool (g i j)) s->wpAny (model X.prog X.w) X.A (f (.int i t) (.int j u)) Q E s) :
  OpR X f (rI0 fun i j=>.bl (g i j)):=by
 intro pins s σ H x y v u Q I rx ry h
 obtain⟨i,j,rfl,rfl,q⟩:=h
 obtain⟨t,rfl⟩:=rx
 obtain⟨t',rfl⟩:=ry
 exact rule i j t t' s _ _ ⟨.bl (g i j),H,I,rfl,q⟩
def CDiv(i j:Int):Prop:=0 < j/\j < 1073741824
def CPow(i j:Int):Prop:=0 <= j/\j <= 1000000/\i.natAbs < 2 ^ 64
def CMul(i j:Int):Prop:=(-(2 ^ 64) < i/\i < 2 ^ 64) ∨ (-(2 ^ 64) < j/\j < 2 ^ 64)
theorem CMul.ok{i j:Int}(h:CMul i j):IntMulOk i j:=by
 rcases h with⟨h1,h2⟩ | ⟨h1,h2⟩
 ·exact .of_left (intBits_le_64 h1 h2)
 ·exact .of_right (intBits_le_64 h1 h2)
theorem qc6e(k:Nat):(0:Int) <= 2 ^ k:=by
 rw [two_pow_cast]
 exact Int.natCast_nonneg _
theorem qb6c:OpR X (binaryOp .Add) (rI0 fun i j=>.int (i + j)):=opI0 fun _ _ _ _ _ _ _ q=>add_int q
theorem qa4d:OpR X (binaryOp .Sub) (rI0 fun i j=>.int (i - j)):=opI0 fun _ _ _ _ _ _ _ q=>sub_int q
theorem qb3j:OpR X (binaryOp .Mult) (rI CMul fun i j=>.int (i * j)):=opI fun _ _ _ _ _ _ _ hc q=>mul_int q hc.ok
theorem op_fdiv:OpR X (binaryOp .FloorDiv) (rI CDiv fun i j=>.int (i / j)):=opI fun i j _ _ _ _ _ hc q=>by
 have h1:(0:Int) < j:=hc.1
 have h2:j < 1073741824:=hc.2
 exact floordiv_int (by omega) (by rw [Int.fdiv_eq_ediv_of_nonneg i (by omega)];exact q) (.inl (PyProof.noPylong_small (by omega)))
theorem qa9z:OpR X (binaryOp .Mod) (rI (fun _ j=>0 < j) fun i j=>.int (i % j)):=opI fun i j _ _ _ _ _ hc q=>by
 have h1:(0:Int) < j:=hc
 exact mod_int' (by omega) (by rw [Int.fmod_eq_emod_of_nonneg i (by omega)];exact q)
theorem op_pow:OpR X (binaryOp .Pow) (rI CPow fun i j=>.int (i ^ j.toNat)):=opI fun _ _ _ _ _ _ _ hc q=>pow_int_small hc.1 hc.2.1 hc.2.2 q
theorem op_shr:OpR X (binaryOp .RShift) (rI (fun _ j=>0 <= j) fun i j=>.int (i / 2 ^ j.toNat)):=opI fun i j _ _ _ _ _ hc q =>
 rshift_int hc (by rw [Int.fdiv_eq_ediv_of_nonneg i (qc6e _)];exact q)
end
noncomputable def scal:V->V->Bool
 | .non,.non=>true | .non,.int _=>true | .int _,.non=>true | .non,.bl _=>true | .bl _,.non=>true | .non,.str _=>true | .str _,.non=>true
 | .int _,.int _=>true | .bl _,.bl _=>true | .str _,.str _=>true | .byt _,.byt _=>true
 | .int _,.str _=>true | .str _,.int _=>true | .bl _,.str _=>true | .str _,.bl _=>true
 | _,_=>false
def rEq:R2:=fun x y H Q=>scal x y=true/\Q (.bl (decide (x=y))) H
def rNe:R2:=fun x y H Q=>scal x y=true/\Q (.bl (!decide (x=y))) H
theorem qc4r{i j:Int}:decide (V.int i=V.int j)=(i == j):=by
 rw [Bool.eq_iff_iff]
 simp
theorem dec_bl{i j:Bool}:decide (V.bl i=V.bl j)=(i == j):=by
 rw [Bool.eq_iff_iff]
 simp
theorem qc4s{i j:Str}:decide (V.str i=V.str j)=(i == j):=by
 rw [Bool.eq_iff_iff]
 simp
theorem qc4t{i j:Array UInt8}:decide (V.byt i=V.byt j)=(i.toList == j.toList):=by
 rw [Bool.eq_iff_iff]
 cases i
 cases j
 simp
section
variable{X:Cx}{a b c:Expr}{ta tb tc:TE}{pos:Pos}
theorem qa1k{pins:List (Addr × Obj)}{σ:St}{H:Hp}{s:Shared}{Q:VK}{k k':Bool}(I:Inv X pins σ H s)(q:Q (.bl k) H)(e:k=k'):EP X pins σ Q (.bool k') s:=by
 subst e
 exact⟨.bl k,H,I,rfl,q⟩
theorem op_eq:OpR X (compareOp .Eq) rEq:=by
 intro pins s σ H x y v u Q I rx ry h
 obtain⟨hs,q⟩:=h
 cases x with
 | non =>
  cases rx
  cases y with
  | non=>cases ry;exact PySem.EqNone.eq_none_none (qa1k I q (by simp))
  | bl j=>cases ry;exact PySem.EqNone.eq_none_bool (qa1k I q (by simp))
  | int j=>obtain⟨t',rfl⟩:=ry;exact PySem.EqNone.eq_none_int (qa1k I q (by simp))
  | str j=>obtain⟨t',rfl⟩:=ry;exact PySem.EqNone.eq_none_str (qa1k I q (by simp))
  | _=>exact absurd (show false=true from hs) Bool.false_ne_true
 | bl i =>
  cases rx
  cases y with
  | non=>cases ry;exact PySem.EqNone.eq_bool_none (qa1k I q (by simp))
  | bl j=>cases ry;exact eq_bool (qa1k I q dec_bl)
  | str j=>obtain⟨t',rfl⟩:=ry;exact PySem.EqMixed.eq_bool_str (qa1k I q (by simp))
  | _=>exact absurd (show false=true from hs) Bool.false_ne_true
 | int i =>
  obtain⟨t,rfl⟩:=rx
  cases y with
  | non=>cases ry;exact PySem.EqNone.eq_int_none (qa1k I q (by simp))
  | int j=>obtain⟨t',rfl⟩:=ry;exact eq_int (qa1k I q qc4r)
  | str j=>obtain⟨t',rfl⟩:=ry;exact PySem.EqMixed.eq_int_str (qa1k I q (by simp))
  | _=>exact absurd (show false=true from hs) Bool.false_ne_true
 | str i =>
  obtain⟨t,rfl⟩:=rx
  cases y with
  | non=>cases ry;exact PySem.EqNone.eq_str_none (qa1k I q (by simp))
  | bl j=>cases ry;exact PySem.EqMixed.eq_str_bool (qa1k I q (by simp))
  | int j=>obtain⟨t',rfl⟩:=ry;exact PySem.EqMixed.eq_str_int (qa1k I q (by simp))
  | str j=>obtain⟨t',rfl⟩:=ry;exact eq_str (qa1k I q qc4s)
  | _=>exact absurd (show false=true from hs) Bool.false_ne_true
 | byt i =>
  obtain⟨t,rfl⟩:=rx
  cases y with
  | byt j=>obtain⟨t',rfl⟩:=ry;exact PySem.W.eq_bytes (qa1k I q qc4t)
  | _=>exact absurd (show false=true from hs) Bool.false_ne_true
 | _=>cases y<;>exact absurd (show false=true from hs) Bool.false_ne_true
theorem op_ne:OpR X (compareOp .NotEq) rNe:=by
 intro pins s σ H x y v u Q I rx ry h
 obtain⟨hs,q⟩:=h
 cases x with
 | non =>
  cases rx
  cases y with
  | non=>cases ry;exact PySem.EqNone.ne_none_none (qa1k I q (by simp))
  | bl j=>cases ry;exact PySem.EqNone.ne_none_bool (qa1k I q (by simp))
  | int j=>obtain⟨t',rfl⟩:=ry;exact PySem.EqNone.ne_none_int (qa1k I q (by simp))
  | str j=>obtain⟨t',rfl⟩:=ry;exact PySem.EqNone.ne_none_str (qa1k I q (by simp))
  | _=>exact absurd (show false=true from hs) Bool.false_ne_true
 | bl i =>
  cases rx
  cases y with
  | non=>cases ry;exact PySem.EqNone.ne_bool_none (qa1k I q (by simp))
  | bl j=>cases ry;exact ne_bool (qa1k I q (congrArg not dec_bl))
  | str j=>obtain⟨t',rfl⟩:=ry;exact PySem.EqMixed.ne_bool_str (qa1k I q (by simp))
  | _=>exact absurd (show false=true from hs) Bool.false_ne_true
 | int i =>
  obtain⟨t,rfl⟩:=rx
  cases y with
  | non=>cases ry;exact PySem.EqNone.ne_int_none (qa1k I q (by simp))
  | int j=>obtain⟨t',rfl⟩:=ry;exact ne_int (qa1k I q (congrArg not qc4r))
  | str j=>obtain⟨t',rfl⟩:=ry;exact PySem.EqMixed.ne_int_str (qa1k I q (by simp))
  | _=>exact absurd (show false=true from hs) Bool.false_ne_true
 | str i =>
  obtain⟨t,rfl⟩:=rx
  cases y with
  | non=>cases ry;exact PySem.EqNone.ne_str_none (qa1k I q (by simp))
  | bl j=>cases ry;exact PySem.EqMixed.ne_str_bool (qa1k I q (by simp))
  | int j=>obtain⟨t',rfl⟩:=ry;exact PySem.EqMixed.ne_str_int (qa1k I q (by simp))
  | str j=>obtain⟨t',rfl⟩:=ry;exact ne_str (qa1k I q (congrArg not qc4s))
  | _=>exact absurd (show false=true from hs) Bool.false_ne_true
 | byt i =>
  obtain⟨t,rfl⟩:=rx
  cases y with
  | byt j=>obtain⟨t',rfl⟩:=ry;exact PySem.W.ne_bytes (qa1k I q (congrArg not qc4t))
  | _=>exact absurd (show false=true from hs) Bool.false_ne_true
 | _=>cases y<;>exact absurd (show false=true from hs) Bool.false_ne_true
theorem qa8s:OpR X (compareOp .Lt) (rI0 fun i j=>.bl (decide (i < j))):=opB0 fun _ _ _ _ _ _ _ q=>lt_int q
theorem op_le:OpR X (compareOp .LtE) (rI0 fun i j=>.bl (decide (i <= j))):=opB0 fun _ _ _ _ _ _ _ q=>le_int q
theorem qa8t:OpR X (compareOp .Gt) (rI0 fun i j=>.bl (decide (j < i))):=opB0 fun _ _ _ _ _ _ _ q=>gt_int q
theorem op_ge:OpR X (compareOp .GtE) (rI0 fun i j=>.bl (decide (j <= i))):=opB0 fun _ _ _ _ _ _ _ q=>ge_int q
theorem qc8v:OpR X (compareOp .In) (fun x y H Q=>∃ i j,x=.str i/\y=.str j/\Q (.bl (!(Builtin.Str.occurrences j i 0 j.length 1).isEmpty)) H):=by
 intro pins s σ H x y v u Q I rx ry h
 obtain⟨i,j,rfl,rfl,q⟩:=h
 obtain⟨t,rfl⟩:=rx
 obtain⟨t',rfl⟩:=ry
 exact in_str (qa1k I q rfl)
theorem op_isN:OpR X (compareOp .Is) (fun x y H Q=>y=.non/\Q (.bl (decide (x=.non))) H):=by
 intro pins s σ H x y v u Q I rx ry h
 obtain⟨rfl,q⟩:=h
 cases ry
 refine is_none_gen (qa1k I q ?_)
 cases x<;>first
  | (cases rx;rfl)
  | (obtain⟨t,rfl⟩:=rx;rfl)
theorem OpR.or{f:Value->Value->Sem Value}{r r':R2}(h:OpR X f r)(h':OpR X f r'):OpR X f (fun x y H Q=>r x y H Q ∨ r' x y H Q):=by
 intro pins s σ H x y v u Q I rx ry q
 rcases q with q | q
 ·exact h pins s σ H x y v u Q I rx ry q
 ·exact h' pins s σ H x y v u Q I rx ry q
theorem qa0m(b:Expr){op:CmpOp}(h:op ≠ .In:=by decide)(h2:op ≠ .NotIn:=by decide):behindInMarks op b=false:=by
 have e1:(op == CmpOp.In)=false:=by cases op<;>first | rfl | exact absurd rfl h
 have e2:(op == CmpOp.NotIn)=false:=by cases op<;>first | rfl | exact absurd rfl h2
 cases b<;>simp [behindInMarks,e1,e2]
theorem qc4u{op:CmpOp}{r:R2}(ho:OpR X (compareOp op) r)(ha:PE X a ta)(hb:PE X b tb)(hm:behindInMarks op b=false):PE X (.Compare a [op] [b] pos) (tOp r ta tb):=by
 intro pins s σ H Q I h
 exact wpAny_Compare1 (binT ha hb I h fun v u s2 x y H2 I2 rx ry q=>ho pins s2 σ H2 x y v u Q I2 rx ry q) hm
def tTest(t:TE):TT:=fun σ H Q=>t σ H fun x H'=>∃ k,x=.bl k/\Q k H'
theorem qb4l{op:CmpOp}{r:R2}(ho:OpR X (compareOp op) r)(ha:PE X a ta)(hb:PE X b tb)(hm:behindInMarks op b=false):PT X (.Compare a [op] [b] pos) (tTest (tOp r ta tb)):=by
 intro pins s σ H Q I h
 refine wpAny_isTrue_Compare1 (thn (ha pins s σ H _ I h) fun v s1 ⟨x,H1,I1,r1,q1⟩=>thn (hb pins s1 σ H1 _ I1 q1) fun u s2 ⟨y,H2,I2,r2,q2⟩ =>
  thn (ho pins s2 σ H2 x y v u _ I2 r1 r2 q2) fun c s3 ⟨z,H3,I3,r3,k,e,q3⟩=>?_) hm
 subst e
 cases r3
 exact wpAny_truthy_bool ⟨H3,I3,q3⟩
def tChain(r r':R2)(ta tb tc:TE):TE:=fun σ H Q=>ta σ H fun x H1=>tb σ H1 fun y H2=>r x y H2 fun z H3=>∃ k,z=.bl k /\
 (if k=true then tc σ H3 fun w' H4=>r' y w' H4 Q else Q (.bl false) H3)
theorem qd0x{op op':CmpOp}{r r':R2}(ho:OpR X (compareOp op) r)(ho':OpR X (compareOp op') r')(ha:PE X a ta)(hb:PE X b tb)(hc:PE X c tc)
  (hm:lastMarks [op,op'] [b,c]=false:=by with_unfolding_all rfl):PE X (.Compare a [op,op'] [b,c] pos) (tChain r r' ta tb tc):=by
 intro pins s σ H Q I h
 refine Compare_chain (thn (ha pins s σ H _ I h) fun v s1 ⟨x,H1,I1,r1,q1⟩=>chain_link (thn (hb pins s1 σ H1 _ I1 q1) fun u s2 ⟨y,H2,I2,r2,q2⟩ =>
  thn (ho pins s2 σ H2 x y v u _ I2 r1 r2 q2) fun d s3 ⟨z,H3,I3,r3,k,e,q3⟩=>?_)) hm
 subst e
 cases r3
 refine wpAny_truthy_bool ?_
 cases k with
 | false=>exact ite_ff ⟨.bl false,H3,I3,rfl,q3⟩
 | true=>exact ite_tt (chain_last (thn (hc pins s3 σ H3 _ I3 q3) fun w' s4 hq8=>by obtain⟨z',H4,I4,r4,q4⟩:=hq8;exact ho' pins s4 σ H4 y z' u w' Q I4 r2 r4 q4))
def TruV(K:PySem.W.Frag)(x:V)(H:Hp)(k:Bool):Prop:=
 match x with
 | .non=>k=false
 | .bl b=>k=b
 | .int i=>k=(i != 0)
 | .str y=>y.length <= sizeLine/\k=((y.length:Int) != 0)
 | .byt y=>y.size <= sizeLine/\k=((y.size:Int) != 0)
 | .ref p=>(∃ xs,SqL K H p xs/\k = !xs.isEmpty) ∨ (∃ xs,SqT K H p xs/\k = !xs.isEmpty) ∨ ∃ kvs,H p=some (.dK kvs)/\k = !kvs.isEmpty
 | _=>False
theorem qc6f{κ:Type}{kvs:List (κ × V)}{vs:List (κ × Value)}(r:KV kvs vs):(!vs.isEmpty) = !kvs.isEmpty:=by
 cases r<;>rfl
theorem qb6d{xs:List V}{its:List Value}(r:Vals xs its):(!its.toArray.isEmpty) = !xs.isEmpty:=by
 cases r<;>simp
theorem qa6d:(sizeLine:Nat) < 2 ^ 63:=by rw [sizeLine_eq];decide
theorem tru_ok:TruR X (fun x H Q=>∃ k,TruV X.K x H k/\Q k H):=by
 intro pins s σ H x v Q I rx h
 obtain⟨k,e,q⟩:=h
 have hl:=qa6d
 have hs:sizeLine=16777216:=sizeLine_eq
 cases x with
 | non =>
  cases rx
  have e':k=false:=e
  subst e'
  exact truthy_none ⟨H,I,q⟩
 | bl b =>
  cases rx
  have e':k=b:=e
  subst e'
  exact wpAny_truthy_bool ⟨H,I,q⟩
 | int i =>
  obtain⟨t,rfl⟩:=rx
  have e':k=(i != 0):=e
  subst e'
  exact PySem.P.truthy_int ⟨H,I,q⟩
 | str y =>
  obtain⟨t,rfl⟩:=rx
  obtain⟨hy,e'⟩:y.length <= sizeLine/\k=((y.length:Int) != 0):=e
  subst e'
  exact PySem.P.truthy_str (by omega) ⟨H,I.tok _,q⟩
 | byt y =>
  obtain⟨t,rfl⟩:=rx
  obtain⟨hy,e'⟩:y.size <= sizeLine/\k=((y.size:Int) != 0):=e
  subst e'
  exact PySem.W.truthy_bytes (by omega) ⟨H,I.tok _,q⟩
 | ref p =>
  cases rx
  have e':(∃ xs,SqL X.K H p xs/\k = !xs.isEmpty) ∨ (∃ xs,SqT X.K H p xs/\k = !xs.isEmpty) ∨ ∃ kvs,H p=some (.dK kvs)/\k = !kvs.isEmpty:=e
  rcases e' with⟨xs,hx,e'⟩ | ⟨xs,hx,e'⟩ | ⟨kvs,hx,e'⟩
  ·subst e'
   obtain⟨its,r,pl,hz⟩:=I.list hx
   have hlen:=r.length
   exact wpAny_truthy_list pl.isList (by simp only [List.size_toArray];omega) ⟨H,I.tok _,by rw [qb6d r];exact q⟩
  ·subst e'
   obtain⟨its,r,pl,hz⟩:=I.tuple hx
   have hlen:=r.length
   exact truthy_tuple pl (by simp only [List.size_toArray];omega) ⟨H,I.tok _,by rw [qb6d r];exact q⟩
  ·subst e'
   obtain⟨hz,hS,vs,r,m⟩:kvs.length <= sizeLine/\(p == sysModules)=false/\∃ vs,KV kvs vs/\s.heap.DictOf (qa1r X.prog X.w) p vs:=I.hok p _ hx
   have hlen:kvs.length=vs.length:=Paired.length r
   exact wpAny_truthy_dict hS m (by omega) ⟨H,I.tok _,by rw [qc6f r];exact q⟩
 | _=>exact(show False from e).elim
theorem qd0y(ha:PE X a ta)(he:∀ whole,isTrue a X.env whole=(do let v ← whole;standAt a.pos;holding [v] (truthy v))) :
  PT X a (fun σ H Q=>ta σ H fun x H'=>∃ k,TruV X.K x H' k/\Q k H'):=by
 intro pins s σ H Q I h
 exact isTrue_plain (thn (ha pins s σ H _ I h) fun v s1 hq8=>by obtain⟨x,H1,I1,r1,q1⟩:=hq8;exact tru_ok pins s1 σ H1 x v Q I1 r1 q1) (he _)
theorem qc6g:OpR X (binaryOp .Add) (fun x y H Q=>∃ i j,x=.str i/\y=.str j/\i.length + j.length <= sizeLine/\Q (.str (i ++ j)) H):=by
 intro pins s σ H x y v u Q I rx ry h
 obtain⟨i,j,rfl,rfl,hz,q⟩:=h
 obtain⟨t,rfl⟩:=rx
 obtain⟨t',rfl⟩:=ry
 exact add_str (fun t' tk=>⟨.str (i ++ j),H,I.tok _,⟨_,rfl⟩,q⟩) hz
theorem vals1{x:V}{us:List Value}(r:Vals [x] us):∃ u,us=[u]/\RelV x u:=by
 cases r with
 | cons r1 r2=>cases r2;exact⟨_,rfl,r1⟩
end
end L2
namespace L2
open PySem PySem.Spec PyProof.Rows
structure ObjM(h:Heap)(x dx C:Addr)(mA:Str->Option Value):Prop where
 obj:h.get? x=some (PySem.W.instObj C dx)
 ns:h.Ns1 dx mA
 ne:dx ≠ x
section
variable{prog:Program}{w:World}{A:Around}{E:Value->Shared->Prop}{s:Shared}{K:PySem.W.Frag}{x dx C f:Addr}{mA:Str->Option Value}{name:Str}{v:Value}
end
theorem RelO.some_of{v:V}{o:Option Value}(r:RelO (some v) o):∃ u,o=some u/\RelV v u:=by
 cases o with
 | none=>exact(show False from r).elim
 | some u=>exact⟨u,rfl,r⟩
section
variable{P:Program}{w:World}{H H':Hp}{h h':Heap}{a C dx:Addr}{fs fs':List (Str × V)}
end
structure Cls(K:PySem.W.Frag)(C:Addr):Prop where
 pg:PySem.W.plainGet K C Str.empty=true
 hd:PySem.W.hasDictIn K C=true
 po:PySem.W.plainOver K C=true
 sa:PySem.W.findIn K (.ref C) "__setattr__" = some (some (.builtin "object.__setattr__"))
section
variable{X:Cx}{pins:List (Addr × Obj)}{σ:St}{H:Hp}{s:Shared}{a C dx:Addr}{fs:List (Str × V)}{f:Str}{v:V}{A:Around}{E:Value->Shared->Prop}
end
section
variable{X:Cx}{o e value:Expr}{f:Str}{pos pos' tpos:Pos}{ta tv:TE}
end
section
variable{X:Cx}{pins:List (Addr × Obj)}{σ:St}{H:Hp}{s:Shared}{A:Around}{E:Value->Shared->Prop}{Q:Value->Shared->Prop}{c:Value}{b:Bool}
end
end L2
namespace L2
open PySem PySem.Spec PyProof.Rows
structure Room(k:Nat)(A:Around):Prop where
 hd:A.handled=none
 dp:A.depth + 3 * k + 5 < recursionLimit
 un:A.units + 16 * k + 200 < cLine
 gd:A.guards=some []
theorem Room.mono{j k:Nat}{A:Around}(r:Room k A)(h:j <= k):Room j A:=⟨r.hd,by have:=r.dp;omega,by have:=r.un;omega,r.gd⟩
theorem Room.deeper{k:Nat}{A:Around}(r:Room (k + 1) A)(env:Env):Room k (A.deeper env):=
 ⟨r.hd,by have:=r.dp;show A.depth + 1 + 3 * k + 5 < _;omega,by have:=r.un;show A.units + 3 + 16 * k + 200 < _;omega,r.gd⟩
theorem Room.depth{k:Nat}{A:Around}(r:Room k A):A.depth < recursionLimit:=by have:=r.dp;omega
theorem Room.units{k:Nat}{A:Around}(r:Room k A):A.units + 64 < cLine:=by have:=r.un;omega
def tNil:TA:=fun _ H Q=>Q [] H
def qa8u(ta:TE)(tr:TA):TA:=fun σ H Q=>ta σ H fun x H1=>tr σ H1 fun xs H2=>Q (x :: xs) H2
section
variable{X:Cx}{e:Expr}{es:List Expr}{te:TE}{t:TA}{pos:Pos}
theorem qa4q:PA X [] tNil:=fun _ _ _ _ H Q I h=>Calls.spliced_nil ⟨[],H,I,.nil,h⟩
theorem qa2l(ha:PE X e te)(hr:PA X es t)(hs:starEach (e :: es) X.env=(false,eval e X.env) :: starEach es X.env:=by rfl):PA X (e :: es) (qa8u te t):=by
 intro pos pins s σ H Q I h
 rw [hs]
 show wpAny _ _ (spliced ((false,eval e X.env) :: backTo pos (starEach es X.env))) _ _ s
 refine Calls.spliced_cons (thn (ha pins s σ H _ I h) fun u s1 hq9=>?_)
 obtain⟨x,H1,I1,r1,q1⟩:=hq9
 exact thn (hr pos pins s1 σ H1 _ I1 q1) fun us s2 hq8=>by obtain⟨xs,H2,I2,r2,q2⟩:=hq8;exact⟨x :: xs,H2,I2,.cons r1 r2,q2⟩
def tTup(t:TA):TE:=fun σ H Q=>t σ H fun xs H1=>xs.length <= sizeLine/\∀ p,H1 p=none->Q (.ref p) (upd H1 p (.tup xs))
def tLst(t:TA):TE:=fun σ H Q=>t σ H fun xs H1=>xs.length <= sizeLine/\∀ p,H1 p=none->Q (.ref p) (upd H1 p (.lst xs))
theorem pe_tup{x1}(h:PA X es t):PE X (.Tuple es x1 pos) (tTup t):=by
 intro pins s σ H Q I hq
 refine wpAny_Tuple_spliced (thn (h pos pins s σ H _ I hq) fun us s1 ⟨xs,H1,I1,r,z,q⟩=>⟨by rw [← r.length];exact z,?_⟩)
 have hf:H1 s1.heap.objs.size=none:=I1.hok.fresh (Nat.le_refl _)
 refine⟨.ref s1.heap.objs.size,upd H1 s1.heap.objs.size (.tup xs),I1.laid (t':=s1.toks) (fun b u e=>Heap.get?_push_of_some _ e) (Nat.le_refl _) ?_,rfl,q _ hf⟩
 exact⟨z,us,r,⟨_,Heap.get?_push_size _ rfl,⟨rfl,rfl⟩,_,rfl⟩⟩
theorem pe_lst(h:PA X es t):PE X (.List es pos) (tLst t):=by
 intro pins s σ H Q I hq
 refine wpAny_List_spliced (thn (h pos pins s σ H _ I hq) fun us s1 ⟨xs,H1,I1,r,z,q⟩=>⟨by rw [← r.length];exact z,?_⟩)
 have hf:H1 s1.heap.objs.size=none:=I1.hok.fresh (Nat.le_refl _)
 refine⟨.ref s1.heap.objs.size,upd H1 s1.heap.objs.size (.lst xs),I1.laid (t':=s1.toks) (fun b u e=>Heap.get?_push_of_some _ e) (Nat.le_refl _) ?_,rfl,q _ hf⟩
 exact⟨z,us,0,r,Heap.get?_push_size _ rfl⟩
end
abbrev Sp:=List V->Hp->VK->XK->Prop
abbrev CXT:=List Env->Hp->Shared->XK->Value->Shared->Prop
structure Env0(P:Program)(w:World)(K:PySem.W.Frag)(mg:Str->Option Value)(base:Heap)(A:Around)(outer:List Env)(s:Shared)(H:Hp):Prop where
 frames:A.frames=some outer
 mod:Mod K mg base
 bs:∀ b o,base.get? b=some o->s.heap.get? b=some o/\H b=none
 bsz:base.objs.size <= s.heap.objs.size
 funs:s.heap.FunFrames base outer
 frf:∀ b ∈ frs outer,H b=none
 hok:HOk P w H s.heap
 bare:AllBare s.gens
def CE(outer:List Env)(P:Program)(w:World)(H:Hp)(s:Shared)(Q:VK)(u:Value)(s':Shared):Prop:=
 ∃ v H',s'.os=s.os/\AllBare s'.gens/\Un (frs outer) [] H H' s.heap s'.heap/\HOk P w H' s'.heap/\RelV v u/\Q v H'
def CR(CX:CXT)(outer:List Env)(P:Program)(w:World)(H:Hp)(s:Shared)(Q:VK)(E:XK)(r:Result)(s':Shared):Prop:=
 match r with
 | .ok (.ret u)=>CE outer P w H s Q u s'
 | .ok _=>False
 | .error e=>CX outer H s E e s'
structure FnOk(P:Program)(w:World)(K:PySem.W.Frag)(mg:Str->Option Value)(base:Heap)(CX:CXT)(k:Nat)(f:Addr)(fd:FuncData)(ps:List Str)(sp:Sp):Prop where
 len:∀ vs H Q E,sp vs H Q E->vs.length=ps.length
 run:∀ (A:Around) (outer:List Env) (s:Shared) (H:Hp) (args:Args) (us:List Value) (vs:List V) (Q:VK) (E:XK),Room k A->Env0 P w K mg base A outer s H->BindsTo s fd args (ps.zip us)->Vals vs us->sp vs H Q E ->
  codeAny (model P w) A (.call (.ref f) args) (CR CX outer P w H s Q E) s
theorem FnOk.mono{P:Program}{w:World}{K:PySem.W.Frag}{mg:Str->Option Value}{base:Heap}{CX:CXT}{j k:Nat}{f:Addr}{fd:FuncData}{ps:List Str}{sp:Sp}(F:FnOk P w K mg base CX j f fd ps sp)(h:j <= k) :
  FnOk P w K mg base CX k f fd ps sp:=⟨F.len,fun A outer s H args us vs Q E hr=>F.run A outer s H args us vs Q E (hr.mono h)⟩
section
variable{X:Cx}{pins:List (Addr × Obj)}{σ:St}{H:Hp}{s s':Shared}
theorem Inv.env0(I:Inv X pins σ H s):Env0 X.prog X.w X.K X.mg X.base X.A X.stack s H:=
 ⟨I.ok.frames,I.ok.mod,I.bs,Nat.le_trans I.ok.bsz I.sz,I.stack,I.stkFree,I.hok,I.bare⟩
theorem Inv.after{Q:VK}{u:Value}(I:Inv X pins σ H s)(h:CE X.stack X.prog X.w H s Q u s'):EP X pins σ Q u s':=by
 obtain⟨v,H',os,bare,un,hok,r,q⟩:=h
 obtain⟨hh,g,d,t,os'⟩:=s'
 obtain rfl:os'=s.os:=os
 exact⟨v,H',I.call (h':=hh) (g':=g) (d':=d) (t':=t) (ch:=[]) un hok bare (fun b z=>absurd z (by simp)),r,q⟩
end
def tCall(sp:Sp)(dvs:List V)(E:XK)(t:TA):TE:=fun σ H Q=>t σ H fun vs H1=>sp (vs ++ dvs) H1 Q E
def Binds(K:PySem.W.Frag)(fd:FuncData)(ps:List Str)(ds:List Value):Prop:=
 ∀ (s:Shared) (us:List Value),K.In s.heap->(us ++ ds).length=ps.length->BindsTo s fd ⟨us,[]⟩ (ps.zip (us ++ ds))
theorem Binds.all{K:PySem.W.Frag}{fd:FuncData}{ps:List Str}(h:∀ us:List Value,us.length=ps.length->bindArgs fd ⟨us,[]⟩=pure (ps.zip us)):Binds K fd ps []:=fun s us _ hl=>by
 rw [List.append_nil] at hl ⊢
 exact .of_eq (h us hl)
def qc0a(CX:CXT)(X:Cx)(E:XK):Prop:=∀ (pins:List (Addr × Obj)) (σ:St) (H:Hp) (s:Shared) (e:Value) (s':Shared),Inv X pins σ H s->CX X.stack H s E e s'->X.xe e s'
section
variable{X:Cx}{CX:CXT}{k:Nat}{f C:Addr}{fd:FuncData}{ps:List Str}{sp:Sp}{dvs:List V}{ds:List Value}{E:XK}{x m:Str}{p pos apos:Pos}{e o:Expr}{es:List Expr}{ta:TE}{t:TA}
theorem run_fn{pins:List (Addr × Obj)}{σ:St}{H:Hp}{s:Shared}{Q:VK}{us:List Value}{vs:List V}(F:FnOk X.prog X.w X.K X.mg X.base CX k f fd ps sp)(hr:Room k X.A)(hb:Binds X.K fd ps ds)(hd:Vals dvs ds)(hx:qc0a CX X E)
  (I:Inv X pins σ H s) (r:Vals vs us) (h:sp (vs ++ dvs) H Q E):wpAny (model X.prog X.w) X.A (call (.ref f) us) (EP X pins σ Q) X.xe s:=by
 have r2:Vals (vs ++ dvs) (us ++ ds):=r.append hd
 have hl:(us ++ ds).length=ps.length:=by rw [← r2.length];exact F.len _ _ _ _ h
 refine wpAny_call (codeAny_mono (F.run X.A X.stack s H ⟨us,[]⟩ (us ++ ds) (vs ++ dvs) Q E hr I.env0 (hb s us I.kIn hl) r2 h) fun r s' hq=>?_)
 cases r with
 | error e=>exact hx pins σ H s e s' I hq
 | ok fl =>
  cases fl with
  | ret u=>exact I.after hq
  | next=>exact False.elim hq
  | brk=>exact False.elim hq
  | cont=>exact False.elim hq
theorem pe_call(F:FnOk X.prog X.w X.K X.mg X.base CX k f fd ps sp)(hr:Room k X.A)(hg:Gl X x)(hm:X.mg x=some (.ref f))(hk:PySem.W.keepIn X.K (.ref f)=true)(hb:Binds X.K fd ps ds)(hd:Vals dvs ds)(hx:qc0a CX X E)
  (ha:PA X (e :: es) t) (hdb:(x == ("__debug__" : Str))=false:=by decide) (he:starEach (e :: es) X.env=(false,eval e X.env) :: starEach es X.env:=by rfl) (hpl:(backTo pos (starEach es X.env)).any (·.1)=false:=by rfl) :
  PE X (.Call (.Name x p) (e :: es) [] pos) (tCall sp dvs E t):=by
 intro pins s σ H Q I h
 refine wpAny_Call_Name_kw (qc4q I hg hm ?_ hdb)
 refine PySem.W.callWith_K (h₀:=X.base) I.ok.mod.kin hk (thn (ha pos pins s σ H _ I h) fun us s1 ⟨vs,H1,I1,r,q⟩=>⟨I1.kIn,?_⟩) he hpl
 exact run_fn F hr hb hd hx I1 r q
end
section
variable{X:Cx}{CX:CXT}{k:Nat}{f C:Addr}{fd:FuncData}{ps ks:List Str}{sp:Sp}{E:XK}{x m:Str}{p pos apos kpos:Pos}{e o:Expr}{es:List Expr}{kws:List Keyword}{te ta:TE}{t tk:TA}{nm:Option Str}
variable{g:List Value->List Value->List Value}{gV:List V->List V->List V}
end
structure FnScope(N P:List Str)(sc:Scope):Prop where
 kind:sc.kind=.function
 co:sc.isCoroutine=false
 gen:sc.isGenerator=false
 nd:N.Nodup
 pre:N.take P.length=P
 par:∀ x ∈ P,sc.names.lookup x=some .local ∨ sc.names.lookup x=some .cell
 nofree:∀ y ∈ sc.names,y.2 ≠ .free
theorem qb8m{kindOf:Str->Option NameKind}{x:Str}:∀ {binds:List (Str × Value)} {m:Str->Option Value},(∀ v,(x,v) ∉ binds)->bindL kindOf binds m x=m x
 | [],_,_=>rfl
 | (n,v) :: r,m,h=>by
  unfold bindL
  rw [qb8m fun w hw=>h w (List.mem_cons_of_mem _ hw)]
  split
  ·have:x ≠ n:=by rintro rfl;exact h v List.mem_cons_self
   simp [this]
  ·rfl
theorem qb8n{kindOf:Str->Option NameKind}{x:Str}:∀ {binds:List (Str × Value)} {m:Str->Option Value},(∀ v,(x,v) ∉ binds)->bindC kindOf binds m x=m x
 | [],_,_=>rfl
 | (n,v) :: r,m,h=>by
  unfold bindC
  rw [qb8n fun w hw=>h w (List.mem_cons_of_mem _ hw)]
  split
  ·rfl
  ·have:x ≠ n:=by rintro rfl;exact h v List.mem_cons_self
   simp [this]
theorem qb8o{kindOf:Str->Option NameKind}{x:Str}{v:Value}:∀ {P:List Str} {vs:List Value} {i:Nat} {m:Str->Option Value},P.Nodup->P[i]? = some x->vs[i]? = some v->kindOf x=some .local ->
  bindL kindOf (P.zip vs) m x=some v
 | [],_,_,_,_,h,_,_=>by simp at h
 | _ :: _,[],_,_,_,_,h,_=>by simp at h
 | p :: P,w :: vs,0,m,nd,h1,h2,hk=>by
  simp at h1 h2;subst h1;subst h2
  show bindL kindOf ((p,w) :: P.zip vs) m p=_
  unfold bindL
  rw [qb8m fun v hv=>(List.nodup_cons.mp nd).1 (List.of_mem_zip hv).1,if_pos hk]
  simp
 | p :: P,w :: vs,i + 1,m,nd,h1,h2,hk=>by
  show bindL kindOf ((p,w) :: P.zip vs) m x=_
  unfold bindL
  exact qb8o (i:=i) (List.nodup_cons.mp nd).2 (by simpa using h1) (by simpa using h2) hk
theorem qb8p{kindOf:Str->Option NameKind}{x:Str}{v:Value}:∀ {P:List Str} {vs:List Value} {i:Nat} {m:Str->Option Value},P.Nodup->P[i]? = some x->vs[i]? = some v->kindOf x ≠ some .local ->
  bindC kindOf (P.zip vs) m x=some v
 | [],_,_,_,_,h,_,_=>by simp at h
 | _ :: _,[],_,_,_,_,h,_=>by simp at h
 | p :: P,w :: vs,0,m,nd,h1,h2,hk=>by
  simp at h1 h2;subst h1;subst h2
  show bindC kindOf ((p,w) :: P.zip vs) m p=_
  unfold bindC
  rw [qb8n fun v hv=>(List.nodup_cons.mp nd).1 (List.of_mem_zip hv).1,if_neg hk]
  simp
 | p :: P,w :: vs,i + 1,m,nd,h1,h2,hk=>by
  show bindC kindOf ((p,w) :: P.zip vs) m x=_
  unfold bindC
  exact qb8p (i:=i) (List.nodup_cons.mp nd).2 (by simpa using h1) (by simpa using h2) hk
noncomputable def start(N:List Str)(vs:List V):St:=vs.map some ++ List.replicate (N.length - vs.length) none
noncomputable def cxOf(CX:CXT)(P:Program)(w:World)(K:PySem.W.Frag)(mg:Str->Option Value)(base:Heap)(N:List Str)(qual:Str)(scope:Scope)(f:Addr)(cd:Value)(A:Around)(outer:List Env)(s:Shared)(H:Hp)(E:XK):Cx where
 prog:=P
 w:=w
 K:=K
 mg:=mg
 base:=base
 A:=A.deeper (envOfC qual scope s.heap.objs.size f cd)
 N:=N
 s₀:=s
 H₀:=H
 env:=envOfC qual scope s.heap.objs.size f cd
 outer:=outer
 stack:=envOfC qual scope s.heap.objs.size f cd :: outer
 ex:=[]
 calm:=true
 fn:=fun _=>true
 pn:=[]
 xe:=fun e s'=>wpAny (model P w) (A.deeper (envOfC qual scope s.heap.objs.size f cd)) (leaving (envOfC qual scope s.heap.objs.size f cd) e) (fun _ s''=>CX outer H s E e s'') (fun e' s''=>CX outer H s E e' s'') s'
theorem qc0b{sc:Scope}{n:Nat}{x:Str}(h:sc.names.lookup x=some .cell):∃ c,(cellsFrom n sc.names []).lookup x=some c:=by
 have q:=PySem.W.cellsFrom_some sc.names n [] (.inl h)
 exact Option.isSome_iff_exists.mp q
theorem qc8w{CX:CXT}{P:Program}{w:World}{K:PySem.W.Frag}{mg:Str->Option Value}{base:Heap}{N ps:List Str}{qual:Str}{scope:Scope}{f:Addr}{cd:Value}{A:Around}{outer:List Env}{s s1:Shared}{H:Hp}{E:XK}{us:List Value}{vs:List V}
  (S:FnScope N ps scope) (hd:A.handled=none) (e0:Env0 P w K mg base A outer s H) (hl:vs.length=ps.length) (r:Vals vs us)
  (x:InCallC s s.heap.objs.size (bindL (envOfC qual scope s.heap.objs.size f cd).kindOf (ps.zip us) fun _=>none) (cellsFrom (s.heap.objs.size + 1) scope.names []) (bindC (envOfC qual scope s.heap.objs.size f cd).kindOf (ps.zip us) fun _=>none) s1) :
  Inv (cxOf CX P w K mg base N qual scope f cd A outer s H E) [] (start N vs) H s1:=by
 have hpl:ps.length <= N.length:=by have:=congrArg List.length S.pre;rw [List.length_take] at this;omega
 obtain⟨h1,tk,rfl,hk⟩:=x.done
 have noA:∀ b:Addr,b ∉ (cxOf CX P w K mg base N qual scope f cd A outer s H E).ex:=fun b z=>absurd (show b ∈ ([]:List Addr) from z) (by simp)
 refine⟨⟨e0.mod,S.kind,rfl,rfl,Nat.le_refl _,fun y z c h1 h2=>?_,fun y hy=>?_,fun y c _ h=>?_,fun _=>hd,Around.frames_deeper e0.frames,.inr ⟨rfl,rfl⟩,fun b z=>absurd z (noA b),e0.bs,e0.bsz,fun b _ _=>noA b,fun b z=>absurd z (noA b),e0.funs,e0.frf⟩,
  rfl,e0.bare,Un.kept hk,⟨_,x.toInCall.ns,fun i y v h1 h2 h3=>?_⟩,fun y c h=>⟨_,x.cell y c h⟩,e0.hok.fresh (Nat.le_refl _),fun y c h=>?_,fun p hp=>absurd (show p ∈ ([]:List (Addr × Obj)) from hp) (by simp),e0.hok.kept hk,?_⟩
 ·exact name_of_addr x.apart (PySem.mem_of_lookup h1) (PySem.mem_of_lookup h2)
 ·have hy:scope.names.lookup y=some .cell ∨ scope.names.lookup y=some .free:=hy
  rcases hy with hy | hy
  ·exact qc0b hy
  ·exact absurd rfl (S.nofree _ (PySem.mem_of_lookup hy))
 ·exact Nat.le_of_lt (x.above y c (PySem.mem_of_lookup h))
 ·have hi:i < vs.length:=by
   unfold start at h2
   by_cases hi:i < vs.length
   ·exact hi
   ·rw [List.getElem?_append_right (by simpa using hi)] at h2
    rw [List.getElem?_replicate] at h2
    split at h2<;>cases h2
  have ha:vs[i]? = some v:=by
   unfold start at h2
   rw [List.getElem?_append_left (by simpa using hi),List.getElem?_map] at h2
   cases e:vs[i]? with
   | none=>rw [e] at h2;cases h2
   | some a=>rw [e] at h2;cases h2;rfl
  obtain⟨u,hu,rv⟩:=r.get ha
  have hp:ps[i]? = some y:=by
   rw [← S.pre,List.getElem?_take_of_lt (by omega)];exact h1
  have ndP:ps.Nodup:=by rw [← S.pre];exact S.nd.sublist (List.take_sublist _ _)
  refine⟨u,rv,?_⟩
  rcases S.par y (List.mem_of_getElem? hp) with k | k
  ·exact .inl ⟨k,qb8o ndP hp hu k⟩
  ·obtain⟨c,e⟩:=qc0b (n:=s.heap.objs.size + 1) k
   refine .inr ⟨.inl k,c,e,?_⟩
   have q:=x.cell y c e
   rw [qb8p ndP hp hu (by show scope.names.lookup y ≠ _;rw [k];decide)] at q
   exact q
 ·exact e0.hok.fresh (Nat.le_of_lt (x.above y c (PySem.mem_of_lookup h)))
 ·unfold start
  show _=N.length
  rw [List.length_append,List.length_map,List.length_replicate]
  omega
theorem fn_of{CX:CXT}{P:Program}{w:World}{K:PySem.W.Frag}{mg:Str->Option Value}{base:Heap}{k:Nat}{f:Addr}{name qual:Str}{params:Arguments}{body:List Stmt}{scope:Scope}{dV kV doc pm cdv ct oc:Value}{an od:Option Addr}
  {osl:Array (Option Value)} {N ps:List Str} {sp:Sp} (lk:K.lookup f=some ⟨oc,od,.func (PySem.W.fnOf name qual params body scope dV kV doc pm an cdv ct),osl⟩) (hcd:PySem.W.codeIn K cdv qual=true) (S:FnScope N ps scope)
  (len:∀ vs H Q E,sp vs H Q E->vs.length=ps.length)
  (hbody:∀ (A:Around) (outer:List Env) (s:Shared) (H:Hp) (vs:List V) (Q:VK) (E:XK),Room k (A.deeper (envOfC qual scope s.heap.objs.size f cdv))->sp vs H Q E ->
   ∃ t,PSs (cxOf CX P w K mg base N qual scope f cdv A outer s H E) body t/\t { nx:=fun _ H'=>Q .non H',rt:=Q } (start N vs) H) :
  FnOk P w K mg base CX (k + 1) f (PySem.W.fnOf name qual params body scope dV kV doc pm an cdv ct) ps sp:=by
 refine⟨len,fun A outer s H args us vs Q E hr e0 hb r hsp=>?_⟩
 have hl:=len _ _ _ _ hsp
 have KX:K.In s.heap:=e0.mod.kin.keeps fun b o e=>(e0.bs b o e).1
 have lim:s.heap.NoLimit:=e0.mod.nolimit.keeps fun b o e=>(e0.bs b o e).1
 have hkind:∀ y ∈ ps.zip us,scope.names.lookup y.1=some .local ∨ (scope.names.lookup y.1=some .cell/\((cellsFrom (s.heap.objs.size + 1) scope.names []).lookup y.1).isSome=true):=fun⟨n,v⟩ hy=>by
  rcases S.par n (List.of_mem_zip hy).1 with q | q
  ·exact .inl q
  ·exact .inr ⟨q,PySem.W.cellsFrom_some _ _ _ (.inl q)⟩
 refine codeAny_call_function hr.depth (KX _ _ lk) rfl S.co S.gen rfl (PySem.W.codeRec_of KX hcd) (hb _ _ _ _ ?_)
 refine wpAny_newFunctionEnv_cells S.kind hkind fun env he s1 x=>?_
 subst he
 refine⟨lim.keeps x.toInCall.keep,codeAny_func ?_⟩
 obtain⟨t,ht,hq⟩:=hbody A outer s H vs Q E (hr.deeper _) hsp
 have I:Inv (cxOf CX P w K mg base N qual scope f cdv A outer s H E) [] (start N vs) H s1:=qc8w S hr.hd e0 hl r x
 refine wpAny_mono (ht [] s1 (start N vs) H _ I hq) (fun fl s' hs=>?_) fun e s' hs=>hs
 have fin:∀ {σ':St} {H':Hp} {v:V} {u:Value},Inv (cxOf CX P w K mg base N qual scope f cdv A outer s H E) [] σ' H' s'->RelV v u->Q v H'->CE outer P w H s Q u s':=
  fun{σ' H' v u} J rv q=>⟨v,H',J.os,J.bare,J.base,J.hok,rv,q⟩
 cases fl with
 | ret u =>
  obtain⟨v,σ',H',J,rv,q⟩:=hs
  exact fin J rv q
 | next =>
  obtain⟨σ',H',J,q⟩:=hs
  exact fin (v:=V.non) (u:=Value.none) J rfl q
 | brk =>
  obtain⟨_,_,_,q⟩:=hs
  exact False.elim q
 | cont =>
  obtain⟨_,_,_,q⟩:=hs
  exact False.elim q
end L2
namespace L2
open PySem PySem.Spec PyProof.Rows
section
variable{X:Cx}{x:Str}{p pos:Pos}{e:Expr}{es:List Expr}{t:TA}{id T:String}{r:List V->Hp->VK->Prop}
def tCB(r:List V->Hp->VK->Prop)(t:TA):TE:=fun σ H Q=>t σ H fun vs H1=>r vs H1 Q
theorem qa6u(hc:qa2r X (.builtin id) r)(hg:Gl X x)(hm:X.mg x=none)(hv:bootBuiltins x=some (.builtin id))(ha:PA X (e :: es) t) (hn:x ≠ "__name__":=by decide) (hdb:(x == ("__debug__" : Str))=false:=by decide)
  (he:starEach (e :: es) X.env=(false,eval e X.env) :: starEach es X.env:=by rfl) (hpl:(backTo pos (starEach es X.env)).any (·.1)=false:=by rfl):PE X (.Call (.Name x p) (e :: es) [] pos) (tCB r t):=by
 intro pins s σ H Q I h
 refine wpAny_Call_Name_kw (qa6c I hg hm hv ?_ hn hdb)
 exact PyProof.Rows.callWith_builtin1 (thn (ha pos pins s σ H _ I h) fun us s1 hq8=>by obtain⟨vs,H1,I1,r1,q1⟩:=hq8;exact hc pins s1 σ H1 vs us Q I1 r1 q1) he hpl
theorem qb3k(hc:qa2r X (.type T) r)(hg:Gl X x)(hm:X.mg x=none)(hv:bootBuiltins x=some (.type T))(ha:PA X (e :: es) t) (hn:x ≠ "__name__":=by decide) (hdb:(x == ("__debug__" : Str))=false:=by decide)
  (he:starEach (e :: es) X.env=(false,eval e X.env) :: starEach es X.env:=by rfl) (hpl:(backTo pos (starEach es X.env)).any (·.1)=false:=by rfl):PE X (.Call (.Name x p) (e :: es) [] pos) (tCB r t):=by
 intro pins s σ H Q I h
 refine wpAny_Call_Name_kw (qa6c I hg hm hv ?_ hn hdb)
 exact PyProof.Rows.callWith_type1 (thn (ha pos pins s σ H _ I h) fun us s1 hq8=>by obtain⟨vs,H1,I1,r1,q1⟩:=hq8;exact hc pins s1 σ H1 vs us Q I1 r1 q1) he hpl
end
end L2
namespace HT
open PySem PyProof.Rows
section
open PySem.SeqAt
open PySem.AutoSeq1 (wpAny_loadPart')
open PySem.MeetsSeq PySem.MeetsSeq2 PySem.MeetsSeq3
end
section
variable{prog:Program}{w:World}{A:Around}{E:Value->Shared->Prop}{s:Shared}
theorem cat_tup{t b:Addr}{vs ws:List Value}{Q:Value->Shared->Prop}(ht:IsTup s.heap t vs.toArray)(hb:IsTup s.heap b ws.toArray)(hv:vs ≠ [])
  (h1:ws=[]->Q (.ref t) s) (h2:ws ≠ []->Q (.ref s.heap.objs.size) { s with heap:=s.heap.push { cls:=.type "tuple",data:=.seq (vs ++ ws).toArray } })
  (hsz:vs.length + ws.length <= sizeLine):wpAny (model prog w) A (binaryOp .Add (.ref t) (.ref b)) Q E s:=by
 obtain⟨⟨cls,dd,data,sl⟩,ho,hc,n,hd⟩:=id ht
 obtain⟨⟨cls2,dd2,data2,sl2⟩,ho2,hc2,n2,hd2⟩:=id hb
 simp only at hc hd hc2 hd2
 subst hc hd hc2 hd2
 have e:vs.toArray ++ ws.toArray=(vs ++ ws).toArray:=by simp
 by_cases hw:ws=[]
 ·exact concat_meets ⟨_,ho,rfl⟩ ⟨_,ho2,rfl⟩ noFill_tuple_add seq_tuple_add PySem.F.slot_tuple_add PySem.F.entry_tuple_add (PySem.F.args_tuple_add_2 _ _)
   (tuple_addW1 t b vs.toArray ws.toArray n n2 dd dd2 sl sl2 (by simpa using hv) (by simp [hw])) ⟨ho,ho2,h1 hw⟩
 ·refine concat_meets ⟨_,ho,rfl⟩ ⟨_,ho2,rfl⟩ noFill_tuple_add seq_tuple_add PySem.F.slot_tuple_add PySem.F.entry_tuple_add (PySem.F.args_tuple_add_2 _ _)
   (tuple_addW2 t b vs.toArray ws.toArray n n2 dd dd2 sl sl2 (by simpa using hv) (by simpa using hw) (by rw [List.size_toArray,List.size_toArray];exact hsz)) ⟨ho,ho2,?_⟩
  rw [e]
  exact h2 hw
noncomputable def sIx(n d:Nat):Option Int->Nat
 | none=>d
 | some v=>if v < 0 then(v + (n:Int)).toNat else min v.toNat n
theorem qd0z(n d:Nat):sIx n d none=d:=rfl
theorem sIx_nat(n d k:Nat):sIx n d (some (k:Int))=min k n:=by
 show(if (k:Int) < 0 then((k:Int) + (n:Int)).toNat else min (k:Int).toNat n)=min k n
 rw [if_neg (by omega),Int.toNat_natCast]
theorem sIx_le(n d:Nat)(hd:d <= n)(o:Option Int):sIx n d o <= n:=by
 cases o with
 | none=>exact hd
 | some v =>
  show(if v < 0 then(v + (n:Int)).toNat else min v.toNat n) <= n
  by_cases hv:v < 0
  ·rw [if_pos hv];omega
  ·rw [if_neg hv];exact Nat.min_le_right _ _
theorem qc4v(v:Int)(n d:Nat):(if v < 0 then max (v + (n:Int)) 0 else min v (n:Int))=((sIx n d (some v):Nat):Int):=by
 show(if v < 0 then max (v + (n:Int)) 0 else min v (n:Int))=(((if v < 0 then(v + (n:Int)).toNat else min v.toNat n):Nat):Int)
 by_cases hv:v < 0
 ·simp only [if_pos hv];omega
 ·simp only [if_neg hv];omega
theorem qc6h(lo hi:Option Int)(n:Nat):Builtin.Slice.sliceAdjust lo hi 1 (n:Int)=(((sIx n 0 lo:Nat):Int),((sIx n n hi:Nat):Int)):=by
 have h1:¬ ((1:Int) < 0):=by omega
 unfold Builtin.Slice.sliceAdjust
 simp only [h1,if_false]
 refine Prod.ext ?_ ?_
 ·cases lo with
  | none=>rfl
  | some v=>exact qc4v v n 0
 ·cases hi with
  | none=>rfl
  | some v=>exact qc4v v n n
theorem qc6i(i j:Nat):Builtin.Slice.slicePlaces (i:Int) (j:Int) 1=j - i:=by
 unfold Builtin.Slice.slicePlaces
 have h1:(1:Int) > 0:=by omega
 simp only [h1,if_true,Int.ediv_one]
 split<;>omega
theorem qb6e{v:Value}{o:Option Int}{Q:Option Int->Shared->Prop}(p:IsPart v o)(h:Q o s):wpAny (model prog w) A (Builtin.Slice.slicePartIndex v) Q E s:=by
 cases p with
 | none=>exact slicePart_none h
 | int i t=>exact slicePart_int h
theorem qb0a{sl:Addr}{vl vu:Value}{lo hi:Option Int}{n:Nat}{Q:Int × Int × Nat->Shared->Prop}(hs:s.heap.IsSliceOf sl vl vu .none)(pl:IsPart vl lo)(pu:IsPart vu hi)
  (h:Q (((sIx n 0 lo:Nat):Int),1,sIx n n hi - sIx n 0 lo) s):wpAny (model prog w) A (Builtin.Slice.sliceApplied (.ref sl) (pure (n:Int))) Q E s:=by
 obtain⟨os,hos,hcs,hds⟩:=id hs
 unfold Builtin.Slice.sliceApplied Builtin.Slice.sliceFields
 refine wpAny_bind (wpAny_bind (wpAny_field hos hds (x:=vl) rfl (wpAny_bind (wpAny_field hos hds (x:=vu) rfl (wpAny_bind (wpAny_field hos hds (x:=.none) rfl (wpAny_pure ?_)))))))
 refine wpAny_bind (slicePart_none ?_)
 show wpAny _ _ (if ((1:Int) == 0)=true then _ else _) _ _ s
 rw [if_neg (by decide)]
 refine wpAny_bind (qb6e pl (wpAny_bind (qb6e pu (wpAny_bind (wpAny_pure ?_)))))
 show wpAny _ _ (match Builtin.Slice.sliceAdjust lo hi 1 (n:Int) with | (lo,hi)=>pure (lo,(1:Int),Builtin.Slice.slicePlaces lo hi 1)) _ _ s
 rw [qc6h lo hi n]
 show wpAny _ _ (pure (((sIx n 0 lo:Nat):Int),(1:Int),Builtin.Slice.slicePlaces ((sIx n 0 lo:Nat):Int) ((sIx n n hi:Nat):Int) 1)) _ _ s
 rw [qc6i]
 exact wpAny_pure h
theorem qd1a(xs:Array Value)(i k:Nat):((List.range k).filterMap fun(m:Nat)=>xs[((i:Int) + (m:Int) * 1).toNat]?).toArray=((xs.toList.drop i).take k).toArray:=by
 have e:(fun(m:Nat)=>xs[((i:Int) + (m:Int) * 1).toNat]?)=fun m=>xs[i + m]?:=by
  funext m
  have:((i:Int) + (m:Int) * 1).toNat=i + m:=by omega
  rw [this]
 rw [e]
 have:=pick_run xs i k
 rw [List.filterMap_map] at this
 have e2:((fun x=>xs[x]?) ∘ fun x=>i + x)=fun m=>xs[i + m]?:=rfl
 rw [e2] at this
 rw [this]
theorem qb4u{t sl:Addr}{items:Array Value}{vl vu:Value}{lo hi:Option Int}{Q:Value->Shared->Prop}(ht:IsTup s.heap t items)(hs:s.heap.IsSliceOf sl vl vu .none)(pl:IsPart vl lo)(pu:IsPart vu hi)
  (hw:¬ (sIx items.size 0 lo=0/\sIx items.size items.size hi=items.size))
  (h:Q (.ref s.heap.objs.size) { s with heap:=s.heap.push { cls:=.type "tuple",data:=.seq ((items.toList.drop (sIx items.size 0 lo)).take (sIx items.size items.size hi - sIx items.size 0 lo)).toArray } })
  (hsz:items.size <= sizeLine):wpAny (model prog w) A (getItem (.ref t) (.ref sl)) Q E s:=by
 have htake:sizeOk (.seq ((items.toList.drop (sIx items.size 0 lo)).take (sIx items.size items.size hi - sIx items.size 0 lo)).toArray):=by
  show((items.toList.drop (sIx items.size 0 lo)).take (sIx items.size items.size hi - sIx items.size 0 lo)).toArray.size <= sizeLine
  rw [List.size_toArray,List.length_take,List.length_drop,Array.length_toList]
  omega
 have hj:sIx items.size items.size hi <= items.size:=sIx_le _ _ (Nat.le_refl _) hi
 obtain⟨os,hos,hcs,hds⟩:=id hs
 have hTs:s.TypeIs (.ref sl) "slice":=⟨os,hos,hcs⟩
 unfold getItem
 try with_reducible refine wpAny_holding ?_
 first | refine wpAny_bind (wpAny_pure ?_) | skip
 refine wpAny_bind (wpAny_sequenceKey ht.typeIs (by decide) ?_)
 refine wpAny_bind (wpAny_callSpecial?_slot (name:=Str.ofString "__getitem__") ht.typeIs PyProof.Rows.slot_tuple_getitem
  (wpAny_call_entry PyProof.Rows.slot_tuple_getitem ht.typeIs entry_tuple_getitem ?_ (args_tuple_getitem _ _)))
 show wpAny _ _ (Builtin.Tuple.tupleItemsOf (.ref t) >>= _) _ _ s
 refine wpAny_bind (tupleItemsOf_ ht ?_)
 refine wpAny_bind (wpAny_typeOf hTs ?_)
 rw [if_pos (by decide)]
 refine wpAny_bind (qb0a hs pl pu ?_)
 have hno:¬ ((((sIx items.size 0 lo:Nat):Int) == 0 && (1:Int) == 1 && (sIx items.size items.size hi - sIx items.size 0 lo) == items.size)=true):=by
  intro q
  rw [Bool.and_eq_true,Bool.and_eq_true] at q
  have q1:((sIx items.size 0 lo:Nat):Int)=0:=eq_of_beq q.1.1
  have q2:sIx items.size items.size hi - sIx items.size 0 lo=items.size:=eq_of_beq q.2
  exact hw ⟨by omega,by omega⟩
 show wpAny _ _ (if (((sIx items.size 0 lo:Nat):Int) == 0 && (1:Int) == 1 && (sIx items.size items.size hi - sIx items.size 0 lo) == items.size)=true then _ else _) _ _ s
 rw [if_neg hno,qd1a]
 first
  | exact wpAny_bind (m:=Builtin.Tuple.tupleExact _) (wpAny_newObj_type (wpAny_pure ⟨_,rfl,wpAny_pure h⟩) htake)
  | exact wpAny_bind (m:=Builtin.Tuple.tupleExact _) (wpAny_newObj_type (wpAny_bind (wpAny_pure (wpAny_pure ⟨_,rfl,wpAny_pure h⟩))) htake)
  | exact wpAny_bind (wpAny_bind (m:=Builtin.Tuple.tupleExact _) (wpAny_newObj_type (wpAny_pure (wpAny_pure ⟨_,rfl,wpAny_pure h⟩)) htake))
  | exact wpAny_bind (wpAny_bind (m:=Builtin.Tuple.tupleExact _) (wpAny_newObj_type (wpAny_pure ⟨_,rfl,wpAny_pure h⟩) htake))
end
end HT
namespace L2
open PySem PySem.Spec PyProof.Rows
abbrev TO:=St->Hp->(Option Int->Hp->Prop)->Prop
def PO(X:Cx)(e:Option Expr)(t:TO):Prop:=
 ∀ (pins:List (Addr × Obj)) (s:Shared) (σ:St) (H:Hp) (Q:Option Int->Hp->Prop),Inv X pins σ H s->t σ H Q ->
  wpAny (model X.prog X.w) X.A (evalPart e X.env) (fun u s'=>∃ o H',Inv X pins σ H' s'/\IsPart u o/\Q o H') X.xe s
noncomputable def qc4w:TO:=fun _ H Q=>Q none H
def tPart(t:TE):TO:=fun σ H Q=>t σ H fun x H1=>∃ i,x=.int i/\Q (some i) H1
theorem intsAre_of{ns:List Int}:∀ {us:List Value},Vals (ns.map V.int) us->IntsAre us ns:=by
 induction ns with
 | nil=>intro us r;rw [List.map_nil] at r;cases r;exact .nil
 | cons n ns ih =>
  intro us r
  rw [List.map_cons] at r
  cases r with
  | cons r1 r2 =>
   obtain⟨t,e⟩:=r1
   subst e
   exact .cons n t (ih r2)
section
variable{X:Cx}{e:Expr}{te:TE}{lo hi:Option Expr}{tl th:TO}{pos p2:Pos}
theorem po_none:PO X none qc4w:=by
 intro pins s σ H Q I h
 rw [evalPart_none]
 exact wpAny_pure ⟨none,H,I,.none,h⟩
theorem po_some(h:PE X e te):PO X (some e) (tPart te):=by
 intro pins s σ H Q I hw
 rw [evalPart_some]
 refine thn (h pins s σ H _ I hw) fun u s1 hq9=>?_
 obtain⟨x,H1,I1,r1,q1⟩:=hq9
 obtain⟨i,rfl,q⟩:=q1
 obtain⟨t,rfl⟩:=r1
 exact⟨some i,H1,I1,.int i t,q⟩
def SlR(X:Cx)(r:V->Option Int->Option Int->Hp->VK->Prop):Prop:=
 ∀ (pins:List (Addr × Obj)) (s:Shared) (σ:St) (H:Hp) (x:V) (v vl vu:Value) (lo hi:Option Int) (sl:Addr) (Q:VK),Inv X pins σ H s->RelV x v->s.heap.IsSliceOf sl vl vu .none->IsPart vl lo->IsPart vu hi->r x lo hi H Q ->
  ∃ T id,typeLookup (.type T) "__getitem__" = pure (some (.builtin id))/\s.TypeIs v T/\wpAny (model X.prog X.w) X.A (getItem v (.ref sl)) (EP X pins σ Q) X.xe s
theorem SlR.or{r r':V->Option Int->Option Int->Hp->VK->Prop}(h:SlR X r)(h':SlR X r'):SlR X (fun x lo hi H Q=>r x lo hi H Q ∨ r' x lo hi H Q):=by
 intro pins s σ H x v vl vu lo hi sl Q I rx hs pl pu q
 rcases q with q | q
 ·exact h pins s σ H x v vl vu lo hi sl Q I rx hs pl pu q
 ·exact h' pins s σ H x v vl vu lo hi sl Q I rx hs pl pu q
def tSl(r:V->Option Int->Option Int->Hp->VK->Prop)(te:TE)(tl th:TO):TE:=fun σ H Q=>te σ H fun x H1=>tl σ H1 fun l H2=>th σ H2 fun u H3=>r x l u H3 Q
theorem qd1b{r:V->Option Int->Option Int->Hp->VK->Prop}(hr:SlR X r)(he:PE X e te)(hl:PO X lo tl)(hu:PO X hi th):PE X (.Subscript e (.Slice lo hi none p2) pos) (tSl r te tl th):=by
 intro pins s σ H Q I h
 refine Subscript_ (thn (he pins s σ H _ I h) fun v s1 hq9=>?_)
 obtain⟨x,H1,I1,r1,q1⟩:=hq9
 refine wpAny_Slice (thn (hl pins s1 σ H1 _ I1 q1) fun vl s2 ⟨l,H2,I2,pl,q2⟩=>thn (hu pins s2 σ H2 _ I2 q2) fun vu s3 hq9=>?_)
 obtain⟨u,H3,I3,pu,q3⟩:=hq9
 rw [evalPart_none]
 refine wpAny_pure ?_
 have I4:Inv X pins σ H3 { s3 with heap:=s3.heap.push { cls:=.type "slice",data:=.fields #[vl,vu,.none] } }:=I3.kept (t':=s3.toks) fun b ob q=>Heap.get?_push_of_some _ q
 obtain⟨T,id,hT,ht,hg⟩:=hr pins { s3 with heap:=s3.heap.push { cls:=.type "slice",data:=.fields #[vl,vu,.none] } } σ H3 x v vl vu l u s3.heap.objs.size Q I4 r1 (Heap.IsSliceOf.new ..) pl pu q3
 show wpAny (model X.prog X.w) X.A (subscriptTail e (.Slice lo hi none p2) v (.ref s3.heap.objs.size)) (EP X pins σ Q) X.xe { s3 with heap:=s3.heap.push { cls:=.type "slice",data:=.fields #[vl,vu,.none] } }
 exact tail_any (ops:=[.ref s3.heap.objs.size,v]) ht hT hg (by with_unfolding_all rfl)
noncomputable def cutV(xs:List V)(lo hi:Option Int):List V:=(xs.drop (HT.sIx xs.length 0 lo)).take (HT.sIx xs.length xs.length hi - HT.sIx xs.length 0 lo)
theorem qc3b(xs:List V)(lo hi:Option Int):(cutV xs lo hi).length <= xs.length:=by
 unfold cutV
 rw [List.length_take,List.length_drop]
 omega
noncomputable def rSlT(K:PySem.W.Frag):V->Option Int->Option Int->Hp->VK->Prop:=fun x lo hi H Q=>∃ a xs,x=.ref a/\SqT K H a xs /\
 ¬ (HT.sIx xs.length 0 lo=0/\HT.sIx xs.length xs.length hi=xs.length)/\∀ p,H p=none->Q (.ref p) (upd H p (.tup (cutV xs lo hi)))
theorem qb1g:SlR X (rSlT X.K):=by
 intro pins s σ H x v vl vu lo hi sl Q I rx hs pl pu h
 obtain⟨a,xs,rfl,hx,hw,q⟩:=h
 cases rx
 obtain⟨its,r,ht,hz⟩:=I.tuple hx
 have hlen:its.toArray.size=xs.length:=by rw [List.size_toArray];exact r.length.symm
 refine⟨"tuple",_,PyProof.Rows.slot_tuple_getitem.lookup,ht.typeIs,?_⟩
 refine HT.qb4u ht hs pl pu (by rw [hlen];exact hw) ?_ (by rw [hlen];exact hz)
 rw [hlen]
 refine⟨.ref s.heap.objs.size,_,I.laid (t':=s.toks) (o:=.tup (cutV xs lo hi)) (fun b ob q=>Heap.get?_push_of_some _ q) (Nat.le_refl _) ?_,rfl,q _ (I.hok.fresh (Nat.le_refl _))⟩
 exact⟨Nat.le_trans (qc3b xs lo hi) hz,_,(r.drop (HT.sIx xs.length 0 lo)).take (HT.sIx xs.length xs.length hi - HT.sIx xs.length 0 lo),qa6b.new _ _⟩
def rCatT(K:PySem.W.Frag):R2:=fun x y H Q=>∃ a b xs ys,x=.ref a/\y=.ref b/\SqT K H a xs/\SqT K H b ys/\xs ≠ []/\xs.length + ys.length <= sizeLine /\
 (ys=[]->Q (.ref a) H)/\(ys ≠ []->∀ p,H p=none->Q (.ref p) (upd H p (.tup (xs ++ ys))))
theorem Vals.nil_iff{xs:List V}{us:List Value}(r:Vals xs us):us=[] ↔ xs=[]:=by
 cases r with
 | nil=>simp
 | cons _ _=>simp
theorem op_catT:OpR X (binaryOp .Add) (rCatT X.K):=by
 intro pins s σ H x y v u Q I rx ry h
 obtain⟨a,b,xs,ys,rfl,rfl,ha,hb,hx,hz,q1,q2⟩:=h
 cases rx
 cases ry
 obtain⟨its,r1,p1,_⟩:=I.tuple ha
 obtain⟨its2,r2,p2,_⟩:=I.tuple hb
 refine HT.cat_tup p1 p2 (fun z=>hx (r1.nil_iff.mp z)) (fun z=>⟨.ref a,H,I,rfl,q1 (r2.nil_iff.mp z)⟩) (fun z=>?_) (by rw [← r1.length,← r2.length];exact hz)
 refine⟨.ref s.heap.objs.size,_,I.laid (t':=s.toks) (o:=.tup (xs ++ ys)) (fun b ob q=>Heap.get?_push_of_some _ q) (Nat.le_refl _) ?_,rfl,q2 (fun w=>z (r2.nil_iff.mpr w)) _ (I.hok.fresh (Nat.le_refl _))⟩
 exact⟨by rw [List.length_append];exact hz,_,r1.append r2,qa6b.new _ _⟩
end
end L2
namespace L2
open PySem PySem.Spec PyProof.Rows
noncomputable def ixN(n:Nat)(i:Int):Option Nat:=if 0 <= i then(if i < n then some i.toNat else none) else if -(n:Int) <= i then some (i + n).toNat else none
noncomputable def atI{α:Type}(xs:List α)(i:Int):Option α:=(ixN xs.length i).bind fun j=>xs[j]?
theorem qc4x{n:Nat}{i:Int}{j:Nat}(h:ixN n i=some j):seqIndex? i n=some j/\j < n /\ -(n:Int) <= i/\i < n:=by
 unfold ixN at h
 by_cases h0:0 <= i
 ·rw [if_pos h0] at h
  by_cases h1:i < n
  ·rw [if_pos h1] at h
   have e:i.toNat=j:=Option.some.inj h
   exact⟨by rw [seqIndex_of h0 h1,e],by omega,by omega,h1⟩
  ·rw [if_neg h1] at h;cases h
 ·rw [if_neg h0] at h
  by_cases h1:-(n:Int) <= i
  ·rw [if_pos h1] at h
   have e:(i + n).toNat=j:=Option.some.inj h
   exact⟨by rw [seqIndex_neg (by omega) h1,e],by omega,h1,by omega⟩
  ·rw [if_neg h1] at h;cases h
theorem qb7l{α:Type}{xs:List α}{i:Int}{v:α}(h:atI xs i=some v):∃ j,seqIndex? i xs.length=some j/\xs[j]? = some v/\j < xs.length /\ -(xs.length:Int) <= i/\i < xs.length:=by
 unfold atI at h
 cases e:ixN xs.length i with
 | none=>rw [e] at h;cases h
 | some j =>
  rw [e] at h
  obtain⟨h1,h2,h3,h4⟩:=qc4x e
  exact⟨j,h1,h,h2,h3,h4⟩
theorem qa9o{α:Type}{xs:List α}{j:Nat}{v:α}(h:xs[j]? = some v):atI xs (j:Int)=some v:=by
 have hj:j < xs.length:=(List.getElem?_eq_some_iff.mp h).1
 have e:ixN xs.length (j:Int)=some j:=by
  unfold ixN
  rw [if_pos (by omega),if_pos (by omega)];simp
 unfold atI;rw [e];exact h
def qb7m(b:Expr):Prop:=∀ o i,subscripted b false o i=operate [o,i] (getItem o i)
def IxR(X:Cx)(r:R2):Prop:=
 ∀ (value slice:Expr) (pins:List (Addr × Obj)) (s:Shared) (σ:St) (H:Hp) (x y:V) (v u:Value) (Q:VK),Inv X pins σ H s->RelV x v->RelV y u->r x y H Q ->
  subscripted slice false v u=operate [v,u] (getItem v u)->wpAny (model X.prog X.w) X.A (subscriptTail value slice v u) (EP X pins σ Q) X.xe s
def MtR(X:Cx)(id:String)(r:V->List V->Hp->VK->Prop):Prop:=
 ∀ (pins:List (Addr × Obj)) (s:Shared) (σ:St) (H:Hp) (x:V) (xs:List V) (v:Value) (us:List Value) (Q:VK),Inv X pins σ H s->RelV x v->Vals xs us->r x xs H Q ->
  wpAny (model X.prog X.w) X.A (call (.builtin id) (v :: us)) (EP X pins σ Q) X.xe s
section
variable{X:Cx}{a b:Expr}{ta tb:TE}{pos:Pos}
theorem IxR.or{r r':R2}(h:IxR X r)(h':IxR X r'):IxR X (fun x y H Q=>r x y H Q ∨ r' x y H Q):=by
 intro value slice pins s σ H x y v u Q I rx ry q hs
 rcases q with q | q
 ·exact h value slice pins s σ H x y v u Q I rx ry q hs
 ·exact h' value slice pins s σ H x y v u Q I rx ry q hs
theorem pe_ix{r:R2}(hr:IxR X r)(ha:PE X a ta)(hb:PE X b tb)(hs:qb7m b):PE X (.Subscript a b pos) (tOp r ta tb):=by
 intro pins s σ H Q I h
 exact Subscript_ (binT ha hb I h fun v u s2 x y H2 I2 rx ry q=>hr a b pins s2 σ H2 x y v u Q I2 rx ry q (hs _ _))
def rIxL(K:PySem.W.Frag):R2:=fun x y H Q=>∃ p xs i v,x=.ref p/\y=.int i/\SqL K H p xs/\atI xs i=some v/\Q v H
def rIxT(K:PySem.W.Frag):R2:=fun x y H Q=>∃ p xs i v,x=.ref p/\y=.int i/\SqT K H p xs/\atI xs i=some v/\Q v H
def rIxS:R2:=fun x y H Q=>∃ z i c,x=.str z/\y=.int i/\z.length <= sizeLine/\atI z.cps.toList i=some c/\Q (.str ⟨#[c]⟩) H
theorem qb1h:IxR X (rIxL X.K):=by
 intro value slice pins s σ H x y v u Q I rx ry h hs
 obtain⟨p,xs,i,z,rfl,rfl,hq,he,q⟩:=h
 cases rx
 obtain⟨t,rfl⟩:=ry
 obtain⟨its,r,pl,hz⟩:=I.list hq
 obtain⟨j,h1,h2,h3,h4,h5⟩:=qb7l he
 obtain⟨w,ew,rw'⟩:=r.get h2
 have hl:=r.length
 have hn:=qa6d
 have fin:EP X pins σ Q w s:=⟨z,H,I,rw',q⟩
 by_cases h0:0 <= i
 ·have hj:i.toNat=j:=by
   rw [seqIndex_of h0 h5] at h1
   exact Option.some.inj h1
  exact item_listR pl.isList h0 (by omega) (by rw [hj];simpa using ew) fin hs
 ·have hj:(i + (its.toArray.size:Int)).toNat=j:=by
   rw [seqIndex_neg (by omega) h4] at h1
   rw [List.size_toArray,← hl]
   exact Option.some.inj h1
  exact subscriptTail_builtinR (x:=w) pl.isList.typeIs slot_list_getitem.lookup
   (wpAny_getItem_list_neg (Q:=fun r s'=>r=w/\EP X pins σ Q r s') pl.isList (by omega) (by rw [List.size_toArray]<;>omega) (by omega) (by rw [hj];simpa using ew) ⟨rfl,fin⟩) hs
theorem ix_tup:IxR X (rIxT X.K):=by
 intro value slice pins s σ H x y v u Q I rx ry h hs
 obtain⟨p,xs,i,z,rfl,rfl,hq,he,q⟩:=h
 cases rx
 obtain⟨t,rfl⟩:=ry
 obtain⟨its,r,pl,hz⟩:=I.tuple hq
 obtain⟨j,h1,h2,h3,h4,h5⟩:=qb7l he
 obtain⟨w,ew,rw'⟩:=r.get h2
 have hl:=r.length
 have hn:=qa6d
 have fin:EP X pins σ Q w s:=⟨z,H,I,rw',q⟩
 exact subscriptTail_builtinR (x:=w) pl.typeIs slot_tuple_getitem.lookup
  (getItem_tuple (j:=j) (Q:=fun r s'=>r=w/\EP X pins σ Q r s') pl (by omega) (by omega) (by rw [List.size_toArray,← hl];exact h1) (by simpa using ew) ⟨rfl,fin⟩) hs
theorem ix_str:IxR X rIxS:=by
 intro value slice pins s σ H x y v u Q I rx ry h hs
 obtain⟨z,i,c,rfl,rfl,hz,he,q⟩:=h
 obtain⟨t,rfl⟩:=rx
 obtain⟨t',rfl⟩:=ry
 obtain⟨j,h1,h2,h3,h4,h5⟩:=qb7l he
 have hl:z.cps.toList.length=z.length:=by simp [Str.length]
 rw [hl] at h1 h4 h5
 have hn:=qa6d
 exact tail_any (typeIs_str s z t) slot_str_getitem.lookup (getItem_str (c:=c) (by
  have e1:decide (i < -(2 ^ 63:Int))=false:=decide_eq_false (by omega)
  have e2:decide (i ≥ 2 ^ 63)=false:=decide_eq_false (by omega)
  rw [e1,e2,Bool.or_false]) (by rw [h1];simpa using h2) ⟨.str ⟨#[c]⟩,H,I.tok _,⟨_,rfl⟩,q⟩) hs
def rIx(K:PySem.W.Frag):R2:=fun x y H Q=>rIxL K x y H Q ∨ rIxT K x y H Q ∨ rIxS x y H Q
theorem qa0j:IxR X (rIx X.K):=qb1h.or (ix_tup.or ix_str)
theorem qc6j(its:List Value)(n j:Nat)(u:Value):Obj.mapSeq (·.setIfInBounds j u) { cls:=.type "list",data:=.seq its.toArray n }={ cls:=.type "list",data:=.seq (its.set j u).toArray n }:=by
 simp [Obj.mapSeq]
theorem Inv.lst{pins:List (Addr × Obj)}{σ:St}{H:Hp}{s:Shared}{p:Addr}{xs:List V}(I:Inv X pins σ H s)(h:H p=some (.lst xs)) :
  ∃ (its:List Value) (n:Nat),Vals xs its/\s.heap.get? p=some { cls:=.type "list",data:=.seq its.toArray n }/\xs.length <= sizeLine:=by
 obtain⟨z,its,n,r,e⟩:=I.hok p _ h
 exact⟨its,n,r,e,z⟩
theorem Inv.lstUpd{pins:List (Addr × Obj)}{σ:St}{H:Hp}{s:Shared}{p:Addr}{xs ys:List V}{its its':List Value}{n n':Nat}{f:Obj->Obj}(I:Inv X pins σ H s)(h:H p=some (.lst xs))
  (ho:s.heap.get? p=some { cls:=.type "list",data:=.seq its.toArray n }) (hf:f { cls:=.type "list",data:=.seq its.toArray n }={ cls:=.type "list",data:=.seq its'.toArray n' }) (r:Vals ys its') (hz:ys.length <= sizeLine) (t:Nat) :
  Inv X pins σ (upd H p (.lst ys)) { s with heap:=s.heap.update p f,toks:=t }:=by
 have e:(s.heap.update p f).get? p=some { cls:=.type "list",data:=.seq its'.toArray n' }:=by
  rw [Heap.get?_update_self f ho (by rw [hf]<;>rfl),hf]
 refine I.write (x:=p) (e:=p) (by rw [h];trivial) (.inl rfl) (fun b u hb q=>(Heap.get?_update_other _ _ (Ne.symm hb)).trans q) ⟨_,e⟩ ?_
 exact⟨hz,its',n',r,e⟩
noncomputable def rSetL:V->V->V->Hp->(Hp->Prop)->Prop:=fun o i v H Q=>∃ p xs k j,o=.ref p/\i=.int k/\H p=some (.lst xs)/\ixN xs.length k=some j/\Q (upd H p (.lst (xs.set j v)))
theorem set_list:PSet X rSetL:=by
 intro pins s σ H o i v ov iv u Q I ro ri rv h
 obtain⟨p,xs,k,j,rfl,rfl,hp,hj,q⟩:=h
 cases ro
 obtain⟨t,rfl⟩:=ri
 obtain⟨its,n,r,ho,hz⟩:=I.lst hp
 obtain⟨h1,h2,h3,h4⟩:=qc4x hj
 have hl:=r.length
 have hn:=qa6d
 have I':Inv X pins σ (upd H p (.lst (xs.set j v))) { s with heap:=s.heap.update p (Obj.mapSeq (·.setIfInBounds j u)) }:=
  I.lstUpd hp ho (qc6j its n j u) (r.set rv j) (by rw [List.length_set];exact hz) s.toks
 by_cases h0:0 <= k
 ·have hk:k.toNat=j:=by
   rw [seqIndex_of h0 h4] at h1
   exact Option.some.inj h1
  exact PySem.W.ki_setAt ho h0 (by omega) (by rw [List.size_toArray,← hl];exact h4) (by rw [hk];exact⟨_,I',q⟩)
 ·have hk:(k + (its.toArray.size:Int)).toNat=j:=by
   rw [seqIndex_neg (by omega) h3] at h1
   rw [List.size_toArray,← hl]
   exact Option.some.inj h1
  exact PySem.W.ki_setBack ho (by omega) (by rw [List.size_toArray,← hl];exact h3) (by omega) (by rw [hk];exact⟨_,I',q⟩)
noncomputable def qa7j:V->Bool
 | .non=>true
 | .bl _=>true
 | .int _=>true
 | .str _=>true
 | _=>false
noncomputable def eqV:V->V->Bool
 | .non,.non=>true
 | .bl a,.bl b=>a == b
 | .bl a,.int b=>(if a then 1 else 0) == b
 | .int a,.bl b=>a == (if b then 1 else 0)
 | .int a,.int b=>a == b
 | .str a,.str b=>a == b
 | _,_=>false
theorem eqAt_V{A:Around}{s:Shared}{y x:V}{u v:Value}(ry:RelV y u)(rx:RelV x v)(fy:qa7j y=true)(fx:qa7j x=true):SeqAt.EqAt A s u v (eqV y x):=by
 cases y with
 | non =>
  cases ry
  cases x with
  | non=>cases rx;exact SeqAt.EqAt.same _
  | bl b=>cases rx;exact SeqAt.EqAt.none_bool b
  | int b=>obtain⟨t,rfl⟩:=rx;exact SeqAt.EqAt.none_int b t
  | str b=>obtain⟨t,rfl⟩:=rx;exact SeqAt.EqAt.none_str b t
  | _=>exact absurd (show false=true from fx) Bool.false_ne_true
 | bl a =>
  cases ry
  cases x with
  | non=>cases rx;exact SeqAt.EqAt.bool_none a
  | bl b=>cases rx;exact SeqAt.EqAt.bool_bool a b
  | int b=>obtain⟨t,rfl⟩:=rx;exact SeqAt.EqAt.bool_int a b t
  | str b=>obtain⟨t,rfl⟩:=rx;exact SeqAt.EqAt.bool_str a b t
  | _=>exact absurd (show false=true from fx) Bool.false_ne_true
 | int a =>
  obtain⟨t',rfl⟩:=ry
  cases x with
  | non=>cases rx;exact SeqAt.EqAt.int_none a t'
  | bl b=>cases rx;exact SeqAt.EqAt.int_bool a t' b
  | int b=>obtain⟨t,rfl⟩:=rx;exact SeqAt.EqAt.int_int a t' b t
  | str b=>obtain⟨t,rfl⟩:=rx;exact SeqAt.EqAt.int_str a t' b t
  | _=>exact absurd (show false=true from fx) Bool.false_ne_true
 | str a =>
  obtain⟨t',rfl⟩:=ry
  cases x with
  | non=>cases rx;exact SeqAt.EqAt.str_none a t'
  | bl b=>cases rx;exact SeqAt.EqAt.str_bool a t' b
  | int b=>obtain⟨t,rfl⟩:=rx;exact SeqAt.EqAt.str_int a t' b t
  | str b=>obtain⟨t,rfl⟩:=rx;exact SeqAt.EqAt.str_str a t' b t
  | _=>exact absurd (show false=true from fx) Bool.false_ne_true
 | _=>exact absurd (show false=true from fy) Bool.false_ne_true
noncomputable def eqU(x:V)(u:Value):Bool:=match u with
 | .none=>eqV .non x
 | .bool b=>eqV (.bl b) x
 | .int i _=>eqV (.int i) x
 | .str z _=>eqV (.str z) x
 | _=>false
theorem eqU_of{x y:V}{u:Value}(r:RelV y u)(f:qa7j y=true):eqU x u=eqV y x:=by
 cases y with
 | non=>cases r;rfl
 | bl b=>cases r;rfl
 | int i=>obtain⟨t,rfl⟩:=r;rfl
 | str z=>obtain⟨t,rfl⟩:=r;rfl
 | _=>exact absurd (show false=true from f) Bool.false_ne_true
theorem qb1i{x:V}:∀ {xs:List V} {us:List Value},Vals xs us->xs.all qa7j=true->us.any (eqU x)=xs.any fun y=>eqV y x
 | _,_,.nil,_=>rfl
 | y :: xs,u :: us,.cons r t,f=>by
  rw [List.all_cons,Bool.and_eq_true] at f
  rw [List.any_cons,List.any_cons,eqU_of r f.1,qb1i t f.2]
theorem qb0b{A:Around}{s:Shared}{x:V}{v:Value}(rx:RelV x v)(fx:qa7j x=true):∀ {xs:List V} {us:List Value},Vals xs us->xs.all qa7j=true->∀ u ∈ us,SeqAt.EqAt A s u v (eqU x u)
 | _,_,.nil,_=>fun u hu=>by cases hu
 | y :: xs,u :: us,.cons r t,f=>fun u' hu=>by
  rw [List.all_cons,Bool.and_eq_true] at f
  rcases List.mem_cons.mp hu with rfl | hu
  ·rw [eqU_of r f.1];exact eqAt_V r rx f.1 fx
  ·exact qb0b rx fx t f.2 u' hu
noncomputable def inV(x:V)(xs:List V):Bool:=xs.any fun y=>eqV y x
def rIn(K:PySem.W.Frag)(neg:Bool):R2:=fun x y H Q=>∃ p xs,y=.ref p/\(SqL K H p xs ∨ SqT K H p xs)/\qa7j x=true/\xs.all qa7j=true/\Q (.bl (if neg then !inV x xs else inV x xs)) H
theorem qc8x:OpR X (compareOp .In) (rIn X.K false):=by
 intro pins s σ H x y v u Q I rx ry h
 obtain⟨p,xs,rfl,hq,fx,fs,q⟩:=h
 cases ry
 rcases hq with hq | hq
 ·obtain⟨its,r,pl,hz⟩:=I.list hq
  refine SeqAt.in_listAt (eqU x) pl.isList (fun w hw=>qb0b rx fx r fs w (by simpa using hw)) ⟨.bl _,H,I,rfl,?_⟩
  rw [show its.toArray.any (eqU x)=its.any (eqU x) by simp,qb1i r fs]
  exact q
 ·obtain⟨its,r,pl,hz⟩:=I.tuple hq
  refine SeqAt.in_tupleAt (eqU x) pl (fun w hw=>qb0b rx fx r fs w (by simpa using hw)) ⟨.bl _,H,I,rfl,?_⟩
  rw [show its.toArray.any (eqU x)=its.any (eqU x) by simp,qb1i r fs]
  exact q
theorem qc0c:OpR X (compareOp .NotIn) (rIn X.K true):=by
 intro pins s σ H x y v u Q I rx ry h
 obtain⟨p,xs,rfl,hq,fx,fs,q⟩:=h
 cases ry
 rcases hq with hq | hq
 ·obtain⟨its,r,pl,hz⟩:=I.list hq
  refine SeqAt.notIn_listAt (eqU x) pl.isList (fun w hw=>qb0b rx fx r fs w (by simpa using hw)) ⟨.bl _,H,I,rfl,?_⟩
  rw [show its.toArray.any (eqU x)=its.any (eqU x) by simp,qb1i r fs]
  exact q
 ·obtain⟨its,r,pl,hz⟩:=I.tuple hq
  refine SeqAt.notIn_tupleAt (eqU x) pl (fun w hw=>qb0b rx fx r fs w (by simpa using hw)) ⟨.bl _,H,I,rfl,?_⟩
  rw [show its.toArray.any (eqU x)=its.any (eqU x) by simp,qb1i r fs]
  exact q
theorem qc0d:OpR X (compareOp .NotIn) (fun x y H Q=>∃ i j,x=.str i/\y=.str j/\Q (.bl (!(!(Builtin.Str.occurrences j i 0 j.length 1).isEmpty))) H):=by
 intro pins s σ H x y v u Q I rx ry h
 obtain⟨i,j,rfl,rfl,q⟩:=h
 obtain⟨t,rfl⟩:=rx
 obtain⟨t',rfl⟩:=ry
 exact notIn_str ⟨.bl _,H,I,rfl,q⟩
theorem qa6e:qa2r X (.builtin "len") (fun xs H Q=>∃ p ys,xs=[.ref p]/\(SqL X.K H p ys ∨ SqT X.K H p ys)/\Q (.int ys.length) H):=by
 intro pins s σ H xs us Q I r h
 obtain⟨p,ys,rfl,hq,q⟩:=h
 obtain⟨u,rfl,rx⟩:=vals1 r
 cases rx
 have hn:=qa6d
 rcases hq with hq | hq
 ·obtain⟨its,r',pl,hz⟩:=I.list hq
  have hlen:=r'.length
  exact Calls.call_len_list pl.isList (by simp only [List.size_toArray]<;>omega) ⟨.int ys.length,H,I.tok _,⟨s.toks + 1,by rw [List.size_toArray,hlen]⟩,q⟩
 ·obtain⟨its,r',pl,hz⟩:=I.tuple hq
  have hlen:=r'.length
  exact len_tuple pl (by simp only [List.size_toArray]<;>omega) ⟨.int ys.length,H,I.tok _,⟨s.toks + 1,by rw [List.size_toArray,hlen]⟩,q⟩
theorem qc0e:qa2r X (.builtin "len") (fun xs H Q=>∃ z,xs=[.str z]/\z.length <= sizeLine/\Q (.int z.length) H):=by
 intro pins s σ H xs us Q I r h
 obtain⟨z,rfl,hz,q⟩:=h
 obtain⟨u,rfl,t,rfl⟩:=vals1 r
 have hn:=qa6d
 exact len_str (by omega) ⟨.int z.length,H,I.tok _,⟨_,rfl⟩,q⟩
theorem qa2r.or{f:Value}{r r':List V->Hp->VK->Prop}(h:qa2r X f r)(h':qa2r X f r'):qa2r X f (fun xs H Q=>r xs H Q ∨ r' xs H Q):=by
 intro pins s σ H xs us Q I rs q
 rcases q with q | q
 ·exact h pins s σ H xs us Q I rs q
 ·exact h' pins s σ H xs us Q I rs q
theorem qc0f:qa2r X (.type "list") (fun xs H Q=>∃ p ys,xs=[.ref p]/\(SqL X.K H p ys ∨ SqT X.K H p ys)/\∀ l,H l=none->Q (.ref l) (upd H l (.lst ys))):=by
 intro pins s σ H xs us Q I r h
 obtain⟨p,ys,rfl,hq,q⟩:=h
 obtain⟨u,rfl,rx⟩:=vals1 r
 cases rx
 have fin:∀ (its:List Value),Vals ys its->ys.length <= sizeLine->∀ (h':Heap) (c':Nat),(∀ b o',s.heap.get? b=some o'->h'.get? b=some o') ->
   h'.get? s.heap.objs.size=some { cls:=.type "list",dict:=none,data:=.seq its.toArray c',slots:=#[] }->EP X pins σ Q (.ref s.heap.objs.size) { s with heap:=h' }:=fun its r' hz h' c' kp e =>
  ⟨.ref s.heap.objs.size,_,I.laid (t':=s.toks) kp (Nat.le_refl _) (show qa2q X.prog X.w _ h' _ (.lst ys) from⟨hz,its,c',r',e⟩),rfl,q _ (I.hok.fresh (Nat.le_refl _))⟩
 rcases hq with hq | hq
 ·obtain⟨its,r',pl,hz⟩:=I.list hq
  have hlen:=r'.length
  obtain⟨o,ho,hc,n,hd⟩:=pl.isList
  exact call_list_seq p (.inl rfl) ho hc hd (fun h' c' kp e=>fin its r' hz h' c' kp e) (by simp only [List.size_toArray]<;>omega)
 ·obtain⟨its,r',pl,hz⟩:=I.tuple hq
  have hlen:=r'.length
  obtain⟨o,ho,hc,n,hd⟩:=pl
  exact call_list_seq p (.inr rfl) ho hc hd (fun h' c' kp e=>fin its r' hz h' c' kp e) (by simp only [List.size_toArray]<;>omega)
theorem qa2w:qa2r X (.type "tuple") (fun xs H Q=>∃ p ys,xs=[.ref p]/\((SqL X.K H p ys/\∀ l,H l=none->Q (.ref l) (upd H l (.tup ys))) ∨ (SqT X.K H p ys/\Q (.ref p) H))):=by
 intro pins s σ H xs us Q I r h
 obtain⟨p,ys,rfl,h⟩:=h
 obtain⟨u,rfl,rx⟩:=vals1 r
 cases rx
 rcases h with⟨hq,q⟩ | ⟨hq,q⟩
 ·obtain⟨its,r',pl,hz⟩:=I.list hq
  have hlen:=r'.length
  refine call_tuple_list pl.isList (fun h' kp=>?_) (by simp only [List.size_toArray]<;>omega)
  have I1:Inv X pins σ H { s with heap:=h' }:=I.kept (t':=s.toks) kp
  have I2:Inv X pins σ (upd H h'.objs.size (.tup ys)) { s with heap:=h'.push { cls:=.type "tuple",data:=.seq its.toArray } }:=
   I1.laid (t':=s.toks) (fun b o e=>Heap.get?_push_of_some _ e) (Nat.le_refl _) (show qa2q X.prog X.w _ _ _ (.tup ys) from⟨hz,its,r',qa6b.new _ _⟩)
  exact⟨.ref h'.objs.size,_,I2,rfl,q _ (I1.hok.fresh (Nat.le_refl _))⟩
 ·obtain⟨its,r',pl,hz⟩:=I.tuple hq
  exact call_tuple_same pl ⟨.ref p,H,I,rfl,q⟩
def tyV(K:PySem.W.Frag)(T:String)(x:V)(H:Hp):Prop:=match x with
 | .str _=>T = "str"
 | .int _=>T = "int"
 | .ref p=>(T = "list" /\ ∃ xs,SqL K H p xs) ∨ (T = "tuple" /\ ∃ o,K.lookup p=some o/\o.cls=.type "tuple" /\ o.dict=none) ∨
   (T = "dict" /\ ((∃ kvs,H p=some (.dK kvs)) ∨ ∃ kvs,H p=some (.dT kvs))) ∨ (T = "set" /\ ∃ S n,H p=some (.set S n))
 | _=>False
theorem tyV_is{pins:List (Addr × Obj)}{σ:St}{H:Hp}{s:Shared}{T:String}{x:V}{v:Value}(I:Inv X pins σ H s)(r:RelV x v)(ty:tyV X.K T x H) :
  s.TypeIs v T/\∀ a,v=.ref a->∃ ob,s.heap.get? a=some ob/\ob.dict=none:=by
 cases x with
 | str z =>
  obtain⟨t,rfl⟩:=r
  cases (show T = "str" from ty)
  exact⟨typeIs_str s z t,fun _ e=>nomatch e⟩
 | int i =>
  obtain⟨t,rfl⟩:=r
  cases (show T = "int" from ty)
  exact⟨typeIs_int s i t,fun _ e=>nomatch e⟩
 | ref p =>
  cases r
  rcases ty with⟨rfl,xs,hq⟩ | ⟨rfl,o,hk,hc,hd⟩ | ⟨rfl,hk⟩ | ⟨rfl,S,n,hk⟩
  ·obtain⟨its,_,pl,_⟩:=I.list hq
   refine⟨pl.isList.typeIs,fun a e=>?_⟩
   cases e
   obtain⟨o,n,e,c,hd,_⟩:=pl
   exact⟨o,e,hd⟩
  ·refine⟨⟨o,I.kIn p o hk,hc⟩,fun a e=>?_⟩
   cases e
   exact⟨o,I.kIn _ o hk,hd⟩
  ·have z:∃ o,s.heap.get? p=some o/\o.ExactDict:=by
    rcases hk with⟨kvs,hk⟩ | ⟨kvs,hk⟩
    ·obtain⟨_,_,_,_,o,_,_,e,ex,_⟩:=I.hok p _ hk
     exact⟨o,e,ex⟩
    ·obtain⟨_,_,_,_,o,_,_,e,ex,_⟩:=I.hok p _ hk
     exact⟨o,e,ex⟩
   obtain⟨o,e,ex⟩:=z
   refine⟨⟨o,e,ex.1⟩,fun a e2=>?_⟩
   cases e2
   exact⟨o,e,ex.2.1⟩
  ·obtain⟨o,_,_,_,e,ex,_⟩:=I.hok p _ hk
   refine⟨⟨o,e,ex.1⟩,fun a e2=>?_⟩
   cases e2
   exact⟨o,e,ex.2.1⟩
 | _=>exact False.elim ty
def tBM0(K:PySem.W.Frag)(T:String)(r:V->List V->Hp->VK->Prop)(to:TE):TE:=fun σ H Q=>to σ H fun x H1=>tyV K T x H1/\r x [] H1 Q
def tBM(K:PySem.W.Frag)(T:String)(r:V->List V->Hp->VK->Prop)(to:TE)(t:TA):TE:=fun σ H Q=>to σ H fun x H1=>tyV K T x H1/\t σ H1 fun xs H2=>r x xs H2 Q
variable{o e:Expr}{es:List Expr}{to:TE}{t:TA}{name:Str}{apos cpos:Pos}{T id:String}{r:V->List V->Hp->VK->Prop}
theorem pe_bm0(pa:PlainAttrs T)(slot:Slot T name id) (hty:typeOf (.builtin id)=pure (.type "method_descriptor")) (hm:MtR X id r) (ho:PE X o to)
  (hbase:attributeBase o name X.env (eval o X.env)=eval o X.env:=by rfl) (hline:(apos.endLine == cpos.line)=true:=by rfl):PE X (.Call (.Attribute o name apos) [] [] cpos) (tBM0 X.K T r to):=by
 intro pins s σ H Q I h
 refine wpAny_Call_method0_late hbase hline (thn (ho pins s σ H _ I h) fun v s1 hq9=>?_)
 obtain⟨x,H1,I1,r1,ty,q1⟩:=hq9
 obtain⟨h1,h2⟩:=tyV_is I1 r1 ty
 exact⟨T,id,pa,slot,hty,h1,h2,Calls.callWith_builtin rfl (PySem.evalArgs_none (hm pins s1 σ H1 x [] v [] Q I1 r1 .nil q1))⟩
theorem pe_bm(pa:PlainAttrs T)(slot:Slot T name id) (hty:typeOf (.builtin id)=pure (.type "method_descriptor")) (hm:MtR X id r) (ho:PE X o to) (ha:PA X (e :: es) t)
  (hbase:attributeBase o name X.env (eval o X.env)=eval o X.env:=by rfl)
  (hfew:((backTo cpos (starEach (e :: es) X.env)).all (fun x=>!x.1) && (backToKw cpos (keywordEach [] X.env)).all (fun x=>x.1.isSome)
   && decide ((e :: es).length + ([]:List Keyword).length + (if ([]:List Keyword).isEmpty then 0 else 1) < 30))=true:=by rfl)
  (hline:(apos.endLine == cpos.line)=true:=by rfl) (hs:starEach (e :: es) X.env=(false,eval e X.env) :: starEach es X.env:=by rfl) (hplain:(backTo cpos (starEach es X.env)).any (·.1)=false:=by rfl) :
  PE X (.Call (.Attribute o name apos) (e :: es) [] cpos) (tBM X.K T r to t):=by
 intro pins s σ H Q I h
 refine wpAny_Call_method_late hbase hfew hline rfl (thn (ho pins s σ H _ I h) fun v s1 hq9=>?_)
 obtain⟨x,H1,I1,r1,ty,q1⟩:=hq9
 obtain⟨h1,h2⟩:=tyV_is I1 r1 ty
 refine⟨T,id,pa,slot,hty,h1,h2,?_⟩
 have hA:=ha cpos pins s1 σ H1 _ I1 q1
 rw [hs] at hA ⊢
 refine Calls.callWith_builtin (by show(false || (backTo cpos (starEach es X.env)).any (·.1))=false;rw [hplain]<;>rfl) (Calls.evalArgs_plain ?_)
 exact thn hA fun us s2 hq8=>by obtain⟨vs,H2,I2,r2,q2⟩:=hq8;exact hm pins s2 σ H2 x vs v us Q I2 r1 r2 q2
end
end L2
namespace L2
open PySem PySem.Spec PyProof.Rows
def MtM(X:Cx)(id:String)(r:V->List V->Hp->VK->Prop):Prop:=
 ∀ (pins:List (Addr × Obj)) (s:Shared) (σ:St) (H:Hp) (x:V) (xs:List V) (v:Value) (us:List Value) (Q:VK),Inv X pins σ H s->RelV x v->Vals xs us->r x xs H Q ->
  wpAny (model X.prog X.w) X.A (call (.builtin id) (v :: us)) (EP X pins σ Q) X.xe s
theorem Vals.one:∀ {x:V} {us:List Value},Vals [x] us->∃ u,us=[u]/\RelV x u:=fun h=>by
 cases h with
 | cons r1 r2 =>
  cases r2
  exact⟨_,rfl,r1⟩
theorem Vals.two:∀ {x y:V} {us:List Value},Vals [x,y] us->∃ u v,us=[u,v]/\RelV x u/\RelV y v:=fun h=>by
 cases h with
 | cons r1 r2 =>
  cases r2 with
  | cons q1 q2 =>
   cases q2
   exact⟨_,_,rfl,r1,q1⟩
theorem Vals.zero:∀ {us:List Value},Vals [] us->us=[]
 | _,.nil=>rfl
theorem Vals.dropLast{xs:List V}{us:List Value}(h:Vals xs us):Vals xs.dropLast us.dropLast:=by
 induction h with
 | nil=>exact .nil
 | cons r t ih =>
  cases t with
  | nil=>exact .nil
  | cons q t'=>exact .cons r ih
theorem qc6k{α:Type}(l:List α):l.eraseIdx (l.length - 1)=l.dropLast:=by
 induction l with
 | nil=>rfl
 | cons a r ih =>
  cases r with
  | nil=>rfl
  | cons b r =>
   have e:(a :: b :: r).length - 1=((b :: r).length - 1) + 1:=by
    have h1:(a :: b :: r).length=r.length + 2:=rfl
    have h2:(b :: r).length=r.length + 1:=rfl
    omega
   rw [e,List.eraseIdx_cons_succ,ih]
   all_goals rfl
section
variable{X:Cx}{pins:List (Addr × Obj)}{σ:St}{H:Hp}{s:Shared}{l b:Addr}{xs ys zs:List V}
theorem Inv.lset{its its':List Value}{n:Nat}{f:Array Value->Array Value}{t':Nat}(I:Inv X pins σ H s)(hH:H l=some (.lst xs))
  (e:s.heap.get? l=some { cls:=.type "list",data:=.seq its.toArray n }) (hf:f its.toArray=its'.toArray) (hv:Vals ys its') (hz:ys.length <= sizeLine) :
  Inv X pins σ (upd H l (.lst ys)) { s with heap:=s.heap.update l (Obj.mapSeq f),toks:=t' }:=by
 have q:=PySem.IsL.update e f
 rw [hf] at q
 refine I.write (x:=l) (e:=l) (by rw [hH];exact trivial) (.inl rfl) (fun b' u hb hu=>(Heap.get?_update_other s.heap (Obj.mapSeq f) (Ne.symm hb)).trans hu) ⟨_,q⟩ ?_
 exact⟨hz,its',_,hv,q⟩
theorem Inv.lnew{its:List Value}{t':Nat}(I:Inv X pins σ H s)(hv:Vals ys its)(hz:ys.length <= sizeLine) :
  Inv X pins σ (upd H s.heap.objs.size (.lst ys)) { s with heap:=s.heap.push { cls:=.type "list",data:=.seq its.toArray },toks:=t' }:=
 I.laid (fun _ _ q=>Heap.get?_push_of_some _ q) (Nat.le_refl _) ⟨hz,its,0,hv,Heap.get?_push_size _ rfl⟩
theorem Inv.fresh(I:Inv X pins σ H s):H s.heap.objs.size=none:=I.hok.fresh (Nat.le_refl _)
theorem Inv.lstM(I:Inv X pins σ H s)(hH:H l=some (.lst xs)):xs.length <= sizeLine/\∃ (its:List Value) (n:Nat),Vals xs its/\xs.length=its.length/\s.heap.get? l=some { cls:=.type "list",data:=.seq its.toArray n }:=by
 obtain⟨z,its,n,r,e⟩:=I.hok l _ hH
 exact⟨z,its,n,r,r.length,e⟩
theorem qd1c{n:Nat}(h:n <= sizeLine):Builtin.List.listTooLong n=false:=by
 unfold Builtin.List.listTooLong
 exact decide_eq_false (by omega)
end
section
variable{X:Cx}
noncomputable def qc4y:V->List V->Hp->VK->Prop:=fun x vs H Q=>∃ l xs y,x=.ref l/\vs=[y]/\H l=some (.lst xs)/\xs.length < sizeLine/\Q .non (upd H l (.lst (xs ++ [y])))
theorem qb8q:MtM X "list.append" qc4y:=by
 intro pins s σ H x vs v us Q I rx rv h
 obtain⟨l,xs,y,rfl,rfl,hH,hz,q⟩:=h
 cases rx
 obtain⟨u,rfl,ru⟩:=rv.one
 obtain⟨z,its,n,r,hl,e⟩:=I.lstM hH
 refine call_meets F.slot_list_append ⟨_,e,rfl⟩ F.entry_list_append (F.args_list_append_2 _ _) (PySem.list_append l its.toArray n u (by rw [List.size_toArray];omega)) ⟨e,?_⟩
 refine⟨.non,_,I.lset (its':=its ++ [u]) hH e (by simp) (r.append (.cons ru .nil)) ?_,rfl,q⟩
 rw [List.length_append,List.length_singleton]
 omega
noncomputable def rPop:V->List V->Hp->VK->Prop:=fun x vs H Q=>∃ l xs y,x=.ref l/\vs=[]/\H l=some (.lst xs)/\xs[xs.length - 1]? = some y/\Q y (upd H l (.lst xs.dropLast))
theorem mt_pop:MtM X "list.pop" rPop:=by
 intro pins s σ H x vs v us Q I rx rv h
 obtain⟨l,xs,y,rfl,rfl,hH,hy,q⟩:=h
 cases rx
 have hus:=rv.zero
 subst hus
 obtain⟨z,its,n,r,hl,e⟩:=I.lstM hH
 obtain⟨u,hu,ru⟩:=r.get hy
 have hy':its.toArray[its.toArray.size - 1]? = some u:=by
  show its.toArray[its.length - 1]? = some u
  rw [← Array.getElem?_toList,← hl]
  exact hu
 refine call_meets F.slot_list_pop ⟨_,e,rfl⟩ F.entry_list_pop (F.args_list_pop_1 _) (MeetsSeq.list_pop_last l its.toArray n u hy' (by rw [List.size_toArray];omega)) ⟨e,?_⟩
 refine⟨y,_,I.lset (its':=its.dropLast) hH e ?_ r.dropLast ?_,ru,q⟩
 ·show its.toArray.eraseIdxIfInBounds (its.toArray.size - 1)=its.dropLast.toArray
  rw [List.size_toArray,List.eraseIdxIfInBounds_toArray,qc6k]
 ·rw [List.length_dropLast]
  omega
def rCat:R2:=fun x y H Q=>∃ l b xs zs,x=.ref l/\y=.ref b/\H l=some (.lst xs)/\H b=some (.lst zs)/\xs.length + zs.length <= sizeLine/\∀ p,H p=none->Q (.ref p) (upd H p (.lst (xs ++ zs)))
theorem op_cat:OpR X (binaryOp .Add) rCat:=by
 intro pins s σ H x y v u Q I rx ry h
 obtain⟨l,b,xs,zs,rfl,rfl,hH,hB,hz,q⟩:=h
 cases rx
 cases ry
 obtain⟨z,its,n,r,hl,e⟩:=I.lstM hH
 obtain⟨z2,its2,n2,r2,hl2,e2⟩:=I.lstM hB
 refine PySem.P.add_list e e2 ?_ (by rw [List.size_toArray,List.size_toArray];omega)
 have ea:its.toArray ++ its2.toArray=(its ++ its2).toArray:=by simp
 rw [ea]
 exact⟨.ref _,_,I.lnew (t':=s.toks) (r.append r2) (by rw [List.length_append];omega),rfl,q _ I.fresh⟩
end
section
variable{prog:Program}{w:World}{A:Around}{E:Value->Shared->Prop}{s:Shared}
set_option maxRecDepth 100000 in
end
section
variable{X:Cx}
end
end L2
namespace Att
open PySem PySem.W PySem.Calls PyProof.Rows
theorem qb6f{P:Params}{h:Heap}:∀ (ns:List Int) (vs:List Value),WellAll P h vs (ns.map WData.int)->IntsAre vs ns:=by
 intro ns
 induction ns with
 | nil =>
  intro vs w
  rw [List.map_nil] at w
  cases w
  exact .nil
 | cons n ns ih =>
  intro vs w
  rw [List.map_cons] at w
  cases w with
  | cons a b =>
   cases a
   exact .cons _ _ (ih _ b)
theorem qc8y{l:OpenLaw}{n:Nat}(hn:l.most=some n){P:Params}{h:Heap}{args:List WData}{vals:List Value}
  (hpre:l.row.toRowW.claim.pre args=true) (hwl:WellAll P h vals args) :
  ∃ a vs ns,vals=[Value.ref a]/\args=[WData.list (ns.map WData.int)]/\h.get? a=some { cls:=.type "list",data:=.seq vs.toArray }/\IntsAre vs ns/\ns.length <= n:=by
 have hsh:WShape.hasAll [] args [.list .int]=true:=(pre_splitW hpre).1
 have hc:l.pre.holds [] { args:=args }=true:=(pre_splitW hpre).2
 obtain⟨d,r,rfl,h1,h2⟩:=hasAllW_cons hsh
 obtain rfl:=hasAllW_nil h2
 obtain⟨xs,rfl,h3⟩:=hasW_list h1
 obtain⟨ns,rfl⟩:=items_int h3
 have hlen:ns.length <= n:=by
  unfold OpenLaw.pre at hc
  have h4:(WTm.not (.lt (.lit (.int (n:Int))) (.len (.arg 0)))).holds [] { args:=[.list (ns.map .int)] }=true:=by
   have h4:=(holds_andW hc).1
   rw [hn] at h4
   exact h4
  have h5:=condW_of h4 (w_not (w_lt w_lit (w_len_list (w_arg rfl))))
  rw [List.length_map] at h5
  refine Nat.le_of_not_lt fun q=>?_
  have q':(n:Int) < ((ns.length:Nat):Int):=by omega
  first
   | (rw [decide_eq_true q'] at h5;exact absurd h5 (by decide))
   | (simp at h5;omega)
 cases hwl with
 | cons w1 w2 =>
  cases w2
  cases w1 with
  | list ho hall=>exact⟨_,_,ns,rfl,rfl,ho,qb6f ns _ hall,hlen⟩
theorem qc8z(l:OpenLaw)(args:List WData):l.row.toRowW.claim.post args (.bool true) args=true:=
 postW_of (r:=l.row.toRowW) (X:=(true == true))
  (show WShape.has [] (.bool true) .bool=true by first | rfl | decide | simp [WShape.has,WShape.arms,WShape.armsAll])
  (show(WTm.eq .res (.lit (.bool true))).value [] { args:=args,res:=some (.bool true),after:=args }=some (.bool (true == true)) from w_eq_bool (w_res rfl) w_lit) rfl
theorem attach_call{l:OpenLaw}{n:Nat}{q:Program}{loose:List Str}{XP:(Str->Option Value)->Heap->Prop}{YP:World->Heap->Prop}{d:DefRec}
  (hn:l.most=some n) (hdf:d.params.defaults=[])
  (call:∀ (w:World) (s₀ s₁:Shared) (mg mb:Str->Option Value) (fa:Addr) (o:Obj) (pm cd doc:Value) (a:Addr) (vs:List Value) (ns:List Int),
   Ground q loose [] XP w s₀ mg mb s₁.heap->YP w s₁.heap ->
   s₁.heap.get? fa=some o->o.data=.func (docDef d.name d.params d.body d.scope pm cd doc)->s₁.heap.CodeRec cd d.name->mg d.name=some (.ref fa) ->
   s₁.heap.get? a=some { cls:=.type "list",data:=.seq vs.toArray }->IntsAre vs ns->ns.length <= n->s₁.gens = #[] ->
   codeAny (model l.prog w) callerA (.call (.ref fa) ⟨[.ref a],[]⟩) (fun r s'=>r=.ok (.ret (.bool true))/\OldK s₁.heap s'.heap/\s'.os=s₁.os/\AllBare s'.gens) s₁) :
  WalkO q loose XP YP l.row.toRowW d [] (fun f vs=>PySem.call f vs):=by
 intro w s₀ s₁ mg mb G Y fa o pm cd doc dV kV ho hd hcd hD hmg hg args vals as hpre hlay hrd hwl hlo
 obtain rfl:dV=.none:=Dflts.none hD hdf
 obtain rfl:kV=.none:=Dflts.noKw hD
 obtain⟨a,vs,ns,rfl,rfl,hobj,hints,hlen⟩:=qc8y hn hpre hwl
 refine enter_call (codeAny_mono (call w s₀ s₁ mg mb fa o pm cd doc a vs ns G Y ho (fd_plain hd) hcd hmg hobj hints hlen hg) fun r s' hq=>?_)
 obtain⟨rfl,h2,h3,h4⟩:=hq
 exact⟨.inl ⟨.bool true,.bool true,[],rfl,fun _=>rfl,.bool true,qc8z l _,fun _=>⟨List.Pairwise.nil,fun _ hm=>(nomatch hm)⟩⟩,h2,h3,h4⟩
section
variable{prog:Program}{w:World}{A:Around}{E:Value->Shared->Prop}{s:Shared}{K:Frag}
end
end Att
namespace L2
open PySem PySem.Spec PyProof.Rows
theorem qb8r:∀ {vs:List Value} {ns:List Int},IntsAre vs ns->Vals (ns.map V.int) vs
 | _,_,.nil=>.nil
 | _,_,.cons n t h=>.cons ⟨t,rfl⟩ (qb8r h)
def Only(H:Hp):Prop:=∀ b,H b=none ∨ ∃ o xs,H b=some (.frz o (.lst xs))
theorem qd1d{P:Program}{w:World}{K:PySem.W.Frag}{mg mb:Str->Option Value}{CX:CXT}{k:Nat}{fa a:Addr}{fd:FuncData}{x:Str}{sp:Sp}{s₁:Shared}{vs:List Value}{ns:List Int}
  (KX:K.In s₁.heap) (hns:s₁.heap.Ns mainGlobals mg) (hb:s₁.heap.Ns builtinsNs mb) (hbb:∀ x:Str,x ≠ "__name__" -> mb x=bootBuiltins x) (hlim:s₁.heap.NoLimit) (hg:s₁.gens = #[])
  (ha:s₁.heap.get? a=some { cls:=.type "list",data:=.seq vs.toArray }) (hi:IntsAre vs ns) (hl:ns.length <= sizeLine) (hr:Room k callerA)
  (F:∀ base:Heap,K.In base->base.Ns mainGlobals mg->FnOk P w K mg base CX k fa fd [x] sp) (hbind:∀ (s:Shared) (u:Value),BindsTo s fd ⟨[u],[]⟩ [(x,u)])
  (hsp:∀ H:Hp,Only H->SqL K H a (ns.map V.int)->sp [.ref a] H (fun v _=>v=.bl true) fun _ _ _=>False)
  (hCX:∀ H e s',CX [] H s₁ (fun _ _ _=>False) e s'->False) :
  codeAny (model P w) callerA (.call (.ref fa) ⟨[.ref a],[]⟩) (fun r s'=>r=.ok (.ret (.bool true))/\OldK s₁.heap s'.heap/\s'.os=s₁.os/\AllBare s'.gens) s₁:=by
 have rv:=qb8r hi
 have lenV:=hi.length
 -- from an abstract heap in which nothing but the script may be tracked
 have core:∀ H:Hp,Only H->SqL K H a (ns.map V.int)->HOk P w H s₁.heap->(∀ b,H b ≠ none->b=a)->(H a ≠ none->K.lookup a=none) ->
   codeAny (model P w) callerA (.call (.ref fa) ⟨[.ref a],[]⟩) (fun r s'=>r=.ok (.ret (.bool true))/\OldK s₁.heap s'.heap/\s'.os=s₁.os/\AllBare s'.gens) s₁:=by
  intro H hO hS hok hA hK
  have base_of:∀ {b:Addr} {o:Obj},s₁.heap.get? b=some o->H b=none->(hidT s₁.heap H).get? b=some o:=fun e n=>qd0s e n
  have noA:∀ {b:Addr} {o:Obj} {es:Array DictEntry} {ep:Nat},s₁.heap.get? b=some o->o.data=.dict es ep->H b=none:=fun{b o es ep} e d=>by
   cases q:H b with
   | none=>rfl
   | some u =>
    have e':b=a:=hA b (by rw [q];simp)
    subst e'
    rw [ha] at e;cases e
    have d':Data.seq vs.toArray _=Data.dict es ep:=d
    cases d'
  have nsK:∀ {b:Addr} {m:Str->Option Value},s₁.heap.Ns b m->(hidT s₁.heap H).Ns b m:=fun{b m} ⟨o,es,ep,e,d,r⟩=>⟨o,es,ep,base_of e (noA e d),d,r⟩
  have hKb:K.In (hidT s₁.heap H):=fun b o e=>base_of (KX b o e) (by
   cases q:H b with
   | none=>rfl
   | some u =>
    have e':b=a:=hA b (by rw [q];simp)
    subst e'
    rw [hK (by rw [q];simp)] at e;cases e)
  have hM:Mod K mg (hidT s₁.heap H):=⟨hKb,nsK hns,⟨mb,nsK hb,hbb⟩,let ⟨mc,h1,h2⟩:=hlim;⟨mc,nsK h1,h2⟩⟩
  have e0:Env0 P w K mg (hidT s₁.heap H) callerA [] s₁ H:=⟨rfl,hM,fun b o e=>of_hidT e,Nat.le_of_eq (qc8r _ _),trivial,fun b hb=>absurd (show b ∈ ([]:List Addr) from hb) (by simp),hok,.of_eq hg⟩
  refine codeAny_mono ((F _ hKb (nsK hns)).run callerA [] s₁ H ⟨[.ref a],[]⟩ [.ref a] [.ref a] _ _ hr e0 (hbind s₁ (.ref a)) (.cons rfl .nil) (hsp H hO hS)) fun r s' h=>?_
  cases r with
  | error e=>exact(hCX H e s' h).elim
  | ok fl =>
   cases fl with
   | next=>exact False.elim h
   | brk=>exact False.elim h
   | cont=>exact False.elim h
   | ret u =>
    obtain⟨v,H',os,bare,un,hok',r',q⟩:=h
    have q':v=.bl true:=q
    subst q'
    obtain rfl:u=Value.bool true:=r'
    refine⟨rfl,OldK.of_keep fun b o e=>?_,os,bare⟩
    cases q:H b with
    | none=>exact un.keep b o e q (by intro z;exact absurd (show b ∈ ([]:List Addr) from z) (by simp)) (by simp)
    | some u =>
     rcases hO b with z | ⟨ob,xs,z⟩
     ·rw [q] at z;cases z
     ·have z2:=un.frzs b ob _ z
      obtain⟨e1,_⟩:=hok b _ z
      obtain⟨e2,_⟩:=hok' b _ z2
      rw [e] at e1;cases e1
      exact e2
 cases hk:K.lookup a with
 | some o =>
  -- the script is one of the module's own objects
  have e:=KX a o hk
  rw [ha] at e
  cases e
  refine core (fun _=>none) (fun _=>.inl rfl) (.inr ⟨_,vs.toArray,_,hk,rfl,rfl,rfl,by rw [List.size_toArray,lenV];exact hl,by simpa using rv⟩) (fun b u z=>by have z':(none:Option HO)=some u:=z;cases z') (fun b z=>absurd rfl z) fun z=>absurd rfl z
 | none =>
  refine core (fun b=>if b=a then some (.frz { cls:=.type "list",data:=.seq vs.toArray } (.lst (ns.map V.int))) else none) (fun b=>?_) (.inl (.inr ⟨{ cls:=.type "list",data:=.seq vs.toArray },if_pos rfl⟩)) (fun b u z=>?_) (fun b z=>?_) fun _=>hk
  ·by_cases hb:b=a
   ·exact .inr ⟨_,_,if_pos hb⟩
   ·exact .inl (if_neg hb)
  ·by_cases hb:b=a
   ·have z':=(if_pos hb).symm.trans z
    cases z'
    subst hb
    exact⟨ha,by rw [List.length_map];exact hl,vs,_,rv,ha⟩
   ·have z':=(if_neg hb).symm.trans z
    cases z'
  ·by_cases hb:b=a
   ·exact hb
   ·exact absurd (if_neg hb) z
end L2
namespace L2
open PySem PySem.Spec PyProof.Rows
theorem walk_of{l:PySem.W.OpenLaw}{n k:Nat}{q:Program}{loose:List Str}{XP:(Str->Option Value)->Heap->Prop}{YP:World->Heap->Prop}{d:DefRec}{K:Params->PySem.W.Frag}{CX:World->CXT}{sp:World->Sp}{x:Str}
  (hn:l.most=some n) (hn2:n <= sizeLine) (hdf:d.params.defaults=[]) (hr:Room k callerA)
  (hY:∀ (w:World) (h:Heap),YP w h->(K w.params).In h)
  (F:∀ (w:World) (mg:Str->Option Value) (fa:Addr) (h:Heap),(K w.params).In h->h.Ns mainGlobals mg->mg d.name=some (.ref fa) ->
   ∃ fd:FuncData,(∀ (s:Shared) (u:Value),BindsTo s fd ⟨[u],[]⟩ [(x,u)]) /\
    ∀ base:Heap,(K w.params).In base->base.Ns mainGlobals mg->FnOk l.prog w (K w.params) mg base (CX w) k fa fd [x] (sp w))
  (hsp:∀ (w:World) (H:Hp) (a:Addr) (ns:List Int),ns.length <= n->Only H->SqL (K w.params) H a (ns.map V.int)->sp w [.ref a] H (fun v _=>v=.bl true) fun _ _ _=>False)
  (hCX:∀ (w:World) (H:Hp) (s:Shared) (e:Value) (s':Shared),CX w [] H s (fun _ _ _=>False) e s'->False) :
  PySem.W.WalkO q loose XP YP l.row.toRowW d [] (fun f vs=>PySem.call f vs):=by
 refine Att.attach_call hn hdf fun w s₀ s₁ mg mb fa o pm cd doc a vs ns G Y ho hd hcd hmg hobj hints hlen hg=>?_
 have KX:=hY w _ Y
 obtain⟨fd,hb,hF⟩:=F w mg fa _ KX G.T.g hmg
 exact qd1d KX G.T.g G.T.b G.T.builtins G.T.nolimit hg hobj hints (Nat.le_trans hlen hn2) hr hF hb (fun H hO hS=>hsp w H a ns hlen hO hS) fun H e s'=>hCX w H s₁ e s'
end L2
namespace L2
open PySem PySem.Spec PyProof.Rows
noncomputable def qa6v(s:Stmt):Arguments:=match s with
 | .FunctionDef _ a _ _ _ _ _ _ _ _=>a
 | _=>{ posonlyargs:=[],args:=[],vararg:=none,kwonlyargs:=[],kw_defaults:=[],kwarg:=none,defaults:=[] }
noncomputable def qa4v(s:Stmt):List Stmt:=match s with
 | .FunctionDef _ _ b _ _ _ _ _ _ _=>b
 | _=>[]
noncomputable def qa0k(s:Stmt):Scope:=match s with
 | .FunctionDef _ _ _ _ _ _ sc _ _ _=>sc
 | _=>{ kind:=.function,names:=[],isGenerator:=false,isCoroutine:=false }
abbrev CX0:CXT:=fun _ _ _ _ _ _=>False
abbrev E0:XK:=fun _ _ _=>False
theorem pass0{X:Cx}:qc0a CX0 X E0:=fun _ _ _ _ _ _ _ h=>h.elim
structure Fun(K:PySem.W.Frag)(x qual:Str)(st:Stmt)(f:Addr)(fd:FuncData):Prop where
 ex:∃ (oc:Value) (od:Option Addr) (kV doc pm:Value) (an:Option Addr) (cdv ct:Value) (osl:Array (Option Value)),
  fd=PySem.W.fnOf x qual (qa6v st) (qa4v st) (qa0k st) .none kV doc pm an cdv ct/\K.lookup f=some ⟨oc,od,.func fd,osl⟩/\PySem.W.codeIn K cdv qual=true
 kp:PySem.W.keepIn K (.ref f)=true
section
variable{P:Program}{w:World}{K:PySem.W.Frag}{mg:Str->Option Value}{base:Heap}
theorem Fun.ok{x qual:Str}{st:Stmt}{f:Addr}{fd:FuncData}{N ps:List Str}{k:Nat}{sp:Sp}(F:Fun K x qual st f fd)(S:FnScope N ps (qa0k st))(len:∀ vs H Q E,sp vs H Q E->vs.length=ps.length)
  (hbody:∀ (cdv:Value) (A:Around) (outer:List Env) (s:Shared) (H:Hp) (vs:List V) (Q:VK) (E:XK),Room k (A.deeper (envOfC qual (qa0k st) s.heap.objs.size f cdv))->sp vs H Q E ->
   ∃ t,PSs (cxOf CX0 P w K mg base N qual (qa0k st) f cdv A outer s H E).nox (qa4v st) t/\t { nx:=fun _ H'=>Q .non H',rt:=Q } (start N vs) H):FnOk P w K mg base CX0 (k + 1) f fd ps sp:=by
 obtain⟨oc,od,kV,doc,pm,an,cdv,ct,osl,rfl,lk,hcd⟩:=F.ex
 refine fn_of lk hcd S len fun A outer s H vs Q E hr hsp=>?_
 obtain⟨t,h,q⟩:=hbody cdv A outer s H vs Q E hr hsp
 exact⟨t,h.nox,q⟩
theorem Fun.binds{x qual:Str}{st:Stmt}{f:Addr}{fd:FuncData}{ps:List Str}(F:Fun K x qual st f fd)
  (h:∀ (kV doc pm:Value) (an:Option Addr) (cdv ct:Value) (us:List Value),us.length=ps.length->bindArgs (PySem.W.fnOf x qual (qa6v st) (qa4v st) (qa0k st) .none kV doc pm an cdv ct) ⟨us,[]⟩=pure (ps.zip us)):Binds K fd ps []:=by
 obtain⟨oc,od,kV,doc,pm,an,cdv,ct,osl,rfl,lk,hcd⟩:=F.ex
 exact .all (h kV doc pm an cdv ct)
theorem qa5a{x qual:Str}{st:Stmt}{f:Addr}{oc:Value}{od an:Option Addr}{osl:Array (Option Value)}{kV doc pm cdv ct:Value}(l:K.lookup f=some ⟨oc,od,.func (PySem.W.fnOf x qual (qa6v st) (qa4v st) (qa0k st) .none kV doc pm an cdv ct),osl⟩)
  (c:PySem.W.codeIn K cdv qual=true) (k:PySem.W.keepIn K (.ref f)=true):Fun K x qual st f (PySem.W.fnOf x qual (qa6v st) (qa4v st) (qa0k st) .none kV doc pm an cdv ct):=⟨⟨oc,od,kV,doc,pm,an,cdv,ct,osl,rfl,l,c⟩,k⟩
end
section
variable{X:Cx}
theorem pv(i:Nat){x:Str}{pos:Pos}(hN:X.N[i]? = some x:=by rfl)(hv:Vis X.env.scope x:=by first | exact Or.inl rfl | exact Or.inr (Or.inl rfl) | exact Or.inr (Or.inr rfl)) (hd:(x == ("__debug__" : Str))=false:=by decide)
  (hcd:(x == ("__classdict__" : Str))=false:=by decide):PE X (.Name x pos) (tVar i):=qb1f hN hv hd hcd
end
theorem iteF{A B:Prop}(h:B):if false=true then A else B:=by
 rw [if_neg Bool.false_ne_true]
 exact h
theorem iteT{A B:Prop}(h:A):if true=true then A else B:=by
 rw [if_pos rfl]
 exact h
theorem ite2{c A B:Prop}[Decidable c](h1:c->A)(h2:¬ c->B):if c then A else B:=by
 by_cases h:c
 ·rw [if_pos h]
  exact h1 h
 ·rw [if_neg h]
  exact h2 h
def Same(H H':Hp):Prop:=∀ b o,H b=some o->H' b=some o
theorem Same.refl(H:Hp):Same H H:=fun _ _ h=>h
theorem Same.free{H H':Hp}(e:Same H H'){l:Addr}(h:H' l=Option.none):H l=Option.none:=by
 cases q:H l with
 | none=>rfl
 | some o =>
  rw [e l o q] at h
  cases h
end L2
end
section
namespace Sx
open PySem
abbrev Up(xs:Array Nat):Prop:=∀ i k:Nat,i < k->∀ hk:k < xs.size,∀ hi:i < xs.size,xs[i] < xs[k]
structure Bel(xs:Array Nat)(j r:Nat):Prop where
 le:r <= xs.size
 lo:∀ i,i < r->∀ h:i < xs.size,xs[i] < j
 hi:∀ i,r <= i->∀ h:i < xs.size,j <= xs[i]
theorem go_bel{xs:Array Nat}(up:Up xs)(j:Nat):∀ (f lo hi:Nat),hi - lo <= f->lo <= hi->hi <= xs.size->(∀ i,i < lo->∀ h:i < xs.size,xs[i] < j)->(∀ i,hi <= i->∀ h:i < xs.size,j <= xs[i])->Bel xs j (SetTable.below.go xs j f lo hi):=by
 intro f
 induction f with
 | zero =>
  intro lo hi hf h1 h2 a b
  have e:lo=hi:=by omega
  subst e
  exact⟨h2,a,b⟩
 | succ f ih =>
  intro lo hi hf h1 h2 a b
  unfold SetTable.below.go
  by_cases hlt:lo < hi
  ·rw [if_pos hlt]
   have hm:(lo + hi) / 2 < xs.size:=by omega
   have eg:xs.getD ((lo + hi) / 2) j=xs[(lo + hi) / 2]:=by
    rw [Array.getD_eq_getD_getElem?,Array.getElem?_eq_getElem hm];rfl
   dsimp only
   rw [eg]
   by_cases hc:xs[(lo + hi) / 2] < j
   ·rw [if_pos hc]
    refine ih _ _ (by omega) (by omega) h2 (fun i hi' h=>?_) b
    by_cases e:i=(lo + hi) / 2
    ·subst e;exact hc
    ·exact Nat.lt_trans (up i ((lo + hi) / 2) (by omega) hm h) hc
   ·rw [if_neg hc]
    refine ih _ _ (by omega) (by omega) (by omega) a (fun i hi' h=>?_)
    by_cases e:i=(lo + hi) / 2
    ·subst e;omega
    ·have:=up ((lo + hi) / 2) i (by omega) h hm
     omega
  ·rw [if_neg hlt]
   have e:lo=hi:=by omega
   subst e
   exact⟨h2,a,b⟩
theorem bel{xs:Array Nat}(up:Up xs)(j:Nat):Bel xs j (SetTable.below xs j):=
 go_bel up j xs.size 0 xs.size (by omega) (by omega) (Nat.le_refl _) (fun i h=>absurd h (Nat.not_lt_zero _)) (fun i h1 h2=>absurd h2 (by omega))
theorem Bel.eq{xs:Array Nat}{j r r':Nat}(a:Bel xs j r)(b:Bel xs j r'):r=r':=by
 rcases Nat.lt_trichotomy r r' with h | h | h
 ·have h1:=a.hi r (Nat.le_refl _) (by have:=b.le;omega)
  have h2:=b.lo r h (by have:=b.le;omega)
  omega
 ·exact h
 ·have h1:=b.hi r' (Nat.le_refl _) (by have:=a.le;omega)
  have h2:=a.lo r' h (by have:=a.le;omega)
  omega
theorem qc6l{xs:Array Nat}(up:Up xs){i:Nat}(h:i < xs.size):SetTable.below xs (xs[i] + 1)=i + 1:=
 (bel up _).eq ⟨h,fun k hk hs=>by
  by_cases e:k=i
  ·subst e;omega
  ·have:=up k i (by omega) h hs
   omega,fun k hk hs=>by have:=up i k (by omega) hs h;omega⟩
theorem qc6m{xs:Array Nat}(up:Up xs):SetTable.below xs 0=0:=
 (bel up _).eq ⟨Nat.zero_le _,fun i h=>absurd h (Nat.not_lt_zero _),fun i h1 h2=>Nat.zero_le _⟩
abbrev UpL(xs:List Nat):Prop:=xs.Pairwise (· < ·)
theorem up_of{xs:Array Nat}(h:UpL xs.toList):Up xs:=fun i k hik hk hi=>by
 have:=List.pairwise_iff_getElem.mp h i k (by simpa using hi) (by simpa using hk) hik
 simpa using this
theorem put_up{xs:Array Nat}(h:UpL xs.toList){j:Nat}(hj:¬ xs[SetTable.below xs j]? = some j):UpL (SetTable.insertAt xs (SetTable.below xs j) j).toList:=by
 have b:=bel (up_of h) j
 generalize SetTable.below xs j=r at b hj
 rw [SetTable.toList_insertAt]
 have h0:UpL (xs.toList.take r ++ xs.toList.drop r):=by rw [List.take_append_drop];exact h
 obtain⟨h1,h2,h3⟩:=List.pairwise_append.mp h0
 have lo:∀ a ∈ xs.toList.take r,a < j:=fun a ha=>by
  obtain⟨i,hi,e⟩:=List.getElem_of_mem ha
  rw [List.length_take] at hi
  rw [List.getElem_take] at e
  have hs:i < xs.size:=by simp at hi;omega
  have:=b.lo i (by omega) hs
  rw [← e];simpa using this
 have hi:∀ a ∈ xs.toList.drop r,j < a:=fun a ha=>by
  obtain⟨i,hi,e⟩:=List.getElem_of_mem ha
  rw [List.length_drop] at hi
  rw [List.getElem_drop] at e
  have hs:r + i < xs.size:=by simp at hi;omega
  have h5:=b.hi (r + i) (by omega) hs
  have e':xs[r + i]=a:=by rw [← e];simp
  have hr:r < xs.size:=by omega
  have h6:=b.hi r (Nat.le_refl _) hr
  have h7:xs[r] ≠ j:=fun e=>hj (by rw [Array.getElem?_eq_getElem hr,e])
  by_cases e0:i=0
  ·subst e0
   simp only [Nat.add_zero] at e'
   omega
  ·have:=up_of h r (r + i) (by omega) hs hr
   omega
 refine List.pairwise_append.mpr ⟨h1,List.pairwise_cons.mpr ⟨hi,h2⟩,fun a ha c hc=>?_⟩
 rcases List.mem_cons.mp hc with rfl | hc
 ·exact lo a ha
 ·exact h3 a ha c hc
structure TOk(t:SetTable):Prop where
 none:t.dummies = #[]
 up:UpL t.place.toList
theorem qc9a(f m:Nat)(l:Bool):TOk (SetTable.fresh f m l):=⟨rfl,List.Pairwise.nil⟩
theorem qb8s(n:Nat):UpL (List.range n):=List.pairwise_lt_range
theorem qa7k(t:SetTable)(n:Nat):TOk (t.standIn n):=⟨rfl,by
 show UpL (Array.range n).toList
 rw [Array.toList_range]
 exact qb8s n⟩
theorem tok_or{t:SetTable}(h:TOk t)(n:Nat):TOk (t.orStandIn n):=by
 unfold SetTable.orStandIn
 split
 ·exact h
 ·exact qa7k t n
theorem qc4z(j:Nat):SetTable.has #[] j=false:=by
 unfold SetTable.has
 simp
theorem qd1e{t:SetTable}(h:TOk t)(f:Nat->Int)(hh:Int):∀ (n:Nat) (p:SetTable.Probe),p.dummy=none->∀ j d,SetTable.probe.go t f hh n p=some (.empty j d)->d=none/\t.slot j=.empty:=by
 intro n
 induction n with
 | zero=>intro p hp j d e;unfold SetTable.probe.go at e;cases e
 | succ n ih =>
  intro p hp j d e
  unfold SetTable.probe.go at e
  have adv:∀ q:SetTable.Probe,q.dummy=none->(t.advance q).dummy=none:=fun q hq=>by
   unfold SetTable.advance
   split
   ·exact hq
   ·exact hq
  split at e
  ·rename_i hs
   injection e with e
   injection e with e1 e2
   subst e1
   exact⟨by rw [← e2,hp],hs⟩
  ·rename_i hs
   exfalso
   unfold SetTable.slot at hs
   dsimp only at hs
   rw [h.none,qc4z] at hs
   split at hs<;>cases hs
  ·split at e
   ·injection e with e;cases e
   ·exact ih _ (adv _ hp) j d e
theorem qc6n{t:SetTable}(h:TOk t){hh:Int}{j:Nat}{b:Bool}(e:t.freeSlot hh=some (j,b)):t.slot j=.empty:=by
 unfold SetTable.freeSlot SetTable.probe at e
 split at e
 ·rename_i j' d hp
  obtain⟨hd,hs⟩:=qd1e h _ _ _ _ rfl _ _ hp
  injection e with e
  injection e with e1 e2
  subst hd
  subst e1
  exact hs
 ·cases e
theorem tok_put{t:SetTable}(h:TOk t){j:Nat}(hs:t.slot j=.empty):TOk (t.put j).1:=by
 have hj:¬ t.place[SetTable.below t.place j]? = some j:=fun e=>by
  unfold SetTable.slot at hs
  dsimp only at hs
  rw [e] at hs
  simp at hs
 refine⟨?_,?_⟩
 ·unfold SetTable.put
  dsimp only
  rw [h.none,qc4z]
  rfl
 ·exact put_up h.up hj
theorem qc6o{t:SetTable}(h:TOk t)(es:Array (Int × Value))(hh:Int)(x:Value):TOk (layNew t es hh x).2.1:=by
 unfold layNew
 split
 ·rename_i slot d e
  exact tok_or (tok_put h (qc6n h e)) _
 ·exact qa7k _ _
theorem qc9b{t:SetTable}(h:TOk t)(b:Bool):TOk { t with plain:=b }:=⟨h.none,h.up⟩
theorem qd1f{mask f m:Nat}{l p:Bool}{hs:Array Int}{r:SetTable × Array Nat}(e:SetTable.laid mask f m l p hs=some r):TOk r.1:=by
 unfold SetTable.laid at e
 cases ho:SetTable.layClean mask hs with
 | none=>rw [ho] at e;cases e
 | some owner =>
  rw [ho] at e
  cases e
  refine⟨rfl,?_⟩
  show UpL (List.map (fun q:Nat × Nat=>q.1) _)
  have key:∀ (l:List Nat),UpL l->UpL (List.map (fun q:Nat × Nat=>q.1) (l.filterMap fun j=>(owner.getD j none).map (j,·))):=by
   intro l hl
   refine List.pairwise_map.mpr ?_
   refine List.Pairwise.filterMap _ (fun a a' haa b hb c hc=>?_) hl
   cases ha:owner.getD a none with
   | none=>rw [ha] at hb;cases hb
   | some u =>
    cases ha':owner.getD a' none with
    | none=>rw [ha'] at hc;cases hc
    | some u' =>
     rw [ha] at hb;rw [ha'] at hc
     cases hb;cases hc
     exact haa
  exact key _ (qb8s _)
theorem qc9c{t:SetTable}(h:TOk t)(es:Array (Int × Value))(n:Nat):TOk (relayAll t es n).2.1:=by
 unfold relayAll
 split
 ·rename_i t' order e
  dsimp only
  split
  ·exact qd1f e
  ·exact qa7k _ _
 ·exact qa7k _ _
theorem qc6p(t:SetTable)(es:Array (Int × Value))(hh:Int)(x:Value):(layNew t es hh x).2.1.led=t.led:=by
 unfold layNew
 split
 ·dsimp only
  unfold SetTable.orStandIn
  split<;>rfl
 ·rfl
theorem qc9d(t:SetTable)(es:Array (Int × Value))(n:Nat):(relayAll t es n).2.1.led=t.led:=by
 unfold relayAll
 split
 ·rename_i t' order e
  dsimp only
  split
  ·unfold SetTable.relaid SetTable.laid at e
   cases ho:SetTable.layClean (SetTable.sizeAbove n - 1) (es.map (·.1)) with
   | none=>rw [ho] at e;cases e
   | some owner=>rw [ho] at e;cases e;rfl
  ·rfl
 ·rfl
end Sx
end
section
namespace Sx
open PySem
section
variable{prog:Program}{w:World}{K:Type}[DecidableEq K](knd:KeyKind prog w K)(dec:Value->K)
structure Fc(ks:List K)(es:Array (Int × Value))(t:SetTable):Prop where
 el:ElemsOf knd es.toList
 pm:(es.toList.map fun e=>dec e.2).Perm ks
 nd:ks.Nodup
 sz:es.size < scanBound
 ft:t.fits es.size=true
 ok:TOk t
 ld:t.led = !w.params.followText "set-order"
abbrev setO(es:Array (Int × Value))(ep:Nat)(t:SetTable):Obj:={ cls:=.type "set",dict:=none,data:=.set es ep t,slots:=#[] }
def SetV(h:Heap)(a:Addr)(ks:List K):Prop:=∃ es ep t,h.get? a=some (setO es ep t)/\Fc knd dec ks es t
noncomputable def ins(ks:List K)(k:K):List K:=if k ∈ ks then ks else ks ++ [k]
variable{knd dec}
variable{A:Around}{E:Value->Shared->Prop}{s:Shared}
theorem Fc.relay{ks:List K}{es:Array (Int × Value)}{t:SetTable}(F:Fc knd dec ks es t)(n:Nat):Fc knd dec ks (relayAll t es n).1 (relayAll t es n).2.1:=by
 have p:=relayAll_perm t es n
 have z:(relayAll t es n).1.size=es.size:=by rw [← Array.length_toList,p.length_eq,Array.length_toList]
 exact⟨F.el.perm p,(p.map _).trans F.pm,F.nd,by rw [z];exact F.sz,relayAll_fits t es n,qc9c F.ok es n,by rw [qc9d];exact F.ld⟩
theorem Fc.plain{ks:List K}{es:Array (Int × Value)}{t:SetTable}(F:Fc knd dec ks es t):Fc knd dec ks es { t with plain:=false }:=
 ⟨F.el,F.pm,F.nd,F.sz,SetTable.fits_plain_off F.ft,qc9b F.ok _,F.ld⟩
theorem Fc.lay{ks:List K}{es:Array (Int × Value)}{t:SetTable}(F:Fc knd dec ks es t)(hdec:∀ k v,knd.is k v=true->dec v=k){k:K}{x:Value}(hk:knd.is k x=true)(hx:x.scannable=true)(hn:k ∉ ks)(hr:ks.length + 1 < scanBound) :
  Fc knd dec (ks ++ [k]) (layNew t es (knd.hash k) x).1 (layNew t es (knd.hash k) x).2.1:=by
 have p:=layNew_perm t es (knd.hash k) x
 rw [Array.toList_push] at p
 have z0:es.size=ks.length:=by have:=F.pm.length_eq;simpa using this
 have z:(layNew t es (knd.hash k) x).1.size=es.size + 1:=by rw [← Array.length_toList,p.length_eq];simp
 refine⟨(F.el.push hk hx).perm p,?_,?_,by rw [z,z0];exact hr,layNew_fits t es _ x,qc6o F.ok es _ x,by rw [qc6p];exact F.ld⟩
 ·have p2:=p.map (fun e=>dec e.2)
  rw [List.map_append] at p2
  have e1:List.map (fun e:Int × Value=>dec e.2) [(knd.hash k,x)]=[k]:=by simp [hdec k x hk]
  rw [e1] at p2
  exact p2.trans (F.pm.append_right [k])
 ·rw [List.nodup_append]
  refine⟨F.nd,List.pairwise_singleton _ k,fun a ha b hb=>?_⟩
  rw [List.mem_singleton] at hb
  subst hb
  exact fun e=>hn (e ▸ ha)
theorem qb8t{h:Heap}{a:Addr}{es:Array (Int × Value)}{ep:Nat}{t:SetTable}(ho:h.get? a=some (setO es ep t))(es':Array (Int × Value))(t':SetTable):(h.update a (Obj.putSet es' t')).get? a=some (setO es' (ep + 1) t'):=by
 have:=Heap.get?_update_self (Obj.putSet es' t') ho (by rw [putSet_of es' t' rfl];rfl)
 rw [putSet_of es' t' rfl] at this;exact this
theorem tail_v{g:Bool->Sem Unit}(hg:∀ (b:Bool) (s₁:Shared) (Q':Unit->Shared->Prop),Q' () s₁->wpAny (model prog w) A (g b) Q' E s₁){a:Addr}{es:Array (Int × Value)}{ep:Nat}{t:SetTable}(ho:s.heap.get? a=some (setO es ep t))
  {ks:List K} {e1:Array (Int × Value)} {t1:SetTable} (F:Fc knd dec ks e1 t1) {wd:Bool} {R:Option Bool->Shared->Prop} (h:∀ h',Heap.SameBut a s.heap h'->SetV knd dec h' a ks->R (some true) { s with heap:=h' }) :
  wpAny (model prog w) A (do
    storeSet a e1 t1
    if (!wd && t1.tooFull)=true then do
      g (relayAll t1 e1 (SetTable.grown e1.size)).2.2;storeSet a (relayAll t1 e1 (SetTable.grown e1.size)).1 (relayAll t1 e1 (SetTable.grown e1.size)).2.1
      pure (some true)
     else pure (some true)) R E s:=by
 refine wpAny_bind (wpAny_storeSet_of ho rfl ?_ (fits_of_scanBound F.sz))
 have o1:=qb8t ho e1 t1
 have b1:=Heap.SameBut.update s.heap a (Obj.putSet e1 t1)
 split
 ·have F2:=F.relay (SetTable.grown e1.size)
  generalize relayAll t1 e1 (SetTable.grown e1.size)=Rl at F2 ⊢
  refine wpAny_bind (hg _ _ _ (wpAny_bind (wpAny_storeSet_of o1 rfl ?_ (fits_of_scanBound F2.sz))))
  exact wpAny_pure (h _ (b1.trans (Heap.SameBut.update _ a _)) ⟨_,_,_,qb8t o1 _ _,F2⟩)
 ·exact wpAny_pure (h _ b1 ⟨_,_,_,o1,F⟩)
theorem addH_v(hdec:∀ k v,knd.is k v=true->dec v=k){a:Addr}{ks:List K}{k:K}{x:Value}{Q:Bool->Shared->Prop}(hk:knd.is k x=true)(hx:x.scannable=true)(hS:SetV knd dec s.heap a ks)(hr:ks.length + 1 < scanBound)
  (h:∀ b h',Heap.SameBut a s.heap h'->SetV knd dec h' a (ins ks k)->Q b { s with heap:=h' }):wpAny (model prog w) A (setAddHashed a x (knd.hash k)) Q E s:=by
 obtain⟨es,ep,t,ho,F⟩:=hS
 unfold setAddHashed;unfold setAddHashedIn
 refine wpAny_holding (wpAny_bind (wpAny_setState_of ho rfl F.ft ?_))
 dsimp only
 rw [byScan_of hx F.sz F.el];simp only [↓reduceIte]
 unfold setAddByScan
 refine wpAny_bind (wpAny_bind (wpAny_rule (wpAny_bind (wpAny_setScan_of hk ho rfl F.ft F.el ?_))))
 cases hf:List.findIdx? (fun e=>knd.is k e.2) es.toList with
 | some j =>
  obtain⟨hj,hpj,_⟩:=List.findIdx?_eq_some_iff_getElem.mp hf
  have hm:k ∈ ks:=F.pm.mem_iff.mp (List.mem_map.mpr ⟨es.toList[j],List.getElem_mem hj,hdec _ _ hpj⟩)
  refine wpAny_pure (wpAny_pure ?_)
  have:=h false s.heap (Heap.SameBut.refl a s.heap) (by rw [ins,if_pos hm];exact⟨es,ep,t,ho,F⟩)
  cases s;exact this
 | none =>
  have hn:k ∉ ks:=fun hm=>by
   obtain⟨e,he,q⟩:=List.mem_map.mp (F.pm.mem_iff.mpr hm)
   obtain⟨⟨k2,hk2,_⟩,_⟩:=F.el e he
   have e2:k2=k:=(hdec _ _ hk2).symm.trans q
   have:=List.findIdx?_eq_none_iff.mp hf e he
   rw [← e2,hk2] at this;cases this
  have F1:=F.lay hdec hk hx hn hr
  have hw:∀ (b:Bool) {s₁:Shared} {Q':Unit->Shared->Prop},Q' () s₁->wpAny (model prog w) A (match b with | true=>rule "set.scan.the-table-gave-way" | false=>pure ()) Q' E s₁:=fun b s₁ Q' hq=>by
   cases b<;>first | exact wpAny_pure hq | exact wpAny_rule hq
  have fin:∀ h',Heap.SameBut a s.heap h'->SetV knd dec h' a (ks ++ [k])->Q true { s with heap:=h' }:=fun h' b1 b2=>h true h' b1 (by rw [ins,if_neg hn];exact b2)
  dsimp only
  generalize layNew t es (knd.hash k) x=L at F1 ⊢
  obtain⟨e1,t1,wd,gave⟩:=L
  dsimp only at F1 ⊢
  refine wpAny_bind (hw _ ?_)
  split
  ·refine wpAny_bind ?_
   rw [hashByValue_scannable 8 hx]
   refine wpAny_pure (tail_v (knd:=knd) (dec:=dec) ?_ ho (ks:=ks ++ [k]) ?_ ?_)
   ·intro b s₁ Q' hq;cases b<;>first | exact wpAny_pure hq | exact wpAny_rule hq
   ·split
    ·exact F1
    ·exact F1.plain
   ·intro h' hb hS';exact wpAny_pure (fin h' hb hS')
  ·refine wpAny_bind (wpAny_pure ?_);simp only [↓reduceIte]
   refine tail_v ?_ ho F1 ?_
   ·intro b s₁ Q' hq;cases b<;>first | exact wpAny_pure hq | exact wpAny_rule hq
   ·intro h' hb hS';exact wpAny_pure (fin h' hb hS')
theorem add_v(hdec:∀ k v,knd.is k v=true->dec v=k){a:Addr}{ks:List K}{k:K}{x:Value}{Q:Bool->Shared->Prop}(hk:knd.is k x=true)(hx:x.scannable=true)(hS:SetV knd dec s.heap a ks)(hr:ks.length + 1 < scanBound)
  (h:∀ b h',Heap.SameBut a s.heap h'->SetV knd dec h' a (ins ks k)->Q b { s with heap:=h',toks:=s.toks + 1 }):wpAny (model prog w) A (setAdd a x) Q E s:=by
 unfold setAdd
 refine wpAny_holding (wpAny_bind (knd.pyHash hk ?_))
 exact addH_v hdec hk hx (s:={ s with toks:=s.toks + 1 }) hS hr fun b h' b1 b2=>h b h' b1 b2
end
end Sx
end
section
namespace Sx
open PySem
theorem qb8u:entryFor table "set.update.loop" = some Builtin.«set.update.loop»:=entryFor_of_tree (by kernel_rfl)
theorem qb3l:plainId "set.update.loop" = true:=by decide +kernel
section
variable{K:Type}[DecidableEq K]
noncomputable def uniq(ks:List K):List K:=ks.foldl ins []
theorem qc9e(ks:List K)(k:K):uniq (ks ++ [k])=ins (uniq ks) k:=by unfold uniq;rw [List.foldl_append];rfl
theorem ins_le(ks:List K)(k:K):(ins ks k).length <= ks.length + 1:=by
 unfold ins;split
 ·omega
 ·rw [List.length_append];exact Nat.le_refl _
theorem uniq_go(ks:List K):∀ l:List K,(ks.foldl ins l).length <= l.length + ks.length:=by
 induction ks with
 | nil=>intro l;exact Nat.le_refl _
 | cons k r ih =>
  intro l
  have h1:=ih (ins l k)
  have h2:=ins_le l k
  rw [List.foldl_cons,List.length_cons]
  omega
theorem qb4m(ks:List K):(uniq ks).length <= ks.length:=by
 have:=uniq_go ks []
 simpa [uniq] using this
theorem mem_ins{ks:List K}{k j:K}:j ∈ ins ks k ↔ j ∈ ks ∨ j=k:=by
 unfold ins;split
 ·rename_i h
  exact⟨.inl,fun q=>q.elim id (fun e=>e ▸ h)⟩
 ·rw [List.mem_append,List.mem_singleton]
theorem mem_go(ks:List K):∀ (l:List K) (j:K),j ∈ ks.foldl ins l ↔ j ∈ l ∨ j ∈ ks:=by
 induction ks with
 | nil=>intro l j;simp
 | cons k r ih=>intro l j;rw [List.foldl_cons,ih,mem_ins,List.mem_cons,or_assoc]
theorem qd1g{ks:List K}{j:K}:j ∈ uniq ks ↔ j ∈ ks:=by unfold uniq;rw [mem_go];simp
end
section
variable{prog:Program}{w:World}{K:Type}[DecidableEq K]{knd:KeyKind prog w K}{dec:Value->K}{A:Around}{R:Result->Shared->Prop}{I:Addr}{fp wr:List Addr}{G:Array GenState->Array GenState->Prop}{St:Nat->Shared->Prop}{items:Array Value}{ks:List K}
theorem SetV.move{h h':Heap}{a:Addr}(x:SetV knd dec h a ks)(e:∀ o,h.get? a=some o->h'.get? a=some o):SetV knd dec h' a ks:=by
 obtain⟨es,ep,t,ho,F⟩:=x
 exact⟨es,ep,t,e _ ho,F⟩
theorem qd1h(hdec:∀ k v,knd.is k v=true->dec v=k)(W:WalksS prog w A.in1 I fp wr G items.size (fun i v=>items[i]? = some v) St)(D:Addr)(hDf:D ∉ fp)(hl:items.size < 4000)(hks:∀ (i:Nat) (v:Value),items[i]? = some v->∃ k,ks[i]? = some k/\knd.is k v=true/\v.scannable=true) :
  ∀ (m i:Nat) (s:Shared),items.size - i=m->i <= items.size->St i s->SetV knd dec s.heap D (uniq (ks.take i)) ->
   (∀ s',Moved (D :: wr) G s s'->SetV knd dec s'.heap D (uniq (ks.take items.size))->R (.ok (.ret .none)) s') ->
   codeAny (model prog w) A (.builtin "set.update.loop" ⟨[.ref D,.ref I],[]⟩) R s:=by
 have hDw:D ∉ wr:=fun h=>hDf (W.sub _ h)
 have up:∀ b ∈ wr,b ∈ D :: wr:=fun b hb=>List.mem_cons_of_mem _ hb
 intro m
 induction m with
 | zero =>
  intro i s hm hi st sv fin
  have hin:i=items.size:=by omega
  subst hin
  refine codeAny_builtin qb8u ?_
  rw [Around.under_plainId qb3l _]
  show wpAny _ A.in1 (pyNext (.ref I) >>= _) _ _ s
  refine wpAny_bind (W.done s _ _ st fun s' mv=>?_)
  exact wpAny_pure (fin s' (mv.mono up) (sv.move fun o e=>mv.heap D _ hDw e))
 | succ m ih =>
  intro i s hm hi st sv fin
  have hlt:i < items.size:=by omega
  refine codeAny_builtin qb8u ?_
  rw [Around.under_plainId qb3l _]
  show wpAny _ A.in1 (pyNext (.ref I) >>= _) _ _ s
  refine wpAny_bind (W.item i s _ _ hlt st fun v s' hv st' mv=>?_)
  obtain⟨k,hk,hi1,hi2⟩:=hks i v hv
  have sv':=sv.move (h':=s'.heap) fun o e=>mv.heap D _ hDw e
  have hsz:(uniq (ks.take i)).length + 1 < scanBound:=by
   have h1:=qb4m (ks.take i)
   have h2:=List.length_take_le i ks
   have h3:scanBound=4096:=rfl
   omega
  show wpAny _ A.in1 (holding [v] (setAdd D v) >>= _) _ _ s'
  refine wpAny_bind (wpAny_holding (add_v hdec hi1 hi2 sv' hsz fun b h' hs sv2=>?_))
  have e1:uniq (ks.take (i + 1))=ins (uniq (ks.take i)) k:=by
   rw [List.take_add_one,hk,Option.toList_some,qc9e]
  refine wpAny_pure ⟨plainId_quiet qb3l _,ih (i + 1) _ (by omega) hlt (W.frame _ s' _ _ st' (Nat.le_succ _) fun b hb o e=>?_) (by rw [e1];exact sv2) fun s2 mv2 sv3=>?_⟩
  ·rw [hs.2 b (fun h:b=D=>hDf (by rw [← h];exact hb))];exact e
  ·refine fin s2 (Moved.trans W.gtrans ((mv.mono up).then_heap (Nat.le_succ _) fun b o hb e=>?_) mv2) sv3
   rw [hs.2 b (fun h:b=D=>hb (by rw [h];exact List.mem_cons_self))];exact e
end
theorem tc_set(x:Value):checkTypeCall "set" ⟨[x],[]⟩=pure ():=by kernel_rfl
theorem nc_set(x:Value):checkBuiltinCall "set.__new__" ⟨[.type "set",x],[]⟩=pure ():=by kernel_rfl
theorem qc0g:isSubtype (.type "list") (.type "set")=pure false:=by rw [isSubtype_type];kernel_rfl
theorem qc3c:isSubtype (.type "list") (.type "frozenset")=pure false:=by rw [isSubtype_type];kernel_rfl
theorem qc3d:isSubtype (.type "tuple") (.type "set")=pure false:=by rw [isSubtype_type];kernel_rfl
theorem qc6q:isSubtype (.type "tuple") (.type "frozenset")=pure false:=by rw [isSubtype_type];kernel_rfl
section
variable{prog:Program}{w:World}{A:Around}{E:Value->Shared->Prop}{s:Shared}
abbrev newO(w:World):Obj:=setO #[] 0 (.fresh 0 0 (!w.params.followText "set-order"))
theorem new_v(x:Value){Q₁:Value->Shared->Prop}(h:Q₁ (.ref s.heap.objs.size) { s with heap:=s.heap.push (newO w) }) :
  codeAny (model prog w) A (.call (.builtin "set.__new__") ⟨[.type "set",x],[]⟩) (wants Q₁ E) s:=by
 refine codeAny_call_builtin F.plain_set_new F.entry_set_new (wpAny_of_eq (nc_set x) ?_)
 unfold Builtin.«set.__new__» Builtin.Frozenset.newClass
 have hsub:=sub_set_self
 obtain⟨hp,g,d,tk,os⟩:=s
 dsimp only
 wp_walk
 refine wpAny_askSetting (wpAny_pure ?_);dsimp only
 simp only [newObj]
 exact wpAny_bind (wpAny_alloc (wpAny_pure (wpAny_pure h)))
theorem check_v{M:Model}{self x:Value}{Q:Unit->Shared->Prop} (hT:s.TypeIs self "set") (hQ:Q () s):wpAny M A (checkBuiltinCall "set.__init__" ⟨[self,x],[]⟩) Q E s:=by
 simp only [kind_set_init,checkBuiltinCall,split_set_init,sig_set_init]
 refine wpAny_bind (wpAny_isInstance hT sub_set_self ?_)
 simp only [Bool.false_eq_true,Bool.not_true,if_false]
 unfold Bind.checkArgs
 dsimp only
 refine wpAny_bind (m:=Bind.printed "set" true _ _) (PyProof.Rows.printed_name (by decide) (wpAny_bind (m:=Bind.printed "*" false _ _) (PyProof.Rows.printed_star (self:=self) rfl hT fun short=>?_)))
 have r0:(Manifest.Receiver.self == Manifest.Receiver.none)=false:=by decide
 have n1:(if (Manifest.Receiver.self == Manifest.Receiver.none)=true then [self,x].length else [self,x].length - 1)=1:=by simp [r0]
 rw [n1,List.map_nil]
 have hc:Bind.check ⟨.positional,"set","*",.self,[⟨"iterable",.posOnly,false⟩]⟩ "set" short 1 []=pure ():=by
  simp [Bind.checkCount,Bind.check,Bind.isPositional];intro q;exact absurd q (by decide)
 rw [hc]
 exact wpAny_pure hQ
theorem call_v{K:Type}[DecidableEq K]{knd:KeyKind prog w K}{dec:Value->K}{l:Addr}{items:Array Value}{ks:List K}{Q:Value->Shared->Prop}(hdec:∀ k v,knd.is k v=true->dec v=k)(hh:A.handled=none)(hq:s.heap.IsList l items ∨ s.heap.IsTuple l items)(hl:items.size < 4000)(hlen:ks.length=items.size)
  (hks:∀ (i:Nat) (v:Value),items[i]? = some v->∃ k,ks[i]? = some k/\knd.is k v=true/\v.scannable=true)
  (h:∀ h' tk,SetV knd dec h' s.heap.objs.size (uniq ks)->(∀ b o,s.heap.get? b=some o->h'.get? b=some o)->Q (.ref s.heap.objs.size) { s with heap:=h',toks:=tk }) :
  wpAny (model prog w) A (call (.type "set") [.ref l]) Q E s:=by
 obtain⟨c,tl,hmro⟩:=F.called_set.mro
 have hsub:=F.called_set.sub;have hmade:=F.called_set.made
 refine wpAny_call (codeAny_of_tree ?_);show wpAny _ _ (callAny (.type "set") _) _ _ _
 refine wpAny_pure ⟨Code.quiet_builtin _ (by decide +kernel),codeAny_builtin F.entry_type_call ?_⟩
 rw [Around.under_plain (weight_type_call_type "set" [.ref l] []) rfl]
 have h1:=F.called_set.notType;have h2:=F.called_set.canCreate;have hct:=tc_set (.ref l)
 repeat (any_goals (first | assumption | wp_step))
 refine codeAny_mono (new_v (E:=E) (.ref l) (Q₁:=fun obj s₁=>obj=.ref s.heap.objs.size/\s₁={ s with heap:=s.heap.push (newO w) }) ⟨rfl,rfl⟩) fun r s₁ hr=>?_
 cases r with
 | error e=>exact hr
 | ok fl =>
  cases fl with
  | ret obj =>
   obtain⟨rfl,rfl⟩:=hr
   have hS:(s.heap.push (newO w)).get? s.heap.objs.size=some (newO w):=Heap.get?_push_size _ rfl
   have sv:SetV knd dec (s.heap.push (newO w)) s.heap.objs.size ([]:List K):=⟨_,_,_,hS,⟨fun e he=>by simp at he,by simp,List.Pairwise.nil,by decide,rfl,qc9a _ _ _,rfl⟩⟩
   have hT:Shared.TypeIs { s with heap:=s.heap.push (newO w) } (.ref s.heap.objs.size) "set":=⟨_,hS,rfl⟩
   have hli:=F.called_set.init.lookup;have hbi:=F.called_set.init.bind (.ref s.heap.objs.size)
   repeat (any_goals (first | assumption | wp_step))
   refine codeAny_mono (codeAny_call_builtin (R:=wants (fun r s₂=>r=.none/\Q (.ref s.heap.objs.size) s₂) E) F.called_set.init.plain F.entry_set_init (check_v hT ?_)) fun r₂ s₂ hr₂=>?_
   ·unfold Builtin.«set.__init__» noKeywords
    obtain⟨T,hTl,n1,n2,n3⟩:∃ T,Shared.TypeIs { s with heap:=s.heap.push (newO w) } (.ref l) T/\isSubtype (.type T) (.type "set")=pure false/\isSubtype (.type T) (.type "frozenset")=pure false/\(Value.type T == Value.type "dict")=false:=by
     rcases hq with hq | hq
     ·exact⟨"list",(hq.push _).typeIs,qc0g,qc3c,by decide⟩
     ·exact⟨"tuple",(hq.push _).typeIs,qc3d,qc6q,by decide⟩
    have hS':Heap.get? (Shared.heap { s with heap:=s.heap.push (newO w) }) s.heap.objs.size=some (newO w):=hS
    have hlt:l < s.heap.objs.size:=by rcases hq with⟨o,ho,_⟩ | ⟨o,ho,_⟩<;>exact Heap.lt_size ho
    have hI:(s.heap.push (newO w)).objs.size=s.heap.objs.size + 1:=Heap.size_push ..
    have PI:∀ (Q':Value->Shared->Prop) (E':Value->Shared->Prop),(∀ (o:Obj) (St:Nat->Shared->Prop),WalksS prog w A.in1.in1.in1 (s.heap.objs.size + 1) [s.heap.objs.size + 1,l] [s.heap.objs.size + 1] (fun a b=>b=a) items.size (fun i v=>items[i]? = some v) St->St 0 { s with heap:=(s.heap.push (newO w)).push o }->Q' (.ref (s.heap.objs.size + 1)) { s with heap:=(s.heap.push (newO w)).push o }) ->
      wpAny (model prog w) A.in1.in1 (pyIter (.ref l)) Q' E' { s with heap:=s.heap.push (newO w) }:=by
     intro Q' E' k
     have hne:l ≠ s.heap.objs.size + 1:=Nat.ne_of_lt (Nat.lt_succ_of_lt hlt)
     rcases hq with hq | hq
     ·refine wpAny_pyIter_list (hq.push _) ?_
      rw [show Shared.heap { s with heap:=s.heap.push (newO w) }=s.heap.push (newO w) from rfl,hI]
      exact k _ _ ((Walks.list (A:=A.in1.in1.in1) (by simp [hh]) _ l hne items).toS) ⟨⟨_,by rw [← hI];exact Heap.get?_push_size _ rfl,rfl,rfl⟩,(hq.push _).push _⟩
     ·refine wpAny_pyIter_tuple (hq.push _) ?_
      rw [show Shared.heap { s with heap:=s.heap.push (newO w) }=s.heap.push (newO w) from rfl,hI]
      exact k _ _ ((Walks.tuple (A:=A.in1.in1.in1) (by simp [hh]) _ l hne items).toS) ⟨⟨_,by rw [← hI];exact Heap.get?_push_size _ rfl,rfl,rfl⟩,(hq.push _).push _⟩
    repeat (any_goals (first | assumption | ((with_reducible show wpAny _ _ (pyIter (Value.ref l)) _ _ _);refine PI _ _ fun o St W st=>?_) | ((with_reducible show wpAny _ _ (runValue _) _ _ _);refine wpAny_runValue ?_) | wp_step))
    have hDf:s.heap.objs.size ∉ [s.heap.objs.size + 1,l]:=by
     simp only [List.mem_cons,List.not_mem_nil,or_false,not_or]
     exact⟨Nat.ne_of_lt (Nat.lt_succ_self _),Nat.ne_of_gt hlt⟩
    refine qd1h hdec W s.heap.objs.size hDf hl hks items.size 0 _ (by omega) (Nat.zero_le _) st (sv.move fun o e=>Heap.get?_push_of_some _ e) fun s' mv sv'=>?_
    refine wpAny_pure (wpAny_pure ⟨rfl,?_⟩)
    rw [← hlen,List.take_length] at sv'
    have hk:=h s'.heap s'.toks sv' fun b o e=>mv.heap b o (fun hm=>?_) (Heap.get?_push_of_some _ (Heap.get?_push_of_some _ e))
    ·have eg:s'.gens=s.gens:=mv.gens
     have ed:s'.drawn=s.drawn:=mv.drawn
     have eo:s'.os=s.os:=mv.os
     cases s';dsimp only at eg ed eo hk;subst eg ed eo;exact hk
    ·have:=Heap.lt_size e
     rcases List.mem_cons.mp hm with q | q
     ·exact absurd this (by rw [q];exact Nat.lt_irrefl _)
     ·rw [List.mem_singleton] at q
      exact absurd this (by rw [q];exact Nat.not_lt.mpr (Nat.le_succ _))
   ·cases r₂ with
    | error e=>exact hr₂
    | ok fl₂ =>
     cases fl₂ with
     | ret r =>
      obtain⟨rfl,hq⟩:=hr₂
      repeat (any_goals (first | assumption | wp_step))
     | _=>exact hr₂.elim
  | _=>exact hr.elim
end
end Sx
end
section
namespace Sx
open PySem
theorem qb5n{α:Type}:∀ {l:List α} {i:Nat} {x:α},l[i]? = some x->(x :: l.eraseIdx i).Perm l
 | [],i,x,h=>by simp at h
 | a :: r,0,x,h=>by
  simp at h
  subst h
  exact List.Perm.refl _
 | a :: r,i + 1,x,h=>by
  have h':r[i]? = some x:=by simpa using h
  exact(List.Perm.swap a x _).trans (List.Perm.cons a (qb5n h'))
theorem pick_go{α:Type}(f:Nat->Nat):∀ (n k:Nat) (l:List α) (out:Array α),l.length=n->(pickOrder.go f n k l out).toList.Perm (out.toList ++ l):=by
 intro n
 induction n with
 | zero =>
  intro k l out h
  have e:l=[]:=List.eq_nil_of_length_eq_zero h
  subst e
  unfold pickOrder.go
  simp
 | succ n ih =>
  intro k l out h
  unfold pickOrder.go
  have hm:f k % l.length < l.length:=Nat.mod_lt _ (by omega)
  have he:l[f k % l.length]? = some l[f k % l.length]:=List.getElem?_eq_getElem hm
  rw [he]
  dsimp only
  refine(ih (k + 1) _ _ (by rw [List.length_eraseIdx_of_lt hm];omega)).trans ?_
  rw [Array.toList_push,List.append_assoc]
  exact(qb5n he).append_left out.toList
theorem qb3m{α:Type}(f:Nat->Nat)(xs:Array α):(pickOrder f xs).toList.Perm xs.toList:=by
 have:=pick_go f xs.size 0 xs.toList #[] (by simp)
 simpa [pickOrder] using this
section
variable{M:Model}{A:Around}{E:Value->Shared->Prop}{s:Shared}
theorem qc6r{src:Source}{n:Nat}{Q:Nat->Shared->Prop}(hn:n ≠ 0)(h:∀ i d,i < n->Q i { s with drawn:=d }):wpAny M A (choose src n) Q E s:=
 fun Γ p hΓ=>⟨hn,h _ _ (Nat.mod_lt _ (Nat.pos_of_ne_zero hn))⟩
theorem qd1i{α:Type}:∀ (n:Nat) (l:List α) (s:Shared) {Q:List α->Shared->Prop},l.length=n->(∀ o d,o.Perm l->Q o { s with drawn:=d })->wpAny M A (drawOrder n l) Q E s:=by
 intro n
 induction n with
 | zero =>
  intro l s Q hl h
  have e:l=[]:=List.eq_nil_of_length_eq_zero hl
  subst e
  unfold drawOrder
  exact wpAny_pure (h [] s.drawn (List.Perm.refl _))
 | succ n ih =>
  intro l s Q hl h
  cases l with
  | nil=>cases hl
  | cons a r =>
   unfold drawOrder
   refine wpAny_bind (qc6r (by simp) fun i d hi=>?_)
   have he:(a :: r)[i]? = some (a :: r)[i]:=List.getElem?_eq_getElem hi
   rw [he]
   refine wpAny_bind (ih _ _ (by rw [List.length_eraseIdx_of_lt hi];omega) fun o d' hp=>?_)
   exact wpAny_pure (h _ d' ((List.Perm.cons _ hp).trans (qb5n he)))
end
abbrev itO(first:Value)(i:Nat)(S:Addr)(n ep:Nat):Obj:={ cls:=.type "set_iterator",dict:=none,data:=.fields #[first,rawInt ((i:Nat):Int),.ref S,rawInt ((n:Nat):Int),rawInt ((ep:Nat):Int)],slots:=#[] }
theorem slot_next:Slot "set_iterator" "__next__" "set_iterator.__next__":=
 .of (n:="__next__") (owner:="set_iterator") (by rw [typeLookup_type,builtinLookup_eq_fast];kernel_rfl) (by decide +kernel) (by decide +kernel) (by decide +kernel) (by first | exact .inl (by decide +kernel) | exact .inr (by decide +kernel)) (by rw [isSubtype_type];kernel_rfl)
theorem entry_next:entryFor table "set_iterator.__next__" = some Builtin.«set_iterator.__next__»:=entryFor_of_tree (by kernel_rfl)
theorem args_next(a:Value):argsOk "set_iterator.__next__" ⟨[a],[]⟩:=by unfold argsOk;kernel_rfl
theorem qb8v:Slot "set_iterator" "__iter__" "set_iterator.__iter__":=
 .of (n:="__iter__") (owner:="set_iterator") (by rw [typeLookup_type,builtinLookup_eq_fast];kernel_rfl) (by decide +kernel) (by decide +kernel) (by decide +kernel) (by first | exact .inl (by decide +kernel) | exact .inr (by decide +kernel)) (by rw [isSubtype_type];kernel_rfl)
theorem qc6s:entryFor table "set_iterator.__iter__" = some Builtin.«dict_keyiterator.__iter__»:=
 entryFor_alias (id':="dict_keyiterator.__iter__") (by kernel_rfl) rfl (by decide +kernel) (by kernel_rfl)
theorem qc9f(a:Value):argsOk "set_iterator.__iter__" ⟨[a],[]⟩:=by unfold argsOk;kernel_rfl
theorem qc0h:entryFor table "set.__iter__" = some Builtin.«frozenset.__iter__»:=
 entryFor_alias (id':="frozenset.__iter__") (by kernel_rfl) rfl (by decide +kernel) (by kernel_rfl)
section
variable{prog:Program}{w:World}{A:Around}{E:Value->Shared->Prop}{s:Shared}{I S:Addr}{es:Array (Int × Value)}{ep i n:Nat}{t:SetTable}{first:Value}
theorem qa8v{Q:Bool->Shared->Prop} (h:Q (w.params.followText "set-order") s):wpAny (model prog w) A setsByText Q E s:=wpAny_bind (wpAny_askSetting (wpAny_pure h))
theorem qb6g(ho:s.heap.get? S=some (setO es ep t))(hf:t.fits es.size=true) (hb:w.params.followText "set-order" = true) {slot:Nat} {Q:Option (Value × Nat)->Shared->Prop} (h:Q (((pickOrder (w.params.setOrder S ep) es)[i]?).map fun e=>(e.2,slot)) s):wpAny (model prog w) A (setNext S slot i ep) Q E s:=by
 unfold setNext
 refine wpAny_bind (wpAny_setState_of ho rfl hf ?_)
 dsimp only
 refine wpAny_bind (qa8v ?_)
 rw [hb,if_pos rfl]
 rw [if_neg (show ¬ ((ep != ep)=true) by simp)]
 refine wpAny_bind ?_
 unfold setWalk
 refine wpAny_bind (wpAny_setState_of ho rfl hf ?_)
 dsimp only
 refine wpAny_bind (qa8v ?_)
 rw [hb,if_pos rfl]
 exact wpAny_bind (wpAny_askSetting (wpAny_pure (wpAny_pure h)))
theorem qb4w(ho:s.heap.get? S=some (setO es ep t))(hf:t.fits es.size=true) (hb:w.params.followText "set-order" = false) (hl:t.led=true) (hd:(!t.plain && decide (es.size > 1))=false) {slot:Nat} {Q:Option (Value × Nat)->Shared->Prop} (h:Q (match es[SetTable.below t.place slot]?,t.place[SetTable.below t.place slot]? with | some (_,x),some j=>some (x,j + 1) | _,_=>none) s):wpAny (model prog w) A (setNext S slot i ep) Q E s:=by
 unfold setNext
 refine wpAny_bind (wpAny_setState_of ho rfl hf ?_)
 dsimp only
 refine wpAny_bind (qa8v ?_)
 rw [hb,if_neg Bool.false_ne_true]
 split
 ·rename_i q
  have q':(!t.plain && decide (es.size > 1))=true:=q
  rw [hd] at q';cases q'
 ·refine wpAny_bind ?_
  show wpAny _ _ (if (!t.led && !es.isEmpty)=true then _ else _) _ _ _
  rw [if_neg (by rw [hl];simp)]
  exact wpAny_pure (wpAny_pure h)
theorem qc0i{f nx:Nat}{x:Value}{Q:Option Value->Shared->Prop}(hi:s.heap.get? I=some (itO (rawInt ((f:Nat):Int)) i S es.size ep))(ho:s.heap.get? S=some (setO es ep t))(hf:t.fits es.size=true)
  (hN:∀ {A':Around} {E':Value->Shared->Prop} {Q':Option (Value × Nat)->Shared->Prop},Q' (some (x,nx)) s->wpAny (model prog w) A' (setNext S f i ep) Q' E' s)
  (hQ:∀ h',h'.get? I=some (itO (rawInt ((nx:Nat):Int)) (i + 1) S es.size ep)->Heap.SameBut I s.heap h'->Q (some x) { s with heap:=h' }):wpAny (model prog w) A (pyNext (.ref I)) Q E s:=by
 have ty:s.TypeIs (.ref I) "set_iterator":=⟨_,hi,rfl⟩
 unfold pyNext
 refine wpAny_bind (wpAny_attempt (wpAny_callSpecial?_slot (name:=Str.ofString "__next__") ty slot_next (wpAny_call_entry slot_next ty entry_next ?_ (args_next _))))
 unfold Builtin.«set_iterator.__next__»
 refine wpAny_bind (m:=slotArgs _ _ _) (wpAny_pure (wpAny_bind (wpAny_fieldsOf hi rfl ?_)))
 show wpAny _ _ (setEntries S >>= _) _ _ s
 refine wpAny_bind (wpAny_setEntries_of ho rfl hf ?_)
 rw [if_neg (show ¬ ((((es.size:Nat):Int) != ((es.size:Nat):Int))=true) by simp)]
 show wpAny _ _ (setNext S (Int.toNat ((f:Nat):Int)) (Int.toNat ((i:Nat):Int)) (Int.toNat ((ep:Nat):Int)) >>= _) _ _ s
 rw [Int.toNat_natCast,Int.toNat_natCast,Int.toNat_natCast]
 refine wpAny_bind (hN ?_)
 refine wpAny_bind (wpAny_setField_rec hi (by simp) fun h1 e1 s1=>?_)
 refine wpAny_bind (wpAny_setField_rec e1 (by simp) fun h2 e2 s2=>?_)
 refine wpAny_pure ⟨_,rfl,wpAny_pure (hQ h2 ?_ (s1.trans s2))⟩
 rw [e2]
 simp [rawInt]
theorem qc0j{f:Nat}{Q:Option Value->Shared->Prop}(hh:A.handled=none)(hi:s.heap.get? I=some (itO (rawInt ((f:Nat):Int)) i S es.size ep))(ho:s.heap.get? S=some (setO es ep t))(hf:t.fits es.size=true)
  (hN:∀ {A':Around} {E':Value->Shared->Prop} {Q':Option (Value × Nat)->Shared->Prop},Q' none s->wpAny (model prog w) A' (setNext S f i ep) Q' E' s)
  (hQ:∀ h',Heap.ExtBut I s.heap h'->Q none { s with heap:=h' }):wpAny (model prog w) A (pyNext (.ref I)) Q E s:=by
 have ty:s.TypeIs (.ref I) "set_iterator":=⟨_,hi,rfl⟩
 unfold pyNext
 refine wpAny_bind (wpAny_attempt (wpAny_callSpecial?_slot (name:=Str.ofString "__next__") ty slot_next (wpAny_call_entry slot_next ty entry_next ?_ (args_next _))))
 unfold Builtin.«set_iterator.__next__»
 refine wpAny_bind (m:=slotArgs _ _ _) (wpAny_pure (wpAny_bind (wpAny_fieldsOf hi rfl ?_)))
 show wpAny _ _ (setEntries S >>= _) _ _ s
 refine wpAny_bind (wpAny_setEntries_of ho rfl hf ?_)
 rw [if_neg (show ¬ ((((es.size:Nat):Int) != ((es.size:Nat):Int))=true) by simp)]
 show wpAny _ _ (setNext S (Int.toNat ((f:Nat):Int)) (Int.toNat ((i:Nat):Int)) (Int.toNat ((ep:Nat):Int)) >>= _) _ _ s
 rw [Int.toNat_natCast,Int.toNat_natCast,Int.toNat_natCast]
 refine wpAny_bind (hN ?_)
 refine wpAny_bind (wpAny_setField hi rfl (by simp) ?_)
 show wpAny _ _ (newExc (.type "StopIteration") [] >>= _) _ _ _
 refine wpAny_bind ?_
 simp only [newTuple,newExc]
 refine wpAny_bind (wpAny_newObj_type (wpAny_bind (m:=firstArgMember _ _) (wpAny_of_eq (a:=Value.none) (by first | rfl | (simp only [firstArgMember];rfl)) ?_)) (by size_fits))
 refine wpAny_newObj_type ?_ (by size_fits)
 simp only [raiseNew]
 refine wpAny_bind (wpAny_handled ?_)
 rw [show A.in1.handled=none from hh]
 refine wpAny_bind (wpAny_pure (wpAny_throw ?_));refine wpAny_bind (wpAny_isInstance (T:="StopIteration") (b:=true) ⟨_,Heap.get?_push_size _ rfl,rfl⟩ isSubtype_stop ?_)
 exact wpAny_pure (hQ _ (((Heap.SameBut.update ..).extBut.push _).push _))
theorem qc6t{P:Addr}{order:List Nat}{j c:Nat}{x:Value}{hx:Int}{Q:Option Value->Shared->Prop}(hi:s.heap.get? I=some (itO (.ref P) i S es.size ep)) (hP:s.heap.get? P=some ⟨.type "tuple",none,.seq (order.map fun(k:Nat)=>rawInt k).toArray c,#[]⟩) (ho:s.heap.get? S=some (setO es ep t)) (hf:t.fits es.size=true)
  (hj:order[i]? = some j) (he:es[j]? = some (hx,x))
  (hQ:∀ h',h'.get? I=some (itO (.ref P) (i + 1) S es.size ep)->Heap.SameBut I s.heap h'->Q (some x) { s with heap:=h' }):wpAny (model prog w) A (pyNext (.ref I)) Q E s:=by
 have ty:s.TypeIs (.ref I) "set_iterator":=⟨_,hi,rfl⟩
 unfold pyNext
 refine wpAny_bind (wpAny_attempt (wpAny_callSpecial?_slot (name:=Str.ofString "__next__") ty slot_next (wpAny_call_entry slot_next ty entry_next ?_ (args_next _))))
 unfold Builtin.«set_iterator.__next__»
 refine wpAny_bind (m:=slotArgs _ _ _) (wpAny_pure (wpAny_bind (wpAny_fieldsOf hi rfl ?_)))
 show wpAny _ _ (setEntries S >>= _) _ _ s
 refine wpAny_bind (wpAny_setEntries_of ho rfl hf ?_)
 rw [if_neg (show ¬ ((((es.size:Nat):Int) != ((es.size:Nat):Int))=true) by simp)]
 show wpAny _ _ (seqItems? (.ref P) >>= _) _ _ s
 refine wpAny_bind (wpAny_seqItems hP rfl ?_)
 show wpAny _ _ (match (order.map fun(k:Nat)=>rawInt k).toArray[Int.toNat ((i:Nat):Int)]? with | some (.int place _)=>_ | some _=>_ | none=>_) _ _ s
 rw [Int.toNat_natCast,List.getElem?_toArray,List.getElem?_map,hj]
 show wpAny _ _ (setNextDrawn S (Int.toNat ((j:Nat):Int)) (Int.toNat ((ep:Nat):Int)) >>= _) _ _ s
 rw [Int.toNat_natCast,Int.toNat_natCast]
 unfold setNextDrawn
 refine wpAny_bind (wpAny_bind (wpAny_setState_of ho rfl hf ?_))
 dsimp only
 rw [if_neg (show ¬ ((ep != ep)=true) by simp),he]
 refine wpAny_pure (wpAny_bind (wpAny_setField_rec hi (by simp) fun h2 e2 s2=>?_))
 refine wpAny_pure ⟨_,rfl,wpAny_pure (hQ h2 ?_ s2)⟩
 rw [e2]
 simp [rawInt]
theorem qc6u{P:Addr}{order:List Nat}{c:Nat}{Q:Option Value->Shared->Prop}(hh:A.handled=none)(hi:s.heap.get? I=some (itO (.ref P) i S es.size ep)) (hP:s.heap.get? P=some ⟨.type "tuple",none,.seq (order.map fun(k:Nat)=>rawInt k).toArray c,#[]⟩) (ho:s.heap.get? S=some (setO es ep t)) (hf:t.fits es.size=true)
  (hj:order[i]? = none)
  (hQ:∀ h',Heap.ExtBut I s.heap h'->Q none { s with heap:=h' }):wpAny (model prog w) A (pyNext (.ref I)) Q E s:=by
 have ty:s.TypeIs (.ref I) "set_iterator":=⟨_,hi,rfl⟩
 unfold pyNext
 refine wpAny_bind (wpAny_attempt (wpAny_callSpecial?_slot (name:=Str.ofString "__next__") ty slot_next (wpAny_call_entry slot_next ty entry_next ?_ (args_next _))))
 unfold Builtin.«set_iterator.__next__»
 refine wpAny_bind (m:=slotArgs _ _ _) (wpAny_pure (wpAny_bind (wpAny_fieldsOf hi rfl ?_)))
 show wpAny _ _ (setEntries S >>= _) _ _ s
 refine wpAny_bind (wpAny_setEntries_of ho rfl hf ?_)
 rw [if_neg (show ¬ ((((es.size:Nat):Int) != ((es.size:Nat):Int))=true) by simp)]
 show wpAny _ _ (seqItems? (.ref P) >>= _) _ _ s
 refine wpAny_bind (wpAny_seqItems hP rfl ?_)
 show wpAny _ _ (match (order.map fun(k:Nat)=>rawInt k).toArray[Int.toNat ((i:Nat):Int)]? with | some (.int place _)=>_ | some _=>_ | none=>_) _ _ s
 rw [Int.toNat_natCast,List.getElem?_toArray,List.getElem?_map,hj]
 refine wpAny_bind (wpAny_setField_rec hi (by simp) fun h1 e1 s1=>?_)
 refine wpAny_bind (wpAny_setField e1 rfl (by simp) ?_)
 show wpAny _ _ (newExc (.type "StopIteration") [] >>= _) _ _ _
 refine wpAny_bind ?_
 simp only [newTuple,newExc]
 refine wpAny_bind (wpAny_newObj_type (wpAny_bind (m:=firstArgMember _ _) (wpAny_of_eq (a:=Value.none) (by first | rfl | (simp only [firstArgMember];rfl)) ?_)) (by size_fits))
 refine wpAny_newObj_type ?_ (by size_fits)
 simp only [raiseNew]
 refine wpAny_bind (wpAny_handled ?_)
 rw [show A.in1.handled=none from hh]
 refine wpAny_bind (wpAny_pure (wpAny_throw ?_));refine wpAny_bind (wpAny_isInstance (T:="StopIteration") (b:=true) ⟨_,Heap.get?_push_size _ rfl,rfl⟩ isSubtype_stop ?_)
 exact wpAny_pure (hQ _ (((s1.trans (Heap.SameBut.update ..)).extBut.push _).push _))
theorem qb5o{Q:Value->Shared->Prop}(hi:s.heap.get? I=some (itO first i S n ep))(h:Q (.ref I) s):wpAny (model prog w) A (pyIter (.ref I)) Q E s:=by
 have ty:s.TypeIs (.ref I) "set_iterator":=⟨_,hi,rfl⟩
 refine wpAny_pyIter_slot ty qb8v (wpAny_call_entry qb8v ty qc6s ?_ (qc9f _))
 show wpAny _ _ (ret (.ref I)) _ _ s
 exact wpAny_pure ⟨_,rfl,"set_iterator",_,ty,slot_next.lookup,h⟩
end
end Sx
end
section
namespace Sx
open PySem
noncomputable def slotAt(pl:Array Nat):Nat->Nat
 | 0=>0
 | i + 1=>pl.getD i 0 + 1
theorem qb6h{pl:Array Nat}(up:Up pl){i:Nat}(h:i <= pl.size):SetTable.below pl (slotAt pl i)=i:=by
 cases i with
 | zero=>exact qc6m up
 | succ i =>
  have hi:i < pl.size:=by omega
  show SetTable.below pl (pl.getD i 0 + 1)=i + 1
  rw [Array.getD_eq_getD_getElem?,Array.getElem?_eq_getElem hi]
  exact qc6l up hi
section
variable{prog:Program}{w:World}{A:Around}{I S:Addr}{es:Array (Int × Value)}{ep:Nat}{t:SetTable}
theorem w_text(hh:A.handled=none)(hne:S ≠ I)(hf:t.fits es.size=true) (hb:w.params.followText "set-order" = true) :
  Walks prog w A I [I,S] [I] es.size (fun i v=>((pickOrder (w.params.setOrder S ep) es).toList.map (·.2))[i]? = some v) (fun i h=>h.get? I=some (itO (rawInt (((0:Nat):Nat):Int)) i S es.size ep)/\h.get? S=some (setO es ep t)):=by
 have sz:(pickOrder (w.params.setOrder S ep) es).size=es.size:=by rw [← Array.length_toList,(qb3m _ es).length_eq,Array.length_toList]
 refine⟨fun b hb=>by simp at hb;simp [hb],fun i h h' st k=>⟨k I (by simp) _ st.1,k S (by simp) _ st.2⟩,fun i s Q E hi st hQ=>?_,fun s Q E st hQ=>?_,fun i s Q E st hQ=>qb5o st.1 hQ⟩
 ·have hlt:i < (pickOrder (w.params.setOrder S ep) es).size:=by omega
  refine qc0i (nx:=0) (x:=((pickOrder (w.params.setOrder S ep) es)[i]).2) st.1 st.2 hf (fun{A' E' Q'} q=>qb6g st.2 hf hb (by rw [Array.getElem?_eq_getElem hlt];exact q)) fun h' j1 j2=>?_
  exact hQ _ h' s.toks (by rw [List.getElem?_map,Array.getElem?_toList,Array.getElem?_eq_getElem hlt];rfl) ⟨j1,j2.extBut _ _ hne st.2⟩ fun b o hb e=>j2.extBut b o (fun h=>hb (by simp [h])) e
 ·refine qc0j hh st.1 st.2 hf (fun{A' E' Q'} q=>qb6g st.2 hf hb (by rw [Array.getElem?_eq_none (by omega)];exact q)) fun h' j=>?_
  exact hQ h' s.toks fun b o hb e=>j b o (fun h=>hb (by simp [h])) e
theorem w_place(hh:A.handled=none)(hne:S ≠ I)(hf:t.fits es.size=true)(ok:TOk t) (hb:w.params.followText "set-order" = false) (hl:t.led=true) (hd:(!t.plain && decide (es.size > 1))=false) :
  Walks prog w A I [I,S] [I] es.size (fun i v=>(es.toList.map (·.2))[i]? = some v) (fun i h=>h.get? I=some (itO (rawInt ((slotAt t.place i:Nat):Int)) i S es.size ep)/\h.get? S=some (setO es ep t)):=by
 have sz:t.place.size=es.size:=by
  unfold SetTable.fits at hf
  simp at hf
  exact hf.1
 have up:=up_of ok.up
 refine⟨fun b hb=>by simp at hb;simp [hb],fun i h h' st k=>⟨k I (by simp) _ st.1,k S (by simp) _ st.2⟩,fun i s Q E hi st hQ=>?_,fun s Q E st hQ=>?_,fun i s Q E st hQ=>qb5o st.1 hQ⟩
 ·have hp:i < t.place.size:=by omega
  refine qc0i (nx:=slotAt t.place (i + 1)) (x:=(es[i]).2) st.1 st.2 hf (fun{A' E' Q'} q=>qb4w st.2 hf hb hl hd ?_) fun h' j1 j2=>?_
  ·rw [qb6h up (by omega),Array.getElem?_eq_getElem hi,Array.getElem?_eq_getElem hp]
   have e:slotAt t.place (i + 1)=t.place[i] + 1:=by
    show t.place.getD i 0 + 1=_
    rw [Array.getD_eq_getD_getElem?,Array.getElem?_eq_getElem hp];rfl
   rw [e] at q
   exact q
  ·exact hQ _ h' s.toks (by rw [List.getElem?_map,Array.getElem?_toList,Array.getElem?_eq_getElem hi];rfl) ⟨j1,j2.extBut _ _ hne st.2⟩ fun b o hb e=>j2.extBut b o (fun h=>hb (by simp [h])) e
 ·refine qc0j hh st.1 st.2 hf (fun{A' E' Q'} q=>qb4w st.2 hf hb hl hd ?_) fun h' j=>?_
  ·rw [qb6h up (by omega),Array.getElem?_eq_none (by omega)]
   exact q
  ·exact hQ h' s.toks fun b o hb e=>j b o (fun h=>hb (by simp [h])) e
noncomputable def valAt(es:Array (Int × Value))(k:Nat):Value:=((es[k]?).map (·.2)).getD .none
theorem qc6v(es:Array (Int × Value)):(List.range es.size).map (valAt es)=es.toList.map (·.2):=by
 apply List.ext_getElem
 ·simp
 ·intro i h1 h2
  simp at h1
  simp [valAt,h1]
theorem w_drawn{P:Addr}{order:List Nat}{c:Nat}(hh:A.handled=none)(hne:S ≠ I)(hnP:P ≠ I)(hf:t.fits es.size=true)(ho:order.Perm (List.range es.size)) :
  Walks prog w A I [I,S,P] [I] es.size (fun i v=>(order.map (valAt es))[i]? = some v) (fun i h=>h.get? I=some (itO (.ref P) i S es.size ep)/\h.get? S=some (setO es ep t)/\h.get? P=some ⟨.type "tuple",none,.seq (order.map fun(k:Nat)=>rawInt k).toArray c,#[]⟩):=by
 have sz:order.length=es.size:=by rw [ho.length_eq,List.length_range]
 refine⟨fun b hb=>by simp at hb;simp [hb],fun i h h' st k=>⟨k I (by simp) _ st.1,k S (by simp) _ st.2.1,k P (by simp) _ st.2.2⟩,fun i s Q E hi st hQ=>?_,fun s Q E st hQ=>?_,fun i s Q E st hQ=>qb5o st.1 hQ⟩
 ·have hp:i < order.length:=by omega
  have hj:order[i] < es.size:=by
   have:=ho.mem_iff.mp (List.getElem_mem hp)
   simpa using this
  refine qc6t (j:=order[i]) (hx:=(es[order[i]]).1) (x:=(es[order[i]]).2) st.1 st.2.2 st.2.1 hf (List.getElem?_eq_getElem hp) (Array.getElem?_eq_getElem hj) fun h' j1 j2=>?_
  refine hQ _ h' s.toks ?_ ⟨j1,j2.extBut _ _ hne st.2.1,j2.extBut _ _ hnP st.2.2⟩ fun b o hb e=>j2.extBut b o (fun h=>hb (by simp [h])) e
  rw [List.getElem?_map,List.getElem?_eq_getElem hp]
  simp [valAt,hj]
 ·refine qc6u hh st.1 st.2.2 st.2.1 hf (List.getElem?_eq_none (by omega)) fun h' j=>?_
  exact hQ h' s.toks fun b o hb e=>j b o (fun h=>hb (by simp [h])) e
end
section
variable{prog:Program}{w:World}{A:Around}{E:Value->Shared->Prop}{s:Shared}{S:Addr}{es:Array (Int × Value)}{ep:Nat}{t:SetTable}
theorem qd1j(ho:s.heap.get? S=some (setO es ep t))(hf:t.fits es.size=true)(ok:TOk t) (hl:t.led = !w.params.followText "set-order") (hz:es.size <= 4096) {Q:Value->Shared->Prop}
  (h:∀ (s':Shared) (I:Addr) (fp:List Addr) (out:List Value) (St:Nat->Heap->Prop),out.Perm (es.toList.map (·.2))->out.length=es.size->I ∈ fp->(∀ b ∈ fp,b=S ∨ s.heap.objs.size <= b)->(∀ b ∈ fp,b < s'.heap.objs.size)->s.heap.objs.size <= I ->
   (∀ A':Around,A'.handled=none->Walks prog w A' I fp [I] es.size (fun i v=>out[i]? = some v) St)->St 0 s'.heap->(∀ b o,s.heap.get? b=some o->s'.heap.get? b=some o)->s'.gens=s.gens->s'.os=s.os->s'.toks=s.toks->Q (.ref I) s') :
  wpAny (model prog w) A (pyIter (.ref S)) Q E s:=by
 have ty:s.TypeIs (.ref S) "set":=⟨_,ho,rfl⟩
 have hlt:=Heap.lt_size ho
 refine wpAny_pyIter_slot ty F.slot_set_iter (wpAny_call_entry F.slot_set_iter ty qc0h ?_ (F.args_set_iter_1 _))
 unfold Builtin.«frozenset.__iter__»
 refine wpAny_bind (m:=Builtin.Frozenset.slot0 _ _) (wpAny_pure (wpAny_bind (m:=Builtin.Frozenset.sizeOf S) (wpAny_bind (wpAny_setEntries_of ho rfl hf (wpAny_pure ?_)))))
 refine wpAny_bind (m:=setDrawn S) ?_
 unfold setDrawn
 refine wpAny_bind (wpAny_setState_of ho rfl hf ?_)
 refine wpAny_bind (qa8v ?_)
 show wpAny _ _ (pure (!w.params.followText "set-order" && (!t.plain && decide (es.size > 1)))) _ _ _
 refine wpAny_pure ?_
 have hne:S ≠ s.heap.objs.size:=Nat.ne_of_lt hlt
 cases hb:w.params.followText "set-order" with
 | true =>
  rw [if_neg (by simp)]
  refine wpAny_bind (wpAny_pure (wpAny_bind (wpAny_setEpoch_of ho rfl hf ?_)))
  refine wpAny_bind (wpAny_newObj_type (wpAny_pure ⟨_,rfl,"set_iterator",_,⟨_,Heap.get?_push_size _ rfl,rfl⟩,slot_next.lookup,?_⟩))
  refine h _ s.heap.objs.size [s.heap.objs.size,S] _ _ ((qb3m (w.params.setOrder S ep) es).map (·.2)) (by rw [List.length_map,(qb3m _ es).length_eq,Array.length_toList]) (by simp) (fun b hb=>?_) (fun b hb=>?_) (Nat.le_refl _) (fun A' hA=>w_text hA hne hf hb) ⟨Heap.get?_push_size _ rfl,Heap.get?_push_of_some _ ho⟩ (fun b o e=>Heap.get?_push_of_some _ e) rfl rfl rfl
  ·simp at hb;rcases hb with rfl | rfl
   ·exact .inr (Nat.le_refl _)
   ·exact .inl rfl
  ·show b < (s.heap.push _).objs.size
   rw [Heap.size_push];simp at hb;rcases hb with rfl | rfl
   ·exact Nat.lt_succ_self _
   ·exact Nat.lt_succ_of_lt hlt
 | false =>
  cases hd:(!t.plain && decide (es.size > 1)) with
  | false =>
   rw [if_neg (by simp)]
   refine wpAny_bind (wpAny_pure (wpAny_bind (wpAny_setEpoch_of ho rfl hf ?_)))
   refine wpAny_bind (wpAny_newObj_type (wpAny_pure ⟨_,rfl,"set_iterator",_,⟨_,Heap.get?_push_size _ rfl,rfl⟩,slot_next.lookup,?_⟩))
   refine h _ s.heap.objs.size [s.heap.objs.size,S] _ _ (List.Perm.refl _) (by simp) (by simp) (fun b hb=>?_) (fun b hb=>?_) (Nat.le_refl _) (fun A' hA=>w_place hA hne hf ok hb (by rw [hl,hb];rfl) hd) ⟨Heap.get?_push_size _ rfl,Heap.get?_push_of_some _ ho⟩ (fun b o e=>Heap.get?_push_of_some _ e) rfl rfl rfl
   ·simp at hb;rcases hb with rfl | rfl
    ·exact .inr (Nat.le_refl _)
    ·exact .inl rfl
   ·show b < (s.heap.push _).objs.size
    rw [Heap.size_push];simp at hb;rcases hb with rfl | rfl
    ·exact Nat.lt_succ_self _
    ·exact Nat.lt_succ_of_lt hlt
  | true =>
   rw [if_pos (by simp)]
   refine wpAny_bind (qd1i _ _ _ List.length_range fun o d hp=>wpAny_bind (wpAny_newTuple ?_ (by
    rw [List.length_map,hp.length_eq,List.length_range]
    exact Nat.le_trans hz (by decide))))
   refine wpAny_bind (wpAny_setEpoch_of (Heap.get?_push_of_some _ ho) rfl hf ?_)
   refine wpAny_bind (wpAny_newObj_type (wpAny_pure ⟨_,rfl,"set_iterator",_,⟨_,Heap.get?_push_size _ rfl,rfl⟩,slot_next.lookup,?_⟩))
   have e1:∀ ob:Obj,(s.heap.push ob).objs.size=s.heap.objs.size + 1:=fun ob=>Heap.size_push ..
   show Q (.ref (s.heap.push _).objs.size) _
   rw [e1]
   refine h _ (s.heap.objs.size + 1) [s.heap.objs.size + 1,S,s.heap.objs.size] (o.map (valAt es)) _ ((hp.map _).trans (by rw [qc6v])) (by rw [List.length_map,hp.length_eq,List.length_range]) (by simp) (fun b hb=>?_) (fun b hb=>?_) (Nat.le_succ _) (fun A' hA=>w_drawn hA (Nat.ne_of_lt (Nat.lt_succ_of_lt hlt)) (Nat.ne_of_lt (Nat.lt_succ_self _)) hf hp) ⟨by rw [← e1];exact Heap.get?_push_size _ rfl,Heap.get?_push_of_some _ (Heap.get?_push_of_some _ ho),Heap.get?_push_of_some _ (Heap.get?_push_size _ rfl)⟩ (fun b o e=>Heap.get?_push_of_some _ (Heap.get?_push_of_some _ e)) rfl rfl rfl
   ·simp at hb;rcases hb with rfl | rfl | rfl
    ·exact .inr (Nat.le_succ _)
    ·exact .inl rfl
    ·exact .inr (Nat.le_refl _)
   ·show b < ((s.heap.push _).push _).objs.size
    rw [Heap.size_push,e1];simp at hb;rcases hb with rfl | rfl | rfl
    ·exact Nat.lt_succ_self _
    ·exact Nat.lt_succ_of_lt (Nat.lt_succ_of_lt hlt)
    ·exact Nat.lt_succ_of_lt (Nat.lt_succ_self _)
end
end Sx
end
section
namespace Sx
open PySem
section
variable{prog:Program}{w:World}{A:Around}{E:Value->Shared->Prop}{s:Shared}{S:Addr}{es:Array (Int × Value)}{ep:Nat}{t:SetTable}
abbrev nilO:Obj:={ cls:=.type "list",data:=.seq ([]:List Value).toArray }
theorem qc9g(hh:A.handled=none)(ho:s.heap.get? S=some (setO es ep t))(hf:t.fits es.size=true)(ok:TOk t) (hl:t.led = !w.params.followText "set-order") (hz:es.size <= 4096) {Q:List Value->Shared->Prop}
  (h:∀ (s':Shared) (out:List Value),out.Perm (es.toList.map (·.2))->(∀ b o,s.heap.get? b=some o->s'.heap.get? b=some o)->s'.gens=s.gens->s'.os=s.os->Q out s') :
  wpAny (model prog w) A (collect (.ref S)) Q E s:=by
 unfold collect
 refine wpAny_bind (wpAny_runValue (codeAny_builtin F.entry_proto_collect ?_));rw [Around.under_plainId F.plain_proto_collect _]
 show wpAny _ A.in1 (newList [] >>= fun l=>again (.builtin "list.__iadd__" ⟨[l,.ref S],[]⟩)) _ _ s
 refine wpAny_bind (wpAny_newObj_type (wpAny_pure ⟨plainId_quiet F.plain_list_iadd _,codeAny_builtin F.entry_list_iadd ?_⟩));rw [Around.under_plainId F.plain_list_iadd _]
 show wpAny _ A.in1 (Builtin.List.listExtendWith (.ref s.heap.objs.size) (.ref S) (.ref s.heap.objs.size)) _ _ { s with heap:=s.heap.push nilO }
 unfold Builtin.List.listExtendWith
 have hlt:=Heap.lt_size ho
 have ho1:(s.heap.push nilO).get? S=some (setO es ep t):=Heap.get?_push_of_some _ ho
 have hL1:(s.heap.push nilO).get? s.heap.objs.size=some nilO:=Heap.get?_push_size _ rfl
 have z1:(s.heap.push nilO).objs.size=s.heap.objs.size + 1:=Heap.size_push ..
 have h1:Builtin.List.listSameRef (.ref s.heap.objs.size) (.ref S)=false:=by simp [Builtin.List.listSameRef,Nat.ne_of_gt hlt]
 refine wpAny_bind (wpAny_typeOf (T:="set") ⟨_,ho1,rfl⟩ ?_)
 rw [if_neg (by rw [h1];decide)]
 refine wpAny_bind (qd1j ho1 hf ok hl hz fun s' I fp out St op ol hI f1 f2 f3 W st kp eg eo et=>?_)
 have ho2:=kp _ _ ho1
 have hL2:=kp _ _ hL1
 have hS:s'.TypeIs (.ref S) "set":=⟨_,ho2,rfl⟩
 refine wpAny_bind (wpAny_holding ?_)
 unfold Builtin.List.listLengthHint
 refine wpAny_bind (wpAny_specialOf hS F.slot_set_len.lookup ?_)
 wp_delta
 refine wpAny_bind (wpAny_isInstance (b:=true) hS sub_set_self ?_)
 show wpAny _ A.in1 (typeOf (Value.ref S) >>= _) _ _ _
 refine wpAny_bind (wpAny_typeOf hS (wpAny_pure ?_))
 show wpAny _ A.in1 (rule "list.extend.makes-room" >>= fun _=>Builtin.List.listTouch (.ref s.heap.objs.size) >>= fun _=>again (.builtin "list.extend.loop" ⟨[.ref s.heap.objs.size,.ref I,.ref s.heap.objs.size],[]⟩)) _ _ _
 refine wpAny_bind (wpAny_rule (wpAny_bind ?_))
 show wpAny _ A.in1 (updateSeq s.heap.objs.size (·.push .none) >>= fun _=>updateSeq s.heap.objs.size (·.pop)) _ _ s'
 refine wpAny_bind (wpAny_updateSeq hL2 rfl ?_)
 have hL3:=Heap.get?_update_self (Obj.mapSeq (·.push Value.none)) hL2 rfl
 refine wpAny_updateSeq hL3 rfl ?_
 have hL4:=Heap.get?_update_self (Obj.mapSeq (·.pop)) hL3 rfl
 have nf:s.heap.objs.size ∉ fp:=fun hm=>by
  rcases f1 _ hm with q | q
  ·exact Nat.ne_of_gt hlt q
  ·rw [z1] at q;exact absurd q (Nat.not_succ_le_self _)
 have oth:∀ b o,b ≠ s.heap.objs.size->s'.heap.get? b=some o->((s'.heap.update s.heap.objs.size (Obj.mapSeq (·.push Value.none))).update s.heap.objs.size (Obj.mapSeq (·.pop))).get? b=some o:=
  fun b o hb e=>(Heap.get?_update_other _ _ (Ne.symm hb)).trans ((Heap.get?_update_other _ _ (Ne.symm hb)).trans e)
 have W1:=W A.in1.in1 (by simp [hh])
 have Ws:=W1.toS
 refine wpAny_pure ⟨plainId_quiet F.plain_extend_loop _,codeAny_extend_loopS (W A.in1 (by simp [hh])).toS (Nat.le_trans hz (by decide)) _ nf _ es.size 0 _ _ _ rfl (Nat.zero_le _)
  (Ws.frame 0 s' _ s'.toks st (Nat.le_refl _) fun b hb o e=>oth b o (fun q=>nf (q ▸ hb)) e) hL4 (ItemsOf.nil _) fun s2 acc c mv hS2 hacc=>?_⟩
 show wpAny _ A (load s.heap.objs.size >>= _) _ _ s2
 refine wpAny_bind (wpAny_load hS2 (wpAny_pure ?_))
 have eq:acc.toList=out:=by
  apply List.ext_getElem?
  intro j
  by_cases hj:j < acc.size
  ·have q:=hacc.2 j acc[j] (Array.getElem?_eq_getElem hj)
   rw [Array.getElem?_toList,Array.getElem?_eq_getElem hj]
   exact q.symm
  ·rw [Array.getElem?_toList,Array.getElem?_eq_none (by omega),List.getElem?_eq_none (by have:=hacc.1;omega)]
 rw [eq]
 refine h s2 out op (fun b o e=>?_) (mv.gens.trans eg) (mv.os.trans eo)
 have hb:=Heap.lt_size e
 refine mv.heap b o (fun hm=>?_) (oth b o (Nat.ne_of_lt hb) (kp _ _ (Heap.get?_push_of_some _ e)))
 rcases List.mem_cons.mp hm with q | q
 ·exact absurd hb (by rw [q];exact Nat.lt_irrefl _)
 ·rw [List.mem_singleton] at q
  rw [z1] at f3
  exact absurd hb (by rw [q];exact Nat.not_lt.mpr (Nat.le_trans (Nat.le_succ _) f3))
end
end Sx
end
section
namespace L2
open PySem PySem.Spec PyProof.Rows
noncomputable def clOf(env:Env):List (Str × NameKind)->List (Str × Addr)->List (Str × Addr)
 | [],acc=>acc
 | (n,k) :: r,acc=>if k == .free then clOf env r ((n,(env.cells.lookup n).getD 0) :: acc) else clOf env r acc
theorem qb2a(env:Env)(f:Str × NameKind->List (Str × Addr)->Sem (ForInStep (List (Str × Addr)))) :
  ∀ (names:List (Str × NameKind)) (acc:List (Str × Addr)),
   (∀ y ∈ names,∀ c,f y c=if (y.2 == .free)=true then pure (.yield ((y.1,(env.cells.lookup y.1).getD 0) :: c)) else pure (.yield c)) ->
   (forIn names acc f:Sem _)=pure (clOf env names acc)
 | [],acc,_=>by rw [List.forIn_nil];rfl
 | (n,k) :: r,acc,h=>by
  rw [List.forIn_cons,h (n,k) List.mem_cons_self]
  have hr:∀ y ∈ r,∀ c,f y c=if (y.2 == .free)=true then pure (.yield ((y.1,(env.cells.lookup y.1).getD 0) :: c)) else pure (.yield c):=fun y hy=>h y (List.mem_cons_of_mem _ hy)
  unfold clOf
  by_cases hk:(k == NameKind.free)=true
  ·rw [if_pos hk,if_pos hk,← qb2a env f r _ hr]
   all_goals rfl
  ·rw [if_neg hk,if_neg hk,← qb2a env f r _ hr]
   all_goals rfl
theorem qb3a{env:Env}{scope:Scope}(h:∀ y ∈ scope.names,y.2=.free->∃ c,env.cells.lookup y.1=some c) :
  closureFor scope env=pure (clOf env scope.names []):=by
 simp only [closureFor]
 rw [qb2a env _ scope.names [] (fun y hy c=>by
  obtain⟨n,k⟩:=y
  by_cases hk:k=.free
  ·subst hk
   obtain⟨a,ha⟩:=h (n,.free) hy rfl
   have e:cellOf env n=pure a:=by unfold cellOf;rw [ha]
   simp only [beq_self_eq_true,if_true,e,ha,Option.getD_some]
   rfl
  ·have hb:(k == NameKind.free)=false:=by simpa using hk
   simp only [hb,Bool.false_eq_true,if_false])]
 rfl
theorem qa6w(env:Env):∀ (names:List (Str × NameKind)) (acc:List (Str × Addr)),clOf env names acc=clOf env names [] ++ acc
 | [],acc=>rfl
 | (n,k) :: r,acc=>by
  unfold clOf
  split
  ·rw [qa6w env r,qa6w env r [_],List.append_assoc];rfl
  ·exact qa6w env r acc
theorem qa6x{env:Env}:∀ {names:List (Str × NameKind)} {x:Str} {c:Addr},(x,c) ∈ clOf env names []->(x,NameKind.free) ∈ names/\c=(env.cells.lookup x).getD 0
 | [],x,c,h=>by cases h
 | (n,k) :: r,x,c,h=>by
  unfold clOf at h
  split at h
  ·rename_i hk
   rw [qa6w] at h
   rcases List.mem_append.mp h with h | h
   ·exact⟨List.mem_cons_of_mem _ (qa6x h).1,(qa6x h).2⟩
   ·have e:(x,c)=(n,(env.cells.lookup n).getD 0):=by simpa using h
    have hk':k=.free:=by simpa using hk
    cases e
    exact⟨by rw [hk'];exact List.mem_cons_self,rfl⟩
  ·exact⟨List.mem_cons_of_mem _ (qa6x h).1,(qa6x h).2⟩
theorem qb7n{env:Env}:∀ {names:List (Str × NameKind)} {x:Str},(x,NameKind.free) ∈ names->(x,(env.cells.lookup x).getD 0) ∈ clOf env names []
 | [],x,h=>by cases h
 | (n,k) :: r,x,h=>by
  unfold clOf
  rcases List.mem_cons.mp h with e | h
  ·cases e
   rw [if_pos (by rfl),qa6w]
   exact List.mem_append_right _ (by simp)
  ·split
   ·rw [qa6w];exact List.mem_append_left _ (qb7n h)
   ·exact qb7n h
theorem qa4r:∀ (names:List (Str × NameKind)) (n:Nat) (acc:List (Str × Addr)),cellsFrom n names acc=cellsFrom n names [] ++ acc
 | [],_,acc=>rfl
 | (x,k) :: r,n,acc=>by
  unfold cellsFrom
  split
  ·rw [qa4r r,qa4r r _ [_],List.append_assoc];rfl
  ·exact qa4r r n acc
theorem qa2x:∀ {names:List (Str × NameKind)} {n:Nat} {x:Str} {c:Addr},(x,c) ∈ cellsFrom n names []->(x,NameKind.cell) ∈ names/\n <= c
 | [],n,x,c,h=>by cases h
 | (y,k) :: r,n,x,c,h=>by
  unfold cellsFrom at h
  split at h
  ·rename_i hk
   rw [qa4r] at h
   rcases List.mem_append.mp h with h | h
   ·have q:=qa2x h
    exact⟨List.mem_cons_of_mem _ q.1,by omega⟩
   ·have e:(x,c)=(y,n):=by simpa using h
    have hk':k=.cell:=by simpa using hk
    cases e
    exact⟨by rw [hk'];exact List.mem_cons_self,Nat.le_refl _⟩
  ·have q:=qa2x h
   exact⟨List.mem_cons_of_mem _ q.1,q.2⟩
theorem qa6y{α:Type}(x:Str):∀ (a b:List (Str × α)),(a ++ b).lookup x=(a.lookup x).or (b.lookup x)
 | [],b=>by simp
 | (k,v) :: r,b=>by
  rw [List.cons_append,List.lookup_cons,List.lookup_cons]
  cases x == k with
  | true=>rfl
  | false=>exact qa6y x r b
theorem lookup_mem{α:Type}:∀ {l:List (Str × α)} {x:Str} {v:α},(x,v) ∈ l->∃ u,l.lookup x=some u
 | (k,w) :: r,x,v,h=>by
  rw [List.lookup_cons]
  cases e:x == k with
  | true=>exact⟨w,rfl⟩
  | false =>
   rcases List.mem_cons.mp h with q | q
   ·cases q;simp at e
   ·exact lookup_mem q
theorem qa5b{α:Type}:∀ {l:List (Str × α)} {x:Str} {v:α},(l.map (·.1)).Nodup->(x,v) ∈ l->l.lookup x=some v
 | (k,w) :: r,x,v,hn,h=>by
  rw [List.lookup_cons]
  rw [List.map_cons,List.nodup_cons] at hn
  rcases List.mem_cons.mp h with q | q
  ·cases q;simp
  ·have:(x == k)=false:=by
    refine beq_eq_false_iff_ne.mpr ?_
    rintro rfl
    exact hn.1 (List.mem_map.mpr ⟨(x,v),q,rfl⟩)
   rw [this]
   exact qa5b hn.2 q
theorem qb1j(env:Env)(x:Str):∀ (names:List (Str × NameKind)),
  (names.map fun(n,k)=>if (k == NameKind.free && env.scope.kind == .function && env.kindOf n == some .cell) then(n,NameKind.cell) else(n,k)).lookup x =
   (names.lookup x).map fun k=>if (k == NameKind.free && env.scope.kind == .function && env.kindOf x == some .cell) then NameKind.cell else k
 | []=>rfl
 | (n,k) :: r=>by
  rw [List.map_cons,List.lookup_cons]
  cases hx:x == n with
  | true =>
   have e:x=n:=by simpa using hx
   subst e
   by_cases hc:(k == NameKind.free && env.scope.kind == .function && env.kindOf x == some .cell)=true
   ·simp only [if_pos hc,List.lookup_cons,hx,Option.map_some]
   ·simp only [if_neg hc,List.lookup_cons,hx,Option.map_some]
  | false =>
   have ih:=qb1j env x r
   by_cases hc:(k == NameKind.free && env.scope.kind == .function && env.kindOf n == some .cell)=true
   ·simp only [if_pos hc,List.lookup_cons,hx];exact ih
   ·simp only [if_neg hc,List.lookup_cons,hx];exact ih
theorem qc3e{M:Model}{A:Around}{E:Value->Shared->Prop}{s:Shared}{scope:Scope}{globals:Addr}{cl:List (Str × Addr)}{qual:Str}{outer:Env}{Q:Env->Shared->Prop}
  (hQ:Q (newEnv scope s.heap.objs.size globals (cellsFrom (s.heap.objs.size + 1) scope.names cl) qual none .none (some outer) builtinsNs)
    { s with heap:=pushCells (s.heap.push { cls:=.type "dict",data:=.dict #[] }) scope.names }) :
  wpAny M A (newFunctionEnv scope globals cl [] qual none .none (some outer)) Q E s:=by
 simp only [newFunctionEnv,Option.isSome_some,if_true]
 refine wpAny_bind (wpAny_alloc ?_)
 refine wpAny_bind (wpAny_layCells _ (fun name kind cells=>by cases hkc:kind == NameKind.cell<;>simp [hkc]) _ _ _ _ ?_)
 rw [show({ s with heap:=s.heap.push { cls:=.type "dict",data:=.dict #[] } }:Shared).heap.objs.size=s.heap.objs.size + 1 from Heap.size_push ..]
 rw [List.forIn_nil]
 exact wpAny_bind (wpAny_pure (wpAny_pure hQ))
section
variable{prog:Program}{w:World}{A:Around}{R:Result->Shared->Prop}{s:Shared}
theorem qc3f{elt target iter:Expr}{ifs:List Expr}{scope:Scope}{pos:Pos}{it acc:Value}{env:Env}(I:Nat->Shared->Prop)
  (turn:∀ n s,I n s->wpAny (model prog w) A (pyNext it) (fun r s₁=>match r with
   | none=>R (.ok .next) s₁
   | some v=>wpAny (model prog w) A (letOwnedTupleGo target it v) (fun _ s₂'=>wpAny (model prog w) A (assign target env v) (fun _ s₂ =>
     wpAny (model prog w) A (forIn ifs true fun c r=>if r=true then do let ok ← isTrue c env (eval c env);pure (ForInStep.yield ok) else pure (ForInStep.yield r)) (fun ok s₃ =>
      if ok=true then wpAny (model prog w) A (eval elt env) (fun x s₄ =>
       wpAny (model prog w) A (call (.builtin "list.append") [acc,x]) (fun _ s₅=>∃ m,m < n/\I m s₅) (notedBy (model prog w) A env fun e s'=>R (.error e) s') s₄) (notedBy (model prog w) A env fun e s'=>R (.error e) s') s₃
      else ∃ m,m < n/\I m s₃) (notedBy (model prog w) A env fun e s'=>R (.error e) s') s₂) (notedBy (model prog w) A env fun e s'=>R (.error e) s') s₂') (notedBy (model prog w) A env fun e s'=>R (.error e) s') s₁) (notedBy (model prog w) A env fun e s'=>R (.error e) s') s)
  (n:Nat) (h:I n s) :
  codeAny (model prog w) A (.compLoop (.ListComp elt [⟨target,iter,ifs,0⟩] scope pos) 0 it acc env) R s:=by
 refine codeAny_loop rfl I (fun n s hI=>?_) n h
 show wpAny _ A ((compTurn (.ListComp elt [⟨target,iter,ifs,0⟩] scope pos) 0 it acc env).onRaise (fun x=>do noteFrame x env;theTreesLotGoes x)) _ _ s
 refine wpAny_noted ?_
 rw [compTurn_list]
 refine wpAny_bind (wpAny_standAt (wpAny_bind (wpAny_mono (turn n s hI) (fun r s₁ h₁=>?_) fun _ _ h'=>h')))
 cases r with
 | none=>exact wpAny_pure h₁
 | some v =>
  refine wpAny_bind (wpAny_mono h₁ (fun _ s₂' h₂'=>?_) fun _ _ h'=>h')
  refine wpAny_bind (wpAny_mono h₂' (fun _ s₂ h₂=>wpAny_bind (wpAny_mono h₂ (fun ok s₃ h₃=>?_) fun _ _ h'=>h')) fun _ _ h'=>h')
  cases ok with
  | false=>exact wpAny_pure ⟨rfl,h₃⟩
  | true =>
   exact wpAny_bind (wpAny_bind (wpAny_mono h₃ (fun x s₄ h₄=>wpAny_bind (wpAny_mono h₄ (fun _ s₅ h₅=>wpAny_pure (wpAny_pure ⟨rfl,h₅⟩)) fun _ _ h'=>h')) fun _ _ h'=>h'))
end
theorem nlt{a b:Nat}(h:b <= a):¬ a < b:=Nat.not_lt.mpr h
noncomputable def cxC(X:Cx)(scope:Scope)(own:List Str)(cap:List (Str × Nat))(fp:List Addr)(s2:Shared)(H2:Hp):Cx where
 prog:=X.prog
 w:=X.w
 K:=X.K
 mg:=X.mg
 base:=X.base
 A:=X.A
 N:=own ++ cap.map (·.1)
 s₀:=s2
 H₀:=H2
 env:={ scope:=relabel scope X.env,locals:=s2.heap.objs.size + 1,globals:=X.env.globals,cells:=cellsFrom (s2.heap.objs.size + 1 + 1) scope.names (clOf X.env scope.names []),qual:=X.env.qual,func:=none,code:=X.env.code,frame:=X.env.frame,builtins:=X.env.builtins }
 outer:=X.stack
 stack:=X.stack
 ex:=fp
 fn:=fun x=>scope.names.lookup x == some .cell
 calm:=X.calm
 pn:=[]
 xe:=fun _ _=>False
noncomputable def qa8w(own:List Str)(cap:List (Str × Nat))(σ:St):St:=List.replicate own.length none ++ cap.map fun p=>(σ[p.2]?).join
noncomputable def qa5r(X:Cx)(scope:Scope)(own:List Str)(cap:List (Str × Nat)):Bool:=
 scope.kind == .function && (scope.names.all fun y=>y.2 != .free || X.env.kindOf y.1 == some .cell || X.env.kindOf y.1 == some .free) &&
 (cap.all fun p=>X.N[p.2]? == some p.1 && scope.names.lookup p.1 == some .free) && (own.all fun x=>!((cap.map (·.1)).contains x))
section
variable{X:Cx}{pins:List (Addr × Obj)}{σ:St}{H2:Hp}{s2:Shared}{scope:Scope}{own:List Str}{cap:List (Str × Nat)}{fp:List Addr}
theorem qb2b(h:qa5r X scope own cap=true):scope.kind=.function:=by
 simp only [qa5r,Bool.and_eq_true,beq_iff_eq] at h
 exact h.1.1.1
theorem qb2c(h:qa5r X scope own cap=true):∀ y ∈ scope.names,y.2=.free->X.env.kindOf y.1=some .cell ∨ X.env.kindOf y.1=some .free:=by
 simp only [qa5r,Bool.and_eq_true,beq_iff_eq] at h
 intro y hy hf
 have q:=List.all_eq_true.mp h.1.1.2 y hy
 simp only [hf,bne_self_eq_false,Bool.false_or,Bool.or_eq_true,beq_iff_eq] at q
 exact q
theorem qc9h(h:qa5r X scope own cap=true):∀ p ∈ cap,X.N[p.2]? = some p.1/\scope.names.lookup p.1=some .free:=by
 simp only [qa5r,Bool.and_eq_true,beq_iff_eq] at h
 intro p hp
 have q:=List.all_eq_true.mp h.1.2 p hp
 simp only [Bool.and_eq_true,beq_iff_eq] at q
 exact q
theorem qd1k(I:Inv X pins σ H2 s2)(hok:qa5r X scope own cap=true)(hnd:(scope.names.map (·.1)).Nodup)(hfp:∀ b ∈ fp,FpOk X pins H2 b)(hob:∀ b ∈ fp,∃ o,s2.heap.get? b=some o) :
  Inv (cxC X scope own cap fp s2 H2) [] (qa8w own cap σ) (upd H2 s2.heap.objs.size (.lst []))
   { s2 with heap:=pushCells ((s2.heap.push { cls:=.type "list",dict:=none,data:=.seq ([]:List Value).toArray }).push { cls:=.type "dict",data:=.dict #[] }) scope.names }:=by
 have hkind:=qb2b hok
 have hfree:=qb2c hok
 have hcap:=qc9h hok
 have hdf:H2 s2.heap.objs.size=none:=I.fresh
 generalize hh1:s2.heap.push { cls:=.type "list",dict:=none,data:=.seq ([]:List Value).toArray }=h1
 have z1:h1.objs.size=s2.heap.objs.size + 1:=by rw [← hh1,Heap.size_push]
 generalize hh2:h1.push { cls:=.type "dict",data:=.dict #[] }=h2
 have z2:h2.objs.size=s2.heap.objs.size + 1 + 1:=by rw [← hh2,Heap.size_push,z1]
 have k1:∀ b o,s2.heap.get? b=some o->h1.get? b=some o:=fun b o e=>by rw [← hh1];exact Heap.get?_push_of_some _ e
 have k2:∀ b o,h1.get? b=some o->h2.get? b=some o:=fun b o e=>by rw [← hh2];exact Heap.get?_push_of_some _ e
 have k3:∀ b o,h2.get? b=some o->(pushCells h2 scope.names).get? b=some o:=fun b o e=>pushCells_keeps _ _ b o e
 have k:∀ b o,s2.heap.get? b=some o->(pushCells h2 scope.names).get? b=some o:=fun b o e=>k3 b o (k2 b o (k1 b o e))
 have hD:(pushCells h2 scope.names).get? s2.heap.objs.size=some { cls:=.type "list",dict:=none,data:=.seq ([]:List Value).toArray }:=by
  refine k3 _ _ (k2 _ _ ?_)
  rw [← hh1];exact Heap.get?_push_size _ rfl
 have hC:(pushCells h2 scope.names).Ns (s2.heap.objs.size + 1) fun _=>none:=by
  have q:h2.Ns h1.objs.size fun _=>none:=by rw [← hh2];exact Heap.Ns.new h1 (.type "dict")
  rw [z1] at q
  exact q.keeps k3
 have own_ok:=cellsFrom_ok scope.names h2 (s2.heap.objs.size + 1 + 1) [] ⟨fun _ _ hm=>(nomatch hm),List.Pairwise.nil⟩ (by rw [z2];exact Nat.le_refl _)
 rw [z2] at own_ok
 have ec:(cxC X scope own cap fp s2 H2).env.cells=cellsFrom (s2.heap.objs.size + 1 + 1) scope.names [] ++ clOf X.env scope.names []:=qa4r _ _ _
 -- an entry is a new cell, or one of the names around
 have split:∀ x c,(cxC X scope own cap fp s2 H2).env.cells.lookup x=some c->((x,c) ∈ cellsFrom (s2.heap.objs.size + 1 + 1) scope.names []) ∨ ((x,NameKind.free) ∈ scope.names/\X.env.cells.lookup x=some c):=fun x c e=>by
  rw [ec,qa6y] at e
  cases e1:(cellsFrom (s2.heap.objs.size + 1 + 1) scope.names []).lookup x with
  | some c'=>rw [e1] at e;cases e;exact .inl (mem_of_lookup e1)
  | none =>
   rw [e1] at e
   have e':(clOf X.env scope.names []).lookup x=some c:=e
   obtain⟨m1,m2⟩:=qa6x (mem_of_lookup e')
   obtain⟨c',hc'⟩:=I.ok.has x (hfree _ m1 rfl)
   rw [hc'] at m2
   exact .inr ⟨m1,by rw [hc',m2];rfl⟩
 have capCell:∀ x,(x,NameKind.free) ∈ scope.names->∀ c,X.env.cells.lookup x=some c->(cxC X scope own cap fp s2 H2).env.cells.lookup x=some c:=fun x hx c hc=>by
  rw [ec,qa6y]
  cases e1:(cellsFrom (s2.heap.objs.size + 1 + 1) scope.names []).lookup x with
  | some c' =>
   have q:=(qa2x (mem_of_lookup e1)).1
   have q1:=qa5b hnd q
   have q2:=qa5b hnd hx
   rw [q1] at q2;cases q2
  | none =>
   obtain⟨u,hu⟩:=lookup_mem (qb7n (env:=X.env) hx)
   have m2:=(qa6x (mem_of_lookup hu)).2
   rw [hc] at m2
   show(clOf X.env scope.names []).lookup x=some c
   rw [hu,m2];rfl
 have lt_of_around:∀ x c,X.env.cells.lookup x=some c->c < s2.heap.objs.size:=fun x c e=>by
  obtain⟨v,q⟩:=I.cell x c e
  exact q.lt
 have kof:∀ x,(cxC X scope own cap fp s2 H2).env.kindOf x=(scope.names.lookup x).map fun k=>if (k == NameKind.free && X.env.scope.kind == .function && X.env.kindOf x == some .cell) then NameKind.cell else k:=fun x=>qb1j X.env x scope.names
 have fpLt:∀ b ∈ fp,b < s2.heap.objs.size:=fun b hb=>by obtain⟨o,e⟩:=hob b hb;exact Heap.lt_size e
 have hokH:HOk X.prog X.w (upd H2 s2.heap.objs.size (.lst [])) (pushCells h2 scope.names):=I.hok.laid k (Nat.le_refl _) ⟨Nat.zero_le _,[],_,.nil,hD⟩
 refine⟨⟨I.ok.mod,?_,I.ok.glob,I.ok.blt,Nat.le_succ _,fun x y c e1 e2=>?_,fun x hx=>?_,fun x c hf e=>?_,I.ok.hd,I.ok.frames,.inl rfl,fun b hb=>⟨?_,fun x c e=>?_⟩,I.bs,Nat.le_trans I.ok.bsz I.sz,fun b o e hb=>?_,fun b hb hb2=>?_,I.stack,I.stkFree⟩,
  rfl,I.bare,Un.laid k (Nat.le_refl _) hdf,⟨_,hC,fun i x v e1 e2 e3=>?_⟩,fun x c e=>?_,?_,fun x c e=>?_,fun p hp=>?_,hokH,?_⟩
 ·exact hkind
 ·rcases split x c e1 with m1 | ⟨m1,q1⟩<;>rcases split y c e2 with m2 | ⟨m2,q2⟩
  ·exact name_of_addr own_ok.apart m1 m2
  ·exact absurd (lt_of_around y c q2) (nlt (by have:=(qa2x m1).2;omega))
  ·exact absurd (lt_of_around x c q1) (nlt (by have:=(qa2x m2).2;omega))
  ·exact I.ok.inj x y c q1 q2
 ·rw [kof x] at hx
  cases e1:scope.names.lookup x with
  | none=>rw [e1] at hx;rcases hx with z | z<;>cases z
  | some kx =>
   have mx:=mem_of_lookup e1
   cases kx with
   | free =>
    obtain⟨c,hc⟩:=I.ok.has x (hfree _ mx rfl)
    exact⟨c,capCell x mx c hc⟩
   | cell =>
    have q:=PySem.W.cellsFrom_some scope.names (s2.heap.objs.size + 1 + 1) (clOf X.env scope.names []) (x:=x) (.inl e1)
    exact Option.isSome_iff_exists.mp q
   | _=>rw [e1] at hx;rcases hx with z | z<;>simp at z
 ·rcases split x c e with m1 | ⟨m1,q1⟩
  ·have:=(qa2x m1).2;show s2.heap.objs.size <= c;omega
  ·have q2:=qa5b hnd m1
   have hf':(scope.names.lookup x == some NameKind.cell)=true:=hf
   rw [q2] at hf';simp at hf'
 ·exact Nat.ne_of_lt (Nat.lt_succ_of_lt (fpLt b hb))
 ·have h1:=fpLt b hb
  rcases split x c e with m1 | ⟨m1,q1⟩
  ·exact Nat.ne_of_gt (Nat.lt_of_lt_of_le h1 (by have:=(qa2x m1).2;omega))
  ·exact(hfp b hb).2.2.2.2.1 x c q1
 ·rcases (hfp b hb).2.2.2.1 with z | z
  ·exact I.ok.noex b o e z
  ·exact absurd (Nat.lt_of_lt_of_le (Heap.lt_size e) (Nat.le_trans I.ok.bsz z)) (Nat.lt_irrefl _)
 ·rcases List.mem_cons.mp (I.stkSub b hb2) with z | z
  ·exact(hfp b hb).2.1 z
  ·exact(hfp b hb).2.2.1 z
 ·-- names that are closed over
  have ei:own.length <= i:=by
   by_cases hi:i < own.length
   ·unfold qa8w at e2
    rw [List.getElem?_append_left (by simpa using hi),List.getElem?_replicate,if_pos hi] at e2
    cases e2
   ·omega
  have e1':(cap.map (·.1))[i - own.length]? = some x:=by
   have:(own ++ cap.map (·.1))[i]? = some x:=e1
   rwa [List.getElem?_append_right ei] at this
  have e2':(cap.map fun p=>(σ[p.2]?).join)[i - own.length]? = some (some v):=by
   unfold qa8w at e2
   rw [List.getElem?_append_right (by simpa using ei)] at e2
   simpa using e2
  rw [List.getElem?_map] at e1' e2'
  cases ep:cap[i - own.length]? with
  | none=>rw [ep] at e1';cases e1'
  | some p =>
   rw [ep] at e1' e2'
   have hx:p.1=x:=by simpa using e1'
   have hv:(σ[p.2]?).join=some v:=by simpa using e2'
   have hσ:σ[p.2]? = some (some v):=by
    cases eσ:σ[p.2]? with
    | none=>rw [eσ] at hv;cases hv
    | some w'=>rw [eσ] at hv;simp at hv;rw [hv]
   obtain⟨hN,hl⟩:=hcap p (List.mem_of_getElem? ep)
   rw [hx] at hN hl
   have mx:=mem_of_lookup hl
   have hvis:Vis X.env.scope x:=by
    rcases hfree _ mx rfl with z | z
    ·exact .inr (.inl z)
    ·exact .inr (.inr z)
   obtain⟨m,_,hl'⟩:=I.loc
   obtain⟨u,r,lk⟩:=hl' p.2 x v hN hσ hvis
   refine⟨u,r,.inr ?_⟩
   rcases lk with⟨z,_⟩ | ⟨z,c,hc,hcell⟩
   ·rcases hfree _ mx rfl with z' | z'<;>rw [z'] at z<;>cases z
   ·refine⟨?_,c,capCell x mx c hc,hcell.keeps k⟩
    rw [kof x,hl]
    by_cases hcc:(NameKind.free == NameKind.free && X.env.scope.kind == .function && X.env.kindOf x == some .cell)=true
    ·left;simp only [Option.map_some,if_pos hcc]
    ·right;simp only [Option.map_some,if_neg hcc]
 ·rcases split x c e with m1 | ⟨m1,q1⟩
  ·exact⟨_,(own_ok.empty x c m1).1⟩
  ·obtain⟨v,q⟩:=I.cell x c q1
   exact⟨v,q.keeps k⟩
 ·show upd H2 s2.heap.objs.size (.lst []) (s2.heap.objs.size + 1)=none
  rw [qa1h (Nat.succ_ne_self _)]
  exact I.hok.fresh (Nat.le_succ _)
 ·rcases split x c e with m1 | ⟨m1,q1⟩
  ·have hle:=(qa2x m1).2
   rw [qa1h (Nat.ne_of_gt (Nat.lt_of_lt_of_le (Nat.lt_succ_self _) (by omega)))]
   exact I.hok.fresh (by omega)
  ·rw [qa1h (Nat.ne_of_lt (lt_of_around x c q1))]
   exact I.freeC x c q1
 ·exact absurd (show p ∈ ([]:List (Addr × Obj)) from hp) (by simp)
 ·unfold qa8w
  show _=(own ++ cap.map (·.1)).length
  simp
end
def PIf(X:Cx)(ifs:List Expr)(t:TT):Prop:=
 ∀ (pins:List (Addr × Obj)) (s:Shared) (σ:St) (H:Hp) (Q:Bool->Hp->Prop),Inv X pins σ H s->t σ H Q ->
  wpAny (model X.prog X.w) X.A (forIn ifs true fun c r=>if r=true then do let ok ← isTrue c X.env (eval c X.env);pure (ForInStep.yield ok) else pure (ForInStep.yield r)) (TP X pins σ Q) X.xe s
def tYes:TT:=fun _ H Q=>Q true H
theorem pif_nil{X:Cx}:PIf X [] tYes:=fun _ _ _ H _ I h=>wpAny_tests_nil ⟨H,I,h⟩
theorem pif_one{X:Cx}{c:Expr}{t:TT}(h:PT X c t):PIf X [c] t:=fun pins s σ H Q I hq=>wpAny_tests_one (h pins s σ H Q I hq)
def qc0k(own:List Str)(cap:List (Str × Nat))(g:TG)(tt:TT)(te:TE)(J:It)(D:Addr)(σ:St)(H1:Hp)(Z:Hp->Prop):Prop:=
 ∃ W:Nat->Nat->St->Hp->Prop,(∃ m,W 0 m (qa8w own cap σ) (upd H1 D (.lst [])))/\∀ i m σ' H',W i m σ' H' ->
  (J.stop i H'/\Z H') ∨ (J.go i H'/\∃ N:St->Hp->Prop,(∀ σ'' H'',N σ'' H''->∃ m',m' < m/\W (i + 1) m' σ'' H'')/\∀ x H'',J.yld i H' x H'' ->
   g x σ' H'' fun σ2 H2=>tt σ2 H2 fun b H3=>if b=true then te σ2 H3 fun y H4=>∃ ys,H4 D=some (.lst ys)/\ys.length < sizeLine/\N σ2 (upd H4 D (.lst (ys ++ [y]))) else N σ2 H3)
def tComp(own:List Str)(cap:List (Str × Nat))(wi:TI)(g:TG)(tt:TT)(te:TE):TE:=fun σ H Q=>wi σ H fun J H1=>∀ D,H1 D=none->qc0k own cap g tt te J D σ H1 (Q (.ref D))
theorem qc0l{X:Cx}{elt tg iter:Expr}{ifs:List Expr}{scope:Scope}{pos:Pos}{own:List Str}{cap:List (Str × Nat)}{g:TG}{tt:TT}{te:TE}
  (hc:X.calm=true) (hok:qa5r X scope own cap=true) (hnd:(scope.names.map (·.1)).Nodup)
  (hg:∀ fp s2 H2,PG (cxC X scope own cap fp s2 H2) tg g) (ht:∀ fp s2 H2,PIf (cxC X scope own cap fp s2 H2) ifs tt) (he:∀ fp s2 H2,PE (cxC X scope own cap fp s2 H2) elt te)
  {pins:List (Addr × Obj)} {σ:St} {H1:Hp} {s2:Shared} {it:Addr} {fp:List Addr} {tn:Nat->Heap->Prop} {J:It} {Z:Hp->Prop} {RR:Result->Shared->Prop}
  (I:Inv X pins σ H1 s2) (T:Turn X.prog X.w X.K tg J fp it tn) (h0:tn 0 s2.heap) (hfp:∀ b ∈ fp,FpOk X pins H1 b)
  (hb:qc0k own cap g tt te J s2.heap.objs.size σ H1 Z)
  (hR:∀ s' H' m,(∀ h',Heap.SameBut (s2.heap.objs.size + 1) s'.heap h'->Inv X pins σ H' { s' with heap:=h' })->s'.heap.Ns (s2.heap.objs.size + 1) m->H' (s2.heap.objs.size + 1)=none->Z H'->RR (.ok .next) s') :
  wpAny (model X.prog X.w) X.A (newFunctionEnv scope X.env.globals (clOf X.env scope.names []) [] X.env.qual none .none (some X.env)) (fun cenv s₄ =>
   cenv.locals=s2.heap.objs.size + 1/\codeAny (model X.prog X.w) X.A (.compStart (.ListComp elt [⟨tg,iter,ifs,0⟩] scope pos) 0 (.ref it) (.ref s2.heap.objs.size) { cenv with scope:=relabel scope X.env }) RR s₄)
   X.xe { s2 with heap:=s2.heap.push { cls:=.type "list",dict:=none,data:=.seq ([]:List Value).toArray } }:=by
 have hob:∀ b ∈ fp,∃ o,s2.heap.get? b=some o:=fun b hb=>let ⟨o,e,_⟩:=T.obj _ _ h0 b hb;⟨o,e⟩
 have I0:=qd1k (own:=own) (cap:=cap) I hok hnd hfp hob
 refine qc3e ?_
 have z1:(s2.heap.push { cls:=.type "list",dict:=none,data:=.seq ([]:List Value).toArray }).objs.size=s2.heap.objs.size + 1:=Heap.size_push ..
 dsimp only
 rw [z1]
 refine⟨rfl,?_⟩
 show codeAny (model X.prog X.w) X.A (.compStart (.ListComp elt [⟨tg,iter,ifs,0⟩] scope pos) 0 (.ref it) (.ref s2.heap.objs.size) (cxC X scope own cap fp s2 H1).env) RR _
 generalize hs4:({ s2 with heap:=pushCells ((s2.heap.push { cls:=.type "list",dict:=none,data:=.seq ([]:List Value).toArray }).push { cls:=.type "dict",data:=.dict #[] }) scope.names }:Shared)=s4 at I0 ⊢
 have kp:∀ b o,s2.heap.get? b=some o->s4.heap.get? b=some o:=fun b o e=>by
  rw [← hs4];exact pushCells_keeps _ _ b o (Heap.get?_push_of_some _ (Heap.get?_push_of_some _ e))
 have st4:tn 0 s4.heap:=T.keep _ _ _ h0 fun b _ o e=>kp b o e
 obtain⟨W,⟨m0,w0⟩,turn⟩:=hb
 -- the iterator's records are the block's own
 have stat:∀ {H':Hp},(∀ b ∈ fp,H' b=none)->∀ b ∈ fp,FpOk (cxC X scope own cap fp s2 H1) [] H' b:=fun hn b hb =>
  ⟨hn b hb,(I0.ok.exf b hb).1,I0.ok.exfs b hb,.inl hb,fun x c e=>(I0.ok.exf b hb).2 x c e,fun p hp=>absurd (show p ∈ ([]:List (Addr × Obj)) from hp) (by simp)⟩
 have fr0:∀ b ∈ fp,upd H1 s2.heap.objs.size (.lst []) b=none:=fun b hb=>by
  obtain⟨o,e⟩:=hob b hb
  rw [qa1h (Nat.ne_of_lt (Heap.lt_size e))]
  exact(hfp b hb).1
 have loop:codeAny (model X.prog X.w) X.A (.compLoop (.ListComp elt [⟨tg,iter,ifs,0⟩] scope pos) 0 (.ref it) (.ref s2.heap.objs.size) (cxC X scope own cap fp s2 H1).env) RR s4:=by
  refine qc3f (fun n s'=>∃ i σ' H',Inv (cxC X scope own cap fp s2 H1) [] σ' H' s'/\tn i s'.heap/\(∀ b ∈ fp,H' b=none)/\W i n σ' H') ?_ m0 ⟨0,_,_,I0,st4,fr0,w0⟩
  rintro n s3 ⟨i,σ3,H3,I3,st3,fr3,w3⟩
  rcases turn i n σ3 H3 w3 with⟨stop,qn⟩ | ⟨go,N,hN,step⟩
  ·refine wpAny_noRaise (thn (T.done (cxC X scope own cap fp s2 H1) rfl rfl rfl hc i [] s3 σ3 H3 _ I3 (stat fr3) st3 stop) fun r s5 hq9=>?_)
   obtain⟨hr,I5⟩:=hq9
   subst hr
   obtain⟨m5,hm5,_⟩:=id I5.loc
   refine hR s5 H3 m5 (fun h' hs'=>?_) hm5 I5.free qn
   ·have un:Un (frs X.stack) fp H1 H3 s2.heap s5.heap:=I5.base
    have low:∀ b o,s2.heap.get? b=some o->b ≠ s2.heap.objs.size + 1:=fun b o e=>Nat.ne_of_lt (Nat.lt_succ_of_lt (Heap.lt_size e))
    refine I.call' (s':={ s5 with heap:=h' }) (ch:=fp) I5.os ⟨fun b o e n hb hx=>(hs'.2 b (low b o e)).trans (un.keep b o e n hb hx),fun b o e n hb hx=>?_,un.free,fun b o e hx=>?_,un.tups,un.frzs,un.tbls⟩ ?_ I5.bare fun b hb=>⟨(hfp b hb).2.2.2.1,(hfp b hb).2.1,(hfp b hb).2.2.2.2.1,(hfp b hb).2.2.2.2.2⟩
    ·obtain⟨sl,q⟩:=un.slot b o e n hb hx
     exact⟨sl,(hs'.2 b (low b o e)).trans q⟩
    ·obtain⟨o',q⟩:=un.there b o e hx
     exact⟨o',(hs'.2 b (low b o e)).trans q⟩
    ·intro b ob e
     refine(I5.hok b ob e).stay (fun c w' hc' q=>(hs'.2 c ?_).trans q) (fun _ q=>q) fun _ _ q=>q
     have nC:H3 (s2.heap.objs.size + 1)=none:=I5.free
     rintro rfl
     rcases hc' with rfl | hc'
     ·rw [nC] at e;cases e
     ·rw [nC] at hc';cases hc'
  ·refine wpAny_noRaise (thn (T.item (cxC X scope own cap fp s2 H1) rfl rfl rfl hc i [] s3 σ3 H3 (fun _ _=>False) I3 (stat fr3) st3 go) fun r s5 hq9=>?_)
   obtain⟨u,hr,h5⟩:=hq9
   subst hr
   refine wpAny_noRaise (thn h5 fun _ s6 hq9=>?_)
   obtain⟨x,H6,I6,r6,y6,st6,fr6⟩:=hq9
   have I6':=I6.pinned (stat fr6) (T.obj _ _ st6)
   refine wpAny_noRaise (thn (hg fp s2 H1 _ s6 σ3 H6 x u _ I6' r6 (step x H6 y6)) fun _ s7 hq9=>?_)
   obtain⟨σ7,H7,I7,q7⟩:=hq9
   refine wpAny_noRaise (thn (ht fp s2 H1 _ s7 σ7 H7 _ I7 q7) fun ok s8 hq9=>?_)
   obtain⟨H8,I8,q8⟩:=hq9
   have again:∀ {σ9:St} {H9:Hp} {s9:Shared},Inv (cxC X scope own cap fp s2 H1) ([] ++ qb3i fp s6.heap) σ9 H9 s9->N σ9 H9->∃ m,m < n/\∃ i σ' H',Inv (cxC X scope own cap fp s2 H1) [] σ' H' s9/\tn i s9.heap/\(∀ b ∈ fp,H' b=none)/\W i m σ' H':=fun{σ9 H9 s9} I9 n9=>by
    obtain⟨m',hm,w9⟩:=hN σ9 H9 n9
    refine⟨m',hm,i + 1,σ9,H9,I9.unpinned,T.keep _ _ _ st6 fun b hb o e=>(I9.pin (b,o) (List.mem_append_right _ (List.mem_append_right _ (qa8r hb e)))).1,fun b hb=>?_,w9⟩
    obtain⟨o,e,d⟩:=T.obj _ _ st6 b hb
    exact(I9.pin (b,o) (List.mem_append_right _ (List.mem_append_right _ (qa8r hb e)))).2.1
   cases ok with
   | false=>exact again I8 q8
   | true =>
    rw [if_pos rfl] at q8
    rw [if_pos rfl]
    refine wpAny_noRaise (thn (he fp s2 H1 _ s8 σ7 H8 _ I8 q8) fun y s9 hq9=>?_)
    obtain⟨yv,H9,I9,r9,ys,hD,hz,q9⟩:=hq9
    refine wpAny_noRaise (thn (qb8q _ s9 σ7 H9 (.ref s2.heap.objs.size) [yv] (.ref s2.heap.objs.size) [y] (fun _ H'=>N σ7 H') I9 rfl (.cons r9 .nil) ⟨_,ys,yv,rfl,rfl,hD,hz,q9⟩) fun _ s10 hq9=>?_)
    obtain⟨_,H10,I10,_,q10⟩:=hq9
    exact again I10 q10
 exact codeAny_compStart_list loop (T.self X.A 0 _ _ _ st4 loop)
theorem qb4x{scope:Scope}(hnd:(scope.names.map (·.1)).Nodup):∀ x ∈ scope.names,x.2=.local->scope.names.lookup x.1=some .local:=fun x hx e=>by
 obtain⟨n,k⟩:=x
 have e':k=.local:=e
 subst e'
 exact qa5b hnd hx
theorem pe_comp{X:Cx}{elt tg iter:Expr}{ifs:List Expr}{scope:Scope}{pos:Pos}{own:List Str}{cap:List (Str × Nat)}{wi:TI}{g:TG}{tt:TT}{te:TE}
  (hc:X.calm=true) (hok:qa5r X scope own cap=true) (hnd:(scope.names.map (·.1)).Nodup) (hi:PI X tg iter wi)
  (hg:∀ fp s2 H2,PG (cxC X scope own cap fp s2 H2) tg g) (ht:∀ fp s2 H2,PIf (cxC X scope own cap fp s2 H2) ifs tt) (he:∀ fp s2 H2,PE (cxC X scope own cap fp s2 H2) elt te)
  (hs:∀ x,foldedSetIterable iter X.env x=pure x:=by intro _;rfl) :
  PE X (.ListComp elt [⟨tg,iter,ifs,0⟩] scope pos) (tComp own cap wi g tt te):=by
 intro pins s σ H Q I h
 have hkind:=qb2b hok
 have hclos:closureFor scope X.env=pure (clOf X.env scope.names []):=qb3a fun y hy hf=>I.ok.has y.1 (qb2c hok y hy hf)
 rw [eval_ListComp]
 refine wpAny_comprehension_free (use:=none) rfl hs hclos hkind (qb4x hnd) (thn (hi pins s σ H _ I h) fun xv s1 h1=>thn h1 fun itv s2 h2=>?_)
 obtain⟨it,fp,tn,J,H1,e,I2,T,st2,f2,hb⟩:=h2
 subst e
 refine wpAny_newObj_type (thn (qc0l (iter:=iter) (pos:=pos) (RR:=compPost (model X.prog X.w) X.A X.xe none (EP X pins σ Q) (.ref s2.heap.objs.size) (s2.heap.objs.size + 1)) hc hok hnd hg ht he I2 T st2 f2 (hb _ I2.fresh) fun s' H' m hI hm hnC z=>?_) fun cenv s4 ⟨e,q⟩=>?_)
 ·exact⟨m,hm,fun h' hs'=>⟨.ref s2.heap.objs.size,H',hI h' hs',rfl,z⟩⟩
 ·rw [← e] at q;exact q
theorem ps_setC{X:Cx}{i:Nat}{y:Str}{py spos:Pos}{elt tg iter:Expr}{ifs:List Expr}{scope:Scope}{pos:Pos}{own:List Str}{cap:List (Str × Nat)}{wi:TI}{g:TG}{tt:TT}{te:TE}
  (hN:X.N.Nodup) (hi':X.N[i]? = some y) (hy:X.env.scope.names.lookup y=some .local)
  (hc:X.calm=true) (hok:qa5r X scope own cap=true) (hnd:(scope.names.map (·.1)).Nodup) (hi:PI X tg iter wi)
  (hg:∀ fp s2 H2,PG (cxC X scope own cap fp s2 H2) tg g) (ht:∀ fp s2 H2,PIf (cxC X scope own cap fp s2 H2) ifs tt) (he:∀ fp s2 H2,PE (cxC X scope own cap fp s2 H2) elt te)
  (hsw:swapsWith (.ListComp elt [⟨tg,iter,ifs,0⟩] scope pos) (some (.Name y py)) spos.line X.env=pure true:=by rfl)
  (hs:∀ x,foldedSetIterable iter X.env x=pure x:=by intro _;rfl) :
  PS X (.Assign [.Name y py] (.ListComp elt [⟨tg,iter,ifs,0⟩] scope pos) spos) (tAsg (tComp own cap wi g tt te) (qa8q i)):=by
 intro pins s σ H D I h
 have hkind:=qb2b hok
 have hclos:closureFor scope X.env=pure (clOf X.env scope.names []):=qb3a fun y hy hf=>I.ok.has y.1 (qb2c hok y hy hf)
 rw [exec_Assign_Name_used _ _ _ _ hsw]
 refine wpAny_bind (wpAny_standAt (wpAny_bind ?_))
 show wpAny _ X.A (do let _ ← comprehension (.ListComp elt [⟨tg,iter,ifs,0⟩] scope pos) scope X.env _ (newList []) false (eval iter X.env) (some (assign (.Name y py) X.env))) _ _ s
 refine wpAny_bind (wpAny_mono (wpAny_comprehension_free (use:=some (assign (.Name y py) X.env)) (Q:=fun _ s'=>SP X pins D .next s') rfl hs hclos hkind (qb4x hnd)
  (thn (hi pins s σ H _ I h) fun xv s1 h1=>thn h1 fun itv s2 h2=>?_)) (fun _ s' hq=>wpAny_pure (wpAny_pure hq)) fun _ _ e=>e)
 obtain⟨it,fp,tn,J,H1,e,I2,T,st2,f2,hb⟩:=h2
 subst e
 refine wpAny_newObj_type (thn (qc0l (iter:=iter) (pos:=pos) (RR:=compPost (model X.prog X.w) X.A X.xe (some (assign (.Name y py) X.env)) (fun _ s'=>SP X pins D .next s') (.ref s2.heap.objs.size) (s2.heap.objs.size + 1)) hc hok hnd hg ht he I2 T st2 f2 (hb _ I2.fresh) fun s' H' m hI hm hnC z=>?_) fun cenv s4 ⟨e,q⟩=>?_)
 ·show wpAny _ _ (assign (.Name y py) X.env (.ref s2.heap.objs.size)) _ _ s'
  have I':Inv X pins σ H' s':=hI s'.heap (Heap.SameBut.refl ..)
  refine wpAny_assign_Name (qb8l I' hN hi' (.inl hy) (v:=.ref s2.heap.objs.size) rfl (fun s'' I'' hsb=>?_) (.inr hy))
  obtain⟨a,hs1,ha⟩:=hsb
  have nC:s2.heap.objs.size + 1 ≠ a:=by
   rintro rfl
   rcases ha with ha | ha
   ·have q:=I2.lt
    rw [← ha] at q
    exact absurd q (nlt (Nat.le_succ _))
   ·obtain⟨v,q⟩:=I2.cell _ _ ha
    exact absurd q.lt (nlt (Nat.le_succ _))
  refine⟨m,hm.sameBut hs1 nC,fun h' hs'=>⟨_,H',?_,z⟩⟩
  obtain⟨_,f1,f2,f3,f4,f5⟩:=I2.fpOk (b:=s2.heap.objs.size + 1) (Nat.le_succ _) hnC
  exact I''.turned (t':=s''.toks) (it:=s2.heap.objs.size + 1) (fun b o hb e=>(hs'.2 b hb).trans e) hnC f1 f3 f4 f5
 ·rw [← e] at q;exact q
end L2
end
section
namespace L2
open PySem PySem.Spec PyProof.Rows
theorem qa1u:bootBuiltins "len" = some (.builtin "len"):=by decide +kernel
theorem qb9h:bootBuiltins "isinstance" = some (.builtin "isinstance"):=by decide +kernel
theorem qc5a:bootBuiltins "repr" = some (.builtin "repr"):=by decide +kernel
theorem qc3g:bootBuiltins "reversed" = some (.type "reversed"):=by decide +kernel
theorem bt_int:bootBuiltins "int" = some (.type "int"):=by decide +kernel
theorem bt_str:bootBuiltins "str" = some (.type "str"):=by decide +kernel
theorem qc5b:bootBuiltins "list" = some (.type "list"):=by decide +kernel
theorem qa3m:bootBuiltins "tuple" = some (.type "tuple"):=by decide +kernel
theorem qc5c:bootBuiltins "dict" = some (.type "dict"):=by decide +kernel
noncomputable def kvE(p:Str × Int):Key × V:=(Sum.inr p.1,V.int p.2)
noncomputable def kvD(p:Str × Int):PyData × PyData:=(.str p.1,.int p.2)
inductive FD where
 | none
 | bool (b:Bool)
 | int (n:Int)
 | str (x:Str)
noncomputable def FD.v:FD->V
 | .none=>.non
 | .bool b=>.bl b
 | .int n=>.int n
 | .str x=>.str x
noncomputable def FD.d:FD->PyData
 | .none=>.none
 | .bool b=>.bool b
 | .int n=>.int n
 | .str x=>.str x
noncomputable def keyD:Key->PyData
 | .inl i=>.int i
 | .inr x=>.str x
noncomputable def gE(p:Key × FD):Key × V:=(p.1,p.2.v)
noncomputable def gD(p:Key × FD):PyData × PyData:=(keyD p.1,p.2.d)
noncomputable def emb(p:Str × Int):Key × FD:=(Sum.inr p.1,FD.int p.2)
theorem emb_E(ν:List (Str × Int)):(ν.map emb).map gE=ν.map kvE:=by rw [List.map_map];rfl
theorem emb_D(ν:List (Str × Int)):(ν.map emb).map gD=ν.map kvD:=by rw [List.map_map];rfl
mutual
noncomputable def AtD(K:PySem.W.Frag)(H:Hp)(S:Addr->Prop):PyData->V->Prop
 | .none,v=>v=.non
 | .bool b,v=>v=.bl b
 | .int i,v=>v=.int i
 | .str x,v=>v=.str x
 | .list ds,v=>∃ a xs,v=.ref a/\S a/\H a=some (.lst xs)/\qa0d K H S ds xs
 | .tuple ds,v=>∃ a xs,v=.ref a/\SqT K H a xs/\qa0d K H S ds xs
 | .dict kvs,v=>∃ (a:Addr) (κ:List (Key × V)),v=.ref a/\S a/\H a=some (.dK κ)/\qa0l K H S kvs κ
noncomputable def qa0d(K:PySem.W.Frag)(H:Hp)(S:Addr->Prop):List PyData->List V->Prop
 | [],vs=>vs=[]
 | d :: ds,vs=>∃ v r,vs=v :: r/\AtD K H S d v/\qa0d K H S ds r
noncomputable def qa0l(K:PySem.W.Frag)(H:Hp)(S:Addr->Prop):List (PyData × PyData)->List (Key × V)->Prop
 | [],κ=>κ=[]
 | (x,d) :: r,κ=>∃ k v t,κ=(k,v) :: t/\x=keyD k/\AtD K H S d v/\qa0l K H S r t
end
abbrev Any:Addr->Prop:=fun _=>True
abbrev But(t:Addr):Addr->Prop:=fun b=>b ≠ t
def Keep(S:Addr->Prop)(H H':Hp):Prop:=(∀ b xs,H b=some (.tup xs)->H' b=some (.tup xs))/\(∀ b o u,H b=some (.frz o u)->H' b=some (.frz o u))/\∀ b o,S b->H b=some o->H' b=some o
section
variable{K:PySem.W.Frag}{H H':Hp}{S S':Addr->Prop}
theorem Keep.refl(S:Addr->Prop)(H:Hp):Keep S H H:=⟨fun _ _ h=>h,fun _ _ _ h=>h,fun _ _ _ h=>h⟩
theorem Keep.less(e:Keep S H H')(h:∀ b,S' b->S b):Keep S' H H':=⟨e.1,e.2.1,fun b xs s q=>e.2.2 b xs (h b s) q⟩
theorem Same.keep(e:Same H H'):Keep S H H':=⟨fun b xs h=>e b _ h,fun b o xs h=>e b _ h,fun b xs _ h=>e b _ h⟩
theorem qc9i{p:Addr}{xs ys:List V}(h:H p=some (.lst xs)):Keep (But p) H (upd H p (.lst ys)):=
 ⟨fun b zs q=>by rw [qa1h (qa8p q h (by intro z;cases z))];exact q,fun b o zs q=>by rw [qa1h (qa8p q h (by intro z;cases z))];exact q,fun b zs hb q=>by rw [qa1h hb];exact q⟩
theorem Keep.seqT{a:Addr}{xs:List V}(e:Keep S H H')(h:SqT K H a xs):SqT K H' a xs:=by
 rcases h with(h | ⟨o,h⟩) | h
 ·exact .inl (.inl (e.1 _ _ h))
 ·exact .inl (.inr ⟨o,e.2.1 _ _ _ h⟩)
 ·exact .inr h
theorem qa2a{H:Hp}{p:Addr}(h:H p=none)(o:HO):Same H (upd H p o):=fun b u q=>by rw [qa1h (qa3g q h)];exact q
mutual
theorem AtD.mono(e:Keep S H H'):∀ (d:PyData) (v:V),AtD K H S d v->AtD K H' S d v
 | .none,_,h=>by unfold AtD at h ⊢;exact h
 | .bool _,_,h=>by unfold AtD at h ⊢;exact h
 | .int _,_,h=>by unfold AtD at h ⊢;exact h
 | .str _,_,h=>by unfold AtD at h ⊢;exact h
 | .list ds,v,h=>by
  unfold AtD at h ⊢
  obtain⟨a,xs,e1,s,q,r⟩:=h
  exact⟨a,xs,e1,s,e.2.2 _ _ s q,qa0d.mono e ds xs r⟩
 | .tuple ds,v,h=>by
  unfold AtD at h ⊢
  obtain⟨a,xs,e1,q,r⟩:=h
  exact⟨a,xs,e1,e.seqT q,qa0d.mono e ds xs r⟩
 | .dict kvs,v,h=>by
  unfold AtD at h ⊢
  obtain⟨a,ν,e1,s,q,e2⟩:=h
  exact⟨a,ν,e1,s,e.2.2 a _ s q,qa0l.mono e kvs ν e2⟩
theorem qa0d.mono(e:Keep S H H'):∀ (ds:List PyData) (vs:List V),qa0d K H S ds vs->qa0d K H' S ds vs
 | [],_,h=>by unfold qa0d at h ⊢;exact h
 | d :: ds,vs,h=>by
  unfold qa0d at h ⊢
  obtain⟨v,r,e1,h1,h2⟩:=h
  exact⟨v,r,e1,AtD.mono e d v h1,qa0d.mono e ds r h2⟩
theorem qa0l.mono(e:Keep S H H'):∀ (kvs:List (PyData × PyData)) (κ:List (Key × V)),qa0l K H S kvs κ->qa0l K H' S kvs κ
 | [],_,h=>by unfold qa0l at h ⊢;exact h
 | (x,d) :: r,κ,h=>by
  unfold qa0l at h ⊢
  obtain⟨k,v,t,e1,e2,h1,h2⟩:=h
  exact⟨k,v,t,e1,e2,AtD.mono e d v h1,qa0l.mono e r t h2⟩
end
mutual
theorem AtD.more(e:∀ b,S b->S' b):∀ (d:PyData) (v:V),AtD K H S d v->AtD K H S' d v
 | .none,_,h=>by unfold AtD at h ⊢;exact h
 | .bool _,_,h=>by unfold AtD at h ⊢;exact h
 | .int _,_,h=>by unfold AtD at h ⊢;exact h
 | .str _,_,h=>by unfold AtD at h ⊢;exact h
 | .list ds,v,h=>by
  unfold AtD at h ⊢
  obtain⟨a,xs,e1,s,q,r⟩:=h
  exact⟨a,xs,e1,e a s,q,qa0d.more e ds xs r⟩
 | .tuple ds,v,h=>by
  unfold AtD at h ⊢
  obtain⟨a,xs,e1,q,r⟩:=h
  exact⟨a,xs,e1,q,qa0d.more e ds xs r⟩
 | .dict kvs,v,h=>by
  unfold AtD at h ⊢
  obtain⟨a,ν,e1,s,q,e2⟩:=h
  exact⟨a,ν,e1,e a s,q,qa0l.more e kvs ν e2⟩
theorem qa0d.more(e:∀ b,S b->S' b):∀ (ds:List PyData) (vs:List V),qa0d K H S ds vs->qa0d K H S' ds vs
 | [],_,h=>by unfold qa0d at h ⊢;exact h
 | d :: ds,vs,h=>by
  unfold qa0d at h ⊢
  obtain⟨v,r,e1,h1,h2⟩:=h
  exact⟨v,r,e1,AtD.more e d v h1,qa0d.more e ds r h2⟩
theorem qa0l.more(e:∀ b,S b->S' b):∀ (kvs:List (PyData × PyData)) (κ:List (Key × V)),qa0l K H S kvs κ->qa0l K H S' kvs κ
 | [],_,h=>by unfold qa0l at h ⊢;exact h
 | (x,d) :: r,κ,h=>by
  unfold qa0l at h ⊢
  obtain⟨k,v,t,e1,e2,h1,h2⟩:=h
  exact⟨k,v,t,e1,e2,AtD.more e d v h1,qa0l.more e r t h2⟩
end
mutual
noncomputable def qb0c:PyData->Bool
 | .none=>true | .bool _=>true | .int _=>true | .str _=>true
 | .list _=>false
 | .tuple ds=>qb4n ds
 | .dict _=>false
noncomputable def qb4n:List PyData->Bool
 | []=>true
 | d :: ds=>qb0c d && qb4n ds
end
mutual
theorem AtD.tups:∀ (d:PyData) (v:V),qb0c d=true->AtD K H S d v->AtD K H S' d v
 | .none,_,_,h=>by unfold AtD at h ⊢;exact h
 | .bool _,_,_,h=>by unfold AtD at h ⊢;exact h
 | .int _,_,_,h=>by unfold AtD at h ⊢;exact h
 | .str _,_,_,h=>by unfold AtD at h ⊢;exact h
 | .list ds,v,t,h=>by unfold qb0c at t;cases t
 | .tuple ds,v,t,h=>by
  unfold qb0c at t
  unfold AtD at h ⊢
  obtain⟨a,xs,e1,q,r⟩:=h
  exact⟨a,xs,e1,q,qa0d.tups ds xs t r⟩
 | .dict _,_,t,_=>by unfold qb0c at t;cases t
theorem qa0d.tups:∀ (ds:List PyData) (vs:List V),qb4n ds=true->qa0d K H S ds vs->qa0d K H S' ds vs
 | [],_,_,h=>by unfold qa0d at h ⊢;exact h
 | d :: ds,vs,t,h=>by
  unfold qb4n at t
  rw [Bool.and_eq_true] at t
  unfold qa0d at h ⊢
  obtain⟨v,r,e1,h1,h2⟩:=h
  exact⟨v,r,e1,AtD.tups d v t.1 h1,qa0d.tups ds r t.2 h2⟩
end
theorem qa0d.nil:qa0d K H S [] []:=by unfold qa0d;rfl
theorem qa0d.cons{d:PyData}{ds:List PyData}{v:V}{vs:List V}(h:AtD K H S d v)(t:qa0d K H S ds vs):qa0d K H S (d :: ds) (v :: vs):=by
 unfold qa0d;exact⟨v,vs,rfl,h,t⟩
theorem qa0d.uncons{d:PyData}{ds:List PyData}{vs:List V}(h:qa0d K H S (d :: ds) vs):∃ v r,vs=v :: r/\AtD K H S d v/\qa0d K H S ds r:=by
 unfold qa0d at h;exact h
theorem qa0d.unnil{vs:List V}(h:qa0d K H S [] vs):vs=[]:=by unfold qa0d at h;exact h
theorem qa0d.length:∀ {ds:List PyData} {vs:List V},qa0d K H S ds vs->vs.length=ds.length
 | [],_,h=>by rw [h.unnil];rfl
 | d :: ds,vs,h=>by
  obtain⟨v,r,e,_,t⟩:=h.uncons
  rw [e,List.length_cons,List.length_cons,qa0d.length t]
theorem qa0d.get:∀ {ds:List PyData} {vs:List V} {i:Nat} {d:PyData},qa0d K H S ds vs->ds[i]? = some d->∃ v,vs[i]? = some v/\AtD K H S d v
 | [],_,i,d,_,e=>by simp at e
 | d' :: ds,vs,0,d,h,e=>by
  obtain⟨v,r,rfl,hd,t⟩:=h.uncons
  simp at e;subst e
  exact⟨v,by simp,hd⟩
 | d' :: ds,vs,i + 1,d,h,e=>by
  obtain⟨v,r,rfl,hd,t⟩:=h.uncons
  obtain⟨w,e1,e2⟩:=qa0d.get (i:=i) t (by simpa using e)
  exact⟨w,by simpa using e1,e2⟩
theorem qa0d.append:∀ {ds es:List PyData} {vs ws:List V},qa0d K H S ds vs->qa0d K H S es ws->qa0d K H S (ds ++ es) (vs ++ ws)
 | [],_,_,_,h,t=>by rw [h.unnil];exact t
 | d :: ds,es,vs,ws,h,t=>by
  obtain⟨v,r,rfl,hd,q⟩:=h.uncons
  exact .cons hd (qa0d.append q t)
theorem qa0d.snoc{ds:List PyData}{vs:List V}{d:PyData}{v:V}(h:qa0d K H S ds vs)(hd:AtD K H S d v):qa0d K H S (ds ++ [d]) (vs ++ [v]):=h.append (.cons hd .nil)
theorem qa0d.drop:∀ {ds:List PyData} {vs:List V} (n:Nat),qa0d K H S ds vs->qa0d K H S (ds.drop n) (vs.drop n)
 | _,_,0,h=>by simpa using h
 | [],vs,n + 1,h=>by rw [h.unnil];exact .nil
 | d :: ds,vs,n + 1,h=>by
  obtain⟨v,r,rfl,hd,q⟩:=h.uncons
  exact qa0d.drop n q
theorem qa0d.take:∀ {ds:List PyData} {vs:List V} (n:Nat),qa0d K H S ds vs->qa0d K H S (ds.take n) (vs.take n)
 | _,_,0,h=>by simpa using qa0d.nil
 | [],vs,n + 1,h=>by rw [h.unnil];exact .nil
 | d :: ds,vs,n + 1,h=>by
  obtain⟨v,r,rfl,hd,q⟩:=h.uncons
  exact .cons hd (qa0d.take n q)
theorem qa0d.reverse:∀ {ds:List PyData} {vs:List V},qa0d K H S ds vs->qa0d K H S ds.reverse vs.reverse
 | [],_,h=>by rw [h.unnil];exact .nil
 | d :: ds,vs,h=>by
  obtain⟨v,r,rfl,hd,q⟩:=h.uncons
  rw [List.reverse_cons,List.reverse_cons]
  exact(qa0d.reverse q).snoc hd
theorem qb0d:AtD K H S .none .non:=by unfold AtD;rfl
theorem qa2j(b:Bool):AtD K H S (.bool b) (.bl b):=by unfold AtD;rfl
theorem qa2y(i:Int):AtD K H S (.int i) (.int i):=by unfold AtD;rfl
theorem qa6z(x:Str):AtD K H S (.str x) (.str x):=by unfold AtD;rfl
theorem qb4o{v:V}(h:AtD K H S .none v):v=.non:=by unfold AtD at h;exact h
theorem qa9p{b:Bool}{v:V}(h:AtD K H S (.bool b) v):v=.bl b:=by unfold AtD at h;exact h
theorem qb1k{i:Int}{v:V}(h:AtD K H S (.int i) v):v=.int i:=by unfold AtD at h;exact h
theorem qb3n{x:Str}{v:V}(h:AtD K H S (.str x) v):v=.str x:=by unfold AtD at h;exact h
theorem qa3u{ds:List PyData}{v:V}(h:AtD K H S (.tuple ds) v):∃ a xs,v=.ref a/\SqT K H a xs/\qa0d K H S ds xs:=by unfold AtD at h;exact h
theorem qa5c{ds:List PyData}{v:V}(h:AtD K H S (.list ds) v):∃ a xs,v=.ref a/\S a/\H a=some (.lst xs)/\qa0d K H S ds xs:=by unfold AtD at h;exact h
theorem qa4w{ds:List PyData}{a:Addr}{xs:List V}(q:SqT K H a xs)(h:qa0d K H S ds xs):AtD K H S (.tuple ds) (.ref a):=by unfold AtD;exact⟨a,xs,rfl,q,h⟩
theorem qa3q{ds:List PyData}{a:Addr}{xs:List V}(s:S a)(q:H a=some (.lst xs))(h:qa0d K H S ds xs):AtD K H S (.list ds) (.ref a):=by unfold AtD;exact⟨a,xs,rfl,s,q,h⟩
theorem qb1l{kvs:List (PyData × PyData)}{v:V}(h:AtD K H S (.dict kvs) v):∃ (a:Addr) (κ:List (Key × V)),v=.ref a/\S a/\H a=some (.dK κ)/\qa0l K H S kvs κ:=by unfold AtD at h;exact h
theorem qa8b{kvs:List (PyData × PyData)}{κ:List (Key × V)}{a:Addr}(s:S a)(q:H a=some (.dK κ))(h:qa0l K H S kvs κ):AtD K H S (.dict kvs) (.ref a):=by unfold AtD;exact⟨a,κ,rfl,s,q,h⟩
theorem qa0l.nil:qa0l K H S [] []:=by unfold qa0l;rfl
theorem qa0l.cons{k:Key}{v:V}{d:PyData}{r:List (PyData × PyData)}{t:List (Key × V)}(h:AtD K H S d v)(hr:qa0l K H S r t):qa0l K H S ((keyD k,d) :: r) ((k,v) :: t):=by
 unfold qa0l;exact⟨k,v,t,rfl,rfl,h,hr⟩
theorem qa0l.uncons{x d:PyData}{r:List (PyData × PyData)}{κ:List (Key × V)}(h:qa0l K H S ((x,d) :: r) κ):∃ k v t,κ=(k,v) :: t/\x=keyD k/\AtD K H S d v/\qa0l K H S r t:=by unfold qa0l at h;exact h
theorem qa0l.unnil{κ:List (Key × V)}(h:qa0l K H S [] κ):κ=[]:=by unfold qa0l at h;exact h
theorem qb2d{a b:Key}(h:keyD a=keyD b):a=b:=by cases a<;>cases b<;>simp_all [keyD]
theorem FD.at(f:FD):AtD K H S f.d f.v:=by
 cases f with
 | none=>exact qb0d
 | bool b=>exact qa2j b
 | int n=>exact qa2y n
 | str x=>exact qa6z x
theorem qa0l.flat:∀ (κ:List (Key × FD)),qa0l K H S (κ.map gD) (κ.map gE)
 | []=>.nil
 | (k,f) :: r=>.cons f.at (qa0l.flat r)
theorem qc9j{κ:List (Key × FD)}{a:Addr}(s:S a)(q:H a=some (.dK (κ.map gE))):AtD K H S (.dict (κ.map gD)) (.ref a):=qa8b s q (qa0l.flat κ)
theorem qd1l{ν:List (Str × Int)}{a:Addr}(s:S a)(q:H a=some (.dK (ν.map kvE))):AtD K H S (.dict (ν.map kvD)) (.ref a):=by
 rw [← emb_D]
 rw [← emb_E] at q
 exact qc9j s q
theorem qb2e{ds:List PyData}{p:Addr}{xs:List V}(hp:H p=none)(h:qa0d K H S ds xs):AtD K (upd H p (.tup xs)) S (.tuple ds) (.ref p):=
 qa4w (SqT.of qa1d) (qa0d.mono (qa2a hp _).keep _ _ h)
theorem qd1m{ds:List PyData}{p:Addr}{xs:List V}(s:S p)(hp:H p=none)(h:qa0d K H S ds xs):AtD K (upd H p (.lst xs)) S (.list ds) (.ref p):=
 qa3q s qa1d (qa0d.mono (qa2a hp _).keep _ _ h)
end
theorem qc9k(h:Heap){k:Key}{u:Value}(q:qb0q k u=true):Reads h u (keyD k) []:=by
 rcases qa2p q with⟨i,t,e',h'⟩ | ⟨x,t,e',h'⟩
 ·rw [e',h'];exact .int i t
 ·rw [e',h'];exact .str x t
section
variable{X:Cx}{pins:List (Addr × Obj)}{σ:St}{H:Hp}{s:Shared}{S:Addr->Prop}
mutual
theorem AtD.reads(I:Inv X pins σ H s):∀ (d:PyData) (v:V) (u:Value),AtD X.K H S d v->RelV v u->∃ as,Reads s.heap u d as
 | .none,v,u,h,r=>by cases qb4o h;cases r;exact⟨_,.none⟩
 | .bool b,v,u,h,r=>by cases qa9p h;cases r;exact⟨_,.bool b⟩
 | .int i,v,u,h,r=>by cases qb1k h;obtain⟨t,rfl⟩:=r;exact⟨_,.int i t⟩
 | .str x,v,u,h,r=>by cases qb3n h;obtain⟨t,rfl⟩:=r;exact⟨_,.str x t⟩
 | .list ds,v,u,h,r=>by
  obtain⟨a,xs,rfl,_,q,t⟩:=qa5c h
  cases r
  obtain⟨its,rv,⟨o,n,e,hc,_,hd⟩,_⟩:=I.list (SqL.of q)
  obtain⟨as,ra⟩:=qa0d.reads I ds xs its t rv
  exact⟨_,.list e hc hd (by simpa using ra)⟩
 | .tuple ds,v,u,h,r=>by
  obtain⟨a,xs,rfl,q,t⟩:=qa3u h
  cases r
  obtain⟨its,rv,⟨o,e,hc,n,hd⟩,_⟩:=I.tuple q
  obtain⟨as,ra⟩:=qa0d.reads I ds xs its t rv
  exact⟨_,.tuple e hc hd (by simpa using ra)⟩
 | .dict kvs,v,u,h,r=>by
  obtain⟨a,ν,rfl,_,q,t⟩:=qb1l h
  cases r
  obtain⟨_,_,vs,kv,o,es,ep,e,hc,hd,_,hp,_⟩:=(show qa2q X.prog X.w H s.heap a (.dK ν) from I.hok a _ q)
  obtain⟨as,bs,r1,r2⟩:=qa0l.reads I kvs ν vs es.toList t kv hp
  exact⟨_,.dict e hc.1 hd r1 r2⟩
theorem qa0d.reads(I:Inv X pins σ H s):∀ (ds:List PyData) (vs:List V) (us:List Value),qa0d X.K H S ds vs->Vals vs us->∃ as,ReadsAll s.heap us ds as
 | [],vs,us,h,r=>by
  cases h.unnil
  cases r
  exact⟨_,.nil⟩
 | d :: ds,vs,us,h,r=>by
  obtain⟨v,vr,rfl,hd,t⟩:=h.uncons
  cases r with
  | cons r1 r2 =>
   obtain⟨as,q1⟩:=AtD.reads I d v _ hd r1
   obtain⟨bs,q2⟩:=qa0d.reads I ds vr _ t r2
   exact⟨_,.cons q1 q2⟩
theorem qa0l.reads(I:Inv X pins σ H s):∀ (kvs:List (PyData × PyData)) (κ:List (Key × V)) (vs:List (Key × Value)) (es:List DictEntry),qa0l X.K H S kvs κ->KV κ vs->Pairs (qa1r X.prog X.w) es vs->∃ as bs,ReadsAll s.heap (es.map (·.key)) (kvs.map (·.1)) as/\ReadsAll s.heap (es.map (·.val)) (kvs.map (·.2)) bs
 | [],κ,vs,es,h,r,q=>by
  cases h.unnil
  cases r
  cases q
  exact⟨_,_,.nil,.nil⟩
 | (x,d) :: kr,κ,vs,es,h,r,q=>by
  obtain⟨k,v,t,rfl,rfl,h1,h2⟩:=h.uncons
  cases r with
  | cons r1 r2 =>
   cases q with
   | cons q1 q2 q3 =>
    rename_i kv _ e _
    obtain⟨kk,kv2⟩:=kv
    obtain⟨e1,e2⟩:=r1
    cases e1
    obtain⟨a1,w1⟩:=AtD.reads I d v kv2 h1 e2
    obtain⟨as,bs,c1,c2⟩:=qa0l.reads I kr t _ _ h2 r2 q3
    have hk:Reads s.heap e.key (keyD k) []:=qc9k _ (show qb0q k e.key=true from q1)
    have g1:=ReadsAll.cons hk c1
    have g2:=ReadsAll.cons w1 c2
    rw [show kv2=e.val from q2.symm] at g2
    exact⟨_,_,g1,g2⟩
end
end
section
variable{X:Cx}
theorem qc5d{K:PySem.W.Frag}{H:Hp}{S:Addr->Prop}{ds:List PyData}{xs:List V}{i:Int}{d:PyData}(h:qa0d K H S ds xs)(e:atI ds i=some d):∃ v,atI xs i=some v/\AtD K H S d v:=by
 unfold atI at e ⊢
 rw [h.length]
 cases q:ixN ds.length i with
 | none=>rw [q] at e;cases e
 | some j =>
  rw [q] at e
  obtain⟨v,e1,e2⟩:=h.get (show ds[j]? = some d from e)
  exact⟨v,e1,e2⟩
def rEqD(K:PySem.W.Frag)(neg:Bool):R2:=fun x y H Q=>∃ S S' d e,AtD K H S d x/\AtD K H S' e y/\SeqAt.shaped d=true/\SeqAt.shaped e=true/\Q (.bl (if neg then !PyData.eqv d e else PyData.eqv d e)) H
theorem op_eqD(hu:X.A.units + 64 < cLine):OpR X (compareOp .Eq) (rEqD X.K false):=by
 intro pins s σ H x y v u Q I rx ry h
 obtain⟨S,S',d,e,hd,he,sd,se,q⟩:=h
 obtain⟨as,ra⟩:=AtD.reads I d x v hd rx
 obtain⟨bs,rb⟩:=AtD.reads I e y u he ry
 exact SeqAt.compareEq_shaped ra rb sd se hu ⟨.bl _,H,I,rfl,q⟩
theorem op_neD(hu:X.A.units + 64 < cLine):OpR X (compareOp .NotEq) (rEqD X.K true):=by
 intro pins s σ H x y v u Q I rx ry h
 obtain⟨S,S',d,e,hd,he,sd,se,q⟩:=h
 obtain⟨as,ra⟩:=AtD.reads I d x v hd rx
 obtain⟨bs,rb⟩:=AtD.reads I e y u he ry
 exact SeqAt.compareNe_shaped ra rb sd se hu ⟨.bl _,H,I,rfl,q⟩
noncomputable def tyD:PyData->String
 | .none => "NoneType" | .bool _ => "bool" | .int _ => "int" | .str _ => "str" | .list _ => "list" | .tuple _ => "tuple" | .dict _ => "dict"
noncomputable def isD(T:String)(d:PyData):Bool:=tyD d == T || (T == "int" && tyD d == "bool")
theorem pe_ty{x:Str}{T:String}{pos:Pos}(hg:Gl X x)(hm:X.mg x=none)(hv:bootBuiltins x=some (.type T)) (hn:x ≠ "__name__":=by decide) (hd:(x == ("__debug__" : Str))=false:=by decide):PE X (.Name x pos) (tC (.ty T)):=
 pe_bltn hg hm hv rfl hn hd
theorem qd1n{pins:List (Addr × Obj)}{s:Shared}{σ:St}{H:Hp}{S:Addr->Prop}{d:PyData}{v:V}{u:Value}{T:String}{Q:VK}(I:Inv X pins σ H s)(h:AtD X.K H S d v)(r:RelV v u)
  (ht:PySem.W.kitOne X.K (.type (tyD d)) (.type T)=some (isD T d)) (q:Q (.bl (isD T d)) H) :
  wpAny (model X.prog X.w) X.A (call (.builtin "isinstance") [u,.type T]) (EP X pins σ Q) X.xe s:=by
 have fin:∀ tk,EP X pins σ Q (.bool (isD T d)) { s with toks:=tk }:=fun tk=>⟨.bl _,H,I.tok tk,rfl,q⟩
 cases d with
 | none=>cases qb4o h;cases r;exact PySem.W.kia_one PySem.W.kitx_none I.kIn True.intro ht (fun z=>nomatch z) fin
 | bool b=>cases qa9p h;cases r;exact PySem.W.kia_one PySem.W.kitx_bool I.kIn True.intro ht (fun z=>nomatch z) fin
 | int i=>cases qb1k h;obtain⟨t,rfl⟩:=r;exact PySem.W.kia_one PySem.W.kitx_int I.kIn True.intro ht (fun z=>nomatch z) fin
 | str x=>cases qb3n h;obtain⟨t,rfl⟩:=r;exact PySem.W.kia_one PySem.W.kitx_str I.kIn True.intro ht (fun z=>nomatch z) fin
 | list ds =>
  obtain⟨a,xs,rfl,_,hq,_⟩:=qa5c h
  cases r
  obtain⟨its,_,⟨o,n,e,hc,_,hd⟩,_⟩:=I.list (SqL.of hq)
  exact PySem.W.kia_one PySem.W.kitx_list I.kIn ⟨o,e,hc⟩ ht (fun z=>nomatch z) fin
 | tuple ds =>
  obtain⟨a,xs,rfl,hq,_⟩:=qa3u h
  cases r
  obtain⟨its,_,⟨o,e,hc,n,hd⟩,_⟩:=I.tuple hq
  exact PySem.W.kia_one PySem.W.kitx_tuple I.kIn ⟨o,e,hc⟩ ht (fun z=>nomatch z) fin
 | dict kvs =>
  obtain⟨a,ν,rfl,_,hq,_⟩:=qb1l h
  cases r
  obtain⟨_,_,vs,kv,o,es,ep,e,hc,hd,_,hp,_⟩:=(show qa2q X.prog X.w H s.heap a (.dK ν) from I.hok a _ hq)
  exact PySem.W.kia_one PySem.W.kitx_dict I.kIn ⟨o,e,hc.1⟩ ht (fun z=>nomatch z) fin
noncomputable def qa7a(T:String):Bool:=T == "int" || T == "str" || T == "bool" || T == "list" || T == "tuple" || T == "dict"
theorem kit_ok(K:PySem.W.Frag)(d:PyData)(T:String)(hT:qa7a T=true):PySem.W.kitOne K (.type (tyD d)) (.type T)=some (isD T d):=by
 simp only [qa7a,Bool.or_eq_true,beq_iff_eq] at hT
 rcases hT with((((rfl | rfl) | rfl) | rfl) | rfl) | rfl<;>cases d<;>rfl
theorem qd1o:qa2r X (.builtin "isinstance") (fun xs H Q=>∃ v S d T,xs=[v,.ty T]/\AtD X.K H S d v/\qa7a T=true/\Q (.bl (isD T d)) H):=by
 intro pins s σ H xs us Q I rs h
 obtain⟨v,S,d,T,rfl,hd,hT,q⟩:=h
 obtain⟨u,u2,rfl,r1,r2⟩:=rs.two
 cases r2
 exact qd1n I hd r1 (kit_ok X.K d T hT) q
end
section
variable{X:Cx}{tg:Expr}
def iDat(K:PySem.W.Frag)(tl:TE):TI:=fun σ H R=>tl σ H fun x H1=>(∃ a,x=.ref a/\(∃ xs,SqT K H1 a xs)/\R (Itt K a) H1) ∨ (∃ a,x=.ref a/\(∃ xs,SqL K H1 a xs)/\R (Itl K a) H1)
theorem pi_dat{l:Expr}{tl:TE}(hl:PE X l tl):PI X tg l (iDat X.K tl):=by
 intro pins s σ H R I h
 refine thn (hl pins s σ H (fun x H1=>(∃ a,x=.ref a/\(∃ xs,SqT X.K H1 a xs)/\R (Itt X.K a) H1) ∨ (∃ a,x=.ref a/\(∃ xs,SqL X.K H1 a xs)/\R (Itl X.K a) H1)) I h) fun v s1 hq9=>?_
 obtain⟨x,H1,I1,r1,q1⟩:=hq9
 rcases q1 with⟨a,rfl,⟨xs,hq⟩,q⟩ | ⟨a,rfl,⟨xs,hq⟩,q⟩
 ·cases r1
  obtain⟨its,rv,p,hz⟩:=I1.tuple hq
  refine wpAny_pyIter_tuple (show s1.heap.IsTuple a its.toArray from p) ?_
  refine⟨s1.heap.objs.size,[s1.heap.objs.size],_,_,H1,rfl,I1.kept (t':=s1.toks) fun b o e=>Heap.get?_push_of_some _ e,qc6c a _,⟨_,Heap.get?_push_size _ rfl,rfl,rfl⟩,fun b hb=>?_,q⟩
  have e:b=s1.heap.objs.size:=by simpa using hb
  subst e
  exact I1.fpOk (Nat.le_refl _) (I1.hok.fresh (Nat.le_refl _))
 ·cases r1
  obtain⟨its,rv,p,hz⟩:=I1.list hq
  refine wpAny_pyIter_list p.isList ?_
  refine⟨s1.heap.objs.size,[s1.heap.objs.size],_,_,H1,rfl,I1.kept (t':=s1.toks) fun b o e=>Heap.get?_push_of_some _ e,qc8s a _,⟨_,Heap.get?_push_size _ rfl,rfl,rfl⟩,fun b hb=>?_,q⟩
  have e:b=s1.heap.objs.size:=by simpa using hb
  subst e
  exact I1.fpOk (Nat.le_refl _) (I1.hok.fresh (Nat.le_refl _))
end
end L2
end
section
namespace L2
open PySem PySem.Spec PyProof.Rows
structure Def(K:PySem.W.Frag)(mg:Str->Option Value)(x:Str)(st:Stmt)(ps:List Str)(f:Addr)(fd:FuncData):Prop where
 fn:Fun K x x st f fd
 bd:Binds K fd ps []
 gl:mg x=some (.ref f)
section
variable{X:Cx}{k:Nat}{f:Addr}{fd:FuncData}{ps:List Str}{sp:Sp}{x:Str}{st:Stmt}{p pos:Pos}{e:Expr}{es:List Expr}{t:TA}
theorem qb5p(d:Def X.K X.mg x st ps f fd)(g:FnOk X.prog X.w X.K X.mg X.base CX0 k f fd ps sp)(hr:Room k X.A)(hg:Gl X x)(ha:PA X (e :: es) t) (hdb:(x == ("__debug__" : Str))=false:=by decide)
  (he:starEach (e :: es) X.env=(false,eval e X.env) :: starEach es X.env:=by rfl) (hpl:(backTo pos (starEach es X.env)).any (·.1)=false:=by rfl):PE X (.Call (.Name x p) (e :: es) [] pos) (tCall sp [] E0 t):=
 pe_call g hr hg d.gl d.fn.kp d.bd .nil pass0 ha hdb he hpl
end
section
variable{X:Cx}{tg:Expr}
end
section
variable{X:Cx}
theorem ints_of_all{K:PySem.W.Frag}{H:Hp}{S:Addr->Prop}:∀ {ns:List Int} {xs:List V},qa0d K H S (ns.map .int) xs->xs=ns.map V.int
 | [],xs,h=>by rw [h.unnil];rfl
 | n :: r,xs,h=>by
  obtain⟨v,vr,rfl,hd,t⟩:=h.uncons
  rw [qb1k hd,ints_of_all t];rfl
end
end L2
namespace L2
open PySem PySem.Spec PyProof.Rows
def Frs(S:Addr->Prop)(H:Hp):Prop:=∀ p,H p=none->S p
section
variable{K:PySem.W.Frag}{S:Addr->Prop}{σ:St}{H:Hp}{d:PyData}{ds:List PyData}{t te:TE}{ta:TA}
theorem atI_in{α:Type}{xs:List α}{i:Int}(h0:0 <= i)(h1:i < xs.length):∃ x,atI xs i=some x/\x ∈ xs/\xs[i.toNat]? = some x:=by
 have hk:i.toNat < xs.length:=by omega
 have ei:i=((i.toNat:Nat):Int):=by omega
 have q:atI xs ((i.toNat:Nat):Int)=some xs[i.toNat]:=qa9o (List.getElem?_eq_getElem hk)
 rw [← ei] at q
 exact⟨_,q,List.getElem_mem hk,List.getElem?_eq_getElem hk⟩
end
end L2
end
section
namespace L2
open PySem PySem.Spec PyProof.Rows
theorem qb1m:typeLookup (.type "tuple") "__reversed__" = pure none:=by rw [typeLookup_type,builtinLookup_eq_fast];kernel_rfl
theorem qa6f:typeLookup (.type "tuple") "__getitem__" = pure (some (.builtin "tuple.__getitem__")):=by rw [typeLookup_type,builtinLookup_eq_fast];kernel_rfl
theorem sub_tuple_dict:isSubtype (.type "tuple") (.type "dict")=pure false:=by rw [isSubtype_type];kernel_rfl
theorem qb3o:Slot "reversed" "__init__" "object.__init__":=
 .of (owner:="object") (n:="__init__") (by rw [typeLookup_type,builtinLookup_eq_fast];kernel_rfl) (by decide +kernel) (by decide +kernel) (by decide +kernel)
  (by first | exact .inl (by decide +kernel) | exact .inr (by decide +kernel)) (by rw [isSubtype_type];kernel_rfl)
theorem qb6i:TypeCalled "reversed" "reversed.__new__" "object.__init__":=
 ⟨by decide +kernel,by decide +kernel,⟨_,_,F.mro_reversed⟩,F.made_reversed,by decide +kernel,F.sub_reversed_self,qb3o⟩
theorem qa3b:Slot "reversed" "__next__" "reversed.__next__":=
 .of (owner:="reversed") (n:="__next__") (by rw [typeLookup_type,builtinLookup_eq_fast];kernel_rfl) (by decide +kernel) (by decide +kernel) (by decide +kernel)
  (by first | exact .inl (by decide +kernel) | exact .inr (by decide +kernel)) (by rw [isSubtype_type];kernel_rfl)
theorem qa8c:Slot "reversed" "__iter__" "reversed.__iter__":=
 .of (owner:="reversed") (n:="__iter__") (by rw [typeLookup_type,builtinLookup_eq_fast];kernel_rfl) (by decide +kernel) (by decide +kernel) (by decide +kernel)
  (by first | exact .inl (by decide +kernel) | exact .inr (by decide +kernel)) (by rw [isSubtype_type];kernel_rfl)
theorem qa6s:entryFor table "reversed.__next__" = some Builtin.«reversed.__next__»:=entryFor_of_tree (by kernel_rfl)
theorem qb3g:entryFor table "reversed.__iter__" = some Builtin.«dict_keyiterator.__iter__»:=
 entryFor_alias (id':="dict_keyiterator.__iter__") (by kernel_rfl) (by first | rfl | decide +kernel | (unfold String.splitOn;simp +decide [String.splitOnAux])) (by decide +kernel) (by kernel_rfl)
theorem qa8d(a:Value):argsOk "reversed.__next__" ⟨[a],[]⟩:=by unfold argsOk;kernel_rfl
theorem qb3p(a:Value):argsOk "reversed.__iter__" ⟨[a],[]⟩:=by unfold argsOk;kernel_rfl
section
variable{prog:Program}{w:World}{A:Around}{E:Value->Shared->Prop}{s:Shared}
noncomputable def revT(l:Addr)(i:Int):Obj:={ cls:=.type "reversed",data:=.fields #[.ref l,rawInt i] }
theorem IsTup.typeIs'{h:Heap}{a:Addr}{items:Array Value}{s:Shared}(e:s.heap=h)(x:IsTup h a items):s.TypeIs (.ref a) "tuple":=by
 obtain⟨o,ho,hc,_⟩:=x
 subst e
 exact⟨o,ho,hc⟩
theorem qb2f{l:Addr}{items:Array Value}(hfit:(items.size:Int) < 2 ^ 63) :
  MeetsIn prog w (Builtin.«reversed.__new__» ⟨[.type "reversed",.ref l],[]⟩) (fun A R s=>IsTup s.heap l items/\∀ tk,R (.ok (.ret (Value.ref s.heap.objs.size))) { s with heap:=s.heap.push (revT l ((items.size:Int) - 1)),toks:=tk }):=by
 intro A R s ⟨ht,h⟩
 unfold Builtin.«reversed.__new__»
 refine wpAny_bind (wpAny_of_eq (newClass_reversed _) ?_)
 try dsimp only
 refine wpAny_bind (wpAny_of_eq (a:=()) (by first | rfl | kernel_rfl) ?_)
 refine wpAny_bind (wpAny_of_eq (a:=()) (by first | rfl | kernel_rfl) ?_)
 try dsimp only
 refine wpAny_bind (wpAny_specialOf (IsTup.typeIs' rfl ht) qb1m ?_)
 try dsimp only
 refine wpAny_bind ?_
 show wpAny _ _ (isInstance (.ref l) (.type "dict") >>= _) _ _ _
 refine wpAny_bind (wpAny_isInstance (IsTup.typeIs' rfl ht) sub_tuple_dict ?_)
 show wpAny _ _ (specialOf (.ref l) "__getitem__" >>= _) _ _ _
 refine wpAny_bind (wpAny_specialOf (IsTup.typeIs' rfl ht) qa6f ?_)
 refine wpAny_pure ?_
 show wpAny _ _ (call (Value.builtin "len") [Value.ref l] >>= _) _ _ _
 refine wpAny_bind (len_tuple ht hfit ?_)
 show wpAny _ _ (asInt? (Value.int _ _) >>= _) _ _ _
 refine wpAny_bind (wpAny_of_eq (a:=some (items.size:Int)) (by rfl) ?_)
 show wpAny _ _ (Builtin.SmallTypes.newRecord (Value.type "reversed") [Value.ref l,rawInt ((items.size:Int) - 1)] >>= _) _ _ _
 refine wpAny_bind ?_
 show wpAny _ _ (newObj (Value.type "reversed") (.fields [Value.ref l,rawInt ((items.size:Int) - 1)].toArray)) _ _ _
 refine wpAny_newObj_type ?_
 exact wpAny_pure (h _)
theorem qb3h{l:Addr}{items:Array Value}{Q:Value->Shared->Prop}(ht:IsTup s.heap l items)(hfit:(items.size:Int) < 2 ^ 63)
  (h:∀ tk,Q (.ref s.heap.objs.size) { s with heap:=s.heap.push (revT l ((items.size:Int) - 1)),toks:=tk }):wpAny (model prog w) A (call (.type "reversed") [.ref l]) Q E s:=
 callType_newIn qb6i (by decide) (F.typeCall_reversed_1 _) (F.newCall_reversed_1 _) (fun obj=>F.args_object_init_2 obj _) F.entry_reversed_new
  (qb2f hfit) ⟨ht,fun tk=>⟨⟨_,Heap.get?_push_size _ rfl,rfl⟩,h tk⟩⟩
theorem qb4y{it l:Addr}{i:Int}{Q:Value->Shared->Prop}(hit:s.heap.get? it=some (revT l i))(h:Q (.ref it) s):wpAny (model prog w) A (pyIter (.ref it)) Q E s:=by
 have hT:s.TypeIs (.ref it) "reversed":=⟨_,hit,rfl⟩
 refine wpAny_pyIter_slot hT qa8c (wpAny_call_entry qa8c hT qb3g ?_ (qb3p _))
 show wpAny _ _ (ret (.ref it)) _ _ s
 exact wpAny_pure ⟨_,rfl,"reversed",_,hT,qa3b.lookup,h⟩
theorem qb5q{it l:Addr}{i:Nat}{items:Array Value}{x:Value}{Q:Option Value->Shared->Prop}(hit:s.heap.get? it=some (revT l (i:Int)))(ht:IsTup s.heap l items)(hx:items[i]? = some x)(hne:l ≠ it)(hfit:(i:Int) < 2 ^ 63)
  (hQ:∀ h' tk,h'.get? it=some (revT l ((i:Int) - 1))->Heap.SameBut it s.heap h'->Q (some x) { s with heap:=h',toks:=tk }):wpAny (model prog w) A (pyNext (.ref it)) Q E s:=by
 have hT:s.TypeIs (.ref it) "reversed":=⟨_,hit,rfl⟩
 unfold pyNext
 refine wpAny_bind (wpAny_attempt (wpAny_callSpecial?_slot (name:=Str.ofString "__next__") hT qa3b
  (wpAny_call_entry qa3b hT qa6s ?_ (qa8d _))))
 unfold Builtin.«reversed.__next__»
 refine wpAny_bind (wpAny_of_eq (a:=(Value.ref it,[])) rfl ?_)
 try dsimp only
 refine wpAny_bind (wpAny_field hit rfl (x:=.ref l) rfl ?_)
 refine wpAny_bind (wpAny_field hit rfl (x:=rawInt (i:Int)) rfl ?_)
 show wpAny _ _ (if (i:Int) < 0 then _ else _) _ _ s
 rw [if_neg (by omega)]
 show wpAny _ _ (specialOf (.ref l) "__getitem__" >>= _) _ _ _
 refine wpAny_bind (wpAny_specialOf (IsTup.typeIs' rfl ht) qa6f ?_)
 rw [if_neg (by decide)]
 refine wpAny_bind (wpAny_mkInt ?_)
 refine wpAny_bind (wpAny_attempt (getItem_tuple (j:=i) (x:=x) ht (by omega) hfit (by
  unfold seqIndex?
  have hlt:i < items.size:=by
   by_cases q:i < items.size
   ·exact q
   ·rw [Array.getElem?_eq_none (by omega)] at hx;cases hx
  first | (rw [if_pos (by omega)];simp;omega) | (simp;omega) | (split<;>simp_all<;>omega)) hx ?_))
 show wpAny _ _ (field (.ref it) 1 >>= _) _ _ _
 refine wpAny_bind (wpAny_field hit rfl (x:=rawInt (i:Int)) rfl ?_)
 show wpAny _ _ (setField (.ref it) 1 (rawInt ((i:Int) - 1)) >>= _) _ _ _
 refine wpAny_bind (wpAny_setField hit rfl (by simp) ?_)
 refine wpAny_pure ⟨x,rfl,wpAny_pure (hQ _ _ ?_ (Heap.SameBut.update ..))⟩
 exact Heap.get?_update_self _ hit rfl
theorem qb6j{it l:Addr}{Q:Option Value->Shared->Prop}(hh:A.handled=none)(hit:s.heap.get? it=some (revT l (-1)))
  (hQ:∀ h',Heap.ExtBut it s.heap h'->Q none { s with heap:=h' }):wpAny (model prog w) A (pyNext (.ref it)) Q E s:=by
 have hT:s.TypeIs (.ref it) "reversed":=⟨_,hit,rfl⟩
 unfold pyNext
 refine wpAny_bind (wpAny_attempt (wpAny_callSpecial?_slot (name:=Str.ofString "__next__") hT qa3b
  (wpAny_call_entry qa3b hT qa6s ?_ (qa8d _))))
 unfold Builtin.«reversed.__next__»
 refine wpAny_bind (wpAny_of_eq (a:=(Value.ref it,[])) rfl ?_)
 try dsimp only
 refine wpAny_bind (wpAny_field hit rfl (x:=.ref l) rfl ?_)
 refine wpAny_bind (wpAny_field hit rfl (x:=rawInt (-1)) rfl ?_)
 show wpAny _ _ (if (-1:Int) < 0 then _ else _) _ _ s
 rw [if_pos (by decide)]
 refine wpAny_bind (wpAny_rule ?_)
 refine wpAny_bind ?_
 show wpAny _ _ (setField (.ref it) 1 (rawInt (-1)) >>= _) _ _ _
 refine wpAny_bind (wpAny_setField hit rfl (by simp) ?_)
 have h2:(s.heap.update it (Obj.mapFields fun vs=>vs.setIfInBounds 1 (rawInt (-1)))).get? it=some (revT l (-1)):=by
  exact Heap.get?_update_self _ hit rfl
 refine wpAny_setField h2 rfl (by simp) ?_
 show wpAny _ _ ((newExc (.type "StopIteration") [] >>= _) >>= _) _ _ _
 refine wpAny_bind ?_
 refine wpAny_bind ?_
 simp only [newExc,newTuple]
 refine wpAny_bind (wpAny_newObj_type ?_ (by size_fits))
 refine wpAny_bind (m:=firstArgMember _ _) (wpAny_of_eq (a:=Value.none) (by first | rfl | (simp only [firstArgMember];rfl)) ?_)
 refine wpAny_newObj_type ?_ (by size_fits)
 simp only [raiseNew]
 refine wpAny_bind (wpAny_handled ?_)
 first | rw [show A.in1.handled=none from hh] | rw [hh]
 refine wpAny_bind (wpAny_pure (wpAny_throw ?_))
 refine wpAny_bind (wpAny_isInstance (T:="StopIteration") (b:=true) ⟨_,Heap.get?_push_size _ rfl,rfl⟩ isSubtype_stop ?_)
 refine wpAny_pure (hQ _ ?_)
 refine((?_:Heap.ExtBut it s.heap _).push _).push _
 intro b o hb e
 rw [Heap.get?_update_other _ _ (Ne.symm hb),Heap.get?_update_other _ _ (Ne.symm hb)]
 exact e
end
noncomputable def Itrv(K:PySem.W.Frag)(a:Addr)(n:Nat):It:=
 ⟨fun i H=>∃ xs x,SqT K H a xs/\xs.length=n/\xs.reverse[i]? = some x,fun i H x H'=>H'=H/\∀ xs,SqT K H a xs->xs.reverse[i]? = some x,fun i _=>n=i⟩
theorem rev_at{α:Type}{xs:List α}{i:Nat}{x:α}(h:xs.reverse[i]? = some x):xs[xs.length - 1 - i]? = some x/\i < xs.length:=by
 have hi:i < xs.reverse.length:=(List.getElem?_eq_some_iff.mp h).1
 rw [List.length_reverse] at hi
 rw [List.getElem?_reverse hi] at h
 exact⟨h,hi⟩
theorem qd1p{P:Program}{w:World}{K:PySem.W.Frag}{tg:Expr}(a it:Addr)(n:Nat)(hn:n <= sizeLine):Turn P w K tg (Itrv K a n) [it] it (fun i h=>h.get? it=some (revT a ((n:Int) - 1 - (i:Nat)))) where
 mem:=by simp
 obj:=fun i h st b hb=>by
  have e:b=it:=by simpa using hb
  subst e
  exact⟨_,st,fun v z=>by
   have z':Data.fields _=Data.cell v:=z
   cases z'⟩
 keep:=fun i h h' st k=>k it (by simp) _ st
 item:=by
  intro X hP hw hK hc i pins s σ H E I hf st hg
  subst hP hw hK
  obtain⟨f0,f1,f2,f3,f4,f5⟩:=hf it (by simp)
  obtain⟨xs,x,hq,hl,hx⟩:=hg
  obtain⟨its,rv,pl,hz⟩:=I.tuple hq
  obtain⟨hx',hi⟩:=rev_at hx
  obtain⟨u,hu,ru⟩:=rv.get hx'
  have e0:(n:Int) - 1 - (i:Nat)=((xs.length - 1 - i:Nat):Int):=by omega
  have ne:a ≠ it:=by
   rintro rfl
   obtain⟨o,ho,hco,_⟩:=pl
   rw [st] at ho
   cases ho
   exact absurd hco (by show ¬ (Value.type "reversed" = Value.type "tuple");decide)
  refine qb5q (l:=a) (i:=xs.length - 1 - i) (items:=its.toArray) (x:=u) (by rw [← e0];exact st) pl (by simpa using hu) ne ?_ fun h' tk st' sb=>?_
  ·have:=qa6d;omega
  ·have I1:Inv X pins σ H { s with heap:=h',toks:=tk }:=I.turned (fun b o hb e=>(sb.2 b hb).trans e) f0 f1 f3 f4 f5
   have st2:h'.get? it=some (revT a ((n:Int) - 1 - ((i + 1:Nat):Int))):=by
    rw [st'];congr 2;omega
   refine⟨u,rfl,go_of (s:={ s with heap:=h',toks:=tk }) (n:="reversed") st2 rfl rfl (by decide) ⟨x,H,I1,ru,⟨rfl,fun ys hys=>?_⟩,st2,fun b hb=>(hf b hb).1⟩⟩
   rw [I.tuple_inj hys hq];exact hx
 done:=by
  intro X hP hw hK hc i pins s σ H E I hf st hg
  subst hP hw hK
  obtain⟨f0,f1,f2,f3,f4,f5⟩:=hf it (by simp)
  have e:n=i:=hg
  have st':s.heap.get? it=some (revT a (-1)):=by rw [st];congr 2;omega
  exact qb6j (I.ok.hd hc) st' fun h' eb=>⟨rfl,I.turned (t':=s.toks) (fun b o hb e=>eb b o hb e) f0 f1 f3 f4 f5⟩
 self:=fun _ _ _ _ _ st h=>qb4y st h
section
variable{X:Cx}{tg:Expr}
def iRev(K:PySem.W.Frag)(tl:TE):TI:=fun σ H R=>tl σ H fun x H1=>∃ a xs,x=.ref a/\SqT K H1 a xs/\R (Itrv K a xs.length) H1
theorem pi_rev{l:Expr}{tl:TE}{p pos:Pos} (hg:Gl X "reversed") (hm:X.mg "reversed" = none) (hl:PE X l tl) (hs:starEach [l] X.env=[(false,eval l X.env)]:=by rfl):PI X tg (.Call (.Name "reversed" p) [l] [] pos) (iRev X.K tl):=by
 intro pins s σ H R I h
 refine Call_ (qa6c I hg hm qc3g (PyProof.Rows.callWith_type1 (thn ((qa2l (t:=tNil) hl qa4q hs) pos pins s σ H (fun vs H1=>match vs with | [x]=>(∃ a xs,x=.ref a/\SqT X.K H1 a xs/\R (Itrv X.K a xs.length) H1) | _=>False) I ?_) fun us s1 ⟨vs,H1,I1,r1,q1⟩=>?_) hs rfl))
 ·exact h
 ·cases r1 with
  | nil=>exact q1.elim
  | cons r rr =>
   cases rr with
   | cons _ _=>exact q1.elim
   | nil =>
   obtain⟨a,xs,rfl,hq,q⟩:=q1
   cases r
   obtain⟨its,rv,pl,hz⟩:=I1.tuple hq
   have hlen:=rv.length
   refine qb3h pl (by have:=qa6d;rw [List.size_toArray];omega) fun tk=>?_
   have I2:Inv X pins σ H1 { s1 with heap:=s1.heap.push (revT a ((its.toArray.size:Int) - 1)),toks:=tk }:=I1.kept fun b o e=>Heap.get?_push_of_some _ e
   have st:({ s1 with heap:=s1.heap.push (revT a ((its.toArray.size:Int) - 1)),toks:=tk }:Shared).heap.get? s1.heap.objs.size=some (revT a ((xs.length:Int) - 1 - ((0:Nat):Int))):=by
    have e:(its.toArray.size:Int) - 1=(xs.length:Int) - 1 - ((0:Nat):Int):=by rw [List.size_toArray];omega
    rw [← e];exact Heap.get?_push_size _ rfl
   refine qb4y st ⟨s1.heap.objs.size,[s1.heap.objs.size],_,_,H1,rfl,I2,qd1p a _ xs.length hz,st,fun b hb=>?_,q⟩
   have e:b=s1.heap.objs.size:=by simpa using hb
   subst e
   exact I1.fpOk (Nat.le_refl _) (I1.hok.fresh (Nat.le_refl _))
end
end L2
end
section
namespace L2
open PySem PySem.Spec PyProof.Rows
inductive Ents (w:World):List DictEntry->List (Str × V)->Prop where
 | nil:Ents w [] []
 | cons {x:Str} {t:Tok} {u:Value} {v:V} {es:List DictEntry} {kvs:List (Str × V)}:RelV v u->Ents w es kvs->Ents w (⟨PyData.keyHash w.params x,.str x t,u⟩ :: es) ((x,v) :: kvs)
def KDict(K:PySem.W.Frag)(w:World)(a:Addr)(kvs:List (Str × V)):Prop:=(kvs.map (·.1)).Nodup/\∃ (es:Array DictEntry) (ep:Nat),K.lookup a=some ⟨.type "dict",none,.dict es ep,#[]⟩/\Ents w es.toList kvs
theorem Ents.pairs{prog:Program}{w:World}{es:List DictEntry}{kvs:List (Str × V)}(h:Ents w es kvs):∃ vs:List (Str × Value),Pairs (strKind prog w) es vs/\KV kvs vs/\(∀ e ∈ es,∃ x t,e.key=.str x t/\e.hash=hashStr w x):=by
 induction h with
 | nil=>exact⟨[],.nil,.nil,fun e he=>by cases he⟩
 | @cons x t u v es kvs r _ ih =>
  obtain⟨vs,p,q,k⟩:=ih
  refine⟨(x,u) :: vs,.cons (strKind_is prog w x t) rfl p,.cons ⟨rfl,r⟩ q,fun e he=>?_⟩
  rcases List.mem_cons.mp he with rfl | he
  ·exact⟨x,t,rfl,rfl⟩
  ·exact k e he
theorem KV.look{kvs:List (Str × V)}{vs:List (Str × Value)}(h:KV kvs vs):(kvs.map (·.1))=(vs.map (·.1))/\∀ x v,kvs.lookup x=some v->∃ u,valueAt vs x=some u/\RelV v u:=by
 induction h with
 | nil=>exact⟨rfl,fun x v e=>by cases e⟩
 | @cons p q kvs vs r _ ih =>
  obtain⟨x,v⟩:=p
  obtain⟨y,u⟩:=q
  obtain⟨e,rv⟩:=r
  have e':x=y:=e
  subst e'
  refine⟨by rw [List.map_cons,List.map_cons,ih.1],fun z w' hz=>?_⟩
  rw [List.lookup_cons] at hz
  by_cases hzx:z=x
  ·subst hzx
   simp at hz
   subst hz
   exact⟨u,by simp [valueAt],rv⟩
  ·have:(z == x)=false:=beq_eq_false_iff_ne.mpr hzx
   rw [this] at hz
   obtain⟨u',h1,h2⟩:=ih.2 z w' hz
   refine⟨u',?_,h2⟩
   unfold valueAt at h1 ⊢
   rw [List.find?_cons_of_neg (by simpa using fun q=>hzx q.symm)]
   exact h1
section
variable{X:Cx}
def rIxK(K:PySem.W.Frag)(w:World):R2:=fun x y H Q=>∃ a kvs z v,x=.ref a/\KDict K w a kvs/\y=.str z/\kvs.lookup z=some v/\Q v H
theorem qd1q:IxR X (rIxK X.K X.w):=by
 intro value slice pins s σ H x y v u Q I rx ry h hs
 obtain⟨a,kvs,z,v',rfl,⟨hnd,es,ep,hk,he⟩,rfl,hl,q⟩:=h
 cases rx
 obtain⟨t,rfl⟩:=ry
 have ho:=I.kIn a _ hk
 obtain⟨vs,hp,hkv,hkeys⟩:=he.pairs (prog:=X.prog)
 obtain⟨e1,hlook⟩:=KV.look hkv
 obtain⟨u',hu,ru⟩:=hlook z v' hl
 have hd:s.heap.DictOf (strKind X.prog X.w) a vs:=by
  refine⟨_,es,ep,ho,⟨rfl,rfl,rfl⟩,rfl,?_,hp,by rw [← e1];exact hnd⟩
  intro e hm
  obtain⟨x',t',e2,e3⟩:=hkeys e (by simpa using hm)
  exact⟨x',by rw [e2];exact strKind_is X.prog X.w x' t',e3⟩
 have fin:∀ s',Inv X pins σ H s'->EP X pins σ Q u' s':=fun s' I'=>⟨v',H,I',ru,q⟩
 exact subscriptTail_builtinR (x:=u') (T:="dict") ⟨_,ho,rfl⟩ PySem.F.slot_dict_getitem.lookup
  (wpAny_getItem_of (Q:=fun r s'=>r=u'/\EP X pins σ Q r s') (strKind_is X.prog X.w z t) hd.mapOf hu ⟨rfl,fin _ (I.tok _)⟩) hs
end
end L2
end
section
namespace L2
open PySem PySem.Spec PyProof.Rows
inductive L where
 /-- data that nobody changes any more -/
 | d (x:PyData)
 /-- a list that this name alone has -/
 | own (xs:List PyData)
 /-- a list of a caller's, lent to be changed -/
 | bor (xs:List PyData)
 /-- the tape: the script and how many draws were made -/
 | tape (k:Nat)
 /-- the script -/
 | scr
abbrev Rho:=List (Option L)
abbrev Own:=Nat->Option Addr
structure Rc where
 H0:Hp
 S:Addr->Prop
 P:Addr->Prop
 M:Addr->Prop
 A:Addr->Prop
 B:Addr->Prop
 lent:Own
 sa:Addr
 ns:List Int
noncomputable def isIO:L->Bool
 | .bor _=>true
 | .tape _=>true
 | _=>false
noncomputable def live(c:Rc)(O:Own):Addr->Prop:=fun a=>c.S a/\¬ c.P a/\∀ i,O i ≠ some a
def qb2g(c:Rc)(p:Addr):Prop:=¬ c.B p/\c.S p/\¬ c.P p
def Scr(K:PySem.W.Frag)(H:Hp)(a:Addr)(xs:List V):Prop:=xs.length <= 63 /\
 ((∃ o,H a=some (.frz o (.lst xs))) ∨ ∃ (o:Obj) (its:Array Value) (n:Nat),K.lookup a=some o/\o.cls=.type "list" /\ o.dict=none/\o.data=.seq its n/\its.size <= sizeLine/\Vals xs its.toList)
theorem Scr.seq{K:PySem.W.Frag}{H:Hp}{a:Addr}{xs:List V}(h:Scr K H a xs):SqL K H a xs:=by
 rcases h.2 with⟨o,h⟩ | h
 ·exact .inl (.inr ⟨o,h⟩)
 ·exact .inr h
structure Rel(K:PySem.W.Frag)(c:Rc)(O:Own)(ρ:Rho)(σ:St)(H:Hp):Prop where
 dat:∀ (i:Nat) (x:PyData),ρ[i]? = some (some (L.d x))->∃ v,σ[i]? = some (some v)/\AtD K H (live c O) x v
 own:∀ (i:Nat) (xs:List PyData),ρ[i]? = some (some (.own xs))->∃ p vs,O i=some p/\qb2g c p/\σ[i]? = some (some (.ref p))/\H p=some (.lst vs)/\qa0d K H (live c O) xs vs
 bor:∀ (i:Nat) (xs:List PyData),ρ[i]? = some (some (.bor xs))->∃ p vs,O i=some p/\σ[i]? = some (some (.ref p))/\H p=some (.lst vs)/\qa0d K H (live c O) xs vs
 tap:∀ (i k:Nat),ρ[i]? = some (some (.tape k))->∃ p,O i=some p/\σ[i]? = some (some (.ref p))/\H p=some (.lst [.ref c.sa,.int k])
 scr:∀ i:Nat,ρ[i]? = some (some .scr)->σ[i]? = some (some (.ref c.sa))
 inj:∀ i j p,O i=some p->O j=some p->i=j
 has':∀ i p,O i=some p->c.A p/\∃ vs,H p=some (.lst vs)
 am:∀ p,c.A p->c.M p ∨ c.H0 p=none
 frs:∀ p,c.H0 p=none->c.S p
 same:∀ b o,¬ c.M b->c.H0 b=some o->H b=some o
 kept:∀ b,c.H0 b ≠ none->H b ≠ none
 ml:∀ p,c.M p->∃ vs,H p=some (.lst vs)
 pin:∀ p,c.P p ∨ c.B p->H p ≠ none
 lnt:∀ (i:Nat) (p:Addr),c.lent i=some p->∀ l:L,ρ[i]? = some (some l)->isIO l=true->O i=some p
 sc:Scr K H c.sa (c.ns.map V.int)
 len:σ.length=ρ.length
theorem Rel.has{K:PySem.W.Frag}{c:Rc}{O:Own}{ρ:Rho}{σ:St}{H:Hp}(R:Rel K c O ρ σ H)(i:Nat)(p:Addr)(h:O i=some p):(c.M p ∨ c.H0 p=none)/\∃ vs,H p=some (.lst vs):=⟨R.am p (R.has' i p h).1,(R.has' i p h).2⟩
def Pers(K:PySem.W.Frag)(S:Addr->Prop)(H:Hp)(S':Addr->Prop)(H':Hp):Prop:=∀ d v,AtD K H S d v->AtD K H' S' d v
section
variable{K:PySem.W.Frag}{S S' S2:Addr->Prop}{H H' H2:Hp}
theorem Pers.refl:Pers K S H S H:=fun _ _ h=>h
theorem Pers.trans(a:Pers K S H S' H')(b:Pers K S' H' S2 H2):Pers K S H S2 H2:=fun d v h=>b d v (a d v h)
theorem Pers.all(a:Pers K S H S' H'):∀ {ds:List PyData} {vs:List V},qa0d K H S ds vs->qa0d K H' S' ds vs
 | [],_,h=>by rw [h.unnil];exact .nil
 | d :: ds,vs,h=>by
  obtain⟨v,r,rfl,h1,h2⟩:=h.uncons
  exact .cons (a d v h1) (Pers.all a h2)
theorem Pers.kvs(a:Pers K S H S' H'):∀ {ds:List (PyData × PyData)} {vs:List (Key × V)},qa0l K H S ds vs->qa0l K H' S' ds vs
 | [],_,h=>by rw [h.unnil];exact .nil
 | (x,d) :: ds,vs,h=>by
  obtain⟨k,v,r,rfl,rfl,h1,h2⟩:=h.uncons
  exact .cons (a d v h1) (Pers.kvs a h2)
theorem Pers.of(e:Keep S H H')(m:∀ a,S a->S' a):Pers K S H S' H':=fun d v h=>AtD.more m d v (AtD.mono e d v h)
theorem Pers.same(e:Same H H'):Pers K S H S H':=.of e.keep fun _ h=>h
mutual
theorem AtD.less{p:Addr}(hp:H p=none)(hs:∀ a,S a->a ≠ p->S' a):∀ (d:PyData) (v:V),AtD K H S d v->AtD K H S' d v
 | .none,_,h=>by unfold AtD at h ⊢;exact h
 | .bool _,_,h=>by unfold AtD at h ⊢;exact h
 | .int _,_,h=>by unfold AtD at h ⊢;exact h
 | .str _,_,h=>by unfold AtD at h ⊢;exact h
 | .list ds,v,h=>by
  obtain⟨a,xs,e1,s,q,r⟩:=qa5c h
  subst e1
  exact qa3q (hs a s (qa3g q hp)) q (qa0d.less hp hs ds xs r)
 | .tuple ds,v,h=>by
  obtain⟨a,xs,e1,q,r⟩:=qa3u h
  subst e1
  exact qa4w q (qa0d.less hp hs ds xs r)
 | .dict kvs,v,h=>by
  obtain⟨a,ν,e1,s,q,e2⟩:=qb1l h
  subst e1
  exact qa8b (hs a s (qa3g q hp)) q (qa0l.less hp hs kvs ν e2)
theorem qa0d.less{p:Addr}(hp:H p=none)(hs:∀ a,S a->a ≠ p->S' a):∀ (ds:List PyData) (vs:List V),qa0d K H S ds vs->qa0d K H S' ds vs
 | [],_,h=>by rw [h.unnil];exact .nil
 | d :: ds,vs,h=>by
  obtain⟨v,r,rfl,h1,h2⟩:=h.uncons
  exact .cons (AtD.less hp hs d v h1) (qa0d.less hp hs ds r h2)
theorem qa0l.less{p:Addr}(hp:H p=none)(hs:∀ a,S a->a ≠ p->S' a):∀ (kvs:List (PyData × PyData)) (κ:List (Key × V)),qa0l K H S kvs κ->qa0l K H S' kvs κ
 | [],_,h=>by rw [h.unnil];exact .nil
 | (x,d) :: r,κ,h=>by
  obtain⟨k,v,t,rfl,rfl,h1,h2⟩:=h.uncons
  exact .cons (AtD.less hp hs d v h1) (qa0l.less hp hs r t h2)
end
theorem Pers.new{p:Addr}(hp:H p=none)(hs:∀ a,S a->a ≠ p->S' a)(o:HO):Pers K S H S' (upd H p o):=fun d v h =>
 AtD.mono (qa2a hp o).keep d v (AtD.less hp hs d v h)
end
section
variable{K:PySem.W.Frag}{c:Rc}{O:Own}{ρ:Rho}{σ:St}{H H':Hp}
theorem Scr.keep{a:Addr}{xs:List V}{S:Addr->Prop}(h:Scr K H a xs)(e:Keep S H H'):Scr K H' a xs:=by
 refine⟨h.1,?_⟩
 rcases h.2 with⟨o,h⟩ | h
 ·exact .inl ⟨o,e.2.1 _ _ _ h⟩
 ·exact .inr h
theorem Rel.to{c':Rc}{O':Own}(R:Rel K c O ρ σ H)(hO:∀ i,O' i=O i)(hB:∀ i p,O i=some p->qb2g c p->qb2g c' p)(hsa:c'.sa=c.sa)(hns:c'.ns=c.ns)
  (hp:Pers K (live c O) H (live c' O') H') (ho:∀ i p vs,O i=some p->H p=some (.lst vs)->H' p=some (.lst vs))
  (hA:∀ i p,O i=some p->c.A p->c'.A p) (am:∀ p,c'.A p->c'.M p ∨ c'.H0 p=none) (frs:∀ p,c'.H0 p=none->c'.S p) (same:∀ b o,¬ c'.M b->c'.H0 b=some o->H' b=some o) (kept:∀ b,c'.H0 b ≠ none->H' b ≠ none) (ml:∀ p,c'.M p->∃ vs,H' p=some (.lst vs))
  (pin:∀ p,c'.P p ∨ c'.B p->H' p ≠ none) (hl:∀ i,c'.lent i=c.lent i) (sc:Scr K H' c.sa (c.ns.map V.int)):Rel K c' O' ρ σ H' where
 dat i x e:=by obtain⟨v,h1,h2⟩:=R.dat i x e;exact⟨v,h1,hp _ _ h2⟩
 own i xs e:=by obtain⟨p,vs,h1,h2,h3,h4,h5⟩:=R.own i xs e;exact⟨p,vs,(hO i).trans h1,hB i p h1 h2,h3,ho i p vs h1 h4,hp.all h5⟩
 bor i xs e:=by obtain⟨p,vs,h1,h3,h4,h5⟩:=R.bor i xs e;exact⟨p,vs,(hO i).trans h1,h3,ho i p vs h1 h4,hp.all h5⟩
 tap i k e:=by obtain⟨p,h1,h2,h3⟩:=R.tap i k e;exact⟨p,(hO i).trans h1,h2,by rw [hsa];exact ho i p _ h1 h3⟩
 scr i e:=by rw [hsa];exact R.scr i e
 inj i j p e1 e2:=R.inj i j p ((hO i).symm.trans e1) ((hO j).symm.trans e2)
 has' i p e:=by
  have e':=(hO i).symm.trans e
  obtain⟨h0,vs,h⟩:=R.has' i p e'
  exact⟨hA i p e' h0,vs,ho i p vs e' h⟩
 am:=am
 frs:=frs
 same:=same
 kept:=kept
 ml:=ml
 pin:=pin
 lnt i p e l h1 h2:=(hO i).trans (R.lnt i p ((hl i).symm.trans e) l h1 h2)
 sc:=by rw [hsa,hns];exact sc
 len:=R.len
theorem qd1r{i:Nat}{p:Addr}(h:O i=some p):¬ live c O p:=fun z=>z.2.2 i h
theorem Rel.grow(R:Rel K c O ρ σ H)(e:Same H H'):Rel K c O ρ σ H':=
 R.to (fun _=>rfl) (fun _ _ _ z=>z) rfl rfl (.same e) (fun i p vs _ q=>e _ _ q) (fun _ _ _ z=>z) R.am R.frs (fun b o n q=>e _ _ (R.same b o n q))
  (fun b n z=>R.kept b n (e.free z)) (fun p h=>let ⟨vs,q⟩:=R.ml p h;⟨vs,e _ _ q⟩) (fun p h z=>R.pin p h (e.free z)) (fun _=>rfl) (R.sc.keep (S:=Any) e.keep)
theorem Rel.free0(R:Rel K c O ρ σ H){p:Addr}(h:H p=none):c.H0 p=none:=by
 cases q:c.H0 p with
 | none=>rfl
 | some o=>exact absurd h (R.kept p (by rw [q];exact fun z=>nomatch z))
theorem Rel.liveNew(R:Rel K c O ρ σ H){p:Addr}(h:H p=none):live c O p:=
 ⟨R.frs p (R.free0 h),fun z=>R.pin p (.inl z) h,fun i e=>by obtain⟨_,vs,q⟩:=R.has i p e;rw [h] at q;cases q⟩
theorem Rel.frsLive(R:Rel K c O ρ σ H):Frs (live c O) H:=fun _ h=>R.liveNew h
theorem Rel.write{i:Nat}{p:Addr}{xs:List PyData}{vs vs':List V}{l:L}(R:Rel K c O ρ σ H)(hO:O i=some p)(hH:H p=some (.lst vs))
  (hl:ρ[i]? = some (some (.own xs)) ∨ ρ[i]? = some (some (.bor xs)) ∨ ∃ k:Nat,ρ[i]? = some (some (.tape k)))
  (hl':(∃ ys,ρ[i]? = some (some (.own xs))/\l=.own ys/\qa0d K H (live c O) ys vs') ∨ (∃ ys,ρ[i]? = some (some (.bor xs))/\l=.bor ys/\qa0d K H (live c O) ys vs') ∨ (∃ k k':Nat,ρ[i]? = some (some (.tape k))/\l=.tape k'/\vs'=[.ref c.sa,.int k'])) :
  Rel K c O (ρ.set i (some l)) σ (upd H p (.lst vs'))/\Pers K (live c O) H (live c O) (upd H p (.lst vs')):=by
 have hi:i < ρ.length:=by
  rcases hl with h | h | ⟨k,h⟩<;>exact(List.getElem?_eq_some_iff.mp h).1
 have kp:Keep (live c O) H (upd H p (.lst vs')):=(qc9i hH).less fun b hb e=>by
  subst e;exact qd1r hO hb
 have P:Pers K (live c O) H (live c O) (upd H p (.lst vs')):=.of kp fun _ h=>h
 have at_i:(ρ.set i (some l))[i]? = some (some l):=by rw [List.getElem?_set_self hi]
 have at_j:∀ j,j ≠ i->(ρ.set i (some l))[j]? = ρ[j]?:=fun j hj=>List.getElem?_set_ne (Ne.symm hj)
 have other:∀ j q,j ≠ i->O j=some q->q ≠ p:=fun j q hj e z=>hj (R.inj j i p (by rw [← z];exact e) hO)
 have hσ:σ[i]? = some (some (.ref p)):=by
  rcases hl with h | h | ⟨k,h⟩
  ·obtain⟨p',_,h1,_,h3,_⟩:=R.own i xs h;rw [hO] at h1;cases h1;exact h3
  ·obtain⟨p',_,h1,h3,_⟩:=R.bor i xs h;rw [hO] at h1;cases h1;exact h3
  ·obtain⟨p',h1,h3,_⟩:=R.tap i k h;rw [hO] at h1;cases h1;exact h3
 refine⟨⟨fun j x e=>?_,fun j ys e=>?_,fun j ys e=>?_,fun j k e=>?_,fun j e=>?_,R.inj,fun j q e=>?_,R.am,R.frs,fun b o n q=>?_,fun b n z=>?_,fun q h=>?_,fun q h z=>?_,fun j q e l2 h1 h2=>?_,?_,?_⟩,P⟩
 ·by_cases hj:j=i
  ·subst hj;rw [at_i] at e
   rcases hl' with⟨ys,_,rfl,_⟩ | ⟨ys,_,rfl,_⟩ | ⟨k,k',_,rfl,_⟩<;>cases e
  ·rw [at_j j hj] at e
   obtain⟨v,h1,h2⟩:=R.dat j x e
   exact⟨v,h1,P _ _ h2⟩
 ·by_cases hj:j=i
  ·subst hj;rw [at_i] at e
   rcases hl' with⟨zs,h0,rfl,h⟩ | ⟨zs,_,rfl,_⟩ | ⟨k,k',_,rfl,_⟩<;>cases e
   obtain⟨p',_,h1,h2,h3,_⟩:=R.own j xs h0
   rw [hO] at h1;cases h1
   exact⟨p,vs',hO,h2,h3,qa1d,P.all h⟩
  ·rw [at_j j hj] at e
   obtain⟨q,ws,h1,h2,h3,h4,h5⟩:=R.own j ys e
   exact⟨q,ws,h1,h2,h3,by rw [qa1h (other j q hj h1)];exact h4,P.all h5⟩
 ·by_cases hj:j=i
  ·subst hj;rw [at_i] at e
   rcases hl' with⟨zs,_,rfl,_⟩ | ⟨zs,h0,rfl,h⟩ | ⟨k,k',_,rfl,_⟩<;>cases e
   exact⟨p,vs',hO,hσ,qa1d,P.all h⟩
  ·rw [at_j j hj] at e
   obtain⟨q,ws,h1,h3,h4,h5⟩:=R.bor j ys e
   exact⟨q,ws,h1,h3,by rw [qa1h (other j q hj h1)];exact h4,P.all h5⟩
 ·by_cases hj:j=i
  ·subst hj;rw [at_i] at e
   rcases hl' with⟨zs,_,rfl,_⟩ | ⟨zs,_,rfl,_⟩ | ⟨k1,k',_,rfl,h⟩<;>cases e
   exact⟨p,hO,hσ,by rw [qa1d,h]⟩
  ·rw [at_j j hj] at e
   obtain⟨q,h1,h3,h4⟩:=R.tap j k e
   exact⟨q,h1,h3,by rw [qa1h (other j q hj h1)];exact h4⟩
 ·by_cases hj:j=i
  ·subst hj;rw [at_i] at e
   rcases hl' with⟨ys,_,rfl,_⟩ | ⟨ys,_,rfl,_⟩ | ⟨k,k',_,rfl,_⟩<;>cases e
  ·rw [at_j j hj] at e
   exact R.scr j e
 ·obtain⟨h1,ws,h2⟩:=R.has' j q e
  refine⟨h1,?_⟩
  by_cases hq:q=p
  ·subst hq;exact⟨vs',qa1d⟩
  ·exact⟨ws,by rw [qa1h hq];exact h2⟩
 ·have hb:b ≠ p:=by
   rintro rfl
   rcases (R.has i b hO).1 with z | z
   ·exact n z
   ·rw [z] at q;cases q
  rw [qa1h hb];exact R.same b o n q
 ·by_cases hb:b=p
  ·subst hb;rw [qa1d] at z;cases z
  ·rw [qa1h hb] at z;exact R.kept b n z
 ·obtain⟨ws,h2⟩:=R.ml q h
  by_cases hq:q=p
  ·subst hq;exact⟨vs',qa1d⟩
  ·exact⟨ws,by rw [qa1h hq];exact h2⟩
 ·by_cases hb:q=p
  ·subst hb;rw [qa1d] at z;cases z
  ·rw [qa1h hb] at z;exact R.pin q h z
 ·by_cases hj:j=i
  ·subst hj;rw [at_i] at h1;cases h1
   rcases hl' with⟨zs,_,rfl,_⟩ | ⟨zs,h0,rfl,_⟩ | ⟨k1,k',h0,rfl,_⟩
   ·cases h2
   ·exact R.lnt j q e _ h0 rfl
   ·exact R.lnt j q e _ h0 rfl
  ·rw [at_j j hj] at h1;exact R.lnt j q e _ h1 h2
 ·exact R.sc.keep kp
 ·rw [List.length_set];exact R.len
noncomputable def qa4b(O:Own)(i:Nat):Own:=fun j=>if j=i then none else O j
theorem qb6k{i:Nat}{a:Addr}(h:live c O a):live c (qa4b O i) a:=⟨h.1,h.2.1,fun j e=>by
 unfold qa4b at e
 by_cases hj:j=i
 ·rw [if_pos hj] at e;cases e
 ·rw [if_neg hj] at e;exact h.2.2 j e⟩
theorem qa4m{i j:Nat}(h:j ≠ i):qa4b O i j=O j:=if_neg h
theorem qc6w{i:Nat}:qa4b O i i=none:=if_pos rfl
theorem qa4n{i j:Nat}{p:Addr}(e:qa4b O i j=some p):j ≠ i/\O j=some p:=by
 by_cases hj:j=i
 ·subst hj;rw [qc6w] at e;cases e
 ·rw [qa4m hj] at e;exact⟨hj,e⟩
theorem Rel.freeze{i:Nat}{xs:List PyData}(R:Rel K c O ρ σ H)(hl:ρ[i]? = some (some (.own xs))) :
  Rel K c (qa4b O i) (ρ.set i (some (.d (.list xs)))) σ H/\Pers K (live c O) H (live c (qa4b O i)) H:=by
 obtain⟨p,vs,hO,hB,hσ,hH,hA⟩:=R.own i xs hl
 have hi:i < ρ.length:=(List.getElem?_eq_some_iff.mp hl).1
 have P:Pers K (live c O) H (live c (qa4b O i)) H:=.of (Keep.refl _ _) fun _ h=>qb6k h
 have at_i:(ρ.set i (some (.d (.list xs))))[i]? = some (some (.d (.list xs))):=by rw [List.getElem?_set_self hi]
 have at_j:∀ j,j ≠ i->(ρ.set i (some (.d (.list xs))))[j]? = ρ[j]?:=fun j hj=>List.getElem?_set_ne (Ne.symm hj)
 have ne:∀ {j:Nat} {l:L},(ρ.set i (some (.d (.list xs))))[j]? = some (some l)->(∀ x,l ≠ .d x)->j ≠ i/\ρ[j]? = some (some l):=fun{j l} e n=>by
  by_cases hj:j=i
  ·subst hj;rw [at_i] at e;cases e;exact absurd rfl (n _)
  ·rw [at_j j hj] at e;exact⟨hj,e⟩
 refine⟨⟨fun j x e=>?_,fun j ys e=>?_,fun j ys e=>?_,fun j k e=>?_,fun j e=>?_,fun a b q e1 e2=>R.inj a b q (qa4n e1).2 (qa4n e2).2,fun j q e=>R.has' j q (qa4n e).2,R.am,R.frs,R.same,R.kept,R.ml,R.pin,fun j q e l h1 h2=>?_,R.sc,?_⟩,P⟩
 ·by_cases hj:j=i
  ·subst hj;rw [at_i] at e;cases e
   refine⟨.ref p,hσ,qa3q ⟨hB.2.1,hB.2.2,fun k e=>?_⟩ hH (P.all hA)⟩
   obtain⟨h1,h2⟩:=qa4n e
   exact h1 (R.inj k j p h2 hO)
  ·rw [at_j j hj] at e
   obtain⟨v,h1,h2⟩:=R.dat j x e
   exact⟨v,h1,P _ _ h2⟩
 ·obtain⟨hj,e⟩:=ne e fun _ z=>nomatch z
  obtain⟨q,ws,h1,h2,h3,h4,h5⟩:=R.own j ys e
  exact⟨q,ws,(qa4m hj).trans h1,h2,h3,h4,P.all h5⟩
 ·obtain⟨hj,e⟩:=ne e fun _ z=>nomatch z
  obtain⟨q,ws,h1,h3,h4,h5⟩:=R.bor j ys e
  exact⟨q,ws,(qa4m hj).trans h1,h3,h4,P.all h5⟩
 ·obtain⟨hj,e⟩:=ne e fun _ z=>nomatch z
  obtain⟨q,h1,h3,h4⟩:=R.tap j k e
  exact⟨q,(qa4m hj).trans h1,h3,h4⟩
 ·obtain⟨hj,e⟩:=ne e fun _ z=>nomatch z
  exact R.scr j e
 ·obtain⟨hj,e'⟩:=ne h1 fun x z=>by subst z;cases h2
  rw [qa4m hj];exact R.lnt j q e _ e' h2
 ·rw [List.length_set];exact R.len
theorem Rel.setD{i:Nat}{x:PyData}{v:V}(R:Rel K c O ρ σ H)(hi:i < ρ.length)(h:AtD K H (live c O) x v) :
  Rel K c (qa4b O i) (ρ.set i (some (.d x))) (σ.set i (some v)) H/\Pers K (live c O) H (live c (qa4b O i)) H:=by
 have P:Pers K (live c O) H (live c (qa4b O i)) H:=.of (Keep.refl _ _) fun _ h=>qb6k h
 have at_i:∀ l:Option L,(ρ.set i l)[i]? = some l:=fun l=>by rw [List.getElem?_set_self hi]
 have at_j:∀ (l:Option L) j,j ≠ i->(ρ.set i l)[j]? = ρ[j]?:=fun l j hj=>List.getElem?_set_ne (Ne.symm hj)
 have st_j:∀ j,j ≠ i->(σ.set i (some v))[j]? = σ[j]?:=fun j hj=>List.getElem?_set_ne (Ne.symm hj)
 have ne:∀ {j:Nat} {l:L},(ρ.set i (some (.d x)))[j]? = some (some l)->(∀ x,l ≠ .d x)->j ≠ i/\ρ[j]? = some (some l):=fun{j l} e n=>by
  by_cases hj:j=i
  ·subst hj;rw [at_i] at e;cases e;exact absurd rfl (n _)
  ·rw [at_j _ j hj] at e;exact⟨hj,e⟩
 refine⟨⟨fun j y e=>?_,fun j ys e=>?_,fun j ys e=>?_,fun j k e=>?_,fun j e=>?_,fun a b q e1 e2=>R.inj a b q (qa4n e1).2 (qa4n e2).2,fun j q e=>R.has' j q (qa4n e).2,R.am,R.frs,R.same,R.kept,R.ml,R.pin,fun j q e l h1 h2=>?_,R.sc,?_⟩,P⟩
 ·by_cases hj:j=i
  ·subst hj;rw [at_i] at e;cases e
   exact⟨v,by rw [List.getElem?_set_self (by rw [R.len];exact hi)],P _ _ h⟩
  ·rw [at_j _ j hj] at e
   obtain⟨v,h1,h2⟩:=R.dat j y e
   exact⟨v,by rw [st_j j hj];exact h1,P _ _ h2⟩
 ·obtain⟨hj,e⟩:=ne e fun _ z=>nomatch z
  obtain⟨q,ws,h1,h2,h3,h4,h5⟩:=R.own j ys e
  exact⟨q,ws,(qa4m hj).trans h1,h2,by rw [st_j j hj];exact h3,h4,P.all h5⟩
 ·obtain⟨hj,e⟩:=ne e fun _ z=>nomatch z
  obtain⟨q,ws,h1,h3,h4,h5⟩:=R.bor j ys e
  exact⟨q,ws,(qa4m hj).trans h1,by rw [st_j j hj];exact h3,h4,P.all h5⟩
 ·obtain⟨hj,e⟩:=ne e fun _ z=>nomatch z
  obtain⟨q,h1,h3,h4⟩:=R.tap j k e
  exact⟨q,(qa4m hj).trans h1,by rw [st_j j hj];exact h3,h4⟩
 ·obtain⟨hj,e⟩:=ne e fun _ z=>nomatch z
  rw [st_j j hj];exact R.scr j e
 ·obtain⟨hj,e'⟩:=ne h1 fun x z=>by subst z;cases h2
  rw [qa4m hj];exact R.lnt j q e _ e' h2
 ·rw [List.length_set,List.length_set];exact R.len
noncomputable def Rc.add(c:Rc)(p:Addr):Rc:={ c with P:=fun a=>c.P a ∨ a=p }
theorem qb2h{p a:Addr}(h:live c O a)(n:a ≠ p):live (c.add p) O a:=⟨h.1,fun z=>z.elim h.2.1 n,h.2.2⟩
theorem qa6g{p a:Addr}(h:live (c.add p) O a):live c O a/\a ≠ p:=⟨⟨h.1,fun z=>h.2.1 (.inl z),h.2.2⟩,fun z=>h.2.1 (.inr z)⟩
theorem Rel.lay{p:Addr}{o:HO}(R:Rel K c O ρ σ H)(hp:H p=none):Rel K (c.add p) O ρ σ (upd H p o)/\Pers K (live c O) H (live (c.add p) O) (upd H p o):=by
 have P:Pers K (live c O) H (live (c.add p) O) (upd H p o):=.new hp (fun a h n=>qb2h h n) o
 have S:=qa2a hp o
 refine⟨R.to (fun _=>rfl) (fun i q hq z=>⟨z.1,z.2.1,fun w=>w.elim z.2.2 fun e=>?_⟩) rfl rfl P (fun i q vs _ h=>S _ _ h) (fun _ _ _ z=>z) R.am R.frs (fun b ob n q=>S _ _ (R.same b ob n q))
  (fun b n z=>R.kept b n (S.free z)) (fun p h=>let ⟨vs,q⟩:=R.ml p h;⟨vs,S _ _ q⟩) (fun q h z=>?_) (fun _=>rfl) (R.sc.keep (S:=Any) S.keep),P⟩
 ·obtain⟨_,vs,h⟩:=R.has i q hq
  rw [e,hp] at h;cases h
 ·rcases h with(h | rfl) | h
  ·exact R.pin q (.inl h) (S.free z)
  ·rw [qa1d] at z;cases z
  ·exact R.pin q (.inr h) (S.free z)
theorem Rel.unadd{p:Addr}(R:Rel K (c.add p) O ρ σ H):Rel K c O ρ σ H/\Pers K (live (c.add p) O) H (live c O) H:=by
 have P:Pers K (live (c.add p) O) H (live c O) H:=.of (Keep.refl _ _) fun a h=>(qa6g h).1
 exact⟨R.to (fun _=>rfl) (fun i q _ z=>⟨z.1,z.2.1,fun w=>z.2.2 (.inl w)⟩) rfl rfl P (fun _ _ _ _ h=>h) (fun _ _ _ z=>z) R.am R.frs R.same R.kept R.ml (fun q h=>R.pin q (h.elim (fun z=>.inl (.inl z)) .inr)) (fun _=>rfl) R.sc,P⟩
noncomputable def owned(O:Own)(i:Nat)(p:Addr):Own:=fun j=>if j=i then some p else O j
theorem qa7b{i j:Nat}{p:Addr}(h:j ≠ i):owned O i p j=O j:=if_neg h
theorem qb2i{i:Nat}{p:Addr}:owned O i p i=some p:=if_pos rfl
theorem Rel.setOwn{i:Nat}{p:Addr}{xs:List PyData}{vs:List V}(R:Rel K (c.add p) O ρ σ H)(hi:i < ρ.length)(h0:c.H0 p=none)(hB:¬ c.B p)(hP:¬ c.P p)(hn:∀ j,O j ≠ some p)(hAp:c.A p)(hH:H p=some (.lst vs))(hA:qa0d K H (live (c.add p) O) xs vs) :
  Rel K c (owned O i p) (ρ.set i (some (.own xs))) (σ.set i (some (.ref p))) H/\Pers K (live (c.add p) O) H (live c (owned O i p)) H:=by
 have P:Pers K (live (c.add p) O) H (live c (owned O i p)) H:=.of (Keep.refl _ _) fun a h=>by
  obtain⟨h1,h2⟩:=qa6g h
  refine⟨h1.1,h1.2.1,fun j e=>?_⟩
  by_cases hj:j=i
  ·subst hj;rw [qb2i] at e;cases e;exact h2 rfl
  ·rw [qa7b hj] at e;exact h1.2.2 j e
 have at_i:(ρ.set i (some (.own xs)))[i]? = some (some (.own xs)):=by rw [List.getElem?_set_self hi]
 have at_j:∀ j,j ≠ i->(ρ.set i (some (.own xs)))[j]? = ρ[j]?:=fun j hj=>List.getElem?_set_ne (Ne.symm hj)
 have st_j:∀ j,j ≠ i->(σ.set i (some (.ref p)))[j]? = σ[j]?:=fun j hj=>List.getElem?_set_ne (Ne.symm hj)
 have ne:∀ {j:Nat} {l:L},(ρ.set i (some (.own xs)))[j]? = some (some l)->(∀ x,l ≠ .own x)->j ≠ i/\ρ[j]? = some (some l):=fun{j l} e n=>by
  by_cases hj:j=i
  ·subst hj;rw [at_i] at e;cases e;exact absurd rfl (n _)
  ·rw [at_j j hj] at e;exact⟨hj,e⟩
 have ow:∀ {j:Nat} {q:Addr},owned O i p j=some q->(j=i/\q=p) ∨ (j ≠ i/\O j=some q):=fun{j q} e=>by
  by_cases hj:j=i
  ·subst hj;rw [qb2i] at e;cases e;exact .inl ⟨rfl,rfl⟩
  ·rw [qa7b hj] at e;exact .inr ⟨hj,e⟩
 refine⟨⟨fun j y e=>?_,fun j ys e=>?_,fun j ys e=>?_,fun j k e=>?_,fun j e=>?_,fun a b q e1 e2=>?_,fun j q e=>?_,R.am,R.frs,R.same,R.kept,R.ml,fun q h=>R.pin q (h.elim (fun z=>.inl (.inl z)) .inr),fun j q e l h1 h2=>?_,R.sc,?_⟩,P⟩
 ·obtain⟨hj,e⟩:=ne e fun _ z=>nomatch z
  obtain⟨v,h1,h2⟩:=R.dat j y e
  exact⟨v,by rw [st_j j hj];exact h1,P _ _ h2⟩
 ·by_cases hj:j=i
  ·subst hj;rw [at_i] at e;cases e
   exact⟨p,vs,qb2i,⟨hB,R.frs p h0,hP⟩,by rw [List.getElem?_set_self (by rw [R.len];exact hi)],hH,P.all hA⟩
  ·rw [at_j j hj] at e
   obtain⟨q,ws,h1,h2,h3,h4,h5⟩:=R.own j ys e
   exact⟨q,ws,(qa7b hj).trans h1,⟨h2.1,h2.2.1,fun z=>h2.2.2 (.inl z)⟩,by rw [st_j j hj];exact h3,h4,P.all h5⟩
 ·obtain⟨hj,e⟩:=ne e fun _ z=>nomatch z
  obtain⟨q,ws,h1,h3,h4,h5⟩:=R.bor j ys e
  exact⟨q,ws,(qa7b hj).trans h1,by rw [st_j j hj];exact h3,h4,P.all h5⟩
 ·obtain⟨hj,e⟩:=ne e fun _ z=>nomatch z
  obtain⟨q,h1,h3,h4⟩:=R.tap j k e
  exact⟨q,(qa7b hj).trans h1,by rw [st_j j hj];exact h3,h4⟩
 ·obtain⟨hj,e⟩:=ne e fun _ z=>nomatch z
  rw [st_j j hj];exact R.scr j e
 ·rcases ow e1 with⟨h1,h2⟩ | ⟨h1,h2⟩<;>rcases ow e2 with⟨h3,h4⟩ | ⟨h3,h4⟩
  ·rw [h1,h3]
  ·rw [h2] at h4;exact absurd h4 (hn b)
  ·rw [h4] at h2;exact absurd h2 (hn a)
  ·exact R.inj a b q h2 h4
 ·rcases ow e with⟨h1,h2⟩ | ⟨h1,h2⟩
  ·subst h2;exact⟨hAp,vs,hH⟩
  ·exact R.has' j q h2
 ·obtain⟨hj,e'⟩:=ne h1 fun x z=>by subst z;cases h2
  rw [qa7b hj];exact R.lnt j q e _ e' h2
 ·rw [List.length_set,List.length_set];exact R.len
theorem Rel.forget{i:Nat}(R:Rel K c O ρ σ H):Rel K c O (ρ.set i none) σ H:=by
 have ne:∀ {j:Nat} {l:L},(ρ.set i none)[j]? = some (some l)->ρ[j]? = some (some l):=fun{j l} e=>by
  by_cases hj:j=i
  ·subst hj
   rw [List.getElem?_set] at e
   split at e
   ·split at e<;>cases e
   ·exact e
  ·rw [List.getElem?_set_ne (Ne.symm hj)] at e;exact e
 exact⟨fun j x e=>R.dat j x (ne e),fun j x e=>R.own j x (ne e),fun j x e=>R.bor j x (ne e),fun j x e=>R.tap j x (ne e),fun j e=>R.scr j (ne e),R.inj,R.has',R.am,R.frs,R.same,R.kept,R.ml,R.pin,fun j q e l h1 h2=>R.lnt j q e l (ne h1) h2,R.sc,by rw [List.length_set];exact R.len⟩
end
end L2
end
section
namespace L2
open PySem PySem.Spec PyProof.Rows
inductive DV where
 | d (x:PyData)
 | sl (i:Nat)
noncomputable def AtV(K:PySem.W.Frag)(S:Addr->Prop)(σ:St)(H:Hp):DV->V->Prop
 | .d x,v=>AtD K H S x v
 | .sl i,v=>σ[i]? = some (some v)
noncomputable def qb1n:L->Option PyData
 | .d x=>some x
 | .own xs=>some (.list xs)
 | .bor xs=>some (.list xs)
 | _=>none
noncomputable def qa0z(ρ:Rho):DV->Option PyData
 | .d x=>some x
 | .sl i=>(ρ[i]?.join).bind qb1n
def AtT(K:PySem.W.Frag)(H:Hp)(S:Addr->Prop)(x:PyData)(v:V):Prop:=AtD K H S x v ∨ ∃ ds a vs,x=.list ds/\v=.ref a/\H a=some (.lst vs)/\qa0d K H S ds vs
def need{α:Type}(o:Option α)(k:α->Prop):Prop:=match o with
 | some a=>k a
 | none=>False
theorem qa1a{α:Type}{a:α}{k:α->Prop}:need (some a) k=k a:=rfl
theorem qc9l{α:Type}{k:α->Prop}:need (none:Option α) k=False:=rfl
theorem ne{α:Type}{o:Option α}{k:α->Prop}(h:need o k):∃ a,o=some a/\k a:=by
 cases o with
 | none=>exact h.elim
 | some a=>exact⟨a,rfl,h⟩
theorem need_mk{α:Type}{o:Option α}{k:α->Prop}{a:α}(e:o=some a)(h:k a):need o k:=by rw [e];exact h
theorem itT{a b:Prop}:(if true=true then a else b)=a:=rfl
theorem itF{a b:Prop}:(if false=true then a else b)=b:=rfl
theorem mapC{α β:Type}{f:α->β}{a:α}{l:List α}:(a :: l).map f=f a :: l.map f:=rfl
theorem mapN{α β:Type}{f:α->β}:([]:List α).map f=[]:=rfl
abbrev TDE:=Rho->(DV->Rho->Prop)->Prop
abbrev TDF:=Rho->(List PyData->Rho->Prop)->Prop
abbrev TDT:=Rho->(Bool->Rho->Prop)->Prop
abbrev TDA:=Rho->(List DV->Rho->Prop)->Prop
def qb4p(c:Rc)(O:Own)(p:Addr):Prop:=c.H0 p=none/\¬ c.B p/\¬ c.P p/\∀ j,O j ≠ some p
def AdE(K:PySem.W.Frag)(t:TE)(dt:TDE):Prop:=∀ (c:Rc) (O:Own) (ρ:Rho) (σ:St) (H:Hp) (Qd:DV->Rho->Prop) (Q:VK),Rel K c O ρ σ H->dt ρ Qd ->
 (∀ x ρ' O' v H',Qd x ρ'->Rel K c O' ρ' σ H'->Pers K (live c O) H (live c O') H'->AtV K (live c O') σ H' x v->Q v H')->t σ H Q
def AdF(K:PySem.W.Frag)(t:TE)(dt:TDF):Prop:=∀ (c:Rc) (O:Own) (ρ:Rho) (σ:St) (H:Hp) (Qd:List PyData->Rho->Prop) (Q:VK),Rel K c O ρ σ H->dt ρ Qd ->
 (∀ xs ρ' O' p vs H',Qd xs ρ'->Rel K (c.add p) O' ρ' σ H'->Pers K (live c O) H (live (c.add p) O') H'->qb4p c O' p->H' p=some (.lst vs)->qa0d K H' (live (c.add p) O') xs vs->Q (.ref p) H')->t σ H Q
def AdT(K:PySem.W.Frag)(t:TT)(dt:TDT):Prop:=∀ (c:Rc) (O:Own) (ρ:Rho) (σ:St) (H:Hp) (Qd:Bool->Rho->Prop) (Q:Bool->Hp->Prop),Rel K c O ρ σ H->dt ρ Qd ->
 (∀ b ρ' O' H',Qd b ρ'->Rel K c O' ρ' σ H'->Pers K (live c O) H (live c O') H'->Q b H')->t σ H Q
noncomputable def AtVs(K:PySem.W.Frag)(S:Addr->Prop)(σ:St)(H:Hp):List DV->List V->Prop:=Paired (AtV K S σ H)
def AdA(K:PySem.W.Frag)(t:TA)(dt:TDA):Prop:=∀ (c:Rc) (O:Own) (ρ:Rho) (σ:St) (H:Hp) (Qd:List DV->Rho->Prop) (Q:List V->Hp->Prop),Rel K c O ρ σ H->dt ρ Qd ->
 (∀ xs ρ' O' vs H',Qd xs ρ'->Rel K c O' ρ' σ H'->Pers K (live c O) H (live c O') H'->AtVs K (live c O') σ H' xs vs->Q vs H')->t σ H Q
def DE(X:Cx)(e:Expr)(dt:TDE):Prop:=∃ t,PE X e t/\AdE X.K t dt
def DF(X:Cx)(e:Expr)(dt:TDF):Prop:=∃ t,PE X e t/\AdF X.K t dt
def DT(X:Cx)(e:Expr)(dt:TDT):Prop:=∃ t,PT X e t/\AdT X.K t dt
def DW(X:Cx)(e:Expr)(dt:TDT):Prop:=∃ t,PW X e t/\AdT X.K t dt
def DA(X:Cx)(es:List Expr)(dt:TDA):Prop:=∃ t,PA X es t/\AdA X.K t dt
section
variable{K:PySem.W.Frag}{c:Rc}{O:Own}{ρ:Rho}{σ:St}{H H':Hp}{S S':Addr->Prop}
theorem AtV.pers{x:DV}{v:V}(h:AtV K S σ H x v)(P:Pers K S H S' H'):AtV K S' σ H' x v:=by
 cases x with
 | d x=>exact P _ _ h
 | sl i=>exact h
theorem AtVs.pers{xs:List DV}{vs:List V}(h:AtVs K S σ H xs vs)(P:Pers K S H S' H'):AtVs K S' σ H' xs vs:=Paired.imp' (fun _ _ q=>q.pers P) h
theorem Rel.top(R:Rel K c O ρ σ H){x:DV}{v:V}{d:PyData}(h:AtV K (live c O) σ H x v)(e:qa0z ρ x=some d):AtT K H (live c O) d v:=by
 cases x with
 | d x=>cases e;exact .inl h
 | sl i =>
  have h':σ[i]? = some (some v):=h
  have e':(ρ[i]?.join).bind qb1n=some d:=e
  cases q:ρ[i]? with
  | none=>rw [q] at e';cases e'
  | some ol =>
   cases ol with
   | none=>rw [q] at e';cases e'
   | some l =>
    rw [q] at e'
    cases l with
    | d x =>
     cases e'
     obtain⟨w,h1,h2⟩:=R.dat i _ q
     rw [h'] at h1;cases h1
     exact .inl h2
    | own xs =>
     cases e'
     obtain⟨p,vs,_,_,h1,h2,h3⟩:=R.own i _ q
     rw [h'] at h1;cases h1
     exact .inr ⟨xs,p,vs,rfl,rfl,h2,h3⟩
    | bor xs =>
     cases e'
     obtain⟨p,vs,_,h1,h2,h3⟩:=R.bor i _ q
     rw [h'] at h1;cases h1
     exact .inr ⟨xs,p,vs,rfl,rfl,h2,h3⟩
    | tape k=>cases e'
    | scr=>cases e'
theorem AtT.list{ds:List PyData}{v:V}(h:AtT K H S (.list ds) v):∃ a vs,v=.ref a/\H a=some (.lst vs)/\qa0d K H S ds vs:=by
 rcases h with h | ⟨ds',a,vs,e,e2,h1,h2⟩
 ·obtain⟨a,vs,e,_,h1,h2⟩:=qa5c h
  exact⟨a,vs,e,h1,h2⟩
 ·cases e;exact⟨a,vs,e2,h1,h2⟩
theorem AtT.at{x:PyData}{v:V}(h:AtT K H S x v)(n:∀ ds,x ≠ .list ds):AtD K H S x v:=by
 rcases h with h | ⟨ds',a,vs,e,_⟩
 ·exact h
 ·exact absurd e (n ds')
theorem AtT.any{x:PyData}{v:V}(h:AtT K H S x v):AtD K H Any x v:=by
 rcases h with h | ⟨ds',a,vs,e,e2,h1,h2⟩
 ·exact AtD.more (fun _ _=>trivial) _ _ h
 ·subst e e2;exact qa3q trivial h1 (qa0d.more (fun _ _=>trivial) _ _ h2)
def dVar(i:Nat):TDE:=fun ρ Q=>(ρ[i]?.join).isSome=true/\Q (.sl i) ρ
theorem ad_var{i:Nat}:AdE K (tVar i) (dVar i):=by
 intro c O ρ σ H Qd Q R h k
 obtain⟨h0,h⟩:=h
 have ex:∃ v,σ[i]? = some (some v):=by
  cases q:ρ[i]? with
  | none=>rw [q] at h0;cases h0
  | some ol =>
   cases ol with
   | none=>rw [q] at h0;cases h0
   | some l =>
    cases l with
    | d x=>obtain⟨w,h1,_⟩:=R.dat i _ q;exact⟨w,h1⟩
    | own xs=>obtain⟨p,vs,_,_,h1,_⟩:=R.own i _ q;exact⟨_,h1⟩
    | bor xs=>obtain⟨p,vs,_,h1,_⟩:=R.bor i _ q;exact⟨_,h1⟩
    | tape k=>obtain⟨p,_,h1,_⟩:=R.tap i _ q;exact⟨_,h1⟩
    | scr=>exact⟨_,R.scr i q⟩
 obtain⟨v,hv⟩:=ex
 exact⟨v,hv,k _ _ _ _ _ h R .refl hv⟩
def dC(x:PyData):TDE:=fun ρ Q=>Q (.d x) ρ
theorem ad_c{x:PyData}{v:V}(hx:∀ (S:Addr->Prop) H,AtD K H S x v):AdE K (tC v) (dC x):=fun c O ρ σ H Qd Q R h k=>k _ _ _ _ _ h R .refl (hx _ _)
end
section
variable{X:Cx}{a b e:Expr}{es:List Expr}{da db:TDE}{pos:Pos}
theorem dv(i:Nat){x:Str}(hN:X.N[i]? = some x:=by rfl)(hv:Vis X.env.scope x:=by first | exact Or.inl rfl | exact Or.inr (Or.inl rfl) | exact Or.inr (Or.inr rfl)) (hd:(x == ("__debug__" : Str))=false:=by decide)
  (hcd:(x == ("__classdict__" : Str))=false:=by decide):DE X (.Name x pos) (dVar i):=⟨_,qb1f hN hv hd hcd,ad_var⟩
theorem qa0c{i j}:DE X (.Constant (.int i) j pos) (dC (.int i)):=⟨_,qa2f,ad_c fun _ _=>qa2y i⟩
theorem qa0h{i j}:DE X (.Constant (.str i) j pos) (dC (.str i)):=⟨_,pe_str,ad_c fun _ _=>qa6z i⟩
theorem qa2o{i j}:DE X (.Constant (.bool i) j pos) (dC (.bool i)):=⟨_,pe_bl,ad_c fun _ _=>qa2j i⟩
theorem qb3q{j}:DE X (.Constant .none j pos) (dC .none):=⟨_,pe_non,ad_c fun _ _=>qb0d⟩
theorem qb1o{x:Str}{i:Int}(hg:Gl X x)(hm:∃ t,X.mg x=some (.int i t)) (hd:(x == ("__debug__" : Str))=false:=by decide):DE X (.Name x pos) (dC (.int i)):=by
 obtain⟨t,hm⟩:=hm
 exact⟨_,qb7k hg hm (v:=.int i) ⟨t,rfl⟩ hd,ad_c fun _ _=>qa2y i⟩
abbrev F2:=PyData->PyData->Option PyData
def AdR(K:PySem.W.Frag)(r:R2)(f:F2):Prop:=∀ (S:Addr->Prop) (H:Hp) (x y:V) (dx dy z:PyData) (Q:VK),Frs S H->AtT K H S dx x->AtT K H S dy y->f dx dy=some z ->
 (∀ v H',Same H H'->AtD K H' S z v->Q v H')->r x y H Q
def dOp(f:F2)(da db:TDE):TDE:=fun ρ Q=>da ρ fun x ρ1=>db ρ1 fun y ρ2=>need (qa0z ρ2 x) fun dx=>need (qa0z ρ2 y) fun dy=>need (f dx dy) fun z=>Q (.d z) ρ2
theorem ad_op{K:PySem.W.Frag}{r:R2}{f:F2}{ta tb:TE}(hr:AdR K r f)(ha:AdE K ta da)(hb:AdE K tb db):AdE K (tOp r ta tb) (dOp f da db):=by
 intro c O ρ σ H Qd Q R h k
 refine ha c O ρ σ H _ _ R h fun x ρ1 O1 v H1 h1 R1 P1 a1=>?_
 refine hb c O1 ρ1 σ H1 _ _ R1 h1 fun y ρ2 O2 u H2 h2 R2 P2 a2=>?_
 obtain⟨dx,e1,hn1⟩:=ne (h2)
 obtain⟨dy,e2,hn2⟩:=ne (hn1)
 obtain⟨z,e3,h3⟩:=ne (hn2)
 refine hr (live c O2) H2 v u dx dy z Q R2.frsLive (R2.top (a1.pers P2) e1) (R2.top a2 e2) e3 fun w H3 s3 a3=>?_
 exact k _ _ _ _ _ h3 (R2.grow s3) ((P1.trans P2).trans (.same s3)) a3
theorem qa1l{op:Operator}{r:R2}{f:F2}(ho:OpR X (binaryOp op) r)(hr:AdR X.K r f)(ha:DE X a da)(hb:DE X b db):DE X (.BinOp a op b pos) (dOp f da db):=by
 obtain⟨ta,pa,aa⟩:=ha
 obtain⟨tb,pb,ab⟩:=hb
 exact⟨_,qa3o ho pa pb,ad_op hr aa ab⟩
theorem qa3c{op:CmpOp}{r:R2}{f:F2}(ho:OpR X (compareOp op) r)(hr:AdR X.K r f)(ha:DE X a da)(hb:DE X b db)(hm:behindInMarks op b=false):DE X (.Compare a [op] [b] pos) (dOp f da db):=by
 obtain⟨ta,pa,aa⟩:=ha
 obtain⟨tb,pb,ab⟩:=hb
 exact⟨_,qc4u ho pa pb hm,ad_op hr aa ab⟩
theorem qa0p{r:R2}{f:F2}(ho:IxR X r)(hr:AdR X.K r f)(ha:DE X a da)(hb:DE X b db)(hs:qb7m b):DE X (.Subscript a b pos) (dOp f da db):=by
 obtain⟨ta,pa,aa⟩:=ha
 obtain⟨tb,pb,ab⟩:=hb
 exact⟨_,pe_ix ho pa pb hs,ad_op hr aa ab⟩
end
section
variable{K:PySem.W.Frag}
theorem AtT.int{H:Hp}{S:Addr->Prop}{i:Int}{v:V}(h:AtT K H S (.int i) v):v=.int i:=qb1k (h.at fun _ z=>nomatch z)
theorem AtT.str{H:Hp}{S:Addr->Prop}{i:Str}{v:V}(h:AtT K H S (.str i) v):v=.str i:=qb3n (h.at fun _ z=>nomatch z)
theorem AtT.bool{H:Hp}{S:Addr->Prop}{i:Bool}{v:V}(h:AtT K H S (.bool i) v):v=.bl i:=qa9p (h.at fun _ z=>nomatch z)
theorem AtT.none{H:Hp}{S:Addr->Prop}{v:V}(h:AtT K H S .none v):v=.non:=qb4o (h.at fun _ z=>nomatch z)
theorem AtT.tup{H:Hp}{S:Addr->Prop}{ds:List PyData}{v:V}(h:AtT K H S (.tuple ds) v):∃ a xs,v=.ref a/\SqT K H a xs/\qa0d K H S ds xs:=qa3u (h.at fun _ z=>nomatch z)
theorem qa0d.eq_nil{H:Hp}{S:Addr->Prop}{ds:List PyData}(h:qa0d K H S ds []):ds=[]:=List.eq_nil_of_length_eq_zero h.length.symm
noncomputable def fAdd:F2
 | .int i,.int j=>some (.int (i + j))
 | .str x,.str y=>if x.length + y.length <= sizeLine then some (.str (x ++ y)) else none
 | .list xs,.list ys=>if xs.length + ys.length <= sizeLine then some (.list (xs ++ ys)) else none
 | .tuple xs,.tuple ys=>if xs.length + ys.length <= sizeLine then some (.tuple (xs ++ ys)) else none
 | _,_=>none
noncomputable def fSub:F2
 | .int i,.int j=>some (.int (i - j))
 | _,_=>none
noncomputable def fMod:F2
 | .int i,.int j=>if 0 < j then some (.int (i % j)) else none
 | _,_=>none
noncomputable def fCmp(p:Int->Int->Bool):F2
 | .int i,.int j=>some (.bool (p i j))
 | _,_=>none
theorem qa4e:AdR K (rI0 fun i j=>.int (i - j)) fSub:=by
 intro S H x y dx dy z Q f hx hy e k
 unfold fSub at e
 split at e<;>cases e
 rw [hx.int,hy.int]
 exact⟨_,_,rfl,rfl,k _ _ (Same.refl _) (qa2y _)⟩
theorem qa2m(p:Int->Int->Bool):AdR K (rI0 fun i j=>.bl (p i j)) (fCmp p):=by
 intro S H x y dx dy z Q f hx hy e k
 unfold fCmp at e
 split at e<;>cases e
 rw [hx.int,hy.int]
 exact⟨_,_,rfl,rfl,k _ _ (Same.refl _) (qa2j _)⟩
theorem ad_mod:AdR K (rI (fun _ j=>0 < j) fun i j=>.int (i % j)) fMod:=by
 intro S H x y dx dy z Q f hx hy e k
 unfold fMod at e
 split at e
 ·split at e
  ·rename_i hc
   cases e
   rw [hx.int,hy.int]
   exact⟨_,_,rfl,rfl,hc,k _ _ (Same.refl _) (qa2y _)⟩
  ·cases e
 ·cases e
def rCat0(K:PySem.W.Frag):R2:=fun x y H Q=>∃ a b ys,x=.ref a/\y=.ref b/\SqT K H a []/\SqT K H b ys/\Q (.ref b) H
theorem op_cat0{X:Cx}:OpR X (binaryOp .Add) (rCat0 X.K):=by
 intro pins s σ H x y v u Q I rx ry h
 obtain⟨a,b,ys,rfl,rfl,ha,hb,q⟩:=h
 cases rx
 cases ry
 obtain⟨its,r1,p1,_⟩:=I.tuple ha
 obtain⟨its2,r2,p2,_⟩:=I.tuple hb
 cases r1
 obtain⟨⟨cls,dd,data,sl⟩,ho,hc,n,hd⟩:=id p1
 obtain⟨⟨cls2,dd2,data2,sl2⟩,ho2,hc2,n2,hd2⟩:=id p2
 simp only at hc hd hc2 hd2
 subst hc hd hc2 hd2
 exact concat_meets ⟨_,ho,rfl⟩ ⟨_,ho2,rfl⟩ noFill_tuple_add seq_tuple_add PySem.F.slot_tuple_add PySem.F.entry_tuple_add (PySem.F.args_tuple_add_2 _ _)
   (tuple_addW0 a b _ its2.toArray n n2 dd dd2 sl sl2 (by simp)) ⟨ho,ho2,⟨.ref b,H,I,rfl,q⟩⟩
def qc5e(K:PySem.W.Frag):R2:=fun x y H Q=>rI0 (fun i j=>.int (i + j)) x y H Q ∨ (∃ i j,x=.str i/\y=.str j/\i.length + j.length <= sizeLine/\Q (.str (i ++ j)) H) ∨ rCat x y H Q ∨ rCatT K x y H Q ∨ rCat0 K x y H Q
theorem qa1i{X:Cx}:OpR X (binaryOp .Add) (qc5e X.K):=qb6c.or (qc6g.or (op_cat.or (op_catT.or op_cat0)))
theorem qa2c:AdR K (qc5e K) fAdd:=by
 intro S H x y dx dy z Q f hx hy e k
 unfold fAdd at e
 split at e
 ·cases e
  rw [hx.int,hy.int]
  exact .inl ⟨_,_,rfl,rfl,k _ _ (Same.refl _) (qa2y _)⟩
 ·split at e
  ·rename_i hc
   cases e
   rw [hx.str,hy.str]
   exact .inr (.inl ⟨_,_,rfl,rfl,hc,k _ _ (Same.refl _) (qa6z _)⟩)
  ·cases e
 ·split at e
  ·rename_i hc
   cases e
   obtain⟨a,vs,rfl,h1,h2⟩:=hx.list
   obtain⟨b,ws,rfl,h3,h4⟩:=hy.list
   refine .inr (.inr (.inl ⟨a,b,vs,ws,rfl,rfl,h1,h3,by rw [h2.length,h4.length];exact hc,fun p hp=>k _ _ (qa2a hp _) (qd1m (f p hp) hp (h2.append h4))⟩))
  ·cases e
 ·split at e
  ·rename_i hc
   cases e
   obtain⟨a,vs,rfl,h1,h2⟩:=hx.tup
   obtain⟨b,ws,rfl,h3,h4⟩:=hy.tup
   by_cases hv:vs=[]
   ·subst hv
    obtain rfl:=h2.eq_nil
    refine .inr (.inr (.inr (.inr ⟨a,b,ws,rfl,rfl,h1,h3,k _ _ (Same.refl _) ?_⟩)))
    exact qa4w h3 h4
   ·refine .inr (.inr (.inr (.inl ⟨a,b,vs,ws,rfl,rfl,h1,h3,hv,by rw [h2.length,h4.length];exact hc,fun ew=>k _ _ (Same.refl _) ?_,fun ew p hp=>k _ _ (qa2a hp _) (qb2e hp (h2.append h4))⟩)))
    subst ew
    obtain rfl:=h4.eq_nil
    rw [List.append_nil]
    exact qa4w h1 h2
  ·cases e
 ·cases e
noncomputable def fEq(neg:Bool):F2:=fun d e=>if SeqAt.shaped d=true/\SeqAt.shaped e=true then some (.bool (if neg then !PyData.eqv d e else PyData.eqv d e)) else none
theorem ad_eq{neg:Bool}:AdR K (rEqD K neg) (fEq neg):=by
 intro S H x y dx dy z Q f hx hy e k
 unfold fEq at e
 split at e
 ·rename_i hc
  cases e
  exact⟨Any,Any,dx,dy,hx.any,hy.any,hc.1,hc.2,k _ _ (Same.refl _) (qa2j _)⟩
 ·cases e
noncomputable def fIx:F2
 | .list xs,.int i=>atI xs i
 | .tuple xs,.int i=>atI xs i
 | .str x,.int i=>if x.length <= sizeLine then(atI x.cps.toList i).map fun c=>.str ⟨#[c]⟩ else none
 | _,_=>none
theorem qa0q:AdR K (rIx K) fIx:=by
 intro S H x y dx dy z Q f hx hy e k
 unfold fIx at e
 split at e
 ·obtain⟨a,vs,rfl,h1,h2⟩:=hx.list
  rw [hy.int]
  obtain⟨v,e1,e2⟩:=qc5d h2 e
  exact .inl ⟨a,vs,_,v,rfl,rfl,SqL.of h1,e1,k _ _ (Same.refl _) e2⟩
 ·obtain⟨a,vs,rfl,h1,h2⟩:=hx.tup
  rw [hy.int]
  obtain⟨v,e1,e2⟩:=qc5d h2 e
  exact .inr (.inl ⟨a,vs,_,v,rfl,rfl,h1,e1,k _ _ (Same.refl _) e2⟩)
 ·split at e
  ·rename_i hc
   rw [hx.str,hy.int]
   cases q:atI (PySem.Str.cps _).toList _ with
   | none=>rw [q] at e;cases e
   | some cc =>
    rw [q] at e
    cases e
    exact .inr (.inr ⟨_,_,cc,rfl,rfl,hc,q,k _ _ (Same.refl _) (qa6z _)⟩)
  ·cases e
 ·cases e
noncomputable def qa1n:PyData->Bool
 | .none=>true | .bool _=>true | .int _=>true | .str _=>true
 | _=>false
noncomputable def seqD:PyData->Option (List PyData)
 | .list xs=>some xs
 | .tuple xs=>some xs
 | _=>none
noncomputable def eqF:PyData->PyData->Bool
 | .none,.none=>true
 | .bool a,.bool b=>a == b
 | .int a,.int b=>a == b
 | .bool a,.int b=>(if a then(1:Int) else 0) == b
 | .int a,.bool b=>a == (if b then(1:Int) else 0)
 | .str a,.str b=>a == b
 | _,_=>false
noncomputable def inF(x:PyData)(xs:List PyData):Bool:=xs.any fun y=>eqF y x
noncomputable def fIn(neg:Bool):F2:=fun x y=>match y with
 | .str z=>match x with
  | .str w=>some (.bool (if neg then !(!(Builtin.Str.occurrences z w 0 z.length 1).isEmpty) else !(Builtin.Str.occurrences z w 0 z.length 1).isEmpty))
  | _=>none
 | y=>match seqD y with
  | some xs=>if qa1n x && xs.all qa1n then some (.bool (if neg then !inF x xs else inF x xs)) else none
  | none=>none
end
end L2
end
section
namespace L2
open PySem PySem.Spec PyProof.Rows
section
variable{K:PySem.W.Frag}{c:Rc}{O:Own}{ρ:Rho}{σ:St}{H H':Hp}{S S':Addr->Prop}
noncomputable def toV:PyData->V
 | .bool b=>.bl b
 | .int i=>.int i
 | .str x=>.str x
 | _=>.non
theorem qa9q{d:PyData}{v:V}(h:AtD K H S d v)(f:qa1n d=true):v=toV d/\qa7j v=true:=by
 cases d with
 | none=>rw [qb4o h];exact⟨rfl,rfl⟩
 | bool b=>rw [qa9p h];exact⟨rfl,rfl⟩
 | int i=>rw [qb1k h];exact⟨rfl,rfl⟩
 | str x=>rw [qb3n h];exact⟨rfl,rfl⟩
 | _=>cases f
theorem eq_flat{x y:PyData}(fx:qa1n x=true)(fy:qa1n y=true):eqV (toV y) (toV x)=eqF y x:=by
 cases x<;>cases y<;>first | rfl | (cases fx;done) | (cases fy;done)
theorem qc0m{x:PyData}(fx:qa1n x=true):∀ {ds:List PyData} {vs:List V},qa0d K H S ds vs->ds.all qa1n=true->vs.all qa7j=true/\inV (toV x) vs=inF x ds
 | [],vs,h,_=>by rw [h.unnil];exact⟨rfl,rfl⟩
 | d :: ds,vs,h,f=>by
  obtain⟨v,r,rfl,h1,h2⟩:=h.uncons
  rw [List.all_cons,Bool.and_eq_true] at f
  obtain⟨e1,e2⟩:=qa9q h1 f.1
  obtain⟨e3,e4⟩:=qc0m fx h2 f.2
  refine⟨by rw [List.all_cons,e2,e3];rfl,?_⟩
  show(eqV v (toV x) || inV (toV x) r)=(eqF d x || inF x ds)
  rw [e1,eq_flat fx f.1,e4]
def qc0n(K:PySem.W.Frag)(neg:Bool):R2:=fun x y H Q=>rIn K neg x y H Q ∨ (∃ i j,x=.str i/\y=.str j/\Q (.bl (if neg then !(!(Builtin.Str.occurrences j i 0 j.length 1).isEmpty) else !(Builtin.Str.occurrences j i 0 j.length 1).isEmpty)) H)
theorem qa2d{X:Cx}:OpR X (compareOp .In) (qc0n X.K false):=qc8x.or qc8v
theorem qa7l{X:Cx}:OpR X (compareOp .NotIn) (qc0n X.K true):=qc0c.or qc0d
theorem AtT.seq{x:PyData}{ds:List PyData}{v:V}(h:AtT K H S x v)(e:seqD x=some ds):∃ a vs,v=.ref a/\(SqL K H a vs ∨ SqT K H a vs)/\qa0d K H S ds vs:=by
 cases x with
 | list xs=>cases e;obtain⟨a,vs,e1,h1,h2⟩:=h.list;exact⟨a,vs,e1,.inl (SqL.of h1),h2⟩
 | tuple xs=>cases e;obtain⟨a,vs,e1,h1,h2⟩:=h.tup;exact⟨a,vs,e1,.inr h1,h2⟩
 | _=>cases e
theorem qa3e{neg:Bool}:AdR K (qc0n K neg) (fIn neg):=by
 intro S H x y dx dy z Q f hx hy e k
 unfold fIn at e
 split at e
 ·split at e
  ·cases e
   rw [hx.str,hy.str]
   exact .inr ⟨_,_,rfl,rfl,k _ _ (Same.refl _) (qa2j _)⟩
  ·cases e
 ·split at e
  ·rename_i xs es
   split at e
   ·rename_i hf
    cases e
    rw [Bool.and_eq_true] at hf
    obtain⟨a,vs,rfl,h1,h2⟩:=hy.seq es
    obtain⟨e1,e2⟩:=qa9q (hx.at fun ds z=>by subst z;exact absurd hf.1 (by simp [qa1n])) hf.1
    obtain⟨e3,e4⟩:=qc0m hf.1 h2 hf.2
    refine .inl ⟨a,vs,rfl,h1,e2,e3,?_⟩
    rw [e1,e4]
    exact k _ _ (Same.refl _) (qa2j _)
   ·cases e
  ·cases e
def fz(ρ:Rho)(x:DV)(Q:PyData->Rho->Prop):Prop:=match x with
 | .d y=>Q y ρ
 | .sl i=>match ρ[i]?.join with
  | some (.d y)=>Q y ρ
  | some (.own xs)=>Q (.list xs) (ρ.set i (some (.d (.list xs))))
  | _=>False
theorem qa2n{i:Nat}{l:L}(h:ρ[i]?.join=some l):ρ[i]? = some (some l):=by
 cases q:ρ[i]? with
 | none=>rw [q] at h;cases h
 | some o=>rw [q] at h;cases o with
  | none=>cases h
  | some l'=>cases h;rfl
theorem Rel.fz{x:DV}{v:V}{Q:PyData->Rho->Prop}(R:Rel K c O ρ σ H)(a:AtV K (live c O) σ H x v)(h:fz ρ x Q):∃ y ρ' O',Q y ρ'/\Rel K c O' ρ' σ H/\Pers K (live c O) H (live c O') H/\AtD K H (live c O') y v:=by
 cases x with
 | d y=>exact⟨y,ρ,O,h,R,.refl,a⟩
 | sl i =>
  have a':σ[i]? = some (some v):=a
  simp only [L2.fz] at h
  split at h
  ·rename_i y e
   have e':=qa2n e
   obtain⟨w,h1,h2⟩:=R.dat i y e'
   rw [a'] at h1;cases h1
   exact⟨y,ρ,O,h,R,.refl,h2⟩
  ·rename_i xs e
   have e':=qa2n e
   obtain⟨R',P⟩:=R.freeze e'
   have hi:i < ρ.length:=(List.getElem?_eq_some_iff.mp e').1
   obtain⟨w,h1,h2⟩:=R'.dat i (.list xs) (by rw [List.getElem?_set_self hi])
   rw [a'] at h1;cases h1
   exact⟨_,_,_,h,R',P,h2⟩
  ·exact h.elim
noncomputable def fzs:Rho->List DV->(List PyData->Rho->Prop)->Prop
 | ρ,[],Q=>Q [] ρ
 | ρ,x :: xs,Q=>fz ρ x fun y ρ1=>fzs ρ1 xs fun ys ρ2=>Q (y :: ys) ρ2
theorem qc5f{xs:List DV}:∀ {vs:List V} {ρ:Rho} {O:Own} {Q:List PyData->Rho->Prop},Rel K c O ρ σ H->AtVs K (live c O) σ H xs vs->fzs ρ xs Q->∃ ys ρ' O',Q ys ρ'/\Rel K c O' ρ' σ H/\Pers K (live c O) H (live c O') H/\qa0d K H (live c O') ys vs:=by
 induction xs with
 | nil =>
  intro vs ρ O Q R a h
  cases a
  exact⟨[],ρ,O,h,R,.refl,.nil⟩
 | cons x xs ih =>
  intro vs ρ O Q R a h
  cases a with
  | cons a as =>
   obtain⟨y,ρ1,O1,h1,R1,P1,a1⟩:=R.fz a h
   obtain⟨ys,ρ2,O2,h2,R2,P2,a2⟩:=ih R1 (AtVs.pers as P1) h1
   exact⟨y :: ys,ρ2,O2,h2,R2,P1.trans P2,.cons (P2 _ _ a1) a2⟩
def dNil:TDA:=fun ρ Q=>Q [] ρ
def qa6h(de:TDE)(dr:TDA):TDA:=fun ρ Q=>de ρ fun x ρ1=>dr ρ1 fun xs ρ2=>Q (x :: xs) ρ2
theorem ad_nil:AdA K tNil dNil:=fun c O ρ σ H Qd Q R h k=>k _ _ _ _ _ h R .refl .nil
theorem ad_cons{te:TE}{ta:TA}{de:TDE}{da:TDA}(he:AdE K te de)(ha:AdA K ta da):AdA K (qa8u te ta) (qa6h de da):=by
 intro c O ρ σ H Qd Q R h k
 refine he c O ρ σ H _ _ R h fun x ρ1 O1 v H1 h1 R1 P1 a1=>?_
 refine ha c O1 ρ1 σ H1 _ _ R1 h1 fun xs ρ2 O2 vs H2 h2 R2 P2 a2=>?_
 exact k _ _ _ _ _ h2 R2 (P1.trans P2) (.cons (a1.pers P2) a2)
def dTup(da:TDA):TDE:=fun ρ Q=>da ρ fun xs ρ1=>fzs ρ1 xs fun ys ρ2=>ys.length <= 1000000/\Q (.d (.tuple ys)) ρ2
def dLst(da:TDA):TDF:=fun ρ Q=>da ρ fun xs ρ1=>fzs ρ1 xs fun ys ρ2=>ys.length <= 1000000/\Q ys ρ2
theorem mil{n:Nat}(h:n <= 1000000):n < sizeLine:=Nat.lt_of_le_of_lt h (by decide +kernel)
theorem ad_tup{ta:TA}{da:TDA}(ha:AdA K ta da):AdE K (tTup ta) (dTup da):=by
 intro c O ρ σ H Qd Q R h k
 refine ha c O ρ σ H _ _ R h fun xs ρ1 O1 vs H1 h1 R1 P1 a1=>?_
 obtain⟨ys,ρ2,O2,⟨hz,h2⟩,R2,P2,a2⟩:=qc5f R1 a1 h1
 refine⟨by rw [a2.length];exact Nat.le_of_lt (mil hz),fun p hp=>?_⟩
 have s:=qa2a hp (.tup vs)
 exact k _ _ _ _ _ h2 (R2.grow s) ((P1.trans P2).trans (.same s)) (qb2e hp a2)
theorem qb5r{p:Addr}(R:Rel K c O ρ σ H)(hp:H p=none):qb4p c O p:=⟨R.free0 hp,fun z=>R.pin p (.inr z) hp,fun z=>R.pin p (.inl z) hp,fun j e=>by obtain⟨_,vs,q⟩:=R.has j p e;rw [hp] at q;cases q⟩
theorem Rel.newL{p:Addr}{ys:List PyData}{vs:List V}(R:Rel K c O ρ σ H)(hp:H p=none)(h:qa0d K H (live c O) ys vs) :
  Rel K (c.add p) O ρ σ (upd H p (.lst vs))/\Pers K (live c O) H (live (c.add p) O) (upd H p (.lst vs))/\qb4p c O p/\qa0d K (upd H p (.lst vs)) (live (c.add p) O) ys vs:=by
 obtain⟨R1,P1⟩:=R.lay (o:=.lst vs) hp
 exact⟨R1,P1,qb5r R hp,P1.all h⟩
theorem ad_lst{ta:TA}{da:TDA}(ha:AdA K ta da):AdF K (tLst ta) (dLst da):=by
 intro c O ρ σ H Qd Q R h k
 refine ha c O ρ σ H _ _ R h fun xs ρ1 O1 vs H1 h1 R1 P1 a1=>?_
 obtain⟨ys,ρ2,O2,⟨hz,h2⟩,R2,P2,a2⟩:=qc5f R1 a1 h1
 refine⟨by rw [a2.length];exact Nat.le_of_lt (mil hz),fun p hp=>?_⟩
 obtain⟨R3,P3,f3,a3⟩:=R2.newL hp a2
 exact k _ _ _ _ _ _ h2 R3 ((P1.trans P2).trans P3) f3 qa1d a3
def dFz(df:TDF):TDE:=fun ρ Q=>df ρ fun xs ρ1=>Q (.d (.list xs)) ρ1
theorem ad_fz{t:TE}{df:TDF}(h:AdF K t df):AdE K t (dFz df):=by
 intro c O ρ σ H Qd Q R h0 k
 refine h c O ρ σ H _ _ R h0 fun xs ρ1 O1 p vs H1 h1 R1 P1 f1 hp a1=>?_
 obtain⟨R2,P2⟩:=R1.unadd
 exact k _ _ _ _ _ h1 R2 (P1.trans P2) (qa3q ⟨R1.frs p f1.1,f1.2.2.1,f1.2.2.2⟩ hp (P2.all a1))
abbrev F2L:=PyData->PyData->Option (List PyData)
noncomputable def qa2s(ρ:Rho):List DV->Option (List PyData)
 | []=>some []
 | x :: xs=>(qa0z ρ x).bind fun y=>(qa2s ρ xs).map (y :: ·)
noncomputable def AtTs(K:PySem.W.Frag)(H:Hp)(S:Addr->Prop):List PyData->List V->Prop:=Paired (AtT K H S)
theorem Rel.tops(R:Rel K c O ρ σ H){xs:List DV}:∀ {vs:List V} {ds:List PyData},AtVs K (live c O) σ H xs vs->qa2s ρ xs=some ds->AtTs K H (live c O) ds vs:=by
 induction xs with
 | nil =>
  intro vs ds a e
  cases a;cases e;exact .nil
 | cons x xs ih =>
  intro vs ds a e
  cases a with
  | cons a as =>
   unfold qa2s at e
   cases q:qa0z ρ x with
   | none=>rw [q] at e;cases e
   | some y =>
    rw [q] at e
    have e':(qa2s ρ xs).map (y :: ·)=some ds:=e
    cases q2:qa2s ρ xs with
    | none=>rw [q2] at e';cases e'
    | some ys =>
     rw [q2] at e'
     cases e'
     exact .cons (R.top a q) (ih as q2)
abbrev FC:=List PyData->Option PyData
abbrev FCL:=List PyData->Option (List PyData)
def AdC(K:PySem.W.Frag)(r:List V->Hp->VK->Prop)(f:FC):Prop:=∀ (S:Addr->Prop) (H:Hp) (vs:List V) (ds:List PyData) (z:PyData) (Q:VK),Frs S H->AtTs K H S ds vs->f ds=some z ->
 (∀ v H',Same H H'->AtD K H' S z v->Q v H')->r vs H Q
def AdCF(K:PySem.W.Frag)(r:List V->Hp->VK->Prop)(f:FCL):Prop:=∀ (S:Addr->Prop) (H:Hp) (vs:List V) (ds:List PyData) (z:List PyData) (Q:VK),AtTs K H S ds vs->f ds=some z ->
 (∀ p ws,H p=none->qa0d K H S z ws->Q (.ref p) (upd H p (.lst ws)))->r vs H Q
def dCB(f:FC)(da:TDA):TDE:=fun ρ Q=>da ρ fun xs ρ1=>need (qa2s ρ1 xs) fun ds=>need (f ds) fun z=>Q (.d z) ρ1
def dCBF(f:FCL)(da:TDA):TDF:=fun ρ Q=>da ρ fun xs ρ1=>need (qa2s ρ1 xs) fun ds=>need (f ds) fun z=>Q z ρ1
theorem ad_cb{r:List V->Hp->VK->Prop}{f:FC}{ta:TA}{da:TDA}(hr:AdC K r f)(ha:AdA K ta da):AdE K (tCB r ta) (dCB f da):=by
 intro c O ρ σ H Qd Q R h k
 refine ha c O ρ σ H _ _ R h fun xs ρ1 O1 vs H1 h1 R1 P1 a1=>?_
 obtain⟨ds,e1,hn2⟩:=ne (h1)
 obtain⟨z,e2,h2⟩:=ne (hn2)
 refine hr (live c O1) H1 vs ds z Q R1.frsLive (R1.tops a1 e1) e2 fun v H2 s2 a2=>?_
 exact k _ _ _ _ _ h2 (R1.grow s2) (P1.trans (.same s2)) a2
theorem ad_cbF{r:List V->Hp->VK->Prop}{f:FCL}{ta:TA}{da:TDA}(hr:AdCF K r f)(ha:AdA K ta da):AdF K (tCB r ta) (dCBF f da):=by
 intro c O ρ σ H Qd Q R h k
 refine ha c O ρ σ H _ _ R h fun xs ρ1 O1 vs H1 h1 R1 P1 a1=>?_
 obtain⟨ds,e1,hn1⟩:=ne (h1)
 obtain⟨z,e2,h2⟩:=ne (hn1)
 refine hr (live c O1) H1 vs ds z Q (R1.tops a1 e1) e2 fun p ws hp a2=>?_
 obtain⟨R3,P3,f3,a4⟩:=R1.newL hp a2
 exact k _ _ _ _ _ _ h2 R3 (P1.trans P3) f3 qa1d a4
theorem AtTs.one{d:PyData}{vs:List V}(h:AtTs K H S [d] vs):∃ v,vs=[v]/\AtT K H S d v:=by
 cases h with
 | cons h t=>cases t;exact⟨_,rfl,h⟩
theorem AtTs.two{d e:PyData}{vs:List V}(h:AtTs K H S [d,e] vs):∃ v u,vs=[v,u]/\AtT K H S d v/\AtT K H S e u:=by
 cases h with
 | cons h t=>cases t with
  | cons h' t=>cases t;exact⟨_,_,rfl,h,h'⟩
noncomputable def fLen:FC
 | [.list xs]=>some (.int xs.length)
 | [.tuple xs]=>some (.int xs.length)
 | [.str x]=>if x.length <= sizeLine then some (.int x.length) else none
 | _=>none
noncomputable def qc5g(K:PySem.W.Frag):List V->Hp->VK->Prop:=fun xs H Q=>(∃ p ys,xs=[.ref p]/\(SqL K H p ys ∨ SqT K H p ys)/\Q (.int ys.length) H) ∨ (∃ z,xs=[.str z]/\z.length <= sizeLine/\Q (.int z.length) H)
theorem qa1b{X:Cx}:qa2r X (.builtin "len") (qc5g X.K):=qa6e.or qc0e
theorem qa2b:AdC K (qc5g K) fLen:=by
 intro S H vs ds z Q f h e k
 unfold fLen at e
 split at e
 ·cases e
  obtain⟨v,rfl,h1⟩:=h.one
  obtain⟨a,ws,rfl,h2,h3⟩:=h1.list
  exact .inl ⟨a,ws,rfl,.inl (SqL.of h2),by rw [h3.length];exact k _ _ (Same.refl _) (qa2y _)⟩
 ·cases e
  obtain⟨v,rfl,h1⟩:=h.one
  obtain⟨a,ws,rfl,h2,h3⟩:=h1.tup
  exact .inl ⟨a,ws,rfl,.inr h2,by rw [h3.length];exact k _ _ (Same.refl _) (qa2y _)⟩
 ·split at e
  ·rename_i hc
   cases e
   obtain⟨v,rfl,h1⟩:=h.one
   rw [h1.str]
   exact .inr ⟨_,rfl,hc,k _ _ (Same.refl _) (qa2y _)⟩
  ·cases e
 ·cases e
noncomputable def qb6l:FC
 | [.list xs]=>some (.tuple xs)
 | [.tuple xs]=>some (.tuple xs)
 | _=>none
theorem qa5d:AdC K (fun xs H Q=>∃ p ys,xs=[.ref p]/\((SqL K H p ys/\∀ l,H l=none->Q (.ref l) (upd H l (.tup ys))) ∨ (SqT K H p ys/\Q (.ref p) H))) qb6l:=by
 intro S H vs ds z Q f h e k
 unfold qb6l at e
 split at e
 ·cases e
  obtain⟨v,rfl,h1⟩:=h.one
  obtain⟨a,ws,rfl,h2,h3⟩:=h1.list
  exact⟨a,ws,rfl,.inl ⟨SqL.of h2,fun l hl=>k _ _ (qa2a hl _) (qb2e hl h3)⟩⟩
 ·cases e
  obtain⟨v,rfl,h1⟩:=h.one
  obtain⟨a,ws,rfl,h2,h3⟩:=h1.tup
  exact⟨a,ws,rfl,.inr ⟨h2,k _ _ (Same.refl _) (qa4w h2 h3)⟩⟩
 ·cases e
noncomputable def fList:FCL
 | [.list xs]=>some xs
 | [.tuple xs]=>some xs
 | _=>none
theorem ad_list:AdCF K (fun xs H Q=>∃ p ys,xs=[.ref p]/\(SqL K H p ys ∨ SqT K H p ys)/\∀ l,H l=none->Q (.ref l) (upd H l (.lst ys))) fList:=by
 intro S H vs ds z Q h e k
 unfold fList at e
 split at e
 ·cases e
  obtain⟨v,rfl,h1⟩:=h.one
  obtain⟨a,ws,rfl,h2,h3⟩:=h1.list
  exact⟨a,ws,rfl,.inl (SqL.of h2),fun l hl=>k _ _ hl h3⟩
 ·cases e
  obtain⟨v,rfl,h1⟩:=h.one
  obtain⟨a,ws,rfl,h2,h3⟩:=h1.tup
  exact⟨a,ws,rfl,.inr h2,fun l hl=>k _ _ hl h3⟩
 ·cases e
end
section
variable{X:Cx}{a b e:Expr}{es:List Expr}{da db de:TDE}{daa:TDA}{pos:Pos}
theorem qa0b:DA X [] dNil:=⟨_,qa4q,ad_nil⟩
theorem qa0a(he:DE X e de)(ha:DA X es daa)(hs:starEach (e :: es) X.env=(false,eval e X.env) :: starEach es X.env:=by rfl):DA X (e :: es) (qa6h de daa):=by
 obtain⟨te,p1,a1⟩:=he
 obtain⟨ta,p2,a2⟩:=ha
 exact⟨_,qa2l p1 p2 hs,ad_cons a1 a2⟩
theorem qa0u{x1}(ha:DA X es daa):DE X (.Tuple es x1 pos) (dTup daa):=by obtain⟨t,p,a⟩:=ha;exact⟨_,pe_tup p,ad_tup a⟩
theorem qa1o(ha:DA X es daa):DF X (.List es pos) (dLst daa):=by obtain⟨t,p,a⟩:=ha;exact⟨_,pe_lst p,ad_lst a⟩
theorem qa1c{df:TDF}(h:DF X e df):DE X e (dFz df):=by obtain⟨t,p,a⟩:=h;exact⟨t,p,ad_fz a⟩
theorem qa1f{x:Str}{p:Pos}{id:String}{r:List V->Hp->VK->Prop}{f:FC}(hc:qa2r X (.builtin id) r)(hr:AdC X.K r f)(hg:Gl X x)(hm:X.mg x=none)(hv:bootBuiltins x=some (.builtin id))(ha:DA X (e :: es) daa) (hn:x ≠ "__name__":=by decide) (hdb:(x == ("__debug__" : Str))=false:=by decide)
  (he:starEach (e :: es) X.env=(false,eval e X.env) :: starEach es X.env:=by rfl) (hpl:(backTo pos (starEach es X.env)).any (·.1)=false:=by rfl):DE X (.Call (.Name x p) (e :: es) [] pos) (dCB f daa):=by
 obtain⟨ta,pa,aa⟩:=ha
 exact⟨_,qa6u hc hg hm hv pa hn hdb he hpl,ad_cb hr aa⟩
theorem qa3h{x:Str}{p:Pos}{T:String}{r:List V->Hp->VK->Prop}{f:FC}(hc:qa2r X (.type T) r)(hr:AdC X.K r f)(hg:Gl X x)(hm:X.mg x=none)(hv:bootBuiltins x=some (.type T))(ha:DA X (e :: es) daa) (hn:x ≠ "__name__":=by decide) (hdb:(x == ("__debug__" : Str))=false:=by decide)
  (he:starEach (e :: es) X.env=(false,eval e X.env) :: starEach es X.env:=by rfl) (hpl:(backTo pos (starEach es X.env)).any (·.1)=false:=by rfl):DE X (.Call (.Name x p) (e :: es) [] pos) (dCB f daa):=by
 obtain⟨ta,pa,aa⟩:=ha
 exact⟨_,qb3k hc hg hm hv pa hn hdb he hpl,ad_cb hr aa⟩
theorem qc9m{x:Str}{p:Pos}{T:String}{r:List V->Hp->VK->Prop}{f:FCL}(hc:qa2r X (.type T) r)(hr:AdCF X.K r f)(hg:Gl X x)(hm:X.mg x=none)(hv:bootBuiltins x=some (.type T))(ha:DA X (e :: es) daa) (hn:x ≠ "__name__":=by decide) (hdb:(x == ("__debug__" : Str))=false:=by decide)
  (he:starEach (e :: es) X.env=(false,eval e X.env) :: starEach es X.env:=by rfl) (hpl:(backTo pos (starEach es X.env)).any (·.1)=false:=by rfl):DF X (.Call (.Name x p) (e :: es) [] pos) (dCBF f daa):=by
 obtain⟨ta,pa,aa⟩:=ha
 exact⟨_,qb3k hc hg hm hv pa hn hdb he hpl,ad_cbF hr aa⟩
end
end L2
end
section
namespace L2
open PySem PySem.Spec PyProof.Rows
section
variable{K:PySem.W.Frag}{c:Rc}{O:Own}{ρ:Rho}{σ:St}{H H':Hp}{S S':Addr->Prop}
noncomputable def asB:PyData->Option Bool
 | .bool b=>some b
 | _=>none
def dB(de:TDE):TDT:=fun ρ Q=>de ρ fun x ρ1=>need (qa0z ρ1 x) fun d=>need (asB d) fun b=>Q b ρ1
theorem ad_b{t:TE}{de:TDE}(h:AdE K t de):AdT K (fun σ H Q=>t σ H fun x H'=>∃ k,x=.bl k/\Q k H') (dB de):=by
 intro c O ρ σ H Qd Q R h0 k
 refine h c O ρ σ H _ _ R h0 fun x ρ1 O1 v H1 h1 R1 P1 a1=>?_
 obtain⟨d,e1,hn12⟩:=ne (h1)
 obtain⟨b,e2,h2⟩:=ne (hn12)
 have a2:=R1.top a1 e1
 cases d with
 | bool b'=>cases e2;exact⟨b,a2.bool,k _ _ _ _ h2 R1 P1⟩
 | _=>cases e2
noncomputable def tru:PyData->Option Bool
 | .none=>some false
 | .bool b=>some b
 | .int i=>some (i != 0)
 | .str x=>if x.length <= sizeLine then some ((x.length:Int) != 0) else none
 | .list xs=>some (!xs.isEmpty)
 | .tuple xs=>some (!xs.isEmpty)
 | .dict _=>none
def dTru(de:TDE):TDT:=fun ρ Q=>de ρ fun x ρ1=>need (qa0z ρ1 x) fun d=>need (tru d) fun b=>Q b ρ1
theorem qa0d.empty{ds:List PyData}{vs:List V}(h:qa0d K H S ds vs):(!vs.isEmpty) = !ds.isEmpty:=by
 have:=h.length
 cases ds<;>cases vs<;>simp at this ⊢
theorem ad_tru{t:TE}{de:TDE}(h:AdE K t de):AdT K (fun σ H Q=>t σ H fun x H'=>∃ k,TruV K x H' k/\Q k H') (dTru de):=by
 intro c O ρ σ H Qd Q R h0 k
 refine h c O ρ σ H _ _ R h0 fun x ρ1 O1 v H1 h1 R1 P1 a1=>?_
 obtain⟨d,e1,hn11⟩:=ne (h1)
 obtain⟨b,e2,h2⟩:=ne (hn11)
 have a2:=R1.top a1 e1
 refine⟨b,?_,k _ _ _ _ h2 R1 P1⟩
 cases d with
 | none=>cases e2;rw [a2.none];rfl
 | bool b'=>cases e2;rw [a2.bool];rfl
 | int i=>cases e2;rw [a2.int];rfl
 | str x =>
  simp only [tru] at e2
  split at e2
  ·rename_i hc
   cases e2;rw [a2.str];exact⟨hc,rfl⟩
  ·cases e2
 | list xs =>
  cases e2
  obtain⟨a,vs,rfl,h3,h4⟩:=a2.list
  exact .inl ⟨vs,SqL.of h3,h4.empty.symm⟩
 | tuple xs =>
  cases e2
  obtain⟨a,vs,rfl,h3,h4⟩:=a2.tup
  exact .inr (.inl ⟨vs,h3,h4.empty.symm⟩)
 | dict _=>cases e2
def dAnd(t u:TDT):TDT:=fun ρ Q=>t ρ fun b ρ1=>if b=true then u ρ1 Q else Q false ρ1
def dOr(t u:TDT):TDT:=fun ρ Q=>t ρ fun b ρ1=>if b=true then Q true ρ1 else u ρ1 Q
def dNot(t:TDT):TDT:=fun ρ Q=>t ρ fun b ρ1=>Q (!b) ρ1
theorem ad_and{t u:TT}{dt du:TDT}(h:AdT K t dt)(h':AdT K u du):AdT K (tAnd t u) (dAnd dt du):=by
 intro c O ρ σ H Qd Q R h0 k
 refine h c O ρ σ H _ _ R h0 fun b ρ1 O1 H1 h1 R1 P1=>?_
 cases b with
 | true=>rw [if_pos rfl] at h1 ⊢;exact h' c O1 ρ1 σ H1 _ _ R1 h1 fun b ρ2 O2 H2 h2 R2 P2=>k _ _ _ _ h2 R2 (P1.trans P2)
 | false=>rw [if_neg Bool.false_ne_true] at h1 ⊢;exact k _ _ _ _ h1 R1 P1
theorem ad_or{t u:TT}{dt du:TDT}(h:AdT K t dt)(h':AdT K u du):AdT K (tOr t u) (dOr dt du):=by
 intro c O ρ σ H Qd Q R h0 k
 refine h c O ρ σ H _ _ R h0 fun b ρ1 O1 H1 h1 R1 P1=>?_
 cases b with
 | true=>rw [if_pos rfl] at h1 ⊢;exact k _ _ _ _ h1 R1 P1
 | false=>rw [if_neg Bool.false_ne_true] at h1 ⊢;exact h' c O1 ρ1 σ H1 _ _ R1 h1 fun b ρ2 O2 H2 h2 R2 P2=>k _ _ _ _ h2 R2 (P1.trans P2)
theorem ad_not{t:TT}{dt:TDT}(h:AdT K t dt):AdT K (tNot t) (dNot dt):=by
 intro c O ρ σ H Qd Q R h0 k
 exact h c O ρ σ H _ _ R h0 fun b ρ1 O1 H1 h1 R1 P1=>k _ _ _ _ h1 R1 P1
def dIfE(c:TDT)(a b:TDE):TDE:=fun ρ Q=>c ρ fun k ρ1=>if k=true then a ρ1 Q else b ρ1 Q
theorem ad_ifE{t:TT}{ta tb:TE}{dt:TDT}{da db:TDE}(h:AdT K t dt)(ha:AdE K ta da)(hb:AdE K tb db):AdE K (tIf t ta tb) (dIfE dt da db):=by
 intro c O ρ σ H Qd Q R h0 k
 refine h c O ρ σ H _ _ R h0 fun b ρ1 O1 H1 h1 R1 P1=>?_
 cases b with
 | true=>rw [if_pos rfl] at h1 ⊢;exact ha c O1 ρ1 σ H1 _ _ R1 h1 fun x ρ2 O2 v H2 h2 R2 P2 a2=>k _ _ _ _ _ h2 R2 (P1.trans P2) a2
 | false=>rw [if_neg Bool.false_ne_true] at h1 ⊢;exact hb c O1 ρ1 σ H1 _ _ R1 h1 fun x ρ2 O2 v H2 h2 R2 P2 a2=>k _ _ _ _ _ h2 R2 (P1.trans P2) a2
theorem qc0o:AtV K S σ H (.d .none) .non:=(qb0d:AtD K H S .none .non)
theorem qb0e{b:Bool}:AtV K S σ H (.d (.bool b)) (.bl b):=(qa2j b:AtD K H S (.bool b) (.bl b))
def dAndV(a b:TDE):TDE:=fun ρ Q=>a ρ fun x ρ1=>need (qa0z ρ1 x) fun d=>need (asB d) fun k=>if k=true then b ρ1 Q else Q (.d (.bool false)) ρ1
def dOrV(a b:TDE):TDE:=fun ρ Q=>a ρ fun x ρ1=>need (qa0z ρ1 x) fun d=>need (asB d) fun k=>if k=true then Q (.d (.bool true)) ρ1 else b ρ1 Q
theorem qb6m{d:PyData}{v:V}{b:Bool}(h:AtT K H S d v)(e:asB d=some b):v=.bl b:=by
 cases d with
 | bool b'=>cases e;exact h.bool
 | _=>cases e
theorem ad_andV{ta tb:TE}{da db:TDE}(ha:AdE K ta da)(hb:AdE K tb db):AdE K (tAndV ta tb) (dAndV da db):=by
 intro c O ρ σ H Qd Q R h0 k
 refine ha c O ρ σ H _ _ R h0 fun x ρ1 O1 v H1 h1 R1 P1 a1=>?_
 obtain⟨d,e1,hn10⟩:=ne (h1)
 obtain⟨b,e2,h2⟩:=ne (hn10)
 refine⟨b,qb6m (R1.top a1 e1) e2,?_⟩
 cases b with
 | true=>rw [if_pos rfl] at h2 ⊢;exact hb c O1 ρ1 σ H1 _ _ R1 h2 fun x ρ2 O2 v H2 h2 R2 P2 a2=>k _ _ _ _ _ h2 R2 (P1.trans P2) a2
 | false=>rw [if_neg Bool.false_ne_true] at h2 ⊢;exact k _ _ _ _ _ h2 R1 P1 qb0e
theorem ad_orV{ta tb:TE}{da db:TDE}(ha:AdE K ta da)(hb:AdE K tb db):AdE K (tOrV ta tb) (dOrV da db):=by
 intro c O ρ σ H Qd Q R h0 k
 refine ha c O ρ σ H _ _ R h0 fun x ρ1 O1 v H1 h1 R1 P1 a1=>?_
 obtain⟨d,e1,hn9⟩:=ne (h1)
 obtain⟨b,e2,h2⟩:=ne (hn9)
 refine⟨b,qb6m (R1.top a1 e1) e2,?_⟩
 cases b with
 | true=>rw [if_pos rfl] at h2 ⊢;exact k _ _ _ _ _ h2 R1 P1 qb0e
 | false=>rw [if_neg Bool.false_ne_true] at h2 ⊢;exact hb c O1 ρ1 σ H1 _ _ R1 h2 fun x ρ2 O2 v H2 h2 R2 P2 a2=>k _ _ _ _ _ h2 R2 (P1.trans P2) a2
def dNotV(a:TDE):TDE:=fun ρ Q=>a ρ fun x ρ1=>need (qa0z ρ1 x) fun d=>need (asB d) fun k=>Q (.d (.bool (!k))) ρ1
theorem ad_notV{ta:TE}{da:TDE}(ha:AdE K ta da):AdE K (tNotV ta) (dNotV da):=by
 intro c O ρ σ H Qd Q R h0 k
 refine ha c O ρ σ H _ _ R h0 fun x ρ1 O1 v H1 h1 R1 P1 a1=>?_
 obtain⟨d,e1,hn8⟩:=ne (h1)
 obtain⟨b,e2,h2⟩:=ne (hn8)
 exact⟨b,qb6m (R1.top a1 e1) e2,k _ _ _ _ _ h2 R1 P1 qb0e⟩
def qc0p(f f':F2)(da db dc:TDE):TDE:=fun ρ Q=>da ρ fun x ρ1=>db ρ1 fun y ρ2=>need (qa0z ρ2 x) fun dx=>need (qa0z ρ2 y) fun dy=>need (f dx dy) fun z=>need (asB z) fun k =>
 if k=true then dc ρ2 fun w ρ3=>need (qa0z ρ3 y) fun dy=>need (qa0z ρ3 w) fun dw=>need (f' dy dw) fun z'=>Q (.d z') ρ3 else Q (.d (.bool false)) ρ2
theorem qd1s{r r':R2}{f f':F2}{ta tb tc:TE}{da db dc:TDE}(hr:AdR K r f)(hr':AdR K r' f')(ha:AdE K ta da)(hb:AdE K tb db)(hc:AdE K tc dc):AdE K (tChain r r' ta tb tc) (qc0p f f' da db dc):=by
 intro c O ρ σ H Qd Q R h k
 refine ha c O ρ σ H _ _ R h fun x ρ1 O1 v H1 h1 R1 P1 a1=>?_
 refine hb c O1 ρ1 σ H1 _ _ R1 h1 fun y ρ2 O2 u H2 h2 R2 P2 a2=>?_
 obtain⟨dx,e1,hn7⟩:=ne (h2)
 obtain⟨dy,e2,hn17⟩:=ne (hn7)
 obtain⟨z,e3,hn20⟩:=ne (hn17)
 obtain⟨b,e4,h3⟩:=ne (hn20)
 refine hr (live c O2) H2 v u dx dy z _ R2.frsLive (R2.top (a1.pers P2) e1) (R2.top a2 e2) e3 fun w H3 s3 a3=>?_
 have R3:=R2.grow s3
 have P3:Pers K (live c O2) H2 (live c O2) H3:=.same s3
 refine⟨b,qb6m (.inl a3) e4,?_⟩
 cases b with
 | false=>rw [if_neg Bool.false_ne_true] at h3 ⊢;exact k _ _ _ _ _ h3 R3 ((P1.trans P2).trans P3) qb0e
 | true =>
  rw [if_pos rfl] at h3 ⊢
  refine hc c O2 ρ2 σ H3 _ _ R3 h3 fun w ρ4 O4 u4 H4 h4 R4 P4 a4=>?_
  obtain⟨dy',e5,hn26⟩:=ne (h4)
  obtain⟨dw,e6,hn28⟩:=ne (hn26)
  obtain⟨z',e7,h5⟩:=ne (hn28)
  refine hr' (live c O4) H4 u u4 dy' dw z' Q R4.frsLive (R4.top ((a2.pers P3).pers P4) e5) (R4.top a4 e6) e7 fun w5 H5 s5 a5=>?_
  exact k _ _ _ _ _ h5 (R4.grow s5) ((((P1.trans P2).trans P3).trans P4).trans (.same s5)) a5
end
section
variable{X:Cx}{a b c e:Expr}{rest:List Expr}{da db dc de:TDE}{dt du:TDT}{pos:Pos}
theorem qa3v(h:DE X e de)(he:∀ whole,isTrue e X.env whole=(do let v ← whole;standAt e.pos;holding [v] (truthy v)):=by intro _;rfl):DT X e (dB de):=by
 obtain⟨t,p,a⟩:=h
 exact⟨_,pt_val p he,ad_b a⟩
theorem qc0q(h:DE X e de)(he:∀ whole,isTrue e X.env whole=(do let v ← whole;standAt e.pos;holding [v] (truthy v)):=by intro _;rfl):DT X e (dTru de):=by
 obtain⟨t,p,a⟩:=h
 exact⟨_,qd0y p he,ad_tru a⟩
theorem qa0n{op:CmpOp}{r:R2}{f:F2}(ho:OpR X (compareOp op) r)(hr:AdR X.K r f)(ha:DE X a da)(hb:DE X b db)(hm:behindInMarks op b=false):DT X (.Compare a [op] [b] pos) (dB (dOp f da db)):=by
 obtain⟨ta,pa,aa⟩:=ha
 obtain⟨tb,pb,ab⟩:=hb
 exact⟨_,qb4l ho pa pb hm,ad_b (ad_op hr aa ab)⟩
theorem qb5s{op op':CmpOp}{r r':R2}{f f':F2}(ho:OpR X (compareOp op) r)(hr:AdR X.K r f)(ho':OpR X (compareOp op') r')(hr':AdR X.K r' f')(ha:DE X a da)(hb:DE X b db)(hc:DE X c dc)
  (hm:lastMarks [op,op'] [b,c]=false:=by with_unfolding_all rfl):DE X (.Compare a [op,op'] [b,c] pos) (qc0p f f' da db dc):=by
 obtain⟨ta,pa,aa⟩:=ha
 obtain⟨tb,pb,ab⟩:=hb
 obtain⟨tc,pc,ac⟩:=hc
 exact⟨_,qd0x ho ho' pa pb pc hm,qd1s hr hr' aa ab ac⟩
theorem DW.toT(h:DW X e dt):DT X e dt:=by obtain⟨t,p,a⟩:=h;exact⟨t,p.pt,a⟩
theorem qa9r(ha:DT X a dt):DW X (.BoolOp .And [a] pos) dt:=by obtain⟨t,p,a⟩:=ha;exact⟨t,pw_and1 p,a⟩
theorem qa5n(ha:DT X a dt):DW X (.BoolOp .Or [a] pos) dt:=by obtain⟨t,p,a⟩:=ha;exact⟨t,pw_or1 p,a⟩
theorem qb1p(ha:DT X a dt)(hb:DW X (.BoolOp .And (b :: rest) pos) du):DW X (.BoolOp .And (a :: b :: rest) pos) (dAnd dt du):=by obtain⟨_,p,a⟩:=ha;obtain⟨_,p',a'⟩:=hb;exact⟨_,pw_and p p',ad_and a a'⟩
theorem qa7m(ha:DT X a dt)(hb:DW X (.BoolOp .Or (b :: rest) pos) du):DW X (.BoolOp .Or (a :: b :: rest) pos) (dOr dt du):=by obtain⟨_,p,a⟩:=ha;obtain⟨_,p',a'⟩:=hb;exact⟨_,pw_or p p',ad_or a a'⟩
theorem qa5e(ha:DT X a dt):DT X (.UnaryOp .Not a pos) (dNot dt):=by obtain⟨_,p,a⟩:=ha;exact⟨_,pt_not p,ad_not a⟩
theorem qa8e{op}(h:DE X a da):DE X (.BoolOp op [a] pos) da:=by obtain⟨t,p,a⟩:=h;exact⟨t,pe_one p,a⟩
theorem qa8f(ha:DE X a da)(hb:DE X (.BoolOp .And (b :: rest) pos) db):DE X (.BoolOp .And (a :: b :: rest) pos) (dAndV da db):=by obtain⟨_,p,a⟩:=ha;obtain⟨_,p',a'⟩:=hb;exact⟨_,pe_and p p',ad_andV a a'⟩
theorem de_or(ha:DE X a da)(hb:DE X (.BoolOp .Or (b :: rest) pos) db):DE X (.BoolOp .Or (a :: b :: rest) pos) (dOrV da db):=by obtain⟨_,p,a⟩:=ha;obtain⟨_,p',a'⟩:=hb;exact⟨_,pe_or p p',ad_orV a a'⟩
theorem de_not(ha:DE X a da):DE X (.UnaryOp .Not a pos) (dNotV da):=by obtain⟨_,p,a⟩:=ha;exact⟨_,pe_not p,ad_notV a⟩
theorem de_if(hc:DT X c dt)(ha:DE X a da)(hb:DE X b db):DE X (.IfExp c a b pos) (dIfE dt da db):=by obtain⟨_,p,a⟩:=hc;obtain⟨_,p',a'⟩:=ha;obtain⟨_,p2,a2⟩:=hb;exact⟨_,qd0t p p' p2,ad_ifE a a' a2⟩
end
inductive RV where
 | d (x:PyData)
 | new (xs:List PyData)
structure DEnds where
 nx:Rho->Prop
 rt:RV->Rho->Prop
 bk:Rho->Prop:=fun _=>False
 ct:Rho->Prop:=fun _=>False
abbrev TDS:=DEnds->Rho->Prop
noncomputable def RetOk(K:PySem.W.Frag)(c:Rc)(O:Own)(ρ:Rho)(σ:St)(H:Hp):RV->V->Prop
 | .d x,v=>Rel K c O ρ σ H/\AtD K H (live c O) x v
 | .new xs,v=>∃ p vs,v=.ref p/\Rel K (c.add p) O ρ σ H/\qb4p c O p/\H p=some (.lst vs)/\qa0d K H (live (c.add p) O) xs vs
structure EndsOk(K:PySem.W.Frag)(c:Rc)(S0:Addr->Prop)(H0:Hp)(D:Ends)(Dd:DEnds):Prop where
 nx:∀ O ρ σ H,Rel K c O ρ σ H->Pers K S0 H0 (live c O) H->Dd.nx ρ->D.nx σ H
 rt:∀ r O ρ σ H v,RetOk K c O ρ σ H r v->Dd.rt r ρ->D.rt v H
 bk:∀ O ρ σ H,Rel K c O ρ σ H->Pers K S0 H0 (live c O) H->Dd.bk ρ->D.bk σ H
 ct:∀ O ρ σ H,Rel K c O ρ σ H->Pers K S0 H0 (live c O) H->Dd.ct ρ->D.ct σ H
 mb:∀ p,c.M p->c.B p
 oa:∀ p,c.H0 p=none->c.A p
theorem EndsOk.later{K:PySem.W.Frag}{c:Rc}{S0 S1:Addr->Prop}{H0 H1:Hp}{D:Ends}{Dd:DEnds}(E:EndsOk K c S0 H0 D Dd)(P:Pers K S0 H0 S1 H1):EndsOk K c S1 H1 D Dd:=
 ⟨fun O ρ σ H R q=>E.nx O ρ σ H R (P.trans q),E.rt,fun O ρ σ H R q=>E.bk O ρ σ H R (P.trans q),fun O ρ σ H R q=>E.ct O ρ σ H R (P.trans q),E.mb,E.oa⟩
def AdS(K:PySem.W.Frag)(t:TS)(dt:TDS):Prop:=∀ (c:Rc) (O:Own) (ρ:Rho) (σ:St) (H:Hp) (D:Ends) (Dd:DEnds),Rel K c O ρ σ H->EndsOk K c (live c O) H D Dd->dt Dd ρ->t D σ H
def DS(X:Cx)(st:Stmt)(dt:TDS):Prop:=∃ t,PS X st t/\AdS X.K t dt
def DSs(X:Cx)(st:List Stmt)(dt:TDS):Prop:=∃ t,PSs X st t/\AdS X.K t dt
section
variable{K:PySem.W.Frag}{c:Rc}{O:Own}{ρ:Rho}{σ:St}{H H':Hp}{S S':Addr->Prop}
def dNext:TDS:=fun D ρ=>D.nx ρ
def dSeq(t u:TDS):TDS:=fun D ρ=>t { D with nx:=u D } ρ
theorem ad_next:AdS K tNext dNext:=fun c O ρ σ H D Dd R E h=>E.nx O ρ σ H R .refl h
theorem ad_seq{t u:TS}{dt du:TDS}(h:AdS K t dt)(h':AdS K u du):AdS K (tSeq t u) (dSeq dt du):=fun c O ρ σ H D Dd R E q =>
 h c O ρ σ H { D with nx:=u D } { Dd with nx:=du Dd } R ⟨fun O1 ρ1 σ1 H1 R1 P1 q1=>h' c O1 ρ1 σ1 H1 D Dd R1 (E.later P1) q1,E.rt,E.bk,E.ct,E.mb,E.oa⟩ q
def dDrop(de:TDE):TDS:=fun D ρ=>de ρ fun _ ρ1=>D.nx ρ1
theorem ad_drop{t:TE}{de:TDE}(h:AdE K t de):AdS K (tDrop t) (dDrop de):=fun c O ρ σ H D Dd R E q =>
 h c O ρ σ H _ _ R q fun x ρ1 O1 v H1 h1 R1 P1 a1=>E.nx O1 ρ1 σ H1 R1 P1 h1
def dRet(de:TDE):TDS:=fun D ρ=>de ρ fun x ρ1=>fz ρ1 x fun y ρ2=>D.rt (.d y) ρ2
theorem ad_ret{t:TE}{de:TDE}(h:AdE K t de):AdS K (tRet t) (dRet de):=fun c O ρ σ H D Dd R E q =>
 h c O ρ σ H _ _ R q fun x ρ1 O1 v H1 h1 R1 P1 a1=>by
  obtain⟨y,ρ2,O2,h2,R2,P2,a2⟩:=R1.fz a1 h1
  exact E.rt (.d y) O2 ρ2 σ H1 v ⟨R2,a2⟩ h2
def dRetF(df:TDF):TDS:=fun D ρ=>df ρ fun xs ρ1=>D.rt (.new xs) ρ1
theorem ad_retF{t:TE}{df:TDF}(h:AdF K t df):AdS K (tRet t) (dRetF df):=fun c O ρ σ H D Dd R E q =>
 h c O ρ σ H _ _ R q fun xs ρ1 O1 p vs H1 h1 R1 P1 f1 hp a1=>E.rt (.new xs) O1 ρ1 σ H1 _ ⟨p,vs,rfl,R1,f1,hp,a1⟩ h1
def dIf(c:TDT)(t u:TDS):TDS:=fun D ρ=>c ρ fun b ρ1=>if b=true then t D ρ1 else u D ρ1
theorem ad_if{tc:TT}{t u:TS}{dc:TDT}{dt du:TDS}(hc:AdT K tc dc)(h:AdS K t dt)(h':AdS K u du):AdS K (tIfS tc t u) (dIf dc dt du):=fun c O ρ σ H D Dd R E q =>
 hc c O ρ σ H _ _ R q fun b ρ1 O1 H1 h1 R1 P1=>by
  cases b with
  | true=>rw [if_pos rfl] at h1 ⊢;exact h c O1 ρ1 σ H1 D Dd R1 (E.later P1) h1
  | false=>rw [if_neg Bool.false_ne_true] at h1 ⊢;exact h' c O1 ρ1 σ H1 D Dd R1 (E.later P1) h1
def dSet(i:Nat)(de:TDE):TDS:=fun D ρ=>de ρ fun x ρ1=>fz ρ1 x fun y ρ2=>i < ρ2.length/\D.nx (ρ2.set i (some (.d y)))
theorem ad_set{i:Nat}{t:TE}{de:TDE}(h:AdE K t de):AdS K (tAsg t (qa8q i)) (dSet i de):=fun c O ρ σ H D Dd R E q =>
 h c O ρ σ H _ _ R q fun x ρ1 O1 v H1 h1 R1 P1 a1=>by
  obtain⟨y,ρ2,O2,⟨hi,h2⟩,R2,P2,a2⟩:=R1.fz a1 h1
  obtain⟨R3,P3⟩:=R2.setD hi a2
  exact E.nx _ _ _ H1 R3 ((P1.trans P2).trans P3) h2
def dSetF(i:Nat)(df:TDF):TDS:=fun D ρ=>df ρ fun xs ρ1=>i < ρ1.length/\D.nx (ρ1.set i (some (.own xs)))
theorem qc5h{i:Nat}{t:TE}{df:TDF}(h:AdF K t df):AdS K (tAsg t (qa8q i)) (dSetF i df):=fun c O ρ σ H D Dd R E q =>
 h c O ρ σ H _ _ R q fun xs ρ1 O1 p vs H1 h1 R1 P1 f1 hp a1=>by
  obtain⟨hi,h2⟩:=h1
  obtain⟨R3,P3⟩:=R1.setOwn hi f1.1 f1.2.1 f1.2.2.1 f1.2.2.2 (E.oa _ f1.1) hp a1
  exact E.nx _ _ _ H1 R3 (P1.trans P3) h2
abbrev TDG:=PyData->Rho->(Rho->Prop)->Prop
abbrev TDGs:=List PyData->Rho->(Rho->Prop)->Prop
def AdG(K:PySem.W.Frag)(g:TG)(dg:TDG):Prop:=∀ (c:Rc) (O:Own) (ρ:Rho) (σ:St) (H:Hp) (x:PyData) (v:V) (Qd:Rho->Prop) (Q:St->Hp->Prop),Rel K c O ρ σ H->AtD K H (live c O) x v->dg x ρ Qd ->
 (∀ O' ρ' σ' ,Rel K c O' ρ' σ' H->Pers K (live c O) H (live c O') H->Qd ρ'->Q σ' H)->g v σ H Q
def AdGs(K:PySem.W.Frag)(g:TGs)(dg:TDGs):Prop:=∀ (c:Rc) (O:Own) (ρ:Rho) (σ:St) (H:Hp) (x:List PyData) (v:List V) (Qd:Rho->Prop) (Q:St->Hp->Prop),Rel K c O ρ σ H->qa0d K H (live c O) x v->dg x ρ Qd ->
 (∀ O' ρ' σ' ,Rel K c O' ρ' σ' H->Pers K (live c O) H (live c O') H->Qd ρ'->Q σ' H)->g v σ H Q
def qc0r(i:Nat):TDG:=fun x ρ Q=>i < ρ.length/\Q (ρ.set i (some (.d x)))
theorem qb7o{i:Nat}:AdG K (qa8q i) (qc0r i):=fun c O ρ σ H x v Qd Q R a h k=>by
 obtain⟨R1,P1⟩:=R.setD h.1 a
 exact k _ _ _ R1 P1 h.2
noncomputable def dgNil:TDGs:=fun xs ρ Q=>xs=[]/\Q ρ
def qc0s(t:TDG)(u:TDGs):TDGs:=fun xs ρ Q=>match xs with
 | x :: r=>t x ρ fun ρ1=>u r ρ1 Q
 | []=>False
theorem ag_nil:AdGs K gNil dgNil:=fun c O ρ σ H x v Qd Q R a h k=>by
 obtain⟨rfl,h⟩:=h
 exact⟨a.unnil,k _ _ _ R .refl h⟩
theorem ag_cons{t:TG}{u:TGs}{dt:TDG}{du:TDGs}(h:AdG K t dt)(h':AdGs K u du):AdGs K (gCons t u) (qc0s dt du):=fun c O ρ σ H x v Qd Q R a q k=>by
 cases x with
 | nil=>exact(show False from q).elim
 | cons x r =>
  obtain⟨w,ws,rfl,a1,a2⟩:=a.uncons
  exact⟨w,ws,rfl,h c O ρ σ H x w _ _ R a1 q fun O1 ρ1 σ1 R1 P1 q1=>h' c O1 ρ1 σ1 H r ws _ _ R1 (P1.all a2) q1 fun O2 ρ2 σ2 R2 P2 q2=>k _ _ _ R2 (P1.trans P2) q2⟩
def dgTup(n:Nat)(t:TDGs):TDG:=fun x ρ Q=>match x with
 | .tuple xs=>xs.length=n/\t xs ρ Q
 | _=>False
theorem ag_tup{n:Nat}{t:TGs}{dt:TDGs}(h:AdGs K t dt):AdG K (gTup K n t) (dgTup n dt):=fun c O ρ σ H x v Qd Q R a q k=>by
 cases x with
 | tuple xs =>
  obtain⟨hn,q⟩:=q
  obtain⟨b,ws,rfl,h1,h2⟩:=qa3u a
  exact⟨b,ws,rfl,h1,by rw [h2.length];exact hn,h c O ρ σ H xs ws _ _ R h2 q k⟩
 | _=>exact(show False from q).elim
def dAsg(de:TDE)(g:TDG):TDS:=fun D ρ=>de ρ fun x ρ1=>fz ρ1 x fun y ρ2=>g y ρ2 D.nx
theorem ad_asg{t:TE}{g:TG}{de:TDE}{dg:TDG}(h:AdE K t de)(hg:AdG K g dg):AdS K (tAsg t g) (dAsg de dg):=fun c O ρ σ H D Dd R E q =>
 h c O ρ σ H _ _ R q fun x ρ1 O1 v H1 h1 R1 P1 a1=>by
  obtain⟨y,ρ2,O2,h2,R2,P2,a2⟩:=R1.fz a1 h1
  exact hg c O2 ρ2 σ H1 y v _ _ R2 a2 h2 fun O3 ρ3 σ3 R3 P3 h3=>E.nx _ _ _ _ R3 ((P1.trans P2).trans P3) h3
inductive OK where | o | b
noncomputable def ownB(ρ:Rho)(i:Nat):Option (OK × List PyData):=match ρ[i]?.join with
 | some (.own xs)=>some (.o,xs)
 | some (.bor xs)=>some (.b,xs)
 | _=>none
noncomputable def okL:OK->List PyData->L
 | .o,xs=>.own xs
 | .b,xs=>.bor xs
theorem qb1q{i:Nat}{o:OK}{xs:List PyData}(R:Rel K c O ρ σ H)(h:ownB ρ i=some (o,xs)):ρ[i]? = some (some (okL o xs))/\∃ p vs,O i=some p/\σ[i]? = some (some (.ref p))/\H p=some (.lst vs)/\qa0d K H (live c O) xs vs:=by
 unfold ownB at h
 split at h
 ·rename_i ys e
  cases h
  have e':=qa2n e
  obtain⟨p,vs,h1,_,h3,h4,h5⟩:=R.own i _ e'
  exact⟨e',p,vs,h1,h3,h4,h5⟩
 ·rename_i ys e
  cases h
  have e':=qa2n e
  obtain⟨p,vs,h1,h3,h4,h5⟩:=R.bor i _ e'
  exact⟨e',p,vs,h1,h3,h4,h5⟩
 ·cases h
theorem Rel.writeB{i:Nat}{o:OK}{p:Addr}{xs ys:List PyData}{vs vs':List V}(R:Rel K c O ρ σ H)(hO:O i=some p)(hH:H p=some (.lst vs))(e:ρ[i]? = some (some (okL o xs)))(h:qa0d K H (live c O) ys vs') :
  Rel K c O (ρ.set i (some (okL o ys))) σ (upd H p (.lst vs'))/\Pers K (live c O) H (live c O) (upd H p (.lst vs')):=by
 cases o with
 | o=>exact R.write hO hH (.inl e) (.inl ⟨ys,e,rfl,h⟩)
 | b=>exact R.write hO hH (.inr (.inl e)) (.inr (.inl ⟨ys,e,rfl,h⟩))
def qb7p(i:Nat)(de:TDE):TDE:=fun ρ Q=>need (ownB ρ i) fun _=>de ρ fun x ρ1=>fz ρ1 x fun y ρ2=>need (ownB ρ2 i) fun o=>o.2.length <= 1000000/\Q (.d .none) (ρ2.set i (some (okL o.1 (o.2 ++ [y]))))
theorem qc9n{i:Nat}{t:TE}{de:TDE}(h:AdE K t de):AdE K (tBM K "list" qc4y (tVar i) (qa8u t tNil)) (qb7p i de):=by
 intro c O ρ σ H Qd Q R q k
 obtain⟨hz6,e,q⟩:=ne (q)
 obtain⟨o,xs⟩:=hz6
 obtain⟨e0,p,vs,hO,hσ,hH,hA⟩:=qb1q R e
 refine⟨.ref p,hσ,.inl ⟨rfl,vs,SqL.of hH⟩,?_⟩
 refine h c O ρ σ H _ _ R q fun x ρ1 O1 v H1 h1 R1 P1 a1=>?_
 obtain⟨y,ρ2,O2,hz19,R2,P2,a2⟩:=R1.fz a1 h1
 obtain⟨hz23,e2,hn25⟩:=ne (hz19)
 obtain⟨hz,h2⟩:=hn25
 obtain⟨o2,xs2⟩:=hz23
 obtain⟨e3,p2,vs2,hO2,hσ2,hH2,hA2⟩:=qb1q R2 e2
 rw [hσ] at hσ2;cases hσ2
 refine⟨p,vs2,v,rfl,rfl,hH2,by rw [hA2.length];exact mil hz,?_⟩
 obtain⟨R3,P3⟩:=R2.writeB hO2 hH2 e3 (hA2.snoc a2)
 exact k _ _ _ _ _ h2 R3 ((P1.trans P2).trans P3) qc0o
def dPop(i:Nat):TDE:=fun ρ Q=>need (ownB ρ i) fun o=>need o.2.getLast? fun y=>Q (.d y) (ρ.set i (some (okL o.1 o.2.dropLast)))
theorem qa0d.dropLast{ds:List PyData}{vs:List V}(h:qa0d K H S ds vs):qa0d K H S ds.dropLast vs.dropLast:=by
 rw [List.dropLast_eq_take,List.dropLast_eq_take,h.length];exact h.take _
theorem ad_pop{i:Nat}:AdE K (tBM0 K "list" rPop (tVar i)) (dPop i):=by
 intro c O ρ σ H Qd Q R q k
 obtain⟨hz5,e,hn16⟩:=ne (q)
 obtain⟨y,ey,q⟩:=ne (hn16)
 obtain⟨o,xs⟩:=hz5
 obtain⟨e0,p,vs,hO,hσ,hH,hA⟩:=qb1q R e
 have ey':xs[xs.length - 1]? = some y:=by rw [← List.getLast?_eq_getElem?];exact ey
 obtain⟨v,ev,av⟩:=hA.get ey'
 refine⟨.ref p,hσ,.inl ⟨rfl,vs,SqL.of hH⟩,p,vs,v,rfl,rfl,hH,by rw [hA.length];exact ev,?_⟩
 obtain⟨R3,P3⟩:=R.writeB hO hH e0 hA.dropLast
 exact k _ _ _ _ _ q R3 P3 (P3 _ _ av:AtD _ _ _ y v)
def dSetIx(i:Nat)(di de:TDE):TDS:=fun D ρ=>de ρ fun x ρ1=>fz ρ1 x fun y ρ2=>need (ownB ρ2 i) fun _=>di ρ2 fun z ρ3=>need (qa0z ρ3 z) fun dz=>need (asI dz) fun n=>need (ownB ρ3 i) fun o=>need (ixN o.2.length n) fun j=>D.nx (ρ3.set i (some (okL o.1 (o.2.set j y))))
 where asI:PyData->Option Int
  | .int i=>some i
  | _=>none
def qc0t(c:TDT)(b:TDS):TDS:=fun D ρ=>∃ W:Nat->Rho->Prop,(∃ m,W m ρ)/\∀ m ρ,W m ρ->c ρ fun k ρ1=>if k=true then b { D with nx:=fun ρ2=>∃ m',m' < m/\W m' ρ2,ct:=fun ρ2=>∃ m',m' < m/\W m' ρ2,bk:=D.nx } ρ1 else D.nx ρ1
theorem qd1t{tc:TT}{tb:TS}{dc:TDT}{db:TDS}(hc:AdT K tc dc)(hb:AdS K tb db):AdS K (tWhile tc tb) (qc0t dc db):=fun c O ρ σ H D Dd R E q=>by
 obtain⟨W,⟨m0,w0⟩,turn⟩:=q
 refine⟨fun m σ' H'=>∃ O' ρ',Rel K c O' ρ' σ' H'/\Pers K (live c O) H (live c O') H'/\W m ρ',⟨m0,O,ρ,R,.refl,w0⟩,?_⟩
 rintro m σ1 H1 ⟨O1,ρ1,R1,P1,w1⟩
 refine hc c O1 ρ1 σ1 H1 _ _ R1 (turn m ρ1 w1) fun b ρ2 O2 H2 h2 R2 P2=>?_
 have P:=P1.trans P2
 cases b with
 | true =>
  rw [if_pos rfl] at h2 ⊢
  refine⟨fun σ' H'=>∃ O' ρ' m',Rel K c O' ρ' σ' H'/\Pers K (live c O) H (live c O') H'/\m' < m/\W m' ρ',fun σ' H' hq8=>by obtain⟨O',ρ',m',R',P',hm,w'⟩:=hq8;exact⟨m',hm,O',ρ',R',P',w'⟩,?_⟩
  exact hb c O2 ρ2 σ1 H2 _ { Dd with nx:=fun ρ2=>∃ m',m' < m/\W m' ρ2,ct:=fun ρ2=>∃ m',m' < m/\W m' ρ2,bk:=Dd.nx } R2 ⟨fun O3 ρ3 σ3 H3 R3 P3 hq8=>by obtain⟨m',hm,w3⟩:=hq8;exact⟨O3,ρ3,m',R3,P.trans P3,hm,w3⟩,E.rt,fun O3 ρ3 σ3 H3 R3 P3=>E.nx _ _ _ _ R3 (P.trans P3),fun O3 ρ3 σ3 H3 R3 P3 hq8=>by obtain⟨m',hm,w3⟩:=hq8;exact⟨O3,ρ3,m',R3,P.trans P3,hm,w3⟩,E.mb,E.oa⟩ h2
 | false =>
  rw [if_neg Bool.false_ne_true] at h2 ⊢
  exact E.nx _ _ _ _ R2 P h2
abbrev TDI:=Rho->(List PyData->Rho->Prop)->Prop
def qb1r(K:PySem.W.Frag)(S:Addr->Prop)(H:Hp)(J:It)(xs:List PyData):Prop:=∀ (S':Addr->Prop) (H':Hp),Pers K S H S' H' ->
 (∀ (i:Nat) (x:PyData),xs[i]? = some x->J.go i H'/\∀ v H'',J.yld i H' v H''->Same H' H''/\AtD K H'' S' x v)/\J.stop xs.length H'
def AdI(K:PySem.W.Frag)(t:TI)(di:TDI):Prop:=∀ (c:Rc) (O:Own) (ρ:Rho) (σ:St) (H:Hp) (Qd:List PyData->Rho->Prop) (Q:It->Hp->Prop),Rel K c O ρ σ H->di ρ Qd ->
 (∀ xs ρ' O' J H',Qd xs ρ'->Rel K c O' ρ' σ H'->Pers K (live c O) H (live c O') H'->qb1r K (live c O') H' J xs->Q J H')->t σ H Q
def DI(X:Cx)(tg iter:Expr)(di:TDI):Prop:=∃ t,PI X tg iter t/\AdI X.K t di
theorem qc6x{a:Addr}{vs:List V}{xs:List PyData}(h1:SqT K H a vs)(h2:qa0d K H S xs vs):qb1r K S H (Itt K a) xs:=fun S' H' P=>by
 obtain⟨b,ws,e,h3,h4⟩:=qa3u (P _ _ (qa4w h1 h2))
 cases e
 refine⟨fun i x e=>?_,⟨ws,h3,by rw [h4.length];exact Nat.le_refl _⟩⟩
 obtain⟨w,e1,e2⟩:=h4.get e
 refine⟨⟨ws,w,h3,e1⟩,fun v H'' y=>?_⟩
 obtain⟨rfl,y⟩:=y
 have e3:=y ws h3
 rw [e1] at e3;cases e3
 exact⟨Same.refl _,e2⟩
theorem qc6y{a:Addr}{vs:List V}{xs:List PyData}(hS:S a)(h1:H a=some (.lst vs))(h2:qa0d K H S xs vs):qb1r K S H (Itl K a) xs:=fun S' H' P=>by
 obtain⟨b,ws,e,_,h3,h4⟩:=qa5c (P _ _ (qa3q hS h1 h2))
 cases e
 refine⟨fun i x e=>?_,⟨ws,SqL.of h3,by rw [h4.length];exact Nat.le_refl _⟩⟩
 obtain⟨w,e1,e2⟩:=h4.get e
 refine⟨⟨ws,w,SqL.of h3,e1⟩,fun v H'' y=>?_⟩
 obtain⟨rfl,y⟩:=y
 have e3:=y ws (SqL.of h3)
 rw [e1] at e3;cases e3
 exact⟨Same.refl _,e2⟩
def diDat(de:TDE):TDI:=fun ρ Q=>de ρ fun x ρ1=>fz ρ1 x fun y ρ2=>need (seqD y) fun xs=>Q xs ρ2
theorem ai_dat{t:TE}{de:TDE}(h:AdE K t de):AdI K (iDat K t) (diDat de):=fun c O ρ σ H Qd Q R q k =>
 h c O ρ σ H _ _ R q fun x ρ1 O1 v H1 h1 R1 P1 a1=>by
  obtain⟨y,ρ2,O2,hz3,R2,P2,a2⟩:=R1.fz a1 h1
  obtain⟨xs,e,h2⟩:=ne (hz3)
  cases y with
  | list ys =>
   cases e
   obtain⟨a,vs,rfl,hS,h3,h4⟩:=qa5c a2
   exact .inr ⟨a,rfl,⟨vs,SqL.of h3⟩,k _ _ _ _ _ h2 R2 (P1.trans P2) (qc6y hS h3 h4)⟩
  | tuple ys =>
   cases e
   obtain⟨a,vs,rfl,h3,h4⟩:=qa3u a2
   exact .inl ⟨a,rfl,⟨vs,h3⟩,k _ _ _ _ _ h2 R2 (P1.trans P2) (qc6x h3 h4)⟩
  | _=>cases e
noncomputable def rngD(lo:Int)(n:Nat):List PyData:=(List.range n).map fun i=>.int (lo + (i:Nat))
theorem qc6z{lo:Int}{n:Nat}:qb1r K S H (Itr lo n) (rngD lo n):=fun S' H' P=>by
 have hl:(rngD lo n).length=n:=by simp [rngD]
 refine⟨fun i x e=>?_,by rw [hl];exact Nat.le_refl _⟩
 have hi:i < n:=by rw [← hl];exact(List.getElem?_eq_some_iff.mp e).1
 have ex:x=.int (lo + (i:Nat)):=by
  simp only [rngD,List.getElem?_map,List.getElem?_range hi,Option.map_some] at e
  exact(Option.some.inj e).symm
 subst ex
 refine⟨hi,fun v H'' y=>?_⟩
 obtain⟨rfl,rfl⟩:=y
 exact⟨Same.refl _,qa2y _⟩
noncomputable def asI:PyData->Option Int
 | .int i=>some i
 | _=>none
theorem asI_at{d:PyData}{v:V}{i:Int}(h:AtT K H S d v)(e:asI d=some i):v=.int i:=by
 cases d with
 | int i'=>cases e;exact h.int
 | _=>cases e
def sm62(i:Int):Prop:=-(2 ^ 62) <= i/\i < 2 ^ 62
def qc0u(de:TDE):TDI:=fun ρ Q=>de ρ fun x ρ1=>need (qa0z ρ1 x) fun d=>need (asI d) fun j=>sm62 j/\Q (rngD 0 j.toNat) ρ1
theorem ai_rng1{t:TE}{de:TDE}(h:AdE K t de):AdI K (iRng1 (qa8u t tNil)) (qc0u de):=fun c O ρ σ H Qd Q R q k =>
 h c O ρ σ H _ _ R q fun x ρ1 O1 v H1 h1 R1 P1 a1=>by
  obtain⟨d,e1,hn2⟩:=ne (h1)
  obtain⟨j,e2,hn14⟩:=ne (hn2)
  obtain⟨hj,h2⟩:=hn14
  have ev:=asI_at (R1.top a1 e1) e2
  exact⟨j,by rw [ev],hj.1,hj.2,k _ _ _ _ _ h2 R1 P1 qc6z⟩
def qa5s(g:TDG)(b:TDS)(D:DEnds):List PyData->Rho->Prop
 | [],ρ=>D.nx ρ
 | x :: r,ρ=>g x ρ fun ρ1=>b { D with nx:=qa5s g b D r,ct:=qa5s g b D r,bk:=D.nx } ρ1
def dFor(di:TDI)(g:TDG)(b:TDS):TDS:=fun D ρ=>di ρ fun xs ρ1=>qa5s g b D xs ρ1
theorem ad_for{ti:TI}{tg:TG}{tb:TS}{di:TDI}{dg:TDG}{db:TDS}(hi:AdI K ti di)(hg:AdG K tg dg)(hb:AdS K tb db):AdS K (tFor ti tg tb) (dFor di dg db):=fun c O ρ σ H D Dd R E q =>
 hi c O ρ σ H _ _ R q fun xs ρ1 O1 J H1 h1 R1 P1 I1=>by
  refine⟨fun i m σ' H'=>m=xs.length - i/\i <= xs.length/\∃ O' ρ',Rel K c O' ρ' σ' H'/\Pers K (live c O1) H1 (live c O') H'/\qa5s dg db Dd (xs.drop i) ρ',⟨xs.length,by simp,Nat.zero_le _,O1,ρ1,R1,.refl,by rw [List.drop_zero];exact h1⟩,?_⟩
  rintro i m σ2 H2 ⟨rfl,hle,O2,ρ2,R2,P2,h2⟩
  obtain⟨it,stop⟩:=I1 _ _ P2
  by_cases hlt:i < xs.length
  ·rw [List.drop_eq_getElem_cons hlt] at h2
   obtain⟨go,yld⟩:=it i xs[i] (List.getElem?_eq_getElem hlt)
   have h2':dg xs[i] ρ2 fun ρ1=>db { Dd with nx:=qa5s dg db Dd (xs.drop (i + 1)),ct:=qa5s dg db Dd (xs.drop (i + 1)),bk:=Dd.nx } ρ1:=h2
   refine .inr ⟨go,fun σ' H'=>∃ O' ρ',Rel K c O' ρ' σ' H'/\Pers K (live c O1) H1 (live c O') H'/\qa5s dg db Dd (xs.drop (i + 1)) ρ',fun σ' H' hq8=>by obtain⟨O',ρ',R',P',q'⟩:=hq8;exact⟨xs.length - (i + 1),by omega,rfl,hlt,O',ρ',R',P',q'⟩,fun v H3 y=>?_⟩
   obtain⟨s3,a3⟩:=yld v H3 y
   refine hg c O2 ρ2 σ2 H3 xs[i] v _ _ (R2.grow s3) a3 h2' fun O4 ρ4 σ4 R4 P4 h4=>?_
   have P5:Pers K (live c O1) H1 (live c O4) H3:=(P2.trans (.same s3)).trans P4
   exact hb c O4 ρ4 σ4 H3 _ { Dd with nx:=qa5s dg db Dd (xs.drop (i + 1)),ct:=qa5s dg db Dd (xs.drop (i + 1)),bk:=Dd.nx } R4 ⟨fun O6 ρ6 σ6 H6 R6 P6 q6=>⟨O6,ρ6,R6,P5.trans P6,q6⟩,E.rt,fun O6 ρ6 σ6 H6 R6 P6=>E.nx _ _ _ _ R6 ((P1.trans P5).trans P6),fun O6 ρ6 σ6 H6 R6 P6 q6=>⟨O6,ρ6,R6,P5.trans P6,q6⟩,E.mb,E.oa⟩ h4
  ·have e:i=xs.length:=by omega
   subst e
   rw [List.drop_eq_nil_of_le (Nat.le_refl _)] at h2
   exact .inl ⟨stop,E.nx _ _ _ _ R2 (P1.trans P2) h2⟩
end
end L2
end
section
namespace L2
open PySem PySem.Spec PyProof.Rows
noncomputable def qa6i:L->L->Option L
 | .own _,.bor xs=>some (.own xs)
 | .bor _,.bor xs=>some (.bor xs)
 | .tape _,.tape k=>some (.tape k)
 | _,_=>none
noncomputable def lend:L->L
 | .own xs=>.bor xs
 | l=>l
noncomputable def isOw:L->Bool
 | .own _=>true
 | .bor _=>true
 | .tape _=>true
 | _=>false
abbrev Lent:=Nat->Option Nat
section
variable{K:PySem.W.Frag}{c:Rc}{O:Own}{ρ:Rho}{σ:St}{H H':Hp}{S S':Addr->Prop}
theorem Rel.ow{i:Nat}{l:L}(R:Rel K c O ρ σ H)(h:ρ[i]? = some (some l))(ho:isOw l=true):∃ p,O i=some p/\σ[i]? = some (some (.ref p)):=by
 cases l with
 | own xs=>obtain⟨p,vs,h1,_,h3,_⟩:=R.own i xs h;exact⟨p,h1,h3⟩
 | bor xs=>obtain⟨p,vs,h1,h3,_⟩:=R.bor i xs h;exact⟨p,h1,h3⟩
 | tape k=>obtain⟨p,h1,h3,_⟩:=R.tap i k h;exact⟨p,h1,h3⟩
 | _=>cases ho
noncomputable def Holds(K:PySem.W.Frag)(c:Rc)(S:Addr->Prop)(H:Hp)(p:Addr):L->Prop
 | .own xs=>∃ vs,H p=some (.lst vs)/\qa0d K H S xs vs
 | .bor xs=>∃ vs,H p=some (.lst vs)/\qa0d K H S xs vs
 | .tape k=>H p=some (.lst [.ref c.sa,.int k])
 | _=>False
theorem Rel.holds{i:Nat}{l:L}(R:Rel K c O ρ σ H)(h:ρ[i]? = some (some l))(ho:isOw l=true):∃ p,O i=some p/\σ[i]? = some (some (.ref p))/\Holds K c (live c O) H p l/\(∀ xs,l=.own xs->qb2g c p):=by
 cases l with
 | own xs=>obtain⟨p,vs,h1,h2,h3,h4,h5⟩:=R.own i xs h;exact⟨p,h1,h3,⟨vs,h4,h5⟩,fun _ _=>h2⟩
 | bor xs=>obtain⟨p,vs,h1,h3,h4,h5⟩:=R.bor i xs h;exact⟨p,h1,h3,⟨vs,h4,h5⟩,fun _ z=>nomatch z⟩
 | tape k=>obtain⟨p,h1,h3,h4⟩:=R.tap i k h;exact⟨p,h1,h3,h4,fun _ z=>nomatch z⟩
 | _=>cases ho
mutual
theorem AtD.inH(hs:∀ a,S a->H a ≠ none->S' a):∀ (d:PyData) (v:V),AtD K H S d v->AtD K H S' d v
 | .none,_,h=>by unfold AtD at h ⊢;exact h
 | .bool _,_,h=>by unfold AtD at h ⊢;exact h
 | .int _,_,h=>by unfold AtD at h ⊢;exact h
 | .str _,_,h=>by unfold AtD at h ⊢;exact h
 | .list ds,v,h=>by
  obtain⟨a,xs,e1,s,q,r⟩:=qa5c h
  subst e1
  exact qa3q (hs a s (by rw [q];exact fun z=>nomatch z)) q (qa0d.inH hs ds xs r)
 | .tuple ds,v,h=>by
  obtain⟨a,xs,e1,q,r⟩:=qa3u h
  subst e1
  exact qa4w q (qa0d.inH hs ds xs r)
 | .dict kvs,v,h=>by
  obtain⟨a,ν,e1,s,q,e2⟩:=qb1l h
  subst e1
  exact qa8b (hs a s (by rw [q];exact fun z=>nomatch z)) q (qa0l.inH hs kvs ν e2)
theorem qa0d.inH(hs:∀ a,S a->H a ≠ none->S' a):∀ (ds:List PyData) (vs:List V),qa0d K H S ds vs->qa0d K H S' ds vs
 | [],_,h=>by rw [h.unnil];exact .nil
 | d :: ds,vs,h=>by
  obtain⟨v,r,rfl,h1,h2⟩:=h.uncons
  exact .cons (AtD.inH hs d v h1) (qa0d.inH hs ds r h2)
theorem qa0l.inH(hs:∀ a,S a->H a ≠ none->S' a):∀ (kvs:List (PyData × PyData)) (κ:List (Key × V)),qa0l K H S kvs κ->qa0l K H S' kvs κ
 | [],_,h=>by rw [h.unnil];exact .nil
 | (x,d) :: r,κ,h=>by
  obtain⟨k,v,t,rfl,rfl,h1,h2⟩:=h.uncons
  exact .cons (AtD.inH hs d v h1) (qa0l.inH hs r t h2)
end
noncomputable def qa1p(O:Own)(ρ:Rho)(f:Lent):Own:=fun j=>(f j).bind fun i=>match ρ[i]?.join with
 | some l=>if isOw l then O i else none
 | none=>none
noncomputable def Rc.in(c:Rc)(O Oc:Own)(P:Addr->Prop)(b:Bool)(H:Hp):Rc:={ A:=fun p=>(∃ j,Oc j=some p) ∨ (b=true/\H p=none),H0:=H,S:=live c O,P:=P,M:=fun p=>∃ j,Oc j=some p,B:=fun p=>∃ j,Oc j=some p,lent:=Oc,sa:=c.sa,ns:=c.ns }
theorem qa2t{f:Lent}{j:Nat}{p:Addr}(h:qa1p O ρ f j=some p):∃ i l,f j=some i/\ρ[i]? = some (some l)/\isOw l=true/\O i=some p:=by
 unfold qa1p at h
 cases e:f j with
 | none=>rw [e] at h;cases h
 | some i =>
  rw [e] at h
  have h':(match ρ[i]?.join with | some l=>if isOw l then O i else none | none=>none)=some p:=h
  split at h'
  ·rename_i l el
   split at h'
   ·rename_i ho
    exact⟨i,l,rfl,qa2n el,ho,h'⟩
   ·cases h'
  ·cases h'
theorem qb5t{f:Lent}{j i:Nat}{l:L}(e:f j=some i)(h:ρ[i]? = some (some l))(ho:isOw l=true):qa1p O ρ f j=O i:=by
 unfold qa1p
 rw [e]
 show(match ρ[i]?.join with | some l=>if isOw l then O i else none | none=>none)=O i
 rw [h]
 show(if isOw l then O i else none)=O i
 rw [if_pos ho]
structure Begins(K:PySem.W.Frag)(c:Rc)(O:Own)(ρ:Rho)(σ:St)(H:Hp)(f:Lent)(ρi:Rho)(σi:St):Prop where
 io:∀ (j:Nat) (l:L),ρi[j]? = some (some l)->isOw l=true->∃ i l0,f j=some i/\ρ[i]? = some (some l0)/\isOw l0=true/\l=lend l0/\σi[j]? = σ[i]?
 dat:∀ (j:Nat) (x:PyData),ρi[j]? = some (some (.d x))->∃ v,σi[j]? = some (some v)/\AtD K H (live c O) x v
 scr:∀ j:Nat,ρi[j]? = some (some .scr)->σi[j]? = some (some (.ref c.sa))
 inj:∀ j k i,f j=some i->f k=some i->j=k
 len:σi.length=ρi.length
theorem Rel.begin{b:Bool}{f:Lent}{ρi:Rho}{σi:St}{P:Addr->Prop}{H':Hp}(R:Rel K c O ρ σ H)(B:Begins K c O ρ σ H f ρi σi)(hs:Same H H')(hP:∀ p,P p->H p=none/\H' p ≠ none) :
  Rel K (c.in O (qa1p O ρ f) P b H') (qa1p O ρ f) ρi σi H'/\Pers K (live c O) H (live (c.in O (qa1p O ρ f) P b H') (qa1p O ρ f)) H':=by
 have hl:∀ a,live c O a->H a ≠ none->live (c.in O (qa1p O ρ f) P b H') (qa1p O ρ f) a:=fun a h n=>⟨h,fun z=>n (hP a z).1,fun j e=>by
  obtain⟨i,l,_,_,_,e2⟩:=qa2t e
  exact h.2.2 i e2⟩
 have P1:Pers K (live c O) H (live (c.in O (qa1p O ρ f) P b H') (qa1p O ρ f)) H':=fun d v h =>
  AtD.mono hs.keep _ _ (AtD.inH hl d v h)
 refine⟨⟨fun j x e=>?_,fun j xs e=>?_,fun j xs e=>?_,fun j k e=>?_,fun j e=>B.scr j e,fun j k p e1 e2=>?_,fun j p e=>?_,fun p hp=>hp.elim .inl fun z=>.inr z.2,fun p hp=>?_,fun b o _ q=>q,fun b n=>n,fun p h=>?_,fun p h=>?_,fun j p e l h1 h2=>e,?_,B.len⟩,P1⟩
 ·obtain⟨v,h1,h2⟩:=B.dat j x e
  exact⟨v,h1,P1 _ _ h2⟩
 ·obtain⟨i,l0,_,h2,h3,h4,_⟩:=B.io j _ e rfl
  cases l0<;>cases h4
 ·obtain⟨i,l0,h1,h2,h3,h4,h5⟩:=B.io j _ e rfl
  obtain⟨p,e1,e2,e3,_⟩:=R.holds h2 h3
  have eO:qa1p O ρ f j=some p:=(qb5t h1 h2 h3).trans e1
  cases l0 with
  | own ys=>cases h4;obtain⟨vs,e4,e5⟩:=e3;exact⟨p,vs,eO,by rw [h5];exact e2,hs _ _ e4,P1.all e5⟩
  | bor ys=>cases h4;obtain⟨vs,e4,e5⟩:=e3;exact⟨p,vs,eO,by rw [h5];exact e2,hs _ _ e4,P1.all e5⟩
  | _=>cases h4
 ·obtain⟨i,l0,h1,h2,h3,h4,h5⟩:=B.io j _ e rfl
  obtain⟨p,e1,e2,e3,_⟩:=R.holds h2 h3
  have eO:qa1p O ρ f j=some p:=(qb5t h1 h2 h3).trans e1
  cases l0 with
  | tape k0=>cases h4;exact⟨p,eO,by rw [h5];exact e2,hs _ _ e3⟩
  | _=>cases h4
 ·obtain⟨i1,_,f1,_,_,o1⟩:=qa2t e1
  obtain⟨i2,_,f2,_,_,o2⟩:=qa2t e2
  have:=R.inj i1 i2 p o1 o2
  subst this
  exact B.inj j k i1 f1 f2
 ·obtain⟨i1,_,f1,_,_,o1⟩:=qa2t e
  obtain⟨_,vs,h⟩:=R.has i1 p o1
  exact⟨.inl ⟨j,e⟩,vs,hs _ _ h⟩
 ·have hp':H p=none:=hs.free hp
  exact R.liveNew hp'
 ·obtain⟨j,e⟩:=h
  obtain⟨i1,_,f1,_,_,o1⟩:=qa2t e
  obtain⟨_,vs,h⟩:=R.has i1 p o1
  exact⟨vs,hs _ _ h⟩
 ·rcases h with h | ⟨j,e⟩
  ·exact(hP p h).2
  ·obtain⟨i1,_,f1,_,_,o1⟩:=qa2t e
   obtain⟨_,vs,h⟩:=R.has i1 p o1
   rw [hs _ _ h];exact fun z=>nomatch z
 ·exact R.sc.keep (S:=Any) hs.keep
end
end L2
end
section
namespace L2
open PySem PySem.Spec PyProof.Rows
noncomputable def qa6j(ρi:Rho)(l0:L)(j:Nat):Option L:=(ρi[j]?.join).bind (qa6i l0)
noncomputable def qa5i(ρi:Rho)(j i:Nat)(ρ:Rho):Rho:=match ρ[i]?.join with
 | some l0=>if isOw l0 then ρ.set i (qa6j ρi l0 j) else ρ
 | none=>ρ
noncomputable def fills(ρi:Rho):List (Nat × Nat)->Rho->Rho
 | [],ρ=>ρ
 | (j,i) :: r,ρ=>fills ρi r (qa5i ρi j i ρ)
theorem qc0v{ρi ρ:Rho}{j i k:Nat}(h:k ≠ i):(qa5i ρi j i ρ)[k]? = ρ[k]?:=by
 unfold qa5i
 split
 ·split
  ·exact List.getElem?_set_ne (Ne.symm h)
  ·rfl
 ·rfl
theorem qd1u{ρi ρ:Rho}{j i:Nat}{l0:L}(h:ρ[i]? = some (some l0))(ho:isOw l0=true):(qa5i ρi j i ρ)[i]? = some (qa6j ρi l0 j):=by
 have hi:i < ρ.length:=(List.getElem?_eq_some_iff.mp h).1
 unfold qa5i
 rw [h]
 show(if isOw l0 then ρ.set i (qa6j ρi l0 j) else ρ)[i]? = _
 rw [if_pos ho,List.getElem?_set_self hi]
theorem qd1v{ρi ρ:Rho}{j i:Nat}(h:∀ l0,ρ[i]? = some (some l0)->isOw l0=false):qa5i ρi j i ρ=ρ:=by
 unfold qa5i
 split
 ·rename_i l0 e
  rw [h l0 (qa2n e)]
  rfl
 ·rfl
theorem qc9o{ρi ρ:Rho}{j i:Nat}:(qa5i ρi j i ρ).length=ρ.length:=by
 unfold qa5i
 split
 ·split
  ·rw [List.length_set]
  ·rfl
 ·rfl
theorem qb8w{ρi:Rho}:∀ {fl:List (Nat × Nat)} {ρ:Rho},(fills ρi fl ρ).length=ρ.length
 | [],_=>rfl
 | (j,i) :: r,ρ=>by unfold fills;rw [qb8w,qc9o]
theorem qa7n{ρi:Rho}:∀ {fl:List (Nat × Nat)} {ρ:Rho} {k:Nat},(∀ j,(j,k) ∈ fl->∀ l0,ρ[k]? = some (some l0)->isOw l0=false)->(fills ρi fl ρ)[k]? = ρ[k]?
 | [],_,_,_=>rfl
 | (j,i) :: r,ρ,k,h=>by
  unfold fills
  by_cases hk:k=i
  ·subst hk
   have e:=qd1v (ρi:=ρi) (j:=j) (h j List.mem_cons_self)
   rw [e]
   exact qa7n fun j' m=>h j' (List.mem_cons_of_mem _ m)
  ·have e:=qc0v (ρi:=ρi) (ρ:=ρ) (j:=j) hk
   rw [qa7n (ρ:=qa5i ρi j i ρ) (fun j' m l0 q=>h j' (List.mem_cons_of_mem _ m) l0 (by rw [← e];exact q)),e]
theorem qc0w{ρi:Rho}:∀ {fl:List (Nat × Nat)} {ρ:Rho} {j i:Nat} {l0:L},(fl.map (·.2)).Nodup->(j,i) ∈ fl->ρ[i]? = some (some l0)->isOw l0=true->(fills ρi fl ρ)[i]? = some (qa6j ρi l0 j)
 | (j',i') :: r,ρ,j,i,l0,nd,m,h,ho=>by
  rw [List.map_cons,List.nodup_cons] at nd
  unfold fills
  rcases List.mem_cons.mp m with e | m2
  ·cases e
   rw [qa7n fun j2 m2=>absurd (List.mem_map.mpr ⟨(j2,_),m2,rfl⟩) nd.1]
   exact qd1u h ho
  ·have ne:i ≠ i':=by
    rintro rfl
    exact nd.1 (List.mem_map.mpr ⟨(j,_),m2,rfl⟩)
   exact qc0w nd.2 m2 (by rw [qc0v ne];exact h) ho
section
variable{K:PySem.W.Frag}{c:Rc}{O:Own}{ρ:Rho}{σ:St}{H H':Hp}{S S':Addr->Prop}
theorem qc0x{l:L}(h:isIO l=true):isOw l=true:=by cases l<;>first | rfl | cases h
theorem Rel.finish{P':Addr->Prop}{fl:List (Nat × Nat)}{f:Lent}{ρi:Rho}{Oi:Own}{ci:Rc}{σi:St}(R:Rel K c O ρ σ H)(nd:(fl.map (·.2)).Nodup)(hf:∀ j i,(j,i) ∈ fl->f j=some i)(hf':∀ j i,f j=some i->(j,i) ∈ fl)
  (Ri:Rel K ci Oi ρi σi H') (hln:∀ j,ci.lent j=qa1p O ρ f j) (hsa:ci.sa=c.sa) (hns:ci.ns=c.ns)
  (fr:∀ b o,(∀ j,qa1p O ρ f j ≠ some b)->H b=some o->H' b=some o) (hk:∀ j p,qa1p O ρ f j=some p->∃ vs,H' p=some (.lst vs))
  (hP:Pers K (live ci Oi) H' (live { c with P:=P' } O) H') (hp:Pers K (live c O) H (live { c with P:=P' } O) H')
  (hP':∀ p,P' p->c.P p ∨ (H' p ≠ none/\∀ i,O i ≠ some p)):Rel K { c with P:=P' } O (fills ρi fl ρ) σ H':=by
 -- a slot is lent, or it is as it was
 have cases_:∀ i:Nat,(∃ j l0,(j,i) ∈ fl/\ρ[i]? = some (some l0)/\isOw l0=true/\(fills ρi fl ρ)[i]? = some (qa6j ρi l0 j)) ∨ ((fills ρi fl ρ)[i]? = ρ[i]? /\ ∀ p,O i=some p->(∃ l,ρ[i]? = some (some l)/\isOw l=true)->∀ j,qa1p O ρ f j ≠ some p):=fun i=>by
  by_cases h:∃ j l0,(j,i) ∈ fl/\ρ[i]? = some (some l0)/\isOw l0=true
  ·obtain⟨j,l0,h1,h2,h3⟩:=h
   exact .inl ⟨j,l0,h1,h2,h3,qc0w nd h1 h2 h3⟩
  ·refine .inr ⟨qa7n fun j m l0 q=>?_,fun p hO ⟨l,e1,e2⟩ j z=>?_⟩
   ·cases q2:isOw l0 with
    | false=>rfl
    | true=>exact absurd ⟨j,l0,m,q,q2⟩ h
   ·obtain⟨i2,l2,g1,g2,g3,g4⟩:=qa2t z
    have:=R.inj i2 i p g4 hO
    subst this
    exact h ⟨j,l2,hf' j _ g1,g2,g3⟩
 -- what a lent slot has now
 have lent_:∀ {i j:Nat} {l0 l:L},(j,i) ∈ fl->ρ[i]? = some (some l0)->isOw l0=true->qa6j ρi l0 j=some l->∃ p l',O i=some p/\σ[i]? = some (some (.ref p))/\isIO l'=true/\qa6i l0 l'=some l/\Holds K c (live { c with P:=P' } O) H' p l'/\(∀ xs,l0=.own xs->qb2g c p):=fun{i j l0 l} m h2 h3 e=>by
  obtain⟨p,e1,e2,e3,e4⟩:=R.holds h2 h3
  unfold qa6j at e
  cases el:ρi[j]?.join with
  | none=>rw [el] at e;cases e
  | some l' =>
   rw [el] at e
   have e':qa6i l0 l'=some l:=e
   have hio:isIO l'=true:=by cases l0<;>cases l'<;>first | rfl | cases e'
   have el':=qa2n el
   have elent:ci.lent j=some p:=(hln j).trans ((qb5t (hf j i m) h2 h3).trans e1)
   have eO:=Ri.lnt j p elent l' el' hio
   obtain⟨p',g1,_,g3,_⟩:=Ri.holds el' (qc0x hio)
   rw [eO] at g1;cases g1
   refine⟨p,l',e1,e2,hio,e',?_,e4⟩
   cases l' with
   | bor xs=>obtain⟨vs,q1,q2⟩:=g3;exact⟨vs,q1,hP.all q2⟩
   | tape k=>show H' p=_;rw [← hsa];exact g3
   | _=>cases hio
 have ok':∀ i p,O i=some p->qb2g c p->qb2g { c with P:=P' } p:=fun i p e h=>⟨h.1,h.2.1,fun z=>(hP' p z).elim h.2.2 fun w=>w.2 i e⟩
 have stay:∀ i p o,O i=some p->(∃ l,ρ[i]? = some (some l)/\isOw l=true)->(∀ p,O i=some p->(∃ l,ρ[i]? = some (some l)/\isOw l=true)->∀ j,qa1p O ρ f j ≠ some p)->H p=some o->H' p=some o:=fun i p o e l n q=>fr p o (n p e l) q
 refine⟨fun i x e=>?_,fun i xs e=>?_,fun i xs e=>?_,fun i k e=>?_,fun i e=>?_,R.inj,fun i p e=>⟨(R.has' i p e).1,?_⟩,R.am,R.frs,fun b o n q=>?_,fun b n=>?_,fun p h=>?_,fun p h=>?_,fun i p e l h1 h2=>?_,?_,?_⟩
 ·rcases cases_ i with⟨j,l0,m,h2,h3,h4⟩ | ⟨h1,_⟩
  ·rw [h4] at e
   obtain⟨p,l',_,_,hio,hl,_⟩:=lent_ m h2 h3 (Option.some.inj e)
   cases l'<;>first | (cases hio;done) | (cases l0<;>cases hl)
  ·rw [h1] at e
   obtain⟨v,e1,e2⟩:=R.dat i x e
   exact⟨v,e1,hp _ _ e2⟩
 ·rcases cases_ i with⟨j,l0,m,h2,h3,h4⟩ | ⟨h1,h2⟩
  ·rw [h4] at e
   obtain⟨p,l',g1,g2,hio,hl,g3,g4⟩:=lent_ m h2 h3 (Option.some.inj e)
   cases l' with
   | bor ys =>
    cases l0 with
    | own zs=>cases hl;obtain⟨vs,q1,q2⟩:=g3;exact⟨p,vs,g1,ok' i p g1 (g4 _ rfl),g2,q1,q2⟩
    | _=>cases hl
   | tape k=>cases l0<;>cases hl
   | _=>cases hio
  ·rw [h1] at e
   obtain⟨p,vs,g1,g2,g3,g4,g5⟩:=R.own i xs e
   exact⟨p,vs,g1,ok' i p g1 g2,g3,stay i p _ g1 ⟨_,e,rfl⟩ h2 g4,hp.all g5⟩
 ·rcases cases_ i with⟨j,l0,m,h2,h3,h4⟩ | ⟨h1,h2⟩
  ·rw [h4] at e
   obtain⟨p,l',g1,g2,hio,hl,g3,g4⟩:=lent_ m h2 h3 (Option.some.inj e)
   cases l' with
   | bor ys =>
    cases l0<;>cases hl<;>(obtain⟨vs,q1,q2⟩:=g3;exact⟨p,vs,g1,g2,q1,q2⟩)
   | tape k=>cases l0<;>cases hl
   | _=>cases hio
  ·rw [h1] at e
   obtain⟨p,vs,g1,g3,g4,g5⟩:=R.bor i xs e
   exact⟨p,vs,g1,g3,stay i p _ g1 ⟨_,e,rfl⟩ h2 g4,hp.all g5⟩
 ·rcases cases_ i with⟨j,l0,m,h2,h3,h4⟩ | ⟨h1,h2⟩
  ·rw [h4] at e
   obtain⟨p,l',g1,g2,hio,hl,g3,g4⟩:=lent_ m h2 h3 (Option.some.inj e)
   cases l' with
   | bor ys=>cases l0<;>cases hl
   | tape k2=>cases l0<;>cases hl<;>exact⟨p,g1,g2,g3⟩
   | _=>cases hio
  ·rw [h1] at e
   obtain⟨p,g1,g3,g4⟩:=R.tap i k e
   exact⟨p,g1,g3,stay i p _ g1 ⟨_,e,rfl⟩ h2 g4⟩
 ·rcases cases_ i with⟨j,l0,m,h2,h3,h4⟩ | ⟨h1,h2⟩
  ·rw [h4] at e
   obtain⟨p,l',g1,g2,hio,hl,g3,g4⟩:=lent_ m h2 h3 (Option.some.inj e)
   cases l'<;>first | (cases hio;done) | (cases l0<;>cases hl)
  ·rw [h1] at e;exact R.scr i e
 ·obtain⟨_,vs,q⟩:=R.has i p e
  by_cases hlt:∃ j,qa1p O ρ f j=some p
  ·obtain⟨j,hj⟩:=hlt;exact hk j p hj
  ·exact⟨vs,fr p _ (fun j z=>hlt ⟨j,z⟩) q⟩
 ·refine fr b o (fun j z=>?_) (R.same b o n q)
  obtain⟨i,l,_,_,_,hO⟩:=qa2t z
  rcases (R.has i b hO).1 with w | w
  ·exact n w
  ·rw [w] at q;cases q
 ·have n':=R.kept b n
  by_cases hlt:∃ j,qa1p O ρ f j=some b
  ·obtain⟨j,hj⟩:=hlt
   obtain⟨vs,q⟩:=hk j b hj
   rw [q];exact fun z=>nomatch z
  ·cases q:H b with
   | none=>exact absurd q n'
   | some o=>rw [fr b o (fun j z=>hlt ⟨j,z⟩) q];exact fun z=>nomatch z
 ·obtain⟨vs,q⟩:=R.ml p h
  by_cases hlt:∃ j,qa1p O ρ f j=some p
  ·obtain⟨j,hj⟩:=hlt;exact hk j p hj
  ·exact⟨vs,fr p _ (fun j z=>hlt ⟨j,z⟩) q⟩
 ·have fin:∀ q,(c.P q ∨ c.B q)->H' q ≠ none:=fun q hq=>by
   have n':=R.pin q hq
   by_cases hlt:∃ j,qa1p O ρ f j=some q
   ·obtain⟨j,hj⟩:=hlt
    obtain⟨vs,q⟩:=hk j q hj
    rw [q];exact fun z=>nomatch z
   ·cases q2:H q with
    | none=>exact absurd q2 n'
    | some o=>rw [fr q o (fun j z=>hlt ⟨j,z⟩) q2];exact fun z=>nomatch z
  rcases h with h | h
  ·rcases hP' p h with w | w
   ·exact fin p (.inl w)
   ·exact w.1
  ·exact fin p (.inr h)
 ·rcases cases_ i with⟨j,l0,m,h3,h4,h5⟩ | ⟨h3,h4⟩
  ·rw [h5] at h1
   obtain⟨p',l',g1,g2,hio,hl,g3,g4⟩:=lent_ m h3 h4 (Option.some.inj h1)
   cases l0 with
   | own zs=>cases l'<;>cases hl;cases h2
   | bor zs=>exact R.lnt i p e _ h3 rfl
   | tape k=>exact R.lnt i p e _ h3 rfl
   | _=>cases h4
  ·rw [h3] at h1;exact R.lnt i p e l h1 h2
 ·have:=Ri.sc
  rw [hsa,hns] at this
  exact this
 ·rw [qb8w];exact R.len
end
end L2
end
section
namespace L2
open PySem PySem.Spec PyProof.Rows
abbrev DSp:=List L->(RV->Rho->Prop)->Prop
noncomputable def mask:List L->Rho->Rho
 | [],_=>[]
 | l :: ls,ρ=>(if isIO l then ρ.head?.join else none) :: mask ls ρ.tail
noncomputable def qb6n(N:List Str)(ls:List L):Rho:=ls.map some ++ List.replicate (N.length - ls.length) none
def spD(K:PySem.W.Frag)(ds:DSp):Sp:=fun vs H Q _=>∃ (c:Rc) (O:Own) (ls:List L) (Qd:RV->Rho->Prop),c.H0=H/\(∀ p,¬ c.P p)/\(∀ p,c.M p->c.B p)/\(∀ p,c.H0 p=none->c.A p)/\(∀ i,c.lent i=O i)/\Rel K c O (ls.map some) (vs.map some) H/\ds ls Qd /\
 ∀ r O' ρ' σ' v H',Qd r (mask ls ρ')->RetOk K c O' ρ' σ' H' r v->Q v H'
section
variable{K:PySem.W.Frag}{c:Rc}{O:Own}{ρ:Rho}{σ:St}{H H':Hp}{S S':Addr->Prop}
theorem Rel.more{n:Nat}(R:Rel K c O ρ σ H):Rel K c O (ρ ++ List.replicate n none) (σ ++ List.replicate n none) H:=by
 have at_:∀ {i:Nat} {l:L},(ρ ++ List.replicate n none)[i]? = some (some l)->ρ[i]? = some (some l):=fun{i l} e=>by
  by_cases hi:i < ρ.length
  ·rwa [List.getElem?_append_left hi] at e
  ·rw [List.getElem?_append_right (by omega),List.getElem?_replicate] at e
   split at e<;>cases e
 have st:∀ {i:Nat} {v:V},σ[i]? = some (some v)->(σ ++ List.replicate n none)[i]? = some (some v):=fun{i v} e=>by
  rw [List.getElem?_append_left (List.getElem?_eq_some_iff.mp e).1];exact e
 refine⟨fun i x e=>?_,fun i xs e=>?_,fun i xs e=>?_,fun i k e=>?_,fun i e=>st (R.scr i (at_ e)),R.inj,R.has',R.am,R.frs,R.same,R.kept,R.ml,R.pin,fun i p e l h1 h2=>R.lnt i p e l (at_ h1) h2,R.sc,?_⟩
 ·obtain⟨v,h1,h2⟩:=R.dat i x (at_ e);exact⟨v,st h1,h2⟩
 ·obtain⟨p,vs,h1,h2,h3,h4⟩:=R.own i xs (at_ e);exact⟨p,vs,h1,h2,st h3,h4⟩
 ·obtain⟨p,vs,h1,h3,h4⟩:=R.bor i xs (at_ e);exact⟨p,vs,h1,st h3,h4⟩
 ·obtain⟨p,h1,h3,h4⟩:=R.tap i k (at_ e);exact⟨p,h1,st h3,h4⟩
 ·rw [List.length_append,List.length_append,R.len,List.length_replicate,List.length_replicate]
end
section
variable{P:Program}{w:World}{K:PySem.W.Frag}{mg:Str->Option Value}{base:Heap}
theorem Fun.dok{x qual:Str}{st:Stmt}{f:Addr}{fd:FuncData}{N ps:List Str}{k:Nat}{ds:DSp}(F:Fun K x qual st f fd)(S:FnScope N ps (qa0k st))
  (hbody:∀ (cdv:Value) (A:Around) (outer:List Env) (s:Shared) (H:Hp) (E:XK),Room k (A.deeper (envOfC qual (qa0k st) s.heap.objs.size f cdv)) ->
   ∀ (ls:List L) (Qd:RV->Rho->Prop),ds ls Qd->ls.length=ps.length/\∃ dt,DSs (cxOf CX0 P w K mg base N qual (qa0k st) f cdv A outer s H E).nox (qa4v st) dt/\dt { nx:=fun ρ=>Qd (.d .none) (mask ls ρ),rt:=fun r ρ=>Qd r (mask ls ρ) } (qb6n N ls)) (len:∀ ls Qd,ds ls Qd->ls.length=ps.length):FnOk P w K mg base CX0 (k + 1) f fd ps (spD K ds):=by
 refine F.ok S (fun vs H Q E h=>?_) (fun cdv A outer s H vs Q E hr h=>?_)
 ·obtain⟨c,O,ls,Qd,_,_,_,_,_,R,h1,_⟩:=h
  have:=R.len
  rw [List.length_map,List.length_map] at this
  rw [this];exact len ls Qd h1
 ·obtain⟨c,O,ls,Qd,h0,hP,hM,hA,hL,R,h1,fin⟩:=h
  obtain⟨hl,dt,⟨t,p,a⟩,q⟩:=hbody cdv A outer s H E hr ls Qd h1
  have hlv:vs.length=ls.length:=by have:=R.len;rwa [List.length_map,List.length_map] at this
  refine⟨t,p,a c O (qb6n N ls) (start N vs) H _ { nx:=fun ρ=>Qd (.d .none) (mask ls ρ),rt:=fun r ρ=>Qd r (mask ls ρ) } ?_ ⟨fun O1 ρ1 σ1 H1 R1 _ q1=>?_,fun r O1 ρ1 σ1 H1 v h q1=>?_,fun _ _ _ _ _ _ z=>(show False from z).elim,fun _ _ _ _ _ _ z=>(show False from z).elim,hM,hA⟩ q⟩
  ·unfold qb6n start
   rw [hlv]
   exact R.more
  ·exact fin (.d .none) O1 ρ1 σ1 .non H1 q1 ⟨R1,qb0d⟩
  ·exact fin r O1 ρ1 σ1 v H1 q1 h
end
def fzL(ρ:Rho)(x:DV)(Q:L->Rho->Prop):Prop:=match x with
 | .d y=>Q (.d y) ρ
 | .sl i=>match ρ[i]?.join with
  | some (.d y)=>Q (.d y) ρ
  | some (.own xs)=>Q (.d (.list xs)) (ρ.set i (some (.d (.list xs))))
  | some .scr=>Q .scr ρ
  | _=>False
noncomputable def ioAt(ρ:Rho)(i:Nat):Option L:=match ρ[i]?.join with
 | some l=>if isOw l then some (lend l) else none
 | none=>none
noncomputable def pass:List Bool->List DV->Rho->(List L->Rho->Prop)->Prop
 | [],[],ρ,Q=>Q [] ρ
 | false :: fs,x :: xs,ρ,Q=>fzL ρ x fun l ρ1=>pass fs xs ρ1 fun ls ρ2=>Q (l :: ls) ρ2
 | true :: fs,.sl i :: xs,ρ,Q=>pass fs xs ρ fun ls ρ2=>need (ioAt ρ2 i) fun l=>Q (l :: ls) ρ2
 | _,_,_,_=>False
noncomputable def qa2e:List Bool->List DV->Lent
 | true :: _,.sl i :: _,0=>some i
 | _ :: fs,_ :: xs,j + 1=>qa2e fs xs j
 | _,_,_=>none
noncomputable def flOf:Nat->List Bool->List DV->List (Nat × Nat)
 | j,true :: fs,.sl i :: xs=>(j,i) :: flOf (j + 1) fs xs
 | j,true :: fs,.d _ :: xs=>flOf (j + 1) fs xs
 | j,false :: fs,_ :: xs=>flOf (j + 1) fs xs
 | _,_,_=>[]
theorem qb2j{fs:List Bool}:∀ {xs:List DV} {j0 j i:Nat},(j,i) ∈ flOf j0 fs xs ↔ ∃ k,j=j0 + k/\qa2e fs xs k=some i:=by
 induction fs with
 | nil =>
  intro xs j0 j i
  have e1:flOf j0 [] xs=[]:=by cases xs<;>rfl
  have e2:∀ k,qa2e [] xs k=none:=fun k=>by cases xs<;>cases k<;>rfl
  rw [e1]
  exact⟨fun h=>absurd h (List.not_mem_nil),fun hq8=>by obtain⟨k,_,h⟩:=hq8;rw [e2] at h;cases h⟩
 | cons f fs ih =>
  intro xs j0 j i
  cases xs with
  | nil =>
   have e1:flOf j0 (f :: fs) []=[]:=by cases f<;>rfl
   have e2:∀ k,qa2e (f :: fs) [] k=none:=fun k=>by cases f<;>cases k<;>rfl
   rw [e1]
   exact⟨fun h=>absurd h (List.not_mem_nil),fun hq8=>by obtain⟨k,_,h⟩:=hq8;rw [e2] at h;cases h⟩
  | cons x xs =>
   have step:(∃ k,j=j0 + 1 + k/\qa2e fs xs k=some i)->∃ k,j=j0 + k/\qa2e (f :: fs) (x :: xs) k=some i:=fun hq8=>by obtain⟨k,e1,e2⟩:=hq8;exact⟨k + 1,by omega,by cases f<;>cases x<;>exact e2⟩
   have back:∀ k,j=j0 + (k + 1)->qa2e (f :: fs) (x :: xs) (k + 1)=some i->∃ k,j=j0 + 1 + k/\qa2e fs xs k=some i:=fun k e1 e2=>⟨k,by omega,by cases f<;>cases x<;>exact e2⟩
   cases f with
   | false =>
    have e:flOf j0 (false :: fs) (x :: xs)=flOf (j0 + 1) fs xs:=by cases x<;>rfl
    rw [e,ih]
    refine⟨step,fun hq8=>?_⟩
    obtain⟨k,e1,e2⟩:=hq8
    cases k with
    | zero=>cases x<;>cases e2
    | succ k=>exact back k e1 e2
   | true =>
    cases x with
    | d y =>
     show(j,i) ∈ flOf (j0 + 1) fs xs ↔ _
     rw [ih]
     refine⟨step,fun hq8=>?_⟩
     obtain⟨k,e1,e2⟩:=hq8
     cases k with
     | zero=>cases e2
     | succ k=>exact back k e1 e2
    | sl i0 =>
     show(j,i) ∈ (j0,i0) :: flOf (j0 + 1) fs xs ↔ _
     rw [List.mem_cons,ih]
     constructor
     ·rintro(e | h)
      ·cases e;exact⟨0,rfl,rfl⟩
      ·exact step h
     ·rintro⟨k,e1,e2⟩
      cases k with
      | zero =>
       have e3:some i0=some i:=e2
       cases e3
       exact .inl (by rw [e1];rfl)
      | succ k=>exact .inr (back k e1 e2)
inductive Args (K:PySem.W.Frag) (S:Addr->Prop) (sa:Addr) (ρ:Rho) (σ:St) (H:Hp):List Bool->List DV->List L->List V->Prop where
 | nil:Args K S sa ρ σ H [] [] [] []
 | dat {fs xs ls vs x y v}:AtD K H S y v->Args K S sa ρ σ H fs xs ls vs->Args K S sa ρ σ H (false :: fs) (x :: xs) (.d y :: ls) (v :: vs)
 | scr {fs xs ls vs x}:Args K S sa ρ σ H fs xs ls vs->Args K S sa ρ σ H (false :: fs) (x :: xs) (.scr :: ls) (.ref sa :: vs)
 | io {fs xs ls vs v} {i:Nat} {l0:L}:ρ[i]? = some (some l0)->isOw l0=true->σ[i]? = some (some v)->Args K S sa ρ σ H fs xs ls vs->Args K S sa ρ σ H (true :: fs) (.sl i :: xs) (lend l0 :: ls) (v :: vs)
section
variable{K:PySem.W.Frag}{c:Rc}{O:Own}{ρ:Rho}{σ:St}{H H':Hp}{S S':Addr->Prop}
theorem Rel.fzL{x:DV}{v:V}{Q:L->Rho->Prop}(R:Rel K c O ρ σ H)(a:AtV K (live c O) σ H x v)(h:fzL ρ x Q):∃ l ρ' O',Q l ρ'/\Rel K c O' ρ' σ H/\Pers K (live c O) H (live c O') H/\((∃ y,l=.d y/\AtD K H (live c O') y v) ∨ (l=.scr/\v=.ref c.sa)):=by
 cases x with
 | d y=>exact⟨.d y,ρ,O,h,R,.refl,.inl ⟨y,rfl,a⟩⟩
 | sl i =>
  have a':σ[i]? = some (some v):=a
  simp only [L2.fzL] at h
  split at h
  ·rename_i y e
   obtain⟨w,h1,h2⟩:=R.dat i y (qa2n e)
   rw [a'] at h1;cases h1
   exact⟨.d y,ρ,O,h,R,.refl,.inl ⟨y,rfl,h2⟩⟩
  ·rename_i xs e
   have e':=qa2n e
   obtain⟨R',P⟩:=R.freeze e'
   have hi:i < ρ.length:=(List.getElem?_eq_some_iff.mp e').1
   obtain⟨w,h1,h2⟩:=R'.dat i (.list xs) (by rw [List.getElem?_set_self hi])
   rw [a'] at h1;cases h1
   exact⟨_,_,_,h,R',P,.inl ⟨_,rfl,h2⟩⟩
  ·rename_i e
   have:=R.scr i (qa2n e)
   rw [a'] at this;cases this
   exact⟨_,ρ,O,h,R,.refl,.inr ⟨rfl,rfl⟩⟩
  ·exact h.elim
theorem pass_ok{fs:List Bool}:∀ {xs:List DV} {vs:List V} {ρ:Rho} {O:Own} {Q:List L->Rho->Prop},Rel K c O ρ σ H->AtVs K (live c O) σ H xs vs->pass fs xs ρ Q ->
  ∃ ls ρ' O',Q ls ρ'/\Rel K c O' ρ' σ H/\Pers K (live c O) H (live c O') H/\Args K (live c O') c.sa ρ' σ H fs xs ls vs:=by
 induction fs with
 | nil =>
  intro xs vs ρ O Q R a h
  cases xs with
  | nil=>cases a;exact⟨[],ρ,O,h,R,.refl,.nil⟩
  | cons _ _=>exact(show False from h).elim
 | cons f fs ih =>
  intro xs vs ρ O Q R a h
  cases xs with
  | nil=>cases f<;>exact(show False from h).elim
  | cons x xs =>
   cases a with
   | @cons _ _ v vs a as =>
   cases f with
   | false =>
    have h':L2.fzL ρ x fun l ρ1=>pass fs xs ρ1 fun ls ρ2=>Q (l :: ls) ρ2:=h
    obtain⟨l,ρ1,O1,h1,R1,P1,a1⟩:=R.fzL a h'
    obtain⟨ls,ρ2,O2,h2,R2,P2,a2⟩:=ih R1 (AtVs.pers as P1) h1
    refine⟨l :: ls,ρ2,O2,h2,R2,P1.trans P2,?_⟩
    rcases a1 with⟨y,rfl,a1⟩ | ⟨rfl,rfl⟩
    ·exact .dat (P2 _ _ a1) a2
    ·exact .scr a2
   | true =>
    cases x with
    | d y=>exact(show False from h).elim
    | sl i =>
     have h':pass fs xs ρ fun ls ρ2=>need (ioAt ρ2 i) fun l=>Q (l :: ls) ρ2:=h
     obtain⟨ls,ρ2,O2,hz1,R2,P2,a2⟩:=ih R as h'
     obtain⟨l,e,h2⟩:=ne (hz1)
     refine⟨l :: ls,ρ2,O2,h2,R2,P2,?_⟩
     unfold ioAt at e
     split at e
     ·rename_i l0 el
      split at e
      ·rename_i ho
       cases e
       exact .io (qa2n el) ho a a2
      ·cases e
     ·cases e
theorem Args.begins{fs:List Bool}{xs:List DV}{ls:List L}{vs:List V}(a:Args K (live c O) c.sa ρ σ H fs xs ls vs)(inj:∀ j k i,qa2e fs xs j=some i->qa2e fs xs k=some i->j=k) :
  Begins K c O ρ σ H (qa2e fs xs) (ls.map some) (vs.map some):=by
 refine⟨?_,?_,?_,inj,?_⟩
 ·clear inj
  induction a with
  | nil=>intro j l e;simp at e
  | dat h _ ih =>
   intro j l e ho
   cases j with
   | zero=>cases e;cases ho
   | succ j=>obtain⟨i,l0,h1,h2⟩:=ih j l (by simpa using e) ho;exact⟨i,l0,h1,by simpa using h2⟩
  | scr _ ih =>
   intro j l e ho
   cases j with
   | zero=>cases e;cases ho
   | succ j=>obtain⟨i,l0,h1,h2⟩:=ih j l (by simpa using e) ho;exact⟨i,l0,h1,by simpa using h2⟩
  | @io fs xs ls vs v i l0 h1 h2 h3 _ ih =>
   intro j l e ho
   cases j with
   | zero=>cases e;exact⟨i,l0,rfl,h1,h2,rfl,by simpa using h3.symm⟩
   | succ j=>obtain⟨i,l0,h1,h2⟩:=ih j l (by simpa using e) ho;exact⟨i,l0,h1,by simpa using h2⟩
 ·clear inj
  induction a with
  | nil=>intro j x e;simp at e
  | dat h _ ih =>
   intro j x e
   cases j with
   | zero=>cases e;exact⟨_,rfl,h⟩
   | succ j=>obtain⟨v,h1,h2⟩:=ih j x (by simpa using e);exact⟨v,by simpa using h1,h2⟩
  | scr _ ih =>
   intro j x e
   cases j with
   | zero=>cases e
   | succ j=>obtain⟨v,h1,h2⟩:=ih j x (by simpa using e);exact⟨v,by simpa using h1,h2⟩
  | @io fs xs ls vs v i l0 h1 h2 h3 _ ih =>
   intro j x e
   cases j with
   | zero=>cases l0<;>first | (cases h2;done) | cases e
   | succ j=>obtain⟨v,h1,h2⟩:=ih j x (by simpa using e);exact⟨v,by simpa using h1,h2⟩
 ·clear inj
  induction a with
  | nil=>intro j e;simp at e
  | dat h _ ih =>
   intro j e
   cases j with
   | zero=>cases e
   | succ j=>have:=ih j (by simpa using e);simpa using this
  | scr _ ih =>
   intro j e
   cases j with
   | zero=>rfl
   | succ j=>have:=ih j (by simpa using e);simpa using this
  | @io fs xs ls vs v i l0 h1 h2 h3 _ ih =>
   intro j e
   cases j with
   | zero=>cases l0<;>first | (cases h2;done) | cases e
   | succ j=>have:=ih j (by simpa using e);simpa using this
 ·clear inj
  rw [List.length_map,List.length_map]
  induction a with
  | nil=>rfl
  | dat _ _ ih=>simp [ih]
  | scr _ ih=>simp [ih]
  | io _ _ _ _ ih=>simp [ih]
theorem Args.mask{fs:List Bool}{xs:List DV}{ls:List L}{vs:List V}(a:Args K (live c O) c.sa ρ σ H fs xs ls vs):∀ (ρ':Rho) {j i:Nat},qa2e fs xs j=some i->(L2.mask ls ρ')[j]?.join=ρ'[j]?.join:=by
 have hd:∀ ρ':Rho,ρ'.head?.join=ρ'[0]?.join:=fun ρ'=>by cases ρ'<;>rfl
 have tl:∀ (ρ':Rho) (j:Nat),ρ'.tail[j]? = ρ'[j + 1]?:=fun ρ' j=>by cases ρ'<;>simp
 induction a with
 | nil=>intro ρ' j i e;cases e
 | dat h _ ih =>
  intro ρ' j i e
  cases j with
  | zero=>cases e
  | succ j =>
   have:=ih ρ'.tail (j:=j) (i:=i) e
   rw [tl] at this
   rw [← this];simp [L2.mask]
 | scr _ ih =>
  intro ρ' j i e
  cases j with
  | zero=>cases e
  | succ j =>
   have:=ih ρ'.tail (j:=j) (i:=i) e
   rw [tl] at this
   rw [← this];simp [L2.mask]
 | @io fs xs ls vs v i0 l0 h1 h2 h3 _ ih =>
  intro ρ' j i e
  cases j with
  | zero =>
   have hio:isIO (lend l0)=true:=by cases l0<;>first | rfl | cases h2
   simp only [L2.mask,hio,if_true,List.getElem?_cons_zero]
   show ρ'.head?.join=_
   exact hd ρ'
  | succ j =>
   have:=ih ρ'.tail (j:=j) (i:=i) e
   rw [tl] at this
   rw [← this];simp [L2.mask]
end
theorem qb4z{ρi ρj:Rho}:∀ {fl:List (Nat × Nat)} {ρ:Rho},(∀ j i,(j,i) ∈ fl->ρi[j]?.join=ρj[j]?.join)->fills ρi fl ρ=fills ρj fl ρ
 | [],_,_=>rfl
 | (j,i) :: r,ρ,h=>by
  have e:qa5i ρi j i ρ=qa5i ρj j i ρ:=by
   unfold qa5i qa6j
   rw [h j i List.mem_cons_self]
  unfold fills
  rw [e]
  exact qb4z fun j' i' m=>h j' i' (List.mem_cons_of_mem _ m)
def dCall(fs:List Bool)(sp:DSp)(da:TDA)(ρ:Rho)(Q:RV->Rho->Prop):Prop:=da ρ fun xs ρ1=>pass fs xs ρ1 fun ls ρ2=>((flOf 0 fs xs).map (·.2)).Nodup/\sp ls fun r outs=>Q r (fills outs (flOf 0 fs xs) ρ2)
def qb6o(fs:List Bool)(sp:DSp)(da:TDA):TDE:=fun ρ Q=>dCall fs sp da ρ fun r ρ1=>match r with
 | .d x=>Q (.d x) ρ1
 | .new xs=>Q (.d (.list xs)) ρ1
section
variable{K:PySem.W.Frag}{c:Rc}{O:Own}{ρ:Rho}{σ:St}{H H':Hp}{S S':Addr->Prop}
theorem qc9p{fs:List Bool}{xs:List DV}(nd:((flOf 0 fs xs).map (·.2)).Nodup):∀ j k i,qa2e fs xs j=some i->qa2e fs xs k=some i->j=k:=fun j k i e1 e2=>by
 have m1:(j,i) ∈ flOf 0 fs xs:=qb2j.mpr ⟨j,by omega,e1⟩
 have m2:(k,i) ∈ flOf 0 fs xs:=qb2j.mpr ⟨k,by omega,e2⟩
 exact congrArg Prod.fst (key _ nd m1 m2 rfl)
where
 key:∀ (l:List (Nat × Nat)) {a b:Nat × Nat},(l.map (·.2)).Nodup->a ∈ l->b ∈ l->a.2=b.2->a=b:=fun l=>by
  induction l with
  | nil=>intro a b _ h;cases h
  | cons x l ih =>
   intro a b nd ha hb e
   rw [List.map_cons,List.nodup_cons] at nd
   rcases List.mem_cons.mp ha with ea | ha2<;>rcases List.mem_cons.mp hb with eb | hb2
   ·rw [ea,eb]
   ·exact absurd (List.mem_map.mpr ⟨b,hb2,by rw [← e,ea]⟩) nd.1
   ·exact absurd (List.mem_map.mpr ⟨a,ha2,by rw [e,eb]⟩) nd.1
   ·exact ih nd.2 ha2 hb2 e
theorem qc7a{fs:List Bool}{sp:DSp}{ta:TA}{da:TDA}(ha:∀ (Qa:List DV->Rho->Prop) (Qv:List V->Hp->Prop),da ρ Qa->(∀ xs ρ1 O1 vs H1,Qa xs ρ1->Rel K c O1 ρ1 σ H1->Pers K (live c O) H (live c O1) H1->AtVs K (live c O1) σ H1 xs vs->Qv vs H1)->ta σ H Qv)
  {Qd:RV->Rho->Prop} {Q:VK} (h:dCall fs sp da ρ Qd)
  (k:∀ r ρ' O' v H',Qd r ρ'->RetOk K c O' ρ' σ H' r v->Pers K (live c O) H (match r with | .d _=>live c O' | .new _=>fun a=>live c O' a/\v ≠ .ref a) H'->Q v H'):tCall (spD K sp) [] E0 ta σ H Q:=by
 refine ha _ _ h fun xs ρ1 O1 vs H1 h1 R1 P1 a1=>?_
 obtain⟨ls,ρ2,O2,⟨nd,h2⟩,R2,P2,as⟩:=pass_ok R1 a1 h1
 have inj:=qc9p nd
 obtain⟨Ri,Pi⟩:=R2.begin (b:=true) (P:=fun _=>False) (H':=H1) (as.begins inj) (Same.refl _) (fun p z=>z.elim)
 rw [List.append_nil]
 have hf:∀ j i,(j,i) ∈ flOf 0 fs xs->qa2e fs xs j=some i:=fun j i m=>by
  obtain⟨k,e1,e2⟩:=qb2j.mp m
  have:j=k:=by omega
  subst this;exact e2
 have hf':∀ j i,qa2e fs xs j=some i->(j,i) ∈ flOf 0 fs xs:=fun j i e=>qb2j.mpr ⟨j,by omega,e⟩
 refine⟨c.in O2 (qa1p O2 ρ2 (qa2e fs xs)) (fun _=>False) true H1,qa1p O2 ρ2 (qa2e fs xs),ls,_,rfl,fun p z=>z,fun p z=>z,fun p z=>.inr ⟨rfl,z⟩,fun i=>rfl,Ri,h2,fun r O' ρ' σ' v H' q ok=>?_⟩
 have ef:fills (mask ls ρ') (flOf 0 fs xs) ρ2=fills ρ' (flOf 0 fs xs) ρ2:=qb4z fun j i m=>as.mask ρ' (hf j i m)
 rw [ef] at q
 have P12:=P1.trans P2
 have lentM:∀ {b:Addr},(∃ j,qa1p O2 ρ2 (qa2e fs xs) j=some b)->∃ vs,H1 b=some (.lst vs):=fun hq8=>by
  obtain⟨j,e⟩:=hq8
  obtain⟨i,_,_,_,_,hO⟩:=qa2t e
  exact(R2.has i _ hO).2
 have hsame:∀ {ci:Rc},Rel K ci O' ρ' σ' H'->ci.H0=H1->(∀ p,ci.M p->∃ j,qa1p O2 ρ2 (qa2e fs xs) j=some p)->(∀ b o,(∀ j,qa1p O2 ρ2 (qa2e fs xs) j ≠ some b)->H1 b=some o->H' b=some o):=fun{ci} Rf h0 hM b o n q=>by
  refine Rf.same b o (fun z=>?_) (by rw [h0];exact q)
  obtain⟨j,e⟩:=hM b z
  exact n j e
 have keep:(∀ b o,(∀ j,qa1p O2 ρ2 (qa2e fs xs) j ≠ some b)->H1 b=some o->H' b=some o)->Keep (live c O2) H1 H':=fun fr =>
  ⟨fun b ws e=>fr b _ (fun j z=>by obtain⟨vs,w⟩:=lentM ⟨j,z⟩;rw [e] at w;cases w) e,fun b o u e=>fr b _ (fun j z=>by obtain⟨vs,w⟩:=lentM ⟨j,z⟩;rw [e] at w;cases w) e,
   fun b ws hl e=>fr b _ (fun j z=>by obtain⟨i,_,_,_,_,hO⟩:=qa2t z;exact hl.2.2 i hO) e⟩
 cases r with
 | d x =>
  obtain⟨Rf,ax⟩:=ok
  have fr:=hsame Rf rfl (fun p z=>z)
  have hl:∀ a,live (c.in O2 (qa1p O2 ρ2 (qa2e fs xs)) (fun _=>False) true H1) O' a->live c O2 a:=fun a z=>z.1
  have hp:Pers K (live c O2) H1 (live c O2) H':=.of (keep fr) fun _ z=>z
  have hP:Pers K (live (c.in O2 (qa1p O2 ρ2 (qa2e fs xs)) (fun _=>False) true H1) O') H' (live c O2) H':=.of (Keep.refl _ _) hl
  have Rn:=R2.finish (P':=c.P) nd hf hf' Rf (fun _=>rfl) rfl rfl fr (fun j p e=>Rf.ml p ⟨j,e⟩) hP hp (fun p z=>.inl z)
  exact k (.d x) _ O2 v H' q ⟨Rn,hP _ _ ax⟩ (P12.trans hp)
 | new ys =>
  obtain⟨p,ws,rfl,Rf,ff,hH,ax⟩:=ok
  have fr:=hsame Rf rfl (fun p z=>z)
  have h1p:H1 p=none:=ff.1
  have hl:∀ a,live ((c.in O2 (qa1p O2 ρ2 (qa2e fs xs)) (fun _=>False) true H1).add p) O' a->live (c.add p) O2 a:=fun a z=>by
   have z1:live c O2 a:=z.1
   exact qb2h z1 fun e=>z.2.1 (.inr e)
  have hp:Pers K (live c O2) H1 (live (c.add p) O2) H':=fun d u h=>by
   refine AtD.mono (S:=live (c.add p) O2) ((keep fr).less fun b z=>(qa6g z).1) _ _ (AtD.less h1p (fun a z n=>qb2h z n) _ _ h)
  have hP:Pers K (live ((c.in O2 (qa1p O2 ρ2 (qa2e fs xs)) (fun _=>False) true H1).add p) O') H' (live (c.add p) O2) H':=.of (Keep.refl _ _) hl
  have fp:=qb5r R2 h1p
  have Rn:Rel K (c.add p) O2 (fills ρ' (flOf 0 fs xs) ρ2) σ H':=R2.finish (P':=fun a=>c.P a ∨ a=p) nd hf hf' Rf (fun _=>rfl) rfl rfl fr (fun j q e=>Rf.ml q ⟨j,e⟩) hP hp (fun q z=>z.elim .inl fun e=>.inr (by subst e;exact⟨by rw [hH];exact(fun z=>nomatch z),fp.2.2.2⟩))
  refine k (.new ys) _ O2 _ H' q ⟨p,ws,rfl,Rn,fp,hH,hP.all ax⟩ ((P12.trans hp).trans (.of (Keep.refl _ _) fun a z=>⟨(qa6g z).1,fun e=>(qa6g z).2 (by cases e;rfl)⟩))
theorem qc9q{fs:List Bool}{sp:DSp}{ta:TA}{da:TDA}(ha:AdA K ta da)(R:Rel K c O ρ σ H){Qd:RV->Rho->Prop}{Q:VK}(h:dCall fs sp da ρ Qd)
  (k:∀ r ρ' O' v H',Qd r ρ'->RetOk K c O' ρ' σ H' r v->Pers K (live c O) H (match r with | .d _=>live c O' | .new _=>fun a=>live c O' a/\v ≠ .ref a) H'->Q v H'):tCall (spD K sp) [] E0 ta σ H Q:=
 qc7a (fun Qa Qv q k'=>ha c O ρ σ H Qa Qv R q k') h k
theorem qd1w{fs:List Bool}{sp:DSp}{ta:TA}{da:TDA}(ha:AdA K ta da):AdE K (tCall (spD K sp) [] E0 ta) (qb6o fs sp da):=fun c O ρ σ H Qd Q R h k =>
 qc9q ha R h fun r ρ' O' v H' q ok P=>by
  cases r with
  | d x=>exact k _ _ _ _ _ q ok.1 P ok.2
  | new xs =>
   obtain⟨p,ws,rfl,Rn,fp,hH,ax⟩:=ok
   obtain⟨R2,P2⟩:=Rn.unadd
   exact k _ _ _ _ _ q R2 (P.trans (.of (Keep.refl _ _) fun a z=>z.1)) (qa3q ⟨Rn.frs p fp.1,fp.2.2.1,fp.2.2.2⟩ hH (P2.all ax))
end
section
variable{X:Cx}{k:Nat}{f:Addr}{fd:FuncData}{ps:List Str}{sp:DSp}{x:Str}{st:Stmt}{p pos:Pos}{e:Expr}{es:List Expr}{da:TDA}
theorem qa0f(fs:List Bool)(d:Def X.K X.mg x st ps f fd)(g:FnOk X.prog X.w X.K X.mg X.base CX0 k f fd ps (spD X.K sp))(hr:Room k X.A)(hg:Gl X x)(ha:DA X (e :: es) da) (hdb:(x == ("__debug__" : Str))=false:=by decide)
  (he:starEach (e :: es) X.env=(false,eval e X.env) :: starEach es X.env:=by rfl) (hpl:(backTo pos (starEach es X.env)).any (·.1)=false:=by rfl):DE X (.Call (.Name x p) (e :: es) [] pos) (qb6o fs sp da):=by
 obtain⟨t,pt,at_⟩:=ha
 exact⟨_,qb5p d g hr hg pt hdb he hpl,qd1w at_⟩
end
end L2
end
section
namespace L2
open PySem PySem.Spec PyProof.Rows
noncomputable def capR(n:Nat)(cap:List (Str × Nat))(ρ:Rho):Rho:=List.replicate n none ++ cap.map fun p=>(ρ[p.2]?.join).map lend
noncomputable def flC:Nat->List (Str × Nat)->List (Nat × Nat)
 | _,[]=>[]
 | j,p :: r=>(j,p.2) :: flC (j + 1) r
noncomputable def qa8x(n:Nat)(cap:List (Str × Nat)):Lent:=fun j=>if j < n then none else(cap[j - n]?).map (·.2)
theorem qc5i:∀ {cap:List (Str × Nat)} {n j i:Nat},(j,i) ∈ flC n cap ↔ n <= j/\(cap[j - n]?).map (·.2)=some i:=by
 intro cap
 induction cap with
 | nil=>intro n j i;simp [flC]
 | cons p r ih =>
  intro n j i
  unfold flC
  rw [List.mem_cons,ih]
  constructor
  ·rintro(e | ⟨h1,h2⟩)
   ·cases e;simp
   ·refine⟨by omega,?_⟩
    have:j - n=(j - (n + 1)) + 1:=by omega
    rw [this,List.getElem?_cons_succ];exact h2
  ·rintro⟨h1,h2⟩
   by_cases e:j=n
   ·subst e
    simp at h2
    exact .inl (by rw [h2])
   ·refine .inr ⟨by omega,?_⟩
    have:j - n=(j - (n + 1)) + 1:=by omega
    rw [this,List.getElem?_cons_succ] at h2;exact h2
theorem qc5j:∀ {cap:List (Str × Nat)} {n:Nat},(flC n cap).map (·.2)=cap.map (·.2)
 | [],_=>rfl
 | p :: r,n=>by unfold flC;rw [List.map_cons,List.map_cons,qc5j]
def qa1j(g:TDG)(tt:TDT)(te:TDE)(Q:List PyData->Rho->Prop):List PyData->Rho->List PyData->Prop
 | [],ρ,acc=>Q acc ρ
 | x :: r,ρ,acc=>g x ρ fun ρ1=>tt ρ1 fun b ρ2=>if b=true then te ρ2 fun y ρ3=>fz ρ3 y fun z ρ4=>qa1j g tt te Q r ρ4 (acc ++ [z]) else qa1j g tt te Q r ρ2 acc
def dComp(n:Nat)(cap:List (Str × Nat))(di:TDI)(g:TDG)(tt:TDT)(te:TDE):TDF:=fun ρ Q=>di ρ fun xs ρ1=>xs.length <= 1000000/\(cap.map (·.2)).Nodup/\qa1j g tt te (fun acc ρ'=>Q acc (fills ρ' (flC n cap) ρ1)) xs (capR n cap ρ1) []
section
variable{K:PySem.W.Frag}{c:Rc}{O:Own}{ρ:Rho}{σ:St}{H H':Hp}{S S':Addr->Prop}
theorem qc9r{l:L}:isOw (lend l)=isOw l:=by cases l<;>rfl
theorem qc7b{n:Nat}{cap:List (Str × Nat)}{own:List Str}(hn:own.length=n)(R:Rel K c O ρ σ H)(nd:(cap.map (·.2)).Nodup):Begins K c O ρ σ H (qa8x n cap) (capR n cap ρ) (qa8w own cap σ):=by
 have at_:∀ {j:Nat} {l:L},(capR n cap ρ)[j]? = some (some l)->n <= j/\∃ p l0,cap[j - n]? = some p/\ρ[p.2]? = some (some l0)/\l=lend l0:=fun{j l} e=>by
  unfold capR at e
  by_cases hj:j < n
  ·rw [List.getElem?_append_left (by simpa using hj),List.getElem?_replicate,if_pos hj] at e;cases e
  ·rw [List.getElem?_append_right (by simpa using Nat.le_of_not_lt hj),List.length_replicate,List.getElem?_map] at e
   cases q:cap[j - n]? with
   | none=>rw [q] at e;cases e
   | some p =>
    rw [q] at e
    have e':(ρ[p.2]?.join).map lend=some l:=Option.some.inj e
    cases q2:ρ[p.2]?.join with
    | none=>rw [q2] at e';cases e'
    | some l0=>rw [q2] at e';cases e';exact⟨by omega,p,l0,rfl,qa2n q2,rfl⟩
 have st:∀ {j:Nat} {p:Str × Nat},n <= j->cap[j - n]? = some p->(qa8w own cap σ)[j]? = some (σ[p.2]?).join:=fun{j p} h1 h2=>by
  unfold qa8w
  rw [List.getElem?_append_right (by simp;omega),List.length_replicate,hn,List.getElem?_map,h2];rfl
 refine⟨fun j l e ho=>?_,fun j x e=>?_,fun j e=>?_,fun j k i e1 e2=>?_,?_⟩
 ·obtain⟨h1,p,l0,h2,h3,h4⟩:=at_ e
  have ho':isOw l0=true:=by rw [h4,qc9r] at ho;exact ho
  obtain⟨q,_,hq⟩:=R.ow h3 ho'
  refine⟨p.2,l0,?_,h3,ho',h4,?_⟩
  ·unfold qa8x;rw [if_neg (by omega),h2];rfl
  ·rw [st h1 h2,hq];rfl
 ·obtain⟨h1,p,l0,h2,h3,h4⟩:=at_ e
  cases l0 with
  | d y =>
   cases h4
   obtain⟨v,e1,e2⟩:=R.dat _ _ h3
   exact⟨v,by rw [st h1 h2,e1];rfl,e2⟩
  | _=>cases h4
 ·obtain⟨h1,p,l0,h2,h3,h4⟩:=at_ e
  cases l0 with
  | scr=>rw [st h1 h2,R.scr _ h3];rfl
  | _=>cases h4
 ·unfold qa8x at e1 e2
  split at e1
  ·cases e1
  ·split at e2
   ·cases e2
   ·rename_i h1 h2
    rw [← List.getElem?_map] at e1 e2
    obtain⟨a1,b1⟩:=List.getElem?_eq_some_iff.mp e1
    obtain⟨a2,b2⟩:=List.getElem?_eq_some_iff.mp e2
    have:=(List.getElem_inj nd).mp (b1.trans b2.symm)
    omega
 ·unfold qa8w capR;simp [hn]
theorem qc5k{n:Nat}{own:List Str}{cap:List (Str × Nat)}{wi:TI}{g:TG}{tt:TT}{te:TE}{di:TDI}{dg:TDG}{dt:TDT}{de:TDE}(hn:own.length=n)(hi:AdI K wi di)(hg:AdG K g dg)(ht:AdT K tt dt)(he:AdE K te de) :
  AdF K (tComp own cap wi g tt te) (dComp n cap di dg dt de):=by
 intro c O ρ σ H Qd Q R h k
 refine hi c O ρ σ H _ _ R h fun xs ρ1 O1 J H1 h1 R1 P1 I1 D hD=>?_
 obtain⟨hz,nd,hloop⟩:=h1
 have B:=qc7b (own:=own) hn R1 nd
 generalize hOc:qa1p O1 ρ1 (qa8x n cap)=Oc
 have s0:=qa2a hD (.lst [])
 obtain⟨R2,P2⟩:=R1.begin (b:=false) (P:=fun a=>a=D) B s0 (fun p e=>by subst e;exact⟨hD,by rw [qa1d];exact fun z=>nomatch z⟩)
 rw [hOc] at R2 P2
 have lentM:∀ {b:Addr},(∃ j,Oc j=some b)->∃ vs,H1 b=some (.lst vs):=fun hq8=>by
  obtain⟨j,e⟩:=hq8
  rw [← hOc] at e
  obtain⟨i,_,_,_,_,hO⟩:=qa2t e
  exact(R1.has i _ hO).2
 have nD:∀ j,Oc j ≠ some D:=fun j e=>by
  obtain⟨vs,q⟩:=lentM ⟨j,e⟩
  rw [hD] at q;cases q
 -- what holds between two turns
 let Jn:St->Hp->Own->Rho->List PyData->List V->Prop:=fun σ' H' O' ρ' acc ys=>Rel K (c.in O1 Oc (fun a=>a=D) false H') O' ρ' σ' H'/\H' D=some (.lst ys)/\qa0d K H' (live (c.in O1 Oc (fun a=>a=D) false H') O') acc ys /\
  (∀ b o,(∀ j,Oc j ≠ some b)->b ≠ D->H1 b=some o->H' b=some o)/\Pers K (live c O1) H1 (live (c.in O1 Oc (fun a=>a=D) false H') O') H'
 refine⟨fun i m σ' H'=>m=xs.length - i/\i <= xs.length/\∃ O' ρ' acc ys,Jn σ' H' O' ρ' acc ys/\acc.length <= i/\qa1j dg dt de (fun acc ρ'=>Qd acc (fills ρ' (flC n cap) ρ1)) (xs.drop i) ρ' acc,⟨xs.length,by simp,Nat.zero_le _,Oc,_,[],[],⟨R2,qa1d,.nil,fun b o _ nb q=>by rw [qa1h nb];exact q,P2⟩,Nat.le_refl _,by rw [List.drop_zero];exact hloop⟩,?_⟩
 rintro i m σ' H' ⟨rfl,hle,O',ρ',acc,ys,⟨R3,hDy,hacc,fr3,P3⟩,hal,q3⟩
 obtain⟨it,stop⟩:=I1 _ _ P3
 by_cases hlt:i < xs.length
 ·rw [List.drop_eq_getElem_cons hlt] at q3
  obtain⟨go,yld⟩:=it i xs[i] (List.getElem?_eq_getElem hlt)
  have q3':dg xs[i] ρ' fun ρ1'=>dt ρ1' fun b ρ2=>if b=true then de ρ2 fun y ρ3=>fz ρ3 y fun z ρ4=>qa1j dg dt de (fun acc ρ'=>Qd acc (fills ρ' (flC n cap) ρ1)) (xs.drop (i + 1)) ρ4 (acc ++ [z]) else qa1j dg dt de (fun acc ρ'=>Qd acc (fills ρ' (flC n cap) ρ1)) (xs.drop (i + 1)) ρ2 acc:=q3
  -- to the next turn, at a heap that differs from H4 at D alone
  have next:∀ (σ4:St) (H4 H5:Hp) (O4:Own) (ρ4:Rho) (acc':List PyData) (ys':List V),Rel K (c.in O1 Oc (fun a=>a=D) false H') O4 ρ4 σ4 H4->Pers K (live (c.in O1 Oc (fun a=>a=D) false H') O') H' (live (c.in O1 Oc (fun a=>a=D) false H') O4) H4 ->
    H5 D=some (.lst ys')->(∀ b,b ≠ D->H5 b=H4 b)->qa0d K H4 (live (c.in O1 Oc (fun a=>a=D) false H') O4) acc' ys'->Jn σ4 H5 O4 ρ4 acc' ys':=fun σ4 H4 H5 O4 ρ4 acc' ys' R4 P4 h5 ne a4=>by
   have h4D:H4 D ≠ none:=R4.kept D (by show H' D ≠ none;rw [hDy];exact fun z=>nomatch z)
   have kp:Keep (live (c.in O1 Oc (fun a=>a=D) false H') O4) H4 H5:=by
    have hDl:∃ zs,H4 D=some (.lst zs):=⟨ys,R4.same D _ (fun hq8=>by obtain⟨j,e⟩:=hq8;exact nD j e) hDy⟩
    obtain⟨zs,hDl⟩:=hDl
    exact⟨fun b ws e=>by rw [ne b (qa8p e hDl (by intro z;cases z))];exact e,fun b o u e=>by rw [ne b (qa8p e hDl (by intro z;cases z))];exact e,fun b ws hl e=>by rw [ne b (fun z=>hl.2.1 z)];exact e⟩
   have hl:∀ a,live (c.in O1 Oc (fun a=>a=D) false H') O4 a->live (c.in O1 Oc (fun a=>a=D) false H5) O4 a:=fun a z=>z
   have P5:Pers K (live (c.in O1 Oc (fun a=>a=D) false H') O4) H4 (live (c.in O1 Oc (fun a=>a=D) false H5) O4) H5:=.of kp hl
   have inM:∀ i p,O4 i=some p->∃ j,Oc j=some p:=fun i p e=>by
    rcases (R4.has' i p e).1 with z | z
    ·exact z
    ·exact absurd z.1 Bool.false_ne_true
   refine⟨R4.to (fun _=>rfl) (fun _ _ _ z=>z) rfl rfl P5 (fun i p vs e q=>?_) (fun i p e _=>.inl (inM i p e)) (fun p z=>z.elim .inl fun w=>absurd w.1 Bool.false_ne_true) (fun p z=>?_) (fun b o _ z=>z) (fun b z=>z) (fun p z=>?_) (fun p z=>?_) (fun _=>rfl) (R4.sc.keep kp),h5,P5.all a4,fun b o n1 n2 q=>?_,(P3.trans P4).trans P5⟩
   ·obtain⟨j,ej⟩:=inM i p e
    rw [ne p (fun z=>nD j (by rw [← z];exact ej))];exact q
   ·have z':H5 p=none:=z
    have np:p ≠ D:=by rintro rfl;rw [h5] at z';cases z'
    rw [ne p np] at z'
    exact R4.frs p (R4.free0 z')
   ·obtain⟨j,ej⟩:=z
    obtain⟨vs,q⟩:=R4.ml p ⟨j,ej⟩
    exact⟨vs,by rw [ne p (fun w=>nD j (by rw [← w];exact ej))];exact q⟩
   ·rcases z with z | ⟨j,ej⟩
    ·rw [show p=D from z,h5];exact fun w=>nomatch w
    ·obtain⟨vs,q⟩:=R4.ml p ⟨j,ej⟩
     rw [ne p (fun w=>nD j (by rw [← w];exact ej)),q];exact fun w=>nomatch w
   ·rw [ne b n2]
    exact R4.same b o (fun hq8=>by obtain⟨j,e⟩:=hq8;exact n1 j e) (fr3 b o n1 n2 q)
  refine .inr ⟨go,fun σ'' H''=>∃ O'' ρ'' acc' ys',Jn σ'' H'' O'' ρ'' acc' ys'/\acc'.length <= i + 1/\qa1j dg dt de (fun acc ρ'=>Qd acc (fills ρ' (flC n cap) ρ1)) (xs.drop (i + 1)) ρ'' acc',fun σ'' H'' hq8=>by obtain⟨O'',ρ'',acc',ys',a1,a2,a3⟩:=hq8;exact⟨xs.length - (i + 1),by omega,rfl,hlt,O'',ρ'',acc',ys',a1,a2,a3⟩,fun v H4 y=>?_⟩
  obtain⟨s4,a4⟩:=yld v H4 y
  refine hg _ O' ρ' σ' H4 xs[i] v _ _ (R3.grow s4) a4 q3' fun O5 ρ5 σ5 R5 P5 q5=>?_
  refine ht _ O5 ρ5 σ5 H4 _ _ R5 q5 fun b ρ6 O6 H6 q6 R6 P6=>?_
  have P06:=((Pers.same s4).trans P5).trans P6
  have dAt:∀ {O9:Own} {ρ9:Rho} {σ9:St} {H9:Hp},Rel K (c.in O1 Oc (fun a=>a=D) false H') O9 ρ9 σ9 H9->H9 D=some (.lst ys):=fun Rx=>Rx.same D _ (fun hq8=>by obtain⟨j,e⟩:=hq8;exact nD j e) hDy
  cases b with
  | false =>
   rw [if_neg Bool.false_ne_true] at q6 ⊢
   exact⟨O6,ρ6,acc,ys,next σ5 H6 H6 O6 ρ6 acc ys R6 P06 (dAt R6) (fun _ _=>rfl) (P06.all hacc),by omega,q6⟩
  | true =>
   rw [if_pos rfl] at q6 ⊢
   refine he _ O6 ρ6 σ5 H6 _ _ R6 q6 fun y ρ7 O7 u H7 q7 R7 P7 a7=>?_
   obtain⟨z,ρ8,O8,q8,R8,P8,a8⟩:=R7.fz a7 q7
   have P08:=(P06.trans P7).trans P8
   have accl:ys.length=acc.length:=hacc.length
   refine⟨ys,dAt R8,by rw [accl];exact mil (by omega),O8,ρ8,acc ++ [z],ys ++ [u],next σ5 H7 _ O8 ρ8 _ _ R8 P08 qa1d (fun b nb=>qa1h nb) ((P08.all hacc).snoc a8),by rw [List.length_append,List.length_singleton];omega,q8⟩
 ·have e:i=xs.length:=by omega
  subst e
  rw [List.drop_eq_nil_of_le (Nat.le_refl _)] at q3
  refine .inl ⟨stop,?_⟩
  have fr:∀ b o,(∀ j,qa1p O1 ρ1 (qa8x n cap) j ≠ some b)->H1 b=some o->H' b=some o:=fun b o n1 q=>fr3 b o (by rw [← hOc];exact n1) (qa3g q hD) q
  have fp:=qb5r R1 hD
  have hl:∀ a,live (c.in O1 Oc (fun a=>a=D) false H') O' a->live (c.add D) O1 a:=fun a z=>qb2h z.1 z.2.1
  have hP:Pers K (live (c.in O1 Oc (fun a=>a=D) false H') O') H' (live (c.add D) O1) H':=.of (Keep.refl _ _) hl
  have hp:Pers K (live c O1) H1 (live (c.add D) O1) H':=P3.trans hP
  have hf:∀ j i,(j,i) ∈ flC n cap->qa8x n cap j=some i:=fun j i m=>by
   obtain⟨h1,h2⟩:=qc5i.mp m
   unfold qa8x;rw [if_neg (by omega)];exact h2
  have hf':∀ j i,qa8x n cap j=some i->(j,i) ∈ flC n cap:=fun j i e=>by
   unfold qa8x at e
   split at e
   ·cases e
   ·exact qc5i.mpr ⟨by omega,e⟩
  have Rn:Rel K (c.add D) O1 (fills ρ' (flC n cap) ρ1) σ H':=R1.finish (P':=fun a=>c.P a ∨ a=D) (by rw [qc5j];exact nd) hf hf' R3 (fun j=>by rw [hOc];rfl) rfl rfl fr (fun j p e=>R3.ml p ⟨j,by rw [← hOc];exact e⟩) hP hp (fun q z=>z.elim .inl fun e=>.inr (by subst e;exact⟨by rw [hDy];exact(fun z=>nomatch z),fp.2.2.2⟩))
  exact k _ _ O1 D ys H' q3 Rn (P1.trans hp) fp hDy (hP.all hacc)
end
end L2
end
section
namespace L2
open PySem PySem.Spec PyProof.Rows
def DG(X:Cx)(target:Expr)(dg:TDG):Prop:=∃ g,PG X target g/\AdG X.K g dg
def DGs(X:Cx)(ts:List Expr)(dg:TDGs):Prop:=∃ g,PGs X ts g/\AdGs X.K g dg
def DIf(X:Cx)(ifs:List Expr)(dt:TDT):Prop:=∃ t,PIf X ifs t/\AdT X.K t dt
section
variable{X:Cx}{st:Stmt}{rest:List Stmt}{e tg iter a b c:Expr}{es ifs:List Expr}{de da db dc:TDE}{df:TDF}{dt du:TDS}{dg:TDG}{dgs:TDGs}{di:TDI}{dtt:TDT}{daa:TDA}{pos:Pos}
theorem qa0r:DSs X [] dNext:=⟨_,qb4k,ad_next⟩
theorem qa0e(h1:DS X st dt)(h2:DSs X rest du):DSs X (st :: rest) (dSeq dt du):=by obtain⟨_,p,a⟩:=h1;obtain⟨_,p',a'⟩:=h2;exact⟨_,qa3l p p',ad_seq a a'⟩
theorem qa0g(h1:DS X st dt):DSs X [st] dt:=by obtain⟨_,p,a⟩:=h1;exact⟨_,qa6t p,a⟩
theorem qc5l(he:DE X e de)(hs:swapsWith e none pos.line X.env=pure false:=by rfl):DS X (.Expr e pos) (dDrop de):=by obtain⟨_,p,a⟩:=he;exact⟨_,ps_expr p hs,ad_drop a⟩
theorem qa0i(he:DE X e de):DS X (.Return (some e) pos) (dRet de):=by obtain⟨_,p,a⟩:=he;exact⟨_,qa9y p,ad_ret a⟩
theorem ds_retF(he:DF X e df):DS X (.Return (some e) pos) (dRetF df):=by obtain⟨_,p,a⟩:=he;exact⟨_,qa9y p,ad_retF a⟩
theorem qa0x{c:Expr}{a b:List Stmt}(hc:DT X c dtt)(ha:DSs X a dt)(hb:DSs X b du):DS X (.If c a b pos) (dIf dtt dt du):=by obtain⟨_,p,a⟩:=hc;obtain⟨_,p',a'⟩:=ha;obtain⟨_,p2,a2⟩:=hb;exact⟨_,ps_if p p' p2,ad_if a a' a2⟩
theorem qa0y{i:Nat}{x:Str}{pos':Pos}(hN:X.N.Nodup)(hi:X.N[i]? = some x)(hx:Loc X.env.scope x)(he:DE X e de)(hs:swapsWith e (some (.Name x pos')) pos.line X.env=pure false:=by rfl)(hf:X.fn x=true ∨ X.env.scope.names.lookup x=some .local:=by first | exact .inl rfl | exact .inr rfl) :
  DS X (.Assign [.Name x pos'] e pos) (dSet i de):=by obtain⟨_,p,a⟩:=he;exact⟨_,qa8a hN hi hx p hs hf,ad_set a⟩
theorem qc5m{i:Nat}{x:Str}{pos':Pos}(hN:X.N.Nodup)(hi:X.N[i]? = some x)(hx:Loc X.env.scope x)(he:DF X e df)(hs:swapsWith e (some (.Name x pos')) pos.line X.env=pure false:=by rfl)(hf:X.fn x=true ∨ X.env.scope.names.lookup x=some .local:=by first | exact .inl rfl | exact .inr rfl) :
  DS X (.Assign [.Name x pos'] e pos) (dSetF i df):=by obtain⟨_,p,a⟩:=he;exact⟨_,qa8a hN hi hx p hs hf,qc5h a⟩
theorem qa0s{i:Nat}{x:Str}(hN:X.N.Nodup)(hi:X.N[i]? = some x)(hx:Loc X.env.scope x)(hf:X.fn x=true ∨ X.env.scope.names.lookup x=some .local:=by first | exact .inl rfl | exact .inr rfl | assumption):DG X (.Name x pos) (qc0r i):=⟨_,pg_name hN hi hx hf,qb7o⟩
theorem qa9s:DGs X [] dgNil:=⟨_,pgs_nil,ag_nil⟩
theorem qa2z(h1:DG X e dg)(h2:DGs X es dgs)(hs:(assignEach (e :: es) X.env).map (·.2)=assign e X.env :: (assignEach es X.env).map (·.2):=by rfl):DGs X (e :: es) (qc0s dg dgs):=by obtain⟨_,p,a⟩:=h1;obtain⟨_,p',a'⟩:=h2;exact⟨_,qd0u p p' hs,ag_cons a a'⟩
theorem qb1s{k n:Nat}(hc:X.calm=true)(h:DGs X es dgs)(hn:(assignEach es X.env).length=n:=by rfl)(hst:(assignEach es X.env).findIdx? (·.1)=none:=by rfl):DG X (.Tuple es k pos) (dgTup n dgs):=by obtain⟨_,p,a⟩:=h;exact⟨_,pg_tup hc p hn hst,ag_tup a⟩
theorem ds_asg(he:DE X e de)(hg:DG X tg dg)(hs:swapsWithSole [tg] e pos.line X.env=pure false:=by rfl)(hw:swappedStores [tg] e X.env=pure none:=by rfl)
  (h1:(assignEach [tg] X.env).map (·.2)=[assign tg X.env]:=by rfl):DS X (.Assign [tg] e pos) (dAsg de dg):=by obtain⟨_,p,a⟩:=he;obtain⟨_,p',a'⟩:=hg;exact⟨_,ps_asg p p' hs hw h1,ad_asg a a'⟩
theorem qc9s(i:Nat){x:Str}{p p2:Pos}(hN:X.N[i]? = some x)(he:DE X e de)(hv:Vis X.env.scope x:=by first | exact Or.inl rfl | exact Or.inr (Or.inl rfl) | exact Or.inr (Or.inr rfl)) (hd:(x == ("__debug__" : Str))=false:=by decide)
  (hcd:(x == ("__classdict__" : Str))=false:=by decide) (hs:starEach [e] X.env=[(false,eval e X.env)]:=by rfl)
  (hbase:attributeBase (.Name x p) "append" X.env (eval (.Name x p) X.env)=eval (.Name x p) X.env:=by rfl)
  (hfew:((backTo pos (starEach [e] X.env)).all (fun x=>!x.1) && (backToKw pos (keywordEach [] X.env)).all (fun x=>x.1.isSome)
   && decide (([e]:List Expr).length + ([]:List Keyword).length + (if ([]:List Keyword).isEmpty then 0 else 1) < 30))=true:=by rfl)
  (hline:(p2.endLine == pos.line)=true:=by rfl):DE X (.Call (.Attribute (.Name x p) "append" p2) [e] [] pos) (qb7p i de):=by
 obtain⟨te,pe,ae⟩:=he
 exact⟨_,pe_bm PySem.F.plainAttrs_list PySem.F.slot_list_append PySem.F.type_list_append qb8q (qb1f hN hv hd hcd) (qa2l pe qa4q hs) hbase hfew hline hs rfl,qc9n ae⟩
theorem de_pop(i:Nat){x:Str}{p p2:Pos}(hN:X.N[i]? = some x)(hv:Vis X.env.scope x:=by first | exact Or.inl rfl | exact Or.inr (Or.inl rfl) | exact Or.inr (Or.inr rfl)) (hd:(x == ("__debug__" : Str))=false:=by decide)
  (hcd:(x == ("__classdict__" : Str))=false:=by decide) (hbase:attributeBase (.Name x p) "pop" X.env (eval (.Name x p) X.env)=eval (.Name x p) X.env:=by rfl) (hline:(p2.endLine == pos.line)=true:=by rfl):DE X (.Call (.Attribute (.Name x p) "pop" p2) [] [] pos) (dPop i):=
 ⟨_,pe_bm0 PySem.F.plainAttrs_list PySem.F.slot_list_pop PySem.F.type_list_pop mt_pop (qb1f hN hv hd hcd) hbase hline,ad_pop⟩
theorem qd1x{c:Expr}{body:List Stmt}(hp:PassesOwn (model X.prog X.w) X.A X.env X.xe)(hc:DT X c dtt)(hb:DSs X body dt):DS X (.While c body [] pos) (qc0t dtt dt):=by obtain⟨_,p,a⟩:=hc;obtain⟨_,p',a'⟩:=hb;exact⟨_,qd0v hp p p',qd1t a a'⟩
theorem qb1t{body:List Stmt}(hp:PassesOwn (model X.prog X.w) X.A X.env X.xe)(hc:X.calm=true)(hi:DI X tg iter di)(hg:DG X tg dg)(hb:DSs X body dt)(hs:∀ x,foldedSetIterable iter X.env x=pure x:=by intro _;rfl):DS X (.For tg iter body [] pos) (dFor di dg dt):=
 by obtain⟨_,p,a⟩:=hi;obtain⟨_,p',a'⟩:=hg;obtain⟨_,p2,a2⟩:=hb;exact⟨_,ps_for hp hc p p' p2 hs,ad_for a a' a2⟩
theorem qa1w(h:DE X e de):DI X tg e (diDat de):=by obtain⟨_,p,a⟩:=h;exact⟨_,pi_dat p,ai_dat a⟩
theorem qa3d{p:Pos} (hg:Gl X "range") (hm:X.mg "range" = none) (ha:DE X a da) (hs:starEach [a] X.env=[(false,eval a X.env)]:=by rfl):DI X tg (.Call (.Name "range" p) [a] [] pos) (qc0u da):=
 by obtain⟨_,p,a⟩:=ha;exact⟨_,qc8t hg hm (qa2l p qa4q hs) hs,ai_rng1 a⟩
theorem qa1z:DIf X [] (fun ρ Q=>Q true ρ):=⟨_,pif_nil,fun c O ρ σ H Qd Q R h k=>k _ _ _ _ h R .refl⟩
theorem qa3r(h:DT X e dtt):DIf X [e] dtt:=by obtain⟨_,p,a⟩:=h;exact⟨_,pif_one p,a⟩
end
def upE(K:PySem.W.Frag)(dt:TDE):TE:=fun σ H Q=>∃ c O ρ Qd,Rel K c O ρ σ H/\dt ρ Qd/\(∀ x ρ' O' v H',Qd x ρ'->Rel K c O' ρ' σ H'->Pers K (live c O) H (live c O') H'->AtV K (live c O') σ H' x v->Q v H')
def upT(K:PySem.W.Frag)(dt:TDT):TT:=fun σ H Q=>∃ c O ρ Qd,Rel K c O ρ σ H/\dt ρ Qd/\(∀ b ρ' O' H',Qd b ρ'->Rel K c O' ρ' σ H'->Pers K (live c O) H (live c O') H'->Q b H')
def upG(K:PySem.W.Frag)(dg:TDG):TG:=fun v σ H Q=>∃ c O ρ x Qd,Rel K c O ρ σ H/\AtD K H (live c O) x v/\dg x ρ Qd/\(∀ O' ρ' σ' ,Rel K c O' ρ' σ' H->Pers K (live c O) H (live c O') H->Qd ρ'->Q σ' H)
theorem ad_upE{K:PySem.W.Frag}{dt:TDE}:AdE K (upE K dt) dt:=fun c O ρ σ H Qd Q R h k=>⟨c,O,ρ,Qd,R,h,k⟩
theorem ad_upT{K:PySem.W.Frag}{dt:TDT}:AdT K (upT K dt) dt:=fun c O ρ σ H Qd Q R h k=>⟨c,O,ρ,Qd,R,h,k⟩
theorem ad_upG{K:PySem.W.Frag}{dg:TDG}:AdG K (upG K dg) dg:=fun c O ρ σ H x v Qd Q R a h k=>⟨c,O,ρ,x,Qd,R,a,h,k⟩
theorem DE.up{X:Cx}{e:Expr}{de:TDE}(h:DE X e de):PE X e (upE X.K de):=fun pins s σ H Q I q=>by
 obtain⟨t,p,a⟩:=h
 obtain⟨c,O,ρ,Qd,R,q,k⟩:=q
 exact p pins s σ H Q I (a c O ρ σ H Qd Q R q k)
theorem DIf.up{X:Cx}{e:List Expr}{de:TDT}(h:DIf X e de):PIf X e (upT X.K de):=fun pins s σ H Q I q=>by
 obtain⟨t,p,a⟩:=h
 obtain⟨c,O,ρ,Qd,R,q,k⟩:=q
 exact p pins s σ H Q I (a c O ρ σ H Qd Q R q k)
theorem DG.up{X:Cx}{e:Expr}{dg:TDG}(h:DG X e dg):PG X e (upG X.K dg):=fun pins s σ H v u Q I r q=>by
 obtain⟨t,p,a⟩:=h
 obtain⟨c,O,ρ,x,Qd,R,ax,q,k⟩:=q
 exact p pins s σ H v u Q I r (a c O ρ σ H x v Qd Q R ax q k)
section
variable{X:Cx}{elt tg iter:Expr}{ifs:List Expr}{scope:Scope}{pos:Pos}{own:List Str}{cap:List (Str × Nat)}{di:TDI}{dg:TDG}{dt:TDT}{de:TDE}
theorem qa1q(own:List Str)(cap:List (Str × Nat))(hc:X.calm=true)(hok:qa5r X scope own cap=true)(hnd:(scope.names.map (·.1)).Nodup)(hi:DI X tg iter di)
  (hg:∀ fp s2 H2,DG (cxC X scope own cap fp s2 H2) tg dg) (ht:∀ fp s2 H2,DIf (cxC X scope own cap fp s2 H2) ifs dt) (he:∀ fp s2 H2,DE (cxC X scope own cap fp s2 H2) elt de)
  (hs:∀ x,foldedSetIterable iter X.env x=pure x:=by intro _;rfl):DF X (.ListComp elt [⟨tg,iter,ifs,0⟩] scope pos) (dComp own.length cap di dg dt de):=by
 obtain⟨ti,pi,ai⟩:=hi
 exact⟨_,pe_comp hc hok hnd pi (fun a b c=>(hg a b c).up) (fun a b c=>(ht a b c).up) (fun a b c=>(he a b c).up) hs,qc5k rfl ai ad_upG ad_upT ad_upE⟩
theorem qa5x{i:Nat}{y:Str}{py spos:Pos}(hN:X.N.Nodup)(hi':X.N[i]? = some y)(hy:X.env.scope.names.lookup y=some .local)
  (own:List Str) (cap:List (Str × Nat)) (hc:X.calm=true) (hok:qa5r X scope own cap=true) (hnd:(scope.names.map (·.1)).Nodup) (hi:DI X tg iter di)
  (hg:∀ fp s2 H2,DG (cxC X scope own cap fp s2 H2) tg dg) (ht:∀ fp s2 H2,DIf (cxC X scope own cap fp s2 H2) ifs dt) (he:∀ fp s2 H2,DE (cxC X scope own cap fp s2 H2) elt de)
  (hsw:swapsWith (.ListComp elt [⟨tg,iter,ifs,0⟩] scope pos) (some (.Name y py)) spos.line X.env=pure true:=by rfl)
  (hs:∀ x,foldedSetIterable iter X.env x=pure x:=by intro _;rfl):DS X (.Assign [.Name y py] (.ListComp elt [⟨tg,iter,ifs,0⟩] scope pos) spos) (dSetF i (dComp own.length cap di dg dt de)):=by
 obtain⟨ti,pi,ai⟩:=hi
 exact⟨_,ps_setC hN hi' hy hc hok hnd pi (fun a b c=>(hg a b c).up) (fun a b c=>(ht a b c).up) (fun a b c=>(he a b c).up) hsw hs,qc5h (qc5k rfl ai ad_upG ad_upT ad_upE)⟩
end
section
variable{K:PySem.W.Frag}
def dIs(T:String)(de:TDE):TDE:=fun ρ Q=>de ρ fun x ρ1=>need (qa0z ρ1 x) fun d=>Q (.d (.bool (isD T d))) ρ1
theorem ad_is{t:TE}{de:TDE}{T:String}(hT:qa7a T=true)(h:AdE K t de):AdE K (tCB (fun xs H Q=>∃ v S d T,xs=[v,.ty T]/\AtD K H S d v/\qa7a T=true/\Q (.bl (isD T d)) H) (qa8u t (qa8u (tC (.ty T)) tNil))) (dIs T de):=fun c O ρ σ H Qd Q R q k =>
 h c O ρ σ H _ _ R q fun x ρ1 O1 v H1 h1 R1 P1 a1=>by
  obtain⟨d,e1,h2⟩:=ne (h1)
  exact⟨v,Any,d,T,rfl,(R1.top a1 e1).any,hT,k _ _ _ _ _ h2 R1 P1 qb0e⟩
end
theorem de_is{X:Cx}{e:Expr}{de:TDE}{x:Str}{T:String}{p p2 pos:Pos} (hg:Gl X "isinstance") (hm:X.mg "isinstance" = none) (hg2:Gl X x) (hm2:X.mg x=none) (hv:bootBuiltins x=some (.type T)) (hT:qa7a T=true) (he:DE X e de) (hn:x ≠ "__name__":=by decide) (hd:(x == ("__debug__" : Str))=false:=by decide)
  (hs:starEach [e,.Name x p2] X.env=(false,eval e X.env) :: starEach [.Name x p2] X.env:=by rfl):DE X (.Call (.Name "isinstance" p) [e,.Name x p2] [] pos) (dIs T de):=by
 obtain⟨t,pe,ae⟩:=he
 exact⟨_,qa6u qd1o hg hm qb9h (qa2l pe (qa2l (pe_ty hg2 hm2 hv hn hd) qa4q) hs) (by decide) (by decide) hs rfl,ad_is hT ae⟩
end L2
end
section
namespace L2
open PySem PySem.Spec PyProof.Rows
noncomputable def fEqA(neg:Bool):F2:=fun x y=>if (qa1n x && qa1n y && scal (toV x) (toV y))=true then some (.bool (if neg then !decide (toV x=toV y) else decide (toV x=toV y))) else fEq neg x y
section
variable{K:PySem.W.Frag}
theorem qa0v:AdR K (fun x y H Q=>rEq x y H Q ∨ rEqD K false x y H Q) (fEqA false):=by
 intro S H x y dx dy z Q f hx hy e k
 unfold fEqA at e
 split at e
 ·rename_i hc
  rw [Bool.and_eq_true,Bool.and_eq_true] at hc
  cases e
  obtain⟨e1,_⟩:=qa9q (hx.at fun ds z=>by subst z;exact absurd hc.1.1 (by simp [qa1n])) hc.1.1
  obtain⟨e2,_⟩:=qa9q (hy.at fun ds z=>by subst z;exact absurd hc.1.2 (by simp [qa1n])) hc.1.2
  rw [e1,e2]
  exact .inl ⟨hc.2,k _ _ (Same.refl _) (qa2j _)⟩
 ·exact .inr (ad_eq S H x y dx dy z Q f hx hy e k)
theorem qc0y:AdR K (fun x y H Q=>rNe x y H Q ∨ rEqD K true x y H Q) (fEqA true):=by
 intro S H x y dx dy z Q f hx hy e k
 unfold fEqA at e
 split at e
 ·rename_i hc
  rw [Bool.and_eq_true,Bool.and_eq_true] at hc
  cases e
  obtain⟨e1,_⟩:=qa9q (hx.at fun ds z=>by subst z;exact absurd hc.1.1 (by simp [qa1n])) hc.1.1
  obtain⟨e2,_⟩:=qa9q (hy.at fun ds z=>by subst z;exact absurd hc.1.2 (by simp [qa1n])) hc.1.2
  rw [e1,e2]
  exact .inl ⟨hc.2,k _ _ (Same.refl _) (qa2j _)⟩
 ·exact .inr (ad_eq S H x y dx dy z Q f hx hy e k)
theorem qa0w{X:Cx}(hu:X.A.units + 64 < cLine):OpR X (compareOp .Eq) (fun x y H Q=>rEq x y H Q ∨ rEqD X.K false x y H Q):=op_eq.or (op_eqD hu)
theorem qc0z{X:Cx}(hu:X.A.units + 64 < cLine):OpR X (compareOp .NotEq) (fun x y H Q=>rNe x y H Q ∨ rEqD X.K true x y H Q):=op_ne.or (op_neD hu)
end
theorem qd1y{neg:Bool}{x y:Str}:fEqA neg (.str x) (.str y)=some (.bool (if neg then !decide (x=y) else decide (x=y))):=by
 have e:decide (V.str x=V.str y)=decide (x=y):=by simp
 unfold fEqA
 rw [if_pos (show(qa1n (.str x) && qa1n (.str y) && scal (toV (.str x)) (toV (.str y)))=true from rfl)]
 show some (PyData.bool (if neg=true then !decide (V.str x=V.str y) else decide (V.str x=V.str y)))=_
 rw [e]
theorem qd1z{neg:Bool}{x y:Int}:fEqA neg (.int x) (.int y)=some (.bool (if neg then !decide (x=y) else decide (x=y))):=by
 have e:decide (V.int x=V.int y)=decide (x=y):=by simp
 unfold fEqA
 rw [if_pos (show(qa1n (.int x) && qa1n (.int y) && scal (toV (.int x)) (toV (.int y)))=true from rfl)]
 show some (PyData.bool (if neg=true then !decide (V.int x=V.int y) else decide (V.int x=V.int y)))=_
 rw [e]
theorem qc9t{neg:Bool}{x y:Bool}:fEqA neg (.bool x) (.bool y)=some (.bool (if neg then !decide (x=y) else decide (x=y))):=by
 have e:decide (V.bl x=V.bl y)=decide (x=y):=by simp
 unfold fEqA
 rw [if_pos (show(qa1n (.bool x) && qa1n (.bool y) && scal (toV (.bool x)) (toV (.bool y)))=true from rfl)]
 show some (PyData.bool (if neg=true then !decide (V.bl x=V.bl y) else decide (V.bl x=V.bl y)))=_
 rw [e]
theorem qc1a{neg:Bool}{x y:PyData}(h:(qa1n x && qa1n y)=false)(hx:SeqAt.shaped x=true)(hy:SeqAt.shaped y=true):fEqA neg x y=some (.bool (if neg then !PyData.eqv x y else PyData.eqv x y)):=by
 unfold fEqA fEq
 rw [h,Bool.false_and,if_neg Bool.false_ne_true,if_pos ⟨hx,hy⟩]
theorem fIx_l{xs:List PyData}{i:Int}:fIx (.list xs) (.int i)=atI xs i:=rfl
theorem fIx_t{xs:List PyData}{i:Int}:fIx (.tuple xs) (.int i)=atI xs i:=rfl
theorem fAdd_i{i j:Int}:fAdd (.int i) (.int j)=some (.int (i + j)):=rfl
theorem fSub_i{i j:Int}:fSub (.int i) (.int j)=some (.int (i - j)):=rfl
theorem fCmp_i{p:Int->Int->Bool}{i j:Int}:fCmp p (.int i) (.int j)=some (.bool (p i j)):=rfl
theorem fLen_l{xs:List PyData}:fLen [.list xs]=some (.int xs.length):=rfl
theorem fLen_t{xs:List PyData}:fLen [.tuple xs]=some (.int xs.length):=rfl
theorem qd2a{xs:List PyData}:qb6l [.list xs]=some (.tuple xs):=rfl
theorem qd2b{xs:List PyData}:qb6l [.tuple xs]=some (.tuple xs):=rfl
theorem fList_l{xs:List PyData}:fList [.list xs]=some xs:=rfl
theorem fList_t{xs:List PyData}:fList [.tuple xs]=some xs:=rfl
theorem fIn_f{neg:Bool}{x:PyData}{xs:List PyData}(h:(qa1n x && xs.all qa1n)=true):fIn neg x (.tuple xs)=some (.bool (if neg then !inF x xs else inF x xs)):=by
 show(if qa1n x && xs.all qa1n then some (PyData.bool (if neg then !inF x xs else inF x xs)) else none)=_
 rw [if_pos h]
theorem qc1b{neg:Bool}{x:PyData}{xs:List PyData}(h:(qa1n x && xs.all qa1n)=true):fIn neg x (.list xs)=some (.bool (if neg then !inF x xs else inF x xs)):=by
 show(if qa1n x && xs.all qa1n then some (PyData.bool (if neg then !inF x xs else inF x xs)) else none)=_
 rw [if_pos h]
theorem fAdd_l{xs ys:List PyData}(h:xs.length + ys.length <= sizeLine):fAdd (.list xs) (.list ys)=some (.list (xs ++ ys)):=by
 show(if xs.length + ys.length <= sizeLine then some (PyData.list (xs ++ ys)) else none)=_
 rw [if_pos h]
theorem qc1c{xs ys:List PyData}(h:xs.length + ys.length <= sizeLine):fAdd (.tuple xs) (.tuple ys)=some (.tuple (xs ++ ys)):=by
 show(if xs.length + ys.length <= sizeLine then some (PyData.tuple (xs ++ ys)) else none)=_
 rw [if_pos h]
theorem fMod_i{i j:Int}(h:0 < j):fMod (.int i) (.int j)=some (.int (i % j)):=by
 show(if 0 < j then some (PyData.int (i % j)) else none)=_
 rw [if_pos h]
theorem qa3f{xs:List PyData}{i:Int}{k:PyData->Prop}(h0:0 <= i)(h1:i < xs.length)(h:∀ d,d ∈ xs->xs[i.toNat]? = some d->k d):need (atI xs i) k:=by
 obtain⟨x,e1,e2,e3⟩:=atI_in h0 h1
 exact need_mk e1 (h x e2 e3)
theorem qb8x{α:Type}{xs r:List α}{i:Nat}{x:α}(h:xs.drop i=x :: r):xs[i]? = some x/\xs.drop (i + 1)=r:=by
 have hi:i < xs.length:=by
  by_cases h':i < xs.length
  ·exact h'
  ·rw [List.drop_eq_nil_of_le (by omega)] at h;cases h
 rw [List.drop_eq_getElem_cons hi] at h
 injection h with h1 h2
 exact⟨by rw [List.getElem?_eq_getElem hi,h1],h2⟩
theorem qc1d{α:Type}{xs:List α}{i:Nat}(hi:i <= xs.length)(h:xs.drop i=[]):i=xs.length:=by
 have:=congrArg List.length h
 simp at this
 omega
theorem qa7c{g:TDG}{b:TDS}{D:DEnds}{xs:List PyData}{ρ:Rho}(Pv:Nat->Rho->Prop)(h0:Pv 0 ρ)
  (hs:∀ (i:Nat) (x:PyData) (ρ:Rho) (N:Rho->Prop),xs[i]? = some x->Pv i ρ->(∀ ρ',Pv (i + 1) ρ'->N ρ')->g x ρ fun ρ1=>b { D with nx:=N,ct:=N,bk:=D.nx } ρ1)
  (hd:∀ ρ,Pv xs.length ρ->D.nx ρ):qa5s g b D xs ρ:=by
 have key:∀ (r:List PyData) (i:Nat),i <= xs.length->xs.drop i=r->∀ ρ,Pv i ρ->qa5s g b D r ρ:=fun r=>by
  induction r with
  | nil =>
   intro i hi e ρ p
   rw [qc1d hi e] at p
   exact hd ρ p
  | cons x r ih =>
   intro i hi e ρ p
   obtain⟨e1,e2⟩:=qb8x e
   have hlt:i < xs.length:=(List.getElem?_eq_some_iff.mp e1).1
   exact hs i x ρ _ e1 p fun ρ' p'=>ih (i + 1) hlt e2 ρ' p'
 exact key xs 0 (Nat.zero_le _) (by simp) ρ h0
theorem qa3x{g:TDG}{tt:TDT}{te:TDE}{Q:List PyData->Rho->Prop}{xs:List PyData}{ρ:Rho}(Pv:Nat->Rho->List PyData->Prop)(h0:Pv 0 ρ [])
  (hs:∀ (i:Nat) (x:PyData) (ρ:Rho) (acc:List PyData) (N:Rho->List PyData->Prop),xs[i]? = some x->Pv i ρ acc->(∀ ρ' acc',Pv (i + 1) ρ' acc'->N ρ' acc') ->
   g x ρ fun ρ1=>tt ρ1 fun b ρ2=>if b=true then te ρ2 fun y ρ3=>fz ρ3 y fun z ρ4=>N ρ4 (acc ++ [z]) else N ρ2 acc)
  (hd:∀ ρ acc,Pv xs.length ρ acc->Q acc ρ):qa1j g tt te Q xs ρ []:=by
 have key:∀ (r:List PyData) (i:Nat),i <= xs.length->xs.drop i=r->∀ ρ acc,Pv i ρ acc->qa1j g tt te Q r ρ acc:=fun r=>by
  induction r with
  | nil =>
   intro i hi e ρ acc p
   rw [qc1d hi e] at p
   exact hd ρ acc p
  | cons x r ih =>
   intro i hi e ρ acc p
   obtain⟨e1,e2⟩:=qb8x e
   have hlt:i < xs.length:=(List.getElem?_eq_some_iff.mp e1).1
   exact hs i x ρ acc _ e1 p fun ρ' acc' p'=>ih (i + 1) hlt e2 ρ' acc' p'
 exact key xs 0 (Nat.zero_le _) (by simp) ρ [] h0
end L2
end
section
namespace L2
open PySem PySem.Spec PyProof.Rows
def later(u:TDS)(D:DEnds)(ρ:Rho):Prop:=u D ρ
theorem qc5n{u:TDS}{D:DEnds}{ρ:Rho}(h:u D ρ):later u D ρ:=h
section
variable{t u b:TDS}{c tt:TDT}{D:DEnds}{ρ ρi:Rho}{i j n:Nat}{da db dc de te:TDE}{df:TDF}{daa:TDA}{f f':F2}{fl:F2L}{fc:FC}{fcl:FCL}{T:String}{dg g:TDG}{dgs:TDGs}{di:TDI}{x:PyData}{y:DV}{xs:List PyData}{ys:List DV}{fs:List Bool}{sp:DSp}
 {Q:DV->Rho->Prop} {QF:List PyData->Rho->Prop} {QB:Bool->Rho->Prop} {QA:List DV->Rho->Prop} {QR:RV->Rho->Prop} {QD:PyData->Rho->Prop} {N:Rho->Prop} {QL:L->Rho->Prop} {QLs:List L->Rho->Prop}
theorem dSeq_a:dSeq t u D ρ=t { D with nx:=later u D } ρ:=rfl
theorem dNext_a:dNext D ρ=D.nx ρ:=rfl
theorem dIf_a:dIf c t u D ρ=c ρ fun b ρ1=>if b=true then t D ρ1 else u D ρ1:=rfl
theorem dDrop_a:dDrop de D ρ=de ρ fun _ ρ1=>D.nx ρ1:=rfl
theorem dRet_a:dRet de D ρ=de ρ fun x ρ1=>fz ρ1 x fun y ρ2=>D.rt (.d y) ρ2:=rfl
theorem dRetF_a:dRetF df D ρ=df ρ fun xs ρ1=>D.rt (.new xs) ρ1:=rfl
noncomputable def ownAtJ:Option L->Option (List PyData)
 | some (.own xs)=>some xs
 | _=>none
theorem qd2c:ownAtJ (some (.own xs))=some xs:=rfl
theorem dSet_a:dSet i de D ρ=de ρ fun x ρ1=>fz ρ1 x fun y ρ2=>i < ρ2.length/\D.nx (ρ2.set i (some (.d y))):=rfl
theorem dSetF_a:dSetF i df D ρ=df ρ fun xs ρ1=>i < ρ1.length/\D.nx (ρ1.set i (some (.own xs))):=rfl
theorem dAsg_a:dAsg de dg D ρ=de ρ fun x ρ1=>fz ρ1 x fun y ρ2=>dg y ρ2 D.nx:=rfl
theorem dFor_a:dFor di dg b D ρ=di ρ fun xs ρ1=>qa5s dg b D xs ρ1:=rfl
theorem dVar_a:dVar i ρ Q=((ρ[i]?.join).isSome=true/\Q (.sl i) ρ):=rfl
theorem dC_a:dC x ρ Q=Q (.d x) ρ:=rfl
theorem dOp_a:dOp f da db ρ Q=da ρ fun x ρ1=>db ρ1 fun y ρ2=>need (qa0z ρ2 x) fun dx=>need (qa0z ρ2 y) fun dy=>need (f dx dy) fun z=>Q (.d z) ρ2:=rfl
theorem dCB_a:dCB fc daa ρ Q=daa ρ fun xs ρ1=>need (qa2s ρ1 xs) fun ds=>need (fc ds) fun z=>Q (.d z) ρ1:=rfl
theorem dCBF_a:dCBF fcl daa ρ QF=daa ρ fun xs ρ1=>need (qa2s ρ1 xs) fun ds=>need (fcl ds) fun z=>QF z ρ1:=rfl
theorem dTup_a:dTup daa ρ Q=daa ρ fun xs ρ1=>fzs ρ1 xs fun ys ρ2=>ys.length <= 1000000/\Q (.d (.tuple ys)) ρ2:=rfl
theorem dLst_a:dLst daa ρ QF=daa ρ fun xs ρ1=>fzs ρ1 xs fun ys ρ2=>ys.length <= 1000000/\QF ys ρ2:=rfl
theorem dFz_a:dFz df ρ Q=df ρ fun xs ρ1=>Q (.d (.list xs)) ρ1:=rfl
theorem dNil_a:dNil ρ QA=QA [] ρ:=rfl
theorem dCons_a:qa6h de daa ρ QA=de ρ fun x ρ1=>daa ρ1 fun xs ρ2=>QA (x :: xs) ρ2:=rfl
theorem dB_a:dB de ρ QB=de ρ fun x ρ1=>need (qa0z ρ1 x) fun d=>need (asB d) fun b=>QB b ρ1:=rfl
theorem dTru_a:dTru de ρ QB=de ρ fun x ρ1=>need (qa0z ρ1 x) fun d=>need (tru d) fun b=>QB b ρ1:=rfl
theorem dAnd_a{v w:TDT}:dAnd v w ρ QB=v ρ fun b ρ1=>if b=true then w ρ1 QB else QB false ρ1:=rfl
theorem dOr_a{v w:TDT}:dOr v w ρ QB=v ρ fun b ρ1=>if b=true then QB true ρ1 else w ρ1 QB:=rfl
theorem dNot_a{v:TDT}:dNot v ρ QB=v ρ fun b ρ1=>QB (!b) ρ1:=rfl
theorem dIfE_a:dIfE c da db ρ Q=c ρ fun k ρ1=>if k=true then da ρ1 Q else db ρ1 Q:=rfl
theorem dAndV_a:dAndV da db ρ Q=da ρ fun x ρ1=>need (qa0z ρ1 x) fun d=>need (asB d) fun k=>if k=true then db ρ1 Q else Q (.d (.bool false)) ρ1:=rfl
theorem dOrV_a:dOrV da db ρ Q=da ρ fun x ρ1=>need (qa0z ρ1 x) fun d=>need (asB d) fun k=>if k=true then Q (.d (.bool true)) ρ1 else db ρ1 Q:=rfl
theorem dNotV_a:dNotV da ρ Q=da ρ fun x ρ1=>need (qa0z ρ1 x) fun d=>need (asB d) fun k=>Q (.d (.bool (!k))) ρ1:=rfl
theorem qd2d:qc0p f f' da db dc ρ Q=da ρ fun x ρ1=>db ρ1 fun y ρ2=>need (qa0z ρ2 x) fun dx=>need (qa0z ρ2 y) fun dy=>need (f dx dy) fun z=>need (asB z) fun k =>
 if k=true then dc ρ2 fun w ρ3=>need (qa0z ρ3 y) fun dy=>need (qa0z ρ3 w) fun dw=>need (f' dy dw) fun z'=>Q (.d z') ρ3 else Q (.d (.bool false)) ρ2:=rfl
theorem dIs_a:dIs T de ρ Q=de ρ fun x ρ1=>need (qa0z ρ1 x) fun d=>Q (.d (.bool (isD T d))) ρ1:=rfl
noncomputable def qb0r:Option L->Option (OK × List PyData)
 | some (.own xs)=>some (.o,xs)
 | some (.bor xs)=>some (.b,xs)
 | _=>none
theorem ownB_j:ownB ρ i=qb0r (ρ[i]?.join):=rfl
theorem ownBJ_o:qb0r (some (.own xs))=some (.o,xs):=rfl
theorem ownBJ_b:qb0r (some (.bor xs))=some (.b,xs):=rfl
theorem okL_o:okL .o xs=.own xs:=rfl
theorem okL_b:okL .b xs=.bor xs:=rfl
theorem qc9u:qb7p i de ρ Q=need (qb0r (ρ[i]?.join)) fun _=>de ρ fun x ρ1=>fz ρ1 x fun y ρ2=>need (qb0r (ρ2[i]?.join)) fun o=>o.2.length <= 1000000/\Q (.d .none) (ρ2.set i (some (okL o.1 (o.2 ++ [y])))):=rfl
theorem dPop_a:dPop i ρ Q=need (qb0r (ρ[i]?.join)) fun o=>need o.2.getLast? fun y=>Q (.d y) (ρ.set i (some (okL o.1 o.2.dropLast))):=rfl
theorem asI2_i{n:Int}:dSetIx.asI (.int n)=some n:=rfl
theorem asI_i{n:Int}:asI (.int n)=some n:=rfl
theorem qd2e:qc0r i x ρ N=(i < ρ.length/\N (ρ.set i (some (.d x)))):=rfl
theorem dgTup_a:dgTup n dgs (.tuple xs) ρ N=(xs.length=n/\dgs xs ρ N):=rfl
theorem qd2f:qc0s dg dgs (x :: xs) ρ N=dg x ρ fun ρ1=>dgs xs ρ1 N:=rfl
theorem dgNil_a:dgNil [] ρ N=N ρ:=by unfold dgNil;simp
theorem diDat_a:diDat de ρ QF=de ρ fun x ρ1=>fz ρ1 x fun y ρ2=>need (seqD y) fun xs=>QF xs ρ2:=rfl
theorem qd2g:qc0u de ρ QF=de ρ fun x ρ1=>need (qa0z ρ1 x) fun d=>need (asI d) fun j=>sm62 j/\QF (rngD 0 j.toNat) ρ1:=rfl
theorem qd2h:qb6o fs sp daa ρ Q=daa ρ fun xs ρ1=>pass fs xs ρ1 fun ls ρ2=>((flOf 0 fs xs).map (·.2)).Nodup/\sp ls fun r outs=>match r with
 | .d x=>Q (.d x) (fills outs (flOf 0 fs xs) ρ2)
 | .new ys=>Q (.d (.list ys)) (fills outs (flOf 0 fs xs) ρ2):=rfl
theorem pass_n:pass [] [] ρ QLs=QLs [] ρ:=rfl
theorem pass_f:pass (false :: fs) (y :: ys) ρ QLs=fzL ρ y fun l ρ1=>pass fs ys ρ1 fun ls ρ2=>QLs (l :: ls) ρ2:=by cases y<;>rfl
noncomputable def ioJ:Option L->Option L
 | some l=>if isOw l then some (lend l) else none
 | none=>none
theorem pass_t:pass (true :: fs) (.sl i :: ys) ρ QLs=pass fs ys ρ fun ls ρ2=>need (ioJ (ρ2[i]?.join)) fun l=>QLs (l :: ls) ρ2:=rfl
theorem ioJ_o:ioJ (some (.own xs))=some (.bor xs):=rfl
theorem ioJ_b:ioJ (some (.bor xs))=some (.bor xs):=rfl
theorem ioJ_t:ioJ (some (.tape n))=some (.tape n):=rfl
def fzJ(l:Option L)(ρ:Rho)(i:Nat)(Q:PyData->Rho->Prop):Prop:=match l with
 | some (.d y)=>Q y ρ
 | some (.own xs)=>Q (.list xs) (ρ.set i (some (.d (.list xs))))
 | _=>False
theorem fz_d:fz ρ (.d x) QD=QD x ρ:=rfl
theorem fz_sl:fz ρ (.sl i) QD=fzJ (ρ[i]?.join) ρ i QD:=rfl
theorem fzJ_d:fzJ (some (.d x)) ρ i QD=QD x ρ:=rfl
theorem fzJ_o:fzJ (some (.own xs)) ρ i QD=QD (.list xs) (ρ.set i (some (.d (.list xs)))):=rfl
def fzLJ(l:Option L)(ρ:Rho)(i:Nat)(Q:L->Rho->Prop):Prop:=match l with
 | some (.d y)=>Q (.d y) ρ
 | some (.own xs)=>Q (.d (.list xs)) (ρ.set i (some (.d (.list xs))))
 | some .scr=>Q .scr ρ
 | _=>False
theorem fzL_d:fzL ρ (.d x) QL=QL (.d x) ρ:=rfl
theorem fzL_sl:fzL ρ (.sl i) QL=fzLJ (ρ[i]?.join) ρ i QL:=rfl
theorem fzLJ_d:fzLJ (some (.d x)) ρ i QL=QL (.d x) ρ:=rfl
theorem fzLJ_o:fzLJ (some (.own xs)) ρ i QL=QL (.d (.list xs)) (ρ.set i (some (.d (.list xs)))):=rfl
theorem fzLJ_s:fzLJ (some .scr) ρ i QL=QL .scr ρ:=rfl
theorem fzs_n:fzs ρ [] QF=QF [] ρ:=rfl
theorem fzs_c:fzs ρ (y :: ys) QF=fz ρ y fun z ρ1=>fzs ρ1 ys fun zs ρ2=>QF (z :: zs) ρ2:=rfl
theorem flOf_n:flOf n [] ys=[]:=by cases ys<;>rfl
theorem flOf_f:flOf n (false :: fs) (y :: ys)=flOf (n + 1) fs ys:=by cases y<;>rfl
theorem flOf_t:flOf n (true :: fs) (.sl i :: ys)=(n,i) :: flOf (n + 1) fs ys:=rfl
noncomputable def qb0f(l:Option L)(ρi:Rho)(j i:Nat)(ρ:Rho):Rho:=match l with
 | some l0=>if isOw l0 then ρ.set i (qa6j ρi l0 j) else ρ
 | none=>ρ
theorem fills_n:fills ρi [] ρ=ρ:=rfl
theorem fills_c{r:List (Nat × Nat)}:fills ρi ((j,i) :: r) ρ=fills ρi r (qb0f (ρ[i]?.join) ρi j i ρ):=rfl
theorem qd2i:qb0f (some (.own xs)) ρi j i ρ=ρ.set i ((ρi[j]?.join).bind (qa6i (.own xs))):=rfl
theorem qd2j:qb0f (some (.bor xs)) ρi j i ρ=ρ.set i ((ρi[j]?.join).bind (qa6i (.bor xs))):=rfl
theorem qd2k:qb0f (some (.tape n)) ρi j i ρ=ρ.set i ((ρi[j]?.join).bind (qa6i (.tape n))):=rfl
theorem qd2l:qb0f (some (.d x)) ρi j i ρ=ρ:=rfl
theorem qd2m:qb0f (some .scr) ρi j i ρ=ρ:=rfl
theorem qd2n:qb0f none ρi j i ρ=ρ:=rfl
theorem relab_o:qa6i (.own xs) (.bor x')=some (.own x'):=rfl
theorem relab_b:qa6i (.bor xs) (.bor x')=some (.bor x'):=rfl
theorem relab_t{m:Nat}:qa6i (.tape n) (.tape m)=some (.tape m):=rfl
theorem lend_o:lend (.own xs)=.bor xs:=rfl
theorem lend_b:lend (.bor xs)=.bor xs:=rfl
theorem lend_t:lend (.tape n)=.tape n:=rfl
theorem lend_d:lend (.d x)=.d x:=rfl
theorem lend_s:lend .scr=.scr:=rfl
theorem dComp_a{cap:List (Str × Nat)}:dComp n cap di g tt te ρ QF=di ρ fun xs ρ1=>xs.length <= 1000000/\(cap.map (·.2)).Nodup/\qa1j g tt te (fun acc ρ'=>QF acc (fills ρ' (flC n cap) ρ1)) xs (capR n cap ρ1) []:=rfl
theorem flC_n:flC n []=[]:=rfl
theorem flC_c{p:Str × Nat}{r:List (Str × Nat)}:flC n (p :: r)=(n,p.2) :: flC (n + 1) r:=rfl
theorem capR_a{cap:List (Str × Nat)}:capR n cap ρ=List.replicate n none ++ cap.map fun p=>(ρ[p.2]?.join).map lend:=rfl
theorem deref_d:qa0z ρ (.d x)=some x:=rfl
theorem qd2o:qa0z ρ (.sl i)=(ρ[i]?.join).bind qb1n:=rfl
theorem qd2p:qb1n (.d x)=some x:=rfl
theorem qd2q:qb1n (.own xs)=some (.list xs):=rfl
theorem qd2r:qb1n (.bor xs)=some (.list xs):=rfl
theorem qd2s:qa2s ρ []=some []:=rfl
theorem qd2t:qa2s ρ (y :: ys)=(qa0z ρ y).bind fun z=>(qa2s ρ ys).map (z :: ·):=rfl
theorem asB_b{b:Bool}:asB (.bool b)=some b:=rfl
theorem tru_b{b:Bool}:tru (.bool b)=some b:=rfl
theorem tru_n:tru .none=some false:=rfl
theorem tru_i{i:Int}:tru (.int i)=some (i != 0):=rfl
theorem tru_l:tru (.list xs)=some (!xs.isEmpty):=rfl
theorem tru_t:tru (.tuple xs)=some (!xs.isEmpty):=rfl
theorem seqD_l:seqD (.list xs)=some xs:=rfl
theorem seqD_t:seqD (.tuple xs)=some xs:=rfl
theorem mask_n:mask [] ρ=[]:=rfl
theorem mask_d{ls:List L}{l:Option L}:mask (.d x :: ls) (l :: ρ)=none :: mask ls ρ:=rfl
theorem mask_s{ls:List L}{l:Option L}:mask (.scr :: ls) (l :: ρ)=none :: mask ls ρ:=rfl
theorem mask_t{ls:List L}{l:Option L}:mask (.tape n :: ls) (l :: ρ)=l :: mask ls ρ:=rfl
theorem mask_b{ls:List L}{l:Option L}:mask (.bor xs :: ls) (l :: ρ)=l :: mask ls ρ:=rfl
end
end L2
namespace L2
open PySem
theorem qa3y{g:TDG}{tt:TDT}{te:TDE}{Q:List PyData->Rho->Prop}{xs:List PyData}{ρ:Rho}(Sh:Rho->Prop)(fm:PyData->Option PyData)(h0:Sh ρ)
  (hs:∀ (x:PyData) (ρ:Rho) (N:Rho->Option PyData->Prop),x ∈ xs->Sh ρ->(∀ ρ',Sh ρ'->N ρ' (fm x))->g x ρ fun ρ1=>tt ρ1 fun b ρ2=>if b=true then te ρ2 fun y ρ3=>fz ρ3 y fun z ρ4=>N ρ4 (some z) else N ρ2 none)
  (hd:∀ ρ,Sh ρ->Q (xs.filterMap fm) ρ):qa1j g tt te Q xs ρ []:=by
 have key:∀ (r:List PyData) (acc:List PyData) (ρ:Rho),(∀ x ∈ r,x ∈ xs)->Sh ρ->(∀ ρ,Sh ρ->Q (acc ++ r.filterMap fm) ρ)->qa1j g tt te Q r ρ acc:=fun r=>by
  induction r with
  | nil=>intro acc ρ _ h hq;have:=hq ρ h;show Q acc ρ;simpa using this
  | cons x r ih =>
   intro acc ρ hm h hq
   have step:=hs x ρ (fun ρ' o=>match o with | some z=>qa1j g tt te Q r ρ' (acc ++ [z]) | none=>qa1j g tt te Q r ρ' acc) (hm x List.mem_cons_self) h fun ρ' h'=>?_
   ·exact step
   ·cases e:fm x with
    | none =>
     refine ih acc ρ' (fun y hy=>hm y (List.mem_cons_of_mem _ hy)) h' fun ρ2 h2=>?_
     have:=hq ρ2 h2
     rwa [List.filterMap_cons_none e] at this
    | some z =>
     refine ih (acc ++ [z]) ρ' (fun y hy=>hm y (List.mem_cons_of_mem _ hy)) h' fun ρ2 h2=>?_
     have:=hq ρ2 h2
     rw [List.filterMap_cons_some e] at this
     simpa using this
 exact key xs [] ρ (fun _ h=>h) h0 fun ρ h=>by simpa using hd ρ h
theorem qa1m{c A B:Prop}[Decidable c](h1:c->A)(h2:¬ c->B):if decide c=true then A else B:=by
 by_cases h:c
 ·rw [if_pos (decide_eq_true h)];exact h1 h
 ·rw [if_neg (by simpa using h)];exact h2 h
theorem qa4o{b:Bool}{A B:Prop}(h1:b=true->A)(h2:b=false->B):if b=true then A else B:=by
 cases b
 ·rw [if_neg Bool.false_ne_true];exact h2 rfl
 ·rw [if_pos rfl];exact h1 rfl
end L2
namespace L2
theorem ite_or{a b A B:Prop}[Decidable a][Decidable b](h1:a ∨ b->A)(h2:¬ a->¬ b->B):if decide a=true then A else if decide b=true then A else B:=
 qa1m (fun c=>h1 (.inl c)) fun c=>qa1m (fun c'=>h1 (.inr c')) fun c'=>h2 c c'
theorem qc5o{a b A B:Prop}[Decidable a][Decidable b](h1:a->b->A)(h2:¬ (a/\b)->B):if decide a=true then(if decide b=true then A else B) else B:=
 qa1m (fun c=>qa1m (fun c'=>h1 c c') fun c'=>h2 fun z=>c' z.2) fun c=>h2 fun z=>c z.1
end L2
end
section
namespace L2
open PySem PySem.Spec PyProof.Rows
abbrev TDO:=Rho->(Option Int->Rho->Prop)->Prop
section
variable{K:PySem.W.Frag}{c:Rc}{O:Own}{ρ:Rho}{σ:St}{H H':Hp}{S S':Addr->Prop}
def AdO(K:PySem.W.Frag)(t:TO)(dt:TDO):Prop:=∀ (c:Rc) (O:Own) (ρ:Rho) (σ:St) (H:Hp) (Qd:Option Int->Rho->Prop) (Q:Option Int->Hp->Prop),Rel K c O ρ σ H->dt ρ Qd ->
 (∀ o ρ' O' H',Qd o ρ'->Rel K c O' ρ' σ H'->Pers K (live c O) H (live c O') H'->Q o H')->t σ H Q
noncomputable def qc1e:TDO:=fun ρ Q=>Q none ρ
def qc1f(de:TDE):TDO:=fun ρ Q=>de ρ fun x ρ1=>need (qa0z ρ1 x) fun d=>need (asI d) fun i=>Q (some i) ρ1
theorem ao_none:AdO K qc4w qc1e:=fun c O ρ σ H Qd Q R h k=>k _ _ _ _ h R .refl
theorem ao_some{t:TE}{de:TDE}(h:AdE K t de):AdO K (tPart t) (qc1f de):=fun c O ρ σ H Qd Q R q k =>
 h c O ρ σ H _ _ R q fun x ρ1 O1 v H1 h1 R1 P1 a1=>by
  obtain⟨d,e1,hn6⟩:=ne (h1)
  obtain⟨i,e2,h2⟩:=ne (hn6)
  exact⟨i,asI_at (R1.top a1 e1) e2,k _ _ _ _ h2 R1 P1⟩
noncomputable def cutD(xs:List PyData)(lo hi:Option Int):List PyData:=(xs.drop (HT.sIx xs.length 0 lo)).take (HT.sIx xs.length xs.length hi - HT.sIx xs.length 0 lo)
theorem qa0d.cut{ds:List PyData}{vs:List V}(h:qa0d K H S ds vs)(lo hi:Option Int):qa0d K H S (cutD ds lo hi) (cutV vs lo hi):=by
 unfold cutD cutV
 rw [h.length]
 exact(h.drop _).take _
abbrev FSl:=PyData->Option Int->Option Int->Option PyData
def dSl(f:FSl)(de:TDE)(dl dh:TDO):TDE:=fun ρ Q=>de ρ fun x ρ1=>dl ρ1 fun lo ρ2=>dh ρ2 fun hi ρ3=>need (qa0z ρ3 x) fun d=>need (f d lo hi) fun z=>Q (.d z) ρ3
def AdSl(K:PySem.W.Frag)(r:V->Option Int->Option Int->Hp->VK->Prop)(f:FSl):Prop:=∀ (S:Addr->Prop) (H:Hp) (x:V) (d z:PyData) (lo hi:Option Int) (Q:VK),Frs S H->AtT K H S d x->f d lo hi=some z->(∀ v H',Same H H'->AtD K H' S z v->Q v H')->r x lo hi H Q
theorem ad_sl{r:V->Option Int->Option Int->Hp->VK->Prop}{f:FSl}{te:TE}{tl th:TO}{de:TDE}{dl dh:TDO}(hr:AdSl K r f)(he:AdE K te de)(hl:AdO K tl dl)(hh:AdO K th dh):AdE K (tSl r te tl th) (dSl f de dl dh):=by
 intro c O ρ σ H Qd Q R h k
 refine he c O ρ σ H _ _ R h fun x ρ1 O1 v H1 h1 R1 P1 a1=>?_
 refine hl c O1 ρ1 σ H1 _ _ R1 h1 fun lo ρ2 O2 H2 h2 R2 P2=>?_
 refine hh c O2 ρ2 σ H2 _ _ R2 h2 fun hi ρ3 O3 H3 h3 R3 P3=>?_
 obtain⟨d,e1,hn5⟩:=ne (h3)
 obtain⟨z,e2,h4⟩:=ne (hn5)
 refine hr (live c O3) H3 v d z lo hi Q R3.frsLive (R3.top ((a1.pers P2).pers P3) e1) e2 fun w H4 s4 a4=>?_
 exact k _ _ _ _ _ h4 (R3.grow s4) (((P1.trans P2).trans P3).trans (.same s4)) a4
def Tab(K:PySem.W.Frag)(w:World)(mg:Str->Option Value)(x:Str)(tab:List (Str × PyData)):Prop:=∃ (a:Addr) (kvs:List (Str × V)),mg x=some (.ref a)/\KDict K w a kvs/\∀ z d,tab.lookup z=some d->∃ v,kvs.lookup z=some v/\∀ (S:Addr->Prop) (H:Hp),AtD K H S d v
noncomputable def fTab(tab:List (Str × PyData)):PyData->Option PyData
 | .str x=>tab.lookup x
 | _=>none
def dTab(tab:List (Str × PyData))(de:TDE):TDE:=fun ρ Q=>de ρ fun x ρ1=>need (qa0z ρ1 x) fun d=>need (fTab tab d) fun z=>Q (.d z) ρ1
theorem ad_tab{w:World}{a:Addr}{kvs:List (Str × V)}{tab:List (Str × PyData)}{t:TE}{de:TDE}(hD:KDict K w a kvs)(hT:∀ z d,tab.lookup z=some d->∃ v,kvs.lookup z=some v/\∀ (S:Addr->Prop) (H:Hp),AtD K H S d v)(h:AdE K t de):AdE K (tOp (rIxK K w) (tC (.ref a)) t) (dTab tab de):=fun c O ρ σ H Qd Q R q k =>
 h c O ρ σ H _ _ R q fun x ρ1 O1 v H1 h1 R1 P1 a1=>by
  obtain⟨d,e1,hn4⟩:=ne (h1)
  obtain⟨z,e2,h2⟩:=ne (hn4)
  have a2:=R1.top a1 e1
  cases d with
  | str y =>
   obtain⟨u,e3,e4⟩:=hT y z e2
   exact⟨a,kvs,y,u,rfl,hD,a2.str,e3,k _ _ _ _ _ h2 R1 P1 (e4 _ _)⟩
  | _=>cases e2
noncomputable def qa4c:List PyData->Option (List Int)
 | []=>some []
 | .int i :: r=>(qa4c r).map (i :: ·)
 | _ :: _=>none
theorem ints_map:∀ {ds:List PyData} {ns:List Int},qa4c ds=some ns->ds=ns.map .int
 | [],ns,h=>by cases h;rfl
 | d :: r,ns,h=>by
  cases d with
  | int i =>
   have h':(qa4c r).map (i :: ·)=some ns:=h
   cases q:qa4c r with
   | none=>rw [q] at h';cases h'
   | some ms=>rw [q] at h';cases h';rw [ints_map q];rfl
  | _=>cases h
theorem ints_of(ns:List Int):qa4c (ns.map .int)=some ns:=by
 induction ns with
 | nil=>rfl
 | cons n r ih=>show(qa4c (r.map .int)).map (n :: ·)=_;rw [ih];rfl
def diRev(de:TDE):TDI:=fun ρ Q=>de ρ fun x ρ1=>need (qa0z ρ1 x) fun d=>need (asT d) fun xs=>Q xs.reverse ρ1
 where asT:PyData->Option (List PyData)
  | .tuple xs=>some xs
  | _=>none
theorem qc7c{a:Addr}{vs:List V}{xs:List PyData}(h1:SqT K H a vs)(h2:qa0d K H S xs vs):qb1r K S H (Itrv K a vs.length) xs.reverse:=fun S' H' P=>by
 obtain⟨b,ws,e,h3,h4⟩:=qa3u (P _ _ (qa4w h1 h2))
 cases e
 have hl:ws.length=vs.length:=by rw [h4.length,h2.length]
 refine⟨fun i x e=>?_,?_⟩
 ·obtain⟨w,e1,e2⟩:=h4.reverse.get e
  refine⟨⟨ws,w,h3,hl,e1⟩,fun v H'' y=>?_⟩
  obtain⟨rfl,y⟩:=y
  have e3:=y ws h3
  rw [e1] at e3;cases e3
  exact⟨Same.refl _,e2⟩
 ·show vs.length=xs.reverse.length
  rw [List.length_reverse,h2.length]
theorem ai_rev{t:TE}{de:TDE}(h:AdE K t de):AdI K (iRev K t) (diRev de):=fun c O ρ σ H Qd Q R q k =>
 h c O ρ σ H _ _ R q fun x ρ1 O1 v H1 h1 R1 P1 a1=>by
  obtain⟨d,e1,hn3⟩:=ne (h1)
  obtain⟨xs,e2,h2⟩:=ne (hn3)
  have a2:=R1.top a1 e1
  cases d with
  | tuple ys =>
   cases e2
   obtain⟨a,vs,rfl,h3,h4⟩:=a2.tup
   exact⟨a,vs,rfl,h3,k _ _ _ _ _ h2 R1 P1 (qc7c h3 h4)⟩
  | _=>cases e2
noncomputable def downD(hi:Int)(n:Nat):List PyData:=(List.range n).map fun i=>.int (hi - (i:Nat))
def sm60(i:Int):Prop:=-(2 ^ 60) <= i/\i < 2 ^ 60
def diDown(da:TDA):TDI:=fun ρ Q=>da ρ fun xs ρ1=>need (qa2s ρ1 xs) fun ds=>need (three ds) fun p=>(sm60 p.1/\sm60 p.2)/\Q (downD p.1 (p.1 - p.2).toNat) ρ1
 where three:List PyData->Option (Int × Int)
  | [.int i,.int j,.int (-1)]=>some (i,j)
  | _=>none
end
section
variable{X:Cx}{e a b:Expr}{de da db:TDE}{lo hi:Option Expr}{dl dh:TDO}{tg:Expr}{pos p2:Pos}
def DO(X:Cx)(e:Option Expr)(dt:TDO):Prop:=∃ t,PO X e t/\AdO X.K t dt
theorem qa9t:DO X none qc1e:=⟨_,po_none,ao_none⟩
theorem qa9u(h:DE X e de):DO X (some e) (qc1f de):=by obtain⟨_,p,a⟩:=h;exact⟨_,po_some p,ao_some a⟩
theorem qa7d{r:V->Option Int->Option Int->Hp->VK->Prop}{f:FSl}(hr:SlR X r)(ha:AdSl X.K r f)(he:DE X e de)(hl:DO X lo dl)(hu:DO X hi dh):DE X (.Subscript e (.Slice lo hi none p2) pos) (dSl f de dl dh):=
 by obtain⟨_,p,a⟩:=he;obtain⟨_,p',a'⟩:=hl;obtain⟨_,p3,a3⟩:=hu;exact⟨_,qd1b hr p p' p3,ad_sl ha a a' a3⟩
theorem de_tab{x:Str}{p:Pos}{tab:List (Str × PyData)}(hT:Tab X.K X.w X.mg x tab)(hg:Gl X x)(he:DE X b de)(hs:qb7m b) (hd:(x == ("__debug__" : Str))=false:=by decide):DE X (.Subscript (.Name x p) b pos) (dTab tab de):=by
 obtain⟨a,kvs,hm,hD,hv⟩:=hT
 obtain⟨t,pt,at_⟩:=he
 exact⟨_,pe_ix qd1q (qb7k hg hm (v:=.ref a) rfl hd) pt hs,ad_tab hD hv at_⟩
theorem di_rev{p:Pos} (hg:Gl X "reversed") (hm:X.mg "reversed" = none) (hl:DE X e de) (hs:starEach [e] X.env=[(false,eval e X.env)]:=by rfl):DI X tg (.Call (.Name "reversed" p) [e] [] pos) (diRev de):=
 by obtain⟨_,p,a⟩:=hl;exact⟨_,pi_rev hg hm p hs,ai_rev a⟩
end
section
variable{ρ:Rho}{de:TDE}{daa:TDA}{dl dh:TDO}{f:FSl}{tab:List (Str × PyData)}{Q:DV->Rho->Prop}{QF:List PyData->Rho->Prop}{QO:Option Int->Rho->Prop}{xs:List PyData}{x:Str}{i j:Int}
theorem dSl_a:dSl f de dl dh ρ Q=de ρ fun x ρ1=>dl ρ1 fun lo ρ2=>dh ρ2 fun hi ρ3=>need (qa0z ρ3 x) fun d=>need (f d lo hi) fun z=>Q (.d z) ρ3:=rfl
theorem qd2u:qc1e ρ QO=QO none ρ:=rfl
theorem qd2v:qc1f de ρ QO=de ρ fun x ρ1=>need (qa0z ρ1 x) fun d=>need (asI d) fun i=>QO (some i) ρ1:=rfl
theorem dTab_a:dTab tab de ρ Q=de ρ fun x ρ1=>need (qa0z ρ1 x) fun d=>need (fTab tab d) fun z=>Q (.d z) ρ1:=rfl
theorem fTab_s:fTab tab (.str x)=tab.lookup x:=rfl
theorem diRev_a:diRev de ρ QF=de ρ fun x ρ1=>need (qa0z ρ1 x) fun d=>need (diRev.asT d) fun xs=>QF xs.reverse ρ1:=rfl
theorem asT_t:diRev.asT (.tuple xs)=some xs:=rfl
theorem three_a:diDown.three [.int i,.int j,.int (-1)]=some (i,j):=rfl
end
end L2
namespace L2
open PySem
theorem qc9v{c:TDT}{b:TDS}{D:DEnds}{ρ:Rho}(W:Nat->Rho->Prop)(m:Nat)(h0:W m ρ)
  (hs:∀ (m:Nat) (ρ:Rho) (N:Rho->Prop),W m ρ->(∀ m' ρ',m' < m->W m' ρ'->N ρ')->c ρ fun k ρ1=>if k=true then b { D with nx:=N,ct:=N,bk:=D.nx } ρ1 else D.nx ρ1):qc0t c b D ρ:=
 ⟨W,⟨m,h0⟩,fun m ρ h=>hs m ρ _ h fun m' ρ' hm h'=>⟨m',hm,h'⟩⟩
end L2
end
section
namespace L2
open PySem PySem.Spec PyProof.Rows
section
variable{α:Type}{a b c d e:α}{l:List α}{x y:Str}{i j:Int}{r:List PyData}
theorem atI_0:atI (a :: l) 0=some a:=qa9o (j:=0) rfl
theorem atI_1:atI (a :: b :: l) 1=some b:=qa9o (j:=1) rfl
theorem atI_2:atI (a :: b :: c :: l) 2=some c:=qa9o (j:=2) rfl
theorem atI_3:atI (a :: b :: c :: d :: l) 3=some d:=qa9o (j:=3) rfl
theorem atI_4:atI (a :: b :: c :: d :: e :: l) 4=some e:=qa9o (j:=4) rfl
theorem flatD_s:qa1n (.str x)=true:=rfl
theorem flatD_i:qa1n (.int i)=true:=rfl
theorem inF_nil{z:PyData}:inF z []=false:=rfl
theorem inF_s:inF (.str x) (.str y :: r)=(decide (y=x) || inF (.str x) r):=by
 show((y == x) || inF (.str x) r)=_
 congr 1
theorem inF_i:inF (.int i) (.int j :: r)=(decide (j=i) || inF (.int i) r):=by
 show((j == i) || inF (.int i) r)=_
 congr 1
end
end L2
namespace L2
open PySem PySem.Spec PyProof.Rows
def spLaw(K:PySem.W.Frag):Sp:=fun vs H Q _=>∃ (a:Addr) (ns:List Int),vs=[.ref a]/\SqL K H a (ns.map V.int)/\Only H/\ns.length <= 63/\∀ H',Q (.bl true) H'
section
variable{P:Program}{w:World}{K:PySem.W.Frag}{mg:Str->Option Value}{base:Heap}
theorem rel_law{H:Hp}{a p:Addr}{ns:List Int}{n:Nat}(hO:Only H)(hS:SqL K H a (ns.map V.int))(hl:ns.length <= 63)(hp:H p=none) :
  Rel K { H0:=upd H p (.lst [.ref a,.int 0]),S:=fun b=>b ≠ p,P:=fun _=>False,M:=fun b=>b=p,A:=fun b=>b=p ∨ upd H p (.lst [.ref a,.int 0]) b=none,B:=fun b=>b=p,lent:=fun i=>if i=1 then some p else none,sa:=a,ns:=ns }
   (fun i=>if i=1 then some p else none) (some .scr :: some (.tape 0) :: List.replicate n none) (some (.ref a) :: some (.ref p) :: List.replicate n none) (upd H p (.lst [.ref a,.int 0])):=by
 have at_:∀ {i:Nat} {l:L},(some L.scr :: some (L.tape 0) :: List.replicate n none:Rho)[i]? = some (some l)->(i=0/\l=.scr) ∨ (i=1/\l=.tape 0):=fun{i l} e=>by
  match i,e with
  | 0,e=>cases e;exact .inl ⟨rfl,rfl⟩
  | 1,e=>cases e;exact .inr ⟨rfl,rfl⟩
  | i + 2,e =>
   rw [List.getElem?_cons_succ,List.getElem?_cons_succ,List.getElem?_replicate] at e
   split at e<;>cases e
 have own:∀ {i:Nat} {q:Addr},(if i=1 then some p else none)=some q->i=1/\q=p:=fun{i q} e=>by
  split at e
  ·cases e;exact⟨by assumption,rfl⟩
  ·cases e
 have sc:Scr K H a (ns.map V.int):=by
  refine⟨by simpa using hl,?_⟩
  rcases hS with(h | h) | h
  ·rcases hO a with z | ⟨o,xs,z⟩<;>rw [h] at z<;>cases z
  ·exact .inl h
  ·exact .inr h
 refine⟨fun i x e=>?_,fun i x e=>?_,fun i x e=>?_,fun i k e=>?_,fun i e=>?_,fun i j q e1 e2=>?_,fun i q e=>?_,fun q h=>?_,fun q h=>?_,fun b o _ h=>h,fun b h=>h,fun q h=>?_,fun q h=>?_,fun i q e l h1 h2=>e,sc.keep (S:=Any) (qa2a hp _).keep,by simp⟩
 ·rcases at_ e with⟨_,z⟩ | ⟨_,z⟩<;>cases z
 ·rcases at_ e with⟨_,z⟩ | ⟨_,z⟩<;>cases z
 ·rcases at_ e with⟨_,z⟩ | ⟨_,z⟩<;>cases z
 ·rcases at_ e with⟨_,z⟩ | ⟨rfl,z⟩
  ·cases z
  ·cases z;exact⟨p,if_pos rfl,rfl,qa1d⟩
 ·rcases at_ e with⟨rfl,_⟩ | ⟨_,z⟩
  ·rfl
  ·cases z
 ·rw [(own e1).1,(own e2).1]
 ·rw [(own e).2];exact⟨.inl rfl,_,qa1d⟩
 ·rcases h with h | h
  ·exact .inl h
  ·exact .inr h
 ·rintro rfl
  have h':upd H q (.lst [.ref a,.int 0]) q=none:=h
  rw [qa1d] at h';cases h'
 ·have h':q=p:=h
  subst h';exact⟨_,qa1d⟩
 ·rcases h with h | h
  ·exact h.elim
  ·have h':q=p:=h
   subst h';rw [qa1d];exact fun z=>nomatch z
theorem Fun.law{st:Stmt}{f:Addr}{fd:FuncData}{N':List Str}{k:Nat} (F:Fun K "law" "law" st f fd) (S:FnScope ("_law_script" :: "_law_tape" :: N') ["_law_script"] (qa0k st))
  (hbody:∀ (cdv:Value) (A:Around) (outer:List Env) (s:Shared) (H:Hp) (E:XK),Room k (A.deeper (envOfC "law" (qa0k st) s.heap.objs.size f cdv)) ->
   ∃ (st0:Stmt) (rest:List Stmt),qa4v st=st0 :: rest/\PS (cxOf CX0 P w K mg base ("_law_script" :: "_law_tape" :: N') "law" (qa0k st) f cdv A outer s H E).nox st0 (tAsg (tLst (qa8u (tVar 0) (qa8u (tC (.int 0)) tNil))) (qa8q 1)) /\
    ∃ dt,DSs (cxOf CX0 P w K mg base ("_law_script" :: "_law_tape" :: N') "law" (qa0k st) f cdv A outer s H E).nox rest dt/\dt { nx:=fun _=>False,rt:=fun r _=>r=.d (.bool true) } (some .scr :: some (.tape 0) :: List.replicate N'.length none)) :
  FnOk P w K mg base CX0 (k + 1) f fd ["_law_script"] (spLaw K):=by
 refine F.ok S (fun vs H Q E h=>?_) (fun cdv A outer s H vs Q E hr h=>?_)
 ·obtain⟨a,ns,rfl,_⟩:=h;rfl
 obtain⟨a,ns,rfl,hS,hO,hl,q⟩:=h
 obtain⟨st0,rest,eb,p0,dt,⟨t,pt,at_⟩,hd⟩:=hbody cdv A outer s H E hr
 rw [eb]
 refine⟨_,qa3l p0 pt,⟨.ref a,rfl,by show 2 <= sizeLine;decide,fun p hp=>?_⟩⟩
 have e:(start ("_law_script" :: "_law_tape" :: N') [.ref a]).set 1 (some (.ref p))=some (.ref a) :: some (.ref p) :: List.replicate N'.length none:=by
  unfold start
  simp [List.replicate_succ]
 show t _ ((start ("_law_script" :: "_law_tape" :: N') [.ref a]).set 1 (some (.ref p))) (upd H p (.lst [.ref a,.int 0]))
 rw [e]
 refine at_ _ _ _ _ _ _ _ (rel_law hO hS hl hp) ⟨fun _ _ _ _ _ _ z=>(show False from z).elim,fun r O1 ρ1 σ1 H1 v h z=>?_,fun _ _ _ _ _ _ z=>(show False from z).elim,fun _ _ _ _ _ _ z=>(show False from z).elim,fun _ z=>z,fun _ z=>.inr z⟩ hd
 have z':r=.d (.bool true):=z
 subst z'
 have ev:=qa9p h.2
 subst ev
 exact q H1
end
end L2
end
section
namespace L2
open PySem PySem.Spec PyProof.Rows
section
variable{P:Program}{w:World}{K:PySem.W.Frag}{mg:Str->Option Value}{base:Heap}
theorem qa9v{n:Nat}{f:Addr}{fd:FuncData}{ps:List Str}{ds:DSp}(h:∀ ls Q,¬ ds ls Q):FnOk P w K mg base CX0 n f fd ps (spD K ds):=by
 have no:∀ vs H Q E,¬ spD K ds vs H Q E:=fun vs H Q E z=>by
  obtain⟨c,O,ls,Qd,_,_,_,_,_,_,z,_⟩:=z
  exact h _ _ z
 exact⟨fun vs H Q E h=>absurd h (no vs H Q E),fun A outer s H args us vs Q E _ _ _ _ h=>absurd h (no vs H Q E)⟩
theorem tab_all{l:List (Str × PyData × V)}(h:∀ q ∈ l,∀ (S:Addr->Prop) (H:Hp),AtD K H S q.2.1 q.2.2):∀ z d,(l.map fun q=>(q.1,q.2.1)).lookup z=some d->∃ v,(l.map fun q=>(q.1,q.2.2)).lookup z=some v/\∀ (S:Addr->Prop) (H:Hp),AtD K H S d v:=by
 induction l with
 | nil=>intro z d e;simp at e
 | cons q r ih =>
  intro z d e
  simp only [List.map_cons,List.lookup_cons] at e ⊢
  by_cases c:(z == q.1)=true
  ·rw [c] at e ⊢
   cases e
   exact⟨_,rfl,h q (List.mem_cons_self ..)⟩
  ·rw [Bool.not_eq_true] at c
   rw [c] at e ⊢
   exact ih (fun q' m=>h q' (List.mem_cons_of_mem _ m)) z d e
theorem qa5o{p:Addr}{its:Array Value}{n:Nat}{o:Obj}{ds:List PyData}{vs:List V}(l:K.lookup p=some o) (hc:o.cls=.type "tuple") (hd:o.data=.seq its n) (hz:its.size <= sizeLine) (hv:Vals vs its.toList) (ha:∀ (S:Addr->Prop) (H:Hp),qa0d K H S ds vs) (hn:o.dict=none:=by rfl):∀ (S:Addr->Prop) (H:Hp),AtD K H S (.tuple ds) (.ref p):=fun S H =>
 qa4w (.inr ⟨o,its,n,l,⟨hc,hn⟩,hd,hz,hv⟩) (ha S H)
end
end L2
end
section
namespace L2
open PySem PySem.Spec PyProof.Rows
def ItX(b:Bool)(h:Heap)(it a:Addr)(k:Nat):Prop:=match b with | true=>h.IsListIter it a k | false=>h.IsTupleIter it a k
def SqX(b:Bool)(h:Heap)(a:Addr)(xs:Array Value):Prop:=match b with | true=>h.IsList a xs | false=>h.IsTuple a xs
section
variable{prog:Program}{w:World}{A:Around}{E:Value->Shared->Prop}{s:Shared}
end
section
variable{X:Cx}{pins:List (Addr × Obj)}{σ:List (Option V)}{H H':Hp}{s:Shared}{h':Heap}
def SqB(b:Bool)(K:PySem.W.Frag)(H:Hp)(a:Addr)(xs:List V):Prop:=match b with | true=>SqL K H a xs | false=>SqT K H a xs
end
def ZSt(b:Bool)(z TI TO i1 i2 a1 a2:Addr)(i:Nat)(h:Heap):Prop:=IsZip h z TI TO .none/\IsPair h TI (.ref i1) (.ref i2)/\(∃ p q,IsPair h TO p q)/\ItX b h i1 a1 i/\ItX b h i2 a2 i
end L2
end
section
namespace L2
open PySem PySem.Spec PyProof.Rows
section
variable{X:Cx}
end
section
variable{K:PySem.W.Frag}{S:Addr->Prop}{H:Hp}
def SqS(b:Bool)(K:PySem.W.Frag)(S:Addr->Prop)(H:Hp)(a:Addr)(vs:List V):Prop:=match b with | true=>S a/\H a=some (.lst vs) | false=>SqT K H a vs
end
section
variable{ρ:Rho}{daa:TDA}{Q:List PyData->Rho->Prop}
end
end L2
end
section
namespace L2
open PySem PySem.Spec PyProof.Rows
section
variable{X:Cx}
end
section
variable{K:PySem.W.Frag}
end
section
variable{K:PySem.W.Frag}{H:Hp}
end
end L2
end
section
namespace L2
open PySem PySem.Spec PyProof.Rows
section
variable{K:PySem.W.Frag}{c:Rc}{O:Own}{ρ:Rho}{σ:St}{H H':Hp}
theorem qa0d.same{S:Addr->Prop}{ds:List PyData}{vs:List V}(e:Same H H')(h:qa0d K H S ds vs):qa0d K H' S ds vs:=qa0d.mono e.keep ds vs h
end
end L2
end
section
namespace L2
open PySem PySem.Spec PyProof.Rows
section
variable{X:Cx}
end
section
variable{K:PySem.W.Frag}{S:Addr->Prop}{H:Hp}
end
end L2
end
section
namespace L2
open PySem PySem.Spec PyProof.Rows
section
variable{K:PySem.W.Frag}{c:Rc}{O:Own}{ρ:Rho}{σ:St}{H H':Hp}
end
end L2
end
section
namespace L2
open PySem PySem.Spec PyProof.Rows
section
variable{κ:Type}[DecidableEq κ]
noncomputable def valV(kvs:List (κ × V))(k:κ):Option V:=(kvs.find? fun kv=>decide (kv.1=k)).map (·.2)
noncomputable def putK(kvs:List (κ × V))(k:κ)(v:V):List (κ × V):=
 if (kvs.any fun kv=>decide (kv.1=k))=true then kvs.map (fun kv=>if kv.1=k then(kv.1,v) else kv) else kvs ++ [(k,v)]
noncomputable def dropK(kvs:List (κ × V))(k:κ):List (κ × V):=kvs.filter fun kv=>decide (kv.1 ≠ k)
theorem qb2k{p:κ × V}{r:List (κ × V)}{k:κ}(e:p.1=k):valV (p :: r) k=some p.2:=by simp [valV,List.find?_cons,e]
theorem qb2l{p:κ × V}{r:List (κ × V)}{k:κ}(e:¬ p.1=k):valV (p :: r) k=valV r k:=by simp [valV,List.find?_cons,e]
theorem qc1g(k:κ):∀ kvs:List (κ × V),(kvs.any fun kv=>decide (kv.1=k))=(valV kvs k).isSome
 | []=>rfl
 | p :: r=>by
  rw [List.any_cons]
  by_cases e:p.1=k
  ·simp only [qb2k e,decide_eq_true e,Bool.true_or,Option.isSome_some]
  ·rw [qb2l e,decide_eq_false e,Bool.false_or];exact qc1g k r
theorem qb5a(kvs:List (κ × V))(k:κ)(v:V):(putK kvs k v).length <= kvs.length + 1:=by
 unfold putK
 split
 ·rw [List.length_map];omega
 ·rw [List.length_append,List.length_cons,List.length_nil];omega
theorem RelO.isSome_eq{o:Option V}{u:Option Value}(r:RelO o u):o.isSome=u.isSome:=by
 cases o with
 | none=>cases u with
  | none=>rfl
  | some _=>exact(show False from r).elim
 | some _=>cases u with
  | none=>exact(show False from r).elim
  | some _=>rfl
theorem RelO.getD{o:Option V}{u:Option Value}{d:V}{d':Value}(r:RelO o u)(rd:RelV d d'):RelV (o.getD d) (u.getD d'):=by
 cases o with
 | none=>cases u with
  | none=>exact rd
  | some _=>exact(show False from r).elim
 | some _=>cases u with
  | none=>exact(show False from r).elim
  | some _=>exact r
theorem KV.val{kvs:List (κ × V)}{vs:List (κ × Value)}(r:KV kvs vs)(k:κ):RelO (valV kvs k) (valueAt vs k):=by
 unfold KV at r
 induction r with
 | nil=>exact True.intro
 | @cons p q ps qs h t ih =>
  obtain⟨h1,h2⟩:=h
  by_cases e:p.1=k
  ·have e':q.1=k:=h1.symm.trans e
   have b:valueAt (q :: qs) k=some q.2:=by simp [valueAt,List.find?_cons,e']
   rw [qb2k e,b];exact h2
  ·have e':¬ q.1=k:=fun z=>e (h1.trans z)
   have b:valueAt (q :: qs) k=valueAt qs k:=by simp [valueAt,List.find?_cons,e']
   rw [qb2l e,b];exact ih
theorem KV.any{kvs:List (κ × V)}{vs:List (κ × Value)}(r:KV kvs vs)(k:κ):(kvs.any fun kv=>decide (kv.1=k))=vs.any fun kv=>decide (kv.1=k):=by
 unfold KV at r
 induction r with
 | nil=>rfl
 | cons h t ih=>rw [List.any_cons,List.any_cons,ih,h.1]
theorem KV.repl{kvs:List (κ × V)}{vs:List (κ × Value)}(r:KV kvs vs)(k:κ){y:V}{u:Value}(ry:RelV y u) :
  KV (kvs.map fun kv=>if kv.1=k then(kv.1,y) else kv) (vs.map fun kv=>if kv.1=k then(kv.1,u) else kv):=by
 unfold KV at r ⊢
 induction r with
 | nil=>exact .nil
 | @cons p q ps qs h t ih =>
  rw [List.map_cons,List.map_cons]
  refine .cons ?_ ih
  obtain⟨h1,h2⟩:=h
  by_cases e:p.1=k
  ·rw [if_pos e,if_pos (h1.symm.trans e)];exact⟨h1,ry⟩
  ·rw [if_neg e,if_neg (fun z=>e (h1.trans z))];exact⟨h1,h2⟩
theorem KV.put{kvs:List (κ × V)}{vs:List (κ × Value)}(r:KV kvs vs)(k:κ){y:V}{u:Value}(ry:RelV y u):KV (putK kvs k y) (stored vs k u):=by
 unfold putK stored
 rw [r.any k]
 by_cases e:(vs.any fun kv=>decide (kv.1=k))=true
 ·rw [if_pos e,if_pos e];exact r.repl k ry
 ·rw [if_neg e,if_neg e];exact Paired.snoc r ⟨rfl,ry⟩
theorem KV.length{kvs:List (κ × V)}{vs:List (κ × Value)}(r:KV kvs vs):kvs.length=vs.length:=Paired.length r
end
theorem kV_is{P:Program}{w:World}{k:Key}{u:Value}(r:RelV (kV k) u):(qa1r P w).is k u=true:=by
 cases k with
 | inl i=>obtain⟨t,e⟩:=(show ∃ t,u=Value.int i t from r);subst e;exact qc3a P w i t
 | inr x=>obtain⟨t,e⟩:=(show ∃ t,u=Value.str x t from r);subst e;exact qb4v P w x t
theorem qb8y{P:Program}{w:World}:∀ {ks:List Key} {us:List Value},Vals (ks.map kV) us->ItemsAre (qa1r P w) ks us
 | [],_,r=>by rw [List.map_nil] at r;cases r;exact .nil
 | k :: ks,_,r=>by
  rw [List.map_cons] at r
  cases r with
  | cons h t=>exact .cons (kV_is h) (qb8y t)
abbrev KT(H:Hp):List (List Key × V)->List (List Key × Addr × Value)->Prop:=Paired fun p q=>p.1=q.1/\H q.2.1=some (.tup (p.1.map kV))/\RelV p.2 q.2.2
theorem KT.val{H:Hp}{kvs:List (List Key × V)}{xs:List (List Key × Addr × Value)}(r:KT H kvs xs)(k:List Key):RelO (valV kvs k) ((atKey xs k).map (·.2)):=by
 induction r with
 | nil=>exact True.intro
 | @cons p q ps qs h t ih =>
  obtain⟨h1,_,h2⟩:=h
  by_cases e:p.1=k
  ·have e':q.1=k:=h1.symm.trans e
   have b:atKey (q :: qs) k=some q.2:=by simp [atKey,List.find?_cons,e']
   rw [qb2k e,b];exact h2
  ·have e':¬ q.1=k:=fun z=>e (h1.trans z)
   have b:atKey (q :: qs) k=atKey qs k:=by simp [atKey,List.find?_cons,e']
   rw [qb2l e,b];exact ih
theorem KT.repl{H:Hp}{kvs:List (List Key × V)}{xs:List (List Key × Addr × Value)}(r:KT H kvs xs)(k:List Key){y:V}{u:Value}(ry:RelV y u) :
  KT H (kvs.map fun kv=>if kv.1=k then(kv.1,y) else kv) (xs.map (putAt k u)):=by
 induction r with
 | nil=>exact .nil
 | @cons p q ps qs h t ih =>
  rw [List.map_cons,List.map_cons]
  refine .cons ?_ ih
  obtain⟨h1,h2,h3⟩:=h
  unfold putAt
  by_cases e:p.1=k
  ·rw [if_pos e,if_pos (h1.symm.trans e)];exact⟨h1,h2,ry⟩
  ·rw [if_neg e,if_neg (fun z=>e (h1.trans z))];exact⟨h1,h2,h3⟩
theorem KT.put{H:Hp}{kvs:List (List Key × V)}{xs:List (List Key × Addr × Value)}(r:KT H kvs xs)(k:List Key){b:Addr}{y:V}{u:Value}(hb:H b=some (.tup (k.map kV)))(ry:RelV y u) :
  KT H (putK kvs k y) (storedH xs k b u):=by
 have e:(kvs.any fun kv=>decide (kv.1=k))=(atKey xs k).isSome:=by
  rw [qc1g,(r.val k).isSome_eq,Option.isSome_map]
 unfold putK storedH
 rw [e]
 by_cases q:(atKey xs k).isSome=true
 ·rw [if_pos q,if_pos q];exact r.repl k ry
 ·rw [if_neg q,if_neg q];exact Paired.snoc r ⟨rfl,hb,ry⟩
theorem KT.keeps{H H':Hp}{kvs:List (List Key × V)}{xs:List (List Key × Addr × Value)}(r:KT H kvs xs)(ht:∀ b ys,H b=some (.tup ys)->H' b=some (.tup ys)):KT H' kvs xs:=
 Paired.mapP r fun _ _ z=>⟨z.1,ht _ _ z.2.1,z.2.2⟩
section
variable{P:Program}{w:World}{H:Hp}{h:Heap}{a:Addr}
theorem rd_of{u:HO}(ok:HOk P w H h)(e:Rd H a u):qa2q P w H h a u:=e.ok ok
theorem dk_rd{kvs:List (Key × V)}(ok:HOk P w H h)(e:Rd H a (.dK kvs)):kvs.length <= sizeLine/\(a == sysModules)=false/\∃ vs,KV kvs vs/\h.DictOf (qa1r P w) a vs:=
 show qa2q P w H h a (.dK kvs) from rd_of ok e
theorem dk_of{kvs:List (Key × V)}(ok:HOk P w H h)(e:H a=some (.dK kvs)):kvs.length <= sizeLine/\(a == sysModules)=false/\∃ vs,KV kvs vs/\h.DictOf (qa1r P w) a vs:=dk_rd ok (.inl e)
theorem qc1h{ks:List Key}(ok:HOk P w H h)(e:H a=some (.tup (ks.map kV))):(tupleKind (qa1r P w)).is h ks a:=by
 obtain⟨_,its,r,o,h1,h2,n,h3⟩:=(show qa2q P w H h a (.tup (ks.map kV)) from ok a _ e)
 exact⟨o,its.toArray,n,h1,h2.1,h3,by simpa using qb8y r⟩
theorem dt_rd{kvs:List (List Key × V)}(ok:HOk P w H h)(e:Rd H a (.dT kvs)):kvs.length <= sizeLine/\(a == sysModules)=false /\
  ∃ xs,KT H kvs xs/\h.DictOfH (tupleKind (qa1r P w)) a xs:=by
 obtain⟨z,y,xs,r,o,es,ep,h1,h2,h3,h4,h5⟩:=(show qa2q P w H h a (.dT kvs) from rd_of ok e)
 refine⟨z,y,xs,r,o,es,ep,h1,h2,h3,h4,fun x hx=>?_,h5⟩
 have all:∀ {l:List (List Key × V)} {m:List (List Key × Addr × Value)},KT H l m->∀ x ∈ m,(tupleKind (qa1r P w)).is h x.1 x.2.1:=by
  intro l m q
  induction q with
  | nil=>intro x hx;exact nomatch hx
  | @cons p q ps qs hq t ih =>
   intro x hx
   rcases List.mem_cons.mp hx with e | hx
   ·subst e
    exact qc1h ok (by rw [← hq.1];exact hq.2.1)
   ·exact ih x hx
 exact all r x hx
theorem dt_of{kvs:List (List Key × V)}(ok:HOk P w H h)(e:H a=some (.dT kvs)):kvs.length <= sizeLine/\(a == sysModules)=false /\
  ∃ xs,KT H kvs xs/\h.DictOfH (tupleKind (qa1r P w)) a xs:=dt_rd ok (.inl e)
end
def DGet(H:Hp)(a:Addr)(y:V)(r:Option V):Prop:=
 (∃ kvs k,Rd H a (.dK kvs)/\y=kV k/\r=valV kvs k) ∨ ∃ kvs k b,Rd H a (.dT kvs)/\y=.ref b/\H b=some (.tup (k.map kV))/\r=valV kvs k
def DPut(H:Hp)(a:Addr)(y v:V)(H':Hp):Prop:=
 (∃ kvs k,H a=some (.dK kvs)/\y=kV k/\kvs.length < sizeLine/\H'=upd H a (.dK (putK kvs k v))) ∨
 ∃ kvs k b,H a=some (.dT kvs)/\y=.ref b/\H b=some (.tup (k.map kV))/\kvs.length < sizeLine/\H'=upd H a (.dT (putK kvs k v))
theorem DGet.k{H:Hp}{a:Addr}{kvs:List (Key × V)}{k:Key}(e:H a=some (.dK kvs)):DGet H a (kV k) (valV kvs k):=.inl ⟨kvs,k,.inl e,rfl,rfl⟩
theorem DPut.k{H:Hp}{a:Addr}{kvs:List (Key × V)}{k:Key}{v:V}(e:H a=some (.dK kvs))(hl:kvs.length < sizeLine):DPut H a (kV k) v (upd H a (.dK (putK kvs k v))):=.inl ⟨kvs,k,e,rfl,hl,rfl⟩
section
variable{X:Cx}{pins:List (Addr × Obj)}{σ:St}{H:Hp}{s:Shared}{a:Addr}{y v:V}{u r:Value}{o:Option V}{A:Around}{E:Value->Shared->Prop}
theorem Inv.big(I:Inv X pins σ H s):sysModules < s.heap.objs.size:=by
 have h:mainGlobals < s.heap.objs.size:=(I.mod.glob.keeps I.bk).lt
 exact Nat.lt_trans (by decide) h
theorem qc9w{Q:Value->Shared->Prop}(hu:A.units + 1 < cLine)(I:Inv X pins σ H s)(g:DGet H a y (some v))(ry:RelV y u)(h:∀ w' s',Inv X pins σ H s'->RelV v w'->Q w' s') :
  wpAny (model X.prog X.w) A (getItem (.ref a) u) Q E s:=by
 rcases g with⟨kvs,k,e,ey,l⟩ | ⟨kvs,k,b,e,ey,eb,l⟩
 ·subst ey
  obtain⟨z,hd,vs,rel,dd⟩:=dk_rd I.hok e
  obtain⟨w',hw,rw'⟩:=RelO.some_of (v:=v) (o:=valueAt vs k) (by rw [l];exact rel.val k)
  exact wpAny_getItem_of (kV_is ry) dd.mapOf hw (h w' _ (I.tok _) rw')
 ·subst ey
  cases (show u=Value.ref b from ry)
  obtain⟨z,hd,xs,rel,dd⟩:=dt_rd I.hok e
  obtain⟨w',hw,rw'⟩:=RelO.some_of (v:=v) (o:=(atKey xs k).map (·.2)) (by rw [l];exact rel.val k)
  obtain⟨p,hp,hp2⟩:=Option.map_eq_some_iff.mp hw
  refine wpAny_getItem_heap (tupleKind_room_in1 hu) (qc1h I.hok eb) dd hp ?_
  rw [hp2]
  exact h w' _ (I.tok _) rw'
theorem qc5p{h':Heap}{t':Nat}{ob:HO}(I:Inv X pins σ H s)(mu:Mut (H a))(hs:Heap.SameBut a s.heap h')(he:∃ q,h'.get? a=some q)(new:qa2q X.prog X.w (upd H a ob) h' a ob) :
  Inv X pins σ (upd H a ob) { s with heap:=h',toks:=t' }:=
 I.write (x:=a) (e:=a) mu (.inl rfl) (fun b q hb z=>(hs.2 b hb).trans z) he new
theorem dk_new{P:Program}{w:World}{H':Hp}{h':Heap}{kvs:List (Key × V)}{vs:List (Key × Value)}(z:kvs.length <= sizeLine)(hd:(a == sysModules)=false)(rel:KV kvs vs)(dd:h'.DictOf (qa1r P w) a vs) :
  qa2q P w H' h' a (.dK kvs):=⟨z,hd,vs,rel,dd⟩
theorem qc9x{H':Hp}{Q:Unit->Shared->Prop}(hu:A.units + 1 < cLine)(I:Inv X pins σ H s)(g:DPut H a y v H')(ry:RelV y u)(rv:RelV v r)(h:∀ s',Inv X pins σ H' s'->Q () s') :
  wpAny (model X.prog X.w) A (setItem (.ref a) u r) Q E s:=by
 rcases g with⟨kvs,k,e,ey,l,eH⟩ | ⟨kvs,k,b,e,ey,eb,l,eH⟩
 ·subst ey eH
  obtain⟨z,hd,vs,rel,dd⟩:=dk_of I.hok e
  have hz:vs.length <= sizeLine:=by rw [← rel.length];exact z
  have hl:(putK kvs k v).length <= sizeLine:=by have:=qb5a kvs k v;omega
  refine wpAny_setItem_pairs (hsz:=hz) (kV_is ry) dd fun h' dd' hs=>h _ ?_
  have he:∃ q,h'.get? a=some q:=by obtain⟨q,_,_,hq,_⟩:=dd';exact⟨q,hq⟩
  exact qc5p I (by rw [e];exact True.intro) hs he (dk_new hl hd (rel.put k rv) dd')
 ·subst ey eH
  cases (show u=Value.ref b from ry)
  obtain⟨z,hd,xs,rel,dd⟩:=dt_of I.hok e
  have hz:xs.length <= sizeLine:=by rw [← Paired.length rel];exact z
  have hl:(putK kvs k v).length <= sizeLine:=by have:=qb5a kvs k v;omega
  refine wpAny_setItem_heap (hsz:=hz) (tupleKind_room_in1 hu) (qc1h I.hok eb) dd fun h' dd' hs=>h _ ?_
  obtain⟨q,es,ep,hq,h2,h3,h4,_,h5⟩:=dd'
  refine qc5p I (by rw [e];exact True.intro) hs ⟨q,hq⟩ ⟨hl,hd,_,(rel.put k eb rv).keeps fun c ys ec=>?_,q,es,ep,hq,h2,h3,h4,h5⟩
  rw [qa1h (qa8p ec e (fun z=>nomatch z))]
  exact ec
end
section
variable{X:Cx}{pins:List (Addr × Obj)}{σ:St}{H:Hp}{s:Shared}{a:Addr}{kvs:List (Key × V)}{k:Key}{u:Value}{A:Around}{E:Value->Shared->Prop}
end
def NoSl(i:Expr):Prop:=∀ ov iv,subscripted i false ov iv=operate [ov,iv] (getItem ov iv)
theorem subD_of{prog:Program}{w:World}{A:Around}{E:Value->Shared->Prop}{s:Shared}{env:Env}{value slice:Expr}{pos:Pos}{T id:String}{Q:Value->Shared->Prop}
  (hl:typeLookup (.type T) "__getitem__" = pure (some (.builtin id))) (hs:NoSl slice)
  (h:wpAny (model prog w) A (eval value env) (fun o s₁=>wpAny (model prog w) A (eval slice env) (fun i s₂=>s₂.TypeIs o T/\wpAny (model prog w) A (getItem o i) Q E s₂) E s₁) E s) :
  wpAny (model prog w) A (eval (.Subscript value slice pos) env) Q E s:=by
 refine Subscript_ (wpAny_mono h (fun o s₁ h₁=>wpAny_mono h₁ (fun i s₂ h₂=>?_) fun _ _ x=>x) fun _ _ x=>x)
 obtain⟨hT,h₂⟩:=h₂
 unfold subscriptTail
 refine wpAny_bind ?_
 rw [getitemInPython_of_ne hT.not_modules]
 refine wpAny_bind (wpAny_specialOf hT hl ?_)
 have fin:wpAny (model prog w) A (subscripted slice false o i) (fun r s₃=>wpAny (model prog w) A (letTemporaryGo value o r >>= fun _=>pure r) Q E s₃) E s₂:=by
  rw [hs o i]
  exact wpAny_operating (wpAny_mono h₂ (fun r s₃ h₃=>wpAny_bind (wpAny_letTemporaryGo (wpAny_pure h₃))) fun _ _ x=>x)
 first
  | exact wpAny_pure (wpAny_bind fin)
  | exact wpAny_bind (wpAny_pure (wpAny_bind fin))
  | exact wpAny_bind fin
theorem qc3h{X:Cx}{pins:List (Addr × Obj)}{σ:St}{H:Hp}{s:Shared}{a:Addr}{y:V}{o:Option V}(I:Inv X pins σ H s)(g:DGet H a y o):s.TypeIs (.ref a) "dict":=by
 rcases g with⟨kvs,k,e,_,_⟩ | ⟨kvs,k,b,e,_,_,_⟩
 ·obtain⟨_,_,vs,_,dd⟩:=dk_rd I.hok e
  exact dd.typeIs
 ·obtain⟨_,_,xs,_,dd⟩:=dt_rd I.hok e
  exact dd.typeIs
def tDGet(td ty:TE):TE:=fun σ H Q=>td σ H fun x H1=>ty σ H1 fun y H2=>∃ a v,x=.ref a/\DGet H2 a y (some v)/\Q v H2
def sDPut(td ty tv:TE):TS:=fun D σ H=>tv σ H fun v H1=>td σ H1 fun x H2=>ty σ H2 fun y H3=>∃ a H4,x=.ref a/\DPut H3 a y v H4/\D.nx σ H4
section
variable{X:Cx}{o i e value:Expr}{pos pos' tpos:Pos}{td ty tv:TE}
theorem pe_dget(hu:X.A.units + 1 < cLine)(ho:PE X o td)(hi:PE X i ty)(hs:NoSl i):PE X (.Subscript o i pos) (tDGet td ty):=by
 intro pins s σ H Q I h
 refine subD_of PySem.F.slot_dict_getitem.lookup hs (thn (ho pins s σ H _ I h) fun u s1 ⟨x,H1,I1,rx,q1⟩=>thn (hi pins s1 σ H1 _ I1 q1) fun iv s2 hq9=>?_)
 obtain⟨y,H2,I2,ry,a,v,ex,g,q2⟩:=hq9
 subst ex
 obtain rfl:u=Value.ref a:=rx
 exact⟨qc3h I2 g,qc9w hu I2 g ry fun w' s3 I3 rw'=>⟨v,H2,I3,rw',q2⟩⟩
theorem ps_dput(hu:X.A.units + 1 < cLine)(ho:PE X o td)(hi:PE X i ty)(hv:PE X value tv)(hs:swapsWith value (some (.Subscript o i pos')) pos.line X.env=pure false) :
  PS X (.Assign [.Subscript o i pos'] value pos) (sDPut td ty tv):=by
 intro pins s σ H D I h
 refine wpAny_Assign_Subscript (thn (hv pins s σ H _ I h) fun r s1 ⟨v,H1,I1,rv,q1⟩=>thn (ho pins s1 σ H1 _ I1 q1) fun u s2 ⟨x,H2,I2,rx,q2⟩=>thn (hi pins s2 σ H2 _ I2 q2) fun iv s3 hq8=>?_) hs
 obtain⟨y,H3,I3,ry,a,H4,ex,g,q3⟩:=hq8
 subst ex
 obtain rfl:u=Value.ref a:=rx
 exact qc9x hu I3 g ry rv fun s4 I4=>⟨σ,H4,I4,q3⟩
end
theorem qd2w{P:Program}{w:World}{H:Hp}(h:Heap)(hb:sysModules < h.objs.size):qa2q P w H (h.push { cls:=.type "dict",data:=.dict #[] }) h.objs.size (.dK []):=
 ⟨Nat.zero_le _,beq_eq_false_iff_ne.mpr (Ne.symm (Nat.ne_of_lt hb)),[],.nil,Heap.DictOf.new h⟩
def tDNewK:TE:=fun _ H Q=>∀ p,H p=none->Q (.ref p) (upd H p (.dK []))
section
variable{X:Cx}{pos:Pos}
theorem qd2x:PE X (.Dict [] [] pos) tDNewK:=fun pins s σ H Q I h =>
 wpAny_Dict_empty ⟨.ref s.heap.objs.size,_,I.laid (a:=s.heap.objs.size) (o:=.dK []) (t':=s.toks) (fun _ _ q=>Heap.get?_push_of_some _ q) (Nat.le_refl _) (qd2w s.heap I.big),rfl,h _ (I.hok.fresh (Nat.le_refl _))⟩
end
end L2
end
section
namespace L2
open PySem PySem.Spec PyProof.Rows
section
variable{X:Cx}
noncomputable def rSum(K:PySem.W.Frag):List V->Hp->VK->Prop:=fun xs H Q=>∃ v S,∃ ns:List Int,xs=[v]/\AtD K H S (.list (ns.map .int)) v/\Q (.int ns.sum) H
theorem qc9y(hc:X.calm=true):qa2r X (.builtin "sum") (rSum X.K):=by
 intro pins s σ H xs us Q I rs h
 obtain⟨v,S,ns,rfl,hd,q⟩:=h
 obtain⟨u,rfl,r⟩:=vals1 rs
 obtain⟨a,ys,rfl,_,hq,t⟩:=qa5c hd
 cases r
 have ey:=ints_of_all t
 subst ey
 obtain⟨its,rv,pl,hz⟩:=I.list (SqL.of hq)
 have hi:IntsAre its ns:=intsAre_of rv
 obtain⟨zs,e⟩:=hi.allInts.items
 have hns:ns=zs.toList.map (·.1):=by rw [← hi.numsOf,← nums_intItems,← e]
 have hl:=pl.isList
 rw [e] at hl
 refine sum_intListG (I.ok.hd hc) hl fun h' tk t' hk=>?_
 have es:preSum (numAt zs) zs.size=ns.sum:=by
  rw [preSum_eq,List.take_of_length_le (by simp),hns]
 rw [es]
 exact⟨.int _,H,I.kept hk,⟨t',rfl⟩,q⟩
theorem bt_sum:bootBuiltins "sum" = some (.builtin "sum"):=by decide +kernel
theorem qc9z:qa2r X (.type "int") (fun xs H Q=>∃ b:Bool,xs=[.bl b]/\Q (.int (if b then 1 else 0)) H):=by
 intro pins s σ H xs us Q I rs h
 obtain⟨b,rfl,q⟩:=h
 obtain⟨u,rfl,r⟩:=vals1 rs
 cases r
 exact call_int_bool ⟨.int _,H,I.tok _,⟨_,rfl⟩,q⟩
noncomputable def rDict:List V->Hp->VK->Prop:=fun xs H Q=>∃ a kvs,xs=[.ref a]/\H a=some (.dK kvs)/\∀ p,H p=none->Q (.ref p) (upd H p (.dK kvs))
theorem qc7d:qa2r X (.type "dict") rDict:=by
 intro pins s σ H xs us Q I rs h
 obtain⟨a,kvs,rfl,e,q⟩:=h
 obtain⟨u,rfl,r⟩:=vals1 rs
 cases r
 obtain⟨z,hd,vs,rel,dd⟩:=dk_of I.hok e
 refine kt_call_dict (knd:=qa1r X.prog X.w) hd dd (by rw [← rel.length];exact z) fun h' dd' hs=>?_
 have keep:∀ b o,s.heap.get? b=some o->h'.get? b=some o:=fun b o g=>(hs.2 b (Nat.ne_of_lt (Heap.lt_size g))).trans (Heap.get?_push_of_some _ g)
 exact⟨.ref _,_,I.laid (a:=s.heap.objs.size) (o:=.dK kvs) (t':=s.toks) keep (Nat.le_refl _) ⟨z,beq_eq_false_iff_ne.mpr (Ne.symm (Nat.ne_of_lt I.big)),vs,rel,dd'⟩,rfl,q _ (I.hok.fresh (Nat.le_refl _))⟩
end
noncomputable def fSum:FC:=fun ds=>match ds with
 | [.list xs]=>(qa4c xs).map fun ns=>.int ns.sum
 | _=>none
noncomputable def fIntB:FC:=fun ds=>match ds with
 | [.bool b]=>some (.int (if b then 1 else 0))
 | _=>none
section
variable{K:PySem.W.Frag}{H:Hp}{S:Addr->Prop}
theorem ad_sum:AdC K (rSum K) fSum:=by
 intro S H vs ds z Q f h e k
 unfold fSum at e
 split at e
 ·rename_i xs
  cases q:qa4c xs with
  | none=>rw [q] at e;cases e
  | some ns =>
   rw [q] at e
   cases e
   obtain⟨v,rfl,h1⟩:=h.one
   have ex:=ints_map q
   subst ex
   exact⟨v,Any,ns,rfl,h1.any,k _ _ (Same.refl _) (qa2y _)⟩
 ·cases e
theorem ad_intB:AdC K (fun xs H Q=>∃ b:Bool,xs=[.bl b]/\Q (.int (if b then 1 else 0)) H) fIntB:=by
 intro S H vs ds z Q f h e k
 unfold fIntB at e
 split at e
 ·rename_i b
  cases e
  obtain⟨v,rfl,h1⟩:=h.one
  rw [h1.bool]
  exact⟨b,rfl,k _ _ (Same.refl _) (qa2y _)⟩
 ·cases e
theorem AtT.dict{H:Hp}{S:Addr->Prop}{kvs:List (PyData × PyData)}{v:V}(h:AtT K H S (.dict kvs) v):∃ (a:Addr) (κ:List (Key × V)),v=.ref a/\S a/\H a=some (.dK κ)/\qa0l K H S kvs κ:=qb1l (h.at fun _ z=>nomatch z)
end
section
variable{K:PySem.W.Frag}{da db:TDE}
end
end L2
end
section
namespace L2
open PySem PySem.Spec PyProof.Rows
noncomputable def Rc.reb(c:Rc)(O:Own)(p:Addr)(H:Hp):Rc:={ c with H0:=H,P:=fun a=>c.P a ∨ a=p,M:=fun a=>∃ j,O j=some a,A:=fun a=>∃ j,O j=some a }
structure Pin(K:PySem.W.Frag)(c:Rc)(p:Addr)(ν:List (Str × Int))(i:Nat)(O:Own)(ρ:Rho)(σ:St)(H:Hp):Prop where
 rel:Rel K (c.reb O p H) O ρ σ H
 at_:H p=some (.dK (ν.map kvE))
 slot:σ[i]? = some (some (.ref p))
 nul:ρ[i]? = some none
 bA:∀ j q,O j=some q->c.A q
 bS:∀ b o,¬ c.M b->c.H0 b=some o->H b=some o
 bK:∀ b,c.H0 b ≠ none->H b ≠ none
 bM:∀ q,c.M q->∃ vs,H q=some (.lst vs)
 am:∀ q,c.A q->c.M q ∨ c.H0 q=none
 frs:∀ q,c.H0 q=none->c.S q
 fr0:c.H0 p=none
 np:¬ c.P p
section
variable{K:PySem.W.Frag}{c:Rc}{O O1:Own}{ρ ρ1:Rho}{σ σ1:St}{H H1 H2:Hp}{p:Addr}{ν μ:List (Str × Int)}{i:Nat}
theorem Rel.poke{v:V}(R:Rel K c O ρ σ H)(hn:ρ[i]? = some none):Rel K c O ρ (σ.set i (some v)) H:=by
 have st:∀ {j:Nat} {l:L},ρ[j]? = some (some l)->(σ.set i (some v))[j]? = σ[j]?:=fun{j l} e=>by
  refine List.getElem?_set_ne fun z=>?_
  subst z;rw [hn] at e;cases e
 exact⟨fun j x e=>let ⟨u,h1,h2⟩:=R.dat j x e;⟨u,by rw [st e];exact h1,h2⟩,fun j xs e=>let ⟨q,vs,h1,h2,h3,h4⟩:=R.own j xs e;⟨q,vs,h1,h2,by rw [st e];exact h3,h4⟩,
  fun j xs e=>let ⟨q,vs,h1,h3,h4⟩:=R.bor j xs e;⟨q,vs,h1,by rw [st e];exact h3,h4⟩,fun j k e=>let ⟨q,h1,h3,h4⟩:=R.tap j k e;⟨q,h1,by rw [st e];exact h3,h4⟩,fun j e=>by rw [st e];exact R.scr j e,
  R.inj,R.has',R.am,R.frs,R.same,R.kept,R.ml,R.pin,R.lnt,R.sc,by rw [List.length_set];exact R.len⟩
end
section
variable{K:PySem.W.Frag}
theorem qc7e{n:Nat}(h:n < 1000):n < sizeLine:=by rw [sizeLine_eq];omega
end
section
variable{X:Cx}{iter kE vE:Expr}{rest:List Stmt}{di:TDI}{dk dv:TDE}{du:TDS}{x y:Str}{p1 p2 p3 p4 p5 p6 p7 p8 p9 p10 p11 p12 p13:Pos}
end
end L2
end
section
namespace L2
open PySem PySem.Spec PyProof.Rows
theorem qb6p:entryFor table "dict.update.loop" = some Builtin.«dict.update.loop»:=entryFor_of_tree (by kernel_rfl)
theorem qa8y:plainId "dict.update.loop" = true:=by decide +kernel
section
variable{prog:Program}{w:World}{A:Around}{R:Result->Shared->Prop}{I:Addr}{fp wr:List Addr}{G:Array GenState->Array GenState->Prop}{St:Nat->Shared->Prop}{items:Array Value}{ps:List (Str × Int)}
end
section
variable{prog:Program}{w:World}{A:Around}{E:Value->Shared->Prop}{s:Shared}
end
end L2
end
section
namespace L2
open PySem PySem.Spec PyProof.Rows
def NotSq(o:HO):Prop:=(∀ xs,o ≠ .lst xs)/\(∀ xs,o ≠ .tup xs)/\∀ a u,o ≠ .frz a u
structure PinG(K:PySem.W.Frag)(c:Rc)(p:Addr)(o:HO)(O:Own)(ρ:Rho)(σ:St)(H:Hp):Prop where
 rel:Rel K (c.reb O p H) O ρ σ H
 at_:H p=some o
 nsq:NotSq o
 bA:∀ j q,O j=some q->c.A q
 bS:∀ b o,¬ c.M b->c.H0 b=some o->H b=some o
 bK:∀ b,c.H0 b ≠ none->H b ≠ none
 bM:∀ q,c.M q->∃ vs,H q=some (.lst vs)
 am:∀ q,c.A q->c.M q ∨ c.H0 q=none
 frs:∀ q,c.H0 q=none->c.S q
 fr0:c.H0 p=none
 np:¬ c.P p
section
variable{K:PySem.W.Frag}{c:Rc}{O O1:Own}{ρ ρ1:Rho}{σ σ1:St}{H H1 H2:Hp}{p:Addr}{o o2:HO}
end
end L2
end
section
namespace L2
open PySem PySem.Spec PyProof.Rows
section
variable{X:Cx}
theorem qb8z:bootBuiltins "sorted" = some (.builtin "sorted"):=by decide +kernel
noncomputable def rGet2:V->List V->Hp->VK->Prop:=fun x vs H Q=>∃ a kvs,∃ k:Str,∃ d,x=.ref a/\vs=[.str k,d]/\H a=some (.dK kvs)/\Q ((valV kvs (Sum.inr k)).getD d) H
theorem mt_get2:MtM X "dict.get" rGet2:=by
 intro pins s σ H x vs v us Q I rx rv h
 obtain⟨a,kvs,k,d,rfl,rfl,e,q⟩:=h
 cases rx
 obtain⟨u,r,rfl,ru,rr⟩:=Vals.two rv
 obtain⟨_,hd,ws,rel,dd⟩:=dk_of I.hok e
 have ku:RelV (kV (Sum.inr k)) u:=ru
 exact call_meetsIn PySem.F.slot_dict_get dd.typeIs PySem.F.entry_dict_get (PySem.F.args_dict_get_3 _ _ _) (meets_dict_get_default (qa1r X.prog X.w) a (kV_is ku) hd r) ⟨_,dd.mapOf,_,H,I.tok _,(rel.val (Sum.inr k)).getD rr,q⟩
end
end L2
end
section
namespace L2
open PySem PySem.Spec PyProof.Rows
section
variable{X:Cx}
theorem qc1i:bootBuiltins "all" = some (.builtin "all"):=by decide +kernel
end
section
variable{K:PySem.W.Frag}{H:Hp}{S:Addr->Prop}
end
section
variable{X:Cx}{e e1 e2:Expr}{es:List Expr}{daa:TDA}{de d1 d2:TDE}{pos:Pos}
end
section
variable{i:Nat}{de di da dd:TDA}{ρ:Rho}{Q:DV->Rho->Prop}{d1 d2:TDE}
end
section
variable{K:PySem.W.Frag}
end
section
variable{X:Cx}{iter kE vE tg:Expr}{rest:List Stmt}{di:TDI}{dg:TDG}{dk dv:TDE}{du:TDS}{x y z:Str}{pos p1 p2 p3 p4 p5 p6 p7 p8 p9 p10 p11 p12 p13:Pos}
end
end L2
end
section
namespace L2
open PySem PySem.Spec PyProof.Rows
section
variable{prog:Program}{w:World}{A:Around}{E:Value->Shared->Prop}{s:Shared}
def IsZ2(h:Heap)(z TI TO T:Addr)(b:Bool):Prop:=h.get? z=some { cls:=.type "zip",dict:=none,data:=.fields #[rawInt T,.bool b,.bool false,.ref TI,.ref TO],slots:=#[] }
def ZF(h:Heap)(z TI TO:Addr):Prop:=(IsZip h z TI TO .none/\∃ p q,IsPair h TO p q) ∨ ∃ T b o,IsZ2 h z TI TO T b/\h.get? T=some o
def ZW(h:Heap)(z TI TO i1 i2 l1 l2:Addr)(k:Nat):Prop:=ZF h z TI TO/\IsPair h TI (.ref i1) (.ref i2)/\ItX true h i1 l1 k/\ItX false h i2 l2 k
end
end L2
end
section
namespace L2
open PySem PySem.Spec PyProof.Rows
section
variable{prog:Program}{w:World}{A:Around}{R:Result->Shared->Prop}{ps:List (Str × Int)}{z TI TO i1 i2 l1 l2:Addr}{xs ys:Array Value}
end
section
variable{prog:Program}{w:World}{A:Around}{E:Value->Shared->Prop}{s:Shared}
end
section
variable{X:Cx}
end
end L2
end
section
namespace L2
open PySem
noncomputable def qc5q:PyData->Bool
 | .none=>true
 | _=>false
noncomputable def fIsN:F2:=fun x y=>match y with
 | .none=>some (.bool (qc5q x))
 | _=>none
section
variable{K:PySem.W.Frag}{H:Hp}{S:Addr->Prop}
theorem qd0a{d:PyData}{v:V}(h:AtT K H S d v):decide (v=.non)=qc5q d:=by
 cases d with
 | none=>rw [h.none];rfl
 | bool b=>rw [h.bool];rfl
 | int i=>rw [h.int];rfl
 | str x=>rw [h.str];rfl
 | list xs=>obtain⟨a,ws,rfl,_,_⟩:=h.list;rfl
 | tuple xs=>obtain⟨a,ws,rfl,_,_⟩:=h.tup;rfl
 | dict kvs=>obtain⟨a,ν,rfl,_⟩:=h.dict;rfl
theorem ad_isN:AdR K (fun x y H Q=>y=.non/\Q (.bl (decide (x=.non))) H) fIsN:=by
 intro S H x y dx dy z Q f hx hy e k
 unfold fIsN at e
 split at e<;>cases e
 rw [hy.none,qd0a hx]
 exact⟨rfl,k _ _ (Same.refl _) (qa2j _)⟩
end
end L2
end
section
namespace L2
open PySem PySem.Spec PyProof.Rows
section
variable{prog:Program}{w:World}{A:Around}{E:Value->Shared->Prop}{s:Shared}
theorem qb9i{t sl:Addr}{items:Array Value}{vl vu:Value}{lo hi:Option Int}{Q:Value->Shared->Prop}(ht:IsTup s.heap t items)(hs:s.heap.IsSliceOf sl vl vu .none)(pl:IsPart vl lo)(pu:IsPart vu hi)
  (hw:HT.sIx items.size 0 lo=0/\HT.sIx items.size items.size hi=items.size) (h:Q (.ref t) s):wpAny (model prog w) A (getItem (.ref t) (.ref sl)) Q E s:=by
 have hTs:s.TypeIs (.ref sl) "slice":=by obtain⟨os,hos,hcs,_⟩:=id hs;exact⟨os,hos,hcs⟩
 unfold getItem
 try with_reducible refine wpAny_holding ?_
 first | refine wpAny_bind (wpAny_pure ?_) | skip
 refine wpAny_bind (wpAny_sequenceKey ht.typeIs (by decide) ?_)
 refine wpAny_bind (wpAny_callSpecial?_slot (name:=Str.ofString "__getitem__") ht.typeIs slot_tuple_getitem (wpAny_call_entry slot_tuple_getitem ht.typeIs entry_tuple_getitem ?_ (args_tuple_getitem _ _)))
 show wpAny _ _ (Builtin.Tuple.tupleItemsOf (.ref t) >>= _) _ _ s
 refine wpAny_bind (tupleItemsOf_ ht (wpAny_bind (wpAny_typeOf hTs ?_)))
 rw [if_pos (by decide)]
 refine wpAny_bind (HT.qb0a hs pl pu ?_)
 rw [hw.1,hw.2]
 show wpAny _ _ (if (((0:Nat):Int) == 0 && (1:Int) == 1 && (items.size - 0) == items.size)=true then _ else _) _ _ s
 rw [if_pos (by simp)]
 refine wpAny_bind (m:=Builtin.Tuple.tupleIsExact (.ref t)) (wpAny_bind (wpAny_typeOf ht.typeIs (wpAny_pure ?_)))
 rw [if_pos (by decide)]
 exact wpAny_bind (wpAny_rule (wpAny_pure ⟨_,rfl,wpAny_pure h⟩))
end
section
variable{X:Cx}{e:Expr}{te:TE}{pos p2:Pos}
noncomputable def rSlW(K:PySem.W.Frag):V->Option Int->Option Int->Hp->VK->Prop:=fun x lo hi H Q=>∃ a xs,x=.ref a/\SqT K H a xs/\(HT.sIx xs.length 0 lo=0/\HT.sIx xs.length xs.length hi=xs.length)/\Q x H
theorem qa7e:SlR X (rSlW X.K):=by
 intro pins s σ H x v vl vu lo hi sl Q I rx hs pl pu h
 obtain⟨a,xs,rfl,hx,hw,q⟩:=h
 cases rx
 obtain⟨its,r,ht,hz⟩:=I.tuple hx
 have hlen:its.toArray.size=xs.length:=by rw [List.size_toArray];exact r.length.symm
 exact⟨"tuple",_,slot_tuple_getitem.lookup,ht.typeIs,qb9i ht hs pl pu (by rw [hlen];exact hw) ⟨.ref a,H,I,rfl,q⟩⟩
def rInK(K:PySem.W.Frag)(w:World):R2:=fun x y H Q=>∃ a kvs z,y=.ref a/\KDict K w a kvs/\(a == sysModules)=false/\x=.str z/\Q (.bl (kvs.lookup z).isSome) H
theorem KV.some_eq{kvs:List (Str × V)}{vs:List (Str × Value)}(h:KV kvs vs)(z:Str):(valueAt vs z).isSome=(kvs.lookup z).isSome:=by
 induction h with
 | nil=>rfl
 | @cons p q kvs vs r _ ih =>
  obtain⟨x,v⟩:=p
  obtain⟨y,u⟩:=q
  obtain⟨e,rv⟩:=r
  have e':x=y:=e
  subst e'
  rw [List.lookup_cons]
  by_cases hzx:z=x
  ·subst hzx
   simp [valueAt]
  ·have:(z == x)=false:=beq_eq_false_iff_ne.mpr hzx
   rw [this]
   unfold valueAt at ih ⊢
   rw [List.find?_cons_of_neg (by simpa using fun q=>hzx q.symm)]
   exact ih
theorem op_inK:OpR X (compareOp .In) (rInK X.K X.w):=by
 intro pins s σ H x y v u Q I rx ry h
 obtain⟨a,kvs,z,rfl,⟨hnd,es,ep,hk,he⟩,hsm,rfl,q⟩:=h
 cases ry
 obtain⟨t,rfl⟩:=rx
 have ho:=I.kIn a _ hk
 obtain⟨vs,hp,hkv,hkeys⟩:=he.pairs (prog:=X.prog)
 obtain⟨e1,hlook⟩:=KV.look hkv
 have hd:s.heap.DictOf (strKind X.prog X.w) a vs:=by
  refine⟨_,es,ep,ho,⟨rfl,rfl,rfl⟩,rfl,?_,hp,by rw [← e1];exact hnd⟩
  intro e hm
  obtain⟨x',t',e2,e3⟩:=hkeys e (by simpa using hm)
  exact⟨x',by rw [e2];exact strKind_is X.prog X.w x' t',e3⟩
 refine wpAny_in_of (strKind_is X.prog X.w z t) hsm hd.mapOf ?_
 have e:(valueAt vs z).isSome=(kvs.lookup z).isSome:=KV.some_eq hkv z
 rw [e]
 exact⟨.bl _,H,I.tok _,rfl,q⟩
end
end L2
end
section
namespace L2
open PySem PySem.Spec PyProof.Rows
theorem qc7f{xs:List PyData}{lo hi:Option Int}(h:HT.sIx xs.length 0 lo=0/\HT.sIx xs.length xs.length hi=xs.length):cutD xs lo hi=xs:=by
 unfold cutD
 rw [h.1,h.2,List.drop_zero,Nat.sub_zero,List.take_length]
noncomputable def fSlA:FSl:=fun x lo hi=>match x with
 | .tuple xs=>some (.tuple (cutD xs lo hi))
 | _=>none
theorem fSlA_t{xs:List PyData}{lo hi:Option Int}:fSlA (.tuple xs) lo hi=some (.tuple (cutD xs lo hi)):=rfl
section
variable{K:PySem.W.Frag}{H:Hp}{S:Addr->Prop}
theorem qb1u:AdSl K (fun x lo hi H Q=>rSlT K x lo hi H Q ∨ rSlW K x lo hi H Q) fSlA:=by
 intro S H x d z lo hi Q f hx e k
 unfold fSlA at e
 split at e
 ·rename_i xs
  cases e
  obtain⟨a,vs,rfl,h1,h2⟩:=hx.tup
  by_cases hw:HT.sIx xs.length 0 lo=0/\HT.sIx xs.length xs.length hi=xs.length
  ·refine .inr ⟨a,vs,rfl,h1,by rw [h2.length];exact hw,k _ _ (Same.refl _) ?_⟩
   rw [qc7f hw]
   exact qa4w h1 h2
  ·exact .inl ⟨a,vs,rfl,h1,by rw [h2.length];exact hw,fun p hp=>k _ _ (qa2a hp _) (qb2e hp (h2.cut lo hi))⟩
 ·cases e
def dNilD:TDE:=fun ρ Q=>Q (.d (.dict [])) ρ
theorem ad_nilD:AdE K tDNewK dNilD:=by
 intro c O ρ σ H Qd Q R h k p hp
 have sm:=qa2a (H:=H) hp (.dK [])
 exact k _ _ _ _ _ h (R.grow sm) (.same sm) (show AtD K (upd H p (.dK [])) (live c O) (.dict []) (.ref p) from qd1l (ν:=[]) (R.frsLive p hp) qa1d)
def TabI(K:PySem.W.Frag)(w:World)(mg:Str->Option Value)(x:Str)(keys:List Str):Prop:=∃ (a:Addr) (kvs:List (Str × V)),mg x=some (.ref a)/\KDict K w a kvs/\(a == sysModules)=false/\kvs.map (·.1)=keys
theorem qb5b{β:Type}:∀ (kvs:List (Str × β)) (z:Str),(kvs.lookup z).isSome=(kvs.map (·.1)).contains z
 | [],z=>rfl
 | (a,b) :: r,z=>by
  rw [List.lookup_cons,List.map_cons,List.contains_cons,← qb5b r z]
  cases h:z == a<;>simp
def dInK(keys:List Str)(de:TDE):TDE:=fun ρ Q=>de ρ fun x ρ1=>need (qa0z ρ1 x) fun dx=>∃ z:Str,dx=.str z/\Q (.d (.bool (keys.contains z))) ρ1
theorem ad_inK{w:World}{a:Addr}{kvs:List (Str × V)}{keys:List Str}{t:TE}{de:TDE}(hD:KDict K w a kvs)(hs:(a == sysModules)=false)(hk:kvs.map (·.1)=keys)(h:AdE K t de):AdE K (tOp (rInK K w) t (tC (.ref a))) (dInK keys de):=fun c O ρ σ H Qd Q R q k =>
 h c O ρ σ H _ _ R q fun x ρ1 O1 v H1 h1 R1 P1 a1=>by
  obtain⟨dx,e1,hn1⟩:=ne (h1)
  obtain⟨z,rfl,h2⟩:=hn1
  have ev:=(R1.top a1 e1).str
  subst ev
  refine⟨a,kvs,z,rfl,hD,hs,rfl,?_⟩
  rw [qb5b,hk]
  exact k _ _ _ _ _ h2 R1 P1 (show AtD K H1 (live c O1) (.bool _) (.bl _) from qa2j _)
end
section
variable{X:Cx}{e st:Expr}{de ds:TDE}{pos p2:Pos}
theorem qb4q:DE X (.Dict [] [] pos) dNilD:=⟨_,qd2x,ad_nilD⟩
end
section
variable{i:Nat}{ρ:Rho}{Q:DV->Rho->Prop}{d1 d2:TDE}{keys:List Str}
theorem dNilD_a:dNilD ρ Q=Q (.d (.dict [])) ρ:=rfl
theorem dInK_a:dInK keys d1 ρ Q=d1 ρ fun x ρ1=>need (qa0z ρ1 x) fun dx=>∃ z:Str,dx=.str z/\Q (.d (.bool (keys.contains z))) ρ1:=rfl
end
end L2
end
section
namespace L2
open PySem PySem.Spec PyProof.Rows
noncomputable def qb1v(kvs more:List (Key × V)):List (Key × V):=more.foldl (fun acc kv=>putK acc kv.1 kv.2) kvs
end L2
end
section
namespace L2
open PySem PySem.Spec PyProof.Rows
theorem de_inK{X:Cx}{x:Str}{p pos:Pos}{e:Expr}{de:TDE}{keys:List Str}(hT:TabI X.K X.w X.mg x keys)(hg:Gl X x)(he:DE X e de)(hm:behindInMarks .In (.Name x p)=false:=by rfl) (hd:(x == ("__debug__" : Str))=false:=by decide):DE X (.Compare e [.In] [.Name x p] pos) (dInK keys de):=by
 obtain⟨a,kvs,h1,h2,h3,h4⟩:=hT
 obtain⟨t,pt,at_⟩:=he
 exact⟨_,qc4u op_inK pt (qb7k hg h1 (v:=.ref a) rfl hd) hm,ad_inK h2 h3 h4 at_⟩
end L2
end
section
namespace L2
open PySem PySem.Spec PyProof.Rows
section
variable{X:Cx}
end
end L2
end
section
namespace Sx
open PySem PySem.Spec PyProof.Rows
theorem pw_eq{α:Type}{le:α->α->Prop}(anti:∀ a b,le a b->le b a->a=b):∀ {a b:List α},a.Perm b->a.Pairwise le->b.Pairwise le->a=b
 | [],b,h,_,_=>h.nil_eq
 | x :: r,[],h,_,_=>absurd h.length_eq (by simp)
 | x :: r,y :: t,h,ha,hb=>by
  have e:x=y:=by
   have hx:x ∈ y :: t:=h.mem_iff.mp List.mem_cons_self
   have hy:y ∈ x :: r:=h.mem_iff.mpr List.mem_cons_self
   rcases List.mem_cons.mp hx with q | q
   ·exact q
   ·rcases List.mem_cons.mp hy with q2 | q2
    ·exact q2.symm
    ·exact anti x y (List.rel_of_pairwise_cons ha q2) (List.rel_of_pairwise_cons hb q)
  subst e
  rw [pw_eq anti (List.Perm.cons_inv h) (List.pairwise_cons.mp ha).2 (List.pairwise_cons.mp hb).2]
noncomputable def srtI(ns:List Int):List Int:=ns.mergeSort (fun a b=>decide (a <= b))
theorem qa5y(ns:List Int):(srtI ns).Perm ns:=List.mergeSort_perm ns _
theorem srtI_pw(ns:List Int):(srtI ns).Pairwise (· <= ·):=by
 have h:=List.pairwise_mergeSort (le:=fun a b:Int=>decide (a <= b)) (fun a b c h1 h2=>by simp at *;omega) (fun a b=>by simp;omega) ns
 exact h.imp fun h=>by simpa using h
theorem srtI_eq{a ns:List Int}(h:a.Perm ns)(hp:a.Pairwise (· <= ·)):a=srtI ns:=
 pw_eq (fun a b h1 h2=>Int.le_antisymm h1 h2) (h.trans (qa5y ns).symm) hp (srtI_pw ns)
def leS(a b:Str):Prop:=a.cps.toList <= b.cps.toList
instance (a b:Str):Decidable (leS a b):=by unfold leS;infer_instance
section
variable{prog:Program}{w:World}{A:Around}{E:Value->Shared->Prop}{s:Shared}{S:Addr}
theorem decI:∀ k v,(intKind prog w).is k v=true->numOf v=k:=fun k v h=>by
 obtain⟨t,rfl⟩:=Value.isInt_shape h;rfl
theorem qd0b{ns:List Int}(hh:A.handled=none)(hS:SetV (intKind prog w) numOf s.heap S ns)(h64:ns.length < 64){Q:Value->Shared->Prop}
  (h:∀ (s':Shared) (L:Addr) (out:List Value) (e:Nat),IntsAre out (srtI ns)->s'.heap.get? L=some (seqObj "list" out.toArray e)->(∀ b o,s.heap.get? b=some o->s'.heap.get? b=some o)->S < L->s'.gens=s.gens->s'.os=s.os->Q (.ref L) s') :
  wpAny (model prog w) A (call (.builtin "sorted") [.ref S]) Q E s:=by
 obtain⟨es,ep,t,ho,F⟩:=hS
 refine Calls.call_function_entry kind_sorted plain_sorted entry_sorted (args_sorted1 _) ?_;unfold Builtin.«sorted»
 have z0:es.size=ns.length:=by have:=F.pm.length_eq;simpa using this
 refine wpAny_bind (m:=checkCount "sorted" 1 1 _) (wpAny_pure (wpAny_bind (qc9g (by simp [hh]) ho F.ft F.ok F.ld (by omega) fun s' out op kp eg eo=>?_)))
 have ol:out.length=ns.length:=by rw [op.length_eq,List.length_map,Array.length_toList,z0]
 have hv:∀ v ∈ out,∃ n t,v=.int n t:=fun v hv=>by
  obtain⟨e,he,rfl⟩:=List.mem_map.mp (op.mem_iff.mp hv)
  obtain⟨⟨k,hk,_⟩,_⟩:=F.el e he
  obtain⟨t,q⟩:=Value.isInt_shape hk
  exact⟨k,t,q⟩
 have hI:=intsAre_map out hv
 have hpm:(out.map numOf).Perm ns:=(op.map numOf).trans (by rw [List.map_map];exact F.pm)
 refine wpAny_bind (wpAny_newList ?_ (by rw [ol,sizeLine_eq];omega))
 have hoL:(s'.heap.push (seqObj "list" out.toArray 0)).get? s'.heap.objs.size=some (seqObj "list" out.toArray 0):=Heap.get?_push_size _ rfl
 refine wpAny_bind (wpAny_holding (wpAny_call_entry slot_list_sort ⟨_,hoL,rfl⟩ entry_list_sort (list_sort_tree hoL hI (by omega) fun out' ns' a1 a2 a3=>⟨_,rfl,?_⟩) (args_list_sort _)))
 obtain⟨e,he⟩:=sortedHeap_at (out:=out') hoL
 have eq:=srtI_eq (a2.trans hpm) a3
 subst eq
 refine wpAny_pure ⟨_,rfl,h _ s'.heap.objs.size out'.toList e a1 he (fun b o q=>?_) (Heap.lt_size (kp _ _ ho)) eg eo⟩
 have q':=kp b o q
 have lt:=Heap.lt_size q'
 show(sortedHeap _ _ _ _).get? b=some o
 rw [sortedHeap_old (Nat.ne_of_lt lt) (by rw [Heap.size_push];exact Nat.lt_succ_of_lt lt)]
 exact Heap.get?_push_of_some _ q'
end
end Sx
end
section
namespace L2
open PySem PySem.Spec PyProof.Rows
theorem bt_set:bootBuiltins "set" = some (.type "set"):=by decide +kernel
section
variable{X:Cx}{pins:List (Addr × Obj)}{σ:List (Option V)}{H:Hp}{s:Shared}
theorem Inv.dr(I:Inv X pins σ H s)(d:Drawn):Inv X pins σ H { s with drawn:=d }:=⟨I.ok,I.os,I.bare,I.base,I.loc,I.cell,I.free,I.freeC,I.pin,I.hok,I.len⟩
def qc5r(X:Cx)(r:List V->Hp->VK->Prop):Prop:=∀ (pins:List (Addr × Obj)) (s:Shared) (σ:St) (H:Hp) (xs:List V) (us:List Value) (Q:VK),Inv X pins σ H s->Vals xs us->r xs H Q ->
 wpAny (model X.prog X.w) X.A (call (.type "set") us) (fun u s1=>wpAny (model X.prog X.w) X.A (call (.builtin "sorted") [u]) (EP X pins σ Q) X.xe s1) X.xe s
theorem qc7g{r:List V->Hp->VK->Prop}{a:Expr}{ta:TA}{p p2 pos pos2:Pos}(hr:qc5r X r) (hg:Gl X "set") (hm:X.mg "set" = none) (hg2:Gl X "sorted") (hm2:X.mg "sorted" = none) (ha:PA X [a] ta) (hs:starEach [a] X.env=(false,eval a X.env) :: starEach [] X.env:=by rfl) (hs2:(backTo pos (starEach [] X.env)).any (·.1)=false:=by rfl)
  (hs3:starEach [.Call (.Name "set" p) [a] [] pos] X.env=[(false,eval (.Call (.Name "set" p) [a] [] pos) X.env)]:=by rfl) :
  PE X (.Call (.Name "sorted" p2) [.Call (.Name "set" p) [a] [] pos] [] pos2) (tCB r ta):=by
 intro pins s σ H Q I h
 refine Call_ (qa6c I hg2 hm2 qb8z (PyProof.Rows.callWith_builtin1 ?_ hs3 (by rfl)))
 rw [hs3]
 show wpAny _ _ (spliced ((false,eval (.Call (.Name "set" p) [a] [] pos) X.env) :: [])) _ _ s
 refine Calls.spliced_cons (Call_ (qa6c I hg hm bt_set (PyProof.Rows.callWith_type1 (thn (ha pos pins s σ H _ I h) fun us s1 hq8=>?_) hs hs2)))
 obtain⟨vs,H1,I1,r1,q1⟩:=hq8
 exact thn (hr pins s1 σ H1 vs us Q I1 r1 q1) fun u s2 h2=>Calls.spliced_nil h2
theorem qb3r:∀ {us:List Value} {ns:List Int},IntsAre us ns->Vals (ns.map V.int) us
 | _,_,.nil=>.nil
 | _,_,.cons _ _ h=>.cons ⟨_,rfl⟩ (qb3r h)
noncomputable def rSetI(K:PySem.W.Frag):List V->Hp->VK->Prop:=fun xs H Q=>∃ v S,∃ ns:List Int,xs=[v]/\(AtD K H S (.list (ns.map .int)) v ∨ AtD K H S (.tuple (ns.map .int)) v)/\ns.length < 64/\∀ p,H p=none->Q (.ref p) (upd H p (.lst ((Sx.srtI (Sx.uniq ns)).map V.int)))
theorem qd2y(hc:X.calm=true):qc5r X (rSetI X.K):=by
 intro pins s σ H xs us Q I rs h
 obtain⟨v,S,ns,rfl,hd,hn,q⟩:=h
 obtain⟨u,rfl,r⟩:=vals1 rs
 obtain⟨a,its,e,rv,hq⟩:∃ a its,v=.ref a/\Vals (ns.map V.int) its/\(s.heap.IsList a its.toArray ∨ s.heap.IsTuple a its.toArray):=by
  rcases hd with hd | hd
  ·obtain⟨a,ys,rfl,_,hq,t⟩:=qa5c hd
   have ey:=ints_of_all t
   subst ey
   obtain⟨its,rv,pl,hz⟩:=I.list (SqL.of hq)
   exact⟨a,its,rfl,rv,.inl pl.isList⟩
  ·obtain⟨a,ys,rfl,hq,t⟩:=qa3u hd
   have ey:=ints_of_all t
   subst ey
   obtain⟨its,rv,pl,hz⟩:=I.tuple hq
   exact⟨a,its,rfl,rv,.inr pl⟩
 subst e
 cases r
 have hl:its.length=ns.length:=by rw [← rv.length,List.length_map]
 refine Sx.call_v (knd:=intKind X.prog X.w) (ks:=ns) Sx.decI (I.ok.hd hc) hq (by rw [List.size_toArray];omega) (by rw [List.size_toArray,hl]) (fun i w hw=>?_) fun h1 tk sv kp=>?_
 ·rw [List.getElem?_toArray] at hw
  have hi:i < its.length:=(List.getElem?_eq_some_iff.mp hw).1
  have hi2:i < ns.length:=by omega
  obtain⟨u,e1,⟨t,ht⟩⟩:=rv.get (i:=i) (x:=V.int ns[i]) (by rw [List.getElem?_map,List.getElem?_eq_getElem hi2];rfl)
  subst ht
  rw [hw] at e1
  cases e1
  exact⟨ns[i],List.getElem?_eq_getElem hi2,by simp [intKind,Value.isInt],rfl⟩
 ·have hu:=Sx.qb4m ns
  refine Sx.qd0b (I.ok.hd hc) sv (by omega) fun s2 L out e a1 he kp2 hlt eg eo=>?_
  have hle:((Sx.srtI (Sx.uniq ns)).map V.int).length <= sizeLine:=by
   rw [List.length_map,(Sx.qa5y _).length_eq,sizeLine_eq];omega
  have I2:=(I.laid (a:=L) (o:=.lst ((Sx.srtI (Sx.uniq ns)).map V.int)) (t':=s2.toks) (h':=s2.heap) (fun b o x=>kp2 _ _ (kp _ _ x)) (Nat.le_of_lt hlt) ⟨hle,out,e,qb3r a1,he⟩).dr s2.drawn
  have es:({ s with heap:=s2.heap,toks:=s2.toks,drawn:=s2.drawn }:Shared)=s2:=by
   cases s2;dsimp only at eg eo;subst eg eo;rfl
  rw [es] at I2
  exact⟨.ref _,_,I2,rfl,q _ (I.hok.fresh (Nat.le_of_lt hlt))⟩
end
noncomputable def fSetI:FC:=fun ds=>match ds with
 | [.list xs]=>(qa4c xs).bind fun ns=>if ns.length < 64 then some (.list ((Sx.srtI (Sx.uniq ns)).map .int)) else none
 | [.tuple xs]=>(qa4c xs).bind fun ns=>if ns.length < 64 then some (.list ((Sx.srtI (Sx.uniq ns)).map .int)) else none
 | _=>none
section
variable{K:PySem.W.Frag}{H:Hp}{S:Addr->Prop}
theorem qb0s:∀ {ns:List Int},qa0d K H S (ns.map .int) (ns.map V.int)
 | []=>by unfold qa0d;rfl
 | x :: r=>by
  show qa0d K H S (.int x :: r.map .int) (.int x :: r.map V.int)
  unfold qa0d
  exact⟨_,_,rfl,qa2y _,qb0s⟩
theorem ad_setI:AdC K (rSetI K) fSetI:=by
 intro S H vs ds z Q f h e k
 unfold fSetI at e
 split at e
 ·rename_i xs
  cases q1:qa4c xs with
  | none=>rw [q1] at e;cases e
  | some ns =>
   rw [q1,Option.bind_some] at e
   split at e
   ·rename_i hl
    cases e
    obtain⟨v,rfl,h1⟩:=h.one
    have e1:=ints_map q1
    subst e1
    exact⟨v,Any,ns,rfl,.inl h1.any,hl,fun p hp=>k _ _ (qa2a hp _) (qa3q (f p hp) qa1d qb0s)⟩
   ·cases e
 ·rename_i xs
  cases q1:qa4c xs with
  | none=>rw [q1] at e;cases e
  | some ns =>
   rw [q1,Option.bind_some] at e
   split at e
   ·rename_i hl
    cases e
    obtain⟨v,rfl,h1⟩:=h.one
    have e1:=ints_map q1
    subst e1
    exact⟨v,Any,ns,rfl,.inr h1.any,hl,fun p hp=>k _ _ (qa2a hp _) (qa3q (f p hp) qa1d qb0s)⟩
   ·cases e
 ·cases e
end
section
variable{X:Cx}{a:Expr}{daa:TDA}{p p2 pos pos2:Pos}
theorem de_setI(hc:X.calm=true) (hg:Gl X "set") (hm:X.mg "set" = none) (hg2:Gl X "sorted") (hm2:X.mg "sorted" = none) (ha:DA X [a] daa) (hs:starEach [a] X.env=(false,eval a X.env) :: starEach [] X.env:=by rfl) (hs2:(backTo pos (starEach [] X.env)).any (·.1)=false:=by rfl)
  (hs3:starEach [.Call (.Name "set" p) [a] [] pos] X.env=[(false,eval (.Call (.Name "set" p) [a] [] pos) X.env)]:=by rfl) :
  DE X (.Call (.Name "sorted" p2) [.Call (.Name "set" p) [a] [] pos] [] pos2) (dCB fSetI daa):=by
 obtain⟨ta,pa,aa⟩:=ha
 exact⟨_,qc7g (qd2y hc) hg hm hg2 hm2 pa hs hs2 hs3,ad_cb ad_setI aa⟩
end
end L2
end
section
namespace Sx
open PySem PySem.W PyProof.Rows
noncomputable def AllP{α:Type}(n:Nat)(P:α->Prop):KasT α->Prop
 | .ret a=>P a
 | .ask i j k=>i < n/\j < n/\∀ b,AllP n P (k b)
theorem qa5z{α β:Type}{n:Nat}{P:α->Prop}{R:β->Prop}{f:α->KasT β}(h:∀ a,P a->AllP n R (f a)):∀ t:KasT α,AllP n P t->AllP n R (t.bind f)
 | .ret a,q=>h a q
 | .ask i j k,q=>⟨q.1,q.2.1,fun b=>qa5z h (k b) (q.2.2 b)⟩
theorem qc5s{α:Type}{n:Nat}{P:α->Prop}{cmp:Nat->Nat->(Bool->Shared->Prop)->Shared->Prop}{Q:α->Shared->Prop}{s:Shared}(hc:∀ i j (C:Bool->Shared->Prop),i < n->j < n->(∀ b,C b s)->cmp i j C s)(hq:∀ a,P a->Q a s):∀ t:KasT α,AllP n P t->t.kasWp cmp Q s
 | .ret a,q=>hq a q
 | .ask i j k,q=>hc i j _ q.1 q.2.1 fun b=>qc5s hc hq (k b) (q.2.2 b)
abbrev PN(n:Nat)(p:Array Nat):Prop:=p.Perm (List.toArray (List.range n))
theorem qa5p{n:Nat}(hn:0 < n){p:Array Nat}(h:PN n p)(i:Nat):p.getD i 0 < n:=by
 rw [Array.getD_eq_getD_getElem?]
 cases e:p[i]? with
 | none=>exact hn
 | some x =>
  have hm:x ∈ p.toList:=by
   rw [← Array.getElem?_toList] at e
   exact List.mem_of_getElem? e
  have:=(Array.perm_iff_toList_perm.mp h).mem_iff.mp hm
  simpa using this
theorem qb3s{n:Nat}{p:Array Nat}(h:PN n p)(i j:Nat):PN n (kas_rev p i j):=(mirror_perm _ _ _ _).trans h
section
variable{n:Nat}(hn:0 < n)
include hn
theorem qb7q{p:Array Nat}(h:PN n p):∀ f m,AllP n (fun _=>True) (kas_asc p f m)
 | 0,m=>trivial
 | f + 1,m=>⟨qa5p hn h _,qa5p hn h _,fun b=>by
  cases b with
  | true=>exact trivial
  | false=>exact qb7q h f (m + 1)⟩
theorem qb2m:∀ f {p:Array Nat} m q,PN n p->AllP n (fun r=>PN n r.1) (kas_desc f p m q)
 | 0,p,m,q,h=>h
 | f + 1,p,m,q,h=>⟨qa5p hn h _,qa5p hn h _,fun b=>by
  cases b with
  | true =>
   show AllP n _ (if q > 0 then _ else _)
   split
   ·exact qb2m f _ _ (qb3s h _ _)
   ·exact qb2m f _ _ h
  | false =>
   refine⟨qa5p hn h _,qa5p hn h _,fun b=>?_⟩
   cases b with
   | true=>exact h
   | false=>exact qb2m f _ _ h⟩
theorem qb9a{p:Array Nat}(h:PN n p)(m r:Nat):AllP n (fun x=>PN n x.2) (kas_tail3 m r p):=by
 refine qa5z (P:=fun _=>True) (fun a _=>?_) _ (qb7q hn (qb3s h _ _) _ _)
 exact qb3s h _ _
theorem qb3t{p:Array Nat}(h:PN n p)(m r:Nat):AllP n (fun x=>PN n x.2) (kas_descPart m r p):=by
 refine qa5z (fun x hx=>?_) _ (qb2m hn _ _ _ h)
 show AllP n _ (if x.2.2 > 0 then _ else _)
 split
 ·exact qb9a hn (qb3s hx _ _) _ _
 ·exact qb9a hn hx _ _
theorem qd0c{p:Array Nat}(h:PN n p)(r:Nat):AllP n (fun x=>PN n x.2) (kas_count r p):=by
 refine qa5z (fun m _=>?_) _ (qb7q hn h _ _)
 show AllP n _ (if (m == r)=true then _ else if m > 1 then _ else _)
 split
 ·exact h
 ·split
  ·refine⟨qa5p hn h _,qa5p hn h _,fun b=>?_⟩
   cases b with
   | true=>exact h
   | false=>exact qb3t hn (qb3s h _ _) _ _
  ·exact qb3t hn h _ _
theorem qb3u{p:Array Nat}(h:PN n p)(k:Nat):∀ f l r,AllP n (fun _=>True) (kas_place p k f l r)
 | 0,l,r=>trivial
 | f + 1,l,r=>by
  show AllP n _ (if l ≥ r then _ else _)
  split
  ·exact trivial
  ·refine⟨qa5p hn h _,qa5p hn h _,fun b=>?_⟩
   cases b with
   | true=>exact qb3u h k f _ _
   | false=>exact qb3u h k f _ _
theorem qc5t:∀ f {p:Array Nat} k,PN n p->AllP n (fun x=>PN n x) (kas_bin f p k)
 | 0,p,k,h=>h
 | f + 1,p,k,h=>qa5z (fun l _=>qc5t f _ ((bubble_perm _ _ _).trans h)) _ (qb3u hn h _ _ _ _)
theorem qd2z:AllP n (fun p=>PN n p) (kas_sort n):=by
 refine qa5z (fun r hr=>?_) _ (qd0c hn (Array.Perm.refl _) n)
 show AllP n _ (if r.1 < n then _ else _)
 split
 ·exact qc5t hn _ _ hr
 ·exact hr
end
def TupAt(h:Heap)(v:Value)(t:List Int):Prop:=∃ a o xs n,v=.ref a/\h.get? a=some o/\o.cls=.type "tuple" /\ o.data=.seq xs n/\IntsAre xs.toList t/\t ≠ []
section
variable{prog:Program}{w:World}{A:Around}{E:Value->Shared->Prop}{s:Shared}
theorem qc5u{b fin:Bool}{Q:Bool->Shared->Prop}(q:∀ c,Q c s):∀ (xs ys:List Value) (i:Nat),(∀ v ∈ xs,∃ n t,v=.int n t)->(∀ v ∈ ys,∃ n t,v=.int n t)->KatLex prog w A b fin Q (xs.zip ys) i s
 | [],ys,i,_,_=>by rw [List.zip_nil_left];exact kat_nil (q _)
 | x :: r,[],i,_,_=>by rw [List.zip_nil_right];exact kat_nil (q _)
 | x :: r,y :: t,i,hx,hy=>by
  obtain⟨n,u,rfl⟩:=hx _ List.mem_cons_self
  obtain⟨m,u',rfl⟩:=hy _ List.mem_cons_self
  rw [List.zip_cons_cons]
  refine kat_cons (wpAny_eqBool_int ?_)
  cases (n == m) with
  | true=>exact kat_yes (qc5u q r t (i + 1) (fun v hv=>hx v (List.mem_cons_of_mem _ hv)) fun v hv=>hy v (List.mem_cons_of_mem _ hv))
  | false =>
   refine kat_no ?_
   cases (b && i == 0) with
   | true=>exact oneLt_int (q _)
   | false=>exact kat_one _ _ (wpAny_lt_int (q _))
theorem tup_lt{b:Bool}{u v:Value}{t t':List Int}{Q:Bool->Shared->Prop}(hu:TupAt s.heap u t)(hv:TupAt s.heap v t')(q:∀ c,Q c s):wpAny (model prog w) A (keyLt' (tuples' b) u v) Q E s:=by
 obtain⟨a,o,xs,n,rfl,ho,_,hd,hI,_⟩:=hu
 obtain⟨a',o',xs',n',rfl,ho',_,hd',hI',_⟩:=hv
 exact kat_lt ho hd ho' hd' (qc5u q _ _ 0 hI.all hI'.all)
theorem qc1j:∀ {vs:List Value} {h:Heap},(∀ v ∈ vs,∃ t,TupAt h v t)->∃ fs,KatTups h vs fs/\fs.length=vs.length/\∀ v ∈ fs,∃ n t,v=.int n t
 | [],h,_=>⟨[],KatTups.nil,rfl,fun v hv=>absurd hv List.not_mem_nil⟩
 | v :: r,h,H=>by
  obtain⟨fs,k,hl,hf⟩:=qc1j (vs:=r) (h:=h) fun v hv=>H v (List.mem_cons_of_mem _ hv)
  obtain⟨t,a,o,xs,n,rfl,ho,hc,hd,hI,hne⟩:=H v List.mem_cons_self
  obtain⟨f,fr,e⟩:∃ f fr,xs.toList=f :: fr:=by
   cases q:xs.toList with
   | nil=>rw [q] at hI;cases hI;exact absurd rfl hne
   | cons f fr=>exact⟨f,fr,rfl⟩
  have e0:xs[0]? = some f:=by rw [← Array.getElem?_toList,e];rfl
  refine⟨f :: fs,KatTups.cons ho hc hd e0 k,by rw [List.length_cons,List.length_cons,hl],fun v hv=>?_⟩
  rcases List.mem_cons.mp hv with rfl | hv
  ·exact hI.all _ (by rw [e];exact List.mem_cons_self)
  ·exact hf v hv
theorem qd3a{a:Addr}{vs:List Value}{n:Nat}{P:PySem.Fin->Shared->Prop} (ho:s.heap.get? a=some (seqObj "list" vs.toArray n)) (h64:vs.length < 64)
  (ht:∀ v ∈ vs,∃ t,TupAt ((((s.heap.update a (Obj.mapSeq fun _=>#[])).push (seqObj "tuple" vs.toArray 0)).push (seqObj "list" #[] 0))) v t)
  (h:∀ out:List Value,out.Perm vs->P (.done (.ret .none)) { s with heap:=sortedHeap s.heap a vs out.toArray }) :
  wpAny (model prog w) A (Builtin.«list.sort» ⟨[.ref a],[]⟩) P E s:=by
 rw [list_sort_plain]
 have ha:a < s.heap.objs.size:=Heap.lt_size ho
 have hb:vs.toArray.size <= sizeLine:=by rw [List.size_toArray,sizeLine_eq];omega
 refine wpAny_bind (listItems_at ho rfl (wpAny_bind (listUpdate_at ho rfl ?_ hb (Nat.zero_le _))))
 obtain⟨e1,ho1⟩:∃ e1,(s.heap.update a (Obj.mapSeq fun _=>#[])).get? a=some (seqObj "list" #[] e1):=⟨_,get?_update_seq ho (fun _=>#[])⟩
 refine wpAny_bind (seqEpoch_at ho1 rfl (wpAny_bind (wpAny_newTuple ?_ (by show vs.length <= _;rw [sizeLine_eq];omega))))
 refine wpAny_bind (wpAny_newList (wpAny_holding ?_) (Nat.zero_le _))
 have ho6:(((s.heap.update a (Obj.mapSeq fun _=>#[])).push (seqObj "tuple" vs.toArray 0)).push (seqObj "list" #[] 0)).get? a=some (seqObj "list" #[] e1):=Heap.get?_push_of_some _ (Heap.get?_push_of_some _ ho1)
 show wpAny (model prog w) A _ P E { s with heap:=((s.heap.update a (Obj.mapSeq fun _=>#[])).push (seqObj "tuple" vs.toArray 0)).push (seqObj "list" #[] 0) }
 dsimp only
 by_cases h2:vs.toArray.size < 2
 ·rw [if_pos h2,if_pos h2]
  refine wpAny_bind (wpAny_pure ?_)
  rw [StateT.run_pure]
  refine wpAny_bind (wpAny_pure ?_)
  dsimp only
  have es:(arrOf (SortSt.mk' general' (vs.toArray.zip vs.toArray) #[] 7 none)).map (·.2)=vs.toArray:=by
   show(vs.toArray.zip vs.toArray).map (·.2)=_
   apply Array.toList_inj.mp
   rw [Array.toList_map,Array.toList_zip,List.map_snd_zip (Nat.le_refl _)]
  rw [es]
  refine wpAny_bind (seqEpoch_at ho6 rfl (wpAny_bind (listUpdate_at ho6 rfl ?_ (Nat.zero_le _) (Nat.le_trans hb (Nat.le_succ _)))))
  simp only [bne_self_eq_false,Bool.false_eq_true,if_false]
  exact wpAny_pure (h vs (List.Perm.refl _))
 ·rw [if_neg h2,if_neg h2]
  have h2':2 <= vs.length:=by rw [List.size_toArray] at h2;omega
  obtain⟨fs,k1,k2,k3⟩:=qc1j ht
  refine wpAny_bind (kat_kind (T:=.type "int") k1 (by omega) (fun v hv=>?_) (by decide) ?_)
  ·obtain⟨n,t,rfl⟩:=k3 v hv
   exact .now
  refine wpAny_bind (wpAny_mono (kat_run (Q:=fun st' s'=>s'={ s with heap:=((s.heap.update a (Obj.mapSeq fun _=>#[])).push (seqObj "tuple" vs.toArray 0)).push (seqObj "list" #[] 0) }/\failedOf st'=none/\∃ p:Array Nat,PN vs.length p/\arrOf st'=p.map (kas_item (vs.toArray.zip vs.toArray))) (G:=fun p s'=>PN vs.length p/\s'={ s with heap:=((s.heap.update a (Obj.mapSeq fun _=>#[])).push (seqObj "tuple" vs.toArray 0)).push (seqObj "list" #[] 0) })
   rfl h2' h64 (fun p st' s' a1 a2 a3 a4=>⟨a4.2,a3,p,a4.1,a2⟩) (qc5s (fun i j C hi hj hC=>?_) (fun p hp=>⟨hp,rfl⟩) _ (qd2z (by omega)))) ?_ fun _ _ e=>e)
  ·unfold kas_ask
   have gi:∀ i,i < vs.length->∃ t,TupAt (((s.heap.update a (Obj.mapSeq fun _=>#[])).push (seqObj "tuple" vs.toArray 0)).push (seqObj "list" #[] 0)) (vs.getD i Value.none) t:=fun i hi=>by
    have e:vs.getD i Value.none=vs[i]:=by simp [hi]
    rw [e];exact ht _ (List.getElem_mem hi)
   obtain⟨t1,g1⟩:=gi i hi
   obtain⟨t2,g2⟩:=gi j hj
   exact tup_lt g1 g2 hC
  rintro⟨⟨⟩,st'⟩ s' ⟨rfl,hf,p,hp,har⟩
  dsimp only
  have hout:=kat_snds rfl har
  rw [hout]
  have hperm:(p.toList.map fun i=>vs.getD i Value.none).Perm vs:=by
   refine((Array.perm_iff_toList_perm.mp hp).map _).trans ?_
   have e:(List.range vs.length).map (fun i=>vs.getD i Value.none)=vs:=by
    apply List.ext_getElem
    ·simp
    ·intro i h1 h2;simp at h1;simp [h1]
   show List.Perm ((List.range vs.length).map _) vs
   rw [e]
  refine wpAny_bind (seqEpoch_at ho6 rfl (wpAny_bind (listUpdate_at ho6 rfl ?_ (Nat.zero_le _) (by
   show(List.toArray _).size <= _
   rw [List.size_toArray,hperm.length_eq,sizeLine_eq];omega))))
  rw [hf]
  simp only [bne_self_eq_false,Bool.false_eq_true,if_false]
  exact wpAny_pure (h _ hperm)
end
end Sx
end
section
namespace L2
open PySem PySem.Spec PyProof.Rows
abbrev encT(t:List Int):PyData:=.tuple (t.map .int)
section
variable{prog:Program}{w:World}{A:Around}{E:Value->Shared->Prop}{s:Shared}
theorem qc3i{h h':Heap}{v:Value}{t:List Int}(x:Sx.TupAt h v t)(k:∀ b o,h.get? b=some o->h'.get? b=some o):Sx.TupAt h' v t:=by
 obtain⟨a,o,xs,n,e,ho,r⟩:=x
 exact⟨a,o,xs,n,e,k _ _ ho,r⟩
theorem qc3j{l:Addr}{vs:List Value}{Q:Value->Shared->Prop}(hl:s.heap.IsList l vs.toArray)(ht:∀ v ∈ vs,∃ t,Sx.TupAt s.heap v t)(h64:vs.length < 64)
  (h:∀ out:List Value,out.Perm vs->Q (.ref (s.heap.objs.size + 1)) { s with heap:=sortedAll s.heap vs out.toArray }):wpAny (model prog w) A (call (.builtin "sorted") [.ref l]) Q E s:=by
 refine Calls.call_function_entry kind_sorted plain_sorted entry_sorted (args_sorted1 _) ?_;unfold Builtin.«sorted»
 refine wpAny_bind (m:=checkCount "sorted" 1 1 _) (wpAny_pure (wpAny_bind (collect_list hl ?_ (by rw [sizeLine_eq];omega))))
 refine wpAny_bind (wpAny_newList ?_ (by rw [sizeLine_eq];omega))
 have hz:((s.heap.push (seqObj "list" #[] 0)).update s.heap.objs.size (Obj.mapSeq (· ++ vs.toArray))).objs.size=s.heap.objs.size + 1:=by rw [Heap.size_update,size_push']
 have oL:(((s.heap.push (seqObj "list" #[] 0)).update s.heap.objs.size (Obj.mapSeq (· ++ vs.toArray))).push (seqObj "list" vs.toArray 0)).get? (s.heap.objs.size + 1)=some (seqObj "list" vs.toArray 0):=by rw [← hz];exact Heap.get?_push_size _ rfl
 show wpAny _ _ _ _ _ { s with heap:=(((s.heap.push (seqObj "list" #[] 0)).update s.heap.objs.size (Obj.mapSeq (· ++ vs.toArray))).push (seqObj "list" vs.toArray 0)) }
 rw [hz]
 have keep:∀ b o,s.heap.get? b=some o->(((((((s.heap.push (seqObj "list" #[] 0)).update s.heap.objs.size (Obj.mapSeq (· ++ vs.toArray))).push (seqObj "list" vs.toArray 0)).update (s.heap.objs.size + 1) (Obj.mapSeq fun _=>#[])).push (seqObj "tuple" vs.toArray 0)).push (seqObj "list" #[] 0))).get? b=some o:=fun b o q=>by
  have hlt:b < s.heap.objs.size:=Heap.lt_size q
  refine Heap.get?_push_of_some _ (Heap.get?_push_of_some _ ?_)
  rw [Heap.get?_update_ne _ _ _ _ (Nat.ne_of_lt (Nat.lt_succ_of_lt hlt))]
  refine Heap.get?_push_of_some _ ?_
  rw [Heap.get?_update_ne _ _ _ _ (Nat.ne_of_lt hlt)]
  exact Heap.get?_push_of_some _ q
 refine wpAny_bind (wpAny_holding (wpAny_call_entry slot_list_sort ⟨_,oL,rfl⟩ entry_list_sort (Sx.qd3a oL h64 (fun v hv=>?_) fun out hp=>⟨_,rfl,?_⟩) (args_list_sort _)))
 ·obtain⟨t,x⟩:=ht v hv
  exact⟨t,qc3i x keep⟩
 ·exact wpAny_pure ⟨_,rfl,h out hp⟩
end
section
variable{K:PySem.W.Frag}{H:Hp}{S:Addr->Prop}
theorem qd3b{β:Type}{f:β->PyData}{its out:List Value}(p:its.Perm out):∀ {bs:List β} {xs:List V},qa0d K H S (bs.map f) xs->Vals xs its->∃ (bs':List β) (xs':List V),bs'.Perm bs/\qa0d K H S (bs'.map f) xs'/\Vals xs' out:=by
 induction p with
 | nil=>intro bs xs h v;exact⟨bs,xs,List.Perm.refl _,h,v⟩
 | cons u p ih =>
  intro bs xs h v
  cases v with
  | cons r1 r2 =>
   cases bs with
   | nil=>have:=h.unnil;cases this
   | cons b br =>
    obtain⟨y,yr,e,hd,t⟩:=qa0d.uncons (ds:=br.map f) (d:=f b) h
    injection e with e1 e2
    subst e1 e2
    obtain⟨bs',xs',p1,a1,v1⟩:=ih t r2
    exact⟨b :: bs',_ :: xs',p1.cons _,by show qa0d K H S (f b :: bs'.map f) _;unfold qa0d;exact⟨_,_,rfl,hd,a1⟩,.cons r1 v1⟩
 | swap u u' l =>
  intro bs xs h v
  cases v with
  | cons r1 r2 =>
   cases r2 with
   | cons r2 r3 =>
    cases bs with
    | nil=>have:=h.unnil;cases this
    | cons b br =>
     obtain⟨y,yr,e,hd,t⟩:=qa0d.uncons (ds:=br.map f) (d:=f b) h
     injection e with e1 e2
     subst e1 e2
     cases br with
     | nil=>have:=t.unnil;cases this
     | cons c cr =>
      obtain⟨z,zr,e,hd2,t2⟩:=qa0d.uncons (ds:=cr.map f) (d:=f c) t
      injection e with e1 e2
      subst e1 e2
      exact⟨c :: b :: cr,_ :: _ :: _,List.Perm.swap b c cr,by
       show qa0d K H S (f c :: f b :: cr.map f) _
       unfold qa0d;refine⟨_,_,rfl,hd2,?_⟩;unfold qa0d;exact⟨_,_,rfl,hd,t2⟩,.cons r2 (.cons r1 r3)⟩
 | trans p1 p2 ih1 ih2 =>
  intro bs xs h v
  obtain⟨bs1,xs1,q1,a1,v1⟩:=ih1 h v
  obtain⟨bs2,xs2,q2,a2,v2⟩:=ih2 a1 v1
  exact⟨bs2,xs2,q2.trans q1,a2,v2⟩
noncomputable def rSortT(K:PySem.W.Frag):List V->Hp->VK->Prop:=fun xs H Q=>∃ v S,∃ tss:List (List Int),xs=[v]/\AtD K H S (.list (tss.map encT)) v/\(∀ t ∈ tss,t ≠ [])/\tss.length < 64/\∀ (p:Addr) (xs':List V) (tss':List (List Int)),H p=none->tss'.Perm tss->qa0d K H S (tss'.map encT) xs'->Q (.ref p) (upd H p (.lst xs'))
end
section
variable{X:Cx}
theorem qb3b:∀ {ns:List Int} {us:List Value},Vals (ns.map V.int) us->IntsAre us ns
 | [],us,h=>by rw [Vals.zero h];exact .nil
 | x :: r,us,h=>by
  cases h with
  | cons h1 h2 =>
   obtain⟨t,rfl⟩:=h1
   exact .cons _ _ (qb3b h2)
theorem qc5v{pins:List (Addr × Obj)}{σ:List (Option V)}{H:Hp}{s:Shared}{S:Addr->Prop}(I:Inv X pins σ H s):∀ {tss:List (List Int)} {xs:List V} {its:List Value},(∀ t ∈ tss,t ≠ [])->qa0d X.K H S (tss.map encT) xs->Vals xs its->∀ v ∈ its,∃ t,Sx.TupAt s.heap v t
 | [],xs,its,_,h,v=>by
  have e:=h.unnil
  subst e
  rw [Vals.zero v]
  exact fun v hv=>absurd hv List.not_mem_nil
 | t :: r,xs,its,hne,h,v=>by
  obtain⟨y,yr,e,hd,tl⟩:=qa0d.uncons (ds:=r.map encT) (d:=encT t) h
  subst e
  cases v with
  | cons r1 r2 =>
   intro u hu
   rcases List.mem_cons.mp hu with rfl | hu
   ·obtain⟨a,ys,rfl,hq,tt⟩:=qa3u hd
    have ey:=ints_of_all tt
    subst ey
    obtain⟨its,rv,pl,hz⟩:=I.tuple hq
    cases r1
    obtain⟨o,ho,hc,n,hdt⟩:=pl
    exact⟨t,a,o,its.toArray,n,rfl,ho,hc,hdt,qb3b rv,hne t List.mem_cons_self⟩
   ·exact qc5v I (fun t ht=>hne t (List.mem_cons_of_mem _ ht)) tl r2 u hu
theorem qc7h:qa2r X (.builtin "sorted") (rSortT X.K):=by
 intro pins s σ H xs us Q I rs h
 obtain⟨v,S,tss,rfl,hd,hne,hn,q⟩:=h
 obtain⟨u,rfl,r⟩:=vals1 rs
 obtain⟨a,ys,rfl,_,hq,t⟩:=qa5c hd
 cases r
 obtain⟨its,rv,pl,hz⟩:=I.list (SqL.of hq)
 have hl:its.length=tss.length:=by rw [← rv.length,t.length,List.length_map]
 refine qc3j pl.isList (qc5v I hne t rv) (by omega) fun out hp=>?_
 obtain⟨tss',xs',p1,a1,v1⟩:=qd3b hp.symm t rv
 obtain⟨e,he⟩:=sortedAll_at s.heap its out.toArray
 have hle:xs'.length <= sizeLine:=by
  rw [v1.length,hp.length_eq,sizeLine_eq];omega
 exact⟨.ref _,_,I.laid (a:=s.heap.objs.size + 1) (o:=.lst xs') (t':=s.toks) (fun b o e=>sortedAll_old e) (Nat.le_succ _) ⟨hle,out,e,v1,he⟩,rfl,q _ _ _ (I.hok.fresh (Nat.le_succ _)) p1 a1⟩
noncomputable def qb0g(d:PyData):Bool:=PyData.layable0 d && d.intsShort 13 && d.showable
noncomputable def rRepr(K:PySem.W.Frag):List V->Hp->VK->Prop:=fun xs H Q=>∃ v S,∃ ds:List PyData,xs=[v]/\AtD K H S (.tuple ds) v/\qb0g (.tuple ds)=true/\Q (.str (PyData.tuple ds).shown) H
theorem qd0d(hg:X.A.guards=some [])(hu:X.A.units + 80 < cLine):qa2r X (.builtin "repr") (rRepr X.K):=by
 intro pins s σ H xs us Q I rs h
 obtain⟨v,S,ds,rfl,hd,hk,q⟩:=h
 obtain⟨u,rfl,r⟩:=vals1 rs
 obtain⟨as,rd⟩:=AtD.reads I _ v u hd r
 obtain⟨a,ys,rfl,hq,t⟩:=qa3u hd
 cases r
 unfold qb0g at hk
 simp only [Bool.and_eq_true] at hk
 obtain⟨⟨h1,h2⟩,h3⟩:=hk
 have hl:=h1
 unfold PyData.layable0 at h1
 simp only [Bool.and_eq_true,decide_eq_true_eq] at h1
 have hz:=shown_le13 hl h2
 refine repr_of_reads' rd h3 (PyData.noDict_hsm (PyData.hasDict_of_canLay _ h1.1.1)) hg (by omega) (fun _ _ e=>e) (fun h' u tk hk=>?_) (by rw [sizeLine_eq];omega)
 exact⟨.str _,H,I.kept hk,⟨_,rfl⟩,q⟩
end
def qc1k(da:TDA):TDE:=fun ρ Q=>da ρ fun xs ρ1=>need (qa2s ρ1 xs) fun ds=>∃ tss:List (List Int),ds=[.list (tss.map encT)]/\(∀ t ∈ tss,t ≠ [])/\tss.length < 64/\∀ tss':List (List Int),tss'.Perm tss->Q (.d (.list (tss'.map encT))) ρ1
noncomputable def fRepr:FC:=fun ds=>match ds with
 | [.tuple xs]=>if qb0g (.tuple xs)=true then some (.str (PyData.tuple xs).shown) else none
 | _=>none
section
variable{K:PySem.W.Frag}
theorem qc1l{H:Hp}{S S':Addr->Prop}:∀ {tss:List (List Int)} {xs:List V},qa0d K H S (tss.map encT) xs->qa0d K H S' (tss.map encT) xs
 | [],xs,h=>by rw [h.unnil];unfold qa0d;rfl
 | t :: r,xs,h=>by
  obtain⟨y,yr,e,hd,tl⟩:=qa0d.uncons (ds:=r.map encT) (d:=encT t) h
  subst e
  obtain⟨a,ys,rfl,hq,tt⟩:=qa3u hd
  have ey:=ints_of_all tt
  subst ey
  show qa0d K H S' (encT t :: r.map encT) _
  unfold qa0d
  refine⟨_,_,rfl,?_,qc1l tl⟩
  unfold AtD
  exact⟨a,_,rfl,hq,qb0s⟩
theorem qd3c{ta:TA}{da:TDA}(ha:AdA K ta da):AdE K (tCB (rSortT K) ta) (qc1k da):=by
 intro c O ρ σ H Qd Q R h k
 refine ha c O ρ σ H _ _ R h fun xs ρ1 O1 vs H1 h1 R1 P1 a1=>?_
 obtain⟨ds,e1,hn1⟩:=ne (h1)
 obtain⟨tss,rfl,hne,hl,h2⟩:=hn1
 obtain⟨v,rfl,t1⟩:=(R1.tops a1 e1).one
 refine⟨v,Any,tss,rfl,t1.any,hne,hl,fun p xs' tss' hp hpm ha'=>?_⟩
 have sm:=qa2a (H:=H1) hp (.lst xs')
 exact k _ _ _ _ _ (h2 tss' hpm) (R1.grow sm) (P1.trans (.same sm)) (qa3q (R1.frsLive p hp) qa1d ((qc1l ha').same sm))
theorem ad_repr:AdC K (rRepr K) fRepr:=by
 intro S H vs ds z Q f h e k
 unfold fRepr at e
 split at e
 ·rename_i xs
  split at e
  ·rename_i hx
   cases e
   obtain⟨v,rfl,h1⟩:=h.one
   exact⟨v,Any,xs,rfl,h1.any,hx,k _ _ (Same.refl _) (qa6z _)⟩
  ·cases e
 ·cases e
end
theorem qd3d{da:TDA}{ρ:Rho}{Q:DV->Rho->Prop}:qc1k da ρ Q=(da ρ fun xs ρ1=>need (qa2s ρ1 xs) fun ds=>∃ tss:List (List Int),ds=[.list (tss.map encT)]/\(∀ t ∈ tss,t ≠ [])/\tss.length < 64/\∀ tss':List (List Int),tss'.Perm tss->Q (.d (.list (tss'.map encT))) ρ1):=rfl
theorem fSetI_l{ns:List Int}(h:ns.length < 64):fSetI [.list (ns.map .int)]=some (.list ((Sx.srtI (Sx.uniq ns)).map .int)):=by
 show((qa4c (ns.map .int)).bind fun ns=>if ns.length < 64 then _ else _)=_
 rw [ints_of,Option.bind_some,if_pos h]
theorem fRepr_t{xs:List PyData}(h:qb0g (.tuple xs)=true):fRepr [.tuple xs]=some (.str (PyData.tuple xs).shown):=if_pos h
section
variable{X:Cx}{e:Expr}{es:List Expr}{daa:TDA}{pos:Pos}
theorem qd3e{p:Pos} (hg:Gl X "sorted") (hm:X.mg "sorted" = none) (ha:DA X (e :: es) daa) (he:starEach (e :: es) X.env=(false,eval e X.env) :: starEach es X.env:=by rfl) (hpl:(backTo pos (starEach es X.env)).any (·.1)=false:=by rfl):DE X (.Call (.Name "sorted" p) (e :: es) [] pos) (qc1k daa):=by
 obtain⟨ta,pa,aa⟩:=ha
 exact⟨_,qa6u qc7h hg hm qb8z pa (by decide) (by decide) he hpl,qd3c aa⟩
theorem Room.units2{k:Nat}{A:Around}(r:Room k A):A.units + 80 < cLine:=by have:=r.un;omega
end
end L2
namespace Sn
instance stands:Nonempty Unit:=⟨()⟩
end Sn
end
section
namespace L2
open PySem PySem.Spec PyProof.Rows
noncomputable def rngV(n:Nat):List V:=(List.range n).map fun i=>V.int (0 + (i:Nat))
noncomputable def rListR:List V->Hp->VK->Prop:=fun xs H Q=>∃ j:Int,xs=[.int j]/\0 <= j/\j <= 1000000/\∀ p,H p=none->Q (.ref p) (upd H p (.lst (rngV j.toNat)))
section
variable{X:Cx}
theorem qd0e{acc:Array Value}{n:Nat}(h:ItemsOf (fun i v=>∃ t,v=.int (0 + (i:Nat) * 1) t) acc n):Vals (rngV n) acc.toList:=by
 have key:∀ (m k:Nat) (l:List Value),l.length=m->(∀ (i:Nat) (v:Value),l[i]? = some v->∃ t,v=Value.int (((k + i:Nat):Int)) t)->Vals ((List.range' k m).map fun i=>V.int (0 + (i:Nat))) l:=by
  intro m
  induction m with
  | zero =>
   intro k l hl _
   have e:l=[]:=List.eq_nil_of_length_eq_zero hl
   subst e
   exact .nil
  | succ m ih =>
   intro k l hl hv
   cases l with
   | nil=>cases hl
   | cons x r =>
    rw [List.range'_succ,List.map_cons]
    obtain⟨t,ht⟩:=hv 0 x rfl
    refine .cons ⟨t,by rw [ht];simp⟩ (ih (k + 1) r (by simpa using hl) fun i v hi=>?_)
    obtain⟨t,ht⟩:=hv (i + 1) v (by simpa using hi)
    exact⟨t,by rw [ht];congr 1;omega⟩
 unfold rngV
 rw [List.range_eq_range']
 refine key n 0 acc.toList (by rw [Array.length_toList];exact h.1) fun i v hi=>?_
 obtain⟨t,ht⟩:=h.2 i v (by rw [← Array.getElem?_toList];exact hi)
 exact⟨t,by rw [ht];congr 1;omega⟩
theorem qc1m{a:Expr}{ta:TA}{p p2 pos pos2:Pos}(hc:X.calm=true) (hg:Gl X "range") (hm:X.mg "range" = none) (hg2:Gl X "list") (hm2:X.mg "list" = none) (ha:PA X [a] ta) (hs:starEach [a] X.env=(false,eval a X.env) :: starEach [] X.env:=by rfl) (hs2:(backTo pos (starEach [] X.env)).any (·.1)=false:=by rfl)
  (hs3:starEach [.Call (.Name "range" p) [a] [] pos] X.env=[(false,eval (.Call (.Name "range" p) [a] [] pos) X.env)]:=by rfl) :
  PE X (.Call (.Name "list" p2) [.Call (.Name "range" p) [a] [] pos] [] pos2) (tCB rListR ta):=by
 intro pins s σ H Q I h
 refine Call_ (qa6c I hg2 hm2 qc5b (PyProof.Rows.callWith_type1 ?_ hs3 (by rfl)))
 rw [hs3]
 show wpAny _ _ (spliced ((false,eval (.Call (.Name "range" p) [a] [] pos) X.env) :: [])) _ _ s
 refine Calls.spliced_cons (Call_ (qa6c I hg hm boot_range (PyProof.Rows.callWith_type1 (thn (ha pos pins s σ H _ I h) fun us s1 hq8=>?_) hs hs2)))
 obtain⟨vs,H1,I1,r1,q1⟩:=hq8
 obtain⟨j,rfl,h0,h1,q⟩:=q1
 obtain⟨u,rfl,t,rfl⟩:=vals1 r1
 refine call_range_1 (Calls.spliced_nil ?_)
 have e2:Builtin.Range.rangeSize 0 j 1=((j.toNat:Nat):Int):=by rw [rangeSize_one];split<;>omega
 refine call_list_range (n:=j.toNat) (I1.ok.hd hc) (IsRange.new ..) (small_one (by omega) (by omega) (by omega) (by omega)) e2 (by show j.toNat <= 16777216;omega) fun h' tk acc c' kp he hacc=>?_
 have hle:(rngV j.toNat).length <= sizeLine:=by unfold rngV;rw [List.length_map,List.length_range,sizeLine_eq];omega
 have ge:s1.heap.objs.size <= (s1.heap.push { cls:=.type "range",data:=.fields #[.int 0 s1.toks,.int j t,.int 1 (s1.toks + 1)] }).objs.size:=by rw [Heap.size_push];exact Nat.le_succ _
 refine⟨.ref _,_,I1.laid (o:=.lst (rngV j.toNat)) (t':=tk) (fun b o x=>kp _ _ (Heap.get?_push_of_some _ x)) ?_ ⟨hle,acc.toList,c',qd0e hacc,he⟩,rfl,q _ (I1.hok.fresh ?_)⟩
 ·show _ <= (s1.heap.push _).objs.size;rw [Heap.size_push];exact Nat.le_succ _
 ·show _ <= (s1.heap.push _).objs.size;rw [Heap.size_push];exact Nat.le_succ _
end
noncomputable def qb6q:FC:=fun ds=>match ds with
 | [.int j]=>if 0 <= j/\j <= 1000000 then some (.list (rngD 0 j.toNat)) else none
 | _=>none
theorem qd3f{j:Int}(h0:0 <= j)(h1:j <= 1000000):qb6q [.int j]=some (.list (rngD 0 j.toNat)):=if_pos ⟨h0,h1⟩
theorem qd0f{K:PySem.W.Frag}{H:Hp}{S:Addr->Prop}(n:Nat):qa0d K H S (rngD 0 n) (rngV n):=by
 unfold rngD rngV
 generalize List.range n=l
 induction l with
 | nil=>unfold qa0d;rfl
 | cons x r ih =>
  rw [List.map_cons,List.map_cons]
  unfold qa0d
  exact⟨_,_,rfl,qa2y _,ih⟩
theorem qd3g{K:PySem.W.Frag}:AdC K rListR qb6q:=by
 intro S H vs ds z Q f h e k
 unfold qb6q at e
 split at e
 ·rename_i j
  split at e
  ·rename_i hx
   cases e
   obtain⟨v,rfl,h1⟩:=h.one
   have ev:=h1.int
   subst ev
   exact⟨j,rfl,hx.1,hx.2,fun p hp=>k _ _ (qa2a hp _) (qa3q (f p hp) qa1d (qd0f _))⟩
  ·cases e
 ·cases e
theorem qd3h{X:Cx}{a:Expr}{daa:TDA}{p p2 pos pos2:Pos}(hc:X.calm=true) (hg:Gl X "range") (hm:X.mg "range" = none) (hg2:Gl X "list") (hm2:X.mg "list" = none) (ha:DA X [a] daa) (hs:starEach [a] X.env=(false,eval a X.env) :: starEach [] X.env:=by rfl) (hs2:(backTo pos (starEach [] X.env)).any (·.1)=false:=by rfl)
  (hs3:starEach [.Call (.Name "range" p) [a] [] pos] X.env=[(false,eval (.Call (.Name "range" p) [a] [] pos) X.env)]:=by rfl) :
  DE X (.Call (.Name "list" p2) [.Call (.Name "range" p) [a] [] pos] [] pos2) (dCB qb6q daa):=by
 obtain⟨ta,pa,aa⟩:=ha
 exact⟨_,qc1m hc hg hm hg2 hm2 pa hs hs2 hs3,ad_cb qd3g aa⟩
end L2
end
section
namespace L2
open PySem PySem.Spec PyProof.Rows
noncomputable def Its(x:Str):It:=⟨fun i _=>i < x.cps.size,fun i H y H'=>H'=H/\∃ c,x.cps[i]? = some c/\y=.str ⟨#[c]⟩,fun i _=>x.cps.size <= i⟩
theorem qd0g{P:Program}{w:World}{K:PySem.W.Frag}{tg:Expr}(it:Addr)(x:Str)(t:Tok):Turn P w K tg (Its x) [it] it (fun i h=>h.IsStrIter it "str_ascii_iterator" x t i) where
 mem:=by simp
 obj:=fun i h st b hb=>by
  have e:b=it:=by simpa using hb
  subst e
  obtain⟨o,e,c,d⟩:=st
  exact⟨o,e,fun v z=>by rw [d] at z;cases z⟩
 keep:=fun i h h' st k=>let ⟨o,ho,r⟩:=st;⟨o,k it (by simp) o ho,r⟩
 item:=by
  intro X hP hw hK hc i pins s σ H E I hf st hg
  subst hP hw hK
  obtain⟨f0,f1,f2,f3,f4,f5⟩:=hf it (by simp)
  refine(Walks.strAscii (prog:=X.prog) (w:=X.w) (I.ok.hd hc) it x t).item i s _ _ hg st fun v h' tk hv st' kk=>?_
  obtain⟨c,u,hcu,rfl⟩:=hv
  have I1:Inv X pins σ H { s with heap:=h',toks:=tk }:=I.turned (fun b o hb e=>kk b o (by simpa using hb) e) f0 f1 f3 f4 f5
  obtain⟨o,e,c1,d⟩:=id st'
  exact⟨_,rfl,go_of (s:={ s with heap:=h',toks:=tk }) e c1 d (by decide) ⟨.str ⟨#[c]⟩,H,I1,⟨u,rfl⟩,⟨rfl,c,hcu,rfl⟩,st',fun b hb=>(hf b hb).1⟩⟩
 done:=by
  intro X hP hw hK hc i pins s σ H E I hf st hg
  subst hP hw hK
  obtain⟨f0,f1,f2,f3,f4,f5⟩:=hf it (by simp)
  have hn:x.cps[i]? = none:=Array.getElem?_eq_none hg
  exact wpAny_pyNext_ascii_end (I.ok.hd hc) st hn fun h' eb=>⟨rfl,I.turned (t':=s.toks) (fun b o hb e=>eb b o hb e) f0 f1 f3 f4 f5⟩
 self:=fun _ _ _ _ _ st h=>wpAny_pyIter_striter_ascii st h
theorem qd0h{P:Program}{w:World}{K:PySem.W.Frag}{tg:Expr}(it:Addr)(x:Str)(t:Tok):Turn P w K tg (Its x) [it] it (fun i h=>h.IsStrIter it "str_iterator" x t i) where
 mem:=by simp
 obj:=fun i h st b hb=>by
  have e:b=it:=by simpa using hb
  subst e
  obtain⟨o,e,c,d⟩:=st
  exact⟨o,e,fun v z=>by rw [d] at z;cases z⟩
 keep:=fun i h h' st k=>let ⟨o,ho,r⟩:=st;⟨o,k it (by simp) o ho,r⟩
 item:=by
  intro X hP hw hK hc i pins s σ H E I hf st hg
  subst hP hw hK
  obtain⟨f0,f1,f2,f3,f4,f5⟩:=hf it (by simp)
  refine(Walks.strWide (prog:=X.prog) (w:=X.w) (I.ok.hd hc) it x t).item i s _ _ hg st fun v h' tk hv st' kk=>?_
  obtain⟨c,u,hcu,rfl⟩:=hv
  have I1:Inv X pins σ H { s with heap:=h',toks:=tk }:=I.turned (fun b o hb e=>kk b o (by simpa using hb) e) f0 f1 f3 f4 f5
  obtain⟨o,e,c1,d⟩:=id st'
  exact⟨_,rfl,go_of (s:={ s with heap:=h',toks:=tk }) e c1 d (by decide) ⟨.str ⟨#[c]⟩,H,I1,⟨u,rfl⟩,⟨rfl,c,hcu,rfl⟩,st',fun b hb=>(hf b hb).1⟩⟩
 done:=by
  intro X hP hw hK hc i pins s σ H E I hf st hg
  subst hP hw hK
  obtain⟨f0,f1,f2,f3,f4,f5⟩:=hf it (by simp)
  have hn:x.cps[i]? = none:=Array.getElem?_eq_none hg
  exact wpAny_pyNext_wide_end (I.ok.hd hc) st hn fun h' eb=>⟨rfl,I.turned (t':=s.toks) (fun b o hb e=>eb b o hb e) f0 f1 f3 f4 f5⟩
 self:=fun _ _ _ _ _ st h=>wpAny_pyIter_striter_wide st h
section
variable{X:Cx}{tg:Expr}
def iStr(tl:TE):TI:=fun σ H R=>tl σ H fun x H1=>∃ z,x=.str z/\R (Its z) H1
theorem pi_str{l:Expr}{tl:TE}(hl:PE X l tl):PI X tg l (iStr tl):=by
 intro pins s σ H R I h
 refine thn (hl pins s σ H _ I h) fun v s1 hq9=>?_
 obtain⟨x,H1,I1,r1,q1⟩:=hq9
 obtain⟨z,rfl,q⟩:=q1
 obtain⟨t,rfl⟩:=r1
 have fp:∀ b ∈ [s1.heap.objs.size],FpOk X pins H1 b:=fun b hb=>by
  have e:b=s1.heap.objs.size:=by simpa using hb
  subst e
  exact I1.fpOk (Nat.le_refl _) (I1.hok.fresh (Nat.le_refl _))
 cases ha:z.cps.all (· < 128) with
 | true=>exact wpAny_pyIter_ascii ha ⟨s1.heap.objs.size,[s1.heap.objs.size],_,_,H1,rfl,I1.kept (t':=s1.toks) fun b o e=>Heap.get?_push_of_some _ e,qd0g _ z t,⟨_,Heap.get?_push_size _ rfl,rfl,rfl⟩,fp,q⟩
 | false=>exact wpAny_pyIter_wide ha ⟨s1.heap.objs.size,[s1.heap.objs.size],_,_,H1,rfl,I1.kept (t':=s1.toks) fun b o e=>Heap.get?_push_of_some _ e,qd0h _ z t,⟨_,Heap.get?_push_size _ rfl,rfl,rfl⟩,fp,q⟩
end
abbrev signs(x:Str):List PyData:=x.cps.toList.map fun c=>.str ⟨#[c]⟩
noncomputable def asSt:PyData->Option Str
 | .str x=>some x
 | _=>none
theorem asSt_s{x:Str}:asSt (.str x)=some x:=rfl
def diStr(de:TDE):TDI:=fun ρ Q=>de ρ fun x ρ1=>need (qa0z ρ1 x) fun d=>need (asSt d) fun z=>Q (signs z) ρ1
section
variable{K:PySem.W.Frag}{H:Hp}{S:Addr->Prop}
theorem qc7i{z:Str}:qb1r K S H (Its z) (signs z):=fun S' H' P=>by
 refine⟨fun i x e=>?_,by simp [Its]⟩
 rw [List.getElem?_map,Array.getElem?_toList] at e
 obtain⟨c,hc,rfl⟩:=Option.map_eq_some_iff.mp e
 refine⟨(Array.getElem?_eq_some_iff.mp hc).1,fun v H'' y=>?_⟩
 obtain⟨rfl,c',hc',rfl⟩:=y
 rw [hc] at hc'
 cases hc'
 exact⟨Same.refl _,qa6z _⟩
theorem ai_str{t:TE}{de:TDE}(h:AdE K t de):AdI K (iStr t) (diStr de):=fun c O ρ σ H Qd Q R q k =>
 h c O ρ σ H _ _ R q fun x ρ1 O1 v H1 h1 R1 P1 a1=>by
  obtain⟨d,e1,hn1⟩:=ne (h1)
  obtain⟨z,e2,h2⟩:=ne (hn1)
  cases d with
  | str z' =>
   cases e2
   exact⟨z,(R1.top a1 e1).str,k _ _ _ _ _ h2 R1 P1 qc7i⟩
  | _=>cases e2
end
theorem di_str{X:Cx}{tg e:Expr}{de:TDE}(h:DE X e de):DI X tg e (diStr de):=by obtain⟨_,p,a⟩:=h;exact⟨_,pi_str p,ai_str a⟩
theorem diStr_a{de:TDE}{ρ:Rho}{Q:List PyData->Rho->Prop}:diStr de ρ Q=(de ρ fun x ρ1=>need (qa0z ρ1 x) fun d=>need (asSt d) fun z=>Q (signs z) ρ1):=rfl
noncomputable def leC(x y:Str):Bool:=decide (x.cps.toList <= y.cps.toList)
def rLeS:R2:=fun x y H Q=>∃ i j,x=.str i/\y=.str j/\Q (.bl (leC i j)) H
theorem qc1n{X:Cx}:OpR X (compareOp .LtE) rLeS:=by
 intro pins s σ H x y v u Q I rx ry h
 obtain⟨i,j,rfl,rfl,q⟩:=h
 obtain⟨t,rfl⟩:=rx
 obtain⟨t',rfl⟩:=ry
 refine P.le_str ⟨.bl _,H,I,?_,q⟩
 show Value.bool _=Value.bool (leC i j)
 congr 1
 unfold leC
 rw [Bool.eq_iff_iff]
 simp [List.not_lt]
noncomputable def fLeS:F2
 | .str i,.str j=>some (.bool (leC i j))
 | _,_=>none
theorem fLeS_s{x y:Str}:fLeS (.str x) (.str y)=some (.bool (leC x y)):=rfl
theorem qc1o{K:PySem.W.Frag}:AdR K rLeS fLeS:=by
 intro S H x y dx dy z Q f hx hy e k
 unfold fLeS at e
 split at e
 ·cases e
  exact⟨_,_,hx.str,hy.str,k _ _ (Same.refl _) (qa2j _)⟩
 ·cases e
section
variable{X:Cx}
noncomputable def rAllB(K:PySem.W.Frag):List V->Hp->VK->Prop:=fun xs H Q=>∃ v S,∃ bs:List Bool,xs=[v]/\AtD K H S (.list (bs.map .bool)) v/\Q (.bl (bs.all id)) H
theorem bools_of_all{K:PySem.W.Frag}{H:Hp}{S:Addr->Prop}:∀ {bs:List Bool} {xs:List V},qa0d K H S (bs.map .bool) xs->xs=bs.map V.bl
 | [],xs,h=>by rw [h.unnil];rfl
 | n :: r,xs,h=>by
  obtain⟨v,vr,rfl,hd,t⟩:=h.uncons
  rw [qa9p hd,bools_of_all t];rfl
theorem qb6r:∀ {bs:List Bool} {us:List Value},Vals (bs.map V.bl) us->us=bs.map Value.bool
 | [],us,h=>by rw [Vals.zero h];rfl
 | x :: r,us,h=>by
  cases h with
  | cons h1 h2 =>
   rw [qb6r h2,List.map_cons]
   congr 1
theorem qb3v(hc:X.calm=true):qa2r X (.builtin "all") (rAllB X.K):=by
 intro pins s σ H xs us Q I rs h
 obtain⟨v,S,bs,rfl,hd,q⟩:=h
 obtain⟨u,rfl,r⟩:=vals1 rs
 obtain⟨a,ys,rfl,_,hq,t⟩:=qa5c hd
 cases r
 have ey:=bools_of_all t
 subst ey
 obtain⟨its,rv,pl,hz⟩:=I.list (SqL.of hq)
 have ei:=qb6r rv
 subst ei
 have la:a < s.heap.objs.size:=Heap.lt_size pl.isList.choose_spec.1
 refine call_all_walk (wpAny_pyIter_list pl.isList ⟨s.heap.objs.size,_,_,_,_,_,fun i=>bs.getD i true,rfl,Walks.list (by simpa using I.ok.hd hc) s.heap.objs.size a (Nat.ne_of_lt la) (bs.map Value.bool).toArray,⟨⟨_,Heap.get?_push_size _ rfl,rfl,rfl⟩,pl.isList.push _⟩,fun i v s' Q' E' hP hQ=>?_,fun h' tk hk=>?_⟩)
 ·have hP:(bs.map Value.bool).toArray[i]? = some v:=hP
  rw [List.getElem?_toArray,List.getElem?_map] at hP
  obtain⟨b,hb,rfl⟩:=Option.map_eq_some_iff.mp hP
  have e:bs.getD i true=b:=by rw [List.getD_eq_getElem?_getD,hb];rfl
  have hQ:Q' (bs.getD i true) s':=hQ
  rw [e] at hQ
  exact wpAny_truthy_bool hQ
 ·have e:((List.range (bs.map Value.bool).toArray.size).all fun i=>bs.getD i true)=bs.all id:=by
   rw [List.size_toArray,List.length_map,Bool.eq_iff_iff,List.all_eq_true,List.all_eq_true]
   constructor
   ·intro h b hb
    obtain⟨i,hi,rfl⟩:=List.getElem_of_mem hb
    have:=h i (List.mem_range.mpr hi)
    rw [List.getD_eq_getElem?_getD,List.getElem?_eq_getElem hi] at this
    exact this
   ·intro h i hi
    have hi':=List.mem_range.mp hi
    rw [List.getD_eq_getElem?_getD,List.getElem?_eq_getElem hi']
    exact h _ (List.getElem_mem hi')
  rw [e]
  refine⟨.bl _,H,I.kept fun b o e=>hk b o ?_ (Heap.get?_push_of_some _ e),rfl,q⟩
  rw [List.mem_singleton]
  exact Nat.ne_of_lt (Heap.lt_size e)
end
noncomputable def qb0h:List PyData->Option (List Bool)
 | []=>some []
 | .bool b :: r=>(qb0h r).map (b :: ·)
 | _ :: _=>none
theorem qb9b:∀ bs:List Bool,qb0h (bs.map .bool)=some bs
 | []=>rfl
 | x :: r=>by show(qb0h (r.map .bool)).map (x :: ·)=_;rw [qb9b r];rfl
theorem qb6s:∀ {xs:List PyData} {bs:List Bool},qb0h xs=some bs->xs=bs.map .bool
 | [],bs,h=>by cases h;rfl
 | .bool x :: r,bs,h=>by
  have h':(qb0h r).map (x :: ·)=some bs:=h
  obtain⟨qs,h1,rfl⟩:=Option.map_eq_some_iff.mp h'
  rw [qb6s h1];rfl
noncomputable def fAllB:FC:=fun ds=>match ds with
 | [.list xs]=>(qb0h xs).map fun bs=>.bool (bs.all id)
 | _=>none
theorem qb5u(bs:List Bool):fAllB [.list (bs.map .bool)]=some (.bool (bs.all id)):=by
 show(qb0h (bs.map .bool)).map _=_
 rw [qb9b];rfl
theorem qb7r{K:PySem.W.Frag}:AdC K (rAllB K) fAllB:=by
 intro S H vs ds z Q f h e k
 unfold fAllB at e
 split at e
 ·rename_i xs
  obtain⟨bs,q1,rfl⟩:=Option.map_eq_some_iff.mp e
  obtain⟨v,rfl,h1⟩:=h.one
  have e1:=qb6s q1
  subst e1
  exact⟨v,Any,bs,rfl,h1.any,k _ _ (Same.refl _) (qa2j _)⟩
 ·cases e
end L2
end
section
namespace L2
open PySem PySem.Spec PyProof.Rows
section
variable{X:Cx}
end
end L2
end
section
namespace L2
open PySem PySem.Spec PyProof.Rows
theorem qb9j(l:Addr)(items:Array Value)(n:Nat)(b:Addr)(items2:Array Value)(n2:Nat)(hc0:(items.size != items2.size)=true) :
  Meets (Builtin.«list.__eq__» ⟨[.ref l,.ref b],[]⟩) (fun _ R s=>s.heap.get? l=some ⟨.type "list",none,.seq items n,#[]⟩/\s.heap.get? b=some ⟨.type "list",none,.seq items2 n2,#[]⟩/\R (.ok (.ret (Value.bool false))) { s with heap:=s.heap,toks:=s.toks }):=
 .of_wp fun prog w A R s h=>by
  obtain⟨hp,g,d,tk,os⟩:=s;obtain⟨hl,hb,h⟩:=h;have f3:=AutoSeq1.sub_list_list
  wp_walk using wpAny_loadPart' hl,wpAny_loadPart' hb
  exact⟨_,rfl,h⟩
section
variable{X:Cx}
def rEqS:R2:=fun x y H Q=>∃ a b vs,x=.ref a/\y=.ref b/\H a=some (.lst vs)/\vs ≠ []/\H b=some (.lst [])/\Q (.bl false) H
theorem op_eqS(hu:X.A.units + 64 < cLine):OpR X (compareOp .Eq) rEqS:=by
 intro pins s σ H x y v u Q I rx ry h
 obtain⟨a,b,vs,rfl,rfl,ha,hne,hb,q⟩:=h
 cases rx;cases ry
 obtain⟨z,its,n,r,hl,e⟩:=I.lstM ha
 obtain⟨z2,its2,n2,r2,hl2,e2⟩:=I.lstM hb
 have h2:its2=[]:=r2.zero
 subst h2
 have hs:(its.toArray.size != (#[]:Array Value).size)=true:=by
  cases its with
  | nil=>exact absurd (List.length_eq_zero_iff.mp (by rw [hl];rfl)) hne
  | cons _ _=>simp
 have main:wpAny (model X.prog X.w) X.A (richCompare .Eq (.ref a) (.ref b)) (EP X pins σ Q) X.xe s:=
  richCompare_meets_room (op:=.Eq) ⟨_,e,rfl⟩ ⟨_,e2,rfl⟩ PySem.F.slot_list_eq PySem.F.entry_list_eq (PySem.F.args_list_eq_2 _ _) (qb9j a its.toArray n b #[] n2 hs) ⟨e,e2,by nofun,.bl false,H,I,rfl,q⟩ (by omega)
 exact main
end
noncomputable def fEqN:F2:=fun x y=>match x,y with
 | .list xs,.list []=>some (.bool xs.isEmpty)
 | _,_=>none
theorem fEqN_l{xs:List PyData}:fEqN (.list xs) (.list [])=some (.bool xs.isEmpty):=rfl
theorem ad_eqN{K:PySem.W.Frag}:AdR K (fun x y H Q=>rEqS x y H Q ∨ rEqD K false x y H Q) fEqN:=by
 intro S H x y dx dy z Q f hx hy e k
 unfold fEqN at e
 split at e
 ·rename_i xs
  cases e
  obtain⟨b,ws2,rfl,h3,h4⟩:=hy.list
  cases h4.unnil
  cases xs with
  | nil=>exact .inr ⟨Any,Any,.list [],.list [],hx.any,hy.any,by decide,by decide,k _ _ (Same.refl _) (qa2j _)⟩
  | cons d r =>
   obtain⟨a,ws,rfl,h1,h2⟩:=hx.list
   refine .inl ⟨a,b,ws,rfl,rfl,h1,?_,h3,k _ _ (Same.refl _) (qa2j _)⟩
   rintro rfl
   have:=h2.length
   cases this
 ·cases e
end L2
end
section
namespace L2
open PySem PySem.Spec PyProof.Rows
noncomputable def qa8z:PyData->Option Key
 | .int i=>some (.inl i)
 | .str x=>some (.inr x)
 | _=>none
theorem qc1p{K:PySem.W.Frag}{H:Hp}{S:Addr->Prop}{d:PyData}{v:V}{k:Key}(h:AtT K H S d v)(e:qa8z d=some k):v=kV k:=by
 cases d with
 | int i=>cases e;exact h.int
 | str x=>cases e;exact h.str
 | _=>cases e
structure PinK(K:PySem.W.Frag)(c:Rc)(p:Addr)(ν:List (Key × V))(i:Nat)(O:Own)(ρ:Rho)(σ:St)(H:Hp):Prop where
 rel:Rel K (c.reb O p H) O ρ σ H
 at_:H p=some (.dK ν)
 slot:σ[i]? = some (some (.ref p))
 nul:ρ[i]? = some none
 bA:∀ j q,O j=some q->c.A q
 bS:∀ b o,¬ c.M b->c.H0 b=some o->H b=some o
 bK:∀ b,c.H0 b ≠ none->H b ≠ none
 bM:∀ q,c.M q->∃ vs,H q=some (.lst vs)
 am:∀ q,c.A q->c.M q ∨ c.H0 q=none
 frs:∀ q,c.H0 q=none->c.S q
 fr0:c.H0 p=none
 np:¬ c.P p
section
variable{K:PySem.W.Frag}{c:Rc}{O O1:Own}{ρ ρ1:Rho}{σ σ1:St}{H H1 H2:Hp}{p:Addr}{ν μ:List (Key × V)}{i:Nat}
theorem PinK.notO(P:PinK K c p ν i O ρ σ H)(j:Nat):O j ≠ some p:=fun e=>by
 obtain⟨_,vs,h⟩:=P.rel.has j p e
 rw [P.at_] at h;cases h
theorem PinK.stays(P:PinK K c p ν i O ρ σ H)(R:Rel K (c.reb O p H) O1 ρ1 σ1 H1):H1 p=some (.dK ν):=R.same p _ (fun hq8=>by obtain⟨j,e⟩:=hq8;exact P.notO j e) P.at_
theorem PinK.step(P:PinK K c p ν i O ρ σ H)(R:Rel K (c.reb O p H) O1 ρ1 σ1 H1)(hs:σ1[i]? = some (some (.ref p)))(hn:ρ1[i]? = some none)(ne:∀ b,b ≠ p->H2 b=H1 b)(h2:H2 p=some (.dK μ)) :
  PinK K c p μ i O1 ρ1 σ1 H2/\Pers K (live (c.reb O p H) O1) H1 (live (c.reb O1 p H2) O1) H2:=by
 have h1:=P.stays R
 have kp:Keep (live (c.reb O p H) O1) H1 H2:=⟨fun b ws e=>by rw [ne b (qa8p e h1 (by intro z;cases z))];exact e,fun b o u e=>by rw [ne b (qa8p e h1 (by intro z;cases z))];exact e,fun b o hl e=>by rw [ne b (fun z=>hl.2.1 (.inr z))];exact e⟩
 have hp:Pers K (live (c.reb O p H) O1) H1 (live (c.reb O1 p H2) O1) H2:=.of kp fun a z=>z
 have ho:∀ j q vs,O1 j=some q->H1 q=some (.lst vs)->H2 q=some (.lst vs):=fun j q vs _ e=>by rw [ne q (qa8p e h1 (by intro z;cases z))];exact e
 have nn:∀ q,H2 q=none->q ≠ p/\H1 q=none:=fun q z=>by
  have:q ≠ p:=by rintro rfl;rw [h2] at z;cases z
  exact⟨this,by rw [← ne q this];exact z⟩
 refine⟨⟨R.to (fun _=>rfl) (fun _ _ _ z=>z) rfl rfl hp ho (fun j q e _=>⟨j,e⟩) (fun q z=>.inl z) (fun q z=>R.frs q (R.free0 (nn q z).2)) (fun b o _ z=>z) (fun b z=>z) (fun q ⟨j,e⟩=>?_) (fun q z w=>R.pin q z (nn q w).2) (fun _=>rfl) (R.sc.keep kp),h2,hs,hn,fun j q e=>?_,fun b o nM e=>?_,fun b z w=>?_,fun q z=>?_,P.am,P.frs,P.fr0,P.np⟩,hp⟩
 ·obtain⟨_,vs,e'⟩:=R.has j q e
  exact⟨vs,ho j q vs e e'⟩
 ·obtain⟨j',e'⟩:=(R.has' j q e).1
  exact P.bA j' q e'
 ·have hb:b ≠ p:=by rintro rfl;rw [P.fr0] at e;cases e
  rw [ne b hb]
  refine R.same b o (fun hq8=>?_) (P.bS b o nM e)
  obtain⟨j,e'⟩:=hq8
  rcases P.am b (P.bA j b e') with z | z
  ·exact nM z
  ·rw [e] at z;cases z
 ·obtain⟨_,w'⟩:=nn b w
  exact R.kept b (P.bK b z) w'
 ·have hq:∃ vs,H1 q=some (.lst vs):=by
   by_cases hj:∃ j,O j=some q
   ·exact R.ml q hj
   ·obtain⟨vs,e⟩:=P.bM q z
    exact⟨vs,R.same q _ hj e⟩
  obtain⟨vs,e⟩:=hq
  exact⟨vs,by rw [ne q (qa8p e h1 (by intro z;cases z))];exact e⟩
theorem PinK.start(R:Rel K c O ρ σ H)(hi:i < ρ.length)(hp:H p=none) :
  PinK K c p ν i (qa4b O i) (ρ.set i none) (σ.set i (some (.ref p))) (upd H p (.dK ν))/\Pers K (live c O) H (live (c.reb (qa4b O i) p (upd H p (.dK ν))) (qa4b O i)) (upd H p (.dK ν)):=by
 obtain⟨R1,P1⟩:=R.setD (x:=.none) (v:=.non) hi qb0d
 have R2:=R1.forget (i:=i)
 rw [List.set_set] at R2
 have hn:(ρ.set i none)[i]? = some none:=List.getElem?_set_self hi
 have R3:=R2.poke (v:=.ref p) hn
 rw [List.set_set] at R3
 obtain⟨R4,P4⟩:=R3.lay (o:=.dK ν) hp
 have fr0:c.H0 p=none:=R.free0 hp
 refine⟨⟨R4.to (fun _=>rfl) (fun _ _ _ z=>z) rfl rfl (.of (Keep.refl _ _) fun a z=>z) (fun _ _ _ _ q=>q) (fun j q e _=>⟨j,e⟩) (fun q z=>.inl z) (fun q z=>R4.frs q (R4.free0 z)) (fun b o _ z=>z) (fun b z=>z) (fun q hq8=>by obtain⟨j,e⟩:=hq8;exact(R4.has j q e).2) R4.pin (fun _=>rfl) R4.sc,
  qa1d,List.getElem?_set_self (by rw [R.len];exact hi),hn,fun j q e=>(R4.has' j q e).1,R4.same,R4.kept,R4.ml,R4.am,R4.frs,fr0,fun z=>R.pin p (.inl z) hp⟩,(P1.trans P4).trans (.of (Keep.refl _ _) fun a z=>z)⟩
theorem PinK.finish{kvs:List (PyData × PyData)}(P:PinK K c p ν i O ρ σ H)(hk:qa0l K H (live (c.reb O p H) O) kvs ν):Rel K c (qa4b O i) (ρ.set i (some (.d (.dict kvs)))) σ H/\Pers K (live (c.reb O p H) O) H (live c (qa4b O i)) H:=by
 have R1:Rel K (c.add p) O ρ σ H:=P.rel.to (fun _=>rfl) (fun _ _ _ z=>z) rfl rfl (.of (Keep.refl _ _) fun a z=>z) (fun _ _ _ _ q=>q) (fun j q e _=>P.bA j q e) P.am P.frs P.bS P.bK P.bM P.rel.pin (fun _=>rfl) P.rel.sc
 obtain⟨R2,P2⟩:=R1.unadd
 have hi:i < ρ.length:=(List.getElem?_eq_some_iff.mp P.nul).1
 obtain⟨R3,P3⟩:=R2.setD (i:=i) (x:=.dict kvs) (v:=.ref p) hi (qa8b ⟨P.frs p P.fr0,P.np,P.notO⟩ P.at_ ((Pers.trans (.of (Keep.refl _ _) fun a z=>z) P2).kvs hk))
 have e:σ.set i (some (.ref p))=σ:=by
  refine List.ext_getElem? fun j=>?_
  by_cases hj:j=i
  ·subst hj
   rw [List.getElem?_set_self (List.getElem?_eq_some_iff.mp P.slot).1,P.slot]
  ·exact List.getElem?_set_ne (Ne.symm hj)
 rw [e] at R3
 exact⟨R3,(Pers.trans (.of (Keep.refl _ _) fun a z=>z) P2).trans P3⟩
end
section
variable{K:PySem.W.Frag}
end
section
variable{X:Cx}{iter kE vE tg:Expr}{rest:List Stmt}{di:TDI}{dg:TDG}{dk dv:TDE}{du:TDS}{x y z:Str}{pos p1 p2 p3 p4 p5 p6 p7 p8 p9 p10 p11 p12 p13:Pos}
end
section
variable{X:Cx}
end
theorem qb2n(k:Key):qa8z (keyD k)=some k:=by cases k<;>rfl
end L2
end
section
namespace L2
open PySem PySem.Spec PyProof.Rows
noncomputable def kD(q:Key × PyData):PyData × PyData:=(keyD q.1,q.2)
noncomputable def putA(ν:List (Key × PyData))(k:Key)(d:PyData):List (Key × PyData):=if (ν.any fun q=>decide (q.1=k))=true then ν.map (fun q=>if q.1=k then(q.1,d) else q) else ν ++ [(k,d)]
noncomputable def foldA(μ ν:List (Key × PyData)):List (Key × PyData):=ν.foldl (fun acc q=>putA acc q.1 q.2) μ
section
variable{K:PySem.W.Frag}{H:Hp}{S:Addr->Prop}
theorem qa0l.any_eq{k:Key}:∀ {ν:List (Key × PyData)} {κ:List (Key × V)},qa0l K H S (ν.map kD) κ->(κ.any fun q=>decide (q.1=k))=ν.any fun q=>decide (q.1=k)
 | [],κ,h=>by rw [qa0l.unnil h];rfl
 | (a,d) :: r,κ,h=>by
  obtain⟨k',v,t,rfl,e2,_,h2⟩:=qa0l.uncons (x:=keyD a) (d:=d) (r:=r.map kD) h
  have e3:=qb2d e2
  subst e3
  rw [List.any_cons,List.any_cons,qa0l.any_eq h2]
theorem qa0l.repl{k:Key}{d:PyData}{v:V}(hd:AtD K H S d v):∀ {ν:List (Key × PyData)} {κ:List (Key × V)},qa0l K H S (ν.map kD) κ->qa0l K H S ((ν.map fun q=>if q.1=k then(q.1,d) else q).map kD) (κ.map fun q=>if q.1=k then(q.1,v) else q)
 | [],κ,h=>by rw [qa0l.unnil h];exact .nil
 | (a,d') :: r,κ,h=>by
  obtain⟨k',v',t,rfl,e2,h1,h2⟩:=qa0l.uncons (x:=keyD a) (d:=d') (r:=r.map kD) h
  have e3:=qb2d e2
  subst e3
  rw [List.map_cons,List.map_cons,List.map_cons]
  by_cases c:a=k
  ·rw [if_pos c,if_pos c];exact .cons hd (qa0l.repl hd h2)
  ·rw [if_neg c,if_neg c];exact .cons h1 (qa0l.repl hd h2)
theorem qa0l.snoc{k:Key}{d:PyData}{v:V}(hd:AtD K H S d v):∀ {ν:List (Key × PyData)} {κ:List (Key × V)},qa0l K H S (ν.map kD) κ->qa0l K H S ((ν ++ [(k,d)]).map kD) (κ ++ [(k,v)])
 | [],κ,h=>by rw [qa0l.unnil h];exact .cons hd .nil
 | (a,d') :: r,κ,h=>by
  obtain⟨k',v',t,rfl,e2,h1,h2⟩:=qa0l.uncons (x:=keyD a) (d:=d') (r:=r.map kD) h
  have e3:=qb2d e2
  subst e3
  exact .cons h1 (qa0l.snoc hd h2)
theorem qa0l.put{k:Key}{d:PyData}{v:V}{ν:List (Key × PyData)}{κ:List (Key × V)}(hd:AtD K H S d v)(h:qa0l K H S (ν.map kD) κ):qa0l K H S ((putA ν k d).map kD) (putK κ k v):=by
 unfold putA putK
 rw [h.any_eq]
 split
 ·exact h.repl hd
 ·exact h.snoc hd
theorem qa0l.merge:∀ {ν μ:List (Key × PyData)} {κ κ':List (Key × V)},qa0l K H S (ν.map kD) κ->qa0l K H S (μ.map kD) κ'->qa0l K H S ((foldA μ ν).map kD) (qb1v κ' κ)
 | [],μ,κ,κ',h,h'=>by rw [qa0l.unnil h];exact h'
 | (a,d) :: r,μ,κ,κ',h,h'=>by
  obtain⟨k',v,t,rfl,e2,h1,h2⟩:=qa0l.uncons (x:=keyD a) (d:=d) (r:=r.map kD) h
  have e3:=qb2d e2
  subst e3
  exact qa0l.merge (ν:=r) (μ:=putA μ a d) (κ:=t) (κ':=putK κ' a v) h2 (h'.put h1)
theorem qa0l.len:∀ {kvs:List (PyData × PyData)} {κ:List (Key × V)},qa0l K H S kvs κ->κ.length=kvs.length
 | [],κ,h=>by rw [h.unnil];rfl
 | (x,d) :: r,κ,h=>by
  obtain⟨k',v,t,rfl,_,_,h2⟩:=h.uncons
  rw [List.length_cons,List.length_cons,h2.len]
end
abbrev TDP:=DEnds->Rho->List (Key × PyData)->Prop
def AdP(K:PySem.W.Frag)(i:Nat)(u:TS)(du:TDP):Prop:=∀ (c:Rc) (O0:Own) (H0:Hp) (O:Own) (ρ:Rho) (σ:St) (H:Hp) (D:Ends) (Dd:DEnds) (p:Addr) (κ:List (Key × V)) (ν:List (Key × PyData)),
 PinK K c p κ i O ρ σ H->qa0l K H (live (c.reb O p H) O) (ν.map kD) κ->EndsOk K c (live c O0) H0 D Dd->Pers K (live c O0) H0 (live (c.reb O p H) O) H->du Dd ρ ν->u D σ H
def DPs(X:Cx)(i:Nat)(st:List Stmt)(du:TDP):Prop:=∃ u,PSs X st u/\AdP X.K i u du
noncomputable def notL:PyData->Bool
 | .list _=>false
 | _=>true
section
variable{K:PySem.W.Frag}
theorem ad_pEnd{i:Nat}{u:TS}{du:TDS}(hu:AdS K u du):AdP K i u (fun D ρ ν=>later du D (ρ.set i (some (.d (.dict (ν.map kD)))))):=by
 intro c O0 H0 O ρ σ H D Dd p κ ν P hk E Q h
 obtain⟨R8,P8⟩:=P.finish hk
 exact hu c _ _ σ _ D Dd R8 (E.later (Q.trans P8)) h
end
section
variable{X:Cx}{iter kE vE tg:Expr}{rest:List Stmt}{di:TDI}{dg:TDG}{dk dv:TDE}{du:TDS}{dp:TDP}{x y z:Str}{pos p1 p2 p3 p4 p5 p6 p7 p8 p9 p13:Pos}{i:Nat}
theorem dps_end(h:DSs X rest du):DPs X i rest (fun D ρ ν=>later du D (ρ.set i (some (.d (.dict (ν.map kD)))))):=by
 obtain⟨u,pu,au⟩:=h
 exact⟨u,pu,ad_pEnd au⟩
end
section
variable{X:Cx}
end
noncomputable def getA:List (PyData × PyData)->Key->Option PyData
 | [],_=>none
 | q :: r,k=>if qa8z q.1=some k then some q.2 else getA r k
noncomputable def fGetA:F2:=fun x y=>match x with
 | .dict kvs=>(qa8z y).bind fun k=>getA kvs k
 | _=>none
section
variable{K:PySem.W.Frag}{H:Hp}{S:Addr->Prop}
theorem qa0l.get(k:Key):∀ {kvs:List (PyData × PyData)} {κ:List (Key × V)},qa0l K H S kvs κ->(getA kvs k=none/\valV κ k=none) ∨ ∃ d v,getA kvs k=some d/\valV κ k=some v/\AtD K H S d v
 | [],κ,h=>by rw [h.unnil];exact .inl ⟨rfl,rfl⟩
 | (x,d) :: r,κ,h=>by
  obtain⟨a,v,t,rfl,rfl,h1,h2⟩:=h.uncons
  by_cases c:a=k
  ·subst c
   exact .inr ⟨d,v,if_pos (qb2n a),qb2k rfl,h1⟩
  ·rw [qb2l (p:=(a,v)) c,show getA ((keyD a,d) :: r) k=getA r k from if_neg (by rw [qb2n];exact fun z=>c (Option.some.inj z))]
   exact qa0l.get k h2
theorem ad_getA{ta tb:TE}{da db:TDE}(ha:AdE K ta da)(hb:AdE K tb db):AdE K (tDGet ta tb) (dOp fGetA da db):=by
 intro c O ρ σ H Qd Q R h k
 refine ha c O ρ σ H _ _ R h fun x ρ1 O1 v H1 h1 R1 P1 a1=>?_
 refine hb c O1 ρ1 σ H1 _ _ R1 h1 fun y ρ2 O2 u H2 h2 R2 P2 a2=>?_
 obtain⟨dx,e1,hn2⟩:=ne (h2)
 obtain⟨dy,e2,hn4⟩:=ne (hn2)
 obtain⟨z,e3,h3⟩:=ne (hn4)
 have t1:=R2.top (a1.pers P2) e1
 have t2:=R2.top a2 e2
 unfold fGetA at e3
 split at e3
 ·rename_i kvs
  obtain⟨kk,e5,e3⟩:=Option.bind_eq_some_iff.mp e3
  obtain⟨a,κ,rfl,_,q,t⟩:=t1.dict
  rcases t.get kk with⟨g1,g2⟩ | ⟨d,v,g1,g2,g3⟩
  ·rw [g1] at e3;cases e3
  ·rw [g1] at e3
   cases e3
   refine⟨a,v,rfl,?_,k (.d z) ρ2 O2 v H2 h3 R2 (P1.trans P2) (show AtD K H2 (live c O2) z v from g3)⟩
   rw [qc1p t2 e5]
   have g:=DGet.k (k:=kk) q
   rw [g2] at g
   exact g
 ·cases e3
end
theorem de_getA{X:Cx}{a b:Expr}{da db:TDE}{pos:Pos}(hu:X.A.units + 64 < cLine)(ha:DE X a da)(hb:DE X b db)(hs:NoSl b):DE X (.Subscript a b pos) (dOp fGetA da db):=by
 obtain⟨ta,pa,aa⟩:=ha
 obtain⟨tb,pb,ab⟩:=hb
 exact⟨_,pe_dget (by omega) pa pb hs,ad_getA aa ab⟩
end L2
end
section
namespace Sx
open PySem
end Sx
end
section
namespace Sx
open PySem
section
variable{prog:Program}{w:World}{K:Type}[DecidableEq K]{knd:KeyKind prog w K}{dec:Value->K}
variable{A:Around}{E:Value->Shared->Prop}{s:Shared}
end
end Sx
end
section
namespace Sx
open PySem
section
variable{prog:Program}{w:World}{K:Type}[DecidableEq K]{knd:KeyKind prog w K}{dec:Value->K}
variable{A:Around}{E:Value->Shared->Prop}{s:Shared}
end
end Sx
end
section
namespace Sx
open PySem
section
variable{prog:Program}{w:World}{K:Type}[DecidableEq K]{knd:KeyKind prog w K}{dec:Value->K}
variable{A:Around}{E:Value->Shared->Prop}{s:Shared}
end
end Sx
end
section
namespace Sx
open PySem
section
variable{prog:Program}{w:World}{K:Type}[DecidableEq K]{knd:KeyKind prog w K}{dec:Value->K}
variable{A:Around}{E:Value->Shared->Prop}{s:Shared}
end
end Sx
end
section
namespace L2
open PySem PySem.Spec PyProof.Rows
section
variable{X:Cx}{a b:Expr}{ta tb:TA}{p p' p2 pos pos' pos2 posB:Pos}
end
section
variable{X:Cx}{a b:Expr}{daa dab:TDA}{p p' p2 pos pos' pos2 posB:Pos}
end
end L2
end
section
namespace L2
open PySem PySem.Spec PyProof.Rows
theorem qd3i:typeLookup (.type "tuple") "keys" = pure none:=am_miss_of_fast (by kernel_rfl)
theorem qc7j{prog:Program}{w:World}{A:Around}{E:Value->Shared->Prop}{s:Shared}{a:Addr}{xs:Array Value}{k:Nat}{sl:Array (Option Value)}{Q:Option Value->Shared->Prop}
  (hx:s.heap.get? a=some ⟨.type "tuple",none,.seq xs k,sl⟩) (hA:A.handled=none)
  (h:∀ h' tk,(∀ b o,s.heap.get? b=some o->h'.get? b=some o)->Q none { s with heap:=h',toks:=tk }):wpAny (model prog w) A (getAttr? (.ref a) "keys") Q E s:=by
 obtain⟨hp,g,d,tk,os⟩:=s
 have hT:∀ tk',(⟨hp,g,d,tk',os⟩:Shared).TypeIs (.ref a) "tuple":=fun _=>⟨_,hx,rfl⟩
 have f1:=sub_AttributeError
 have f3:=F.slot_tuple_getattribute.lookup
 have f4:=F.slot_tuple_getattribute.bind (.ref a)
 have f5:=am_tuple_getattr_none
 unfold getAttr? getAttrBy? getAttrBy
 repeat (any_goals (first
  | assumption
  | exact hT _
  | ((with_reducible show wpAny _ _ (call (Value.builtin "tuple.__getattribute__") _ _) _ _ _);refine call_meets F.slot_tuple_getattribute (hT _) am_entry_tuple_getattribute (F.args_tuple_getattribute_2 _ _) (meets_getattribute_miss_tuple a xs k sl "keys" _ qd3i rfl (by decide)) ⟨hx,hA,fun h' tk' e hx'=>?_⟩)
  | wp_step))
 obtain⟨t',u',he⟩:=hx'.there
 show wpAny _ _ (getattributeRaised _ _ _ _ _ _ _) _ _ _
 unfold getattributeRaised
 repeat (any_goals (first | assumption | wp_step))
 exact h h' tk' hx'.of.keeps
noncomputable def kS(q:Str × V):Key × V:=(Sum.inr q.1,q.2)
noncomputable def foldQ(ps:List (Str × V)):List (Key × V):=qb1v [] (ps.map kS)
theorem qc7k(ps:List (Str × V))(p:Str × V):foldQ (ps ++ [p])=putK (foldQ ps) (Sum.inr p.1) p.2:=by
 unfold foldQ qb1v;rw [List.map_append,List.foldl_append];rfl
theorem putK_le(ν:List (Key × V))(k:Key)(v:V):(putK ν k v).length <= ν.length + 1:=by
 unfold putK
 split
 ·rw [List.length_map];exact Nat.le_succ _
 ·rw [List.length_append,List.length_singleton];exact Nat.le_refl _
theorem qc1q(ps:List (Str × V)):(foldQ ps).length <= ps.length:=by
 have go:∀ (ps ν:List (Key × V)),(qb1v ν ps).length <= ν.length + ps.length:=by
  intro ps
  induction ps with
  | nil=>intro ν;exact Nat.le_refl _
  | cons p r ih =>
   intro ν
   have h1:=ih (putK ν p.1 p.2)
   have h2:=putK_le ν p.1 p.2
   have e:qb1v ν (p :: r)=qb1v (putK ν p.1 p.2) r:=rfl
   rw [e,List.length_cons]
   omega
 have h:=go (ps.map kS) []
 rw [List.length_nil,Nat.zero_add,List.length_map] at h
 exact h
def PairsV(ps:List (Str × V))(D:Addr)(wr:List Addr)(items:Array Value)(h:Heap):Prop:=∀ (i:Nat) (v:Value),items[i]? = some v->∃ (a:Addr) (o:Obj) (c:Nat) (p:Str × V) (t:Tok) (u:Value),ps[i]? = some p/\v=.ref a/\a ≠ D/\a ∉ wr/\h.get? a=some o/\o.cls=.type "tuple" /\ o.data=.seq #[.str p.1 t,u] c/\RelV p.2 u
section
variable{prog:Program}{w:World}{A:Around}{R:Result->Shared->Prop}{I:Addr}{fp wr:List Addr}{G:Array GenState->Array GenState->Prop}{St:Nat->Shared->Prop}{items:Array Value}{ps:List (Str × V)}
theorem qc3k(W:WalksS prog w A.in1 I fp wr G items.size (fun i v=>items[i]? = some v) St)(D:Addr)(hDf:D ∉ fp)(hl:items.size <= 1000) :
  ∀ (m i:Nat) (s:Shared) (vs:List (Key × Value)),items.size - i=m->i <= items.size->St i s->PairsV ps D wr items s.heap->s.heap.DictOf (qa1r prog w) D vs->KV (foldQ (ps.take i)) vs ->
   (∀ s' vs',Moved (D :: wr) G s s'->s'.heap.DictOf (qa1r prog w) D vs'->KV (foldQ (ps.take items.size)) vs'->R (.ok (.ret .none)) s') ->
   codeAny (model prog w) A (.builtin "dict.update.loop" ⟨[.ref D,.ref I,rawInt ((i:Nat):Int),.none],[]⟩) R s:=by
 have hDw:D ∉ wr:=fun h=>hDf (W.sub _ h)
 have up:∀ b ∈ wr,b ∈ D :: wr:=fun b hb=>List.mem_cons_of_mem _ hb
 intro m
 induction m with
 | zero =>
  intro i s vs hm hi st tp dd kv fin
  have hin:i=items.size:=by omega
  subst hin
  refine codeAny_builtin qb6p ?_
  rw [Around.under_plainId qa8y _]
  show wpAny _ A.in1 (pyNext (.ref I) >>= _) _ _ s
  refine wpAny_bind (W.done s _ _ st fun s' mv=>?_)
  refine wpAny_bind (wpAny_pure (wpAny_pure (fin s' vs (mv.mono up) ?_ kv)))
  obtain⟨o,es,ep,ho,rest⟩:=dd
  exact⟨o,es,ep,mv.heap D _ hDw ho,rest⟩
 | succ m ih =>
  intro i s vs hm hi st tp dd kv fin
  have hlt:i < items.size:=by omega
  refine codeAny_builtin qb6p ?_
  rw [Around.under_plainId qa8y _]
  show wpAny _ A.in1 (pyNext (.ref I) >>= _) _ _ s
  refine wpAny_bind (W.item i s _ _ hlt st fun v s' hv st' mv=>?_)
  obtain⟨a,o,c,p,t,u,hp,rfl,haD,haw,ho,hc,hd,ru⟩:=tp i v hv
  have ho':=mv.heap a _ haw ho
  have dd':s'.heap.DictOf (qa1r prog w) D vs:=by
   obtain⟨o,es,ep,ho,rest⟩:=dd
   exact⟨o,es,ep,mv.heap D _ hDw ho,rest⟩
  have hvl:vs.length <= 1000:=by
   rw [← kv.length]
   have h1:=qc1q (ps.take i)
   have h2:=List.length_take_le i ps
   omega
  refine wpAny_bind (wpAny_holding (wpAny_bind (wpAny_tryCatch ?_)))
  unfold Builtin.Dict.pairItems
  refine wpAny_bind (wpAny_typeOf (T:="tuple") ⟨o,ho',hc⟩ ?_)
  rw [if_pos (show(Value.type "tuple" == Value.type "list" || Value.type "tuple" == Value.type "tuple")=true by decide)]
  unfold seqItems?
  refine wpAny_bind (wpAny_bind (wpAny_load ho' ?_))
  rw [hd]
  refine wpAny_pure (wpAny_pure ?_)
  show wpAny _ A.in1 (holding [Value.str p.1 t,u] (dictSet D (.str p.1 t) u)) _ _ s'
  refine wpAny_holding (wpAny_dictSet_pairs (knd:=qa1r prog w) (k:=Sum.inr p.1) (qb4v prog w p.1 t) dd' (fun h' dd2 hs=>?_) (Nat.le_trans hvl (by rw [sizeLine_eq];decide)))
  have kv2:KV (foldQ (ps.take (i + 1))) (stored vs (Sum.inr p.1) u):=by
   rw [List.take_add_one,hp,Option.toList_some,qc7k]
   exact kv.put (Sum.inr p.1) ru
  refine wpAny_pure ⟨plainId_quiet qa8y _,ih (i + 1) _ _ (by omega) hlt (W.frame _ s' _ _ st' (Nat.le_succ _) fun b hb o e=>?_) (fun j v hv=>?_) dd2 kv2 fun s2 vs2 mv2 dd3 kv3=>?_⟩
  ·rw [hs.2 b (fun h:b=D=>hDf (by rw [← h];exact hb))];exact e
  ·obtain⟨a,o,c,p,t,u,hp,e,haD,haw,ho,hc,hd,ru⟩:=tp j v hv
   exact⟨a,o,c,p,t,u,hp,e,haD,haw,(hs.2 a haD).trans (mv.heap a _ haw ho),hc,hd,ru⟩
  ·refine fin s2 vs2 (Moved.trans W.gtrans ((mv.mono up).then_heap (Nat.le_succ _) fun b o hb e=>?_) mv2) dd3 kv3
   rw [hs.2 b (fun h:b=D=>hb (by rw [h];exact List.mem_cons_self))];exact e
end
section
variable{prog:Program}{w:World}{A:Around}{E:Value->Shared->Prop}{s:Shared}
theorem qc3l{l:Addr}{items:Array Value}{n:Nat}{sl:Array (Option Value)}{ps:List (Str × V)}{Q:Value->Shared->Prop}(hh:A.handled=none) (hl:s.heap.get? l=some ⟨.type "tuple",none,.seq items n,sl⟩) (hsz:items.size <= 1000) (hps:ps.length=items.size)
  (tp:∀ (i:Nat) (v:Value),items[i]? = some v->∃ (a:Addr) (o:Obj) (c:Nat) (p:Str × V) (t:Tok) (u:Value),ps[i]? = some p/\v=.ref a/\s.heap.get? a=some o/\o.cls=.type "tuple" /\ o.data=.seq #[.str p.1 t,u] c/\RelV p.2 u)
  (h:∀ h' tk vs,h'.DictOf (qa1r prog w) s.heap.objs.size vs->KV (foldQ ps) vs->(∀ b o,s.heap.get? b=some o->h'.get? b=some o)->Q (.ref s.heap.objs.size) { s with heap:=h',toks:=tk }) :
  wpAny (model prog w) A (call (.type "dict") [.ref l]) Q E s:=by
 refine callType_codes (Q₁:=fun obj s₁=>obj=.ref s.heap.objs.size/\s₁={ s with heap:=s.heap.push { cls:=.type "dict",data:=.dict #[] } }) F.kt_called_dict (F.kt_typeCall_dict_1 _) F.entry_dict_init (kt_code_dict_new _ ⟨rfl,rfl⟩) ?_
 rintro obj s₁ ⟨rfl,rfl⟩
 have dn:(s.heap.push { cls:=.type "dict",data:=.dict #[] }).DictOf (qa1r prog w) s.heap.objs.size []:=Heap.DictOf.new s.heap
 have hl1:(s.heap.push { cls:=.type "dict",data:=.dict #[] }).get? l=some ⟨.type "tuple",none,.seq items n,sl⟩:=Heap.get?_push_of_some _ hl
 refine⟨dn.typeIs,F.args_dict_init_2 _ _,?_⟩
 unfold Builtin.«dict.__init__» Builtin.Dict.selfAndRest
 refine wpAny_bind (wpAny_bind (wpAny_notOrdered_dict dn.typeIs (wpAny_pure ?_)))
 show wpAny _ _ (Builtin.Dict.updateFrom "dict.__init__" s.heap.objs.size (.ref l) [] .none) _ _ _
 unfold Builtin.Dict.updateFrom
 refine wpAny_bind (wpAny_typeOf (T:="tuple") ⟨_,hl1,rfl⟩ ?_)
 rw [if_pos (show(Value.type "tuple" != Value.type "dict")=true by decide)]
 refine wpAny_bind (qc7j hl1 (by simp [hh]) fun h2 tk2 k2=>?_)
 rw [if_pos (show(Option.isNone (none:Option Value))=true from rfl)]
 refine wpAny_bind (wpAny_rule ?_)
 have hl2:h2.IsTuple l items:=⟨_,k2 _ _ hl1,rfl,n,rfl⟩
 refine wpAny_bind (wpAny_pyIter_tuple hl2 ?_)
 have hlS:l < s.heap.objs.size:=Heap.lt_size hl
 have hN2:s.heap.objs.size < h2.objs.size:=by
  obtain⟨o,_,_,ho,_⟩:=dn
  exact Heap.lt_size (k2 _ _ ho)
 have old:∀ b o,s.heap.get? b=some o->(h2.push { cls:=.type "tuple_iterator",data:=.fields #[.ref l,.int 0 0] }).get? b=some o:=fun b o e=>Heap.get?_push_of_some _ (k2 _ _ (Heap.get?_push_of_some _ e))
 have hneI:l ≠ h2.objs.size:=Nat.ne_of_lt (Nat.lt_trans hlS hN2)
 have hDf:s.heap.objs.size ∉ [h2.objs.size,l]:=by
  simp only [List.mem_cons,List.not_mem_nil,or_false,not_or]
  exact⟨Nat.ne_of_lt hN2,Nat.ne_of_gt hlS⟩
 refine wpAny_pure ⟨plainId_quiet qa8y _,?_⟩
 refine qc3k (ps:=ps) (items:=items) ((Walks.tuple (by simp [hh]) h2.objs.size l hneI items).toS) s.heap.objs.size hDf hsz items.size 0 _ [] (by omega) (Nat.zero_le _) ⟨⟨_,Heap.get?_push_size _ rfl,rfl,rfl⟩,hl2.push _⟩ (fun i v hv=>?_) ?_ .nil fun s' vs' mv dd kv=>?_
 ·obtain⟨a,o,c,p,t,u,h1,h2',h3,h4,h5,h6⟩:=tp i v hv
  have ha:=Heap.lt_size h3
  refine⟨a,o,c,p,t,u,h1,h2',Nat.ne_of_lt ha,?_,old _ _ h3,h4,h5,h6⟩
  rw [List.mem_singleton]
  exact Nat.ne_of_lt (Nat.lt_trans ha hN2)
 ·obtain⟨o,es,ep,ho,rest⟩:=dn
  exact⟨o,es,ep,Heap.get?_push_of_some _ (k2 _ _ ho),rest⟩
 ·obtain⟨h',g',d',tk',os'⟩:=s'
  have eg:g'=s.gens:=mv.gens
  have ed:d'=s.drawn:=mv.drawn
  have eo:os'=s.os:=mv.os
  subst eg;subst ed;subst eo
  rw [← hps,List.take_length] at kv
  refine⟨rfl,h h' tk' vs' dd kv fun b o e=>?_⟩
  have hb:=Heap.lt_size e
  refine mv.heap b o ?_ (old b o e)
  simp only [List.mem_cons,List.not_mem_nil,or_false,not_or]
  exact⟨Nat.ne_of_lt hb,Nat.ne_of_lt (Nat.lt_trans hb hN2)⟩
end
noncomputable def rDictT(K:PySem.W.Frag):List V->Hp->VK->Prop:=fun xs H Q=>∃ a ys,∃ ps:List (Str × V),xs=[.ref a]/\SqT K H a ys/\ys.length=ps.length/\(∀ (i:Nat) y,ys[i]? = some y->∃ b p,ps[i]? = some p/\y=.ref b/\SqT K H b [.str p.1,p.2])/\ps.length <= 1000/\∀ p,H p=none->Q (.ref p) (upd H p (.dK (foldQ ps)))
theorem qc7l{X:Cx}(hc:X.calm=true):qa2r X (.type "dict") (rDictT X.K):=by
 intro pins s σ H xs us Q I rs h
 obtain⟨a,ys,ps,rfl,hq,ly,hps,hz,q⟩:=h
 obtain⟨u,rfl,r⟩:=vals1 rs
 cases r
 obtain⟨its,rv,⟨o,e,⟨hcl,hdi⟩,n,hda⟩,_⟩:=I.tupleP hq
 obtain⟨oc,od,oa,os⟩:=o
 simp only at hcl hdi hda
 subst hcl hdi hda
 have li:its.length=ps.length:=by rw [← rv.length,ly]
 refine qc3l (ps:=ps) (I.ok.hd hc) e (by rw [List.size_toArray];omega) (by rw [List.size_toArray];omega) (fun i v hv=>?_) fun h' tk vs dd kv keep=>?_
 ·rw [List.getElem?_toArray] at hv
  have hi:i < ys.length:=by
   have:=(List.getElem?_eq_some_iff.mp hv).1
   omega
  have hy:ys[i]? = some ys[i]:=List.getElem?_eq_getElem hi
  obtain⟨b,p,e1,e2,sq⟩:=hps i _ hy
  obtain⟨v',hv',rv'⟩:=Vals.get rv hy
  rw [hv] at hv'
  cases hv'
  rw [e2] at rv'
  cases rv'
  obtain⟨jts,rj,⟨o,eo,hcl,c,hdo⟩,_⟩:=I.tuple sq
  obtain⟨w1,w2,rfl,⟨t1,e3⟩,r2⟩:=Vals.two rj
  subst e3
  exact⟨b,o,c,p,t1,w2,e1,rfl,eo,hcl,hdo,r2⟩
 ·have hle:(foldQ ps).length <= sizeLine:=by
   rw [sizeLine_eq]
   have:=qc1q ps
   omega
  exact⟨.ref _,_,I.laid (a:=s.heap.objs.size) (o:=.dK (foldQ ps)) (t':=tk) keep (Nat.le_refl _) ⟨hle,beq_eq_false_iff_ne.mpr (Ne.symm (Nat.ne_of_lt I.big)),vs,kv,dd⟩,rfl,q _ (I.hok.fresh (Nat.le_refl _))⟩
noncomputable def kQ(p:Str × PyData):Key × PyData:=(Sum.inr p.1,p.2)
noncomputable def qb2o(p:Str × PyData):PyData:=.tuple [.str p.1,p.2]
noncomputable def unQ:List PyData->Option (List (Str × PyData))
 | []=>some []
 | .tuple [.str k,d] :: r=>(unQ r).map ((k,d) :: ·)
 | _ :: _=>none
theorem unQ_of:∀ ps:List (Str × PyData),unQ (ps.map qb2o)=some ps
 | []=>rfl
 | (k,n) :: r=>by
  show(unQ (r.map qb2o)).map _=_
  rw [unQ_of r];rfl
theorem qc5w:∀ {xs:List PyData} {ps:List (Str × PyData)},unQ xs=some ps->xs=ps.map qb2o
 | [],ps,h=>by cases h;rfl
 | .tuple [.str k,d] :: r,ps,h=>by
  have h':(unQ r).map ((k,d) :: ·)=some ps:=h
  obtain⟨qs,h1,rfl⟩:=Option.map_eq_some_iff.mp h'
  rw [qc5w h1];rfl
noncomputable def dictQ(ps:List (Str × PyData)):PyData:=.dict ((foldA [] (ps.map kQ)).map kD)
noncomputable def qb6t:FC:=fun ds=>match ds with
 | [.tuple xs]=>(unQ xs).bind fun ps=>if ps.length <= 1000 then some (dictQ ps) else none
 | _=>none
section
variable{K:PySem.W.Frag}{H:Hp}{S:Addr->Prop}
theorem pairs_at:∀ {ps:List (Str × PyData)} {ys:List V},qa0d K H S (ps.map qb2o) ys->∃ qs:List (Str × V),ys.length=qs.length/\qs.length=ps.length/\(∀ (i:Nat) y,ys[i]? = some y->∃ b p,qs[i]? = some p/\y=.ref b/\SqT K H b [.str p.1,p.2])/\qa0l K H S ((ps.map kQ).map kD) (qs.map kS)
 | [],ys,h=>by
  cases h.unnil
  exact⟨[],rfl,rfl,fun i y e=>by simp at e,.nil⟩
 | p :: r,ys,h=>by
  obtain⟨y,t,rfl,h1,h2⟩:=h.uncons
  obtain⟨qs,e1,e2,e3,e4⟩:=pairs_at h2
  obtain⟨b,zs,rfl,sq,az⟩:=qa3u h1
  obtain⟨z1,zr,rfl,a1,a2⟩:=az.uncons
  obtain⟨z2,zr2,rfl,a3,a4⟩:=a2.uncons
  cases a4.unnil
  cases qb3n a1
  refine⟨(p.1,z2) :: qs,by rw [List.length_cons,List.length_cons,e1],by rw [List.length_cons,List.length_cons,e2],fun i y e=>?_,.cons (k:=Sum.inr p.1) a3 e4⟩
  cases i with
  | zero=>cases e;exact⟨b,(p.1,z2),rfl,rfl,sq⟩
  | succ i=>exact e3 i y e
theorem qd3j:AdC K (rDictT K) qb6t:=by
 intro S H vs ds z Q f h e k
 unfold qb6t at e
 split at e
 ·rename_i xs
  cases q:unQ xs with
  | none=>rw [q] at e;cases e
  | some ps =>
   rw [q,Option.bind_some] at e
   split at e
   ·rename_i hz
    cases e
    obtain⟨v,rfl,h1⟩:=h.one
    have ex:=qc5w q
    subst ex
    obtain⟨a,ys,rfl,sq,al⟩:=h1.tup
    obtain⟨qs,e1,e2,e3,e4⟩:=pairs_at al
    refine⟨a,ys,qs,rfl,sq,e1,e3,by omega,fun p hp=>?_⟩
    have sm:=qa2a (H:=H) hp (.dK (foldQ qs))
    exact k _ _ sm (qa8b (f p hp) qa1d (qa0l.mono sm.keep _ _ (qa0l.merge e4 .nil)))
   ·cases e
 ·cases e
noncomputable def fGetD:PyData->List PyData->Option PyData:=fun x ds=>match x,ds with
 | .dict kvs,[.str k,d]=>if notL d=true then some ((getA kvs (Sum.inr k)).getD d) else none
 | _,_=>none
def dGetD(dd:TDE)(da:TDA):TDE:=fun ρ Q=>dd ρ fun x ρ1=>need (qa0z ρ1 x) fun dx=>(∃ kvs,dx=.dict kvs)/\da ρ1 fun ys ρ2=>need (qa0z ρ2 x) fun dx2=>need (qa2s ρ2 ys) fun ds=>need (fGetD dx2 ds) fun z=>Q (.d z) ρ2
theorem AtT.notL{d:PyData}{v:V}(h:AtT K H S d v)(e:notL d=true):AtD K H S d v:=by
 rcases h with h | ⟨ds,a,vs,rfl,_⟩
 ·exact h
 ·cases e
theorem ad_getD{td:TE}{ta:TA}{dd:TDE}{da:TDA}(hd:AdE K td dd)(ha:AdA K ta da):AdE K (tBM K "dict" rGet2 td ta) (dGetD dd da):=by
 intro c O ρ σ H Qd Q R h k
 refine hd c O ρ σ H _ _ R h fun x ρ1 O1 v H1 h1 R1 P1 a1=>?_
 obtain⟨dx,e1,hn2⟩:=ne (h1)
 obtain⟨hz1,h1⟩:=hn2
 obtain⟨kvs,rfl⟩:=hz1
 obtain⟨a,ν,rfl,_,ea,_⟩:=(R1.top a1 e1).dict
 refine⟨.inr (.inr (.inl ⟨rfl,.inl ⟨_,ea⟩⟩)),ha c O1 ρ1 σ H1 _ _ R1 h1 fun ys ρ2 O2 vs H2 h2 R2 P2 a2=>?_⟩
 obtain⟨dx2,e2,hn3⟩:=ne (h2)
 obtain⟨ds,e3,hn4⟩:=ne (hn3)
 obtain⟨z,e4,h2⟩:=ne (hn4)
 have t1:=R2.top (a1.pers P2) e2
 have t2:=R2.tops a2 e3
 unfold fGetD at e4
 split at e4
 ·rename_i kvs2 k' d
  split at e4
  ·rename_i nl
   cases e4
   obtain⟨a',κ,ea',_,eb,tk⟩:=t1.dict
   cases ea'
   obtain⟨v1,v2,rfl,t3,t4⟩:=t2.two
   refine⟨a,_,k',v2,rfl,by rw [t3.str],eb,?_⟩
   rcases tk.get (Sum.inr k') with⟨g1,g2⟩ | ⟨d',v',g1,g2,g3⟩
   ·rw [g1] at h2
    rw [g2]
    exact k _ _ _ _ _ h2 R2 (P1.trans P2) (show AtD K H2 (live c O2) d v2 from t4.notL nl)
   ·rw [g1] at h2
    rw [g2]
    exact k _ _ _ _ _ h2 R2 (P1.trans P2) (show AtD K H2 (live c O2) d' v' from g3)
  ·cases e4
 ·cases e4
end
theorem dGetD_a{d1:TDE}{da:TDA}{ρ:Rho}{Q:DV->Rho->Prop}:dGetD d1 da ρ Q=d1 ρ fun x ρ1=>need (qa0z ρ1 x) fun dx=>(∃ kvs,dx=.dict kvs)/\da ρ1 fun ys ρ2=>need (qa0z ρ2 x) fun dx2=>need (qa2s ρ2 ys) fun ds=>need (fGetD dx2 ds) fun z=>Q (.d z) ρ2:=rfl
section
variable{X:Cx}{e1 e2:Expr}{daa:TDA}{pos:Pos}
theorem de_getD{o:Expr}{dd:TDE}{p2:Pos}(ho:DE X o dd)(ha:DA X [e1,e2] daa)
  (hbase:attributeBase o "get" X.env (eval o X.env)=eval o X.env:=by rfl)
  (hfew:((backTo pos (starEach [e1,e2] X.env)).all (fun x=>!x.1) && (backToKw pos (keywordEach [] X.env)).all (fun x=>x.1.isSome)
   && decide (([e1,e2]:List Expr).length + ([]:List Keyword).length + (if ([]:List Keyword).isEmpty then 0 else 1) < 30))=true:=by rfl)
  (hline:(p2.endLine == pos.line)=true:=by rfl) (hs:starEach [e1,e2] X.env=(false,eval e1 X.env) :: starEach [e2] X.env:=by rfl) (hpl:(backTo pos (starEach [e2] X.env)).any (·.1)=false:=by rfl):DE X (.Call (.Attribute o "get" p2) [e1,e2] [] pos) (dGetD dd daa):=by
 obtain⟨td,pd,ad⟩:=ho
 obtain⟨ta,pa,aa⟩:=ha
 exact⟨_,pe_bm PySem.F.plainAttrs_dict PySem.F.slot_dict_get PySem.F.type_dict_get mt_get2 pd pa hbase hfew hline hs hpl,ad_getD ad aa⟩
end
end L2
end
section
namespace L2
open PySem PySem.Spec PyProof.Rows
section
variable{K:PySem.W.Frag}
theorem ad_pPut{i:Nat}{tk tv:TE}{dk dv:TDE}{u:TS}{du:TDP}(hk:AdE K tk dk)(hv:AdE K tv dv)(hu:AdP K i u du) :
  AdP K i (tSeq (sDPut (tVar i) tk tv) u) (fun D ρ ν=>ν.length < 1000/\dv ρ fun y ρ1=>fz ρ1 y fun dy ρ2=>dk ρ2 fun z ρ3=>ρ3[i]? = some none/\need (qa0z ρ3 z) fun dz=>need (qa8z dz) fun k=>du D ρ3 (putA ν k dy)):=by
 intro c O0 H0 O ρ σ H D Dd p κ ν P hk0 E Q0 h
 obtain⟨hl,h⟩:=h
 show sDPut (tVar i) tk tv { D with nx:=u D } σ H
 refine hv _ _ _ _ _ _ _ P.rel h fun y5 ρ5 O5 v5 H5 h5 R5 P5 a5=>?_
 obtain⟨dy,ρ5',O5',h5,R5',P5',ev⟩:=R5.fz a5 h5
 refine⟨.ref p,P.slot,?_⟩
 refine hk _ _ _ _ _ _ _ R5' h5 fun z6 ρ6 O6 v6 H6 h6 R6 P6 a6=>?_
 obtain⟨hn6,hn2⟩:=h6
 obtain⟨dz,e3,hn3⟩:=ne (hn2)
 obtain⟨k,e4,h6⟩:=ne (hn3)
 have ek:v6=kV k:=qc1p (R6.top a6 e3) e4
 subst ek
 have h6p:=P.stays R6
 have hll:κ.length < 1000:=by rw [hk0.len,List.length_map];exact hl
 refine⟨p,_,rfl,DPut.k (k:=k) h6p (qc7e hll),?_⟩
 obtain⟨P7,Q7⟩:=P.step (H2:=upd H6 p (.dK (putK κ k v5))) (μ:=putK κ k v5) R6 P.slot hn6 (fun b hb=>qa1h hb) qa1d
 have pp:=((P5.trans P5').trans P6).trans Q7
 exact hu c O0 H0 O6 ρ6 σ _ D Dd p _ _ P7 ((pp.kvs hk0).put (Q7 _ _ (P6 _ _ ev))) E (Q0.trans pp) h6
def qc1r(i:Nat)(da:TDA)(dp:TDP):TDS:=fun D ρ=>da ρ fun xs ρ1=>need (qa2s ρ1 xs) fun ds=>i < ρ1.length/\∃ ν:List (Key × PyData),ds=[.dict (ν.map kD)]/\dp D (ρ1.set i none) ν
theorem qd3k{i:Nat}{ta:TA}{da:TDA}{u:TS}{du:TDP}(ha:AdA K ta da)(hu:AdP K i u du):AdS K (tSeq (tAsg (tCB rDict ta) (qa8q i)) u) (qc1r i da du):=by
 intro c O ρ σ H D Dd R E h
 show tAsg (tCB rDict ta) (qa8q i) { D with nx:=u D } σ H
 refine ha c O ρ σ H _ _ R h fun xs ρ1 O1 vs H1 h1 R1 P1 a1=>?_
 obtain⟨ds,e1,hn1⟩:=ne (h1)
 obtain⟨hi,ν,rfl,h1⟩:=hn1
 obtain⟨v,rfl,t1⟩:=(R1.tops a1 e1).one
 obtain⟨a,κ,rfl,_,q,hk⟩:=t1.dict
 refine⟨a,κ,rfl,q,fun p hp=>?_⟩
 obtain⟨P0,Q0⟩:=PinK.start (i:=i) (ν:=κ) R1 hi hp
 exact hu c O H _ _ _ _ D Dd p _ _ P0 (Q0.kvs hk) E (P1.trans Q0) h1
end
section
variable{X:Cx}{kE vE e:Expr}{rest:List Stmt}{daa:TDA}{dk dv:TDE}{dp:TDP}{x:Str}{pos p1 p2 p4 p5 p6 p9:Pos}{i:Nat}
theorem dps_put(hi:X.N[i]? = some x)(hu:X.A.units + 64 < cLine)(hk:DE X kE dk)(hv:DE X vE dv)(hr:DPs X i rest dp)
  (hvs:Vis X.env.scope x:=by first | exact Or.inl rfl | exact Or.inr (Or.inl rfl) | exact Or.inr (Or.inr rfl)) (hd:(x == ("__debug__" : Str))=false:=by decide) (hcd:(x == ("__classdict__" : Str))=false:=by decide)
  (hs2:swapsWith vE (some (.Subscript (.Name x p4) kE p5)) p6.line X.env=pure false:=by rfl) :
  DPs X i (.Assign [.Subscript (.Name x p4) kE p5] vE p6 :: rest) (fun D ρ ν=>ν.length < 1000/\dv ρ fun y ρ1=>fz ρ1 y fun dy ρ2=>dk ρ2 fun z ρ3=>ρ3[i]? = some none/\need (qa0z ρ3 z) fun dz=>need (qa8z dz) fun k=>dp D ρ3 (putA ν k dy)):=by
 obtain⟨tk,pk,ak⟩:=hk
 obtain⟨tv,pv',av⟩:=hv
 obtain⟨u,pu,au⟩:=hr
 exact⟨_,qa3l (ps_dput (by omega) (qb1f hi hvs hd hcd) pk pv' hs2) pu,ad_pPut ak av au⟩
theorem qd3l(hN:X.N.Nodup)(hi:X.N[i]? = some x)(hx:Loc X.env.scope x) (hg:Gl X "dict") (hm:X.mg "dict" = none) (ha:DA X [e] daa) (hr:DPs X i rest dp)
  (he:starEach [e] X.env=(false,eval e X.env) :: starEach [] X.env:=by rfl) (hpl:(backTo pos (starEach [] X.env)).any (·.1)=false:=by rfl)
  (hf:X.fn x=true ∨ X.env.scope.names.lookup x=some .local:=by first | exact .inl rfl | exact .inr rfl)
  (hs1:swapsWith (.Call (.Name "dict" p1) [e] [] pos) (some (.Name x p2)) p9.line X.env=pure false:=by rfl) :
  DSs X (.Assign [.Name x p2] (.Call (.Name "dict" p1) [e] [] pos) p9 :: rest) (qc1r i daa dp):=by
 obtain⟨ta,pa,aa⟩:=ha
 obtain⟨u,pu,au⟩:=hr
 exact⟨_,qa3l (qa8a hN hi hx (qb3k qc7d hg hm qc5c pa (by decide) (by decide) he hpl) hs1 hf) pu,qd3k aa au⟩
end
theorem qd3m{i:Nat}{da:TDA}{dp:TDP}{D:DEnds}{ρ:Rho}:qc1r i da dp D ρ=da ρ fun xs ρ1=>need (qa2s ρ1 xs) fun ds=>i < ρ1.length/\∃ ν:List (Key × PyData),ds=[.dict (ν.map kD)]/\dp D (ρ1.set i none) ν:=rfl
end L2
end
section
namespace L2
open PySem PySem.Spec PyProof.Rows
noncomputable def rReprN(K:PySem.W.Frag):List V->Hp->VK->Prop:=fun xs H Q=>rRepr K xs H Q ∨ (xs=[.non]/\Q (.str "None") H)
theorem qb6u{X:Cx}(hg:X.A.guards=some [])(hu:X.A.units + 80 < cLine):qa2r X (.builtin "repr") (rReprN X.K):=by
 intro pins s σ H xs us Q I rs h
 rcases h with h | ⟨rfl,q⟩
 ·exact qd0d hg hu pins s σ H xs us Q I rs h
 ·obtain⟨u,rfl,r⟩:=vals1 rs
  cases (show u=.none from r)
  exact call_repr_gives (typeIs_none s) F.slot_NoneType_repr F.entry_NoneType_repr (F.args_NoneType_repr_1 _) gives_none_repr ⟨.str _,H,I.tok _,⟨_,rfl⟩,q⟩
noncomputable def qb3w:FC:=fun ds=>match ds with
 | [.none]=>some (.str "None")
 | ds=>fRepr ds
theorem qc1s{K:PySem.W.Frag}:AdC K (rReprN K) qb3w:=by
 intro S H vs ds z Q f h e k
 unfold qb3w at e
 split at e
 ·cases e
  obtain⟨v,rfl,h1⟩:=h.one
  exact .inr ⟨by rw [h1.none],k _ _ (Same.refl _) (qa6z _)⟩
 ·exact .inl (ad_repr _ _ _ _ _ _ f h e k)
theorem qd3n:qb3w [.none]=some (.str "None"):=rfl
theorem qd3o{xs:List PyData}(h:qb0g (.tuple xs)=true):qb3w [.tuple xs]=some (.str (PyData.tuple xs).shown):=fRepr_t h
end L2
end
section
namespace L2
open PySem PySem.Spec PyProof.Rows
section
variable{X:Cx}{pins:List (Addr × Obj)}{σ:List (Option V)}{H:Hp}{s:Shared}
end
end L2
end
section
namespace L2
open PySem PySem.Spec PyProof.Rows
section
variable{fs:List Bool}{y:PyData}{i n:Nat}{ys:List DV}{ρ:Rho}{QLs:List L->Rho->Prop}
theorem pass_fd:pass (false :: fs) (.d y :: ys) ρ QLs=fzL ρ (.d y) fun l ρ1=>pass fs ys ρ1 fun ls ρ2=>QLs (l :: ls) ρ2:=rfl
theorem pass_fs:pass (false :: fs) (.sl i :: ys) ρ QLs=fzL ρ (.sl i) fun l ρ1=>pass fs ys ρ1 fun ls ρ2=>QLs (l :: ls) ρ2:=rfl
theorem flOf_n0:flOf n [] []=[]:=rfl
theorem flOf_fd:flOf n (false :: fs) (.d y :: ys)=flOf (n + 1) fs ys:=rfl
theorem flOf_fs:flOf n (false :: fs) (.sl i :: ys)=flOf (n + 1) fs ys:=rfl
end
end L2
end
section
namespace L2
open PySem PySem.Spec PyProof.Rows
open AutoSeq1 (wpAny_loadPart')
section
variable{X:Cx}
theorem qc7m(l b:Addr)(items items2:Array Value)(n n2:Nat)(dd:Option Addr)(sl:Array (Option Value))(hs0:¬ (!items.isEmpty && Builtin.List.listTooLong (items.size + items2.size))=true)(hs1:items.size <= sizeLine)(hs2:items.size + items2.size <= sizeLine + 1) :
  Meets (Builtin.«list.extend» ⟨[.ref l,.ref b],[]⟩) (fun _ R s=>s.heap.get? l=some ⟨.type "list",none,.seq items n,#[]⟩/\s.heap.get? b=some ⟨.type "list",dd,.seq items2 n2,sl⟩/\R (.ok (.ret Value.none)) { s with heap:=s.heap.update l (Obj.mapSeq fun x=>x ++ items2),toks:=s.toks }):=
 .of_wp fun prog w A R s h=>by
  obtain⟨hp,g,d,tk,os⟩:=s;obtain⟨hl,hb,h⟩:=h
  have room:(items ++ items2).size <= sizeLine + 1:=Nat.le_trans (Nat.le_of_eq Array.size_append) hs2
  wp_walk using (wpAny_updateSeq hl rfl (hz:=hs1) (_hz':=room)),wpAny_loadPart' hl,wpAny_loadPart' hb
  exact⟨_,rfl,h⟩
noncomputable def rExtL(K:PySem.W.Frag):V->List V->Hp->VK->Prop:=fun x vs H Q=>∃ l b xs zs,x=.ref l/\vs=[.ref b]/\H l=some (.lst xs)/\SqL K H b zs/\xs.length + zs.length <= 1000000/\Q .non (upd H l (.lst (xs ++ zs)))
theorem mt_extL:MtM X "list.extend" (rExtL X.K):=by
 intro pins s σ H x vs v us Q I rx rv h
 obtain⟨l,b,xs,zs,rfl,rfl,hH,hB,hz,q⟩:=h
 cases rx
 obtain⟨u,rfl,ru⟩:=rv.one
 cases ru
 obtain⟨z,its,n,r,hl,e⟩:=I.lstM hH
 obtain⟨its2,r2,pl,z2⟩:=I.list hB
 obtain⟨⟨oc,od,oa,os⟩,ho,hc,n2,hd⟩:=pl.isList
 simp only at hc hd
 subst hc hd
 have hl2:=r2.length
 have hsl:=sizeLine_eq
 have hsz:its.toArray.size + its2.toArray.size <= sizeLine:=by rw [List.size_toArray,List.size_toArray];omega
 have hlong:¬ (!its.toArray.isEmpty && Builtin.List.listTooLong (its.toArray.size + its2.toArray.size))=true:=by
  rw [qd1c hsz,Bool.and_false];exact Bool.false_ne_true
 refine call_meets F.slot_list_extend ⟨_,e,rfl⟩ F.entry_list_extend (F.args_list_extend_2 _ _) (qc7m l b its.toArray its2.toArray n n2 od os hlong (by rw [List.size_toArray];omega) (by omega)) ⟨e,ho,?_⟩
 refine⟨.non,_,I.lset (its':=its ++ its2) hH e (by simp) (r.append r2) ?_,rfl,q⟩
 rw [List.length_append];omega
end
section
variable{K:PySem.W.Frag}
def dExtL(i:Nat)(de:TDE):TDE:=fun ρ Q=>need (ownB ρ i) fun _=>de ρ fun x ρ1=>need (qa0z ρ1 x) fun dx=>∃ ys,dx=.list ys/\need (ownB ρ1 i) fun o=>o.2.length + ys.length <= 1000000/\Q (.d .none) (ρ1.set i (some (okL o.1 (o.2 ++ ys))))
theorem ad_extL{i:Nat}{t:TE}{de:TDE}(h:AdE K t de):AdE K (tBM K "list" (rExtL K) (tVar i) (qa8u t tNil)) (dExtL i de):=by
 intro c O ρ σ H Qd Q R q k
 obtain⟨hz1,e,q⟩:=ne (q)
 obtain⟨o,xs⟩:=hz1
 obtain⟨e0,p,vs,hO,hσ,hH,hA⟩:=qb1q R e
 refine⟨.ref p,hσ,.inl ⟨rfl,vs,SqL.of hH⟩,?_⟩
 refine h c O ρ σ H _ _ R q fun x ρ1 O1 v H1 h1 R1 P1 a1=>?_
 obtain⟨dx,e1,hn3⟩:=ne (h1)
 obtain⟨ys,rfl,hn4⟩:=hn3
 obtain⟨hz2,e2,hn5⟩:=ne hn4
 obtain⟨hz,h2⟩:=hn5
 obtain⟨o2,xs2⟩:=hz2
 obtain⟨b,zs,rfl,s1,s2⟩:=(R1.top a1 e1).list
 obtain⟨e3,p2,vs2,hO2,hσ2,hH2,hA2⟩:=qb1q R1 e2
 rw [hσ] at hσ2;cases hσ2
 refine⟨p,b,vs2,zs,rfl,rfl,hH2,SqL.of s1,by rw [hA2.length,s2.length];exact hz,?_⟩
 obtain⟨R3,P3⟩:=R1.writeB hO2 hH2 e3 (hA2.append s2)
 exact k _ _ _ _ _ h2 R3 (P1.trans P3) qc0o
end
section
variable{X:Cx}{e:Expr}{de:TDE}{pos:Pos}
theorem de_extL(i:Nat){x:Str}{p apos:Pos}(hN:X.N[i]? = some x)(he:DE X e de)(hv:Vis X.env.scope x:=by first | exact Or.inl rfl | exact Or.inr (Or.inl rfl) | exact Or.inr (Or.inr rfl)) (hd:(x == ("__debug__" : Str))=false:=by decide)
  (hcd:(x == ("__classdict__" : Str))=false:=by decide) (hs:starEach [e] X.env=[(false,eval e X.env)]:=by rfl)
  (hbase:attributeBase (.Name x p) "extend" X.env (eval (.Name x p) X.env)=eval (.Name x p) X.env:=by rfl)
  (hfew:((backTo pos (starEach [e] X.env)).all (fun x=>!x.1) && (backToKw pos (keywordEach [] X.env)).all (fun x=>x.1.isSome)
   && decide (([e]:List Expr).length + ([]:List Keyword).length + (if ([]:List Keyword).isEmpty then 0 else 1) < 30))=true:=by rfl)
  (hline:(apos.endLine == pos.line)=true:=by rfl):DE X (.Call (.Attribute (.Name x p) "extend" apos) [e] [] pos) (dExtL i de):=by
 obtain⟨te,pe,ae⟩:=he
 exact⟨_,pe_bm PySem.F.plainAttrs_list PySem.F.slot_list_extend PySem.F.type_list_extend mt_extL (qb1f hN hv hd hcd) (qa2l pe qa4q hs) hbase hfew hline hs rfl,ad_extL ae⟩
theorem dExtL_a{i:Nat}{ρ:Rho}{Q:DV->Rho->Prop}{d1:TDE}:dExtL i d1 ρ Q=need (qb0r (ρ[i]?.join)) fun _=>d1 ρ fun x ρ1=>need (qa0z ρ1 x) fun dx=>∃ ys,dx=.list ys/\need (qb0r (ρ1[i]?.join)) fun o=>o.2.length + ys.length <= 1000000/\Q (.d .none) (ρ1.set i (some (okL o.1 (o.2 ++ ys)))):=rfl
end
end L2
end
section
namespace L2
open PySem PySem.Spec PyProof.Rows
end L2
end
section
namespace Tr
variable{N:Type}[DecidableEq N]
inductive Stp (N:Type) where
 | on
 | back
 | one (hs:List N)
 | pool (hs:List N)
inductive Fm (N:Type) where
 | fact (z:N)
 | wish (z:N)
 | neg (a:Fm N)
 | two (c:Bool) (a b:Fm N)
 | mod (c:Bool) (st:Stp N) (a:Fm N)
 | bind (m:Bool) (x:N) (a:Fm N)
 | sho (hs:List N) (a b:Fm N)
structure Mdl(N:Type) where
 n:Nat
 fact:N->Nat->Bool
 move:Nat->Nat->Bool
 same:N->Nat->Nat->Bool
abbrev Vec:=Nat->Bool
abbrev Room(N:Type):=List (List N × Vec)
abbrev Env(N:Type):=N->Vec
noncomputable def blind(M:Mdl N)(r:Room N)(h:N)(p q:Nat):Bool:=M.same h p q && r.all fun e=>!decide (h ∈ e.1) || e.2 p == e.2 q
noncomputable def lead(M:Mdl N)(r:Room N)(st:Stp N)(p q:Nat):Bool:=match st with
 | .on=>M.move p q
 | .back=>M.move q p
 | .one hs=>hs.any fun h=>blind M r h p q
 | .pool hs=>hs.all fun h=>blind M r h p q
noncomputable def iter(F:Vec->Vec):Nat->Vec->Vec
 | 0,X=>X
 | k + 1,X=>iter F k (F X)
noncomputable def upd(e:Env N)(x:N)(X:Vec):Env N:=fun y=>if y=x then X else e y
noncomputable def no:Env N:=fun _ _=>false
noncomputable def ev(M:Mdl N):Fm N->Room N->Env N->Vec
 | .fact z,_,_=>M.fact z
 | .wish z,_,e=>e z
 | .neg a,r,e=>fun p=>!ev M a r e p
 | .two c a b,r,e=>fun p=>if c=true then ev M a r e p && ev M b r e p else ev M a r e p || ev M b r e p
 | .mod c st a,r,e=>fun p=>if c=true then(List.range M.n).all fun q=>!lead M r st p q || ev M a r e q else(List.range M.n).any fun q=>lead M r st p q && ev M a r e q
 | .bind m x a,r,e=>iter (fun X=>ev M a r (upd e x X)) (M.n + 2) fun _=>m
 | .sho hs a b,r,e=>ev M b (r ++ [(hs,ev M a r no)]) no
noncomputable def flip(F:List (N × Bool)):List (N × Bool):=F.map fun q=>(q.1,!q.2)
noncomputable def okS:Stp N->Prop
 | .one hs=>hs ≠ []
 | .pool hs=>hs ≠ []
 | _=>True
noncomputable def Pos:Fm N->List (N × Bool)->Prop
 | .fact _,_=>True
 | .wish x,F=>(x,false) ∈ F
 | .neg a,F=>Pos a (flip F)
 | .two _ a b,F=>Pos a F/\Pos b F
 | .mod _ st a,F=>okS st/\Pos a F
 | .bind _ x a,F=>x ∉ F.map (·.1)/\Pos a (F ++ [(x,false)])
 | .sho _ a b,_=>Pos a []/\Pos b []
def le(n:Nat)(X Y:Vec):Prop:=∀ p,p < n->X p=true->Y p=true
def eqv(n:Nat)(X Y:Vec):Prop:=∀ p,p < n->X p=Y p
theorem le_refl{n:Nat}(X:Vec):le n X X:=fun _ _ h=>h
theorem le_trans{n:Nat}{X Y Z:Vec}(a:le n X Y)(b:le n Y Z):le n X Z:=fun p hp h=>b p hp (a p hp h)
theorem eqv_of{n:Nat}{X Y:Vec}(a:le n X Y)(b:le n Y X):eqv n X Y:=fun p hp=>by
 cases hx:X p with
 | true=>exact(a p hp hx).symm
 | false =>
  cases hy:Y p with
  | false=>rfl
  | true=>rw [b p hp hy] at hx;cases hx
theorem eqv.le{n:Nat}{X Y:Vec}(a:eqv n X Y):le n X Y:=fun p hp h=>by rw [← a p hp];exact h
theorem eqv.symm{n:Nat}{X Y:Vec}(a:eqv n X Y):eqv n Y X:=fun p hp=>(a p hp).symm
theorem eqv.trans{n:Nat}{X Y Z:Vec}(a:eqv n X Y)(b:eqv n Y Z):eqv n X Z:=fun p hp=>(a p hp).trans (b p hp)
def LeE(n:Nat)(F:List (N × Bool))(e e':Env N):Prop:=∀ q ∈ F,if q.2=true then le n (e' q.1) (e q.1) else le n (e q.1) (e' q.1)
theorem LeE.flip{n:Nat}{F:List (N × Bool)}{e e':Env N}(h:LeE n F e e'):LeE n (flip F) e' e:=fun q hq=>by
 obtain⟨⟨x,b⟩,hm,rfl⟩:=List.mem_map.mp hq
 have:=h _ hm
 cases b<;>simpa using this
theorem LeE.put{n:Nat}{F:List (N × Bool)}{e e':Env N}{x:N}{X Y:Vec}(h:LeE n F e e')(hx:x ∉ F.map (·.1))(hX:le n X Y):LeE n (F ++ [(x,false)]) (upd e x X) (upd e' x Y):=fun q hq=>by
 rcases List.mem_append.mp hq with hq | hq
 ·have hne:q.1 ≠ x:=fun z=>hx (List.mem_map.mpr ⟨q,hq,z⟩)
  have:=h q hq
  simpa [upd,hne] using this
 ·have e:=List.mem_singleton.mp hq
  subst e
  simpa [upd] using hX
theorem qb9c{n:Nat}{F G:Vec->Vec}(h:∀ X Y,le n X Y->le n (F X) (G Y)):∀ (k:Nat) {X Y:Vec},le n X Y->le n (iter F k X) (iter G k Y)
 | 0,_,_,a=>a
 | k + 1,X,Y,a=>qb9c h k (h X Y a)
theorem mon(M:Mdl N):∀ (a:Fm N) (F:List (N × Bool)) (r:Room N) (e e':Env N),Pos a F->LeE M.n F e e'->le M.n (ev M a r e) (ev M a r e')
 | .fact z,F,r,e,e',_,_=>le_refl _
 | .wish z,F,r,e,e',h,l=>by
  have:=l _ h
  simp only [Bool.false_eq_true,if_false] at this
  exact this
 | .neg a,F,r,e,e',h,l=>fun p hp q=>by
  have ih:=mon M a (flip F) r e' e h l.flip p hp
  show(!ev M a r e' p)=true
  have q':(!ev M a r e p)=true:=q
  cases hz:ev M a r e' p with
  | false=>rfl
  | true=>rw [ih hz] at q';cases q'
 | .two c a b,F,r,e,e',h,l=>fun p hp q=>by
  have i1:=mon M a F r e e' h.1 l p hp
  have i2:=mon M b F r e e' h.2 l p hp
  cases c with
  | true =>
   have q':(ev M a r e p && ev M b r e p)=true:=q
   rw [Bool.and_eq_true] at q'
   show(ev M a r e' p && ev M b r e' p)=true
   rw [i1 q'.1,i2 q'.2];rfl
  | false =>
   have q':(ev M a r e p || ev M b r e p)=true:=q
   rw [Bool.or_eq_true] at q'
   show(ev M a r e' p || ev M b r e' p)=true
   rcases q' with q' | q'
   ·rw [i1 q'];rfl
   ·rw [i2 q',Bool.or_true]
 | .mod c st a,F,r,e,e',h,l=>fun p hp q=>by
  have ih:=mon M a F r e e' h.2 l
  cases c with
  | true =>
   have q':((List.range M.n).all fun q=>!lead M r st p q || ev M a r e q)=true:=q
   show((List.range M.n).all fun q=>!lead M r st p q || ev M a r e' q)=true
   rw [List.all_eq_true] at q' ⊢
   intro x hx
   have:=q' x hx
   rw [Bool.or_eq_true] at this ⊢
   exact this.imp id (ih x (List.mem_range.mp hx))
  | false =>
   have q':((List.range M.n).any fun q=>lead M r st p q && ev M a r e q)=true:=q
   show((List.range M.n).any fun q=>lead M r st p q && ev M a r e' q)=true
   rw [List.any_eq_true] at q' ⊢
   obtain⟨x,hx,hy⟩:=q'
   rw [Bool.and_eq_true] at hy
   exact⟨x,hx,by rw [Bool.and_eq_true];exact⟨hy.1,ih x (List.mem_range.mp hx) hy.2⟩⟩
 | .bind m x a,F,r,e,e',h,l=>qb9c (fun X Y hX=>mon M a (F ++ [(x,false)]) r _ _ h.2 (l.put h.1 hX)) (M.n + 2) (le_refl _)
 | .sho hs a b,F,r,e,e',h,l=>le_refl _
noncomputable def cnt(n:Nat)(X:Vec):Nat:=((List.range n).filter X).length
theorem cnt_le(n:Nat)(X:Vec):cnt n X <= n:=by
 have:=List.length_filter_le X (List.range n)
 rw [List.length_range] at this
 exact this
theorem qb5v:∀ {n:Nat} {X Y:Vec},le n X Y->cnt n X <= cnt n Y/\(cnt n X=cnt n Y->eqv n X Y)
 | 0,X,Y,_=>⟨Nat.le_refl _,fun _ p hp=>absurd hp (Nat.not_lt_zero _)⟩
 | n + 1,X,Y,h=>by
  obtain⟨a,b⟩:=qb5v (n:=n) (X:=X) (Y:=Y) fun p hp=>h p (Nat.lt_succ_of_lt hp)
  have cs:∀ Z:Vec,cnt (n + 1) Z=cnt n Z + (if Z n=true then 1 else 0):=fun Z=>by
   unfold cnt
   rw [List.range_succ,List.filter_append,List.length_append]
   cases hz:Z n<;>simp [hz]
  rw [cs,cs]
  cases hx:X n with
  | true =>
   have hy:=h n (Nat.lt_succ_self n) hx
   rw [hy]
   refine⟨by omega,fun e p hp=>?_⟩
   rcases Nat.lt_succ_iff_lt_or_eq.mp hp with hp | rfl
   ·exact b (by omega) p hp
   ·rw [hx,hy]
  | false =>
   cases hy:Y n with
   | true=>exact⟨by simp;omega,fun e=>by simp at e;omega⟩
   | false =>
    refine⟨by simpa using a,fun e p hp=>?_⟩
    rcases Nat.lt_succ_iff_lt_or_eq.mp hp with hp | rfl
    ·exact b (by simpa using e) p hp
    ·rw [hx,hy]
theorem qc1t(F:Vec->Vec):∀ (a b:Nat) (X:Vec),iter F (a + b) X=iter F b (iter F a X)
 | 0,b,X=>by rw [Nat.zero_add];rfl
 | a + 1,b,X=>by rw [Nat.succ_add];exact qc1t F a b (F X)
theorem qa3z(F:Vec->Vec)(k:Nat)(X:Vec):iter F (k + 1) X=F (iter F k X):=qc1t F k 1 X
theorem rest{n:Nat}{F:Vec->Vec}(h:∀ X Y,le n X Y->le n (F X) (F Y))(m:Bool):∀ j,n <= j->eqv n (iter F j fun _=>m) (iter F n fun _=>m):=by
 have hc:∀ {X Y:Vec},eqv n X Y->eqv n (F X) (F Y):=fun a=>eqv_of (h _ _ a.le) (h _ _ a.symm.le)
 let X:Nat->Vec:=fun k=>iter F k fun _=>m
 have stay:∀ k,eqv n (X k) (X (k + 1))->∀ j,eqv n (X (k + j)) (X k):=fun k e j=>by
  induction j with
  | zero=>exact fun p _=>rfl
  | succ j ih =>
   have e1:X (k + (j + 1))=F (X (k + j)):=qa3z F (k + j) _
   have e2:X (k + 1)=F (X k):=qa3z F k _
   have h3:eqv n (F (X (k + j))) (F (X k)):=hc ih
   rw [e1]
   refine h3.trans ?_
   rw [← e2]
   exact e.symm
 have key:∃ k,k <= n/\eqv n (X k) (X (k + 1)):=by
  cases m with
  | false =>
   have up:∀ k,le n (X k) (X (k + 1)):=fun k=>by
    induction k with
    | zero=>intro p _ q;cases q
    | succ k ih =>
     show le n (iter F (k + 1) _) (iter F (k + 1 + 1) _)
     rw [qa3z,qa3z]
     exact h _ _ ih
   refine Classical.byContradiction fun no=>?_
   have grow:∀ k,k <= n + 1->k <= cnt n (X k):=fun k=>by
    induction k with
    | zero=>intro _;exact Nat.zero_le _
    | succ k ih =>
     intro hk
     have i:=ih (by omega)
     obtain⟨a,b⟩:=qb5v (up k)
     have:cnt n (X k) ≠ cnt n (X (k + 1)):=fun z=>no ⟨k,by omega,b z⟩
     omega
   have:=grow (n + 1) (Nat.le_refl _)
   have:=cnt_le n (X (n + 1))
   omega
  | true =>
   have dn:∀ k,le n (X (k + 1)) (X k):=fun k=>by
    induction k with
    | zero=>intro p _ _;rfl
    | succ k ih =>
     have e1:X (k + 1 + 1)=F (X (k + 1)):=qa3z F (k + 1) _
     have e2:X (k + 1)=F (X k):=qa3z F k _
     have:=h _ _ ih
     rw [e1]
     intro p hp q
     rw [e2]
     exact this p hp q
   refine Classical.byContradiction fun no=>?_
   have shr:∀ k,k <= n + 1->cnt n (X k) + k <= n:=fun k=>by
    induction k with
    | zero=>intro _;exact cnt_le n _
    | succ k ih =>
     intro hk
     have i:=ih (by omega)
     obtain⟨a,b⟩:=qb5v (dn k)
     have:cnt n (X (k + 1)) ≠ cnt n (X k):=fun z=>no ⟨k,by omega,(b z).symm⟩
     omega
   have:=shr (n + 1) (Nat.le_refl _)
   omega
 obtain⟨k,hk,e⟩:=key
 intro j hj
 have a:=stay k e (j - k)
 have b:=stay k e (n - k)
 rw [show k + (j - k)=j by omega] at a
 rw [show k + (n - k)=n by omega] at b
 exact a.trans b.symm
theorem stay{n:Nat}{F:Vec->Vec}(hc:∀ {X Y:Vec},eqv n X Y->eqv n (F X) (F Y)){X:Vec}{k:Nat}(e:eqv n (iter F k X) (iter F (k + 1) X)):∀ j,k <= j->eqv n (iter F j X) (iter F k X):=by
 have go:∀ j,eqv n (iter F (k + j) X) (iter F k X):=fun j=>by
  induction j with
  | zero=>exact fun p _=>rfl
  | succ j ih =>
   have e1:iter F (k + (j + 1)) X=F (iter F (k + j) X):=qa3z F (k + j) X
   have e2:iter F (k + 1) X=F (iter F k X):=qa3z F k X
   rw [e1]
   refine(hc ih).trans ?_
   rw [← e2]
   exact e.symm
 intro j hj
 have:=go (j - k)
 rw [show k + (j - k)=j by omega] at this
 exact this
theorem ev_eqv(M:Mdl N)(a:Fm N)(F:List (N × Bool))(r:Room N)(e e':Env N)(h:Pos a F)(he:∀ q ∈ F,eqv M.n (e q.1) (e' q.1)):eqv M.n (ev M a r e) (ev M a r e'):=
 eqv_of (mon M a F r e e' h fun q hq=>by split;exact(he q hq).symm.le;exact(he q hq).le) (mon M a F r e' e h fun q hq=>by split;exact(he q hq).le;exact(he q hq).symm.le)
end Tr
end
section
namespace K71
open PySem L2 Sn
open Lean in
def dl71 (p : Bool) : MacroM (TSyntaxArray `Lean.Parser.Tactic.simpLemma) := (("↓itT ↓itF mapC mapN qd2c ownBJ_o ownBJ_b ↓qd3m ↓dGetD_a ↓qd3d ↓diRev_a ↓dExtL_a ↓pass_fd ↓pass_fs flOf_n0 flOf_fd flOf_fs ↓diStr_a asSt_s fLeS_s ↓dSeq_a ↓dNilD_a ↓dInK_a fSlA_t ↓dNext_a ↓dIf_a ↓dDrop_a ↓dRet_a ↓dRetF_a ↓dSet_a ↓dSetF_a ↓dAsg_a ↓dFor_a ↓dVar_a ↓dC_a ↓dOp_a ↓dCB_a ↓dCBF_a ↓dTup_a ↓dLst_a ↓dFz_a ↓dNil_a ↓dCons_a ↓dB_a ↓dTru_a ↓dAnd_a ↓dOr_a ↓dNot_a ↓dIfE_a ↓dAndV_a ↓dOrV_a ↓dNotV_a ↓qd2d ↓dIs_a ↓qc9u ↓dPop_a ↓qd2e ↓dgTup_a ↓qd2f ↓diDat_a ↓qd2g ↓qd2h ↓pass_n ↓pass_t ↓fz_d ↓fz_sl ↓fzL_d ↓fzL_sl ↓fzs_n ↓fzs_c ↓dComp_a ↓dSl_a ↓qd2u ↓qd2v ↓dTab_a fTab_s asT_t flatD_s flatD_i inF_nil List.all_cons List.all_nil three_a ownB_j okL_o okL_b asI2_i asI_i ioJ_o ioJ_b ioJ_t fzJ_d fzJ_o fzLJ_d fzLJ_o fzLJ_s flOf_t fills_n fills_c qd2i qd2j qd2k qd2l qd2m qd2n relab_o relab_b relab_t lend_o lend_b lend_t lend_d lend_s flC_n flC_c capR_a deref_d qd2o qd2p qd2q qd2r qd2s qd2t asB_b tru_b tru_n tru_i tru_l tru_t seqD_l seqD_t mask_n mask_d mask_s mask_t mask_b qa1a qc9l fAdd_i fSub_i fCmp_i fLen_l fLen_t qd2a qd2b fList_l fList_t fIx_l fIx_t List.getElem?_cons_zero List.getElem?_cons_succ List.getElem?_nil List.set_cons_zero List.set_cons_succ Option.join_some Option.join_none Option.bind_some Option.bind_none Option.map_some Option.map_none Option.isSome_some List.length_cons List.length_nil List.cons_append List.nil_append qb6n Nat.reduceAdd Nat.reduceSub Bool.not_true Bool.not_false" ++ (if p then " ↓dgNil_a ↓pass_f atI_0 atI_1 atI_2 atI_3 atI_4 fIn_f qc1b inF_s inF_i Bool.and_self Bool.and_true Bool.or_false Bool.or_true Bool.true_or Bool.false_or flOf_n flOf_f qd1y qd1z qc9t List.map_cons List.map_nil List.replicate if_true if_false Bool.false_eq_true true_and and_true List.nodup_cons List.nodup_nil List.not_mem_nil not_false_eq_true List.mem_cons Nat.reduceLeDiff Nat.reduceLT reduceCtorEq Nat.zero_add Nat.reduceEqDiff false_or or_false" else "")).splitOn " ").toArray.mapM fun s => if s.startsWith "↓" then `(Parser.Tactic.simpLemma| ↓$(mkIdent (s.drop 1).toName):ident) else `(Parser.Tactic.simpLemma| $(mkIdent s.toName):ident)
local macro_rules | `(tactic| walk_at "p1") => do let a ← dl71 true; `(tactic| simp only [$[$a:simpLemma],*])
local macro_rules | `(tactic| walk_at "d1") => do let a ← dl71 false; `(tactic| first | dsimp only [$[$a:simpLemma],*] | walk_at "p1")
local macro_rules | `(tactic| walk_at "dd") => `(tactic| (repeat first | (with_reducible refine qc5n ?_) | walk_at "d1"))
local macro_rules | `(tactic| walk_at "k1") => do let a ← dl71 true; `(tactic| simp +decide only [$[$a:simpLemma],*])
local macro_rules | `(tactic| walk_at "dk") => `(tactic| (repeat first | (with_reducible refine qc5n ?_) | walk_at "k1"))
noncomputable def top(i:Nat):Stmt:=PySem.Challenge.pw_worldsay_k71_gone_through_once.main.body.getD i (.Pass ⟨0,0,0,0⟩)
--TOP
theorem usS{α:Type}{us:List α}{n:Nat}(h:us.length=n + 1):∃ a r,us=a :: r/\r.length=n:=by
 cases us with
 | nil=>cases h
 | cons a r=>exact⟨a,r,rfl,Nat.succ.inj h⟩
structure Bl(mg:Str->Option Value):Prop where
 len_:mg "len" = none
 range_:mg "range" = none
 tuple_:mg "tuple" = none
 bool_:mg "bool" = none
 isinstance_:mg "isinstance" = none
 reversed_:mg "reversed" = none
 max_:mg "max" = none
 zip_:mg "zip" = none
 list_:mg "list" = none
 str_:mg "str" = none
 enumerate_:mg "enumerate" = none
 dict_:mg "dict" = none
 sum_:mg "sum" = none
 int_:mg "int" = none
 min_:mg "min" = none
 sorted_:mg "sorted" = none
 all_:mg "all" = none
 set_:mg "set" = none
 repr_:mg "repr" = none
def spCell(K:W.Frag):Sp:=fun vs H Q _=>∃ (v:Addr) (ns:List Int) (k:Int),vs=[.ref v,.int k]/\SqL K H v (ns.map V.int)/\0 <= k/\∀ c:Int,(ns=[]->c=0)->Q (.int c) H
def spBy(K:W.Frag):Sp:=fun vs H Q _=>∃ (v:Addr) (ns:List Int) (k many:Int),vs=[.ref v,.int k,.int many]/\SqL K H v (ns.map V.int)/\ns.length <= 63/\0 <= k/\k <= 1000000/\0 < many/\∀ r:Int,0 <= r->r < many->Q (.int r) H
def qc1u:DSp:=fun ls Q=>∃ (k:Nat) (many:Int),ls=[.tape k,.d (.int many)]/\0 < many/\k < 1000000/\∀ r:Int,0 <= r->r < many->Q (.d (.int r)) [some (.tape (k + 1)),none]
section
variable{P:Program}{w:World}{K:W.Frag}{mg:Str->Option Value}{base:Heap}
abbrev qa4s:Stmt:=top 28
theorem qb7s:FnScope ["_law_script","_law_k"] ["_law_script","_law_k"] (qa0k qa4s):=⟨rfl,rfl,rfl,by decide +kernel,rfl,by decide +kernel,by decide +kernel⟩
theorem qc7n{f:Addr}{fd:FuncData} (F:Fun K "_law_cell_at" "_law_cell_at" qa4s f fd) (B:Bl mg):FnOk P w K mg base CX0 1 f fd ["_law_script","_law_k"] (spCell K):=by
 refine F.ok qb7s (fun vs H Q E h=>?_) (fun cdv A outer s H vs Q E hr h=>?_)
 ·obtain⟨v,ns,k,rfl,_⟩:=h
  rfl
 obtain⟨v,ns,k,rfl,hv,hk,q⟩:=h
 refine⟨_,(qa3l (ps_if (qb4l qa8t (qa6u qa6e rfl B.len_ qa1u (qa2l (pv 0) qa4q)) qa2f (qa0m _))
  (qa6t (qa9y (pe_ix qb1h (pv 0) (qa3o qa9z (pv 1) (qa6u qa6e rfl B.len_ qa1u (qa2l (pv 0) qa4q))) (fun _ _=>rfl))))
  qb4k)
  (qa6t (qa9y qa2f))),?_⟩
 have hl:(ns.map V.int).length=ns.length:=List.length_map _
 refine⟨_,rfl,v,_,rfl,.inl hv,_,_,rfl,rfl,_,rfl,?_⟩
 rw [hl]
 refine ite2 (fun c=>?_) (fun c=>?_)
 ·have c':(0:Int) < (ns.length:Int):=of_decide_eq_true c
  refine⟨_,rfl,_,rfl,_,rfl,v,_,rfl,.inl hv,_,_,rfl,rfl,?_,?_⟩
  ·rw [hl];exact c'
  ·rw [hl]
   have m0:0 <= k % (ns.length:Int):=Int.emod_nonneg _ (by omega)
   have m1:k % (ns.length:Int) < (ns.length:Int):=Int.emod_lt_of_pos _ c'
   obtain⟨d,e1,e2,_⟩:=atI_in (xs:=ns.map V.int) m0 (by rw [hl];exact m1)
   obtain⟨n,_,rfl⟩:=List.mem_map.mp e2
   exact⟨v,_,_,_,rfl,rfl,hv,e1,q n fun e=>by rw [e] at c';exact absurd c' (by decide)⟩
 ·exact q 0 fun _=>rfl
abbrev qb2p:Stmt:=top 29
theorem qa8g:FnScope ["_law_script","_law_k","_law_many_here","_law_cell","_law_part","_law_seed"] ["_law_script","_law_k","_law_many_here"] (qa0k qb2p):=⟨rfl,rfl,rfl,by decide +kernel,rfl,by decide +kernel,by decide +kernel⟩
theorem ok_by{f f1:Addr}{fd fd1:FuncData} (F:Fun K "_law_by" "_law_by" qb2p f fd) (B:Bl mg) (qa3s:Def K mg "_law_cell_at" qa4s ["_law_script","_law_k"] f1 fd1):FnOk P w K mg base CX0 2 f fd ["_law_script","_law_k","_law_many_here"] (spBy K):=by
 have qb9k:FnOk P w K mg base CX0 1 f1 fd1 ["_law_script","_law_k"] (spCell K):=qc7n qa3s.fn B
 refine F.ok qa8g (fun vs H Q E h=>?_) (fun cdv A outer s H vs Q E hr h=>?_)
 ·obtain⟨v,ns,k,many,rfl,_⟩:=h
  rfl
 obtain⟨v,ns,k,many,rfl,hv,hl,hk,hk2,hm,q⟩:=h
 refine⟨_,(qa3l (qa8a (i:=3) qa8g.nd rfl (Or.inl rfl) (qb5p qa3s qb9k hr rfl (qa2l (pv 0) (qa2l (pv 1) qa4q))))
  (qa3l (qa8a (i:=4) qa8g.nd rfl (Or.inl rfl) qa2f)
  (qa3l (ps_if (qb4l op_ge (pv 3) (qa3o op_pow qa2f qa2f) (qa0m _))
  (qa6t (qa8a (i:=4) qa8g.nd rfl (Or.inl rfl) (qa3o op_shr (pv 3) (qa3o qb3j qa2f (qa3o op_fdiv (pv 1) (qa6u qa6e rfl B.len_ qa1u (qa2l (pv 0) qa4q)))))))
  qb4k)
  (qa3l (ps_if (qb4l qa8t (pv 4) qa2f (qa0m _))
  (qa6t (qa9y (qa3o qa9z (pv 4) (pv 2))))
  qb4k)
  (qa3l (qa8a (i:=5) qa8g.nd rfl (Or.inl rfl) (qa3o qb6c (qa3o qb6c (qa3o qa9z (pv 3) qa2f) (qa3o qb3j (qa3o qb3j qa2f (pv 1)) (pv 1))) qa2f))
  (qa6t (qa9y (qa3o qa9z (qa3o qa9z (qa3o qb3j (qa3o qa9z (qa3o qb3j (pv 5) qa2f) qa2f) qa2f) qa2f) (pv 2))))))))),?_⟩
 have hln:(ns.map V.int).length=ns.length:=List.length_map _
 refine⟨_,rfl,_,rfl,v,ns,k,rfl,hv,hk,fun c hc=>?_⟩
 have e64:(2:Int) ^ 64=18446744073709551616:=by decide
 refine⟨_,rfl,_,_,rfl,rfl,⟨by decide,by decide,by decide⟩,_,_,rfl,rfl,_,rfl,?_⟩
 refine ite2 (fun c1=>?_) (fun c1=>?_)
 ·have c1':(10:Int) ^ (18:Int).toNat <= c:=of_decide_eq_true c1
  have hne:0 < ns.length:=by
   cases ns with
   | nil=>rw [hc rfl] at c1';exact absurd c1' (by decide)
   | cons _ _=>exact Nat.succ_pos _
  have hd0:0 <= k / (ns.length:Int):=Int.ediv_nonneg hk (by omega)
  refine⟨_,rfl,_,rfl,_,rfl,v,_,rfl,.inl hv,_,_,rfl,rfl,?_,_,_,rfl,rfl,.inl ⟨by decide,by decide⟩,_,_,rfl,rfl,?_,?_⟩
  ·rw [hln];exact⟨by omega,by omega⟩
  ·rw [hln];show(0:Int) <= 20 * (k / (ns.length:Int));omega
  refine⟨_,rfl,_,_,rfl,rfl,_,rfl,?_⟩
  refine ite2 (fun c2=>?_) (fun c2=>?_)
  ·exact⟨_,rfl,_,rfl,_,_,rfl,rfl,hm,q _ (Int.emod_nonneg _ (by omega)) (Int.emod_lt_of_pos _ hm)⟩
  ·refine⟨_,rfl,_,_,rfl,rfl,(by show(0:Int) < 1000003;decide),_,rfl,_,_,rfl,rfl,.inl ⟨by decide,by decide⟩,_,rfl,_,_,rfl,rfl,.inr ⟨by omega,by omega⟩,_,_,rfl,rfl,_,_,rfl,rfl,?_⟩
   refine⟨_,rfl,_,_,rfl,rfl,.inr ⟨by decide,by decide⟩,_,_,rfl,rfl,(by show(0:Int) < 999983;decide),_,_,rfl,rfl,.inr ⟨by decide,by decide⟩,_,_,rfl,rfl,(by show(0:Int) < 524287;decide),_,rfl,_,_,rfl,rfl,hm,?_⟩
   exact q _ (Int.emod_nonneg _ (by omega)) (Int.emod_lt_of_pos _ hm)
 ·refine⟨_,rfl,_,_,rfl,rfl,_,rfl,?_⟩
  refine ite2 (fun c2=>?_) (fun c2=>?_)
  ·exact⟨_,rfl,_,rfl,_,_,rfl,rfl,hm,q _ (Int.emod_nonneg _ (by omega)) (Int.emod_lt_of_pos _ hm)⟩
  ·refine⟨_,rfl,_,_,rfl,rfl,(by show(0:Int) < 1000003;decide),_,rfl,_,_,rfl,rfl,.inl ⟨by decide,by decide⟩,_,rfl,_,_,rfl,rfl,.inr ⟨by omega,by omega⟩,_,_,rfl,rfl,_,_,rfl,rfl,?_⟩
   refine⟨_,rfl,_,_,rfl,rfl,.inr ⟨by decide,by decide⟩,_,_,rfl,rfl,(by show(0:Int) < 999983;decide),_,_,rfl,rfl,.inr ⟨by decide,by decide⟩,_,_,rfl,rfl,(by show(0:Int) < 524287;decide),_,rfl,_,_,rfl,rfl,hm,?_⟩
   exact q _ (Int.emod_nonneg _ (by omega)) (Int.emod_lt_of_pos _ hm)
abbrev qa9a:Stmt:=top 30
theorem qc3m:FnScope ["_law_tape","_law_many_here"] ["_law_tape","_law_many_here"] (qa0k qa9a):=⟨rfl,rfl,rfl,by decide +kernel,rfl,by decide +kernel,by decide +kernel⟩
theorem ok_next{f f1 f2:Addr}{fd fd1 fd2:FuncData} (F:Fun K "_law_next" "_law_next" qa9a f fd) (B:Bl mg) (qa3s:Def K mg "_law_cell_at" qa4s ["_law_script","_law_k"] f1 fd1)
  (qb2q:Def K mg "_law_by" qb2p ["_law_script","_law_k","_law_many_here"] f2 fd2):FnOk P w K mg base CX0 3 f fd ["_law_tape","_law_many_here"] (spD K qc1u):=by
 have qd3p:FnOk P w K mg base CX0 2 f2 fd2 ["_law_script","_law_k","_law_many_here"] (spBy K):=ok_by qb2q.fn B qa3s
 refine F.ok qc3m (fun vs H Q E h=>?_) (fun cdv A outer s H vs Q E hr h=>?_)
 ·obtain⟨c,O,ls,Qd,_,_,_,_,_,R,⟨k,many,rfl,_⟩,_⟩:=h
  have:=R.len
  rw [List.length_map] at this
  exact this
 obtain⟨c,O,ls,Qd,_,_,_,_,_,R,⟨k,many,rfl,hm,hk2,q⟩,fin⟩:=h
 obtain⟨t,hO,hσ0,ht⟩:=R.tap 0 k rfl
 obtain⟨v1,hσ1,a1⟩:=R.dat 1 _ rfl
 have e1:=qb1k a1
 subst e1
 have hvs:vs=[.ref t,.int many]:=by
  have hl:=R.len
  rw [List.length_map] at hl
  obtain⟨x,us,rfl,h1⟩:=usS (n:=1) (by first | exact hl | exact hl.symm)
  obtain⟨y,us,rfl,h2⟩:=usS (n:=0) h1
  obtain rfl:=List.eq_nil_of_length_eq_zero h2
  have e0:x=.ref t:=by simpa using hσ0
  have e1:y=.int many:=by simpa using hσ1
  rw [e0,e1]
 subst hvs
 have hs:=R.sc
 have hl:c.ns.length <= 63:=by simpa using hs.1
 refine⟨_,(qa3l (ps_asg (qa3o qb6c (pe_ix qb1h (pv 0) qa2f (fun _ _=>rfl)) qa2f) (pg_sub (pv 0) qa2f set_list))
  (qa6t (qa9y (qb5p qb2q qd3p hr rfl (qa2l (pe_ix qb1h (pv 0) qa2f (fun _ _=>rfl)) (qa2l (pe_ix qb1h (pv 0) qa2f (fun _ _=>rfl)) (qa2l (pv 1) qa4q))))))),?_⟩
 have ht':(upd H t (.lst ([V.ref c.sa,V.int k].set 1 (.int ((k:Int) + 1))))) t=some (.lst [.ref c.sa,.int ((k:Int) + 1)]):=qa1d
 obtain⟨R2,P2⟩:=R.write (l:=.tape (k + 1)) (xs:=[]) (vs':=[.ref c.sa,.int ((k + 1:Nat):Int)]) hO ht (.inr (.inr ⟨k,rfl⟩)) (.inr (.inr ⟨k,k + 1,rfl,rfl,rfl⟩))
 have ek:((k + 1:Nat):Int)=(k:Int) + 1:=by omega
 rw [ek] at R2
 refine⟨_,rfl,t,_,1,_,rfl,rfl,SqL.of ht,rfl,_,_,rfl,rfl,_,rfl,t,_,1,1,rfl,rfl,ht,rfl,?_⟩
 refine⟨_,rfl,t,_,0,_,rfl,rfl,SqL.of ht',rfl,_,rfl,t,_,1,_,rfl,rfl,SqL.of ht',rfl,_,rfl,?_⟩
 refine⟨_,c.ns,_,_,rfl,R2.sc.seq,hl,by omega,by omega,hm,fun r h0 h1=>?_⟩
 exact fin (.d (.int r)) O [some (.tape (k + 1)),some (.d (.int many))] _ _ _ (q r h0 h1) ⟨R2,qa2y r⟩
end
section
variable{P:Program}{w:World}{K:W.Frag}{mg:Str->Option Value}{base:Heap}{n:Nat}
abbrev qa9b(P:Program)(w:World)(K:W.Frag)(mg:Str->Option Value)(base:Heap)(n:Nat)(f:Addr)(fd:FuncData):Prop:=FnOk P w K mg base CX0 n f fd ["_law_tape","_law_many_here"] (spD K qc1u)
abbrev qa9c(K:W.Frag)(mg:Str->Option Value)(f:Addr)(fd:FuncData):Prop:=Def K mg "_law_next" qa9a ["_law_tape","_law_many_here"] f fd
end
theorem rngI{m:Nat}{a:Nat}{u:PyData}(h:(rngD 0 m)[a]? = some u):a < m/\u=.int (a:Int):=by
 have ha:a < m:=by
  have:=(List.getElem?_eq_some_iff.mp h).1
  simpa [rngD] using this
 refine⟨ha,?_⟩
 simp only [rngD,List.getElem?_map,List.getElem?_range ha,Option.map_some] at h
 have:=(Option.some.inj h).symm
 rw [this];congr 1;omega
theorem qa4f{m:Nat}:(rngD 0 m).length=m:=by simp [rngD]
def InR(m:Nat)(ns:List Int):Prop:=(∀ x ∈ ns,0 <= x/\x < (m:Int))/\ns.length <= m
noncomputable def pt(ls:List Int)(v:Int):List Int:=((List.range ls.length).filter fun p=>decide (ls.getD p 0=v)).map fun p:Nat=>(p:Int)
theorem pt_in(ls:List Int)(v:Int):InR ls.length (pt ls v):=by
 unfold pt
 refine⟨fun x hx=>?_,?_⟩
 ·obtain⟨p,hp,rfl⟩:=List.mem_map.mp hx
  have:=List.mem_range.mp (List.mem_filter.mp hp).1
  omega
 ·rw [List.length_map]
  exact Nat.le_trans (List.length_filter_le ..) (by rw [List.length_range];exact Nat.le_refl _)
theorem pt_mem{ls:List Int}{p:Nat}(h:p < ls.length):(p:Int) ∈ pt ls (ls.getD p 0):=by
 unfold pt
 exact List.mem_map.mpr ⟨p,List.mem_filter.mpr ⟨List.mem_range.mpr h,by simp⟩,rfl⟩
theorem pt_ne{ls:List Int}{v:Int}(h:v ∈ ls):pt ls v ≠ []:=by
 obtain⟨i,hi,e⟩:=List.getElem_of_mem h
 have hm:=pt_mem hi
 have e2:ls.getD i 0=v:=by rw [List.getD_eq_getElem?_getD,List.getElem?_eq_getElem hi];exact e
 rw [e2] at hm
 exact List.ne_nil_of_mem hm
structure Parts(m:Nat)(tss:List (List Int)):Prop where
 ne:∀ t ∈ tss,t ≠ []
 inr:∀ t ∈ tss,InR m t
 len:tss.length <= m
 cov:∀ p:Nat,p < m->∃ t ∈ tss,(p:Int) ∈ t
 uq:∀ t ∈ tss,∀ u ∈ tss,∀ x,x ∈ t->x ∈ u->t=u
theorem qc1v{ls:List Int}{tss:List (List Int)}(h:tss.Perm ((Sx.srtI (Sx.uniq ls)).map (pt ls))):Parts ls.length tss:=by
 have mem:∀ v,v ∈ Sx.srtI (Sx.uniq ls) ↔ v ∈ ls:=fun v=>(Sx.qa5y _).mem_iff.trans Sx.qd1g
 have key:∀ v x,x ∈ pt ls v->ls.getD x.toNat 0=v:=fun v x hx=>by
  obtain⟨p,hp,rfl⟩:=List.mem_map.mp hx
  simpa using (List.mem_filter.mp hp).2
 refine⟨fun t ht=>?_,fun t ht=>?_,?_,fun p hp=>?_,fun t ht u hu x h1 h2=>?_⟩
 ·obtain⟨v,hv,rfl⟩:=List.mem_map.mp (h.mem_iff.mp ht)
  exact pt_ne ((mem v).mp hv)
 ·obtain⟨v,hv,rfl⟩:=List.mem_map.mp (h.mem_iff.mp ht)
  exact pt_in ls v
 ·rw [h.length_eq,List.length_map,(Sx.qa5y _).length_eq]
  exact Sx.qb4m ls
 ·refine⟨pt ls (ls.getD p 0),h.mem_iff.mpr (List.mem_map.mpr ⟨_,(mem _).mpr ?_,rfl⟩),pt_mem hp⟩
  rw [List.getD_eq_getElem?_getD,List.getElem?_eq_getElem hp]
  exact List.getElem_mem hp
 ·obtain⟨v,_,rfl⟩:=List.mem_map.mp (h.mem_iff.mp ht)
  obtain⟨v',_,rfl⟩:=List.mem_map.mp (h.mem_iff.mp hu)
  rw [← key v x h1,← key v' x h2]
theorem pt_map{ls:List Int}{v:Int}:(rngD 0 ls.length).filterMap (fun x=>match x with | .int p=>if ls.getD p.toNat 0=v then some (PyData.int p) else none | _=>none)=(pt ls v).map .int:=by
 unfold pt rngD
 generalize List.range ls.length=r
 induction r with
 | nil=>rfl
 | cons p r ih =>
  rw [List.map_cons,List.filterMap_cons]
  have e:(0 + (p:Int)).toNat=p:=by omega
  have e2:(0 + (p:Int))=(p:Int):=by omega
  simp only [e2,Int.toNat_natCast]
  rw [List.filter_cons]
  by_cases c:ls.getD p 0=v
  ·rw [if_pos c,if_pos (by simpa using c),List.map_cons,List.map_cons,← ih]
  ·rw [if_neg c,if_neg (by simpa using c),← ih]
theorem sZ{m:Nat}(h:m <= 20):sm62 (m:Int):=⟨by omega,by omega⟩
theorem sA{k m k' i:Nat}(hk:k + m < 900000)(h:k' <= k + i)(hi:i < m):k' < 1000000:=by omega
def qc1w:DSp:=fun ls Q=>∃ (k m:Nat) (few:Int),ls=[.tape k,.d (.int (m:Int)),.d (.int few)]/\0 < few/\m <= 20/\k + m < 900000/\∀ (ns:List Int) (k':Nat),k' <= k + m->InR m ns->Q (.d (encT ns)) [some (.tape k'),none,none]
def qb7t:DSp:=fun ls Q=>∃ (k m:Nat),ls=[.tape k,.d (.int (m:Int))]/\m <= 20/\k + m + 1 < 900000/\∀ (tss:List (List Int)) (k':Nat),k' <= k + m + 1->Parts m tss->Q (.d (.tuple (tss.map encT))) [some (.tape k'),none]
section
variable{P:Program}{w:World}{K:W.Frag}{mg:Str->Option Value}{base:Heap}{n:Nat}
abbrev qa9d:Stmt:=top 31
theorem qc3n:FnScope ["_law_tape","_law_many_here","_law_few"] ["_law_tape","_law_many_here","_law_few"] (qa0k qa9d):=⟨rfl,rfl,rfl,by decide +kernel,rfl,by decide +kernel,by decide +kernel⟩
theorem ok_some{f f1:Addr}{fd fd1:FuncData} (F:Fun K "_law_some" "_law_some" qa9d f fd) (B:Bl mg) (qa0o:qa9c K mg f1 fd1) (qa0t:qa9b P w K mg base n f1 fd1):FnOk P w K mg base CX0 (n + 1) f fd ["_law_tape","_law_many_here","_law_few"] (spD K qc1w):=by
 refine F.dok qc3n (fun cdv A outer s H E hr ls Qd h=>?_) (fun ls Qd h=>by obtain⟨_,_,_,e,_⟩:=h;rw [e];rfl)
 obtain⟨k,m,few,rfl,hf,hm,hk,q⟩:=h
 refine⟨rfl,?_⟩
 refine⟨_,(qa0g (qa0i (qa3h qa2w qa5d rfl B.tuple_ qa3m (qa0a (qa1c (qa1q ["_law_p"] [("_law_tape",0),("_law_few",2)] rfl (by rfl) (by decide +kernel) (qa3d rfl B.range_ (dv 1)) (fun _ _ _=>(qa0s (i:=0) (show(["_law_p","_law_tape","_law_few"]:List Str).Nodup by decide +kernel) rfl (Or.inl rfl))) (fun _ _ _=>(qa3r (qa0n (qa0w hr.units) qa0v (qa0f [true,false] qa0o qa0t hr rfl (qa0a (dv 1) (qa0a (dv 2) qa0b))) qa0c (qa0m _)))) (fun _ _ _=>(dv 0)))) qa0b)))),?_⟩
 walk_at "dd"
 refine⟨sZ hm,?_⟩
 rw [Int.toNat_natCast]
 refine⟨by rw [qa4f];exact Nat.le_trans hm (by decide),?_⟩
 refine qa3x (fun i ρ acc=>∃ (v0:Option L) (k':Nat) (ns:List Int),ρ=[v0,some (.tape k'),some (.d (.int few))]/\acc=ns.map .int/\ns.length <= i/\(∀ x ∈ ns,0 <= x/\x < (m:Int))/\k' <= k + i/\i <= m) ⟨none,k,[],rfl,rfl,by simp,fun x hx=>by simp at hx,Nat.le_refl _,Nat.zero_le _⟩ ?_ ?_
 ·rintro i x ρ acc N hx ⟨v0,k',ns,rfl,rfl,hl,hb,hk',hi⟩ hN
  obtain⟨hi2,rfl⟩:=rngI hx
  walk_at "dd"
  refine⟨k',few,rfl,hf,sA hk hk' hi2,fun r h0 h1=>?_⟩
  walk_at "dd"
  refine qa1m (fun c=>?_) (fun c=>?_)
  ·walk_at "dd"
   refine hN _ _ ⟨_,k' + 1,ns ++ [(i:Int)],rfl,by simp,by rw [List.length_append];exact Nat.succ_le_succ hl,fun x hx=>?_,Nat.succ_le_succ hk',hi2⟩
   rcases List.mem_append.mp hx with h | h
   ·exact hb x h
   ·rw [List.mem_singleton.mp h];exact⟨Int.natCast_nonneg i,Int.ofNat_lt.mpr hi2⟩
  ·exact hN _ _ ⟨_,k' + 1,ns,rfl,rfl,Nat.le_succ_of_le hl,hb,Nat.succ_le_succ hk',hi2⟩
 ·rintro ρ acc ⟨v0,k',ns,rfl,rfl,hl,hb,hk',hi⟩
  rw [qa4f] at hl hk'
  walk_at "dd"
  exact q _ _ hk' ⟨hb,hl⟩
abbrev qa7o:Stmt:=top 32
theorem qb0i:FnScope ["_law_tape","_law_many_here","_law_kinds","_law_labels"] ["_law_tape","_law_many_here"] (qa0k qa7o):=⟨rfl,rfl,rfl,by decide +kernel,rfl,by decide +kernel,by decide +kernel⟩
theorem qd3q{f f1:Addr}{fd fd1:FuncData} (F:Fun K "_law_parts" "_law_parts" qa7o f fd) (B:Bl mg) (qa0o:qa9c K mg f1 fd1) (qa0t:qa9b P w K mg base n f1 fd1):FnOk P w K mg base CX0 (n + 1) f fd ["_law_tape","_law_many_here"] (spD K qb7t):=by
 refine F.dok qb0i (fun cdv A outer s H E hr ls Qd h=>?_) (fun ls Qd h=>by obtain⟨_,_,e,_⟩:=h;rw [e];rfl)
 obtain⟨k,m,rfl,hm,hk,q⟩:=h
 refine⟨rfl,?_⟩
 refine⟨_,(qa0e (qa0y (i:=2) qb0i.nd rfl (Or.inr rfl) (qa1l qa1i qa2c qa0c (qa0f [true,false] qa0o qa0t hr rfl (qa0a (dv 0) (qa0a qa0c qa0b)))))
  (qa0e (qa0y (i:=3) qb0i.nd rfl (Or.inr rfl) (qa1c (qa1q ["_law_p"] [("_law_tape",0),("_law_kinds",2)] rfl (by rfl) (by decide +kernel) (qa3d rfl B.range_ (dv 1)) (fun _ _ _=>(qa0s (i:=0) (show(["_law_p","_law_tape","_law_kinds"]:List Str).Nodup by decide +kernel) rfl (Or.inl rfl))) (fun _ _ _=>qa1z) (fun _ _ _=>(qa0f [true,false] qa0o qa0t hr rfl (qa0a (dv 1) (qa0a (dv 2) qa0b)))))))
  (qa0g (qa0i (qa3h qa2w qa5d rfl B.tuple_ qa3m (qa0a (qd3e rfl B.sorted_ (qa0a (qa1c (qa1q ["_law_one"] [("_law_many_here",1),("_law_labels",3)] rfl (by rfl) (by decide +kernel) (qa1w (de_setI rfl rfl B.set_ rfl B.sorted_ (qa0a (dv 3) qa0b))) (fun _ _ _=>(qa0s (i:=0) (show(["_law_one","_law_many_here","_law_labels"]:List Str).Nodup by decide +kernel) rfl (Or.inr rfl))) (fun _ _ _=>qa1z) (fun _ _ _=>(qa3h qa2w qa5d rfl B.tuple_ qa3m (qa0a (qa1c (qa1q ["_law_p"] [("_law_labels",2),("_law_one",0)] rfl (by rfl) (by decide +kernel) (qa3d rfl B.range_ (dv 1)) (fun _ _ _=>(qa0s (i:=0) (show(["_law_p","_law_labels","_law_one"]:List Str).Nodup by decide +kernel) rfl (Or.inl rfl))) (fun _ _ _=>(qa3r (qa0n (qa0w hr.units) qa0v (qa0p qa0j qa0q (dv 1) (dv 0) (fun _ _=>rfl)) (dv 2) (qa0m _)))) (fun _ _ _=>(dv 0)))) qa0b))))) qa0b)) qa0b)))))),?_⟩
 walk_at "dd"
 refine⟨k,4,rfl,by decide,by omega,fun r h0 h1=>?_⟩
 walk_at "dd"
 refine⟨sZ hm,?_⟩
 rw [Int.toNat_natCast]
 refine⟨by rw [qa4f];exact Nat.le_trans hm (by decide),?_⟩
 refine qa3x (fun i ρ acc=>∃ (v0:Option L) (k':Nat) (ns:List Int),ρ=[v0,some (.tape k'),some (.d (.int (1 + r)))]/\acc=ns.map .int/\ns.length=i/\k' <= k + 1 + i/\i <= m) ⟨none,k + 1,[],rfl,rfl,by simp,by omega,by omega⟩ ?_ ?_
 ·rintro i x ρ acc N hx ⟨v0,k',ns,rfl,rfl,hl,hk',hi⟩ hN
  obtain⟨hi2,rfl⟩:=rngI hx
  walk_at "dd"
  refine⟨k',1 + r,rfl,by omega,by omega,fun r2 h2 h3=>?_⟩
  walk_at "dd"
  exact hN _ _ ⟨_,k' + 1,ns ++ [r2],rfl,by simp,by simp;omega,by omega,by omega⟩
 ·rintro ρ acc ⟨v0,k',ls,rfl,rfl,hl,hk',hi⟩
  rw [qa4f] at hl hk'
  subst hl
  walk_at "dd"
  have hu:=Sx.qb4m ls
  rw [fSetI_l (by omega),qa1a]
  walk_at "dd"
  refine⟨by rw [List.length_map,(Sx.qa5y _).length_eq];omega,?_⟩
  refine L2.qa3y (fun ρ=>∃ v0:Option L,ρ=[v0,some (.d (.int (ls.length:Int))),some (.d (.list (ls.map .int)))]) (fun x=>match x with | .int v=>some (encT (pt ls v)) | _=>none) ⟨_,rfl⟩ ?_ ?_
  ·rintro x ρ N hx ⟨v0,rfl⟩ hN
   obtain⟨v,hv,rfl⟩:=List.mem_map.mp hx
   walk_at "dd"
   refine⟨sZ hm,?_⟩
   rw [Int.toNat_natCast]
   refine⟨by rw [qa4f];exact Nat.le_trans hm (by decide),?_⟩
   refine L2.qa3y (fun ρ=>∃ v0:Option L,ρ=[v0,some (.d (.list (ls.map .int))),some (.d (.int v))]) (fun x=>match x with | .int p=>if ls.getD p.toNat 0=v then some (PyData.int p) else none | _=>none) ⟨_,rfl⟩ ?_ ?_
   ·rintro y ρ N2 hy ⟨v0,rfl⟩ hN2
    obtain⟨a,ha⟩:=List.getElem?_of_mem hy
    obtain⟨ha2,rfl⟩:=rngI ha
    walk_at "dd"
    refine qa3f (Int.natCast_nonneg a) (by rw [List.length_map];exact Int.ofNat_lt.mpr ha2) fun d hd hdi=>?_
    rw [Int.toNat_natCast,List.getElem?_map,List.getElem?_eq_getElem ha2] at hdi
    cases hdi
    walk_at "dd"
    have eg:ls.getD a 0=ls[a]:=by rw [List.getD_eq_getElem?_getD,List.getElem?_eq_getElem ha2];rfl
    simp only [Int.toNat_natCast,eg] at hN2
    refine qa1m (fun c=>?_) (fun c=>?_)
    ·walk_at "dd"
     simp only [if_pos c] at hN2
     exact hN2 _ ⟨_,rfl⟩
    ·simp only [if_neg c] at hN2
     exact hN2 _ ⟨_,rfl⟩
   ·rintro ρ ⟨v0,rfl⟩
    rw [pt_map]
    walk_at "dd"
    exact hN _ ⟨_,rfl⟩
  ·rintro ρ _
   have ef:((Sx.srtI (Sx.uniq ls)).map PyData.int).filterMap (fun x=>match x with | .int v=>some (encT (pt ls v)) | _=>none)=((Sx.srtI (Sx.uniq ls)).map (pt ls)).map encT:=by
    rw [List.filterMap_map,List.map_map]
    exact congrFun (List.filterMap_eq_map (f:=fun v=>encT (pt ls v))) _
   rw [ef]
   refine⟨_,rfl,fun t ht=>?_,?_,fun tss' hp=>?_⟩
   ·exact(qc1v (List.Perm.refl _)).ne t ht
   ·rw [List.length_map,(Sx.qa5y _).length_eq];omega
   ·exact q _ _ (by omega) (qc1v hp)
end
structure Wd where
 many:Nat
 facts:List (Str × List Int)
 moves:List (List Int)
 sights:List (Str × List (List Int))
abbrev encF(f:Str × List Int):PyData:=.tuple [.str f.1,encT f.2]
abbrev encS(s:Str × List (List Int)):PyData:=.tuple [.str s.1,.tuple (s.2.map encT)]
abbrev Wd.enc(W:Wd):PyData:=.tuple [.tuple (W.facts.map encF),.tuple (W.moves.map encT),.tuple (W.sights.map encS)]
structure Good(W:Wd):Prop where
 m1:1 <= W.many
 m2:W.many <= 9
 mv:W.moves.length=W.many
 mr:∀ t ∈ W.moves,InR W.many t
 fn:(W.facts.map (·.1)).Sublist (["p","pq","q"]:List Str)
 fr:∀ f ∈ W.facts,InR W.many f.2
 sn:(W.sights.map (·.1)).Sublist (["a","ab","b"]:List Str)
 sr:∀ s ∈ W.sights,Parts W.many s.2
def qb7u:DSp:=fun ls Q=>∃ (k most:Nat),ls=[.tape k,.d (.int (most:Int))]/\1 <= most/\most <= 9/\k + 200 < 900000/\∀ (W:Wd) (k':Nat),k' <= k + 150->Good W->W.many <= most->Q (.d W.enc) [some (.tape k'),none]
theorem sub_snoc{ss:List Str}{xs:List Str}{i:Nat}{x:Str}(h:ss.Sublist (xs.take i))(e:xs[i]? = some x):(ss ++ [x]).Sublist (xs.take (i + 1)):=by
 rw [List.take_add_one,e]
 exact h.append (List.Sublist.refl _)
theorem qc1x{ss:List Str}{xs:List Str}{i:Nat}(h:ss.Sublist (xs.take i)):ss.Sublist (xs.take (i + 1)):=
 h.trans (List.take_sublist_take_left (Nat.le_succ i))
theorem str3{a b c:Str}{i:Nat}{x:PyData}(h:([.str a,.str b,.str c]:List PyData)[i]? = some x):∃ z,([a,b,c]:List Str)[i]? = some z/\x=.str z/\i < 3:=by
 match i,h with
 | 0,h=>cases h;exact⟨a,rfl,rfl,by omega⟩
 | 1,h=>cases h;exact⟨b,rfl,rfl,by omega⟩
 | 2,h=>cases h;exact⟨c,rfl,rfl,by omega⟩
 | i + 3,h=>simp at h
theorem wA{k c k':Nat}(hk:k + 200 < 900000)(h:k' <= k + c)(hc:c <= 190):k' < 1000000:=by omega
theorem wC{k k' m i:Nat}(hk:k + 200 < 900000)(h:k' <= k + (2 + 9 * i))(hi:i < m)(hm:m <= 9):k' + m < 900000:=by omega
theorem wD{k c k' k2 m:Nat}(h:k' <= k + c)(h2:k2 <= k' + m)(hm:m <= 9):k2 <= k + (c + 9):=by omega
theorem wE{k c k':Nat}(h:k' <= k + c):k' + 1 <= k + (c + 10):=by omega
theorem wF{k c k' k2 m:Nat}(h:k' <= k + c)(h2:k2 <= k' + 1 + m)(hm:m <= 9):k2 <= k + (c + 10):=by omega
theorem wG{k k1 m:Nat}(h:k1 <= k + (2 + 9 * m))(hm:m <= 9):k1 <= k + 83:=by omega
theorem wH{k c k' m:Nat}(hk:k + 200 < 900000)(h:k' <= k + c)(hc:c <= 150)(hm:m <= 9):k' + 1 + m < 900000:=by omega
theorem wI(m:Nat):(1:Int) + ((m:Int) - 1)=(m:Int):=by omega
theorem wJ{k c k' m:Nat}(hk:k + 200 < 900000)(h:k' <= k + c)(hc:c <= 150)(hm:m <= 9):k' + 1 + m + 1 < 900000:=by omega
theorem wK{a b i:Nat}(hi:i < 3)(h:a + b * 2 <= 150):a + b * i <= 150:=Nat.le_trans (Nat.add_le_add_left (Nat.mul_le_mul_left b (Nat.le_of_lt_succ hi)) a) h
theorem wL{k c k' k3 m:Nat}(h:k' <= k + c)(h2:k3 <= k' + 1 + m + 1)(hm:m <= 9):k3 <= k + (c + 11):=by omega
theorem wM{k c k':Nat}(h:k' <= k + c):k' + 1 <= k + (c + 11):=by omega
theorem wP{r:Int}(h:0 <= r):0 < 2 + r:=by omega
theorem wZ{m:Nat}(h:m <= 9):sm62 (m:Int):=⟨by omega,by omega⟩
section
variable{P:Program}{w:World}{K:W.Frag}{mg:Str->Option Value}{base:Heap}{n:Nat}
abbrev qa7p:Stmt:=top 33
theorem qa4g:FnScope ["_law_tape","_law_most","_law_many_here","_law_few","_law_moves","_law_facts","_law_sights"] ["_law_tape","_law_most"] (qa0k qa7p):=⟨rfl,rfl,rfl,by decide +kernel,rfl,by decide +kernel,by decide +kernel⟩
theorem qd3r{f f1 f2 f3:Addr}{fd fd1 fd2 fd3:FuncData} (F:Fun K "_law_world" "_law_world" qa7p f fd) (B:Bl mg) (qa0o:qa9c K mg f1 fd1) (qa0t:qa9b P w K mg base n f1 fd1)
  (qa9e:Def K mg "_law_some" qa9d ["_law_tape","_law_many_here","_law_few"] f2 fd2) (qb6v:FnOk P w K mg base CX0 n f2 fd2 ["_law_tape","_law_many_here","_law_few"] (spD K qc1w))
  (qb1b:Def K mg "_law_parts" qa7o ["_law_tape","_law_many_here"] f3 fd3) (qc3o:FnOk P w K mg base CX0 n f3 fd3 ["_law_tape","_law_many_here"] (spD K qb7t)):FnOk P w K mg base CX0 (n + 1) f fd ["_law_tape","_law_most"] (spD K qb7u):=by
 refine F.dok qa4g (fun cdv A outer s H E hr ls Qd h=>?_) (fun ls Qd h=>by obtain⟨_,_,e,_⟩:=h;rw [e];rfl)
 obtain⟨k,most,rfl,hm1,hm2,hk,q⟩:=h
 refine⟨rfl,?_⟩
 refine⟨_,(qa0e (qa0y (i:=2) qa4g.nd rfl (Or.inr rfl) (qa1l qa1i qa2c qa0c (qa0f [true,false] qa0o qa0t hr rfl (qa0a (dv 0) (qa0a (dv 1) qa0b)))))
  (qa0e (qa0y (i:=3) qa4g.nd rfl (Or.inr rfl) (qa1l qa1i qa2c qa0c (qa0f [true,false] qa0o qa0t hr rfl (qa0a (dv 0) (qa0a qa0c qa0b)))))
  (qa0e (qa0y (i:=4) qa4g.nd rfl (Or.inl rfl) (qa3h qa2w qa5d rfl B.tuple_ qa3m (qa0a (qa1c (qa1q ["_law_p"] [("_law_tape",0),("_law_many_here",2),("_law_few",3)] rfl (by rfl) (by decide +kernel) (qa3d rfl B.range_ (dv 2)) (fun _ _ _=>(qa0s (i:=0) (show(["_law_p","_law_tape","_law_many_here","_law_few"]:List Str).Nodup by decide +kernel) rfl (Or.inl rfl))) (fun _ _ _=>qa1z) (fun _ _ _=>(qa0f [true,false,false] qa9e qb6v hr rfl (qa0a (dv 1) (qa0a (dv 2) (qa0a (dv 3) qa0b))))))) qa0b)))
  (qa0e (qa5x (i:=5) qa4g.nd rfl rfl ["_law_name"] [("_law_tape",0),("_law_many_here",2)] rfl (by rfl) (by decide +kernel) (qa1w (qa1c (qa1o (qa0a qa0h (qa0a qa0h (qa0a qa0h qa0b)))))) (fun _ _ _=>(qa0s (i:=0) (show(["_law_name","_law_tape","_law_many_here"]:List Str).Nodup by decide +kernel) rfl (Or.inl rfl))) (fun _ _ _=>(qa3r (qa0n qa8t (qa2m _) (qa0f [true,false] qa0o qa0t hr rfl (qa0a (dv 1) (qa0a qa0c qa0b))) qa0c (qa0m _)))) (fun _ _ _=>(qa0u (qa0a (dv 0) (qa0a (qa0f [true,false,false] qa9e qb6v hr rfl (qa0a (dv 1) (qa0a (dv 2) (qa0a qa0c qa0b)))) qa0b)))))
  (qa0e (qa5x (i:=6) qa4g.nd rfl rfl ["_law_hand"] [("_law_tape",0),("_law_many_here",2)] rfl (by rfl) (by decide +kernel) (qa1w (qa1c (qa1o (qa0a qa0h (qa0a qa0h (qa0a qa0h qa0b)))))) (fun _ _ _=>(qa0s (i:=0) (show(["_law_hand","_law_tape","_law_many_here"]:List Str).Nodup by decide +kernel) rfl (Or.inl rfl))) (fun _ _ _=>(qa3r (qa0n qa8t (qa2m _) (qa0f [true,false] qa0o qa0t hr rfl (qa0a (dv 1) (qa0a qa0c qa0b))) qa0c (qa0m _)))) (fun _ _ _=>(qa0u (qa0a (dv 0) (qa0a (qa0f [true,false] qb1b qc3o hr rfl (qa0a (dv 1) (qa0a (dv 2) qa0b))) qa0b)))))
  (qa0g (qa0i (qa0u (qa0a (qa3h qa2w qa5d rfl B.tuple_ qa3m (qa0a (dv 5) qa0b)) (qa0a (dv 4) (qa0a (qa3h qa2w qa5d rfl B.tuple_ qa3m (qa0a (dv 6) qa0b)) qa0b))))))))))),?_⟩
 walk_at "dd"
 refine⟨k,most,rfl,Int.ofNat_lt.mpr hm1,wA hk (Nat.le_refl _) (Nat.zero_le _),fun r h0 h1=>?_⟩
 obtain⟨m,rfl,hma,hmb⟩:∃ m:Nat,r=(m:Int) - 1/\1 <= m/\m <= most:=⟨r.toNat + 1,by omega,by omega,by omega⟩
 have m9:m <= 9:=Nat.le_trans hmb hm2
 have m20:m <= 20:=Nat.le_trans m9 (by decide)
 walk_at "dd"
 rw [wI m]
 refine⟨k + 1,3,rfl,by decide,wA hk (c:=1) (Nat.le_refl _) (by decide),fun r2 h2 h3=>?_⟩
 walk_at "dd"
 refine⟨wZ m9,?_⟩
 rw [Int.toNat_natCast]
 refine⟨by rw [qa4f];exact Nat.le_trans m9 (by decide),?_⟩
 refine qa3x (fun i ρ acc=>∃ (v0:Option L) (k':Nat) (tss:List (List Int)),ρ=[v0,some (.tape k'),some (.d (.int (m:Int))),some (.d (.int (2 + r2)))]/\acc=tss.map encT/\tss.length=i/\(∀ t ∈ tss,InR m t)/\k' <= k + (2 + 9 * i)/\i <= m) ⟨none,k + 2,[],rfl,rfl,rfl,fun x hx=>by simp at hx,Nat.le_refl _,Nat.zero_le _⟩ ?_ ?_
 ·rintro i x ρ acc N hx ⟨v0,k',tss,rfl,rfl,hl,hb,hk',hi⟩ hN
  obtain⟨hi2,rfl⟩:=rngI hx
  walk_at "dd"
  refine⟨k',m,2 + r2,rfl,wP h2,m20,wC hk hk' hi2 m9,fun ns k2 hk2 hns=>?_⟩
  walk_at "dd"
  refine hN _ _ ⟨_,k2,tss ++ [ns],rfl,by simp,by rw [List.length_append,hl];rfl,fun t ht=>?_,wD hk' hk2 m9,hi2⟩
  rcases List.mem_append.mp ht with h | h
  ·exact hb t h
  ·rw [List.mem_singleton.mp h];exact hns
 rintro ρ acc ⟨v0,k1,mvs,rfl,rfl,hmv,hmr,hk1,_⟩
 rw [qa4f] at hmv hk1
 walk_at "dd"
 refine qa3x (fun i ρ acc=>∃ (v0:Option L) (k':Nat) (fs:List (Str × List Int)),ρ=[v0,some (.tape k'),some (.d (.int (m:Int)))]/\acc=fs.map encF/\(fs.map (·.1)).Sublist ((["p","pq","q"]:List Str).take i)/\(∀ f ∈ fs,InR m f.2)/\k' <= k + (83 + 10 * i)/\i <= 3) ⟨none,k1,[],rfl,rfl,by simp,fun x hx=>by simp at hx,wG hk1 m9,Nat.zero_le _⟩ ?_ ?_
 ·rintro i x ρ acc N hx ⟨v0,k',fs,rfl,rfl,hl,hb,hk',hi⟩ hN
  obtain⟨z,hz,rfl,hi3⟩:=str3 hx
  have hc:=wK (a:=83) (b:=10) hi3 (by decide)
  walk_at "dd"
  refine⟨k',5,rfl,by decide,wA hk hk' (Nat.le_trans hc (by decide)),fun r4 h4 h5=>?_⟩
  walk_at "dd"
  refine qa1m (fun c=>?_) (fun c=>?_)
  ·walk_at "dd"
   refine⟨k' + 1,m,2,rfl,by decide,m20,wH hk hk' hc m9,fun ns k2 hk2 hns=>?_⟩
   walk_at "dd"
   refine hN _ _ ⟨_,k2,fs ++ [(z,ns)],rfl,by simp,by rw [List.map_append];exact sub_snoc hl hz,fun t ht=>?_,wF hk' hk2 m9,hi3⟩
   rcases List.mem_append.mp ht with h | h
   ·exact hb t h
   ·rw [List.mem_singleton.mp h];exact hns
  ·exact hN _ _ ⟨_,k' + 1,fs,rfl,rfl,qc1x hl,hb,wE hk',hi3⟩
 rintro ρ acc ⟨v0,k2,fs,rfl,rfl,hfn,hfr,hk2,_⟩
 walk_at "dd"
 refine qa3x (fun i ρ acc=>∃ (v0:Option L) (k':Nat) (ss:List (Str × List (List Int))),ρ=[v0,some (.tape k'),some (.d (.int (m:Int)))]/\acc=ss.map encS/\(ss.map (·.1)).Sublist ((["a","ab","b"]:List Str).take i)/\(∀ f ∈ ss,Parts m f.2)/\k' <= k + (113 + 11 * i)/\i <= 3) ⟨none,k2,[],rfl,rfl,by simp,fun x hx=>by simp at hx,hk2,Nat.zero_le _⟩ ?_ ?_
 ·rintro i x ρ acc N hx ⟨v0,k',ss,rfl,rfl,hl,hb,hk',hi⟩ hN
  obtain⟨z,hz,rfl,hi3⟩:=str3 hx
  have hc:=wK (a:=113) (b:=11) hi3 (by decide)
  walk_at "dd"
  refine⟨k',5,rfl,by decide,wA hk hk' (Nat.le_trans hc (by decide)),fun r4 h4 h5=>?_⟩
  walk_at "dd"
  refine qa1m (fun c=>?_) (fun c=>?_)
  ·walk_at "dd"
   refine⟨k' + 1,m,rfl,m20,wJ hk hk' hc m9,fun tss k3 hk3 hps=>?_⟩
   walk_at "dd"
   refine hN _ _ ⟨_,k3,ss ++ [(z,tss)],rfl,by simp,by rw [List.map_append];exact sub_snoc hl hz,fun t ht=>?_,wL hk' hk3 m9,hi3⟩
   rcases List.mem_append.mp ht with h | h
   ·exact hb t h
   ·rw [List.mem_singleton.mp h];exact hps
  ·exact hN _ _ ⟨_,k' + 1,ss,rfl,rfl,qc1x hl,hb,wM hk',hi3⟩
 rintro ρ acc ⟨v0,k3,ss,rfl,rfl,hsn,hsr,hk3,_⟩
 walk_at "dd"
 exact q ⟨m,fs,mvs,ss⟩ k3 (Nat.le_trans hk3 (Nat.add_le_add_left (by decide) k)) ⟨hma,m9,hmv,hmr,hfn,hfr,hsn,hsr⟩ hmb
end
open Tr
abbrev encH(hs:List Str):PyData:=.tuple (hs.map .str)
noncomputable def qa5j:Stp Str->PyData
 | .on=>.tuple [.str "on"]
 | .back=>.tuple [.str "back"]
 | .one hs=>.tuple [.str "one",encH hs]
 | .pool hs=>.tuple [.str "pool",encH hs]
noncomputable def enc:Fm Str->PyData
 | .fact z=>.tuple [.str "fact",.str z]
 | .wish z=>.tuple [.str "wish",.str z]
 | .neg a=>.tuple [.str "not",enc a]
 | .two c a b=>.tuple [.str (if c then "and" else "or"),enc a,enc b]
 | .mod c st a=>.tuple [.str (if c then "every" else "some"),qa5j st,enc a]
 | .bind m x a=>.tuple [.str (if m then "most" else "least"),.str x,enc a]
 | .sho hs a b=>.tuple [.str "show",encH hs,enc a,enc b]
noncomputable def szF:Fm Str->Nat
 | .fact _=>1
 | .wish _=>1
 | .neg a=>szF a + 1
 | .two _ a b=>szF a + szF b + 1
 | .mod _ _ a=>szF a + 1
 | .bind _ _ a=>szF a + 1
 | .sho _ a b=>szF a + szF b + 1
theorem qa4x:∀ a:Fm Str,1 <= szF a
 | .fact _=>Nat.le_refl _
 | .wish _=>Nat.le_refl _
 | .neg a=>Nat.succ_le_succ (Nat.zero_le _)
 | .two _ a b=>Nat.succ_le_succ (Nat.zero_le _)
 | .mod _ _ a=>Nat.succ_le_succ (Nat.zero_le _)
 | .bind _ _ a=>Nat.succ_le_succ (Nat.zero_le _)
 | .sho _ a b=>Nat.succ_le_succ (Nat.zero_le _)
noncomputable def nmAt(b:Nat):List Str:=match b with
 | 0=>["x","p"]
 | 1=>["xy","pq"]
 | _=>["y","q"]
def Lv(F:List (Str × Bool))(b:Nat):Prop:=∀ q ∈ F,∃ c,c < b/\q.1 ∈ nmAt c
noncomputable def NM:List Str:=["p","pq","q","zz","x","xy","y"]
noncomputable def HL:List (List Str):=[["a"],["ab"],["b"],["a","b"],["a","ab"],["a","ab","b"],["ab","b"],["a","zz"]]
noncomputable def smS:Stp Str->Prop
 | .one hs=>hs.length <= 3
 | .pool hs=>hs.length <= 3
 | _=>True
noncomputable def wS:Stp Str->Prop
 | .one hs=>hs ∈ HL
 | .pool hs=>hs ∈ HL
 | _=>True
noncomputable def Wl:Fm Str->Nat->Nat->Prop
 | .fact z,_,_=>z ∈ NM
 | .wish z,_,_=>z ∈ NM
 | .neg a,b,s=>Wl a b s
 | .two _ a c,b,s=>Wl a b s/\Wl c b s
 | .mod _ st a,b,s=>wS st/\Wl a b s
 | .bind _ x a,b,s=>(b < 3/\x ∈ nmAt b)/\Wl a (b + 1) s
 | .sho hs a c,b,s=>(s < 2/\hs ∈ HL)/\Wl a b (s + 1)/\Wl c b (s + 1)
noncomputable def smF:Fm Str->Prop
 | .fact _=>True
 | .wish _=>True
 | .neg a=>smF a
 | .two _ a b=>smF a/\smF b
 | .mod _ st a=>smS st/\smF a
 | .bind _ _ a=>smF a
 | .sho hs a b=>hs.length <= 3/\smF a/\smF b
theorem hl_ok:∀ hs ∈ HL,hs ≠ []/\hs.length <= 3:=by decide +kernel
theorem nm_str:∀ z ∈ NM,PyData.strOk z=true:=by decide +kernel
theorem at_nm:∀ b < 3,∀ z ∈ nmAt b,z ∈ NM:=by decide +kernel
theorem wS.ok:∀ {st:Stp Str},wS st->okS st/\smS st
 | .on,_=>⟨trivial,trivial⟩
 | .back,_=>⟨trivial,trivial⟩
 | .one hs,h=>hl_ok hs h
 | .pool hs,h=>hl_ok hs h
theorem Wl.sm:∀ (a:Fm Str) {b s:Nat},Wl a b s->smF a
 | .fact _,_,_,_=>trivial
 | .wish _,_,_,_=>trivial
 | .neg a,_,_,h=>Wl.sm a h
 | .two _ a c,_,_,h=>⟨Wl.sm a h.1,Wl.sm c h.2⟩
 | .mod _ _ a,_,_,h=>⟨h.1.ok.2,Wl.sm a h.2⟩
 | .bind _ _ a,_,_,h=>Wl.sm a h.2
 | .sho hs a c,_,_,h=>⟨(hl_ok hs h.1.2).2,Wl.sm a h.2.1,Wl.sm c h.2.2⟩
structure FOk(F:List (Str × Bool))(n b s:Nat)(a:Fm Str):Prop where
 pos:Pos a F
 size:szF a <= n
 wl:Wl a b s
def qb4r:DSp:=fun ls Q=>∃ k:Nat,ls=[.tape k]/\k < 999999/\∀ hs:List Str,hs ∈ HL->Q (.d (encH hs)) [some (.tape (k + 1))]
def qb6w:DSp:=fun ls Q=>∃ k:Nat,ls=[.tape k]/\k < 999990/\∀ (st:Stp Str) (k':Nat),k' <= k + 2->wS st->Q (.d (qa5j st)) [some (.tape k')]
section
variable{P:Program}{w:World}{K:W.Frag}{mg:Str->Option Value}{base:Heap}{n:Nat}
abbrev qa5q:Stmt:=top 34
theorem qb3x:FnScope ["_law_tape","_law_some_here"] ["_law_tape"] (qa0k qa5q):=⟨rfl,rfl,rfl,by decide +kernel,rfl,by decide +kernel,by decide +kernel⟩
theorem qd3s{f f1:Addr}{fd fd1:FuncData} (F:Fun K "_law_hands" "_law_hands" qa5q f fd) (B:Bl mg) (qa0o:qa9c K mg f1 fd1) (qa0t:qa9b P w K mg base n f1 fd1) :
  FnOk P w K mg base CX0 (n + 1) f fd ["_law_tape"] (spD K qb4r):=by
 refine F.dok qb3x (fun cdv A outer s H E hr ls Qd h=>?_) (fun ls Qd h=>by obtain⟨k,e,_⟩:=h;rw [e];rfl)
 obtain⟨k,rfl,hk,q⟩:=h
 refine⟨rfl,?_⟩
 refine⟨_,(qa0e (qa0y (i:=1) qb3x.nd rfl (Or.inl rfl) (qa1c (qa1o (qa0a (qa0u (qa0a qa0h qa0b)) (qa0a (qa0u (qa0a qa0h qa0b)) (qa0a (qa0u (qa0a qa0h qa0b)) (qa0a (qa0u (qa0a qa0h (qa0a qa0h qa0b))) (qa0a (qa0u (qa0a qa0h (qa0a qa0h qa0b))) (qa0a (qa0u (qa0a qa0h (qa0a qa0h (qa0a qa0h qa0b)))) (qa0a (qa0u (qa0a qa0h (qa0a qa0h qa0b))) (qa0a (qa0u (qa0a qa0h (qa0a qa0h qa0b))) qa0b)))))))))))
  (qa0g (qa0i (qa0p qa0j qa0q (dv 1) (qa0f [true,false] qa0o qa0t hr rfl (qa0a (dv 0) (qa0a qa0c qa0b))) (fun _ _=>rfl))))),?_⟩
 walk_at "dd"
 refine⟨k,8,rfl,by decide,by omega,fun r h0 h1=>?_⟩
 walk_at "dd"
 refine qa3f h0 h1 fun d hd _=>?_
 simp only [List.mem_cons,List.not_mem_nil,or_false] at hd
 rcases hd with rfl | rfl | rfl | rfl | rfl | rfl | rfl | rfl
 ·exact q ["a"] (by decide +kernel)
 ·exact q ["ab"] (by decide +kernel)
 ·exact q ["b"] (by decide +kernel)
 ·exact q ["a","b"] (by decide +kernel)
 ·exact q ["a","ab"] (by decide +kernel)
 ·exact q ["a","ab","b"] (by decide +kernel)
 ·exact q ["ab","b"] (by decide +kernel)
 ·exact q ["a","zz"] (by decide +kernel)
abbrev qa6k:Stmt:=top 35
theorem qb5c:FnScope ["_law_tape","_law_way"] ["_law_tape"] (qa0k qa6k):=⟨rfl,rfl,rfl,by decide +kernel,rfl,by decide +kernel,by decide +kernel⟩
theorem ok_step{f f1 f2:Addr}{fd fd1 fd2:FuncData} (F:Fun K "_law_step" "_law_step" qa6k f fd) (B:Bl mg) (qa0o:qa9c K mg f1 fd1) (qa0t:qa9b P w K mg base n f1 fd1)
  (qa4y:Def K mg "_law_hands" qa5q ["_law_tape"] f2 fd2) (qb1c:FnOk P w K mg base CX0 n f2 fd2 ["_law_tape"] (spD K qb4r)):FnOk P w K mg base CX0 (n + 1) f fd ["_law_tape"] (spD K qb6w):=by
 refine F.dok qb5c (fun cdv A outer s H E hr ls Qd h=>?_) (fun ls Qd h=>by obtain⟨k,e,_⟩:=h;rw [e];rfl)
 obtain⟨k,rfl,hk,q⟩:=h
 refine⟨rfl,?_⟩
 refine⟨_,(qa0e (qa0y (i:=1) qb5c.nd rfl (Or.inl rfl) (qa0f [true,false] qa0o qa0t hr rfl (qa0a (dv 0) (qa0a qa0c qa0b))))
  (qa0e (qa0x (qa0n qa8s (qa2m _) (dv 1) qa0c (qa0m _))
  (qa0g (qa0i (qa0u (qa0a qa0h qa0b))))
  qa0r)
  (qa0e (qa0x (qa0n (qa0w hr.units) qa0v (dv 1) qa0c (qa0m _))
  (qa0g (qa0i (qa0u (qa0a qa0h qa0b))))
  qa0r)
  (qa0g (qa0i (qa0u (qa0a (qa0p qa0j qa0q (qa1c (qa1o (qa0a qa0h (qa0a qa0h (qa0a qa0h qa0b))))) (qa1l qa4d qa4e (dv 1) qa0c) (fun _ _=>rfl)) (qa0a (qa0f [true] qa4y qb1c hr rfl (qa0a (dv 0) qa0b)) qa0b)))))))),?_⟩
 walk_at "dd"
 refine⟨k,6,rfl,by decide,by omega,fun r h0 h1=>?_⟩
 walk_at "dd"
 refine qa1m (fun c=>q .on _ (by omega) trivial) fun c'=>?_
 walk_at "dd"
 refine qa1m (fun c2=>q .back _ (by omega) trivial) fun c2'=>?_
 walk_at "dd"
 refine qa3f (by omega) (by simp;omega) fun d hd _=>?_
 refine⟨k + 1,rfl,by omega,fun hs h1=>?_⟩
 walk_at "dd"
 simp at hd
 rcases hd with rfl | rfl
 ·exact q (.one hs) _ (by omega) h1
 ·exact q (.pool hs) _ (by omega) h1
noncomputable def qa2u(F:List (Str × Bool)):List PyData:=F.map fun p=>.tuple [.str p.1,.bool p.2]
def qb6x:DSp:=fun ls Q=>∃ (k:Nat) (F:List (Str × Bool)),ls=[.tape k,.d (.list (qa2u F))]/\k < 999990/\F.length <= 1000/\(∀ p ∈ F,p.1 ∈ NM)/\∀ (s:Fm Str) (k':Nat),k' <= k + 3->(∀ b sh,FOk F 1 b sh s)->Q (.d (enc s)) [some (.tape k'),none]
noncomputable def evenF:PyData->Option PyData
 | .tuple [.str m,.bool false]=>some (.str m)
 | _=>none
theorem qb9d{F:List (Str × Bool)}{x:PyData}(h:x ∈ (qa2u F).filterMap evenF):∃ m,x=.str m/\(m,false) ∈ F:=by
 obtain⟨y,hy,e⟩:=List.mem_filterMap.mp h
 obtain⟨⟨m,b⟩,hp,rfl⟩:=List.mem_map.mp hy
 cases b with
 | true=>cases e
 | false=>cases e;exact⟨m,rfl,hp⟩
theorem qd0i{F:List (Str × Bool)}(hS:∀ p ∈ F,p.1 ∈ NM):SeqAt.shaped (.list ((qa2u F).filterMap evenF))=true:=by
 have key:∀ xs:List PyData,(∀ x ∈ xs,∃ m,x=.str m/\PyData.strOk m=true)->PyData.canLayAll0 xs=true/\PyData.depthAll xs=0:=fun xs=>by
  induction xs with
  | nil=>intro _;exact⟨rfl,rfl⟩
  | cons x r ih =>
   intro h
   obtain⟨m,rfl,hm⟩:=h x List.mem_cons_self
   obtain⟨h1,h2⟩:=ih fun y hy=>h y (List.mem_cons_of_mem _ hy)
   simp [PyData.canLayAll0,PyData.canLay0,PyData.depthAll,PyData.depth,hm,h1,h2]
 obtain⟨h1,h2⟩:=key ((qa2u F).filterMap evenF) fun x hx=>by
  obtain⟨m,e,hm⟩:=qb9d hx
  exact⟨m,e,nm_str _ (hS _ hm)⟩
 simp [SeqAt.shaped,PyData.canLay0,PyData.depth,h1,h2]
abbrev qa9f:Stmt:=top 36
theorem qb5d:FnScope ["_law_tape","_law_free","_law_some_here"] ["_law_tape","_law_free"] (qa0k qa9f):=⟨rfl,rfl,rfl,by decide +kernel,rfl,by decide +kernel,by decide +kernel⟩
theorem ok_leaf{f f1:Addr}{fd fd1:FuncData} (F:Fun K "_law_leaf" "_law_leaf" qa9f f fd) (B:Bl mg) (qa0o:qa9c K mg f1 fd1) (qa0t:qa9b P w K mg base n f1 fd1) :
  FnOk P w K mg base CX0 (n + 1) f fd ["_law_tape","_law_free"] (spD K qb6x):=by
 refine F.dok qb5d (fun cdv A outer s H E hr ls Qd h=>?_) (fun ls Qd h=>by obtain⟨k,F,e,_⟩:=h;rw [e];rfl)
 obtain⟨k,F,rfl,hk,hF,hS,q⟩:=h
 refine⟨rfl,?_⟩
 refine⟨_,(qa0e (qa5x (i:=2) qb5d.nd rfl rfl ["_law_name","_law_odd"] [] rfl (by rfl) (by decide +kernel) (qa1w (dv 1)) (fun _ _ _=>(qb1s (n:=2) rfl (qa2z (qa0s (i:=0) (show(["_law_name","_law_odd"]:List Str).Nodup by decide +kernel) rfl (Or.inl rfl)) (qa2z (qa0s (i:=1) (show(["_law_name","_law_odd"]:List Str).Nodup by decide +kernel) rfl (Or.inl rfl)) qa9s)))) (fun _ _ _=>(qa3r (qa5e (qc0q (dv 1))))) (fun _ _ _=>(dv 0)))
  (qa0e (qa0x (DW.toT (qb1p (qa0n (qc0z hr.units) qc0y (dv 2) (qa1c (qa1o qa0b)) (qa0m _)) (qa9r (qa0n qa8t (qa2m _) (qa0f [true,false] qa0o qa0t hr rfl (qa0a (dv 0) (qa0a qa0c qa0b))) qa0c (qa0m _)))))
  (qa0g (qa0i (qa0u (qa0a qa0h (qa0a (qa0p qa0j qa0q (dv 2) (qa0f [true,false] qa0o qa0t hr rfl (qa0a (dv 0) (qa0a (qa1f qa1b qa2b rfl B.len_ qa1u (qa0a (dv 2) qa0b)) qa0b))) (fun _ _=>rfl)) qa0b)))))
  qa0r)
  (qa0g (qa0i (qa0u (qa0a qa0h (qa0a (qa0p qa0j qa0q (qa1c (qa1o (qa0a qa0h (qa0a qa0h (qa0a qa0h (qa0a qa0h qa0b)))))) (qa0f [true,false] qa0o qa0t hr rfl (qa0a (dv 0) (qa0a qa0c qa0b))) (fun _ _=>rfl)) qa0b))))))),?_⟩
 walk_at "dd"
 refine⟨by simp [qa2u];omega,qa3y (fun ρ=>∃ a b,ρ=[a,b]) evenF ⟨none,none,rfl⟩ (fun x ρ N hx hρ hN=>?_) fun ρ _=>?_⟩
 ·obtain⟨a,b,rfl⟩:=hρ
  obtain⟨⟨m,o⟩,_,rfl⟩:=List.mem_map.mp hx
  walk_at "dd"
  cases o with
  | true=>exact hN _ ⟨_,_,rfl⟩
  | false=>exact hN _ ⟨_,_,rfl⟩
 generalize hE:(qa2u F).filterMap evenF=ev
 have hev:∀ x ∈ ev,∃ m,x=.str m/\(m,false) ∈ F:=fun x hx=>qb9d (by rw [hE];exact hx)
 have hsh:=qd0i hS
 rw [hE] at hsh
 walk_at "dd"
 rw [qc1a rfl hsh rfl]
 walk_at "dd"
 have fact:∀ k',k' <= k + 1->later (dRet (dTup (qa6h (dC (PyData.str "fact")) (qa6h (dOp fIx (dFz (dLst (qa6h (dC (PyData.str "p")) (qa6h (dC (PyData.str "pq")) (qa6h (dC (PyData.str "q")) (qa6h (dC (PyData.str "zz")) dNil)))))) (qb6o [true,false] qc1u (qa6h (dVar 0) (qa6h (dC (PyData.int 4)) dNil)))) dNil))))
   { nx:=fun ρ=>Qd (RV.d PyData.none) (mask [L.tape k,L.d (PyData.list (qa2u F))] ρ),rt:=fun r ρ=>Qd r (mask [L.tape k,L.d (PyData.list (qa2u F))] ρ) } [some (L.tape k'),some (L.d (PyData.list (qa2u F))),some (L.own ev)]:=fun k' hk'=>by
  walk_at "dd"
  refine⟨k',4,rfl,by decide,by omega,fun r h0 h1=>?_⟩
  walk_at "dd"
  refine qa3f h0 h1 fun d hd _=>?_
  walk_at "dd"
  simp at hd
  rcases hd with rfl | rfl | rfl | rfl<;>exact q (.fact _) _ (by omega) fun _ _=>⟨trivial,Nat.le_refl _,(by decide +kernel:_ ∈ NM)⟩
 refine qa4o (fun c=>?_) (fun c=>?_)
 ·have hne:0 < ev.length:=by
   cases ev with
   | nil=>simp [PyData.eqv,PyData.eqvAll] at c
   | cons _ _=>simp
  have hle:ev.length <= F.length:=by
   rw [← hE]
   exact Nat.le_trans (List.length_filterMap_le _ _) (by simp [qa2u])
  refine⟨k,3,rfl,by decide,by omega,fun r h0 h1=>?_⟩
  walk_at "dd"
  refine qa1m (fun c2=>?_) (fun c2=>fact _ (by omega))
  refine⟨k + 1,ev.length,rfl,by omega,by omega,fun r2 h2 h3=>?_⟩
  walk_at "dd"
  refine qa3f h2 h3 fun d hd _=>?_
  walk_at "dd"
  obtain⟨m,rfl,hm⟩:=hev d hd
  exact q (.wish m) _ (by omega) fun _ _=>⟨hm,Nat.le_refl _,hS _ hm⟩
 ·exact fact _ (by omega)
end
open Tr
def spSen(m:Nat):DSp:=fun ls Q=>∃ (k size b sh:Nat) (F:List (Str × Bool)),ls=[.tape k,.d (.int size),.d (.list (qa2u F)),.d (.int b),.d (.int sh)]/\1 <= size/\size <= m/\size <= 100/\b <= 3/\F.length <= b/\Lv F b/\k + 10 * size <= 990000/\(∀ p ∈ F,p.1 ∈ NM) /\
 ∀ (s:Fm Str) (k':Nat),k' <= k + 10 * size->FOk F size b sh s->Q (.d (enc s)) [some (.tape k'),none,none,none,none]
noncomputable def flipD:PyData->Option PyData
 | .tuple [.str m,.bool o]=>some (.tuple [.str m,.bool !o])
 | _=>none
theorem qd3t(F:List (Str × Bool)):(qa2u F).filterMap flipD=qa2u (flip F):=by
 induction F with
 | nil=>rfl
 | cons p r ih =>
  obtain⟨m,o⟩:=p
  show(PyData.tuple [.str m,.bool o] :: qa2u r).filterMap flipD=_
  have e:flipD (PyData.tuple [.str m,.bool o])=some (PyData.tuple [.str m,.bool !o]):=rfl
  rw [List.filterMap_cons_some e,ih]
  rfl
theorem flip_ok{F:List (Str × Bool)}(h:∀ p ∈ F,p.1 ∈ NM):∀ p ∈ flip F,p.1 ∈ NM:=fun p hp=>by
 obtain⟨q,hq,rfl⟩:=List.mem_map.mp hp
 exact h q hq
theorem Lv.flip{F:List (Str × Bool)}{b:Nat}(h:Lv F b):Lv (Tr.flip F) b:=fun q hq=>by
 obtain⟨u,hu,rfl⟩:=List.mem_map.mp hq
 exact h u hu
theorem nm_new{F:List (Str × Bool)}{b:Nat}{x:Str}(h:Lv F b)(hb:b < 3)(hx:x ∈ nmAt b):x ∉ F.map (·.1):=fun hm=>by
 obtain⟨q,hq,e⟩:=List.mem_map.mp hm
 obtain⟨c,hc,hn⟩:=h q hq
 rw [e] at hn
 have:∀ a < 3,∀ c < a,∀ y ∈ nmAt a,y ∉ nmAt c:=by decide +kernel
 exact this b hb c hc x hx hn
theorem Lv.snoc{F:List (Str × Bool)}{b:Nat}{x:Str}(h:Lv F b)(hx:x ∈ nmAt b):Lv (F ++ [(x,false)]) (b + 1):=fun q hq=>by
 rcases List.mem_append.mp hq with hq | hq
 ·obtain⟨c,hc,hn⟩:=h q hq
  exact⟨c,by omega,hn⟩
 ·rw [List.mem_singleton.mp hq];exact⟨b,by omega,hx⟩
theorem zE(j:Nat):((j + 1:Nat):Int) - 1=((j:Nat):Int):=by omega
theorem zT(fi s2:Nat):((1 + fi + s2 + 1:Nat):Int) - 1 - (1 + (fi:Int))=((s2:Nat):Int):=by omega
theorem ykD{k j i:Nat}(h:k + 10 * (j + 1) <= 990000)(hi:i <= 10):k + i + 10 * j <= 990000:=by omega
theorem ykB{k j i:Nat}(h:k + 10 * (j + 1) <= 990000)(hi:i <= 10):k + i < 1000000:=by omega
theorem ykC{k j i:Nat}(h:k + 10 * (j + 1) <= 990000)(hi:i <= 10):k + i < 999990:=by omega
theorem ykR{k j i k':Nat}(hi:i <= 10)(h:k' <= k + i + 10 * j):k' <= k + 10 * (j + 1):=by omega
theorem ykS{k j i k':Nat}(hi:i <= 9)(h:k' <= k + i + 10 * j):k' + 1 <= k + 10 * (j + 1):=by omega
theorem ykN{k j i k':Nat}(h:k + 10 * (j + 1) <= 990000)(hi:i <= 9)(h':k' <= k + i + 10 * j):k' < 1000000:=by omega
theorem ykP{k p s:Nat}(h:k + 10 * (p + s + 1) <= 990000):k + 2 + 10 * p <= 990000:=by omega
theorem ykV{k p s k':Nat}(h:k + 10 * (p + s + 1) <= 990000)(h':k' <= k + 2 + 10 * p):k' < 999999:=by omega
theorem ykW{k p s k':Nat}(h:k + 10 * (p + s + 1) <= 990000)(h':k' <= k + 2 + 10 * p):k' < 1000000:=by omega
theorem ykT{k p s k':Nat}(h:k + 10 * (p + s + 1) <= 990000)(h':k' <= k + 2 + 10 * p):k' + 1 + 10 * s <= 990000:=by omega
theorem ykU{k p s k' k2:Nat}(h':k' <= k + 2 + 10 * p)(h2:k2 <= k' + 1 + 10 * s):k2 <= k + 10 * (p + s + 1):=by omega
theorem b012{b:Nat}(h:b < 3):b=0 ∨ b=1 ∨ b=2:=by omega
theorem frL{F:List (Str × Bool)}{b:Nat}(h:F.length <= b)(hb:b <= 3):(qa2u F).length <= 1000000:=by simp [qa2u];omega
theorem frA{F:List (Str × Bool)}{b:Nat}{x:PyData}(h:F.length <= b)(hb:b <= 3):(qa2u F).length + [x].length <= sizeLine:=by
 have:(qa2u F).length=F.length:=by simp [qa2u]
 rw [this,sizeLine_eq,List.length_singleton];omega
section
variable{P:Program}{w:World}{K:W.Frag}{mg:Str->Option Value}{base:Heap}{n:Nat}
abbrev qa3i:Stmt:=top 37
theorem qa1y:FnScope ["_law_tape","_law_size","_law_free","_law_binders","_law_shows","_law_way","_law_flipped","_law_word","_law_name","_law_body","_law_first","_law_told","_law_one"] ["_law_tape","_law_size","_law_free","_law_binders","_law_shows"] (qa0k qa3i):=⟨rfl,rfl,rfl,by decide +kernel,rfl,by decide +kernel,by decide +kernel⟩
theorem qc3p{f f1 f2 f3 f4:Addr}{fd fd1 fd2 fd3 fd4:FuncData} (F:Fun K "_law_sentence" "_law_sentence" qa3i f fd) (B:Bl mg) (qa0o:qa9c K mg f1 fd1)
  (qa4y:Def K mg "_law_hands" qa5q ["_law_tape"] f2 fd2) (qa5k:Def K mg "_law_step" qa6k ["_law_tape"] f3 fd3) (qb2r:Def K mg "_law_leaf" qa9f ["_law_tape","_law_free"] f4 fd4)
  (qa1g:Def K mg "_law_sentence" qa3i ["_law_tape","_law_size","_law_free","_law_binders","_law_shows"] f fd) {m:Nat} (qa0t:qa9b P w K mg base n f1 fd1) (qb1c:FnOk P w K mg base CX0 n f2 fd2 ["_law_tape"] (spD K qb4r))
  (qb2s:FnOk P w K mg base CX0 n f3 fd3 ["_law_tape"] (spD K qb6w)) (qc7o:FnOk P w K mg base CX0 n f4 fd4 ["_law_tape","_law_free"] (spD K qb6x)) (qa1s:FnOk P w K mg base CX0 n f fd ["_law_tape","_law_size","_law_free","_law_binders","_law_shows"] (spD K (spSen m))) :
  FnOk P w K mg base CX0 (n + 1) f fd ["_law_tape","_law_size","_law_free","_law_binders","_law_shows"] (spD K (spSen (m + 1))):=by
 refine F.dok qa1y (fun cdv A outer s H E hr ls Qd h=>?_) (fun ls Qd h=>by obtain⟨k,_,_,_,F,e,_⟩:=h;rw [e];rfl)
 obtain⟨k,size,b,sh,F,rfl,hs1,hs2,hs3,hb,hF,hv,hk,hS,q⟩:=h
 refine⟨rfl,?_⟩
 refine⟨_,(qa0e (qa0y (i:=5) qa1y.nd rfl (Or.inl rfl) (qa0f [true,false] qa0o qa0t hr rfl (qa0a (dv 0) (qa0a qa0c qa0b))))
  (qa0e (qa0x (DW.toT (qa7m (qa0n qa8s (qa2m _) (dv 1) qa0c (qa0m _)) (qa5n (qa0n (qa0w hr.units) qa0v (dv 5) qa0c (qa0m _)))))
  (qa0g (qa0i (qa0f [true,false] qb2r qc7o hr rfl (qa0a (dv 0) (qa0a (dv 2) qa0b)))))
  qa0r)
  (qa0e (qa0x (qa0n (qa0w hr.units) qa0v (dv 5) qa0c (qa0m _))
  (qa0e (qa5x (i:=6) qa1y.nd rfl rfl ["_law_name","_law_odd"] [] rfl (by rfl) (by decide +kernel) (qa1w (dv 2)) (fun _ _ _=>(qb1s (n:=2) rfl (qa2z (qa0s (i:=0) (show(["_law_name","_law_odd"]:List Str).Nodup by decide +kernel) rfl (Or.inl rfl)) (qa2z (qa0s (i:=1) (show(["_law_name","_law_odd"]:List Str).Nodup by decide +kernel) rfl (Or.inl rfl)) qa9s)))) (fun _ _ _=>qa1z) (fun _ _ _=>(qa0u (qa0a (dv 0) (qa0a (de_not (dv 1)) qa0b)))))
  (qa0g (qa0i (qa0u (qa0a qa0h (qa0a (qa0f [true,false,false,false,false] qa1g qa1s hr rfl (qa0a (dv 0) (qa0a (qa1l qa4d qa4e (dv 1) qa0c) (qa0a (dv 6) (qa0a (dv 3) (qa0a (dv 4) qa0b)))))) qa0b))))))
  qa0r)
  (qa0e (qa0x (DW.toT (qa7m (qa0n qa8s (qa2m _) (dv 5) qa0c (qa0m _)) (qa5n (qa0n qa8s (qa2m _) (dv 1) qa0c (qa0m _)))))
  (qa0e (qa0y (i:=7) qa1y.nd rfl (Or.inl rfl) (qa0p qa0j qa0q (qa1c (qa1o (qa0a qa0h (qa0a qa0h qa0b)))) (qa0f [true,false] qa0o qa0t hr rfl (qa0a (dv 0) (qa0a qa0c qa0b))) (fun _ _=>rfl)))
  (qa0g (qa0i (qa0u (qa0a (dv 7) (qa0a (qa0f [true] qa5k qb2s hr rfl (qa0a (dv 0) qa0b)) (qa0a (qa0f [true,false,false,false,false] qa1g qa1s hr rfl (qa0a (dv 0) (qa0a (qa1l qa4d qa4e (dv 1) qa0c) (qa0a (dv 2) (qa0a (dv 3) (qa0a (dv 4) qa0b)))))) qa0b)))))))
  qa0r)
  (qa0e (qa0x (DW.toT (qb1p (qa0n qa8s (qa2m _) (dv 5) qa0c (qa0m _)) (qa9r (qa0n qa8s (qa2m _) (dv 3) qa0c (qa0m _)))))
  (qa0e (qa0y (i:=8) qa1y.nd rfl (Or.inl rfl) (qa0p qa0j qa0q (qa0p qa0j qa0q (qa1c (qa1o (qa0a (qa1c (qa1o (qa0a qa0h (qa0a qa0h (qa0a qa0h qa0b))))) (qa0a (qa1c (qa1o (qa0a qa0h (qa0a qa0h (qa0a qa0h qa0b))))) qa0b)))) (qa0f [true,false] qa0o qa0t hr rfl (qa0a (dv 0) (qa0a qa0c qa0b))) (fun _ _=>rfl)) (dv 3) (fun _ _=>rfl)))
  (qa0e (qa0y (i:=9) qa1y.nd rfl (Or.inl rfl) (qa0f [true,false,false,false,false] qa1g qa1s hr rfl (qa0a (dv 0) (qa0a (qa1l qa4d qa4e (dv 1) qa0c) (qa0a (qa1l qa1i qa2c (dv 2) (qa1c (qa1o (qa0a (qa0u (qa0a (dv 8) (qa0a qa2o qa0b))) qa0b)))) (qa0a (qa1l qa1i qa2c (dv 3) qa0c) (qa0a (dv 4) qa0b)))))))
  (qa0g (qa0i (qa0u (qa0a (qa0p qa0j qa0q (qa1c (qa1o (qa0a qa0h (qa0a qa0h qa0b)))) (qa0f [true,false] qa0o qa0t hr rfl (qa0a (dv 0) (qa0a qa0c qa0b))) (fun _ _=>rfl)) (qa0a (dv 8) (qa0a (dv 9) qa0b))))))))
  qa0r)
  (qa0e (qa0y (i:=10) qa1y.nd rfl (Or.inl rfl) (qa1l qa1i qa2c qa0c (qa0f [true,false] qa0o qa0t hr rfl (qa0a (dv 0) (qa0a (qa1l qa4d qa4e (dv 1) qa0c) qa0b)))))
  (qa0e (qa0x (DW.toT (qb1p (qa0n (qa0w hr.units) qa0v (dv 5) qa0c (qa0m _)) (qa9r (qa0n qa8s (qa2m _) (dv 4) qa0c (qa0m _)))))
  (qa0e (qa0y (i:=11) qa1y.nd rfl (Or.inl rfl) (qa0f [true,false,false,false,false] qa1g qa1s hr rfl (qa0a (dv 0) (qa0a (dv 10) (qa0a (qa1c (qa1o qa0b)) (qa0a (dv 3) (qa0a (qa1l qa1i qa2c (dv 4) qa0c) qa0b)))))))
  (qa0g (qa0i (qa0u (qa0a qa0h (qa0a (qa0f [true] qa4y qb1c hr rfl (qa0a (dv 0) qa0b)) (qa0a (dv 11) (qa0a (qa0f [true,false,false,false,false] qa1g qa1s hr rfl (qa0a (dv 0) (qa0a (qa1l qa4d qa4e (qa1l qa4d qa4e (dv 1) qa0c) (dv 10)) (qa0a (qa1c (qa1o qa0b)) (qa0a (dv 3) (qa0a (qa1l qa1i qa2c (dv 4) qa0c) qa0b)))))) qa0b))))))))
  qa0r)
  (qa0e (qa0y (i:=12) qa1y.nd rfl (Or.inl rfl) (qa0f [true,false,false,false,false] qa1g qa1s hr rfl (qa0a (dv 0) (qa0a (dv 10) (qa0a (dv 2) (qa0a (dv 3) (qa0a (dv 4) qa0b)))))))
  (qa0g (qa0i (qa0u (qa0a (qa0p qa0j qa0q (qa1c (qa1o (qa0a qa0h (qa0a qa0h qa0b)))) (qa0f [true,false] qa0o qa0t hr rfl (qa0a (dv 0) (qa0a qa0c qa0b))) (fun _ _=>rfl)) (qa0a (dv 12) (qa0a (qa0f [true,false,false,false,false] qa1g qa1s hr rfl (qa0a (dv 0) (qa0a (qa1l qa4d qa4e (qa1l qa4d qa4e (dv 1) qa0c) (dv 10)) (qa0a (dv 2) (qa0a (dv 3) (qa0a (dv 4) qa0b)))))) qa0b)))))))))))))),?_⟩
 walk_at "dd"
 refine⟨k,12,rfl,by decide,by omega,fun way h0 h1=>?_⟩
 walk_at "dd"
 have leaf:qb6x [L.tape (k + 1),L.d (PyData.list (qa2u F))] fun r outs=>match r with
   | RV.d x=>Qd (RV.d x) [outs[0]?.join.bind (qa6i (L.tape (k + 1))),none,none,none,none]
   | RV.new ys=>Qd (RV.d (PyData.list ys)) [outs[0]?.join.bind (qa6i (L.tape (k + 1))),none,none,none,none]:=by
  refine⟨k + 1,F,rfl,by omega,by omega,hS,fun s k' hk' ok=>?_⟩
  walk_at "dd"
  exact q s k' (by omega) ⟨(ok b sh).pos,Nat.le_trans (ok b sh).size hs1,(ok b sh).wl⟩
 refine ite_or (fun _=>leaf) fun c1 c2=>?_
 obtain⟨j,rfl,hj1⟩:∃ j,size=j + 1/\1 <= j:=⟨size - 1,by omega,by omega⟩
 have hjm:j <= m:=Nat.le_of_succ_le_succ hs2
 have hj3:j <= 100:=Nat.le_of_succ_le hs3
 have e1:((j + 1:Nat):Int) - 1=((j:Nat):Int):=zE j
 walk_at "dd"
 refine qa1m (fun c3=>?_) fun c3=>?_
 ·-- not
  walk_at "dd"
  refine⟨frL hF hb,qa3y (fun ρ=>∃ a b,ρ=[a,b]) flipD ⟨none,none,rfl⟩ (fun x ρ N hx hρ hN=>?_) fun ρ _=>?_⟩
  ·obtain⟨a,b,rfl⟩:=hρ
   obtain⟨⟨m,o⟩,_,rfl⟩:=List.mem_map.mp hx
   walk_at "dd"
   exact hN _ ⟨_,_,rfl⟩
  rw [qd3t]
  walk_at "dd"
  refine⟨k + 1,j,b,sh,flip F,by rw [e1],hj1,hjm,hj3,hb,by simpa [Tr.flip] using hF,hv.flip,ykD hk (by decide:1 <= 10),flip_ok hS,fun s k' hk' ok=>?_⟩
  walk_at "dd"
  exact q (.neg s) k' (ykR (by decide:1 <= 10) hk') ⟨ok.pos,Nat.succ_le_succ ok.size,ok.wl⟩
 walk_at "dd"
 refine ite_or (fun c4=>?_) fun c4 c5=>?_
 ·-- some, every
  refine⟨k + 1,2,rfl,by decide,ykB hk (by decide:1 <= 10),fun r g0 g1=>?_⟩
  walk_at "dd"
  refine qa3f g0 g1 fun wd hwd _=>?_
  walk_at "dd"
  refine⟨k + 2,rfl,ykC hk (by decide:2 <= 10),fun st k2 hk2 hst=>?_⟩
  walk_at "dd"
  refine⟨k2,j,b,sh,F,by rw [e1],hj1,hjm,hj3,hb,hF,hv,Nat.le_trans (Nat.add_le_add_right hk2 _) (ykD (k:=k) (i:=4) hk (by decide)),hS,fun s k' hk' ok=>?_⟩
  have hk3:=ykR (i:=4) (by decide) (Nat.le_trans hk' (Nat.add_le_add_right hk2 _))
  walk_at "dd"
  obtain⟨c,rfl⟩:∃ c:Bool,wd=.str (if c then "every" else "some"):=by
   simp only [List.mem_cons,List.not_mem_nil,or_false] at hwd
   rcases hwd with rfl | rfl
   ·exact⟨false,rfl⟩
   ·exact⟨true,rfl⟩
  exact q (.mod c st s) k' hk3 ⟨⟨hst.ok.1,ok.pos⟩,Nat.succ_le_succ ok.size,hst,ok.wl⟩
 walk_at "dd"
 refine qc5o (fun c6 c7=>?_) fun c6=>?_
 ·-- least, most
  have hb3:b < 3:=by omega
  refine⟨k + 1,2,rfl,by decide,ykB hk (by decide:1 <= 10),fun r g0 g1=>?_⟩
  walk_at "dd"
  refine qa3f g0 g1 fun nms hnms _=>?_
  have hx:∃ xs,nms=.list xs/\xs.length=3/\∀ d,xs[b]? = some d->∃ m,d=.str m/\m ∈ nmAt b:=by
   have cb:=b012 hb3
   simp only [List.mem_cons,List.not_mem_nil,or_false] at hnms
   rcases hnms with rfl | rfl<;>refine⟨_,rfl,rfl,fun d hd=>?_⟩<;>rcases cb with rfl | rfl | rfl<;>cases hd<;>exact⟨_,rfl,by decide +kernel⟩
  obtain⟨xs,rfl,hxl,hxs⟩:=hx
  walk_at "dd"
  refine qa3f (Int.natCast_nonneg b) (by rw [hxl];exact Int.ofNat_lt.mpr hb3) fun d _ hd=>?_
  obtain⟨nm,rfl,hnm⟩:=hxs d (by simpa using hd)
  walk_at "dd"
  have e2:(b:Int) + 1=((b + 1:Nat):Int):=rfl
  have eF:qa2u F ++ [PyData.tuple [.str nm,.bool false]]=qa2u (F ++ [(nm,false)]):=by simp [qa2u]
  rw [fAdd_l (frA hF hb),eF]
  walk_at "dd"
  refine⟨k + 1 + 1,j,b + 1,sh,F ++ [(nm,false)],by rw [e1,e2],hj1,hjm,hj3,hb3,by rw [List.length_append,List.length_singleton];exact Nat.succ_le_succ hF,hv.snoc hnm,ykD (k:=k) (i:=2) hk (by decide),fun p hp=>?_,fun s k' hk' ok=>?_⟩
  ·rcases List.mem_append.mp hp with hp | hp
   ·exact hS p hp
   ·rw [List.mem_singleton.mp hp];exact at_nm b hb3 _ hnm
  walk_at "dd"
  refine⟨k',2,rfl,by decide,ykN hk (by decide:2 <= 9) hk',fun r2 g2 g3=>?_⟩
  walk_at "dd"
  refine qa3f g2 g3 fun wd hwd _=>?_
  walk_at "dd"
  obtain⟨c,rfl⟩:∃ c:Bool,wd=.str (if c then "most" else "least"):=by
   simp only [List.mem_cons,List.not_mem_nil,or_false] at hwd
   rcases hwd with rfl | rfl
   ·exact⟨false,rfl⟩
   ·exact⟨true,rfl⟩
  exact q (.bind c nm s) _ (ykS (by decide:2 <= 9) hk') ⟨⟨nm_new hv hb3 hnm,ok.pos⟩,Nat.succ_le_succ ok.size,⟨hb3,hnm⟩,ok.wl⟩
 walk_at "dd"
 refine⟨k + 1,((j - 1:Nat):Int),by rw [show((j + 1:Nat):Int) - 2=((j - 1:Nat):Int) by omega],by omega,ykB hk (by decide:1 <= 10),fun r g0 g1=>?_⟩
 walk_at "dd"
 obtain⟨fi,s2,rfl,rfl,hs21⟩:∃ fi s2:Nat,r=fi/\j=1 + fi + s2/\1 <= s2:=⟨r.toNat,j - (1 + r.toNat),by omega,by omega,by omega⟩
 have e3:(1:Int) + (fi:Int)=((1 + fi:Nat):Int):=rfl
 have e4:((1 + fi + s2 + 1:Nat):Int) - 1 - (1 + (fi:Int))=((s2:Nat):Int):=zT fi s2
 have p1:1 <= 1 + fi:=Nat.le_add_right 1 fi
 have pm:1 + fi <= m:=Nat.le_trans (Nat.le_add_right _ s2) hjm
 have pc:1 + fi <= 100:=Nat.le_trans (Nat.le_add_right _ s2) hj3
 have sm:s2 <= m:=Nat.le_trans (Nat.le_add_left s2 _) hjm
 have sc:s2 <= 100:=Nat.le_trans (Nat.le_add_left s2 _) hj3
 refine qc5o (fun c7 c8=>?_) fun c7=>?_
 ·-- show
  have e5:(sh:Int) + 1=((sh + 1:Nat):Int):=rfl
  walk_at "dd"
  refine⟨k + 1 + 1,1 + fi,b,sh + 1,[],by rw [e3,e5];rfl,p1,pm,pc,hb,Nat.zero_le _,fun p hp=>(by cases hp),ykP hk,fun p hp=>(by cases hp),fun s k' hk' ok=>?_⟩
  walk_at "dd"
  refine⟨k',rfl,ykV hk hk',fun h hl=>?_⟩
  walk_at "dd"
  refine⟨k' + 1,s2,b,sh + 1,[],by rw [e4,e5];rfl,hs21,sm,sc,hb,Nat.zero_le _,fun p hp=>(by cases hp),ykT hk hk',fun p hp=>(by cases hp),fun t k2 hk2 ok2=>?_⟩
  walk_at "dd"
  exact q (.sho h s t) _ (ykU hk' hk2) ⟨⟨ok.pos,ok2.pos⟩,Nat.succ_le_succ (Nat.add_le_add ok.size ok2.size),⟨Int.ofNat_lt.mp c8,hl⟩,ok.wl,ok2.wl⟩
 ·walk_at "dd"
  refine⟨k + 1 + 1,1 + fi,b,sh,F,by rw [e3],p1,pm,pc,hb,hF,hv,ykP hk,hS,fun s k' hk' ok=>?_⟩
  walk_at "dd"
  refine⟨k',2,rfl,by decide,ykW hk hk',fun r2 g2 g3=>?_⟩
  walk_at "dd"
  refine qa3f g2 g3 fun wd hwd _=>?_
  walk_at "dd"
  refine⟨k' + 1,s2,b,sh,F,by rw [e4],hs21,sm,sc,hb,hF,hv,ykT hk hk',hS,fun t k2 hk2 ok2=>?_⟩
  walk_at "dd"
  obtain⟨c,rfl⟩:∃ c:Bool,wd=.str (if c then "and" else "or"):=by
   simp only [List.mem_cons,List.not_mem_nil,or_false] at hwd
   rcases hwd with rfl | rfl
   ·exact⟨true,rfl⟩
   ·exact⟨false,rfl⟩
  exact q (.two c s t) _ (ykU hk' hk2) ⟨⟨ok.pos,ok2.pos⟩,Nat.succ_le_succ (Nat.add_le_add ok.size ok2.size),ok.wl,ok2.wl⟩
end
open Tr
theorem qa3n{β:Type}{g:TDG}{tt:TDT}{te:TDE}{Q:List PyData->Rho->Prop}{ys:List β}{ρ:Rho}(enc out:β->PyData)(Sh:Rho->Prop)(h0:Sh ρ)
  (hs:∀ (y:β) (ρ:Rho) (N:Rho->PyData->Prop) (Nn:Rho->Prop),y ∈ ys->Sh ρ->(∀ ρ',Sh ρ'->N ρ' (out y))->g (enc y) ρ fun ρ1=>tt ρ1 fun b ρ2=>if b=true then te ρ2 fun y ρ3=>fz ρ3 y fun z ρ4=>N ρ4 z else Nn ρ2)
  (hd:∀ ρ,Sh ρ->Q (ys.map out) ρ):qa1j g tt te Q (ys.map enc) ρ []:=by
 have key:∀ (r:List β) (acc:List PyData) (ρ:Rho),(∀ x ∈ r,x ∈ ys)->Sh ρ->(∀ ρ,Sh ρ->Q (acc ++ r.map out) ρ)->qa1j g tt te Q (r.map enc) ρ acc:=fun r=>by
  induction r with
  | nil=>intro acc ρ _ h hq;have:=hq ρ h;show Q acc ρ;simpa using this
  | cons x r ih =>
   intro acc ρ hm h hq
   have step:=hs x ρ (fun ρ' z=>qa1j g tt te Q (r.map enc) ρ' (acc ++ [z])) (fun ρ'=>qa1j g tt te Q (r.map enc) ρ' acc) (hm x List.mem_cons_self) h fun ρ' h'=>?_
   ·exact step
   ·refine ih (acc ++ [out x]) ρ' (fun y hy=>hm y (List.mem_cons_of_mem _ hy)) h' fun ρ2 h2=>?_
    have:=hq ρ2 h2
    simpa using this
 exact key ys [] ρ (fun _ h=>h) h0 (by simpa using hd)
theorem qb1w(m:Nat):rngD 0 m=(List.range m).map fun p:Nat=>PyData.int (p:Int):=by simp [rngD]
theorem qc1y:∀ (ν μ:List (Key × PyData)),((μ ++ ν).map (·.1)).Nodup->foldA μ ν=μ ++ ν
 | [],μ,_=>by simp [foldA]
 | q :: r,μ,h=>by
  have hq:(μ.any fun p=>decide (p.1=q.1))=false:=by
   rw [List.any_eq_false]
   intro p hp
   rw [List.map_append,List.nodup_append] at h
   have:=h.2.2 p.1 (List.mem_map.mpr ⟨p,hp,rfl⟩) q.1 (by simp)
   simpa using this
  have e:putA μ q.1 q.2=μ ++ [q]:=by unfold putA;rw [hq];rfl
  show foldA (putA μ q.1 q.2) r=_
  rw [e,qc1y r (μ ++ [q]) (by simpa using h)]
  simp
theorem fold_kq{ps:List (Str × PyData)}(h:(ps.map (·.1)).Nodup):foldA [] (ps.map kQ)=ps.map kQ:=by
 have:=qc1y (ps.map kQ) [] (by
  rw [List.nil_append,List.map_map]
  have e:((fun q:Key × PyData=>q.1) ∘ kQ)=(Sum.inr:Str->Key) ∘ fun p:Str × PyData=>p.1:=rfl
  rw [e,← List.map_map]
  exact List.pairwise_map.mpr (h.imp fun hab e=>hab (Sum.inr.inj e)))
 simpa using this
theorem qb7v(z:Str):∀ ps:List (Str × PyData),getA ((ps.map kQ).map kD) (Sum.inr z)=(ps.find? fun p=>decide (p.1=z)).map (·.2)
 | []=>rfl
 | p :: r=>by
  by_cases c:p.1=z
  ·rw [List.find?_cons_of_pos (by simpa using c)]
   show(if qa8z (keyD (Sum.inr p.1))=some (Sum.inr z) then some p.2 else _)=_
   rw [if_pos (by rw [qb2n,c])]
   try rfl
  ·rw [List.find?_cons_of_neg (by simpa using c),← qb7v z r]
   show(if qa8z (keyD (Sum.inr p.1))=some (Sum.inr z) then some p.2 else _)=_
   rw [if_neg (by rw [qb2n];exact fun e=>c (Sum.inr.inj (Option.some.inj e)))]
   try rfl
theorem qd3u{ps:List (Str × PyData)}(h:(ps.map (·.1)).Nodup)(hl:ps.length <= 1000):qb6t [.tuple (ps.map qb2o)]=some (.dict ((ps.map kQ).map kD)):=by
 show(unQ (ps.map qb2o)).bind _=_
 rw [unQ_of,Option.bind_some,if_pos hl]
 unfold dictQ
 rw [fold_kq h]
theorem fGetD_q{ps:List (Str × PyData)}{z:Str}{d:PyData}(hd:notL d=true):fGetD (.dict ((ps.map kQ).map kD)) [.str z,d]=some (((ps.find? fun p=>decide (p.1=z)).map (·.2)).getD d):=by
 show(if notL d=true then some ((getA ((ps.map kQ).map kD) (Sum.inr z)).getD d) else none)=_
 rw [if_pos hd,qb7v]
theorem qd3v{α:Type}{p:α->Bool}{xs:List α}{i:Nat}{x:α}(h0:(xs.take i).find? p=none)(hx:xs[i]? = some x)(hp:p x=true):xs.find? p=some x:=by
 obtain⟨hi,e⟩:=List.getElem?_eq_some_iff.mp hx
 have es:xs=xs.take i ++ x :: xs.drop (i + 1):=by rw [← e,← List.drop_eq_getElem_cons hi,List.take_append_drop]
 rw [es,List.find?_append,h0,Option.none_or,List.find?_cons_of_pos hp]
theorem qd0j{α:Type}{p:α->Bool}{xs:List α}{i:Nat}{x:α}(h0:(xs.take i).find? p=none)(hx:xs[i]? = some x)(hp:p x=false):(xs.take (i + 1)).find? p=none:=by
 rw [List.take_add_one,hx,List.find?_append,h0,Option.none_or,Option.toList_some,List.find?_cons_of_neg (by rw [hp];exact Bool.false_ne_true)]
 rfl
noncomputable def lookF(fs:List (Str × List Int))(z:Str):List Int:=((fs.find? fun f=>decide (f.1=z)).map (·.2)).getD []
noncomputable def qb0t(ss:List (Str × List (List Int)))(z:Str)(p:Int):List Int:=match ss.find? (fun s=>decide (s.1=z)) with
 | some s=>((s.2.filter fun t=>decide (p ∈ t)).head?).getD []
 | none=>[p]
theorem qb5w(p:Int):∀ t:List Int,inF (.int p) (t.map .int)=decide (p ∈ t)
 | []=>rfl
 | x :: r=>by
  rw [List.map_cons,inF_i,qb5w p r]
  by_cases c:x=p
  ·subst c;simp
  ·have c2:¬ p=x:=fun e=>c e.symm
   simp [c,c2]
theorem qb3y:∀ t:List Int,(t.map PyData.int).all qa1n=true
 | []=>rfl
 | x :: r=>by rw [List.map_cons,List.all_cons,qb3y r];rfl
theorem qc1z{p:Int}{t:List Int}:fIn false (.int p) (.tuple (t.map .int))=some (.bool (decide (p ∈ t))):=by
 rw [fIn_f (by rw [qb3y];rfl),qb5w];rfl
theorem qc2a{p:Int}{t:List Int}:fIn false (.int p) (encT t)=some (.bool (decide (p ∈ t))):=qc1z
theorem fIn_ni{neg:Bool}{p:Int}{t:List Int}:fIn neg (.int p) (.tuple (t.map .int))=some (.bool (if neg then !decide (p ∈ t) else decide (p ∈ t))):=by
 rw [fIn_f (by rw [qb3y];rfl),qb5w]
theorem qd0k(b:Bool)(xs:List Bool):inF (.bool b) (xs.map .bool)=xs.contains b:=by
 induction xs with
 | nil=>rfl
 | cons x r ih =>
  unfold inF at ih ⊢
  rw [List.map_cons,List.any_cons,ih,List.contains_cons]
  cases x<;>cases b<;>rfl
theorem qb0u{neg:Bool}{b:Bool}{xs:List Bool}:fIn neg (.bool b) (.list (xs.map .bool))=some (.bool (if neg then !xs.contains b else xs.contains b)):=by
 have h1:(xs.map PyData.bool).all qa1n=true:=by
  induction xs with
  | nil=>rfl
  | cons x r ih=>rw [List.map_cons,List.all_cons,ih];rfl
 rw [qc1b (by rw [h1];rfl),qd0k]
theorem qa4a{xs:List PyData}{i:Nat}{d:PyData}{k:PyData->Prop}(h:xs[i]? = some d)(hk:k d):need (atI xs (i:Int)) k:=by
 have hi:i < xs.length:=(List.getElem?_eq_some_iff.mp h).1
 refine qa3f (by omega) (by omega) fun d' _ e=>?_
 rw [Int.toNat_natCast,h] at e
 cases e
 exact hk
noncomputable def rngF(m:Nat)(f:Nat->Bool):List Int:=((List.range m).filter f).map fun p:Nat=>(p:Int)
theorem rngF_in(m:Nat)(f:Nat->Bool):InR m (rngF m f):=by
 unfold rngF
 refine⟨fun x hx=>?_,?_⟩
 ·obtain⟨p,hp,rfl⟩:=List.mem_map.mp hx
  have:=List.mem_range.mp (List.mem_filter.mp hp).1
  omega
 ·rw [List.length_map]
  exact Nat.le_trans (List.length_filter_le ..) (by rw [List.length_range];exact Nat.le_refl _)
noncomputable def fmR(f:Nat->Bool):PyData->Option PyData
 | .int p=>if f p.toNat=true then some (PyData.int p) else none
 | _=>none
theorem fmR_i{f:Nat->Bool}{a:Nat}:fmR f (.int (a:Int))=if f a=true then some (PyData.int (a:Int)) else none:=rfl
theorem qb5x{m:Nat}{f:Nat->Bool}:(rngD 0 m).filterMap (fmR f)=(rngF m f).map .int:=by
 unfold rngF rngD
 generalize List.range m=r
 induction r with
 | nil=>rfl
 | cons p r ih =>
  rw [List.map_cons,List.filterMap_cons]
  have e2:(0 + (p:Int))=(p:Int):=by omega
  simp only [e2,fmR_i]
  rw [List.filter_cons]
  by_cases c:f p=true
  ·rw [if_pos c,if_pos c,List.map_cons,List.map_cons,← ih]
  ·rw [if_neg c,if_neg c,← ih]
theorem qb5y(h:Str):∀ hs:List Str,inF (.str h) (hs.map .str)=decide (h ∈ hs)
 | []=>rfl
 | x :: r=>by
  rw [List.map_cons,inF_s,qb5y h r]
  by_cases c:x=h
  ·subst c;simp
  ·have c2:¬ h=x:=fun e=>c e.symm
   simp [c,c2]
theorem qb3z:∀ hs:List Str,(hs.map PyData.str).all qa1n=true
 | []=>rfl
 | x :: r=>by rw [List.map_cons,List.all_cons,qb3z r];rfl
theorem qd3w{neg:Bool}{h:Str}{hs:List Str}:fIn neg (.str h) (.tuple (hs.map .str))=some (.bool (if neg then !decide (h ∈ hs) else decide (h ∈ hs))):=by
 rw [fIn_f (by rw [qb3z];rfl),qb5y]
theorem qd3x{β:Type}{g:TDG}{tt:TDT}{te:TDE}{Q:List PyData->Rho->Prop}{ys:List β}{ρ:Rho}(enc out:β->PyData)(cd:β->Bool)(Sh:Rho->Prop)(h0:Sh ρ)
  (hs:∀ (y:β) (ρ:Rho) (N:Rho->PyData->Prop) (Nn:Rho->Prop),y ∈ ys->Sh ρ->(∀ ρ',Sh ρ'->cd y=true->N ρ' (out y))->(∀ ρ',Sh ρ'->cd y=false->Nn ρ')->g (enc y) ρ fun ρ1=>tt ρ1 fun b ρ2=>if b=true then te ρ2 fun y ρ3=>fz ρ3 y fun z ρ4=>N ρ4 z else Nn ρ2)
  (hd:∀ ρ,Sh ρ->Q ((ys.filter cd).map out) ρ):qa1j g tt te Q (ys.map enc) ρ []:=by
 have key:∀ (r:List β) (acc:List PyData) (ρ:Rho),(∀ x ∈ r,x ∈ ys)->Sh ρ->(∀ ρ,Sh ρ->Q (acc ++ (r.filter cd).map out) ρ)->qa1j g tt te Q (r.map enc) ρ acc:=fun r=>by
  induction r with
  | nil=>intro acc ρ _ h hq;have:=hq ρ h;show Q acc ρ;simpa using this
  | cons x r ih =>
   intro acc ρ hm h hq
   have hm':∀ y ∈ r,y ∈ ys:=fun y hy=>hm y (List.mem_cons_of_mem _ hy)
   have step:=hs x ρ (fun ρ' z=>qa1j g tt te Q (r.map enc) ρ' (acc ++ [z])) (fun ρ'=>qa1j g tt te Q (r.map enc) ρ' acc) (hm x List.mem_cons_self) h (fun ρ' h' c=>ih (acc ++ [out x]) ρ' hm' h' fun ρ2 h2=>?_) (fun ρ' h' c=>ih acc ρ' hm' h' fun ρ2 h2=>?_)
   ·exact step
   ·have:=hq ρ2 h2
    rw [List.filter_cons_of_pos c] at this
    simpa using this
   ·have:=hq ρ2 h2
    rw [List.filter_cons_of_neg (by rw [c];exact Bool.false_ne_true)] at this
    exact this
 exact key ys [] ρ (fun _ h=>h) h0 (by simpa using hd)
structure Ws(W:Wd):Prop where
 n1:W.moves.length <= 12
 mr:∀ t ∈ W.moves,t.length <= 12/\∀ x ∈ t,0 <= x/\x < W.moves.length
 fn:(W.facts.map (·.1)).Nodup
 fl:W.facts.length <= 6
 fr:∀ f ∈ W.facts,f.2.length <= 12
 sl:∀ s ∈ W.sights,s.2.length <= 12
 cov:∀ s ∈ W.sights,∀ p:Nat,p < W.moves.length->∃ t ∈ s.2,(p:Int) ∈ t
noncomputable def mdl(W:Wd):Mdl Str:=⟨W.moves.length,fun z p=>decide ((p:Int) ∈ lookF W.facts z),fun p q=>decide ((q:Int) ∈ W.moves.getD p []),fun h p q=>decide ((q:Int) ∈ qb0t W.sights h p)⟩
abbrev vecD(n:Nat)(X:Vec):PyData:=.list ((List.range n).map fun p=>.bool (X p))
abbrev encRe(n:Nat)(e:List Str × Vec):PyData:=.tuple [encH e.1,vecD n e.2]
abbrev encR(n:Nat)(r:Room Str):PyData:=.list (r.map (encRe n))
theorem qb0j{n p:Nat}{X:Vec}(h:p < n):((List.range n).map fun p=>PyData.bool (X p))[p]? = some (.bool (X p)):=by
 rw [List.getElem?_map,List.getElem?_range h];rfl
theorem qc2b{W:Wd}{p:Nat}(hp:p < W.moves.length):(W.moves.map encT)[p]? = some (encT (W.moves.getD p [])):=by
 rw [List.getElem?_map,List.getD_eq_getElem?_getD,List.getElem?_eq_getElem hp];rfl
noncomputable def ldL(W:Wd)(r:Room Str)(st:Stp Str)(p:Nat):List Int:=match st with
 | .on=>W.moves.getD p []
 | st=>rngF W.moves.length fun q=>lead (mdl W) r st p q
def qc2c:DSp:=fun ls Q=>∃ (W:Wd) (z:Str) (p:Nat),ls=[.d W.enc,.d (.str z),.d (.int (p:Int))]/\Ws W/\p < W.moves.length/\Q (.d (encT (qb0t W.sights z p))) [none,none,none]
def qb7w:DSp:=fun ls Q=>∃ (W:Wd) (r:Room Str) (z:Str) (p q:Nat),ls=[.d W.enc,.d (encR W.moves.length r),.d (.str z),.d (.int (p:Int)),.d (.int (q:Int))]/\Ws W/\r.length <= 100/\p < W.moves.length/\q < W.moves.length/\Q (.d (.bool (blind (mdl W) r z p q))) [none,none,none,none,none]
def qb7x:DSp:=fun ls Q=>∃ (W:Wd) (r:Room Str) (st:Stp Str) (p:Nat),ls=[.d W.enc,.d (encR W.moves.length r),.d (qa5j st),.d (.int (p:Int))]/\Ws W/\r.length <= 100/\smS st/\p < W.moves.length/\Q (.d (.list ((ldL W r st p).map .int))) [none,none,none,none]
noncomputable def sw:Stp Str->Str
 | .on => "on"
 | .back => "back"
 | .one _ => "one"
 | .pool _ => "pool"
noncomputable def sr:Stp Str->List PyData
 | .on=>[]
 | .back=>[]
 | .one hs=>[encH hs]
 | .pool hs=>[encH hs]
noncomputable def pickS(a b c d:Bool):Stp Str->Bool
 | .on=>a
 | .back=>b
 | .one _=>c
 | .pool _=>d
noncomputable def isOn:=pickS true false false false
noncomputable def isBack:=pickS false true false false
noncomputable def isOne:=pickS false false true false
theorem qc2d(st:Stp Str):qa5j st=.tuple (.str (sw st) :: sr st):=by cases st<;>rfl
theorem wOn(st:Stp Str):decide (sw st=Str.ofString "on")=isOn st:=by cases st<;>rfl
theorem wBack(st:Stp Str):decide (sw st=Str.ofString "back")=isBack st:=by cases st<;>rfl
theorem wOne(st:Stp Str):decide (sw st=Str.ofString "one")=isOne st:=by cases st<;>rfl
section
variable{P:Program}{w:World}{K:W.Frag}{mg:Str->Option Value}{base:Heap}{n:Nat}
abbrev qa5t:Stmt:=top 38
theorem qa7f:FnScope ["_law_world_here","_law_hand","_law_p","_law_name","_law_parts_here"] ["_law_world_here","_law_hand","_law_p"] (qa0k qa5t):=⟨rfl,rfl,rfl,by decide +kernel,rfl,by decide +kernel,by decide +kernel⟩
theorem qd3y{f:Addr}{fd:FuncData} (F:Fun K "_law_part_of" "_law_part_of" qa5t f fd) (B:Bl mg):FnOk P w K mg base CX0 (n + 1) f fd ["_law_world_here","_law_hand","_law_p"] (spD K qc2c):=by
 refine F.dok qa7f (fun cdv A outer s H E hr ls Qd h=>?_) (fun ls Qd h=>by obtain⟨_,_,_,e,_⟩:=h;rw [e];rfl)
 obtain⟨W,z,p,rfl,hG,hp,q⟩:=h
 refine⟨rfl,?_⟩
 refine⟨_,(qa0e (qb1t PassesOwn.never rfl (qa1w (qa0p qa0j qa0q (dv 0) qa0c (fun _ _=>rfl))) (qb1s (n:=2) rfl (qa2z (qa0s (i:=3) qa7f.nd rfl (Or.inl rfl)) (qa2z (qa0s (i:=4) qa7f.nd rfl (Or.inl rfl)) qa9s)))
  (qa0g (qa0x (qa0n (qa0w hr.units) qa0v (dv 3) (dv 1) (qa0m _))
  (qa0g (qa0i (qa0p qa0j qa0q (qa1c (qa1q ["_law_part"] [("_law_p",2)] rfl (by rfl) (by decide +kernel) (qa1w (dv 4)) (fun _ _ _=>(qa0s (i:=0) (show(["_law_part","_law_p"]:List Str).Nodup by decide +kernel) rfl (Or.inl rfl))) (fun _ _ _=>(qa3r (qa0n qa2d qa3e (dv 1) (dv 0) (by rfl)))) (fun _ _ _=>(dv 0)))) qa0c (fun _ _=>rfl))))
  qa0r)))
  (qa0g (qa0i (qa0u (qa0a (dv 2) qa0b))))),?_⟩
 walk_at "dd"
 refine qa7c (fun i ρ=>∃ v3 v4:Option L,ρ=[some (.d W.enc),some (.d (.str z)),some (.d (.int (p:Int))),v3,v4]/\(W.sights.take i).find? (fun f=>decide (f.1=z))=none) ⟨none,none,rfl,rfl⟩ ?_ ?_
 ·rintro i x ρ N hx ⟨v2,v4,rfl,h0⟩ hN
  rw [List.getElem?_map] at hx
  obtain⟨sa,hs,rfl⟩:=Option.map_eq_some_iff.mp hx
  have hlen:=hG.sl sa (List.mem_of_getElem? hs)
  walk_at "dd"
  refine qa1m (fun c=>?_) (fun c=>?_)
  ·have hlk:qb0t W.sights z p=((sa.2.filter fun t=>decide ((p:Int) ∈ t)).head?).getD []:=by unfold qb0t;rw [qd3v h0 hs (by simpa using c)]
   walk_at "dd"
   refine⟨by rw [List.length_map];omega,?_⟩
   refine L2.qa3y (fun ρ=>∃ v0:Option L,ρ=[v0,some (.d (.int (p:Int)))]) (fun x=>match fIn false (.int (p:Int)) x with | some (.bool true)=>some x | _=>none) ⟨_,rfl⟩ ?_ ?_
   ·rintro x ρ N2 hx ⟨v0,rfl⟩ hN2
    obtain⟨t,ht,rfl⟩:=List.mem_map.mp hx
    walk_at "dd"
    rw [qc1z] at hN2 ⊢
    walk_at "dd"
    refine qa1m (fun c2=>?_) (fun c2=>?_)
    ·walk_at "dd"
     simp only [decide_eq_true c2] at hN2
     exact hN2 _ ⟨_,rfl⟩
    ·simp only [decide_eq_false c2] at hN2
     exact hN2 _ ⟨_,rfl⟩
   ·rintro ρ ⟨v0,rfl⟩
    have ef:(sa.2.map encT).filterMap (fun x=>match fIn false (.int (p:Int)) x with | some (.bool true)=>some x | _=>none)=(sa.2.filter fun t=>decide ((p:Int) ∈ t)).map encT:=by
     generalize sa.2=l
     induction l with
     | nil=>rfl
     | cons t r ih =>
      rw [List.map_cons,List.filterMap_cons,List.filter_cons,qc2a]
      by_cases c2:(p:Int) ∈ t
      ·rw [decide_eq_true c2,if_pos rfl,List.map_cons,← ih]
      ·rw [decide_eq_false c2,if_neg Bool.false_ne_true,← ih]
    rw [ef]
    obtain⟨t0,ht0,hpt⟩:=hG.cov sa (List.mem_of_getElem? hs) p hp
    cases hfl:sa.2.filter fun t=>decide ((p:Int) ∈ t) with
    | nil =>
     have:t0 ∈ sa.2.filter fun t=>decide ((p:Int) ∈ t):=List.mem_filter.mpr ⟨ht0,decide_eq_true hpt⟩
     rw [hfl] at this
     cases this
    | cons t r =>
     rw [hfl] at hlk
     rw [hlk] at q
     walk_at "dd"
     exact q
  ·walk_at "dd"
   exact hN _ ⟨_,_,rfl,qd0j h0 hs (by simpa using c)⟩
 ·rintro ρ ⟨v2,v4,rfl,h0⟩
  rw [List.length_map,List.take_length] at h0
  walk_at "dd"
  have:qb0t W.sights z p=[(p:Int)]:=by unfold qb0t;rw [h0]
  rw [this] at q
  exact q
abbrev qa7q:Stmt:=top 39
theorem qc2e:FnScope ["_law_world_here","_law_room","_law_hand","_law_p","_law_q"] ["_law_world_here","_law_room","_law_hand","_law_p","_law_q"] (qa0k qa7q):=⟨rfl,rfl,rfl,by decide +kernel,rfl,by decide +kernel,by decide +kernel⟩
theorem qd3z{f f1:Addr}{fd fd1:FuncData} (F:Fun K "_law_blind" "_law_blind" qa7q f fd) (B:Bl mg)
  (qa8l:Def K mg "_law_part_of" qa5t ["_law_world_here","_law_hand","_law_p"] f1 fd1) (qb9l:FnOk P w K mg base CX0 n f1 fd1 ["_law_world_here","_law_hand","_law_p"] (spD K qc2c)):FnOk P w K mg base CX0 (n + 1) f fd ["_law_world_here","_law_room","_law_hand","_law_p","_law_q"] (spD K qb7w):=by
 refine F.dok qc2e (fun cdv A outer s H E hr ls Qd h=>?_) (fun ls Qd h=>by obtain⟨_,_,_,_,_,e,_⟩:=h;rw [e];rfl)
 obtain⟨W,r,z,p,q',rfl,hG,hr1,hp,hq,q⟩:=h
 refine⟨rfl,?_⟩
 refine⟨_,(qa0e (qa0x (qa0n qa7l qa3e (dv 4) (qa0f [false,false,false] qa8l qb9l hr rfl (qa0a (dv 0) (qa0a (dv 2) (qa0a (dv 3) qa0b)))) (by rfl))
  (qa0g (qa0i qa2o))
  qa0r)
  (qa0g (qa0i (qa3c ((op_eqS hr.units).or (op_eqD hr.units)) ad_eqN (qa1c (qa1q ["_law_hands_here","_law_truths_here"] [("_law_hand",2),("_law_p",3),("_law_q",4)] rfl (by rfl) (by decide +kernel) (qa1w (dv 1)) (fun _ _ _=>(qb1s (n:=2) rfl (qa2z (qa0s (i:=0) (show(["_law_hands_here","_law_truths_here","_law_hand","_law_p","_law_q"]:List Str).Nodup by decide +kernel) rfl (Or.inl rfl)) (qa2z (qa0s (i:=1) (show(["_law_hands_here","_law_truths_here","_law_hand","_law_p","_law_q"]:List Str).Nodup by decide +kernel) rfl (Or.inl rfl)) qa9s)))) (fun _ _ _=>(qa3r (DW.toT (qb1p (qa0n qa2d qa3e (dv 2) (dv 0) (by rfl)) (qa9r (qa0n (qc0z hr.units) qc0y (qa0p qa0j qa0q (dv 1) (dv 3) (fun _ _=>rfl)) (qa0p qa0j qa0q (dv 1) (dv 4) (fun _ _=>rfl)) (qa0m _))))))) (fun _ _ _=>qa0c))) (qa1c (qa1o qa0b)) (qa0m _))))),?_⟩
 walk_at "dd"
 refine⟨W,z,p,rfl,hG,hp,?_⟩
 walk_at "dd"
 rw [fIn_ni]
 walk_at "dd"
 unfold blind at q
 rw [show(mdl W).same z p q'=decide ((q':Int) ∈ qb0t W.sights z p) from rfl] at q
 by_cases c:(q':Int) ∈ qb0t W.sights z p
 ·rw [decide_eq_true c] at q ⊢
  walk_at "dd"
  refine⟨by rw [List.length_map];omega,?_⟩
  refine qd3x (encRe W.moves.length) (fun _=>PyData.int 1) (fun e=>decide (z ∈ e.1) && !(e.2 p == e.2 q')) (fun ρ=>∃ v0 v1:Option L,ρ=[v0,v1,some (.d (.str z)),some (.d (.int (p:Int))),some (.d (.int (q':Int)))]) ⟨none,none,rfl⟩ ?_ ?_
  ·rintro e ρ N Nn he ⟨v0,v1,rfl⟩ hN hNn
   walk_at "dd"
   rw [qd3w]
   walk_at "dd"
   refine qa4o (fun c2=>?_) (fun c2=>hNn _ ⟨_,_,rfl⟩ (by rw [c2];rfl))
   refine qa4a (qb0j hp) (qa4a (qb0j hq) ?_)
   walk_at "dd"
   refine qa4o (fun c3=>hN _ ⟨_,_,rfl⟩ ?_) (fun c3=>hNn _ ⟨_,_,rfl⟩ ?_)
   ·rw [c2];cases h1:e.2 p<;>cases h2:e.2 q'<;>simp_all
   ·rw [c2];cases h1:e.2 p<;>cases h2:e.2 q'<;>simp_all
  ·rintro ρ ⟨v0,v1,rfl⟩
   rw [fEqN_l,qa1a]
   walk_at "dd"
   have e:((r.filter fun e=>decide (z ∈ e.1) && !(e.2 p == e.2 q')).map fun _=>PyData.int 1).isEmpty=(true && r.all fun e=>!decide (z ∈ e.1) || e.2 p == e.2 q'):=by
    rw [Bool.true_and,Bool.eq_iff_iff,List.isEmpty_iff,List.map_eq_nil_iff,List.filter_eq_nil_iff,List.all_eq_true]
    refine forall_congr' fun e=>forall_congr' fun _=>?_
    cases decide (z ∈ e.1)<;>cases (e.2 p == e.2 q')<;>simp
   rw [e]
   exact q
 ·rw [decide_eq_false c] at q ⊢
  walk_at "dd"
  exact q
abbrev qa7r:Stmt:=top 40
theorem qb4a:FnScope ["_law_world_here","_law_room","_law_step_here","_law_p","_law_many_here"] ["_law_world_here","_law_room","_law_step_here","_law_p"] (qa0k qa7r):=⟨rfl,rfl,rfl,by decide +kernel,rfl,by decide +kernel,by decide +kernel⟩
theorem qd4a{f f1:Addr}{fd fd1:FuncData} (F:Fun K "_law_leads" "_law_leads" qa7r f fd) (B:Bl mg)
  (qa7s:Def K mg "_law_blind" qa7q ["_law_world_here","_law_room","_law_hand","_law_p","_law_q"] f1 fd1) (qb5e:FnOk P w K mg base CX0 n f1 fd1 ["_law_world_here","_law_room","_law_hand","_law_p","_law_q"] (spD K qb7w)):FnOk P w K mg base CX0 (n + 1) f fd ["_law_world_here","_law_room","_law_step_here","_law_p"] (spD K qb7x):=by
 refine F.dok qb4a (fun cdv A outer s H E hr ls Qd h=>?_) (fun ls Qd h=>by obtain⟨_,_,_,_,e,_⟩:=h;rw [e];rfl)
 obtain⟨W,r,st,p,rfl,hG,hr1,hst,hp,q⟩:=h
 refine⟨rfl,?_⟩
 have m9:=hG.n1
 refine⟨_,(qa0e (qa0y (i:=4) qb4a.nd rfl (Or.inl rfl) (qd3h rfl rfl B.range_ rfl B.list_ (qa0a (qa1f qa1b qa2b rfl B.len_ qa1u (qa0a (qa0p qa0j qa0q (dv 0) qa0c (fun _ _=>rfl)) qa0b)) qa0b)))
  (qa0e (qa0x (qa0n (qa0w hr.units) qa0v (qa0p qa0j qa0q (dv 2) qa0c (fun _ _=>rfl)) qa0h (qa0m _))
  (qa0g (qa0i (qa1c (qc9m qc0f ad_list rfl B.list_ qc5b (qa0a (qa0p qa0j qa0q (qa0p qa0j qa0q (dv 0) qa0c (fun _ _=>rfl)) (dv 3) (fun _ _=>rfl)) qa0b)))))
  qa0r)
  (qa0e (qa0x (qa0n (qa0w hr.units) qa0v (qa0p qa0j qa0q (dv 2) qa0c (fun _ _=>rfl)) qa0h (qa0m _))
  (qa0g (qa0i (qa1c (qa1q ["_law_q"] [("_law_p",3),("_law_world_here",0)] rfl (by rfl) (by decide +kernel) (qa1w (dv 4)) (fun _ _ _=>(qa0s (i:=0) (show(["_law_q","_law_p","_law_world_here"]:List Str).Nodup by decide +kernel) rfl (Or.inl rfl))) (fun _ _ _=>(qa3r (qa0n qa2d qa3e (dv 1) (qa0p qa0j qa0q (qa0p qa0j qa0q (dv 2) qa0c (fun _ _=>rfl)) (dv 0) (fun _ _=>rfl)) (by rfl)))) (fun _ _ _=>(dv 0))))))
  qa0r)
  (qa0e (qa0x (qa0n (qa0w hr.units) qa0v (qa0p qa0j qa0q (dv 2) qa0c (fun _ _=>rfl)) qa0h (qa0m _))
  (qa0g (qa0i (qa1c (qa1q ["_law_q"] [("_law_step_here",2),("_law_world_here",0),("_law_room",1),("_law_p",3)] rfl (by rfl) (by decide +kernel) (qa1w (dv 4)) (fun _ _ _=>(qa0s (i:=0) (show(["_law_q","_law_step_here","_law_world_here","_law_room","_law_p"]:List Str).Nodup by decide +kernel) rfl (Or.inr rfl))) (fun _ _ _=>(qa3r (qa0n qa2d qa3e qa2o (qa1c (qa1q ["_law_hand"] [("_law_world_here",2),("_law_room",3),("_law_p",4),("_law_q",0)] rfl (by rfl) (by decide +kernel) (qa1w (qa0p qa0j qa0q (dv 1) qa0c (fun _ _=>rfl))) (fun _ _ _=>(qa0s (i:=0) (show(["_law_hand","_law_world_here","_law_room","_law_p","_law_q"]:List Str).Nodup by decide +kernel) rfl (Or.inl rfl))) (fun _ _ _=>qa1z) (fun _ _ _=>(qa0f [false,false,false,false,false] qa7s qb5e hr rfl (qa0a (dv 1) (qa0a (dv 2) (qa0a (dv 0) (qa0a (dv 3) (qa0a (dv 4) qa0b))))))))) (by rfl)))) (fun _ _ _=>(dv 0))))))
  qa0r)
  (qa0g (qa0i (qa1c (qa1q ["_law_q"] [("_law_step_here",2),("_law_world_here",0),("_law_room",1),("_law_p",3)] rfl (by rfl) (by decide +kernel) (qa1w (dv 4)) (fun _ _ _=>(qa0s (i:=0) (show(["_law_q","_law_step_here","_law_world_here","_law_room","_law_p"]:List Str).Nodup by decide +kernel) rfl (Or.inr rfl))) (fun _ _ _=>(qa3r (qa0n qa7l qa3e qa2o (qa1c (qa1q ["_law_hand"] [("_law_world_here",2),("_law_room",3),("_law_p",4),("_law_q",0)] rfl (by rfl) (by decide +kernel) (qa1w (qa0p qa0j qa0q (dv 1) qa0c (fun _ _=>rfl))) (fun _ _ _=>(qa0s (i:=0) (show(["_law_hand","_law_world_here","_law_room","_law_p","_law_q"]:List Str).Nodup by decide +kernel) rfl (Or.inl rfl))) (fun _ _ _=>qa1z) (fun _ _ _=>(qa0f [false,false,false,false,false] qa7s qb5e hr rfl (qa0a (dv 1) (qa0a (dv 2) (qa0a (dv 0) (qa0a (dv 3) (qa0a (dv 4) qa0b))))))))) (by rfl)))) (fun _ _ _=>(dv 0)))))))))),?_⟩
 walk_at "dd"
 rw [List.length_map,qd3f (by omega) (by omega),qa1a,Int.toNat_natCast]
 rw [qc2d st]
 walk_at "dd"
 rw [wOn st]
 cases h1:isOn st with
 | true =>
  cases st<;>first | (cases h1;done) | skip
  walk_at "dd"
  refine qa4a (qc2b hp) ?_
  walk_at "dd"
  exact q
 | false =>
 walk_at "dd"
 rw [wBack st]
 cases h2:isBack st with
 | true =>
  cases st<;>first | (cases h2;done) | skip
  walk_at "dd"
  refine⟨by rw [qa4f];omega,?_⟩
  refine L2.qa3y (fun ρ=>∃ v0:Option L,ρ=[v0,some (.d (.int (p:Int))),some (.d W.enc)]) (fmR (fun q:Nat=>decide ((p:Int) ∈ W.moves.getD q []))) ⟨_,rfl⟩ ?_ ?_
  ·rintro x ρ N hx ⟨v0,rfl⟩ hN
   obtain⟨a,ha⟩:=List.getElem?_of_mem hx
   obtain⟨ha2,rfl⟩:=rngI ha
   walk_at "dd"
   refine qa4a (qc2b ha2) ?_
   rw [qc2a]
   simp only [fmR_i] at hN
   walk_at "dd"
   refine qa1m (fun c=>?_) (fun c=>?_)
   ·walk_at "dd"
    simp only [if_pos (decide_eq_true c)] at hN
    exact hN _ ⟨_,rfl⟩
   ·simp only [if_neg (show ¬ (decide ((p:Int) ∈ W.moves.getD a [])=true) by simpa using c)] at hN
    exact hN _ ⟨_,rfl⟩
  ·rintro ρ ⟨v0,rfl⟩
   rw [qb5x]
   walk_at "dd"
   exact q
 | false =>
 walk_at "dd"
 rw [wOne st]
 cases h3:isOne st with
 | true =>
  obtain⟨hs,rfl⟩:∃ hs,st=.one hs:=by
   cases st with
   | one hs=>exact⟨hs,rfl⟩
   | _=>cases h3
  rw [show sw (.one hs) = "one" from rfl,show sr (.one hs)=[encH hs] from rfl]
  have hl3:hs.length <= 3:=hst
  walk_at "dd"
  refine⟨by rw [qa4f];omega,?_⟩
  refine L2.qa3y (fun ρ=>∃ v0:Option L,ρ=[v0,some (.d (.tuple [.str "one",encH hs])),some (.d W.enc),some (.d (encR W.moves.length r)),some (.d (.int (p:Int)))]) (fmR (fun q:Nat=>hs.any fun z=>blind (mdl W) r z p q)) ⟨_,rfl⟩ ?_ ?_
  ·rintro x ρ N hx ⟨v0,rfl⟩ hN
   obtain⟨a,ha⟩:=List.getElem?_of_mem hx
   obtain⟨ha2,rfl⟩:=rngI ha
   simp only [fmR_i] at hN
   walk_at "dd"
   refine⟨by rw [List.length_map];omega,?_⟩
   refine qa3x (fun i ρ acc=>∃ v0:Option L,ρ=[v0,some (.d W.enc),some (.d (encR W.moves.length r)),some (.d (.int (p:Int))),some (.d (.int (a:Int)))]/\acc=((hs.take i).map fun z=>blind (mdl W) r z p a).map .bool) ⟨none,rfl,rfl⟩ ?_ ?_
   ·rintro i x ρ acc N2 hx ⟨v0,rfl,rfl⟩ hN2
    rw [List.getElem?_map] at hx
    obtain⟨z,hz,rfl⟩:=Option.map_eq_some_iff.mp hx
    walk_at "dd"
    refine⟨W,r,z,p,a,rfl,hG,hr1,hp,ha2,?_⟩
    walk_at "dd"
    refine hN2 _ _ ⟨_,rfl,?_⟩
    rw [List.take_add_one,hz];simp
   ·rintro ρ acc ⟨v0,rfl,rfl⟩
    rw [List.length_map,List.take_length,qb0u]
    walk_at "dd"
    have e:(hs.map fun z=>blind (mdl W) r z p a).contains true=hs.any fun z=>blind (mdl W) r z p a:=by
     rw [Bool.eq_iff_iff];simp
    rw [e]
    refine qa4o (fun c=>?_) (fun c=>?_)
    ·walk_at "dd"
     simp only [if_pos c] at hN
     exact hN _ ⟨_,rfl⟩
    ·simp only [c,Bool.false_eq_true,if_false] at hN
     exact hN _ ⟨_,rfl⟩
  ·rintro ρ ⟨v0,rfl⟩
   rw [qb5x]
   walk_at "dd"
   exact q
 | false =>
  obtain⟨hs,rfl⟩:∃ hs,st=.pool hs:=by
   cases st with
   | pool hs=>exact⟨hs,rfl⟩
   | on=>cases h1
   | back=>cases h2
   | one hs=>cases h3
  rw [show sw (.pool hs) = "pool" from rfl,show sr (.pool hs)=[encH hs] from rfl]
  have hl3:hs.length <= 3:=hst
  walk_at "dd"
  refine⟨by rw [qa4f];omega,?_⟩
  refine L2.qa3y (fun ρ=>∃ v0:Option L,ρ=[v0,some (.d (.tuple [.str "pool",encH hs])),some (.d W.enc),some (.d (encR W.moves.length r)),some (.d (.int (p:Int)))]) (fmR (fun q:Nat=>hs.all fun z=>blind (mdl W) r z p q)) ⟨_,rfl⟩ ?_ ?_
  ·rintro x ρ N hx ⟨v0,rfl⟩ hN
   obtain⟨a,ha⟩:=List.getElem?_of_mem hx
   obtain⟨ha2,rfl⟩:=rngI ha
   simp only [fmR_i] at hN
   walk_at "dd"
   refine⟨by rw [List.length_map];omega,?_⟩
   refine qa3x (fun i ρ acc=>∃ v0:Option L,ρ=[v0,some (.d W.enc),some (.d (encR W.moves.length r)),some (.d (.int (p:Int))),some (.d (.int (a:Int)))]/\acc=((hs.take i).map fun z=>blind (mdl W) r z p a).map .bool) ⟨none,rfl,rfl⟩ ?_ ?_
   ·rintro i x ρ acc N2 hx ⟨v0,rfl,rfl⟩ hN2
    rw [List.getElem?_map] at hx
    obtain⟨z,hz,rfl⟩:=Option.map_eq_some_iff.mp hx
    walk_at "dd"
    refine⟨W,r,z,p,a,rfl,hG,hr1,hp,ha2,?_⟩
    walk_at "dd"
    refine hN2 _ _ ⟨_,rfl,?_⟩
    rw [List.take_add_one,hz];simp
   ·rintro ρ acc ⟨v0,rfl,rfl⟩
    rw [List.length_map,List.take_length,qb0u]
    walk_at "dd"
    have e:(!(hs.map fun z=>blind (mdl W) r z p a).contains false)=hs.all fun z=>blind (mdl W) r z p a:=by
     rw [Bool.eq_iff_iff];simp
    rw [e]
    refine qa4o (fun c=>?_) (fun c=>?_)
    ·walk_at "dd"
     simp only [if_pos c] at hN
     exact hN _ ⟨_,rfl⟩
    ·simp only [c,Bool.false_eq_true,if_false] at hN
     exact hN _ ⟨_,rfl⟩
  ·rintro ρ ⟨v0,rfl⟩
   rw [qb5x]
   walk_at "dd"
   exact q
end
theorem Good.ws{W:Wd}(G:Good W):Ws W:=by
 have h9:=G.m2
 have hm:=G.mv
 refine⟨by omega,fun t ht=>?_,?_,?_,fun f hf=>?_,fun s hs=>?_,fun s hs p hp=>(G.sr s hs).cov p (by omega)⟩
 ·have:=G.mr t ht
  exact⟨by have:=this.2;omega,fun x hx=>by have:=this.1 x hx;omega⟩
 ·exact G.fn.nodup (by decide +kernel)
 ·have:=G.fn.length_le
  rw [List.length_map] at this
  have e:(["p","pq","q"]:List Str).length=3:=rfl
  omega
 ·have:=(G.fr f hf).2;omega
 ·have:=(G.sr s hs).len;omega
open Tr
noncomputable def low(c:Nat):Bool:=decide (97 <= c) && decide (c <= 122)
noncomputable def qb4b(x:Str):Bool:=decide (1 <= x.length) && decide (x.length <= 8) && x.cps.toList.all low
theorem leC_a(c:Nat):leC "a" ⟨#[c]⟩=decide (97 <= c):=by
 have e:(Str.ofString "a").cps.toList=[97]:=by decide +kernel
 unfold leC
 rw [e]
 show decide ([97] <= [c])=_
 rw [Bool.eq_iff_iff]
 simp [List.cons_le_cons_iff]
 omega
theorem leC_z(c:Nat):leC ⟨#[c]⟩ "z" = decide (c <= 122):=by
 have e:(Str.ofString "z").cps.toList=[122]:=by decide +kernel
 unfold leC
 rw [e]
 show decide ([c] <= [122])=_
 rw [Bool.eq_iff_iff]
 simp [List.cons_le_cons_iff]
 omega
theorem fLen_s{x:Str}(h:x.length <= 1000):fLen [.str x]=some (.int (x.length:Int)):=if_pos (by rw [sizeLine_eq];omega)
theorem len_cps(x:Str):x.cps.toList.length=x.length:=by simp [Str.length]
noncomputable def riseS(p:Str):List Str->Bool
 | []=>true
 | x :: r=>qb4b x && !leC x p && riseS x r
theorem hl_rise:∀ hs ∈ HL,riseS "" hs=true/\1 <= hs.length:=by decide +kernel
theorem qb7y:∀ z ∈ NM,qb4b z=true:=by decide +kernel
def qb2t:DSp:=fun ls Q=>∃ z:Str,ls=[.d (.str z)]/\qb4b z=true/\Q (.d (.bool true)) [none]
def qc2f:DSp:=fun ls Q=>∃ hs:List Str,ls=[.d (encH hs)]/\riseS "" hs=true/\Q (.d (.bool true)) [none]
def qb0v:DSp:=fun ls Q=>∃ hs:List Str,ls=[.d (encH hs)]/\hs ∈ HL/\Q (.d (.bool true)) [none]
def qb5z:DSp:=fun ls Q=>∃ st:Stp Str,ls=[.d (qa5j st)]/\wS st/\Q (.d (.bool true)) [none]
noncomputable def isU:=pickS true true false false
theorem lenU(st:Stp Str):decide ((((sr st).length + 1:Nat):Int)=1)=isU st:=by cases st<;>rfl
theorem lenT{st:Stp Str}(h:isU st=false):decide ((((sr st).length + 1:Nat):Int)=2)=true:=by cases st<;>first | rfl | cases h
theorem inU{st:Stp Str}(h:isU st=true):(decide (Str.ofString "on" = sw st) || decide (Str.ofString "back" = sw st))=true:=by cases st<;>first | rfl | cases h
theorem inT{st:Stp Str}(h:isU st=false):(decide (Str.ofString "one" = sw st) || decide (Str.ofString "pool" = sw st))=true:=by cases st<;>first | rfl | cases h
theorem isT{st:Stp Str}(h:isU st=false)(hw:wS st):∃ hs,sr st=[encH hs]/\hs ∈ HL:=by
 cases st with
 | one hs=>exact⟨hs,rfl,hw⟩
 | pool hs=>exact⟨hs,rfl,hw⟩
 | _=>cases h
section
variable{P:Program}{w:World}{K:W.Frag}{mg:Str->Option Value}{base:Heap}{n:Nat}
abbrev qa8h:Stmt:=top 2
theorem qc7p:FnScope ["thing"] ["thing"] (qa0k qa8h):=⟨rfl,rfl,rfl,by decide +kernel,rfl,by decide +kernel,by decide +kernel⟩
theorem qc7q{f:Addr}{fd:FuncData} (F:Fun K "is_name" "is_name" qa8h f fd) (B:Bl mg) (m_LONGEST_NAME:∃ t,mg "LONGEST_NAME" = some (.int 8 t)):FnOk P w K mg base CX0 (n + 1) f fd ["thing"] (spD K qb2t):=by
 refine F.dok qc7p (fun cdv A outer s H E hr ls Qd h=>?_) (fun ls Qd h=>by obtain⟨_,e,_⟩:=h;rw [e];rfl)
 obtain⟨x,rfl,hx,q⟩:=h
 refine⟨rfl,?_⟩
 refine⟨_,(qa0e (qa0x (qa5e (qa3v (de_is rfl B.isinstance_ rfl B.str_ bt_str rfl (dv 0))))
  (qa0g (qa0i qa2o))
  qa0r)
  (qa0g (qa0i (qa8f (qb5s op_le (qa2m _) op_le (qa2m _) qa0c (qa1f qa1b qa2b rfl B.len_ qa1u (qa0a (dv 0) qa0b)) (qb1o rfl m_LONGEST_NAME)) (qa8e (qa1f (qb3v rfl) qb7r rfl B.all_ qc1i (qa0a (qa1c (qa1q ["sign"] [] rfl (by rfl) (by decide +kernel) (di_str (dv 0)) (fun _ _ _=>(qa0s (i:=0) (show(["sign"]:List Str).Nodup by decide +kernel) rfl (Or.inl rfl))) (fun _ _ _=>qa1z) (fun _ _ _=>(qb5s qc1n qc1o qc1n qc1o qa0h (dv 0) qa0h)))) qa0b))))))),?_⟩
 unfold qb4b at hx
 rw [Bool.and_eq_true,Bool.and_eq_true,decide_eq_true_eq,decide_eq_true_eq] at hx
 obtain⟨⟨h1,h8⟩,hall⟩:=hx
 walk_at "dd"
 rw [show isD "str" (.str x)=true from rfl]
 walk_at "dd"
 rw [fLen_s (by omega),qa1a]
 walk_at "dd"
 rw [decide_eq_true (show(1:Int) <= (x.length:Int) by omega),decide_eq_true (show(x.length:Int) <= 8 by omega)]
 walk_at "dd"
 refine⟨by rw [List.length_map,len_cps];omega,?_⟩
 refine L2.qa3y (fun ρ=>∃ v0:Option L,ρ=[v0]) (fun _=>some (.bool true)) ⟨_,rfl⟩ ?_ ?_
 ·rintro y ρ N hy ⟨v0,rfl⟩ hN
  obtain⟨c,hc,rfl⟩:=List.mem_map.mp hy
  have hl:=List.all_eq_true.mp hall c hc
  unfold low at hl
  rw [Bool.and_eq_true] at hl
  walk_at "dd"
  rw [leC_a,leC_z,hl.1,hl.2]
  walk_at "dd"
  exact hN _ ⟨_,rfl⟩
 ·rintro ρ _
  have ef:(signs x).filterMap (fun _=>some (PyData.bool true))=(x.cps.toList.map fun _=>true).map .bool:=by
   unfold signs
   generalize x.cps.toList=l
   induction l with
   | nil=>rfl
   | cons c r ih=>rw [List.map_cons,List.filterMap_cons,ih];simp
  rw [ef,qb5u,qa1a,show(x.cps.toList.map fun _=>true).all id=true by simp]
  exact q
abbrev qa3w:Stmt:=top 3
theorem qa3p:FnScope ["things","ahead","thing"] ["things"] (qa0k qa3w):=⟨rfl,rfl,rfl,by decide +kernel,rfl,by decide +kernel,by decide +kernel⟩
theorem ok_rise{f f1:Addr}{fd fd1:FuncData} (F:Fun K "are_rising_names" "are_rising_names" qa3w f fd) (B:Bl mg) (d_is_name:Def K mg "is_name" qa8h ["thing"] f1 fd1) (g_is_name:FnOk P w K mg base CX0 n f1 fd1 ["thing"] (spD K qb2t)):FnOk P w K mg base CX0 (n + 1) f fd ["things"] (spD K qc2f):=by
 refine F.dok qa3p (fun cdv A outer s H E hr ls Qd h=>?_) (fun ls Qd h=>by obtain⟨_,e,_⟩:=h;rw [e];rfl)
 obtain⟨xs,rfl,hf,q⟩:=h
 refine⟨rfl,?_⟩
 refine⟨_,(qa0e (qa0y (i:=1) qa3p.nd rfl (Or.inl rfl) qa0h)
  (qa0e (qb1t PassesOwn.never rfl (qa1w (dv 0)) (qa0s (i:=2) qa3p.nd rfl (Or.inl rfl))
  (qa0e (qa0x (DW.toT (qa7m (qa5e (qa3v (qa0f [false] d_is_name g_is_name hr rfl (qa0a (dv 2) qa0b)))) (qa5n (qa0n qc1n qc1o (dv 2) (dv 1) (qa0m _)))))
  (qa0g (qa0i qa2o))
  qa0r)
  (qa0g (qa0y (i:=1) qa3p.nd rfl (Or.inl rfl) (dv 2)))))
  (qa0g (qa0i qa2o)))),?_⟩
 walk_at "dd"
 refine qa7c (fun i ρ=>∃ (v2:Option L) (p:Str),ρ=[some (.d (encH xs)),some (.d (.str p)),v2]/\riseS p (xs.drop i)=true) ⟨none,"",rfl,hf⟩ ?_ ?_
 ·rintro i x ρ N hx ⟨v2,p,rfl,hr⟩ hN
  rw [List.getElem?_map] at hx
  obtain⟨z,hz,rfl⟩:=Option.map_eq_some_iff.mp hx
  obtain⟨hi,ex⟩:=List.getElem?_eq_some_iff.mp hz
  rw [List.drop_eq_getElem_cons hi,ex] at hr
  unfold riseS at hr
  rw [Bool.and_eq_true,Bool.and_eq_true] at hr
  walk_at "dd"
  refine⟨z,rfl,hr.1.1,?_⟩
  walk_at "dd"
  rw [show leC z p=false by have:=hr.1.2;simpa using this]
  walk_at "dd"
  exact hN _ ⟨_,z,rfl,hr.2⟩
 ·rintro ρ ⟨v2,p,rfl,hr⟩
  walk_at "dd"
  exact q
abbrev qa6l:Stmt:=top 10
theorem qc3q:FnScope ["thing"] ["thing"] (qa0k qa6l):=⟨rfl,rfl,rfl,by decide +kernel,rfl,by decide +kernel,by decide +kernel⟩
theorem qc3r{f f1:Addr}{fd fd1:FuncData} (F:Fun K "is_hands" "is_hands" qa6l f fd) (B:Bl mg) (m_MOST_HANDS:∃ t,mg "MOST_HANDS" = some (.int 4 t)) (d_are_rising_names:Def K mg "are_rising_names" qa3w ["things"] f1 fd1) (g_are_rising_names:FnOk P w K mg base CX0 n f1 fd1 ["things"] (spD K qc2f)):FnOk P w K mg base CX0 (n + 1) f fd ["thing"] (spD K qb0v):=by
 refine F.dok qc3q (fun cdv A outer s H E hr ls Qd h=>?_) (fun ls Qd h=>by obtain⟨_,e,_⟩:=h;rw [e];rfl)
 obtain⟨xs,rfl,hf,q⟩:=h
 refine⟨rfl,?_⟩
 refine⟨_,(qa0e (qa0x (qa5e (qa3v (de_is rfl B.isinstance_ rfl B.tuple_ qa3m rfl (dv 0))))
  (qa0g (qa0i qa2o))
  qa0r)
  (qa0g (qa0i (qa8f (qb5s op_le (qa2m _) op_le (qa2m _) qa0c (qa1f qa1b qa2b rfl B.len_ qa1u (qa0a (dv 0) qa0b)) (qb1o rfl m_MOST_HANDS)) (qa8e (qa0f [false] d_are_rising_names g_are_rising_names hr rfl (qa0a (dv 0) qa0b))))))),?_⟩
 walk_at "dd"
 rw [show isD "tuple" (encH xs)=true from rfl]
 obtain⟨h1,h2⟩:=hl_rise xs hf
 have h3:=(hl_ok xs hf).2
 walk_at "dd"
 rw [List.length_map,decide_eq_true (show(1:Int) <= (xs.length:Int) by omega),decide_eq_true (show(xs.length:Int) <= 4 by omega)]
 walk_at "dd"
 refine⟨xs,rfl,h1,?_⟩
 walk_at "dd"
 exact q
abbrev qb0w:Stmt:=top 11
theorem qc7r:FnScope ["thing"] ["thing"] (qa0k qb0w):=⟨rfl,rfl,rfl,by decide +kernel,rfl,by decide +kernel,by decide +kernel⟩
theorem qc7s{f f1:Addr}{fd fd1:FuncData} (F:Fun K "is_step" "is_step" qb0w f fd) (B:Bl mg) (d_is_hands:Def K mg "is_hands" qa6l ["thing"] f1 fd1) (g_is_hands:FnOk P w K mg base CX0 n f1 fd1 ["thing"] (spD K qb0v)):FnOk P w K mg base CX0 (n + 1) f fd ["thing"] (spD K qb5z):=by
 refine F.dok qc7r (fun cdv A outer s H E hr ls Qd h=>?_) (fun ls Qd h=>by obtain⟨_,e,_⟩:=h;rw [e];rfl)
 obtain⟨st,rfl,hf,q⟩:=h
 refine⟨rfl,?_⟩
 refine⟨_,(qa0e (qa0x (qa5e (qa3v (de_is rfl B.isinstance_ rfl B.tuple_ qa3m rfl (dv 0))))
  (qa0g (qa0i qa2o))
  qa0r)
  (qa0e (qa0x (qa0n (qa0w hr.units) qa0v (qa1f qa1b qa2b rfl B.len_ qa1u (qa0a (dv 0) qa0b)) qa0c (qa0m _))
  (qa0g (qa0i (qa3c qa2d qa3e (qa0p qa0j qa0q (dv 0) qa0c (fun _ _=>rfl)) (qa0u (qa0a qa0h (qa0a qa0h qa0b))) (by rfl))))
  qa0r)
  (qa0g (qa0i (qa8f (qa3c (qa0w hr.units) qa0v (qa1f qa1b qa2b rfl B.len_ qa1u (qa0a (dv 0) qa0b)) qa0c (qa0m _)) (qa8f (qa3c qa2d qa3e (qa0p qa0j qa0q (dv 0) qa0c (fun _ _=>rfl)) (qa0u (qa0a qa0h (qa0a qa0h qa0b))) (by rfl)) (qa8e (qa0f [false] d_is_hands g_is_hands hr rfl (qa0a (qa0p qa0j qa0q (dv 0) qa0c (fun _ _=>rfl)) qa0b))))))))),?_⟩
 rw [qc2d st]
 walk_at "dd"
 rw [show isD "tuple" (.tuple (.str (sw st) :: sr st))=true from rfl]
 walk_at "dd"
 rw [lenU st]
 cases hu:isU st with
 | true =>
  walk_at "dd"
  rw [inU hu]
  exact q
 | false =>
  obtain⟨hs,e1,e2⟩:=isT hu hf
  walk_at "dd"
  rw [lenT hu]
  walk_at "dd"
  rw [inT hu]
  walk_at "dd"
  rw [e1]
  walk_at "dd"
  exact⟨hs,rfl,e2,q⟩
end
open Tr
noncomputable def qb6y:List (Str × PyData):=[("fact",.tuple [.str "name",.int 0]),("wish",.tuple [.str "name",.int 0]),("not",.tuple [.str "",.int 1]),("and",.tuple [.str "",.int 2]),("or",.tuple [.str "",.int 2]),("some",.tuple [.str "step",.int 1]),("every",.tuple [.str "step",.int 1]),("least",.tuple [.str "name",.int 1]),("most",.tuple [.str "name",.int 1]),("show",.tuple [.str "hands",.int 2])]
noncomputable def qb2u:List Str:=["fact","wish","not","and","or","some","every","least","most","show"]
noncomputable def wd:Fm Str->Str
 | .fact _ => "fact"
 | .wish _ => "wish"
 | .neg _ => "not"
 | .two c _ _=>if c then "and" else "or"
 | .mod c _ _=>if c then "every" else "some"
 | .bind m _ _=>if m then "most" else "least"
 | .sho _ _ _ => "show"
noncomputable def ag:Fm Str->PyData
 | .fact z=>.str z
 | .wish z=>.str z
 | .neg a=>enc a
 | .two _ a _=>enc a
 | .mod _ st _=>qa5j st
 | .bind _ x _=>.str x
 | .sho hs _ _=>encH hs
noncomputable def mr:Fm Str->List PyData
 | .fact _=>[]
 | .wish _=>[]
 | .neg _=>[]
 | .two _ _ b=>[enc b]
 | .mod _ _ a=>[enc a]
 | .bind _ _ a=>[enc a]
 | .sho _ a b=>[enc a,enc b]
noncomputable def kids:Fm Str->List (Fm Str)
 | .fact _=>[]
 | .wish _=>[]
 | .neg a=>[a]
 | .two _ a b=>[a,b]
 | .mod _ _ a=>[a]
 | .bind _ _ a=>[a]
 | .sho _ a b=>[a,b]
theorem qa1x(k:Fm Str):enc k=.tuple (.str (wd k) :: ag k :: mr k):=by cases k<;>rfl
noncomputable def fk:Fm Str->Str × Nat
 | .fact _=>("name",0)
 | .wish _=>("name",0)
 | .neg _=>("",1)
 | .two _ _ _=>("",2)
 | .mod _ _ _=>("step",1)
 | .bind _ _ _=>("name",1)
 | .sho _ _ _=>("hands",2)
theorem key_in(k:Fm Str):qb2u.contains (wd k)=true:=by
 rcases k with _ | _ | _ | ⟨c,_,_⟩ | ⟨c,_,_⟩ | ⟨c,_,_⟩ | _<;>first | rfl | (cases c<;>rfl)
theorem qc5x(k:Fm Str):qb6y.lookup (wd k)=some (.tuple [.str (fk k).1,.int (fk k).2]):=by
 rcases k with _ | _ | _ | ⟨c,_,_⟩ | ⟨c,_,_⟩ | ⟨c,_,_⟩ | _<;>first | rfl | (cases c<;>rfl)
theorem len_a(k:Fm Str) (h:(fk k).1 = ""):(((mr k).length + 1 + 1:Nat):Int)=1 + ((fk k).2:Int):=by
 cases k<;>first | rfl | (simp only [fk] at h;exact absurd h (by decide +kernel))
theorem len_b(k:Fm Str) (h:¬ (fk k).1 = ""):(((mr k).length + 1 + 1:Nat):Int)=2 + ((fk k).2:Int):=by
 cases k<;>first | rfl | (exact absurd rfl h)
theorem qd4b(k:Fm Str):cutD (.str (wd k) :: ag k :: mr k) (some (((mr k).length + 1 + 1:Nat) - ((fk k).2:Int))) none=(kids k).map enc:=by
 cases k<;>rfl
noncomputable def nm1:Fm Str->Prop
 | .fact z=>z ∈ NM
 | .wish z=>z ∈ NM
 | .neg _=>True
 | .two _ _ _=>True
 | .mod _ st _=>wS st
 | .bind _ x _=>x ∈ NM
 | .sho hs _ _=>hs ∈ HL
theorem qb7o(k:Fm Str) (h:(fk k).1 = "name") (hn:nm1 k):∃ z,ag k=.str z/\qb4b z=true:=by
 cases k with
 | fact z=>exact⟨z,rfl,qb7y z hn⟩
 | wish z=>exact⟨z,rfl,qb7y z hn⟩
 | bind m z a=>exact⟨z,rfl,qb7y z hn⟩
 | _=>simp only [fk] at h;exact absurd h (by decide +kernel)
theorem ag_step(k:Fm Str) (h:(fk k).1 = "step") (hn:nm1 k):∃ st,ag k=qa5j st/\wS st:=by
 cases k with
 | mod c st a=>exact⟨st,rfl,hn⟩
 | _=>simp only [fk] at h;exact absurd h (by decide +kernel)
theorem qd4c(k:Fm Str) (h0:¬ (fk k).1 = "") (h1:¬ (fk k).1 = "name") (h2:¬ (fk k).1 = "step") (hn:nm1 k):∃ hs,ag k=encH hs/\hs ∈ HL:=by
 cases k with
 | sho hs a b=>exact⟨hs,rfl,hn⟩
 | neg a=>exact absurd rfl h0
 | two c a b=>exact absurd rfl h0
 | mod c st a=>exact absurd rfl h2
 | _=>exact absurd rfl h1
noncomputable def pick(a b c d e f g:Bool):Fm Str->Bool
 | .fact _=>a
 | .wish _=>b
 | .neg _=>c
 | .two _ _ _=>d
 | .mod _ _ _=>e
 | .bind _ _ _=>f
 | .sho _ _ _=>g
noncomputable def isB:=pick false false false false false true false
noncomputable def isS:=pick false false false false false false true
noncomputable def isN:=pick false false true false false false false
noncomputable def isW:=pick false true false false false false false
theorem qb0k(k:Fm Str):(decide (Str.ofString "least" = wd k) || decide (Str.ofString "most" = wd k))=isB k:=by
 rcases k with _ | _ | _ | ⟨c,_,_⟩ | ⟨c,_,_⟩ | ⟨c,_,_⟩ | _<;>first | rfl | (cases c<;>rfl)
theorem qa7g(k:Fm Str):decide (wd k=Str.ofString "show")=isS k:=by
 rcases k with _ | _ | _ | ⟨c,_,_⟩ | ⟨c,_,_⟩ | ⟨c,_,_⟩ | _<;>first | rfl | (cases c<;>rfl)
theorem qb6a(k:Fm Str):decide (wd k=Str.ofString "not")=isN k:=by
 rcases k with _ | _ | _ | ⟨c,_,_⟩ | ⟨c,_,_⟩ | ⟨c,_,_⟩ | _<;>first | rfl | (cases c<;>rfl)
theorem qb2v(k:Fm Str):decide (wd k=Str.ofString "wish")=isW k:=by
 rcases k with _ | _ | _ | ⟨c,_,_⟩ | ⟨c,_,_⟩ | ⟨c,_,_⟩ | _<;>first | rfl | (cases c<;>rfl)
noncomputable def bn:Fm Str->Option Str
 | .fact _=>none
 | .wish _=>none
 | .neg _=>none
 | .two _ _ _=>none
 | .mod _ _ _=>none
 | .bind _ x _=>some x
 | .sho _ _ _=>none
theorem qb7z{k:Fm Str}(h:isB k=true):∃ x,bn k=some x/\ag k=.str x:=by
 cases k with
 | bind m x a=>exact⟨x,rfl,rfl⟩
 | _=>cases h
theorem qb8a{k:Fm Str}(h:isB k=false):bn k=none:=by
 cases k with
 | bind m x a=>cases h
 | _=>rfl
def qc2g:DSp:=fun ls Q=>∃ k:Fm Str,ls=[.d (enc k)]/\Q (.d (.str (wd k))) [none]
def qb8b:DSp:=fun ls Q=>∃ k:Fm Str,ls=[.d (ag k),.d (.str (fk k).1)]/\¬ (fk k).1 = "" /\ nm1 k/\Q (.d (.bool true)) [none,none]
def qc2h:DSp:=fun ls Q=>∃ k:Fm Str,ls=[.d (enc k),.d (.tuple [.str (fk k).1,.int ((fk k).2:Int)])]/\nm1 k/\Q (.d (.bool true)) [none,none]
def qb6b:DSp:=fun ls Q=>∃ k:Fm Str,ls=[.d (enc k)]/\nm1 k/\Q (.d (.bool true)) [none]
def qb6z:DSp:=fun ls Q=>∃ k:Fm Str,ls=[.d (enc k)]/\Q (.d (.tuple ((kids k).map enc))) [none]
def spIsB:DSp:=fun ls Q=>∃ k:Fm Str,ls=[.d (enc k)]/\Q (.d (.bool (isB k))) [none]
section
variable{P:Program}{w:World}{K:W.Frag}{mg:Str->Option Value}{base:Heap}{n:Nat}
abbrev qb0x:Stmt:=top 14
theorem qc7t:FnScope ["thing"] ["thing"] (qa0k qb0x):=⟨rfl,rfl,rfl,by decide +kernel,rfl,by decide +kernel,by decide +kernel⟩
theorem ok_head{f:Addr}{fd:FuncData} (F:Fun K "head_of" "head_of" qb0x f fd) (B:Bl mg):FnOk P w K mg base CX0 (n + 1) f fd ["thing"] (spD K qc2g):=by
 refine F.dok qc7t (fun cdv A outer s H E hr ls Qd h=>?_) (fun ls Qd h=>by obtain⟨_,e,_⟩:=h;rw [e];rfl)
 obtain⟨k,rfl,q⟩:=h
 refine⟨rfl,?_⟩
 refine⟨_,(qa0e (qa0x (DW.toT (qa7m (qa5e (qa3v (de_is rfl B.isinstance_ rfl B.tuple_ qa3m rfl (dv 0)))) (qa5n (qa0n (qa0w hr.units) qa0v (qa1f qa1b qa2b rfl B.len_ qa1u (qa0a (dv 0) qa0b)) qa0c (qa0m _)))))
  (qa0g (qa0i qa0h))
  qa0r)
  (qa0g (qa0i (de_if (qa3v (de_is rfl B.isinstance_ rfl B.str_ bt_str rfl (qa0p qa0j qa0q (dv 0) qa0c (fun _ _=>rfl)))) (qa0p qa0j qa0q (dv 0) qa0c (fun _ _=>rfl)) qa0h)))),?_⟩
 rw [qa1x]
 walk_at "dd"
 rw [show isD "tuple" (.tuple (.str (wd k) :: ag k :: mr k))=true from rfl]
 walk_at "dd"
 rw [decide_eq_false (by omega)]
 walk_at "dd"
 rw [show isD "str" (.str (wd k))=true from rfl]
 walk_at "dd"
 exact q
abbrev qa9g:Stmt:=top 16
theorem qc3s:FnScope ["thing","wanted"] ["thing","wanted"] (qa0k qa9g):=⟨rfl,rfl,rfl,by decide +kernel,rfl,by decide +kernel,by decide +kernel⟩
theorem qd4d{f f1 f2 f3:Addr}{fd fd1 fd2 fd3:FuncData} (F:Fun K "is_taken" "is_taken" qa9g f fd) (B:Bl mg) (d_is_name:Def K mg "is_name" qa8h ["thing"] f1 fd1) (g_is_name:FnOk P w K mg base CX0 n f1 fd1 ["thing"] (spD K qb2t))
  (d_is_step:Def K mg "is_step" qb0w ["thing"] f2 fd2) (g_is_step:FnOk P w K mg base CX0 n f2 fd2 ["thing"] (spD K qb5z)) (d_is_hands:Def K mg "is_hands" qa6l ["thing"] f3 fd3) (g_is_hands:FnOk P w K mg base CX0 n f3 fd3 ["thing"] (spD K qb0v)):FnOk P w K mg base CX0 (n + 1) f fd ["thing","wanted"] (spD K qb8b):=by
 refine F.dok qc3s (fun cdv A outer s H E hr ls Qd h=>?_) (fun ls Qd h=>by obtain⟨_,e,_⟩:=h;rw [e];rfl)
 obtain⟨k,rfl,h0,hn,q⟩:=h
 refine⟨rfl,?_⟩
 refine⟨_,(qa0e (qa0x (qa0n (qa0w hr.units) qa0v (dv 1) qa0h (qa0m _))
  (qa0g (qa0i (qa0f [false] d_is_name g_is_name hr rfl (qa0a (dv 0) qa0b))))
  qa0r)
  (qa0e (qa0x (qa0n (qa0w hr.units) qa0v (dv 1) qa0h (qa0m _))
  (qa0g (qa0i (qa0f [false] d_is_step g_is_step hr rfl (qa0a (dv 0) qa0b))))
  qa0r)
  (qa0g (qa0i (qa0f [false] d_is_hands g_is_hands hr rfl (qa0a (dv 0) qa0b)))))),?_⟩
 walk_at "dd"
 refine qa1m (fun c=>?_) (fun c=>?_)
 ·obtain⟨z,e,hz⟩:=qb7o k c hn
  walk_at "dd"
  exact⟨z,by rw [e],hz,q⟩
 ·walk_at "dd"
  refine qa1m (fun c2=>?_) (fun c2=>?_)
  ·obtain⟨z,e,hz⟩:=ag_step k c2 hn
   walk_at "dd"
   exact⟨z,by rw [e],hz,q⟩
  ·obtain⟨z,e,hz⟩:=qd4c k h0 c c2 hn
   walk_at "dd"
   exact⟨z,by rw [e],hz,q⟩
abbrev qa9h:Stmt:=top 15
theorem qc3t:FnScope ["thing","form"] ["thing","form"] (qa0k qa9h):=⟨rfl,rfl,rfl,by decide +kernel,rfl,by decide +kernel,by decide +kernel⟩
theorem ok_form{f f1:Addr}{fd fd1:FuncData} (F:Fun K "has_form" "has_form" qa9h f fd) (B:Bl mg) (d_is_taken:Def K mg "is_taken" qa9g ["thing","wanted"] f1 fd1) (g_is_taken:FnOk P w K mg base CX0 n f1 fd1 ["thing","wanted"] (spD K qb8b)):FnOk P w K mg base CX0 (n + 1) f fd ["thing","form"] (spD K qc2h):=by
 refine F.dok qc3t (fun cdv A outer s H E hr ls Qd h=>?_) (fun ls Qd h=>by obtain⟨_,e,_⟩:=h;rw [e];rfl)
 obtain⟨k,rfl,hn,q⟩:=h
 refine⟨rfl,?_⟩
 refine⟨_,(qa0e (qa0x (qa0n (qa0w hr.units) qa0v (qa0p qa0j qa0q (dv 1) qa0c (fun _ _=>rfl)) qa0h (qa0m _))
  (qa0g (qa0i (qa3c (qa0w hr.units) qa0v (qa1f qa1b qa2b rfl B.len_ qa1u (qa0a (dv 0) qa0b)) (qa1l qa1i qa2c qa0c (qa0p qa0j qa0q (dv 1) qa0c (fun _ _=>rfl))) (qa0m _))))
  qa0r)
  (qa0g (qa0i (qa8f (qa3c (qa0w hr.units) qa0v (qa1f qa1b qa2b rfl B.len_ qa1u (qa0a (dv 0) qa0b)) (qa1l qa1i qa2c qa0c (qa0p qa0j qa0q (dv 1) qa0c (fun _ _=>rfl))) (qa0m _)) (qa8e (qa0f [false,false] d_is_taken g_is_taken hr rfl (qa0a (qa0p qa0j qa0q (dv 0) qa0c (fun _ _=>rfl)) (qa0a (qa0p qa0j qa0q (dv 1) qa0c (fun _ _=>rfl)) qa0b)))))))),?_⟩
 rw [qa1x]
 walk_at "dd"
 refine qa1m (fun c=>?_) (fun c=>?_)
 ·walk_at "dd"
  rw [decide_eq_true (len_a k c)]
  exact q
 ·walk_at "dd"
  rw [decide_eq_true (len_b k c)]
  walk_at "dd"
  exact⟨k,rfl,c,hn,q⟩
abbrev qa7t:Stmt:=top 13
theorem qb4c:FnScope ["thing","head"] ["thing"] (qa0k qa7t):=⟨rfl,rfl,rfl,by decide +kernel,rfl,by decide +kernel,by decide +kernel⟩
theorem qd0l{f f1 f2:Addr}{fd fd1 fd2:FuncData} (F:Fun K "is_formed" "is_formed" qa7t f fd) (B:Bl mg) (t_FORMS:Tab K w mg "FORMS" qb6y) (ti_FORMS:TabI K w mg "FORMS" qb2u) (d_head_of:Def K mg "head_of" qb0x ["thing"] f1 fd1) (g_head_of:FnOk P w K mg base CX0 n f1 fd1 ["thing"] (spD K qc2g))
  (d_has_form:Def K mg "has_form" qa9h ["thing","form"] f2 fd2) (g_has_form:FnOk P w K mg base CX0 n f2 fd2 ["thing","form"] (spD K qc2h)):FnOk P w K mg base CX0 (n + 1) f fd ["thing"] (spD K qb6b):=by
 refine F.dok qb4c (fun cdv A outer s H E hr ls Qd h=>?_) (fun ls Qd h=>by obtain⟨_,e,_⟩:=h;rw [e];rfl)
 obtain⟨k,rfl,hn,q⟩:=h
 refine⟨rfl,?_⟩
 refine⟨_,(qa0e (qa0y (i:=1) qb4c.nd rfl (Or.inl rfl) (qa0f [false] d_head_of g_head_of hr rfl (qa0a (dv 0) qa0b)))
  (qa0g (qa0i (qa8f (de_inK ti_FORMS rfl (dv 1)) (qa8e (qa0f [false,false] d_has_form g_has_form hr rfl (qa0a (dv 0) (qa0a (de_tab t_FORMS rfl (dv 1) (fun _ _=>rfl)) qa0b)))))))),?_⟩
 walk_at "dd"
 refine⟨k,rfl,?_⟩
 walk_at "dd"
 refine⟨_,rfl,?_⟩
 rw [key_in k]
 walk_at "dd"
 rw [qc5x k]
 walk_at "dd"
 exact⟨k,rfl,hn,q⟩
abbrev qa6m:Stmt:=top 17
theorem qc3u:FnScope ["sentence"] ["sentence"] (qa0k qa6m):=⟨rfl,rfl,rfl,by decide +kernel,rfl,by decide +kernel,by decide +kernel⟩
theorem ok_kids{f:Addr}{fd:FuncData} (F:Fun K "parts_of" "parts_of" qa6m f fd) (B:Bl mg) (t_FORMS:Tab K w mg "FORMS" qb6y):FnOk P w K mg base CX0 (n + 1) f fd ["sentence"] (spD K qb6z):=by
 refine F.dok qc3u (fun cdv A outer s H E hr ls Qd h=>?_) (fun ls Qd h=>by obtain⟨x,e,_⟩:=h;rw [e];rfl)
 obtain⟨k,rfl,q⟩:=h
 refine⟨rfl,?_⟩
 refine⟨_,(qa0g (qa0i (qa7d (qb1g.or qa7e) qb1u (dv 0) (qa9u (qa1l qa4d qa4e (qa1f qa1b qa2b rfl B.len_ qa1u (qa0a (dv 0) qa0b)) (qa0p qa0j qa0q (de_tab t_FORMS rfl (qa0p qa0j qa0q (dv 0) qa0c (fun _ _=>rfl)) (fun _ _=>rfl)) qa0c (fun _ _=>rfl)))) qa9t))),?_⟩
 rw [qa1x]
 walk_at "dd"
 rw [qc5x k]
 walk_at "dd"
 rw [qd4b]
 exact q
abbrev qa4z:Stmt:=top 18
theorem qc2i:FnScope ["sentence"] ["sentence"] (qa0k qa4z):=⟨rfl,rfl,rfl,by decide +kernel,rfl,by decide +kernel,by decide +kernel⟩
theorem qc2j{f:Addr}{fd:FuncData} (F:Fun K "is_binder" "is_binder" qa4z f fd) (B:Bl mg):FnOk P w K mg base CX0 (n + 1) f fd ["sentence"] (spD K spIsB):=by
 refine F.dok qc2i (fun cdv A outer s H E hr ls Qd h=>?_) (fun ls Qd h=>by obtain⟨x,e,_⟩:=h;rw [e];rfl)
 obtain⟨k,rfl,q⟩:=h
 refine⟨rfl,?_⟩
 refine⟨_,(qa0g (qa0i (qa3c qa2d qa3e (qa0p qa0j qa0q (dv 0) qa0c (fun _ _=>rfl)) (qa0u (qa0a qa0h (qa0a qa0h qa0b))) (by rfl)))),?_⟩
 rw [qa1x]
 walk_at "dd"
 rw [qb0k k]
 exact q
end
open Tr
abbrev encA(As:List (Fm Str)):PyData:=.tuple (As.map enc)
noncomputable def qa1e(As:List (Fm Str)):List Str:=As.filterMap bn
noncomputable def shows(As:List (Fm Str)):Nat:=(As.filter isS).length
noncomputable def mw(z:Str):Nat->List (Fm Str)->Bool
 | _,[]=>false
 | c,k :: r=>if isS k=true then false else if bn k=some z then decide (c % 2=0) else mw z (if isN k=true then c + 1 else c) r
theorem qc5y{z:Str}{c:Nat}{k:Fm Str}{r:List (Fm Str)}:mw z c (k :: r)=if isS k=true then false else if bn k=some z then decide (c % 2=0) else mw z (if isN k=true then c + 1 else c) r:=rfl
noncomputable def mayB(k:Fm Str)(As:List (Fm Str)):Bool:=if isB k=true then decide ((qa1e As).length < 4) else if isS k=true then decide (shows As < 3) else true
noncomputable def mayT:Fm Str->List (Fm Str)->Bool
 | .fact _,_=>true
 | .wish z,As=>mw z 0 As.reverse
 | .neg _,_=>true
 | .two _ _ _,_=>true
 | .mod _ _ _,_=>true
 | .bind _ x _,As=>!decide (x ∈ qa1e As)
 | .sho _ _ _,_=>true
noncomputable def may(k:Fm Str)(As:List (Fm Str)):Bool:=mayB k As && mayT k As
theorem qa2h{As:List (Fm Str)}{k:Fm Str}:qa1e (As ++ [k])=qa1e As ++ (bn k).toList:=by
 unfold qa1e
 rw [List.filterMap_append]
 cases h:bn k<;>simp [h]
theorem qa4p{As:List (Fm Str)}{k:Fm Str}:shows (As ++ [k])=shows As + (if isS k=true then 1 else 0):=by
 unfold shows
 rw [List.filter_append,List.length_append]
 cases h:isS k<;>simp [h]
theorem qc2k{neg:Bool}{p:Str}{t:List Str}:fIn neg (.str p) (.list (t.map .str))=some (.bool (if neg then !decide (p ∈ t) else decide (p ∈ t))):=by
 rw [qc1b (by rw [qb3z];rfl),qb5y]
def qb4s:DSp:=fun ls Q=>∃ As:List (Fm Str),ls=[.d (encA As)]/\As.length <= 100/\Q (.new ((qa1e As).map .str)) [none]
def qb8c:DSp:=fun ls Q=>∃ (z:Str) (As:List (Fm Str)),ls=[.d (.str z),.d (encA As)]/\As.length <= 100/\Q (.d (.bool (mw z 0 As.reverse))) [none,none]
def qb8d:DSp:=fun ls Q=>∃ (k:Fm Str) (As:List (Fm Str)),ls=[.d (.str (wd k)),.d (encA As)]/\As.length <= 100/\Q (.d (.bool (mayB k As))) [none,none]
def qc2l:DSp:=fun ls Q=>∃ (k:Fm Str) (As:List (Fm Str)),ls=[.d (.str (wd k)),.d (ag k),.d (encA As)]/\As.length <= 100/\Q (.d (.bool (mayT k As))) [none,none,none]
def qb8e:DSp:=fun ls Q=>∃ (k:Fm Str) (As:List (Fm Str)),ls=[.d (enc k),.d (encA As)]/\As.length <= 100/\Q (.d (.bool (may k As))) [none,none]
section
variable{P:Program}{w:World}{K:W.Frag}{mg:Str->Option Value}{base:Heap}{n:Nat}
abbrev qa4t:Stmt:=top 23
theorem qb8f:FnScope ["around"] ["around"] (qa0k qa4t):=⟨rfl,rfl,rfl,by decide +kernel,rfl,by decide +kernel,by decide +kernel⟩
theorem qd4e{f f1:Addr}{fd fd1:FuncData} (F:Fun K "names_bound" "names_bound" qa4t f fd) (B:Bl mg) (d_is_binder:Def K mg "is_binder" qa4z ["sentence"] f1 fd1) (g_is_binder:FnOk P w K mg base CX0 n f1 fd1 ["sentence"] (spD K spIsB)):FnOk P w K mg base CX0 (n + 1) f fd ["around"] (spD K qb4s):=by
 refine F.dok qb8f (fun cdv A outer s H E hr ls Qd h=>?_) (fun ls Qd h=>by obtain⟨_,e,_⟩:=h;rw [e];rfl)
 obtain⟨As,rfl,hl,q⟩:=h
 refine⟨rfl,?_⟩
 refine⟨_,(qa0g (ds_retF (qa1q ["thing"] [] rfl (by rfl) (by decide +kernel) (qa1w (dv 0)) (fun _ _ _=>(qa0s (i:=0) (show(["thing"]:List Str).Nodup by decide +kernel) rfl (Or.inl rfl))) (fun _ _ _=>(qa3r (qa3v (qa0f [false] d_is_binder g_is_binder hr rfl (qa0a (dv 0) qa0b))))) (fun _ _ _=>(qa0p qa0j qa0q (dv 0) qa0c (fun _ _=>rfl)))))),?_⟩
 walk_at "dd"
 refine⟨by rw [List.length_map];omega,?_⟩
 refine qa3x (fun i ρ acc=>∃ v0:Option L,ρ=[v0]/\acc=(qa1e (As.take i)).map .str) ⟨none,rfl,rfl⟩ ?_ ?_
 ·rintro i x ρ acc N hx ⟨v0,rfl,rfl⟩ hN
  rw [List.getElem?_map] at hx
  obtain⟨k,hk,rfl⟩:=Option.map_eq_some_iff.mp hx
  walk_at "dd"
  refine⟨k,rfl,?_⟩
  walk_at "dd"
  have et:As.take (i + 1)=As.take i ++ [k]:=by rw [List.take_add_one,hk];rfl
  cases hb:isB k with
  | true =>
   obtain⟨x,e1,e2⟩:=qb7z hb
   rw [qa1x,e2]
   walk_at "dd"
   refine hN _ _ ⟨_,rfl,?_⟩
   rw [et,qa2h,List.map_append,e1];rfl
  | false =>
   walk_at "dd"
   refine hN _ _ ⟨_,rfl,?_⟩
   rw [et,qa2h,List.map_append,qb8a hb]
   exact(List.append_nil _).symm
 ·rintro ρ acc ⟨v0,rfl,rfl⟩
  rw [List.length_map,List.take_length]
  walk_at "dd"
  exact q
abbrev qa9i:Stmt:=top 22
theorem qa7u:FnScope ["name","around","nots","thing"] ["name","around"] (qa0k qa9i):=⟨rfl,rfl,rfl,by decide +kernel,rfl,by decide +kernel,by decide +kernel⟩
theorem qd4f{f f1:Addr}{fd fd1:FuncData} (F:Fun K "may_wish" "may_wish" qa9i f fd) (B:Bl mg) (d_is_binder:Def K mg "is_binder" qa4z ["sentence"] f1 fd1) (g_is_binder:FnOk P w K mg base CX0 n f1 fd1 ["sentence"] (spD K spIsB)):FnOk P w K mg base CX0 (n + 1) f fd ["name","around"] (spD K qb8c):=by
 refine F.dok qa7u (fun cdv A outer s H E hr ls Qd h=>?_) (fun ls Qd h=>by obtain⟨_,_,e,_⟩:=h;rw [e];rfl)
 obtain⟨z,As,rfl,hl,q⟩:=h
 refine⟨rfl,?_⟩
 refine⟨_,(qa0e (qa0y (i:=2) qa7u.nd rfl (Or.inl rfl) qa0c)
  (qa0e (qb1t PassesOwn.never rfl (di_rev rfl B.reversed_ (dv 1)) (qa0s (i:=3) qa7u.nd rfl (Or.inl rfl))
  (qa0e (qa0x (qa0n (qa0w hr.units) qa0v (qa0p qa0j qa0q (dv 3) qa0c (fun _ _=>rfl)) qa0h (qa0m _))
  (qa0g (qa0i qa2o))
  qa0r)
  (qa0e (qa0x (DW.toT (qb1p (qa3v (qa0f [false] d_is_binder g_is_binder hr rfl (qa0a (dv 3) qa0b))) (qa9r (qa0n (qa0w hr.units) qa0v (qa0p qa0j qa0q (dv 3) qa0c (fun _ _=>rfl)) (dv 0) (qa0m _)))))
  (qa0g (qa0i (qa3c (qa0w hr.units) qa0v (qa1l qa9z ad_mod (dv 2) qa0c) qa0c (qa0m _))))
  qa0r)
  (qa0g (qa0x (qa0n (qa0w hr.units) qa0v (qa0p qa0j qa0q (dv 3) qa0c (fun _ _=>rfl)) qa0h (qa0m _))
  (qa0g (qa0y (i:=2) qa7u.nd rfl (Or.inl rfl) (qa1l qa1i qa2c (dv 2) qa0c)))
  qa0r)))))
  (qa0g (qa0i qa2o)))),?_⟩
 walk_at "dd"
 rw [← List.map_reverse]
 generalize As.reverse=Rs at q ⊢
 refine qa7c (fun i ρ=>∃ (c:Nat) (v3:Option L),ρ=[some (.d (.str z)),some (.d (encA As)),some (.d (.int (c:Int))),v3]/\mw z c (Rs.drop i)=mw z 0 Rs) ⟨0,none,rfl,rfl⟩ ?_ ?_
 ·rintro i x ρ N hx ⟨c,v3,rfl,hc⟩ hN
  rw [List.getElem?_map] at hx
  obtain⟨k,hk,rfl⟩:=Option.map_eq_some_iff.mp hx
  obtain⟨hi,ek⟩:=List.getElem?_eq_some_iff.mp hk
  rw [List.drop_eq_getElem_cons hi,ek] at hc
  rw [← hc] at q
  rw [qc5y] at hc q
  rw [qa1x]
  walk_at "dd"
  rw [qa7g k]
  refine qa4o (fun hs=>?_) (fun hs=>?_)
  ·rw [if_pos hs] at q
   exact q
  ·rw [if_neg (by rw [hs];exact Bool.false_ne_true)] at q hc
   rw [← qa1x]
   walk_at "dd"
   refine⟨k,rfl,?_⟩
   rw [qa1x]
   walk_at "dd"
   have go:¬ bn k=some z->mw z (if isN k=true then c + 1 else c) (Rs.drop (i + 1))=mw z 0 Rs:=fun h=>by rw [if_neg h] at hc;exact hc
   cases hb:isB k with
   | true =>
    obtain⟨x,e1,e2⟩:=qb7z hb
    have hN':isN k=false:=by cases k<;>first | rfl | cases hb
    rw [e2]
    walk_at "dd"
    refine qa1m (fun e=>?_) (fun e=>?_)
    ·walk_at "dd"
     rw [fMod_i (by decide)]
     walk_at "dd"
     rw [if_pos (by rw [e1,e])] at q
     rw [show decide ((c:Int) % 2=0)=decide (c % 2=0) from decide_eq_decide.mpr (by omega)]
     exact q
    ·walk_at "dd"
     rw [qb6a k,hN']
     walk_at "dd"
     have:=go (by rw [e1];exact fun h=>e (Option.some.inj h))
     rw [hN'] at this
     exact hN _ ⟨c,_,rfl,this⟩
   | false =>
    have:=go (by rw [qb8a hb];exact fun h=>nomatch h)
    walk_at "dd"
    rw [qb6a k]
    cases hn:isN k with
    | true =>
     rw [hn] at this
     walk_at "dd"
     exact hN _ ⟨c + 1,_,rfl,this⟩
    | false =>
     rw [hn] at this
     walk_at "dd"
     exact hN _ ⟨c,_,rfl,this⟩
 ·rintro ρ ⟨c,v3,rfl,hc⟩
  rw [List.length_map,List.drop_length] at hc
  walk_at "dd"
  rw [← hc] at q
  exact q
abbrev qa7v:Stmt:=top 20
theorem qc2m:FnScope ["head","around"] ["head","around"] (qa0k qa7v):=⟨rfl,rfl,rfl,by decide +kernel,rfl,by decide +kernel,by decide +kernel⟩
theorem qd4g{f f1:Addr}{fd fd1:FuncData} (F:Fun K "may_begin" "may_begin" qa7v f fd) (B:Bl mg) (m_MOST_BINDERS:∃ t,mg "MOST_BINDERS" = some (.int 4 t)) (m_MOST_SHOWS:∃ t,mg "MOST_SHOWS" = some (.int 3 t)) (d_names_bound:Def K mg "names_bound" qa4t ["around"] f1 fd1) (g_names_bound:FnOk P w K mg base CX0 n f1 fd1 ["around"] (spD K qb4s)):FnOk P w K mg base CX0 (n + 1) f fd ["head","around"] (spD K qb8d):=by
 refine F.dok qc2m (fun cdv A outer s H E hr ls Qd h=>?_) (fun ls Qd h=>by obtain⟨_,_,e,_⟩:=h;rw [e];rfl)
 obtain⟨k,As,rfl,hl,q⟩:=h
 refine⟨rfl,?_⟩
 refine⟨_,(qa0e (qa0x (qa0n qa2d qa3e (dv 0) (qa0u (qa0a qa0h (qa0a qa0h qa0b))) (by rfl))
  (qa0g (qa0i (qa3c qa8s (qa2m _) (qa1f qa1b qa2b rfl B.len_ qa1u (qa0a (qa0f [false] d_names_bound g_names_bound hr rfl (qa0a (dv 1) qa0b)) qa0b)) (qb1o rfl m_MOST_BINDERS) (qa0m _))))
  qa0r)
  (qa0e (qa0x (qa0n (qa0w hr.units) qa0v (dv 0) qa0h (qa0m _))
  (qa0g (qa0i (qa3c qa8s (qa2m _) (qa1f qa1b qa2b rfl B.len_ qa1u (qa0a (qa1c (qa1q ["thing"] [] rfl (by rfl) (by decide +kernel) (qa1w (dv 1)) (fun _ _ _=>(qa0s (i:=0) (show(["thing"]:List Str).Nodup by decide +kernel) rfl (Or.inl rfl))) (fun _ _ _=>(qa3r (qa0n (qa0w hr.units) qa0v (qa0p qa0j qa0q (dv 0) qa0c (fun _ _=>rfl)) qa0h (qa0m _)))) (fun _ _ _=>(dv 0)))) qa0b)) (qb1o rfl m_MOST_SHOWS) (qa0m _))))
  qa0r)
  (qa0g (qa0i qa2o)))),?_⟩
 unfold mayB at q
 walk_at "dd"
 rw [qb0k k]
 refine qa4o (fun hb=>?_) (fun hb=>?_)
 ·rw [if_pos hb] at q
  walk_at "dd"
  refine⟨As,rfl,hl,?_⟩
  walk_at "dd"
  rw [List.length_map,show decide (((qa1e As).length:Int) < 4)=decide ((qa1e As).length < 4) from decide_eq_decide.mpr (by omega)]
  exact q
 ·rw [if_neg (by rw [hb];exact Bool.false_ne_true)] at q
  walk_at "dd"
  rw [qa7g k]
  refine qa4o (fun hs=>?_) (fun hs=>?_)
  ·rw [if_pos hs] at q
   walk_at "dd"
   refine⟨by rw [List.length_map];omega,?_⟩
   refine qa3x (fun i ρ acc=>∃ v0:Option L,ρ=[v0]/\acc.length=shows (As.take i)) ⟨none,rfl,rfl⟩ ?_ ?_
   ·rintro i x ρ acc N hx ⟨v0,rfl,ha⟩ hN
    rw [List.getElem?_map] at hx
    obtain⟨j,hj,rfl⟩:=Option.map_eq_some_iff.mp hx
    have et:As.take (i + 1)=As.take i ++ [j]:=by rw [List.take_add_one,hj];rfl
    rw [qa1x]
    walk_at "dd"
    rw [qa7g j]
    refine qa4o (fun hs2=>?_) (fun hs2=>?_)
    ·walk_at "dd"
     refine hN _ _ ⟨_,rfl,?_⟩
     rw [List.length_append,ha,et,qa4p,if_pos hs2];rfl
    ·refine hN _ _ ⟨_,rfl,?_⟩
     rw [ha,et,qa4p,if_neg (by rw [hs2];exact Bool.false_ne_true)];rfl
   ·rintro ρ acc ⟨v0,rfl,ha⟩
    rw [List.length_map,List.take_length] at ha
    walk_at "dd"
    rw [ha,show decide ((shows As:Int) < 3)=decide (shows As < 3) from decide_eq_decide.mpr (by omega)]
    exact q
  ·rw [if_neg (by rw [hs];exact Bool.false_ne_true)] at q
   walk_at "dd"
   exact q
abbrev qa9j:Stmt:=top 21
theorem qc3v:FnScope ["head","taken","around"] ["head","taken","around"] (qa0k qa9j):=⟨rfl,rfl,rfl,by decide +kernel,rfl,by decide +kernel,by decide +kernel⟩
theorem ok_take{f f1 f2:Addr}{fd fd1 fd2:FuncData} (F:Fun K "may_take" "may_take" qa9j f fd) (B:Bl mg) (d_names_bound:Def K mg "names_bound" qa4t ["around"] f1 fd1) (g_names_bound:FnOk P w K mg base CX0 n f1 fd1 ["around"] (spD K qb4s))
  (d_may_wish:Def K mg "may_wish" qa9i ["name","around"] f2 fd2) (g_may_wish:FnOk P w K mg base CX0 n f2 fd2 ["name","around"] (spD K qb8c)):FnOk P w K mg base CX0 (n + 1) f fd ["head","taken","around"] (spD K qc2l):=by
 refine F.dok qc3v (fun cdv A outer s H E hr ls Qd h=>?_) (fun ls Qd h=>by obtain⟨_,_,e,_⟩:=h;rw [e];rfl)
 obtain⟨k,As,rfl,hl,q⟩:=h
 refine⟨rfl,?_⟩
 refine⟨_,(qa0e (qa0x (qa0n (qa0w hr.units) qa0v (dv 0) qa0h (qa0m _))
  (qa0g (qa0i (qa0f [false,false] d_may_wish g_may_wish hr rfl (qa0a (dv 1) (qa0a (dv 2) qa0b)))))
  qa0r)
  (qa0e (qa0x (qa0n qa2d qa3e (dv 0) (qa0u (qa0a qa0h (qa0a qa0h qa0b))) (by rfl))
  (qa0g (qa0i (qa3c qa7l qa3e (dv 1) (qa0f [false] d_names_bound g_names_bound hr rfl (qa0a (dv 2) qa0b)) (by rfl))))
  qa0r)
  (qa0g (qa0i qa2o)))),?_⟩
 walk_at "dd"
 rw [qb2v k]
 cases hb:isW k with
 | true =>
  obtain⟨z,rfl⟩:∃ z,k=.wish z:=by
   cases k with
   | wish z=>exact⟨z,rfl⟩
   | _=>cases hb
  walk_at "dd"
  refine⟨z,As,rfl,hl,?_⟩
  walk_at "dd"
  exact q
 | false =>
  walk_at "dd"
  rw [qb0k k]
  cases hs:isB k with
  | true =>
   obtain⟨m,x,p,rfl⟩:∃ m x p,k=.bind m x p:=by
    cases k with
    | bind m x p=>exact⟨m,x,p,rfl⟩
    | _=>cases hs
   walk_at "dd"
   refine⟨As,rfl,hl,?_⟩
   walk_at "dd"
   rw [show ag (.bind m x p)=.str x from rfl,qc2k]
   walk_at "dd"
   exact q
  | false =>
   walk_at "dd"
   have e:mayT k As=true:=by
    cases k with
    | wish m=>cases hb
    | bind w m p=>cases hs
    | _=>rfl
   rw [e] at q
   exact q
abbrev qa7w:Stmt:=top 19
theorem qc2n:FnScope ["sentence","around"] ["sentence","around"] (qa0k qa7w):=⟨rfl,rfl,rfl,by decide +kernel,rfl,by decide +kernel,by decide +kernel⟩
theorem qd4h{f f1 f2:Addr}{fd fd1 fd2:FuncData} (F:Fun K "may_stand" "may_stand" qa7w f fd) (B:Bl mg) (d_may_begin:Def K mg "may_begin" qa7v ["head","around"] f1 fd1) (g_may_begin:FnOk P w K mg base CX0 n f1 fd1 ["head","around"] (spD K qb8d))
  (d_may_take:Def K mg "may_take" qa9j ["head","taken","around"] f2 fd2) (g_may_take:FnOk P w K mg base CX0 n f2 fd2 ["head","taken","around"] (spD K qc2l)):FnOk P w K mg base CX0 (n + 1) f fd ["sentence","around"] (spD K qb8e):=by
 refine F.dok qc2n (fun cdv A outer s H E hr ls Qd h=>?_) (fun ls Qd h=>by obtain⟨_,_,e,_⟩:=h;rw [e];rfl)
 obtain⟨k,As,rfl,hl,q⟩:=h
 refine⟨rfl,?_⟩
 refine⟨_,(qa0g (qa0i (qa8f (qa0f [false,false] d_may_begin g_may_begin hr rfl (qa0a (qa0p qa0j qa0q (dv 0) qa0c (fun _ _=>rfl)) (qa0a (dv 1) qa0b))) (qa8e (qa0f [false,false,false] d_may_take g_may_take hr rfl (qa0a (qa0p qa0j qa0q (dv 0) qa0c (fun _ _=>rfl)) (qa0a (qa0p qa0j qa0q (dv 0) qa0c (fun _ _=>rfl)) (qa0a (dv 1) qa0b)))))))),?_⟩
 unfold may at q
 rw [qa1x]
 walk_at "dd"
 refine⟨k,As,rfl,hl,?_⟩
 walk_at "dd"
 cases hb:mayB k As with
 | false =>
  rw [hb] at q
  walk_at "dd"
  exact q
 | true =>
  rw [hb,Bool.true_and] at q
  walk_at "dd"
  refine⟨k,As,rfl,hl,?_⟩
  walk_at "dd"
  exact q
end
open Tr
noncomputable def okW:Fm Str->List (Fm Str)->Bool
 | .fact z,As=>may (.fact z) As
 | .wish z,As=>may (.wish z) As
 | .neg a,As=>may (.neg a) As && okW a (As ++ [.neg a])
 | .two c a b,As=>may (.two c a b) As && (okW a (As ++ [.two c a b]) && okW b (As ++ [.two c a b]))
 | .mod c st a,As=>may (.mod c st a) As && okW a (As ++ [.mod c st a])
 | .bind m x a,As=>may (.bind m x a) As && okW a (As ++ [.bind m x a])
 | .sho hs a b,As=>may (.sho hs a b) As && (okW a (As ++ [.sho hs a b]) && okW b (As ++ [.sho hs a b]))
noncomputable def nmF:Fm Str->Prop
 | .fact z=>z ∈ NM
 | .wish z=>z ∈ NM
 | .neg a=>nmF a
 | .two _ a b=>nmF a/\nmF b
 | .mod _ st a=>wS st/\nmF a
 | .bind _ x a=>x ∈ NM/\nmF a
 | .sho hs a b=>hs ∈ HL/\nmF a/\nmF b
theorem nmF.one{k:Fm Str}(h:nmF k):nm1 k:=by
 cases k with
 | fact z=>exact h
 | wish z=>exact h
 | neg a=>trivial
 | two c a b=>trivial
 | mod c st a=>exact h.1
 | bind m x a=>exact h.1
 | sho hs a b=>exact h.1
theorem nmF.kids{k:Fm Str}(h:nmF k):∀ p ∈ kids k,nmF p:=by
 cases k with
 | fact z=>intro p hp;cases hp
 | wish z=>intro p hp;cases hp
 | neg a=>intro p hp;rw [List.mem_singleton.mp hp];exact h
 | two c a b=>intro p hp;rcases List.mem_cons.mp hp with rfl | hp;exact h.1;rw [List.mem_singleton.mp hp];exact h.2
 | mod c st a=>intro p hp;rw [List.mem_singleton.mp hp];exact h.2
 | bind m x a=>intro p hp;rw [List.mem_singleton.mp hp];exact h.2
 | sho hs a b=>intro p hp;rcases List.mem_cons.mp hp with rfl | hp;exact h.2.1;rw [List.mem_singleton.mp hp];exact h.2.2
abbrev En:=Fm Str × List (Fm Str)
abbrev encW(e:En):PyData:=.tuple [enc e.1,encA e.2]
noncomputable def szE(ws:List En):Nat:=(ws.map fun e=>szF e.1).sum
noncomputable def okE(ws:List En):Bool:=ws.all fun e=>okW e.1 e.2
theorem ok_kid(k:Fm Str)(As:List (Fm Str)):okW k As=(may k As && okE ((kids k).map fun p=>(p,As ++ [k]))):=by
 cases k<;>simp [okW,kids,okE]
theorem sz_kid(k:Fm Str)(Bs:List (Fm Str)):szE ((kids k).map fun p=>(p,Bs)) + 1=szF k:=by
 cases k<;>simp [szE,kids,szF]
theorem qb8g(a b:List En):szE (a ++ b)=szE a + szE b:=by simp [szE]
theorem qb8h(a b:List En):okE (a ++ b)=(okE a && okE b):=by simp [okE]
theorem qb0l(k:Fm Str):(kids k).length <= 2:=by cases k<;>simp [kids]
noncomputable def resW(m:Nat)(ws:List En):Bool:=decide (m + szE ws <= 60) && okE ws
theorem qd4i{m:Nat}{ws:List En}{k:Fm Str}{As:List (Fm Str)}(h:may k As=true):resW (m + 1) (ws ++ (kids k).map fun p=>(p,As ++ [k]))=resW m (ws ++ [(k,As)]):=by
 unfold resW
 rw [qb8g,qb8g,qb8h,qb8h,show okE [(k,As)]=okW k As by simp [okE],ok_kid k As,h,Bool.true_and,show szE [(k,As)]=szF k by simp [szE]]
 have:=sz_kid k (As ++ [k])
 congr 1
 exact decide_eq_decide.mpr (by omega)
theorem res_no{m:Nat}{ws:List En}{k:Fm Str}{As:List (Fm Str)}(h:may k As=false):resW m (ws ++ [(k,As)])=false:=by
 unfold resW
 rw [qb8h,show okE [(k,As)]=okW k As by simp [okE],ok_kid k As,h,Bool.false_and,Bool.and_false,Bool.and_false]
theorem res_big{m:Nat}{ws:List En}{e:En}(h:60 < m + 1):resW m (ws ++ [e])=false:=by
 unfold resW
 have:=qa4x e.1
 rw [qb8g,show szE [e]=szF e.1 by simp [szE],decide_eq_false (by omega),Bool.false_and]
def qc2o:DSp:=fun ls Q=>∃ a:Fm Str,ls=[.d (enc a)]/\nmF a/\Q (.d (.bool (decide (szF a <= 60) && okW a []))) [none]
section
variable{P:Program}{w:World}{K:W.Frag}{mg:Str->Option Value}{base:Heap}{n:Nat}
abbrev qa5u:Stmt:=top 12
theorem qa3j:FnScope ["thing","many","waiting","pair","around"] ["thing"] (qa0k qa5u):=⟨rfl,rfl,rfl,by decide +kernel,rfl,by decide +kernel,by decide +kernel⟩
theorem ok_sent{f f1 f2 f3:Addr}{fd fd1 fd2 fd3:FuncData} (F:Fun K "is_sentence" "is_sentence" qa5u f fd) (B:Bl mg) (m_MOST_THINGS:∃ t,mg "MOST_THINGS" = some (.int 60 t)) (d_is_formed:Def K mg "is_formed" qa7t ["thing"] f1 fd1) (g_is_formed:FnOk P w K mg base CX0 n f1 fd1 ["thing"] (spD K qb6b))
  (d_may_stand:Def K mg "may_stand" qa7w ["sentence","around"] f2 fd2) (g_may_stand:FnOk P w K mg base CX0 n f2 fd2 ["sentence","around"] (spD K qb8e)) (d_parts_of:Def K mg "parts_of" qa6m ["sentence"] f3 fd3) (g_parts_of:FnOk P w K mg base CX0 n f3 fd3 ["sentence"] (spD K qb6z)):FnOk P w K mg base CX0 (n + 1) f fd ["thing"] (spD K qc2o):=by
 refine F.dok qa3j (fun cdv A outer s H E hr ls Qd h=>?_) (fun ls Qd h=>by obtain⟨_,e,_⟩:=h;rw [e];rfl)
 obtain⟨a,rfl,hf,q⟩:=h
 refine⟨rfl,?_⟩
 refine⟨_,(qa0e (qa0y (i:=1) qa3j.nd rfl (Or.inl rfl) qa0c)
  (qa0e (qc5m (i:=2) qa3j.nd rfl (Or.inl rfl) (qa1o (qa0a (qa0u (qa0a (dv 0) (qa0a (qa0u qa0b) qa0b))) qa0b)))
  (qa0e (qd1x PassesOwn.never (qc0q (dv 2))
  (qa0e (qa0y (i:=1) qa3j.nd rfl (Or.inl rfl) (qa1l qa1i qa2c (dv 1) qa0c))
  (qa0e (qa0x (qa0n qa8t (qa2m _) (dv 1) (qb1o rfl m_MOST_THINGS) (qa0m _))
  (qa0g (qa0i qa2o))
  qa0r)
  (qa0e (qa0y (i:=3) qa3j.nd rfl (Or.inl rfl) (de_pop 2 rfl))
  (qa0e (qa0x (DW.toT (qa7m (qa5e (qa3v (qa0f [false] d_is_formed g_is_formed hr rfl (qa0a (qa0p qa0j qa0q (dv 3) qa0c (fun _ _=>rfl)) qa0b)))) (qa5n (qa5e (qa3v (qa0f [false,false] d_may_stand g_may_stand hr rfl (qa0a (qa0p qa0j qa0q (dv 3) qa0c (fun _ _=>rfl)) (qa0a (qa0p qa0j qa0q (dv 3) qa0c (fun _ _=>rfl)) qa0b))))))))
  (qa0g (qa0i qa2o))
  qa0r)
  (qa0e (qa0y (i:=4) qa3j.nd rfl (Or.inr rfl) (qa1l qa1i qa2c (qa0p qa0j qa0q (dv 3) qa0c (fun _ _=>rfl)) (qa0u (qa0a (qa0p qa0j qa0q (dv 3) qa0c (fun _ _=>rfl)) qa0b))))
  (qa0g (qc5l (de_extL 2 rfl (qa1c (qa1q ["part"] [("around",4)] rfl (by rfl) (by decide +kernel) (qa1w (qa0f [false] d_parts_of g_parts_of hr rfl (qa0a (qa0p qa0j qa0q (dv 3) qa0c (fun _ _=>rfl)) qa0b))) (fun _ _ _=>(qa0s (i:=0) (show(["part","around"]:List Str).Nodup by decide +kernel) rfl (Or.inl rfl))) (fun _ _ _=>qa1z) (fun _ _ _=>(qa0u (qa0a (dv 0) (qa0a (dv 1) qa0b)))))))))))))))
  (qa0g (qa0i qa2o))))),?_⟩
 walk_at "dd"
 refine qc9v (fun m ρ=>∃ (many:Nat) (ws:List En) (v3 v4:Option L),ρ=[some (.d (enc a)),some (.d (.int (many:Int))),some (.own (ws.map encW)),v3,v4]/\m + many=60/\ws.length <= 1 + 2 * many/\(∀ e ∈ ws,nmF e.1/\e.2.length <= many)/\resW many ws=(decide (szF a <= 60) && okW a [])) 60
  ⟨0,[(a,[])],none,none,rfl,by omega,by simp,fun e he=>by rw [List.mem_singleton.mp he];exact⟨hf,Nat.le_refl _⟩,by simp [resW,szE,okE]⟩ ?_
 rintro m ρ N ⟨many,ws,v3,v4,rfl,hm,hwl,hok,hR⟩ hN
 walk_at "dd"
 rcases List.eq_nil_or_concat ws with rfl | ⟨ws0,e,rfl⟩
 ·refine iteF ?_
  walk_at "dd"
  rw [← hR,show resW many []=true by simp [resW,szE,okE];omega] at q
  exact q
 ·rw [List.concat_eq_append] at *
  obtain⟨k,As⟩:=e
  obtain⟨hkn,hal⟩:=hok _ (List.mem_append_right _ (List.mem_singleton.mpr rfl))
  have hal:As.length <= many:=hal
  have hkn:nmF k:=hkn
  rw [← hR] at q
  rw [List.length_append,List.length_singleton] at hwl
  have eb:(!(List.map encW (ws0 ++ [(k,As)])).isEmpty)=true:=by simp
  rw [eb]
  refine iteT ?_
  rw [List.map_append,List.map_cons,List.map_nil]
  walk_at "dd"
  refine qa1m (fun c=>?_) (fun c=>?_)
  ·walk_at "dd"
   rw [res_big (by omega)] at q
   exact q
  ·walk_at "dd"
   rw [List.getLast?_concat,List.dropLast_concat]
   walk_at "dd"
   refine⟨k,rfl,hkn.one,?_⟩
   walk_at "dd"
   refine⟨k,As,rfl,by omega,?_⟩
   walk_at "dd"
   cases hmay:may k As with
   | false =>
    rw [res_no hmay] at q
    walk_at "dd"
    exact q
   | true =>
    walk_at "dd"
    have hsl:=sizeLine_eq
    rw [qc1c (by rw [List.length_map];show _ + 1 <= _;omega),qa1a]
    have ea:As.map enc ++ [enc k]=(As ++ [k]).map enc:=by rw [List.map_append];rfl
    rw [ea]
    walk_at "dd"
    refine⟨k,rfl,?_⟩
    have hkl:=qb0l k
    walk_at "dd"
    refine⟨by rw [List.length_map];omega,?_⟩
    refine L2.qa3y (fun ρ=>∃ v0:Option L,ρ=[v0,some (.d (encA (As ++ [k])))]) (fun p=>some (.tuple [p,encA (As ++ [k])])) ⟨_,rfl⟩ ?_ ?_
    ·rintro x ρ N2 hx ⟨v0,rfl⟩ hN2
     walk_at "dd"
     exact hN2 _ ⟨_,rfl⟩
    rintro ρ _
    rw [List.filterMap_eq_map']
    refine⟨_,rfl,by rw [List.length_map,List.length_map,List.length_map];omega,?_⟩
    refine hN (m - 1) _ (by omega) ⟨many + 1,ws0 ++ (kids k).map (fun p=>(p,As ++ [k])),some (.d (encW (k,As))),some (.d (encA (As ++ [k]))),?_,by omega,?_,?_,?_⟩
    rotate_left
    ·rw [List.length_append,List.length_map];omega
    ·intro e he
     rcases List.mem_append.mp he with he | he
     ·have:=hok e (List.mem_append_left _ he)
      exact⟨this.1,Nat.le_trans this.2 (by omega)⟩
     ·obtain⟨p,hp,rfl⟩:=List.mem_map.mp he
      exact⟨hkn.kids p hp,by rw [List.length_append];show _ + 1 <= _;omega⟩
    ·rw [qd4i hmay];exact hR
    ·rw [List.map_append (l₁:=ws0),List.map_map,List.map_map]
     rfl
end
theorem Wl.nm:∀ (a:Fm Str) {b s:Nat},Wl a b s->nmF a
 | .fact _,_,_,h=>h
 | .wish _,_,_,h=>h
 | .neg a,_,_,h=>Wl.nm a h
 | .two _ a c,_,_,h=>⟨Wl.nm a h.1,Wl.nm c h.2⟩
 | .mod _ _ a,_,_,h=>⟨h.1,Wl.nm a h.2⟩
 | .bind _ x a,b,_,h=>⟨at_nm b h.1.1 x h.1.2,Wl.nm a h.2⟩
 | .sho hs a c,_,_,h=>⟨h.1.2,Wl.nm a h.2.1,Wl.nm c h.2.2⟩
open Tr
theorem qb4d{W:Wd}(G:Ws W){r:Room Str}{st:Stp Str}{p:Nat}(hp:p < W.moves.length){x:Int}:x ∈ ldL W r st p ↔ ∃ q:Nat,q < W.moves.length/\x=(q:Int)/\lead (mdl W) r st p q=true:=by
 have go:∀ f:Nat->Bool,x ∈ rngF W.moves.length f ↔ ∃ q:Nat,q < W.moves.length/\x=(q:Int)/\f q=true:=fun f=>by
  unfold rngF
  rw [List.mem_map]
  constructor
  ·rintro⟨q,hq,rfl⟩
   obtain⟨h1,h2⟩:=List.mem_filter.mp hq
   exact⟨q,List.mem_range.mp h1,rfl,h2⟩
  ·rintro⟨q,h1,rfl,h2⟩
   exact⟨q,List.mem_filter.mpr ⟨List.mem_range.mpr h1,h2⟩,rfl⟩
 cases st with
 | on =>
  show x ∈ W.moves.getD p [] ↔ ∃ q:Nat,q < W.moves.length/\x=(q:Int)/\decide ((q:Int) ∈ W.moves.getD p [])=true
  constructor
  ·intro h
   have hm:W.moves.getD p [] ∈ W.moves:=by rw [List.getD_eq_getElem?_getD,List.getElem?_eq_getElem hp];exact List.getElem_mem hp
   have:=(G.mr _ hm).2 x h
   exact⟨x.toNat,by omega,by omega,by rw [show((x.toNat:Nat):Int)=x by omega];simpa using h⟩
  ·rintro⟨q,_,rfl,h⟩;simpa using h
 | back=>exact go _
 | one hs=>exact go _
 | pool hs=>exact go _
theorem ld_len{W:Wd}(G:Ws W){r:Room Str}{st:Stp Str}{p:Nat}(hp:p < W.moves.length):(ldL W r st p).length <= 12:=by
 have n1:=G.n1
 have go:∀ f:Nat->Bool,(rngF W.moves.length f).length <= 12:=fun f=>by have:=(rngF_in W.moves.length f).2;omega
 cases st with
 | on =>
  have hm:W.moves.getD p [] ∈ W.moves:=by rw [List.getD_eq_getElem?_getD,List.getElem?_eq_getElem hp];exact List.getElem_mem hp
  exact(G.mr _ hm).1
 | back=>exact go _
 | one hs=>exact go _
 | pool hs=>exact go _
noncomputable def stV(W:Wd)(r:Room Str)(c:Bool)(st:Stp Str)(X:Vec):Vec:=fun p=>if c=true then(List.range W.moves.length).all fun q=>!lead (mdl W) r st p q || X q else(List.range W.moves.length).any fun q=>lead (mdl W) r st p q && X q
theorem st_any{W:Wd}(G:Ws W){r:Room Str}{st:Stp Str}{p:Nat}(hp:p < W.moves.length)(X:Vec):((ldL W r st p).map fun x=>X x.toNat).contains true=stV W r false st X p:=by
 show _=(List.range W.moves.length).any _
 rw [Bool.eq_iff_iff,List.contains_iff_mem,List.mem_map,List.any_eq_true]
 constructor
 ·rintro⟨x,hx,e⟩
  obtain⟨q,hq,rfl,hl⟩:=(qb4d G hp).mp hx
  exact⟨q,List.mem_range.mpr hq,by rw [hl];simpa using e⟩
 ·rintro⟨q,hq,h⟩
  rw [Bool.and_eq_true] at h
  exact⟨(q:Int),(qb4d G hp).mpr ⟨q,List.mem_range.mp hq,rfl,h.1⟩,by simpa using h.2⟩
theorem st_all{W:Wd}(G:Ws W){r:Room Str}{st:Stp Str}{p:Nat}(hp:p < W.moves.length)(X:Vec):(!((ldL W r st p).map fun x=>X x.toNat).contains false)=stV W r true st X p:=by
 show _=(List.range W.moves.length).all _
 rw [Bool.eq_iff_iff,List.all_eq_true]
 constructor
 ·intro h q hq
  cases hl:lead (mdl W) r st p q with
  | false=>rfl
  | true =>
   have hm:=(qb4d G hp (x:=(q:Int))).mpr ⟨q,List.mem_range.mp hq,rfl,hl⟩
   cases hX:X q with
   | true=>rfl
   | false =>
    have:((ldL W r st p).map fun x=>X x.toNat).contains false=true:=by
     rw [List.contains_iff_mem,List.mem_map]
     exact⟨(q:Int),hm,by simpa using hX⟩
    rw [this] at h;cases h
 ·intro h
  cases hc:((ldL W r st p).map fun x=>X x.toNat).contains false with
  | false=>rfl
  | true =>
   rw [List.contains_iff_mem,List.mem_map] at hc
   obtain⟨x,hx,e⟩:=hc
   obtain⟨q,hq,rfl,hl⟩:=(qb4d G hp).mp hx
   have:=h q (List.mem_range.mpr hq)
   have e':X q=false:=by simpa using e
   rw [hl,e'] at this;cases this
def qb4e:DSp:=fun ls Q=>∃ (W:Wd) (r:Room Str) (c:Bool) (st:Stp Str) (d:PyData) (X:Vec),ls=[.d W.enc,.d (encR W.moves.length r),.d (.tuple [.str (if c then "every" else "some"),qa5j st,d]),.d (vecD W.moves.length X)]/\Ws W/\r.length <= 100/\smS st/\Q (.d (vecD W.moves.length (stV W r c st X))) [none,none,none,none]
theorem cut2{x y:PyData}{r:List PyData}:cutD (x :: y :: r) none (some 2)=[x,y]:=by
 unfold cutD
 rw [show(some (2:Int))=some ((2:Nat):Int) from rfl,HT.sIx_nat,HT.qd0z]
 simp
section
variable{P:Program}{w:World}{K:W.Frag}{mg:Str->Option Value}{base:Heap}{n:Nat}
abbrev qa5v:Stmt:=top 43
theorem qa3k:FnScope ["_law_world_here","_law_room","_law_sentence_here","_law_truths_here","_law_word","_law_step_here","_law_found","_law_p","_law_there"] ["_law_world_here","_law_room","_law_sentence_here","_law_truths_here"] (qa0k qa5v):=⟨rfl,rfl,rfl,by decide +kernel,rfl,by decide +kernel,by decide +kernel⟩
theorem qc7u{f f1:Addr}{fd fd1:FuncData} (F:Fun K "_law_stepped" "_law_stepped" qa5v f fd) (B:Bl mg)
  (qb1d:Def K mg "_law_leads" qa7r ["_law_world_here","_law_room","_law_step_here","_law_p"] f1 fd1) (qc3w:FnOk P w K mg base CX0 n f1 fd1 ["_law_world_here","_law_room","_law_step_here","_law_p"] (spD K qb7x)):FnOk P w K mg base CX0 (n + 1) f fd ["_law_world_here","_law_room","_law_sentence_here","_law_truths_here"] (spD K qb4e):=by
 refine F.dok qa3k (fun cdv A outer s H E hr ls Qd h=>?_) (fun ls Qd h=>by obtain⟨_,_,_,_,_,_,e,_⟩:=h;rw [e];rfl)
 obtain⟨W,r,c,st,d,X,rfl,hG,hr1,hst,q⟩:=h
 refine⟨rfl,?_⟩
 have n1:=hG.n1
 refine⟨_,(qa0e (ds_asg (qa7d (qb1g.or qa7e) qb1u (dv 2) qa9t (qa9u qa0c)) (qb1s (n:=2) rfl (qa2z (qa0s (i:=4) qa3k.nd rfl (Or.inl rfl)) (qa2z (qa0s (i:=5) qa3k.nd rfl (Or.inl rfl)) qa9s))))
  (qa0e (qc5m (i:=6) qa3k.nd rfl (Or.inl rfl) (qa1o qa0b))
  (qa0e (qb1t PassesOwn.never rfl (qa3d rfl B.range_ (qa1f qa1b qa2b rfl B.len_ qa1u (qa0a (dv 3) qa0b))) (qa0s (i:=7) qa3k.nd rfl (Or.inl rfl))
  (qa0e (qa5x (i:=8) qa3k.nd rfl rfl ["_law_q"] [("_law_truths_here",3)] rfl (by rfl) (by decide +kernel) (qa1w (qa0f [false,false,false,false] qb1d qc3w hr rfl (qa0a (dv 0) (qa0a (dv 1) (qa0a (dv 5) (qa0a (dv 7) qa0b)))))) (fun _ _ _=>(qa0s (i:=0) (show(["_law_q","_law_truths_here"]:List Str).Nodup by decide +kernel) rfl (Or.inl rfl))) (fun _ _ _=>qa1z) (fun _ _ _=>(qa0p qa0j qa0q (dv 1) (dv 0) (fun _ _=>rfl))))
  (qa0g (qc5l (qc9s 6 rfl (qa0p qa0j qa0q (qa1c (qa1o (qa0a (qa3c qa7l qa3e qa2o (dv 8) (by rfl)) (qa0a (qa3c qa2d qa3e qa2o (dv 8) (by rfl)) qa0b)))) (qa3h qc9z ad_intB rfl B.int_ bt_int (qa0a (qa3c (qa0w hr.units) qa0v (dv 4) qa0h (qa0m _)) qa0b)) (fun _ _=>rfl)))))))
  (qa0g (qa0i (dv 6)))))),?_⟩
 walk_at "dd"
 rw [cut2]
 walk_at "dd"
 rw [List.length_map,List.length_range]
 refine⟨⟨by omega,by omega⟩,?_⟩
 rw [show((W.moves.length:Int)).toNat=W.moves.length by omega,qb1w]
 refine qa7c (fun i ρ=>∃ v7 v8:Option L,ρ=[some (.d W.enc),some (.d (encR W.moves.length r)),some (.d (.tuple [.str (if c then "every" else "some"),qa5j st,d])),some (.d (vecD W.moves.length X)),some (.d (.str (if c then "every" else "some"))),some (.d (qa5j st)),some (.own ((List.range i).map fun p=>.bool (stV W r c st X p))),v7,v8]/\i <= W.moves.length) ⟨none,none,rfl,Nat.zero_le _⟩ ?_ ?_
 ·rintro i x ρ N hx ⟨v7,v8,rfl,_⟩ hN
  rw [List.getElem?_map] at hx
  obtain⟨p,hpp,rfl⟩:=Option.map_eq_some_iff.mp hx
  obtain⟨hi,rfl⟩:i < W.moves.length/\p=i:=by
   obtain⟨h1,h2⟩:=List.getElem?_eq_some_iff.mp hpp
   rw [List.length_range] at h1
   exact⟨h1,by rw [← h2,List.getElem_range]⟩
  have ll:=ld_len hG (r:=r) (st:=st) hi
  walk_at "dd"
  refine⟨W,r,st,p,rfl,hG,hr1,hst,hi,?_⟩
  walk_at "dd"
  refine⟨by rw [List.length_map];omega,?_⟩
  refine qa3n (fun x:Int=>PyData.int x) (fun x:Int=>PyData.bool (X x.toNat)) (fun ρ=>∃ v0:Option L,ρ=[v0,some (.d (vecD W.moves.length X))]) ⟨none,rfl⟩ ?_ ?_
  ·rintro x ρ N Nn hx ⟨v0,rfl⟩ hN
   obtain⟨q',hq,rfl,_⟩:=(qb4d hG hi).mp hx
   walk_at "dd"
   refine qa4a (qb0j hq) ?_
   walk_at "dd"
   exact hN _ ⟨_,rfl⟩
  rintro ρ ⟨v0,rfl⟩
  have eb:((ldL W r st p).map fun x:Int=>PyData.bool (X x.toNat))=((ldL W r st p).map fun x=>X x.toNat).map .bool:=by rw [List.map_map];rfl
  rw [eb]
  walk_at "dd"
  rw [qb0u,qa1a,qb0u,qa1a]
  walk_at "dd"
  have sn:(List.range (p + 1)).map (fun p=>PyData.bool (stV W r c st X p))=(List.range p).map (fun p=>PyData.bool (stV W r c st X p)) ++ [PyData.bool (stV W r c st X p)]:=by rw [List.range_succ,List.map_append];rfl
  cases c with
  | true =>
   rw [← st_all hG hi X] at sn
   walk_at "dk"
   rw [show fIntB [PyData.bool (decide False)]=some (.int 0) from rfl,qa1a]
   walk_at "dd"
   refine⟨by rw [List.length_map,List.length_range];omega,?_⟩
   exact hN _ ⟨_,_,by rw [sn];rfl,hi⟩
  | false =>
   rw [← st_any hG hi X] at sn
   walk_at "dk"
   rw [show fIntB [PyData.bool (decide True)]=some (.int 1) from rfl,qa1a]
   walk_at "dd"
   refine⟨by rw [List.length_map,List.length_range];omega,?_⟩
   exact hN _ ⟨_,_,by rw [sn];rfl,hi⟩
 ·rintro ρ ⟨v7,v8,rfl,_⟩
  rw [List.length_map,List.length_range]
  walk_at "dd"
  exact q
end
open Tr
abbrev vq(n:Nat)(q:Str × Vec):Str × PyData:=(q.1,vecD n q.2)
abbrev encEn(n:Nat)(ν:List (Str × Vec)):PyData:=.dict (((ν.map (vq n)).map kQ).map kD)
noncomputable def envOf(ν:List (Str × Vec)):Env Str:=fun x=>((ν.find? fun q=>decide (q.1=x)).map (·.2)).getD fun _=>false
theorem qc7v{ν:List (Str × Vec)}{x:Str}{X:Vec}(h:x ∉ ν.map (·.1)):envOf (ν ++ [(x,X)])=Tr.upd (envOf ν) x X:=by
 funext y
 unfold envOf Tr.upd
 rw [List.find?_append]
 by_cases c:y=x
 ·subst c
  have:ν.find? (fun q=>decide (q.1=y))=none:=List.find?_eq_none.mpr fun q hq e=>h (List.mem_map.mpr ⟨q,hq,by simpa using e⟩)
  rw [this,Option.none_or,List.find?_cons_of_pos (by simp),if_pos rfl];rfl
 ·rw [if_neg c,List.find?_cons_of_neg (by simpa using fun e=>c e.symm),List.find?_nil,Option.or_none]
theorem qd4j{n:Nat}{ν:List (Str × Vec)}{x:Str}{X:Vec}(h:x ∉ ν.map (·.1)):putA ((ν.map (vq n)).map kQ) (Sum.inr x) (vecD n X)=((ν ++ [(x,X)]).map (vq n)).map kQ:=by
 unfold putA
 have:(((ν.map (vq n)).map kQ).any fun q=>decide (q.1=Sum.inr x))=false:=by
  rw [List.any_eq_false]
  intro q hq
  obtain⟨u,hu,rfl⟩:=List.mem_map.mp hq
  obtain⟨v,hv,rfl⟩:=List.mem_map.mp hu
  simp only [decide_eq_true_eq]
  intro e
  exact h (List.mem_map.mpr ⟨v,hv,Sum.inr.inj e⟩)
 rw [this,if_neg Bool.false_ne_true,List.map_append,List.map_append];rfl
theorem qb9e(X Y:Vec):∀ l:List Nat,PyData.eqvAll (l.map fun p=>.bool (X p)) (l.map fun p=>.bool (Y p))=l.all fun p=>X p == Y p
 | []=>rfl
 | p :: r=>by
  rw [List.map_cons,List.map_cons,PyData.eqvAll,qb9e X Y r,List.all_cons]
  congr 1
theorem qb7a{n:Nat}{X:Vec}:SeqAt.shaped (vecD n X)=true:=by
 have go:∀ l:List Nat,PyData.canLayAll0 (l.map fun p=>.bool (X p))=true/\PyData.depthAll (l.map fun p=>.bool (X p))=0:=fun l=>by
  induction l with
  | nil=>exact⟨rfl,rfl⟩
  | cons p r ih=>exact⟨by rw [List.map_cons,PyData.canLayAll0,ih.1];rfl,by rw [List.map_cons,PyData.depthAll,ih.2];rfl⟩
 obtain⟨h1,h2⟩:=go (List.range n)
 simp [SeqAt.shaped,PyData.canLay0,PyData.depth,h1,h2]
theorem eq_vec{n:Nat}{X Y:Vec}:fEqA false (vecD n X) (vecD n Y)=some (.bool ((List.range n).all fun p=>X p == Y p)):=by
 rw [qc1a rfl qb7a qb7a]
 show some (PyData.bool (PyData.eqvAll _ _))=_
 rw [qb9e]
theorem vec_eq{n:Nat}{X Y:Vec}(h:eqv n X Y):vecD n X=vecD n Y:=by
 show PyData.list _=PyData.list _
 congr 1
 exact List.map_congr_left fun p hp=>by rw [h p (List.mem_range.mp hp)]
structure Cx61(W:Wd)(r:Room Str)(a:Fm Str)(F:List (Str × Bool))(ν:List (Str × Vec))(m:Nat):Prop where
 ws:Ws W
 sz:szF a <= m
 rl:r.length + szF a <= 100
 ks:ν.map (·.1)=F.map (·.1)
 nd:(F.map (·.1)).Nodup
 vl:ν.length + szF a <= 100
 po:Pos a F
 sm:smF a
def spTr(m:Nat):DSp:=fun ls Q=>∃ (W:Wd) (r:Room Str) (a:Fm Str) (F:List (Str × Bool)) (ν:List (Str × Vec)),ls=[.d W.enc,.d (encR W.moves.length r),.d (enc a),.d (encEn W.moves.length ν)]/\Cx61 W r a F ν m/\Q (.d (vecD W.moves.length (ev (mdl W) a r (envOf ν)))) [none,none,none,none]
def spWi(m:Nat):DSp:=fun ls Q=>∃ (W:Wd) (r:Room Str) (mm:Bool) (x:Str) (a:Fm Str) (F:List (Str × Bool)) (ν:List (Str × Vec)),ls=[.d W.enc,.d (encR W.moves.length r),.d (enc (.bind mm x a)),.d (encEn W.moves.length ν)]/\Cx61 W r (.bind mm x a) F ν (m + 1)/\Q (.d (vecD W.moves.length (ev (mdl W) (.bind mm x a) r (envOf ν)))) [none,none,none,none]
theorem set_same{α:Type}:∀ (ρ:List α) (i:Nat) (x:α),ρ[i]? = some x->ρ.set i x=ρ
 | [],_,_,_=>rfl
 | y :: r,0,x,h=>by
  have e:y=x:=Option.some.inj h
  rw [List.set_cons_zero,e]
 | y :: r,i + 1,x,h=>by rw [List.set_cons_succ,set_same r i x h]
theorem fz_or{ρ:Rho}{i:Nat}{l:L}{xs:List PyData}{Q:PyData->Rho->Prop}(h:l=.own xs ∨ l=.d (.list xs))(hi:ρ[i]? = some (some l))(q:Q (.list xs) (ρ.set i (some (.d (.list xs))))):fzJ (some l) ρ i Q:=by
 rcases h with rfl | rfl
 ·exact q
 ·rw [set_same ρ i _ hi] at q
  exact q
theorem fzL_or{ρ:Rho}{i:Nat}{l:L}{xs:List PyData}{Q:L->Rho->Prop}(h:l=.own xs ∨ l=.d (.list xs))(hi:ρ[i]? = some (some l))(q:Q (.d (.list xs)) (ρ.set i (some (.d (.list xs))))):fzLJ (some l) ρ i Q:=by
 rcases h with rfl | rfl
 ·exact q
 ·rw [set_same ρ i _ hi] at q
  exact q
section
variable{P:Program}{w:World}{K:W.Frag}{mg:Str->Option Value}{base:Heap}{n:Nat}
abbrev qa6n:Stmt:=top 41
theorem qa2i:FnScope ["_law_world_here","_law_room","_law_sentence_here","_law_wishes","_law_word","_law_name","_law_body","_law_truths_here","_law_turn","_law_inner","_law_found"] ["_law_world_here","_law_room","_law_sentence_here","_law_wishes"] (qa0k qa6n):=⟨rfl,rfl,rfl,by decide +kernel,rfl,by decide +kernel,by decide +kernel⟩
abbrev qa4h:Stmt:=top 42
theorem qa3t:FnScope ["_law_world_here","_law_room","_law_sentence_here","_law_wishes","_law_word","_law_points","_law_told","_law_one","_law_other"] ["_law_world_here","_law_room","_law_sentence_here","_law_wishes"] (qa0k qa4h):=⟨rfl,rfl,rfl,by decide +kernel,rfl,by decide +kernel,by decide +kernel⟩
theorem qd0m{f f1:Addr}{fd fd1:FuncData} (F:Fun K "_law_wished" "_law_wished" qa6n f fd) (B:Bl mg)
  (qa1t:Def K mg "_law_truths" qa4h ["_law_world_here","_law_room","_law_sentence_here","_law_wishes"] f1 fd1) {m:Nat} (qa2v:FnOk P w K mg base CX0 n f1 fd1 ["_law_world_here","_law_room","_law_sentence_here","_law_wishes"] (spD K (spTr m))) :
  FnOk P w K mg base CX0 (n + 1) f fd ["_law_world_here","_law_room","_law_sentence_here","_law_wishes"] (spD K (spWi m)):=by
 refine F.dok qa2i (fun cdv A outer s H E hr ls Qd h=>?_) (fun ls Qd h=>by obtain⟨_,_,_,_,_,_,_,e,_⟩:=h;rw [e];rfl)
 obtain⟨W,r,mm,x,a,Fr,ν,rfl,hC,q⟩:=h
 refine⟨rfl,?_⟩
 have n1:=hC.ws.n1
 refine⟨_,(qa0e (ds_asg (dv 2) (qb1s (n:=3) rfl (qa2z (qa0s (i:=4) qa2i.nd rfl (Or.inr rfl)) (qa2z (qa0s (i:=5) qa2i.nd rfl (Or.inl rfl)) (qa2z (qa0s (i:=6) qa2i.nd rfl (Or.inl rfl)) qa9s)))))
  (qa0e (qa5x (i:=7) qa2i.nd rfl rfl ["_law_p"] [("_law_word",4)] rfl (by rfl) (by decide +kernel) (qa1w (qa0p qa0j qa0q (dv 0) qa0c (fun _ _=>rfl))) (fun _ _ _=>(qa0s (i:=0) (show(["_law_p","_law_word"]:List Str).Nodup by decide +kernel) rfl (Or.inl rfl))) (fun _ _ _=>qa1z) (fun _ _ _=>(qa3c (qa0w hr.units) qa0v (dv 1) qa0h (qa0m _))))
  (qa0e (qb1t PassesOwn.never rfl (qa3d rfl B.range_ (qa1l qa1i qa2c (qa1f qa1b qa2b rfl B.len_ qa1u (qa0a (dv 7) qa0b)) qa0c)) (qa0s (i:=8) qa2i.nd rfl (Or.inl rfl))
  (qd3l (i:=9) qa2i.nd rfl (Or.inl rfl) rfl B.dict_ (qa0a (dv 3) qa0b)
  (dps_put (i:=9) rfl hr.units (dv 5) (dv 7) (dps_end (qa0e (qa0y (i:=10) qa2i.nd rfl (Or.inl rfl) (qa0f [false,false,false,false] qa1t qa2v hr rfl (qa0a (dv 0) (qa0a (dv 1) (qa0a (dv 6) (qa0a (dv 9) qa0b))))))
  (qa0e (qa0x (qa0n (qa0w hr.units) qa0v (dv 10) (dv 7) (qa0m _))
  (qa0g (qa0i (dv 7)))
  qa0r)
  (qa0g (qa0y (i:=7) qa2i.nd rfl (Or.inl rfl) (dv 10)))))))))
  (qa0g (qa0i (dv 7)))))),?_⟩
 simp only [enc]
 walk_at "dd"
 refine⟨by rw [List.length_map];omega,?_⟩
 refine qa3n (fun t:List Int=>encT t) (fun _=>PyData.bool mm) (fun ρ=>∃ v0:Option L,ρ=[v0,some (.d (.str (if mm then "most" else "least")))]) ⟨none,rfl⟩ ?_ ?_
 ·rintro t ρ N Nn ht ⟨v0,rfl⟩ hN
  cases mm with
  | true=>walk_at "dk";exact hN _ ⟨_,rfl⟩
  | false=>walk_at "dk";exact hN _ ⟨_,rfl⟩
 rintro ρ ⟨v0,rfl⟩
 have e0:(W.moves.map fun _=>PyData.bool mm)=(List.range W.moves.length).map fun _=>PyData.bool mm:=by
  rw [List.map_const',List.map_const',List.length_range]
 rw [e0]
 walk_at "dd"
 rw [List.length_map,List.length_range]
 refine⟨⟨by omega,by omega⟩,?_⟩
 rw [show((W.moves.length:Int) + 2).toNat=W.moves.length + 2 by omega,qb1w]
 have hx:x ∉ ν.map (·.1):=by rw [hC.ks];exact hC.po.1
 have hsz:=hC.sz
 have hrl:=hC.rl
 have hvl:=hC.vl
 simp only [szF] at hsz hrl hvl
 have hcx:∀ X:Vec,Cx61 W r a (Fr ++ [(x,false)]) (ν ++ [(x,X)]) m:=fun X=>⟨hC.ws,by omega,by omega,by rw [List.map_append,List.map_append,hC.ks];rfl,by
  rw [List.map_append]
  exact List.nodup_append.mpr ⟨hC.nd,by simp,fun y hy z hz e=>by
   rw [List.mem_singleton.mp hz] at e
   have e':y=x:=e
   exact hC.po.1 (e' ▸ hy)⟩,by rw [List.length_append,List.length_singleton];omega,hC.po.2,hC.sm⟩
 have hF:∀ {X Y:Vec},eqv W.moves.length X Y->eqv W.moves.length (ev (mdl W) a r (Tr.upd (envOf ν) x X)) (ev (mdl W) a r (Tr.upd (envOf ν) x Y)):=fun{X Y} e =>
  ev_eqv (mdl W) a (Fr ++ [(x,false)]) r _ _ hC.po.2 fun q hq=>by
   unfold Tr.upd
   split
   ·exact e
   ·exact fun _ _=>rfl
 have q':Qd (.d (vecD W.moves.length (iter (fun X=>ev (mdl W) a r (Tr.upd (envOf ν) x X)) (W.moves.length + 2) fun _=>mm))) [none,none,none,none]:=q
 refine qa7c (fun i ρ=>∃ (l:L) (v8 v9 v10:Option L),ρ=[some (.d W.enc),some (.d (encR W.moves.length r)),some (.d (.tuple [.str (if mm then "most" else "least"),.str x,enc a])),some (.d (encEn W.moves.length ν)),some (.d (.str (if mm then "most" else "least"))),some (.d (.str x)),some (.d (enc a)),some l,v8,v9,v10]/\(l=.own ((List.range W.moves.length).map fun p=>.bool (iter (fun X=>ev (mdl W) a r (Tr.upd (envOf ν) x X)) i (fun _=>mm) p)) ∨ l=.d (vecD W.moves.length (iter (fun X=>ev (mdl W) a r (Tr.upd (envOf ν) x X)) i fun _=>mm)))/\i <= W.moves.length + 2) ⟨_,none,none,none,rfl,.inl rfl,Nat.zero_le _⟩ ?_ ?_
 ·rintro i u ρ N hu ⟨l,v8,v9,v10,rfl,hl,_⟩ hN
  have hi:i < W.moves.length + 2:=by
   have:=(List.getElem?_eq_some_iff.mp hu).1
   rw [List.length_map,List.length_range] at this
   exact this
  generalize hX:(iter (fun X=>ev (mdl W) a r (Tr.upd (envOf ν) x X)) i fun _=>mm)=X at hl
  have hX1:(iter (fun X=>ev (mdl W) a r (Tr.upd (envOf ν) x X)) (i + 1) fun _=>mm)=ev (mdl W) a r (envOf (ν ++ [(x,X)])):=by
   rw [qa3z,hX,qc7v hx]
  have fin:((List.range W.moves.length).all fun p=>ev (mdl W) a r (envOf (ν ++ [(x,X)])) p == X p)=true->Qd (.d (vecD W.moves.length X)) [none,none,none,none]:=fun h=>by
   have e:eqv W.moves.length (iter (fun X=>ev (mdl W) a r (Tr.upd (envOf ν) x X)) i fun _=>mm) (iter (fun X=>ev (mdl W) a r (Tr.upd (envOf ν) x X)) (i + 1) fun _=>mm):=fun p hp=>by
    rw [hX,hX1]
    have:=List.all_eq_true.mp h p (List.mem_range.mpr hp)
    exact(by simpa using this:_=_).symm
   have st:=stay hF e (W.moves.length + 2) (by omega)
   rw [hX] at st
   rw [vec_eq st] at q'
   exact q'
  walk_at "dd"
  refine⟨(ν.map (vq W.moves.length)).map kQ,rfl,by simp;omega,?_⟩
  refine fz_or hl ?_ ?_
  ·rfl
  walk_at "dd"
  rw [show qa8z (PyData.str x)=some (Sum.inr x) from rfl,qa1a,qd4j hx]
  walk_at "dd"
  refine⟨W,r,a,Fr ++ [(x,false)],ν ++ [(x,X)],rfl,hcx X,?_⟩
  walk_at "dd"
  rw [eq_vec,qa1a]
  walk_at "dd"
  refine qa4o (fun c=>?_) (fun c=>?_)
  ·walk_at "dd"
   exact fin c
  ·walk_at "dd"
   exact hN _ ⟨_,_,_,_,rfl,.inr (by rw [hX1]),hi⟩
 ·rintro ρ ⟨l,v8,v9,v10,rfl,hl,_⟩
  rw [List.length_map,List.length_range] at hl
  rcases hl with rfl | rfl
  ·walk_at "dd"
   exact q'
  ·walk_at "dd"
   exact q'
end
open Tr
theorem encF_q(fs:List (Str × List Int)):fs.map encF=(fs.map fun f=>(f.1,encT f.2)).map qb2o:=by rw [List.map_map];rfl
theorem fAdd_L{a b:List PyData}(h:a.length + b.length <= 1000):fAdd (.list a) (.list b)=some (.list (a ++ b)):=by
 show(if a.length + b.length <= sizeLine then some (PyData.list (a ++ b)) else none)=_
 rw [if_pos (by rw [sizeLine_eq];omega)]
noncomputable def dF(W:Wd):PyData:=.dict (((W.facts.map fun f=>(f.1,encT f.2)).map kQ).map kD)
theorem dF_of{W:Wd}(G:Ws W):qb6t [.tuple (W.facts.map encF)]=some (dF W):=by
 have:=G.fl
 rw [encF_q,qd3u (by rw [List.map_map];exact G.fn) (by rw [List.length_map];omega)];rfl
theorem gF_of(W:Wd)(z:Str):fGetD (dF W) [.str z,.tuple []]=some (encT (lookF W.facts z)):=by
 unfold dF lookF
 rw [fGetD_q rfl,List.find?_map]
 show some (((Option.map _ (W.facts.find? fun s=>decide (s.1=z))).map _).getD _)=_
 cases W.facts.find? (fun s=>decide (s.1=z))<;>rfl
theorem wish_of{n:Nat}{ν:List (Str × Vec)}{z:Str}(h:z ∈ ν.map (·.1)):fGetA (encEn n ν) (.str z)=some (vecD n (envOf ν z)):=by
 show getA (((ν.map (vq n)).map kQ).map kD) (Sum.inr z)=_
 rw [qb7v,List.find?_map]
 unfold envOf
 show(Option.map _ (ν.find? fun s=>decide (s.1=z))).map _=_
 cases hf:ν.find? (fun s=>decide (s.1=z)) with
 | none =>
  obtain⟨q,hq,e⟩:=List.mem_map.mp h
  exact absurd (decide_eq_true e) (List.find?_eq_none.mp hf q hq)
 | some s=>rfl
theorem qb9f(F:List (Str × Bool)):(Tr.flip F).map (·.1)=F.map (·.1):=by unfold Tr.flip;rw [List.map_map];rfl
noncomputable def isF:=pick true false false false false false false
theorem qc2p(k:Fm Str):decide (wd k=Str.ofString "fact")=isF k:=by
 rcases k with _ | _ | _ | ⟨c,_,_⟩ | ⟨c,_,_⟩ | ⟨c,_,_⟩ | _<;>first | rfl | (cases c<;>rfl)
theorem qb7b{a b:Bool}{A R:Prop}(h1:(a=true ∨ b=true)->A)(h2:a=false->b=false->R):if a=true then A else if b=true then A else R:=by
 cases a with
 | true=>exact h1 (.inl rfl)
 | false =>
  cases b with
  | true=>exact h1 (.inr rfl)
  | false=>exact h2 rfl rfl
noncomputable def lk:Fm Str->Option (Fm Str)
 | .fact _=>none
 | .wish _=>none
 | .neg b=>some b
 | .two _ _ b=>some b
 | .mod _ _ b=>some b
 | .bind _ _ _=>none
 | .sho _ _ _=>none
noncomputable def isM:=pick false false false false true false false
theorem bWord(k:Fm Str):(decide (wd k=Str.ofString "least") || decide (wd k=Str.ofString "most"))=isB k:=by
 rcases k with _ | _ | _ | ⟨c,_,_⟩ | ⟨c,_,_⟩ | ⟨c,_,_⟩ | _<;>first | rfl | (cases c<;>rfl)
theorem mWord(k:Fm Str):(decide (wd k=Str.ofString "some") || decide (wd k=Str.ofString "every"))=isM k:=by
 rcases k with _ | _ | _ | ⟨c,_,_⟩ | ⟨c,_,_⟩ | ⟨c,_,_⟩ | _<;>first | rfl | (cases c<;>rfl)
theorem isB_or{k:Fm Str} (h:decide (wd k=Str.ofString "least")=true ∨ decide (wd k=Str.ofString "most")=true):isB k=true:=by rw [← bWord k,Bool.or_eq_true];exact h
theorem isM_or{k:Fm Str} (h:decide (wd k=Str.ofString "some")=true ∨ decide (wd k=Str.ofString "every")=true):isM k=true:=by rw [← mWord k,Bool.or_eq_true];exact h
theorem isB_no{mm:Bool}{x:Str}{b:Fm Str} (h1:decide (wd (.bind mm x b)=Str.ofString "least")=false) (h2:decide (wd (.bind mm x b)=Str.ofString "most")=false):False:=by
 have:=bWord (.bind mm x b)
 rw [h1,h2] at this
 cases this
theorem isM_no{c:Bool}{st:Stp Str}{b:Fm Str} (h1:decide (wd (.mod c st b)=Str.ofString "some")=false) (h2:decide (wd (.mod c st b)=Str.ofString "every")=false):False:=by
 have:=mWord (.mod c st b)
 rw [h1,h2] at this
 cases this
theorem tA{b d m:Nat}(h:b + d + 1 <= m + 1):b <= m:=by omega
theorem tC{b d m:Nat}(h:b + d + 1 <= m + 1):d <= m:=by omega
theorem tB{r b d n:Nat}(h:r + (b + d + 1) <= n):r + b <= n:=by omega
theorem tD{r b d n:Nat}(h:r + (b + d + 1) <= n):r + d <= n:=by omega
theorem tZ{r b d:Nat}(h:r + (b + d + 1) <= 100):r + 1 <= 1000:=by omega
theorem tY{r b n:Nat}(h:r + b <= n):0 + b <= n:=by omega
theorem tX{r b d n:Nat}(h:r + (b + d + 1) <= n)(hb:1 <= b):r + 1 + d <= n:=by omega
theorem tS{n:Nat}(h:n <= 12):sm62 (n:Int):=⟨by omega,by omega⟩
theorem tR{n:Nat}(h:n <= 12):(rngD 0 (n:Int).toNat).length <= 1000000:=by rw [qa4f];omega
section
variable{P:Program}{w:World}{K:W.Frag}{mg:Str->Option Value}{base:Heap}{n:Nat}
theorem qd0n{f f1 f2:Addr}{fd fd1 fd2:FuncData} (F:Fun K "_law_truths" "_law_truths" qa4h f fd) (B:Bl mg) {m:Nat}
  (qb0m:Def K mg "_law_wished" qa6n ["_law_world_here","_law_room","_law_sentence_here","_law_wishes"] f1 fd1) (qc2q:FnOk P w K mg base CX0 n f1 fd1 ["_law_world_here","_law_room","_law_sentence_here","_law_wishes"] (spD K (spWi m)))
  (qa8m:Def K mg "_law_stepped" qa5v ["_law_world_here","_law_room","_law_sentence_here","_law_truths_here"] f2 fd2) (qb9m:FnOk P w K mg base CX0 n f2 fd2 ["_law_world_here","_law_room","_law_sentence_here","_law_truths_here"] (spD K qb4e))
  (qa1t:Def K mg "_law_truths" qa4h ["_law_world_here","_law_room","_law_sentence_here","_law_wishes"] f fd) (qa2v:FnOk P w K mg base CX0 n f fd ["_law_world_here","_law_room","_law_sentence_here","_law_wishes"] (spD K (spTr m))) :
  FnOk P w K mg base CX0 (n + 1) f fd ["_law_world_here","_law_room","_law_sentence_here","_law_wishes"] (spD K (spTr (m + 1))):=by
 refine F.dok qa3t (fun cdv A outer s H E hr ls Qd h=>?_) (fun ls Qd h=>by obtain⟨_,_,_,_,_,e,_⟩:=h;rw [e];rfl)
 obtain⟨W,r,a,Fr,ν,rfl,hC,q⟩:=h
 refine⟨rfl,?_⟩
 have n1:=hC.ws.n1
 have hsz:=hC.sz
 have hrl:=hC.rl
 have hvl:=hC.vl
 refine⟨_,(qa0e (qa0y (i:=4) qa3t.nd rfl (Or.inl rfl) (qa0p qa0j qa0q (dv 2) qa0c (fun _ _=>rfl)))
  (qa0e (qa0x (qa0n (qa0w hr.units) qa0v (dv 4) qa0h (qa0m _))
  (qa0g (qa0i (de_getA hr.units (dv 3) (qa0p qa0j qa0q (dv 2) qa0c (fun _ _=>rfl)) (fun _ _=>rfl))))
  qa0r)
  (qa0e (qa0x (qa0n (qa0w hr.units) qa0v (dv 4) qa0h (qa0m _))
  (qa0e (qa0y (i:=5) qa3t.nd rfl (Or.inr rfl) (de_getD (qa3h (qc7l rfl) qd3j rfl B.dict_ qc5c (qa0a (qa0p qa0j qa0q (dv 0) qa0c (fun _ _=>rfl)) qa0b)) (qa0a (qa0p qa0j qa0q (dv 2) qa0c (fun _ _=>rfl)) (qa0a (qa0u qa0b) qa0b))))
  (qa0g (qa0i (qa1c (qa1q ["_law_p"] [("_law_points",5)] rfl (by rfl) (by decide +kernel) (qa3d rfl B.range_ (qa1f qa1b qa2b rfl B.len_ qa1u (qa0a (qa0p qa0j qa0q (dv 0) qa0c (fun _ _=>rfl)) qa0b))) (fun _ _ _=>(qa0s (i:=0) (show(["_law_p","_law_points"]:List Str).Nodup by decide +kernel) rfl (Or.inl rfl))) (fun _ _ _=>qa1z) (fun _ _ _=>(qa3c qa2d qa3e (dv 0) (dv 1) (by rfl))))))))
  qa0r)
  (qa0e (qa0x (DW.toT (qa7m (qa0n (qa0w hr.units) qa0v (dv 4) qa0h (qa0m _)) (qa5n (qa0n (qa0w hr.units) qa0v (dv 4) qa0h (qa0m _)))))
  (qa0g (qa0i (qa0f [false,false,false,false] qb0m qc2q hr rfl (qa0a (dv 0) (qa0a (dv 1) (qa0a (dv 2) (qa0a (dv 3) qa0b)))))))
  qa0r)
  (qa0e (qa0x (qa0n (qa0w hr.units) qa0v (dv 4) qa0h (qa0m _))
  (qa0e (qa0y (i:=6) qa3t.nd rfl (Or.inl rfl) (qa0f [false,false,false,false] qa1t qa2v hr rfl (qa0a (dv 0) (qa0a (dv 1) (qa0a (qa0p qa0j qa0q (dv 2) qa0c (fun _ _=>rfl)) (qa0a qb4q qa0b))))))
  (qa0g (qa0i (qa0f [false,false,false,false] qa1t qa2v hr rfl (qa0a (dv 0) (qa0a (qa1l qa1i qa2c (dv 1) (qa1c (qa1o (qa0a (qa0u (qa0a (qa0p qa0j qa0q (dv 2) qa0c (fun _ _=>rfl)) (qa0a (dv 6) qa0b))) qa0b)))) (qa0a (qa0p qa0j qa0q (dv 2) qa0c (fun _ _=>rfl)) (qa0a qb4q qa0b))))))))
  qa0r)
  (qa0e (qa0y (i:=7) qa3t.nd rfl (Or.inr rfl) (qa0f [false,false,false,false] qa1t qa2v hr rfl (qa0a (dv 0) (qa0a (dv 1) (qa0a (qa0p qa0j qa0q (dv 2) (qa1l qa4d qa4e (qa1f qa1b qa2b rfl B.len_ qa1u (qa0a (dv 2) qa0b)) qa0c) (fun _ _=>rfl)) (qa0a (dv 3) qa0b))))))
  (qa0e (qa0x (qa0n (qa0w hr.units) qa0v (dv 4) qa0h (qa0m _))
  (qa0g (qa0i (qa1c (qa1q ["_law_truth"] [] rfl (by rfl) (by decide +kernel) (qa1w (dv 7)) (fun _ _ _=>(qa0s (i:=0) (show(["_law_truth"]:List Str).Nodup by decide +kernel) rfl (Or.inl rfl))) (fun _ _ _=>qa1z) (fun _ _ _=>(de_not (dv 0)))))))
  qa0r)
  (qa0e (qa0x (DW.toT (qa7m (qa0n (qa0w hr.units) qa0v (dv 4) qa0h (qa0m _)) (qa5n (qa0n (qa0w hr.units) qa0v (dv 4) qa0h (qa0m _)))))
  (qa0g (qa0i (qa0f [false,false,false,false] qa8m qb9m hr rfl (qa0a (dv 0) (qa0a (dv 1) (qa0a (dv 2) (qa0a (dv 7) qa0b)))))))
  qa0r)
  (qa0e (qa0y (i:=8) qa3t.nd rfl (Or.inr rfl) (qa0f [false,false,false,false] qa1t qa2v hr rfl (qa0a (dv 0) (qa0a (dv 1) (qa0a (qa0p qa0j qa0q (dv 2) qa0c (fun _ _=>rfl)) (qa0a (dv 3) qa0b))))))
  (qa0e (qa0x (qa0n (qa0w hr.units) qa0v (dv 4) qa0h (qa0m _))
  (qa0g (qa0i (qa1c (qa1q ["_law_p"] [("_law_one",7),("_law_other",8)] rfl (by rfl) (by decide +kernel) (qa3d rfl B.range_ (qa1f qa1b qa2b rfl B.len_ qa1u (qa0a (dv 7) qa0b))) (fun _ _ _=>(qa0s (i:=0) (show(["_law_p","_law_one","_law_other"]:List Str).Nodup by decide +kernel) rfl (Or.inl rfl))) (fun _ _ _=>qa1z) (fun _ _ _=>(qa8f (qa0p qa0j qa0q (dv 1) (dv 0) (fun _ _=>rfl)) (qa8e (qa0p qa0j qa0q (dv 2) (dv 0) (fun _ _=>rfl)))))))))
  qa0r)
  (qa0g (qa0i (qa1c (qa1q ["_law_p"] [("_law_one",7),("_law_other",8)] rfl (by rfl) (by decide +kernel) (qa3d rfl B.range_ (qa1f qa1b qa2b rfl B.len_ qa1u (qa0a (dv 7) qa0b))) (fun _ _ _=>(qa0s (i:=0) (show(["_law_p","_law_one","_law_other"]:List Str).Nodup by decide +kernel) rfl (Or.inl rfl))) (fun _ _ _=>qa1z) (fun _ _ _=>(de_or (qa0p qa0j qa0q (dv 1) (dv 0) (fun _ _=>rfl)) (qa8e (qa0p qa0j qa0q (dv 2) (dv 0) (fun _ _=>rfl))))))))))))))))))),?_⟩
 have hpo:=hC.po
 have hks:=hC.ks
 rw [qa1x a]
 walk_at "dd"
 rw [qb2v a]
 cases hW:isW a with
 | true =>
  obtain⟨z,rfl⟩:∃ z,a=.wish z:=by
   cases a with
   | wish z=>exact⟨z,rfl⟩
   | _=>cases hW
  rw [show ag (.wish z)=.str z from rfl]
  walk_at "dd"
  rw [wish_of (by rw [hks];exact List.mem_map.mpr ⟨_,hpo,rfl⟩),qa1a]
  exact q
 | false =>
 walk_at "dd"
 rw [qc2p a]
 cases hF:isF a with
 | true =>
  obtain⟨z,rfl⟩:∃ z,a=.fact z:=by
   cases a with
   | fact z=>exact⟨z,rfl⟩
   | _=>cases hF
  rw [show ag (.fact z)=.str z from rfl]
  walk_at "dd"
  rw [dF_of hC.ws,qa1a]
  walk_at "dd"
  refine⟨⟨_,rfl⟩,?_⟩
  rw [gF_of,qa1a]
  walk_at "dd"
  rw [List.length_map]
  refine⟨tS n1,tR n1,?_⟩
  rw [Int.toNat_natCast,qb1w]
  refine qa3n (fun p:Nat=>PyData.int (p:Int)) (fun p:Nat=>PyData.bool (decide ((p:Int) ∈ lookF W.facts z))) (fun ρ=>∃ v0:Option L,ρ=[v0,some (.d (encT (lookF W.facts z)))]) ⟨none,rfl⟩ ?_ ?_
  ·rintro p ρ N Nn hx ⟨v0,rfl⟩ hN
   walk_at "dd"
   rw [fIn_ni,qa1a]
   walk_at "dd"
   exact hN _ ⟨_,rfl⟩
  rintro ρ ⟨v0,rfl⟩
  walk_at "dd"
  exact q
 | false =>
 walk_at "dd"
 refine qb7b (fun h=>?_) (fun hl1 hl2=>?_)
 ·have hB:=isB_or h
  obtain⟨mm,x,b,rfl⟩:∃ mm x b,a=.bind mm x b:=by
   cases a with
   | bind mm x b=>exact⟨mm,x,b,rfl⟩
   | _=>cases hB
  walk_at "dd"
  exact⟨W,r,mm,x,b,Fr,ν,by rw [qa1x (.bind mm x b)],hC,q⟩
 walk_at "dd"
 rw [qa7g a]
 cases hS:isS a with
 | true =>
  obtain⟨hs,b,d,rfl⟩:∃ hs b d,a=.sho hs b d:=by
   cases a with
   | sho hs b d=>exact⟨hs,b,d,rfl⟩
   | _=>cases hS
  have hsz:szF b + szF d + 1 <= m + 1:=hsz
  have hrl:r.length + (szF b + szF d + 1) <= 100:=hrl
  have h100:=tZ hrl
  rw [show ag (.sho hs b d)=encH hs from rfl,show mr (.sho hs b d)=[enc b,enc d] from rfl]
  walk_at "dd"
  refine⟨W,r,b,[],[],rfl,⟨hC.ws,tA hsz,tB hrl,rfl,by simp,tY (tB hrl),hpo.1,hC.sm.2.1⟩,?_⟩
  walk_at "dd"
  rw [fAdd_L (by rw [List.length_map,List.length_singleton];omega),qa1a]
  refine⟨W,r ++ [(hs,ev (mdl W) b r (envOf []))],d,[],[],by
   show _=[L.d W.enc,L.d (PyData.list ((r ++ [(hs,ev (mdl W) b r (envOf []))]).map (encRe W.moves.length))),_,_]
   rw [List.map_append];rfl,⟨hC.ws,tC hsz,by rw [List.length_append,List.length_singleton];exact tX hrl (qa4x b),rfl,by simp,tY (tD hrl),hpo.2,hC.sm.2.2⟩,?_⟩
  exact q
 | false =>
 obtain⟨b,eb,F',hcb⟩:∃ b,(.str (wd a) :: ag a :: mr a:List PyData)[(mr a).length + 1]? = some (enc b)/\∃ F',Cx61 W r b F' ν m/\lk a=some b:=by
  cases a with
  | fact z=>cases hF
  | wish z=>cases hW
  | bind mm x b=>rcases isB_no hl1 hl2
  | sho hs b d=>cases hS
  | neg b=>exact⟨b,rfl,Tr.flip Fr,⟨hC.ws,Nat.le_of_succ_le_succ hsz,Nat.le_of_succ_le hrl,by rw [qb9f];exact hks,by rw [qb9f];exact hC.nd,Nat.le_of_succ_le hvl,hpo,hC.sm⟩,rfl⟩
  | two c d b=>exact⟨b,rfl,Fr,⟨hC.ws,tC hsz,tD hrl,hks,hC.nd,tD hvl,hpo.2,hC.sm.2⟩,rfl⟩
  | mod c st b=>exact⟨b,rfl,Fr,⟨hC.ws,Nat.le_of_succ_le_succ hsz,Nat.le_of_succ_le hrl,hks,hC.nd,Nat.le_of_succ_le hvl,hpo.2,hC.sm.2⟩,rfl⟩
 walk_at "dd"
 rw [zE]
 refine qa4a eb ?_
 refine⟨W,r,b,F',ν,rfl,hcb.1,?_⟩
 walk_at "dd"
 rw [qb6a a]
 cases hN:isN a with
 | true =>
  obtain⟨b',rfl⟩:∃ b',a=.neg b':=by
   cases a with
   | neg b=>exact⟨b,rfl⟩
   | _=>cases hN
  cases hcb.2
  walk_at "dd"
  refine⟨by rw [List.length_map,List.length_range];exact Nat.le_trans n1 (by decide),?_⟩
  refine qa3n (fun p:Nat=>PyData.bool (ev (mdl W) b r (envOf ν) p)) (fun p=>PyData.bool (!ev (mdl W) b r (envOf ν) p)) (fun ρ=>∃ v0:Option L,ρ=[v0]) ⟨none,rfl⟩ ?_ ?_
  ·rintro p ρ N Nn hx ⟨v0,rfl⟩ hN
   walk_at "dd"
   exact hN _ ⟨_,rfl⟩
  rintro ρ ⟨v0,rfl⟩
  walk_at "dd"
  exact q
 | false =>
 walk_at "dd"
 refine qb7b (fun h=>?_) (fun hm1 hm2=>?_)
 ·have hM:=isM_or h
  obtain⟨c,st,b',rfl⟩:∃ c st b',a=.mod c st b':=by
   cases a with
   | mod c st b=>exact⟨c,st,b,rfl⟩
   | _=>cases hM
  cases hcb.2
  walk_at "dd"
  exact⟨W,r,c,st,enc b,_,by rw [show(PyData.tuple (.str (wd (.mod c st b)) :: ag (.mod c st b) :: mr (.mod c st b)))=.tuple [.str (if c then "every" else "some"),qa5j st,enc b] from rfl],hC.ws,Nat.le_trans (Nat.le_add_right _ _) hrl,hC.sm.1,q⟩
 obtain⟨c,d,b',rfl⟩:∃ c d b',a=.two c d b':=by
  cases a with
  | fact z=>cases hF
  | wish z=>cases hW
  | bind mm x b=>rcases isB_no hl1 hl2
  | sho hs b d=>cases hS
  | neg b=>cases hN
  | mod c st b=>rcases isM_no hm1 hm2
  | two c d b=>exact⟨c,d,b,rfl⟩
 cases hcb.2
 rw [show ag (.two c d b)=enc d from rfl]
 walk_at "dd"
 refine⟨W,r,d,Fr,ν,rfl,⟨hC.ws,tA hsz,tB hrl,hks,hC.nd,tB hvl,hpo.1,hC.sm.1⟩,?_⟩
 walk_at "dd"
 rw [show decide (wd (.two c d b)=Str.ofString "and")=c by cases c<;>rfl]
 generalize hX:ev (mdl W) b r (envOf ν)=X
 generalize hY:ev (mdl W) d r (envOf ν)=Y
 have hq:ev (mdl W) (.two c d b) r (envOf ν)=fun p=>if c=true then Y p && X p else Y p || X p:=by rw [← hX,← hY];rfl
 rw [hq] at q
 cases c with
 | true =>
  walk_at "dd"
  rw [List.length_map,List.length_range]
  refine⟨tS n1,tR n1,?_⟩
  rw [Int.toNat_natCast,qb1w]
  refine qa3n (fun p:Nat=>PyData.int (p:Int)) (fun p=>PyData.bool (Y p && X p)) (fun ρ=>∃ v0:Option L,ρ=[v0,some (.d (vecD W.moves.length X)),some (.d (vecD W.moves.length Y))]) ⟨none,rfl⟩ ?_ ?_
  ·rintro p ρ N Nn hx ⟨v0,rfl⟩ hN
   have hp:=List.mem_range.mp hx
   walk_at "dd"
   refine qa4a (qb0j hp) ?_
   walk_at "dd"
   refine qa4o (fun h1=>?_) (fun h1=>?_)
   ·rw [h1,Bool.and_true] at hN
    walk_at "dd"
    refine qa4a (qb0j hp) ?_
    walk_at "dd"
    exact hN _ ⟨_,rfl⟩
   ·rw [h1,Bool.and_false] at hN
    try rw [h1]
    exact hN _ ⟨_,rfl⟩
  rintro ρ ⟨v0,rfl⟩
  walk_at "dd"
  exact q
 | false =>
  walk_at "dd"
  rw [List.length_map,List.length_range]
  refine⟨tS n1,tR n1,?_⟩
  rw [Int.toNat_natCast,qb1w]
  refine qa3n (fun p:Nat=>PyData.int (p:Int)) (fun p=>PyData.bool (Y p || X p)) (fun ρ=>∃ v0:Option L,ρ=[v0,some (.d (vecD W.moves.length X)),some (.d (vecD W.moves.length Y))]) ⟨none,rfl⟩ ?_ ?_
  ·rintro p ρ N Nn hx ⟨v0,rfl⟩ hN
   have hp:=List.mem_range.mp hx
   walk_at "dd"
   refine qa4a (qb0j hp) ?_
   walk_at "dd"
   refine qa4o (fun h1=>?_) (fun h1=>?_)
   ·rw [h1,Bool.or_true] at hN
    try rw [h1]
    exact hN _ ⟨_,rfl⟩
   ·rw [h1,Bool.or_false] at hN
    walk_at "dd"
    refine qa4a (qb0j hp) ?_
    walk_at "dd"
    exact hN _ ⟨_,rfl⟩
  rintro ρ ⟨v0,rfl⟩
  walk_at "dd"
  exact q
end
open Tr
noncomputable def sub(w:Fm Str)(x:Str):Fm Str->Fm Str
 | .fact z=>.fact z
 | .wish z=>if z=x then w else .wish z
 | .neg a=>.neg (sub w x a)
 | .two c a b=>.two c (sub w x a) (sub w x b)
 | .mod c st a=>.mod c st (sub w x a)
 | .bind m y a=>.bind m y (sub w x a)
 | .sho hs a b=>.sho hs (sub w x a) (sub w x b)
noncomputable def mid:Fm Str->List PyData
 | .fact z=>[.str z]
 | .wish z=>[.str z]
 | .neg _=>[]
 | .two _ _ _=>[]
 | .mod _ st _=>[qa5j st]
 | .bind _ x _=>[.str x]
 | .sho hs _ _=>[encH hs]
theorem qc5z(k:Fm Str):cutD (.str (wd k) :: ag k :: mr k) none (some ((((mr k).length + 1 + 1:Nat):Int) - ((kids k).length:Int)))=.str (wd k) :: mid k:=by
 cases k<;>rfl
theorem enc_sub(w:Fm Str)(x:Str)(k:Fm Str)(h1:∀ z,k=.wish z->¬ z=x):PyData.tuple ((.str (wd k) :: mid k) ++ (kids k).map fun p=>enc (sub w x p))=enc (sub w x k):=by
 cases k with
 | wish z=>show enc (.wish z)=enc (if z=x then w else .wish z);rw [if_neg (h1 z rfl)]
 | _=>rfl
theorem kid_sz{k p:Fm Str}(h:p ∈ kids k):szF p < szF k:=by
 have:∀ l:List (Fm Str),p ∈ l->szF p <= szE (l.map fun p=>(p,[])):=fun l=>by
  induction l with
  | nil=>intro h;cases h
  | cons x r ih =>
   intro h
   show szF p <= szF x + szE (r.map fun p=>(p,[]))
   rcases List.mem_cons.mp h with rfl | h
   ·omega
   ·have:=ih h;omega
 have a:=this _ h
 have b:=sz_kid k []
 omega
theorem qc6a(k:Fm Str):(mid k).length <= 1:=by cases k<;>simp [mid]
theorem qa6o{w:Fm Str}{x:Str}(hw:nmF w):∀ (a:Fm Str),nmF a->nmF (sub w x a)
 | .fact z,h=>h
 | .wish z,h=>by
  show nmF (if z=x then w else .wish z)
  split
  ·exact hw
  ·exact h
 | .neg a,h=>qa6o hw a h
 | .two c a b,h=>⟨qa6o hw a h.1,qa6o hw b h.2⟩
 | .mod c st a,h=>⟨h.1,qa6o hw a h.2⟩
 | .bind m y a,h=>⟨h.1,qa6o hw a h.2⟩
 | .sho hs a b,h=>⟨h.1,qa6o hw a h.2.1,qa6o hw b h.2.2⟩
noncomputable def told:Fm Str->Option (Fm Str)
 | .fact _=>none
 | .wish _=>none
 | .neg _=>none
 | .two _ _ _=>none
 | .mod _ _ _=>none
 | .bind m x a=>some (sub (.bind m x a) x a)
 | .sho _ _ _=>none
noncomputable def due(a:Fm Str):PyData:=match told a with
 | some t=>if (decide (szF t <= 60) && okW t [])=true then enc t else .none
 | none=>.none
theorem way2{a:Bool}{A R p:Prop}(hp:a=false->p)(hR:p->R)(h:a=true->(p->R)->A):if a=true then A else R:=by
 cases a
 ·exact hR (hp rfl)
 ·exact h rfl hR
def qb7c(m:Nat):DSp:=fun ls Q=>∃ (k:Fm Str) (c:Bool) (x:Str) (a:Fm Str),ls=[.d (enc k),.d (enc (.bind c x a))]/\szF k <= m/\Q (.d (enc (sub (.bind c x a) x k))) [none,none]
def spUnf:DSp:=fun ls Q=>∃ k:Fm Str,ls=[.d (enc k)]/\szF k <= 60/\nmF k/\Q (.d (due k)) [none]
section
variable{P:Program}{w:World}{K:W.Frag}{mg:Str->Option Value}{base:Heap}{n:Nat}
abbrev qa4u:Stmt:=top 26
theorem qb1x:FnScope ["thing","binder","parts"] ["thing","binder"] (qa0k qa4u):=⟨rfl,rfl,rfl,by decide +kernel,rfl,by decide +kernel,by decide +kernel⟩
theorem ok_with{f f1:Addr}{fd fd1:FuncData}{m:Nat} (F:Fun K "with_wishes" "with_wishes" qa4u f fd) (B:Bl mg) (d_parts_of:Def K mg "parts_of" qa6m ["sentence"] f1 fd1) (g_parts_of:FnOk P w K mg base CX0 n f1 fd1 ["sentence"] (spD K qb6z))
  (d_with_wishes:Def K mg "with_wishes" qa4u ["thing","binder"] f fd) (g_with_wishes:FnOk P w K mg base CX0 n f fd ["thing","binder"] (spD K (qb7c m))):FnOk P w K mg base CX0 (n + 1) f fd ["thing","binder"] (spD K (qb7c (m + 1))):=by
 refine F.dok qb1x (fun cdv A outer s H E hr ls Qd h=>?_) (fun ls Qd h=>by obtain⟨_,_,_,_,e,_⟩:=h;rw [e];rfl)
 obtain⟨k,c,x,a,rfl,hm,q⟩:=h
 refine⟨rfl,?_⟩
 refine⟨_,(qa0e (qa0x (DW.toT (qb1p (qa0n (qa0w hr.units) qa0v (qa0p qa0j qa0q (dv 0) qa0c (fun _ _=>rfl)) qa0h (qa0m _)) (qa9r (qa0n (qa0w hr.units) qa0v (qa0p qa0j qa0q (dv 0) qa0c (fun _ _=>rfl)) (qa0p qa0j qa0q (dv 1) qa0c (fun _ _=>rfl)) (qa0m _)))))
  (qa0g (qa0i (dv 1)))
  qa0r)
  (qa0e (qa5x (i:=2) qb1x.nd rfl rfl ["part"] [("binder",1)] rfl (by rfl) (by decide +kernel) (qa1w (qa0f [false] d_parts_of g_parts_of hr rfl (qa0a (dv 0) qa0b))) (fun _ _ _=>(qa0s (i:=0) (show(["part","binder"]:List Str).Nodup by decide +kernel) rfl (Or.inl rfl))) (fun _ _ _=>qa1z) (fun _ _ _=>(qa0f [false,false] d_with_wishes g_with_wishes hr rfl (qa0a (dv 0) (qa0a (dv 1) qa0b)))))
  (qa0g (qa0i (qa1l qa1i qa2c (qa7d (qb1g.or qa7e) qb1u (dv 0) qa9t (qa9u (qa1l qa4d qa4e (qa1f qa1b qa2b rfl B.len_ qa1u (qa0a (dv 0) qa0b)) (qa1f qa1b qa2b rfl B.len_ qa1u (qa0a (dv 2) qa0b))))) (qa3h qa2w qa5d rfl B.tuple_ qa3m (qa0a (dv 2) qa0b))))))),?_⟩
 have eb:enc (.bind c x a)=.tuple [.str (if c then "most" else "least"),.str x,enc a]:=rfl
 have hsl:=sizeLine_eq
 have hkl:=qb0l k
 have hml:=qc6a k
 rw [qa1x k]
 walk_at "dd"
 rw [qb2v k]
 refine way2 (p:=∀ z,k=.wish z->¬ z=x) (fun h z e=>by rw [e] at h;cases h) (fun hp=>?_) (fun hw hR=>?_)
 ·walk_at "dd"
  refine⟨k,by rw [qa1x k],?_⟩
  walk_at "dd"
  refine⟨by rw [List.length_map];omega,?_⟩
  refine qa3n enc (fun p=>enc (sub (.bind c x a) x p)) (fun ρ=>∃ v0:Option L,ρ=[v0,some (.d (enc (.bind c x a)))]) ⟨none,rfl⟩ ?_ ?_
  ·rintro p ρ N Nn hp ⟨v0,rfl⟩ hN
   have:=kid_sz hp
   walk_at "dd"
   refine⟨p,c,x,a,rfl,by omega,?_⟩
   walk_at "dd"
   exact hN _ ⟨_,rfl⟩
  rintro ρ ⟨v0,rfl⟩
  walk_at "dd"
  rw [List.length_map,qc5z,qc1c (by rw [List.length_cons,List.length_map];omega),qa1a,enc_sub _ x k hp]
  exact q
 ·obtain⟨z,rfl⟩:∃ z,k=.wish z:=by
   cases k with
   | wish z=>exact⟨z,rfl⟩
   | _=>cases hw
  rw [show ag (.wish z)=.str z from rfl] at hR ⊢
  rw [eb] at hR ⊢
  walk_at "dd"
  refine qa1m (fun e=>?_) (fun e=>?_)
  ·walk_at "dd"
   have e2:sub (.bind c x a) x (.wish z)=.bind c x a:=if_pos e
   rw [e2] at q
   exact q
  ·exact hR fun z' e'=>by cases e';exact e
abbrev qa9k:Stmt:=top 25
theorem qb5f:FnScope ["sentence","told"] ["sentence"] (qa0k qa9k):=⟨rfl,rfl,rfl,by decide +kernel,rfl,by decide +kernel,by decide +kernel⟩
theorem ok_unf{f f1 f2 f3:Addr}{fd fd1 fd2 fd3:FuncData} (F:Fun K "unfolded" "unfolded" qa9k f fd) (B:Bl mg) (d_is_binder:Def K mg "is_binder" qa4z ["sentence"] f1 fd1) (g_is_binder:FnOk P w K mg base CX0 n f1 fd1 ["sentence"] (spD K spIsB))
  (d_with_wishes:Def K mg "with_wishes" qa4u ["thing","binder"] f2 fd2) (g_with_wishes:FnOk P w K mg base CX0 n f2 fd2 ["thing","binder"] (spD K (qb7c 60))) (d_is_sentence:Def K mg "is_sentence" qa5u ["thing"] f3 fd3) (g_is_sentence:FnOk P w K mg base CX0 n f3 fd3 ["thing"] (spD K qc2o)):FnOk P w K mg base CX0 (n + 1) f fd ["sentence"] (spD K spUnf):=by
 refine F.dok qb5f (fun cdv A outer s H E hr ls Qd h=>?_) (fun ls Qd h=>by obtain⟨_,e,_⟩:=h;rw [e];rfl)
 obtain⟨k,rfl,hm,hn,q⟩:=h
 refine⟨rfl,?_⟩
 refine⟨_,(qa0e (qa0x (qa5e (qa3v (qa0f [false] d_is_binder g_is_binder hr rfl (qa0a (dv 0) qa0b))))
  (qa0g (qa0i qb3q))
  qa0r)
  (qa0e (qa0y (i:=1) qb5f.nd rfl (Or.inl rfl) (qa0f [false,false] d_with_wishes g_with_wishes hr rfl (qa0a (qa0p qa0j qa0q (dv 0) qa0c (fun _ _=>rfl)) (qa0a (dv 0) qa0b))))
  (qa0g (qa0i (de_if (qa3v (qa0f [false] d_is_sentence g_is_sentence hr rfl (qa0a (dv 1) qa0b))) (dv 1) qb3q))))),?_⟩
 walk_at "dd"
 refine⟨k,rfl,?_⟩
 walk_at "dd"
 cases hb:isB k with
 | false =>
  walk_at "dd"
  have e:due k=.none:=by cases k<;>first | rfl | cases hb
  rw [e] at q
  exact q
 | true =>
  obtain⟨c,x,a,rfl⟩:∃ c x a,k=.bind c x a:=by
   cases k with
   | bind c x a=>exact⟨c,x,a,rfl⟩
   | _=>cases hb
  have hd:due (.bind c x a)=if (decide (szF (sub (.bind c x a) x a) <= 60) && okW (sub (.bind c x a) x a) [])=true then enc (sub (.bind c x a) x a) else .none:=rfl
  rw [hd] at q
  simp only [szF] at hm
  rw [show enc (.bind c x a)=.tuple [.str (if c then "most" else "least"),.str x,enc a] from rfl]
  walk_at "dd"
  refine⟨a,c,x,a,rfl,by omega,?_⟩
  walk_at "dd"
  refine⟨sub (.bind c x a) x a,rfl,qa6o hn a hn.2,?_⟩
  walk_at "dd"
  refine qa4o (fun hc=>?_) (fun hc=>?_)
  ·rw [if_pos hc] at q
   walk_at "dd"
   exact q
  ·rw [if_neg (by rw [hc];exact Bool.false_ne_true)] at q
   walk_at "dd"
   exact q
end
open Tr
noncomputable def isL:=pick true true false false false false false
noncomputable def isJ:=pick false false true true false false false
theorem qd4k(k:Fm Str):(decide (Str.ofString "fact" = wd k) || decide (Str.ofString "wish" = wd k))=isL k:=by
 rcases k with _ | _ | _ | ⟨c,_,_⟩ | ⟨c,_,_⟩ | ⟨c,_,_⟩ | _<;>first | rfl | (cases c<;>rfl)
theorem qd4l(k:Fm Str):(decide (Str.ofString "not" = wd k) || (decide (Str.ofString "and" = wd k) || decide (Str.ofString "or" = wd k)))=isJ k:=by
 rcases k with _ | _ | _ | ⟨c,_,_⟩ | ⟨c,_,_⟩ | ⟨c,_,_⟩ | _<;>first | rfl | (cases c<;>rfl)
theorem kids_L{k:Fm Str}(h:isL k=true):kids k=[]:=by
 cases k<;>first | rfl | cases h
theorem kids_J{k:Fm Str}(h:isJ k=true):cutD (.str (wd k) :: ag k :: mr k) (some 1) none=(kids k).map enc:=by
 cases k<;>first | rfl | cases h
theorem kids_M{k:Fm Str}(h:isL k=false)(h2:isJ k=false):cutD (.str (wd k) :: ag k :: mr k) (some 2) none=(kids k).map enc:=by
 cases k<;>first | rfl | (cases h;done) | (cases h2;done)
theorem ints_of:∀ l:List Int,qa4c (l.map PyData.int)=some l
 | []=>rfl
 | i :: r=>by rw [List.map_cons,qa4c,ints_of r];rfl
theorem qd4m(k:Fm Str):(1:Int) + ((kids k).map fun p=>(szF p:Int)).sum=(szF k:Int):=by
 cases k<;>simp [kids,szF]<;>omega
noncomputable def dpF:Fm Str->Nat
 | .fact _=>1
 | .wish _=>1
 | .neg a=>dpF a + 1
 | .two _ a b=>max (dpF a) (dpF b) + 1
 | .mod _ _ a=>dpF a + 1
 | .bind _ _ a=>dpF a + 1
 | .sho _ a b=>max (dpF a) (dpF b) + 1
theorem qc6b(a:Fm Str):1 <= dpF a:=by cases a<;>simp [dpF]
theorem qa9l:∀ a:Fm Str,dpF a <= szF a
 | .fact _=>Nat.le_refl _
 | .wish _=>Nat.le_refl _
 | .neg a=>by have:=qa9l a;simp only [dpF,szF];omega
 | .two _ a b=>by have:=qa9l a;have:=qa9l b;simp only [dpF,szF];omega
 | .mod _ _ a=>by have:=qa9l a;simp only [dpF,szF];omega
 | .bind _ _ a=>by have:=qa9l a;simp only [dpF,szF];omega
 | .sho _ a b=>by have:=qa9l a;have:=qa9l b;simp only [dpF,szF];omega
theorem kid_dp{k p:Fm Str}(h:p ∈ kids k):dpF p < dpF k:=by
 cases k with
 | fact z=>cases h
 | wish z=>cases h
 | neg a=>rw [List.mem_singleton.mp h];simp only [dpF];omega
 | two c a b=>rcases List.mem_cons.mp h with rfl | h;(simp only [dpF];omega);(rw [List.mem_singleton.mp h];simp only [dpF];omega)
 | mod c st a=>rw [List.mem_singleton.mp h];simp only [dpF];omega
 | bind m x a=>rw [List.mem_singleton.mp h];simp only [dpF];omega
 | sho hs a b=>rcases List.mem_cons.mp h with rfl | h;(simp only [dpF];omega);(rw [List.mem_singleton.mp h];simp only [dpF];omega)
theorem qa8i(w:Fm Str)(x:Str):∀ a:Fm Str,dpF (sub w x a) <= dpF a + dpF w
 | .fact _=>by simp only [sub,dpF];omega
 | .wish z=>by
  show dpF (if z=x then w else .wish z) <= _
  split
  ·omega
  ·simp only [dpF];omega
 | .neg a=>by have:=qa8i w x a;simp only [sub,dpF];omega
 | .two _ a b=>by have:=qa8i w x a;have:=qa8i w x b;simp only [sub,dpF];omega
 | .mod _ _ a=>by have:=qa8i w x a;simp only [sub,dpF];omega
 | .bind _ _ a=>by have:=qa8i w x a;simp only [sub,dpF];omega
 | .sho _ a b=>by have:=qa8i w x a;have:=qa8i w x b;simp only [sub,dpF];omega
noncomputable def put(w:Fm Str)(x:Str):Fm Str->Fm Str
 | .fact z=>.fact z
 | .wish z=>if z=x then w else .wish z
 | .neg a=>.neg (put w x a)
 | .two c a b=>.two c (put w x a) (put w x b)
 | .mod c st a=>.mod c st (put w x a)
 | .bind m y a=>.bind m y (put w x a)
 | .sho hs a b=>.sho hs a b
theorem enc_put(w:Fm Str)(x:Str)(k:Fm Str)(h1:isW k=false)(h2:isS k=false):PyData.tuple ((.str (wd k) :: mid k) ++ (kids k).map fun p=>enc (put w x p))=enc (put w x k):=by
 cases k with
 | wish z=>cases h1
 | sho hs a b=>cases h2
 | _=>rfl
theorem qd4n(w:Fm Str)(x:Str)(k:Fm Str)(h:isF k=true ∨ isS k=true):put w x k=k:=by
 cases k with
 | fact z=>rfl
 | sho hs a b=>rfl
 | _=>rcases h with h | h<;>cases h
noncomputable def fitB:Fm Str->List Str->Nat->Bool
 | .fact _,ns,s=>decide (ns.length <= 4) && decide (s <= 3)
 | .wish _,ns,s=>decide (ns.length <= 4) && decide (s <= 3)
 | .neg a,ns,s=>decide (ns.length <= 4) && decide (s <= 3) && fitB a ns s
 | .two _ a b,ns,s=>decide (ns.length <= 4) && decide (s <= 3) && (fitB a ns s && fitB b ns s)
 | .mod _ _ a,ns,s=>decide (ns.length <= 4) && decide (s <= 3) && fitB a ns s
 | .bind _ x a,ns,s=>!decide (x ∈ ns) && (decide ((ns ++ [x]).length <= 4) && decide (s <= 3) && fitB a (ns ++ [x]) s)
 | .sho _ a b,ns,s=>decide (ns.length <= 4) && decide (s + 1 <= 3) && (fitB a ns (s + 1) && fitB b ns (s + 1))
noncomputable def clash(k:Fm Str)(ns:List Str):Bool:=match bn k with
 | some x=>decide (x ∈ ns)
 | none=>false
theorem fit_eq(k:Fm Str)(ns:List Str)(s:Nat):fitB k ns s=(!clash k ns && (decide ((ns ++ (bn k).toList).length <= 4) && decide (s + (if isS k=true then 1 else 0) <= 3) && ((kids k).map fun p=>fitB p (ns ++ (bn k).toList) (s + (if isS k=true then 1 else 0))).all id)):=by
 cases k<;>simp [fitB,clash,bn,isS,pick,kids]
theorem wayP{α:Type}{a:Bool}{A:Prop}{P:α->Prop}{y:α}{p:α->Prop}(hy:a=false->p y)(hR:∀ z,p z->P z)(h:a=true->(∀ z,p z->P z)->A):if a=true then A else P y:=by
 cases a
 ·exact hR y (hy rfl)
 ·exact h rfl hR
theorem ite_arg{α:Type}{o:Bool}{x y:α}{P:α->Prop}(h:∀ z,z=(if o=true then x else y)->P z):if o=true then P x else P y:=by
 cases o
 ·exact h y rfl
 ·exact h x rfl
abbrev encN(ns:List Str):PyData:=.list (ns.map .str)
def qb0n:DSp:=fun ls Q=>∃ k:Fm Str,ls=[.d (enc k)]/\Q (.d (.tuple ((kids k).map enc))) [none]
def qb4t(m:Nat):DSp:=fun ls Q=>∃ k:Fm Str,ls=[.d (enc k)]/\dpF k <= m/\Q (.d (.int (szF k:Int))) [none]
def spPut(m:Nat):DSp:=fun ls Q=>∃ (k w:Fm Str) (x:Str),ls=[.d (enc k),.d (.str x),.d (enc w)]/\szF k <= m/\Q (.d (enc (put w x k))) [none,none,none]
def spFit(m:Nat):DSp:=fun ls Q=>∃ (k:Fm Str) (ns:List Str) (s:Nat),ls=[.d (enc k),.d (encN ns),.d (.int (s:Int))]/\dpF k <= m/\ns.length <= 10/\Q (.d (.bool (fitB k ns s))) [none,none,none]
section
variable{P:Program}{w:World}{K:W.Frag}{mg:Str->Option Value}{base:Heap}{n:Nat}
abbrev qa4i:Stmt:=top 44
theorem qb3c:FnScope ["_law_sentence_here","_law_word"] ["_law_sentence_here"] (qa0k qa4i):=⟨rfl,rfl,rfl,by decide +kernel,rfl,by decide +kernel,by decide +kernel⟩
theorem qd0o{f:Addr}{fd:FuncData} (F:Fun K "_law_within" "_law_within" qa4i f fd) (B:Bl mg):FnOk P w K mg base CX0 (n + 1) f fd ["_law_sentence_here"] (spD K qb0n):=by
 refine F.dok qb3c (fun cdv A outer s H E hr ls Qd h=>?_) (fun ls Qd h=>by obtain⟨_,e,_⟩:=h;rw [e];rfl)
 obtain⟨k,rfl,q⟩:=h
 refine⟨rfl,?_⟩
 refine⟨_,(qa0e (qa0y (i:=1) qb3c.nd rfl (Or.inl rfl) (qa0p qa0j qa0q (dv 0) qa0c (fun _ _=>rfl)))
  (qa0e (qa0x (qa0n qa2d qa3e (dv 1) (qa0u (qa0a qa0h (qa0a qa0h qa0b))) (by rfl))
  (qa0g (qa0i (qa0u qa0b)))
  qa0r)
  (qa0e (qa0x (qa0n qa2d qa3e (dv 1) (qa0u (qa0a qa0h (qa0a qa0h (qa0a qa0h qa0b)))) (by rfl))
  (qa0g (qa0i (qa7d (qb1g.or qa7e) qb1u (dv 0) (qa9u qa0c) qa9t)))
  qa0r)
  (qa0g (qa0i (qa7d (qb1g.or qa7e) qb1u (dv 0) (qa9u qa0c) qa9t)))))),?_⟩
 rw [qa1x]
 walk_at "dd"
 rw [qd4k k]
 refine qa4o (fun c=>?_) (fun c=>?_)
 ·walk_at "dd"
  rw [kids_L c] at q
  exact q
 ·walk_at "dd"
  rw [qd4l k]
  refine qa4o (fun c2=>?_) (fun c2=>?_)
  ·walk_at "dd"
   rw [kids_J c2]
   exact q
  ·walk_at "dd"
   rw [kids_M c c2]
   exact q
abbrev qa6p:Stmt:=top 45
theorem qc3x:FnScope ["_law_sentence_here"] ["_law_sentence_here"] (qa0k qa6p):=⟨rfl,rfl,rfl,by decide +kernel,rfl,by decide +kernel,by decide +kernel⟩
theorem qd4o{f f1:Addr}{fd fd1:FuncData}{m:Nat} (F:Fun K "_law_many" "_law_many" qa6p f fd) (B:Bl mg) (qa2g:Def K mg "_law_within" qa4i ["_law_sentence_here"] f1 fd1) (qa4j:FnOk P w K mg base CX0 n f1 fd1 ["_law_sentence_here"] (spD K qb0n))
  (qa5l:Def K mg "_law_many" qa6p ["_law_sentence_here"] f fd) (qb2w:FnOk P w K mg base CX0 n f fd ["_law_sentence_here"] (spD K (qb4t m))):FnOk P w K mg base CX0 (n + 1) f fd ["_law_sentence_here"] (spD K (qb4t (m + 1))):=by
 refine F.dok qc3x (fun cdv A outer s H E hr ls Qd h=>?_) (fun ls Qd h=>by obtain⟨_,e,_⟩:=h;rw [e];rfl)
 obtain⟨k,rfl,hm,q⟩:=h
 refine⟨rfl,?_⟩
 refine⟨_,(qa0g (qa0i (qa1l qa1i qa2c qa0c (qa1f (qc9y rfl) ad_sum rfl B.sum_ bt_sum (qa0a (qa1c (qa1q ["_law_part"] [] rfl (by rfl) (by decide +kernel) (qa1w (qa0f [false] qa2g qa4j hr rfl (qa0a (dv 0) qa0b))) (fun _ _ _=>(qa0s (i:=0) (show(["_law_part"]:List Str).Nodup by decide +kernel) rfl (Or.inl rfl))) (fun _ _ _=>qa1z) (fun _ _ _=>(qa0f [false] qa5l qb2w hr rfl (qa0a (dv 0) qa0b))))) qa0b))))),?_⟩
 have hkl:=qb0l k
 walk_at "dd"
 refine⟨k,rfl,?_⟩
 walk_at "dd"
 refine⟨by rw [List.length_map];omega,?_⟩
 refine qa3n enc (fun p=>PyData.int (szF p:Int)) (fun ρ=>∃ v0:Option L,ρ=[v0]) ⟨none,rfl⟩ ?_ ?_
 ·rintro p ρ N Nn hp ⟨v0,rfl⟩ hN
  have:=kid_dp hp
  walk_at "dd"
  refine⟨p,rfl,by omega,?_⟩
  walk_at "dd"
  exact hN _ ⟨_,rfl⟩
 rintro ρ ⟨v0,rfl⟩
 walk_at "dd"
 have e:fSum [.list ((kids k).map fun p=>PyData.int (szF p:Int))]=some (.int ((kids k).map fun p=>(szF p:Int)).sum):=by
  show(qa4c _).map _=_
  rw [show(kids k).map (fun p=>PyData.int (szF p:Int))=((kids k).map fun p=>(szF p:Int)).map .int by rw [List.map_map];rfl,ints_of];rfl
 rw [e,qa1a]
 walk_at "dd"
 rw [qd4m k]
 exact q
abbrev qa5f:Stmt:=top 46
theorem qa8n:FnScope ["_law_sentence_here","_law_name","_law_whole","_law_word","_law_ahead"] ["_law_sentence_here","_law_name","_law_whole"] (qa0k qa5f):=⟨rfl,rfl,rfl,by decide +kernel,rfl,by decide +kernel,by decide +kernel⟩
theorem ok_put{f f1:Addr}{fd fd1:FuncData}{m:Nat} (F:Fun K "_law_put_in" "_law_put_in" qa5f f fd) (B:Bl mg) (qa2g:Def K mg "_law_within" qa4i ["_law_sentence_here"] f1 fd1) (qa4j:FnOk P w K mg base CX0 n f1 fd1 ["_law_sentence_here"] (spD K qb0n))
  (qa4k:Def K mg "_law_put_in" qa5f ["_law_sentence_here","_law_name","_law_whole"] f fd) (qb0o:FnOk P w K mg base CX0 n f fd ["_law_sentence_here","_law_name","_law_whole"] (spD K (spPut m))):FnOk P w K mg base CX0 (n + 1) f fd ["_law_sentence_here","_law_name","_law_whole"] (spD K (spPut (m + 1))):=by
 refine F.dok qa8n (fun cdv A outer s H E hr ls Qd h=>?_) (fun ls Qd h=>by obtain⟨_,_,_,e,_⟩:=h;rw [e];rfl)
 obtain⟨k,v,x,rfl,hm,q⟩:=h
 refine⟨rfl,?_⟩
 refine⟨_,(qa0e (qa0y (i:=3) qa8n.nd rfl (Or.inl rfl) (qa0p qa0j qa0q (dv 0) qa0c (fun _ _=>rfl)))
  (qa0e (qa0x (qa0n (qa0w hr.units) qa0v (dv 3) qa0h (qa0m _))
  (qa0g (qa0i (de_if (qa0n (qa0w hr.units) qa0v (qa0p qa0j qa0q (dv 0) qa0c (fun _ _=>rfl)) (dv 1) (qa0m _)) (dv 2) (dv 0))))
  qa0r)
  (qa0e (qa0x (DW.toT (qa7m (qa0n (qa0w hr.units) qa0v (dv 3) qa0h (qa0m _)) (qa5n (qa0n (qa0w hr.units) qa0v (dv 3) qa0h (qa0m _)))))
  (qa0g (qa0i (dv 0)))
  qa0r)
  (qa0e (qa0y (i:=4) qa8n.nd rfl (Or.inl rfl) (qa7d (qb1g.or qa7e) qb1u (dv 0) qa9t (qa9u (qa1l qa4d qa4e (qa1f qa1b qa2b rfl B.len_ qa1u (qa0a (dv 0) qa0b)) (qa1f qa1b qa2b rfl B.len_ qa1u (qa0a (qa0f [false] qa2g qa4j hr rfl (qa0a (dv 0) qa0b)) qa0b))))))
  (qa0g (qa0i (qa1l qa1i qa2c (dv 4) (qa3h qa2w qa5d rfl B.tuple_ qa3m (qa0a (qa1c (qa1q ["_law_part"] [("_law_name",1),("_law_whole",2)] rfl (by rfl) (by decide +kernel) (qa1w (qa0f [false] qa2g qa4j hr rfl (qa0a (dv 0) qa0b))) (fun _ _ _=>(qa0s (i:=0) (show(["_law_part","_law_name","_law_whole"]:List Str).Nodup by decide +kernel) rfl (Or.inl rfl))) (fun _ _ _=>qa1z) (fun _ _ _=>(qa0f [false,false,false] qa4k qb0o hr rfl (qa0a (dv 0) (qa0a (dv 1) (qa0a (dv 2) qa0b))))))) qa0b))))))))),?_⟩
 have hsl:=sizeLine_eq
 have hkl:=qb0l k
 have hml:=qc6a k
 rw [qa1x k]
 walk_at "dd"
 rw [qb2v k]
 cases hw:isW k with
 | true =>
  obtain⟨z,rfl⟩:∃ z,k=.wish z:=by
   cases k with
   | wish z=>exact⟨z,rfl⟩
   | _=>cases hw
  rw [show ag (.wish z)=.str z from rfl]
  have e0:enc (put v x (.wish z))=if z=x then enc v else enc (.wish z):=by
   show enc (if z=x then v else .wish z)=_
   split<;>rfl
  rw [e0] at q
  walk_at "dd"
  refine qa1m (fun e=>?_) (fun e=>?_)
  ·rw [if_pos e] at q
   walk_at "dd"
   exact q
  ·rw [if_neg e] at q
   walk_at "dd"
   exact q
 | false =>
  walk_at "dd"
  rw [qc2p k]
  walk_at "dd"
  rw [qa7g k]
  refine qb7b (fun h=>?_) (fun h1 h2=>?_)
  ·walk_at "dd"
   rw [qd4n v x k h,qa1x k] at q
   exact q
  ·walk_at "dd"
   refine⟨k,by rw [qa1x k],?_⟩
   walk_at "dd"
   refine⟨k,by rw [qa1x k],?_⟩
   walk_at "dd"
   refine⟨by rw [List.length_map];omega,?_⟩
   refine qa3n enc (fun p=>enc (put v x p)) (fun ρ=>∃ v0:Option L,ρ=[v0,some (.d (.str x)),some (.d (enc v))]) ⟨none,rfl⟩ ?_ ?_
   ·rintro p ρ N Nn hp ⟨v0,rfl⟩ hN
    have:=kid_sz hp
    walk_at "dd"
    refine⟨p,v,x,rfl,by omega,?_⟩
    walk_at "dd"
    exact hN _ ⟨_,rfl⟩
   rintro ρ ⟨v0,rfl⟩
   walk_at "dd"
   rw [List.length_map,qc5z,qc1c (by rw [List.length_cons,List.length_map];omega),qa1a,enc_put v x k hw h2]
   exact q
abbrev qa6q:Stmt:=top 47
theorem qa7x:FnScope ["_law_sentence_here","_law_names","_law_shows","_law_word"] ["_law_sentence_here","_law_names","_law_shows"] (qa0k qa6q):=⟨rfl,rfl,rfl,by decide +kernel,rfl,by decide +kernel,by decide +kernel⟩
theorem ok_fits{f f1:Addr}{fd fd1:FuncData}{m:Nat} (F:Fun K "_law_fits" "_law_fits" qa6q f fd) (B:Bl mg) (qa2g:Def K mg "_law_within" qa4i ["_law_sentence_here"] f1 fd1) (qa4j:FnOk P w K mg base CX0 n f1 fd1 ["_law_sentence_here"] (spD K qb0n))
  (qa5m:Def K mg "_law_fits" qa6q ["_law_sentence_here","_law_names","_law_shows"] f fd) (qb2x:FnOk P w K mg base CX0 n f fd ["_law_sentence_here","_law_names","_law_shows"] (spD K (spFit m))):FnOk P w K mg base CX0 (n + 1) f fd ["_law_sentence_here","_law_names","_law_shows"] (spD K (spFit (m + 1))):=by
 refine F.dok qa7x (fun cdv A outer s H E hr ls Qd h=>?_) (fun ls Qd h=>by obtain⟨_,_,_,e,_⟩:=h;rw [e];rfl)
 obtain⟨k,ns,s,rfl,hm,hl,q⟩:=h
 refine⟨rfl,?_⟩
 refine⟨_,(qa0e (qa0y (i:=3) qa7x.nd rfl (Or.inl rfl) (qa0p qa0j qa0q (dv 0) qa0c (fun _ _=>rfl)))
  (qa0e (qa0x (qa0n (qa0w hr.units) qa0v (dv 3) qa0h (qa0m _))
  (qa0g (qa0y (i:=2) qa7x.nd rfl (Or.inr rfl) (qa1l qa1i qa2c (dv 2) qa0c)))
  qa0r)
  (qa0e (qa0x (qa0n qa2d qa3e (dv 3) (qa0u (qa0a qa0h (qa0a qa0h qa0b))) (by rfl))
  (qa0e (qa0x (qa0n qa2d qa3e (qa0p qa0j qa0q (dv 0) qa0c (fun _ _=>rfl)) (dv 1) (by rfl))
  (qa0g (qa0i qa2o))
  qa0r)
  (qa0g (qa0y (i:=1) qa7x.nd rfl (Or.inr rfl) (qa1l qa1i qa2c (dv 1) (qa1c (qa1o (qa0a (qa0p qa0j qa0q (dv 0) qa0c (fun _ _=>rfl)) qa0b)))))))
  qa0r)
  (qa0e (qa0x (DW.toT (qa7m (qa0n qa8t (qa2m _) (qa1f qa1b qa2b rfl B.len_ qa1u (qa0a (dv 1) qa0b)) qa0c (qa0m _)) (qa5n (qa0n qa8t (qa2m _) (dv 2) qa0c (qa0m _)))))
  (qa0g (qa0i qa2o))
  qa0r)
  (qa0g (qa0i (qa1f (qb3v rfl) qb7r rfl B.all_ qc1i (qa0a (qa1c (qa1q ["_law_part"] [("_law_names",1),("_law_shows",2)] rfl (by rfl) (by decide +kernel) (qa1w (qa0f [false] qa2g qa4j hr rfl (qa0a (dv 0) qa0b))) (fun _ _ _=>(qa0s (i:=0) (show(["_law_part","_law_names","_law_shows"]:List Str).Nodup by decide +kernel) rfl (Or.inl rfl))) (fun _ _ _=>qa1z) (fun _ _ _=>(qa0f [false,false,false] qa5m qb2x hr rfl (qa0a (dv 0) (qa0a (dv 1) (qa0a (dv 2) qa0b))))))) qa0b)))))))),?_⟩
 have hkl:=qb0l k
 rw [fit_eq] at q
 rw [qa1x k]
 walk_at "dd"
 rw [qa7g k]
 refine ite_arg (x:=PyData.int ((s:Int) + 1)) (y:=.int (s:Int)) (P:=fun z=>later _ _ [_,_,some (L.d z),_]) fun z hz=>?_
 have hz2:z=.int ((s + (if isS k=true then 1 else 0):Nat):Int):=by rw [hz];cases isS k<;>rfl
 subst hz2
 generalize s + (if isS k=true then 1 else 0)=s' at q ⊢
 walk_at "dd"
 rw [qb0k k]
 refine wayP (P:=fun z=>later _ _ [_,some (L.d z),_,_]) (y:=encN ns) (p:=fun z=>z=encN (ns ++ (bn k).toList)/\clash k ns=false) (fun hb=>?_) (fun z hz=>?_) (fun hb hR=>?_)
 ·unfold clash
  rw [qb8a hb]
  exact⟨by simp,rfl⟩
 ·obtain⟨rfl,hc⟩:=hz
  rw [hc,Bool.not_false,Bool.true_and] at q
  have hl2:(ns ++ (bn k).toList).length <= 11:=by
   rw [List.length_append]
   have:(bn k).toList.length <= 1:=by cases bn k<;>simp
   omega
  generalize ns ++ (bn k).toList=ns' at q hl2 ⊢
  walk_at "dd"
  rw [List.length_map]
  refine qb7b (fun h=>?_) (fun h1 h2=>?_)
  ·have e:(decide (ns'.length <= 4) && decide (s' <= 3))=false:=by
    rcases h with h | h
    ·rw [decide_eq_false (show ¬ ns'.length <= 4 by have:=of_decide_eq_true h;omega),Bool.false_and]
    ·rw [decide_eq_false (show ¬ s' <= 3 by have:=of_decide_eq_true h;omega),Bool.and_false]
   rw [e,Bool.false_and] at q
   exact q
  ·have a1:=of_decide_eq_false h1
   have a2:=of_decide_eq_false h2
   rw [decide_eq_true (show ns'.length <= 4 by omega),decide_eq_true (show s' <= 3 by omega),Bool.true_and,Bool.true_and] at q
   walk_at "dd"
   refine⟨k,by rw [qa1x k],?_⟩
   walk_at "dd"
   refine⟨by rw [List.length_map];omega,?_⟩
   refine qa3n enc (fun p=>PyData.bool (fitB p ns' s')) (fun ρ=>∃ v0:Option L,ρ=[v0,some (.d (encN ns')),some (.d (.int (s':Int)))]) ⟨none,rfl⟩ ?_ ?_
   ·rintro p ρ N Nn hp ⟨v0,rfl⟩ hN
    have:=kid_dp hp
    walk_at "dd"
    refine⟨p,ns',s',rfl,by omega,by omega,?_⟩
    walk_at "dd"
    exact hN _ ⟨_,rfl⟩
   rintro ρ ⟨v0,rfl⟩
   walk_at "dd"
   rw [show(kids k).map (fun p=>PyData.bool (fitB p ns' s'))=((kids k).map fun p=>fitB p ns' s').map .bool by rw [List.map_map];rfl,qb5u,qa1a]
   exact q
 ·obtain⟨x,e1,e2⟩:=qb7z hb
  have ec:clash k ns=decide (x ∈ ns):=by unfold clash;rw [e1]
  rw [e2] at hR ⊢
  rw [qc2k,qa1a]
  walk_at "dd"
  refine qa1m (fun c=>?_) (fun c=>?_)
  ·rw [ec,decide_eq_true c] at q
   exact q
  ·walk_at "dd"
   rw [fAdd_L (by rw [List.length_map,List.length_singleton];omega),qa1a]
   exact hR _ ⟨by rw [e1];simp,by rw [ec,decide_eq_false c]⟩
end
open Tr
theorem qa9w(M:Mdl Str):∀ (a:Fm Str) (F:List (Str × Bool)) (r:Room Str) (e e':Env Str),Pos a F->(∀ q ∈ F,e q.1=e' q.1)->ev M a r e=ev M a r e'
 | .fact z,F,r,e,e',_,_=>rfl
 | .wish z,F,r,e,e',h,he=>he _ h
 | .neg a,F,r,e,e',h,he=>by
  have:=qa9w M a (flip F) r e e' h fun q hq=>by
   obtain⟨u,hu,rfl⟩:=List.mem_map.mp hq
   exact he u hu
  show(fun p=>!ev M a r e p)=_
  rw [this];rfl
 | .two c a b,F,r,e,e',h,he=>by
  show(fun p=>if c=true then ev M a r e p && ev M b r e p else ev M a r e p || ev M b r e p)=_
  rw [qa9w M a F r e e' h.1 he,qa9w M b F r e e' h.2 he];rfl
 | .mod c st a,F,r,e,e',h,he=>by
  show(fun p=>if c=true then(List.range M.n).all fun q=>!lead M r st p q || ev M a r e q else(List.range M.n).any fun q=>lead M r st p q && ev M a r e q)=_
  rw [qa9w M a F r e e' h.2 he];rfl
 | .bind m x a,F,r,e,e',h,he=>by
  have:∀ X,ev M a r (upd e x X)=ev M a r (upd e' x X):=fun X=>qa9w M a (F ++ [(x,false)]) r _ _ h.2 fun q hq=>by
   unfold Tr.upd
   split
   ·rfl
   ·rcases List.mem_append.mp hq with hq | hq
    ·exact he q hq
    ·rename_i hn
     exact absurd (by rw [List.mem_singleton.mp hq]) hn
  show iter (fun X=>ev M a r (upd e x X)) (M.n + 2) (fun _=>m)=_
  rw [funext this];rfl
 | .sho hs a b,F,r,e,e',h,he=>rfl
noncomputable def noW(x:Str):Fm Str->Prop
 | .fact _=>True
 | .wish z=>¬ z=x
 | .neg a=>noW x a
 | .two _ a b=>noW x a/\noW x b
 | .mod _ _ a=>noW x a
 | .bind _ _ a=>noW x a
 | .sho _ a b=>noW x a/\noW x b
theorem qa5g{w:Fm Str}{x:Str}:∀ a:Fm Str,noW x a->sub w x a=a
 | .fact _,_=>rfl
 | .wish z,h=>if_neg h
 | .neg a,h=>by rw [sub,qa5g a h]
 | .two _ a b,h=>by rw [sub,qa5g a h.1,qa5g b h.2]
 | .mod _ _ a,h=>by rw [sub,qa5g a h]
 | .bind _ _ a,h=>by rw [sub,qa5g a h]
 | .sho _ a b,h=>by rw [sub,qa5g a h.1,qa5g b h.2]
noncomputable def nB(x:Str):Fm Str->Prop
 | .fact _=>True
 | .wish _=>True
 | .neg a=>nB x a
 | .two _ a b=>nB x a/\nB x b
 | .mod _ _ a=>nB x a
 | .bind _ y a=>¬ y=x/\nB x a
 | .sho _ a b=>nB x a/\nB x b
noncomputable def nS(x:Str):Fm Str->Prop
 | .fact _=>True
 | .wish _=>True
 | .neg a=>nS x a
 | .two _ a b=>nS x a/\nS x b
 | .mod _ _ a=>nS x a
 | .bind _ y a=>¬ y=x/\nS x a
 | .sho _ a b=>noW x a/\noW x b
theorem lv_ne:∀ x ∈ nmAt 0,∀ b < 3,1 <= b->∀ y ∈ nmAt b,¬ y=x:=by decide +kernel
theorem qb0y{x:Str}(hx:x ∈ nmAt 0):∀ (a:Fm Str) {b s:Nat},Wl a b s->1 <= b->nB x a
 | .fact _,_,_,_,_=>trivial
 | .wish _,_,_,_,_=>trivial
 | .neg a,_,_,h,hb=>qb0y hx a h hb
 | .two _ a c,_,_,h,hb=>⟨qb0y hx a h.1 hb,qb0y hx c h.2 hb⟩
 | .mod _ _ a,_,_,h,hb=>qb0y hx a h.2 hb
 | .bind _ y a,b,_,h,hb=>⟨lv_ne x hx b h.1.1 hb y h.1.2,qb0y hx a h.2 (by omega)⟩
 | .sho hs a c,_,_,h,hb=>⟨qb0y hx a h.2.1 hb,qb0y hx c h.2.2 hb⟩
theorem qa6r{x:Str}:∀ (a:Fm Str) (F:List (Str × Bool)),Pos a F->(∀ q ∈ F,¬ q.1=x)->nB x a->noW x a
 | .fact _,_,_,_,_=>trivial
 | .wish z,F,h,hF,_=>hF _ h
 | .neg a,F,h,hF,hb=>qa6r a (flip F) h (fun q hq=>by
   obtain⟨u,hu,rfl⟩:=List.mem_map.mp hq
   exact hF u hu) hb
 | .two _ a c,F,h,hF,hb=>⟨qa6r a F h.1 hF hb.1,qa6r c F h.2 hF hb.2⟩
 | .mod _ _ a,F,h,hF,hb=>qa6r a F h.2 hF hb
 | .bind _ y a,F,h,hF,hb=>qa6r a _ h.2 (fun q hq=>by
   rcases List.mem_append.mp hq with hq | hq
   ·exact hF q hq
   ·rw [List.mem_singleton.mp hq];exact hb.1) hb.2
 | .sho hs a c,F,h,hF,hb=>⟨qa6r a [] h.1 (fun q hq=>by cases hq) hb.1,qa6r c [] h.2 (fun q hq=>by cases hq) hb.2⟩
theorem nS_of{x:Str}:∀ (a:Fm Str) (F:List (Str × Bool)),Pos a F->nB x a->nS x a
 | .fact _,_,_,_=>trivial
 | .wish z,F,h,_=>trivial
 | .neg a,F,h,hb=>nS_of a (flip F) h hb
 | .two _ a c,F,h,hb=>⟨nS_of a F h.1 hb.1,nS_of c F h.2 hb.2⟩
 | .mod _ _ a,F,h,hb=>nS_of a F h.2 hb
 | .bind _ y a,F,h,hb=>⟨hb.1,nS_of a _ h.2 hb.2⟩
 | .sho hs a c,F,h,hb=>⟨qa6r a [] h.1 (fun q hq=>by cases hq) hb.1,qa6r c [] h.2 (fun q hq=>by cases hq) hb.2⟩
theorem qa9x{w:Fm Str}{x:Str}:∀ a:Fm Str,nS x a->put w x a=sub w x a
 | .fact _,_=>rfl
 | .wish z,_=>rfl
 | .neg a,h=>by rw [put,sub,qa9x a h]
 | .two _ a b,h=>by rw [put,sub,qa9x a h.1,qa9x b h.2]
 | .mod _ _ a,h=>by rw [put,sub,qa9x a h]
 | .bind _ _ a,h=>by rw [put,sub,qa9x a h.2]
 | .sho _ a b,h=>by rw [put,sub,qa5g a h.1,qa5g b h.2]
theorem qb1y(M:Mdl Str){w:Fm Str}{x:Str}{r:Room Str}{V:Vec}(hV:∀ e,ev M w r e=V):∀ (a:Fm Str) (e:Env Str),nS x a->ev M (sub w x a) r e=ev M a r (upd e x V)
 | .fact z,e,_=>rfl
 | .wish z,e,_=>by
  show ev M (if z=x then w else .wish z) r e=if z=x then V else e z
  split
  ·exact hV e
  ·rfl
 | .neg a,e,h=>by
  show(fun p=>!ev M (sub w x a) r e p)=_
  rw [qb1y M hV a e h];rfl
 | .two c a b,e,h=>by
  show(fun p=>if c=true then ev M (sub w x a) r e p && ev M (sub w x b) r e p else ev M (sub w x a) r e p || ev M (sub w x b) r e p)=_
  rw [qb1y M hV a e h.1,qb1y M hV b e h.2];rfl
 | .mod c st a,e,h=>by
  show(fun p=>if c=true then(List.range M.n).all fun q=>!lead M r st p q || ev M (sub w x a) r e q else(List.range M.n).any fun q=>lead M r st p q && ev M (sub w x a) r e q)=_
  rw [qb1y M hV a e h];rfl
 | .bind m y a,e,h=>by
  have:∀ X,ev M (sub w x a) r (upd e y X)=ev M a r (upd (upd e x V) y X):=fun X=>by
   rw [qb1y M hV a _ h.2]
   congr 1
   funext z
   unfold Tr.upd
   by_cases c1:z=x
   ·rw [if_pos c1]
    have c2:¬ z=y:=fun e=>h.1 (e.symm.trans c1)
    rw [if_neg c2,if_pos c1]
   ·rw [if_neg c1]
    split<;>rfl
  show iter (fun X=>ev M (sub w x a) r (upd e y X)) (M.n + 2) (fun _=>m)=_
  rw [funext this];rfl
 | .sho hs a b,e,h=>by
  rw [sub,qa5g a h.1,qa5g b h.2];rfl
theorem qd4p(M:Mdl Str){m:Bool}{x:Str}{b:Fm Str}{e:Env Str}(hp:Pos (.bind m x b) [])(hs:nS x b):eqv M.n (ev M (sub (.bind m x b) x b) [] e) (ev M (.bind m x b) [] e):=by
 have hc:∀ e',ev M (.bind m x b) [] e'=ev M (.bind m x b) [] e:=fun e'=>qa9w M _ [] [] e' e hp fun q hq=>by cases hq
 rw [qb1y M hc b e hs]
 let F:Vec->Vec:=fun X=>ev M b [] (upd e x X)
 have hm:∀ X Y,le M.n X Y->le M.n (F X) (F Y):=fun X Y h=>mon M b ([] ++ [(x,false)]) [] _ _ hp.2 (LeE.put (F:=[]) (fun q hq=>by cases hq) hp.1 h)
 have e1:ev M (.bind m x b) [] e=iter F (M.n + 2) fun _=>m:=rfl
 have e2:ev M b [] (upd e x (iter F (M.n + 2) fun _=>m))=iter F (M.n + 2 + 1) fun _=>m:=(qa3z F (M.n + 2) _).symm
 rw [e1,e2]
 exact(rest hm m _ (by omega)).trans (rest hm m _ (by omega)).symm
noncomputable def Pos2:Fm Str->List (Str × Bool)->Prop
 | .fact _,_=>True
 | .wish x,F=>(x,false) ∈ F
 | .neg a,F=>Pos2 a (flip F)
 | .two _ a b,F=>Pos2 a F/\Pos2 b F
 | .mod _ st a,F=>okS st/\Pos2 a F
 | .bind _ x a,F=>Pos2 a (F ++ [(x,false)])
 | .sho _ a b,_=>Pos2 a []/\Pos2 b []
theorem Pos2.up:∀ (a:Fm Str) {F F':List (Str × Bool)},(∀ q ∈ F,q ∈ F')->Pos2 a F->Pos2 a F'
 | .fact _,_,_,_,_=>trivial
 | .wish x,_,_,hs,h=>hs _ h
 | .neg a,_,_,hs,h=>Pos2.up a (fun q hq=>by
   obtain⟨u,hu,rfl⟩:=List.mem_map.mp hq
   exact List.mem_map.mpr ⟨u,hs u hu,rfl⟩) h
 | .two _ a b,_,_,hs,h=>⟨Pos2.up a hs h.1,Pos2.up b hs h.2⟩
 | .mod _ st a,_,_,hs,h=>⟨h.1,Pos2.up a hs h.2⟩
 | .bind _ x a,_,_,hs,h=>Pos2.up a (fun q hq=>by
   rcases List.mem_append.mp hq with hq | hq
   ·exact List.mem_append_left _ (hs q hq)
   ·exact List.mem_append_right _ hq) h
 | .sho _ a b,_,_,_,h=>h
theorem qb0z:∀ (a:Fm Str) {F:List (Str × Bool)},Pos a F->Pos2 a F
 | .fact _,_,_=>trivial
 | .wish x,_,h=>h
 | .neg a,_,h=>qb0z a h
 | .two _ a b,_,h=>⟨qb0z a h.1,qb0z b h.2⟩
 | .mod _ st a,_,h=>⟨h.1,qb0z a h.2⟩
 | .bind _ x a,_,h=>qb0z a h.2
 | .sho _ a b,_,h=>⟨qb0z a h.1,qb0z b h.2⟩
theorem qa6a{w:Fm Str}{x:Str}(hw:Pos2 w []):∀ (a:Fm Str) {F F':List (Str × Bool)},Pos a F->(∀ q ∈ F,¬ q.1=x->q ∈ F')->Pos2 (sub w x a) F'
 | .fact _,_,_,_,_=>trivial
 | .wish z,F,F',h,hs=>by
  show Pos2 (if z=x then w else .wish z) F'
  split
  ·exact Pos2.up w (fun q hq=>by cases hq) hw
  ·rename_i hn;exact hs _ h hn
 | .neg a,_,_,h,hs=>qa6a hw a h fun q hq hn=>by
   obtain⟨u,hu,rfl⟩:=List.mem_map.mp hq
   exact List.mem_map.mpr ⟨u,hs u hu hn,rfl⟩
 | .two _ a b,_,_,h,hs=>⟨qa6a hw a h.1 hs,qa6a hw b h.2 hs⟩
 | .mod _ st a,_,_,h,hs=>⟨h.1,qa6a hw a h.2 hs⟩
 | .bind _ y a,_,_,h,hs=>qa6a hw a h.2 fun q hq hn=>by
   rcases List.mem_append.mp hq with hq | hq
   ·exact List.mem_append_left _ (hs q hq hn)
   ·exact List.mem_append_right _ hq
 | .sho _ a b,_,_,h,hs=>⟨qa6a hw a h.1 (fun q hq=>by cases hq),qa6a hw b h.2 (fun q hq=>by cases hq)⟩
theorem qa8j:∀ (a:Fm Str) (As:List (Fm Str)) (F:List (Str × Bool)),okW a As=true->Pos2 a F->(∀ q ∈ F,q.1 ∈ qa1e As)->Pos a F
 | .fact _,_,_,_,_,_=>trivial
 | .wish x,_,_,_,h,_=>h
 | .neg a,As,F,ho,h,hF=>by
  rw [okW,Bool.and_eq_true] at ho
  refine qa8j a _ (flip F) ho.2 h fun q hq=>?_
  obtain⟨u,hu,rfl⟩:=List.mem_map.mp hq
  rw [qa2h]
  exact List.mem_append_left _ (hF u hu)
 | .two c a b,As,F,ho,h,hF=>by
  rw [okW,Bool.and_eq_true,Bool.and_eq_true] at ho
  have hF':∀ q ∈ F,q.1 ∈ qa1e (As ++ [.two c a b]):=fun q hq=>by rw [qa2h];exact List.mem_append_left _ (hF q hq)
  exact⟨qa8j a _ F ho.2.1 h.1 hF',qa8j b _ F ho.2.2 h.2 hF'⟩
 | .mod c st a,As,F,ho,h,hF=>by
  rw [okW,Bool.and_eq_true] at ho
  exact⟨h.1,qa8j a _ F ho.2 h.2 fun q hq=>by rw [qa2h];exact List.mem_append_left _ (hF q hq)⟩
 | .bind m x a,As,F,ho,h,hF=>by
  rw [okW,Bool.and_eq_true] at ho
  have hx:x ∉ qa1e As:=by
   have:=ho.1
   unfold may mayT at this
   rw [Bool.and_eq_true] at this
   simpa using this.2
  refine⟨fun hm=>?_,qa8j a _ _ ho.2 h fun q hq=>?_⟩
  ·obtain⟨q,hq,e⟩:=List.mem_map.mp hm
   exact hx (e ▸ hF q hq)
  ·rw [qa2h]
   rcases List.mem_append.mp hq with hq | hq
   ·exact List.mem_append_left _ (hF q hq)
   ·rw [List.mem_singleton.mp hq];exact List.mem_append_right _ (by simp [bn])
 | .sho hs a b,As,F,ho,h,hF=>by
  rw [okW,Bool.and_eq_true,Bool.and_eq_true] at ho
  exact⟨qa8j a _ [] ho.2.1 h.1 (fun q hq=>by cases hq),qa8j b _ [] ho.2.2 h.2 (fun q hq=>by cases hq)⟩
structure Fr(As:List (Fm Str))(F:List (Str × Bool)):Prop where
 nl:(qa1e As).length <= 4
 sl:shows As <= 3
 inn:∀ q ∈ F,q.1 ∈ qa1e As
 fr:∀ q ∈ F,∀ k,mw q.1 k As.reverse=decide ((k + if q.2=true then 1 else 0) % 2=0)
theorem Fr.plain{As:List (Fm Str)}{F:List (Str × Bool)}(h:Fr As F){k:Fm Str}(h1:bn k=none)(h2:isS k=false)(h3:isN k=false):Fr (As ++ [k]) F/\qa1e (As ++ [k])=qa1e As/\shows (As ++ [k])=shows As:=by
 have e1:qa1e (As ++ [k])=qa1e As:=by rw [qa2h,h1];simp
 have e2:shows (As ++ [k])=shows As:=by rw [qa4p,h2];simp
 refine⟨⟨by rw [e1];exact h.nl,by rw [e2];exact h.sl,by rw [e1];exact h.inn,fun q hq c=>?_⟩,e1,e2⟩
 rw [List.reverse_append]
 show mw q.1 c (k :: As.reverse)=_
 rw [qc5y,h1,h2,h3]
 simpa using h.fr q hq c
theorem Fr.lim{As:List (Fm Str)}{F:List (Str × Bool)}(h:Fr As F):(decide ((qa1e As).length <= 4) && decide (shows As <= 3))=true:=by rw [decide_eq_true h.nl,decide_eq_true h.sl];rfl
theorem qa8k:∀ (a:Fm Str) (As:List (Fm Str)) (F:List (Str × Bool)),Pos2 a F->Fr As F->okW a As=fitB a (qa1e As) (shows As)
 | .fact z,As,F,_,h=>by rw [fitB,h.lim];rfl
 | .wish z,As,F,hp,h=>by
  rw [fitB,h.lim]
  show mw z 0 As.reverse=true
  rw [h.fr _ hp 0];rfl
 | .neg a,As,F,hp,h=>by
  have e1:qa1e (As ++ [.neg a])=qa1e As:=by rw [qa2h];simp [bn]
  have e2:shows (As ++ [.neg a])=shows As:=by rw [qa4p];simp [isS,pick]
  have h':Fr (As ++ [.neg a]) (flip F):=by
   refine⟨by rw [e1];exact h.nl,by rw [e2];exact h.sl,fun q hq=>?_,fun q hq c=>?_⟩
   ·obtain⟨u,hu,rfl⟩:=List.mem_map.mp hq
    rw [e1];exact h.inn u hu
   ·obtain⟨u,hu,rfl⟩:=List.mem_map.mp hq
    rw [List.reverse_append]
    show mw u.1 (c + 1) As.reverse=_
    rw [h.fr u hu]
    cases u.2<;>exact decide_eq_decide.mpr (by simp<;>omega)
  have ih:=qa8k a _ _ hp h'
  rw [e1,e2] at ih
  rw [fitB,h.lim,← ih];rfl
 | .two c a d,As,F,hp,h=>by
  obtain⟨h',e1,e2⟩:=h.plain (k:=.two c a d) rfl rfl rfl
  have i1:=qa8k a _ _ hp.1 h'
  have i2:=qa8k d _ _ hp.2 h'
  rw [e1,e2] at i1 i2
  rw [fitB,h.lim,← i1,← i2];rfl
 | .mod c st a,As,F,hp,h=>by
  obtain⟨h',e1,e2⟩:=h.plain (k:=.mod c st a) rfl rfl rfl
  have i1:=qa8k a _ _ hp.2 h'
  rw [e1,e2] at i1
  rw [fitB,h.lim,← i1];rfl
 | .bind m x a,As,F,hp,h=>by
  have e1:qa1e (As ++ [.bind m x a])=qa1e As ++ [x]:=by rw [qa2h];rfl
  have e2:shows (As ++ [.bind m x a])=shows As:=by rw [qa4p];simp [isS,pick]
  show((decide ((qa1e As).length < 4) && !decide (x ∈ qa1e As)) && okW a (As ++ [.bind m x a]))=(!decide (x ∈ qa1e As) && (decide ((qa1e As ++ [x]).length <= 4) && decide (shows As <= 3) && fitB a (qa1e As ++ [x]) (shows As)))
  by_cases hx:x ∈ qa1e As
  ·rw [decide_eq_true hx];simp
  ·have el:decide ((qa1e As ++ [x]).length <= 4)=decide ((qa1e As).length < 4):=decide_eq_decide.mpr (by rw [List.length_append,List.length_singleton];omega)
   rw [decide_eq_false hx,el,decide_eq_true h.sl]
   by_cases hl:(qa1e As).length < 4
   ·have h':Fr (As ++ [.bind m x a]) (F ++ [(x,false)]):=by
     refine⟨by rw [e1,List.length_append,List.length_singleton];omega,by rw [e2];exact h.sl,fun q hq=>?_,fun q hq c=>?_⟩
     ·rw [e1]
      rcases List.mem_append.mp hq with hq | hq
      ·exact List.mem_append_left _ (h.inn q hq)
      ·rw [List.mem_singleton.mp hq];exact List.mem_append_right _ (List.mem_singleton.mpr rfl)
     ·rw [List.reverse_append]
      show(if (false=true) then false else if some x=some q.1 then decide (c % 2=0) else mw q.1 (if (false=true) then c + 1 else c) As.reverse)=_
      rw [if_neg Bool.false_ne_true,if_neg Bool.false_ne_true]
      rcases List.mem_append.mp hq with hq | hq
      ·have hne:¬ some x=some q.1:=fun e=>hx (by rw [Option.some.inj e];exact h.inn q hq)
       rw [if_neg hne]
       exact h.fr q hq c
      ·rw [List.mem_singleton.mp hq,if_pos rfl];rfl
    have ih:=qa8k a _ _ hp h'
    rw [e1,e2] at ih
    rw [decide_eq_true hl,← ih];rfl
   ·rw [decide_eq_false hl];rfl
 | .sho hs a d,As,F,hp,h=>by
  have e1:qa1e (As ++ [.sho hs a d])=qa1e As:=by rw [qa2h];simp [bn]
  have e2:shows (As ++ [.sho hs a d])=shows As + 1:=by rw [qa4p];rfl
  show((decide (shows As < 3) && true) && (okW a (As ++ [.sho hs a d]) && okW d (As ++ [.sho hs a d])))=(decide ((qa1e As).length <= 4) && decide (shows As + 1 <= 3) && (fitB a (qa1e As) (shows As + 1) && fitB d (qa1e As) (shows As + 1)))
  have el:decide (shows As + 1 <= 3)=decide (shows As < 3):=decide_eq_decide.mpr (by omega)
  rw [el,decide_eq_true h.nl,Bool.and_true,Bool.true_and]
  by_cases hl:shows As < 3
  ·have h':Fr (As ++ [.sho hs a d]) []:=⟨by rw [e1];exact h.nl,by rw [e2];omega,fun q hq=>(by cases hq),fun q hq=>(by cases hq)⟩
   have i1:=qa8k a _ _ hp.1 h'
   have i2:=qa8k d _ _ hp.2 h'
   rw [e1,e2] at i1 i2
   rw [decide_eq_true hl,← i1,← i2]
  ·rw [decide_eq_false hl];rfl
theorem fit_of{a:Fm Str}(h:Pos2 a []):okW a []=fitB a [] 0:=qa8k a [] [] h ⟨by simp [qa1e],by simp [shows],fun q hq=>(by cases hq),fun q hq=>(by cases hq)⟩
structure Lg(dp wt:Nat)(d:PyData):Prop where
 can:d.canLay0=true
 sho:d.intsShort 13=true
 shw:d.showable=true
 dep:d.depth <= dp
 wgt:d.weight <= wt
structure LgA(dp wt:Nat)(d:List PyData):Prop where
 can:PyData.canLayAll0 d=true
 sho:PyData.intsShortAll 13 d=true
 shw:PyData.showableAll d=true
 dep:PyData.depthAll d <= dp
 wgt:PyData.weightAll d <= wt
theorem qa7h{dp wt:Nat}:LgA dp wt []:=⟨rfl,rfl,rfl,Nat.zero_le _,Nat.zero_le _⟩
theorem qa1v{dp w1 w2:Nat}{x:PyData}{r:List PyData}(hx:Lg dp w1 x)(hr:LgA dp w2 r):LgA dp (w1 + 1 + w2) (x :: r):=by
 refine⟨by rw [PyData.canLayAll0,hx.can,hr.can];rfl,by rw [PyData.intsShortAll,hx.sho,hr.sho];rfl,by rw [PyData.showableAll,hx.shw,hr.shw];rfl,by rw [PyData.depthAll];exact Nat.max_le.mpr ⟨hx.dep,hr.dep⟩,?_⟩
 have:=hx.wgt
 have:=hr.wgt
 rw [PyData.weightAll]
 omega
theorem qb0p{dp wt:Nat}{xs:List PyData}(h:LgA dp wt xs):Lg (dp + 1) wt (.tuple xs):=
 ⟨by rw [PyData.canLay0];exact h.can,by rw [PyData.intsShort];exact h.sho,by rw [PyData.showable];exact h.shw,by rw [PyData.depth];have:=h.dep;omega,by rw [PyData.weight];exact h.wgt⟩
theorem Lg.up{dp wt dp' wt':Nat}{d:PyData}(h:Lg dp wt d)(h1:dp <= dp')(h2:wt <= wt'):Lg dp' wt' d:=⟨h.can,h.sho,h.shw,Nat.le_trans h.dep h1,Nat.le_trans h.wgt h2⟩
noncomputable def lgOk(dp:Nat)(d:PyData):Bool:=d.canLay0 && d.intsShort 13 && d.showable && decide (d.depth <= dp) && decide (d.weight <= 100)
theorem qa9m{dp:Nat}{d:PyData}(h:lgOk dp d=true):Lg dp 100 d:=by
 unfold lgOk at h
 simp only [Bool.and_eq_true,decide_eq_true_eq] at h
 exact⟨h.1.1.1.1,h.1.1.1.2,h.1.1.2,h.1.2,h.2⟩
theorem lg_nm:∀ z ∈ NM,lgOk 0 (.str z)=true:=by decide +kernel
theorem lg_hl:∀ hs ∈ HL,lgOk 1 (encH hs)=true/\lgOk 2 (.tuple [.str "one",encH hs])=true/\lgOk 2 (.tuple [.str "pool",encH hs])=true:=by decide +kernel
theorem lg_st:∀ {st:Stp Str},wS st->Lg 2 100 (qa5j st)
 | .on,_=>qa9m (by decide +kernel)
 | .back,_=>qa9m (by decide +kernel)
 | .one hs,h=>qa9m (lg_hl hs h).2.1
 | .pool hs,h=>qa9m (lg_hl hs h).2.2
theorem qb2y(z:Str)(h:z ∈ qb2u):Lg 0 100 (.str z):=qa9m ((by decide +kernel:∀ z ∈ qb2u,lgOk 0 (.str z)=true) z h)
theorem qb1a:∀ {a:Fm Str},nmF a->Lg (szF a + 1) (400 * szF a) (enc a)
 | .fact z,h=>(qb0p (qa1v (qb2y "fact" (by decide +kernel)) (qa1v (qa9m (lg_nm z h)) (qa7h (wt:=0))))).up (by simp [szF]) (by simp [szF])
 | .wish z,h=>(qb0p (qa1v (qb2y "wish" (by decide +kernel)) (qa1v (qa9m (lg_nm z h)) (qa7h (wt:=0))))).up (by simp [szF]) (by simp [szF])
 | .neg a,h=>(qb0p (dp:=szF a + 1) (qa1v ((qb2y "not" (by decide +kernel)).up (Nat.zero_le _) (Nat.le_refl _)) (qa1v (qb1a (a:=a) h) (qa7h (wt:=0))))).up (by simp only [szF];omega) (by simp only [szF];omega)
 | .two c a b,h=>by
  have e:(if c=true then("and" : Str) else "or") ∈ qb2u:=by cases c<;>decide +kernel
  have hp:=qa4x b
  have hq:=qa4x a
  exact(qb0p (dp:=szF a + szF b + 1) (qa1v ((qb2y _ e).up (Nat.zero_le _) (Nat.le_refl _)) (qa1v ((qb1a (a:=a) h.1).up (by omega) (Nat.le_refl _)) (qa1v ((qb1a (a:=b) h.2).up (by omega) (Nat.le_refl _)) (qa7h (wt:=0)))))).up (by simp only [szF];omega) (by simp only [szF];omega)
 | .mod c st a,h=>by
  have e:(if c=true then("every" : Str) else "some") ∈ qb2u:=by cases c<;>decide +kernel
  have hq:=qa4x a
  exact(qb0p (dp:=szF a + 1) (qa1v ((qb2y _ e).up (Nat.zero_le _) (Nat.le_refl _)) (qa1v ((lg_st h.1).up (by omega) (Nat.le_refl _)) (qa1v (qb1a (a:=a) h.2) (qa7h (wt:=0)))))).up (by simp only [szF];omega) (by simp only [szF];omega)
 | .bind c x a,h=>by
  have e:(if c=true then("most" : Str) else "least") ∈ qb2u:=by cases c<;>decide +kernel
  exact(qb0p (dp:=szF a + 1) (qa1v ((qb2y _ e).up (Nat.zero_le _) (Nat.le_refl _)) (qa1v ((qa9m (lg_nm x h.1)).up (Nat.zero_le _) (Nat.le_refl _)) (qa1v (qb1a (a:=a) h.2) (qa7h (wt:=0)))))).up (by simp only [szF];omega) (by simp only [szF];omega)
 | .sho hs a b,h=>by
  have hp:=qa4x b
  have hq:=qa4x a
  exact(qb0p (dp:=szF a + szF b + 1) (qa1v ((qb2y "show" (by decide +kernel)).up (Nat.zero_le _) (Nat.le_refl _)) (qa1v ((qa9m (lg_hl hs h.1).1).up (by omega) (Nat.le_refl _)) (qa1v ((qb1a (a:=a) h.2.1).up (by omega) (Nat.le_refl _)) (qa1v ((qb1a (a:=b) h.2.2).up (by omega) (Nat.le_refl _)) (qa7h (wt:=0))))))).up (by simp only [szF];omega) (by simp only [szF];omega)
theorem repr_fm{a:Fm Str}(h:nmF a)(hs:szF a <= 60):qb0g (enc a)=true:=by
 have g:=qb1a h
 unfold qb0g PyData.layable0
 have e:(2:Nat) ^ 20=1048576:=by decide
 have hd:=g.dep
 have hw:=g.wgt
 rw [g.can,g.sho,g.shw,decide_eq_true (show(enc a).depth <= 64 by omega),decide_eq_true (show(enc a).weight <= 2 ^ 20 by omega)]
 rfl
open Tr
theorem qc3y{n:Nat}{X:Vec}:fEqA false (vecD n X) (vecD n X)=some (.bool true):=by
 rw [eq_vec]
 congr 2
 rw [List.all_eq_true]
 intro p _
 exact beq_self_eq_true _
structure Rt(a:Fm Str)(m:Nat):Prop where
 pos:Pos a []
 wl:Wl a 0 0
 sz:szF a <= m
theorem Rt.in{c:Bool}{x:Str}{b:Fm Str}{m:Nat}(h:Rt (.bind c x b) m):nS x b:=nS_of b _ h.pos.2 (qb0y h.wl.1.2 b h.wl.2 (Nat.le_refl 1))
theorem Rt.p2{c:Bool}{x:Str}{b:Fm Str}{m:Nat}(h:Rt (.bind c x b) m):Pos2 (sub (.bind c x b) x b) []:=qa6a (qb0z _ h.pos) b h.pos.2 fun q hq hn=>absurd (by rw [List.mem_singleton.mp hq]) hn
theorem qd4q{c:Bool}{x:Str}{b:Fm Str}{m:Nat}(h:Rt (.bind c x b) m):due (.bind c x b)=if (decide (szF (sub (.bind c x b) x b) <= 60) && fitB (sub (.bind c x b) x b) [] 0)=true then enc (sub (.bind c x b) x b) else .none:=by
 show(if (decide (szF (sub (.bind c x b) x b) <= 60) && okW (sub (.bind c x b) x b) [])=true then enc (sub (.bind c x b) x b) else .none)=_
 rw [fit_of h.p2]
theorem qb9g{a:Fm Str}{m:Nat}(h:Rt a m):due a=.none ∨ ∃ t:Fm Str,due a=enc t/\szF t <= 60/\nmF t/\Pos t []/\∀ M:Mdl Str,eqv M.n (ev M t [] (envOf [])) (ev M a [] (envOf [])):=by
 cases a with
 | bind c x b =>
  by_cases hc:(decide (szF (sub (.bind c x b) x b) <= 60) && okW (sub (.bind c x b) x b) [])=true
  ·refine .inr ⟨sub (.bind c x b) x b,if_pos hc,?_⟩
   rw [Bool.and_eq_true,decide_eq_true_eq] at hc
   exact⟨hc.1,qa6o h.wl.nm b h.wl.nm.2,qa8j _ [] [] hc.2 h.p2 (fun q hq=>by cases hq),fun M=>qd4p M h.pos h.in⟩
  ·exact .inl (if_neg hc)
 | _=>exact .inl rfl
theorem nmF.sm:∀ a:Fm Str,nmF a->smF a
 | .fact _,_=>trivial
 | .wish _,_=>trivial
 | .neg a,h=>nmF.sm a h
 | .two _ a c,h=>⟨nmF.sm a h.1,nmF.sm c h.2⟩
 | .mod _ _ a,h=>⟨h.1.ok.2,nmF.sm a h.2⟩
 | .bind _ _ a,h=>nmF.sm a h.2
 | .sho hs a c,h=>⟨(hl_ok hs h.1).2,nmF.sm a h.2.1,nmF.sm c h.2.2⟩
theorem cx_of{a:Fm Str}(hp:Pos a [])(hn:nmF a)(hs:szF a <= 60){W:Wd}(hW:Ws W):Cx61 W [] a [] [] 60:=⟨hW,hs,by simp only [List.length_nil];omega,rfl,by simp,by simp only [List.length_nil];omega,hp,hn.sm⟩
abbrev encWs(Us:List Wd):PyData:=.list (Us.map Wd.enc)
def OwD(Us:List Wd)(l:L):Prop:=l=.own (Us.map Wd.enc) ∨ l=.d (encWs Us)
def qc2r:DSp:=fun ls Q=>∃ (k most:Nat),ls=[.tape k,.d (.int (most:Int))]/\1 <= most/\most <= 40/\k + 600 < 900000/\∀ (a:Fm Str) (k':Nat),k' <= k + 420->Rt a 46->Q (.d (enc a)) [some (.tape k'),none]
def qb8i:DSp:=fun ls Q=>∃ (a:Fm Str) (Us:List Wd),ls=[.d (enc a),.d (encWs Us)]/\Rt a 46/\(∀ W ∈ Us,Ws W)/\Us.length <= 10/\Q (.d (.bool true)) [none,none]
theorem bA{k c k':Nat}(hk:k + 600 < 900000)(h:k' <= k + c)(hc:c <= 500):k' < 1000000:=by omega
theorem bB{k r:Nat}(hk:k + 600 < 900000)(h:1 + r <= 40):k + 1 + 1 + 10 * (1 + r) <= 990000:=by omega
theorem bC{k r k1:Nat}(h1:k1 <= k + 1 + 1 + 10 * (1 + r))(h:1 + r <= 40):k1 <= k + 402:=by omega
theorem bD{k k1:Nat}(h1:k1 <= k + 402):k1 + 1 <= k + 410:=by omega
theorem bE{k k2:Nat}(h1:k2 <= k + 410):k2 + 1 <= k + 420:=by omega
theorem bF{k k1:Nat}(hk:k + 600 < 900000)(h1:k1 <= k + 402):k1 + 1 + 1 < 999990:=by omega
theorem bG{k k1 k3:Nat}(h1:k1 <= k + 402)(h3:k3 <= k1 + 1 + 1 + 2):k3 <= k + 410:=by omega
theorem lA{k i:Nat}(h:k <= 150 * i)(hi:i < 2):k + 200 < 900000:=by omega
theorem lB{k i k':Nat}(h:k <= 150 * i)(h2:k' <= k + 150):k' <= 150 * (i + 1):=by omega
theorem lC{k i:Nat}(h:k <= 300 + 450 * i)(hi:i < 5):k + 600 < 900000:=by omega
theorem lD{k i k':Nat}(h:k <= 300 + 450 * i)(h2:k' <= k + 420):k' <= 300 + 450 * (i + 1):=by omega
section
variable{P:Program}{w:World}{K:W.Frag}{mg:Str->Option Value}{base:Heap}{n:Nat}
abbrev qa5w:Stmt:=top 48
theorem qa4l:FnScope ["_law_tape","_law_most","_law_word","_law_body"] ["_law_tape","_law_most"] (qa0k qa5w):=⟨rfl,rfl,rfl,by decide +kernel,rfl,by decide +kernel,by decide +kernel⟩
theorem qc7w{f f1 f2 f3:Addr}{fd fd1 fd2 fd3:FuncData} (F:Fun K "_law_binding" "_law_binding" qa5w f fd) (B:Bl mg) (qa0o:qa9c K mg f1 fd1) (qa0t:qa9b P w K mg base n f1 fd1)
  (qa1g:Def K mg "_law_sentence" qa3i ["_law_tape","_law_size","_law_free","_law_binders","_law_shows"] f2 fd2) (qa1s:FnOk P w K mg base CX0 n f2 fd2 ["_law_tape","_law_size","_law_free","_law_binders","_law_shows"] (spD K (spSen 40)))
  (qa5k:Def K mg "_law_step" qa6k ["_law_tape"] f3 fd3) (qb2s:FnOk P w K mg base CX0 n f3 fd3 ["_law_tape"] (spD K qb6w)):FnOk P w K mg base CX0 (n + 1) f fd ["_law_tape","_law_most"] (spD K qc2r):=by
 refine F.dok qa4l (fun cdv A outer s H E hr ls Qd h=>?_) (fun ls Qd h=>by obtain⟨_,_,e,_⟩:=h;rw [e];rfl)
 obtain⟨k,most,rfl,hm1,hm2,hk,q⟩:=h
 refine⟨rfl,?_⟩
 refine⟨_,(qa0e (qa0y (i:=2) qa4l.nd rfl (Or.inl rfl) (qa0p qa0j qa0q (qa1c (qa1o (qa0a qa0h (qa0a qa0h qa0b)))) (qa0f [true,false] qa0o qa0t hr rfl (qa0a (dv 0) (qa0a qa0c qa0b))) (fun _ _=>rfl)))
  (qa0e (qa0y (i:=3) qa4l.nd rfl (Or.inl rfl) (qa0f [true,false,false,false,false] qa1g qa1s hr rfl (qa0a (dv 0) (qa0a (qa1l qa1i qa2c qa0c (qa0f [true,false] qa0o qa0t hr rfl (qa0a (dv 0) (qa0a (dv 1) qa0b)))) (qa0a (qa1c (qa1o (qa0a (qa0u (qa0a qa0h (qa0a qa2o qa0b))) qa0b))) (qa0a qa0c (qa0a qa0c qa0b)))))))
  (qa0e (qa0x (qa0n (qa0w hr.units) qa0v (qa0f [true,false] qa0o qa0t hr rfl (qa0a (dv 0) (qa0a qa0c qa0b))) qa0c (qa0m _))
  (qa0g (qa0y (i:=3) qa4l.nd rfl (Or.inl rfl) (qa0u (qa0a (qa0p qa0j qa0q (qa1c (qa1o (qa0a qa0h (qa0a qa0h qa0b)))) (qa0f [true,false] qa0o qa0t hr rfl (qa0a (dv 0) (qa0a qa0c qa0b))) (fun _ _=>rfl)) (qa0a (dv 3) (qa0a (qa0u (qa0a qa0h (qa0a (qa0f [true] qa5k qb2s hr rfl (qa0a (dv 0) qa0b)) (qa0a (qa0u (qa0a qa0h (qa0a qa0h qa0b))) qa0b)))) qa0b))))))
  qa0r)
  (qa0e (qa0x (qa0n (qa0w hr.units) qa0v (qa0f [true,false] qa0o qa0t hr rfl (qa0a (dv 0) (qa0a qa0c qa0b))) qa0c (qa0m _))
  (qa0g (qa0y (i:=3) qa4l.nd rfl (Or.inl rfl) (qa0u (qa0a qa0h (qa0a (qa0u (qa0a qa0h (qa0a (dv 3) qa0b))) qa0b)))))
  qa0r)
  (qa0g (qa0i (qa0u (qa0a (dv 2) (qa0a qa0h (qa0a (dv 3) qa0b)))))))))),?_⟩
 walk_at "dd"
 refine⟨k,2,rfl,by decide,bA hk (Nat.le_refl k) (Nat.zero_le _),fun r h0 h1=>?_⟩
 walk_at "dd"
 refine qa3f h0 h1 fun d hd _=>?_
 obtain⟨m,rfl⟩:∃ m:Bool,d=.str (if m then "most" else "least"):=by
  simp only [List.mem_cons,List.not_mem_nil,or_false] at hd
  rcases hd with rfl | rfl
  ·exact⟨false,rfl⟩
  ·exact⟨true,rfl⟩
 walk_at "dd"
 refine⟨k + 1,most,rfl,Int.ofNat_lt.mpr hm1,bA (c:=1) hk (Nat.le_refl _) (by decide),fun rr g0 g1=>?_⟩
 obtain⟨r0,rfl⟩:∃ r0:Nat,rr=(r0:Int):=⟨rr.toNat,by omega⟩
 have hr0:1 + r0 <= 40:=Nat.le_trans (by have:=Int.ofNat_lt.mp g1;omega) hm2
 walk_at "dd"
 refine⟨k + 1 + 1,1 + r0,1,0,[("x",false)],rfl,Nat.le_add_right 1 r0,hr0,Nat.le_trans hr0 (by decide),by decide,by decide,?_,bB hk hr0,?_,fun b k1 hk1 ok=>?_⟩
 ·intro q hq
  rw [List.mem_singleton.mp hq]
  exact⟨0,by decide,by decide +kernel⟩
 ·intro q hq
  rw [List.mem_singleton.mp hq]
  exact(by decide +kernel:("x" : Str) ∈ NM)
 have hk1:=bC hk1 hr0
 walk_at "dd"
 refine⟨k1,3,rfl,by decide,bA hk hk1 (by decide),fun r3 e0 e1=>?_⟩
 walk_at "dd"
 have hbs:=Nat.le_trans ok.size hr0
 refine wayP (α:=Nat × Fm Str) (P:=fun z=>later _ _ [some (L.tape z.1),_,_,some (L.d (enc z.2))]) (y:=(k1 + 1,b)) (p:=fun z=>z.1 <= k + 410/\Pos z.2 [("x",false)]/\Wl z.2 1 0/\szF z.2 <= 43) (fun _=>⟨bD hk1,ok.pos,ok.wl,Nat.le_trans hbs (by decide)⟩) (fun z hz=>?_) (fun _ hR=>?_)
 ·obtain⟨k2,b2⟩:=z
  obtain⟨hk2,hp,hw,hs⟩:=hz
  have hk2:k2 <= k + 410:=hk2
  have hs:szF b2 <= 43:=hs
  have hp:Pos b2 [("x",false)]:=hp
  have hw:Wl b2 1 0:=hw
  have hx:("x" : Str) ∉ (([]:List (Str × Bool)).map (·.1)):=by simp
  have hl:(0 < 3/\("x" : Str) ∈ nmAt 0):=⟨by decide,by decide +kernel⟩
  walk_at "dd"
  refine⟨k2,6,rfl,by decide,bA hk hk2 (by decide),fun r6 e2 e3=>?_⟩
  walk_at "dd"
  refine qa1m (fun c=>?_) (fun c=>?_)
  ·walk_at "dd"
   exact q (.bind m "x" (.neg (.neg b2))) _ (bE hk2) ⟨⟨hx,hp⟩,⟨hl,hw⟩,Nat.add_le_add_right hs 3⟩
  ·walk_at "dd"
   exact q (.bind m "x" b2) _ (bE hk2) ⟨⟨hx,hp⟩,⟨hl,hw⟩,Nat.le_trans (Nat.add_le_add_right hs 1) (by decide)⟩
 ·refine⟨k1 + 1,2,rfl,by decide,bA (c:=403) hk (Nat.succ_le_succ hk1) (by decide),fun r4 e2 e3=>?_⟩
  walk_at "dd"
  refine qa3f e2 e3 fun d hd _=>?_
  obtain⟨c,rfl⟩:∃ c:Bool,d=.str (if c then "and" else "or"):=by
   simp only [List.mem_cons,List.not_mem_nil,or_false] at hd
   rcases hd with rfl | rfl
   ·exact⟨true,rfl⟩
   ·exact⟨false,rfl⟩
  walk_at "dd"
  refine⟨k1 + 1 + 1,rfl,bF hk hk1,fun st k3 hk3 hst=>?_⟩
  repeat walk_at "d1"
  exact hR (k3,.two c b (.mod false st (.wish "x"))) ⟨bG hk1 hk3,⟨ok.pos,hst.ok.1,List.mem_singleton.mpr rfl⟩,⟨ok.wl,hst,(by decide +kernel:("x" : Str) ∈ NM)⟩,Nat.add_le_add_right hbs 3⟩
abbrev qa7y:Stmt:=top 49
theorem qa5h:FnScope ["_law_sentence_here","_law_worlds","_law_found","_law_due"] ["_law_sentence_here","_law_worlds"] (qa0k qa7y):=⟨rfl,rfl,rfl,by decide +kernel,rfl,by decide +kernel,by decide +kernel⟩
theorem qd4r{f f1 f2 f3 f4 f5:Addr}{fd fd1 fd2 fd3 fd4 fd5:FuncData} (F:Fun K "_law_right" "_law_right" qa7y f fd) (B:Bl mg)
  (d_unfolded:Def K mg "unfolded" qa9k ["sentence"] f1 fd1) (g_unfolded:FnOk P w K mg base CX0 n f1 fd1 ["sentence"] (spD K spUnf))
  (qa4k:Def K mg "_law_put_in" qa5f ["_law_sentence_here","_law_name","_law_whole"] f2 fd2) (qb0o:FnOk P w K mg base CX0 n f2 fd2 ["_law_sentence_here","_law_name","_law_whole"] (spD K (spPut 60)))
  (qa5l:Def K mg "_law_many" qa6p ["_law_sentence_here"] f3 fd3) (qb2w:FnOk P w K mg base CX0 n f3 fd3 ["_law_sentence_here"] (spD K (qb4t 100)))
  (qa5m:Def K mg "_law_fits" qa6q ["_law_sentence_here","_law_names","_law_shows"] f4 fd4) (qb2x:FnOk P w K mg base CX0 n f4 fd4 ["_law_sentence_here","_law_names","_law_shows"] (spD K (spFit 100)))
  (qa1t:Def K mg "_law_truths" qa4h ["_law_world_here","_law_room","_law_sentence_here","_law_wishes"] f5 fd5) (qa2v:FnOk P w K mg base CX0 n f5 fd5 ["_law_world_here","_law_room","_law_sentence_here","_law_wishes"] (spD K (spTr 60))):FnOk P w K mg base CX0 (n + 1) f fd ["_law_sentence_here","_law_worlds"] (spD K qb8i):=by
 refine F.dok qa5h (fun cdv A outer s H E hr ls Qd h=>?_) (fun ls Qd h=>by obtain⟨_,_,e,_⟩:=h;rw [e];rfl)
 obtain⟨a,Us,rfl,ha,hU,hl,q⟩:=h
 refine⟨rfl,?_⟩
 refine⟨_,(qa0e (qa0y (i:=2) qa5h.nd rfl (Or.inl rfl) (qa0f [false] d_unfolded g_unfolded hr rfl (qa0a (dv 0) qa0b)))
  (qa0e (qa0y (i:=3) qa5h.nd rfl (Or.inr rfl) qb3q)
  (qa0e (qa0x (qa0n qa2d qa3e (qa0p qa0j qa0q (dv 0) qa0c (fun _ _=>rfl)) (qa0u (qa0a qa0h (qa0a qa0h qa0b))) (by rfl))
  (qa0e (qa0y (i:=3) qa5h.nd rfl (Or.inr rfl) (qa0f [false,false,false] qa4k qb0o hr rfl (qa0a (qa0p qa0j qa0q (dv 0) qa0c (fun _ _=>rfl)) (qa0a (qa0p qa0j qa0q (dv 0) qa0c (fun _ _=>rfl)) (qa0a (dv 0) qa0b)))))
  (qa0g (qa0x (DW.toT (qa7m (qa0n qa8t (qa2m _) (qa0f [false] qa5l qb2w hr rfl (qa0a (dv 3) qa0b)) qa0c (qa0m _)) (qa5n (qa5e (qa3v (qa0f [false,false,false] qa5m qb2x hr rfl (qa0a (dv 3) (qa0a (qa1c (qa1o qa0b)) (qa0a qa0c qa0b)))))))))
  (qa0g (qa0y (i:=3) qa5h.nd rfl (Or.inr rfl) qb3q))
  qa0r)))
  qa0r)
  (qa0e (qa0x (qa0n (qc0z hr.units) qc0y (qa1f (qb6u hr.gd hr.units2) qc1s rfl B.repr_ qc5a (qa0a (dv 2) qa0b)) (qa1f (qb6u hr.gd hr.units2) qc1s rfl B.repr_ qc5a (qa0a (dv 3) qa0b)) (qa0m _))
  (qa0g (qa0i qa2o))
  qa0r)
  (qa0e (qa0x (qa0n op_isN ad_isN (dv 3) qb3q (qa0m _))
  (qa0g (qa0i qa2o))
  qa0r)
  (qa0g (qa0i (qa1f (qb3v rfl) qb7r rfl B.all_ qc1i (qa0a (qa1c (qa1q ["_law_world_here"] [("_law_due",3),("_law_sentence_here",0)] rfl (by rfl) (by decide +kernel) (qa1w (dv 1)) (fun _ _ _=>(qa0s (i:=0) (show(["_law_world_here","_law_due","_law_sentence_here"]:List Str).Nodup by decide +kernel) rfl (Or.inl rfl))) (fun _ _ _=>qa1z) (fun _ _ _=>(qa3c (qa0w hr.units) qa0v (qa0f [false,false,false,false] qa1t qa2v hr rfl (qa0a (dv 0) (qa0a (qa1c (qa1o qa0b)) (qa0a (dv 1) (qa0a qb4q qa0b))))) (qa0f [false,false,false,false] qa1t qa2v hr rfl (qa0a (dv 0) (qa0a (qa1c (qa1o qa0b)) (qa0a (dv 2) (qa0a qb4q qa0b))))) (qa0m _))))) qa0b))))))))),?_⟩
 have has:=ha.sz
 walk_at "dd"
 refine⟨a,rfl,by omega,ha.wl.nm,?_⟩
 rw [qa1x a]
 walk_at "dd"
 rw [qb0k a]
 refine wayP (P:=fun z=>later _ _ [_,_,_,some (L.d z)]) (y:=.none) (p:=fun z=>z=due a) (fun hb=>by cases a<;>first | rfl | cases hb) (fun z hz=>?_) (fun hb hR=>?_)
 ·subst hz
  rw [← qa1x a]
  obtain⟨s,hre⟩:∃ s,qb3w [due a]=some (.str s):=by
   rcases qb9g ha with e | ⟨t,e,h1,h2,_⟩
   ·rw [e];exact⟨_,qd3n⟩
   ·rw [e]
    have:=repr_fm h2 h1
    rw [qa1x] at this ⊢
    exact⟨_,qd3o this⟩
  walk_at "dd"
  rw [hre,qa1a]
  walk_at "dd"
  simp only [decide_true]
  walk_at "dd"
  rcases qb9g ha with e | ⟨t,e,h1,h2,h3,h4⟩
  ·rw [e,show fIsN .none .none=some (.bool true) from rfl,qa1a]
   walk_at "dd"
   exact q
  ·rw [e,show fIsN (enc t) .none=some (.bool false) by rw [qa1x];rfl,qa1a]
   walk_at "dd"
   refine⟨by rw [List.length_map];omega,?_⟩
   refine qa3n Wd.enc (fun _=>PyData.bool true) (fun ρ=>∃ v0:Option L,ρ=[v0,some (.d (enc t)),some (.d (enc a))]) ⟨none,rfl⟩ ?_ ?_
   ·rintro W ρ N Nn hW ⟨v0,rfl⟩ hN
    have hWs:=hU W hW
    walk_at "dd"
    refine⟨W,[],t,[],[],rfl,cx_of h3 h2 h1 hWs,?_⟩
    walk_at "dd"
    refine⟨W,[],a,[],[],rfl,cx_of ha.pos ha.wl.nm (by omega) hWs,?_⟩
    walk_at "dd"
    rw [show vecD W.moves.length (ev (mdl W) t [] (envOf []))=vecD W.moves.length (ev (mdl W) a [] (envOf [])) from vec_eq (h4 (mdl W)),qc3y,qa1a]
    walk_at "dd"
    exact hN _ ⟨_,rfl⟩
   rintro ρ ⟨v0,rfl⟩
   walk_at "dd"
   rw [show Us.map (fun _=>PyData.bool true)=(Us.map fun _=>true).map .bool by rw [List.map_map];rfl,qb5u,qa1a,show(Us.map fun _=>true).all id=true by simp]
   exact q
 ·obtain⟨c,x,b,rfl⟩:∃ c x b,a=.bind c x b:=by
   cases a with
   | bind c x b=>exact⟨c,x,b,rfl⟩
   | _=>cases hb
  have hd:=qd4q ha
  have e2:put (.bind c x b) x b=sub (.bind c x b) x b:=qa9x b ha.in
  have hbs:szF b + 1 <= 46:=has
  have hdp:dpF (sub (.bind c x b) x b) <= 100:=by
   have:=qa8i (.bind c x b) x b
   have:=qa9l b
   have:=qa9l (.bind c x b)
   have e:szF (.bind c x b)=szF b + 1:=rfl
   omega
  rw [show ag (.bind c x b)=.str x from rfl,show mr (.bind c x b)=[enc b] from rfl] at hR ⊢
  walk_at "dd"
  refine⟨b,.bind c x b,x,rfl,by omega,?_⟩
  rw [e2]
  generalize sub (.bind c x b) x b=t at hd hdp ⊢
  walk_at "dd"
  refine⟨t,rfl,hdp,?_⟩
  walk_at "dd"
  refine qa1m (fun hc=>?_) (fun hc=>?_)
  ·repeat walk_at "d1"
   exact hR _ (by rw [hd,decide_eq_false (by omega),Bool.false_and,if_neg Bool.false_ne_true])
  ·rw [decide_eq_true (by omega),Bool.true_and] at hd
   refine⟨t,[],0,rfl,hdp,by simp,?_⟩
   walk_at "dd"
   cases hf:fitB t [] 0 with
   | true =>
    rw [hf,if_pos rfl] at hd
    repeat walk_at "d1"
    exact hR _ hd.symm
   | false =>
    rw [hf,if_neg Bool.false_ne_true] at hd
    repeat walk_at "d1"
    exact hR _ hd.symm
abbrev qa9n:Stmt:=top 50
theorem qb7d:FnScope ["_law_script","_law_tape","_law_worlds","_law_k"] ["_law_script"] (qa0k qa9n):=⟨rfl,rfl,rfl,by decide +kernel,rfl,by decide +kernel,by decide +kernel⟩
theorem ok_law{f f1 f2 f3 f4 f5:Addr}{fd fd1 fd2 fd3 fd4 fd5:FuncData} (F:Fun K "law" "law" qa9n f fd) (B:Bl mg)
  (qa0o:qa9c K mg f1 fd1) (qa0t:qa9b P w K mg base n f1 fd1)
  (qb1e:Def K mg "_law_world" qa7p ["_law_tape","_law_most"] f2 fd2) (qc3z:FnOk P w K mg base CX0 n f2 fd2 ["_law_tape","_law_most"] (spD K qb7u))
  (qa1g:Def K mg "_law_sentence" qa3i ["_law_tape","_law_size","_law_free","_law_binders","_law_shows"] f3 fd3) (qa1s:FnOk P w K mg base CX0 n f3 fd3 ["_law_tape","_law_size","_law_free","_law_binders","_law_shows"] (spD K (spSen 40)))
  (qa8o:Def K mg "_law_binding" qa5w ["_law_tape","_law_most"] f4 fd4) (qb9n:FnOk P w K mg base CX0 n f4 fd4 ["_law_tape","_law_most"] (spD K qc2r))
  (qa7z:Def K mg "_law_right" qa7y ["_law_sentence_here","_law_worlds"] f5 fd5) (qb5g:FnOk P w K mg base CX0 n f5 fd5 ["_law_sentence_here","_law_worlds"] (spD K qb8i)):FnOk P w K mg base CX0 (n + 1) f fd ["_law_script"] (spLaw K):=by
 refine F.law qb7d (fun cdv A outer s H E hr=>?_)
 refine⟨_,_,rfl,qa8a (i:=1) qb7d.nd rfl (Or.inr rfl) (pe_lst (qa2l (pv 0) (qa2l qa2f qa4q))),_,(qa0e (qa5x (i:=2) qb7d.nd rfl rfl ["_law_k"] [("_law_tape",1)] rfl (by rfl) (by decide +kernel) (qa3d rfl B.range_ qa0c) (fun _ _ _=>(qa0s (i:=0) (show(["_law_k","_law_tape"]:List Str).Nodup by decide +kernel) rfl (Or.inl rfl))) (fun _ _ _=>qa1z) (fun _ _ _=>(qa0f [true,false] qb1e qc3z hr rfl (qa0a (dv 1) (qa0a qa0c qa0b)))))
  (qa0e (qb1t PassesOwn.never rfl (qa3d rfl B.range_ qa0c) (qa0s (i:=3) qb7d.nd rfl (Or.inl rfl))
  (qa0g (qa0x (qa5e (qa3v (qa0f [false,false] qa7z qb5g hr rfl (qa0a (qa0f [true,false] qa8o qb9n hr rfl (qa0a (dv 1) (qa0a (qa0p qa0j qa0q (qa1c (qa1o (qa0a qa0c (qa0a qa0c (qa0a qa0c (qa0a qa0c (qa0a qa0c qa0b))))))) (dv 3) (fun _ _=>rfl)) qa0b))) (qa0a (dv 2) qa0b)))))
  (qa0g (qa0i qa2o))
  qa0r)))
  (qa0g (qa0i (qa0f [false,false] qa7z qb5g hr rfl (qa0a (qa0f [true,false,false,false,false] qa1g qa1s hr rfl (qa0a (dv 1) (qa0a (qa1l qa1i qa2c qa0c (qa0f [true,false] qa0o qa0t hr rfl (qa0a (dv 1) (qa0a qa0c qa0b)))) (qa0a (qa1c (qa1o qa0b)) (qa0a qa0c (qa0a qa0c qa0b)))))) (qa0a (dv 2) qa0b))))))),?_⟩
 walk_at "dd"
 refine⟨⟨by decide,by decide⟩,?_⟩
 refine⟨by decide,?_⟩
 refine qa3x (fun i ρ acc=>∃ (v0:Option L) (k:Nat) (Us:List Wd),ρ=[v0,some (.tape k)]/\acc=Us.map Wd.enc/\Us.length=i/\(∀ W ∈ Us,Ws W)/\k <= 150 * i/\i <= 2) ⟨none,0,[],rfl,rfl,rfl,fun W hW=>(by cases hW),Nat.le_refl _,Nat.zero_le _⟩ ?_ ?_
 ·rintro i x ρ acc N hx ⟨v0,k,Us,rfl,rfl,hl,hU,hk,hi⟩ hN
  obtain⟨hi2,rfl⟩:=rngI hx
  have hi2:i < 2:=hi2
  walk_at "dd"
  refine⟨k,5,rfl,by decide,by decide,lA hk hi2,fun W k' hk' G _=>?_⟩
  walk_at "dd"
  refine hN _ _ ⟨_,k',Us ++ [W],rfl,by simp,by rw [List.length_append,hl];rfl,fun V hV=>?_,lB hk hk',hi2⟩
  rcases List.mem_append.mp hV with h | h
  ·exact hU V h
  ·rw [List.mem_singleton.mp h];exact G.ws
 rintro ρ acc ⟨v0,k0,Us,rfl,rfl,hl,hU,hk0,_⟩
 rw [show(rngD 0 (Int.toNat 2)).length=2 from rfl] at hl hk0
 walk_at "dd"
 refine⟨⟨by decide,by decide⟩,?_⟩
 refine qa7c (fun i ρ=>∃ (k:Nat) (l:L) (v3:Option L),ρ=[some .scr,some (.tape k),some l,v3]/\OwD Us l/\k <= 300 + 450 * i/\i <= 5) ⟨k0,_,none,rfl,.inl rfl,hk0,Nat.zero_le _⟩ ?_ ?_
 ·rintro i u ρ N hu ⟨k,l,v3,rfl,ho,hk,_⟩ hN
  obtain⟨hi,rfl⟩:=rngI hu
  have hi:i < 5:=hi
  walk_at "dd"
  refine qa3f (by omega) (by show(i:Int) < 5;omega) fun d hd _=>?_
  obtain⟨m1,rfl,hm1⟩:∃ m:Nat,d=.int (m:Int)/\1 <= m/\m <= 40:=by
   simp only [List.mem_cons,List.not_mem_nil,or_false] at hd
   rcases hd with rfl | rfl | rfl | rfl | rfl
   ·exact⟨12,rfl,by decide,by decide⟩
   ·exact⟨12,rfl,by decide,by decide⟩
   ·exact⟨12,rfl,by decide,by decide⟩
   ·exact⟨6,rfl,by decide,by decide⟩
   ·exact⟨40,rfl,by decide,by decide⟩
  walk_at "dd"
  refine⟨k,m1,rfl,hm1.1,hm1.2,lC hk hi,fun a k' hk' ha=>?_⟩
  walk_at "dd"
  refine fzL_or ho ?_ ?_
  ·rfl
  ·walk_at "dd"
   refine⟨a,Us,rfl,ha,hU,by rw [hl];decide,?_⟩
   walk_at "dd"
   exact hN _ ⟨k',_,_,rfl,.inr rfl,lD hk hk',hi⟩
 ·rintro ρ ⟨k,l,v3,rfl,ho,hk,_⟩
  walk_at "dd"
  refine⟨k,14,rfl,by decide,by omega,fun rr g0 g1=>?_⟩
  obtain⟨r0,rfl⟩:∃ r0:Nat,rr=(r0:Int):=⟨rr.toNat,by omega⟩
  walk_at "dd"
  refine⟨k + 1,1 + r0,0,0,[],by rw [show(1:Int) + (r0:Int)=((1 + r0:Nat):Int) by omega];rfl,by omega,by omega,by omega,by omega,Nat.zero_le _,fun q hq=>(by cases hq),by omega,fun q hq=>(by cases hq),fun a k' hk' ok=>?_⟩
  have hsz:=ok.size
  walk_at "dd"
  refine fzL_or ho ?_ ?_
  ·rfl
  ·walk_at "dd"
   refine⟨a,Us,rfl,⟨ok.pos,ok.wl,by omega⟩,hU,by omega,?_⟩
   walk_at "dd"
end
def Lies(K:W.Frag)(x:Str)(st:Stmt)(ps:List Str):Prop:=∃ f fd,Fun K x x st f fd/\W.nsIn K mainGlobals x=some (some (.ref f))/\Binds K fd ps []
abbrev fnX(x:Str)(st:Stmt)(kV dc pm:Value)(an:Option Addr)(cd ct:Value):FuncData:=W.fnOf x x (qa6v st) (qa4v st) (qa0k st) .none kV dc pm an cd ct
theorem qa2k{K:W.Frag}{x:Str}{st:Stmt}{ps:List Str}{f:Addr}{od an:Option Addr}{sl:Array (Option Value)}{oc kV dc pm cd ct:Value}
  (a:W.nsIn K mainGlobals x=some (some (.ref f))) (l:K.lookup f=some ⟨oc,od,.func (fnX x st kV dc pm an cd ct),sl⟩) (c:W.codeIn K cd x=true) (k:W.keepIn K (.ref f)=true) (hp:ps.length=1)
  (b:∀ (kV dc pm:Value) (an:Option Addr) (cd ct a0:Value),bindArgs (fnX x st kV dc pm an cd ct) ⟨[a0],[]⟩=pure (ps.zip [a0])):Lies K x st ps:=⟨f,_,qa5a l c k,a,(qa5a l c k).binds fun kV dc pm an cd ct us hl=>by
  rw [hp] at hl
  obtain⟨a0,u0,rfl,h0⟩:=usS hl
  obtain rfl:=List.eq_nil_of_length_eq_zero h0
  exact b kV dc pm an cd ct a0⟩
theorem qa3a{K:W.Frag}{x:Str}{st:Stmt}{ps:List Str}{f:Addr}{od an:Option Addr}{sl:Array (Option Value)}{oc kV dc pm cd ct:Value}
  (a:W.nsIn K mainGlobals x=some (some (.ref f))) (l:K.lookup f=some ⟨oc,od,.func (fnX x st kV dc pm an cd ct),sl⟩) (c:W.codeIn K cd x=true) (k:W.keepIn K (.ref f)=true) (hp:ps.length=2)
  (b:∀ (kV dc pm:Value) (an:Option Addr) (cd ct a0 a1:Value),bindArgs (fnX x st kV dc pm an cd ct) ⟨[a0,a1],[]⟩=pure (ps.zip [a0,a1])):Lies K x st ps:=⟨f,_,qa5a l c k,a,(qa5a l c k).binds fun kV dc pm an cd ct us hl=>by
  rw [hp] at hl
  obtain⟨a0,u0,rfl,h0⟩:=usS hl
  obtain⟨a1,u1,rfl,h1⟩:=usS h0
  obtain rfl:=List.eq_nil_of_length_eq_zero h1
  exact b kV dc pm an cd ct a0 a1⟩
theorem qa7i{K:W.Frag}{x:Str}{st:Stmt}{ps:List Str}{f:Addr}{od an:Option Addr}{sl:Array (Option Value)}{oc kV dc pm cd ct:Value}
  (a:W.nsIn K mainGlobals x=some (some (.ref f))) (l:K.lookup f=some ⟨oc,od,.func (fnX x st kV dc pm an cd ct),sl⟩) (c:W.codeIn K cd x=true) (k:W.keepIn K (.ref f)=true) (hp:ps.length=3)
  (b:∀ (kV dc pm:Value) (an:Option Addr) (cd ct a0 a1 a2:Value),bindArgs (fnX x st kV dc pm an cd ct) ⟨[a0,a1,a2],[]⟩=pure (ps.zip [a0,a1,a2])):Lies K x st ps:=⟨f,_,qa5a l c k,a,(qa5a l c k).binds fun kV dc pm an cd ct us hl=>by
  rw [hp] at hl
  obtain⟨a0,u0,rfl,h0⟩:=usS hl
  obtain⟨a1,u1,rfl,h1⟩:=usS h0
  obtain⟨a2,u2,rfl,h2⟩:=usS h1
  obtain rfl:=List.eq_nil_of_length_eq_zero h2
  exact b kV dc pm an cd ct a0 a1 a2⟩
theorem qb2z{K:W.Frag}{x:Str}{st:Stmt}{ps:List Str}{f:Addr}{od an:Option Addr}{sl:Array (Option Value)}{oc kV dc pm cd ct:Value}
  (a:W.nsIn K mainGlobals x=some (some (.ref f))) (l:K.lookup f=some ⟨oc,od,.func (fnX x st kV dc pm an cd ct),sl⟩) (c:W.codeIn K cd x=true) (k:W.keepIn K (.ref f)=true) (hp:ps.length=4)
  (b:∀ (kV dc pm:Value) (an:Option Addr) (cd ct a0 a1 a2 a3:Value),bindArgs (fnX x st kV dc pm an cd ct) ⟨[a0,a1,a2,a3],[]⟩=pure (ps.zip [a0,a1,a2,a3])):Lies K x st ps:=⟨f,_,qa5a l c k,a,(qa5a l c k).binds fun kV dc pm an cd ct us hl=>by
  rw [hp] at hl
  obtain⟨a0,u0,rfl,h0⟩:=usS hl
  obtain⟨a1,u1,rfl,h1⟩:=usS h0
  obtain⟨a2,u2,rfl,h2⟩:=usS h1
  obtain⟨a3,u3,rfl,h3⟩:=usS h2
  obtain rfl:=List.eq_nil_of_length_eq_zero h3
  exact b kV dc pm an cd ct a0 a1 a2 a3⟩
theorem qc2s{K:W.Frag}{x:Str}{st:Stmt}{ps:List Str}{f:Addr}{od an:Option Addr}{sl:Array (Option Value)}{oc kV dc pm cd ct:Value}
  (a:W.nsIn K mainGlobals x=some (some (.ref f))) (l:K.lookup f=some ⟨oc,od,.func (fnX x st kV dc pm an cd ct),sl⟩) (c:W.codeIn K cd x=true) (k:W.keepIn K (.ref f)=true) (hp:ps.length=5)
  (b:∀ (kV dc pm:Value) (an:Option Addr) (cd ct a0 a1 a2 a3 a4:Value),bindArgs (fnX x st kV dc pm an cd ct) ⟨[a0,a1,a2,a3,a4],[]⟩=pure (ps.zip [a0,a1,a2,a3,a4])):Lies K x st ps:=⟨f,_,qa5a l c k,a,(qa5a l c k).binds fun kV dc pm an cd ct us hl=>by
  rw [hp] at hl
  obtain⟨a0,u0,rfl,h0⟩:=usS hl
  obtain⟨a1,u1,rfl,h1⟩:=usS h0
  obtain⟨a2,u2,rfl,h2⟩:=usS h1
  obtain⟨a3,u3,rfl,h3⟩:=usS h2
  obtain⟨a4,u4,rfl,h4⟩:=usS h3
  obtain rfl:=List.eq_nil_of_length_eq_zero h4
  exact b kV dc pm an cd ct a0 a1 a2 a3 a4⟩
theorem all_mk{P:Program}{w:World}{K:W.Frag}{h:Heap}{mg:Str->Option Value}{fa:Addr}(X:K.In h)(G:h.Ns mainGlobals mg) (hfa:mg "law" = some (.ref fa))
  (h_is_name:Lies K "is_name" qa8h ["thing"])
  (h_are_rising_names:Lies K "are_rising_names" qa3w ["things"])
  (h_is_hands:Lies K "is_hands" qa6l ["thing"])
  (h_is_step:Lies K "is_step" qb0w ["thing"])
  (h_is_sentence:Lies K "is_sentence" qa5u ["thing"])
  (h_is_formed:Lies K "is_formed" qa7t ["thing"])
  (h_head_of:Lies K "head_of" qb0x ["thing"])
  (h_has_form:Lies K "has_form" qa9h ["thing","form"])
  (h_is_taken:Lies K "is_taken" qa9g ["thing","wanted"])
  (h_parts_of:Lies K "parts_of" qa6m ["sentence"])
  (h_is_binder:Lies K "is_binder" qa4z ["sentence"])
  (h_may_stand:Lies K "may_stand" qa7w ["sentence","around"])
  (h_may_begin:Lies K "may_begin" qa7v ["head","around"])
  (h_may_take:Lies K "may_take" qa9j ["head","taken","around"])
  (h_may_wish:Lies K "may_wish" qa9i ["name","around"])
  (h_names_bound:Lies K "names_bound" qa4t ["around"])
  (h_unfolded:Lies K "unfolded" qa9k ["sentence"])
  (h_with_wishes:Lies K "with_wishes" qa4u ["thing","binder"])
  (h_law_cell_at:Lies K "_law_cell_at" qa4s ["_law_script","_law_k"])
  (h_law_by:Lies K "_law_by" qb2p ["_law_script","_law_k","_law_many_here"])
  (h_law_next:Lies K "_law_next" qa9a ["_law_tape","_law_many_here"])
  (h_law_some:Lies K "_law_some" qa9d ["_law_tape","_law_many_here","_law_few"])
  (h_law_parts:Lies K "_law_parts" qa7o ["_law_tape","_law_many_here"])
  (h_law_world:Lies K "_law_world" qa7p ["_law_tape","_law_most"])
  (h_law_hands:Lies K "_law_hands" qa5q ["_law_tape"])
  (h_law_step:Lies K "_law_step" qa6k ["_law_tape"])
  (h_law_leaf:Lies K "_law_leaf" qa9f ["_law_tape","_law_free"])
  (h_law_sentence:Lies K "_law_sentence" qa3i ["_law_tape","_law_size","_law_free","_law_binders","_law_shows"])
  (h_law_part_of:Lies K "_law_part_of" qa5t ["_law_world_here","_law_hand","_law_p"])
  (h_law_blind:Lies K "_law_blind" qa7q ["_law_world_here","_law_room","_law_hand","_law_p","_law_q"])
  (h_law_leads:Lies K "_law_leads" qa7r ["_law_world_here","_law_room","_law_step_here","_law_p"])
  (h_law_wished:Lies K "_law_wished" qa6n ["_law_world_here","_law_room","_law_sentence_here","_law_wishes"])
  (h_law_truths:Lies K "_law_truths" qa4h ["_law_world_here","_law_room","_law_sentence_here","_law_wishes"])
  (h_law_stepped:Lies K "_law_stepped" qa5v ["_law_world_here","_law_room","_law_sentence_here","_law_truths_here"])
  (h_law_within:Lies K "_law_within" qa4i ["_law_sentence_here"])
  (h_law_many:Lies K "_law_many" qa6p ["_law_sentence_here"])
  (h_law_put_in:Lies K "_law_put_in" qa5f ["_law_sentence_here","_law_name","_law_whole"])
  (h_law_fits:Lies K "_law_fits" qa6q ["_law_sentence_here","_law_names","_law_shows"])
  (h_law_binding:Lies K "_law_binding" qa5w ["_law_tape","_law_most"])
  (h_law_right:Lies K "_law_right" qa7y ["_law_sentence_here","_law_worlds"])
  {f_law:Addr} {od_law an_law:Option Addr} {sl_law:Array (Option Value)} {oc_law kV_law dc_law pm_law cd_law ct_law:Value}
  (a_law:W.nsIn K mainGlobals "law" = some (some (.ref f_law))) (l_law:K.lookup f_law=some ⟨oc_law,od_law,.func (W.fnOf "law" "law" (qa6v qa9n) (qa4v qa9n) (qa0k qa9n) .none kV_law dc_law pm_law an_law cd_law ct_law),sl_law⟩) (c_law:W.codeIn K cd_law "law" = true) (k_law:W.keepIn K (.ref f_law)=true)
  (z_len:W.nsIn K mainGlobals "len" = some none)
  (z_range:W.nsIn K mainGlobals "range" = some none)
  (z_tuple:W.nsIn K mainGlobals "tuple" = some none)
  (z_bool:W.nsIn K mainGlobals "bool" = some none)
  (z_isinstance:W.nsIn K mainGlobals "isinstance" = some none)
  (z_reversed:W.nsIn K mainGlobals "reversed" = some none)
  (z_max:W.nsIn K mainGlobals "max" = some none)
  (z_zip:W.nsIn K mainGlobals "zip" = some none)
  (z_list:W.nsIn K mainGlobals "list" = some none)
  (z_str:W.nsIn K mainGlobals "str" = some none)
  (z_enumerate:W.nsIn K mainGlobals "enumerate" = some none)
  (z_dict:W.nsIn K mainGlobals "dict" = some none)
  (z_sum:W.nsIn K mainGlobals "sum" = some none)
  (z_int:W.nsIn K mainGlobals "int" = some none)
  (z_min:W.nsIn K mainGlobals "min" = some none)
  (z_sorted:W.nsIn K mainGlobals "sorted" = some none)
  (z_all:W.nsIn K mainGlobals "all" = some none)
  (z_set:W.nsIn K mainGlobals "set" = some none)
  (z_repr:W.nsIn K mainGlobals "repr" = some none)
  {aT_FORMS:Addr} {ep_FORMS:Nat} {kt_FORMS_0 kt_FORMS_1 kt_FORMS_2 kt_FORMS_3 kt_FORMS_4 kt_FORMS_5 kt_FORMS_6 kt_FORMS_7 kt_FORMS_8 kt_FORMS_9:Tok} {p_FORMS_0 p_FORMS_1 p_FORMS_2 p_FORMS_3 p_FORMS_4 p_FORMS_5 p_FORMS_6 p_FORMS_7 p_FORMS_8 p_FORMS_9:Addr}
  (a_FORMS:W.nsIn K mainGlobals "FORMS" = some (some (.ref aT_FORMS)))
  (l_FORMS:K.lookup aT_FORMS=some ⟨.type "dict",none,.dict #[⟨PyData.keyHash w.params "fact",.str "fact" kt_FORMS_0,.ref p_FORMS_0⟩,⟨PyData.keyHash w.params "wish",.str "wish" kt_FORMS_1,.ref p_FORMS_1⟩,⟨PyData.keyHash w.params "not",.str "not" kt_FORMS_2,.ref p_FORMS_2⟩,⟨PyData.keyHash w.params "and",.str "and" kt_FORMS_3,.ref p_FORMS_3⟩,⟨PyData.keyHash w.params "or",.str "or" kt_FORMS_4,.ref p_FORMS_4⟩,⟨PyData.keyHash w.params "some",.str "some" kt_FORMS_5,.ref p_FORMS_5⟩,⟨PyData.keyHash w.params "every",.str "every" kt_FORMS_6,.ref p_FORMS_6⟩,⟨PyData.keyHash w.params "least",.str "least" kt_FORMS_7,.ref p_FORMS_7⟩,⟨PyData.keyHash w.params "most",.str "most" kt_FORMS_8,.ref p_FORMS_8⟩,⟨PyData.keyHash w.params "show",.str "show" kt_FORMS_9,.ref p_FORMS_9⟩] ep_FORMS,#[]⟩)
  {n_FORMS_0:Nat} {slp_FORMS_0:Array (Option Value)} {tk_FORMS_0_0 tk_FORMS_0_1:Tok} (l_FORMS_0:K.lookup p_FORMS_0=some ⟨.type "tuple",none,.seq #[.str "name" tk_FORMS_0_0,.int 0 tk_FORMS_0_1] n_FORMS_0,slp_FORMS_0⟩)
  {n_FORMS_1:Nat} {slp_FORMS_1:Array (Option Value)} {tk_FORMS_1_0 tk_FORMS_1_1:Tok} (l_FORMS_1:K.lookup p_FORMS_1=some ⟨.type "tuple",none,.seq #[.str "name" tk_FORMS_1_0,.int 0 tk_FORMS_1_1] n_FORMS_1,slp_FORMS_1⟩)
  {n_FORMS_2:Nat} {slp_FORMS_2:Array (Option Value)} {tk_FORMS_2_0 tk_FORMS_2_1:Tok} (l_FORMS_2:K.lookup p_FORMS_2=some ⟨.type "tuple",none,.seq #[.str "" tk_FORMS_2_0,.int 1 tk_FORMS_2_1] n_FORMS_2,slp_FORMS_2⟩)
  {n_FORMS_3:Nat} {slp_FORMS_3:Array (Option Value)} {tk_FORMS_3_0 tk_FORMS_3_1:Tok} (l_FORMS_3:K.lookup p_FORMS_3=some ⟨.type "tuple",none,.seq #[.str "" tk_FORMS_3_0,.int 2 tk_FORMS_3_1] n_FORMS_3,slp_FORMS_3⟩)
  {n_FORMS_4:Nat} {slp_FORMS_4:Array (Option Value)} {tk_FORMS_4_0 tk_FORMS_4_1:Tok} (l_FORMS_4:K.lookup p_FORMS_4=some ⟨.type "tuple",none,.seq #[.str "" tk_FORMS_4_0,.int 2 tk_FORMS_4_1] n_FORMS_4,slp_FORMS_4⟩)
  {n_FORMS_5:Nat} {slp_FORMS_5:Array (Option Value)} {tk_FORMS_5_0 tk_FORMS_5_1:Tok} (l_FORMS_5:K.lookup p_FORMS_5=some ⟨.type "tuple",none,.seq #[.str "step" tk_FORMS_5_0,.int 1 tk_FORMS_5_1] n_FORMS_5,slp_FORMS_5⟩)
  {n_FORMS_6:Nat} {slp_FORMS_6:Array (Option Value)} {tk_FORMS_6_0 tk_FORMS_6_1:Tok} (l_FORMS_6:K.lookup p_FORMS_6=some ⟨.type "tuple",none,.seq #[.str "step" tk_FORMS_6_0,.int 1 tk_FORMS_6_1] n_FORMS_6,slp_FORMS_6⟩)
  {n_FORMS_7:Nat} {slp_FORMS_7:Array (Option Value)} {tk_FORMS_7_0 tk_FORMS_7_1:Tok} (l_FORMS_7:K.lookup p_FORMS_7=some ⟨.type "tuple",none,.seq #[.str "name" tk_FORMS_7_0,.int 1 tk_FORMS_7_1] n_FORMS_7,slp_FORMS_7⟩)
  {n_FORMS_8:Nat} {slp_FORMS_8:Array (Option Value)} {tk_FORMS_8_0 tk_FORMS_8_1:Tok} (l_FORMS_8:K.lookup p_FORMS_8=some ⟨.type "tuple",none,.seq #[.str "name" tk_FORMS_8_0,.int 1 tk_FORMS_8_1] n_FORMS_8,slp_FORMS_8⟩)
  {n_FORMS_9:Nat} {slp_FORMS_9:Array (Option Value)} {tk_FORMS_9_0 tk_FORMS_9_1:Tok} (l_FORMS_9:K.lookup p_FORMS_9=some ⟨.type "tuple",none,.seq #[.str "hands" tk_FORMS_9_0,.int 2 tk_FORMS_9_1] n_FORMS_9,slp_FORMS_9⟩)
  (sy_FORMS:(aT_FORMS == sysModules)=false)
  {tk_LONGEST_NAME:Tok} (a_LONGEST_NAME:W.nsIn K mainGlobals "LONGEST_NAME" = some (some (.int 8 tk_LONGEST_NAME)))
  {tk_MOST_HANDS:Tok} (a_MOST_HANDS:W.nsIn K mainGlobals "MOST_HANDS" = some (some (.int 4 tk_MOST_HANDS)))
  {tk_MOST_THINGS:Tok} (a_MOST_THINGS:W.nsIn K mainGlobals "MOST_THINGS" = some (some (.int 60 tk_MOST_THINGS)))
  {tk_MOST_BINDERS:Tok} (a_MOST_BINDERS:W.nsIn K mainGlobals "MOST_BINDERS" = some (some (.int 4 tk_MOST_BINDERS)))
  {tk_MOST_SHOWS:Tok} (a_MOST_SHOWS:W.nsIn K mainGlobals "MOST_SHOWS" = some (some (.int 3 tk_MOST_SHOWS)))
  : ∃ fd:FuncData,(∀ (s:Shared) (v:Value),BindsTo s fd ⟨[v],[]⟩ [("_law_script",v)])/\∀ base:Heap,K.In base->base.Ns mainGlobals mg->FnOk P w K mg base CX0 166 fa fd ["_law_script"] (spLaw K):=by
 have e:=hfa.symm.trans (W.mg_of X G a_law)
 cases e
 obtain⟨f_is_name,_,F_is_name,qd0p,b_is_name⟩:=h_is_name
 have d_is_name:Def K mg _ _ _ _ _:=⟨F_is_name,b_is_name,W.mg_of X G qd0p⟩
 obtain⟨f_are_rising_names,_,F_are_rising_names,qb4f,b_are_rising_names⟩:=h_are_rising_names
 have d_are_rising_names:Def K mg _ _ _ _ _:=⟨F_are_rising_names,b_are_rising_names,W.mg_of X G qb4f⟩
 obtain⟨f_is_hands,_,F_is_hands,qc7x,b_is_hands⟩:=h_is_hands
 have d_is_hands:Def K mg _ _ _ _ _:=⟨F_is_hands,b_is_hands,W.mg_of X G qc7x⟩
 obtain⟨f_is_step,_,F_is_step,qd0q,b_is_step⟩:=h_is_step
 have d_is_step:Def K mg _ _ _ _ _:=⟨F_is_step,b_is_step,W.mg_of X G qd0q⟩
 obtain⟨f_is_sentence,_,F_is_sentence,qb9o,b_is_sentence⟩:=h_is_sentence
 have d_is_sentence:Def K mg _ _ _ _ _:=⟨F_is_sentence,b_is_sentence,W.mg_of X G qb9o⟩
 obtain⟨f_is_formed,_,F_is_formed,qc4a,b_is_formed⟩:=h_is_formed
 have d_is_formed:Def K mg _ _ _ _ _:=⟨F_is_formed,b_is_formed,W.mg_of X G qc4a⟩
 obtain⟨f_head_of,_,F_head_of,qd0r,b_head_of⟩:=h_head_of
 have d_head_of:Def K mg _ _ _ _ _:=⟨F_head_of,b_head_of,W.mg_of X G qd0r⟩
 obtain⟨f_has_form,_,F_has_form,qc7y,b_has_form⟩:=h_has_form
 have d_has_form:Def K mg _ _ _ _ _:=⟨F_has_form,b_has_form,W.mg_of X G qc7y⟩
 obtain⟨f_is_taken,_,F_is_taken,qc7z,b_is_taken⟩:=h_is_taken
 have d_is_taken:Def K mg _ _ _ _ _:=⟨F_is_taken,b_is_taken,W.mg_of X G qc7z⟩
 obtain⟨f_parts_of,_,F_parts_of,qc8a,b_parts_of⟩:=h_parts_of
 have d_parts_of:Def K mg _ _ _ _ _:=⟨F_parts_of,b_parts_of,W.mg_of X G qc8a⟩
 obtain⟨f_is_binder,_,F_is_binder,qc4b,b_is_binder⟩:=h_is_binder
 have d_is_binder:Def K mg _ _ _ _ _:=⟨F_is_binder,b_is_binder,W.mg_of X G qc4b⟩
 obtain⟨f_may_stand,_,F_may_stand,qc4c,b_may_stand⟩:=h_may_stand
 have d_may_stand:Def K mg _ _ _ _ _:=⟨F_may_stand,b_may_stand,W.mg_of X G qc4c⟩
 obtain⟨f_may_begin,_,F_may_begin,qc4d,b_may_begin⟩:=h_may_begin
 have d_may_begin:Def K mg _ _ _ _ _:=⟨F_may_begin,b_may_begin,W.mg_of X G qc4d⟩
 obtain⟨f_may_take,_,F_may_take,qc8b,b_may_take⟩:=h_may_take
 have d_may_take:Def K mg _ _ _ _ _:=⟨F_may_take,b_may_take,W.mg_of X G qc8b⟩
 obtain⟨f_may_wish,_,F_may_wish,qc8c,b_may_wish⟩:=h_may_wish
 have d_may_wish:Def K mg _ _ _ _ _:=⟨F_may_wish,b_may_wish,W.mg_of X G qc8c⟩
 obtain⟨f_names_bound,_,F_names_bound,qb9p,b_names_bound⟩:=h_names_bound
 have d_names_bound:Def K mg _ _ _ _ _:=⟨F_names_bound,b_names_bound,W.mg_of X G qb9p⟩
 obtain⟨f_unfolded,_,F_unfolded,a_unfolded,b_unfolded⟩:=h_unfolded
 have d_unfolded:Def K mg _ _ _ _ _:=⟨F_unfolded,b_unfolded,W.mg_of X G a_unfolded⟩
 obtain⟨f_with_wishes,_,F_with_wishes,a_with_wishes,b_with_wishes⟩:=h_with_wishes
 have d_with_wishes:Def K mg _ _ _ _ _:=⟨F_with_wishes,b_with_wishes,W.mg_of X G a_with_wishes⟩
 obtain⟨qd4u,_,qb9q,qb9r,b_law_cell_at⟩:=h_law_cell_at
 have qa3s:Def K mg _ _ _ _ _:=⟨qb9q,b_law_cell_at,W.mg_of X G qb9r⟩
 obtain⟨f_law_by,_,qd4s,qd4t,b_law_by⟩:=h_law_by
 have qb2q:Def K mg _ _ _ _ _:=⟨qd4s,b_law_by,W.mg_of X G qd4t⟩
 obtain⟨qc8d,_,qb7e,qc8e,b_law_next⟩:=h_law_next
 have qa0o:Def K mg _ _ _ _ _:=⟨qb7e,b_law_next,W.mg_of X G qc8e⟩
 obtain⟨qc8f,_,qb7f,qc8g,b_law_some⟩:=h_law_some
 have qa9e:Def K mg _ _ _ _ _:=⟨qb7f,b_law_some,W.mg_of X G qc8g⟩
 obtain⟨qc4e,_,qb5h,qc4f,b_law_parts⟩:=h_law_parts
 have qb1b:Def K mg _ _ _ _ _:=⟨qb5h,b_law_parts,W.mg_of X G qc4f⟩
 obtain⟨qc4g,_,qb5i,qc4h,b_law_world⟩:=h_law_world
 have qb1e:Def K mg _ _ _ _ _:=⟨qb5i,b_law_world,W.mg_of X G qc4h⟩
 obtain⟨qc4i,_,qb5j,qc4j,b_law_hands⟩:=h_law_hands
 have qa4y:Def K mg _ _ _ _ _:=⟨qb5j,b_law_hands,W.mg_of X G qc4j⟩
 obtain⟨qc8h,_,qb7g,qc8i,b_law_step⟩:=h_law_step
 have qa5k:Def K mg _ _ _ _ _:=⟨qb7g,b_law_step,W.mg_of X G qc8i⟩
 obtain⟨qc8j,_,qb7h,qc8k,b_law_leaf⟩:=h_law_leaf
 have qb2r:Def K mg _ _ _ _ _:=⟨qb7h,b_law_leaf,W.mg_of X G qc8k⟩
 obtain⟨qb8j,_,qb1z,qb8k,b_law_sentence⟩:=h_law_sentence
 have qa1g:Def K mg _ _ _ _ _:=⟨qb1z,b_law_sentence,W.mg_of X G qb8k⟩
 obtain⟨qb9s,_,qb3d,qb9t,b_law_part_of⟩:=h_law_part_of
 have qa8l:Def K mg _ _ _ _ _:=⟨qb3d,b_law_part_of,W.mg_of X G qb9t⟩
 obtain⟨qc4k,_,qb5k,qc4l,b_law_blind⟩:=h_law_blind
 have qa7s:Def K mg _ _ _ _ _:=⟨qb5k,b_law_blind,W.mg_of X G qc4l⟩
 obtain⟨qc4m,_,qb5l,qc4n,b_law_leads⟩:=h_law_leads
 have qb1d:Def K mg _ _ _ _ _:=⟨qb5l,b_law_leads,W.mg_of X G qc4n⟩
 obtain⟨qd4v,_,qb4g,qc2t,b_law_wished⟩:=h_law_wished
 have qb0m:Def K mg _ _ _ _ _:=⟨qb4g,b_law_wished,W.mg_of X G qc2t⟩
 obtain⟨qc2u,_,qb4h,qc2v,b_law_truths⟩:=h_law_truths
 have qa1t:Def K mg _ _ _ _ _:=⟨qb4h,b_law_truths,W.mg_of X G qc2v⟩
 obtain⟨qb9u,_,qb3e,qb9v,b_law_stepped⟩:=h_law_stepped
 have qa8m:Def K mg _ _ _ _ _:=⟨qb3e,b_law_stepped,W.mg_of X G qb9v⟩
 obtain⟨qc2w,_,qb4i,qc2x,b_law_within⟩:=h_law_within
 have qa2g:Def K mg _ _ _ _ _:=⟨qb4i,b_law_within,W.mg_of X G qc2x⟩
 obtain⟨qc8l,_,qb7i,qc8m,b_law_many⟩:=h_law_many
 have qa5l:Def K mg _ _ _ _ _:=⟨qb7i,b_law_many,W.mg_of X G qc8m⟩
 obtain⟨qc2y,_,qb4j,qc2z,b_law_put_in⟩:=h_law_put_in
 have qa4k:Def K mg _ _ _ _ _:=⟨qb4j,b_law_put_in,W.mg_of X G qc2z⟩
 obtain⟨qc8n,_,qb7j,qc8o,b_law_fits⟩:=h_law_fits
 have qa5m:Def K mg _ _ _ _ _:=⟨qb7j,b_law_fits,W.mg_of X G qc8o⟩
 obtain⟨qb9w,_,qb3f,qb9x,b_law_binding⟩:=h_law_binding
 have qa8o:Def K mg _ _ _ _ _:=⟨qb3f,b_law_binding,W.mg_of X G qb9x⟩
 obtain⟨qc4o,_,qb5m,qc4p,b_law_right⟩:=h_law_right
 have qa7z:Def K mg _ _ _ _ _:=⟨qb5m,b_law_right,W.mg_of X G qc4p⟩
 have F_law:=qa5a (st:=qa9n) l_law c_law k_law
 have B:Bl mg:=⟨W.mg_none_of X G z_len,W.mg_none_of X G z_range,W.mg_none_of X G z_tuple,W.mg_none_of X G z_bool,W.mg_none_of X G z_isinstance,W.mg_none_of X G z_reversed,W.mg_none_of X G z_max,W.mg_none_of X G z_zip,W.mg_none_of X G z_list,W.mg_none_of X G z_str,W.mg_none_of X G z_enumerate,W.mg_none_of X G z_dict,W.mg_none_of X G z_sum,W.mg_none_of X G z_int,W.mg_none_of X G z_min,W.mg_none_of X G z_sorted,W.mg_none_of X G z_all,W.mg_none_of X G z_set,W.mg_none_of X G z_repr⟩
 have e_FORMS_0:∀ (S:Addr->Prop) (H:Hp),AtD K H S (.tuple [.str "name",.int 0]) (.ref p_FORMS_0):=qa5o (vs:=[.str "name",.int 0]) l_FORMS_0 rfl rfl (by show 2 <= sizeLine;decide) (.cons ⟨_,rfl⟩ (.cons ⟨_,rfl⟩ .nil)) (fun S H=>by simp [qa0d,AtD])
 have e_FORMS_1:∀ (S:Addr->Prop) (H:Hp),AtD K H S (.tuple [.str "name",.int 0]) (.ref p_FORMS_1):=qa5o (vs:=[.str "name",.int 0]) l_FORMS_1 rfl rfl (by show 2 <= sizeLine;decide) (.cons ⟨_,rfl⟩ (.cons ⟨_,rfl⟩ .nil)) (fun S H=>by simp [qa0d,AtD])
 have e_FORMS_2:∀ (S:Addr->Prop) (H:Hp),AtD K H S (.tuple [.str "",.int 1]) (.ref p_FORMS_2):=qa5o (vs:=[.str "",.int 1]) l_FORMS_2 rfl rfl (by show 2 <= sizeLine;decide) (.cons ⟨_,rfl⟩ (.cons ⟨_,rfl⟩ .nil)) (fun S H=>by simp [qa0d,AtD])
 have e_FORMS_3:∀ (S:Addr->Prop) (H:Hp),AtD K H S (.tuple [.str "",.int 2]) (.ref p_FORMS_3):=qa5o (vs:=[.str "",.int 2]) l_FORMS_3 rfl rfl (by show 2 <= sizeLine;decide) (.cons ⟨_,rfl⟩ (.cons ⟨_,rfl⟩ .nil)) (fun S H=>by simp [qa0d,AtD])
 have e_FORMS_4:∀ (S:Addr->Prop) (H:Hp),AtD K H S (.tuple [.str "",.int 2]) (.ref p_FORMS_4):=qa5o (vs:=[.str "",.int 2]) l_FORMS_4 rfl rfl (by show 2 <= sizeLine;decide) (.cons ⟨_,rfl⟩ (.cons ⟨_,rfl⟩ .nil)) (fun S H=>by simp [qa0d,AtD])
 have e_FORMS_5:∀ (S:Addr->Prop) (H:Hp),AtD K H S (.tuple [.str "step",.int 1]) (.ref p_FORMS_5):=qa5o (vs:=[.str "step",.int 1]) l_FORMS_5 rfl rfl (by show 2 <= sizeLine;decide) (.cons ⟨_,rfl⟩ (.cons ⟨_,rfl⟩ .nil)) (fun S H=>by simp [qa0d,AtD])
 have e_FORMS_6:∀ (S:Addr->Prop) (H:Hp),AtD K H S (.tuple [.str "step",.int 1]) (.ref p_FORMS_6):=qa5o (vs:=[.str "step",.int 1]) l_FORMS_6 rfl rfl (by show 2 <= sizeLine;decide) (.cons ⟨_,rfl⟩ (.cons ⟨_,rfl⟩ .nil)) (fun S H=>by simp [qa0d,AtD])
 have e_FORMS_7:∀ (S:Addr->Prop) (H:Hp),AtD K H S (.tuple [.str "name",.int 1]) (.ref p_FORMS_7):=qa5o (vs:=[.str "name",.int 1]) l_FORMS_7 rfl rfl (by show 2 <= sizeLine;decide) (.cons ⟨_,rfl⟩ (.cons ⟨_,rfl⟩ .nil)) (fun S H=>by simp [qa0d,AtD])
 have e_FORMS_8:∀ (S:Addr->Prop) (H:Hp),AtD K H S (.tuple [.str "name",.int 1]) (.ref p_FORMS_8):=qa5o (vs:=[.str "name",.int 1]) l_FORMS_8 rfl rfl (by show 2 <= sizeLine;decide) (.cons ⟨_,rfl⟩ (.cons ⟨_,rfl⟩ .nil)) (fun S H=>by simp [qa0d,AtD])
 have e_FORMS_9:∀ (S:Addr->Prop) (H:Hp),AtD K H S (.tuple [.str "hands",.int 2]) (.ref p_FORMS_9):=qa5o (vs:=[.str "hands",.int 2]) l_FORMS_9 rfl rfl (by show 2 <= sizeLine;decide) (.cons ⟨_,rfl⟩ (.cons ⟨_,rfl⟩ .nil)) (fun S H=>by simp [qa0d,AtD])
 have ti_FORMS:TabI K w mg "FORMS" ["fact","wish","not","and","or","some","every","least","most","show"]:=⟨aT_FORMS,[("fact",.ref p_FORMS_0),("wish",.ref p_FORMS_1),("not",.ref p_FORMS_2),("and",.ref p_FORMS_3),("or",.ref p_FORMS_4),("some",.ref p_FORMS_5),("every",.ref p_FORMS_6),("least",.ref p_FORMS_7),("most",.ref p_FORMS_8),("show",.ref p_FORMS_9)],W.mg_of X G a_FORMS,⟨show(["fact","wish","not","and","or","some","every","least","most","show"]:List Str).Nodup by decide +kernel,_,_,l_FORMS,(.cons (by rfl) (.cons (by rfl) (.cons (by rfl) (.cons (by rfl) (.cons (by rfl) (.cons (by rfl) (.cons (by rfl) (.cons (by rfl) (.cons (by rfl) (.cons (by rfl) .nil))))))))))⟩,sy_FORMS,rfl⟩
 have t_FORMS:Tab K w mg "FORMS" qb6y:=by
  refine⟨aT_FORMS,[("fact",.ref p_FORMS_0),("wish",.ref p_FORMS_1),("not",.ref p_FORMS_2),("and",.ref p_FORMS_3),("or",.ref p_FORMS_4),("some",.ref p_FORMS_5),("every",.ref p_FORMS_6),("least",.ref p_FORMS_7),("most",.ref p_FORMS_8),("show",.ref p_FORMS_9)],W.mg_of X G a_FORMS,⟨show(["fact","wish","not","and","or","some","every","least","most","show"]:List Str).Nodup by decide +kernel,_,_,l_FORMS,(.cons (by rfl) (.cons (by rfl) (.cons (by rfl) (.cons (by rfl) (.cons (by rfl) (.cons (by rfl) (.cons (by rfl) (.cons (by rfl) (.cons (by rfl) (.cons (by rfl) .nil))))))))))⟩,?_⟩
  refine tab_all (K:=K) (l:=[("fact",.tuple [.str "name",.int 0],.ref p_FORMS_0),("wish",.tuple [.str "name",.int 0],.ref p_FORMS_1),("not",.tuple [.str "",.int 1],.ref p_FORMS_2),("and",.tuple [.str "",.int 2],.ref p_FORMS_3),("or",.tuple [.str "",.int 2],.ref p_FORMS_4),("some",.tuple [.str "step",.int 1],.ref p_FORMS_5),("every",.tuple [.str "step",.int 1],.ref p_FORMS_6),("least",.tuple [.str "name",.int 1],.ref p_FORMS_7),("most",.tuple [.str "name",.int 1],.ref p_FORMS_8),("show",.tuple [.str "hands",.int 2],.ref p_FORMS_9)]) (fun q hq=>?_)
  simp only [List.mem_cons,List.not_mem_nil,or_false] at hq
  rcases hq with rfl | rfl | rfl | rfl | rfl | rfl | rfl | rfl | rfl | rfl
  ·exact e_FORMS_0
  ·exact e_FORMS_1
  ·exact e_FORMS_2
  ·exact e_FORMS_3
  ·exact e_FORMS_4
  ·exact e_FORMS_5
  ·exact e_FORMS_6
  ·exact e_FORMS_7
  ·exact e_FORMS_8
  ·exact e_FORMS_9
 have m_LONGEST_NAME:∃ t,mg "LONGEST_NAME" = some (.int 8 t):=⟨_,W.mg_of X G a_LONGEST_NAME⟩
 have m_MOST_HANDS:∃ t,mg "MOST_HANDS" = some (.int 4 t):=⟨_,W.mg_of X G a_MOST_HANDS⟩
 have m_MOST_THINGS:∃ t,mg "MOST_THINGS" = some (.int 60 t):=⟨_,W.mg_of X G a_MOST_THINGS⟩
 have m_MOST_BINDERS:∃ t,mg "MOST_BINDERS" = some (.int 4 t):=⟨_,W.mg_of X G a_MOST_BINDERS⟩
 have m_MOST_SHOWS:∃ t,mg "MOST_SHOWS" = some (.int 3 t):=⟨_,W.mg_of X G a_MOST_SHOWS⟩
 refine⟨W.fnOf "law" "law" (qa6v qa9n) (qa4v qa9n) (qa0k qa9n) .none kV_law dc_law pm_law an_law cd_law ct_law,fun s v=>.of_eq rfl,fun base _ _=>?_⟩
 have gn:FnOk P w K mg base CX0 3 qc8d _ _ _:=ok_next qb7e B qa3s qb2q
 have gS:FnOk P w K mg base CX0 4 qc8f _ _ (spD K qc1w):=ok_some qb7f B qa0o gn
 have gP:FnOk P w K mg base CX0 4 qc4e _ _ (spD K qb7t):=qd3q qb5h B qa0o gn
 have gW:FnOk P w K mg base CX0 5 qc4g _ _ (spD K qb7u):=qd3r qb5i B qa0o (gn.mono (by decide:3 <= 4)) qa9e gS qb1b gP
 have gH:FnOk P w K mg base CX0 4 qc4i _ _ (spD K qb4r):=qd3s qb5j B qa0o gn
 have gX:FnOk P w K mg base CX0 5 qc8h _ _ (spD K qb6w):=ok_step qb7g B qa0o (gn.mono (by decide:3 <= 4)) qa4y gH
 have gF:FnOk P w K mg base CX0 4 qc8j _ _ (spD K qb6x):=ok_leaf qb7h B qa0o gn
 have gE:∀ m:Nat,FnOk P w K mg base CX0 (6 + m) qb8j _ _ (spD K (spSen m)):=fun m=>by
  induction m with
  | zero=>exact qa9v fun ls Q h=>by obtain⟨_,_,_,_,_,_,h1,h2,_⟩:=h;omega
  | succ m ih=>exact qc3p qb1z B qa0o qa4y qa5k qb2r qa1g (n:=6 + m) (gn.mono (by omega:3 <= 6 + m)) (gH.mono (by omega:4 <= 6 + m)) (gX.mono (by omega:5 <= 6 + m)) (gF.mono (by omega:4 <= 6 + m)) ih
 have gQ:FnOk P w K mg base CX0 30 qb9s _ _ (spD K qc2c):=qd3y qb3d B
 have gK:FnOk P w K mg base CX0 31 qc4k _ _ (spD K qb7w):=qd3z qb5k B qa8l gQ
 have gL:FnOk P w K mg base CX0 32 qc4m _ _ (spD K qb7x):=qd4a qb5l B qa7s gK
 have gZ:FnOk P w K mg base CX0 33 qb9u _ _ (spD K qb4e):=qc7u qb3e B qb1d gL
 have gR:∀ m:Nat,FnOk P w K mg base CX0 (34 + 2 * m) qc2u _ _ (spD K (spTr m)):=fun m=>by
  induction m with
  | zero=>exact qa9v fun ls Q h=>by obtain⟨_,_,a,_,_,_,hC,_⟩:=h;have:=qa4x a;have:=hC.sz;omega
  | succ m ih=>exact qd0n qb4h B (n:=34 + 2 * m + 1) qb0m (qd0m qb4g B qa1t ih) qa8m (gZ.mono (by omega:33 <= 34 + 2 * m + 1)) qa1t (ih.mono (by omega:34 + 2 * m <= 34 + 2 * m + 1))
 have h0:FnOk P w K mg base CX0 1 f_is_name _ _ (spD K qb2t):=qc7q F_is_name B m_LONGEST_NAME
 have hR:FnOk P w K mg base CX0 2 f_are_rising_names _ _ (spD K qc2f):=ok_rise F_are_rising_names B d_is_name h0
 have hH:FnOk P w K mg base CX0 3 f_is_hands _ _ (spD K qb0v):=qc3r F_is_hands B m_MOST_HANDS d_are_rising_names hR
 have hS:FnOk P w K mg base CX0 4 f_is_step _ _ (spD K qb5z):=qc7s F_is_step B d_is_hands hH
 have h1:FnOk P w K mg base CX0 1 f_head_of _ _ (spD K qc2g):=ok_head F_head_of B
 have h2:FnOk P w K mg base CX0 5 f_is_taken _ _ (spD K qb8b):=qd4d F_is_taken B d_is_name (h0.mono (by decide:1 <= 4)) d_is_step hS d_is_hands (hH.mono (by decide:3 <= 4))
 have h3:FnOk P w K mg base CX0 6 f_has_form _ _ (spD K qc2h):=ok_form F_has_form B d_is_taken h2
 have h4:FnOk P w K mg base CX0 7 f_is_formed _ _ (spD K qb6b):=qd0l F_is_formed B t_FORMS ti_FORMS d_head_of (h1.mono (by decide:1 <= 6)) d_has_form h3
 have h5:FnOk P w K mg base CX0 7 f_parts_of _ _ (spD K qb6z):=ok_kids F_parts_of B t_FORMS
 have h6:FnOk P w K mg base CX0 1 f_is_binder _ _ (spD K spIsB):=qc2j F_is_binder B
 have h7:FnOk P w K mg base CX0 2 f_names_bound _ _ (spD K qb4s):=qd4e F_names_bound B d_is_binder h6
 have h8:FnOk P w K mg base CX0 2 f_may_wish _ _ (spD K qb8c):=qd4f F_may_wish B d_is_binder h6
 have h9:FnOk P w K mg base CX0 3 f_may_begin _ _ (spD K qb8d):=qd4g F_may_begin B m_MOST_BINDERS m_MOST_SHOWS d_names_bound h7
 have i1:FnOk P w K mg base CX0 3 f_may_take _ _ (spD K qc2l):=ok_take F_may_take B d_names_bound h7 d_may_wish h8
 have i2:FnOk P w K mg base CX0 4 f_may_stand _ _ (spD K qb8e):=qd4h F_may_stand B d_may_begin h9 d_may_take i1
 have i3:FnOk P w K mg base CX0 8 f_is_sentence _ _ (spD K qc2o):=ok_sent F_is_sentence B m_MOST_THINGS d_is_formed h4 d_may_stand (i2.mono (by decide:4 <= 7)) d_parts_of h5
 have i4:∀ m:Nat,FnOk P w K mg base CX0 (7 + m) f_with_wishes _ _ (spD K (qb7c m)):=fun m=>by
  induction m with
  | zero=>exact qa9v fun ls Q h=>by obtain⟨a,_,_,_,_,hs,_⟩:=h;have:=qa4x a;omega
  | succ m ih=>exact ok_with F_with_wishes B d_parts_of (h5.mono (by omega:7 <= 7 + m)) d_with_wishes ih
 have i5:FnOk P w K mg base CX0 68 f_unfolded _ _ (spD K spUnf):=ok_unf F_unfolded B (n:=67) d_is_binder (h6.mono (by decide:1 <= 67)) d_with_wishes (i4 60) d_is_sentence (i3.mono (by decide:8 <= 67))
 have j1:FnOk P w K mg base CX0 1 qc2w _ _ (spD K qb0n):=qd0o qb4i B
 have j2:∀ m:Nat,FnOk P w K mg base CX0 (1 + m) qc2y _ _ (spD K (spPut m)):=fun m=>by
  induction m with
  | zero=>exact qa9v fun ls Q h=>by obtain⟨a,_,_,_,hs,_⟩:=h;have:=qa4x a;omega
  | succ m ih=>exact ok_put qb4j B qa2g (j1.mono (by omega:1 <= 1 + m)) qa4k ih
 have j3:∀ m:Nat,FnOk P w K mg base CX0 (1 + m) qc8l _ _ (spD K (qb4t m)):=fun m=>by
  induction m with
  | zero=>exact qa9v fun ls Q h=>by obtain⟨a,_,hs,_⟩:=h;have:=qc6b a;omega
  | succ m ih=>exact qd4o qb7i B qa2g (j1.mono (by omega:1 <= 1 + m)) qa5l ih
 have j5:∀ m:Nat,FnOk P w K mg base CX0 (1 + m) qc8n _ _ (spD K (spFit m)):=fun m=>by
  induction m with
  | zero=>exact qa9v fun ls Q h=>by obtain⟨a,_,_,_,hs,_⟩:=h;have:=qc6b a;omega
  | succ m ih=>exact ok_fits qb7j B qa2g (j1.mono (by omega:1 <= 1 + m)) qa5m ih
 have j6:FnOk P w K mg base CX0 47 qb9w _ _ (spD K qc2r):=qc7w qb3f B (n:=46) qa0o (gn.mono (by decide:3 <= 46)) qa1g (gE 40) qa5k (gX.mono (by decide:5 <= 46))
 have j4:FnOk P w K mg base CX0 164 qc4o _ _ (spD K qb8i):=qd4r qb5m B (n:=163) d_unfolded (i5.mono (by decide:68 <= 163)) qa4k ((j2 60).mono (by decide:1 + 60 <= 163)) qa5l ((j3 100).mono (by decide:1 + 100 <= 163)) qa5m ((j5 100).mono (by decide:1 + 100 <= 163)) qa1t ((gR 60).mono (by decide:34 + 2 * 60 <= 163))
 exact ok_law F_law B (n:=165) qa0o (gn.mono (by decide:3 <= 165)) qb1e (gW.mono (by decide:5 <= 165)) qa1g ((gE 40).mono (by decide:6 + 40 <= 165)) qa8o (j6.mono (by decide:47 <= 165)) qa7z (j4.mono (by decide:164 <= 165))
end K71
noncomputable def PySem.W.Fast.tw3892451112296477434:PySem.Program:=PySem.Challenge.pw_worldsay_k71_gone_through_once
theorem PySem.W.Fast.te3892451112296477434:PySem.Challenge.pw_worldsay_k71_gone_through_once=PySem.W.Fast.tw3892451112296477434:=rfl
theorem PySem.W.Fast.te18209721900249133132:True:=trivial
open PySem PySem.W PyProof.Rows
set_option maxRecDepth 100000 in
set_option maxHeartbeats 0 in
theorem PySem.Challenge.cw_worldsay_k71_gone_through_once_holds : PySem.Challenge.rw_worldsay_k71_gone_through_once.Holds := by
 w_on;o_law;k_head;(case hw=>w_witness2)
 k_fill
 refine L2.walk_of (l:=PySem.Challenge.rw_worldsay_k71_gone_through_once) (n:=63) (k:=166) (x:="_law_script") (CX:=fun _=>L2.CX0) (sp:=fun w=>L2.spLaw (_:PySem.W.Frag)) rfl (by decide) rfl ⟨rfl,by decide,by decide,rfl⟩ (fun w h Y=>PySem.W.kIn_of Y) ?F (fun w H a ns hl hO hS=>⟨a,ns,rfl,hS,hO,hl,fun _=>rfl⟩) (fun _ _ _ _ _ z=>z)
 case F =>
  intro w mg fa h KX G hmg
  refine' K71.all_mk KX G hmg ?h_is_name ?h_are_rising_names ?h_is_hands ?h_is_step ?h_is_sentence ?h_is_formed ?h_head_of ?h_has_form ?h_is_taken ?h_parts_of ?h_is_binder ?h_may_stand ?h_may_begin ?h_may_take ?h_may_wish ?h_names_bound ?h_unfolded ?h_with_wishes ?h_law_cell_at ?h_law_by ?h_law_next ?h_law_some ?h_law_parts ?h_law_world ?h_law_hands ?h_law_step ?h_law_leaf ?h_law_sentence ?h_law_part_of ?h_law_blind ?h_law_leads ?h_law_wished ?h_law_truths ?h_law_stepped ?h_law_within ?h_law_many ?h_law_put_in ?h_law_fits ?h_law_binding ?h_law_right ?a_law ?l_law ?c_law ?k_law ?z_len ?z_range ?z_tuple ?z_bool ?z_isinstance ?z_reversed ?z_max ?z_zip ?z_list ?z_str ?z_enumerate ?z_dict ?z_sum ?z_int ?z_min ?z_sorted ?z_all ?z_set ?z_repr ?a_FORMS ?l_FORMS ?l_FORMS_0 ?l_FORMS_1 ?l_FORMS_2 ?l_FORMS_3 ?l_FORMS_4 ?l_FORMS_5 ?l_FORMS_6 ?l_FORMS_7 ?l_FORMS_8 ?l_FORMS_9 ?sy_FORMS ?a_LONGEST_NAME ?a_MOST_HANDS ?a_MOST_THINGS ?a_MOST_BINDERS ?a_MOST_SHOWS
  (case h_is_name=>refine' K71.qa2k ?h_is_namea ?h_is_namel ?h_is_namec ?h_is_namek rfl (fun _ _ _ _ _ _ _  => rfl);(case h_is_namea=>k_is);(case h_is_namel=>k_is);(case h_is_namec=>k_is);(case h_is_namek=>k_is))
  (case h_are_rising_names=>refine' K71.qa2k ?h_are_rising_namesa ?h_are_rising_namesl ?h_are_rising_namesc ?h_are_rising_namesk rfl (fun _ _ _ _ _ _ _  => rfl);(case h_are_rising_namesa=>k_is);(case h_are_rising_namesl=>k_is);(case h_are_rising_namesc=>k_is);(case h_are_rising_namesk=>k_is))
  (case h_is_hands=>refine' K71.qa2k ?h_is_handsa ?h_is_handsl ?h_is_handsc ?h_is_handsk rfl (fun _ _ _ _ _ _ _  => rfl);(case h_is_handsa=>k_is);(case h_is_handsl=>k_is);(case h_is_handsc=>k_is);(case h_is_handsk=>k_is))
  (case h_is_step=>refine' K71.qa2k ?h_is_stepa ?h_is_stepl ?h_is_stepc ?h_is_stepk rfl (fun _ _ _ _ _ _ _  => rfl);(case h_is_stepa=>k_is);(case h_is_stepl=>k_is);(case h_is_stepc=>k_is);(case h_is_stepk=>k_is))
  (case h_is_sentence=>refine' K71.qa2k ?h_is_sentencea ?h_is_sentencel ?h_is_sentencec ?h_is_sentencek rfl (fun _ _ _ _ _ _ _  => rfl);(case h_is_sentencea=>k_is);(case h_is_sentencel=>k_is);(case h_is_sentencec=>k_is);(case h_is_sentencek=>k_is))
  (case h_is_formed=>refine' K71.qa2k ?h_is_formeda ?h_is_formedl ?h_is_formedc ?h_is_formedk rfl (fun _ _ _ _ _ _ _  => rfl);(case h_is_formeda=>k_is);(case h_is_formedl=>k_is);(case h_is_formedc=>k_is);(case h_is_formedk=>k_is))
  (case h_head_of=>refine' K71.qa2k ?h_head_ofa ?h_head_ofl ?h_head_ofc ?h_head_ofk rfl (fun _ _ _ _ _ _ _  => rfl);(case h_head_ofa=>k_is);(case h_head_ofl=>k_is);(case h_head_ofc=>k_is);(case h_head_ofk=>k_is))
  (case h_has_form=>refine' K71.qa3a ?h_has_forma ?h_has_forml ?h_has_formc ?h_has_formk rfl (fun _ _ _ _ _ _ _ _  => rfl);(case h_has_forma=>k_is);(case h_has_forml=>k_is);(case h_has_formc=>k_is);(case h_has_formk=>k_is))
  (case h_is_taken=>refine' K71.qa3a ?h_is_takena ?h_is_takenl ?h_is_takenc ?h_is_takenk rfl (fun _ _ _ _ _ _ _ _  => rfl);(case h_is_takena=>k_is);(case h_is_takenl=>k_is);(case h_is_takenc=>k_is);(case h_is_takenk=>k_is))
  (case h_parts_of=>refine' K71.qa2k ?h_parts_ofa ?h_parts_ofl ?h_parts_ofc ?h_parts_ofk rfl (fun _ _ _ _ _ _ _  => rfl);(case h_parts_ofa=>k_is);(case h_parts_ofl=>k_is);(case h_parts_ofc=>k_is);(case h_parts_ofk=>k_is))
  (case h_is_binder=>refine' K71.qa2k ?h_is_bindera ?h_is_binderl ?h_is_binderc ?h_is_binderk rfl (fun _ _ _ _ _ _ _  => rfl);(case h_is_bindera=>k_is);(case h_is_binderl=>k_is);(case h_is_binderc=>k_is);(case h_is_binderk=>k_is))
  (case h_may_stand=>refine' K71.qa3a ?h_may_standa ?h_may_standl ?h_may_standc ?h_may_standk rfl (fun _ _ _ _ _ _ _ _  => rfl);(case h_may_standa=>k_is);(case h_may_standl=>k_is);(case h_may_standc=>k_is);(case h_may_standk=>k_is))
  (case h_may_begin=>refine' K71.qa3a ?h_may_begina ?h_may_beginl ?h_may_beginc ?h_may_begink rfl (fun _ _ _ _ _ _ _ _  => rfl);(case h_may_begina=>k_is);(case h_may_beginl=>k_is);(case h_may_beginc=>k_is);(case h_may_begink=>k_is))
  (case h_may_take=>refine' K71.qa7i ?h_may_takea ?h_may_takel ?h_may_takec ?h_may_takek rfl (fun _ _ _ _ _ _ _ _ _  => rfl);(case h_may_takea=>k_is);(case h_may_takel=>k_is);(case h_may_takec=>k_is);(case h_may_takek=>k_is))
  (case h_may_wish=>refine' K71.qa3a ?h_may_wisha ?h_may_wishl ?h_may_wishc ?h_may_wishk rfl (fun _ _ _ _ _ _ _ _  => rfl);(case h_may_wisha=>k_is);(case h_may_wishl=>k_is);(case h_may_wishc=>k_is);(case h_may_wishk=>k_is))
  (case h_names_bound=>refine' K71.qa2k ?h_names_bounda ?h_names_boundl ?h_names_boundc ?h_names_boundk rfl (fun _ _ _ _ _ _ _  => rfl);(case h_names_bounda=>k_is);(case h_names_boundl=>k_is);(case h_names_boundc=>k_is);(case h_names_boundk=>k_is))
  (case h_unfolded=>refine' K71.qa2k ?h_unfoldeda ?h_unfoldedl ?h_unfoldedc ?h_unfoldedk rfl (fun _ _ _ _ _ _ _  => rfl);(case h_unfoldeda=>k_is);(case h_unfoldedl=>k_is);(case h_unfoldedc=>k_is);(case h_unfoldedk=>k_is))
  (case h_with_wishes=>refine' K71.qa3a ?h_with_wishesa ?h_with_wishesl ?h_with_wishesc ?h_with_wishesk rfl (fun _ _ _ _ _ _ _ _  => rfl);(case h_with_wishesa=>k_is);(case h_with_wishesl=>k_is);(case h_with_wishesc=>k_is);(case h_with_wishesk=>k_is))
  (case h_law_cell_at=>refine' K71.qa3a ?h_law_cell_ata ?h_law_cell_atl ?h_law_cell_atc ?h_law_cell_atk rfl (fun _ _ _ _ _ _ _ _  => rfl);(case h_law_cell_ata=>k_is);(case h_law_cell_atl=>k_is);(case h_law_cell_atc=>k_is);(case h_law_cell_atk=>k_is))
  (case h_law_by=>refine' K71.qa7i ?h_law_bya ?h_law_byl ?h_law_byc ?h_law_byk rfl (fun _ _ _ _ _ _ _ _ _  => rfl);(case h_law_bya=>k_is);(case h_law_byl=>k_is);(case h_law_byc=>k_is);(case h_law_byk=>k_is))
  (case h_law_next=>refine' K71.qa3a ?h_law_nexta ?h_law_nextl ?h_law_nextc ?h_law_nextk rfl (fun _ _ _ _ _ _ _ _  => rfl);(case h_law_nexta=>k_is);(case h_law_nextl=>k_is);(case h_law_nextc=>k_is);(case h_law_nextk=>k_is))
  (case h_law_some=>refine' K71.qa7i ?h_law_somea ?h_law_somel ?h_law_somec ?h_law_somek rfl (fun _ _ _ _ _ _ _ _ _  => rfl);(case h_law_somea=>k_is);(case h_law_somel=>k_is);(case h_law_somec=>k_is);(case h_law_somek=>k_is))
  (case h_law_parts=>refine' K71.qa3a ?h_law_partsa ?h_law_partsl ?h_law_partsc ?h_law_partsk rfl (fun _ _ _ _ _ _ _ _  => rfl);(case h_law_partsa=>k_is);(case h_law_partsl=>k_is);(case h_law_partsc=>k_is);(case h_law_partsk=>k_is))
  (case h_law_world=>refine' K71.qa3a ?h_law_worlda ?h_law_worldl ?h_law_worldc ?h_law_worldk rfl (fun _ _ _ _ _ _ _ _  => rfl);(case h_law_worlda=>k_is);(case h_law_worldl=>k_is);(case h_law_worldc=>k_is);(case h_law_worldk=>k_is))
  (case h_law_hands=>refine' K71.qa2k ?h_law_handsa ?h_law_handsl ?h_law_handsc ?h_law_handsk rfl (fun _ _ _ _ _ _ _  => rfl);(case h_law_handsa=>k_is);(case h_law_handsl=>k_is);(case h_law_handsc=>k_is);(case h_law_handsk=>k_is))
  (case h_law_step=>refine' K71.qa2k ?h_law_stepa ?h_law_stepl ?h_law_stepc ?h_law_stepk rfl (fun _ _ _ _ _ _ _  => rfl);(case h_law_stepa=>k_is);(case h_law_stepl=>k_is);(case h_law_stepc=>k_is);(case h_law_stepk=>k_is))
  (case h_law_leaf=>refine' K71.qa3a ?h_law_leafa ?h_law_leafl ?h_law_leafc ?h_law_leafk rfl (fun _ _ _ _ _ _ _ _  => rfl);(case h_law_leafa=>k_is);(case h_law_leafl=>k_is);(case h_law_leafc=>k_is);(case h_law_leafk=>k_is))
  (case h_law_sentence=>refine' K71.qc2s ?h_law_sentencea ?h_law_sentencel ?h_law_sentencec ?h_law_sentencek rfl (fun _ _ _ _ _ _ _ _ _ _ _  => rfl);(case h_law_sentencea=>k_is);(case h_law_sentencel=>k_is);(case h_law_sentencec=>k_is);(case h_law_sentencek=>k_is))
  (case h_law_part_of=>refine' K71.qa7i ?h_law_part_ofa ?h_law_part_ofl ?h_law_part_ofc ?h_law_part_ofk rfl (fun _ _ _ _ _ _ _ _ _  => rfl);(case h_law_part_ofa=>k_is);(case h_law_part_ofl=>k_is);(case h_law_part_ofc=>k_is);(case h_law_part_ofk=>k_is))
  (case h_law_blind=>refine' K71.qc2s ?h_law_blinda ?h_law_blindl ?h_law_blindc ?h_law_blindk rfl (fun _ _ _ _ _ _ _ _ _ _ _  => rfl);(case h_law_blinda=>k_is);(case h_law_blindl=>k_is);(case h_law_blindc=>k_is);(case h_law_blindk=>k_is))
  (case h_law_leads=>refine' K71.qb2z ?h_law_leadsa ?h_law_leadsl ?h_law_leadsc ?h_law_leadsk rfl (fun _ _ _ _ _ _ _ _ _ _  => rfl);(case h_law_leadsa=>k_is);(case h_law_leadsl=>k_is);(case h_law_leadsc=>k_is);(case h_law_leadsk=>k_is))
  (case h_law_wished=>refine' K71.qb2z ?h_law_wisheda ?h_law_wishedl ?h_law_wishedc ?h_law_wishedk rfl (fun _ _ _ _ _ _ _ _ _ _  => rfl);(case h_law_wisheda=>k_is);(case h_law_wishedl=>k_is);(case h_law_wishedc=>k_is);(case h_law_wishedk=>k_is))
  (case h_law_truths=>refine' K71.qb2z ?h_law_truthsa ?h_law_truthsl ?h_law_truthsc ?h_law_truthsk rfl (fun _ _ _ _ _ _ _ _ _ _  => rfl);(case h_law_truthsa=>k_is);(case h_law_truthsl=>k_is);(case h_law_truthsc=>k_is);(case h_law_truthsk=>k_is))
  (case h_law_stepped=>refine' K71.qb2z ?h_law_steppeda ?h_law_steppedl ?h_law_steppedc ?h_law_steppedk rfl (fun _ _ _ _ _ _ _ _ _ _  => rfl);(case h_law_steppeda=>k_is);(case h_law_steppedl=>k_is);(case h_law_steppedc=>k_is);(case h_law_steppedk=>k_is))
  (case h_law_within=>refine' K71.qa2k ?h_law_withina ?h_law_withinl ?h_law_withinc ?h_law_withink rfl (fun _ _ _ _ _ _ _  => rfl);(case h_law_withina=>k_is);(case h_law_withinl=>k_is);(case h_law_withinc=>k_is);(case h_law_withink=>k_is))
  (case h_law_many=>refine' K71.qa2k ?h_law_manya ?h_law_manyl ?h_law_manyc ?h_law_manyk rfl (fun _ _ _ _ _ _ _  => rfl);(case h_law_manya=>k_is);(case h_law_manyl=>k_is);(case h_law_manyc=>k_is);(case h_law_manyk=>k_is))
  (case h_law_put_in=>refine' K71.qa7i ?h_law_put_ina ?h_law_put_inl ?h_law_put_inc ?h_law_put_ink rfl (fun _ _ _ _ _ _ _ _ _  => rfl);(case h_law_put_ina=>k_is);(case h_law_put_inl=>k_is);(case h_law_put_inc=>k_is);(case h_law_put_ink=>k_is))
  (case h_law_fits=>refine' K71.qa7i ?h_law_fitsa ?h_law_fitsl ?h_law_fitsc ?h_law_fitsk rfl (fun _ _ _ _ _ _ _ _ _  => rfl);(case h_law_fitsa=>k_is);(case h_law_fitsl=>k_is);(case h_law_fitsc=>k_is);(case h_law_fitsk=>k_is))
  (case h_law_binding=>refine' K71.qa3a ?h_law_bindinga ?h_law_bindingl ?h_law_bindingc ?h_law_bindingk rfl (fun _ _ _ _ _ _ _ _  => rfl);(case h_law_bindinga=>k_is);(case h_law_bindingl=>k_is);(case h_law_bindingc=>k_is);(case h_law_bindingk=>k_is))
  (case h_law_right=>refine' K71.qa3a ?h_law_righta ?h_law_rightl ?h_law_rightc ?h_law_rightk rfl (fun _ _ _ _ _ _ _ _  => rfl);(case h_law_righta=>k_is);(case h_law_rightl=>k_is);(case h_law_rightc=>k_is);(case h_law_rightk=>k_is))
  (case a_law=>k_is)
  (case l_law=>k_is)
  (case c_law=>k_is)
  (case k_law=>k_is)
  (case z_len=>k_is)
  (case z_range=>k_is)
  (case z_tuple=>k_is)
  (case z_bool=>k_is)
  (case z_isinstance=>k_is)
  (case z_reversed=>k_is)
  (case z_max=>k_is)
  (case z_zip=>k_is)
  (case z_list=>k_is)
  (case z_str=>k_is)
  (case z_enumerate=>k_is)
  (case z_dict=>k_is)
  (case z_sum=>k_is)
  (case z_int=>k_is)
  (case z_min=>k_is)
  (case z_sorted=>k_is)
  (case z_all=>k_is)
  (case z_set=>k_is)
  (case z_repr=>k_is)
  (case a_FORMS=>k_is)
  (case l_FORMS=>k_is)
  (case l_FORMS_0=>k_is)
  (case l_FORMS_1=>k_is)
  (case l_FORMS_2=>k_is)
  (case l_FORMS_3=>k_is)
  (case l_FORMS_4=>k_is)
  (case l_FORMS_5=>k_is)
  (case l_FORMS_6=>k_is)
  (case l_FORMS_7=>k_is)
  (case l_FORMS_8=>k_is)
  (case l_FORMS_9=>k_is)
  (case sy_FORMS=>first | decide | rfl | k_is)
  (case a_LONGEST_NAME=>k_is)
  (case a_MOST_HANDS=>k_is)
  (case a_MOST_THINGS=>k_is)
  (case a_MOST_BINDERS=>k_is)
  (case a_MOST_SHOWS=>k_is)
end
end
