import PyProof.Rows.All
import Wide.All
import OpenK.AllK
import Wide.FinOn
import Lean
import PyProof.EqAt
import PyProof.EqKinds
import PyProof.TupleCall
import PySem.Challenge.RW_wapentake_k67_whole_rows_that_are_ruling
import KE.KUnpack
import PyProof.Draws
import PyProof.EnumMake
import PyProof.Rows.EnumRows
import KE.KDictSum
import PyProof.Rows.SeqCalls
import KE.KPairRows
import PyProof.StrLawsIn
import PyProof.NeKinds
import PyProof.Rows.EqBoolInt
import PyProof.StrBlockH
import PyProof.FString5
import PyProof.SliceList
import KE.KLam
import KE.KNestM
import KE.KDictOf
import PyProof.AttrMissHeap
import PyProof.ConsumeS
import PyProof.DictList
import PyProof.SumAny
set_option Elab.async false
set_option linter.all false
set_option maxRecDepth 100000
set_option maxHeartbeats 4000000
namespace L2
open PySem PySem.Spec PyProof.Rows
abbrev Key:=Sum Int Str
def qM5:Key->Value->Bool
 | .inl k,v=>Value.isInt k v
 | .inr x,v=>Value.isStrOf x v
def keyH (w:World):Key->Int
 | .inl k=>hashInt k
 | .inr x=>hashStr w x
theorem q51:∀{k:Key}{v:Value},qM5 k v=true->(∃ i t,k=Sum.inl i/\v=Value.int i t)∨(∃ x t,k=Sum.inr x/\v=Value.str x t)
 | .inl i,v,h=>by
  obtain ⟨t,e⟩:=Value.isInt_shape (k:=i) (v:=v) h
  exact .inl ⟨i,t,rfl,e⟩
 | .inr x,v,h=>by
  obtain ⟨t,e⟩:=Value.isStrOf_shape (x:=x) (v:=v) h
  exact .inr ⟨x,t,rfl,e⟩
theorem qW6 (i:Int) (t:Tok):qM5 (.inl i) (.int i t)=true:=by simp [qM5,Value.isInt]
theorem qW5 (x:Str) (t:Tok):qM5 (.inr x) (.str x t)=true:=by simp [qM5,Value.isStrOf]
theorem key_ll (a b:Int):decide ((Sum.inl a:Key)=Sum.inl b)=(a == b):=by
 by_cases e:a=b
 ·subst e; simp
 ·have h:¬ (Sum.inl a:Key)=Sum.inl b:=fun q=>e (Sum.inl.inj q)
  rw [decide_eq_false h]
  exact (beq_eq_false_iff_ne.mpr e).symm
theorem key_rr (a b:Str):decide ((Sum.inr a:Key)=Sum.inr b)=decide (a=b):=by
 by_cases e:a=b
 ·subst e; simp
 ·have h:¬ (Sum.inr a:Key)=Sum.inr b:=fun q=>e (Sum.inr.inj q)
  rw [decide_eq_false h,decide_eq_false e]
theorem key_lr (a:Int) (b:Str):decide ((Sum.inl a:Key)=Sum.inr b)=false:=decide_eq_false (fun q=>nomatch q)
theorem key_rl (a:Str) (b:Int):decide ((Sum.inr a:Key)=Sum.inl b)=false:=decide_eq_false (fun q=>nomatch q)
def q45 (prog:Program) (w:World):PySem.KeyKind prog w Key where
 is:=qM5
 hash:=keyH w
 inj:=fun v a b ha hb=>by
  rcases q51 ha with ⟨i,t,rfl,rfl⟩ | ⟨x,t,rfl,rfl⟩
  ·rcases q51 hb with ⟨j,u,rfl,e⟩ | ⟨y,u,rfl,e⟩
   ·injection e with e1 _; rw [e1]
   ·exact nomatch e
  ·rcases q51 hb with ⟨j,u,rfl,e⟩ | ⟨y,u,rfl,e⟩
   ·exact nomatch e
   ·injection e with e1 _; rw [e1]
 byValue:=fun k v h=>by
  rcases q51 h with ⟨i,t,rfl,rfl⟩ | ⟨x,t,rfl,rfl⟩ <;> rfl
 pyHash:=fun hv h=>by
  rcases q51 hv with ⟨i,t,rfl,rfl⟩ | ⟨x,t,rfl,rfl⟩
  ·exact wpAny_pyHash_int h
  ·exact wpAny_pyHash_str h
 eqBool:=fun hu hv h=>by
  rcases q51 hu with ⟨i,t,rfl,rfl⟩ | ⟨x,t,rfl,rfl⟩
  ·rcases q51 hv with ⟨j,u,rfl,rfl⟩ | ⟨y,u,rfl,rfl⟩
   ·rw [key_ll] at h; exact wpAny_eqBool_int h
   ·rw [key_lr] at h; exact SeqAt.EqAt.int_str i t y u _ _ _ _ h
  ·rcases q51 hv with ⟨j,u,rfl,rfl⟩ | ⟨y,u,rfl,rfl⟩
   ·rw [key_rl] at h; exact SeqAt.EqAt.str_int x t j u _ _ _ _ h
   ·rw [key_rr] at h; exact wpAny_eqBool_str h
 «strs» := fun k x t v h=>by
  rcases q51 h with ⟨i,u,rfl,e⟩ | ⟨y,u,rfl,e⟩
  ·exact nomatch e
  ·injection e with e1 _
   subst e1
   cases v <;> rfl
theorem qF2 (prog:Program) (w:World) (i:Int) (t:Tok):(q45 prog w).is (.inl i) (.int i t)=true:=qW6 i t
theorem qF1 (prog:Program) (w:World) (x:Str) (t:Tok):(q45 prog w).is (.inr x) (.str x t)=true:=qW5 x t
end L2
namespace L2
open PySem PySem.Spec PyProof.Rows
inductive V where
 | non | bl (b:Bool) | int (i:Int) | str (x:Str) | byt (b:Array UInt8) | flt (b:UInt64) | ref (a:Addr) | ty (n:String)
 deriving DecidableEq
def RelV:V->Value->Prop
 | .non,u=>u=Value.none
 | .bl b,u=>u=Value.bool b
 | .int i,u=>∃ t,u=Value.int i t
 | .str x,u=>∃ t,u=Value.str x t
 | .byt b,u=>∃ t,u=Value.bytes b t
 | .flt b,u=>∃ t,u=Value.float b t
 | .ref a,u=>u=Value.ref a
 | .ty n,u=>u=Value.type n
abbrev Vals:List V->List Value->Prop:=Paired RelV
theorem Vals.length {xs:List V}{us:List Value}(r:Vals xs us):xs.length=us.length:=Paired.length r
theorem Vals.get:∀{xs:List V}{us:List Value}{i:Nat}{x:V},Vals xs us->xs[i]? = some x->∃ u,us[i]? = some u/\RelV x u
 | _,_,_,_,.nil,e=>by simp at e
 | _,_,0,_,.cons r _,e=>by simp at e; subst e; exact ⟨_,rfl,r⟩
 | _,_,i + 1,x,.cons _ t,e=>by
  obtain ⟨u,h1,h2⟩:=Vals.get (i:=i) (x:=x) t (by simpa using e)
  exact ⟨u,by simpa using h1,h2⟩
theorem Vals.set {x:V}{u:Value}(r:RelV x u):∀{xs:List V}{us:List Value}(i:Nat),Vals xs us->Vals (xs.set i x) (us.set i u)
 | _,_,_,.nil=>.nil
 | _,_,0,.cons _ t=>.cons r t
 | _,_,i + 1,.cons q t=>.cons q (Vals.set r i t)
theorem Vals.append:∀{xs ys:List V}{us ws:List Value},Vals xs us->Vals ys ws->Vals (xs ++ ys) (us ++ ws)
 | _,_,_,_,.nil,s=>s
 | _,_,_,_,.cons r t,s=>.cons r (Vals.append t s)
theorem Vals.take:∀{xs:List V}{us:List Value}(n:Nat),Vals xs us->Vals (xs.take n) (us.take n)
 | _,_,0,_=>.nil
 | _,_,_ + 1,.nil=>.nil
 | _,_,n + 1,.cons r t=>.cons r (Vals.take n t)
theorem Vals.drop:∀{xs:List V}{us:List Value}(n:Nat),Vals xs us->Vals (xs.drop n) (us.drop n)
 | _,_,0,r=>r
 | _,_,_ + 1,.nil=>.nil
 | _,_,n + 1,.cons _ t=>Vals.drop n t
theorem Vals.none_of:∀{xs:List V}{us:List Value}{i:Nat},Vals xs us->xs[i]? = none->us[i]? = none:=fun {xs us i} r e=>by
 have h1:=r.length
 have h2:xs.length<=i:=List.getElem?_eq_none_iff.mp e
 exact List.getElem?_eq_none_iff.mpr (by omega)
def RelO:Option V->Option Value->Prop
 | some v,some u=>RelV v u
 | none,none=>True
 | _,_=>False
def KV {κ:Type}:List (κ×V)->List (κ×Value)->Prop:=Paired fun (p:κ×V) (q:κ×Value)=>p.1=q.1/\RelV p.2 q.2
def kV:Key->V
 | .inl i=>.int i
 | .inr x=>.str x
inductive HO where
 /-- a list -/
 | lst (xs:List V)
 /-- a tuple (never changes) -/
 | tup (xs:List V)
 /-- a dict whose keys are ints and texts; one whose keys are tuples of ints and texts (the empty one is both) -/
 | dK (kvs:List (Key×V)) | dT (kvs:List (List Key×V))
 /-- a set of ints: its members,its size -/
 | set (S:Int->Bool) (n:Nat)
 /-- an instance of the class at C,its dict at dx,its attributes -/
 | ins (C dx:Addr) (fs:List (Str×V))
 /-- the dict of the instance at x -/
 | own (x:Addr)
 /-- the dict of an exception -/
 | xd (fs:List (Str×V))
 /-- a bound method,f of x -/
 | met (f x:Addr)
 /-- a range object lo,lo + 1,.. below hi -/
 | rng (lo hi:Int)
 /-- a thing that is known to the object (the script; a dict while a loop walks it): read,never written while it is so -/
 | frz (o:Obj) (u:HO)
 /-- a code object's table -/
 | tbl (ps:Array Value)
 /-- any other thing,by what is true of its one object (a def of one's own: SetO a S n:=HO.ext fun h=>..) -/
 | ext (φ:Heap->Prop)
abbrev Hp:=Addr->Option HO
def upd (H:Hp) (a:Addr) (o:HO):Hp:=fun b=>if b=a then some o else H b
theorem q01 {H:Hp}{a:Addr}{o:HO}:upd H a o a=some o:=by unfold upd; rw [if_pos rfl]
theorem q08 {H:Hp}{a b:Addr}{o:HO}(h:b≠a):upd H a o b=H b:=by unfold upd; rw [if_neg h]
theorem qB5 {H:Hp}{a b:Addr}{o u:HO}(h:H a=some o) (h':H b=some u) (d:o≠u):a≠b:=by
 intro e; subst e; rw [h] at h'; exact d (Option.some.inj h')
theorem q19 {H:Hp}{a b:Addr}{o:HO}(h:H a=some o) (h':H b=none):a≠b:=by
 intro e; subst e; rw [h] at h'; cases h'
section
variable (P:Program) (w:World)
def ObjOk (H:Hp) (h:Heap) (a:Addr):HO->Prop
 | .lst xs=>xs.length<=sizeLine/\∃(its:List Value) (n:Nat),Vals xs its/\h.get? a=some { cls:=.type "list",data:=.seq its.toArray n }
 | .tup xs=>xs.length<=sizeLine/\∃ its:List Value,Vals xs its/\IsTup h a its.toArray
 | .dK kvs=>kvs.length<=sizeLine/\(a == sysModules)=false/\∃ vs,KV kvs vs/\h.DictOf (q45 P w) a vs
 | .dT kvs=>kvs.length<=sizeLine/\(a == sysModules)=false/\∃ xs:List (List Key×Addr×Value),
   Paired (fun (p:List Key×V) (q:List Key×Addr×Value)=>p.1=q.1/\H q.2.1=some (.tup (p.1.map kV))/\RelV p.2 q.2.2) kvs xs /\
   ∃ o es ep,h.get? a=some o/\o.ExactDict/\o.data=.dict es ep/\es.toList=xs.map (entryOfKey (tupleKind (q45 P w)))/\(xs.map (·.1)).Nodup
 | .set S n=>h.SetOf (intKind P w) a S n
 | .ins C dx fs=>H dx=some (.own a)/\fs.length<=1000/\dx≠a/\h.get? a=some (PySem.W.instObj C dx) /\
   ∃ mA,h.Ns1 dx mA/\(∀ f,RelO (fs.lookup f) (mA f))/\PySem.Within mA (fs.map (·.1))
 | .own _=>∃ o,h.get? a=some o
 | .xd fs=>∃ mA,h.Ns1 a mA/\∀ f,RelO (fs.lookup f) (mA f)
 | .rng lo hi=>∃ t u v,h.get? a=some { cls:=.type "range",data:=.fields #[.int lo t,.int hi u,.int 1 v] }
 | .frz o u=>h.get? a=some o/\ObjOk H h a u
 | .tbl ps=>h.get? a=some { cls:=.none,data:=.fields ps }
 | .met f x=>h.get? a=some (PySem.W.methodObj (.ref f) (.ref x))
 | .ext φ=>φ h/\(∃ o,h.get? a=some o)/\∀ h1 h2:Heap,φ h1->(∀ o,h1.get? a=some o->h2.get? a=some o)->φ h2
def HOk (H:Hp) (h:Heap):Prop:=∀ a o,H a=some o->ObjOk P w H h a o
end
section
variable {P:Program}{w:World}{H H':Hp}{h h':Heap}{a:Addr}{o:HO}
theorem ObjOk.lt (x:ObjOk P w H h a o):a < h.objs.size:=by
 cases o with
 | lst xs=>obtain ⟨_,_,_,_,e⟩:=x; exact Heap.lt_size e
 | tup xs=>obtain ⟨_,_,_,p⟩:=x; exact p.lt
 | dK kvs=>obtain ⟨_,_,_,_,o,_,_,e,_⟩:=x; exact Heap.lt_size e
 | dT kvs=>obtain ⟨_,_,_,_,o,_,_,e,_⟩:=x; exact Heap.lt_size e
 | set S n=>obtain ⟨o,_,_,_,e,_⟩:=x; exact Heap.lt_size e
 | ins C dx fs=>obtain ⟨_,_,_,e,_⟩:=x; exact Heap.lt_size e
 | own y=>obtain ⟨_,e⟩:=x; exact Heap.lt_size e
 | xd fs=>obtain ⟨_,⟨_,_,_,e,_⟩,_⟩:=x; exact Heap.lt_size e
 | rng lo hi=>obtain ⟨_,_,_,e⟩:=x; exact Heap.lt_size e
 | frz ob u=>obtain ⟨e,_⟩:=x; exact Heap.lt_size e
 | tbl ps=>exact Heap.lt_size (show h.get? a=some _ from x)
 | met f y=>exact Heap.lt_size (show h.get? a=some _ from x)
 | ext φ=>obtain ⟨_,⟨_,e⟩,_⟩:=x; exact Heap.lt_size e
theorem Paired.mapP {α β:Type}{F G:α->β->Prop}:∀{l₁:List α}{l₂:List β},Paired F l₁ l₂->(∀ a b,F a b->G a b)->Paired G l₁ l₂
 | _,_,.nil,_=>.nil
 | _,_,.cons r t,f=>.cons (f _ _ r) (Paired.mapP t f)
theorem ObjOk.stay (x:ObjOk P w H h a o) (k:∀ b u,(b=a∨H b=some (.own a))->h.get? b=some u->h'.get? b=some u)
  (ho:∀ b,H b=some (.own a)->H' b=some (.own a)) (ht:∀ b xs,H b=some (.tup xs)->H' b=some (.tup xs)):ObjOk P w H' h' a o:=by
 induction o with
 | lst xs=>obtain ⟨z,its,n,r,e⟩:=x; exact ⟨z,its,n,r,k _ _ (.inl rfl) e⟩
 | tup xs=>obtain ⟨z,its,r,ob,e,c⟩:=x; exact ⟨z,its,r,ob,k _ _ (.inl rfl) e,c⟩
 | dK kvs=>obtain ⟨z,y,vs,r,ob,es,ep,e,c⟩:=x; exact ⟨z,y,vs,r,ob,es,ep,k _ _ (.inl rfl) e,c⟩
 | dT kvs =>
  obtain ⟨z,y,xs,r,ob,es,ep,e,c⟩:=x
  exact ⟨z,y,xs,Paired.mapP r fun p q z=>⟨z.1,ht _ _ z.2.1,z.2.2⟩,ob,es,ep,k _ _ (.inl rfl) e,c⟩
 | set S n=>obtain ⟨ob,es,ep,t,e,c⟩:=x; exact ⟨ob,es,ep,t,k _ _ (.inl rfl) e,c⟩
 | ins C dx fs =>
  obtain ⟨d,z,ne,e,mA,⟨od,es,ep,e2,c⟩,r⟩:=x
  exact ⟨ho _ d,z,ne,k _ _ (.inl rfl) e,mA,⟨od,es,ep,k _ _ (.inr d) e2,c⟩,r⟩
 | own y=>obtain ⟨ob,e⟩:=x; exact ⟨ob,k _ _ (.inl rfl) e⟩
 | xd fs=>obtain ⟨mA,⟨od,es,ep,e,c⟩,r⟩:=x; exact ⟨mA,⟨od,es,ep,k _ _ (.inl rfl) e,c⟩,r⟩
 | rng lo hi=>obtain ⟨t,u,v,e⟩:=x; exact ⟨t,u,v,k _ _ (.inl rfl) e⟩
 | frz ob u ih=>obtain ⟨e,q⟩:=x; exact ⟨k _ _ (.inl rfl) e,ih q⟩
 | tbl ps =>
  have e:h.get? a=some { cls:=.none,data:=.fields ps }:=x
  show h'.get? a=some { cls:=.none,data:=.fields ps }
  exact k a _ (.inl rfl) e
 | met f y =>
  have e:h.get? a=some (PySem.W.methodObj (.ref f) (.ref y)):=x
  show h'.get? a=some (PySem.W.methodObj (.ref f) (.ref y))
  exact k a _ (.inl rfl) e
 | ext φ=>obtain ⟨p,⟨o,e⟩,st⟩:=x; exact ⟨st _ _ p fun o q=>k _ _ (.inl rfl) q,⟨o,k _ _ (.inl rfl) e⟩,st⟩
theorem HOk.lt (x:HOk P w H h) (e:H a=some o):a < h.objs.size:=(x a o e).lt
theorem HOk.fresh (x:HOk P w H h) (e:h.objs.size<=a):H a=none:=by
 cases q:H a with
 | none=>rfl
 | some u=>exact absurd (Nat.lt_of_lt_of_le (x.lt q) e) (Nat.lt_irrefl _)
theorem HOk.kept (x:HOk P w H h) (k:∀ b u,h.get? b=some u->h'.get? b=some u):HOk P w H h':=fun a o e =>
 (x a o e).stay (fun b u _ q=>k b u q) (fun _ q=>q) fun _ _ q=>q
theorem HOk.laid (x:HOk P w H h) (k:∀ b u,h.get? b=some u->h'.get? b=some u) (hp:h.objs.size<=a) (new:ObjOk P w (upd H a o) h' a o):HOk P w (upd H a o) h':=fun b u e=>by
 have hn:=x.fresh hp
 by_cases hb:b=a
 ·subst hb; rw [q01] at e; cases e; exact new
 ·rw [q08 hb] at e
  exact (x b u e).stay (fun c v _ q=>k c v q) (fun c q=>by rw [q08 (q19 q hn)]; exact q) fun c xs q=>by rw [q08 (q19 q hn)]; exact q
end
def Rd (H:Hp) (a:Addr) (u:HO):Prop:=H a=some u∨∃ o,H a=some (.frz o u)
theorem Rd.of {H:Hp}{a:Addr}{u:HO}(h:H a=some u):Rd H a u:=.inl h
theorem Rd.ok {P:Program}{w:World}{H:Hp}{h:Heap}{a:Addr}{u:HO}(r:Rd H a u) (x:HOk P w H h):ObjOk P w H h a u:=by
 rcases r with r | ⟨o,r⟩
 ·exact x a u r
 ·obtain ⟨_,q⟩:=x a _ r
  exact q
def Mut:Option HO->Prop
 | some (.lst _)=>True
 | some (.dK _)=>True
 | some (.dT _)=>True
 | some (.set _ _)=>True
 | some (.ins _ _ _)=>True
 | some (.ext _)=>True
 | _=>False
section
variable {P:Program}{w:World}{H:Hp}{h h':Heap}{x e:Addr}{o':HO}
theorem HOk.write (ok:HOk P w H h) (mu:Mut (H x)) (he:e=x∨H e=some (.own x)) (k:∀ b u,b≠e->h.get? b=some u->h'.get? b=some u) (heo:∃ u,h'.get? e=some u)
  (new:ObjOk P w (upd H x o') h' x o'):HOk P w (upd H x o') h':=fun b u q=>by
 have nown:∀ c y,H c=some (.own y)->c≠x:=fun c y r z=>by subst z; rw [r] at mu; exact mu
 have ntup:∀ c xs,H c=some (.tup xs)->c≠x:=fun c xs r z=>by subst z; rw [r] at mu; exact mu
 by_cases hb:b=x
 ·subst hb; rw [q01] at q; cases q; exact new
 ·rw [q08 hb] at q
  by_cases hbe:b=e
  ·have q':H b=some (.own x):=by
    rcases he with z | z
    ·exact absurd (hbe.trans z) hb
    ·rw [hbe]; exact z
   rw [q] at q'; cases q'
   obtain ⟨v,hv⟩:=heo
   exact ⟨v,by rw [hbe]; exact hv⟩
  ·refine (ok b u q).stay (fun c v hc r=>k c v ?_ r) (fun c r=>by rw [q08 (nown c b r)]; exact r) fun c xs r=>by rw [q08 (ntup c xs r)]; exact r
   rcases hc with rfl | hc
   ·exact hbe
   ·rintro rfl
    rcases he with z | z
    ·exact nown c b hc z
    ·rw [hc] at z; cases z; exact hb rfl
end
structure Un (fs ex:List Addr) (H H':Hp) (h h':Heap):Prop where
 keep:∀ b o,h.get? b=some o->H b=none->b∉fs->b∉ex->h'.get? b=some o
 slot:∀ b o,h.get? b=some o->H b=none->b∈fs->b∉ex->∃ sl,h'.get? b=some { o with slots:=sl }
 free:∀ b o,h.get? b=some o->H b=none->b∉ex->H' b=none
 there:∀ b o,h.get? b=some o->b∉ex->∃ o',h'.get? b=some o'
 tups:∀ b xs,H b=some (.tup xs)->H' b=some (.tup xs)
 frzs:∀ b o u,H b=some (.frz o u)->H' b=some (.frz o u)
 tbls:∀ b ps,H b=some (.tbl ps)->∃ more,H' b=some (.tbl (ps ++ more))
section
variable {fs fs' ex ex':List Addr}{H H1 H2:Hp}{h h1 h2 h':Heap}{a x e:Addr}{o:HO}
theorem Un.any (u:Un fs ex H H1 h h1) {b:Addr}{ob:Obj}(q:h.get? b=some ob) (n:H b=none) (hx:b∉ex):∃ sl,h1.get? b=some { ob with slots:=sl }:=by
 by_cases hb:b∈fs
 ·exact u.slot b ob q n hb hx
 ·exact ⟨ob.slots,u.keep b ob q n hb hx⟩
theorem Un.trans (a:Un fs ex H H1 h h1) (b:Un fs ex H1 H2 h1 h2):Un fs ex H H2 h h2 where
 keep:=fun c ob q n hc hx=>b.keep c ob (a.keep c ob q n hc hx) (a.free c ob q n hx) hc hx
 slot:=fun c ob q n hc hx=>by
  obtain ⟨sl,e1⟩:=a.slot c ob q n hc hx
  obtain ⟨sl',e2⟩:=b.slot c _ e1 (a.free c ob q n hx) hc hx
  exact ⟨sl',e2⟩
 free:=fun c ob q n hx=>by
  obtain ⟨o',e1⟩:=a.there c ob q hx
  exact b.free c o' e1 (a.free c ob q n hx) hx
 there:=fun c ob q hx=>by
  obtain ⟨o',e1⟩:=a.there c ob q hx
  exact b.there c o' e1 hx
 tups:=fun c xs q=>b.tups c xs (a.tups c xs q)
 frzs:=fun c ob xs q=>b.frzs c ob xs (a.frzs c ob xs q)
 tbls:=fun c ps q=>by
  obtain ⟨m1,e1⟩:=a.tbls c ps q
  obtain ⟨m2,e2⟩:=b.tbls c _ e1
  exact ⟨m1 ++ m2,by rw [e2,Array.append_assoc]⟩
theorem Un.kept (k:∀ b u,h.get? b=some u->h'.get? b=some u):Un fs ex H H h h' :=
 ⟨fun b ob q _ _ _=>k b ob q,fun b ob q _ _ _=>⟨ob.slots,k b ob q⟩,fun _ _ _ n _=>n,fun b ob q _=>⟨ob,k b ob q⟩,fun _ _ q=>q,fun _ _ _ q=>q,fun _ ps q=>⟨#[],by rw [q]; simp⟩⟩
theorem Un.refl:Un fs ex H H h h:=Un.kept fun _ _ q=>q
theorem Un.laid (k:∀ b u,h.get? b=some u->h'.get? b=some u) (hp:h.objs.size<=a) (hn:H a=none):Un fs ex H (upd H a o) h h' where
 keep:=fun b u q _ _ _=>k b u q
 slot:=fun b u q _ _ _=>⟨u.slots,k b u q⟩
 free:=fun b u q n _=>by rw [q08 (Nat.ne_of_lt (Nat.lt_of_lt_of_le (Heap.lt_size q) hp))]; exact n
 there:=fun b u q _=>⟨u,k b u q⟩
 tups:=fun b xs q=>by rw [q08 (q19 q hn)]; exact q
 frzs:=fun b u xs q=>by rw [q08 (q19 q hn)]; exact q
 tbls:=fun b ps q=>⟨#[],by rw [q08 (q19 q hn),q]; simp⟩
theorem Un.write (mu:Mut (H x)) (he:e=x∨H e=some (.own x)) (k:∀ b u,b≠e->h.get? b=some u->h'.get? b=some u) (heo:∃ u,h'.get? e=some u):Un fs ex H (upd H x o) h h':=by
 have hx:∀ b,H b=none->b≠x:=fun b n z=>by subst z; rw [n] at mu; exact mu
 have hb:∀ b,H b=none->b≠e:=fun b n z=>by
  subst z
  rcases he with r | r
  ·exact hx b n r
  ·rw [n] at r; cases r
 have hm:∀ b u,H b=some u->¬ Mut (some u)->b≠x:=fun b u q nm z=>by subst z; rw [q] at mu; exact nm mu
 refine ⟨fun b u q n _ _=>k b u (hb b n) q,fun b u q n _ _=>⟨u.slots,k b u (hb b n) q⟩,fun b u q n _=>by rw [q08 (hx b n)]; exact n,fun b u q _=>?_,
  fun b xs q=>by rw [q08 (hm b _ q fun z=>z)]; exact q,fun b u xs q=>by rw [q08 (hm b _ q fun z=>z)]; exact q,fun b ps q=>⟨#[],by rw [q08 (hm b _ q fun z=>z),q]; simp⟩⟩
 by_cases hbe:b=e
 ·subst hbe; exact heo
 ·exact ⟨u,k b u hbe q⟩
theorem Un.mono (u:Un fs ex H H1 h h1) (hs:∀ b∈fs,b∈fs') (hx:∀ b∈ex,b∈ex'):Un fs' ex' H H1 h h1 :=
 ⟨fun b ob q n hb he=>u.keep b ob q n (fun z=>hb (hs b z)) fun z=>he (hx b z),fun _ _ q n _ he=>u.any q n fun z=>he (hx _ z),fun b ob q n he=>u.free b ob q n fun z=>he (hx b z),fun b ob q he=>u.there b ob q fun z=>he (hx b z),u.tups,u.frzs,u.tbls⟩
end
def trk (h:Heap) (H:Hp):List Addr:=(List.range h.objs.size).filter fun a=>(H a).isSome
def qZ5 (h:Heap) (H:Hp):Heap:=PySem.W.hideAll h (trk h H)
theorem qW8 (h:Heap) (H:Hp):(qZ5 h H).objs.size=h.objs.size:=PySem.W.hideAll_size _ _
theorem z63 {h:Heap}{H:Hp}{b:Addr}{o:Obj}(e:h.get? b=some o) (n:H b=none):(qZ5 h H).get? b=some o :=
 PySem.W.hideAll_get _ e fun hm=>by
  have q:(H b).isSome=true:=(List.mem_filter.mp hm).2
  rw [n] at q; simp at q
theorem of_hidT {h:Heap}{H:Hp}{b:Addr}{o:Obj}(e:(qZ5 h H).get? b=some o):h.get? b=some o/\H b=none:=by
 have e':h.get? b=some o:=PySem.W.of_hideAll (trk h H) e
 refine ⟨e',?_⟩
 cases q:H b with
 | none=>rfl
 | some x =>
  have hm:b∈trk h H:=List.mem_filter.mpr ⟨List.mem_range.mpr (Heap.lt_size e'),by simp [q]⟩
  have z:(qZ5 h H).get? b=none:=PySem.W.hideAll_none (trk h H) hm
  rw [z] at e; cases e
def allNews (g h:Heap) (L:Addr):List (Addr×Obj):=(List.range h.objs.size).filterMap fun a=>if a=L∨(g.get? a).isSome=true then none else (h.get? a).map fun o=>(a,o)
def qd9 (g h:Heap) (L d:Addr):List (Addr×Obj):=(allNews g h L).filter fun p=>decide (p.1≠d)
end L2
namespace L2
open PySem PySem.Spec PyProof.Rows
structure Mod (K:PySem.W.Frag) (mg:Str->Option Value) (base:Heap):Prop where
 kin:K.In base
 glob:base.Ns mainGlobals mg
 blt:∃ mb,base.Ns builtinsNs mb/\∀ x:Str,x ≠ "__name__" -> mb x=bootBuiltins x
 nolimit:base.NoLimit
structure Cx where
 prog:Program
 w:World
 K:PySem.W.Frag
 mg:Str->Option Value
 base:Heap
 A:Around
 N:List Str
 s₀:Shared
 H₀:Hp
 env:Env
 outer:List Env
 stack:List Env
 ex:List Addr
 fn:Str->Bool
 calm:Bool
 pn:List (Addr×Obj)
 xe:Value->Shared->Prop
def frs (l:List Env):List Addr:=l.filterMap (·.frame)
abbrev Cx.fs (X:Cx):List Addr:=frs X.outer
def Vis (sc:Scope) (x:Str):Prop:=sc.names.lookup x=some .local∨sc.names.lookup x=some .cell∨sc.names.lookup x=some .free
def Loc (sc:Scope) (x:Str):Prop:=sc.names.lookup x=some .local∨sc.names.lookup x=some .cell
def Look (env:Env) (h:Heap) (m:Str->Option Value) (x:Str) (u:Value):Prop :=
 (env.kindOf x=some .local/\m x=some u)∨((env.kindOf x=some .cell∨env.kindOf x=some .free)/\∃ c,env.cells.lookup x=some c/\h.IsCell c (some u))
structure Cx.Ok (X:Cx):Prop where
 mod:Mod X.K X.mg X.base
 kind:X.env.scope.kind=.function
 glob:X.env.globals=mainGlobals
 blt:X.env.builtins=builtinsNs
 above:X.s₀.heap.objs.size<=X.env.locals
 inj:∀ x y c,X.env.cells.lookup x=some c->X.env.cells.lookup y=some c->x=y
 has:∀ x,(X.env.kindOf x=some .cell∨X.env.kindOf x=some .free)->∃ c,X.env.cells.lookup x=some c
 cab:∀ x c,X.fn x=true->X.env.cells.lookup x=some c->X.s₀.heap.objs.size<=c
 hd:X.calm=true->X.A.handled=none
 frames:X.A.frames=some X.stack
 stk:X.stack=X.outer∨(X.stack=X.env :: X.outer/\X.env.frame=some X.env.locals)
 exf:∀ b∈X.ex,b≠X.env.locals/\∀ x c,X.env.cells.lookup x=some c->c≠b
 bs:∀ b o,X.base.get? b=some o->X.s₀.heap.get? b=some o/\X.H₀ b=none
 bsz:X.base.objs.size<=X.s₀.heap.objs.size
 noex:∀ b o,X.base.get? b=some o->b∉X.ex
 exfs:∀ b∈X.ex,b∉X.fs
 funs:X.s₀.heap.FunFrames X.base X.outer
 frf:∀ b∈X.fs,X.H₀ b=none
structure Inv (X:Cx) (pins:List (Addr×Obj)) (σ:List (Option V)) (H:Hp) (s:Shared):Prop where
 ok:X.Ok
 os:s.os=X.s₀.os
 bare:AllBare s.gens
 base:Un X.fs X.ex X.H₀ H X.s₀.heap s.heap
 loc:∃ m,s.heap.Ns X.env.locals m/\∀(i:Nat) (x:Str) (v:V),X.N[i]? = some x->σ[i]? = some (some v)->Vis X.env.scope x->∃ u,RelV v u/\Look X.env s.heap m x u
 cell:∀ x c,X.env.cells.lookup x=some c->∃ v,s.heap.IsCell c v
 free:H X.env.locals=none
 freeC:∀ x c,X.env.cells.lookup x=some c->H c=none
 pin:∀ p∈X.pn ++ pins,s.heap.get? p.1=some p.2/\H p.1=none/\p.1≠X.env.locals/\p.1∉X.fs/\∀ v,p.2.data≠.cell v
 hok:HOk X.prog X.w H s.heap
 len:σ.length=X.N.length
section
variable {X:Cx}{pins:List (Addr×Obj)}{σ:List (Option V)}{H H':Hp}{s:Shared}{h':Heap}
theorem Cx.Ok.nofr (ok:X.Ok) {b:Addr}{o:Obj}(e:X.base.get? b=some o):b∉X.fs:=fun hb=>by
 have:=(ok.funs.mem hb).1
 rw [e] at this; cases this
theorem Inv.bs (I:Inv X pins σ H s):∀ b o,X.base.get? b=some o->s.heap.get? b=some o/\H b=none:=fun b o e =>
 ⟨I.base.keep b o (I.ok.bs b o e).1 (I.ok.bs b o e).2 (I.ok.nofr e) (I.ok.noex b o e),I.base.free b o (I.ok.bs b o e).1 (I.ok.bs b o e).2 (I.ok.noex b o e)⟩
theorem Inv.bk (I:Inv X pins σ H s):∀ b o,X.base.get? b=some o->s.heap.get? b=some o:=fun b o e=>(I.bs b o e).1
theorem Inv.mod (I:Inv X pins σ H s):Mod X.K X.mg X.base:=I.ok.mod
theorem Inv.kIn (I:Inv X pins σ H s):X.K.In s.heap:=I.ok.mod.kin.keeps I.bk
theorem Inv.nolimit (I:Inv X pins σ H s):s.heap.NoLimit:=I.ok.mod.nolimit.keeps I.bk
theorem Inv.fr (I:Inv X pins σ H s):∃ m,Fr X.base X.env.locals s.heap m :=
 let ⟨m,hn,_⟩:=I.loc
 ⟨m,hn,I.bk,Nat.le_trans I.ok.bsz I.ok.above⟩
theorem Inv.lt (I:Inv X pins σ H s):X.env.locals < s.heap.objs.size:=let ⟨_,hn,_⟩:=I.loc; hn.lt
theorem Inv.sz (I:Inv X pins σ H s):X.s₀.heap.objs.size<=s.heap.objs.size:=Nat.le_trans I.ok.above (Nat.le_of_lt I.lt)
theorem Inv.nofs (I:Inv X pins σ H s) {a:Addr}(h:s.heap.objs.size<=a):a∉X.fs:=fun hb=>by
 obtain ⟨_,o,ho,_⟩:=I.ok.funs.mem hb
 exact absurd (Nat.lt_of_lt_of_le (Heap.lt_size ho) (Nat.le_trans I.sz h)) (Nat.lt_irrefl _)
theorem Inv.cne (I:Inv X pins σ H s):∀ x c,X.env.cells.lookup x=some c->c≠X.env.locals:=fun x c e z=>by
 obtain ⟨v,o,ho,hd⟩:=I.cell x c e
 obtain ⟨m,⟨o',es,ep,ho',hd',_⟩,_⟩:=I.loc
 rw [z,ho'] at ho; cases ho; rw [hd'] at hd; cases hd
theorem Inv.funs (I:Inv X pins σ H s):s.heap.FunFrames X.base X.outer:=by
 have all:∀(l:List Env),(∀ b∈frs l,b∈X.fs)->X.s₀.heap.FunFrames X.base l->s.heap.FunFrames X.base l:=by
  intro l
  induction l with
  | nil=>intro _ _; trivial
  | cons env r ih =>
   intro hs hl
   obtain ⟨hk,⟨L,o,hf,hn,ho,hd⟩,hr⟩:=hl
   have hL:L∈X.fs:=hs L (by unfold frs; rw [List.filterMap_cons,hf]; exact List.mem_cons_self)
   obtain ⟨sl,e⟩:=I.base.slot L o ho (I.ok.frf L hL) hL fun z=>I.ok.exfs L z hL
   exact ⟨hk,⟨L,_,hf,hn,e,hd⟩,ih (fun b hb=>hs b (by unfold frs; rw [List.filterMap_cons,hf]; exact List.mem_cons_of_mem _ hb)) hr⟩
 exact all X.outer (fun _ hb=>hb) I.ok.funs
theorem Inv.stack (I:Inv X pins σ H s):s.heap.FunFrames X.base X.stack:=by
 rcases I.ok.stk with e | ⟨e,hf⟩
 ·rw [e]; exact I.funs
 ·rw [e]
  obtain ⟨m,hn,_⟩:=I.loc
  refine .cons (by rw [I.ok.kind]; decide) hf hn ?_ I.funs
  exact Heap.get?_none_of_le (Nat.le_trans I.ok.bsz I.ok.above)
theorem Inv.stkSub (I:Inv X pins σ H s):∀ b∈frs X.stack,b∈X.env.locals :: X.fs:=fun b hb=>by
 rcases I.ok.stk with e | ⟨e,hf⟩
 ·rw [e] at hb; exact List.mem_cons_of_mem _ hb
 ·rw [e] at hb
  unfold frs at hb
  rw [List.filterMap_cons,hf] at hb
  exact hb
theorem Inv.stkFree (I:Inv X pins σ H s):∀ b∈frs X.stack,H b=none:=fun b hb=>by
 rcases List.mem_cons.mp (I.stkSub b hb) with e | hb
 ·rw [e]; exact I.free
 ·obtain ⟨_,o,ho,_⟩:=I.ok.funs.mem hb
  exact I.base.free b o ho (I.ok.frf b hb) fun z=>I.ok.exfs b z hb
theorem Inv.step {g':Array GenState}{t':Nat}{d':Drawn}{ch:List Addr}(I:Inv X pins σ H s)
  (hch:∀ b∈ch,(b∈X.ex∨X.s₀.heap.objs.size<=b)/\b≠X.env.locals/\(∀ x c,X.env.cells.lookup x=some c->c≠b)/\∀ p∈X.pn ++ pins,p.1≠b)
  (keep:∀ b o,b≠X.env.locals->b∉X.fs->b∉ch->s.heap.get? b=some o->H b=none->h'.get? b=some o)
  (slot:∀ b o,b≠X.env.locals->b∈X.fs->b∉ch->s.heap.get? b=some o->H b=none->∃ sl,h'.get? b=some { o with slots:=sl }) (free:∀ b o,b∉ch->s.heap.get? b=some o->H b=none->H' b=none)
  (there:∀ b o,b∉ch->s.heap.get? b=some o->∃ o',h'.get? b=some o')
  (tups:∀ b xs,H b=some (.tup xs)->H' b=some (.tup xs)) (frzs:∀ b o u,H b=some (.frz o u)->H' b=some (.frz o u)) (tbls:∀ b ps,H b=some (.tbl ps)->∃ more,H' b=some (.tbl (ps ++ more)))
  (ns:∀ m,s.heap.Ns X.env.locals m->h'.Ns X.env.locals m) (hok:HOk X.prog X.w H' h') (hg:AllBare g') :
  Inv X pins σ H' { s with heap:=h',gens:=g',drawn:=d',toks:=t' }:=by
 have neL:∀ b o,X.s₀.heap.get? b=some o->b≠X.env.locals:=fun b o e=>Nat.ne_of_lt (Nat.lt_of_lt_of_le (Heap.lt_size e) I.ok.above)
 have neC:∀ b o,X.s₀.heap.get? b=some o->b∉X.ex->b∉ch:=fun b o e hx hb=>by
  rcases (hch b hb).1 with z | z
  ·exact hx z
  ·exact absurd (Nat.lt_of_lt_of_le (Heap.lt_size e) z) (Nat.lt_irrefl _)
 have cellK:∀ x c,X.env.cells.lookup x=some c->∀ v,s.heap.IsCell c v->h'.IsCell c v:=fun x c e v ⟨o,ho,hd⟩=>by
  have nch:c∉ch:=fun z=>(hch c z).2.2.1 x c e rfl
  by_cases hc:c∈X.fs
  ·obtain ⟨sl,q⟩:=slot c o (I.cne x c e) hc nch ho (I.freeC x c e)
   exact ⟨_,q,hd⟩
  ·exact ⟨o,keep c o (I.cne x c e) hc nch ho (I.freeC x c e),hd⟩
 refine ⟨I.ok,I.os,hg,⟨fun b o e n hb hx=>?_,fun b o e n hb hx=>?_,fun b o e n hx=>?_,fun b o e hx=>?_,fun b xs e=>tups b xs (I.base.tups b xs e),fun b o xs e=>frzs b o xs (I.base.frzs b o xs e),fun b ps e=>?_⟩,?_,fun x c e=>?_,?_,fun x c e=>?_,fun p hp=>?_,hok,I.len⟩
 ·exact keep b o (neL b o e) hb (neC b o e hx) (I.base.keep b o e n hb hx) (I.base.free b o e n hx)
 ·obtain ⟨sl,e1⟩:=I.base.slot b o e n hb hx
  obtain ⟨sl',e2⟩:=slot b _ (neL b o e) hb (neC b o e hx) e1 (I.base.free b o e n hx)
  exact ⟨sl',e2⟩
 ·obtain ⟨o',e1⟩:=I.base.there b o e hx
  exact free b o' (neC b o e hx) e1 (I.base.free b o e n hx)
 ·obtain ⟨o',e1⟩:=I.base.there b o e hx
  exact there b o' (neC b o e hx) e1
 ·obtain ⟨m1,e1⟩:=I.base.tbls b ps e
  obtain ⟨m2,e2⟩:=tbls b _ e1
  exact ⟨m1 ++ m2,by rw [e2,Array.append_assoc]⟩
 ·obtain ⟨m,hn,hl⟩:=I.loc
  refine ⟨m,ns m hn,fun i x v e1 e2 e3=>?_⟩
  obtain ⟨u,r,l⟩:=hl i x v e1 e2 e3
  refine ⟨u,r,?_⟩
  rcases l with l | ⟨k,c,e,z⟩
  ·exact .inl l
  ·exact .inr ⟨k,c,e,cellK x c e _ z⟩
 ·obtain ⟨v,z⟩:=I.cell x c e
  exact ⟨v,cellK x c e v z⟩
 ·obtain ⟨m,⟨o,_,_,ho,_⟩,_⟩:=I.loc
  exact free _ o (fun z=>(hch _ z).2.1 rfl) ho I.free
 ·obtain ⟨v,o,ho,hd⟩:=I.cell x c e
  exact free c o (fun z=>(hch c z).2.2.1 x c e rfl) ho (I.freeC x c e)
 ·obtain ⟨e,n,ne,nf,d⟩:=I.pin p hp
  have nch:p.1∉ch:=fun z=>(hch p.1 z).2.2.2 p hp rfl
  exact ⟨keep p.1 p.2 ne nf nch e n,free p.1 p.2 nch e n,ne,nf,d⟩
theorem Inv.un {t':Nat}(I:Inv X pins σ H s) (u:Un X.fs [] H H' s.heap h') (hok:HOk X.prog X.w H' h'):Inv X pins σ H' { s with heap:=h',toks:=t' }:=by
 obtain ⟨m,⟨o,es,ep,ho,r⟩,_⟩:=id I.loc
 obtain ⟨sl,hL⟩:=u.any ho I.free (by simp)
 exact I.step (g':=s.gens) (d':=s.drawn) (ch:=[]) (fun _ z=>nomatch z) (fun b o _ hb _ e n=>u.keep b o e n hb (by simp)) (fun b o _ hb _ e n=>u.slot b o e n hb (by simp)) (fun b o _ e n=>u.free b o e n (by simp)) (fun b o _ e=>u.there b o e (by simp)) u.tups u.frzs u.tbls (fun m' hm=>by
  obtain ⟨o',es',ep',ho',r'⟩:=hm
  rw [ho] at ho'; cases ho'
  exact ⟨_,es',ep',hL,r'⟩) hok I.bare
theorem Inv.call {g':Array GenState}{t':Nat}{d':Drawn}{ch:List Addr}(I:Inv X pins σ H s) (u:Un (frs X.stack) ch H H' s.heap h') (hok:HOk X.prog X.w H' h') (hg:AllBare g')
  (hch:∀ b∈ch,(b∈X.ex∨X.s₀.heap.objs.size<=b)/\b≠X.env.locals/\(∀ x c,X.env.cells.lookup x=some c->c≠b)/\∀ p∈X.pn ++ pins,p.1≠b) :
  Inv X pins σ H' { s with heap:=h',gens:=g',drawn:=d',toks:=t' }:=by
 obtain ⟨m,⟨o,es,ep,ho,r⟩,_⟩:=id I.loc
 obtain ⟨sl,hL⟩:=u.any ho I.free fun z=>(hch _ z).2.1 rfl
 exact I.step (ch:=ch) hch (fun b o hL hb hc e n=>u.keep b o e n (fun z=>(List.mem_cons.mp (I.stkSub b z)).elim hL hb) hc) (fun b o _ _ hc e n=>u.any e n hc) (fun b o hc e n=>u.free b o e n hc) (fun b o hc e=>u.there b o e hc) u.tups u.frzs u.tbls (fun m' hm=>by
  obtain ⟨o',es',ep',ho',r'⟩:=hm
  rw [ho] at ho'; cases ho'
  exact ⟨_,es',ep',hL,r'⟩) hok hg
theorem Inv.turned {t':Nat}{it:Addr}(I:Inv X pins σ H s) (k:∀ b o,b≠it->s.heap.get? b=some o->h'.get? b=some o) (hn:H it=none) (hL:it≠X.env.locals)
  (h1:it∈X.ex∨X.s₀.heap.objs.size<=it) (h2:∀ x c,X.env.cells.lookup x=some c->c≠it) (h3:∀ p∈X.pn ++ pins,p.1≠it):Inv X pins σ H { s with heap:=h',toks:=t' }:=by
 have nit:∀ b u,H b=some u->b≠it:=fun b u e z=>by rw [z,hn] at e; cases e
 refine I.step (g':=s.gens) (d':=s.drawn) (ch:=[it]) (fun b hb=>?_) (fun b o _ _ hc e _=>k b o (fun z=>hc (by simp [z])) e) (fun b o _ _ hc e _=>⟨o.slots,k b o (fun z=>hc (by simp [z])) e⟩) (fun _ _ _ _ n=>n)
  (fun b o hc e=>⟨o,k b o (fun z=>hc (by simp [z])) e⟩) (fun _ _ e=>e) (fun _ _ _ e=>e) (fun b ps e=>⟨#[],by rw [e]; simp⟩) (fun m hm=>?_) (fun b u e=>?_) I.bare
 ·have e:b=it:=by simpa using hb
  subst e
  exact ⟨h1,hL,h2,h3⟩
 ·obtain ⟨o,es,ep,ho,r⟩:=hm
  exact ⟨o,es,ep,k _ o (Ne.symm hL) ho,r⟩
 ·refine (I.hok b u e).stay (fun c v hc q=>k c v ?_ q) (fun _ q=>q) fun _ _ q=>q
  rcases hc with z | z
  ·rw [z]; exact nit b u e
  ·exact nit c _ z
theorem Inv.tok (I:Inv X pins σ H s) (t:Nat):Inv X pins σ H { s with toks:=t }:=I.un (h':=s.heap) (t':=t) Un.refl I.hok
theorem Inv.kept {t':Nat}(I:Inv X pins σ H s) (k:∀ b u,s.heap.get? b=some u->h'.get? b=some u):Inv X pins σ H { s with heap:=h',toks:=t' }:=I.un (Un.kept k) (I.hok.kept k)
theorem Inv.laid {a:Addr}{o:HO}{t':Nat}(I:Inv X pins σ H s) (k:∀ b u,s.heap.get? b=some u->h'.get? b=some u) (hp:s.heap.objs.size<=a) (new:ObjOk X.prog X.w (upd H a o) h' a o) :
  Inv X pins σ (upd H a o) { s with heap:=h',toks:=t' }:=I.un (Un.laid k hp (I.hok.fresh hp)) (I.hok.laid k hp new)
theorem Inv.write {x e:Addr}{o:HO}{t':Nat}(I:Inv X pins σ H s) (mu:Mut (H x)) (he:e=x∨H e=some (.own x)) (k:∀ b u,b≠e->s.heap.get? b=some u->h'.get? b=some u) (heo:∃ u,h'.get? e=some u)
  (new:ObjOk X.prog X.w (upd H x o) h' x o):Inv X pins σ (upd H x o) { s with heap:=h',toks:=t' }:=I.un (Un.write mu he k heo) (I.hok.write mu he k heo new)
theorem Inv.weak {σ':List (Option V)}(I:Inv X pins σ H s) (hl:σ'.length=σ.length) (w:∀(i:Nat) v,σ'[i]? = some (some v)->σ[i]? = some (some v)):Inv X pins σ' H s :=
 ⟨I.ok,I.os,I.bare,I.base,let ⟨m,hn,hl'⟩:=I.loc; ⟨m,hn,fun i x v e1 e2 e3=>hl' i x v e1 (w i v e2) e3⟩,I.cell,I.free,I.freeC,I.pin,I.hok,hl.trans I.len⟩
theorem Inv.pins_of {pins':List (Addr×Obj)}(I:Inv X pins σ H s) (h:∀ p∈pins',s.heap.get? p.1=some p.2/\H p.1=none/\p.1≠X.env.locals/\p.1∉X.fs/\∀ v,p.2.data≠.cell v):Inv X pins' σ H s :=
 ⟨I.ok,I.os,I.bare,I.base,I.loc,I.cell,I.free,I.freeC,fun p hp=>(List.mem_append.mp hp).elim (fun z=>I.pin p (List.mem_append_left _ z)) (h p),I.hok,I.len⟩
theorem qI8 {N:List Str}(hN:N.Nodup) {i j:Nat}{x:Str}(a:N[i]? = some x) (b:N[j]? = some x):i=j:=by
 obtain ⟨h1,e1⟩:=List.getElem?_eq_some_iff.mp a
 obtain ⟨h2,e2⟩:=List.getElem?_eq_some_iff.mp b
 exact (List.getElem_inj hN).mp (e1.trans e2.symm)
theorem qp5 {M:Model}{A:Around}{E:Value->Shared->Prop}{i:Nat}{x:Str}{v:V}{u:Value}{Q:Unit->Shared->Prop}(I:Inv X pins σ H s) (hN:X.N.Nodup) (hi:X.N[i]? = some x) (hx:Loc X.env.scope x) (r:RelV v u)
  (h:∀ s',Inv X pins (σ.set i (some v)) H s'->(∃ a,Heap.SameBut a s.heap s'.heap/\(a=X.env.locals∨X.env.cells.lookup x=some a))->Q () s') (hf:X.fn x=true∨X.env.scope.names.lookup x=some .local:=by first | exact .inl rfl | exact .inr rfl | assumption):wpAny M A (storeName X.env x u) Q E s:=by
 obtain ⟨m,hn,hl⟩:=id I.loc
 have hcls:(X.env.scope.kind == .class || (X.env.scope.kind == .module && X.env.locals != X.env.globals))=false:=by rw [I.ok.kind]; rfl
 have hiσ:i < σ.length:=by rw [I.len]; exact (List.getElem?_eq_some_iff.mp hi).1
 have cne:=I.cne
 have tracked:∀{a:Addr} {h':Heap},(∃ o,s.heap.get? a=some o/\H a=none)->Heap.SameBut a s.heap h'->HOk X.prog X.w H h':=fun {a h'} ha hs b ob e=>by
  obtain ⟨_,_,hfree⟩:=ha
  refine (I.hok b ob e).stay (fun c w' hc q=>(hs.2 c ?_).trans q) (fun _ q=>q) fun _ _ q=>q
  rintro rfl
  rcases hc with rfl | hc
  ·rw [hfree] at e; cases e
  ·rw [hfree] at hc; cases hc
 rcases hx with hk | hk
 ·refine wpAny_storeName_local hk hn (fun h' hn' hs=>?_) hcls
  obtain ⟨oL,_,_,hoL,_⟩:=id hn
  refine h _ ⟨I.ok,I.os,I.bare,⟨fun b o e n hb hx=>?_,fun b o e n hb hx=>?_,I.base.free,fun b o e hx=>?_,I.base.tups,I.base.frzs,I.base.tbls⟩,⟨_,hn',fun j y v' e1 e2 e3=>?_⟩,fun y c e=>?_,I.free,I.freeC,fun p hp=>?_,tracked ⟨oL,hoL,I.free⟩ hs,by simpa using I.len⟩ ⟨_,hs,.inl rfl⟩
  ·exact (hs.2 b (Nat.ne_of_lt (Nat.lt_of_lt_of_le (Heap.lt_size e) I.ok.above))).trans (I.base.keep b o e n hb hx)
  ·obtain ⟨sl,e1⟩:=I.base.slot b o e n hb hx
   exact ⟨sl,(hs.2 b (Nat.ne_of_lt (Nat.lt_of_lt_of_le (Heap.lt_size e) I.ok.above))).trans e1⟩
  ·obtain ⟨o',e1⟩:=I.base.there b o e hx
   exact ⟨o',(hs.2 b (Nat.ne_of_lt (Nat.lt_of_lt_of_le (Heap.lt_size e) I.ok.above))).trans e1⟩
  ·by_cases hj:j=i
   ·subst hj
    rw [hi] at e1; cases e1
    rw [List.getElem?_set_self hiσ] at e2
    cases e2
    exact ⟨u,r,.inl ⟨hk,by simp⟩⟩
   ·rw [List.getElem?_set_ne (Ne.symm hj)] at e2
    obtain ⟨u',r',q⟩:=hl j y v' e1 e2 e3
    refine ⟨u',r',?_⟩
    rcases q with ⟨k,e⟩ | ⟨k,c,e,z⟩
    ·refine .inl ⟨k,?_⟩
     have:y≠x:=fun e=>hj (qI8 hN e1 (e ▸ hi))
     simp [this,e]
    ·exact .inr ⟨k,c,e,z.sameBut hs (cne y c e)⟩
  ·obtain ⟨w',z⟩:=I.cell y c e
   exact ⟨w',z.sameBut hs (cne y c e)⟩
  ·obtain ⟨e,n,ne,nf,d⟩:=I.pin p hp
   exact ⟨(hs.2 p.1 ne).trans e,n,ne,nf,d⟩
 ·have hfn:X.fn x=true:=by
   rcases hf with z | z
   ·exact z
   ·rw [z] at hk; cases hk
  obtain ⟨c,hc⟩:=I.ok.has x (.inl hk)
  obtain ⟨w',z⟩:=I.cell x c hc
  refine wpAny_storeName_cell I.ok.kind hk hc z (fun h' hc' hs=>?_)
  obtain ⟨oc,hoc,hocd⟩:=id z
  refine h { s with heap:=h' } ⟨I.ok,I.os,I.bare,⟨fun b o e n hb hx=>?_,fun b o e n hb hx=>?_,I.base.free,fun b o e hx=>?_,I.base.tups,I.base.frzs,I.base.tbls⟩,⟨m,hn.sameBut hs (Ne.symm (cne x c hc)),fun j y v' e1 e2 e3=>?_⟩,fun y c' e=>?_,I.free,I.freeC,fun p hp=>?_,tracked ⟨oc,hoc,I.freeC x c hc⟩ hs,by simpa using I.len⟩ ⟨c,hs,.inr hc⟩
  ·exact (hs.2 b (Nat.ne_of_lt (Nat.lt_of_lt_of_le (Heap.lt_size e) (I.ok.cab x c hfn hc)))).trans (I.base.keep b o e n hb hx)
  ·obtain ⟨sl,e1⟩:=I.base.slot b o e n hb hx
   exact ⟨sl,(hs.2 b (Nat.ne_of_lt (Nat.lt_of_lt_of_le (Heap.lt_size e) (I.ok.cab x c hfn hc)))).trans e1⟩
  ·obtain ⟨o',e1⟩:=I.base.there b o e hx
   exact ⟨o',(hs.2 b (Nat.ne_of_lt (Nat.lt_of_lt_of_le (Heap.lt_size e) (I.ok.cab x c hfn hc)))).trans e1⟩
  ·by_cases hj:j=i
   ·subst hj
    rw [hi] at e1; cases e1
    rw [List.getElem?_set_self hiσ] at e2
    cases e2
    exact ⟨u,r,.inr ⟨.inl hk,c,hc,hc'⟩⟩
   ·rw [List.getElem?_set_ne (Ne.symm hj)] at e2
    obtain ⟨u',r',q⟩:=hl j y v' e1 e2 e3
    refine ⟨u',r',?_⟩
    rcases q with q | ⟨k,c',e,z'⟩
    ·exact .inl q
    ·refine .inr ⟨k,c',e,z'.sameBut hs ?_⟩
     rintro rfl
     exact hj (qI8 hN e1 (I.ok.inj _ _ _ e hc ▸ hi))
  ·by_cases hcc:c'=c
   ·subst hcc; exact ⟨_,hc'⟩
   ·obtain ⟨w2,z2⟩:=I.cell y c' e
    exact ⟨w2,z2.sameBut hs hcc⟩
  ·obtain ⟨e,n,ne,nf,d⟩:=I.pin p hp
   refine ⟨(hs.2 p.1 ?_).trans e,n,ne,nf,d⟩
   intro q
   rw [q,hoc] at e
   have q':oc=p.2:=Option.some.inj e
   exact d w' (by rw [<- q']; exact hocd)
theorem qv8 {M:Model}{A:Around}{E:Value->Shared->Prop}{i:Nat}{x:Str}{v:V}{u:Value}{Q:Unit->Shared->Prop}(I:Inv X pins σ H s) (hN:X.N.Nodup) (hi:X.N[i]? = some x) (hx:Loc X.env.scope x) (r:RelV v u)
  (h:∀ s',Inv X pins (σ.set i (some v)) H s'->Q () s') (hf:X.fn x=true∨X.env.scope.names.lookup x=some .local:=by first | exact .inl rfl | exact .inr rfl | assumption):wpAny M A (storeName X.env x u) Q E s :=
 qp5 I hN hi hx r (fun s' I' _=>h s' I') hf
theorem Inv.call' {s':Shared}{ch:List Addr}(I:Inv X pins σ H s) (ho:s'.os=s.os) (u:Un (frs X.stack) ch H H' s.heap s'.heap) (hok:HOk X.prog X.w H' s'.heap) (hg:AllBare s'.gens)
  (hch:∀ b∈ch,(b∈X.ex∨X.s₀.heap.objs.size<=b)/\b≠X.env.locals/\(∀ x c,X.env.cells.lookup x=some c->c≠b)/\∀ p∈X.pn ++ pins,p.1≠b):Inv X pins σ H' s':=by
 obtain ⟨h',g',d',t',o'⟩:=s'
 have e:o'=s.os:=ho
 subst e
 exact I.call (g':=g') (t':=t') (d':=d') u hok hg hch
end
abbrev XK:=Value->Option Addr->Hp->Prop
abbrev St:=List (Option V)
abbrev VK:=V->Hp->Prop
abbrev TE:=St->Hp->VK->Prop
abbrev TT:=St->Hp->(Bool->Hp->Prop)->Prop
abbrev TA:=St->Hp->(List V->Hp->Prop)->Prop
structure Ends where
 nx:St->Hp->Prop
 rt:VK
 bk:St->Hp->Prop:=fun _ _=>False
 ct:St->Hp->Prop:=fun _ _=>False
abbrev TS:=Ends->St->Hp->Prop
def EP (X:Cx) (pins:List (Addr×Obj)) (σ:St) (Q:VK) (u:Value) (s':Shared):Prop:=∃ v H',Inv X pins σ H' s'/\RelV v u/\Q v H'
def TP (X:Cx) (pins:List (Addr×Obj)) (σ:St) (Q:Bool->Hp->Prop) (b:Bool) (s':Shared):Prop:=∃ H',Inv X pins σ H' s'/\Q b H'
def AP (X:Cx) (pins:List (Addr×Obj)) (σ:St) (Q:List V->Hp->Prop) (us:List Value) (s':Shared):Prop:=∃ vs H',Inv X pins σ H' s'/\Vals vs us/\Q vs H'
def SP (X:Cx) (pins:List (Addr×Obj)) (D:Ends) (f:Flow) (s':Shared):Prop :=
 match f with
 | .next=>∃ σ' H',Inv X pins σ' H' s'/\D.nx σ' H'
 | .brk=>∃ σ' H',Inv X pins σ' H' s'/\D.bk σ' H'
 | .cont=>∃ σ' H',Inv X pins σ' H' s'/\D.ct σ' H'
 | .ret u=>∃ v σ' H',Inv X pins σ' H' s'/\RelV v u/\D.rt v H'
def PE (X:Cx) (e:Expr) (t:TE):Prop :=
 ∀(pins:List (Addr×Obj)) (s:Shared) (σ:St) (H:Hp) (Q:VK),Inv X pins σ H s->t σ H Q->wpAny (model X.prog X.w) X.A (eval e X.env) (EP X pins σ Q) X.xe s
def PT (X:Cx) (e:Expr) (t:TT):Prop :=
 ∀(pins:List (Addr×Obj)) (s:Shared) (σ:St) (H:Hp) (Q:Bool->Hp->Prop),Inv X pins σ H s->t σ H Q->wpAny (model X.prog X.w) X.A (isTrue e X.env (eval e X.env)) (TP X pins σ Q) X.xe s
def PW (X:Cx) (e:Expr) (t:TT):Prop :=
 ∀(whole:Sem Value) (pins:List (Addr×Obj)) (s:Shared) (σ:St) (H:Hp) (Q:Bool->Hp->Prop),Inv X pins σ H s->t σ H Q->wpAny (model X.prog X.w) X.A (isTrue e X.env whole) (TP X pins σ Q) X.xe s
theorem PW.pt {X:Cx}{e:Expr}{t:TT}(h:PW X e t):PT X e t:=h _
def PA (X:Cx) (es:List Expr) (t:TA):Prop :=
 ∀(pos:Pos) (pins:List (Addr×Obj)) (s:Shared) (σ:St) (H:Hp) (Q:List V->Hp->Prop),Inv X pins σ H s->t σ H Q->wpAny (model X.prog X.w) X.A (spliced (backTo pos (starEach es X.env))) (AP X pins σ Q) X.xe s
def PS (X:Cx) (st:Stmt) (t:TS):Prop :=
 ∀(pins:List (Addr×Obj)) (s:Shared) (σ:St) (H:Hp) (D:Ends),Inv X pins σ H s->t D σ H->wpAny (model X.prog X.w) X.A (exec st X.env) (SP X pins D) X.xe s
def PSs (X:Cx) (st:List Stmt) (t:TS):Prop :=
 ∀(pins:List (Addr×Obj)) (s:Shared) (σ:St) (H:Hp) (D:Ends),Inv X pins σ H s->t D σ H->wpAny (model X.prog X.w) X.A (execs st X.env) (SP X pins D) X.xe s
theorem thn {α:Type}{t:Sem α}{Q Q':α->Shared->Prop}{M:Model}{A:Around}{E:Value->Shared->Prop}{s:Shared}(h:wpAny M A t Q E s) (hQ:∀ a s,Q a s->Q' a s):wpAny M A t Q' E s:=wpAny_mono h hQ fun _ _ x=>x
end L2
namespace L2
open PySem PySem.Spec PyProof.Rows
section
variable {X:Cx}
theorem bin {a b:Expr}{ta tb:TE}(ha:PE X a ta) (hb:PE X b tb) {pins:List (Addr×Obj)}{s:Shared}{σ:St}{H:Hp}{R:V->V->Hp->Prop}(I:Inv X pins σ H s) (h:ta σ H fun x H1=>tb σ H1 fun y H2=>R x y H2)
  {α:Type} {Q:α->Shared->Prop} {f:Value->Value->Sem α}
  (hf:∀ v u s2 x y H2,Inv X pins σ H2 s2->RelV x v->RelV y u->R x y H2->wpAny (model X.prog X.w) X.A (f v u) Q X.xe s2) :
  wpAny (model X.prog X.w) X.A (eval a X.env) (fun v s₁=>wpAny (model X.prog X.w) X.A (eval b X.env) (fun u s₂=>wpAny (model X.prog X.w) X.A (f v u) Q X.xe s₂) X.xe s₁) X.xe s:=by
 refine thn (ha pins s σ H _ I h) fun v s1 ⟨x,H1,I1,r1,q1⟩=>?_
 refine thn (hb pins s1 σ H1 _ I1 q1) fun u s2 ⟨y,H2,I2,r2,q2⟩=>?_
 exact hf v u s2 x y H2 I2 r1 r2 q2
def qO9 (i:Nat):TE:=fun σ H Q=>∃ v,σ[i]? = some (some v)/\Q v H
def tC (v:V):TE:=fun _ H Q=>Q v H
theorem za1 {i:Nat}{x:Str}{pos:Pos}(hN:X.N[i]? = some x) (hv:Vis X.env.scope x) (hd:(x == ("__debug__" : Str))=false:=by decide) (hcd:(x == ("__classdict__" : Str))=false:=by decide):PE X (.Name x pos) (qO9 i):=by
 intro pins s σ H Q I h
 obtain ⟨v,e,h⟩:=h
 obtain ⟨m,hn,hl⟩:=I.loc
 obtain ⟨u,r,l⟩:=hl i x v hN e hv
 have fin:EP X pins σ Q u s:=⟨v,H,I,r,h⟩
 rcases l with ⟨hk,hm⟩ | ⟨hk,c,hc,hcell⟩
 ·exact wpAny_Name (wpAny_loadName_local I.ok.kind hk hn hm fin) hd
 ·rcases hk with hk | hk
  ·exact wpAny_Name (wpAny_loadName_cell I.ok.kind hk hc hcell fin) hd
  ·exact wpAny_Name (wpAny_loadName_free I.ok.kind hk hc hcell fin hcd) hd
theorem q06 {i j pos}:PE X (.Constant (.int i) j pos) (tC (.int i)):=fun _ _ _ H _ I h=>wpAny_Constant_int ⟨.int i,H,I.tok _,⟨_,rfl⟩,h⟩
theorem qw7 {b j pos}:PE X (.Constant (.bool b) j pos) (tC (.bl b)):=fun _ _ _ H _ I h=>Constant_bool ⟨.bl b,H,I,rfl,h⟩
theorem qS8 {j pos}:PE X (.Constant .none j pos) (tC .non):=fun _ _ _ H _ I h=>Constant_none ⟨.non,H,I,rfl,h⟩
theorem q20 {x j pos}:PE X (.Constant (.str x) j pos) (tC (.str x)):=fun _ _ _ H _ I h=>Calls.Constant_str ⟨.str x,H,I.tok _,⟨_,rfl⟩,h⟩
def Gl (X:Cx) (x:Str):Prop:=X.env.kindOf x=some .globalImplicit
theorem qj0 {E:Value->Shared->Prop}{pins:List (Addr×Obj)}{s:Shared}{σ:St}{H:Hp}{x:Str}{u:Value}{pos:Pos}{Q:Value->Shared->Prop}(I:Inv X pins σ H s) (hg:Gl X x) (hm:X.mg x=some u) (h:Q u s)
  (hd:(x == ("__debug__" : Str))=false:=by decide):wpAny (model X.prog X.w) X.A (eval (.Name x pos) X.env) Q E s :=
 Calls.Name_function_global I.ok.kind hg (Calls.loadGlobal_global (by rw [I.ok.glob]; exact I.mod.glob.keeps I.bk) hm h) hd
theorem qk5 {E:Value->Shared->Prop}{pins:List (Addr×Obj)}{s:Shared}{σ:St}{H:Hp}{x:Str}{u:Value}{pos:Pos}{Q:Value->Shared->Prop}(I:Inv X pins σ H s) (hg:Gl X x) (hm:X.mg x=none) (hv:bootBuiltins x=some u) (h:Q u s)
  (hn:x ≠ "__name__" := by decide) (hd:(x == ("__debug__" : Str))=false:=by decide):wpAny (model X.prog X.w) X.A (eval (.Name x pos) X.env) Q E s:=by
 obtain ⟨mb,h1,h2⟩:=I.mod.blt
 exact Calls.Name_function_global I.ok.kind hg (Calls.loadGlobal_builtin (by rw [I.ok.glob]; exact I.mod.glob.keeps I.bk) hm (by rw [I.ok.blt]; exact h1.keeps I.bk) ((h2 x hn).trans hv) h) hd
theorem ql8 {x:Str}{v:V}{u:Value}{pos:Pos}(hg:Gl X x) (hm:X.mg x=some u) (r:RelV v u) (hd:(x == ("__debug__" : Str))=false:=by decide):PE X (.Name x pos) (tC v) :=
 fun _ _ _ H _ I h=>qj0 I hg hm ⟨v,H,I,r,h⟩ hd
theorem q86 {x:Str}{v:V}{u:Value}{pos:Pos}(hg:Gl X x) (hm:X.mg x=none) (hv:bootBuiltins x=some u) (r:RelV v u) (hn:x ≠ "__name__" := by decide) (hd:(x == ("__debug__" : Str))=false:=by decide):PE X (.Name x pos) (tC v) :=
 fun _ _ _ H _ I h=>qk5 I hg hm hv ⟨v,H,I,r,h⟩ hn hd
variable {a b:Expr}{ta tb:TE}{pos:Pos}
def PC (X:Cx) (op:CmpOp) (a b:Expr) (t:TE):Prop :=
 ∀(pins:List (Addr×Obj)) (s:Shared) (σ:St) (H:Hp) (Q:VK),Inv X pins σ H s->t σ H Q ->
  wpAny (model X.prog X.w) X.A (eval a X.env) (fun v s₁=>wpAny (model X.prog X.w) X.A (eval b X.env) (fun u s₂=>wpAny (model X.prog X.w) X.A (compareOp op v u) (EP X pins σ Q) X.xe s₂) X.xe s₁) X.xe s
theorem z54 (b:Expr) {op:CmpOp}(h:op≠.In) (h2:op≠.NotIn):behindInMarks op b=false:=by
 have e1:(op == CmpOp.In)=false:=by cases op <;> first | rfl | exact absurd rfl h
 have e2:(op == CmpOp.NotIn)=false:=by cases op <;> first | rfl | exact absurd rfl h2
 cases b <;> simp [behindInMarks,e1,e2]
def tNotN (ta:TE):TE:=fun σ H Q=>ta σ H fun x H1=>Q (.bl (!decide (x=.non))) H1
theorem RelV.none_iff {x:V}{v:Value}(r:RelV x v):(v == Value.none)=decide (x=.non):=by
 cases x with
 | non=>cases r; rfl
 | bl _=>cases r; rfl
 | int _=>obtain ⟨t,rfl⟩:=r; rfl
 | str _=>obtain ⟨t,rfl⟩:=r; rfl
 | byt _=>obtain ⟨t,rfl⟩:=r; rfl
 | flt _=>obtain ⟨t,rfl⟩:=r; rfl
 | ref _=>cases r; rfl
 | ty _=>cases r; rfl
theorem pc_notN {j pos'}(ha:PE X a ta):PC X .IsNot a (.Constant .none j pos') (tNotN ta):=by
 intro pins s σ H Q I h
 refine thn (ha pins s σ H _ I h) fun v s1 ⟨x,H1,I1,r1,q1⟩=>?_
 exact Constant_none (isnot_none_gen ⟨.bl _,H1,I1,by rw [r1.none_iff]; rfl,q1⟩)
def tB (t:TE):TT:=fun σ H Q=>t σ H fun x H1=>∃ c,x=.bl c/\Q c H1
theorem qS2 {op:CmpOp}{t:TE}(h:PC X op a b t) (h1:behindInMarks op b=false:=by first | exact z54 _ (by decide) (by decide) | rfl):PT X (.Compare a [op] [b] pos) (tB t):=by
 intro pins s σ H Q I hw
 refine wpAny_isTrue_Compare1 (thn (h pins s σ H _ I hw) fun v s1 h1=>thn h1 fun u s2 h2=>thn h2 fun c s3 ⟨x,H1,I1,r1,q1⟩=>?_) h1
 obtain ⟨d,rfl,q⟩:=q1
 cases r1
 exact wpAny_truthy_bool ⟨H1,I1,q⟩
theorem q61 {e:Expr}{t:TE}(h:PE X e t) (he:∀ whole,isTrue e X.env whole=(do let v <- whole; standAt e.pos; holding [v] (truthy v)):=by intro _; rfl):PT X e (tB t):=by
 intro pins s σ H Q I hw
 refine isTrue_plain (thn (h pins s σ H _ I hw) fun v s1 ⟨x,H1,I1,r1,q1⟩=>?_) (he _)
 obtain ⟨d,rfl,q⟩:=q1
 cases r1
 exact wpAny_truthy_bool ⟨H1,I1,q⟩
variable {tA tB':TT}{qd9:List Expr}
def tAnd (t u:TT):TT:=fun σ H Q=>t σ H fun c H1=>if c=true then u σ H1 Q else Q false H1
def tOr (t u:TT):TT:=fun σ H Q=>t σ H fun c H1=>if c=true then Q true H1 else u σ H1 Q
def tNot (t:TT):TT:=fun σ H Q=>t σ H fun c H1=>Q (!c) H1
theorem qa6 (ha:PT X a tA):PW X (.BoolOp .And [a] pos) tA:=by
 intro wh pins s σ H Q I h
 refine isTrue_and (thn (ha pins s σ H Q I h) fun c s1 e=>?_)
 cases c with
 | true=>exact isTrue_and_nil e
 | false=>exact e
theorem qj8 (ha:PT X a tA):PW X (.BoolOp .Or [a] pos) tA:=by
 intro wh pins s σ H Q I h
 refine isTrue_or (thn (ha pins s σ H Q I h) fun c s1 e=>?_)
 cases c with
 | false=>exact isTrue_or_nil e
 | true=>exact e
theorem qe0 (ha:PT X a tA) (hb:PW X (.BoolOp .And (b :: qd9) pos) tB'):PW X (.BoolOp .And (a :: b :: qd9) pos) (tAnd tA tB'):=by
 intro wh pins s σ H Q I h
 refine isTrue_and (thn (ha pins s σ H _ I h) fun c s1 ⟨H1,I1,q1⟩=>?_)
 cases c with
 | true=>exact hb wh pins s1 σ H1 Q I1 q1
 | false=>exact ⟨H1,I1,q1⟩
theorem qw2 (ha:PT X a tA) (hb:PW X (.BoolOp .Or (b :: qd9) pos) tB'):PW X (.BoolOp .Or (a :: b :: qd9) pos) (tOr tA tB'):=by
 intro wh pins s σ H Q I h
 refine isTrue_or (thn (ha pins s σ H _ I h) fun c s1 ⟨H1,I1,q1⟩=>?_)
 cases c with
 | true=>exact ⟨H1,I1,q1⟩
 | false=>exact hb wh pins s1 σ H1 Q I1 q1
theorem qa7 (ha:PT X a tA):PT X (.UnaryOp .Not a pos) (tNot tA):=by
 intro pins s σ H Q I h
 exact isTrue_not (ha pins s σ H (fun c H1=>Q (!c) H1) I h)
def tAndV (ta tb:TE):TE:=fun σ H Q=>ta σ H fun x H1=>∃ c,x=.bl c/\if c=true then tb σ H1 Q else Q (.bl false) H1
theorem qn3 {op}{t:TE}(h:PE X a t):PE X (.BoolOp op [a] pos) t:=fun pins s σ H Q I hw=>BoolOp_one (h pins s σ H Q I hw)
theorem qh7 (ha:PE X a ta) (hb:PE X (.BoolOp .And (b :: qd9) pos) tb):PE X (.BoolOp .And (a :: b :: qd9) pos) (tAndV ta tb):=by
 intro pins s σ H Q I h
 refine BoolOp_and (thn (ha pins s σ H _ I h) fun v s1 ⟨x,H1,I1,r1,q1⟩=>?_)
 obtain ⟨c,rfl,q1⟩:=q1
 cases r1
 refine wpAny_truthy_bool ?_
 cases c with
 | true=>exact hb pins s1 σ H1 Q I1 q1
 | false=>exact ⟨.bl false,H1,I1,rfl,q1⟩
def tIf (t:TT) (ta tb:TE):TE:=fun σ H Q=>t σ H fun c H1=>if c=true then ta σ H1 Q else tb σ H1 Q
theorem q58 {c:Expr}(hc:PT X c tA) (ha:PE X a ta) (hb:PE X b tb):PE X (.IfExp c a b pos) (tIf tA ta tb):=by
 intro pins s σ H Q I h
 refine wpAny_IfExp (thn (hc pins s σ H _ I h) fun d s1 ⟨H1,I1,q1⟩=>?_)
 cases d with
 | true=>exact ha pins s1 σ H1 Q I1 q1
 | false=>exact hb pins s1 σ H1 Q I1 q1
end
end L2
namespace L2
open PySem PySem.Spec PyProof.Rows
def SqL (K:PySem.W.Frag) (H:Hp) (a:Addr) (xs:List V):Prop :=
 Rd H a (.lst xs) ∨
  ∃(o:Obj) (its:Array Value) (n:Nat),K.lookup a=some o/\o.cls=.type "list" /\ o.dict=none/\o.data=.seq its n/\its.size<=sizeLine/\Vals xs its.toList
def SqT (K:PySem.W.Frag) (H:Hp) (a:Addr) (xs:List V):Prop :=
 Rd H a (.tup xs) ∨
  ∃(o:Obj) (its:Array Value) (n:Nat),K.lookup a=some o/\o.cls=.type "tuple" /\ o.data=.seq its n/\its.size<=sizeLine/\Vals xs its.toList
def absV:Value->Option V
 | .none=>some .non
 | .bool b=>some (.bl b)
 | .int i _=>some (.int i)
 | .str x _=>some (.str x)
 | .bytes b _=>some (.byt b)
 | .float b _=>some (.flt b)
 | .ref a=>some (.ref a)
 | .type n=>some (.ty n)
 | _=>none
theorem RelV.abs {x:V}{u:Value}(r:RelV x u):absV u=some x:=by
 cases x with
 | non=>cases r; rfl
 | bl _=>cases r; rfl
 | int _=>obtain ⟨t,rfl⟩:=r; rfl
 | str _=>obtain ⟨t,rfl⟩:=r; rfl
 | byt _=>obtain ⟨t,rfl⟩:=r; rfl
 | flt _=>obtain ⟨t,rfl⟩:=r; rfl
 | ref _=>cases r; rfl
 | ty _=>cases r; rfl
theorem RelV.inj {x y:V}{u:Value}(r:RelV x u) (q:RelV y u):x=y:=Option.some.inj (r.abs.symm.trans q.abs)
theorem Vals.inj:∀{xs ys:List V}{us:List Value},Vals xs us->Vals ys us->xs=ys
 | _,_,_,.nil,.nil=>rfl
 | _,_,_,.cons r t,.cons r' t'=>by rw [r.inj r',Vals.inj t t']
section
variable {X:Cx}{pins:List (Addr×Obj)}{σ:St}{H:Hp}{s:Shared}{a:Addr}{xs ys:List V}
theorem SqL.of {K:PySem.W.Frag}(h:H a=some (.lst xs)):SqL K H a xs:=.inl (.inl h)
theorem SqT.of {K:PySem.W.Frag}(h:H a=some (.tup xs)):SqT K H a xs:=.inl (.inl h)
theorem Inv.list (I:Inv X pins σ H s) (h:SqL X.K H a xs):∃ its:List Value,Vals xs its/\PlainL s.heap a its.toArray/\xs.length<=sizeLine:=by
 rcases h with h | ⟨o,its,n,hk,hc,hd,hs,hz,r⟩
 ·obtain ⟨z,its,n,r,e⟩:=h.ok I.hok
  exact ⟨its,r,⟨_,n,e,rfl,rfl,rfl⟩,z⟩
 ·refine ⟨its.toList,r,⟨o,n,I.kIn a o hk,hc,hd,by simpa using hs⟩,?_⟩
  have e:=r.length
  simp only [Array.length_toList] at e
  omega
theorem Inv.tuple (I:Inv X pins σ H s) (h:SqT X.K H a xs):∃ its:List Value,Vals xs its/\IsTup s.heap a its.toArray/\xs.length<=sizeLine:=by
 rcases h with h | ⟨o,its,n,hk,hc,hs,hz,r⟩
 ·obtain ⟨z,its,r,p⟩:=h.ok I.hok
  exact ⟨its,r,p,z⟩
 ·refine ⟨its.toList,r,⟨o,I.kIn a o hk,hc,n,by simpa using hs⟩,?_⟩
  have e:=r.length
  simp only [Array.length_toList] at e
  omega
theorem Inv.list_inj (I:Inv X pins σ H s) (h:SqL X.K H a xs) (h':SqL X.K H a ys):xs=ys:=by
 obtain ⟨its,r,⟨o,n,e,_,_,d⟩,_⟩:=I.list h
 obtain ⟨its',r',⟨o',n',e',_,_,d'⟩,_⟩:=I.list h'
 rw [e] at e'; cases e'
 rw [d] at d'
 injection d' with d1 _
 have:its=its':=by simpa using congrArg Array.toList d1
 subst this
 exact r.inj r'
end
abbrev Cx.wish (X:Cx) (E:Value->Shared->Prop):Cx:={ X with xe:=E }
abbrev Cx.nox (X:Cx):Cx:=X.wish fun _ _=>False
theorem Cx.Ok.wish {X:Cx}(ok:X.Ok) (E:Value->Shared->Prop):(X.wish E).Ok :=
 ⟨ok.mod,ok.kind,ok.glob,ok.blt,ok.above,ok.inj,ok.has,ok.cab,ok.hd,ok.frames,ok.stk,ok.exf,ok.bs,ok.bsz,ok.noex,ok.exfs,ok.funs,ok.frf⟩
theorem Cx.Ok.unwish {X:Cx}{E:Value->Shared->Prop}(ok:(X.wish E).Ok):X.Ok :=
 ⟨ok.mod,ok.kind,ok.glob,ok.blt,ok.above,ok.inj,ok.has,ok.cab,ok.hd,ok.frames,ok.stk,ok.exf,ok.bs,ok.bsz,ok.noex,ok.exfs,ok.funs,ok.frf⟩
section
variable {X:Cx}{pins:List (Addr×Obj)}{σ:St}{H:Hp}{s:Shared}{E:Value->Shared->Prop}
theorem Inv.wish (I:Inv X pins σ H s) (E:Value->Shared->Prop):Inv (X.wish E) pins σ H s:=⟨I.ok.wish E,I.os,I.bare,I.base,I.loc,I.cell,I.free,I.freeC,I.pin,I.hok,I.len⟩
theorem Inv.unwish (I:Inv (X.wish E) pins σ H s):Inv X pins σ H s:=⟨I.ok.unwish,I.os,I.bare,I.base,I.loc,I.cell,I.free,I.freeC,I.pin,I.hok,I.len⟩
theorem SP.unwish {D:Ends}{f:Flow}{s':Shared}(h:SP (X.wish E) pins D f s'):SP X pins D f s':=by
 cases f with
 | next=>obtain ⟨σ',H',I,q⟩:=h; exact ⟨σ',H',I.unwish,q⟩
 | brk=>obtain ⟨σ',H',I,q⟩:=h; exact ⟨σ',H',I.unwish,q⟩
 | cont=>obtain ⟨σ',H',I,q⟩:=h; exact ⟨σ',H',I.unwish,q⟩
 | ret u=>obtain ⟨v,σ',H',I,r,q⟩:=h; exact ⟨v,σ',H',I.unwish,r,q⟩
theorem PE.nox {e:Expr}{t:TE}(h:PE X.nox e t):PE X e t:=fun pins s σ H Q I hw =>
 wpAny_mono (h pins s σ H Q (I.wish _) hw) (fun _ _ ⟨v,H',I',r,q⟩=>⟨v,H',I'.unwish,r,q⟩) fun _ _ z=>False.elim z
theorem PT.nox {e:Expr}{t:TT}(h:PT X.nox e t):PT X e t:=fun pins s σ H Q I hw =>
 wpAny_mono (h pins s σ H Q (I.wish _) hw) (fun _ _ ⟨H',I',q⟩=>⟨H',I'.unwish,q⟩) fun _ _ z=>False.elim z
theorem PSs.nox {st:List Stmt}{t:TS}(h:PSs X.nox st t):PSs X st t:=fun pins s σ H D I hw =>
 wpAny_mono (h pins s σ H D (I.wish _) hw) (fun _ _ q=>q.unwish) fun _ _ z=>False.elim z
end
section
variable {X:Cx}{st:Stmt}{qd9:List Stmt}{t u:TS}{e:Expr}{te:TE}{pos:Pos}
def tNext:TS:=fun D σ H=>D.nx σ H
def tSeq (t u:TS):TS:=fun D σ H=>t { D with nx:=u D } σ H
theorem q16:PSs X [] tNext:=fun _ _ σ H _ I h=>wpAny_execs_nil ⟨σ,H,I,h⟩
theorem q04 (h1:PS X st t) (h2:PSs X qd9 u):PSs X (st :: qd9) (tSeq t u):=by
 intro pins s σ H D I h
 refine wpAny_execs_cons (thn (h1 pins s σ H { D with nx:=u D } I h) fun f s1 q=>?_)
 cases f with
 | next =>
  obtain ⟨σ',H',I',q⟩:=q
  exact h2 pins s1 σ' H' D I' q
 | ret v=>exact q
 | brk=>exact q
 | cont=>exact q
theorem q05 (h1:PS X st t):PSs X [st] t:=by
 intro pins s σ H D I h
 refine wpAny_execs_cons (thn (h1 pins s σ H D I h) fun f s1 q=>?_)
 cases f with
 | next=>exact wpAny_execs_nil q
 | ret v=>exact q
 | brk=>exact q
 | cont=>exact q
def tCont:TS:=fun D σ H=>D.ct σ H
theorem qE9:PS X (.Continue pos) tCont:=fun _ _ σ H _ I h=>wpAny_Continue ⟨σ,H,I,h⟩
theorem Inv.quiet {pins:List (Addr×Obj)}{σ:St}{H:Hp}{s:Shared}(I:Inv X pins σ H s):interactive X.env=false:=by simp [interactive,I.ok.kind]
def tDrop (te:TE):TS:=fun D σ H=>te σ H fun _ H1=>D.nx σ H1
theorem q18 (he:PE X e te) (hs:swapsWith e none pos.line X.env=pure false:=by rfl):PS X (.Expr e pos) (tDrop te):=by
 intro pins s σ H D I h
 exact wpAny_Expr_any (thn (he pins s σ H _ I h) fun v s1 ⟨x,H1,I1,r1,q1⟩=>⟨σ,H1,I1,q1⟩) I.quiet hs
def tRet (te:TE):TS:=fun D σ H=>te σ H D.rt
theorem q12 (he:PE X e te):PS X (.Return (some e) pos) (tRet te):=by
 intro pins s σ H D I h
 exact wpAny_Return_some (thn (he pins s σ H _ I h) fun v s1 ⟨x,H1,I1,r1,q1⟩=>⟨x,σ,H1,I1,r1,q1⟩)
def tRetN:TS:=fun D _ H=>D.rt .non H
theorem ps_retN:PS X (.Return none pos) tRetN:=fun _ _ σ H _ I h=>wpAny_Return_none ⟨.non,σ,H,I,rfl,h⟩
def tIfS (c:TT) (t u:TS):TS:=fun D σ H=>c σ H fun b H1=>if b=true then t D σ H1 else u D σ H1
theorem q30 {c:Expr}{a b:List Stmt}{tc:TT}(hc:PT X c tc) (ha:PSs X a t) (hb:PSs X b u):PS X (.If c a b pos) (tIfS tc t u):=by
 intro pins s σ H D I h
 refine wpAny_If (thn (hc pins s σ H _ I h) fun d s1 ⟨H1,I1,q1⟩=>?_)
 cases d with
 | true=>exact ha pins s1 σ H1 D I1 q1
 | false=>exact hb pins s1 σ H1 D I1 q1
def tNever:TS:=fun _ _ _=>False
theorem qg9:PS X st tNever:=fun _ _ _ _ _ _ h=>h.elim
end
abbrev TG:=V->St->Hp->(St->Hp->Prop)->Prop
abbrev TGs:=List V->St->Hp->(St->Hp->Prop)->Prop
def PG (X:Cx) (target:Expr) (t:TG):Prop :=
 ∀(pins:List (Addr×Obj)) (s:Shared) (σ:St) (H:Hp) (v:V) (u:Value) (Q:St->Hp->Prop),Inv X pins σ H s->RelV v u->t v σ H Q ->
  wpAny (model X.prog X.w) X.A (assign target X.env u) (fun _ s'=>∃ σ' H',Inv X pins σ' H' s'/\Q σ' H') X.xe s
def PGs (X:Cx) (ts:List Expr) (t:TGs):Prop :=
 ∀(pins:List (Addr×Obj)) (s:Shared) (σ:St) (H:Hp) (vs:List V) (us:List Value) (Q:St->Hp->Prop),Inv X pins σ H s->Vals vs us->t vs σ H Q ->
  wpAny (model X.prog X.w) X.A (assignInOrder ((assignEach ts X.env).map (·.2)) us) (fun _ s'=>∃ σ' H',Inv X pins σ' H' s'/\Q σ' H') X.xe s
section
variable {X:Cx}{pos:Pos}
def q54 (i:Nat):TG:=fun v σ H Q=>Q (σ.set i (some v)) H
theorem q11 {i:Nat}{x:Str}(hN:X.N.Nodup) (hi:X.N[i]? = some x) (hx:Loc X.env.scope x) (hf:X.fn x=true∨X.env.scope.names.lookup x=some .local:=by first | exact .inl rfl | exact .inr rfl | assumption):PG X (.Name x pos) (q54 i):=by
 intro pins s σ H v u Q I r h
 exact wpAny_assign_Name (qv8 I hN hi hx r (fun s' I'=>⟨_,H,I',h⟩) hf)
def qD6:TGs:=fun vs σ H Q=>vs=[]/\Q σ H
def q64 (t:TG) (u:TGs):TGs:=fun vs σ H Q=>∃ v r,vs=v :: r/\t v σ H fun σ' H'=>u r σ' H' Q
theorem q72:PGs X [] qD6:=by
 intro pins s σ H vs us Q I r h
 obtain ⟨e,h⟩:=h
 subst e
 cases r
 exact assignInOrder_nil ⟨σ,H,I,h⟩
theorem q23 {e:Expr}{es:List Expr}{t:TG}{u:TGs}(h1:PG X e t) (h2:PGs X es u)
  (hs:(assignEach (e :: es) X.env).map (·.2)=assign e X.env :: (assignEach es X.env).map (·.2):=by rfl):PGs X (e :: es) (q64 t u):=by
 intro pins s σ H vs us Q I r h
 obtain ⟨v,vr,e1,h⟩:=h
 subst e1
 cases r with
 | cons r rr =>
  rw [hs]
  refine assignInOrder_cons (thn (h1 pins s σ H _ _ _ I r h) fun _ s1 ⟨σ1,H1,I1,q1⟩=>?_)
  exact h2 pins s1 σ1 H1 _ _ Q I1 rr q1
def qD5 (K:PySem.W.Frag) (n:Nat) (t:TGs):TG:=fun v σ H Q=>∃ a xs,v=.ref a/\SqT K H a xs/\xs.length=n/\t xs σ H Q
theorem qa8 {es:List Expr}{k:Nat}{t:TGs}{n:Nat}(hc:X.calm=true) (h:PGs X es t)
  (hn:(assignEach es X.env).length=n:=by rfl) (hst:(assignEach es X.env).findIdx? (·.1)=none:=by rfl):PG X (.Tuple es k pos) (qD5 X.K n t):=by
 intro pins s σ H v u Q I r hw
 obtain ⟨a,xs,e1,hq,hl,hw⟩:=hw
 subst e1
 cases r
 obtain ⟨its,rv,ht,hz⟩:=I.tuple hq
 refine assign_Tuple_tuple (I.ok.hd hc) ht (by simp [hn,<- hl,rv.length]) hst fun h' hx=>?_
 have I1:Inv X pins σ H { s with heap:=h' }:=I.kept (t':=s.toks) fun b o e=>hx b o (Nat.ne_of_lt (Heap.lt_size e)) e
 exact h pins _ σ H xs _ Q I1 (by simpa using rv) hw
def tAsg (te:TE) (g:TG):TS:=fun D σ H=>te σ H fun x H1=>g x σ H1 D.nx
theorem q21 {i:Nat}{x:Str}{e:Expr}{te:TE}{pos':Pos}(hN:X.N.Nodup) (hi:X.N[i]? = some x) (hx:Loc X.env.scope x) (he:PE X e te) (hs:swapsWith e (some (.Name x pos')) pos.line X.env=pure false:=by rfl) (hf:X.fn x=true∨X.env.scope.names.lookup x=some .local:=by first | exact .inl rfl | exact .inr rfl | assumption) :
  PS X (.Assign [.Name x pos'] e pos) (tAsg te (q54 i)):=by
 intro pins s σ H D I h
 refine wpAny_Assign_Name (thn (he pins s σ H _ I h) fun v s1 ⟨y,H1,I1,r1,q1⟩=>?_) hs
 exact qv8 I1 hN hi hx r1 (fun s2 I2=>⟨_,H1,I2,q1⟩) hf
end
section
variable {X:Cx}{pos:Pos}
def tWhile (c:TT) (tb:TS):TS:=fun D σ H=>∃ W:Nat->St->Hp->Prop,(∃ m,W m σ H)/\∀ m σ H,W m σ H ->
 c σ H fun b H1=>if b=true then ∃ N:St->Hp->Prop,(∀ σ' H',N σ' H'->∃ m',m' < m/\W m' σ' H')/\tb { D with nx:=N,ct:=N,bk:=D.nx } σ H1 else D.nx σ H1
theorem qH9 {c:Expr}{body:List Stmt}{tc:TT}{tb:TS}(hp:PassesOwn (model X.prog X.w) X.A X.env X.xe) (hc:PT X c tc) (hb:PSs X body tb):PS X (.While c body [] pos) (tWhile tc tb):=by
 intro pins s σ H D I h
 obtain ⟨W,⟨m0,w0⟩,turn⟩:=h
 refine wpAny_While (codeAny_whileLoop (fun n s'=>∃ σ' H',Inv X pins σ' H' s'/\W n σ' H') ?_ m0 ⟨σ,H,I,w0⟩)
 rintro n s1 ⟨σ1,H1,I1,w1⟩
 refine wpAny_passesOwn hp (thn (hc pins s1 σ1 H1 _ I1 (turn n σ1 H1 w1)) fun b s2 ⟨H2,I2,q2⟩=>?_)
 cases b with
 | true =>
  obtain ⟨N,hN,q2⟩:=q2
  rw [if_pos rfl]
  refine wpAny_passesOwn hp (thn (hb pins s2 σ1 H2 _ I2 q2) fun f s3 q3=>?_)
  cases f with
  | next =>
   obtain ⟨σ3,H3,I3,n3⟩:=q3
   obtain ⟨m',hm,w3⟩:=hN σ3 H3 n3
   exact ⟨m',hm,σ3,H3,I3,w3⟩
  | cont =>
   obtain ⟨σ3,H3,I3,n3⟩:=q3
   obtain ⟨m',hm,w3⟩:=hN σ3 H3 n3
   exact ⟨m',hm,σ3,H3,I3,w3⟩
  | brk=>exact q3
  | ret v=>exact q3
 | false =>
  rw [if_neg Bool.false_ne_true]
  exact wpAny_execs_nil ⟨σ1,H2,I2,q2⟩
end
structure It where
 go:Nat->Hp->Prop
 yld:Nat->Hp->V->Hp->Prop
 stop:Nat->Hp->Prop
def qt5 (X:Cx) (pins:List (Addr×Obj)) (H:Hp) (b:Addr):Prop :=
 H b=none/\b≠X.env.locals/\b∉X.fs/\(b∈X.ex∨X.s₀.heap.objs.size<=b)/\(∀ x c,X.env.cells.lookup x=some c->c≠b)/\∀ p∈X.pn ++ pins,p.1≠b
theorem Inv.fpOk {X:Cx}{pins:List (Addr×Obj)}{σ:St}{H H':Hp}{s:Shared}{b:Addr}(I:Inv X pins σ H s) (hb:s.heap.objs.size<=b) (hn:H' b=none):qt5 X pins H' b:=by
 refine ⟨hn,Nat.ne_of_gt (Nat.lt_of_lt_of_le I.lt hb),I.nofs hb,.inr (Nat.le_trans I.sz hb),fun x c e z=>?_,fun p hp z=>?_⟩
 ·obtain ⟨v,q⟩:=I.cell x c e
  exact absurd (Nat.lt_of_lt_of_le q.lt (by rw [z]; exact hb)) (Nat.lt_irrefl _)
 ·exact absurd (Nat.lt_of_lt_of_le (Heap.lt_size (I.pin p hp).1) (by rw [z]; exact hb)) (Nat.lt_irrefl _)
structure Turn (P:Program) (w:World) (K:PySem.W.Frag) (tg:Expr) (J:It) (fp:List Addr) (it:Addr) (tn:Nat->Heap->Prop):Prop where
 mem:it∈fp
 obj:∀ i h,tn i h->∀ b∈fp,∃ o,h.get? b=some o/\∀ v,o.data≠.cell v
 keep:∀ i h h',tn i h->(∀ b∈fp,∀ o,h.get? b=some o->h'.get? b=some o)->tn i h'
 item:∀(X:Cx),X.prog=P->X.w=w->X.K=K->X.calm=true->∀(i:Nat) (pins:List (Addr×Obj)) (s:Shared) (σ:St) (H:Hp) (E:Value->Shared->Prop),Inv X pins σ H s->(∀ b∈fp,qt5 X pins H b)->tn i s.heap->J.go i H ->
  wpAny (model P w) X.A (pyNext (.ref it)) (fun r s1=>∃ u,r=some u /\
   wpAny (model P w) X.A (letOwnedTupleGo tg (.ref it) u) (fun _ s2=>∃ x H',Inv X pins σ H' s2/\RelV x u/\J.yld i H x H'/\tn (i + 1) s2.heap/\∀ b∈fp,H' b=none) E s1) E s
 done:∀(X:Cx),X.prog=P->X.w=w->X.K=K->X.calm=true->∀(i:Nat) (pins:List (Addr×Obj)) (s:Shared) (σ:St) (H:Hp) (E:Value->Shared->Prop),Inv X pins σ H s->(∀ b∈fp,qt5 X pins H b)->tn i s.heap->J.stop i H ->
  wpAny (model P w) X.A (pyNext (.ref it)) (fun r s1=>r=none/\Inv X pins σ H s1) E s
 self:∀(A:Around) (i:Nat) (s:Shared) (Q:Value->Shared->Prop) (E:Value->Shared->Prop),tn i s.heap->Q (.ref it) s->wpAny (model P w) A (pyIter (.ref it)) Q E s
abbrev TI:=St->Hp->(It->Hp->Prop)->Prop
def PIE (X:Cx) (pins:List (Addr×Obj)) (σ:St) (tg:Expr) (R:It->Hp->Prop) (itv:Value) (s2:Shared):Prop :=
 ∃(it:Addr) (fp:List Addr) (tn:Nat->Heap->Prop) (J:It) (H':Hp),itv=.ref it/\Inv X pins σ H' s2/\Turn X.prog X.w X.K tg J fp it tn/\tn 0 s2.heap/\(∀ b∈fp,qt5 X pins H' b)/\R J H'
def PI (X:Cx) (tg iter:Expr) (wi:TI):Prop :=
 ∀(pins:List (Addr×Obj)) (s:Shared) (σ:St) (H:Hp) (R:It->Hp->Prop),Inv X pins σ H s->wi σ H R ->
  wpAny (model X.prog X.w) X.A (eval iter X.env) (fun v s1=>wpAny (model X.prog X.w) X.A (pyIter v) (PIE X pins σ tg R) X.xe s1) X.xe s
theorem go_of {M:Model}{A:Around}{E:Value->Shared->Prop}{s:Shared}{tg:Expr}{it:Addr}{u:Value}{o:Obj}{n:String}{vs:Array Value}{Q:Unit->Shared->Prop}(ho:s.heap.get? it=some o) (hc:o.cls=.type n) (hd:o.data=.fields vs)
  (hn:["enumerate", "zip", "dict_itemiterator", "dict_reverseitemiterator", "odict_iterator", "itertools.zip_longest", "itertools.pairwise"].contains n=false) (hQ:Q () s):wpAny M A (letOwnedTupleGo tg (.ref it) u) Q E s:=by
 unfold letOwnedTupleGo
 cases tg <;> first
  | exact wpAny_pure hQ
  | (cases u <;> first
    | exact wpAny_pure hQ
    | (refine wpAny_bind (wpAny_load ho ?_)
       rw [hc,hd]
       show wpAny M A (if (["enumerate", "zip", "dict_itemiterator", "dict_reverseitemiterator", "odict_iterator", "itertools.zip_longest", "itertools.pairwise"].contains n && vs[0]? == some (rawInt _))=true then _ else _) Q E s
       rw [if_neg (by intro h; rw [hn,Bool.false_and] at h; cases h)]
       exact wpAny_pure hQ))
def Itl (K:PySem.W.Frag) (a:Addr):It :=
 ⟨fun i H=>∃ xs x,SqL K H a xs/\xs[i]? = some x,fun i H x H'=>H'=H/\∀ xs,SqL K H a xs->xs[i]? = some x,fun i H=>∃ xs,SqL K H a xs/\xs.length<=i⟩
def Itr (lo:Int) (n:Nat):It:=⟨fun i _=>i < n,fun i H x H'=>H'=H/\x=.int (lo + i),fun i _=>n<=i⟩
theorem qO7 {P:Program}{w:World}{K:PySem.W.Frag}{tg:Expr}(a it:Addr):Turn P w K tg (Itl K a) [it] it (fun i h=>h.IsListIter it a i) where
 mem:=by simp
 obj:=fun i h st b hb=>by
  have e:b=it:=by simpa using hb
  subst e
  obtain ⟨o,e,c,d⟩:=st
  exact ⟨o,e,fun v z=>by rw [d] at z; cases z⟩
 keep:=fun i h h' st k=>st.at fun o e=>k it (by simp) o e
 item:=by
  intro X hP hw hK hc i pins s σ H E I hf st hg
  subst hP hw hK
  obtain ⟨xs,x,hq,hx⟩:=hg
  obtain ⟨its,rv,p,hz⟩:=I.list hq
  obtain ⟨u,hu,ru⟩:=rv.get hx
  obtain ⟨f0,f1,f2,f3,f4,f5⟩:=hf it (by simp)
  refine wpAny_pyNext_list_item st p.isList (x:=u) (by simpa using hu) fun h' st' sb=>?_
  have I1:Inv X pins σ H { s with heap:=h' }:=I.turned (t':=s.toks) (fun b o hb e=>(sb.2 b hb).trans e) f0 f1 f3 f4 f5
  obtain ⟨o,e,c,d⟩:=id st'
  exact ⟨u,rfl,go_of (s:={ s with heap:=h' }) e c d (by decide) ⟨x,H,I1,ru,⟨rfl,fun ys hy=>by rw [I.list_inj hy hq]; exact hx⟩,st',fun b hb=>(hf b hb).1⟩⟩
 done:=by
  intro X hP hw hK hc i pins s σ H E I hf st hg
  subst hP hw hK
  obtain ⟨xs,hq,hx⟩:=hg
  obtain ⟨its,rv,p,hz⟩:=I.list hq
  obtain ⟨f0,f1,f2,f3,f4,f5⟩:=hf it (by simp)
  have hl:=rv.length
  exact wpAny_pyNext_list_end (I.ok.hd hc) st p.isList (by simp; omega) fun h' eb=>⟨rfl,I.turned (t':=s.toks) (fun b o hb e=>eb b o hb e) f0 f1 f3 f4 f5⟩
 self:=fun _ _ _ _ _ st h=>wpAny_pyIter_listiter st h
theorem qL4 {P:Program}{w:World}{K:PySem.W.Frag}{tg:Expr}(it:Addr) (lo:Int) (n:Nat):Turn P w K tg (Itr lo n) [it] it (fun i h=>IsRangeIter h it (lo + (i:Nat) * 1) ((n:Int) - (i:Nat)) 1) where
 mem:=by simp
 obj:=fun i h st b hb=>by
  have e:b=it:=by simpa using hb
  subst e
  exact ⟨_,st,fun v z=>by
   have z':Data.fields _=Data.cell v:=z
   cases z'⟩
 keep:=fun i h h' st k=>k it (by simp) _ st
 item:=by
  intro X hP hw hK hc i pins s σ H E I hf st hg
  subst hP hw hK
  obtain ⟨f0,f1,f2,f3,f4,f5⟩:=hf it (by simp)
  have W:=Walks.range (prog:=X.prog) (w:=X.w) (I.ok.hd hc) it lo 1 n
  refine W.item i s _ _ hg st fun v h' tk hv st' kk=>?_
  obtain ⟨t,rfl⟩:=hv
  have I1:Inv X pins σ H { s with heap:=h',toks:=tk }:=I.turned (fun b o hb e=>kk b o (by simpa using hb) e) f0 f1 f3 f4 f5
  refine ⟨_,rfl,go_of (s:={ s with heap:=h',toks:=tk }) (n := "range_iterator") st' rfl rfl (by decide) ⟨.int (lo + i),H,I1,⟨t,?_⟩,⟨rfl,rfl⟩,st',fun b hb=>(hf b hb).1⟩⟩
  rw [Int.mul_one]
 done:=by
  intro X hP hw hK hc i pins s σ H E I hf st hg
  subst hP hw hK
  obtain ⟨f0,f1,f2,f3,f4,f5⟩:=hf it (by simp)
  exact wpAny_pyNext_range_end (I.ok.hd hc) st (by have:n<=i:=hg; omega) fun h' eb=>⟨rfl,I.turned (t':=s.toks) (fun b o hb e=>eb b o hb e) f0 f1 f3 f4 f5⟩
 self:=fun _ _ _ _ _ st h=>wpAny_pyIter_rangeiter st h
end L2
namespace L2
open PySem PySem.Spec PyProof.Rows
section
variable {X:Cx}{tg:Expr}
def iList (K:PySem.W.Frag) (tl:TE):TI:=fun σ H R=>tl σ H fun x H1=>∃ a,x=.ref a/\(∃ xs,SqL K H1 a xs)/\R (Itl K a) H1
theorem q35 {l:Expr}{tl:TE}(hl:PE X l tl):PI X tg l (iList X.K tl):=by
 intro pins s σ H R I h
 refine thn (hl pins s σ H _ I h) fun v s1 ⟨x,H1,I1,r1,q1⟩=>?_
 obtain ⟨a,e,⟨xs,hq⟩,q⟩:=q1
 subst e
 cases r1
 obtain ⟨its,rv,p,hz⟩:=I1.list hq
 refine wpAny_pyIter_list p.isList ?_
 refine ⟨s1.heap.objs.size,[s1.heap.objs.size],_,_,H1,rfl,I1.kept (t':=s1.toks) fun b o e=>Heap.get?_push_of_some _ e,qO7 a _,⟨_,Heap.get?_push_size _ rfl,rfl,rfl⟩,fun b hb=>?_,q⟩
 have e:b=s1.heap.objs.size:=by simpa using hb
 subst e
 exact I1.fpOk (Nat.le_refl _) (I1.hok.fresh (Nat.le_refl _))
theorem qH8 {pins:List (Addr×Obj)}{σ:St}{H:Hp}{s:Shared}{R:It->Hp->Prop}{E:Value->Shared->Prop}{lo hi:Int}{t u v:Tok}{tk:Nat}(I:Inv X pins σ H s) (h1 : -(2 ^ 62)<=lo) (h2:lo < 2 ^ 62) (h3 : -(2 ^ 62)<=hi) (h4:hi < 2 ^ 62)
  (q:R (Itr lo (hi - lo).toNat) H):wpAny (model X.prog X.w) X.A (pyIter (.ref s.heap.objs.size)) (PIE X pins σ tg R) E { s with heap:=s.heap.push { cls:=.type "range",data:=.fields #[.int lo t,.int hi u,.int 1 v] },toks:=tk }:=by
 refine wpAny_pyIter_range (IsRange.new ..) (small_one h1 h2 h3 h4) ?_
 have I1:Inv X pins σ H { s with heap:=s.heap.push { cls:=.type "range",data:=.fields #[.int lo t,.int hi u,.int 1 v] },toks:=tk }:=I.kept fun b o e=>Heap.get?_push_of_some _ e
 refine ⟨(s.heap.push { cls:=.type "range",data:=.fields #[.int lo t,.int hi u,.int 1 v] }).objs.size,[(s.heap.push { cls:=.type "range",data:=.fields #[.int lo t,.int hi u,.int 1 v] }).objs.size],_,_,H,rfl,
  I1.kept (t':=tk) fun b o e=>Heap.get?_push_of_some _ e,qL4 _ lo (hi - lo).toNat,?_,fun b hb=>?_,q⟩
 ·have e1:lo + ((0:Nat):Int) * 1=lo:=by simp
  have e2:(((hi - lo).toNat:Nat):Int) - ((0:Nat):Int)=Builtin.Range.rangeSize lo hi 1:=by rw [rangeSize_one]; split <;> omega
  show IsRangeIter _ _ (lo + ((0:Nat):Int) * 1) ((((hi - lo).toNat:Nat):Int) - ((0:Nat):Int)) 1
  rw [e1,e2]
  exact Heap.get?_push_size _ rfl
 ·have e:b=(s.heap.push { cls:=.type "range",data:=.fields #[.int lo t,.int hi u,.int 1 v] }).objs.size:=by simpa using hb
  subst e
  exact I1.fpOk (Nat.le_refl _) (I1.hok.fresh (Nat.le_refl _))
def iRng1 (ta:TA):TI:=fun σ H R=>ta σ H fun vs H1=>∃ j:Int,vs=[.int j] /\ -(2 ^ 62)<=j/\j < 2 ^ 62/\R (Itr 0 j.toNat) H1
def iRng2 (ta:TA):TI:=fun σ H R=>ta σ H fun vs H1=>∃ i j:Int,vs=[.int i,.int j]/\(-(2 ^ 62)<=i/\i < 2 ^ 62 /\ -(2 ^ 62)<=j/\j < 2 ^ 62)/\R (Itr i (j - i).toNat) H1
theorem q34 {a:Expr}{ta:TA}{p pos:Pos}(hg:Gl X "range") (hm:X.mg "range" = none) (ha:PA X [a] ta) (hs:starEach [a] X.env=[(false,eval a X.env)]:=by rfl):PI X tg (.Call (.Name "range" p) [a] [] pos) (iRng1 ta):=by
 intro pins s σ H R I h
 refine Call_ (qk5 I hg hm boot_range (PyProof.Rows.callWith_type1 (thn (ha pos pins s σ H _ I h) fun us s1 ⟨vs,H1,I1,r1,q1⟩=>?_) hs rfl))
 obtain ⟨j,e,q1,q2,q⟩:=q1
 subst e
 cases r1 with
 | cons r rr =>
  cases rr
  obtain ⟨t,rfl⟩:=r
  exact call_range_1 (qH8 I1 (by omega) (by omega) q1 q2 (by simpa using q))
theorem qr1 {a b:Expr}{ta:TA}{p pos:Pos}(hg:Gl X "range") (hm:X.mg "range" = none) (ha:PA X [a,b] ta) (hs:starEach [a,b] X.env=[(false,eval a X.env),(false,eval b X.env)]:=by rfl) (hs2:starEach [b] X.env=[(false,eval b X.env)]:=by rfl) :
  PI X tg (.Call (.Name "range" p) [a,b] [] pos) (iRng2 ta):=by
 intro pins s σ H R I h
 refine Call_ (qk5 I hg hm boot_range (PyProof.Rows.callWith_type1 (thn (ha pos pins s σ H _ I h) fun us s1 ⟨vs,H1,I1,r1,q1⟩=>?_) (by rw [hs,hs2]) (by rw [hs2]; rfl)))
 obtain ⟨i,j,e,⟨q1,q2,q3,q4⟩,q⟩:=q1
 subst e
 cases r1 with
 | cons r rr =>
  cases rr with
  | cons r' rr =>
   cases rr
   obtain ⟨t,rfl⟩:=r
   obtain ⟨t',rfl⟩:=r'
   exact call_range_2 (qH8 I1 q1 q2 q3 q4 q)
def tFor (wi:TI) (g:TG) (tb:TS):TS:=fun D σ H=>wi σ H fun J H1=>∃ W:Nat->Nat->St->Hp->Prop,(∃ m,W 0 m σ H1)/\∀ i m σ H,W i m σ H ->
 (J.stop i H/\D.nx σ H)∨(J.go i H/\∃ N:St->Hp->Prop,(∀ σ' H',N σ' H'->∃ m',m' < m/\W (i + 1) m' σ' H')/\∀ x H',J.yld i H x H'->g x σ H' fun σ2 H2=>tb { D with nx:=N,ct:=N,bk:=D.nx } σ2 H2)
def qr0 (fp:List Addr) (h:Heap):List (Addr×Obj):=fp.filterMap fun b=>(h.get? b).map fun o=>(b,o)
theorem qa2 {fp:List Addr}{h:Heap}{b:Addr}{o:Obj}(hb:b∈fp) (e:h.get? b=some o):(b,o)∈qr0 fp h:=List.mem_filterMap.mpr ⟨b,hb,by rw [e]; rfl⟩
theorem qU6 {fp:List Addr}{h:Heap}{p:Addr×Obj}(hp:p∈qr0 fp h):p.1∈fp/\h.get? p.1=some p.2:=by
 obtain ⟨b,hb,e⟩:=List.mem_filterMap.mp hp
 cases q:h.get? b with
 | none=>rw [q] at e; cases e
 | some o =>
  rw [q] at e
  have e':(b,o)=p:=Option.some.inj e
  subst e'
  exact ⟨hb,q⟩
theorem Inv.pinned {pins:List (Addr×Obj)}{σ:St}{H:Hp}{s:Shared}{fp:List Addr}(I:Inv X pins σ H s) (hf:∀ b∈fp,qt5 X pins H b) (ho:∀ b∈fp,∃ o,s.heap.get? b=some o/\∀ v,o.data≠.cell v):Inv X (pins ++ qr0 fp s.heap) σ H s :=
 I.pins_of fun p hp=>(List.mem_append.mp hp).elim (fun z=>I.pin p (List.mem_append_right _ z)) fun z=>by
  obtain ⟨hb,e⟩:=qU6 z
  obtain ⟨f0,f1,f2,_⟩:=hf p.1 hb
  obtain ⟨o,e',d⟩:=ho p.1 hb
  rw [e] at e'; cases e'
  exact ⟨e,f0,f1,f2,d⟩
theorem Inv.unpinned {pins pl:List (Addr×Obj)}{σ:St}{H:Hp}{s:Shared}(I:Inv X (pins ++ pl) σ H s):Inv X pins σ H s:=I.pins_of fun p hp=>I.pin p (List.mem_append_right _ (List.mem_append_left _ hp))
theorem q91 {iter:Expr}{body:List Stmt}{wi:TI}{g:TG}{tb:TS}{pos:Pos}(hp:PassesOwn (model X.prog X.w) X.A X.env X.xe) (hc:X.calm=true) (hi:PI X tg iter wi) (hg:PG X tg g) (hb:PSs X body tb)
  (hs:∀ x,foldedSetIterable iter X.env x=pure x:=by intro _; rfl):PS X (.For tg iter body [] pos) (tFor wi g tb):=by
 intro pins s σ H D I h
 refine wpAny_For (thn (hi pins s σ H _ I h) fun v s1 h1=>thn h1 fun itv s2 h2=>?_) hs
 obtain ⟨it,fp,tn,J,H2,e,I2,T,st2,f2,W,⟨m0,w0⟩,turn⟩:=h2
 subst e
 have stat:∀{H':Hp},(∀ b∈fp,H' b=none)->∀ b∈fp,qt5 X pins H' b:=fun hn b hb=>⟨hn b hb,(f2 b hb).2⟩
 refine codeAny_forLoop_any (fun n s'=>∃ i σ' H',Inv X pins σ' H' s'/\tn i s'.heap/\(∀ b∈fp,H' b=none)/\W i n σ' H') ?_ m0 ⟨0,σ,H2,I2,st2,fun b hb=>(f2 b hb).1,w0⟩
 rintro n s3 ⟨i,σ3,H3,I3,st3,fr3,w3⟩
 rcases turn i n σ3 H3 w3 with ⟨stop,qn⟩ | ⟨go,N,hN,step⟩
 ·refine wpAny_passesOwn hp (thn (T.done X rfl rfl rfl hc i pins s3 σ3 H3 X.xe I3 (stat fr3) st3 stop) fun r s4 ⟨hr,I4⟩=>?_)
  subst hr
  exact wpAny_execs_nil ⟨σ3,H3,I4,qn⟩
 ·refine wpAny_passesOwn hp (thn (T.item X rfl rfl rfl hc i pins s3 σ3 H3 X.xe I3 (stat fr3) st3 go) fun r s4 ⟨u,hr,h4⟩=>?_)
  subst hr
  refine wpAny_passesOwn hp (thn h4 fun _ s5 ⟨x,H5,I5,r5,y5,st5,fr5⟩=>?_)
  have I5':=I5.pinned (stat fr5) (T.obj _ _ st5)
  refine wpAny_passesOwn hp (thn (hg _ s5 σ3 H5 x u _ I5' r5 (step x H5 y5)) fun _ s6 ⟨σ6,H6,I6,q6⟩=>?_)
  refine wpAny_passesOwn hp (thn (hb _ s6 σ6 H6 _ I6 q6) fun f s7 q7=>?_)
  have again:∀{σ7:St} {H7:Hp},Inv X (pins ++ qr0 fp s5.heap) σ7 H7 s7->N σ7 H7->∃ m,m < n/\∃ i σ' H',Inv X pins σ' H' s7/\tn i s7.heap/\(∀ b∈fp,H' b=none)/\W i m σ' H':=fun {σ7 H7} I7 n7=>by
   obtain ⟨m',hm,w7⟩:=hN σ7 H7 n7
   refine ⟨m',hm,i + 1,σ7,H7,I7.unpinned,T.keep _ _ _ st5 fun b hb o e=>(I7.pin (b,o) (List.mem_append_right _ (List.mem_append_right _ (qa2 hb e)))).1,fun b hb=>?_,w7⟩
   obtain ⟨o,e,d⟩:=T.obj _ _ st5 b hb
   exact (I7.pin (b,o) (List.mem_append_right _ (List.mem_append_right _ (qa2 hb e)))).2.1
  cases f with
  | next=>obtain ⟨σ7,H7,I7,n7⟩:=q7; exact again I7 n7
  | cont=>obtain ⟨σ7,H7,I7,n7⟩:=q7; exact again I7 n7
  | brk=>obtain ⟨σ7,H7,I7,q7⟩:=q7; exact ⟨σ7,H7,I7.unpinned,q7⟩
  | ret v=>obtain ⟨x7,σ7,H7,I7,r7,q7⟩:=q7; exact ⟨x7,σ7,H7,I7.unpinned,r7,q7⟩
end
theorem qo7 {K:PySem.W.Frag}{a:Addr}{xs:List V}{g:TG}{tb:TS}{D:Ends}{σ:St}{H:Hp}(Pv:Nat->St->Hp->Prop) (h0:Pv 0 σ H) (hl:∀ i σ H,i<=xs.length->Pv i σ H->SqL K H a xs)
  (hs:∀ i x σ H,xs[i]? = some x->Pv i σ H->g x σ H fun σ2 H2=>tb { D with nx:=Pv (i + 1),ct:=Pv (i + 1),bk:=D.nx } σ2 H2) (hd:∀ σ H,Pv xs.length σ H->D.nx σ H) :
  ∃ W:Nat->Nat->St->Hp->Prop,(∃ m,W 0 m σ H)/\∀ i m σ H,W i m σ H ->
   ((Itl K a).stop i H/\D.nx σ H)∨((Itl K a).go i H/\∃ N:St->Hp->Prop,(∀ σ' H',N σ' H'->∃ m',m' < m/\W (i + 1) m' σ' H')/\∀ x H',(Itl K a).yld i H x H'->g x σ H' fun σ2 H2=>tb { D with nx:=N,ct:=N,bk:=D.nx } σ2 H2):=by
 refine ⟨fun i m σ H=>m=xs.length - i/\i<=xs.length/\Pv i σ H,⟨xs.length,by simp,Nat.zero_le _,h0⟩,?_⟩
 rintro i m σ H ⟨rfl,hi,p⟩
 have q:=hl i σ H hi p
 by_cases hlt:i < xs.length
 ·refine .inr ⟨⟨xs,xs[i],q,by simp [hlt]⟩,Pv (i + 1),fun σ' H' p'=>⟨xs.length - (i + 1),by omega,rfl,hlt,p'⟩,fun x H' y=>?_⟩
  obtain ⟨e,y⟩:=y
  subst e
  exact hs i x σ _ (y xs q) p
 ·have e:i=xs.length:=by omega
  subst e
  exact .inl ⟨⟨xs,q,Nat.le_refl _⟩,hd σ H p⟩
theorem q52 {lo:Int}{n:Nat}{g:TG}{tb:TS}{D:Ends}{σ:St}{H:Hp}(Pv:Nat->St->Hp->Prop) (h0:Pv 0 σ H)
  (hs:∀ i σ H,i < n->Pv i σ H->g (.int (lo + i)) σ H fun σ2 H2=>tb { D with nx:=Pv (i + 1),ct:=Pv (i + 1),bk:=D.nx } σ2 H2) (hd:∀ σ H,Pv n σ H->D.nx σ H) :
  ∃ W:Nat->Nat->St->Hp->Prop,(∃ m,W 0 m σ H)/\∀ i m σ H,W i m σ H ->
   ((Itr lo n).stop i H/\D.nx σ H)∨((Itr lo n).go i H/\∃ N:St->Hp->Prop,(∀ σ' H',N σ' H'->∃ m',m' < m/\W (i + 1) m' σ' H')/\∀ x H',(Itr lo n).yld i H x H'->g x σ H' fun σ2 H2=>tb { D with nx:=N,ct:=N,bk:=D.nx } σ2 H2):=by
 refine ⟨fun i m σ H=>m=n - i/\i<=n/\Pv i σ H,⟨n,by simp,Nat.zero_le _,h0⟩,?_⟩
 rintro i m σ H ⟨rfl,hi,p⟩
 by_cases hlt:i < n
 ·refine .inr ⟨hlt,Pv (i + 1),fun σ' H' p'=>⟨n - (i + 1),by omega,rfl,hlt,p'⟩,fun x H' y=>?_⟩
  obtain ⟨e,y⟩:=y
  subst e y
  exact hs i σ _ hlt p
 ·have e:i=n:=by omega
  subst e
  exact .inl ⟨Nat.le_refl _,hd σ H p⟩
end L2
namespace L2
open PySem PySem.Spec PyProof.Rows
abbrev R2:=V->V->Hp->VK->Prop
def OpR (X:Cx) (f:Value->Value->Sem Value) (r:R2):Prop :=
 ∀(pins:List (Addr×Obj)) (s:Shared) (σ:St) (H:Hp) (x y:V) (v u:Value) (Q:VK),Inv X pins σ H s->RelV x v->RelV y u->r x y H Q ->
  wpAny (model X.prog X.w) X.A (f v u) (EP X pins σ Q) X.xe s
def UnR (X:Cx) (f:Value->Sem Value) (r:V->Hp->VK->Prop):Prop :=
 ∀(pins:List (Addr×Obj)) (s:Shared) (σ:St) (H:Hp) (x:V) (v:Value) (Q:VK),Inv X pins σ H s->RelV x v->r x H Q ->
  wpAny (model X.prog X.w) X.A (f v) (EP X pins σ Q) X.xe s
def CallR (X:Cx) (f:Value) (r:List V->Hp->VK->Prop):Prop :=
 ∀(pins:List (Addr×Obj)) (s:Shared) (σ:St) (H:Hp) (xs:List V) (us:List Value) (Q:VK),Inv X pins σ H s->Vals xs us->r xs H Q ->
  wpAny (model X.prog X.w) X.A (call f us) (EP X pins σ Q) X.xe s
def TruR (X:Cx) (r:V->Hp->(Bool->Hp->Prop)->Prop):Prop :=
 ∀(pins:List (Addr×Obj)) (s:Shared) (σ:St) (H:Hp) (x:V) (v:Value) (Q:Bool->Hp->Prop),Inv X pins σ H s->RelV x v->r x H Q ->
  wpAny (model X.prog X.w) X.A (truthy v) (TP X pins σ Q) X.xe s
def tOp (r:R2) (ta tb:TE):TE:=fun σ H Q=>ta σ H fun x H1=>tb σ H1 fun y H2=>r x y H2 Q
def tUn (r:V->Hp->VK->Prop) (ta:TE):TE:=fun σ H Q=>ta σ H fun x H1=>r x H1 Q
def rI (C:Int->Int->Prop) (g:Int->Int->V):R2:=fun x y H Q=>∃ i j,x=.int i/\y=.int j/\C i j/\Q (g i j) H
def rI0 (g:Int->Int->V):R2:=fun x y H Q=>∃ i j,x=.int i/\y=.int j/\Q (g i j) H
def rU (g:Int->V):V->Hp->VK->Prop:=fun x H Q=>∃ i,x=.int i/\Q (g i) H
section
variable {X:Cx}{a b c:Expr}{ta tb tc:TE}{pos:Pos}
theorem binT (ha:PE X a ta) (hb:PE X b tb) {pins:List (Addr×Obj)}{s:Shared}{σ:St}{H:Hp}{R:V->V->Hp->Prop}(I:Inv X pins σ H s)
  (h:ta σ H fun x H1=>tb σ H1 fun y H2=>R x y H2) {Q:Value->Shared->Prop} {f:Value->Value->Sem Value}
  (hf:∀ v u s2 x y H2,Inv X pins σ H2 s2->RelV x v->RelV y u->R x y H2->wpAny (model X.prog X.w) X.A (f v u) Q X.xe s2) :
  wpAny (model X.prog X.w) X.A (eval a X.env) (fun v s₁=>wpAny (model X.prog X.w) X.A (eval b X.env) (fun u s₂=>wpAny (model X.prog X.w) X.A (f v u) Q X.xe s₂) X.xe s₁) X.xe s:=by
 refine thn (ha pins s σ H _ I h) fun v s1 ⟨x,H1,I1,r1,q1⟩=>?_
 refine thn (hb pins s1 σ H1 _ I1 q1) fun u s2 ⟨y,H2,I2,r2,q2⟩=>?_
 exact hf v u s2 x y H2 I2 r1 r2 q2
theorem q24 {op:Operator}{r:R2}(ho:OpR X (binaryOp op) r) (ha:PE X a ta) (hb:PE X b tb):PE X (.BinOp a op b pos) (tOp r ta tb):=by
 intro pins s σ H Q I h
 exact wpAny_BinOp (binT ha hb I h fun v u s2 x y H2 I2 rx ry q=>ho pins s2 σ H2 x y v u Q I2 rx ry q)
theorem qL8 {op:UnaryOp}{r:V->Hp->VK->Prop}(ho:UnR X (unaryOp op) r) (ha:PE X a ta):PE X (.UnaryOp op a pos) (tUn r ta):=by
 intro pins s σ H Q I h
 exact UnaryOp_ (thn (ha pins s σ H _ I h) fun v s1 ⟨x,H1,I1,r1,q1⟩=>ho pins s1 σ H1 x v Q I1 r1 q1)
theorem opI {f:Value->Value->Sem Value}{C:Int->Int->Prop}{g:Int->Int->Int}
  (rule:∀(i j:Int) (t u:Tok) (s:Shared) (Q:Value->Shared->Prop) (E:Value->Shared->Prop),C i j->Q (.int (g i j) s.toks) { s with toks:=s.toks + 1 }->wpAny (model X.prog X.w) X.A (f (.int i t) (.int j u)) Q E s) :
  OpR X f (rI C fun i j=>.int (g i j)):=by
 intro pins s σ H x y v u Q I rx ry h
 obtain ⟨i,j,rfl,rfl,hc,q⟩:=h
 obtain ⟨t,rfl⟩:=rx
 obtain ⟨t',rfl⟩:=ry
 exact rule i j t t' s _ _ hc ⟨.int (g i j),H,I.tok _,⟨_,rfl⟩,q⟩
theorem opI0 {f:Value->Value->Sem Value}{g:Int->Int->Int}
  (rule:∀(i j:Int) (t u:Tok) (s:Shared) (Q:Value->Shared->Prop) (E:Value->Shared->Prop),Q (.int (g i j) s.toks) { s with toks:=s.toks + 1 }->wpAny (model X.prog X.w) X.A (f (.int i t) (.int j u)) Q E s) :
  OpR X f (rI0 fun i j=>.int (g i j)):=by
 intro pins s σ H x y v u Q I rx ry h
 obtain ⟨i,j,rfl,rfl,q⟩:=h
 obtain ⟨t,rfl⟩:=rx
 obtain ⟨t',rfl⟩:=ry
 exact rule i j t t' s _ _ ⟨.int (g i j),H,I.tok _,⟨_,rfl⟩,q⟩
theorem opB0 {f:Value->Value->Sem Value}{g:Int->Int->Bool}
  (rule:∀(i j:Int) (t u:Tok) (s:Shared) (Q:Value->Shared->Prop) (E:Value->Shared->Prop),Q (.bool (g i j)) s->wpAny (model X.prog X.w) X.A (f (.int i t) (.int j u)) Q E s) :
  OpR X f (rI0 fun i j=>.bl (g i j)):=by
 intro pins s σ H x y v u Q I rx ry h
 obtain ⟨i,j,rfl,rfl,q⟩:=h
 obtain ⟨t,rfl⟩:=rx
 obtain ⟨t',rfl⟩:=ry
 exact rule i j t t' s _ _ ⟨.bl (g i j),H,I,rfl,q⟩
def CDiv (i j:Int):Prop:=0 < j/\j < 1073741824
def CPow (i j:Int):Prop:=0<=j/\j<=1000000/\i.natAbs < 2 ^ 64
def CMul (i j:Int):Prop:=(-(2 ^ 64) < i/\i < 2 ^ 64)∨(-(2 ^ 64) < j/\j < 2 ^ 64)
theorem CMul.ok {i j:Int}(h:CMul i j):IntMulOk i j:=by
 rcases h with ⟨h1,h2⟩ | ⟨h1,h2⟩
 ·exact .of_left (intBits_le_64 h1 h2)
 ·exact .of_right (intBits_le_64 h1 h2)
theorem q47:OpR X (binaryOp .Add) (rI0 fun i j=>.int (i + j)):=opI0 fun _ _ _ _ _ _ _ q=>add_int q
theorem za2:OpR X (binaryOp .Sub) (rI0 fun i j=>.int (i - j)):=opI0 fun _ _ _ _ _ _ _ q=>sub_int q
theorem qf9:OpR X (binaryOp .Mult) (rI CMul fun i j=>.int (i * j)):=opI fun _ _ _ _ _ _ _ hc q=>mul_int q hc.ok
theorem qg0:OpR X (binaryOp .FloorDiv) (rI CDiv fun i j=>.int (i / j)):=opI fun i j _ _ _ _ _ hc q=>by
 have h1:(0:Int) < j:=hc.1
 have h2:j < 1073741824:=hc.2
 exact floordiv_int (by omega) (by rw [Int.fdiv_eq_ediv_of_nonneg i (by omega)]; exact q) (.inl (PyProof.noPylong_small (by omega)))
theorem q66:OpR X (binaryOp .Mod) (rI (fun _ j=>0 < j) fun i j=>.int (i % j)):=opI fun i j _ _ _ _ _ hc q=>by
 have h1:(0:Int) < j:=hc
 exact mod_int' (by omega) (by rw [Int.fmod_eq_emod_of_nonneg i (by omega)]; exact q)
theorem za3:OpR X (binaryOp .Pow) (rI CPow fun i j=>.int (i ^ j.toNat)):=opI fun _ _ _ _ _ _ _ hc q=>pow_int_small hc.1 hc.2.1 hc.2.2 q
theorem unI {f:Value->Sem Value}{g:Int->Int}
  (rule:∀(i:Int) (t:Tok) (s:Shared) (Q:Value->Shared->Prop) (E:Value->Shared->Prop),Q (.int (g i) s.toks) { s with toks:=s.toks + 1 }->wpAny (model X.prog X.w) X.A (f (.int i t)) Q E s) :
  UnR X f (rU fun i=>.int (g i)):=by
 intro pins s σ H x v Q I rx h
 obtain ⟨i,rfl,q⟩:=h
 obtain ⟨t,rfl⟩:=rx
 exact rule i t s _ _ ⟨.int (g i),H,I.tok _,⟨_,rfl⟩,q⟩
theorem qt6:UnR X (unaryOp .USub) (rU fun i=>.int (-i)):=unI fun _ _ _ _ _ q=>neg_int q
end
def scal:V->V->Bool
 | .non,.non=>true | .non,.int _=>true | .int _,.non=>true | .non,.bl _=>true | .bl _,.non=>true | .non,.str _=>true | .str _,.non=>true
 | .int _,.int _=>true | .bl _,.bl _=>true | .str _,.str _=>true | .byt _,.byt _=>true
 | .int _,.str _=>true | .str _,.int _=>true | .bl _,.str _=>true | .str _,.bl _=>true
 | _,_=>false
def rEq:R2:=fun x y H Q=>scal x y=true/\Q (.bl (decide (x=y))) H
def rNe:R2:=fun x y H Q=>scal x y=true/\Q (.bl (!decide (x=y))) H
theorem q75 {i j:Int}:decide (V.int i=V.int j)=(i == j):=by
 rw [Bool.eq_iff_iff]
 simp
theorem qX5 {i j:Bool}:decide (V.bl i=V.bl j)=(i == j):=by
 rw [Bool.eq_iff_iff]
 simp
theorem qy6 {i j:Str}:decide (V.str i=V.str j)=(i == j):=by
 rw [Bool.eq_iff_iff]
 simp
theorem qX4 {i j:Array UInt8}:decide (V.byt i=V.byt j)=(i.toList == j.toList):=by
 rw [Bool.eq_iff_iff]
 cases i
 cases j
 simp
section
variable {X:Cx}{a b c:Expr}{ta tb tc:TE}{pos:Pos}
theorem q33 {pins:List (Addr×Obj)}{σ:St}{H:Hp}{s:Shared}{Q:VK}{k k':Bool}(I:Inv X pins σ H s) (q:Q (.bl k) H) (e:k=k'):EP X pins σ Q (.bool k') s:=by
 subst e
 exact ⟨.bl k,H,I,rfl,q⟩
theorem q37:OpR X (compareOp .Eq) rEq:=by
 intro pins s σ H x y v u Q I rx ry h
 obtain ⟨hs,q⟩:=h
 cases x with
 | non =>
  cases rx
  cases y with
  | non=>cases ry; exact PySem.EqNone.eq_none_none (q33 I q (by simp))
  | bl j=>cases ry; exact PySem.EqNone.eq_none_bool (q33 I q (by simp))
  | int j=>obtain ⟨t',rfl⟩:=ry; exact PySem.EqNone.eq_none_int (q33 I q (by simp))
  | str j=>obtain ⟨t',rfl⟩:=ry; exact PySem.EqNone.eq_none_str (q33 I q (by simp))
  | _=>exact absurd (show false=true from hs) Bool.false_ne_true
 | bl i =>
  cases rx
  cases y with
  | non=>cases ry; exact PySem.EqNone.eq_bool_none (q33 I q (by simp))
  | bl j=>cases ry; exact eq_bool (q33 I q qX5)
  | str j=>obtain ⟨t',rfl⟩:=ry; exact PySem.EqMixed.eq_bool_str (q33 I q (by simp))
  | _=>exact absurd (show false=true from hs) Bool.false_ne_true
 | int i =>
  obtain ⟨t,rfl⟩:=rx
  cases y with
  | non=>cases ry; exact PySem.EqNone.eq_int_none (q33 I q (by simp))
  | int j=>obtain ⟨t',rfl⟩:=ry; exact eq_int (q33 I q q75)
  | str j=>obtain ⟨t',rfl⟩:=ry; exact PySem.EqMixed.eq_int_str (q33 I q (by simp))
  | _=>exact absurd (show false=true from hs) Bool.false_ne_true
 | str i =>
  obtain ⟨t,rfl⟩:=rx
  cases y with
  | non=>cases ry; exact PySem.EqNone.eq_str_none (q33 I q (by simp))
  | bl j=>cases ry; exact PySem.EqMixed.eq_str_bool (q33 I q (by simp))
  | int j=>obtain ⟨t',rfl⟩:=ry; exact PySem.EqMixed.eq_str_int (q33 I q (by simp))
  | str j=>obtain ⟨t',rfl⟩:=ry; exact eq_str (q33 I q qy6)
  | _=>exact absurd (show false=true from hs) Bool.false_ne_true
 | byt i =>
  obtain ⟨t,rfl⟩:=rx
  cases y with
  | byt j=>obtain ⟨t',rfl⟩:=ry; exact PySem.W.eq_bytes (q33 I q qX4)
  | _=>exact absurd (show false=true from hs) Bool.false_ne_true
 | _=>cases y <;> exact absurd (show false=true from hs) Bool.false_ne_true
theorem qr2:OpR X (compareOp .NotEq) rNe:=by
 intro pins s σ H x y v u Q I rx ry h
 obtain ⟨hs,q⟩:=h
 cases x with
 | non =>
  cases rx
  cases y with
  | non=>cases ry; exact PySem.EqNone.ne_none_none (q33 I q (by simp))
  | bl j=>cases ry; exact PySem.EqNone.ne_none_bool (q33 I q (by simp))
  | int j=>obtain ⟨t',rfl⟩:=ry; exact PySem.EqNone.ne_none_int (q33 I q (by simp))
  | str j=>obtain ⟨t',rfl⟩:=ry; exact PySem.EqNone.ne_none_str (q33 I q (by simp))
  | _=>exact absurd (show false=true from hs) Bool.false_ne_true
 | bl i =>
  cases rx
  cases y with
  | non=>cases ry; exact PySem.EqNone.ne_bool_none (q33 I q (by simp))
  | bl j=>cases ry; exact ne_bool (q33 I q (congrArg not qX5))
  | str j=>obtain ⟨t',rfl⟩:=ry; exact PySem.EqMixed.ne_bool_str (q33 I q (by simp))
  | _=>exact absurd (show false=true from hs) Bool.false_ne_true
 | int i =>
  obtain ⟨t,rfl⟩:=rx
  cases y with
  | non=>cases ry; exact PySem.EqNone.ne_int_none (q33 I q (by simp))
  | int j=>obtain ⟨t',rfl⟩:=ry; exact ne_int (q33 I q (congrArg not q75))
  | str j=>obtain ⟨t',rfl⟩:=ry; exact PySem.EqMixed.ne_int_str (q33 I q (by simp))
  | _=>exact absurd (show false=true from hs) Bool.false_ne_true
 | str i =>
  obtain ⟨t,rfl⟩:=rx
  cases y with
  | non=>cases ry; exact PySem.EqNone.ne_str_none (q33 I q (by simp))
  | bl j=>cases ry; exact PySem.EqMixed.ne_str_bool (q33 I q (by simp))
  | int j=>obtain ⟨t',rfl⟩:=ry; exact PySem.EqMixed.ne_str_int (q33 I q (by simp))
  | str j=>obtain ⟨t',rfl⟩:=ry; exact ne_str (q33 I q (congrArg not qy6))
  | _=>exact absurd (show false=true from hs) Bool.false_ne_true
 | byt i =>
  obtain ⟨t,rfl⟩:=rx
  cases y with
  | byt j=>obtain ⟨t',rfl⟩:=ry; exact PySem.W.ne_bytes (q33 I q (congrArg not qX4))
  | _=>exact absurd (show false=true from hs) Bool.false_ne_true
 | _=>cases y <;> exact absurd (show false=true from hs) Bool.false_ne_true
theorem qn7:OpR X (compareOp .Lt) (rI0 fun i j=>.bl (decide (i < j))):=opB0 fun _ _ _ _ _ _ _ q=>lt_int q
theorem op_le:OpR X (compareOp .LtE) (rI0 fun i j=>.bl (decide (i<=j))):=opB0 fun _ _ _ _ _ _ _ q=>le_int q
theorem qT2:OpR X (compareOp .Gt) (rI0 fun i j=>.bl (decide (j < i))):=opB0 fun _ _ _ _ _ _ _ q=>gt_int q
theorem op_ge:OpR X (compareOp .GtE) (rI0 fun i j=>.bl (decide (j<=i))):=opB0 fun _ _ _ _ _ _ _ q=>ge_int q
theorem qB2:OpR X (compareOp .In) (fun x y H Q=>∃ i j,x=.str i/\y=.str j/\Q (.bl (!(Builtin.Str.occurrences j i 0 j.length 1).isEmpty)) H):=by
 intro pins s σ H x y v u Q I rx ry h
 obtain ⟨i,j,rfl,rfl,q⟩:=h
 obtain ⟨t,rfl⟩:=rx
 obtain ⟨t',rfl⟩:=ry
 exact in_str (q33 I q rfl)
theorem za4:OpR X (compareOp .Is) (fun x y H Q=>y=.non/\Q (.bl (decide (x=.non))) H):=by
 intro pins s σ H x y v u Q I rx ry h
 obtain ⟨rfl,q⟩:=h
 cases ry
 refine is_none_gen (q33 I q ?_)
 cases x <;> first
  | (cases rx; rfl)
  | (obtain ⟨t,rfl⟩:=rx; rfl)
theorem OpR.or {f:Value->Value->Sem Value}{r r':R2}(h:OpR X f r) (h':OpR X f r'):OpR X f (fun x y H Q=>r x y H Q∨r' x y H Q):=by
 intro pins s σ H x y v u Q I rx ry q
 rcases q with q | q
 ·exact h pins s σ H x y v u Q I rx ry q
 ·exact h' pins s σ H x y v u Q I rx ry q
theorem q13 (b:Expr) {op:CmpOp}(h:op≠.In:=by decide) (h2:op≠.NotIn:=by decide):behindInMarks op b=false:=by
 have e1:(op == CmpOp.In)=false:=by cases op <;> first | rfl | exact absurd rfl h
 have e2:(op == CmpOp.NotIn)=false:=by cases op <;> first | rfl | exact absurd rfl h2
 cases b <;> simp [behindInMarks,e1,e2]
theorem q50 {op:CmpOp}{r:R2}(ho:OpR X (compareOp op) r) (ha:PE X a ta) (hb:PE X b tb) (hm:behindInMarks op b=false):PE X (.Compare a [op] [b] pos) (tOp r ta tb):=by
 intro pins s σ H Q I h
 exact wpAny_Compare1 (binT ha hb I h fun v u s2 x y H2 I2 rx ry q=>ho pins s2 σ H2 x y v u Q I2 rx ry q) hm
def tTest (t:TE):TT:=fun σ H Q=>t σ H fun x H'=>∃ k,x=.bl k/\Q k H'
theorem q10 {op:CmpOp}{r:R2}(ho:OpR X (compareOp op) r) (ha:PE X a ta) (hb:PE X b tb) (hm:behindInMarks op b=false):PT X (.Compare a [op] [b] pos) (tTest (tOp r ta tb)):=by
 intro pins s σ H Q I h
 refine wpAny_isTrue_Compare1 (thn (ha pins s σ H _ I h) fun v s1 ⟨x,H1,I1,r1,q1⟩=>thn (hb pins s1 σ H1 _ I1 q1) fun u s2 ⟨y,H2,I2,r2,q2⟩ =>
  thn (ho pins s2 σ H2 x y v u _ I2 r1 r2 q2) fun c s3 ⟨z,H3,I3,r3,k,e,q3⟩=>?_) hm
 subst e
 cases r3
 exact wpAny_truthy_bool ⟨H3,I3,q3⟩
def TruV (K:PySem.W.Frag) (x:V) (H:Hp) (k:Bool):Prop :=
 match x with
 | .non=>k=false
 | .bl b=>k=b
 | .int i=>k=(i != 0)
 | .str y=>y.length<=sizeLine/\k=((y.length:Int) != 0)
 | .byt y=>y.size<=sizeLine/\k=((y.size:Int) != 0)
 | .ref p=>(∃ xs,SqL K H p xs/\k = !xs.isEmpty)∨(∃ xs,SqT K H p xs/\k = !xs.isEmpty)∨∃ kvs,H p=some (.dK kvs)/\k = !kvs.isEmpty
 | _=>False
theorem qM6 {κ:Type}{kvs:List (κ×V)}{vs:List (κ×Value)}(r:KV kvs vs):(!vs.isEmpty) = !kvs.isEmpty:=by
 cases r <;> rfl
theorem qu5 {xs:List V}{its:List Value}(r:Vals xs its):(!its.toArray.isEmpty) = !xs.isEmpty:=by
 cases r <;> simp
theorem qu4:(sizeLine:Nat) < 2 ^ 63:=by rw [sizeLine_eq]; decide
theorem tru_ok:TruR X (fun x H Q=>∃ k,TruV X.K x H k/\Q k H):=by
 intro pins s σ H x v Q I rx h
 obtain ⟨k,e,q⟩:=h
 have hl:=qu4
 have hs:sizeLine=16777216:=sizeLine_eq
 cases x with
 | non =>
  cases rx
  have e':k=false:=e
  subst e'
  exact truthy_none ⟨H,I,q⟩
 | bl b =>
  cases rx
  have e':k=b:=e
  subst e'
  exact wpAny_truthy_bool ⟨H,I,q⟩
 | int i =>
  obtain ⟨t,rfl⟩:=rx
  have e':k=(i != 0):=e
  subst e'
  exact PySem.P.truthy_int ⟨H,I,q⟩
 | str y =>
  obtain ⟨t,rfl⟩:=rx
  obtain ⟨hy,e'⟩:y.length<=sizeLine/\k=((y.length:Int) != 0):=e
  subst e'
  exact PySem.P.truthy_str (by omega) ⟨H,I.tok _,q⟩
 | byt y =>
  obtain ⟨t,rfl⟩:=rx
  obtain ⟨hy,e'⟩:y.size<=sizeLine/\k=((y.size:Int) != 0):=e
  subst e'
  exact PySem.W.truthy_bytes (by omega) ⟨H,I.tok _,q⟩
 | ref p =>
  cases rx
  have e':(∃ xs,SqL X.K H p xs/\k = !xs.isEmpty)∨(∃ xs,SqT X.K H p xs/\k = !xs.isEmpty)∨∃ kvs,H p=some (.dK kvs)/\k = !kvs.isEmpty:=e
  rcases e' with ⟨xs,hx,e'⟩ | ⟨xs,hx,e'⟩ | ⟨kvs,hx,e'⟩
  ·subst e'
   obtain ⟨its,r,pl,hz⟩:=I.list hx
   have hlen:=r.length
   exact wpAny_truthy_list pl.isList (by simp only [List.size_toArray]; omega) ⟨H,I.tok _,by rw [qu5 r]; exact q⟩
  ·subst e'
   obtain ⟨its,r,pl,hz⟩:=I.tuple hx
   have hlen:=r.length
   exact truthy_tuple pl (by simp only [List.size_toArray]; omega) ⟨H,I.tok _,by rw [qu5 r]; exact q⟩
  ·subst e'
   obtain ⟨hz,hS,vs,r,m⟩:kvs.length<=sizeLine/\(p == sysModules)=false/\∃ vs,KV kvs vs/\s.heap.DictOf (q45 X.prog X.w) p vs:=I.hok p _ hx
   have hlen:kvs.length=vs.length:=Paired.length r
   exact wpAny_truthy_dict hS m (by omega) ⟨H,I.tok _,by rw [qM6 r]; exact q⟩
 | _=>exact (show False from e).elim
theorem qo4 (ha:PE X a ta) (he:∀ whole,isTrue a X.env whole=(do let v <- whole; standAt a.pos; holding [v] (truthy v))) :
  PT X a (fun σ H Q=>ta σ H fun x H'=>∃ k,TruV X.K x H' k/\Q k H'):=by
 intro pins s σ H Q I h
 exact isTrue_plain (thn (ha pins s σ H _ I h) fun v s1 ⟨x,H1,I1,r1,q1⟩=>tru_ok pins s1 σ H1 x v Q I1 r1 q1) (he _)
theorem qa1:OpR X (binaryOp .Add) (fun x y H Q=>∃ i j,x=.str i/\y=.str j/\i.length + j.length<=sizeLine/\Q (.str (i ++ j)) H):=by
 intro pins s σ H x y v u Q I rx ry h
 obtain ⟨i,j,rfl,rfl,hz,q⟩:=h
 obtain ⟨t,rfl⟩:=rx
 obtain ⟨t',rfl⟩:=ry
 exact add_str (fun t' tk=>⟨.str (i ++ j),H,I.tok _,⟨_,rfl⟩,q⟩) hz
theorem qO1 {x:V}{us:List Value}(r:Vals [x] us):∃ u,us=[u]/\RelV x u:=by
 cases r with
 | cons r1 r2=>cases r2; exact ⟨_,rfl,r1⟩
theorem qK7:CallR X (.builtin "abs") (fun xs H Q=>∃ i,xs=[.int i]/\Q (.int (if i < 0 then -i else i)) H):=by
 intro pins s σ H xs us Q I r h
 obtain ⟨i,rfl,q⟩:=h
 obtain ⟨u,rfl,t,rfl⟩:=qO1 r
 exact call_abs_int fun u tk=>⟨.int (if i < 0 then -i else i),H,I.tok _,⟨_,rfl⟩,q⟩
theorem qs6:CallR X (.type "int") (fun xs H Q=>(∃ i,xs=[.int i]/\Q (.int i) H)∨∃ k,xs=[.bl k]/\Q (.int (if k then 1 else 0)) H):=by
 intro pins s σ H xs us Q I r h
 rcases h with ⟨i,rfl,q⟩ | ⟨k,rfl,q⟩
 ·obtain ⟨u,rfl,t,rfl⟩:=qO1 r
  exact call_int_int ⟨.int i,H,I,⟨_,rfl⟩,q⟩
 ·obtain ⟨u,rfl,r1⟩:=qO1 r
  cases r1
  exact call_int_bool ⟨.int (if k then 1 else 0),H,I.tok _,⟨_,rfl⟩,q⟩
end
end L2
namespace L2
open PySem PySem.Spec PyProof.Rows
structure ObjM (h:Heap) (x dx C:Addr) (mA:Str->Option Value):Prop where
 obj:h.get? x=some (PySem.W.instObj C dx)
 ns:h.Ns1 dx mA
 ne:dx≠x
theorem qV9 {h:Heap}{dx:Addr}{mA:Str->Option Value}(n:h.Ns1 dx mA):∃ od,h.get? dx=some od/\∀ name,PySem.W.lookIn name od=some (mA name):=by
 obtain ⟨o,es,ep,ho,hd,hk,_,hm⟩:=n
 refine ⟨o,ho,fun name=>?_⟩
 have e:=hm name
 unfold nsFind findBy at e
 rw [<- Array.find?_toList] at e
 unfold PySem.W.lookIn
 rw [hd]
 dsimp only
 split
 ·rename_i y q
  rw [q] at e
  exact congrArg some e
 ·rename_i q
  rw [q] at e
  have a:es.toList.any (·.refKey)=false:=by
   rw [List.any_eq_false]
   intro y hy
   obtain ⟨z,t,hkey⟩:=hk y (Array.mem_toList_iff.mp hy)
   simp [DictEntry.refKey,hkey]
  have a':¬ es.toList.any (·.refKey)=true:=by rw [a]; exact Bool.false_ne_true
  rw [if_neg a']
  exact congrArg some e
theorem ObjM.look {h:Heap}{x dx C:Addr}{mA:Str->Option Value}(I:ObjM h x dx C mA):∃ od,PySem.W.InstAt h x (PySem.W.instObj C dx) C (some od)/\∀ name,PySem.W.lookIn name od=some (mA name) :=
 let ⟨od,ho,hl⟩:=qV9 I.ns
 ⟨od,⟨I.obj,rfl,rfl,ho⟩,hl⟩
section
variable {prog:Program}{w:World}{A:Around}{E:Value->Shared->Prop}{s:Shared}{K:PySem.W.Frag}{x dx C f:Addr}{mA:Str->Option Value}{name:Str}{v:Value}
theorem get_map {expr:Bool}{Q:Value->Shared->Prop}(X:K.In s.heap) (I:ObjM s.heap x dx C mA) (hg:PySem.W.plainGet K C name=true) (hh:PySem.W.hasDictIn K C=true)
  (ha:PySem.W.findIn K (.ref C) name=some none) (hv:mA name=some v) (hv':PySem.W.handedIn v=true) (h:Q v { s with toks:=s.toks + 1 }) :
  wpAny (model prog w) A (getAttr (.ref x) name expr) Q E s:=by
 obtain ⟨od,J,hl⟩:=I.look
 exact PySem.W.get_value X J (PySem.W.plainGet_of hg).1 (PySem.W.findObj_own hh ha rfl (by rw [hl,hv])) hv' h
theorem z64 {pl:Sem Bool}{Q:Value×List Value->Shared->Prop}(X:K.In s.heap) (I:ObjM s.heap x dx C mA) (hg:PySem.W.plainGet K C name=true)
  (hf:PySem.W.findIn K (.ref C) name=some (some (.ref f))) (ht:PySem.W.isFn K (.ref f)=true) (hv:mA name=none) (h:Q (.ref f,[.ref x]) s) :
  wpAny (model prog w) A (getMethod (.ref x) name pl) Q E s:=by
 obtain ⟨od,J,hl⟩:=I.look
 exact PySem.W.method_fn X J (PySem.W.plainGet_of hg).1 (PySem.W.plainGet_of hg).2 hf (beq_iff_eq.mp ht) (by show (PySem.W.lookIn name od).map (·.isSome)=some false; rw [hl,hv]; rfl) h
theorem set_map {ns:List Str}{Q:Unit->Shared->Prop}(X:K.In s.heap) (I:ObjM s.heap x dx C mA)
  (hs:PySem.W.findIn K (.ref C) "__setattr__" = some (some (.builtin "object.__setattr__"))) (hp:PySem.W.plainOver K C=true) (ht:PySem.W.takerIn K C name=some none) (hh:PySem.W.hasDictIn K C=true)
  (hw:PySem.Within mA ns) (hsz:ns.length<=sizeLine)
  (h:∀ h',ObjM h' x dx C (fun y=>if y=name then some v else mA y)->Heap.SameBut dx s.heap h'->Q () { s with heap:=h',toks:=s.toks + 2 }) :
  wpAny (model prog w) A (setAttr (.ref x) name v) Q E s:=by
 obtain ⟨od,J,hl⟩:=I.look
 refine PySem.W.set_plain X J hs (PySem.W.osa_open (s:={ s with toks:=s.toks + 1 }) (r:=none) X J hp ht fun b=>?_)
 obtain ⟨cd,hc,hd'⟩:=PySem.W.any_some hh
 have hx:s.heap.get? x=some ⟨.ref C,some dx,.plain,#[]⟩:=I.obj
 refine wpAny_bind (wpAny_pure (wpAny_bind (wpAny_bind (wpAny_loadPart hx (wpAny_bind (PySem.W.Looks.here (s:={ s with toks:=s.toks + 1 }) (PySem.W.looks_clsIn X hc) ?_))))))
 rw [hd']
 refine wpAny_pure (a:=some dx) (wpAny_bind (wpAny_pure (wpAny_bind ?_)))
 refine wpAny_nsSet1 (s:={ s with toks:=s.toks + 1 }) I.ns fun h' hn2 hs2=>?_
 obtain ⟨oD,esD,epD,hoD,hdD,hcD⟩:=hn2.count (PySem.Within.cons name v hw)
 refine wpAny_bind (wpAny_lookBehind hoD (by rw [hdD]; exact pastItsLine_dict (Nat.le_trans hcD (by rw [List.length_cons]; omega))) ?_)
 exact wpAny_pure (h _ ⟨(hs2.2 _ (Ne.symm I.ne)).trans I.obj,hn2,I.ne⟩ hs2)
theorem z58 {R:Result->Shared->Prop}{vs:List Value}{kw:List (Str×Value)}(X:K.In s.heap) (hm:PySem.W.makesIn K C=true)
  (hi:PySem.W.findIn K (.ref C) "__init__" = some (some (.ref f))) (hf:PySem.W.typeIn K (.ref f)=some (.type "function"))
  (h:codeAny (model prog w) (A.under (.builtin "type.__call__" ⟨.ref C :: vs,kw⟩)) (.call (.ref f) ⟨.ref (s.heap.objs.size + 1) :: vs,kw⟩) (PySem.W.InitBack (s.heap.objs.size + 1) R)
   { s with heap:=(s.heap.push PySem.W.emptyDict).push (PySem.W.instObj C s.heap.objs.size) }) :
  codeAny (model prog w) A (.call (.ref C) ⟨vs,kw⟩) R s:=by
 obtain ⟨hh,g,d,t,os⟩:=s
 exact PySem.W.make_core (PySem.W.makes_of X hm) (PySem.W.looks_findIn X hi) (fun self=>PySem.W.bind_fn X self hf) (.inl rfl) h
end
def qn2 (f:Str) (v:V):List (Str×V)->List (Str×V)
 | []=>[(f,v)]
 | (g,x) :: r=>if g=f then (g,v) :: r else (g,x) :: qn2 f v r
theorem qr6 (f g:Str) (v:V):∀ fs:List (Str×V),(qn2 f v fs).lookup g=if g=f then some v else fs.lookup g
 | []=>by
  show List.lookup g [(f,v)]=_
  by_cases h:g=f
  ·have hb:(g == f)=true:=beq_iff_eq.mpr h
   simp only [List.lookup,hb,if_pos h]
  ·have hb:(g == f)=false:=beq_eq_false_iff_ne.mpr h
   simp only [List.lookup,hb,if_neg h]
 | (k,x) :: r=>by
  have ih:=qr6 f g v r
  rw [show qn2 f v ((k,x) :: r)=(if k=f then (k,v) :: r else (k,x) :: qn2 f v r) from rfl]
  by_cases hk:k=f
  ·rw [if_pos hk]
   by_cases h:g=k
   ·have hb:(g == k)=true:=beq_iff_eq.mpr h
    simp only [List.lookup,hb,if_pos (h.trans hk)]
   ·have hb:(g == k)=false:=beq_eq_false_iff_ne.mpr h
    simp only [List.lookup,hb,if_neg (fun e:g=f=>h (e.trans hk.symm))]
  ·rw [if_neg hk]
   by_cases h:g=k
   ·have hb:(g == k)=true:=beq_iff_eq.mpr h
    simp only [List.lookup,hb,if_neg (fun e:g=f=>hk (h.symm.trans e))]
   ·have hb:(g == k)=false:=beq_eq_false_iff_ne.mpr h
    simp only [List.lookup,hb]
    exact ih
theorem qr9 (f:Str) (v:V):∀ fs:List (Str×V),f∈(qn2 f v fs).map (·.1)/\∀ g,g∈fs.map (·.1)->g∈(qn2 f v fs).map (·.1)
 | []=>⟨by simp [qn2],fun g h=>by simp at h⟩
 | (k,x) :: r=>by
  obtain ⟨i1,i2⟩:=qr9 f v r
  rw [show qn2 f v ((k,x) :: r)=(if k=f then (k,v) :: r else (k,x) :: qn2 f v r) from rfl]
  by_cases hk:k=f
  ·rw [if_pos hk]
   subst hk
   exact ⟨by simp,fun g h=>by simpa using h⟩
  ·rw [if_neg hk]
   refine ⟨?_,fun g h=>?_⟩
   ·rw [List.map_cons]
    exact List.mem_cons_of_mem _ i1
   ·rw [List.map_cons] at h ⊢
    rcases List.mem_cons.mp h with e | e
    ·exact List.mem_cons.mpr (.inl e)
    ·exact List.mem_cons_of_mem _ (i2 g e)
theorem qr7 (f:Str) (v:V):∀ fs:List (Str×V),(qn2 f v fs).length<=fs.length + 1
 | []=>by simp [qn2]
 | (k,x) :: r=>by
  have ih:=qr7 f v r
  rw [show qn2 f v ((k,x) :: r)=(if k=f then (k,v) :: r else (k,x) :: qn2 f v r) from rfl]
  by_cases hk:k=f
  ·rw [if_pos hk,List.length_cons,List.length_cons]; omega
  ·rw [if_neg hk,List.length_cons,List.length_cons]; omega
theorem RelO.some_of {v:V}{o:Option Value}(r:RelO (some v) o):∃ u,o=some u/\RelV v u:=by
 cases o with
 | none=>exact (show False from r).elim
 | some u=>exact ⟨u,rfl,r⟩
theorem RelO.none_of {o:Option Value}(r:RelO none o):o=none:=by
 cases o with
 | none=>rfl
 | some u=>exact (show False from r).elim
theorem qC2 {v:V}{u:Value}(r:RelV v u):PySem.W.handedIn u=true:=by
 cases v with
 | non=>cases (show u=Value.none from r); rfl
 | bl b=>cases (show u=Value.bool b from r); rfl
 | int i=>obtain ⟨t,e⟩:=(show ∃ t,u=Value.int i t from r); cases e; rfl
 | str x=>obtain ⟨t,e⟩:=(show ∃ t,u=Value.str x t from r); cases e; rfl
 | byt b=>obtain ⟨t,e⟩:=(show ∃ t,u=Value.bytes b t from r); cases e; rfl
 | flt b=>obtain ⟨t,e⟩:=(show ∃ t,u=Value.float b t from r); cases e; rfl
 | ref a=>cases (show u=Value.ref a from r); rfl
 | ty n=>cases (show u=Value.type n from r); rfl
section
variable {P:Program}{w:World}{H H':Hp}{h h':Heap}{a C dx:Addr}{fs fs':List (Str×V)}
theorem qF7 (hok:HOk P w H h) (e:H a=some (.ins C dx fs)):∃ mA,ObjM h a dx C mA/\(∀ f,RelO (fs.lookup f) (mA f))/\PySem.Within mA (fs.map (·.1))/\fs.length<=1000/\H dx=some (.own a):=by
 obtain ⟨d,z,ne,ob,mA,n,r,q⟩:=(show ObjOk P w H h a (.ins C dx fs) from hok a _ e)
 exact ⟨mA,⟨ob,n,ne⟩,r,q,z,d⟩
end
structure Cls (K:PySem.W.Frag) (C:Addr):Prop where
 pg:PySem.W.plainGet K C Str.empty=true
 hd:PySem.W.hasDictIn K C=true
 po:PySem.W.plainOver K C=true
 sa:PySem.W.findIn K (.ref C) "__setattr__" = some (some (.builtin "object.__setattr__"))
theorem Cls.get {K:PySem.W.Frag}{C:Addr}(c:Cls K C) (f:Str):PySem.W.plainGet K C f=true:=c.pg
def NoAttr (K:PySem.W.Frag) (C:Addr) (f:Str):Prop:=PySem.W.findIn K (.ref C) f=some none
theorem NoAttr.taker {K:PySem.W.Frag}{C:Addr}{f:Str}(n:NoAttr K C f):PySem.W.takerIn K C f=some none:=by
 unfold PySem.W.takerIn
 rw [show PySem.W.findIn K (.ref C) f=some none from n]
 rfl
structure Con (K:PySem.W.Frag) (C:Addr) (f:Str) (v:V) (u:Value):Prop where
 at_:PySem.W.findIn K (.ref C) f=some (some u)
 rel:RelV v u
 get:PySem.W.specialIn K u "__get__" = some none
 cp:PySem.W.copiedNames.contains f=false
structure Meth (K:PySem.W.Frag) (C:Addr) (m:Str) (f:Addr):Prop where
 at_:PySem.W.findIn K (.ref C) m=some (some (.ref f))
 fn:PySem.W.isFn K (.ref f)=true
 kp:PySem.W.keepIn K (.ref f)=true
section
variable {X:Cx}{pins:List (Addr×Obj)}{σ:St}{H:Hp}{s:Shared}{a C dx:Addr}{fs:List (Str×V)}{f:Str}{v:V}{A:Around}{E:Value->Shared->Prop}
theorem qM8 {b:Bool}{Q:Value->Shared->Prop}(I:Inv X pins σ H s) (e:H a=some (.ins C dx fs)) (c:Cls X.K C) (n:NoAttr X.K C f) (l:fs.lookup f=some v)
  (h:∀ u s',Inv X pins σ H s'->RelV v u->Q u s'):wpAny (model X.prog X.w) A (getAttr (.ref a) f b) Q E s:=by
 obtain ⟨mA,O,r,_,_,_⟩:=qF7 I.hok e
 obtain ⟨u,hu,ru⟩:=RelO.some_of (v:=v) (o:=mA f) (by rw [<- l]; exact r f)
 exact get_map I.kIn O (c.get f) c.hd n hu (qC2 ru) (h u _ (I.tok _) ru)
theorem qM7 {m:Str}{g:Addr}{pl:Sem Bool}{Q:Value×List Value->Shared->Prop}(I:Inv X pins σ H s) (e:H a=some (.ins C dx fs)) (c:Cls X.K C) (k:Meth X.K C m g) (l:fs.lookup m=none)
  (h:Q (.ref g,[.ref a]) s):wpAny (model X.prog X.w) A (getMethod (.ref a) m pl) Q E s:=by
 obtain ⟨mA,O,r,_,_,_⟩:=qF7 I.hok e
 have hn:mA m=none:=RelO.none_of (by rw [<- l]; exact r m)
 exact z64 I.kIn O (c.get m) k.at_ k.fn hn h
theorem qL7 {y:V}{u:Value}{Q:Unit->Shared->Prop}(I:Inv X pins σ H s) (e:H a=some (.ins C dx fs)) (c:Cls X.K C) (n:NoAttr X.K C f) (hl:fs.length < 1000) (ry:RelV y u)
  (h:∀ s',Inv X pins σ (upd H a (.ins C dx (qn2 f y fs))) s'->Q () s'):wpAny (model X.prog X.w) A (setAttr (.ref a) f u) Q E s:=by
 obtain ⟨mA,O,r,wi,_,ho⟩:=qF7 I.hok e
 have hz:(fs.map (·.1)).length<=sizeLine:=by rw [List.length_map,sizeLine_eq]; omega
 refine set_map I.kIn O c.sa c.po n.taker c.hd wi hz fun h' O' sb=>h _ ?_
 have hd:∃ o,h'.get? dx=some o:=let ⟨o,_,_,e',_⟩:=O'.ns; ⟨o,e'⟩
 refine I.write (x:=a) (e:=dx) (by rw [e]; exact True.intro) (.inr ho) (fun b q hb z=>(sb.2 b hb).trans z) hd ?_
 refine ⟨by rw [q08 O.ne]; exact ho,?_,O.ne,O'.obj,_,O'.ns,fun g=>?_,fun g hg=>?_⟩
 ·have:=qr7 f y fs; omega
 ·show RelO ((qn2 f y fs).lookup g) (if g=f then some u else mA g)
  rw [qr6]
  by_cases q:g=f
  ·rw [if_pos q,if_pos q]; exact ry
  ·rw [if_neg q,if_neg q]; exact r g
 ·by_cases q:g=f
  ·rw [q]; exact (qr9 f y fs).1
  ·refine (qr9 f y fs).2 g (wi g fun z=>hg ?_)
   show (if g=f then some u else mA g)=none
   rw [if_neg q]; exact z
theorem Inv.made (I:Inv X pins σ H s):Inv X pins σ (upd (upd H s.heap.objs.size (.own (s.heap.objs.size + 1))) (s.heap.objs.size + 1) (.ins C s.heap.objs.size []))
  { s with heap:=(s.heap.push PySem.W.emptyDict).push (PySem.W.instObj C s.heap.objs.size) }:=by
 have e1:(s.heap.push PySem.W.emptyDict).get? s.heap.objs.size=some PySem.W.emptyDict:=Heap.get?_push_size s.heap rfl
 have e2:((s.heap.push PySem.W.emptyDict).push (PySem.W.instObj C s.heap.objs.size)).get? (s.heap.objs.size + 1)=some (PySem.W.instObj C s.heap.objs.size):=by
  have:=Heap.get?_push_size (s.heap.push PySem.W.emptyDict) (o:=PySem.W.instObj C s.heap.objs.size) rfl
  rwa [Heap.size_push] at this
 have e3:(s.heap.push PySem.W.emptyDict).Ns s.heap.objs.size (fun _=>none):=⟨PySem.W.emptyDict,#[],_,e1,rfl,(fun e he=>absurd he (by simp)),fun _=>rfl⟩
 have I1:=I.laid (a:=s.heap.objs.size) (o:=.own (s.heap.objs.size + 1)) (h':=s.heap.push PySem.W.emptyDict) (t':=s.toks) (fun b u q=>Heap.get?_push_of_some _ q) (Nat.le_refl _) ⟨_,e1⟩
 refine I1.laid (a:=s.heap.objs.size + 1) (o:=.ins C s.heap.objs.size []) (t':=s.toks) (fun b u q=>Heap.get?_push_of_some _ q) (Nat.le_of_eq (Heap.size_push _ _)) ?_
 have ne:s.heap.objs.size≠s.heap.objs.size + 1:=Nat.ne_of_lt (Nat.lt_succ_self _)
 refine ⟨by rw [q08 ne,q01],Nat.zero_le _,ne,e2,fun _=>none,(Heap.Ns1.of_empty e3).at fun o q=>Heap.get?_push_of_some _ q,fun _=>True.intro,fun y hy=>absurd rfl hy⟩
theorem qY5 {prog:Program}{w:World}{env:Env}{e:Expr}{f:Str}{pos:Pos}{s:Shared}{Q:Value->Shared->Prop}(hb:attributeBase e f env (eval e env)=eval e env)
  (h:wpAny (model prog w) A (eval e env) (fun o s₁=>wpAny (model prog w) A (getAttr o f true) Q E s₁) E s):wpAny (model prog w) A (eval (.Attribute e f pos) env) Q E s :=
 Attribute_any_ h (by rw [arm_eval_Attribute,hb])
end
def tFld (K:PySem.W.Frag) (ta:TE) (f:Str):TE:=fun σ H Q=>ta σ H fun x H1=>∃ a C dx fs v,x=.ref a/\H1 a=some (.ins C dx fs)/\Cls K C/\NoAttr K C f/\fs.lookup f=some v/\Q v H1
def sFld (K:PySem.W.Frag) (ta tv:TE) (f:Str):TS:=fun D σ H=>tv σ H fun y H1=>ta σ H1 fun x H2=>∃ a C dx fs,x=.ref a/\H2 a=some (.ins C dx fs)/\Cls K C/\NoAttr K C f/\fs.length < 1000 /\
 D.nx σ (upd H2 a (.ins C dx (qn2 f y fs)))
def InOp (X:Cx) (op:Operator) (rd:V->V->Hp->VK->Prop):Prop :=
 ∀(pins:List (Addr×Obj)) (s:Shared) (σ:St) (H:Hp) (x y:V) (u v:Value) (Q:VK),Inv X pins σ H s->RelV x u->RelV y v->rd x y H Q->wpAny (model X.prog X.w) X.A (inplaceOp op u v) (EP X pins σ Q) X.xe s
section
variable {X:Cx}{o e value:Expr}{f:Str}{pos pos' tpos:Pos}{ta tv:TE}
theorem q82 (he:PE X e ta) (hb:attributeBase e f X.env (eval e X.env)=eval e X.env):PE X (.Attribute e f pos) (tFld X.K ta f):=by
 intro pins s σ H Q I h
 refine qY5 hb (thn (he pins s σ H _ I h) fun u s1 ⟨x,H1,I1,rx,a,C,dx,fs,v,ex,ea,c,n,l,q⟩=>?_)
 subst ex
 obtain rfl:u=Value.ref a:=rx
 exact qM8 I1 ea c n l fun u' s2 I2 ru=>⟨v,H1,I2,ru,q⟩
theorem qS3 (ha:PE X o ta) (hv:PE X value tv) (hs:swapsWith value (some (.Attribute o f pos')) pos.line X.env=pure false):PS X (.Assign [.Attribute o f pos'] value pos) (sFld X.K ta tv f):=by
 intro pins s σ H D I h
 refine plainObj_wpAny_Assign_Attribute (thn (hv pins s σ H _ I h) fun u s1 ⟨y,H1,I1,ry,q⟩=>thn (ha pins s1 σ H1 _ I1 q) fun ov s2 ⟨x,H2,I2,rx,a,C,dx,fs,ex,ea,c,n,l,q2⟩=>?_) hs
 subst ex
 obtain rfl:ov=Value.ref a:=rx
 exact qL7 I2 ea c n l ry fun s3 I3=>⟨σ,_,I3,q2⟩
def rSub:V->V->Hp->VK->Prop:=fun x y H Q=>∃ i j,x=.int i/\y=.int j/\Q (.int (i - j)) H
theorem in_sub:InOp X .Sub rSub:=by
 rintro pins s σ H x y u v Q I rx ry ⟨i,j,rfl,rfl,q⟩
 obtain ⟨t,rfl⟩:=(show ∃ t,u=Value.int i t from rx)
 obtain ⟨t',rfl⟩:=(show ∃ t',v=Value.int j t' from ry)
 exact PyProof.Rows.isub_int ⟨.int (i - j),H,I.tok _,⟨_,rfl⟩,q⟩
end
section
variable {X:Cx}{pins:List (Addr×Obj)}{σ:St}{H:Hp}{s:Shared}{A:Around}{E:Value->Shared->Prop}{Q:Value->Shared->Prop}{c:Value}{b:Bool}
inductive TyOf (K:PySem.W.Frag) (H:Hp):V->Value->Prop where
 | non:TyOf K H .non (.type "NoneType")
 | bl (x:Bool):TyOf K H (.bl x) (.type "bool")
 | int (i:Int):TyOf K H (.int i) (.type "int")
 | str (x:Str):TyOf K H (.str x) (.type "str")
 | flt (x:UInt64):TyOf K H (.flt x) (.type "float")
 | lst {a:Addr} {xs:List V} (e:H a=some (.lst xs)):TyOf K H (.ref a) (.type "list")
 | frz {a:Addr} {o:Obj} {xs:List V} (e:H a=some (.frz o (.lst xs))):TyOf K H (.ref a) (.type "list")
 | tup {a:Addr} {xs:List V} (e:H a=some (.tup xs)):TyOf K H (.ref a) (.type "tuple")
 | dK {a:Addr} {kvs:List (Key×V)} (e:H a=some (.dK kvs)):TyOf K H (.ref a) (.type "dict")
 | dT {a:Addr} {kvs:List (List Key×V)} (e:H a=some (.dT kvs)):TyOf K H (.ref a) (.type "dict")
 | ins {a C dx:Addr} {fs:List (Str×V)} (e:H a=some (.ins C dx fs)) (cl:Cls K C) (ha:PySem.W.findIn K (.ref C) "__class__" = some (some (.builtin "object.__class__")))
   (hn:PySem.W.specialIn K (.builtin "object.__class__") "__get__" = some (some (.builtin "getset_descriptor.__get__"))) (htk:PySem.W.takesIn K (.builtin "object.__class__")=some true)
   (hm:PySem.W.mroIn K C (.type "object")=some true):TyOf K H (.ref a) (.ref C)
end
end L2
namespace L2
open PySem PySem.Spec PyProof.Rows
structure Room (k:Nat) (A:Around):Prop where
 hd:A.handled=none
 dp:A.depth + 3 * k + 5 < recursionLimit
 un:A.units + 16 * k + 200 < cLine
theorem Room.mono {j k:Nat}{A:Around}(r:Room k A) (h:j<=k):Room j A:=⟨r.hd,by have:=r.dp; omega,by have:=r.un; omega⟩
theorem Room.deeper {k:Nat}{A:Around}(r:Room (k + 1) A) (env:Env):Room k (A.deeper env) :=
 ⟨r.hd,by have:=r.dp; show A.depth + 1 + 3 * k + 5 < _; omega,by have:=r.un; show A.units + 3 + 16 * k + 200 < _; omega⟩
theorem Room.in1 {k:Nat}{A:Around}(r:Room (k + 1) A):Room k A.in1 :=
 ⟨r.hd,by have:=r.dp; show A.depth + 3 * k + 5 < _; omega,by have:=r.un; show A.units + 1 + 16 * k + 200 < _; omega⟩
theorem qM3 {A:Around}{C:Addr}{us:List Value}{kw:List (Str×Value)}:(A.under (.builtin "type.__call__" ⟨.ref C :: us,kw⟩)).depth=A.depth + 1:=by
 first | rfl | simp [Around.under,Code.weight,Code.isCreation,Code.isGuard,Code.isCaller,Code.frames,Code.isFrame,guardIds]
theorem qM2 {A:Around}{C:Addr}{us:List Value}{kw:List (Str×Value)}:(A.under (.builtin "type.__call__" ⟨.ref C :: us,kw⟩)).units=A.units + 1:=by
 first | rfl | simp [Around.under,Code.cUnits,Code.frames,Code.isFrame]
theorem Room.make {k:Nat}{A:Around}(r:Room (k + 1) A) (C:Addr) (us:List Value) (kw:List (Str×Value)):Room k (A.under (.builtin "type.__call__" ⟨.ref C :: us,kw⟩)) :=
 ⟨r.hd,by have:=r.dp; rw [qM3]; omega,by have:=r.un; rw [qM2]; omega⟩
theorem Room.depth {k:Nat}{A:Around}(r:Room k A):A.depth < recursionLimit:=by have:=r.dp; omega
theorem Room.units {k:Nat}{A:Around}(r:Room k A):A.units + 64 < cLine:=by have:=r.un; omega
theorem Room.units0 {k:Nat}{A:Around}(r:Room k A):A.units < cLine:=by have:=r.un; omega
def tNil:TA:=fun _ H Q=>Q [] H
def qn5 (ta:TE) (tr:TA):TA:=fun σ H Q=>ta σ H fun x H1=>tr σ H1 fun xs H2=>Q (x :: xs) H2
section
variable {X:Cx}{e:Expr}{es:List Expr}{te:TE}{t:TA}{pos:Pos}
theorem q03:PA X [] tNil:=fun _ _ _ _ H Q I h=>Calls.spliced_nil ⟨[],H,I,.nil,h⟩
theorem q00 (ha:PE X e te) (hr:PA X es t) (hs:starEach (e :: es) X.env=(false,eval e X.env) :: starEach es X.env:=by rfl):PA X (e :: es) (qn5 te t):=by
 intro pos pins s σ H Q I h
 rw [hs]
 show wpAny _ _ (spliced ((false,eval e X.env) :: backTo pos (starEach es X.env))) _ _ s
 refine Calls.spliced_cons (thn (ha pins s σ H _ I h) fun u s1 ⟨x,H1,I1,r1,q1⟩=>?_)
 exact thn (hr pos pins s1 σ H1 _ I1 q1) fun us s2 ⟨xs,H2,I2,r2,q2⟩=>⟨x :: xs,H2,I2,.cons r1 r2,q2⟩
def tTup (t:TA):TE:=fun σ H Q=>t σ H fun xs H1=>xs.length<=sizeLine/\∀ p,H1 p=none->Q (.ref p) (upd H1 p (.tup xs))
def tLst (t:TA):TE:=fun σ H Q=>t σ H fun xs H1=>xs.length<=sizeLine/\∀ p,H1 p=none->Q (.ref p) (upd H1 p (.lst xs))
theorem q84 {x1}(h:PA X es t):PE X (.Tuple es x1 pos) (tTup t):=by
 intro pins s σ H Q I hq
 refine wpAny_Tuple_spliced (thn (h pos pins s σ H _ I hq) fun us s1 ⟨xs,H1,I1,r,z,q⟩=>⟨by rw [<- r.length]; exact z,?_⟩)
 have hf:H1 s1.heap.objs.size=none:=I1.hok.fresh (Nat.le_refl _)
 refine ⟨.ref s1.heap.objs.size,upd H1 s1.heap.objs.size (.tup xs),I1.laid (t':=s1.toks) (fun b u e=>Heap.get?_push_of_some _ e) (Nat.le_refl _) ?_,rfl,q _ hf⟩
 exact ⟨z,us,r,⟨_,Heap.get?_push_size _ rfl,rfl,_,rfl⟩⟩
theorem q36 (h:PA X es t):PE X (.List es pos) (tLst t):=by
 intro pins s σ H Q I hq
 refine wpAny_List_spliced (thn (h pos pins s σ H _ I hq) fun us s1 ⟨xs,H1,I1,r,z,q⟩=>⟨by rw [<- r.length]; exact z,?_⟩)
 have hf:H1 s1.heap.objs.size=none:=I1.hok.fresh (Nat.le_refl _)
 refine ⟨.ref s1.heap.objs.size,upd H1 s1.heap.objs.size (.lst xs),I1.laid (t':=s1.toks) (fun b u e=>Heap.get?_push_of_some _ e) (Nat.le_refl _) ?_,rfl,q _ hf⟩
 exact ⟨z,us,0,r,Heap.get?_push_size _ rfl⟩
end
abbrev Sp:=List V->Hp->VK->XK->Prop
abbrev CXT:=List Env->Hp->Shared->XK->Value->Shared->Prop
structure Env0 (P:Program) (w:World) (K:PySem.W.Frag) (mg:Str->Option Value) (base:Heap) (A:Around) (outer:List Env) (s:Shared) (H:Hp):Prop where
 frames:A.frames=some outer
 mod:Mod K mg base
 bs:∀ b o,base.get? b=some o->s.heap.get? b=some o/\H b=none
 bsz:base.objs.size<=s.heap.objs.size
 funs:s.heap.FunFrames base outer
 frf:∀ b∈frs outer,H b=none
 hok:HOk P w H s.heap
 bare:AllBare s.gens
def CE (outer:List Env) (P:Program) (w:World) (H:Hp) (s:Shared) (Q:VK) (u:Value) (s':Shared):Prop :=
 ∃ v H',s'.os=s.os/\AllBare s'.gens/\Un (frs outer) [] H H' s.heap s'.heap/\HOk P w H' s'.heap/\RelV v u/\Q v H'
def CR (CX:CXT) (outer:List Env) (P:Program) (w:World) (H:Hp) (s:Shared) (Q:VK) (E:XK) (r:Result) (s':Shared):Prop :=
 match r with
 | .ok (.ret u)=>CE outer P w H s Q u s'
 | .ok _=>False
 | .error e=>CX outer H s E e s'
structure FnOk (P:Program) (w:World) (K:PySem.W.Frag) (mg:Str->Option Value) (base:Heap) (CX:CXT) (k:Nat) (f:Addr) (fd:FuncData) (ps:List Str) (sp:Sp):Prop where
 len:∀ vs H Q E,sp vs H Q E->vs.length=ps.length
 run:∀(A:Around) (outer:List Env) (s:Shared) (H:Hp) (args:Args) (us:List Value) (vs:List V) (Q:VK) (E:XK),Room k A->Env0 P w K mg base A outer s H->BindsTo s fd args (ps.zip us)->Vals vs us->sp vs H Q E ->
  codeAny (model P w) A (.call (.ref f) args) (CR CX outer P w H s Q E) s
theorem FnOk.mono {P:Program}{w:World}{K:PySem.W.Frag}{mg:Str->Option Value}{base:Heap}{CX:CXT}{j k:Nat}{f:Addr}{fd:FuncData}{ps:List Str}{sp:Sp}(F:FnOk P w K mg base CX j f fd ps sp) (h:j<=k) :
  FnOk P w K mg base CX k f fd ps sp:=⟨F.len,fun A outer s H args us vs Q E hr=>F.run A outer s H args us vs Q E (hr.mono h)⟩
theorem FnOk.imp {P:Program}{w:World}{K:PySem.W.Frag}{mg:Str->Option Value}{base:Heap}{CX:CXT}{k:Nat}{f:Addr}{fd:FuncData}{ps:List Str}{sp sp':Sp}(F:FnOk P w K mg base CX k f fd ps sp)
  (h:∀ vs H Q E,sp' vs H Q E->sp vs H Q E):FnOk P w K mg base CX k f fd ps sp' :=
 ⟨fun vs H Q E q=>F.len vs H Q E (h _ _ _ _ q),fun A outer s H args us vs Q E hr he hb hv hs=>F.run A outer s H args us vs Q E hr he hb hv (h _ _ _ _ hs)⟩
theorem Env0.make {P:Program}{w:World}{K:PySem.W.Frag}{mg:Str->Option Value}{base:Heap}{A:Around}{outer:List Env}{s:Shared}{H:Hp}(e:Env0 P w K mg base A outer s H) (C:Addr) (us:List Value) (kw:List (Str×Value)) :
  Env0 P w K mg base (A.under (.builtin "type.__call__" ⟨.ref C :: us,kw⟩)) outer s H:=⟨by first | exact e.frames | (simpa [Around.under,Code.envs,Code.isFrame,pushEnvs] using e.frames),e.mod,e.bs,e.bsz,e.funs,e.frf,e.hok,e.bare⟩
theorem Env0.in1 {P:Program}{w:World}{K:PySem.W.Frag}{mg:Str->Option Value}{base:Heap}{A:Around}{outer:List Env}{s:Shared}{H:Hp}(e:Env0 P w K mg base A outer s H) :
  Env0 P w K mg base A.in1 outer s H:=⟨e.frames,e.mod,e.bs,e.bsz,e.funs,e.frf,e.hok,e.bare⟩
section
variable {X:Cx}{pins:List (Addr×Obj)}{σ:St}{H:Hp}{s s':Shared}
theorem Inv.env0 (I:Inv X pins σ H s):Env0 X.prog X.w X.K X.mg X.base X.A X.stack s H :=
 ⟨I.ok.frames,I.ok.mod,I.bs,Nat.le_trans I.ok.bsz I.sz,I.stack,I.stkFree,I.hok,I.bare⟩
theorem Inv.after {Q:VK}{u:Value}(I:Inv X pins σ H s) (h:CE X.stack X.prog X.w H s Q u s'):EP X pins σ Q u s':=by
 obtain ⟨v,H',os,bare,un,hok,r,q⟩:=h
 obtain ⟨hh,g,d,t,os'⟩:=s'
 obtain rfl:os'=s.os:=os
 exact ⟨v,H',I.call (h':=hh) (g':=g) (d':=d) (t':=t) (ch:=[]) un hok bare (fun b z=>absurd z (by simp)),r,q⟩
end
def qL6 (sp:Sp) (dvs:List V) (E:XK) (t:TA):TE:=fun σ H Q=>t σ H fun vs H1=>sp (vs ++ dvs) H1 Q E
def tMeth (C:Addr) (m:Str) (sp:Sp) (dvs:List V) (E:XK) (ta:TE) (t:TA):TE:=fun σ H Q=>ta σ H fun x H1=>∃ a dx fs,x=.ref a/\H1 a=some (.ins C dx fs)/\fs.lookup m=none /\
 t σ H1 fun vs H2=>sp (x :: (vs ++ dvs)) H2 Q E
def tMake (C:Addr) (sp:Sp) (dvs:List V) (E:XK) (t:TA):TE:=fun σ H Q=>t σ H fun vs H1=>∀ x dx,H1 x=none->H1 dx=none->dx≠x ->
 sp (.ref x :: (vs ++ dvs)) (upd (upd H1 dx (.own x)) x (.ins C dx [])) (fun v H2=>v=.non/\Q (.ref x) H2) E
def Binds (K:PySem.W.Frag) (fd:FuncData) (ps:List Str) (ds:List Value):Prop :=
 ∀(s:Shared) (us:List Value),K.In s.heap->(us ++ ds).length=ps.length->BindsTo s fd ⟨us,[]⟩ (ps.zip (us ++ ds))
theorem Binds.all {K:PySem.W.Frag}{fd:FuncData}{ps:List Str}(h:∀ us:List Value,us.length=ps.length->bindArgs fd ⟨us,[]⟩=pure (ps.zip us)):Binds K fd ps []:=fun s us _ hl=>by
 rw [List.append_nil] at hl ⊢
 exact .of_eq (h us hl)
def q94 (CX:CXT) (X:Cx) (E:XK):Prop:=∀(pins:List (Addr×Obj)) (σ:St) (H:Hp) (s:Shared) (e:Value) (s':Shared),Inv X pins σ H s->CX X.stack H s E e s'->X.xe e s'
section
variable {X:Cx}{CX:CXT}{k:Nat}{f C:Addr}{fd:FuncData}{ps:List Str}{sp:Sp}{dvs:List V}{ds:List Value}{E:XK}{x m:Str}{p pos apos:Pos}{e o:Expr}{es:List Expr}{ta:TE}{t:TA}
theorem qH7 {pins:List (Addr×Obj)}{σ:St}{H:Hp}{s:Shared}{Q:VK}{us:List Value}{vs:List V}(F:FnOk X.prog X.w X.K X.mg X.base CX k f fd ps sp) (hr:Room k X.A) (hb:Binds X.K fd ps ds) (hd:Vals dvs ds) (hx:q94 CX X E)
  (I:Inv X pins σ H s) (r:Vals vs us) (h:sp (vs ++ dvs) H Q E):wpAny (model X.prog X.w) X.A (call (.ref f) us) (EP X pins σ Q) X.xe s:=by
 have r2:Vals (vs ++ dvs) (us ++ ds):=r.append hd
 have hl:(us ++ ds).length=ps.length:=by rw [<- r2.length]; exact F.len _ _ _ _ h
 refine wpAny_call (codeAny_mono (F.run X.A X.stack s H ⟨us,[]⟩ (us ++ ds) (vs ++ dvs) Q E hr I.env0 (hb s us I.kIn hl) r2 h) fun r s' hq=>?_)
 cases r with
 | error e=>exact hx pins σ H s e s' I hq
 | ok fl =>
  cases fl with
  | ret u=>exact I.after hq
  | next=>exact False.elim hq
  | brk=>exact False.elim hq
  | cont=>exact False.elim hq
theorem pe_call (F:FnOk X.prog X.w X.K X.mg X.base CX k f fd ps sp) (hr:Room k X.A) (hg:Gl X x) (hm:X.mg x=some (.ref f)) (hk:PySem.W.keepIn X.K (.ref f)=true) (hb:Binds X.K fd ps ds) (hd:Vals dvs ds) (hx:q94 CX X E)
  (ha:PA X (e :: es) t) (hdb:(x == ("__debug__" : Str))=false:=by decide) (he:starEach (e :: es) X.env=(false,eval e X.env) :: starEach es X.env:=by rfl) (hpl:(backTo pos (starEach es X.env)).any (·.1)=false:=by rfl) :
  PE X (.Call (.Name x p) (e :: es) [] pos) (qL6 sp dvs E t):=by
 intro pins s σ H Q I h
 refine wpAny_Call_Name_kw (qj0 I hg hm ?_ hdb)
 refine PySem.W.callWith_K (h₀:=X.base) I.ok.mod.kin hk (thn (ha pos pins s σ H _ I h) fun us s1 ⟨vs,H1,I1,r,q⟩=>⟨I1.kIn,?_⟩) he hpl
 exact qH7 F hr hb hd hx I1 r q
theorem q96 {pl:Sem Bool}(he:PE X o ta) (c:Cls X.K C) (hm:Meth X.K C m f) (F:FnOk X.prog X.w X.K X.mg X.base CX k f fd ps sp) (hr:Room k X.A) (hb:Binds X.K fd ps ds) (hd:Vals dvs ds) (hx:q94 CX X E) (ha:PA X (e :: es) t)
  (hst:starEach (e :: es) X.env=(false,eval e X.env) :: starEach es X.env:=by rfl) (hpl:(backTo pos (starEach es X.env)).any (·.1)=false:=by rfl)
  (ht:eval (.Call (.Attribute o m apos) (e :: es) [] pos) X.env=(do
   let ov <- eval o X.env
   standAt apos.atName
   let (f,first) <- holding [ov] (getMethod ov m pl)
   callWith pos f first (backTo pos (starEach (e :: es) X.env)) (backToKw pos (keywordEach [] X.env))):=by rfl) :
  PE X (.Call (.Attribute o m apos) (e :: es) [] pos) (tMeth C m sp dvs E ta t):=by
 intro pins s σ H Q I h
 refine PySem.W.methodCall_KW (pl:=pl) (thn (he pins s σ H _ I h) fun u s1 ⟨x,H1,I1,rx,a,dx,fs,ex,ea,l,q⟩=>?_) ht
 subst ex
 obtain rfl:u=Value.ref a:=rx
 refine qM7 I1 ea c hm l ?_
 refine PySem.W.callWith_K (first:=[.ref a]) (h₀:=X.base) I.ok.mod.kin hm.kp (thn (ha pos pins s1 σ H1 _ I1 q) fun us s2 ⟨vs,H2,I2,r,q2⟩=>⟨I2.kIn,?_⟩) hst hpl
 exact qH7 (us:=.ref a :: us) (vs:=.ref a :: vs) F hr hb hd hx I2 (.cons rfl r) q2
structure Mk (K:PySem.W.Frag) (C f:Addr):Prop where
 makes:PySem.W.makesIn K C=true
 init:PySem.W.findIn K (.ref C) "__init__" = some (some (.ref f))
 fn:PySem.W.isFn K (.ref f)=true
 kp:PySem.W.keepIn K (.ref C)=true
theorem z29 {pins:List (Addr×Obj)}{σ:St}{H:Hp}{s:Shared}{Q:VK}{us:List Value}{vs:List V}(M:Mk X.K C f) (F:FnOk X.prog X.w X.K X.mg X.base CX k f fd ps sp) (hr:Room (k + 1) X.A) (hb:Binds X.K fd ps ds) (hd:Vals dvs ds)
  (hx:q94 CX X E) (I:Inv X pins σ H s) (r:Vals vs us)
  (h:∀ x dx,H x=none->H dx=none->dx≠x->sp (.ref x :: (vs ++ dvs)) (upd (upd H dx (.own x)) x (.ins C dx [])) (fun v H2=>v=.non/\Q (.ref x) H2) E) :
  wpAny (model X.prog X.w) X.A (call (.ref C) us) (EP X pins σ Q) X.xe s:=by
 have hq:=h (s.heap.objs.size + 1) s.heap.objs.size (I.hok.fresh (Nat.le_succ _)) (I.hok.fresh (Nat.le_refl _)) (Nat.ne_of_lt (Nat.lt_succ_self _))
 have I2:=Inv.made (C:=C) I
 have r2:Vals (V.ref (s.heap.objs.size + 1) :: (vs ++ dvs)) (Value.ref (s.heap.objs.size + 1) :: (us ++ ds)):=.cons rfl (r.append hd)
 have hl:(Value.ref (s.heap.objs.size + 1) :: us ++ ds).length=ps.length:=by
  have e:=r2.length
  rw [F.len _ _ _ _ hq] at e
  exact e.symm
 refine wpAny_call (z58 (f:=f) I.kIn M.makes M.init (beq_iff_eq.mp M.fn) (codeAny_mono (F.run _ X.stack _ _ ⟨Value.ref (s.heap.objs.size + 1) :: us,[]⟩ (Value.ref (s.heap.objs.size + 1) :: (us ++ ds)) _ _ E (hr.make C us [])
  (I2.env0.make C us []) (hb _ (Value.ref (s.heap.objs.size + 1) :: us) I2.kIn hl) r2 hq) fun r s' hq'=>?_))
 cases r with
 | error e=>exact hx pins σ _ _ e s' I2 hq'
 | ok fl =>
  cases fl with
  | ret u =>
   obtain ⟨v,H',I3,rv,ev,q3⟩:=I2.after hq'
   subst ev
   exact ⟨rv,⟨V.ref (s.heap.objs.size + 1),H',I3,rfl,q3⟩⟩
  | next=>exact False.elim hq'
  | brk=>exact False.elim hq'
  | cont=>exact False.elim hq'
theorem pe_make (M:Mk X.K C f) (F:FnOk X.prog X.w X.K X.mg X.base CX k f fd ps sp) (hr:Room (k + 1) X.A) (hg:Gl X x) (hm:X.mg x=some (.ref C)) (hb:Binds X.K fd ps ds) (hd:Vals dvs ds) (hx:q94 CX X E)
  (ha:PA X (e :: es) t) (hdb:(x == ("__debug__" : Str))=false:=by decide) (he:starEach (e :: es) X.env=(false,eval e X.env) :: starEach es X.env:=by rfl) (hpl:(backTo pos (starEach es X.env)).any (·.1)=false:=by rfl) :
  PE X (.Call (.Name x p) (e :: es) [] pos) (tMake C sp dvs E t):=by
 intro pins s σ H Q I h
 refine wpAny_Call_Name_kw (qj0 I hg hm ?_ hdb)
 refine PySem.W.callWith_K (h₀:=X.base) I.ok.mod.kin M.kp (thn (ha pos pins s σ H _ I h) fun us s1 ⟨vs,H1,I1,r,q⟩=>⟨I1.kIn,?_⟩) he hpl
 exact z29 M F hr hb hd hx I1 r q
end
section
variable {X:Cx}{CX:CXT}{k:Nat}{f C:Addr}{fd:FuncData}{ps ks:List Str}{sp:Sp}{E:XK}{x m:Str}{p pos apos kpos:Pos}{e o:Expr}{es:List Expr}{kws:List Keyword}{te ta:TE}{t tk:TA}{nm:Option Str}
structure KBinds (K:PySem.W.Frag) (fd:FuncData) (ps ks:List Str) (g:List Value->List Value->List Value) (gV:List V->List V->List V):Prop where
 to:∀(s:Shared) (us ws:List Value),K.In s.heap->(g us ws).length=ps.length->BindsTo s fd ⟨us,ks.zip ws⟩ (ps.zip (g us ws))
 rel:∀{vs:List V} {us:List Value} {zs:List V} {ws:List Value},Vals vs us->Vals zs ws->Vals (gV vs zs) (g us ws)
variable {g:List Value->List Value->List Value}{gV:List V->List V->List V}
end
structure FnScope (N P:List Str) (sc:Scope):Prop where
 kind:sc.kind=.function
 co:sc.isCoroutine=false
 gen:sc.isGenerator=false
 nd:N.Nodup
 pre:N.take P.length=P
 par:∀ x∈P,sc.names.lookup x=some .local∨sc.names.lookup x=some .cell
 nofree:∀ y∈sc.names,y.2≠.free
theorem qD0 {kindOf:Str->Option NameKind}{x:Str}:∀{binds:List (Str×Value)}{m:Str->Option Value},(∀ v,(x,v)∉binds)->bindL kindOf binds m x=m x
 | [],_,_=>rfl
 | (n,v) :: r,m,h=>by
  unfold bindL
  rw [qD0 fun w hw=>h w (List.mem_cons_of_mem _ hw)]
  split
  ·have:x≠n:=by rintro rfl; exact h v List.mem_cons_self
   simp [this]
  ·rfl
theorem qD2 {kindOf:Str->Option NameKind}{x:Str}:∀{binds:List (Str×Value)}{m:Str->Option Value},(∀ v,(x,v)∉binds)->bindC kindOf binds m x=m x
 | [],_,_=>rfl
 | (n,v) :: r,m,h=>by
  unfold bindC
  rw [qD2 fun w hw=>h w (List.mem_cons_of_mem _ hw)]
  split
  ·rfl
  ·have:x≠n:=by rintro rfl; exact h v List.mem_cons_self
   simp [this]
theorem qD1 {kindOf:Str->Option NameKind}{x:Str}{v:Value}:∀{P:List Str}{vs:List Value}{i:Nat}{m:Str->Option Value},P.Nodup->P[i]? = some x->vs[i]? = some v->kindOf x=some .local ->
  bindL kindOf (P.zip vs) m x=some v
 | [],_,_,_,_,h,_,_=>by simp at h
 | _ :: _,[],_,_,_,_,h,_=>by simp at h
 | p :: P,w :: vs,0,m,nd,h1,h2,hk=>by
  simp at h1 h2; subst h1; subst h2
  show bindL kindOf ((p,w) :: P.zip vs) m p=_
  unfold bindL
  rw [qD0 fun v hv=>(List.nodup_cons.mp nd).1 (List.of_mem_zip hv).1,if_pos hk]
  simp
 | p :: P,w :: vs,i + 1,m,nd,h1,h2,hk=>by
  show bindL kindOf ((p,w) :: P.zip vs) m x=_
  unfold bindL
  exact qD1 (i:=i) (List.nodup_cons.mp nd).2 (by simpa using h1) (by simpa using h2) hk
theorem qD3 {kindOf:Str->Option NameKind}{x:Str}{v:Value}:∀{P:List Str}{vs:List Value}{i:Nat}{m:Str->Option Value},P.Nodup->P[i]? = some x->vs[i]? = some v->kindOf x≠some .local ->
  bindC kindOf (P.zip vs) m x=some v
 | [],_,_,_,_,h,_,_=>by simp at h
 | _ :: _,[],_,_,_,_,h,_=>by simp at h
 | p :: P,w :: vs,0,m,nd,h1,h2,hk=>by
  simp at h1 h2; subst h1; subst h2
  show bindC kindOf ((p,w) :: P.zip vs) m p=_
  unfold bindC
  rw [qD2 fun v hv=>(List.nodup_cons.mp nd).1 (List.of_mem_zip hv).1,if_neg hk]
  simp
 | p :: P,w :: vs,i + 1,m,nd,h1,h2,hk=>by
  show bindC kindOf ((p,w) :: P.zip vs) m x=_
  unfold bindC
  exact qD3 (i:=i) (List.nodup_cons.mp nd).2 (by simpa using h1) (by simpa using h2) hk
def start (N:List Str) (vs:List V):St:=vs.map some ++ List.replicate (N.length - vs.length) none
def qD7 (CX:CXT) (P:Program) (w:World) (K:PySem.W.Frag) (mg:Str->Option Value) (base:Heap) (N:List Str) (qual:Str) (scope:Scope) (f:Addr) (cd:Value) (A:Around) (outer:List Env) (s:Shared) (H:Hp) (E:XK):Cx where
 prog:=P
 w:=w
 K:=K
 mg:=mg
 base:=base
 A:=A.deeper (envOfC qual scope s.heap.objs.size f cd)
 N:=N
 s₀:=s
 H₀:=H
 env:=envOfC qual scope s.heap.objs.size f cd
 outer:=outer
 stack:=envOfC qual scope s.heap.objs.size f cd :: outer
 ex:=[]
 calm:=true
 fn:=fun _=>true
 pn:=[]
 xe:=fun e s'=>wpAny (model P w) (A.deeper (envOfC qual scope s.heap.objs.size f cd)) (leaving (envOfC qual scope s.heap.objs.size f cd) e) (fun _ s''=>CX outer H s E e s'') (fun e' s''=>CX outer H s E e' s'') s'
theorem qK5 {sc:Scope}{n:Nat}{x:Str}(h:sc.names.lookup x=some .cell):∃ c,(cellsFrom n sc.names []).lookup x=some c:=by
 have q:=PySem.W.cellsFrom_some sc.names n [] (.inl h)
 exact Option.isSome_iff_exists.mp q
theorem qW7 {CX:CXT}{P:Program}{w:World}{K:PySem.W.Frag}{mg:Str->Option Value}{base:Heap}{N ps:List Str}{qual:Str}{scope:Scope}{f:Addr}{cd:Value}{A:Around}{outer:List Env}{s s1:Shared}{H:Hp}{E:XK}{us:List Value}{vs:List V}
  (S:FnScope N ps scope) (hd:A.handled=none) (e0:Env0 P w K mg base A outer s H) (hl:vs.length=ps.length) (r:Vals vs us)
  (x:InCallC s s.heap.objs.size (bindL (envOfC qual scope s.heap.objs.size f cd).kindOf (ps.zip us) fun _=>none) (cellsFrom (s.heap.objs.size + 1) scope.names []) (bindC (envOfC qual scope s.heap.objs.size f cd).kindOf (ps.zip us) fun _=>none) s1) :
  Inv (qD7 CX P w K mg base N qual scope f cd A outer s H E) [] (start N vs) H s1:=by
 have hpl:ps.length<=N.length:=by have:=congrArg List.length S.pre; rw [List.length_take] at this; omega
 obtain ⟨h1,tk,rfl,hk⟩:=x.done
 have noA:∀ b:Addr,b∉(qD7 CX P w K mg base N qual scope f cd A outer s H E).ex:=fun b z=>absurd (show b∈([]:List Addr) from z) (by simp)
 refine ⟨⟨e0.mod,S.kind,rfl,rfl,Nat.le_refl _,fun y z c h1 h2=>?_,fun y hy=>?_,fun y c _ h=>?_,fun _=>hd,Around.frames_deeper e0.frames,.inr ⟨rfl,rfl⟩,fun b z=>absurd z (noA b),e0.bs,e0.bsz,fun b _ _=>noA b,fun b z=>absurd z (noA b),e0.funs,e0.frf⟩,
  rfl,e0.bare,Un.kept hk,⟨_,x.toInCall.ns,fun i y v h1 h2 h3=>?_⟩,fun y c h=>⟨_,x.cell y c h⟩,e0.hok.fresh (Nat.le_refl _),fun y c h=>?_,fun p hp=>absurd (show p∈([]:List (Addr×Obj)) from hp) (by simp),e0.hok.kept hk,?_⟩
 ·exact name_of_addr x.apart (PySem.mem_of_lookup h1) (PySem.mem_of_lookup h2)
 ·have hy:scope.names.lookup y=some .cell∨scope.names.lookup y=some .free:=hy
  rcases hy with hy | hy
  ·exact qK5 hy
  ·exact absurd rfl (S.nofree _ (PySem.mem_of_lookup hy))
 ·exact Nat.le_of_lt (x.above y c (PySem.mem_of_lookup h))
 ·have hi:i < vs.length:=by
   unfold start at h2
   by_cases hi:i < vs.length
   ·exact hi
   ·rw [List.getElem?_append_right (by simpa using hi)] at h2
    rw [List.getElem?_replicate] at h2
    split at h2 <;> cases h2
  have ha:vs[i]? = some v:=by
   unfold start at h2
   rw [List.getElem?_append_left (by simpa using hi),List.getElem?_map] at h2
   cases e:vs[i]? with
   | none=>rw [e] at h2; cases h2
   | some a=>rw [e] at h2; cases h2; rfl
  obtain ⟨u,hu,rv⟩:=r.get ha
  have hp:ps[i]? = some y:=by
   rw [<- S.pre,List.getElem?_take_of_lt (by omega)]; exact h1
  have ndP:ps.Nodup:=by rw [<- S.pre]; exact S.nd.sublist (List.take_sublist _ _)
  refine ⟨u,rv,?_⟩
  rcases S.par y (List.mem_of_getElem? hp) with k | k
  ·exact .inl ⟨k,qD1 ndP hp hu k⟩
  ·obtain ⟨c,e⟩:=qK5 (n:=s.heap.objs.size + 1) k
   refine .inr ⟨.inl k,c,e,?_⟩
   have q:=x.cell y c e
   rw [qD3 ndP hp hu (by show scope.names.lookup y≠_; rw [k]; decide)] at q
   exact q
 ·exact e0.hok.fresh (Nat.le_of_lt (x.above y c (PySem.mem_of_lookup h)))
 ·unfold start
  show _=N.length
  rw [List.length_append,List.length_map,List.length_replicate]
  omega
theorem z65 {CX:CXT}{P:Program}{w:World}{K:PySem.W.Frag}{mg:Str->Option Value}{base:Heap}{k:Nat}{f:Addr}{name qual:Str}{params:Arguments}{body:List Stmt}{scope:Scope}{dV kV doc pm cdv ct oc:Value}{an od:Option Addr}
  {osl:Array (Option Value)} {N ps:List Str} {sp:Sp} (lk:K.lookup f=some ⟨oc,od,.func (PySem.W.fnOf name qual params body scope dV kV doc pm an cdv ct),osl⟩) (hcd:PySem.W.codeIn K cdv qual=true) (S:FnScope N ps scope)
  (len:∀ vs H Q E,sp vs H Q E->vs.length=ps.length)
  (hbody:∀(A:Around) (outer:List Env) (s:Shared) (H:Hp) (vs:List V) (Q:VK) (E:XK),Room k (A.deeper (envOfC qual scope s.heap.objs.size f cdv))->sp vs H Q E ->
   ∃ t,PSs (qD7 CX P w K mg base N qual scope f cdv A outer s H E) body t/\t { nx:=fun _ H'=>Q .non H',rt:=Q } (start N vs) H) :
  FnOk P w K mg base CX (k + 1) f (PySem.W.fnOf name qual params body scope dV kV doc pm an cdv ct) ps sp:=by
 refine ⟨len,fun A outer s H args us vs Q E hr e0 hb r hsp=>?_⟩
 have hl:=len _ _ _ _ hsp
 have KX:K.In s.heap:=e0.mod.kin.keeps fun b o e=>(e0.bs b o e).1
 have lim:s.heap.NoLimit:=e0.mod.nolimit.keeps fun b o e=>(e0.bs b o e).1
 have hkind:∀ y∈ps.zip us,scope.names.lookup y.1=some .local∨(scope.names.lookup y.1=some .cell/\((cellsFrom (s.heap.objs.size + 1) scope.names []).lookup y.1).isSome=true):=fun ⟨n,v⟩ hy=>by
  rcases S.par n (List.of_mem_zip hy).1 with q | q
  ·exact .inl q
  ·exact .inr ⟨q,PySem.W.cellsFrom_some _ _ _ (.inl q)⟩
 refine codeAny_call_function hr.depth (KX _ _ lk) rfl S.co S.gen rfl (PySem.W.codeRec_of KX hcd) (hb _ _ _ _ ?_)
 refine wpAny_newFunctionEnv_cells S.kind hkind fun env he s1 x=>?_
 subst he
 refine ⟨lim.keeps x.toInCall.keep,codeAny_func ?_⟩
 obtain ⟨t,ht,hq⟩:=hbody A outer s H vs Q E (hr.deeper _) hsp
 have I:Inv (qD7 CX P w K mg base N qual scope f cdv A outer s H E) [] (start N vs) H s1:=qW7 S hr.hd e0 hl r x
 refine wpAny_mono (ht [] s1 (start N vs) H _ I hq) (fun fl s' hs=>?_) fun e s' hs=>hs
 have fin:∀{σ':St} {H':Hp} {v:V} {u:Value},Inv (qD7 CX P w K mg base N qual scope f cdv A outer s H E) [] σ' H' s'->RelV v u->Q v H'->CE outer P w H s Q u s' :=
  fun {σ' H' v u} J rv q=>⟨v,H',J.os,J.bare,J.base,J.hok,rv,q⟩
 cases fl with
 | ret u =>
  obtain ⟨v,σ',H',J,rv,q⟩:=hs
  exact fin J rv q
 | next =>
  obtain ⟨σ',H',J,q⟩:=hs
  exact fin (v:=V.non) (u:=Value.none) J rfl q
 | brk =>
  obtain ⟨_,_,_,q⟩:=hs
  exact False.elim q
 | cont =>
  obtain ⟨_,_,_,q⟩:=hs
  exact False.elim q
end L2
namespace L2
open PySem PySem.Spec PyProof.Rows
section
variable {X:Cx}{x:Str}{p pos:Pos}{e:Expr}{es:List Expr}{t:TA}{id T:String}{r:List V->Hp->VK->Prop}
def tCB (r:List V->Hp->VK->Prop) (t:TA):TE:=fun σ H Q=>t σ H fun vs H1=>r vs H1 Q
theorem q15 (hc:CallR X (.builtin id) r) (hg:Gl X x) (hm:X.mg x=none) (hv:bootBuiltins x=some (.builtin id)) (ha:PA X (e :: es) t) (hn:x ≠ "__name__" := by decide) (hdb:(x == ("__debug__" : Str))=false:=by decide)
  (he:starEach (e :: es) X.env=(false,eval e X.env) :: starEach es X.env:=by rfl) (hpl:(backTo pos (starEach es X.env)).any (·.1)=false:=by rfl):PE X (.Call (.Name x p) (e :: es) [] pos) (tCB r t):=by
 intro pins s σ H Q I h
 refine wpAny_Call_Name_kw (qk5 I hg hm hv ?_ hn hdb)
 exact PyProof.Rows.callWith_builtin1 (thn (ha pos pins s σ H _ I h) fun us s1 ⟨vs,H1,I1,r1,q1⟩=>hc pins s1 σ H1 vs us Q I1 r1 q1) he hpl
theorem qk0 (hc:CallR X (.type T) r) (hg:Gl X x) (hm:X.mg x=none) (hv:bootBuiltins x=some (.type T)) (ha:PA X (e :: es) t) (hn:x ≠ "__name__" := by decide) (hdb:(x == ("__debug__" : Str))=false:=by decide)
  (he:starEach (e :: es) X.env=(false,eval e X.env) :: starEach es X.env:=by rfl) (hpl:(backTo pos (starEach es X.env)).any (·.1)=false:=by rfl):PE X (.Call (.Name x p) (e :: es) [] pos) (tCB r t):=by
 intro pins s σ H Q I h
 refine wpAny_Call_Name_kw (qk5 I hg hm hv ?_ hn hdb)
 exact PyProof.Rows.callWith_type1 (thn (ha pos pins s σ H _ I h) fun us s1 ⟨vs,H1,I1,r1,q1⟩=>hc pins s1 σ H1 vs us Q I1 r1 q1) he hpl
end
end L2
namespace HT
open PySem PyProof.Rows
section
open PySem.SeqAt
open PySem.AutoSeq1 (wpAny_loadPart')
open PySem.MeetsSeq PySem.MeetsSeq2 PySem.MeetsSeq3
end
section
variable {prog:Program}{w:World}{A:Around}{E:Value->Shared->Prop}{s:Shared}
def sIx (n d:Nat):Option Int->Nat
 | none=>d
 | some v=>if v < 0 then (v + (n:Int)).toNat else min v.toNat n
end
end HT
namespace L2
open PySem PySem.Spec PyProof.Rows
abbrev TO:=St->Hp->(Option Int->Hp->Prop)->Prop
def PO (X:Cx) (e:Option Expr) (t:TO):Prop :=
 ∀(pins:List (Addr×Obj)) (s:Shared) (σ:St) (H:Hp) (Q:Option Int->Hp->Prop),Inv X pins σ H s->t σ H Q ->
  wpAny (model X.prog X.w) X.A (evalPart e X.env) (fun u s'=>∃ o H',Inv X pins σ H' s'/\IsPart u o/\Q o H') X.xe s
def tNoPart:TO:=fun _ H Q=>Q none H
def tPart (t:TE):TO:=fun σ H Q=>t σ H fun x H1=>∃ i,x=.int i/\Q (some i) H1
section
variable {X:Cx}{e:Expr}{te:TE}{lo hi:Option Expr}{tl th:TO}{pos p2:Pos}
theorem qi7:PO X none tNoPart:=by
 intro pins s σ H Q I h
 rw [evalPart_none]
 exact wpAny_pure ⟨none,H,I,.none,h⟩
theorem qi6 (h:PE X e te):PO X (some e) (tPart te):=by
 intro pins s σ H Q I hw
 rw [evalPart_some]
 refine thn (h pins s σ H _ I hw) fun u s1 ⟨x,H1,I1,r1,q1⟩=>?_
 obtain ⟨i,rfl,q⟩:=q1
 obtain ⟨t,rfl⟩:=r1
 exact ⟨some i,H1,I1,.int i t,q⟩
def SlR (X:Cx) (r:V->Option Int->Option Int->Hp->VK->Prop):Prop :=
 ∀(pins:List (Addr×Obj)) (s:Shared) (σ:St) (H:Hp) (x:V) (v vl vu:Value) (lo hi:Option Int) (sl:Addr) (Q:VK),Inv X pins σ H s->RelV x v->s.heap.IsSliceOf sl vl vu .none->IsPart vl lo->IsPart vu hi->r x lo hi H Q ->
  ∃ T id,typeLookup (.type T) "__getitem__" = pure (some (.builtin id))/\s.TypeIs v T/\wpAny (model X.prog X.w) X.A (getItem v (.ref sl)) (EP X pins σ Q) X.xe s
theorem SlR.or {r r':V->Option Int->Option Int->Hp->VK->Prop}(h:SlR X r) (h':SlR X r'):SlR X (fun x lo hi H Q=>r x lo hi H Q∨r' x lo hi H Q):=by
 intro pins s σ H x v vl vu lo hi sl Q I rx hs pl pu q
 rcases q with q | q
 ·exact h pins s σ H x v vl vu lo hi sl Q I rx hs pl pu q
 ·exact h' pins s σ H x v vl vu lo hi sl Q I rx hs pl pu q
def tSl (r:V->Option Int->Option Int->Hp->VK->Prop) (te:TE) (tl th:TO):TE:=fun σ H Q=>te σ H fun x H1=>tl σ H1 fun l H2=>th σ H2 fun u H3=>r x l u H3 Q
theorem qd2 {r:V->Option Int->Option Int->Hp->VK->Prop}(hr:SlR X r) (he:PE X e te) (hl:PO X lo tl) (hu:PO X hi th):PE X (.Subscript e (.Slice lo hi none p2) pos) (tSl r te tl th):=by
 intro pins s σ H Q I h
 refine Subscript_ (thn (he pins s σ H _ I h) fun v s1 ⟨x,H1,I1,r1,q1⟩=>?_)
 refine wpAny_Slice (thn (hl pins s1 σ H1 _ I1 q1) fun vl s2 ⟨l,H2,I2,pl,q2⟩=>thn (hu pins s2 σ H2 _ I2 q2) fun vu s3 ⟨u,H3,I3,pu,q3⟩=>?_)
 rw [evalPart_none]
 refine wpAny_pure ?_
 have I4:Inv X pins σ H3 { s3 with heap:=s3.heap.push { cls:=.type "slice",data:=.fields #[vl,vu,.none] } }:=I3.kept (t':=s3.toks) fun b ob q=>Heap.get?_push_of_some _ q
 obtain ⟨T,id,hT,ht,hg⟩:=hr pins { s3 with heap:=s3.heap.push { cls:=.type "slice",data:=.fields #[vl,vu,.none] } } σ H3 x v vl vu l u s3.heap.objs.size Q I4 r1 (Heap.IsSliceOf.new ..) pl pu q3
 show wpAny (model X.prog X.w) X.A (subscriptTail e (.Slice lo hi none p2) v (.ref s3.heap.objs.size)) (EP X pins σ Q) X.xe { s3 with heap:=s3.heap.push { cls:=.type "slice",data:=.fields #[vl,vu,.none] } }
 exact tail_any (ops:=[.ref s3.heap.objs.size,v]) ht hT hg (by with_unfolding_all rfl)
def qK4 (xs:List V) (lo hi:Option Int):List V:=(xs.drop (HT.sIx xs.length 0 lo)).take (HT.sIx xs.length xs.length hi - HT.sIx xs.length 0 lo)
theorem qG1 (xs:List V) (lo hi:Option Int):(qK4 xs lo hi).length<=xs.length:=by
 unfold qK4
 rw [List.length_take,List.length_drop]
 omega
end
end L2
namespace L2
open PySem PySem.Spec PyProof.Rows
def ixN (n:Nat) (i:Int):Option Nat:=if 0<=i then (if i < n then some i.toNat else none) else if -(n:Int)<=i then some (i + n).toNat else none
def atI {α:Type}(xs:List α) (i:Int):Option α:=(ixN xs.length i).bind fun j=>xs[j]?
theorem ixN_seq {n:Nat}{i:Int}{j:Nat}(h:ixN n i=some j):seqIndex? i n=some j/\j < n /\ -(n:Int)<=i/\i < n:=by
 unfold ixN at h
 by_cases h0:0<=i
 ·rw [if_pos h0] at h
  by_cases h1:i < n
  ·rw [if_pos h1] at h
   have e:i.toNat=j:=Option.some.inj h
   exact ⟨by rw [seqIndex_of h0 h1,e],by omega,by omega,h1⟩
  ·rw [if_neg h1] at h; cases h
 ·rw [if_neg h0] at h
  by_cases h1 : -(n:Int)<=i
  ·rw [if_pos h1] at h
   have e:(i + n).toNat=j:=Option.some.inj h
   exact ⟨by rw [seqIndex_neg (by omega) h1,e],by omega,h1,by omega⟩
  ·rw [if_neg h1] at h; cases h
theorem qG5 {α:Type}{xs:List α}{i:Int}{v:α}(h:atI xs i=some v):∃ j,seqIndex? i xs.length=some j/\xs[j]? = some v/\j < xs.length /\ -(xs.length:Int)<=i/\i < xs.length:=by
 unfold atI at h
 cases e:ixN xs.length i with
 | none=>rw [e] at h; cases h
 | some j =>
  rw [e] at h
  obtain ⟨h1,h2,h3,h4⟩:=ixN_seq e
  exact ⟨j,h1,h,h2,h3,h4⟩
theorem q46 {α:Type}{xs:List α}{j:Nat}{v:α}(h:xs[j]? = some v):atI xs (j:Int)=some v:=by
 have hj:j < xs.length:=(List.getElem?_eq_some_iff.mp h).1
 have e:ixN xs.length (j:Int)=some j:=by
  unfold ixN
  rw [if_pos (by omega),if_pos (by omega)]; simp
 unfold atI; rw [e]; exact h
def qZ0 (b:Expr):Prop:=∀ o i,subscripted b false o i=operate [o,i] (getItem o i)
def IxR (X:Cx) (r:R2):Prop :=
 ∀(value slice:Expr) (pins:List (Addr×Obj)) (s:Shared) (σ:St) (H:Hp) (x y:V) (v u:Value) (Q:VK),Inv X pins σ H s->RelV x v->RelV y u->r x y H Q ->
  subscripted slice false v u=operate [v,u] (getItem v u)->wpAny (model X.prog X.w) X.A (subscriptTail value slice v u) (EP X pins σ Q) X.xe s
def MtR (X:Cx) (id:String) (r:V->List V->Hp->VK->Prop):Prop :=
 ∀(pins:List (Addr×Obj)) (s:Shared) (σ:St) (H:Hp) (x:V) (xs:List V) (v:Value) (us:List Value) (Q:VK),Inv X pins σ H s->RelV x v->Vals xs us->r x xs H Q ->
  wpAny (model X.prog X.w) X.A (call (.builtin id) (v :: us)) (EP X pins σ Q) X.xe s
section
variable {X:Cx}{a b:Expr}{ta tb:TE}{pos:Pos}
theorem IxR.or {r r':R2}(h:IxR X r) (h':IxR X r'):IxR X (fun x y H Q=>r x y H Q∨r' x y H Q):=by
 intro value slice pins s σ H x y v u Q I rx ry q hs
 rcases q with q | q
 ·exact h value slice pins s σ H x y v u Q I rx ry q hs
 ·exact h' value slice pins s σ H x y v u Q I rx ry q hs
theorem MtR.or {id:String}{r r':V->List V->Hp->VK->Prop}(h:MtR X id r) (h':MtR X id r'):MtR X id (fun x xs H Q=>r x xs H Q∨r' x xs H Q):=by
 intro pins s σ H x xs v us Q I rx rs q
 rcases q with q | q
 ·exact h pins s σ H x xs v us Q I rx rs q
 ·exact h' pins s σ H x xs v us Q I rx rs q
theorem q25 {r:R2}(hr:IxR X r) (ha:PE X a ta) (hb:PE X b tb) (hs:qZ0 b):PE X (.Subscript a b pos) (tOp r ta tb):=by
 intro pins s σ H Q I h
 exact Subscript_ (binT ha hb I h fun v u s2 x y H2 I2 rx ry q=>hr a b pins s2 σ H2 x y v u Q I2 rx ry q (hs _ _))
def qR9 (K:PySem.W.Frag):R2:=fun x y H Q=>∃ p xs i v,x=.ref p/\y=.int i/\SqL K H p xs/\atI xs i=some v/\Q v H
def rIxT (K:PySem.W.Frag):R2:=fun x y H Q=>∃ p xs i v,x=.ref p/\y=.int i/\SqT K H p xs/\atI xs i=some v/\Q v H
def rIxS:R2:=fun x y H Q=>∃ z i c,x=.str z/\y=.int i/\z.length<=sizeLine/\atI z.cps.toList i=some c/\Q (.str ⟨#[c]⟩) H
theorem ix_list:IxR X (qR9 X.K):=by
 intro value slice pins s σ H x y v u Q I rx ry h hs
 obtain ⟨p,xs,i,z,rfl,rfl,hq,he,q⟩:=h
 cases rx
 obtain ⟨t,rfl⟩:=ry
 obtain ⟨its,r,pl,hz⟩:=I.list hq
 obtain ⟨j,h1,h2,h3,h4,h5⟩:=qG5 he
 obtain ⟨w,ew,rw'⟩:=r.get h2
 have hl:=r.length
 have hn:=qu4
 have fin:EP X pins σ Q w s:=⟨z,H,I,rw',q⟩
 by_cases h0:0<=i
 ·have hj:i.toNat=j:=by
   rw [seqIndex_of h0 h5] at h1
   exact Option.some.inj h1
  exact item_listR pl.isList h0 (by omega) (by rw [hj]; simpa using ew) fin hs
 ·have hj:(i + (its.toArray.size:Int)).toNat=j:=by
   rw [seqIndex_neg (by omega) h4] at h1
   rw [List.size_toArray,<- hl]
   exact Option.some.inj h1
  exact subscriptTail_builtinR (x:=w) pl.isList.typeIs slot_list_getitem.lookup
   (wpAny_getItem_list_neg (Q:=fun r s'=>r=w/\EP X pins σ Q r s') pl.isList (by omega) (by rw [List.size_toArray] <;> omega) (by omega) (by rw [hj]; simpa using ew) ⟨rfl,fin⟩) hs
theorem ix_tup:IxR X (rIxT X.K):=by
 intro value slice pins s σ H x y v u Q I rx ry h hs
 obtain ⟨p,xs,i,z,rfl,rfl,hq,he,q⟩:=h
 cases rx
 obtain ⟨t,rfl⟩:=ry
 obtain ⟨its,r,pl,hz⟩:=I.tuple hq
 obtain ⟨j,h1,h2,h3,h4,h5⟩:=qG5 he
 obtain ⟨w,ew,rw'⟩:=r.get h2
 have hl:=r.length
 have hn:=qu4
 have fin:EP X pins σ Q w s:=⟨z,H,I,rw',q⟩
 exact subscriptTail_builtinR (x:=w) pl.typeIs slot_tuple_getitem.lookup
  (getItem_tuple (j:=j) (Q:=fun r s'=>r=w/\EP X pins σ Q r s') pl (by omega) (by omega) (by rw [List.size_toArray,<- hl]; exact h1) (by simpa using ew) ⟨rfl,fin⟩) hs
theorem q62:IxR X rIxS:=by
 intro value slice pins s σ H x y v u Q I rx ry h hs
 obtain ⟨z,i,c,rfl,rfl,hz,he,q⟩:=h
 obtain ⟨t,rfl⟩:=rx
 obtain ⟨t',rfl⟩:=ry
 obtain ⟨j,h1,h2,h3,h4,h5⟩:=qG5 he
 have hl:z.cps.toList.length=z.length:=by simp [Str.length]
 rw [hl] at h1 h4 h5
 have hn:=qu4
 exact tail_any (typeIs_str s z t) slot_str_getitem.lookup (getItem_str (c:=c) (by
  have e1:decide (i < -(2 ^ 63:Int))=false:=decide_eq_false (by omega)
  have e2:decide (i ≥ 2 ^ 63)=false:=decide_eq_false (by omega)
  rw [e1,e2,Bool.or_false]) (by rw [h1]; simpa using h2) ⟨.str ⟨#[c]⟩,H,I.tok _,⟨_,rfl⟩,q⟩) hs
def rIx (K:PySem.W.Frag):R2:=fun x y H Q=>qR9 K x y H Q∨rIxT K x y H Q∨rIxS x y H Q
theorem zb4:IxR X (rIx X.K):=ix_list.or (ix_tup.or q62)
theorem Inv.lst {pins:List (Addr×Obj)}{σ:St}{H:Hp}{s:Shared}{p:Addr}{xs:List V}(I:Inv X pins σ H s) (h:H p=some (.lst xs)) :
  ∃(its:List Value) (n:Nat),Vals xs its/\s.heap.get? p=some { cls:=.type "list",data:=.seq its.toArray n }/\xs.length<=sizeLine:=by
 obtain ⟨z,its,n,r,e⟩:=I.hok p _ h
 exact ⟨its,n,r,e,z⟩
theorem qA3 (lo hi:Option Int) (n:Nat):(sliceBounds lo hi none n).1=((HT.sIx n 0 lo:Nat):Int)/\(sliceBounds lo hi none n).2.1=((HT.sIx n n hi:Nat):Int)/\(sliceBounds lo hi none n).2.2=1:=by
 refine ⟨?_,?_,rfl⟩
 ·cases lo with
  | none=>simp [sliceBounds,HT.sIx]
  | some i =>
   simp only [sliceBounds,HT.sIx,Option.getD_none,show (1:Int) > 0 by decide,if_true]
   by_cases h:i < 0
   ·simp only [h,if_true] <;> omega
   ·simp only [h,if_false] <;> omega
 ·cases hi with
  | none=>simp [sliceBounds,HT.sIx]
  | some i =>
   simp only [sliceBounds,HT.sIx,Option.getD_none,show (1:Int) > 0 by decide,if_true]
   by_cases h:i < 0
   ·simp only [h,if_true] <;> omega
   ·simp only [h,if_false] <;> omega
theorem qw0 (its:List Value) (lo hi:Option Int):slicePick its.toArray lo hi none=((its.drop (HT.sIx its.length 0 lo)).take (HT.sIx its.length its.length hi - HT.sIx its.length 0 lo)).toArray:=by
 obtain ⟨h1,h2,h3⟩:=qA3 lo hi its.toArray.size
 unfold slicePick
 rw [h1,h2,h3]
 simp only [sliceRange_one,pick_run,List.size_toArray] <;> rfl
def rSlL (K:PySem.W.Frag):V->Option Int->Option Int->Hp->VK->Prop:=fun x lo hi H Q=>∃ a xs,x=.ref a/\SqL K H a xs/\∀ p,H p=none->Q (.ref p) (upd H p (.lst (qK4 xs lo hi)))
theorem qp8:SlR X (rSlL X.K):=by
 intro pins s σ H x v vl vu lo hi sl Q I rx hs pl pu h
 obtain ⟨a,xs,rfl,hx,q⟩:=h
 cases rx
 obtain ⟨its,r,ht,hz⟩:=I.list hx
 have hlen:=r.length
 refine ⟨"list",_,slot_list_getitem.lookup,ht.isList.typeIs,?_⟩
 refine wpAny_getItem_list_slice ht.isList hs pl pu .none (by simp) ?_ (by rw [List.size_toArray] <;> omega)
 rw [qw0,<- hlen]
 refine ⟨.ref s.heap.objs.size,_,I.laid (t':=s.toks) (o:=.lst (qK4 xs lo hi)) (fun b ob q=>Heap.get?_push_of_some _ q) (Nat.le_refl _) ?_,rfl,q _ (I.hok.fresh (Nat.le_refl _))⟩
 exact ⟨Nat.le_trans (qG1 xs lo hi) hz,_,0,(r.drop (HT.sIx xs.length 0 lo)).take (HT.sIx xs.length xs.length hi - HT.sIx xs.length 0 lo),Heap.get?_push_size _ rfl⟩
def qt3:V->Bool
 | .non=>true
 | .bl _=>true
 | .int _=>true
 | .str _=>true
 | _=>false
def eqV:V->V->Bool
 | .non,.non=>true
 | .bl a,.bl b=>a == b
 | .bl a,.int b=>(if a then 1 else 0) == b
 | .int a,.bl b=>a == (if b then 1 else 0)
 | .int a,.int b=>a == b
 | .str a,.str b=>a == b
 | _,_=>false
theorem eqAt_V {A:Around}{s:Shared}{y x:V}{u v:Value}(ry:RelV y u) (rx:RelV x v) (fy:qt3 y=true) (fx:qt3 x=true):SeqAt.EqAt A s u v (eqV y x):=by
 cases y with
 | non =>
  cases ry
  cases x with
  | non=>cases rx; exact SeqAt.EqAt.same _
  | bl b=>cases rx; exact SeqAt.EqAt.none_bool b
  | int b=>obtain ⟨t,rfl⟩:=rx; exact SeqAt.EqAt.none_int b t
  | str b=>obtain ⟨t,rfl⟩:=rx; exact SeqAt.EqAt.none_str b t
  | _=>exact absurd (show false=true from fx) Bool.false_ne_true
 | bl a =>
  cases ry
  cases x with
  | non=>cases rx; exact SeqAt.EqAt.bool_none a
  | bl b=>cases rx; exact SeqAt.EqAt.bool_bool a b
  | int b=>obtain ⟨t,rfl⟩:=rx; exact SeqAt.EqAt.bool_int a b t
  | str b=>obtain ⟨t,rfl⟩:=rx; exact SeqAt.EqAt.bool_str a b t
  | _=>exact absurd (show false=true from fx) Bool.false_ne_true
 | int a =>
  obtain ⟨t',rfl⟩:=ry
  cases x with
  | non=>cases rx; exact SeqAt.EqAt.int_none a t'
  | bl b=>cases rx; exact SeqAt.EqAt.int_bool a t' b
  | int b=>obtain ⟨t,rfl⟩:=rx; exact SeqAt.EqAt.int_int a t' b t
  | str b=>obtain ⟨t,rfl⟩:=rx; exact SeqAt.EqAt.int_str a t' b t
  | _=>exact absurd (show false=true from fx) Bool.false_ne_true
 | str a =>
  obtain ⟨t',rfl⟩:=ry
  cases x with
  | non=>cases rx; exact SeqAt.EqAt.str_none a t'
  | bl b=>cases rx; exact SeqAt.EqAt.str_bool a t' b
  | int b=>obtain ⟨t,rfl⟩:=rx; exact SeqAt.EqAt.str_int a t' b t
  | str b=>obtain ⟨t,rfl⟩:=rx; exact SeqAt.EqAt.str_str a t' b t
  | _=>exact absurd (show false=true from fx) Bool.false_ne_true
 | _=>exact absurd (show false=true from fy) Bool.false_ne_true
def eqU (x:V) (u:Value):Bool:=match u with
 | .none=>eqV .non x
 | .bool b=>eqV (.bl b) x
 | .int i _=>eqV (.int i) x
 | .str z _=>eqV (.str z) x
 | _=>false
theorem zc1 {x y:V}{u:Value}(r:RelV y u) (f:qt3 y=true):eqU x u=eqV y x:=by
 cases y with
 | non=>cases r; rfl
 | bl b=>cases r; rfl
 | int i=>obtain ⟨t,rfl⟩:=r; rfl
 | str z=>obtain ⟨t,rfl⟩:=r; rfl
 | _=>exact absurd (show false=true from f) Bool.false_ne_true
theorem qs9 {x:V}:∀{xs:List V}{us:List Value},Vals xs us->xs.all qt3=true->us.any (eqU x)=xs.any fun y=>eqV y x
 | _,_,.nil,_=>rfl
 | y :: xs,u :: us,.cons r t,f=>by
  rw [List.all_cons,Bool.and_eq_true] at f
  rw [List.any_cons,List.any_cons,zc1 r f.1,qs9 t f.2]
theorem qk2 {A:Around}{s:Shared}{x:V}{v:Value}(rx:RelV x v) (fx:qt3 x=true):∀{xs:List V}{us:List Value},Vals xs us->xs.all qt3=true->∀ u∈us,SeqAt.EqAt A s u v (eqU x u)
 | _,_,.nil,_=>fun u hu=>by cases hu
 | y :: xs,u :: us,.cons r t,f=>fun u' hu=>by
  rw [List.all_cons,Bool.and_eq_true] at f
  rcases List.mem_cons.mp hu with rfl | hu
  ·rw [zc1 r f.1]; exact eqAt_V r rx f.1 fx
  ·exact qk2 rx fx t f.2 u' hu
def inV (x:V) (xs:List V):Bool:=xs.any fun y=>eqV y x
def rIn (K:PySem.W.Frag) (neg:Bool):R2:=fun x y H Q=>∃ p xs,y=.ref p/\(SqL K H p xs∨SqT K H p xs)/\qt3 x=true/\xs.all qt3=true/\Q (.bl (if neg then !inV x xs else inV x xs)) H
theorem q92:OpR X (compareOp .In) (rIn X.K false):=by
 intro pins s σ H x y v u Q I rx ry h
 obtain ⟨p,xs,rfl,hq,fx,fs,q⟩:=h
 cases ry
 rcases hq with hq | hq
 ·obtain ⟨its,r,pl,hz⟩:=I.list hq
  refine SeqAt.in_listAt (eqU x) pl.isList (fun w hw=>qk2 rx fx r fs w (by simpa using hw)) ⟨.bl _,H,I,rfl,?_⟩
  rw [show its.toArray.any (eqU x)=its.any (eqU x) by simp,qs9 r fs]
  exact q
 ·obtain ⟨its,r,pl,hz⟩:=I.tuple hq
  refine SeqAt.in_tupleAt (eqU x) pl (fun w hw=>qk2 rx fx r fs w (by simpa using hw)) ⟨.bl _,H,I,rfl,?_⟩
  rw [show its.toArray.any (eqU x)=its.any (eqU x) by simp,qs9 r fs]
  exact q
theorem qf8:OpR X (compareOp .NotIn) (rIn X.K true):=by
 intro pins s σ H x y v u Q I rx ry h
 obtain ⟨p,xs,rfl,hq,fx,fs,q⟩:=h
 cases ry
 rcases hq with hq | hq
 ·obtain ⟨its,r,pl,hz⟩:=I.list hq
  refine SeqAt.notIn_listAt (eqU x) pl.isList (fun w hw=>qk2 rx fx r fs w (by simpa using hw)) ⟨.bl _,H,I,rfl,?_⟩
  rw [show its.toArray.any (eqU x)=its.any (eqU x) by simp,qs9 r fs]
  exact q
 ·obtain ⟨its,r,pl,hz⟩:=I.tuple hq
  refine SeqAt.notIn_tupleAt (eqU x) pl (fun w hw=>qk2 rx fx r fs w (by simpa using hw)) ⟨.bl _,H,I,rfl,?_⟩
  rw [show its.toArray.any (eqU x)=its.any (eqU x) by simp,qs9 r fs]
  exact q
theorem q27:CallR X (.builtin "len") (fun xs H Q=>∃ p ys,xs=[.ref p]/\(SqL X.K H p ys∨SqT X.K H p ys)/\Q (.int ys.length) H):=by
 intro pins s σ H xs us Q I r h
 obtain ⟨p,ys,rfl,hq,q⟩:=h
 obtain ⟨u,rfl,rx⟩:=qO1 r
 cases rx
 have hn:=qu4
 rcases hq with hq | hq
 ·obtain ⟨its,r',pl,hz⟩:=I.list hq
  have hlen:=r'.length
  exact Calls.call_len_list pl.isList (by simp only [List.size_toArray] <;> omega) ⟨.int ys.length,H,I.tok _,⟨s.toks + 1,by rw [List.size_toArray,hlen]⟩,q⟩
 ·obtain ⟨its,r',pl,hz⟩:=I.tuple hq
  have hlen:=r'.length
  exact len_tuple pl (by simp only [List.size_toArray] <;> omega) ⟨.int ys.length,H,I.tok _,⟨s.toks + 1,by rw [List.size_toArray,hlen]⟩,q⟩
theorem q49:CallR X (.builtin "len") (fun xs H Q=>∃ z,xs=[.str z]/\z.length<=sizeLine/\Q (.int z.length) H):=by
 intro pins s σ H xs us Q I r h
 obtain ⟨z,rfl,hz,q⟩:=h
 obtain ⟨u,rfl,t,rfl⟩:=qO1 r
 have hn:=qu4
 exact len_str (by omega) ⟨.int z.length,H,I.tok _,⟨_,rfl⟩,q⟩
theorem CallR.or {f:Value}{r r':List V->Hp->VK->Prop}(h:CallR X f r) (h':CallR X f r'):CallR X f (fun xs H Q=>r xs H Q∨r' xs H Q):=by
 intro pins s σ H xs us Q I rs q
 rcases q with q | q
 ·exact h pins s σ H xs us Q I rs q
 ·exact h' pins s σ H xs us Q I rs q
def tyV (K:PySem.W.Frag) (T:String) (x:V) (H:Hp):Prop:=match x with
 | .str _=>T = "str"
 | .int _=>T = "int"
 | .ref p=>(T = "list" /\ ∃ xs,SqL K H p xs)∨(T = "tuple" /\ ∃ o,K.lookup p=some o/\o.cls=.type "tuple" /\ o.dict=none) ∨
   (T = "dict" /\ ((∃ kvs,H p=some (.dK kvs))∨∃ kvs,H p=some (.dT kvs)))∨(T = "set" /\ ∃ S n,H p=some (.set S n))
 | _=>False
theorem tyV_is {pins:List (Addr×Obj)}{σ:St}{H:Hp}{s:Shared}{T:String}{x:V}{v:Value}(I:Inv X pins σ H s) (r:RelV x v) (ty:tyV X.K T x H) :
  s.TypeIs v T/\∀ a,v=.ref a->∃ ob,s.heap.get? a=some ob/\ob.dict=none:=by
 cases x with
 | str z =>
  obtain ⟨t,rfl⟩:=r
  cases (show T = "str" from ty)
  exact ⟨typeIs_str s z t,fun _ e=>nomatch e⟩
 | int i =>
  obtain ⟨t,rfl⟩:=r
  cases (show T = "int" from ty)
  exact ⟨typeIs_int s i t,fun _ e=>nomatch e⟩
 | ref p =>
  cases r
  rcases ty with ⟨rfl,xs,hq⟩ | ⟨rfl,o,hk,hc,hd⟩ | ⟨rfl,hk⟩ | ⟨rfl,S,n,hk⟩
  ·obtain ⟨its,_,pl,_⟩:=I.list hq
   refine ⟨pl.isList.typeIs,fun a e=>?_⟩
   cases e
   obtain ⟨o,n,e,c,hd,_⟩:=pl
   exact ⟨o,e,hd⟩
  ·refine ⟨⟨o,I.kIn p o hk,hc⟩,fun a e=>?_⟩
   cases e
   exact ⟨o,I.kIn _ o hk,hd⟩
  ·have z:∃ o,s.heap.get? p=some o/\o.ExactDict:=by
    rcases hk with ⟨kvs,hk⟩ | ⟨kvs,hk⟩
    ·obtain ⟨_,_,_,_,o,_,_,e,ex,_⟩:=I.hok p _ hk
     exact ⟨o,e,ex⟩
    ·obtain ⟨_,_,_,_,o,_,_,e,ex,_⟩:=I.hok p _ hk
     exact ⟨o,e,ex⟩
   obtain ⟨o,e,ex⟩:=z
   refine ⟨⟨o,e,ex.1⟩,fun a e2=>?_⟩
   cases e2
   exact ⟨o,e,ex.2.1⟩
  ·obtain ⟨o,_,_,_,e,ex,_⟩:=I.hok p _ hk
   refine ⟨⟨o,e,ex.1⟩,fun a e2=>?_⟩
   cases e2
   exact ⟨o,e,ex.2.1⟩
 | _=>exact False.elim ty
def tBM (K:PySem.W.Frag) (T:String) (r:V->List V->Hp->VK->Prop) (to:TE) (t:TA):TE:=fun σ H Q=>to σ H fun x H1=>tyV K T x H1/\t σ H1 fun xs H2=>r x xs H2 Q
variable {o e:Expr}{es:List Expr}{to:TE}{t:TA}{name:Str}{apos cpos:Pos}{T id:String}{r:V->List V->Hp->VK->Prop}
theorem qi8 (pa:PlainAttrs T) (slot:Slot T name id) (hty:typeOf (.builtin id)=pure (.type "method_descriptor")) (hm:MtR X id r) (ho:PE X o to) (ha:PA X (e :: es) t)
  (hbase:attributeBase o name X.env (eval o X.env)=eval o X.env:=by rfl)
  (hfew:((backTo cpos (starEach (e :: es) X.env)).all (fun x=>!x.1) && (backToKw cpos (keywordEach [] X.env)).all (fun x=>x.1.isSome)
   && decide ((e :: es).length + ([]:List Keyword).length + (if ([]:List Keyword).isEmpty then 0 else 1) < 30))=true:=by rfl)
  (hline:(apos.endLine == cpos.line)=true:=by rfl) (hs:starEach (e :: es) X.env=(false,eval e X.env) :: starEach es X.env:=by rfl) (hplain:(backTo cpos (starEach es X.env)).any (·.1)=false:=by rfl) :
  PE X (.Call (.Attribute o name apos) (e :: es) [] cpos) (tBM X.K T r to t):=by
 intro pins s σ H Q I h
 refine wpAny_Call_method_late hbase hfew hline rfl (thn (ho pins s σ H _ I h) fun v s1 ⟨x,H1,I1,r1,ty,q1⟩=>?_)
 obtain ⟨h1,h2⟩:=tyV_is I1 r1 ty
 refine ⟨T,id,pa,slot,hty,h1,h2,?_⟩
 have hA:=ha cpos pins s1 σ H1 _ I1 q1
 rw [hs] at hA ⊢
 refine Calls.callWith_builtin (by show (false || (backTo cpos (starEach es X.env)).any (·.1))=false; rw [hplain] <;> rfl) (Calls.evalArgs_plain ?_)
 exact thn hA fun us s2 ⟨vs,H2,I2,r2,q2⟩=>hm pins s2 σ H2 x vs v us Q I2 r1 r2 q2
end
end L2
namespace L2
open PySem PySem.Spec PyProof.Rows
def MtM (X:Cx) (id:String) (r:V->List V->Hp->VK->Prop):Prop :=
 ∀(pins:List (Addr×Obj)) (s:Shared) (σ:St) (H:Hp) (x:V) (xs:List V) (v:Value) (us:List Value) (Q:VK),Inv X pins σ H s->RelV x v->Vals xs us->r x xs H Q ->
  wpAny (model X.prog X.w) X.A (call (.builtin id) (v :: us)) (EP X pins σ Q) X.xe s
theorem Vals.one:∀{x:V}{us:List Value},Vals [x] us->∃ u,us=[u]/\RelV x u
 | _,_,.cons r .nil=>⟨_,rfl,r⟩
theorem Vals.two:∀{x y:V}{us:List Value},Vals [x,y] us->∃ u v,us=[u,v]/\RelV x u/\RelV y v
 | _,_,_,.cons r (.cons q .nil)=>⟨_,_,rfl,r,q⟩
theorem Vals.zero:∀{us:List Value},Vals [] us->us=[]
 | _,.nil=>rfl
theorem Vals.dropLast {xs:List V}{us:List Value}(h:Vals xs us):Vals xs.dropLast us.dropLast:=by
 induction h with
 | nil=>exact .nil
 | cons r t ih =>
  cases t with
  | nil=>exact .nil
  | cons q t'=>exact .cons r ih
theorem Vals.eraseIdx:∀{xs:List V}{us:List Value}(i:Nat),Vals xs us->Vals (xs.eraseIdx i) (us.eraseIdx i)
 | _,_,_,.nil=>.nil
 | _,_,0,.cons _ t=>t
 | _,_,i + 1,.cons r t=>.cons r (Vals.eraseIdx i t)
theorem qB8 {α:Type}:∀(l:List α) (i:Nat),(l.eraseIdx i).length<=l.length
 | [],_=>Nat.le_refl _
 | _ :: _,0=>Nat.le_succ _
 | _ :: r,i + 1=>Nat.succ_le_succ (qB8 r i)
section
variable {X:Cx}{pins:List (Addr×Obj)}{σ:St}{H:Hp}{s:Shared}{l b:Addr}{xs ys zs:List V}
theorem Inv.lset {its its':List Value}{n:Nat}{f:Array Value->Array Value}{t':Nat}(I:Inv X pins σ H s) (hH:H l=some (.lst xs))
  (e:s.heap.get? l=some { cls:=.type "list",data:=.seq its.toArray n }) (hf:f its.toArray=its'.toArray) (hv:Vals ys its') (hz:ys.length<=sizeLine) :
  Inv X pins σ (upd H l (.lst ys)) { s with heap:=s.heap.update l (Obj.mapSeq f),toks:=t' }:=by
 have q:=PySem.IsL.update e f
 rw [hf] at q
 refine I.write (x:=l) (e:=l) (by rw [hH]; exact trivial) (.inl rfl) (fun b' u hb hu=>(Heap.get?_update_other s.heap (Obj.mapSeq f) (Ne.symm hb)).trans hu) ⟨_,q⟩ ?_
 exact ⟨hz,its',_,hv,q⟩
theorem Inv.lnew {its:List Value}{t':Nat}(I:Inv X pins σ H s) (hv:Vals ys its) (hz:ys.length<=sizeLine) :
  Inv X pins σ (upd H s.heap.objs.size (.lst ys)) { s with heap:=s.heap.push { cls:=.type "list",data:=.seq its.toArray },toks:=t' } :=
 I.laid (fun _ _ q=>Heap.get?_push_of_some _ q) (Nat.le_refl _) ⟨hz,its,0,hv,Heap.get?_push_size _ rfl⟩
theorem Inv.fresh (I:Inv X pins σ H s):H s.heap.objs.size=none:=I.hok.fresh (Nat.le_refl _)
theorem Inv.lstM (I:Inv X pins σ H s) (hH:H l=some (.lst xs)):xs.length<=sizeLine/\∃(its:List Value) (n:Nat),Vals xs its/\xs.length=its.length/\s.heap.get? l=some { cls:=.type "list",data:=.seq its.toArray n }:=by
 obtain ⟨z,its,n,r,e⟩:=I.hok l _ hH
 exact ⟨z,its,n,r,r.length,e⟩
end
section
variable {X:Cx}
def rAppend:V->List V->Hp->VK->Prop:=fun x vs H Q=>∃ l xs y,x=.ref l/\vs=[y]/\H l=some (.lst xs)/\xs.length < sizeLine/\Q .non (upd H l (.lst (xs ++ [y])))
theorem q57:MtM X "list.append" rAppend:=by
 intro pins s σ H x vs v us Q I rx rv h
 obtain ⟨l,xs,y,rfl,rfl,hH,hz,q⟩:=h
 cases rx
 obtain ⟨u,rfl,ru⟩:=rv.one
 obtain ⟨z,its,n,r,hl,e⟩:=I.lstM hH
 refine call_meets F.slot_list_append ⟨_,e,rfl⟩ F.entry_list_append (F.args_list_append_2 _ _) (PySem.list_append l its.toArray n u (by rw [List.size_toArray]; omega)) ⟨e,?_⟩
 refine ⟨.non,_,I.lset (its':=its ++ [u]) hH e (by simp) (r.append (.cons ru .nil)) ?_,rfl,q⟩
 rw [List.length_append,List.length_singleton]
 omega
def rPopAt:V->List V->Hp->VK->Prop:=fun x vs H Q=>∃ l xs i k y,x=.ref l/\vs=[.int i]/\H l=some (.lst xs) /\ -(2 ^ 63)<=i/\i < 2 ^ 63/\seqIndex? i xs.length=some k/\xs[k]? = some y/\Q y (upd H l (.lst (xs.eraseIdx k)))
theorem z56:MtM X "list.pop" rPopAt:=by
 intro pins s σ H x vs v us Q I rx rv h
 obtain ⟨l,xs,i,k,y,rfl,rfl,hH,h1,h2,hk,hy,q⟩:=h
 cases rx
 obtain ⟨u,rfl,ru⟩:=rv.one
 obtain ⟨t,rfl⟩:=ru
 obtain ⟨z,its,n,r,hl,e⟩:=I.lstM hH
 obtain ⟨w,hw,rw'⟩:=r.get hy
 refine call_meets F.slot_list_pop ⟨_,e,rfl⟩ F.entry_list_pop (F.args_list_pop_2 _ _)
  (MeetsSeq.list_pop_at l its.toArray n i t k w (fitsIndex_both h1 h2) (by rw [List.size_toArray,<- hl]; exact hk) (by rw [<- Array.getElem?_toList]; exact hw) (by rw [List.size_toArray]; omega)) ⟨e,?_⟩
 refine ⟨y,_,I.lset (its':=its.eraseIdx k) hH e ?_ (r.eraseIdx k) ?_,rw',q⟩
 ·show its.toArray.eraseIdxIfInBounds k=(its.eraseIdx k).toArray
  rw [List.eraseIdxIfInBounds_toArray]
 ·have:=qB8 xs k
  omega
def rCat:R2:=fun x y H Q=>∃ l b xs zs,x=.ref l/\y=.ref b/\H l=some (.lst xs)/\H b=some (.lst zs)/\xs.length + zs.length<=sizeLine/\∀ p,H p=none->Q (.ref p) (upd H p (.lst (xs ++ zs)))
theorem za5:OpR X (binaryOp .Add) rCat:=by
 intro pins s σ H x y v u Q I rx ry h
 obtain ⟨l,b,xs,zs,rfl,rfl,hH,hB,hz,q⟩:=h
 cases rx
 cases ry
 obtain ⟨z,its,n,r,hl,e⟩:=I.lstM hH
 obtain ⟨z2,its2,n2,r2,hl2,e2⟩:=I.lstM hB
 refine PySem.P.add_list e e2 ?_ (by rw [List.size_toArray,List.size_toArray]; omega)
 have ea:its.toArray ++ its2.toArray=(its ++ its2).toArray:=by simp
 rw [ea]
 exact ⟨.ref _,_,I.lnew (t':=s.toks) (r.append r2) (by rw [List.length_append]; omega),rfl,q _ I.fresh⟩
end
section
variable {prog:Program}{w:World}{A:Around}{E:Value->Shared->Prop}{s:Shared}
end
section
variable {X:Cx}
end
end L2
namespace L2
open PySem PySem.Spec PyProof.Rows
section
variable {κ:Type} [DecidableEq κ]
def qg5 (kvs:List (κ×V)) (k:κ):Option V:=(kvs.find? fun kv=>decide (kv.1=k)).map (·.2)
def qn6 (kvs:List (κ×V)) (k:κ) (v:V):List (κ×V) :=
 if (kvs.any fun kv=>decide (kv.1=k))=true then kvs.map (fun kv=>if kv.1=k then (kv.1,v) else kv) else kvs ++ [(k,v)]
def qF8 (kvs:List (κ×V)) (k:κ):List (κ×V):=kvs.filter fun kv=>decide (kv.1≠k)
theorem q69 {p:κ×V}{r:List (κ×V)}{k:κ}(e:p.1=k):qg5 (p :: r) k=some p.2:=by simp [qg5,List.find?_cons,e]
theorem q70 {p:κ×V}{r:List (κ×V)}{k:κ}(e:¬ p.1=k):qg5 (p :: r) k=qg5 r k:=by simp [qg5,List.find?_cons,e]
theorem qg4 (k:κ):∀ kvs:List (κ×V),(kvs.any fun kv=>decide (kv.1=k))=(qg5 kvs k).isSome
 | []=>rfl
 | p :: r=>by
  rw [List.any_cons]
  by_cases e:p.1=k
  ·simp only [q69 e,decide_eq_true e,Bool.true_or,Option.isSome_some]
  ·rw [q70 e,decide_eq_false e,Bool.false_or]; exact qg4 k r
theorem qG8 (k j:κ) (y:V):∀ kvs:List (κ×V),qg5 (kvs.map fun kv=>if kv.1=k then (kv.1,y) else kv) j=(qg5 kvs j).map fun x=>if j=k then y else x
 | []=>rfl
 | p :: r=>by
  have ih:=qG8 k j y r
  rw [List.map_cons]
  by_cases h:p.1=k
  ·rw [if_pos h]
   by_cases e:p.1=j
   ·rw [q69 (p:=(p.1,y)) e,q69 e,Option.map_some,if_pos (e.symm.trans h)]
   ·rw [q70 (p:=(p.1,y)) e,q70 e,ih]
  ·rw [if_neg h]
   by_cases e:p.1=j
   ·rw [q69 (p:=p) e,q69 e,Option.map_some,if_neg (fun z=>h (e.trans z))]
   ·rw [q70 (p:=p) e,q70 e,ih]
theorem qz6 (k j:κ) (y:V):∀ kvs:List (κ×V),qg5 kvs k=none->qg5 (kvs ++ [(k,y)]) j=if j=k then some y else qg5 kvs j
 | [],_=>by
  by_cases e:k=j
  ·rw [if_pos e.symm]; exact q69 (p:=(k,y)) e
  ·rw [if_neg (fun z=>e z.symm)]; exact q70 (p:=(k,y)) e
 | p :: r,hn=>by
  rw [List.cons_append]
  have hk:¬ p.1=k:=fun z=>by rw [q69 z] at hn; cases hn
  rw [q70 hk] at hn
  have ih:=qz6 k j y r hn
  by_cases e:p.1=j
  ·rw [q69 e,q69 e,if_neg (fun z=>hk (e.trans z))]
  ·rw [q70 e,q70 e,ih]
theorem qZ8 (kvs:List (κ×V)) (k j:κ) (y:V):qg5 (qn6 kvs k y) j=if j=k then some y else qg5 kvs j:=by
 unfold qn6
 by_cases a:(kvs.any fun kv=>decide (kv.1=k))=true
 ·rw [if_pos a,qG8]
  rw [qg4] at a
  by_cases e:j=k
  ·obtain ⟨x,hx⟩:=Option.isSome_iff_exists.mp a
   rw [if_pos e,e,hx,Option.map_some,if_pos rfl]
  ·rw [if_neg e]
   cases qg5 kvs j with
   | none=>rfl
   | some x=>rw [Option.map_some,if_neg e]
 ·rw [if_neg a]
  refine qz6 k j y kvs ?_
  rw [qg4] at a
  cases q:qg5 kvs k with
  | none=>rfl
  | some x=>rw [q] at a; exact (a rfl).elim
theorem q87 (kvs:List (κ×V)) (k:κ) (v:V):(qn6 kvs k v).length<=kvs.length + 1:=by
 unfold qn6
 split
 ·rw [List.length_map]; omega
 ·rw [List.length_append,List.length_cons,List.length_nil]; omega
theorem RelO.isSome_eq {o:Option V}{u:Option Value}(r:RelO o u):o.isSome=u.isSome:=by
 cases o with
 | none=>cases u with
  | none=>rfl
  | some _=>exact (show False from r).elim
 | some _=>cases u with
  | none=>exact (show False from r).elim
  | some _=>rfl
theorem RelO.getD {o:Option V}{u:Option Value}{d:V}{d':Value}(r:RelO o u) (rd:RelV d d'):RelV (o.getD d) (u.getD d'):=by
 cases o with
 | none=>cases u with
  | none=>exact rd
  | some _=>exact (show False from r).elim
 | some _=>cases u with
  | none=>exact (show False from r).elim
  | some _=>exact r
theorem KV.val {kvs:List (κ×V)}{vs:List (κ×Value)}(r:KV kvs vs) (k:κ):RelO (qg5 kvs k) (valueAt vs k):=by
 unfold KV at r
 induction r with
 | nil=>exact True.intro
 | @cons p q ps qs h t ih =>
  obtain ⟨h1,h2⟩:=h
  by_cases e:p.1=k
  ·have e':q.1=k:=h1.symm.trans e
   have b:valueAt (q :: qs) k=some q.2:=by simp [valueAt,List.find?_cons,e']
   rw [q69 e,b]; exact h2
  ·have e':¬ q.1=k:=fun z=>e (h1.trans z)
   have b:valueAt (q :: qs) k=valueAt qs k:=by simp [valueAt,List.find?_cons,e']
   rw [q70 e,b]; exact ih
theorem KV.any {kvs:List (κ×V)}{vs:List (κ×Value)}(r:KV kvs vs) (k:κ):(kvs.any fun kv=>decide (kv.1=k))=vs.any fun kv=>decide (kv.1=k):=by
 unfold KV at r
 induction r with
 | nil=>rfl
 | cons h t ih=>rw [List.any_cons,List.any_cons,ih,h.1]
theorem KV.repl {kvs:List (κ×V)}{vs:List (κ×Value)}(r:KV kvs vs) (k:κ) {y:V}{u:Value}(ry:RelV y u) :
  KV (kvs.map fun kv=>if kv.1=k then (kv.1,y) else kv) (vs.map fun kv=>if kv.1=k then (kv.1,u) else kv):=by
 unfold KV at r ⊢
 induction r with
 | nil=>exact .nil
 | @cons p q ps qs h t ih =>
  rw [List.map_cons,List.map_cons]
  refine .cons ?_ ih
  obtain ⟨h1,h2⟩:=h
  by_cases e:p.1=k
  ·rw [if_pos e,if_pos (h1.symm.trans e)]; exact ⟨h1,ry⟩
  ·rw [if_neg e,if_neg (fun z=>e (h1.trans z))]; exact ⟨h1,h2⟩
theorem KV.put {kvs:List (κ×V)}{vs:List (κ×Value)}(r:KV kvs vs) (k:κ) {y:V}{u:Value}(ry:RelV y u):KV (qn6 kvs k y) (stored vs k u):=by
 unfold qn6 stored
 rw [r.any k]
 by_cases e:(vs.any fun kv=>decide (kv.1=k))=true
 ·rw [if_pos e,if_pos e]; exact r.repl k ry
 ·rw [if_neg e,if_neg e]; exact Paired.snoc r ⟨rfl,ry⟩
theorem KV.drop {kvs:List (κ×V)}{vs:List (κ×Value)}(r:KV kvs vs) (k:κ):KV (qF8 kvs k) (without vs k):=by
 unfold KV at r ⊢
 unfold qF8 without
 induction r with
 | nil=>exact .nil
 | @cons p q ps qs h t ih =>
  obtain ⟨h1,h2⟩:=h
  rw [List.filter_cons,List.filter_cons]
  by_cases e:p.1=k
  ·have a:¬ decide (p.1≠k)=true:=by simp [e]
   have b:¬ decide (q.1≠k)=true:=by simp [h1.symm.trans e]
   rw [if_neg a,if_neg b]; exact ih
  ·have e':¬ q.1=k:=fun z=>e (h1.trans z)
   have a:decide (p.1≠k)=true:=by simp [e]
   have b:decide (q.1≠k)=true:=by simp [e']
   rw [if_pos a,if_pos b]; exact .cons ⟨h1,h2⟩ ih
theorem KV.keys {kvs:List (κ×V)}{vs:List (κ×Value)}(r:KV kvs vs):kvs.map (·.1)=vs.map (·.1):=by
 unfold KV at r
 induction r with
 | nil=>rfl
 | cons h t ih=>rw [List.map_cons,List.map_cons,ih,h.1]
theorem KV.length {kvs:List (κ×V)}{vs:List (κ×Value)}(r:KV kvs vs):kvs.length=vs.length:=Paired.length r
theorem z68 (kvs:List (κ×V)) (k:κ):(qF8 kvs k).length<=kvs.length:=List.length_filter_le _ _
end
theorem qF6 {P:Program}{w:World}{k:Key}{u:Value}(r:RelV (kV k) u):(q45 P w).is k u=true:=by
 cases k with
 | inl i=>obtain ⟨t,e⟩:=(show ∃ t,u=Value.int i t from r); subst e; exact qF2 P w i t
 | inr x=>obtain ⟨t,e⟩:=(show ∃ t,u=Value.str x t from r); subst e; exact qF1 P w x t
theorem qC0 {P:Program}{w:World}:∀{ks:List Key}{us:List Value},Vals (ks.map kV) us->ItemsAre (q45 P w) ks us
 | [],_,r=>by rw [List.map_nil] at r; cases r; exact .nil
 | k :: ks,_,r=>by
  rw [List.map_cons] at r
  cases r with
  | cons h t=>exact .cons (qF6 h) (qC0 t)
abbrev KT (H:Hp):List (List Key×V)->List (List Key×Addr×Value)->Prop:=Paired fun p q=>p.1=q.1/\H q.2.1=some (.tup (p.1.map kV))/\RelV p.2 q.2.2
theorem KT.val {H:Hp}{kvs:List (List Key×V)}{xs:List (List Key×Addr×Value)}(r:KT H kvs xs) (k:List Key):RelO (qg5 kvs k) ((atKey xs k).map (·.2)):=by
 induction r with
 | nil=>exact True.intro
 | @cons p q ps qs h t ih =>
  obtain ⟨h1,_,h2⟩:=h
  by_cases e:p.1=k
  ·have e':q.1=k:=h1.symm.trans e
   have b:atKey (q :: qs) k=some q.2:=by simp [atKey,List.find?_cons,e']
   rw [q69 e,b]; exact h2
  ·have e':¬ q.1=k:=fun z=>e (h1.trans z)
   have b:atKey (q :: qs) k=atKey qs k:=by simp [atKey,List.find?_cons,e']
   rw [q70 e,b]; exact ih
theorem KT.repl {H:Hp}{kvs:List (List Key×V)}{xs:List (List Key×Addr×Value)}(r:KT H kvs xs) (k:List Key) {y:V}{u:Value}(ry:RelV y u) :
  KT H (kvs.map fun kv=>if kv.1=k then (kv.1,y) else kv) (xs.map (putAt k u)):=by
 induction r with
 | nil=>exact .nil
 | @cons p q ps qs h t ih =>
  rw [List.map_cons,List.map_cons]
  refine .cons ?_ ih
  obtain ⟨h1,h2,h3⟩:=h
  unfold putAt
  by_cases e:p.1=k
  ·rw [if_pos e,if_pos (h1.symm.trans e)]; exact ⟨h1,h2,ry⟩
  ·rw [if_neg e,if_neg (fun z=>e (h1.trans z))]; exact ⟨h1,h2,h3⟩
theorem KT.put {H:Hp}{kvs:List (List Key×V)}{xs:List (List Key×Addr×Value)}(r:KT H kvs xs) (k:List Key) {b:Addr}{y:V}{u:Value}(hb:H b=some (.tup (k.map kV))) (ry:RelV y u) :
  KT H (qn6 kvs k y) (storedH xs k b u):=by
 have e:(kvs.any fun kv=>decide (kv.1=k))=(atKey xs k).isSome:=by
  rw [qg4,(r.val k).isSome_eq,Option.isSome_map]
 unfold qn6 storedH
 rw [e]
 by_cases q:(atKey xs k).isSome=true
 ·rw [if_pos q,if_pos q]; exact r.repl k ry
 ·rw [if_neg q,if_neg q]; exact Paired.snoc r ⟨rfl,hb,ry⟩
theorem KT.keeps {H H':Hp}{kvs:List (List Key×V)}{xs:List (List Key×Addr×Value)}(r:KT H kvs xs) (ht:∀ b ys,H b=some (.tup ys)->H' b=some (.tup ys)):KT H' kvs xs :=
 Paired.mapP r fun _ _ z=>⟨z.1,ht _ _ z.2.1,z.2.2⟩
section
variable {P:Program}{w:World}{H:Hp}{h:Heap}{a:Addr}
theorem rd_of {u:HO}(ok:HOk P w H h) (e:Rd H a u):ObjOk P w H h a u:=e.ok ok
theorem qN0 {kvs:List (Key×V)}(ok:HOk P w H h) (e:Rd H a (.dK kvs)):kvs.length<=sizeLine/\(a == sysModules)=false/\∃ vs,KV kvs vs/\h.DictOf (q45 P w) a vs :=
 show ObjOk P w H h a (.dK kvs) from rd_of ok e
theorem z70 {kvs:List (Key×V)}(ok:HOk P w H h) (e:H a=some (.dK kvs)):kvs.length<=sizeLine/\(a == sysModules)=false/\∃ vs,KV kvs vs/\h.DictOf (q45 P w) a vs:=qN0 ok (.inl e)
theorem qB9 {ks:List Key}(ok:HOk P w H h) (e:H a=some (.tup (ks.map kV))):(tupleKind (q45 P w)).is h ks a:=by
 obtain ⟨_,its,r,o,h1,h2,n,h3⟩:=(show ObjOk P w H h a (.tup (ks.map kV)) from ok a _ e)
 exact ⟨o,its.toArray,n,h1,h2,h3,by simpa using qC0 r⟩
theorem qM9 {kvs:List (List Key×V)}(ok:HOk P w H h) (e:Rd H a (.dT kvs)):kvs.length<=sizeLine/\(a == sysModules)=false /\
  ∃ xs,KT H kvs xs/\h.DictOfH (tupleKind (q45 P w)) a xs:=by
 obtain ⟨z,y,xs,r,o,es,ep,h1,h2,h3,h4,h5⟩:=(show ObjOk P w H h a (.dT kvs) from rd_of ok e)
 refine ⟨z,y,xs,r,o,es,ep,h1,h2,h3,h4,fun x hx=>?_,h5⟩
 have all:∀{l:List (List Key×V)} {m:List (List Key×Addr×Value)},KT H l m->∀ x∈m,(tupleKind (q45 P w)).is h x.1 x.2.1:=by
  intro l m q
  induction q with
  | nil=>intro x hx; exact nomatch hx
  | @cons p q ps qs hq t ih =>
   intro x hx
   rcases List.mem_cons.mp hx with e | hx
   ·subst e
    exact qB9 ok (by rw [<- hq.1]; exact hq.2.1)
   ·exact ih x hx
 exact all r x hx
theorem dt_of {kvs:List (List Key×V)}(ok:HOk P w H h) (e:H a=some (.dT kvs)):kvs.length<=sizeLine/\(a == sysModules)=false /\
  ∃ xs,KT H kvs xs/\h.DictOfH (tupleKind (q45 P w)) a xs:=qM9 ok (.inl e)
end
def DGet (H:Hp) (a:Addr) (y:V) (r:Option V):Prop :=
 (∃ kvs k,Rd H a (.dK kvs)/\y=kV k/\r=qg5 kvs k)∨∃ kvs k b,Rd H a (.dT kvs)/\y=.ref b/\H b=some (.tup (k.map kV))/\r=qg5 kvs k
def DPut (H:Hp) (a:Addr) (y v:V) (H':Hp):Prop :=
 (∃ kvs k,H a=some (.dK kvs)/\y=kV k/\kvs.length < sizeLine/\H'=upd H a (.dK (qn6 kvs k v))) ∨
 ∃ kvs k b,H a=some (.dT kvs)/\y=.ref b/\H b=some (.tup (k.map kV))/\kvs.length < sizeLine/\H'=upd H a (.dT (qn6 kvs k v))
theorem DGet.k {H:Hp}{a:Addr}{kvs:List (Key×V)}{k:Key}(e:H a=some (.dK kvs)):DGet H a (kV k) (qg5 kvs k):=.inl ⟨kvs,k,.inl e,rfl,rfl⟩
theorem DGet.t {H:Hp}{a b:Addr}{kvs:List (List Key×V)}{k:List Key}(e:H a=some (.dT kvs)) (eb:H b=some (.tup (k.map kV))):DGet H a (.ref b) (qg5 kvs k):=.inr ⟨kvs,k,b,.inl e,rfl,eb,rfl⟩
theorem DPut.k {H:Hp}{a:Addr}{kvs:List (Key×V)}{k:Key}{v:V}(e:H a=some (.dK kvs)) (hl:kvs.length < sizeLine):DPut H a (kV k) v (upd H a (.dK (qn6 kvs k v))):=.inl ⟨kvs,k,e,rfl,hl,rfl⟩
theorem DPut.t {H:Hp}{a b:Addr}{kvs:List (List Key×V)}{k:List Key}{v:V}(e:H a=some (.dT kvs)) (eb:H b=some (.tup (k.map kV))) (hl:kvs.length < sizeLine) :
  DPut H a (.ref b) v (upd H a (.dT (qn6 kvs k v))):=.inr ⟨kvs,k,b,e,rfl,eb,hl,rfl⟩
section
variable {X:Cx}{pins:List (Addr×Obj)}{σ:St}{H:Hp}{s:Shared}{a:Addr}{y v:V}{u r:Value}{o:Option V}{A:Around}{E:Value->Shared->Prop}
theorem Inv.big (I:Inv X pins σ H s):sysModules < s.heap.objs.size:=by
 have h:mainGlobals < s.heap.objs.size:=(I.mod.glob.keeps I.bk).lt
 exact Nat.lt_trans (by decide) h
theorem qC6 {Q:Value->Shared->Prop}(hu:A.units + 1 < cLine) (I:Inv X pins σ H s) (g:DGet H a y (some v)) (ry:RelV y u) (h:∀ w' s',Inv X pins σ H s'->RelV v w'->Q w' s') :
  wpAny (model X.prog X.w) A (getItem (.ref a) u) Q E s:=by
 rcases g with ⟨kvs,k,e,ey,l⟩ | ⟨kvs,k,b,e,ey,eb,l⟩
 ·subst ey
  obtain ⟨z,hd,vs,rel,dd⟩:=qN0 I.hok e
  obtain ⟨w',hw,rw'⟩:=RelO.some_of (v:=v) (o:=valueAt vs k) (by rw [l]; exact rel.val k)
  exact wpAny_getItem_of (qF6 ry) dd.mapOf hw (h w' _ (I.tok _) rw')
 ·subst ey
  cases (show u=Value.ref b from ry)
  obtain ⟨z,hd,xs,rel,dd⟩:=qM9 I.hok e
  obtain ⟨w',hw,rw'⟩:=RelO.some_of (v:=v) (o:=(atKey xs k).map (·.2)) (by rw [l]; exact rel.val k)
  obtain ⟨p,hp,hp2⟩:=Option.map_eq_some_iff.mp hw
  refine wpAny_getItem_heap (tupleKind_room_in1 hu) (qB9 I.hok eb) dd hp ?_
  rw [hp2]
  exact h w' _ (I.tok _) rw'
theorem d_notIn {Q:Value->Shared->Prop}(hu:A.units + 1 < cLine) (I:Inv X pins σ H s) (g:DGet H a y o) (ry:RelV y u) (h:∀ s',Inv X pins σ H s'->Q (.bool (!o.isSome)) s') :
  wpAny (model X.prog X.w) A (compareOp .NotIn u (.ref a)) Q E s:=by
 rcases g with ⟨kvs,k,e,ey,l⟩ | ⟨kvs,k,b,e,ey,eb,l⟩
 ·subst ey
  obtain ⟨z,hd,vs,rel,dd⟩:=qN0 I.hok e
  refine wpAny_notIn_of (qF6 ry) hd dd.mapOf ?_
  rw [<- (rel.val k).isSome_eq,<- l]
  exact h _ (I.tok _)
 ·subst ey
  cases (show u=Value.ref b from ry)
  obtain ⟨z,hd,xs,rel,dd⟩:=qM9 I.hok e
  refine wpAny_notIn_heap (tupleKind_room_in1 hu) (qB9 I.hok eb) hd dd ?_
  have q:=(rel.val k).isSome_eq
  rw [Option.isSome_map] at q
  rw [<- q,<- l]
  exact h _ (I.tok _)
theorem qy7 {h':Heap}{t':Nat}{ob:HO}(I:Inv X pins σ H s) (mu:Mut (H a)) (hs:Heap.SameBut a s.heap h') (he:∃ q,h'.get? a=some q) (new:ObjOk X.prog X.w (upd H a ob) h' a ob) :
  Inv X pins σ (upd H a ob) { s with heap:=h',toks:=t' } :=
 I.write (x:=a) (e:=a) mu (.inl rfl) (fun b q hb z=>(hs.2 b hb).trans z) he new
theorem qK2 {P:Program}{w:World}{H':Hp}{h':Heap}{kvs:List (Key×V)}{vs:List (Key×Value)}(z:kvs.length<=sizeLine) (hd:(a == sysModules)=false) (rel:KV kvs vs) (dd:h'.DictOf (q45 P w) a vs) :
  ObjOk P w H' h' a (.dK kvs):=⟨z,hd,vs,rel,dd⟩
theorem qC5 {H':Hp}{Q:Unit->Shared->Prop}(hu:A.units + 1 < cLine) (I:Inv X pins σ H s) (g:DPut H a y v H') (ry:RelV y u) (rv:RelV v r) (h:∀ s',Inv X pins σ H' s'->Q () s') :
  wpAny (model X.prog X.w) A (setItem (.ref a) u r) Q E s:=by
 rcases g with ⟨kvs,k,e,ey,l,eH⟩ | ⟨kvs,k,b,e,ey,eb,l,eH⟩
 ·subst ey eH
  obtain ⟨z,hd,vs,rel,dd⟩:=z70 I.hok e
  have hz:vs.length<=sizeLine:=by rw [<- rel.length]; exact z
  have hl:(qn6 kvs k v).length<=sizeLine:=by have:=q87 kvs k v; omega
  refine wpAny_setItem_pairs (hsz:=hz) (qF6 ry) dd fun h' dd' hs=>h _ ?_
  have he:∃ q,h'.get? a=some q:=let ⟨q,_,_,hq,_⟩:=dd'; ⟨q,hq⟩
  exact qy7 I (by rw [e]; exact True.intro) hs he (qK2 hl hd (rel.put k rv) dd')
 ·subst ey eH
  cases (show u=Value.ref b from ry)
  obtain ⟨z,hd,xs,rel,dd⟩:=dt_of I.hok e
  have hz:xs.length<=sizeLine:=by rw [<- Paired.length rel]; exact z
  have hl:(qn6 kvs k v).length<=sizeLine:=by have:=q87 kvs k v; omega
  refine wpAny_setItem_heap (hsz:=hz) (tupleKind_room_in1 hu) (qB9 I.hok eb) dd fun h' dd' hs=>h _ ?_
  obtain ⟨q,es,ep,hq,h2,h3,h4,_,h5⟩:=dd'
  refine qy7 I (by rw [e]; exact True.intro) hs ⟨q,hq⟩ ⟨hl,hd,_,(rel.put k eb rv).keeps fun c ys ec=>?_,q,es,ep,hq,h2,h3,h4,h5⟩
  rw [q08 (qB5 ec e (fun z=>nomatch z))]
  exact ec
end
section
variable {X:Cx}{pins:List (Addr×Obj)}{σ:St}{H:Hp}{s:Shared}{a:Addr}{kvs:List (Key×V)}{k:Key}{u:Value}{A:Around}{E:Value->Shared->Prop}
theorem qX6 {Q:Unit->Shared->Prop}(I:Inv X pins σ H s) (e:H a=some (.dK kvs)) (ry:RelV (kV k) u) (l:(qg5 kvs k).isSome=true) (h:∀ s',Inv X pins σ (upd H a (.dK (qF8 kvs k))) s'->Q () s') :
  wpAny (model X.prog X.w) A (delItem (.ref a) u) Q E s:=by
 obtain ⟨z,hd,vs,rel,dd⟩:=z70 I.hok e
 refine wpAny_delItem_slot dd.typeIs (by decide) PySem.F.slot_dict_delitem
  (call_meetsIn PySem.F.slot_dict_delitem dd.typeIs PySem.F.entry_dict_delitem (PySem.F.args_dict_delitem_2 _ _) (meets_dict_delitem_pairs (q45 X.prog X.w) a (qF6 ry)) ⟨vs,dd,by rw [<- rel.length]; exact z,by rw [<- (rel.val k).isSome_eq]; exact l,fun h' dd' hs=>h _ ?_⟩)
 have he:∃ q,h'.get? a=some q:=let ⟨q,_,_,hq,_⟩:=dd'; ⟨q,hq⟩
 exact qy7 I (by rw [e]; exact True.intro) hs he (qK2 (Nat.le_trans (z68 kvs k) z) hd (rel.drop k) dd')
end
def NoSl (i:Expr):Prop:=∀ ov iv,subscripted i false ov iv=operate [ov,iv] (getItem ov iv)
theorem subD_of {prog:Program}{w:World}{A:Around}{E:Value->Shared->Prop}{s:Shared}{env:Env}{value slice:Expr}{pos:Pos}{T id:String}{Q:Value->Shared->Prop}
  (hl:typeLookup (.type T) "__getitem__" = pure (some (.builtin id))) (hs:NoSl slice)
  (h:wpAny (model prog w) A (eval value env) (fun o s₁=>wpAny (model prog w) A (eval slice env) (fun i s₂=>s₂.TypeIs o T/\wpAny (model prog w) A (getItem o i) Q E s₂) E s₁) E s) :
  wpAny (model prog w) A (eval (.Subscript value slice pos) env) Q E s:=by
 refine Subscript_ (wpAny_mono h (fun o s₁ h₁=>wpAny_mono h₁ (fun i s₂ h₂=>?_) fun _ _ x=>x) fun _ _ x=>x)
 obtain ⟨hT,h₂⟩:=h₂
 unfold subscriptTail
 refine wpAny_bind ?_
 rw [getitemInPython_of_ne hT.not_modules]
 refine wpAny_bind (wpAny_specialOf hT hl ?_)
 have fin:wpAny (model prog w) A (subscripted slice false o i) (fun r s₃=>wpAny (model prog w) A (letTemporaryGo value o r >>= fun _=>pure r) Q E s₃) E s₂:=by
  rw [hs o i]
  exact wpAny_operating (wpAny_mono h₂ (fun r s₃ h₃=>wpAny_bind (wpAny_letTemporaryGo (wpAny_pure h₃))) fun _ _ x=>x)
 first
  | exact wpAny_pure (wpAny_bind fin)
  | exact wpAny_bind (wpAny_pure (wpAny_bind fin))
  | exact wpAny_bind fin
theorem qF9 {X:Cx}{pins:List (Addr×Obj)}{σ:St}{H:Hp}{s:Shared}{a:Addr}{y:V}{o:Option V}(I:Inv X pins σ H s) (g:DGet H a y o):s.TypeIs (.ref a) "dict" := by
 rcases g with ⟨kvs,k,e,_,_⟩ | ⟨kvs,k,b,e,_,_,_⟩
 ·obtain ⟨_,_,vs,_,dd⟩:=qN0 I.hok e
  exact dd.typeIs
 ·obtain ⟨_,_,xs,_,dd⟩:=qM9 I.hok e
  exact dd.typeIs
def tDGet (td ty:TE):TE:=fun σ H Q=>td σ H fun x H1=>ty σ H1 fun y H2=>∃ a v,x=.ref a/\DGet H2 a y (some v)/\Q v H2
def tDNotIn (ty td:TE):TE:=fun σ H Q=>ty σ H fun y H1=>td σ H1 fun x H2=>∃ a o,x=.ref a/\DGet H2 a y o/\Q (.bl (!o.isSome)) H2
def sDPut (td ty tv:TE):TS:=fun D σ H=>tv σ H fun v H1=>td σ H1 fun x H2=>ty σ H2 fun y H3=>∃ a H4,x=.ref a/\DPut H3 a y v H4/\D.nx σ H4
def sDAug (td ty tv:TE) (rd:V->V->Hp->VK->Prop):TS:=fun D σ H=>td σ H fun x H1=>ty σ H1 fun y H2=>∃ a v,x=.ref a/\DGet H2 a y (some v) /\
 tv σ H2 fun y2 H3=>rd v y2 H3 fun z H4=>∃ H5,DPut H4 a y z H5/\D.nx σ H5
def sDDel (td ty:TE):TS:=fun D σ H=>td σ H fun x H1=>ty σ H1 fun y H2=>∃ a kvs k,x=.ref a/\H2 a=some (.dK kvs)/\y=kV k/\(qg5 kvs k).isSome=true/\D.nx σ (upd H2 a (.dK (qF8 kvs k)))
section
variable {X:Cx}{o i e value:Expr}{pos pos' tpos:Pos}{td ty tv:TE}
theorem pe_dget (hu:X.A.units + 1 < cLine) (ho:PE X o td) (hi:PE X i ty) (hs:NoSl i):PE X (.Subscript o i pos) (tDGet td ty):=by
 intro pins s σ H Q I h
 refine subD_of PySem.F.slot_dict_getitem.lookup hs (thn (ho pins s σ H _ I h) fun u s1 ⟨x,H1,I1,rx,q1⟩=>thn (hi pins s1 σ H1 _ I1 q1) fun iv s2 ⟨y,H2,I2,ry,a,v,ex,g,q2⟩=>?_)
 subst ex
 obtain rfl:u=Value.ref a:=rx
 exact ⟨qF9 I2 g,qC6 hu I2 g ry fun w' s3 I3 rw'=>⟨v,H2,I3,rw',q2⟩⟩
theorem qB0 (hu:X.A.units + 1 < cLine) (hi:PE X i ty) (ho:PE X o td):PC X .NotIn i o (tDNotIn ty td):=by
 intro pins s σ H Q I h
 refine thn (hi pins s σ H _ I h) fun iv s1 ⟨y,H1,I1,ry,q1⟩=>thn (ho pins s1 σ H1 _ I1 q1) fun u s2 ⟨x,H2,I2,rx,a,ov,ex,g,q2⟩=>?_
 subst ex
 obtain rfl:u=Value.ref a:=rx
 exact d_notIn hu I2 g ry fun s3 I3=>⟨.bl (!ov.isSome),H2,I3,rfl,q2⟩
theorem qS4 (hu:X.A.units + 1 < cLine) (ho:PE X o td) (hi:PE X i ty) (hv:PE X value tv) (hs:swapsWith value (some (.Subscript o i pos')) pos.line X.env=pure false) :
  PS X (.Assign [.Subscript o i pos'] value pos) (sDPut td ty tv):=by
 intro pins s σ H D I h
 refine wpAny_Assign_Subscript (thn (hv pins s σ H _ I h) fun r s1 ⟨v,H1,I1,rv,q1⟩=>thn (ho pins s1 σ H1 _ I1 q1) fun u s2 ⟨x,H2,I2,rx,q2⟩=>thn (hi pins s2 σ H2 _ I2 q2) fun iv s3 ⟨y,H3,I3,ry,a,H4,ex,g,q3⟩=>?_) hs
 subst ex
 obtain rfl:u=Value.ref a:=rx
 exact qC5 hu I3 g ry rv fun s4 I4=>⟨σ,H4,I4,q3⟩
theorem ps_daug {op:Operator}{rd:V->V->Hp->VK->Prop}(hu:X.A.units + 1 < cLine) (ho:PE X o td) (hi:PE X i ty) (hv:PE X value tv) (hop:InOp X op rd)
  (ha:∀ ov iv new,augStore i ov iv new=(do holding [new,ov,iv] (setItem ov iv new); release [new,ov,iv] []; pure .next)):PS X (.AugAssign (.Subscript o i tpos) op value pos) (sDAug td ty tv rd):=by
 intro pins s σ H D I h
 refine wpAny_AugAssign_SubscriptAny (thn (ho pins s σ H _ I h) fun u s1 ⟨x,H1,I1,rx,q1⟩=>thn (hi pins s1 σ H1 _ I1 q1) fun iv s2 ⟨y,H2,I2,ry,a,v,ex,g,q2⟩=>?_) ha
 subst ex
 obtain rfl:u=Value.ref a:=rx
 refine qC6 hu I2 g ry fun w' s3 I3 rw'=>thn (hv pins s3 σ H2 _ I3 q2) fun w2 s4 ⟨y2,H3,I4,ry2,q3⟩=>thn (hop pins s4 σ H3 v y2 w' w2 _ I4 rw' ry2 q3) fun w3 s5 ⟨z,H4,I5,rz,H5,g5,q4⟩=>?_
 exact qC5 hu I5 g5 ry rz fun s6 I6=>⟨σ,H5,I6,q4⟩
theorem ps_ddel (ho:PE X o td) (hi:PE X i ty):PS X (.Delete [.Subscript o i tpos] pos) (sDDel td ty):=by
 intro pins s σ H D I h
 refine wpAny_Delete (wpAny_deleteEach_cons (wpAny_delete_Subscript (thn (ho pins s σ H _ I h) fun u s1 ⟨x,H1,I1,rx,q1⟩=>thn (hi pins s1 σ H1 _ I1 q1) fun iv s2 ⟨y,H2,I2,ry,a,kvs,k,ex,e,ey,l,q2⟩=>?_)))
 subst ex ey
 obtain rfl:u=Value.ref a:=rx
 exact qX6 I2 e ry l fun s3 I3=>wpAny_deleteEach_nil ⟨σ,_,I3,q2⟩
end
theorem z71 {P:Program}{w:World}{H:Hp}(h:Heap) (hb:sysModules < h.objs.size):ObjOk P w H (h.push { cls:=.type "dict",data:=.dict #[] }) h.objs.size (.dK []) :=
 ⟨Nat.zero_le _,beq_eq_false_iff_ne.mpr (Ne.symm (Nat.ne_of_lt hb)),[],.nil,Heap.DictOf.new h⟩
theorem z67 {P:Program}{w:World}{H:Hp}(h:Heap) (hb:sysModules < h.objs.size):ObjOk P w H (h.push { cls:=.type "dict",data:=.dict #[] }) h.objs.size (.dT []) :=
 ⟨Nat.zero_le _,beq_eq_false_iff_ne.mpr (Ne.symm (Nat.ne_of_lt hb)),[],.nil,_,#[],0,Heap.get?_push_size _ rfl,⟨rfl,rfl,rfl⟩,rfl,rfl,List.nodup_nil⟩
def tDNewK:TE:=fun _ H Q=>∀ p,H p=none->Q (.ref p) (upd H p (.dK []))
def tDNewT:TE:=fun _ H Q=>∀ p,H p=none->Q (.ref p) (upd H p (.dT []))
section
variable {X:Cx}{pos:Pos}
theorem qI1:PE X (.Dict [] [] pos) tDNewK:=fun pins s σ H Q I h =>
 wpAny_Dict_empty ⟨.ref s.heap.objs.size,_,I.laid (a:=s.heap.objs.size) (o:=.dK []) (t':=s.toks) (fun _ _ q=>Heap.get?_push_of_some _ q) (Nat.le_refl _) (z71 s.heap I.big),rfl,h _ (I.hok.fresh (Nat.le_refl _))⟩
theorem z33:PE X (.Dict [] [] pos) tDNewT:=fun pins s σ H Q I h =>
 wpAny_Dict_empty ⟨.ref s.heap.objs.size,_,I.laid (a:=s.heap.objs.size) (o:=.dT []) (t':=s.toks) (fun _ _ q=>Heap.get?_push_of_some _ q) (Nat.le_refl _) (z67 s.heap I.big),rfl,h _ (I.hok.fresh (Nat.le_refl _))⟩
end
def qe1 (kvs more:List (Key×V)):List (Key×V):=more.foldl (fun acc kv=>qn6 acc kv.1 kv.2) kvs
theorem KV.merge:∀{more:List (Key×V)}{rs:List (Key×Value)}{kvs:List (Key×V)}{vs:List (Key×Value)},KV more rs->KV kvs vs->KV (qe1 kvs more) (merged vs rs):=by
 intro more rs kvs vs r
 unfold KV at r
 induction r generalizing kvs vs with
 | nil=>intro q; exact q
 | @cons p q ps qs h t ih =>
  intro r0
  have e:KV (qn6 kvs p.1 p.2) (stored vs q.1 q.2):=by
   have:=r0.put p.1 h.2
   rw [<- h.1]; exact this
  exact ih e
structure M1 (X:Cx) (o:Expr) (m:Str) (apos:Pos) (e:Expr) (cpos:Pos):Prop where
 base:attributeBase o m X.env (eval o X.env)=eval o X.env
 few:((backTo cpos (starEach [e] X.env)).all (fun x=>!x.1) && (backToKw cpos (keywordEach [] X.env)).all (fun x=>x.1.isSome)
  && decide (([e]:List Expr).length + ([]:List Keyword).length + (if ([]:List Keyword).isEmpty then 0 else 1) < 30))=true
 line:(apos.endLine == cpos.line)=true
 trees:backTo cpos (starEach [e] X.env)=[(false,eval e X.env)]
structure M2 (X:Cx) (o:Expr) (m:Str) (apos:Pos) (e f:Expr) (cpos:Pos):Prop where
 base:attributeBase o m X.env (eval o X.env)=eval o X.env
 few:((backTo cpos (starEach [e,f] X.env)).all (fun x=>!x.1) && (backToKw cpos (keywordEach [] X.env)).all (fun x=>x.1.isSome)
  && decide (([e,f]:List Expr).length + ([]:List Keyword).length + (if ([]:List Keyword).isEmpty then 0 else 1) < 30))=true
 line:(apos.endLine == cpos.line)=true
 trees:backTo cpos (starEach [e,f] X.env)=[(false,eval e X.env),(false,eval f X.env)]
def IsD (H:Hp) (a:Addr):Prop:=(∃ kvs,Rd H a (.dK kvs))∨∃ kvs,Rd H a (.dT kvs)
theorem isD_at {X:Cx}{pins:List (Addr×Obj)}{σ:St}{H:Hp}{s:Shared}{a:Addr}(I:Inv X pins σ H s) (d:IsD H a) :
  s.TypeIs (.ref a) "dict" /\ (∀ b,Value.ref a=.ref b->∃ ob,s.heap.get? b=some ob/\ob.dict=none)/\(a == sysModules)=false:=by
 rcases d with ⟨kvs,e⟩ | ⟨kvs,e⟩
 ·obtain ⟨_,hd,vs,_,dd⟩:=qN0 I.hok e
  refine ⟨dd.typeIs,fun b q=>?_,hd⟩
  cases q
  obtain ⟨ob,_,_,h1,h2,_⟩:=dd
  exact ⟨ob,h1,h2.2.1⟩
 ·obtain ⟨_,hd,xs,_,dd⟩:=qM9 I.hok e
  refine ⟨dd.typeIs,fun b q=>?_,hd⟩
  cases q
  obtain ⟨ob,_,_,h1,h2,_⟩:=dd
  exact ⟨ob,h1,h2.2.1⟩
section
variable {X:Cx}{pins:List (Addr×Obj)}{σ:St}{H:Hp}{s:Shared}{a:Addr}{y d:V}{u r:Value}{o:Option V}{A:Around}{E:Value->Shared->Prop}
theorem d_get2 {Q:Value->Shared->Prop}(hu:A.units + 1 < cLine) (I:Inv X pins σ H s) (g:DGet H a y o) (ry:RelV y u) (rd:RelV d r) (h:∀ w' s',Inv X pins σ H s'->RelV (o.getD d) w'->Q w' s') :
  wpAny (model X.prog X.w) A (call (.builtin "dict.get") [.ref a,u,r]) Q E s:=by
 rcases g with ⟨kvs,k,e,ey,l⟩ | ⟨kvs,k,b,e,ey,eb,l⟩
 ·subst ey
  obtain ⟨z,hd,vs,rel,dd⟩:=qN0 I.hok e
  refine call_meetsIn PySem.F.slot_dict_get dd.typeIs PySem.F.entry_dict_get (PySem.F.args_dict_get_3 _ _ _) (meets_dict_get_default (q45 X.prog X.w) a (qF6 ry) hd r) ⟨_,dd.mapOf,h _ _ (I.tok _) ?_⟩
  rw [l]
  exact (rel.val k).getD rd
 ·subst ey
  cases (show u=Value.ref b from ry)
  obtain ⟨z,hd,xs,rel,dd⟩:=qM9 I.hok e
  refine call_meetsIn PySem.F.slot_dict_get dd.typeIs PySem.F.entry_dict_get (PySem.F.args_dict_get_3 _ _ _) (meetsH_dict_get_default (tupleKind (q45 X.prog X.w)) a b hd r) ⟨tupleKind_room_in1 hu,k,xs,qB9 I.hok eb,dd,h _ _ (I.tok _) ?_⟩
  rw [l]
  exact (rel.val k).getD rd
end
def tDGet2 (td ty tx:TE):TE:=fun σ H Q=>td σ H fun x H1=>∃ a,x=.ref a/\IsD H1 a/\ty σ H1 fun y H2=>tx σ H2 fun z H3=>∃ o,DGet H3 a y o/\Q (o.getD z) H3
section
variable {X:Cx}{o e f:Expr}{apos cpos:Pos}{td ty tx:TE}
theorem qw6 (hu:X.A.units + 1 < cLine) (ho:PE X o td) (he:PE X e ty) (hf:PE X f tx) (m:M2 X o "get" apos e f cpos):PE X (.Call (.Attribute o "get" apos) [e,f] [] cpos) (tDGet2 td ty tx):=by
 intro pins s σ H Q I h
 refine wpAny_Call_method m.base m.few m.line PySem.F.plainAttrs_dict PySem.F.slot_dict_get PySem.F.type_dict_get (thn (ho pins s σ H _ I h) fun u s1 ⟨x,H1,I1,rx,a,ex,d,q1⟩=>?_)
 subst ex
 obtain rfl:u=Value.ref a:=rx
 obtain ⟨t1,t2,_⟩:=isD_at I1 d
 refine ⟨t1,t2,?_⟩
 rw [m.trees]
 refine Calls.callWith_builtin rfl (Calls.evalArgs_plain (Calls.spliced_cons (thn (he pins s1 σ H1 _ I1 q1) fun iv s2 ⟨y,H2,I2,ry,q2⟩ =>
  Calls.spliced_cons (thn (hf pins s2 σ H2 _ I2 q2) fun fv s3 ⟨z,H3,I3,rz,ov,g,q3⟩=>Calls.spliced_nil ?_))))
 exact d_get2 hu I3 g ry rz fun w' s4 I4 rw'=>⟨_,H3,I4,rw',q3⟩
end
section
variable {X:Cx}{pins:List (Addr×Obj)}{σ:St}{H:Hp}{s:Shared}{a:Addr}{kvs:List (Key×V)}{A:Around}{E:Value->Shared->Prop}
end
section
variable {X:Cx}{pins:List (Addr×Obj)}{σ:St}{H:Hp}{s:Shared}{a:Addr}{y:V}{u:Value}{A:Around}{E:Value->Shared->Prop}
end
end L2
namespace Att
open PySem PySem.W PySem.Calls PyProof.Rows
theorem qs0 {P:Params}{h:Heap}:∀(ns:List Int) (vs:List Value),WellAll P h vs (ns.map WData.int)->IntsAre vs ns:=by
 intro ns
 induction ns with
 | nil =>
  intro vs w
  rw [List.map_nil] at w
  cases w
  exact .nil
 | cons n ns ih =>
  intro vs w
  rw [List.map_cons] at w
  cases w with
  | cons a b =>
   cases a
   exact .cons _ _ (ih _ b)
theorem qR1 {l:OpenLaw}{n:Nat}(hn:l.most=some n) {P:Params}{h:Heap}{args:List WData}{vals:List Value}
  (hpre:l.row.toRowW.claim.pre args=true) (hwl:WellAll P h vals args) :
  ∃ a vs ns,vals=[Value.ref a]/\args=[WData.list (ns.map WData.int)]/\h.get? a=some { cls:=.type "list",data:=.seq vs.toArray }/\IntsAre vs ns/\ns.length<=n:=by
 have hsh:WShape.hasAll [] args [.list .int]=true:=(pre_splitW hpre).1
 have hc:l.pre.holds [] { args:=args }=true:=(pre_splitW hpre).2
 obtain ⟨d,r,rfl,h1,h2⟩:=hasAllW_cons hsh
 obtain rfl:=hasAllW_nil h2
 obtain ⟨xs,rfl,h3⟩:=hasW_list h1
 obtain ⟨ns,rfl⟩:=items_int h3
 have hlen:ns.length<=n:=by
  unfold OpenLaw.pre at hc
  have h4:(WTm.not (.lt (.lit (.int (n:Int))) (.len (.arg 0)))).holds [] { args:=[.list (ns.map .int)] }=true:=by
   have h4:=(holds_andW hc).1
   rw [hn] at h4
   exact h4
  have h5:=condW_of h4 (w_not (w_lt w_lit (w_len_list (w_arg rfl))))
  rw [List.length_map] at h5
  refine Nat.le_of_not_lt fun q=>?_
  have q':(n:Int) < ((ns.length:Nat):Int):=by omega
  first
   | (rw [decide_eq_true q'] at h5; exact absurd h5 (by decide))
   | (simp at h5; omega)
 cases hwl with
 | cons w1 w2 =>
  cases w2
  cases w1 with
  | list ho hall=>exact ⟨_,_,ns,rfl,rfl,ho,qs0 ns _ hall,hlen⟩
theorem qS6 (l:OpenLaw) (args:List WData):l.row.toRowW.claim.post args (.bool true) args=true :=
 postW_of (r:=l.row.toRowW) (X:=(true == true))
  (show WShape.has [] (.bool true) .bool=true by first | rfl | decide | simp [WShape.has,WShape.arms,WShape.armsAll])
  (show (WTm.eq .res (.lit (.bool true))).value [] { args:=args,res:=some (.bool true),after:=args }=some (.bool (true == true)) from w_eq_bool (w_res rfl) w_lit) rfl
theorem attach_call {l:OpenLaw}{n:Nat}{q:Program}{loose:List Str}{XP:(Str->Option Value)->Heap->Prop}{YP:World->Heap->Prop}{d:DefRec}
  (hn:l.most=some n) (hdf:d.params.defaults=[])
  (call:∀(w:World) (s₀ s₁:Shared) (mg mb:Str->Option Value) (fa:Addr) (o:Obj) (pm cd doc:Value) (a:Addr) (vs:List Value) (ns:List Int),
   Ground q loose [] XP w s₀ mg mb s₁.heap->YP w s₁.heap ->
   s₁.heap.get? fa=some o->o.data=.func (docDef d.name d.params d.body d.scope pm cd doc)->s₁.heap.CodeRec cd d.name->mg d.name=some (.ref fa) ->
   s₁.heap.get? a=some { cls:=.type "list",data:=.seq vs.toArray }->IntsAre vs ns->ns.length<=n->s₁.gens = #[] ->
   codeAny (model l.prog w) callerA (.call (.ref fa) ⟨[.ref a],[]⟩) (fun r s'=>r=.ok (.ret (.bool true))/\OldK s₁.heap s'.heap/\s'.os=s₁.os/\AllBare s'.gens) s₁) :
  WalkO q loose XP YP l.row.toRowW d [] (fun f vs=>PySem.call f vs):=by
 intro w s₀ s₁ mg mb G Y fa o pm cd doc dV kV ho hd hcd hD hmg hg args vals as hpre hlay hrd hwl hlo
 obtain rfl:dV=.none:=Dflts.none hD hdf
 obtain rfl:kV=.none:=Dflts.noKw hD
 obtain ⟨a,vs,ns,rfl,rfl,hobj,hints,hlen⟩:=qR1 hn hpre hwl
 refine enter_call (codeAny_mono (call w s₀ s₁ mg mb fa o pm cd doc a vs ns G Y ho (fd_plain hd) hcd hmg hobj hints hlen hg) fun r s' hq=>?_)
 obtain ⟨rfl,h2,h3,h4⟩:=hq
 exact ⟨.inl ⟨.bool true,.bool true,[],rfl,fun _=>rfl,.bool true,qS6 l _,fun _=>⟨List.Pairwise.nil,fun _ hm=>(nomatch hm)⟩⟩,h2,h3,h4⟩
section
variable {prog:Program}{w:World}{A:Around}{E:Value->Shared->Prop}{s:Shared}{K:Frag}
end
end Att
namespace L2
open PySem PySem.Spec PyProof.Rows
theorem qz5:∀{vs:List Value}{ns:List Int},IntsAre vs ns->Vals (ns.map V.int) vs
 | _,_,.nil=>.nil
 | _,_,.cons n t h=>.cons ⟨t,rfl⟩ (qz5 h)
end L2
namespace L2
open PySem PySem.Spec PyProof.Rows
end L2
namespace L2
open PySem PySem.Spec PyProof.Rows
def q88 (s:Stmt) (j:Nat):Stmt:=match s with
 | .ClassDef _ _ _ body _ _ _ _ _ _ _=>body.getD j (.Pass ⟨0,0,0,0⟩)
 | _=>.Pass ⟨0,0,0,0⟩
def q09 (s:Stmt):Arguments:=match s with
 | .FunctionDef _ a _ _ _ _ _ _ _ _=>a
 | _=>{ posonlyargs:=[],args:=[],vararg:=none,kwonlyargs:=[],kw_defaults:=[],kwarg:=none,defaults:=[] }
def q07 (s:Stmt):List Stmt:=match s with
 | .FunctionDef _ _ b _ _ _ _ _ _ _=>b
 | _=>[]
def q02 (s:Stmt):Scope:=match s with
 | .FunctionDef _ _ _ _ _ _ sc _ _ _=>sc
 | _=>{ kind:=.function,names:=[],isGenerator:=false,isCoroutine:=false }
abbrev CX0:CXT:=fun _ _ _ _ _ _=>False
abbrev E0:XK:=fun _ _ _=>False
structure Fun (K:PySem.W.Frag) (x qual:Str) (st:Stmt) (f:Addr) (fd:FuncData):Prop where
 ex:∃(oc:Value) (od:Option Addr) (kV doc pm:Value) (an:Option Addr) (cdv ct:Value) (osl:Array (Option Value)),
  fd=PySem.W.fnOf x qual (q09 st) (q07 st) (q02 st) .none kV doc pm an cdv ct/\K.lookup f=some ⟨oc,od,.func fd,osl⟩/\PySem.W.codeIn K cdv qual=true
 kp:PySem.W.keepIn K (.ref f)=true
section
variable {P:Program}{w:World}{K:PySem.W.Frag}{mg:Str->Option Value}{base:Heap}
theorem Fun.ok {x qual:Str}{st:Stmt}{f:Addr}{fd:FuncData}{N ps:List Str}{k:Nat}{sp:Sp}(F:Fun K x qual st f fd) (S:FnScope N ps (q02 st)) (len:∀ vs H Q E,sp vs H Q E->vs.length=ps.length)
  (hbody:∀(cdv:Value) (A:Around) (outer:List Env) (s:Shared) (H:Hp) (vs:List V) (Q:VK) (E:XK),Room k (A.deeper (envOfC qual (q02 st) s.heap.objs.size f cdv))->sp vs H Q E ->
   ∃ t,PSs (qD7 CX0 P w K mg base N qual (q02 st) f cdv A outer s H E).nox (q07 st) t/\t { nx:=fun _ H'=>Q .non H',rt:=Q } (start N vs) H):FnOk P w K mg base CX0 (k + 1) f fd ps sp:=by
 obtain ⟨oc,od,kV,doc,pm,an,cdv,ct,osl,rfl,lk,hcd⟩:=F.ex
 refine z65 lk hcd S len fun A outer s H vs Q E hr hsp=>?_
 obtain ⟨t,h,q⟩:=hbody cdv A outer s H vs Q E hr hsp
 exact ⟨t,h.nox,q⟩
theorem Fun.binds {x qual:Str}{st:Stmt}{f:Addr}{fd:FuncData}{ps:List Str}(F:Fun K x qual st f fd)
  (h:∀(kV doc pm:Value) (an:Option Addr) (cdv ct:Value) (us:List Value),us.length=ps.length->bindArgs (PySem.W.fnOf x qual (q09 st) (q07 st) (q02 st) .none kV doc pm an cdv ct) ⟨us,[]⟩=pure (ps.zip us)):Binds K fd ps []:=by
 obtain ⟨oc,od,kV,doc,pm,an,cdv,ct,osl,rfl,lk,hcd⟩:=F.ex
 exact .all (h kV doc pm an cdv ct)
theorem qb3 {x qual:Str}{st:Stmt}{f:Addr}{oc:Value}{od an:Option Addr}{osl:Array (Option Value)}{kV doc pm cdv ct:Value}(l:K.lookup f=some ⟨oc,od,.func (PySem.W.fnOf x qual (q09 st) (q07 st) (q02 st) .none kV doc pm an cdv ct),osl⟩)
  (c:PySem.W.codeIn K cdv qual=true) (k:PySem.W.keepIn K (.ref f)=true):Fun K x qual st f (PySem.W.fnOf x qual (q09 st) (q07 st) (q02 st) .none kV doc pm an cdv ct):=⟨⟨oc,od,kV,doc,pm,an,cdv,ct,osl,rfl,l,c⟩,k⟩
end
theorem qQ8 {n:Nat}(h:n<=1000):n < sizeLine:=Nat.lt_of_le_of_lt h (by decide)
section
variable {X:Cx}
theorem pv (i:Nat) {x:Str}{pos:Pos}(hN:X.N[i]? = some x:=by rfl) (hv:Vis X.env.scope x:=by first | exact Or.inl rfl | exact Or.inr (Or.inl rfl) | exact Or.inr (Or.inr rfl)) (hd:(x == ("__debug__" : Str))=false:=by decide)
  (hcd:(x == ("__classdict__" : Str))=false:=by decide):PE X (.Name x pos) (qO9 i):=za1 hN hv hd hcd
end
theorem q31 {A B:Prop}(h:B):if false=true then A else B:=by
 rw [if_neg Bool.false_ne_true]
 exact h
theorem q48 {A B:Prop}(h:A):if true=true then A else B:=by
 rw [if_pos rfl]
 exact h
theorem q77 {c A B:Prop} [Decidable c] (h1:c->A) (h2:¬ c->B):if c then A else B:=by
 by_cases h:c
 ·rw [if_pos h]
  exact h1 h
 ·rw [if_neg h]
  exact h2 h
def Same (H H':Hp):Prop:=∀ b o,H b=some o->H' b=some o
theorem Same.refl (H:Hp):Same H H:=fun _ _ h=>h
theorem Same.trans {H H1 H2:Hp}(a:Same H H1) (b:Same H1 H2):Same H H2:=fun c o h=>b c o (a c o h)
theorem Same.free {H H':Hp}(e:Same H H') {l:Addr}(h:H' l=Option.none):H l=Option.none:=by
 cases q:H l with
 | none=>rfl
 | some o =>
  rw [e l o q] at h
  cases h
theorem Same.seq {K:PySem.W.Frag}{H H':Hp}{a:Addr}{xs:List V}(e:Same H H') (h:SqL K H a xs):SqL K H' a xs:=by
 rcases h with (h | ⟨o,h⟩) | h
 ·exact .inl (.inl (e _ _ h))
 ·exact .inl (.inr ⟨o,e _ _ h⟩)
 ·exact .inr h
section
variable {κ:Type} [DecidableEq κ]
theorem qZ9 {kvs:List (κ×V)}{k:κ}(h:qg5 kvs k=none):¬ k∈kvs.map (·.1):=by
 intro m
 obtain ⟨p,hp,e⟩:=List.mem_map.mp m
 have q:(kvs.any fun kv=>decide (kv.1=k))=true:=List.any_eq_true.mpr ⟨p,hp,decide_eq_true e⟩
 rw [qg4,h] at q
 exact absurd q (by simp)
theorem valV_in {kvs:List (κ×V)}{k:κ}{v:V}(h:qg5 kvs k=some v):k∈kvs.map (·.1):=by
 have q:(kvs.any fun kv=>decide (kv.1=k))=true:=by
  rw [qg4,h]
  all_goals rfl
 obtain ⟨p,hp,e⟩:=List.any_eq_true.mp q
 exact List.mem_map.mpr ⟨p,hp,of_decide_eq_true e⟩
end
end L2
namespace L2
open PySem PySem.Spec PyProof.Rows
def z80 (env:Env):List (Str×NameKind)->List (Str×Addr)->List (Str×Addr)
 | [],cs=>cs
 | (n,k) :: r,cs=>z80 env r (if k=NameKind.free then (n,(env.cells.lookup n).getD 0) :: cs else cs)
def z79 (scope:Scope) (env:Env):List (Str×Addr):=z80 env scope.names []
def zb8 (scope:Scope) (env:Env):Bool:=scope.names.all fun p=>p.2 != NameKind.free || (env.kindOf p.1 == some NameKind.cell || env.kindOf p.1 == some NameKind.free)
theorem qy8 {env:Env}:∀(l:List (Str×NameKind)) (cs:List (Str×Addr)),(∀ p∈l,p.2=NameKind.free->∃ c,env.cells.lookup p.1=some c) ->
  (forIn l cs fun (x:Str×NameKind) (r:List (Str×Addr)) =>
   (if (x.2 == NameKind.free)=true then (do let c <- cellOf env x.1; pure (ForInStep.yield ((x.1,c) :: r))) else pure (ForInStep.yield r):Sem (ForInStep (List (Str×Addr)))))=pure (z80 env l cs)
 | [],cs,_=>rfl
 | (n,k) :: r,cs,h=>by
  rw [List.forIn_cons]
  by_cases e:k=NameKind.free
  ·subst e
   obtain ⟨c,hc⟩:=h (n,.free) List.mem_cons_self rfl
   have hc':env.cells.lookup n=some c:=hc
   have q:cellOf env n=pure c:=by unfold cellOf; rw [hc']
   simp only [beq_self_eq_true,if_true,q,pure_bind]
   rw [qy8 r _ fun p hp=>h p (List.mem_cons_of_mem _ hp)]
   simp [z80,hc']
  ·have e':(k == NameKind.free)=false:=by simpa using e
   simp only [e',Bool.false_eq_true,if_false,pure_bind]
   rw [qy8 r _ fun p hp=>h p (List.mem_cons_of_mem _ hp)]
   simp [z80,e]
theorem qd6 {scope:Scope}{env:Env}(h:∀ p∈scope.names,p.2=NameKind.free->∃ c,env.cells.lookup p.1=some c):closureFor scope env=pure (z79 scope env):=by
 have q:=qy8 (env:=env) scope.names [] h
 have e:closureFor scope env=((forIn scope.names [] fun (x:Str×NameKind) (r:List (Str×Addr)) =>
   (if (x.2 == NameKind.free)=true then (do let c <- cellOf env x.1; pure (ForInStep.yield ((x.1,c) :: r))) else pure (ForInStep.yield r):Sem (ForInStep (List (Str×Addr))))) >>= fun cs=>pure cs):=rfl
 rw [e,q,pure_bind]
 rfl
theorem qs5 {env:Env}{x:Str}{c:Addr}(hc:env.cells.lookup x=some c):∀(l:List (Str×NameKind)) (cs:List (Str×Addr)),
  ((x,NameKind.free)∈l∨cs.lookup x=some c)->(z80 env l cs).lookup x=some c
 | [],cs,h=>by
  rcases h with h | h
  ·exact absurd h (by simp)
  ·exact h
 | (n,k) :: r,cs,h=>by
  show (z80 env r _).lookup x=some c
  refine qs5 hc r _ ?_
  rcases h with h | h
  ·rcases List.mem_cons.mp h with e | e
   ·cases e
    refine .inr ?_
    rw [if_pos rfl,List.lookup_cons,hc]
    simp
   ·exact .inl e
  ·refine .inr ?_
   by_cases e:k=NameKind.free
   ·rw [if_pos e,List.lookup_cons]
    by_cases en:x=n
    ·subst en; simp [hc]
    ·have:(x == n)=false:=by simpa using en
     rw [this]; exact h
   ·rw [if_neg e]; exact h
theorem qC8 {env:Env}{x:Str}{c:Addr}:∀(l:List (Str×NameKind)) (cs:List (Str×Addr)),
  (∀ p∈l,p.2=NameKind.free->∃ c,env.cells.lookup p.1=some c)->(z80 env l cs).lookup x=some c->env.cells.lookup x=some c/\(x,NameKind.free)∈l∨cs.lookup x=some c
 | [],cs,_,h=>.inr h
 | (n,k) :: r,cs,hl,h=>by
  have h:(z80 env r (if k=NameKind.free then (n,(env.cells.lookup n).getD 0) :: cs else cs)).lookup x=some c:=h
  rcases qC8 r _ (fun p hp=>hl p (List.mem_cons_of_mem _ hp)) h with ⟨a,b⟩ | q
  ·exact .inl ⟨a,List.mem_cons_of_mem _ b⟩
  ·by_cases e:k=NameKind.free
   ·rw [if_pos e,List.lookup_cons] at q
    by_cases en:x=n
    ·subst en
     subst e
     obtain ⟨c',hc'⟩:=hl (x,.free) List.mem_cons_self rfl
     have hc':env.cells.lookup x=some c':=hc'
     rw [hc'] at q
     simp at q
     subst q
     exact .inl ⟨hc',List.mem_cons_self⟩
    ·have:(x == n)=false:=by simpa using en
     rw [this] at q
     exact .inr q
   ·rw [if_neg e] at q
    exact .inr q
theorem qu7 {scope:Scope}{env:Env}(h:zb8 scope env=true) {p:Str×NameKind}(hp:p∈scope.names) (hf:p.2=NameKind.free):env.kindOf p.1=some NameKind.cell∨env.kindOf p.1=some NameKind.free:=by
 have q:=List.all_eq_true.mp h p hp
 rw [hf] at q
 simpa using q
def cxC (X:Cx) (scope:Scope) (N':List Str) (s:Shared) (H:Hp) (C:Addr) (fp:List Addr):Cx :=
 { X with N:=N',s₀:=s,H₀:=H,env:=compEnvC scope (z79 scope X.env) C X.env,outer:=X.stack,ex:=fp,fn:=fun _=>false,pn:=[],xe:=fun _ _=>False }
def seeσ (fm:List (Option Nat)) (σ:St):St:=fm.map fun o=>o.bind fun i=>(σ[i]?).join
structure CompSc (X:Cx) (scope:Scope) (N':List Str) (fm:List (Option Nat)):Prop where
 kind:scope.kind=.function
 cell:∀ y∈scope.names,y.2≠.cell
 names:∀ y∈scope.names,y.2=.local->scope.names.lookup y.1=some .local
 free:zb8 scope X.env=true
 len:N'.length=fm.length
 map:((N'.zip fm).all fun p=>match p.2 with | none=>true | some i=>(X.N[i]? == some p.1) && (scope.names.lookup p.1 == some NameKind.free))=true
theorem qb4 {env:Env}{k:NameKind}{x:Str}:∀{names:List (Str×NameKind)},(names.map fun (n,k)=>if (k == NameKind.free && env.scope.kind == .function && env.kindOf n == some .cell) then (n,NameKind.cell) else (n,k)).lookup x=some k ->
  names.lookup x=some k∨(names.lookup x=some NameKind.free/\k=NameKind.cell)
 | [],h=>by simp at h
 | (n,j) :: r,h=>by
  have ih:=@qb4 env k x r
  have h:List.lookup x ((if (j == NameKind.free && env.scope.kind == .function && env.kindOf n == some .cell)=true then (n,NameKind.cell) else (n,j)) :: (r.map fun (n,k)=>if (k == NameKind.free && env.scope.kind == .function && env.kindOf n == some .cell) then (n,NameKind.cell) else (n,k)))=some k:=h
  by_cases hc:(j == NameKind.free && env.scope.kind == .function && env.kindOf n == some .cell)=true
  ·rw [if_pos hc,List.lookup_cons] at h
   rw [List.lookup_cons]
   cases hx:x == n with
   | true =>
    rw [hx] at h
    simp at h
    refine .inr ⟨?_,h.symm⟩
    have:(j == NameKind.free)=true:=by
     simp only [Bool.and_eq_true] at hc
     exact hc.1.1
    have e:j=NameKind.free:=by simpa using this
    rw [e]
   | false =>
    rw [hx] at h
    exact ih h
  ·rw [if_neg hc,List.lookup_cons] at h
   rw [List.lookup_cons]
   cases hx:x == n with
   | true=>rw [hx] at h; exact .inl h
   | false=>rw [hx] at h; exact ih h
theorem qn1 {env:Env}{x:Str}:∀{names:List (Str×NameKind)},names.lookup x=some NameKind.free ->
  (names.map fun (n,k)=>if (k == NameKind.free && env.scope.kind == .function && env.kindOf n == some .cell) then (n,NameKind.cell) else (n,k)).lookup x=some .cell ∨
  (names.map fun (n,k)=>if (k == NameKind.free && env.scope.kind == .function && env.kindOf n == some .cell) then (n,NameKind.cell) else (n,k)).lookup x=some .free
 | [],h=>by simp at h
 | (n,j) :: r,h=>by
  have ih:=@qn1 env x r
  show List.lookup x ((if (j == NameKind.free && env.scope.kind == .function && env.kindOf n == some .cell)=true then (n,NameKind.cell) else (n,j)) :: _)=_∨List.lookup x ((if (j == NameKind.free && env.scope.kind == .function && env.kindOf n == some .cell)=true then (n,NameKind.cell) else (n,j)) :: _)=_
  rw [List.lookup_cons] at h
  cases hx:x == n with
  | true =>
   rw [hx] at h
   have e:j=NameKind.free:=by simpa using h
   by_cases hc:(j == NameKind.free && env.scope.kind == .function && env.kindOf n == some .cell)=true
   ·rw [if_pos hc]; exact .inl (by rw [List.lookup_cons,hx])
   ·rw [if_neg hc]; exact .inr (by rw [List.lookup_cons,hx,e])
  | false =>
   rw [hx] at h
   by_cases hc:(j == NameKind.free && env.scope.kind == .function && env.kindOf n == some .cell)=true
   ·rw [if_pos hc,List.lookup_cons,hx]; exact ih h
   ·rw [if_neg hc,List.lookup_cons,hx]; exact ih h
theorem qd4 {α:Type}{x:Str}{k:α}:∀{l:List (Str×α)},l.lookup x=some k->(x,k)∈l:=fun h=>PySem.mem_of_lookup h
section
variable {X:Cx}{pins:List (Addr×Obj)}{σ:St}{H H':Hp}{s:Shared}{scope:Scope}{N':List Str}{fm:List (Option Nat)}{fp:List Addr}{h':Heap}{tk:Nat}
theorem CompSc.cells (S:CompSc X scope N' fm) (I:Inv X pins σ H s):∀ p∈scope.names,p.2=NameKind.free->∃ c,X.env.cells.lookup p.1=some c:=fun p hp hf=>I.ok.has p.1 (qu7 S.free hp hf)
theorem CompSc.look (S:CompSc X scope N' fm) (I:Inv X pins σ H s) {x:Str}{c:Addr}(h:(z79 scope X.env).lookup x=some c):X.env.cells.lookup x=some c/\(x,NameKind.free)∈scope.names:=by
 rcases qC8 scope.names [] (S.cells I) h with q | q
 ·exact q
 ·simp at q
theorem qv0 (S:CompSc X scope N' fm) (I:Inv X pins σ H s) (hf:∀ b∈fp,qt5 X pins H b) (hfs:∀ b∈fp,b < s.heap.objs.size)
  (hn:h'.Ns s.heap.objs.size fun _=>none) (hk:∀ b o,s.heap.get? b=some o->h'.get? b=some o):Inv (cxC X scope N' s H s.heap.objs.size fp) [] (seeσ fm σ) H { s with heap:=h',toks:=tk }:=by
 have cl:∀{x c},(z79 scope X.env).lookup x=some c->X.env.cells.lookup x=some c/\(x,NameKind.free)∈scope.names:=fun h=>S.look I h
 have ltc:∀ x c,X.env.cells.lookup x=some c->c < s.heap.objs.size:=fun x c e=>by
  obtain ⟨v,q⟩:=I.cell x c e
  exact q.lt
 refine ⟨⟨I.ok.mod,?_,I.ok.glob,I.ok.blt,Nat.le_refl _,fun x y c h1 h2=>I.ok.inj x y c (cl h1).1 (cl h2).1,fun x hx=>?_,fun x c h _=>absurd (show false=true from h) (by decide),I.ok.hd,I.ok.frames,.inl rfl,fun b hb=>⟨Nat.ne_of_lt (hfs b hb),fun x c e z=>?_⟩,I.bs,Nat.le_trans I.ok.bsz I.sz,fun b o e hb=>?_,fun b hb z=>?_,I.stack,I.stkFree⟩,
  rfl,I.bare,Un.kept hk,⟨_,hn,fun i x v e1 e2 e3=>?_⟩,fun x c e=>?_,I.hok.fresh (Nat.le_refl _),fun x c e=>I.freeC x c (cl e).1,fun p hp=>absurd (show p∈([]:List (Addr×Obj)) from hp) (by simp),I.hok.kept hk,?_⟩
 ·exact S.kind
 ·-- a cell for each name
  have hx:(relabel scope X.env).names.lookup x=some .cell∨(relabel scope X.env).names.lookup x=some .free:=hx
  have fr:scope.names.lookup x=some .free:=by
   rcases hx with hx | hx
   ·rcases qb4 hx with q | q
    ·exact absurd rfl (S.cell _ (qd4 q))
    ·exact q.1
   ·rcases qb4 hx with q | q
    ·exact q
    ·exact q.1
  have m:=qd4 fr
  obtain ⟨c,hc⟩:=S.cells I (x,.free) m rfl
  exact ⟨c,qs5 hc _ _ (.inl m)⟩
 ·exact (hf b hb).2.2.2.2.1 x c (cl e).1 z
 ·rcases (hf b hb).2.2.2.1 with z | z
  ·exact I.ok.noex b o e z
  ·exact absurd (Nat.lt_of_lt_of_le (Heap.lt_size (I.ok.bs b o e).1) z) (Nat.lt_irrefl _)
 ·rcases List.mem_cons.mp (I.stkSub b z) with q | q
  ·exact (hf b hb).2.1 q
  ·exact (hf b hb).2.2.1 q
 ·-- a name of the def,seen in the block
  have e1:N'[i]? = some x:=e1
  have il:i < fm.length:=by rw [<- S.len]; exact (List.getElem?_eq_some_iff.mp e1).1
  have ef:fm[i]? = some fm[i]:=by simp [il]
  unfold seeσ at e2
  rw [List.getElem?_map,ef] at e2
  cases q:fm[i] with
  | none=>rw [q] at e2; simp at e2
  | some j =>
   rw [q] at e2 ef
   have e2:(σ[j]?).join=some v:=by simpa using e2
   have e2':σ[j]? = some (some v):=by
    cases z:σ[j]? with
    | none=>rw [z] at e2; simp at e2
    | some w=>rw [z] at e2; simp at e2; rw [e2]
   have mz:(x,some j)∈N'.zip fm:=by
    have:(N'.zip fm)[i]? = some (x,some j):=by rw [List.getElem?_zip_eq_some]; exact ⟨e1,ef⟩
    exact List.mem_of_getElem? this
   have ok:=List.all_eq_true.mp S.map _ mz
   simp only [Bool.and_eq_true,beq_iff_eq] at ok
   have kx:=qu7 S.free (qd4 ok.2) rfl
   obtain ⟨m,hm,hl⟩:=I.loc
   obtain ⟨u,ru,lk⟩:=hl j x v ok.1 e2' (by rcases kx with k | k; exact .inr (.inl k); exact .inr (.inr k))
   refine ⟨u,ru,.inr ?_⟩
   rcases lk with ⟨k,_⟩ | ⟨_,c,hc,⟨o,ho,hd⟩⟩
   ·rcases kx with z | z
    ·rw [z] at k; cases k
    ·rw [z] at k; cases k
   ·exact ⟨qn1 ok.2,c,qs5 hc _ _ (.inl (qd4 ok.2)),o,hk _ _ ho,hd⟩
 ·obtain ⟨v,o,ho,hd⟩:=I.cell x c (cl e).1
  exact ⟨v,o,hk _ _ ho,hd⟩
 ·show (seeσ fm σ).length=N'.length
  unfold seeσ
  rw [List.length_map,S.len]
theorem qk9 {σ':St}{s1 s2:Shared}{p1:List (Addr×Obj)}(I:Inv X pins σ H s) (hf:∀ b∈fp,qt5 X pins H b) (J:Inv (cxC X scope N' s H s.heap.objs.size fp) p1 σ' H' s1) (hs:s2.os=s1.os) (hg:AllBare s2.gens)
  (hh:Heap.SameBut s.heap.objs.size s1.heap s2.heap):Inv X pins σ H' s2:=by
 have un:Un (frs X.stack) fp H H' s.heap s1.heap:=J.base
 have hne:∀ b o,s.heap.get? b=some o->b≠s.heap.objs.size:=fun b o e=>Nat.ne_of_lt (Heap.lt_size e)
 have free':H' s.heap.objs.size=none:=J.free
 refine I.call' (ch:=fp) (hs.trans J.os) ⟨fun b o e n hb hx=>?_,fun b o e n hb hx=>?_,un.free,fun b o e hx=>?_,un.tups,un.frzs,un.tbls⟩ (fun b o e=>?_) hg fun b hb=>?_
 ·exact (hh.2 b (hne b o e)).trans (un.keep b o e n hb hx)
 ·obtain ⟨sl,q⟩:=un.slot b o e n hb hx
  exact ⟨sl,(hh.2 b (hne b o e)).trans q⟩
 ·obtain ⟨o',q⟩:=un.there b o e hx
  exact ⟨o',(hh.2 b (hne b o e)).trans q⟩
 ·refine (J.hok b o e).stay (fun c v hc q=>(hh.2 c ?_).trans q) (fun _ q=>q) fun _ _ q=>q
  rintro rfl
  rcases hc with z | z
  ·rw [<- z,free'] at e; cases e
  ·rw [free'] at z; cases z
 ·obtain ⟨_,f1,_,f3,f4,f5⟩:=hf b hb
  exact ⟨f3,f1,f4,f5⟩
end
end L2
namespace L2
open PySem PySem.Spec PyProof.Rows
def qZ1 (X:Cx) (ifs:List Expr) (t:TT):Prop :=
 ∀(pins:List (Addr×Obj)) (s:Shared) (σ:St) (H:Hp) (Q:Bool->Hp->Prop),Inv X pins σ H s->t σ H Q ->
  wpAny (model X.prog X.w) X.A (forIn ifs true fun c r=>if r=true then do let ok <- isTrue c X.env (eval c X.env); pure (ForInStep.yield ok) else pure (ForInStep.yield r)) (TP X pins σ Q) X.xe s
def tAll:TT:=fun _ H Q=>Q true H
theorem q42 {X:Cx}:qZ1 X [] tAll:=fun _ _ _ H _ I h=>wpAny_tests_nil ⟨H,I,h⟩
theorem q63 {X:Cx}{c:Expr}{t:TT}(h:PT X c t):qZ1 X [c] t:=fun pins s σ H Q I q=>wpAny_tests_one (h pins s σ H Q I q)
def qZ3 (J:It) (p:Addr) (g:TG) (tt:TT) (te:TE) (σ0:St) (H0:Hp) (Q:Hp->Prop):Prop :=
 ∃ W:Nat->Nat->St->Hp->Prop,(∃ m,W 0 m σ0 H0)/\∀ i m σ H,W i m σ H ->
  (J.stop i H/\Q H)∨(J.go i H/\∃ N:St->Hp->Prop,(∀ σ' H',N σ' H'->∃ m',m' < m/\W (i + 1) m' σ' H')/\∀ x H1,J.yld i H x H1->g x σ H1 fun σ2 H2=>tt σ2 H2 fun b H3 =>
   if b=true then te σ2 H3 fun v H4=>∃ ys,H4 p=some (.lst ys)/\ys.length < sizeLine/\N σ2 (upd H4 p (.lst (ys ++ [v])))
   else N σ2 H3)
def tComp (fm:List (Option Nat)) (wi:TI) (g:TG) (tt:TT) (te:TE):TE:=fun σ H Q=>wi σ H fun J H1=>∀ p,H1 p=none ->
 qZ3 J p g tt te (seeσ fm σ) (upd H1 p (.lst [])) fun H2=>Q (.ref p) H2
def sComp (fm:List (Option Nat)) (wi:TI) (g:TG) (tt:TT) (te:TE) (i:Nat):TS:=fun D σ H=>wi σ H fun J H1=>∀ p,H1 p=none ->
 qZ3 J p g tt te (seeσ fm σ) (upd H1 p (.lst [])) fun H2=>D.nx (σ.set i (some (.ref p))) H2
section
variable {X:Cx}{elt iter tg:Expr}{ifs:List Expr}{scope:Scope}{pos:Pos}{N':List Str}{fm:List (Option Nat)}{wi:TI}{g:TG}{tt:TT}{te:TE}
theorem qX7 {R:Result->Shared->Prop}{pins:List (Addr×Obj)}{σ:St}{H:Hp}{s s1:Shared}{it p C:Addr}{fp:List Addr}{tn:Nat->Heap->Prop}{J:It}{Q:Hp->Prop}{H0:Hp}{σ0:St}
  (hc:X.calm=true) (hg:PG (cxC X scope N' s H C fp) tg g) (ht:qZ1 (cxC X scope N' s H C fp) ifs tt) (he:PE (cxC X scope N' s H C fp) elt te)
  (T:Turn X.prog X.w X.K tg J fp it tn) (hfp:∀{H':Hp},(∀ b∈fp,H' b=none)->∀ b∈fp,qt5 (cxC X scope N' s H C fp) [] H' b)
  (I:Inv (cxC X scope N' s H C fp) [] σ0 H0 s1) (st:tn 0 s1.heap) (hfr:∀ b∈fp,H0 b=none) (blk:qZ3 J p g tt te σ0 H0 Q)
  (hR:∀ σ' H' s',Inv (cxC X scope N' s H C fp) [] σ' H' s'->Q H'->R (.ok .next) s') :
  codeAny (model X.prog X.w) X.A (.compLoop (.ListComp elt [⟨tg,iter,ifs,0⟩] scope pos) 0 (.ref it) (.ref p) (compEnvC scope (z79 scope X.env) C X.env)) R s1:=by
 obtain ⟨W,⟨m0,w0⟩,turn⟩:=blk
 refine codeAny_loop rfl (fun n s'=>∃ i σ' H',Inv (cxC X scope N' s H C fp) [] σ' H' s'/\tn i s'.heap/\(∀ b∈fp,H' b=none)/\W i n σ' H') (fun n s2 hI=>?_) m0 ⟨0,σ0,H0,I,st,hfr,w0⟩
 obtain ⟨i,σ2,H2,I2,st2,fr2,w2⟩:=hI
 show wpAny _ X.A ((compTurn (.ListComp elt [⟨tg,iter,ifs,0⟩] scope pos) 0 (.ref it) (.ref p) (compEnvC scope (z79 scope X.env) C X.env)).onRaise fun x=>do noteFrame x (compEnvC scope (z79 scope X.env) C X.env); theTreesLotGoes x) _ _ s2
 refine wpAny_noted ?_
 rw [compTurn_list]
 have lift:∀{α:Type} {t:Sem α} {Q1 Q2:α->Shared->Prop} {E2:Value->Shared->Prop} {s':Shared},wpAny (model X.prog X.w) X.A t Q1 (fun _ _=>False) s'->(∀ a s'',Q1 a s''->Q2 a s'')->wpAny (model X.prog X.w) X.A t Q2 E2 s' :=
  fun h k=>wpAny_mono h k fun _ _ z=>z.elim
 rcases turn i n σ2 H2 w2 with ⟨stop,qn⟩ | ⟨go,N,hN,step⟩
 ·refine wpAny_bind (wpAny_standAt (wpAny_bind (lift (T.done (cxC X scope N' s H C fp) rfl rfl rfl hc i [] s2 σ2 H2 _ I2 (hfp fr2) st2 stop) fun r s3 q=>?_)))
  obtain ⟨hr,I3⟩:=q
  subst hr
  exact wpAny_pure (hR σ2 H2 s3 I3 qn)
 ·refine wpAny_bind (wpAny_standAt (wpAny_bind (lift (T.item (cxC X scope N' s H C fp) rfl rfl rfl hc i [] s2 σ2 H2 _ I2 (hfp fr2) st2 go) fun r s3 q=>?_)))
  obtain ⟨u,hr,h3⟩:=q
  subst hr
  refine wpAny_bind (lift h3 fun _ s4 q4=>?_)
  obtain ⟨x,H4,I4,r4,y4,st4,fr4⟩:=q4
  have I4':=I4.pinned (hfp fr4) (T.obj _ _ st4)
  refine wpAny_bind (lift (hg _ s4 σ2 H4 x u _ I4' r4 (step x H4 y4)) fun _ s5 q5=>?_)
  obtain ⟨σ5,H5,I5,q5⟩:=q5
  refine wpAny_bind (lift (ht _ s5 σ5 H5 _ I5 q5) fun b s6 q6=>?_)
  obtain ⟨H6,I6,q6⟩:=q6
  have again:∀{σ7:St} {H7:Hp} {s7:Shared} {m':Nat},Inv (cxC X scope N' s H C fp) ([] ++ qr0 fp s4.heap) σ7 H7 s7->W (i + 1) m' σ7 H7 ->
    ∃ i σ' H',Inv (cxC X scope N' s H C fp) [] σ' H' s7/\tn i s7.heap/\(∀ b∈fp,H' b=none)/\W i m' σ' H':=fun {σ7 H7 s7 m'} I7 w7=>by
   refine ⟨i + 1,σ7,H7,I7.unpinned,T.keep _ _ _ st4 fun b hb o e=>(I7.pin (b,o) (List.mem_append_right _ (List.mem_append_right _ (qa2 hb e)))).1,fun b hb=>?_,w7⟩
   obtain ⟨o,e,d⟩:=T.obj _ _ st4 b hb
   exact (I7.pin (b,o) (List.mem_append_right _ (List.mem_append_right _ (qa2 hb e)))).2.1
  cases b with
  | false =>
   rw [if_neg Bool.false_ne_true] at q6
   obtain ⟨m',hm,w7⟩:=hN _ _ q6
   exact wpAny_pure ⟨rfl,m',hm,again I6 w7⟩
  | true =>
   rw [if_pos rfl] at q6
   refine wpAny_bind (wpAny_bind (lift (he _ s6 σ5 H6 _ I6 q6) fun u s7 q7=>?_))
   obtain ⟨v,H7,I7,r7,ys,hp,hz,n7⟩:=q7
   obtain ⟨m',hm,w7⟩:=hN _ _ n7
   have ap:=q57 (X:=cxC X scope N' s H C fp) ([] ++ qr0 fp s4.heap) s7 σ5 H7 (.ref p) [v] (.ref p) [u] (fun _ H8=>W (i + 1) m' σ5 H8) I7 rfl (.cons r7 .nil) ⟨p,ys,v,rfl,rfl,hp,hz,w7⟩
   refine wpAny_bind (lift ap fun _ s8 q8=>?_)
   obtain ⟨_,H8,I8,_,w8⟩:=q8
   exact wpAny_pure (wpAny_pure ⟨rfl,m',hm,again I8 w8⟩)
end
section
variable {K:PySem.W.Frag}{p:Addr}{g:TG}{tt:TT}{te:TE}{σ0:St}{H0:Hp}{Q:Hp->Prop}
def qd7 (p:Addr) (g:TG) (tt:TT) (te:TE) (N:St->Hp->Prop) (x:V) (σ:St) (H:Hp):Prop :=
 g x σ H fun σ2 H2=>tt σ2 H2 fun b H3=>if b=true then te σ2 H3 fun v H4=>∃ ys,H4 p=some (.lst ys)/\ys.length < sizeLine/\N σ2 (upd H4 p (.lst (ys ++ [v]))) else N σ2 H3
theorem q93 {lo:Int}{n:Nat}(Pv:Nat->St->Hp->Prop) (h0:Pv 0 σ0 H0) (hs:∀ i σ H,i < n->Pv i σ H->qd7 p g tt te (Pv (i + 1)) (.int (lo + i)) σ H) (hd:∀ σ H,Pv n σ H->Q H):qZ3 (Itr lo n) p g tt te σ0 H0 Q:=by
 refine ⟨fun i m σ H=>m=n - i/\i<=n/\Pv i σ H,⟨n,by simp,Nat.zero_le _,h0⟩,?_⟩
 rintro i m σ H ⟨rfl,hi,q⟩
 by_cases hlt:i < n
 ·refine .inr ⟨hlt,Pv (i + 1),fun σ' H' r=>⟨n - (i + 1),by omega,rfl,hlt,r⟩,fun x H' y=>?_⟩
  obtain ⟨e,y⟩:=y
  subst e y
  exact hs i σ _ hlt q
 ·have e:i=n:=by omega
  subst e
  exact .inl ⟨Nat.le_refl _,hd σ H q⟩
theorem q40 {a:Addr}{xs:List V}(Pv:Nat->St->Hp->Prop) (h0:Pv 0 σ0 H0) (hl:∀ i σ H,i<=xs.length->Pv i σ H->SqL K H a xs) (hs:∀ i x σ H,xs[i]? = some x->Pv i σ H->qd7 p g tt te (Pv (i + 1)) x σ H) (hd:∀ σ H,Pv xs.length σ H->Q H) :
  qZ3 (Itl K a) p g tt te σ0 H0 Q:=by
 refine ⟨fun i m σ H=>m=xs.length - i/\i<=xs.length/\Pv i σ H,⟨xs.length,by simp,Nat.zero_le _,h0⟩,?_⟩
 rintro i m σ H ⟨rfl,hi,r⟩
 have q:=hl i σ H hi r
 by_cases hlt:i < xs.length
 ·refine .inr ⟨⟨xs,xs[i],q,by simp [hlt]⟩,Pv (i + 1),fun σ' H' r'=>⟨xs.length - (i + 1),by omega,rfl,hlt,r'⟩,fun x H' y=>?_⟩
  obtain ⟨e,y⟩:=y
  subst e
  exact hs i x σ _ (y xs q) r
 ·have e:i=xs.length:=by omega
  subst e
  exact .inl ⟨⟨xs,q,Nat.le_refl _⟩,hd σ H r⟩
end
end L2
namespace L2
open PySem PySem.Spec PyProof.Rows
section
variable {X:Cx}{elt iter tg:Expr}{ifs:List Expr}{scope:Scope}{pos:Pos}{N':List Str}{fm:List (Option Nat)}{wi:TI}{g:TG}{tt:TT}{te:TE}
theorem qv1 {RR:Value->Addr->Result->Shared->Prop}{pins:List (Addr×Obj)}{σ:St}{H:Hp}{s:Shared}{it:Addr}{fp:List Addr}{tn:Nat->Heap->Prop}{J:It}{Q:Addr->Hp->Prop}{E:Value->Shared->Prop}
  (hc:X.calm=true) (S:CompSc X scope N' fm) (hg:∀ s H C fp,PG (cxC X scope N' s H C fp) tg g) (ht:∀ s H C fp,qZ1 (cxC X scope N' s H C fp) ifs tt) (he:∀ s H C fp,PE (cxC X scope N' s H C fp) elt te)
  (T:Turn X.prog X.w X.K tg J fp it tn) (I:Inv X pins σ H s) (st:tn 0 s.heap) (hf:∀ b∈fp,qt5 X pins H b)
  (blk:∀ p,H p=none->qZ3 J p g tt te (seeσ fm σ) (upd H p (.lst [])) (Q p))
  (hR:∀ p C H' s' (m:Str->Option Value),s'.heap.Ns C m->(∀ h',Heap.SameBut C s'.heap h'->Inv X pins σ H' { s' with heap:=h' })->qt5 X pins H' C->Q p H'->Inv X pins σ H' s'->RR (.ref p) C (.ok .next) s') :
  wpAny (model X.prog X.w) X.A (newList []) (fun acc s₃=>wpAny (model X.prog X.w) X.A (newFunctionEnv scope X.env.globals (z79 scope X.env) [] X.env.qual none .none (some X.env)) (fun cenv s₄ =>
   codeAny (model X.prog X.w) X.A (.compStart (.ListComp elt [⟨tg,iter,ifs,0⟩] scope pos) 0 (.ref it) acc { cenv with scope:=relabel scope X.env }) (RR acc cenv.locals) s₄) E s₃) E s:=by
 have I1:Inv X pins σ (upd H s.heap.objs.size (.lst [])) { s with heap:=s.heap.push { cls:=.type "list",data:=.seq ([]:List Value).toArray } }:=I.lnew (t':=s.toks) .nil (Nat.zero_le _)
 have hb:=blk _ I.fresh
 refine wpAny_newObj_type (wpAny_newFunctionEnv S.cell (by intro y hy; simp at hy) (fun h1 hn1 hs1=>?_) S.kind)
 dsimp only at hn1 hs1 ⊢
 generalize hq:s.heap.push { cls:=.type "list",data:=.seq ([]:List Value).toArray }=h2 at hn1 hs1 I1 ⊢
 have sz:h2.objs.size=s.heap.objs.size + 1:=by rw [<- hq,Heap.size_push]
 have old:∀ b o,h2.get? b=some o->h1.get? b=some o:=fun b o e=>hs1.extBut b o (Nat.ne_of_lt (Heap.lt_size e)) (Heap.get?_push_of_some _ e)
 have old0:∀ b o,s.heap.get? b=some o->h2.get? b=some o:=fun b o e=>hq ▸ Heap.get?_push_of_some _ e
 have lt0:∀ b∈fp,b < s.heap.objs.size:=fun b hb=>by
  obtain ⟨o,e,_⟩:=T.obj _ _ st b hb
  exact Heap.lt_size e
 have hf1:∀ b∈fp,qt5 X pins (upd H s.heap.objs.size (.lst [])) b:=fun b hb=>by
  obtain ⟨f0,f⟩:=hf b hb
  exact ⟨by rw [q08 (Nat.ne_of_lt (lt0 b hb))]; exact f0,f⟩
 have lt2:∀ b∈fp,b < h2.objs.size:=fun b hb=>by rw [sz]; exact Nat.lt_succ_of_lt (lt0 b hb)
 have J0:=qv0 (s:={ s with heap:=h2 }) (h':=h1) (tk:=s.toks) (fp:=fp) S I1 hf1 lt2 hn1 old
 have st1:tn 0 h1:=T.keep _ _ _ st fun b _ o e=>old b o (old0 b o e)
 have fpok:∀{H':Hp},(∀ b∈fp,H' b=none)->∀ b∈fp,qt5 (cxC X scope N' { s with heap:=h2 } (upd H s.heap.objs.size (.lst [])) h2.objs.size fp) [] H' b:=fun {H'} hn b hb=>by
  refine ⟨hn b hb,Nat.ne_of_lt (lt2 b hb),fun z=>?_,.inl hb,fun x c e z=>?_,fun p hp=>absurd (show p∈([]:List (Addr×Obj)) from hp) (by simp)⟩
  ·rcases List.mem_cons.mp (I.stkSub b z) with q | q
   ·exact (hf b hb).2.1 q
   ·exact (hf b hb).2.2.1 q
  ·exact (hf b hb).2.2.2.2.1 x c (S.look I e).1 z
 have loop:=qX7 (iter:=iter) (pos:=pos) (R:=RR (.ref s.heap.objs.size) h2.objs.size) (σ:=σ) (pins:=pins) hc (hg _ _ _ _) (ht _ _ _ _) (he _ _ _ _) T fpok J0 st1 (fun b hb=>(hf1 b hb).1) hb fun σ' H' s' Jv qv=>by
  obtain ⟨m,hm,_⟩:=Jv.loc
  exact hR _ _ H' s' m hm (fun h' sb=>qk9 (s:={ s with heap:=h2 }) I1 hf1 Jv rfl Jv.bare sb) (I1.fpOk (Nat.le_refl _) Jv.free) qv (qk9 (s:={ s with heap:=h2 }) I1 hf1 Jv rfl Jv.bare (Heap.SameBut.refl ..))
 exact codeAny_compStart_list loop (T.self _ 0 _ _ _ st1 loop)
theorem q29 (hc:X.calm=true) (S:CompSc X scope N' fm) (hi:PI X tg iter wi) (hg:∀ s H C fp,PG (cxC X scope N' s H C fp) tg g) (ht:∀ s H C fp,qZ1 (cxC X scope N' s H C fp) ifs tt)
  (he:∀ s H C fp,PE (cxC X scope N' s H C fp) elt te) (hs:∀ x,foldedSetIterable iter X.env x=pure x:=by intro _; rfl) :
  PE X (.ListComp elt [⟨tg,iter,ifs,0⟩] scope pos) (tComp fm wi g tt te):=by
 intro pins s σ H Q I h
 rw [eval_ListComp]
 refine wpAny_comprehension_free (use:=none) rfl hs (qd6 (S.cells I)) S.kind S.names (thn (hi pins s σ H _ I h) fun v s1 h1=>thn h1 fun itv s2 h2=>?_)
 obtain ⟨it,fp,tn,J,H2,e,I2,T,st2,f2,blk⟩:=h2
 subst e
 refine qv1 (RR:=fun acc C=>compPost (model X.prog X.w) X.A X.xe none (EP X pins σ Q) acc C) (Q:=fun p H'=>Q (.ref p) H') hc S hg ht he T I2 st2 f2 blk ?_
 intro p C H' s' m hm back _ q _
 exact ⟨m,hm,fun h' sb=>⟨.ref p,H',back h' sb,rfl,q⟩⟩
theorem qw4 {i:Nat}{x:Str}{px spos:Pos}(hc:X.calm=true) (hN:X.N.Nodup) (hx:X.N[i]? = some x) (hl:X.env.kindOf x=some .local) (S:CompSc X scope N' fm) (hi:PI X tg iter wi) (hg:∀ s H C fp,PG (cxC X scope N' s H C fp) tg g)
  (ht:∀ s H C fp,qZ1 (cxC X scope N' s H C fp) ifs tt) (he:∀ s H C fp,PE (cxC X scope N' s H C fp) elt te) (hs:∀ x,foldedSetIterable iter X.env x=pure x:=by intro _; rfl)
  (hsw:swapsWith (.ListComp elt [⟨tg,iter,ifs,0⟩] scope pos) (some (.Name x px)) spos.line X.env=pure true:=by rfl) :
  PS X (.Assign [.Name x px] (.ListComp elt [⟨tg,iter,ifs,0⟩] scope pos) spos) (sComp fm wi g tt te i):=by
 intro pins s σ H D I h
 rw [exec_Assign_Name_used _ _ _ _ hsw]
 refine wpAny_bind (wpAny_standAt (wpAny_bind ?_))
 show wpAny _ _ (comprehension (.ListComp elt [⟨tg,iter,ifs,0⟩] scope pos) scope X.env _ (newList []) false (eval iter X.env) (some (assign (.Name x px) X.env)) >>= _) _ _ s
 refine wpAny_bind (thn (wpAny_comprehension_free (use:=some (assign (.Name x px) X.env)) (Q:=fun _ s'=>SP X pins D .next s') rfl hs (qd6 (S.cells I)) S.kind S.names
  (thn (hi pins s σ H _ I h) fun v s1 h1=>thn h1 fun itv s2 h2=>?_)) fun _ s' q=>wpAny_pure (wpAny_pure q))
 obtain ⟨it,fp,tn,J,H2,e,I2,T,st2,f2,blk⟩:=h2
 subst e
 refine qv1 (RR:=fun acc C=>compPost (model X.prog X.w) X.A X.xe (some (assign (.Name x px) X.env)) (fun _ s'=>SP X pins D .next s') acc C) (Q:=fun p H'=>D.nx (σ.set i (some (.ref p))) H') hc S hg ht he T I2 st2 f2 blk ?_
 intro p C H' s' m hm back fC q I'
 obtain ⟨f0,f1,f2,f3,f4,f5⟩:=fC
 show wpAny _ _ (assign (.Name x px) X.env (.ref p)) _ _ s'
 refine wpAny_assign_Name (qp5 I' hN hx (.inl hl) (v:=.ref p) rfl (fun s'' I'' ⟨a,sb,ha⟩=>?_) (.inr hl))
 have haC:C≠a:=by
  rcases ha with z | z
  ·rw [z]; exact f1
  ·exact Ne.symm (f4 x a z)
 refine ⟨m,hm.sameBut sb haC,fun h3 sb3=>⟨σ.set i (some (.ref p)),H',I''.turned (t':=s''.toks) (fun b o hb e=>(sb3.2 b hb).trans e) f0 f1 f3 f4 f5,q⟩⟩
end
end L2
namespace L2
open PySem PySem.Spec PySem.W
section
variable {prog:Program}{w:World}{A:Around}{R:Result->Shared->Prop}{h:Heap}{g:Array GenState}{d:Drawn}{t:Nat}{os:OsState}
variable {nm q:Str}{C N f:Addr}{bs bm:List Value}{hdct:Bool}{sn:List Str}{sub:List Value}{ab:Bool}{col:Option Bool}{dd:Option Addr}{k0 k1 k2 k3 k5:Option Value}
abbrev z91 (C tu:Addr):Obj:={ cls:=.ref C,data:=.fields #[.ref tu,.none,.none,.none,.bool false,.none] }
abbrev qN9 (us:List Value):Obj:={ cls:=.type "tuple",data:=.seq us.toArray }
structure XBases (bm:List Value):Prop where
 ve:bm.contains (.type "ValueError")=true
 be:bm.contains (.type "BaseException")=true
 ae:bm.contains (.type "AttributeError")=false
 ne:bm.contains (.type "NameError")=false
 ob:bm.contains (.type "object")=true
 rf:∀ self:Value,refuseLoop self "__setattr__" bm=pure ()
theorem x_check (B:XBases bm) {M:Model}{E:Value->Shared->Prop}{us:List Value}{Q:Unit->Shared->Prop}(hC:h.get? C=some (excClassObj nm q C N bs bm hdct sn sub ab col dd k0 k1 k2 k3 k5 "ValueError.__new__"))
  (hq:Q () ⟨h,g,d,t,os⟩):wpAny M A (checkBuiltinCall "ValueError.__new__" ⟨.ref C :: us,[]⟩) Q E ⟨h,g,d,t,os⟩:=by
 have FV:=PySem.F.excBase_ValueError
 have c1:(Value.ref C :: bm).contains (.type "ValueError")=true:=by rw [List.contains_cons,B.ve,Bool.or_true]
 have c2:=FV.noStar
 simp only [checkBuiltinCall,FV.newKind,FV.newSplit,FV.newRow]
 repeat (first | refine wpAny_loadPart_at hC ?_ | (refine wpAny_isSubtype_exc hC ?_; rw [c1]) | refine wpAny_staticBase_exc hC ?_ | refine wpAny_madeBy_exc hC ?_ | (simp only [bne_self_eq_false,Bool.false_eq_true,if_false]) | wp_step)
 exact hq
theorem x_new (B:XBases bm) {us:List Value}(hC:h.get? C=some (excClassObj nm q C N bs bm hdct sn sub ab col dd k0 k1 k2 k3 k5 "ValueError.__new__"))
  (hq:R (.ok (.ret (.ref (h.objs.size + 1)))) ⟨(h.push (qN9 us)).push (z91 C h.objs.size),g,d,t,os⟩) (hus:us.length<=sizeLine) :
  codeAny (model prog w) A (.builtin "ValueError.__new__" ⟨.ref C :: us,[]⟩) R ⟨h,g,d,t,os⟩:=by
 have FV:=PySem.F.excBase_ValueError
 have e1:=FV.ends
 have c1:(Value.ref C :: bm).contains (.type "ValueError")=true:=by rw [List.contains_cons,B.ve,Bool.or_true]
 have c2:(Value.ref C :: bm).contains (.type "AttributeError")=false:=by rw [List.contains_cons,B.ae]; rfl
 have c3:(Value.ref C :: bm).contains (.type "NameError")=false:=by rw [List.contains_cons,B.ne]; rfl
 refine codeAny_builtinAt FV.entry ?_
 unfold Builtin.«BaseException.__new__»
 refine PySem.wpAt_bind ?_
 show PySem.wpAt _ _ _ (stack >>= _) _ _ _
 refine PySem.wpAt_bind (PySem.wpAt_stack fun a b=>PySem.wpAt_of_wpAny ?_)
 wp_walk
 refine PySem.wpAt_of_wpAny ?_
 rw [FV.owner]
 repeat (first | with_reducible refine wpAny_madeHere_exc FV.canon hC ?_ | with_reducible refine wpAny_loadPart_at hC ?_ | (with_reducible refine wpAny_isSubtype_exc hC ?_; first | rw [c1] | rw [c2] | rw [c3]) | wp_step)
 show R _ _
 rw [Heap.size_push]
 exact hq
theorem x_make (B:XBases bm) {us:List Value}(hC:h.get? C=some (excClassObj nm q C N bs bm hdct sn sub ab col dd k0 k1 k2 k3 k5 "ValueError.__new__"))
  (hi:Looks (model prog w) h (typeLookup (.ref C) "__init__") (some (.ref f))) (hb:∀ self,Looks (model prog w) h (bindSpecial (.ref f) self) (.ref f,[self])) (hus:us.length<=sizeLine)
  (hq:codeAny (model prog w) (A.under (.builtin "type.__call__" ⟨.ref C :: us,[]⟩)) (.call (.ref f) ⟨.ref (h.objs.size + 1) :: us,[]⟩) (InitBack (h.objs.size + 1) R) ⟨(h.push (qN9 us)).push (z91 C h.objs.size),g,d,t,os⟩) :
  codeAny (model prog w) A (.call (.ref C) ⟨us,[]⟩) R ⟨h,g,d,t,os⟩:=by
 have f1:=tc_lookup
 have f2:=tc_bind (.ref C)
 have hT:(⟨h,g,d,t,os⟩:Shared).TypeIs (.ref C) "type" := ⟨_,hC,rfl⟩
 refine codeAny_of_tree ?_
 show wpAny _ _ (callAny (.ref C) _) _ _ _
 repeat (any_goals (first | assumption | with_reducible refine wpAny_loadPart_at hC ?_ | wp_step))
 refine ⟨rfl,?_⟩
 refine codeAny_call_builtin_at (Code.quiet_builtin _ (by decide +kernel)) entry_typeCall (wpAny_check_type_call_sub hC ?_)
 repeat (first | with_reducible refine wpAny_loadPart_at hC ?_ | with_reducible refine wpAny_madeBy_exc hC ?_ | wp_step)
 refine codeAny_call_builtin_code (Code.quiet_builtin _ PySem.F.excBase_ValueError.quiet) (x_check B hC (x_new B hC ?_ hus))
 show wpAny _ _ _ _ _ _
 have k:∀ b o,h.get? b=some o->((h.push (qN9 us)).push (z91 C h.objs.size)).get? b=some o:=fun b o e=>Heap.get?_push_of_some _ (Heap.get?_push_of_some _ e)
 have hC1:=k _ _ hC
 have hx:((h.push (qN9 us)).push (z91 C h.objs.size)).get? (h.objs.size + 1)=some (z91 C h.objs.size):=by heap_get
 have cC:(Value.ref C :: bm).contains (.ref C)=true:=by simp
 have i1:=hi.keeps k
 have b1:=(hb (.ref (h.objs.size + 1))).keeps k
 have t1:Looks (model prog w) ((h.push (qN9 us)).push (z91 C h.objs.size)) (typeOf (.ref (h.objs.size + 1))) (.ref C):=(Looks.ld hx).andThen .now
 unfold isInstance
 repeat (first | with_reducible refine wpAny_loadPart_at hx ?_ | (with_reducible refine wpAny_isSubtype_exc hC1 ?_; rw [cC]) | wp_step)
 show wpAny _ _ (isSubtype (.ref C) (.ref C)) _ _ ⟨(h.push (qN9 us)).push (z91 C h.objs.size),g,d,t,os⟩
 refine wpAny_isSubtype_exc hC1 ?_
 rw [cC]
 unfold callSpecial? specialOf
 simp only [Bool.not_true,Bool.false_eq_true,if_false]
 repeat (first | with_reducible refine wpAny_call ?_ | lk)
 refine codeAny_mono hq fun r s' z=>?_
 rcases r with e | (v | _ | _ | _) <;> first | exact z | exact z.elim | skip
 obtain ⟨rfl,z⟩:=z
 exact wpAny_pure (wpAny_pure z)
end
end L2
namespace L2
open PySem PySem.Spec PyProof.Rows
def qm3 (C:Addr) (dx:Option Addr) (tb:Value) (a0:Addr):Obj:={ cls:=.ref C,dict:=dx,data:=.fields #[.ref a0,tb,.none,.none,.bool false,.none] }
def XO (C:Addr) (dx:Option Addr) (tb:Value) (ea:Addr):HO:=.ext fun h=>∃ a0,h.get? ea=some (qm3 C dx tb a0)
def TB (fl:Value) (T:Addr):HO:=.ext fun h=>∃ o ts,h.get? T=some o/\o.data=.fields ts/\ts[3]? = some fl
section
variable {P:Program}{w:World}{H:Hp}{h:Heap}{C ea T:Addr}{dx:Option Addr}{tb fl:Value}
theorem XO.mk {a0:Addr}(e:h.get? ea=some (qm3 C dx tb a0)):ObjOk P w H h ea (XO C dx tb ea):=⟨⟨a0,e⟩,⟨_,e⟩,fun _ _ ⟨a,q⟩ k=>⟨a,k _ q⟩⟩
theorem TB.mk {o:Obj}{ts:Array Value}(e:h.get? T=some o) (d:o.data=.fields ts) (q:ts[3]? = some fl):ObjOk P w H h T (TB fl T):=⟨⟨o,ts,e,d,q⟩,⟨_,e⟩,fun _ _ ⟨o,ts,e,d,q⟩ k=>⟨o,ts,k _ e,d,q⟩⟩
theorem XO.at (ok:HOk P w H h) (e:H ea=some (XO C dx tb ea)):∃ a0,h.get? ea=some (qm3 C dx tb a0):=(ok ea _ e).1
theorem TB.at (ok:HOk P w H h) (e:H T=some (TB fl T)):∃ o ts,h.get? T=some o/\o.data=.fields ts/\ts[3]? = some fl:=(ok T _ e).1
theorem qO2 {a:Addr}{o:HO}(e:H a=some o):upd H a o=H:=by
 funext b
 unfold upd
 split
 ·rename_i z; subst z; exact e.symm
 ·rfl
end
section
variable {X:Cx}{pins:List (Addr×Obj)}{σ:St}{H:Hp}{s:Shared}{E:Value->Shared->Prop}{C ea T:Addr}{dx:Option Addr}{tb fl:Value}{A:Around}
theorem Inv.xset {i:Nat}{v tb':Value}{a0 a1:Addr}(I:Inv X pins σ H s) (e:H ea=some (XO C dx tb ea)) (q:s.heap.get? ea=some (qm3 C dx tb a0))
  (hv:(#[.ref a0,tb,.none,.none,.bool false,.none]:Array Value).setIfInBounds i v = #[.ref a1,tb',.none,.none,.bool false,.none]) :
  Inv X pins σ (upd H ea (XO C dx tb' ea)) { s with heap:=s.heap.update ea (Obj.mapFields (·.setIfInBounds i v)) }:=by
 have e1:(s.heap.update ea (Obj.mapFields (·.setIfInBounds i v))).get? ea=some (qm3 C dx tb' a1):=by
  rw [Heap.get?_update_self _ q rfl]
  show some ({ cls:=.ref C,dict:=dx,data:=.fields ((#[.ref a0,tb,.none,.none,.bool false,.none]:Array Value).setIfInBounds i v) }:Obj)=_
  rw [hv]; rfl
 exact I.write (t':=s.toks) (e:=ea) (by rw [e]; trivial) (.inl rfl) (fun b u hb z=>by rw [Heap.get?_update_other _ _ (Ne.symm hb)]; exact z) ⟨_,e1⟩ (XO.mk e1)
theorem Inv.tset {v:Value}{o:Obj}{ts:Array Value}(I:Inv X pins σ H s) (e:H T=some (TB fl T)) (q:s.heap.get? T=some o) (d:o.data=.fields ts) (h3:3 < ts.size) :
  Inv X pins σ (upd H T (TB v T)) { s with heap:=s.heap.update T (Obj.mapFields (·.setIfInBounds 3 v)) }:=by
 have d':=Obj.data_mapFields d (·.setIfInBounds 3 v)
 have e1:=Heap.get?_update_self (Obj.mapFields (·.setIfInBounds 3 v)) q (Obj.isFreed_of_fields d')
 exact I.write (t':=s.toks) (e:=T) (by rw [e]; trivial) (.inl rfl) (fun b u hb z=>by rw [Heap.get?_update_other _ _ (Ne.symm hb)]; exact z) ⟨_,e1⟩ (TB.mk e1 d' (by simp [h3]))
theorem Inv.slots {h':Heap}(I:Inv X pins σ H s) (hs:Heap.SlotsOnly (frs X.stack) s.heap h'):Inv X pins σ H { s with heap:=h' }:=by
 have un:Un (frs X.stack) [] H H s.heap h':=⟨fun b o e _ hb _=>(hs.2.1 b hb).trans e,fun b o e _ _ _=>hs.2.2 b o e,fun _ _ _ n _=>n,fun b o e _=>let ⟨sl,q⟩:=hs.2.2 b o e; ⟨_,q⟩,fun _ _ q=>q,fun _ _ _ q=>q,fun _ ps q=>⟨#[],by rw [q]; simp⟩⟩
 refine I.call (h':=h') (g':=s.gens) (d':=s.drawn) (t':=s.toks) (ch:=[]) un (fun b o e=>?_) I.bare fun b z=>absurd z (by simp)
 refine (I.hok b o e).stay (fun c u hc q=>(hs.2.1 c fun hb=>?_).trans q) (fun _ q=>q) fun _ _ q=>q
 have n:=I.stkFree c hb
 rcases hc with z | z
 ·rw [<- z,n] at e; cases e
 ·rw [n] at z; cases z
end
end L2
namespace L2
open PySem PySem.Spec PyProof.Rows
section
variable {X:Cx}{pins:List (Addr×Obj)}{σ:St}{H:Hp}{s:Shared}{E:Value->Shared->Prop}{C ea T:Addr}{dx:Option Addr}{tb fl:Value}{A:Around}
def TbOk (H:Hp) (tb:Value):Prop:=tb=.none∨∃ T,tb=.ref T/\H T=some (TB .none T)
def Noted (X:Cx) (pins:List (Addr×Obj)) (σ:St) (H:Hp) (C:Addr) (dx:Option Addr) (ea:Addr) (fl:Value) (s':Shared):Prop :=
 ∃ T,H T=none/\T≠ea/\Inv X pins σ (upd (upd H T (TB fl T)) ea (XO C dx (.ref T) ea)) s'
theorem qI7 {head:Value}{b:Bool}{Q:Unit->Shared->Prop}(hfr:X.A.frames=some (X.env :: X.outer)) (hst:X.stack=X.env :: X.outer) (hL:X.env.frame=some X.env.locals) (I:Inv X pins σ H s) (e:H ea=some (XO C dx tb ea))
  (h:∀ s',Noted X pins σ H C dx ea (rawInt X.env.locals) s'->Q () s') :
  wpAny (model X.prog X.w) X.A (do let a <- frameOf X.env; let pl <- entryPlaceOf X.env.locals b; let r <- EntryCells.newEntry head a .none (rawInt X.env.locals) .none pl; setField (.ref ea) 1 r) Q E s:=by
 have hl:=I.stack
 rw [hst] at hl
 refine wpAny_bind (wpAny_frameOf_fun hfr hl hL fun h1 hs1=>?_)
 have I1:=I.slots (h':=h1) (by rw [hst]; exact hs1)
 refine wpAny_bind (wpAny_entryPlaceOf fun pl hpl=>?_)
 unfold EntryCells.newEntry newFields
 refine wpAny_bind (wpAny_newObj_type ?_ (hpl.sizeOk5 _ _ _ _ _))
 have fresh:H h1.objs.size=none:=I1.hok.fresh (Nat.le_refl _)
 have ne:h1.objs.size≠ea:=fun z=>by rw [<- z,fresh] at e; cases e
 have t3:(([head,.ref X.env.locals,.none,rawInt X.env.locals,.none] ++ (if pl.isEmpty then List.replicate 6 Value.none else pl)).toArray:Array Value)[3]? = some (rawInt X.env.locals):=by simp
 have I2:Inv X pins σ (upd H h1.objs.size (TB (rawInt X.env.locals) h1.objs.size)) { s with heap:=h1.push { cls:=.type "traceback",dict:=none,data:=.fields ([head,.ref X.env.locals,.none,rawInt X.env.locals,.none] ++ (if pl.isEmpty then List.replicate 6 Value.none else pl)).toArray } } :=
  I1.laid (a:=h1.objs.size) (t':=s.toks) (fun c u q=>Heap.get?_push_of_some _ q) (Nat.le_refl _) (TB.mk (Heap.get?_push_size _ rfl) rfl t3)
 have e2:(upd H h1.objs.size (TB (rawInt X.env.locals) h1.objs.size)) ea=some (XO C dx tb ea):=by rw [q08 (Ne.symm ne)]; exact e
 obtain ⟨a0,q⟩:=XO.at I2.hok e2
 refine wpAny_setField q rfl (by show 1 < 6; decide) (h _ ⟨h1.objs.size,fresh,ne,I2.xset (i:=1) (a1:=a0) e2 q rfl⟩)
theorem qU7 {Q:Unit->Shared->Prop}(hst:X.stack=X.env :: X.outer) (hL:X.env.frame=some X.env.locals) (I:Inv X pins σ H s) (e:H ea=some (XO C dx tb ea)) (ht:TbOk H tb)
  (h:∀ s',Noted X pins σ H C dx ea (rawInt X.env.locals) s'->Q () s'):wpAny (model X.prog X.w) X.A (noteFrame (.ref ea) X.env) Q E s:=by
 have hfr:X.A.frames=some (X.env :: X.outer):=by rw [I.ok.frames,hst]
 obtain ⟨a0,q⟩:=XO.at I.hok e
 unfold noteFrame
 simp only [hL]
 refine wpAny_bind (wpAny_field q (x:=tb) rfl rfl ?_)
 rcases ht with z | ⟨T,z,eT⟩
 ·subst z
  rw [if_neg (by decide)]
  exact qI7 hfr hst hL I e h
 ·subst z
  obtain ⟨oT,ts,qT,dT,t3⟩:=TB.at I.hok eT
  rw [if_pos (show (Value.ref T != Value.none)=true by simp)]
  refine wpAny_bind (wpAny_field qT dT t3 ?_)
  rw [if_neg (show ¬ ((Value.none == rawInt X.env.locals)=true) by simp [rawInt])]
  have h3:3 < ts.size:=(Array.getElem?_eq_some_iff.mp t3).1
  have I1:=I.tset (v:=Value.none) eT qT dT h3
  rw [qO2 eT] at I1
  exact wpAny_bind (wpAny_setField qT dT h3 (qI7 hfr hst hL I1 e h))
theorem qs1 {Q:Unit->Shared->Prop}(I:Inv X pins σ H s) (e:H ea=some (XO C dx (.ref T) ea)) (eT:H T=some (TB fl T)) (h:∀ s',Inv X pins σ (upd H T (TB .none T)) s'->Q () s') :
  wpAny (model X.prog X.w) A (setFlight (.ref ea) none) Q E s:=by
 obtain ⟨a0,q⟩:=XO.at I.hok e
 obtain ⟨oT,ts,qT,dT,t3⟩:=TB.at I.hok eT
 unfold setFlight
 refine wpAny_bind (wpAny_field q (x:=.ref T) rfl rfl ?_)
 rw [if_pos (show (Value.ref T != Value.none)=true by simp)]
 have h3:3 < ts.size:=(Array.getElem?_eq_some_iff.mp t3).1
 exact wpAny_setField qT dT h3 (h _ (I.tset (v:=Value.none) eT qT dT h3))
def z87 (ea:Addr) (H H':Hp):Prop:=∀ b o,b≠ea->H b=some o->H' b=some o
theorem qJ6 {Q:Unit->Shared->Prop}(hst:X.stack=X.env :: X.outer) (hL:X.env.frame=some X.env.locals) (I:Inv X pins σ H s) (e:H ea=some (XO C dx tb ea)) (ht:TbOk H tb)
  (h:∀ s' T H',Inv X pins σ H' s'->H' ea=some (XO C dx (.ref T) ea)->H' T=some (TB .none T)->z87 ea H H'->Q () s'):wpAny (model X.prog X.w) X.A (leaving X.env (.ref ea)) Q E s:=by
 unfold leaving
 refine wpAny_bind (qU7 hst hL I e ht fun s1 ⟨T,n,ne,I1⟩=>?_)
 have e1:upd (upd H T (TB (rawInt X.env.locals) T)) ea (XO C dx (.ref T) ea) ea=some (XO C dx (.ref T) ea):=q01
 have e2:upd (upd H T (TB (rawInt X.env.locals) T)) ea (XO C dx (.ref T) ea) T=some (TB (rawInt X.env.locals) T):=by rw [q08 ne,q01]
 refine qs1 I1 e1 e2 fun s2 I2=>h s2 T _ I2 (by rw [q08 (Ne.symm ne)]; exact e1) q01 fun b o hb q=>?_
 have hT:b≠T:=q19 q n
 rw [q08 hT,q08 hb,q08 hT]
 exact q
def CXE (P:Program) (w:World):CXT:=fun outer H s E e s'=>∃(ea C dx:Addr) (tb:Value) (H0 H':Hp),e=.ref ea/\s'.os=s.os/\AllBare s'.gens/\Un (frs outer) [] H H' s.heap s'.heap/\HOk P w H' s'.heap /\
 H' ea=some (XO C (some dx) tb ea)/\TbOk H' tb/\z87 ea H0 H'/\H0 ea=none/\E (.ref C) (some dx) H0
end
theorem q43 {P:Program}{w:World}{K:PySem.W.Frag}{mg:Str->Option Value}{base:Heap}{N:List Str}{qual:Str}{scope:Scope}{f:Addr}{cd:Value}{A:Around}{outer:List Env}{s:Shared}{H:Hp}{E:XK} :
  q94 (CXE P w) (qD7 (CXE P w) P w K mg base N qual scope f cd A outer s H E) E:=by
 intro pins σ H1 s1 e s2 I h
 obtain ⟨ea,C,dx,tb,H0,H2,rfl,os,bare,un,hok,e1,ht,sx,n0,q⟩:=h
 have J:Inv (qD7 (CXE P w) P w K mg base N qual scope f cd A outer s H E) pins σ H2 s2:=I.call' (ch:=[]) os un hok bare fun b z=>absurd z (by simp)
 refine qJ6 (X:=qD7 (CXE P w) P w K mg base N qual scope f cd A outer s H E) rfl rfl J e1 ht fun s3 T H3 J3 e3 eT sx3=>?_
 exact ⟨ea,C,dx,.ref T,H0,H3,rfl,J3.os,J3.bare,J3.base,J3.hok,e3,.inr ⟨T,rfl,eT⟩,fun b o hb z=>sx3 b o hb (sx b o hb z),n0,q⟩
end L2
namespace L2
open PySem PySem.Spec
structure XCl (K:PySem.W.Frag) (C:Addr):Prop where
 obj:∃(nm q:Str) (N:Addr) (bs bm:List Value) (sn:List Str) (sub:List Value) (ab:Bool) (col:Option Bool) (dd:Option Addr) (k0 k1 k2 k3 k5:Option Value),
  K.lookup C=some (excClassObj nm q C N bs bm true sn sub ab col dd k0 k1 k2 k3 k5 "ValueError.__new__")/\XBases bm
section
variable {M:Model}{A:Around}{E:Value->Shared->Prop}{env:Env}{h:Heap}{g:Array GenState}{d:Drawn}{t:Nat}{os:OsState}
variable {nm q:Str}{C N:Addr}{bs bm:List Value}{hdct:Bool}{sn:List Str}{sub:List Value}{ab:Bool}{col:Option Bool}{dd:Option Addr}{k0 k1 k2 k3 k5:Option Value}{ea a0:Addr}{dx:Option Addr}
theorem x_raise {Q:Flow->Shared->Prop}(B:XBases bm) (hh:A.handled=none) (hC:h.get? C=some (excClassObj nm q C N bs bm hdct sn sub ab col dd k0 k1 k2 k3 k5 "ValueError.__new__"))
  (he:h.get? ea=some (qm3 C dx .none a0)) (hE:E (.ref ea) ⟨h,g,d,t,os⟩):wpAny M A (raiseStmt env (some (pure (.ref ea))) none) Q E ⟨h,g,d,t,os⟩:=by
 have c1:(Value.ref C :: bm).contains (.type "BaseException")=true:=by rw [List.contains_cons,B.be,Bool.or_true]
 have hc:(qm3 C dx .none a0).cls=.ref C:=rfl
 unfold raiseStmt
 refine wpAny_bind (wpAny_pure ?_)
 repeat (first | (with_reducible refine wpAny_loadPart_at he ?_; try rw [hc]) | with_reducible refine wpAny_loadPart_at hC ?_ | (with_reducible refine wpAny_isSubtype_exc hC ?_; rw [c1]) | wp_step)
 exact wpAny_raiseNew_none hh hE
theorem qz2 {oe:Obj}{us:List Value}{Q:Unit->Shared->Prop}(B:XBases bm) (hC:h.get? C=some (excClassObj nm q C N bs bm hdct sn sub ab col dd k0 k1 k2 k3 k5 "ValueError.__new__"))
  (he:h.get? ea=some oe) (hc:oe.cls=.ref C) (hq:Q () ⟨h,g,d,t,os⟩):wpAny M A (checkBuiltinCall "ValueError.__init__" ⟨.ref ea :: us,[]⟩) Q E ⟨h,g,d,t,os⟩:=by
 have FV:=PySem.F.excBase_ValueError
 have c1:(Value.ref C :: bm).contains (.type "ValueError")=true:=by rw [List.contains_cons,B.ve,Bool.or_true]
 have c2:=FV.noStar
 simp only [checkBuiltinCall,FV.initKind,FV.initSplit,FV.initRow]
 repeat (first | (with_reducible refine wpAny_loadPart_at he ?_; rw [hc]) | with_reducible refine wpAny_loadPart_at hC ?_ | (with_reducible refine wpAny_isSubtype_exc hC ?_; rw [c1]) | wp_step)
 refine wpAny_onRaise ?_
 have z:∀(a b:String) (n:Nat),Bind.check ⟨.positional, "*", "ValueError",.self,[⟨"args",.varPos,false⟩]⟩ a b n (List.map (fun x=>x.fst) ({ pos:=Value.ref ea :: us }:Args).kw)=pure ():=fun a b n=>check_star_args _ _ _ _ _ _
 rw [z]
 exact wpAny_pure hq
end
section
variable {prog:Program}{w:World}{A:Around}{E:Value->Shared->Prop}{env:Env}{h:Heap}{g:Array GenState}{d:Drawn}{t:Nat}{os:OsState}
variable {nm q:Str}{C N:Addr}{bs bm:List Value}{hdct:Bool}{sn:List Str}{sub:List Value}{ab:Bool}{col:Option Bool}{dd:Option Addr}{k0 k1 k2 k3 k5:Option Value}{ea a0:Addr}{dx:Option Addr}{tb:Value}
theorem x_init {us:List Value}{Q:Value->Shared->Prop}(B:XBases bm) (hC:h.get? C=some (excClassObj nm q C N bs bm hdct sn sub ab col dd k0 k1 k2 k3 k5 "ValueError.__new__"))
  (he:h.get? ea=some (qm3 C dx tb a0)) (hus:us.length<=sizeLine) (hq:Q .none ⟨(h.push (qN9 us)).update ea (Obj.mapFields (·.setIfInBounds 0 (.ref h.objs.size))),g,d,t,os⟩) :
  wpAny (model prog w) A (call (.builtin "ValueError.__init__") (.ref ea :: us)) Q E ⟨h,g,d,t,os⟩:=by
 have FV:=PySem.F.excBase_ValueError
 refine wpAny_call (codeAny_call_builtin FV.init.plain FV.initEntry (qz2 B hC he rfl ?_))
 have he2:=Heap.get?_push_of_some (qN9 us) he
 wp_walk
 exact hq
theorem x_set {name:Str}{v:Value}{Q:Unit->Shared->Prop}(B:XBases bm) (hC:h.get? C=some (excClassObj nm q C N bs bm true sn sub ab col dd k0 k1 k2 k3 k5 "ValueError.__new__"))
  (hx:h.get? ea=some (qm3 C none tb a0)) (sa:PySem.W.Looks (model prog w) h (typeLookup (.ref C) "__setattr__") (some (.builtin "object.__setattr__"))) (na:PySem.W.Looks (model prog w) h (typeLookup (.ref C) name) none)
  (hq:∀ h' t',h'.Ns1 h.objs.size (fun y=>if y=name then some v else none)->h'.get? ea=some (qm3 C (some h.objs.size) tb a0)->(∀ b o,b≠ea->h.get? b=some o->h'.get? b=some o)->Q () ⟨h',g,d,t',os⟩) :
  wpAny (model prog w) A (setAttr (.ref ea) name v) Q E ⟨h,g,d,t,os⟩:=by
 have SF:=PySem.F.store_ValueError
 have ty:PySem.W.Looks (model prog w) h (typeOf (.ref ea)) (.ref C):=(PySem.W.Looks.ld hx).andThen .now
 have mro:PySem.W.Looks (model prog w) h (mroOf (.ref C)) (.ref C :: bm):=((PySem.W.Looks.ld (part:=none) hC).andThen .now).andThen .now
 have sub:PySem.W.Looks (model prog w) h (isSubtype (.ref C) (.type "object")) true:=by
  intro A' Q' E' s' k q
  obtain ⟨h2,g2,d2,t2,os2⟩:=s'
  refine wpAny_isSubtype_exc (k _ _ hC) ?_
  rw [List.contains_cons,B.ob,Bool.or_true]
  exact q
 have ins:PySem.W.Looks (model prog w) h (isInstance (.ref ea) (.type "object")) true:=ty.andThen sub
 refine wpAny_bind (wpAny_mkText (wpAny_bind (wpAny_bind (wpAny_bind (ty _ _ _ _ (fun _ _ e=>e) (sa _ _ _ _ (fun _ _ e=>e) (wpAny_holding ?_)))))))
 rw [SF.slot.bind]
 refine wpAny_bind (wpAny_pure (wpAny_bind (wpAny_call ?_)))
 refine codeAny_call_builtin SF.slot.plain SF.entry (@PySem.W.check_slot (model prog w) _ _ ⟨h,g,d,t + 1,os⟩ "object.__setattr__" "object" "__setattr__" (.ref ea) [.str name t,v] [] _ SF.kind SF.split ins (SF.args (.ref ea) (.str name t) v) ?_)
 show wpAny (model prog w) A.in1 (Builtin.«object.__setattr__» ⟨[.ref ea,.str name t,v],[]⟩) _ _ _
 rw [PySem.W.osa_eq,refuse_eq]
 refine wpAny_bind (wpAny_bind (ty.here (wpAny_bind (mro.here ?_))))
 rw [refuseLoop_ref,B.rf]
 refine wpAny_pure (wpAny_bind (ty.here (wpAny_bind (na.here (wpAny_bind (wpAny_pure ?_))))))
 show wpAny _ _ (Builtin.ObjectAttr.storeInOwnDict (.ref ea) (.ref C) (.str name t) name v false) _ _ _
 unfold Builtin.ObjectAttr.storeInOwnDict
 refine wpAny_bind (wpAny_pure (wpAny_bind (wpAny_bind (wpAny_loadPart hx ?_))))
 show wpAny _ _ (classData C >>= fun cd=>if (!cd.hasDict)=true then pure none else (alloc { cls:=Value.type "dict",data:=Data.dict #[] } >>= fun e=>update ea (fun o=>{ cls:=o.cls,dict:=some e,data:=o.data,slots:=o.slots }) >>= fun _=>pure (some e))) _ _ _
 refine wpAny_bind (wpAny_bind (wpAny_load hC (wpAny_pure ?_)))
 rw [if_neg (show ¬ (!true)=true by decide)]
 have hx1:(h.push { cls:=Value.type "dict",data:=Data.dict #[] }).get? ea=some (qm3 C none tb a0):=Heap.get?_push_of_some _ hx
 have ne:ea≠h.objs.size:=Nat.ne_of_lt (Heap.lt_size hx)
 refine wpAny_bind (wpAny_alloc (wpAny_bind (wpAny_update hx1 (wpAny_pure ?_))))
 have hu:((h.push { cls:=Value.type "dict",data:=Data.dict #[] }).update ea fun o=>{ cls:=o.cls,dict:=some h.objs.size,data:=o.data,slots:=o.slots }).get? ea=some (qm3 C (some h.objs.size) tb a0):=Heap.get?_update_self _ hx1 rfl
 have hd:((h.push { cls:=Value.type "dict",data:=Data.dict #[] }).update ea fun o=>{ cls:=o.cls,dict:=some h.objs.size,data:=o.data,slots:=o.slots }).get? h.objs.size=some { cls:=Value.type "dict",data:=Data.dict #[] } :=
  (Heap.get?_update_other _ _ ne).trans (Heap.get?_push_size _ rfl)
 have hn:((h.push { cls:=Value.type "dict",data:=Data.dict #[] }).update ea fun o=>{ cls:=o.cls,dict:=some h.objs.size,data:=o.data,slots:=o.slots }).Ns h.objs.size (fun _=>none) :=
  ⟨_,#[],_,hd,rfl,fun e he=>absurd he (by simp),fun _=>rfl⟩
 show wpAny _ _ (Builtin.ObjectAttr.storeInDict h.objs.size (.str name t) name v) _ _ _
 unfold Builtin.ObjectAttr.storeInDict Builtin.ObjectAttr.newKeyGuard
 refine wpAny_bind (wpAny_pure (wpAny_bind (wpAny_nsSet1 (Heap.Ns1.of_empty hn) fun h2 hn2 sb=>?_)))
 obtain ⟨oD,esD,epD,hoD,hdD,hcD⟩:=hn2.count (Within.cons name v Within.nil)
 refine wpAny_bind (wpAny_lookBehind hoD (by rw [hdD]; exact pastItsLine_dict (Nat.le_trans hcD (by rw [List.length_singleton,sizeLine_eq]; omega))) ?_)
 refine wpAny_pure (wpAny_pure (wpAny_pure ?_))
 exact hq h2 _ hn2 ((sb.2 ea ne).trans hu) fun b o hb e=>(sb.2 b (Nat.ne_of_lt (Heap.lt_size e))).trans ((Heap.get?_update_other _ _ (Ne.symm hb)).trans (Heap.get?_push_of_some _ e))
theorem x_get {dx:Addr}{name:Str}{v:Value}{m:Str->Option Value}{expr:Bool}{Q:Value->Shared->Prop}(B:XBases bm) (hC:h.get? C=some (excClassObj nm q C N bs bm true sn sub ab col dd k0 k1 k2 k3 k5 "ValueError.__new__"))
  (hx:h.get? ea=some (qm3 C (some dx) tb a0)) (hm:h.Ns dx m) (hv:m name=some v) (ga:PySem.W.Looks (model prog w) h (typeLookup (.ref C) "__getattribute__") (some (.builtin "BaseException.__getattribute__")))
  (gn:PySem.W.Looks (model prog w) h (typeLookup (.ref C) "__getattr__") none) (na:PySem.W.Looks (model prog w) h (typeLookup (.ref C) name) none) (hh:PySem.W.handedIn v=true)
  (hq:∀ t',Q v ⟨h,g,d,t',os⟩):wpAny (model prog w) A (getAttr (.ref ea) name expr) Q E ⟨h,g,d,t,os⟩:=by
 have FX:=PySem.F.attr_ValueError
 have ty:PySem.W.Looks (model prog w) h (typeOf (.ref ea)) (.ref C):=(PySem.W.Looks.ld hx).andThen .now
 have sub:PySem.W.Looks (model prog w) h (isSubtype (.ref C) (.type "BaseException")) true:=by
  intro A' Q' E' s' k q
  obtain ⟨h2,g2,d2,t2,os2⟩:=s'
  refine wpAny_isSubtype_exc (k _ _ hC) ?_
  rw [List.contains_cons,B.be,Bool.or_true]
  exact q
 have ins:PySem.W.Looks (model prog w) h (isInstance (.ref ea) (.type "BaseException")) true:=ty.andThen sub
 have fnd:PySem.W.Looks (model prog w) h (Builtin.ObjectAttr.find (.ref ea) (.ref C) name) (.value v):=by
  intro A' Q' E' s' k q
  unfold Builtin.ObjectAttr.find
  refine wpAny_bind (na _ _ _ _ k (wpAny_bind (wpAny_pure (wpAny_bind (wpAny_pure ?_)))))
  show wpAny _ _ (Builtin.ObjectAttr.ownThenClass (.ref ea) name none none) _ _ _
  unfold Builtin.ObjectAttr.ownThenClass
  refine wpAny_bind (wpAny_bind (wpAny_bind (wpAny_loadPart (k _ _ hx) ?_)))
  show wpAny _ _ (instanceDict ea false) _ _ _
  refine wpAny_bind (wpAny_loadPart (k _ _ hx) ?_)
  show wpAny _ _ (classData C >>= fun cd=>if (!cd.hasDict)=true then pure none else pure (some dx)) _ _ _
  refine wpAny_bind (wpAny_bind (wpAny_load (k _ _ hC) (wpAny_pure ?_)))
  rw [if_neg (show ¬ (!true)=true by decide)]
  refine wpAny_pure ?_
  show wpAny _ _ (nsGet dx name) _ _ _
  refine wpAny_nsGet (hm.keeps k) ?_
  rw [hv]
  exact wpAny_bind (wpAny_rule (wpAny_pure q))
 unfold getAttr getAttrBy
 refine wpAny_bind (wpAny_mkText (wpAny_holding (wpAny_bind (ty _ _ _ _ (fun _ _ e=>e) (wpAny_bind (ga _ _ _ _ (fun _ _ e=>e) ?_))))))
 have n1:(onTheHeap (Value.ref C) && Value.builtin "BaseException.__getattribute__" == Value.builtin "object.__getattribute__")=false:=by
  rw [show (Value.builtin "BaseException.__getattribute__" == Value.builtin "object.__getattribute__")=false by decide +kernel,Bool.and_false]
 show wpAny _ _ (if (onTheHeap (Value.ref C) && Value.builtin "BaseException.__getattribute__" == Value.builtin "object.__getattribute__")=true then _ else _) _ _ _
 rw [if_neg (by rw [n1]; decide)]
 unfold getAttrByItsOwn
 refine wpAny_bind (show wpAny _ _ (hookBefore (.ref C)) _ _ _ from gn _ _ _ _ (fun _ _ e=>e) (wpAny_bind (wpAny_attempt (wpAny_holding ?_))))
 unfold callGetattribute
 have n2:(expr && onTheHeap (Value.builtin "BaseException.__getattribute__"))=false:=by cases expr <;> rfl
 rw [n2,if_neg (by decide)]
 unfold boundAndCalled
 rw [FX.ga.bind]
 refine wpAny_bind (wpAny_pure (wpAny_call ?_))
 refine codeAny_call_builtin FX.ga.plain F.entry_bexc_ga (@PySem.W.check_slot (model prog w) _ _ ⟨h,g,d,t + 1,os⟩ "BaseException.__getattribute__" "BaseException" "__getattribute__" (.ref ea) [.str name t] [] _ (by decide +kernel) (by decide +kernel) ins (F.args_bexc_ga (.ref ea) (.str name t)) ?_)
 show wpAny (model prog w) A.in1 (Builtin.«object.__getattribute__» ⟨[.ref ea,.str name t],[]⟩) _ _ _
 unfold Builtin.«object.__getattribute__»
 refine wpAny_bind (wpAny_pure (wpAny_bind (wpAny_pure (wpAny_bind (ty.here (wpAny_bind (fnd.here (wpAny_pure ?_))))))))
 show wpAny _ _ (handedOut v) _ _ _
 rw [PySem.W.handedOut_of hh]
 exact wpAny_pure (hq _)
end
end L2
namespace L2
open PySem PySem.Spec PyProof.Rows
structure XKl (K:PySem.W.Frag) (C:Addr):Prop extends XCl K C where
 sa:PySem.W.findIn K (.ref C) "__setattr__" = some (some (.builtin "object.__setattr__"))
 ga:PySem.W.findIn K (.ref C) "__getattribute__" = some (some (.builtin "BaseException.__getattribute__"))
 gn:PySem.W.findIn K (.ref C) "__getattr__" = some none
 nw:PySem.W.findIn K (.ref C) "word" = some none
structure XMk (K:PySem.W.Frag) (C f:Addr):Prop where
 init:PySem.W.findIn K (.ref C) "__init__" = some (some (.ref f))
 fn:PySem.W.isFn K (.ref f)=true
 kp:PySem.W.keepIn K (.ref C)=true
def tXMake (C:Addr) (sp:Sp) (E:XK):TE:=fun _ H Q=>∀ ea,H ea=none->sp [.ref ea] (upd H ea (XO C none .none ea)) (fun v H2=>v=.non/\Q (.ref ea) H2) E
section
variable {X:Cx}{CX:CXT}{k:Nat}{f C:Addr}{fd:FuncData}{ps:List Str}{sp:Sp}{E:XK}{x:Str}{p pos apos pos':Pos}{e o value:Expr}{ta tv te:TE}{t:TA}
theorem qb6 (XC:XKl X.K C) (M:XMk X.K C f) (F:FnOk X.prog X.w X.K X.mg X.base CX k f fd ps sp) (hr:Room (k + 1) X.A) (hg:Gl X x) (hm:X.mg x=some (.ref C)) (hb:Binds X.K fd ps []) (hx:q94 CX X E)
  (hdb:(x == ("__debug__" : Str))=false:=by decide):PE X (.Call (.Name x p) [] [] pos) (tXMake C sp E):=by
 intro pins s σ H Q I h
 obtain ⟨nm,q,N,bs,bm,sn,sub,ab,col,dd,k0,k1,k2,k3,k5,lk,B⟩:=XC.obj
 refine wpAny_Call_Name_kw (qj0 I hg hm ?_ hdb)
 refine PySem.W.callWith_K0 I.kIn M.kp (wpAny_call ?_)
 have I1:Inv X pins σ H { s with heap:=s.heap.push (qN9 []) }:=I.kept (t':=s.toks) fun b o e=>Heap.get?_push_of_some _ e
 have I2:Inv X pins σ (upd H (s.heap.objs.size + 1) (XO C none .none (s.heap.objs.size + 1))) { s with heap:=(s.heap.push (qN9 [])).push (z91 C s.heap.objs.size) }:=by
  refine I1.laid (a:=s.heap.objs.size + 1) (t':=s.toks) (fun b o e=>Heap.get?_push_of_some _ e) (Nat.le_of_eq (Heap.size_push ..)) (XO.mk (a0:=s.heap.objs.size) ?_)
  exact Heap.get?_push_at (by rw [Heap.size_push]) rfl
 have hq:=h (s.heap.objs.size + 1) (I.hok.fresh (Nat.le_succ _))
 have hl:[Value.ref (s.heap.objs.size + 1)].length=ps.length:=by have:=F.len _ _ _ _ hq; simpa using this
 have hl2:([Value.ref (s.heap.objs.size + 1)] ++ []).length=ps.length:=by rw [List.append_nil]; exact hl
 obtain ⟨hh,g,d,t,os⟩:=s
 refine x_make (us:=[]) B (I.kIn _ _ lk) (PySem.W.looks_findIn I.kIn M.init) (fun self=>PySem.W.bind_fn I.kIn self (beq_iff_eq.mp M.fn)) (Nat.zero_le _) ?_
 refine codeAny_mono (F.run _ X.stack _ _ ⟨[Value.ref (hh.objs.size + 1)],[]⟩ ([Value.ref (hh.objs.size + 1)] ++ []) [V.ref (hh.objs.size + 1)] _ E (hr.make C [] []) (I2.env0.make C [] []) (hb _ [Value.ref (hh.objs.size + 1)] I2.kIn hl2) (.cons rfl .nil) hq) fun r s' hq'=>?_
 cases r with
 | error e=>exact hx pins σ _ _ e s' I2 hq'
 | ok fl =>
  cases fl with
  | ret u =>
   obtain ⟨v,H',I3,rv,ev,q3⟩:=I2.after hq'
   subst ev
   exact ⟨rv,⟨V.ref (hh.objs.size + 1),H',I3,rfl,q3⟩⟩
  | next=>exact False.elim hq'
  | brk=>exact False.elim hq'
  | cont=>exact False.elim hq'
def tVInit (K:PySem.W.Frag) (t:TA):TE:=fun σ H Q=>t σ H fun vs H2=>∃ ea C dx tb y,vs=[.ref ea,y]/\H2 ea=some (XO C dx tb ea)/\XKl K C/\Q .non H2
theorem ve_find:PySem.W.findCls [] (.type "ValueError") (.type "type") "__init__" = some (.val (.builtin "ValueError.__init__")):=by kernel_rfl
theorem z32 {a b:Expr}{pl:Sem Bool}(hg:Gl X "ValueError") (hm:X.mg "ValueError" = none) (ha:PA X [a,b] t)
  (hst:starEach [a,b] X.env=(false,eval a X.env) :: starEach [b] X.env:=by rfl) (hpl:(backTo pos (starEach [b] X.env)).any (·.1)=false:=by rfl)
  (ht:eval (.Call (.Attribute (.Name "ValueError" p) "__init__" apos) [a,b] [] pos) X.env=(do
   let ov <- eval (.Name "ValueError" p) X.env
   standAt apos.atName
   let (f,first) <- holding [ov] (getMethod ov "__init__" pl)
   callWith pos f first (backTo pos (starEach [a,b] X.env)) (backToKw pos (keywordEach [] X.env))):=by rfl) :
  PE X (.Call (.Attribute (.Name "ValueError" p) "__init__" apos) [a,b] [] pos) (tVInit X.K t):=by
 intro pins s σ H Q I h
 refine PySem.W.methodCall_KW (pl:=pl) (qk5 I hg hm (u:=.type "ValueError") (by rfl) ?_) ht
 obtain ⟨m,fr⟩:=I.fr
 refine PySem.W.method_type fr I.mod.kin (by kernel_rfl) (by decide +kernel) (show PySem.W.findCls X.K (.type "ValueError") (.type "type") "__init__" = some (.val (.builtin "ValueError.__init__")) from ve_find) (by rfl) ?_
 have I0:=I.tok (s.toks + 1)
 refine PyProof.Rows.callWith_builtin1 (thn (ha pos pins _ σ H _ I0 h) fun us s1 ⟨vs,H1,I1,r1,q1⟩=>?_) hst hpl
 obtain ⟨ea,C,dx,tb,y,rfl,e1,XC,q⟩:=q1
 obtain ⟨u,v,rfl,ru,rv⟩:=r1.two
 cases ru
 obtain ⟨nm,qn,N,bs,bm,sn,sub,ab,col,dd,k0,k1,k2,k3,k5,lk,B⟩:=XC.obj
 obtain ⟨a0,ea1⟩:=XO.at I1.hok e1
 have I2:Inv X pins σ H1 { s1 with heap:=s1.heap.push (qN9 [v]) }:=I1.kept (t':=s1.toks) fun b o e=>Heap.get?_push_of_some _ e
 have I3:=I2.xset (i:=0) (v:=.ref s1.heap.objs.size) (a1:=s1.heap.objs.size) e1 (Heap.get?_push_of_some _ ea1) rfl
 rw [qO2 e1] at I3
 obtain ⟨hh,g,d,tt,os⟩:=s1
 exact x_init (us:=[v]) B (I1.kIn _ _ lk) ea1 (by show 1<=sizeLine; rw [sizeLine_eq]; omega) ⟨.non,H1,I3,rfl,q⟩
end
end L2
namespace L2
open PySem PySem.Spec PyProof.Rows
structure XAt (K:PySem.W.Frag) (C:Addr) (m:Str) (f:Addr):Prop where
 ga:PySem.W.specialIn K (.ref C) "__getattribute__" = some (some (.builtin "type.__getattribute__"))
 rd:PySem.W.readsIn K C (.type "type")=true
 fd:PySem.W.findCls K (.ref C) (.type "type") m=some (.val (.ref f))
 kp:PySem.W.keepIn K (.ref f)=true
section
variable {X:Cx}{CX:CXT}{k:Nat}{f C:Addr}{fd:FuncData}{ps:List Str}{sp:Sp}{E:XK}{x m:Str}{p pos apos pos':Pos}{e o value:Expr}{es:List Expr}{ta tv te:TE}{t:TA}
theorem qh0 {pl:Sem Bool}(Z:XAt X.K C m f) (F:FnOk X.prog X.w X.K X.mg X.base CX k f fd ps sp) (hr:Room k X.A) (hg:Gl X x) (hm:X.mg x=some (.ref C)) (hb:Binds X.K fd ps []) (hx:q94 CX X E) (ha:PA X (e :: es) t)
  (hst:starEach (e :: es) X.env=(false,eval e X.env) :: starEach es X.env:=by rfl) (hpl:(backTo pos (starEach es X.env)).any (·.1)=false:=by rfl) (hdb:(x == ("__debug__" : Str))=false:=by decide)
  (ht:eval (.Call (.Attribute (.Name x p) m apos) (e :: es) [] pos) X.env=(do
   let ov <- eval (.Name x p) X.env
   standAt apos.atName
   let (f,first) <- holding [ov] (getMethod ov m pl)
   callWith pos f first (backTo pos (starEach (e :: es) X.env)) (backToKw pos (keywordEach [] X.env))):=by rfl) :
  PE X (.Call (.Attribute (.Name x p) m apos) (e :: es) [] pos) (qL6 sp [] E t):=by
 intro pins s σ H Q I h
 refine PySem.W.methodCall_KW (pl:=pl) (qj0 I hg hm ?_ hdb) ht
 refine PySem.W.method_cls I.kIn Z.ga (PySem.W.cls_value I.kIn Z.rd Z.fd (by rfl) ?_)
 have I0:=I.tok (s.toks + 1)
 refine PySem.W.callWith_K (first:=[]) (h₀:=X.base) I.ok.mod.kin Z.kp (thn (ha pos pins _ σ H _ I0 h) fun us s1 ⟨vs,H1,I1,r,q⟩=>⟨I1.kIn,?_⟩) hst hpl
 exact qH7 F hr hb .nil hx I1 r q
def sXFld (K:PySem.W.Frag) (ta tv:TE) (n:Str):TS:=fun D σ H=>tv σ H fun y H1=>ta σ H1 fun x H2=>∃ ea C tb,x=.ref ea/\H2 ea=some (XO C none tb ea)/\XKl K C/\PySem.W.findIn K (.ref C) n=some none /\
 ∀ dx,H2 dx=none->D.nx σ (upd (upd H2 ea (XO C (some dx) tb ea)) dx (.xd [(n,y)]))
theorem ps_xfld {n:Str}(ha:PE X o ta) (hv:PE X value tv) (hs:swapsWith value (some (.Attribute o n pos')) pos.line X.env=pure false:=by rfl):PS X (.Assign [.Attribute o n pos'] value pos) (sXFld X.K ta tv n):=by
 intro pins s σ H D I h
 refine plainObj_wpAny_Assign_Attribute (thn (hv pins s σ H _ I h) fun u s1 ⟨y,H1,I1,ry,q⟩=>thn (ha pins s1 σ H1 _ I1 q) fun ov s2 ⟨x,H2,I2,rx,ea,C,tb,ex,e1,XC,nw,q2⟩=>?_) hs
 subst ex
 obtain rfl:ov=Value.ref ea:=rx
 obtain ⟨nm,qn,N,bs,bm,sn,sub,ab,col,dd,k0,k1,k2,k3,k5,lk,B⟩:=XC.obj
 obtain ⟨a0,q1⟩:=XO.at I2.hok e1
 have fresh:H2 s2.heap.objs.size=none:=I2.hok.fresh (Nat.le_refl _)
 have ne:ea≠s2.heap.objs.size:=fun z=>by rw [z,fresh] at e1; cases e1
 have K2:=I2.kIn
 obtain ⟨hh,g,d,tt,os⟩:=s2
 refine x_set (name:=n) (v:=u) B (K2 _ _ lk) q1 (PySem.W.looks_findIn K2 XC.sa) (PySem.W.looks_findIn K2 nw) fun h' t' hn hx hk=>?_
 have lt:ea < hh.objs.size:=Heap.lt_size q1
 have un:Un X.fs [] H2 (upd (upd H2 ea (XO C (some hh.objs.size) tb ea)) hh.objs.size (.xd [(n,y)])) hh h':=by
  have ntr:∀ b,H2 b=none->b≠ea:=fun b z q=>by rw [q,e1] at z; cases z
  have hb:∀ b o,hh.get? b=some o->b≠hh.objs.size:=fun b o e=>Nat.ne_of_lt (Heap.lt_size e)
  refine ⟨fun b o e n0 _ _=>hk b o (ntr b n0) e,fun b o e n0 _ _=>⟨o.slots,hk b o (ntr b n0) e⟩,fun b o e n0 _=>?_,fun b o e _=>?_,fun b xs z=>?_,fun b o u z=>?_,fun b ps z=>⟨#[],?_⟩⟩
  ·rw [q08 (hb b o e),q08 (ntr b n0)]; exact n0
  ·by_cases z:b=ea
   ·subst z; exact ⟨_,hx⟩
   ·exact ⟨o,hk b o z e⟩
  ·rw [q08 (q19 z fresh),q08 (qB5 z e1 (by intro q; cases q))]; exact z
  ·rw [q08 (q19 z fresh),q08 (qB5 z e1 (by intro q; cases q))]; exact z
  ·rw [q08 (q19 z fresh),q08 (qB5 z e1 (by intro q; cases q))]; simpa using z
 have hok:HOk X.prog X.w (upd (upd H2 ea (XO C (some hh.objs.size) tb ea)) hh.objs.size (.xd [(n,y)])) h':=fun b o z=>by
  by_cases b1:b=hh.objs.size
  ·subst b1
   rw [q01] at z; cases z
   refine ⟨_,hn,fun w'=>?_⟩
   by_cases hw:w'=n
   ·subst hw
    rw [List.lookup_cons,beq_self_eq_true,if_pos rfl]
    exact ry
   ·have hw':(w' == n)=false:=by simpa using hw
    rw [List.lookup_cons,hw',if_neg hw]
    trivial
  ·rw [q08 b1] at z
   by_cases b2:b=ea
   ·subst b2
    rw [q01] at z; cases z
    exact XO.mk hx
   ·rw [q08 b2] at z
    refine (I2.hok b o z).stay (fun c u hc q=>hk c u ?_ q) (fun c q=>?_) fun c xs q=>?_
    ·rcases hc with hc | hc
     ·rw [hc]; exact b2
     ·exact qB5 hc e1 (by intro q; cases q)
    ·rw [q08 (q19 q fresh),q08 (qB5 q e1 (by intro q; cases q))]; exact q
    ·rw [q08 (q19 q fresh),q08 (qB5 q e1 (by intro q; cases q))]; exact q
 exact ⟨σ,_,I2.un (h':=h') (t':=t') un hok,q2 _ fresh⟩
def tXGet (K:PySem.W.Frag) (ta:TE) (n:Str):TE:=fun σ H Q=>ta σ H fun x H1=>∃ ea C dx tb fs v,x=.ref ea/\H1 ea=some (XO C (some dx) tb ea)/\H1 dx=some (.xd fs)/\fs.lookup n=some v/\XKl K C/\PySem.W.findIn K (.ref C) n=some none/\Q v H1
theorem pe_xget {n:Str}(he:PE X e ta) (hb:attributeBase e n X.env (eval e X.env)=eval e X.env:=by rfl):PE X (.Attribute e n pos) (tXGet X.K ta n):=by
 intro pins s σ H Q I h
 refine qY5 hb (thn (he pins s σ H _ I h) fun u s1 ⟨x,H1,I1,rx,ea,C,dx,tb,fs,v,ex,e1,e2,l,XC,nw,q⟩=>?_)
 subst ex
 obtain rfl:u=Value.ref ea:=rx
 obtain ⟨nm,qn,N,bs,bm,sn,sub,ab,col,dd,k0,k1,k2,k3,k5,lk,B⟩:=XC.obj
 obtain ⟨a0,q1⟩:=XO.at I1.hok e1
 obtain ⟨m,hm,hr⟩:=I1.hok dx _ e2
 have rv:=hr n
 rw [l] at rv
 cases z:m n with
 | none=>rw [z] at rv; exact rv.elim
 | some u =>
  rw [z] at rv
  have K1:=I1.kIn
  have J:=I1
  obtain ⟨hh,g,d,tt,os⟩:=s1
  exact x_get B (K1 _ _ lk) q1 hm.ns z (PySem.W.looks_findIn K1 XC.ga) (PySem.W.looks_findIn K1 XC.gn) (PySem.W.looks_findIn K1 nw) (qC2 rv) fun t'=>⟨v,H1,J.tok t',rv,q⟩
def tRaise (K:PySem.W.Frag) (te:TE) (E:XK):TS:=fun _ σ H=>te σ H fun x H1=>∃ ea C dx,x=.ref ea/\H1 ea=some (XO C (some dx) .none ea)/\XKl K C/\E (.ref C) (some dx) (fun b=>if b=ea then none else H1 b)
theorem qg8 (hc:X.calm=true) (hx:q94 (CXE X.prog X.w) X E) (he:PE X e te):PS X (.Raise (some e) none pos) (tRaise X.K te E):=by
 intro pins s σ H D I h
 rw [arm_exec_Raise]
 show wpAny _ _ (standAt pos >>= fun _=>raiseStmt X.env (some (eval e X.env >>= fun v=>standAt pos >>= fun _=>pure v)) none) _ _ s
 refine wpAny_bind (wpAny_standAt ?_)
 have key:wpAny (model X.prog X.w) X.A (eval e X.env >>= fun v=>standAt pos >>= fun _=>raiseStmt X.env (some (pure v)) none) (SP X pins D) X.xe s:=by
  refine wpAny_bind (thn (he pins s σ H _ I h) fun u s1 ⟨x,H1,I1,rx,ea,C,dx,ex,e1,XC,q⟩=>?_)
  subst ex
  obtain rfl:u=Value.ref ea:=rx
  obtain ⟨nm,qn,N,bs,bm,sn,sub,ab,col,dd,k0,k1,k2,k3,k5,lk,B⟩:=XC.obj
  obtain ⟨a0,q1⟩:=XO.at I1.hok e1
  refine wpAny_bind (wpAny_standAt ?_)
  have fin:X.xe (.ref ea) s1:=hx pins σ H1 s1 (.ref ea) s1 I1 ⟨ea,C,dx,.none,_,H1,rfl,rfl,I1.bare,Un.refl,I1.hok,e1,.inl rfl,fun b o hb z=>by rw [if_neg hb] at z; exact z,if_pos rfl,q⟩
  have K1:=I1.kIn
  have hd:=I1.ok.hd hc
  obtain ⟨hh,g,d,tt,os⟩:=s1
  exact x_raise B hd (K1 _ _ lk) q1 fin
 have e1:∀ y:Sem Value,raiseStmt X.env (some y) none=y >>= fun v=>raiseStmt X.env (some (pure v)) none:=fun y=>by
  unfold raiseStmt
  simp only [pure_bind]
 rw [e1,bind_assoc]
 simp only [bind_assoc,pure_bind]
 exact key
end
end L2
namespace L2
open PySem PySem.Spec PyProof.Rows
structure XSub (K:PySem.W.Frag) (C W:Addr):Prop where
 obj:∃(nm q:Str) (N:Addr) (bs bm:List Value) (sn:List Str) (sub:List Value) (ab:Bool) (col:Option Bool) (dd:Option Addr) (k0 k1 k2 k3 k5:Option Value),
  K.lookup C=some (excClassObj nm q C N bs bm true sn sub ab col dd k0 k1 k2 k3 k5 "ValueError.__new__")/\(Value.ref C :: bm).contains (.ref W)=true
section
variable {M:Model}{A:Around}{E:Value->Shared->Prop}{h:Heap}{g:Array GenState}{d:Drawn}{t:Nat}{os:OsState}
variable {nm q nm' q':Str}{C N W N':Addr}{bs bm bs' bm':List Value}{sn sn':List Str}{sub sub':List Value}{ab ab':Bool}{col col':Option Bool}{dd dd':Option Addr}{k0 k1 k2 k3 k5 l0 l1 l2 l3 l5:Option Value}{ea:Addr}{oe:Obj}
theorem x_match {Q:Bool->Shared->Prop}(hC:h.get? C=some (excClassObj nm q C N bs bm true sn sub ab col dd k0 k1 k2 k3 k5 "ValueError.__new__")) (hW:h.get? W=some (excClassObj nm' q' W N' bs' bm' true sn' sub' ab' col' dd' l0 l1 l2 l3 l5 "ValueError.__new__"))
  (B:XBases bm') (hs:(Value.ref C :: bm).contains (.ref W)=true) (he:h.get? ea=some oe) (hc:oe.cls=.ref C) (hq:Q true ⟨h,g,d,t,os⟩):wpAny M A (excMatches (.ref ea) (.ref W)) Q E ⟨h,g,d,t,os⟩:=by
 have c1:(Value.ref W :: bm').contains (.type "BaseException")=true:=by rw [List.contains_cons,B.be,Bool.or_true]
 have f:=tc_notTuple
 unfold excMatches
 repeat (first | (with_reducible refine wpAny_loadPart_at he ?_; rw [hc]) | with_reducible refine wpAny_loadPart_at hW ?_ | (with_reducible refine wpAny_isSubtype_exc hW ?_; rw [c1]) | (with_reducible refine wpAny_isSubtype_exc hC ?_; rw [hs]) | wp_step)
 exact hq
end
abbrev Cx.guard (X:Cx) (pins:List (Addr×Obj)) (Ey:Value->Shared->Prop):Cx:={ X with pn:=X.pn ++ pins,xe:=Ey }
abbrev Cx.suite (X:Cx) (ea:Addr):Cx:={ X with A:=X.A.mark (some (.ref ea)),calm:=false,xe:=fun _ _=>False }
section
variable {X:Cx}{pins:List (Addr×Obj)}{σ:St}{H:Hp}{s:Shared}{Ey:Value->Shared->Prop}{ea:Addr}
theorem Cx.Ok.guard (ok:X.Ok):(X.guard pins Ey).Ok:=⟨ok.mod,ok.kind,ok.glob,ok.blt,ok.above,ok.inj,ok.has,ok.cab,ok.hd,ok.frames,ok.stk,ok.exf,ok.bs,ok.bsz,ok.noex,ok.exfs,ok.funs,ok.frf⟩
theorem Cx.Ok.unguard (ok:(X.guard pins Ey).Ok):X.Ok:=⟨ok.mod,ok.kind,ok.glob,ok.blt,ok.above,ok.inj,ok.has,ok.cab,ok.hd,ok.frames,ok.stk,ok.exf,ok.bs,ok.bsz,ok.noex,ok.exfs,ok.funs,ok.frf⟩
theorem Cx.Ok.suite (ok:X.Ok):(X.suite ea).Ok:=⟨ok.mod,ok.kind,ok.glob,ok.blt,ok.above,ok.inj,ok.has,ok.cab,fun z=>absurd (show false=true from z) (by decide),ok.frames,ok.stk,ok.exf,ok.bs,ok.bsz,ok.noex,ok.exfs,ok.funs,ok.frf⟩
theorem Inv.guard (I:Inv X pins σ H s):Inv (X.guard pins Ey) [] σ H s:=⟨I.ok.guard,I.os,I.bare,I.base,I.loc,I.cell,I.free,I.freeC,fun p hp=>I.pin p (by simpa using hp),I.hok,I.len⟩
theorem Inv.unguard {pins':List (Addr×Obj)}(I:Inv (X.guard pins Ey) pins' σ H s):Inv X pins σ H s:=⟨I.ok.unguard,I.os,I.bare,I.base,I.loc,I.cell,I.free,I.freeC,fun p hp=>I.pin p (List.mem_append_left _ hp),I.hok,I.len⟩
theorem Inv.suite (I:Inv X pins σ H s):Inv (X.suite ea) pins σ H s:=⟨I.ok.suite,I.os,I.bare,I.base,I.loc,I.cell,I.free,I.freeC,I.pin,I.hok,I.len⟩
theorem Inv.unsuite (ok:X.Ok) (I:Inv (X.suite ea) pins σ H s):Inv X pins σ H s:=⟨ok,I.os,I.bare,I.base,I.loc,I.cell,I.free,I.freeC,I.pin,I.hok,I.len⟩
def blank (n:Nat):St:=List.replicate n none
theorem Inv.blank (I:Inv X pins σ H s):Inv X pins (L2.blank X.N.length) H s:=I.weak (by unfold L2.blank; rw [List.length_replicate,I.len]) fun i v e=>by
 unfold L2.blank at e
 rw [List.getElem?_replicate] at e
 split at e <;> cases e
theorem Inv.lost {h':Heap}{tk:Nat}{m:Str->Option Value}(I:Inv X pins σ H s) (hn:h'.Ns X.env.locals m) (hs:Heap.SameBut X.env.locals s.heap h'):Inv X pins (L2.blank X.N.length) H { s with heap:=h',toks:=tk }:=by
 have neL:∀ b o,X.s₀.heap.get? b=some o->b≠X.env.locals:=fun b o e=>Nat.ne_of_lt (Nat.lt_of_lt_of_le (Heap.lt_size e) I.ok.above)
 refine ⟨I.ok,I.os,I.bare,⟨fun b o e n hb hx=>?_,fun b o e n hb hx=>?_,I.base.free,fun b o e hx=>?_,I.base.tups,I.base.frzs,I.base.tbls⟩,⟨m,hn,fun i x v _ e2=>?_⟩,fun x c e=>?_,I.free,I.freeC,fun p hp=>?_,fun b o e=>?_,by unfold L2.blank; rw [List.length_replicate]⟩
 ·exact (hs.2 b (neL b o e)).trans (I.base.keep b o e n hb hx)
 ·obtain ⟨sl,q⟩:=I.base.slot b o e n hb hx
  exact ⟨sl,(hs.2 b (neL b o e)).trans q⟩
 ·obtain ⟨o',q⟩:=I.base.there b o e hx
  exact ⟨o',(hs.2 b (neL b o e)).trans q⟩
 ·unfold L2.blank at e2
  rw [List.getElem?_replicate] at e2
  split at e2 <;> cases e2
 ·obtain ⟨v,q⟩:=I.cell x c e
  exact ⟨v,q.sameBut hs (I.cne x c e)⟩
 ·obtain ⟨e,n,ne,nf,d⟩:=I.pin p hp
  exact ⟨(hs.2 p.1 ne).trans e,n,ne,nf,d⟩
 ·refine (I.hok b o e).stay (fun c u hc q=>(hs.2 c ?_).trans q) (fun _ q=>q) fun _ _ q=>q
  rintro rfl
  rcases hc with z | z
  ·rw [<- z,I.free] at e; cases e
  ·rw [I.free] at z; cases z
end
def Ends.behind (D:Ends) (n:Nat):Ends:={ nx:=fun _ H=>D.nx (blank n) H,rt:=D.rt,bk:=fun _ H=>D.bk (blank n) H,ct:=fun _ H=>D.ct (blank n) H }
def tTry (K:PySem.W.Frag) (n W:Nat) (Eh:XK) (i:Nat) (tb th:TS):TS:=fun D σ H=>tb D σ H/\∀(C dx:Addr) (H0:Hp) (ea T:Addr) (H':Hp),Eh (.ref C) (some dx) H0->z87 ea H0 H'->H0 ea=none->H' ea=some (XO C (some dx) (.ref T) ea) ->
 XSub K C W/\th (D.behind n) ((blank n).set i (some (.ref ea))) H'
section
variable {X:Cx}
theorem ps_try {body suite:List Stmt}{b₀:Stmt}{pW hpos pos:Pos}{xW x:Str}{W:Addr}{i:Nat}{Eh:XK}{tb th:TS}(hst:X.stack=X.env :: X.outer) (hL:X.env.frame=some X.env.locals) (hN:X.N.Nodup) (hx:X.N[i]? = some x) (hl:X.env.kindOf x=some .local)
  (hg:Gl X xW) (hm:X.mg xW=some (.ref W)) (XW:XKl X.K W) (hb:∀ pins Ey,q94 (CXE X.prog X.w) (X.guard pins Ey) Eh->PSs (X.guard pins Ey) body tb) (hh:∀ ea,PSs (X.suite ea) (b₀ :: suite) th) (hdb:(xW == ("__debug__" : Str))=false:=by decide) :
  PS X (.Try body [.ExceptHandler (some (.Name xW pW)) (some x) (b₀ :: suite) hpos] [] [] pos) (tTry X.K X.N.length W Eh i tb th):=by
 intro pins s σ H D I h
 obtain ⟨h1,h2⟩:=h
 have hfr:X.A.frames=some (X.env :: X.outer):=by rw [I.ok.frames,hst]
 refine wpAny_Try_except ?_
 have pass:q94 (CXE X.prog X.w) (X.guard pins fun e s₁=>wpAny (model X.prog X.w) X.A (noteFrame e X.env) (fun _ s₂=>wpAny (model X.prog X.w) X.A (setFlight e none) (fun _ s₃=>wpAny (model X.prog X.w) X.A (handleBy e X.env [.ExceptHandler (some (.Name xW pW)) (some x) (b₀ :: suite) hpos]) (SP X pins D) X.xe s₃) X.xe s₂) X.xe s₁) Eh:=by
  intro pins1 σ1 H1 s1 e s2 I1 hce
  obtain ⟨ea,C,dx,tb',H0,H2,rfl,os,bare,un,hok,e1,ht,sx,n0,q⟩:=hce
  have J:=(I1.call' (ch:=[]) os un hok bare fun b z=>absurd z (by simp)).unguard
  refine qU7 hst hL J e1 ht fun s3 ⟨T,nT,neT,J3⟩=>?_
  have e3:upd (upd H2 T (TB (rawInt X.env.locals) T)) ea (XO C (some dx) (.ref T) ea) ea=some (XO C (some dx) (.ref T) ea):=q01
  have t3:upd (upd H2 T (TB (rawInt X.env.locals) T)) ea (XO C (some dx) (.ref T) ea) T=some (TB (rawInt X.env.locals) T):=by rw [q08 neT,q01]
  refine qs1 J3 e3 t3 fun s4 J4=>?_
  generalize hH4:upd (upd (upd H2 T (TB (rawInt X.env.locals) T)) ea (XO C (some dx) (.ref T) ea)) T (TB .none T)=H4 at J4
  have e4:H4 ea=some (XO C (some dx) (.ref T) ea):=by rw [<- hH4,q08 (Ne.symm neT)]; exact e3
  have t4:H4 T=some (TB .none T):=by rw [<- hH4]; exact q01
  have sx4:z87 ea H0 H4:=fun b o hb z=>by
   have hT:b≠T:=q19 (sx b o hb z) nT
   rw [<- hH4,q08 hT,q08 hb,q08 hT]
   exact sx b o hb z
  obtain ⟨sub,qh⟩:=h2 C dx H0 ea T H4 q sx4 n0 e4
  obtain ⟨nm,qn,N,bs,bm,sn,sb,ab,col,dd,k0,k1,k2,k3,k5,lk,cW⟩:=sub.obj
  obtain ⟨nm',qn',N',bs',bm',sn',sb',ab',col',dd',l0,l1,l2,l3,l5,lk',BW⟩:=XW.obj
  refine wpAny_handleBy_cons (codeAny_handlers_test ?_) (by intro z; cases z)
  have J5:Inv (X.suite ea) pins σ1 H4 s4:=J4.suite
  refine qj0 J5 hg hm ?_ hdb
  obtain ⟨a0,q4⟩:=XO.at J4.hok e4
  have K4:=J4.kIn
  have J6:=J4.blank
  obtain ⟨hh4,g4,d4,tk4,os4⟩:=s4
  refine x_match (K4 _ _ lk) (K4 _ _ lk') BW cW q4 rfl ?_
  refine codeAny_handlers_suite_as ?_
  refine qs1 J4 e4 t4 fun s5 J7=>?_
  rw [qO2 t4] at J7
  refine qv8 J7.blank hN hx (.inl hl) (v:=.ref ea) rfl (fun s6 J8=>?_) (.inr hl)
  refine wpAny_mono (hh ea pins s6 _ H4 _ (J8.suite (ea:=ea)) qh) (fun fl s7 q7=>?_) fun _ _ z=>z.elim
  have done:∀{σ7:St} {H7:Hp},Inv (X.suite ea) pins σ7 H7 s7->∀ R:St->Hp->Flow->Prop,R (blank X.N.length) H7 fl->(∀ s8,Inv X pins (blank X.N.length) H7 s8->R (blank X.N.length) H7 fl->SP X pins D fl s8) ->
    wpAny (model X.prog X.w) X.A (do bindName X.env x .none; unbindBehindTheSuite X.env x hpos) (fun _ s8=>SP X pins D fl s8) X.xe s7:=fun {σ7 H7} J R r k=>by
   have J':=J.unsuite I.ok
   obtain ⟨m,hm',_⟩:=id J'.loc
   refine wpAny_nameGoes hl hm' (by rw [I.ok.kind]; rfl) fun h8 m8 hn8 hs8=>?_
   exact k _ (J'.lost hn8 hs8) r
  cases fl with
  | next =>
   obtain ⟨σ7,H7,J9,r⟩:=q7
   exact done J9 (fun σ H _=>D.nx σ H) r fun s8 J10 r=>⟨_,_,J10,r⟩
  | brk =>
   obtain ⟨σ7,H7,J9,r⟩:=q7
   exact done J9 (fun σ H _=>D.bk σ H) r fun s8 J10 r=>⟨_,_,J10,r⟩
  | cont =>
   obtain ⟨σ7,H7,J9,r⟩:=q7
   exact done J9 (fun σ H _=>D.ct σ H) r fun s8 J10 r=>⟨_,_,J10,r⟩
  | ret u =>
   obtain ⟨v,σ7,H7,J9,ru,r⟩:=q7
   exact done J9 (fun _ H _=>D.rt v H) r fun s8 J10 r=>⟨v,_,_,J10,ru,r⟩
 refine wpAny_mono (hb pins _ pass [] s σ H D I.guard h1) (fun fl s1 q=>?_) fun _ _ z=>z
 have un:SP X pins D fl s1:=by
  cases fl with
  | next=>obtain ⟨σ',H',J,r⟩:=q; exact ⟨σ',H',J.unguard,r⟩
  | brk=>obtain ⟨σ',H',J,r⟩:=q; exact ⟨σ',H',J.unguard,r⟩
  | cont=>obtain ⟨σ',H',J,r⟩:=q; exact ⟨σ',H',J.unguard,r⟩
  | ret u=>obtain ⟨v,σ',H',J,ru,r⟩:=q; exact ⟨v,σ',H',J.unguard,ru,r⟩
 cases fl with
 | next=>exact wpAny_execs_nil un
 | brk=>exact un
 | cont=>exact un
 | ret u=>exact un
end
end L2
namespace L2
open PySem PySem.Spec PyProof.Rows
theorem nea {a b:Nat}(h:¬ a=b):(a:Addr)≠b:=h
def StrIt (h:Heap) (a:Addr) (x:Str) (i:Nat):Prop:=∃ ty t,h.IsStrIter a ty x t i/\(ty = "str_ascii_iterator" ∨ ty = "str_iterator")
theorem StrIt.at {h h':Heap}{a:Addr}{x:Str}{i:Nat}(st:StrIt h a x i) (k:∀ o,h.get? a=some o->h'.get? a=some o):StrIt h' a x i:=by
 obtain ⟨ty,t,⟨o,e,r⟩,z⟩:=st
 exact ⟨ty,t,⟨o,k o e,r⟩,z⟩
theorem StrIt.obj {h:Heap}{a:Addr}{x:Str}{i:Nat}(st:StrIt h a x i):∃ o,h.get? a=some o/\∀ v,o.data≠.cell v:=by
 obtain ⟨ty,t,⟨o,e,c,d⟩,z⟩:=st
 exact ⟨o,e,fun v q=>by rw [d] at q; cases q⟩
section
variable {prog:Program}{w:World}{A:Around}{E:Value->Shared->Prop}{s:Shared}{a:Addr}{x:Str}{i c:Nat}
theorem q76 {Q:Value->Shared->Prop}(st:StrIt s.heap a x i) (hx:x.cps[i]? = some c) (hQ:∀ h' t tk,StrIt h' a x (i + 1)->Heap.SameBut a s.heap h'->Q (.str ⟨#[c]⟩ t) { s with heap:=h',toks:=tk }) :
  wpAny (model prog w) A (Builtin.SmallTypes.nextOf (.ref a)) Q E s:=by
 obtain ⟨ty,t,it,z⟩:=st
 rcases z with rfl | rfl
 ·exact wpAny_nextOf_ascii_item it hx fun h' st' sb=>hQ h' _ _ ⟨_,t,st',.inl rfl⟩ sb
 ·exact wpAny_nextOf_wide_item it hx fun h' st' sb=>hQ h' _ _ ⟨_,t,st',.inr rfl⟩ sb
theorem qi9 {Q:Value->Shared->Prop}(hh:A.handled=none) (st:StrIt s.heap a x i) (hx:x.cps[i]? = none)
  (hE:∀ h' e,Heap.ExtBut a s.heap h'->(∃ o,h'.get? e=some o/\o.cls=.type "StopIteration")->E (.ref e) { s with heap:=h' }) :
  wpAny (model prog w) A (Builtin.SmallTypes.nextOf (.ref a)) Q E s:=by
 obtain ⟨ty,t,it,z⟩:=st
 rcases z with rfl | rfl
 ·exact wpAny_nextOf_ascii_end hh it hx hE
 ·exact wpAny_nextOf_wide_end hh it hx hE
theorem qm1 {t:Tok}{Q:Value->Shared->Prop}(h:∀ o:Obj,StrIt (s.heap.push o) s.heap.objs.size x 0->Q (.ref s.heap.objs.size) { s with heap:=s.heap.push o }):wpAny (model prog w) A (pyIter (.str x t)) Q E s:=by
 refine wpAny_pyIter_strU (h _ ?_)
 have e:=Heap.get?_push_size s.heap (o:={ cls:=.type (strIterType x),data:=.fields #[.str x t,.int 0 0] }) rfl
 refine ⟨strIterType x,t,⟨_,e,rfl,rfl⟩,?_⟩
 unfold strIterType
 split
 ·exact .inl rfl
 ·exact .inr rfl
end
structure Z3 (n:Nat) (x y z:Str) (i:Nat) (f0:Value) (h:Heap):Prop where
 zz:h.get? (n + 5)=some { cls:=.type "zip",dict:=none,data:=.fields #[f0,.bool false,.bool false,.ref (n + 3),.ref (n + 4)],slots:=#[] }
 ti:h.get? (n + 3)=some { cls:=.type "tuple",data:=.seq #[.ref n,.ref (n + 1),.ref (n + 2)] }
 to:∃ a b c,h.get? (n + 4)=some { cls:=.type "tuple",data:=.seq #[a,b,c] }
 i1:StrIt h n x i
 i2:StrIt h (n + 1) y i
 i3:StrIt h (n + 2) z i
structure Z2 (n:Nat) (x y:Str) (i:Nat) (f0:Value) (h:Heap):Prop where
 zz:h.get? (n + 4)=some { cls:=.type "zip",dict:=none,data:=.fields #[f0,.bool false,.bool false,.ref (n + 2),.ref (n + 3)],slots:=#[] }
 ti:h.get? (n + 2)=some { cls:=.type "tuple",data:=.seq #[.ref n,.ref (n + 1)] }
 to:∃ a b,h.get? (n + 3)=some { cls:=.type "tuple",data:=.seq #[a,b] }
 i1:StrIt h n x i
 i2:StrIt h (n + 1) y i
section
variable {prog:Program}{w:World}{A:Around}{E:Value->Shared->Prop}{s:Shared}{n:Nat}{x y z:Str}{i c1 c2 c3:Nat}
theorem qz7 {T:Addr}{vs:Array Value}{u:Value}{k:Nat}{Q:Unit->Shared->Prop}(hT:s.heap.get? T=some { cls:=.type "tuple",data:=.seq vs }) (hv:vs.size<=3)
  (h:∀ h',h'.get? T=some { cls:=.type "tuple",data:=.seq (vs.setIfInBounds k u) }->Heap.SameBut T s.heap h'->Q () { s with heap:=h' }):wpAny (model prog w) A (updateSeq T (·.setIfInBounds k u)) Q E s:=by
 refine wpAny_updateSeq (hz:=by rw [sizeLine_eq]; omega) (_hz':=by rw [Array.size_setIfInBounds,sizeLine_eq]; omega) hT rfl (h _ ?_ (Heap.SameBut.update ..))
 rw [Heap.get?_update_self _ hT rfl]
 simp [Obj.mapSeq]
theorem z3_item {Q:Value->Shared->Prop}(Z:Z3 n x y z i .none s.heap) (h1:x.cps[i]? = some c1) (h2:y.cps[i]? = some c2) (h3:z.cps[i]? = some c3)
  (hQ:∀ h' t1 t2 t3 tk,Z3 n x y z (i + 1) (rawInt s.heap.objs.size) h'->h'.get? s.heap.objs.size=some { cls:=.type "tuple",data:=.seq #[.str ⟨#[c1]⟩ t1,.str ⟨#[c2]⟩ t2,.str ⟨#[c3]⟩ t3] } ->
   (∀(c:Nat) o,(c < n∨n + 6<=c)->s.heap.get? c=some o->h'.get? c=some o)->Q (.ref s.heap.objs.size) { s with heap:=h',toks:=tk }) :
  wpAny (model prog w) A (Builtin.«zip.__next__» ⟨[.ref (n + 5)],[]⟩) (fun fin s'=>∃ v,fin=.done (.ret v)/\Q v s') E s:=by
 obtain ⟨hz,hTI,⟨a,b,c,hTO⟩,i1,i2,i3⟩:=Z
 show wpAny _ _ (field (.ref (n + 5)) 2 >>= _) _ _ _
 refine wpAny_bind (wpAny_field hz rfl (x:=.bool false) rfl ?_)
 show wpAny _ _ (field (.ref (n + 5)) 3 >>= _) _ _ _
 refine wpAny_bind (wpAny_field hz rfl (x:=.ref (n + 3)) rfl (wpAny_bind (wpAny_seqItems hTI rfl ?_)))
 show wpAny _ _ (Builtin.SmallTypes.ownedTupleIsFree (.ref (n + 5)) >>= _) _ _ _
 refine wpAny_bind ?_
 unfold Builtin.SmallTypes.ownedTupleIsFree
 refine wpAny_bind (wpAny_field hz rfl (x:=.none) rfl (wpAny_pure ?_))
 simp only [if_true]
 refine wpAny_bind (wpAny_rule (wpAny_bind (wpAny_field hz rfl (x:=.ref (n + 4)) rfl ?_)))
 refine wpAny_bind (wpAny_setField_rec hz (by simp) fun g1 z1 s1=>?_)
 refine wpAny_bind ?_
 simp only [List.zipIdx_cons,List.zipIdx_nil,List.forIn_cons,List.forIn_nil]
 refine wpAny_bind (wpAny_bind (wpAny_onRaise ?_))
 show wpAny _ _ (Builtin.SmallTypes.nextOf (.ref n) >>= _) _ _ _
 refine wpAny_bind (q76 (i1.at fun o e=>s1.extBut _ _ (nea (by omega)) e) h1 fun g2 t1 k2 i1' s2=>wpAny_pure ?_)
 have hT2:g2.get? (n + 4)=_:=s2.extBut _ _ (nea (by omega)) (s1.extBut _ _ (nea (by omega)) hTO)
 refine wpAny_bind (wpAny_seqItems hT2 rfl (wpAny_bind (qz7 hT2 (by simp) fun g3 hT3 s3=>wpAny_bind (wpAny_letGo (wpAny_pure ?_)))))
 refine wpAny_bind (wpAny_bind (wpAny_onRaise ?_))
 show wpAny _ _ (Builtin.SmallTypes.nextOf (.ref (n + 1)) >>= _) _ _ _
 refine wpAny_bind (q76 (i2.at fun o e=>s3.extBut _ _ (nea (by omega)) (s2.extBut _ _ (nea (by omega)) (s1.extBut _ _ (nea (by omega)) e))) h2 fun g4 t2 k4 i2' s4=>wpAny_pure ?_)
 have hT4:g4.get? (n + 4)=_:=s4.extBut _ _ (nea (by omega)) hT3
 refine wpAny_bind (wpAny_seqItems hT4 rfl (wpAny_bind (qz7 hT4 (by simp) fun g5 hT5 s5=>wpAny_bind (wpAny_letGo (wpAny_pure ?_)))))
 refine wpAny_bind (wpAny_bind (wpAny_onRaise ?_))
 show wpAny _ _ (Builtin.SmallTypes.nextOf (.ref (n + 2)) >>= _) _ _ _
 refine wpAny_bind (q76 (i3.at fun o e=>s5.extBut _ _ (nea (by omega)) (s4.extBut _ _ (nea (by omega)) (s3.extBut _ _ (nea (by omega)) (s2.extBut _ _ (nea (by omega)) (s1.extBut _ _ (nea (by omega)) e))))) h3 fun g6 t3 k6 i3' s6=>wpAny_pure ?_)
 have hT6:g6.get? (n + 4)=_:=s6.extBut _ _ (nea (by omega)) hT5
 refine wpAny_bind (wpAny_seqItems hT6 rfl (wpAny_bind (qz7 hT6 (by simp) fun g7 hT7 s7=>wpAny_bind (wpAny_letGo (wpAny_pure (wpAny_pure ?_))))))
 have hT7':g7.get? (n + 4)=some { cls:=.type "tuple",data:=.seq #[.str ⟨#[c1]⟩ t1,.str ⟨#[c2]⟩ t2,.str ⟨#[c3]⟩ t3] }:=hT7
 have sz:g7.objs.size=s.heap.objs.size:=by rw [s7.1,s6.1,s5.1,s4.1,s3.1,s2.1,s1.1]
 refine wpAny_bind (wpAny_seqItems hT7' rfl (wpAny_bind (wpAny_newTuple ?_)))
 show wpAny _ _ (Builtin.SmallTypes.ownedTupleHandOut (.ref (n + 5)) (.ref g7.objs.size) >>= _) _ _ _
 refine wpAny_bind ?_
 unfold Builtin.SmallTypes.ownedTupleHandOut
 have up7:∀ b o,b≠n->b≠n + 1->b≠n + 2->b≠n + 4->g1.get? b=some o->g7.get? b=some o:=fun b o e1 e2 e3 e4 e =>
  s7.extBut _ _ e4 (s6.extBut _ _ e3 (s5.extBut _ _ e4 (s4.extBut _ _ e2 (s3.extBut _ _ e4 (s2.extBut _ _ e1 e)))))
 have z7:=up7 (n + 5) _ (nea (by omega)) (nea (by omega)) (nea (by omega)) (nea (by omega)) z1
 refine wpAny_bind (wpAny_setField_rec (Heap.get?_push_of_some _ z7) (by simp) fun g8 z8 s8=>wpAny_setField_rec z8 (by simp) fun g9 z9 s9=>?_)
 have lt:(n + 5:Nat) < s.heap.objs.size:=Heap.lt_size hz
 have up:∀ b o,b≠n + 5->g7.get? b=some o->g9.get? b=some o:=fun b o e1 e=>s9.extBut _ _ e1 (s8.extBut _ _ e1 (Heap.get?_push_of_some _ e))
 refine wpAny_pure ⟨_,rfl,?_⟩
 show Q (.ref g7.objs.size) _
 rw [sz]
 refine hQ g9 t1 t2 t3 _ ⟨?_,up _ _ (nea (by omega)) (up7 _ _ (nea (by omega)) (nea (by omega)) (nea (by omega)) (nea (by omega)) (s1.extBut _ _ (nea (by omega)) hTI)),⟨_,_,_,up _ _ (nea (by omega)) hT7'⟩,?_,?_,?_⟩ ?_ fun (b:Nat) o hb e=>?_
 ·rw [<- sz]; exact z9
 ·exact i1'.at fun o e=>up _ _ (nea (by omega)) (s7.extBut _ _ (nea (by omega)) (s6.extBut _ _ (nea (by omega)) (s5.extBut _ _ (nea (by omega)) (s4.extBut _ _ (nea (by omega)) (s3.extBut _ _ (nea (by omega)) e)))))
 ·exact i2'.at fun o e=>up _ _ (nea (by omega)) (s7.extBut _ _ (nea (by omega)) (s6.extBut _ _ (nea (by omega)) (s5.extBut _ _ (nea (by omega)) e)))
 ·exact i3'.at fun o e=>up _ _ (nea (by omega)) (s7.extBut _ _ (nea (by omega)) e)
 ·rw [<- sz] at lt ⊢
  exact s9.extBut _ _ (nea (by omega)) (s8.extBut _ _ (nea (by omega)) (Heap.get?_push_size _ rfl))
 ·exact up b o (nea (by omega)) (up7 b o (nea (by omega)) (nea (by omega)) (nea (by omega)) (nea (by omega)) (s1.extBut _ _ (nea (by omega)) e))
theorem z2_item {Q:Value->Shared->Prop}(Z:Z2 n x y i .none s.heap) (h1:x.cps[i]? = some c1) (h2:y.cps[i]? = some c2)
  (hQ:∀ h' t1 t2 tk,Z2 n x y (i + 1) (rawInt s.heap.objs.size) h'->h'.get? s.heap.objs.size=some { cls:=.type "tuple",data:=.seq #[.str ⟨#[c1]⟩ t1,.str ⟨#[c2]⟩ t2] } ->
   (∀(c:Nat) o,(c < n∨n + 5<=c)->s.heap.get? c=some o->h'.get? c=some o)->Q (.ref s.heap.objs.size) { s with heap:=h',toks:=tk }) :
  wpAny (model prog w) A (Builtin.«zip.__next__» ⟨[.ref (n + 4)],[]⟩) (fun fin s'=>∃ v,fin=.done (.ret v)/\Q v s') E s:=by
 obtain ⟨hz,hTI,⟨a,b,hTO⟩,i1,i2⟩:=Z
 show wpAny _ _ (field (.ref (n + 4)) 2 >>= _) _ _ _
 refine wpAny_bind (wpAny_field hz rfl (x:=.bool false) rfl ?_)
 show wpAny _ _ (field (.ref (n + 4)) 3 >>= _) _ _ _
 refine wpAny_bind (wpAny_field hz rfl (x:=.ref (n + 2)) rfl (wpAny_bind (wpAny_seqItems hTI rfl ?_)))
 show wpAny _ _ (Builtin.SmallTypes.ownedTupleIsFree (.ref (n + 4)) >>= _) _ _ _
 refine wpAny_bind ?_
 unfold Builtin.SmallTypes.ownedTupleIsFree
 refine wpAny_bind (wpAny_field hz rfl (x:=.none) rfl (wpAny_pure ?_))
 simp only [if_true]
 refine wpAny_bind (wpAny_rule (wpAny_bind (wpAny_field hz rfl (x:=.ref (n + 3)) rfl ?_)))
 refine wpAny_bind (wpAny_setField_rec hz (by simp) fun g1 z1 s1=>?_)
 refine wpAny_bind ?_
 simp only [List.zipIdx_cons,List.zipIdx_nil,List.forIn_cons,List.forIn_nil]
 refine wpAny_bind (wpAny_bind (wpAny_onRaise ?_))
 show wpAny _ _ (Builtin.SmallTypes.nextOf (.ref n) >>= _) _ _ _
 refine wpAny_bind (q76 (i1.at fun o e=>s1.extBut _ _ (nea (by omega)) e) h1 fun g2 t1 k2 i1' s2=>wpAny_pure ?_)
 have hT2:g2.get? (n + 3)=_:=s2.extBut _ _ (nea (by omega)) (s1.extBut _ _ (nea (by omega)) hTO)
 refine wpAny_bind (wpAny_seqItems hT2 rfl (wpAny_bind (qz7 hT2 (by simp) fun g3 hT3 s3=>wpAny_bind (wpAny_letGo (wpAny_pure ?_)))))
 refine wpAny_bind (wpAny_bind (wpAny_onRaise ?_))
 show wpAny _ _ (Builtin.SmallTypes.nextOf (.ref (n + 1)) >>= _) _ _ _
 refine wpAny_bind (q76 (i2.at fun o e=>s3.extBut _ _ (nea (by omega)) (s2.extBut _ _ (nea (by omega)) (s1.extBut _ _ (nea (by omega)) e))) h2 fun g4 t2 k4 i2' s4=>wpAny_pure ?_)
 have hT4:g4.get? (n + 3)=_:=s4.extBut _ _ (nea (by omega)) hT3
 refine wpAny_bind (wpAny_seqItems hT4 rfl (wpAny_bind (qz7 hT4 (by simp) fun g5 hT5 s5=>wpAny_bind (wpAny_letGo (wpAny_pure (wpAny_pure ?_))))))
 have hT7':g5.get? (n + 3)=some { cls:=.type "tuple",data:=.seq #[.str ⟨#[c1]⟩ t1,.str ⟨#[c2]⟩ t2] }:=hT5
 have sz:g5.objs.size=s.heap.objs.size:=by rw [s5.1,s4.1,s3.1,s2.1,s1.1]
 refine wpAny_bind (wpAny_seqItems hT7' rfl (wpAny_bind (wpAny_newTuple ?_)))
 show wpAny _ _ (Builtin.SmallTypes.ownedTupleHandOut (.ref (n + 4)) (.ref g5.objs.size) >>= _) _ _ _
 refine wpAny_bind ?_
 unfold Builtin.SmallTypes.ownedTupleHandOut
 have up7:∀ b o,b≠n->b≠n + 1->b≠n + 3->g1.get? b=some o->g5.get? b=some o:=fun b o e1 e2 e4 e =>
  s5.extBut _ _ e4 (s4.extBut _ _ e2 (s3.extBut _ _ e4 (s2.extBut _ _ e1 e)))
 have z7:=up7 (n + 4) _ (nea (by omega)) (nea (by omega)) (nea (by omega)) z1
 refine wpAny_bind (wpAny_setField_rec (Heap.get?_push_of_some _ z7) (by simp) fun g8 z8 s8=>wpAny_setField_rec z8 (by simp) fun g9 z9 s9=>?_)
 have lt:(n + 4:Nat) < s.heap.objs.size:=Heap.lt_size hz
 have up:∀ b o,b≠n + 4->g5.get? b=some o->g9.get? b=some o:=fun b o e1 e=>s9.extBut _ _ e1 (s8.extBut _ _ e1 (Heap.get?_push_of_some _ e))
 refine wpAny_pure ⟨_,rfl,?_⟩
 show Q (.ref g5.objs.size) _
 rw [sz]
 refine hQ g9 t1 t2 _ ⟨?_,up _ _ (nea (by omega)) (up7 _ _ (nea (by omega)) (nea (by omega)) (nea (by omega)) (s1.extBut _ _ (nea (by omega)) hTI)),⟨_,_,up _ _ (nea (by omega)) hT7'⟩,?_,?_⟩ ?_ fun (b:Nat) o hb e=>?_
 ·rw [<- sz]; exact z9
 ·exact i1'.at fun o e=>up _ _ (nea (by omega)) (s5.extBut _ _ (nea (by omega)) (s4.extBut _ _ (nea (by omega)) (s3.extBut _ _ (nea (by omega)) e)))
 ·exact i2'.at fun o e=>up _ _ (nea (by omega)) (s5.extBut _ _ (nea (by omega)) e)
 ·rw [<- sz] at lt ⊢
  exact s9.extBut _ _ (nea (by omega)) (s8.extBut _ _ (nea (by omega)) (Heap.get?_push_size _ rfl))
 ·exact up b o (nea (by omega)) (up7 b o (nea (by omega)) (nea (by omega)) (nea (by omega)) (s1.extBut _ _ (nea (by omega)) e))
end
end L2
namespace L2
open PySem PySem.Spec PyProof.Rows
section
variable {prog:Program}{w:World}{A:Around}{E:Value->Shared->Prop}{s:Shared}{n:Nat}{x y z:Str}{i c1 c2 c3:Nat}
theorem qN7 {zz TI TO:Nat}{its:List Value}{Q:Fin->Shared->Prop}(hh:A.handled=none) (hz:s.heap.get? zz=some { cls:=.type "zip",dict:=none,data:=.fields #[.none,.bool false,.bool false,.ref TI,.ref TO],slots:=#[] })
  (hTI:s.heap.get? TI=some { cls:=.type "tuple",data:=.seq (Value.ref n :: its).toArray }) (i1:StrIt s.heap n x i) (hx:x.cps[i]? = none) (hne:n≠zz)
  (hE:∀ h' e,(∀(c:Nat) o,c≠zz->c≠n->s.heap.get? c=some o->h'.get? c=some o)->(∃ o,h'.get? e=some o/\o.cls=.type "StopIteration")->E (.ref e) { s with heap:=h' }) :
  wpAny (model prog w) A (Builtin.«zip.__next__» ⟨[.ref zz],[]⟩) Q E s:=by
 show wpAny _ _ (field (.ref zz) 2 >>= _) _ _ _
 refine wpAny_bind (wpAny_field hz rfl (x:=.bool false) rfl ?_)
 show wpAny _ _ (field (.ref zz) 3 >>= _) _ _ _
 refine wpAny_bind (wpAny_field hz rfl (x:=.ref TI) rfl (wpAny_bind (wpAny_seqItems hTI rfl ?_)))
 show wpAny _ _ (Builtin.SmallTypes.ownedTupleIsFree (.ref zz) >>= _) _ _ _
 refine wpAny_bind ?_
 unfold Builtin.SmallTypes.ownedTupleIsFree
 refine wpAny_bind (wpAny_field hz rfl (x:=.none) rfl (wpAny_pure ?_))
 simp only [if_true]
 refine wpAny_bind (wpAny_rule (wpAny_bind (wpAny_field hz rfl (x:=.ref TO) rfl ?_)))
 refine wpAny_bind (wpAny_setField_rec hz (by simp) fun g1 z1 s1=>?_)
 refine wpAny_bind ?_
 simp only [List.zipIdx_cons,List.forIn_cons]
 refine wpAny_bind (wpAny_bind (wpAny_onRaise ?_))
 show wpAny _ _ (Builtin.SmallTypes.nextOf (.ref n) >>= _) _ _ _
 refine wpAny_bind (qi9 hh (i1.at fun o e=>s1.extBut _ _ (nea hne) e) hx fun g2 e s2 he=>?_)
 obtain ⟨oe,hoe,hce⟩:=he
 have z2:=s2 zz _ (nea (Ne.symm hne)) z1
 have hez:e≠zz:=fun q=>by rw [q,z2] at hoe; cases hoe; simp at hce
 exact wpAny_setField_rec z2 (by simp) fun g3 _ s3=>hE g3 e (fun c o k1 k2 q=>s3.extBut _ _ k1 (s2 _ _ k2 (s1.extBut _ _ k1 q))) ⟨oe,s3.extBut _ _ hez hoe,hce⟩
theorem qm4 {zz:Nat}{o:Obj}{Q:Option Value->Shared->Prop}(ho:s.heap.get? zz=some o) (hc:o.cls=.type "zip") (h:wpAny (model prog w) A.in1 (Builtin.«zip.__next__» ⟨[.ref zz],[]⟩) (fun fin s'=>∃ v,fin=.done (.ret v)/\Q (some v) s') (fun _ _=>False) s) :
  wpAny (model prog w) A (pyNext (.ref zz)) Q E s:=by
 have hT:s.TypeIs (.ref zz) "zip" := ⟨_,ho,hc⟩
 unfold pyNext
 refine wpAny_bind (wpAny_attempt (wpAny_callSpecial?_slot (name:=Str.ofString "__next__") hT F.slot_zip_next (wpAny_call_entry F.slot_zip_next hT F.entry_zip_next (wpAny_mono h (fun fin s' q=>?_) fun _ _ q=>q.elim) (F.args_zip_next_1 _))))
 obtain ⟨v,e,q⟩:=q
 exact ⟨v,e,wpAny_pure q⟩
theorem qp2 {zz:Nat}{o:Obj}{Q:Option Value->Shared->Prop}(ho:s.heap.get? zz=some o) (hc:o.cls=.type "zip")
  (h:wpAny (model prog w) A.in1 (Builtin.«zip.__next__» ⟨[.ref zz],[]⟩) (fun _ _=>False) (fun e s'=>∃ ea o,e=.ref ea/\s'.heap.get? ea=some o/\o.cls=.type "StopIteration" /\ Q none s') s) :
  wpAny (model prog w) A (pyNext (.ref zz)) Q E s:=by
 have hT:s.TypeIs (.ref zz) "zip" := ⟨_,ho,hc⟩
 unfold pyNext
 refine wpAny_bind (wpAny_attempt (wpAny_callSpecial?_slot (name:=Str.ofString "__next__") hT F.slot_zip_next (wpAny_call_entry F.slot_zip_next hT F.entry_zip_next (wpAny_mono h (fun _ _ q=>q.elim) fun e s' q=>?_) (F.args_zip_next_1 _))))
 obtain ⟨ea,oe,rfl,hoe,hce,q⟩:=q
 refine wpAny_bind (wpAny_isInstance (T := "StopIteration") (b:=true) ⟨oe,hoe,hce⟩ isSubtype_stop ?_)
 exact wpAny_pure q
theorem qo0 {zz:Nat}{o:Obj}{Q:Value->Shared->Prop}(ho:s.heap.get? zz=some o) (hc:o.cls=.type "zip") (h:Q (.ref zz) s):wpAny (model prog w) A (pyIter (.ref zz)) Q E s:=by
 have hT:s.TypeIs (.ref zz) "zip" := ⟨_,ho,hc⟩
 refine wpAny_pyIter_slot hT F.slot_zip_iter (wpAny_call_entry F.slot_zip_iter hT F.entry_zip_iter ?_ (F.args_zip_iter_1 _))
 show wpAny _ _ (ret (.ref zz)) _ _ s
 exact wpAny_pure ⟨_,rfl, "zip",_,hT,F.slot_zip_next.lookup,h⟩
theorem z90 {elts:List Expr}{k:Nat}{pos:Pos}{zz TI TO T:Nat}{Q:Unit->Shared->Prop}(hz:s.heap.get? zz=some { cls:=.type "zip",dict:=none,data:=.fields #[rawInt T,.bool false,.bool false,.ref TI,.ref TO],slots:=#[] })
  (hQ:∀ h',h'.get? zz=some { cls:=.type "zip",dict:=none,data:=.fields #[.none,.bool false,.bool false,.ref TI,.ref TO],slots:=#[] }->Heap.SameBut zz s.heap h'->Q () { s with heap:=h' }) :
  wpAny (model prog w) A (letOwnedTupleGo (.Tuple elts k pos) (.ref zz) (.ref T)) Q E s:=wpAny_letOwnedTupleGo_zip hz fun h' a b=>hQ h' a b
theorem StrIt.cast {h:Heap}{a b:Addr}(e:a=b) (st:StrIt h a x i):StrIt h b x i:=e ▸ st
abbrev zT (vs:Array Value):Obj:={ cls:=.type "tuple",data:=.seq vs }
abbrev zZ (TI TO:Nat):Obj:={ cls:=.type "zip",data:=.fields #[.none,.bool false,.bool false,.ref TI,.ref TO] }
theorem z2_made {hp:Heap}{o1 o2:Obj}(e1:StrIt (hp.push o1) hp.objs.size x 0) (e2:StrIt ((hp.push o1).push o2) (hp.push o1).objs.size y 0) :
  Z2 hp.objs.size x y 0 .none (((((hp.push o1).push o2).push (zT #[.ref hp.objs.size,.ref (hp.push o1).objs.size])).push (zT #[.none,.none])).push (zZ ((hp.push o1).push o2).objs.size (((hp.push o1).push o2).push (zT #[.ref hp.objs.size,.ref (hp.push o1).objs.size])).objs.size)):=by
 have s1:∀(h:Heap) (o:Obj),(h.push o).objs.size=h.objs.size + 1:=fun h o=>Heap.size_push ..
 have p:∀{h:Heap} {a:Addr} {u:Obj} (o:Obj),h.get? a=some u->(h.push o).get? a=some u:=fun o e=>Heap.get?_push_of_some _ e
 refine ⟨?_,p _ (p _ ?_),⟨.none,.none,p _ ?_⟩,e1.at fun o e=>p _ (p _ (p _ (p _ e))),?_⟩
 ·rw [Heap.get?_push_at (by rw [s1,s1,s1,s1]) rfl]
  simp only [s1]
 ·rw [Heap.get?_push_at (by rw [s1,s1]) rfl,s1]
 ·exact Heap.get?_push_at (by rw [s1,s1,s1]) rfl
 ·exact (e2.at fun o e=>p _ (p _ (p _ e))).cast (by rw [s1])
theorem qZ7 (t1 t2:Tok):Meets (Builtin.«zip.__new__» ⟨[.type "zip",.str x t1,.str y t2],[]⟩) (fun _ R s=>∀ h',Z2 s.heap.objs.size x y 0 .none h'->(∀ c o,s.heap.get? c=some o->h'.get? c=some o)->R (.ok (.ret (.ref (s.heap.objs.size + 4)))) { s with heap:=h' }) :=
 .of_wp fun prog w A R s h=>by
  obtain ⟨hp,g,d,tk,os⟩:=s
  have hsub:=sub_zip
  wp_walk using qm1
  intro o1 e1
  wp_walk using qm1
  intro o2 e2
  wp_walk
  refine ⟨_,rfl,?_⟩
  have q:=h _ (z2_made e1 e2) fun c o e=>Heap.get?_push_of_some _ (Heap.get?_push_of_some _ (Heap.get?_push_of_some _ (Heap.get?_push_of_some _ (Heap.get?_push_of_some _ e))))
  have e4:((((hp.push o1).push o2).push (zT #[.ref hp.objs.size,.ref (hp.push o1).objs.size])).push (zT #[.none,.none])).objs.size=hp.objs.size + 4:=by rw [Heap.size_push,Heap.size_push,Heap.size_push,Heap.size_push]
  dsimp only at q
  rw [<- e4] at q
  exact q
theorem z3_made {hp:Heap}{o1 o2 o3:Obj}(e1:StrIt (hp.push o1) hp.objs.size x 0) (e2:StrIt ((hp.push o1).push o2) (hp.push o1).objs.size y 0) (e3:StrIt (((hp.push o1).push o2).push o3) ((hp.push o1).push o2).objs.size z 0) :
  Z3 hp.objs.size x y z 0 .none ((((((hp.push o1).push o2).push o3).push (zT #[.ref hp.objs.size,.ref (hp.push o1).objs.size,.ref ((hp.push o1).push o2).objs.size])).push (zT #[.none,.none,.none])).push
   (zZ (((hp.push o1).push o2).push o3).objs.size ((((hp.push o1).push o2).push o3).push (zT #[.ref hp.objs.size,.ref (hp.push o1).objs.size,.ref ((hp.push o1).push o2).objs.size])).objs.size)):=by
 have s1:∀(h:Heap) (o:Obj),(h.push o).objs.size=h.objs.size + 1:=fun h o=>Heap.size_push ..
 have p:∀{h:Heap} {a:Addr} {u:Obj} (o:Obj),h.get? a=some u->(h.push o).get? a=some u:=fun o e=>Heap.get?_push_of_some _ e
 refine ⟨?_,p _ (p _ ?_),⟨.none,.none,.none,p _ ?_⟩,e1.at fun o e=>p _ (p _ (p _ (p _ (p _ e)))),?_,?_⟩
 ·rw [Heap.get?_push_at (by rw [s1,s1,s1,s1,s1]) rfl]
  simp only [s1]
 ·rw [Heap.get?_push_at (by rw [s1,s1,s1]) rfl]
  simp only [s1]
 ·exact Heap.get?_push_at (by rw [s1,s1,s1,s1]) rfl
 ·exact (e2.at fun o e=>p _ (p _ (p _ (p _ e)))).cast (by rw [s1])
 ·exact (e3.at fun o e=>p _ (p _ (p _ e))).cast (by rw [s1,s1])
theorem qZ6 (t1 t2 t3:Tok):Meets (Builtin.«zip.__new__» ⟨[.type "zip",.str x t1,.str y t2,.str z t3],[]⟩) (fun _ R s=>∀ h',Z3 s.heap.objs.size x y z 0 .none h'->(∀ c o,s.heap.get? c=some o->h'.get? c=some o)->R (.ok (.ret (.ref (s.heap.objs.size + 5)))) { s with heap:=h' }) :=
 .of_wp fun prog w A R s h=>by
  obtain ⟨hp,g,d,tk,os⟩:=s
  have hsub:=sub_zip
  wp_walk using qm1
  intro o1 e1
  wp_walk using qm1
  intro o2 e2
  wp_walk using qm1
  intro o3 e3
  wp_walk
  refine ⟨_,rfl,?_⟩
  have q:=h _ (z3_made e1 e2 e3) fun c o e=>Heap.get?_push_of_some _ (Heap.get?_push_of_some _ (Heap.get?_push_of_some _ (Heap.get?_push_of_some _ (Heap.get?_push_of_some _ (Heap.get?_push_of_some _ e)))))
  have e4:(((((hp.push o1).push o2).push o3).push (zT #[.ref hp.objs.size,.ref (hp.push o1).objs.size,.ref ((hp.push o1).push o2).objs.size])).push (zT #[.none,.none,.none])).objs.size=hp.objs.size + 5:=by rw [Heap.size_push,Heap.size_push,Heap.size_push,Heap.size_push,Heap.size_push]
  dsimp only at q
  rw [<- e4] at q
  exact q
theorem qY1 {t1 t2:Tok}{Q:Value->Shared->Prop}(h:∀ h',Z2 s.heap.objs.size x y 0 .none h'->(∀ c o,s.heap.get? c=some o->h'.get? c=some o)->Q (.ref (s.heap.objs.size + 4)) { s with heap:=h' }) :
  wpAny (model prog w) A (call (.type "zip") [.str x t1,.str y t2]) Q E s:=by
 refine callType_new F.called_zip (by decide) (by kernel_rfl) (by kernel_rfl) (fun obj=>F.args_object_init_3 obj _ _) F.entry_zip_new (qZ7 t1 t2) ?_
 intro h' Z k
 exact ⟨⟨_,Z.zz,rfl⟩,h h' Z k⟩
theorem qN3 (a b c d:Value):argsOk "object.__init__" ⟨[a,b,c,d],[]⟩:=by unfold argsOk; kernel_rfl
theorem qY0 {t1 t2 t3:Tok}{Q:Value->Shared->Prop}(h:∀ h',Z3 s.heap.objs.size x y z 0 .none h'->(∀ c o,s.heap.get? c=some o->h'.get? c=some o)->Q (.ref (s.heap.objs.size + 5)) { s with heap:=h' }) :
  wpAny (model prog w) A (call (.type "zip") [.str x t1,.str y t2,.str z t3]) Q E s:=by
 refine callType_new F.called_zip (by decide) (by kernel_rfl) (by kernel_rfl) (fun obj=>qN3 obj _ _ _) F.entry_zip_new (qZ6 t1 t2 t3) ?_
 intro h' Z k
 exact ⟨⟨_,Z.zz,rfl⟩,h h' Z k⟩
end
end L2
namespace L2
open PySem PySem.Spec PyProof.Rows
section
variable {X:Cx}{pins:List (Addr×Obj)}{σ:St}{H:Hp}{s:Shared}{h':Heap}{t':Nat}{fp:List Addr}
theorem Inv.turnedL (I:Inv X pins σ H s) (hf:∀ b∈fp,qt5 X pins H b) (k:∀ b o,b∉fp->s.heap.get? b=some o->h'.get? b=some o):Inv X pins σ H { s with heap:=h',toks:=t' }:=by
 have ntr:∀ b u,H b=some u->b∉fp:=fun b u e hb=>by rw [(hf b hb).1] at e; cases e
 refine I.step (g':=s.gens) (d':=s.drawn) (ch:=fp) (fun b hb=>?_) (fun b o _ _ hc e _=>k b o hc e) (fun b o _ _ hc e _=>⟨o.slots,k b o hc e⟩) (fun _ _ _ _ n=>n) (fun b o hc e=>⟨o,k b o hc e⟩) (fun _ _ e=>e) (fun _ _ _ e=>e) (fun b ps e=>⟨#[],by rw [e]; simp⟩) (fun m hm=>?_) (fun b u e=>?_) I.bare
 ·obtain ⟨_,f1,_,f3,f4,f5⟩:=hf b hb
  exact ⟨f3,f1,f4,f5⟩
 ·obtain ⟨o,es,ep,ho,r⟩:=hm
  exact ⟨o,es,ep,k _ o (fun z=>(hf _ z).2.1 rfl) ho,r⟩
 ·refine (I.hok b u e).stay (fun c v hc q=>k c v ?_ q) (fun _ q=>q) fun _ _ q=>q
  rcases hc with z | z
  ·rw [z]; exact ntr b u e
  ·exact ntr c _ z
theorem Inv.turnLaid {T:Addr}{o:HO}(I:Inv X pins σ H s) (hf:∀ b∈fp,qt5 X pins H b) (k:∀ b o,b∉fp->s.heap.get? b=some o->h'.get? b=some o) (hT:s.heap.objs.size<=T) (hT2:T∉fp)
  (new:ObjOk X.prog X.w (upd H T o) h' T o):Inv X pins σ (upd H T o) { s with heap:=h',toks:=t' }:=by
 have hn:H T=none:=I.hok.fresh hT
 have ntr:∀ b u,H b=some u->b∉fp:=fun b u e hb=>by rw [(hf b hb).1] at e; cases e
 have neT:∀ b (u:Obj),s.heap.get? b=some u->b≠T:=fun b u e=>Nat.ne_of_lt (Nat.lt_of_lt_of_le (Heap.lt_size e) hT)
 refine I.step (g':=s.gens) (d':=s.drawn) (ch:=fp) (fun b hb=>?_) (fun b o _ _ hc e _=>k b o hc e) (fun b o _ _ hc e _=>⟨o.slots,k b o hc e⟩) (fun b u _ e n=>by rw [q08 (neT b u e)]; exact n) (fun b o hc e=>⟨o,k b o hc e⟩)
  (fun b xs e=>by rw [q08 (q19 e hn)]; exact e) (fun b ob u e=>by rw [q08 (q19 e hn)]; exact e) (fun b ps e=>⟨#[],by rw [q08 (q19 e hn),e]; simp⟩) (fun m hm=>?_) (fun b u e=>?_) I.bare
 ·obtain ⟨_,f1,_,f3,f4,f5⟩:=hf b hb
  exact ⟨f3,f1,f4,f5⟩
 ·obtain ⟨o,es,ep,ho,r⟩:=hm
  exact ⟨o,es,ep,k _ o (fun z=>(hf _ z).2.1 rfl) ho,r⟩
 ·by_cases hb:b=T
  ·subst hb; rw [q01] at e; cases e; exact new
  ·rw [q08 hb] at e
   refine (I.hok b u e).stay (fun c v hc q=>k c v ?_ q) (fun c q=>by rw [q08 (q19 q hn)]; exact q) fun c xs q=>by rw [q08 (q19 q hn)]; exact q
   rcases hc with z | z
   ·rw [z]; exact ntr b u e
   ·exact ntr c _ z
end
def sg (x:Str) (i:Nat):V:=.str ⟨#[x.cps.getD i 0]⟩
theorem qA4 {x:Str}{i:Nat}(h:i < x.length):x.cps[i]? = some (x.cps.getD i 0):=by
 have h':i < x.cps.size:=h
 simp [Array.getD_eq_getD_getElem?,h']
def Its (x:Str):It:=⟨fun i _=>i < x.length,fun i H v H'=>H'=H/\v=sg x i,fun i _=>x.length<=i⟩
def Itz2 (x y:Str):It:=⟨fun i _=>i < x.length/\i < y.length,fun i H v H'=>∃ T,v=.ref T/\H T=none/\H'=upd H T (.tup [sg x i,sg y i]),fun i _=>x.length<=i⟩
def Itz3 (x y z:Str):It:=⟨fun i _=>i < x.length/\i < y.length/\i < z.length,fun i H v H'=>∃ T,v=.ref T/\H T=none/\H'=upd H T (.tup [sg x i,sg y i,sg z i]),fun i _=>x.length<=i⟩
section
variable {P:Program}{w:World}{K:PySem.W.Frag}
theorem z01 {tg:Expr}(x:Str) (it:Addr):Turn P w K tg (Its x) [it] it (fun i h=>StrIt h it x i) where
 mem:=by simp
 obj:=fun i h st b hb=>by
  have e:b=it:=by simpa using hb
  subst e
  exact st.obj
 keep:=fun i h h' st k=>st.at fun o e=>k it (by simp) o e
 item:=by
  intro X hP hw hK hc i pins s σ H E I hf st hg
  subst hP hw hK
  obtain ⟨f0,f1,f2,f3,f4,f5⟩:=hf it (by simp)
  obtain ⟨ty,t,st,z⟩:=st
  have fin:∀ h' t' tk,(z:ty = "str_ascii_iterator" ∨ ty = "str_iterator")->h'.IsStrIter it ty x t (i + 1)->Heap.SameBut it s.heap h'->∃ u,some (Value.str ⟨#[x.cps.getD i 0]⟩ t')=some u /\
    wpAny (model X.prog X.w) X.A (letOwnedTupleGo tg (.ref it) u) (fun _ s2=>∃ v H',Inv X pins σ H' s2/\RelV v u/\(Its x).yld i H v H'/\StrIt s2.heap it x (i + 1)/\∀ b∈[it],H' b=none) E { s with heap:=h',toks:=tk }:=by
   intro h' t' tk z st' sb
   have I1:Inv X pins σ H { s with heap:=h',toks:=tk }:=I.turned (fun b o hb e=>(sb.2 b hb).trans e) f0 f1 f3 f4 f5
   obtain ⟨o,e,c,d⟩:=id st'
   exact ⟨_,rfl,go_of (s:={ s with heap:=h',toks:=tk }) e c d (by rcases z with rfl | rfl <;> decide) ⟨sg x i,H,I1,⟨t',rfl⟩,⟨rfl,rfl⟩,⟨ty,t,st',z⟩,fun b hb=>(hf b hb).1⟩⟩
  rcases z with rfl | rfl
  ·exact wpAny_pyNext_ascii_item st (qA4 hg) fun h' st' sb=>fin h' _ _ (.inl rfl) st' sb
  ·exact wpAny_pyNext_wide_item st (qA4 hg) fun h' st' sb=>fin h' _ _ (.inr rfl) st' sb
 done:=by
  intro X hP hw hK hc i pins s σ H E I hf st hg
  subst hP hw hK
  obtain ⟨f0,f1,f2,f3,f4,f5⟩:=hf it (by simp)
  have hx:x.cps[i]? = none:=Array.getElem?_eq_none hg
  obtain ⟨ty,t,st,z⟩:=st
  rcases z with rfl | rfl
  ·exact wpAny_pyNext_ascii_end (I.ok.hd hc) st hx fun h' eb=>⟨rfl,I.turned (t':=s.toks) (fun b o hb e=>eb b o hb e) f0 f1 f3 f4 f5⟩
  ·exact wpAny_pyNext_wide_end (I.ok.hd hc) st hx fun h' eb=>⟨rfl,I.turned (t':=s.toks) (fun b o hb e=>eb b o hb e) f0 f1 f3 f4 f5⟩
 self:=fun A i s Q E st h=>by
  obtain ⟨ty,t,st,z⟩:=st
  rcases z with rfl | rfl
  ·exact wpAny_pyIter_striter_ascii st h
  ·exact wpAny_pyIter_striter_wide st h
def fp3 (n:Nat):List Addr:=[n,n + 1,n + 2,n + 3,n + 4,n + 5]
def fp2 (n:Nat):List Addr:=[n,n + 1,n + 2,n + 3,n + 4]
theorem of_fp3 {n b:Nat}(h:¬ b∈fp3 n):b < n∨n + 6<=b:=by
 unfold fp3 at h
 simp only [List.mem_cons,List.not_mem_nil,or_false,not_or] at h
 have h:¬ b=n/\¬ b=n + 1/\¬ b=n + 2/\¬ b=n + 3/\¬ b=n + 4/\¬ b=n + 5:=h
 omega
theorem of_fp2 {n b:Nat}(h:¬ b∈fp2 n):b < n∨n + 5<=b:=by
 unfold fp2 at h
 simp only [List.mem_cons,List.not_mem_nil,or_false,not_or] at h
 have h:¬ b=n/\¬ b=n + 1/\¬ b=n + 2/\¬ b=n + 3/\¬ b=n + 4:=h
 omega
theorem Z3.keep {n:Nat}{x y z:Str}{i:Nat}{f:Value}{h h':Heap}(Z:Z3 n x y z i f h) (k:∀ b∈fp3 n,∀ o,h.get? b=some o->h'.get? b=some o):Z3 n x y z i f h':=by
 obtain ⟨hz,hTI,⟨a,b,c,hTO⟩,i1,i2,i3⟩:=Z
 exact ⟨k _ (by simp [fp3]) _ hz,k _ (by simp [fp3]) _ hTI,⟨a,b,c,k _ (by simp [fp3]) _ hTO⟩,i1.at (k _ (by simp [fp3])),i2.at (k _ (by simp [fp3])),i3.at (k _ (by simp [fp3]))⟩
theorem Z2.keep {n:Nat}{x y:Str}{i:Nat}{f:Value}{h h':Heap}(Z:Z2 n x y i f h) (k:∀ b∈fp2 n,∀ o,h.get? b=some o->h'.get? b=some o):Z2 n x y i f h':=by
 obtain ⟨hz,hTI,⟨a,b,hTO⟩,i1,i2⟩:=Z
 exact ⟨k _ (by simp [fp2]) _ hz,k _ (by simp [fp2]) _ hTI,⟨a,b,k _ (by simp [fp2]) _ hTO⟩,i1.at (k _ (by simp [fp2])),i2.at (k _ (by simp [fp2]))⟩
theorem Z3.ob {n:Nat}{x y z:Str}{i:Nat}{f:Value}{h:Heap}(Z:Z3 n x y z i f h):∀ b∈fp3 n,∃ o,h.get? b=some o/\∀ v,o.data≠.cell v:=by
 obtain ⟨hz,hTI,⟨a,b,c,hTO⟩,i1,i2,i3⟩:=Z
 intro b hb
 unfold fp3 at hb
 simp only [List.mem_cons,List.not_mem_nil,or_false] at hb
 rcases hb with rfl | rfl | rfl | rfl | rfl | rfl
 ·exact i1.obj
 ·exact i2.obj
 ·exact i3.obj
 ·exact ⟨_,hTI,fun v q=>by cases q⟩
 ·exact ⟨_,hTO,fun v q=>by cases q⟩
 ·exact ⟨_,hz,fun v q=>by cases q⟩
theorem Z2.ob {n:Nat}{x y:Str}{i:Nat}{f:Value}{h:Heap}(Z:Z2 n x y i f h):∀ b∈fp2 n,∃ o,h.get? b=some o/\∀ v,o.data≠.cell v:=by
 obtain ⟨hz,hTI,⟨a,b,hTO⟩,i1,i2⟩:=Z
 intro b hb
 unfold fp2 at hb
 simp only [List.mem_cons,List.not_mem_nil,or_false] at hb
 rcases hb with rfl | rfl | rfl | rfl | rfl
 ·exact i1.obj
 ·exact i2.obj
 ·exact ⟨_,hTI,fun v q=>by cases q⟩
 ·exact ⟨_,hTO,fun v q=>by cases q⟩
 ·exact ⟨_,hz,fun v q=>by cases q⟩
theorem qO3 {elts:List Expr}{k:Nat}{pos:Pos}(n:Nat) (x y z:Str):Turn P w K (.Tuple elts k pos) (Itz3 x y z) (fp3 n) (n + 5) (fun i h=>Z3 n x y z i .none h) where
 mem:=by simp [fp3]
 obj:=fun i h Z=>Z.ob
 keep:=fun i h h' Z k=>Z.keep k
 item:=by
  intro X hP hw hK hc i pins s σ H E I hf Z hg
  subst hP hw hK
  obtain ⟨g1,g2,g3⟩:=hg
  have lt:(n + 5:Nat) < s.heap.objs.size:=Heap.lt_size Z.zz
  refine qm4 Z.zz rfl (z3_item Z (qA4 g1) (qA4 g2) (qA4 g3) fun h' t1 t2 t3 tk Z' hT hk=>?_)
  refine ⟨_,rfl,z90 (s:={ s with heap:=h',toks:=tk }) Z'.zz fun h'' zz sb=>?_⟩
  have ne:s.heap.objs.size∉fp3 n:=fun q=>by
   obtain ⟨o,e,_⟩:=Z.ob _ q
   exact Nat.lt_irrefl _ (Heap.lt_size e)
  have hz2:(n + 5:Nat)∈fp3 n:=by simp [fp3]
  have neZ:∀ b:Nat,b∉fp3 n->b≠n + 5:=fun b hb q=>hb (q ▸ hz2)
  have hT2:=sb.extBut _ _ (nea (neZ _ ne)) hT
  have I1:Inv X pins σ (upd H s.heap.objs.size (.tup [sg x i,sg y i,sg z i])) { s with heap:=h'',toks:=tk }:=by
   refine I.turnLaid (fp:=fp3 n) hf (fun b o hb e=>sb.extBut _ _ (nea (neZ b hb)) (hk b o (of_fp3 hb) e)) (Nat.le_refl _) ne ?_
   exact ⟨by show 3<=sizeLine; rw [sizeLine_eq]; omega,_,.cons ⟨t1,rfl⟩ (.cons ⟨t2,rfl⟩ (.cons ⟨t3,rfl⟩ .nil)),⟨_,hT2,rfl,_,rfl⟩⟩
  have fr:H s.heap.objs.size=none:=I.hok.fresh (Nat.le_refl _)
  obtain ⟨q1,q2,⟨a,b,c,q3⟩,j1,j2,j3⟩:=Z'
  refine ⟨.ref s.heap.objs.size,_,I1,rfl,⟨_,rfl,fr,rfl⟩,⟨zz,sb.extBut _ _ (nea (by omega)) q2,⟨a,b,c,sb.extBut _ _ (nea (by omega)) q3⟩,j1.at fun o e=>sb.extBut _ _ (nea (by omega)) e,j2.at fun o e=>sb.extBut _ _ (nea (by omega)) e,j3.at fun o e=>sb.extBut _ _ (nea (by omega)) e⟩,fun b hb=>?_⟩
  have nb:b≠s.heap.objs.size:=fun q=>by rw [q] at hb; exact ne hb
  rw [q08 nb]
  exact (hf b hb).1
 done:=by
  intro X hP hw hK hc i pins s σ H E I hf Z hg
  subst hP hw hK
  have hx:x.cps[i]? = none:=Array.getElem?_eq_none hg
  refine qp2 Z.zz rfl (qN7 (A:=X.A.in1) (I.ok.hd hc) Z.zz Z.ti Z.i1 hx (by omega) fun h' e hk he=>?_)
  obtain ⟨o,e1,e2⟩:=he
  exact ⟨e,o,rfl,e1,e2,rfl,I.turnedL (fp:=fp3 n) (t':=s.toks) hf fun b o hb q=>hk b o (fun z=>hb (by simp [fp3,z])) (fun z=>hb (by simp [fp3,z])) q⟩
 self:=fun A i s Q E Z h=>qo0 Z.zz rfl h
theorem qO4 {elts:List Expr}{k:Nat}{pos:Pos}(n:Nat) (x y:Str):Turn P w K (.Tuple elts k pos) (Itz2 x y) (fp2 n) (n + 4) (fun i h=>Z2 n x y i .none h) where
 mem:=by simp [fp2]
 obj:=fun i h Z=>Z.ob
 keep:=fun i h h' Z k=>Z.keep k
 item:=by
  intro X hP hw hK hc i pins s σ H E I hf Z hg
  subst hP hw hK
  obtain ⟨g1,g2⟩:=hg
  have lt:(n + 4:Nat) < s.heap.objs.size:=Heap.lt_size Z.zz
  refine qm4 Z.zz rfl (z2_item Z (qA4 g1) (qA4 g2) fun h' t1 t2 tk Z' hT hk=>?_)
  refine ⟨_,rfl,z90 (s:={ s with heap:=h',toks:=tk }) Z'.zz fun h'' zz sb=>?_⟩
  have ne:s.heap.objs.size∉fp2 n:=fun q=>by
   obtain ⟨o,e,_⟩:=Z.ob _ q
   exact Nat.lt_irrefl _ (Heap.lt_size e)
  have hz2:(n + 4:Nat)∈fp2 n:=by simp [fp2]
  have neZ:∀ b:Nat,b∉fp2 n->b≠n + 4:=fun b hb q=>hb (q ▸ hz2)
  have hT2:=sb.extBut _ _ (nea (neZ _ ne)) hT
  have I1:Inv X pins σ (upd H s.heap.objs.size (.tup [sg x i,sg y i])) { s with heap:=h'',toks:=tk }:=by
   refine I.turnLaid (fp:=fp2 n) hf (fun b o hb e=>sb.extBut _ _ (nea (neZ b hb)) (hk b o (of_fp2 hb) e)) (Nat.le_refl _) ne ?_
   exact ⟨by show 2<=sizeLine; rw [sizeLine_eq]; omega,_,.cons ⟨t1,rfl⟩ (.cons ⟨t2,rfl⟩ .nil),⟨_,hT2,rfl,_,rfl⟩⟩
  have fr:H s.heap.objs.size=none:=I.hok.fresh (Nat.le_refl _)
  obtain ⟨q1,q2,⟨a,b,q3⟩,j1,j2⟩:=Z'
  refine ⟨.ref s.heap.objs.size,_,I1,rfl,⟨_,rfl,fr,rfl⟩,⟨zz,sb.extBut _ _ (nea (by omega)) q2,⟨a,b,sb.extBut _ _ (nea (by omega)) q3⟩,j1.at fun o e=>sb.extBut _ _ (nea (by omega)) e,j2.at fun o e=>sb.extBut _ _ (nea (by omega)) e⟩,fun b hb=>?_⟩
  have nb:b≠s.heap.objs.size:=fun q=>by rw [q] at hb; exact ne hb
  rw [q08 nb]
  exact (hf b hb).1
 done:=by
  intro X hP hw hK hc i pins s σ H E I hf Z hg
  subst hP hw hK
  have hx:x.cps[i]? = none:=Array.getElem?_eq_none hg
  refine qp2 Z.zz rfl (qN7 (A:=X.A.in1) (I.ok.hd hc) Z.zz Z.ti Z.i1 hx (by omega) fun h' e hk he=>?_)
  obtain ⟨o,e1,e2⟩:=he
  exact ⟨e,o,rfl,e1,e2,rfl,I.turnedL (fp:=fp2 n) (t':=s.toks) hf fun b o hb q=>hk b o (fun z=>hb (by simp [fp2,z])) (fun z=>hb (by simp [fp2,z])) q⟩
 self:=fun A i s Q E Z h=>qo0 Z.zz rfl h
end
section
variable {X:Cx}
def iStr (tl:TE):TI:=fun σ H R=>tl σ H fun x H1=>∃ z,x=.str z/\R (Its z) H1
theorem qI0 {tg l:Expr}{tl:TE}(hl:PE X l tl):PI X tg l (iStr tl):=by
 intro pins s σ H R I h
 refine thn (hl pins s σ H _ I h) fun v s1 ⟨x,H1,I1,r1,q1⟩=>?_
 obtain ⟨z,rfl,q⟩:=q1
 obtain ⟨t,rfl⟩:=r1
 refine qm1 fun o st=>?_
 refine ⟨s1.heap.objs.size,[s1.heap.objs.size],_,_,H1,rfl,I1.kept (t':=s1.toks) fun b o e=>Heap.get?_push_of_some _ e,z01 z _,st,fun b hb=>?_,q⟩
 have e:b=s1.heap.objs.size:=by simpa using hb
 subst e
 exact I1.fpOk (Nat.le_refl _) (I1.hok.fresh (Nat.le_refl _))
def iZip2 (ta:TA):TI:=fun σ H R=>ta σ H fun vs H1=>∃ x y,vs=[.str x,.str y]/\R (Itz2 x y) H1
def iZip3 (ta:TA):TI:=fun σ H R=>ta σ H fun vs H1=>∃ x y z,vs=[.str x,.str y,.str z]/\R (Itz3 x y z) H1
theorem pi_zip2 {elts:List Expr}{k:Nat}{tp:Pos}{a b:Expr}{ta:TA}{p pos:Pos}(hg:Gl X "zip") (hm:X.mg "zip" = none) (ha:PA X [a,b] ta) (hs:starEach [a,b] X.env=(false,eval a X.env) :: starEach [b] X.env:=by rfl) (hpl:(backTo pos (starEach [b] X.env)).any (·.1)=false:=by rfl) :
  PI X (.Tuple elts k tp) (.Call (.Name "zip" p) [a,b] [] pos) (iZip2 ta):=by
 intro pins s σ H R I h
 refine Call_ (qk5 I hg hm boot_zip (PyProof.Rows.callWith_type1 (thn (ha pos pins s σ H _ I h) fun us s1 ⟨vs,H1,I1,r1,q1⟩=>?_) hs hpl))
 obtain ⟨x,y,rfl,q⟩:=q1
 obtain ⟨u,v,rfl,ru,rv⟩:=r1.two
 obtain ⟨t1,rfl⟩:=ru
 obtain ⟨t2,rfl⟩:=rv
 refine qY1 fun h' Z k=>qo0 (s:={ s1 with heap:=h' }) Z.zz rfl ?_
 refine ⟨_,fp2 s1.heap.objs.size,_,_,H1,rfl,I1.kept (t':=s1.toks) k,qO4 _ x y,Z,fun b hb=>?_,q⟩
 have hb':s1.heap.objs.size<=b:=by
  unfold fp2 at hb
  simp only [List.mem_cons,List.not_mem_nil,or_false] at hb
  rcases hb with rfl | rfl | rfl | rfl | rfl
  ·exact Nat.le_refl _
  all_goals exact Nat.le_add_right _ _
 exact I1.fpOk hb' (I1.hok.fresh hb')
theorem pi_zip3 {elts:List Expr}{k:Nat}{tp:Pos}{a b c:Expr}{ta:TA}{p pos:Pos}(hg:Gl X "zip") (hm:X.mg "zip" = none) (ha:PA X [a,b,c] ta) (hs:starEach [a,b,c] X.env=(false,eval a X.env) :: starEach [b,c] X.env:=by rfl) (hpl:(backTo pos (starEach [b,c] X.env)).any (·.1)=false:=by rfl) :
  PI X (.Tuple elts k tp) (.Call (.Name "zip" p) [a,b,c] [] pos) (iZip3 ta):=by
 intro pins s σ H R I h
 refine Call_ (qk5 I hg hm boot_zip (PyProof.Rows.callWith_type1 (thn (ha pos pins s σ H _ I h) fun us s1 ⟨vs,H1,I1,r1,q1⟩=>?_) hs hpl))
 obtain ⟨x,y,z,rfl,q⟩:=q1
 cases r1 with
 | cons ru r1 =>
  obtain ⟨v,v2,rfl,rv,rw'⟩:=Vals.two r1
  obtain ⟨t1,rfl⟩:=ru
  obtain ⟨t2,rfl⟩:=rv
  obtain ⟨t3,rfl⟩:=rw'
  refine qY0 fun h' Z k=>qo0 (s:={ s1 with heap:=h' }) Z.zz rfl ?_
  refine ⟨_,fp3 s1.heap.objs.size,_,_,H1,rfl,I1.kept (t':=s1.toks) k,qO3 _ x y z,Z,fun b hb=>?_,q⟩
  have hb':s1.heap.objs.size<=b:=by
   unfold fp3 at hb
   simp only [List.mem_cons,List.not_mem_nil,or_false] at hb
   rcases hb with rfl | rfl | rfl | rfl | rfl | rfl
   ·exact Nat.le_refl _
   all_goals exact Nat.le_add_right _ _
  exact I1.fpOk hb' (I1.hok.fresh hb')
end
end L2
namespace L2
open PySem PySem.Spec PyProof.Rows
inductive Kd where
 | non | bl | int | str | lst | tup
 deriving DecidableEq
def kdIs (K:PySem.W.Frag) (H:Hp):V->Kd->Prop
 | .non,.non=>True
 | .bl _,.bl=>True
 | .int _,.int=>True
 | .str _,.str=>True
 | .ref a,.lst=>∃ xs,SqL K H a xs
 | .ref a,.tup=>∃ xs,SqT K H a xs
 | _,_=>False
def isT:Kd->String->Option Bool
 | .non, "str" => some false | .non, "int" => some false | .non, "bool" => some false | .non, "list" => some false | .non, "tuple" => some false
 | .bl, "str" => some false | .bl, "int" => some true | .bl, "bool" => some true | .bl, "list" => some false | .bl, "tuple" => some false
 | .int, "str" => some false | .int, "int" => some true | .int, "bool" => some false | .int, "list" => some false | .int, "tuple" => some false
 | .str, "str" => some true | .str, "int" => some false | .str, "bool" => some false | .str, "list" => some false | .str, "tuple" => some false
 | .lst, "str" => some false | .lst, "int" => some false | .lst, "bool" => some false | .lst, "list" => some true | .lst, "tuple" => some false
 | .tup, "str" => some false | .tup, "int" => some false | .tup, "bool" => some false | .tup, "list" => some false | .tup, "tuple" => some true
 | _,_=>none
section
variable {X:Cx}
theorem q59:CallR X (.builtin "isinstance") (fun xs H Q=>∃ x k T b,xs=[x,.ty T]/\kdIs X.K H x k/\isT k T=some b/\Q (.bl b) H):=by
 intro pins s σ H xs us Q I r h
 obtain ⟨x,k,T,b,rfl,hk,ht,q⟩:=h
 obtain ⟨u,v,rfl,ru,rv⟩:=r.two
 cases rv
 have J:∀ t,EP X pins σ Q (.bool b) { s with toks:=t }:=fun t=>⟨.bl b,H,I.tok t,rfl,q⟩
 have J0:EP X pins σ Q (.bool b) s:=⟨.bl b,H,I,rfl,q⟩
 have lst:∀ a ys,SqL X.K H a ys->∃ o,s.heap.get? a=some o/\o.cls=.type "list" := fun a ys hq=>by
  obtain ⟨its,_,⟨o,n,e,c,_⟩,_⟩:=I.list hq
  exact ⟨o,e,c⟩
 have tup:∀ a ys,SqT X.K H a ys->∃ o,s.heap.get? a=some o/\o.cls=.type "tuple" := fun a ys hq=>by
  obtain ⟨its,_,⟨o,e,c,_⟩,_⟩:=I.tuple hq
  exact ⟨o,e,c⟩
 unfold isT at ht
 split at ht <;> cases ht <;> cases x <;> first | exact hk.elim | skip
 ·cases ru; exact IsiPair.NoneType_str (J _)
 ·cases ru; exact IsiPair.NoneType_int (J _)
 ·cases ru; exact IsiPair.NoneType_bool (J _)
 ·cases ru; exact IsiPair.NoneType_list (J _)
 ·cases ru; exact IsiPair.NoneType_tuple (J _)
 ·cases ru; exact IsiPair.bool_str (J _)
 ·cases ru; exact IsiPair.bool_int J0
 ·cases ru; exact IsiPair.bool_bool J0
 ·cases ru; exact IsiPair.bool_list (J _)
 ·cases ru; exact IsiPair.bool_tuple (J _)
 ·obtain ⟨t,rfl⟩:=ru; exact IsiPair.int_str (J _)
 ·obtain ⟨t,rfl⟩:=ru; exact IsiPair.int_int J0
 ·obtain ⟨t,rfl⟩:=ru; exact IsiPair.int_bool (J _)
 ·obtain ⟨t,rfl⟩:=ru; exact IsiPair.int_list (J _)
 ·obtain ⟨t,rfl⟩:=ru; exact IsiPair.int_tuple (J _)
 ·obtain ⟨t,rfl⟩:=ru; exact IsiPair.str_str J0
 ·obtain ⟨t,rfl⟩:=ru; exact IsiPair.str_int (J _)
 ·obtain ⟨t,rfl⟩:=ru; exact IsiPair.str_bool (J _)
 ·obtain ⟨t,rfl⟩:=ru; exact IsiPair.str_list (J _)
 ·obtain ⟨t,rfl⟩:=ru; exact IsiPair.str_tuple (J _)
 ·cases ru; obtain ⟨ys,hq⟩:=hk; obtain ⟨o,e,c⟩:=lst _ _ hq; exact IsiPair.list_str e c (J _)
 ·cases ru; obtain ⟨ys,hq⟩:=hk; obtain ⟨o,e,c⟩:=lst _ _ hq; exact IsiPair.list_int e c (J _)
 ·cases ru; obtain ⟨ys,hq⟩:=hk; obtain ⟨o,e,c⟩:=lst _ _ hq; exact IsiPair.list_bool e c (J _)
 ·cases ru; obtain ⟨ys,hq⟩:=hk; obtain ⟨o,e,c⟩:=lst _ _ hq; exact IsiPair.list_list e c J0
 ·cases ru; obtain ⟨ys,hq⟩:=hk; obtain ⟨o,e,c⟩:=lst _ _ hq; exact IsiPair.list_tuple e c (J _)
 ·cases ru; obtain ⟨ys,hq⟩:=hk; obtain ⟨o,e,c⟩:=tup _ _ hq; exact IsiPair.tuple_str e c (J _)
 ·cases ru; obtain ⟨ys,hq⟩:=hk; obtain ⟨o,e,c⟩:=tup _ _ hq; exact IsiPair.tuple_int e c (J _)
 ·cases ru; obtain ⟨ys,hq⟩:=hk; obtain ⟨o,e,c⟩:=tup _ _ hq; exact IsiPair.tuple_bool e c (J _)
 ·cases ru; obtain ⟨ys,hq⟩:=hk; obtain ⟨o,e,c⟩:=tup _ _ hq; exact IsiPair.tuple_list e c (J _)
 ·cases ru; obtain ⟨ys,hq⟩:=hk; obtain ⟨o,e,c⟩:=tup _ _ hq; exact IsiPair.tuple_tuple e c J0
theorem qO0:∀{bs:List Bool}{us:List Value},Vals (bs.map V.bl) us->us=bs.map Value.bool
 | [],_,h=>by cases h; rfl
 | b :: r,us,h=>by
  cases h with
  | cons r1 r2=>cases r1; rw [qO0 r2]; rfl
theorem qY6:∀(bs:List Bool),((List.range bs.length).all fun i=>bs.getD i false)=bs.all id:=fun bs=>by
 have e:(List.range bs.length).map (fun i=>bs.getD i false)=bs:=by
  apply List.ext_getElem
  ·simp
  ·intro i h1 h2
   simp at h1
   simp [h1]
 conv=>rhs; rw [<- e]
 rw [List.all_map]; rfl
theorem z03 {prog:Program}{w:World}{A:Around}(bs:List Bool):TruthOf prog w A (fun i v=>((bs.map Value.bool).toArray)[i]? = some v) (fun i=>bs.getD i false):=by
 intro i v s Q E hP hQ
 have hP:(bs.map Value.bool)[i]? = some v:=by simpa using hP
 rw [List.getElem?_map] at hP
 cases e:bs[i]? with
 | none=>rw [e] at hP; cases hP
 | some b =>
  rw [e] at hP
  cases hP
  refine wpAny_truthy_bool ?_
  have:bs.getD i false=b:=by rw [List.getD_eq_getElem?_getD,e]; rfl
  have hQ:Q (bs.getD i false) s:=hQ
  rw [this] at hQ
  exact hQ
theorem ql1 (hc:X.calm=true):CallR X (.builtin "all") (fun xs H Q=>∃(a:Addr) (bs:List Bool),xs=[.ref a]/\SqL X.K H a (bs.map V.bl)/\Q (.bl (bs.all id)) H):=by
 intro pins s σ H xs us Q I r h
 obtain ⟨a,bs,rfl,hq,q⟩:=h
 obtain ⟨u,rfl,ru⟩:=r.one
 cases ru
 obtain ⟨its,rv,p,hz⟩:=I.list hq
 have ei:=qO0 rv
 subst ei
 refine call_all_walk (wpAny_pyIter_list p.isList ?_)
 have ne:a≠s.heap.objs.size:=by obtain ⟨o,n,e,_⟩:=p; exact Nat.ne_of_lt (Heap.lt_size e)
 have hh:X.A.in1.handled=none:=I.ok.hd hc
 refine ⟨s.heap.objs.size,_,_,_,_,_,_,rfl,Walks.list hh _ a ne (bs.map Value.bool).toArray,⟨⟨_,Heap.get?_push_size _ rfl,rfl,rfl⟩,p.isList.push _⟩,z03 bs,fun h' tk kk=>?_⟩
 have e2:(List.range (bs.map Value.bool).toArray.size).all (fun i=>bs.getD i false)=bs.all id:=by
  rw [List.size_toArray,List.length_map]; exact qY6 bs
 rw [e2]
 exact ⟨.bl (bs.all id),H,I.kept fun b o e=>kk b o (fun z=>by
  have z:b=s.heap.objs.size:=by simpa using z
  exact absurd (Heap.lt_size e) (by rw [z]; exact Nat.lt_irrefl _)) (Heap.get?_push_of_some _ e),rfl,q⟩
theorem qz3:∀{ys:List Str}{us:List Value},Vals (ys.map V.str) us->StrsAre us ys
 | [],_,h=>by cases h; exact .nil
 | y :: r,us,h=>by
  cases h with
  | cons r1 r2=>obtain ⟨t,rfl⟩:=r1; exact .cons y t (qz3 r2)
def rJoin (K:PySem.W.Frag):V->List V->Hp->VK->Prop:=fun x vs H Q=>∃ sep a ys,x=.str sep/\vs=[.ref a]/\SqL K H a (ys.map V.str)/\sep.length<=16/\(ys.map (·.length)).sum + ys.length<=1048576/\Q (.str (Txt.join sep ys)) H
theorem qx4:MtR X "str.join" (rJoin X.K):=by
 intro pins s σ H x vs v us Q I rx rv h
 obtain ⟨sep,a,ys,rfl,rfl,hq,h1,h2,q⟩:=h
 obtain ⟨t,rfl⟩:=rx
 obtain ⟨u,rfl,ru⟩:=rv.one
 cases ru
 obtain ⟨its,rv,p,hz⟩:=I.list hq
 exact join_listW p.isList (by simpa using qz3 rv) h1 h2 fun t' k=>⟨.str _,H,I.tok k,⟨t',rfl⟩,q⟩
end
end L2
namespace L2
open PySem PySem.Spec PyProof.Rows
structure Df (K:PySem.W.Frag) (mg:Str->Option Value) (x:Str) (st:Stmt) (ps:List Str) (f:Addr) (fd:FuncData):Prop where
 F:Fun K x x st f fd
 mg:mg x=some (.ref f)
 b:Binds K fd ps []
theorem q17 {P:Program}{w:World}{X:Cx}:q94 (CXE P w) X E0:=fun _ _ _ _ _ _ _ h=>by
 obtain ⟨_,_,_,_,_,_,_,_,_,_,_,_,_,_,_,q⟩:=h
 exact q.elim
section
variable {P:Program}{w:World}{K:PySem.W.Frag}{mg:Str->Option Value}{base:Heap}
theorem Fun.okN {x qual:Str}{st:Stmt}{f:Addr}{fd:FuncData}{N ps:List Str}{k:Nat}{sp:Sp}(F:Fun K x qual st f fd) (S:FnScope N ps (q02 st)) (len:∀ vs H Q E,sp vs H Q E->vs.length=ps.length)
  (hbody:∀(cdv:Value) (A:Around) (outer:List Env) (s:Shared) (H:Hp) (vs:List V) (Q:VK) (E:XK),Room k (A.deeper (envOfC qual (q02 st) s.heap.objs.size f cdv))->sp vs H Q E ->
   ∃ t,PSs (qD7 (CXE P w) P w K mg base N qual (q02 st) f cdv A outer s H E).nox (q07 st) t/\t { nx:=fun _ H'=>Q .non H',rt:=Q } (start N vs) H):FnOk P w K mg base (CXE P w) (k + 1) f fd ps sp:=by
 obtain ⟨oc,od,kV,doc,pm,an,cdv,ct,osl,rfl,lk,hcd⟩:=F.ex
 refine z65 lk hcd S len fun A outer s H vs Q E hr hsp=>?_
 obtain ⟨t,h,q⟩:=hbody cdv A outer s H vs Q E hr hsp
 exact ⟨t,h.nox,q⟩
theorem Fun.okE {x qual:Str}{st:Stmt}{f:Addr}{fd:FuncData}{N ps:List Str}{k:Nat}{sp:Sp}(F:Fun K x qual st f fd) (S:FnScope N ps (q02 st)) (len:∀ vs H Q E,sp vs H Q E->vs.length=ps.length)
  (hbody:∀(cdv:Value) (A:Around) (outer:List Env) (s:Shared) (H:Hp) (vs:List V) (Q:VK) (E:XK),Room k (A.deeper (envOfC qual (q02 st) s.heap.objs.size f cdv))->sp vs H Q E ->
   ∃ t,PSs (qD7 (CXE P w) P w K mg base N qual (q02 st) f cdv A outer s H E) (q07 st) t/\t { nx:=fun _ H'=>Q .non H',rt:=Q } (start N vs) H):FnOk P w K mg base (CXE P w) (k + 1) f fd ps sp:=by
 obtain ⟨oc,od,kV,doc,pm,an,cdv,ct,osl,rfl,lk,hcd⟩:=F.ex
 exact z65 lk hcd S len fun A outer s H vs Q E hr hsp=>hbody cdv A outer s H vs Q E hr hsp
theorem q28 {h:Heap}(X:K.In h) (G:h.Ns mainGlobals mg) {x:Str}{st:Stmt}{ps:List Str}{f:Addr}{oc:Value}{od an:Option Addr}{osl:Array (Option Value)}{kV doc pm cdv ct:Value}(a:PySem.W.nsIn K mainGlobals x=some (some (.ref f)))
  (l:K.lookup f=some ⟨oc,od,.func (PySem.W.fnOf x x (q09 st) (q07 st) (q02 st) .none kV doc pm an cdv ct),osl⟩) (c:PySem.W.codeIn K cdv x=true) (k:PySem.W.keepIn K (.ref f)=true)
  (hb:∀(kV doc pm:Value) (an:Option Addr) (cdv ct:Value) (us:List Value),us.length=ps.length->bindArgs (PySem.W.fnOf x x (q09 st) (q07 st) (q02 st) .none kV doc pm an cdv ct) ⟨us,[]⟩=pure (ps.zip us)) :
  Df K mg x st ps f (PySem.W.fnOf x x (q09 st) (q07 st) (q02 st) .none kV doc pm an cdv ct) :=
 have F:=qb3 (st:=st) l c k
 ⟨F,PySem.W.mg_of X G a,F.binds hb⟩
end
section
variable {X:Cx}{k:Nat}{f:Addr}{fd:FuncData}{ps:List Str}{sp:Sp}{x:Str}{st:Stmt}{p pos:Pos}{e:Expr}{es:List Expr}{t:TA}{E:XK}
theorem q14 (D:Df X.K X.mg x st ps f fd) (G:FnOk X.prog X.w X.K X.mg X.base (CXE X.prog X.w) k f fd ps sp) (hr:Room k X.A) (hx:q94 (CXE X.prog X.w) X E) (ha:PA X (e :: es) t) (hg:Gl X x:=by rfl)
  (hdb:(x == ("__debug__" : Str))=false:=by decide) (he:starEach (e :: es) X.env=(false,eval e X.env) :: starEach es X.env:=by rfl) (hpl:(backTo pos (starEach es X.env)).any (·.1)=false:=by rfl) :
  PE X (.Call (.Name x p) (e :: es) [] pos) (qL6 sp [] E t):=pe_call G hr hg D.mg D.F.kp D.b .nil hx ha hdb he hpl
end
def cd (b:Bool):Nat:=if b then 121 else 110
def sn (b:Bool):V:=.str ⟨#[cd b]⟩
inductive Dt where
 | non | bl (b:Bool) | int (i:Int) | str (x:Str) | lst (ds:List Dt) | tup (ds:List Dt)
inductive Den (K:PySem.W.Frag) (H:Hp):V->Dt->Prop
 | non:Den K H .non .non
 | bl (b:Bool):Den K H (.bl b) (.bl b)
 | int (i:Int):Den K H (.int i) (.int i)
 | str (x:Str):Den K H (.str x) (.str x)
 | lst {a:Addr} {xs:List V} {ds:List Dt}:SqL K H a xs->xs.length=ds.length->ds.length<=5000->(∀(i:Nat) x d,xs[i]? = some x->ds[i]? = some d->Den K H x d)->Den K H (.ref a) (.lst ds)
 | tup {a:Addr} {xs:List V} {ds:List Dt}:SqT K H a xs->xs.length=ds.length->ds.length<=5000->(∀(i:Nat) x d,xs[i]? = some x->ds[i]? = some d->Den K H x d)->Den K H (.ref a) (.tup ds)
theorem Same.seqT {K:PySem.W.Frag}{H H':Hp}{a:Addr}{xs:List V}(e:Same H H') (h:SqT K H a xs):SqT K H' a xs:=by
 rcases h with (h | ⟨o,h⟩) | h
 ·exact .inl (.inl (e _ _ h))
 ·exact .inl (.inr ⟨o,e _ _ h⟩)
 ·exact .inr h
theorem Den.mono {K:PySem.W.Frag}{H H':Hp}(e:Same H H'):∀{v:V}{d:Dt},Den K H v d->Den K H' v d:=by
 intro v d h
 induction h with
 | non=>exact .non
 | bl b=>exact .bl b
 | int i=>exact .int i
 | str x=>exact .str x
 | lst h1 h2 h3 _ ih=>exact .lst (e.seq h1) h2 h3 ih
 | tup h1 h2 h3 _ ih=>exact .tup (e.seqT h1) h2 h3 ih
def Dt.deep:Dt->Nat
 | .lst ds=>1 + deeps ds
 | .tup ds=>1 + deeps ds
 | _=>0
where deeps:List Dt->Nat
 | []=>0
 | d :: r=>max d.deep (deeps r)
theorem qy5:∀{ds:List Dt}{i:Nat}{d:Dt},ds[i]? = some d->d.deep<=Dt.deep.deeps ds
 | _ :: _,0,_,h=>by simp at h; subst h; exact Nat.le_max_left _ _
 | _ :: r,i + 1,d,h=>Nat.le_trans (qy5 (ds:=r) (i:=i) (by simpa using h)) (Nat.le_max_right _ _)
def Dt.eqb:Dt->Dt->Bool
 | .non,.non=>true
 | .bl a,.bl b=>a == b
 | .int a,.int b=>a == b
 | .str a,.str b=>decide (a=b)
 | .lst a,.lst b=>eqbs a b
 | .tup a,.tup b=>eqbs a b
 | _,_=>false
where eqbs:List Dt->List Dt->Bool
 | [],[]=>true
 | a :: r,b :: s=>a.eqb b && eqbs r s
 | _,_=>false
theorem Same.new {H:Hp}{p:Addr}{o:HO}(h:H p=none):Same H (upd H p o):=fun b u e=>by rw [q08 (q19 e h)]; exact e
end L2
namespace L2
open PySem PySem.Spec PyProof.Rows
section
variable {X:Cx}{st:Stmt}{t:TS}
def tCut (M:St->Hp->Prop) (t:TS):TS:=fun D σ H=>t { D with nx:=M } σ H/\∀ σ' H',M σ' H'->D.nx σ' H'
theorem qS5 (M:St->Hp->Prop) (h:PS X st t):PS X st (tCut M t):=by
 intro pins s σ H D I q
 obtain ⟨q1,q2⟩:=q
 refine thn (h pins s σ H _ I q1) fun f s1 r=>?_
 cases f with
 | next=>obtain ⟨σ',H',J,m⟩:=r; exact ⟨σ',H',J,q2 σ' H' m⟩
 | ret v=>exact r
 | brk=>exact r
 | cont=>exact r
end
end L2
namespace L2
open PySem PySem.Spec PyProof.Rows
section
variable {p:Addr}{g:TG}{tt:TT}{te:TE}{σ0:St}{H0:Hp}{Q:Hp->Prop}{x y z:Str}
theorem qG4 (Pv:Nat->St->Hp->Prop) (h0:Pv 0 σ0 H0) (hs:∀ i σ H,i < x.length->Pv i σ H->qd7 p g tt te (Pv (i + 1)) (sg x i) σ H) (hd:∀ σ H,Pv x.length σ H->Q H):qZ3 (Its x) p g tt te σ0 H0 Q:=by
 refine ⟨fun i m σ H=>m=x.length - i/\i<=x.length/\Pv i σ H,⟨x.length,by simp,Nat.zero_le _,h0⟩,?_⟩
 rintro i m σ H ⟨rfl,hi,q⟩
 by_cases hlt:i < x.length
 ·refine .inr ⟨hlt,Pv (i + 1),fun σ' H' r=>⟨x.length - (i + 1),by omega,rfl,hlt,r⟩,fun v H' r=>?_⟩
  obtain ⟨e,r⟩:=r
  subst e r
  exact hs i σ _ hlt q
 ·have e:i=x.length:=by omega
  subst e
  exact .inl ⟨Nat.le_refl _,hd σ H q⟩
theorem z84 (Pv:Nat->St->Hp->Prop) (h0:Pv 0 σ0 H0) (hxy:x.length<=y.length) (hs:∀ i T σ H,i < x.length->H T=none->Pv i σ H->qd7 p g tt te (Pv (i + 1)) (.ref T) σ (upd H T (.tup [sg x i,sg y i]))) (hd:∀ σ H,Pv x.length σ H->Q H) :
  qZ3 (Itz2 x y) p g tt te σ0 H0 Q:=by
 refine ⟨fun i m σ H=>m=x.length - i/\i<=x.length/\Pv i σ H,⟨x.length,by simp,Nat.zero_le _,h0⟩,?_⟩
 rintro i m σ H ⟨rfl,hi,q⟩
 by_cases hlt:i < x.length
 ·refine .inr ⟨⟨hlt,by omega⟩,Pv (i + 1),fun σ' H' r=>⟨x.length - (i + 1),by omega,rfl,hlt,r⟩,fun v H' r=>?_⟩
  obtain ⟨T,rfl,n,rfl⟩:=r
  exact hs i T σ H hlt n q
 ·have e:i=x.length:=by omega
  subst e
  exact .inl ⟨Nat.le_refl _,hd σ H q⟩
theorem z83 (Pv:Nat->St->Hp->Prop) (h0:Pv 0 σ0 H0) (hxy:x.length<=y.length) (hxz:x.length<=z.length) (hs:∀ i T σ H,i < x.length->H T=none->Pv i σ H->qd7 p g tt te (Pv (i + 1)) (.ref T) σ (upd H T (.tup [sg x i,sg y i,sg z i])))
  (hd:∀ σ H,Pv x.length σ H->Q H):qZ3 (Itz3 x y z) p g tt te σ0 H0 Q:=by
 refine ⟨fun i m σ H=>m=x.length - i/\i<=x.length/\Pv i σ H,⟨x.length,by simp,Nat.zero_le _,h0⟩,?_⟩
 rintro i m σ H ⟨rfl,hi,q⟩
 by_cases hlt:i < x.length
 ·refine .inr ⟨⟨hlt,by omega,by omega⟩,Pv (i + 1),fun σ' H' r=>⟨x.length - (i + 1),by omega,rfl,hlt,r⟩,fun v H' r=>?_⟩
  obtain ⟨T,rfl,n,rfl⟩:=r
  exact hs i T σ H hlt n q
 ·have e:i=x.length:=by omega
  subst e
  exact .inl ⟨Nat.le_refl _,hd σ H q⟩
end
theorem q53 {p:Addr}{i:Nat}{te:TE}{N:St->Hp->Prop}{x:V}{σ:St}{H:Hp}(h:te (σ.set i (some x)) H fun v H4=>∃ ys,H4 p=some (.lst ys)/\ys.length < sizeLine/\N (σ.set i (some x)) (upd H4 p (.lst (ys ++ [v])))) :
  qd7 p (q54 i) tAll te N x σ H:=by
 exact q48 (B:=N (σ.set i (some x)) H) h
theorem FnOk.no {P:Program}{w:World}{K:PySem.W.Frag}{mg:Str->Option Value}{base:Heap}{CX:CXT}{k:Nat}{f:Addr}{fd:FuncData}{ps:List Str}:FnOk P w K mg base CX k f fd ps (fun _ _ _ _=>False) :=
 ⟨fun _ _ _ _ h=>h.elim,fun _ _ _ _ _ _ _ _ _ _ _ _ _ h=>h.elim⟩
theorem Den.kd {K:PySem.W.Frag}{H:Hp}{v:V}{d:Dt}(h:Den K H v d):kdIs K H v (match d with | .non=>.non | .bl _=>.bl | .int _=>.int | .str _=>.str | .lst _=>.lst | .tup _=>.tup):=by
 cases h with
 | non=>trivial
 | bl=>trivial
 | int=>trivial
 | str=>trivial
 | lst h1 _ _ _=>exact ⟨_,h1⟩
 | tup h1 _ _ _=>exact ⟨_,h1⟩
theorem qy3:∀(a b:List Dt),a.length=b.length->Dt.eqb.eqbs a b=((a.zip b).map fun q=>q.1.eqb q.2).all id
 | [],[],_=>rfl
 | x :: r,y :: s,h=>by
  show (x.eqb y && Dt.eqb.eqbs r s)=_
  rw [qy3 r s (by simpa using h)]
  rfl
theorem qy2:∀(a b:List Dt),a.length≠b.length->Dt.eqb.eqbs a b=false
 | [],[],h=>absurd rfl h
 | [],_ :: _,_=>rfl
 | _ :: _,[],_=>rfl
 | x :: r,y :: s,h=>by
  show (x.eqb y && Dt.eqb.eqbs r s)=false
  rw [qy2 r s (by simpa using h),Bool.and_false]
theorem Den.isN {K:PySem.W.Frag}{H:Hp}{v:V}{d:Dt}(h:Den K H v d):decide (v=V.non)=d.eqb .non:=by cases h <;> rfl
def Dt.kd:Dt->Kd
 | .non=>.non | .bl _=>.bl | .int _=>.int | .str _=>.str | .lst _=>.lst | .tup _=>.tup
theorem Den.kdIs {K:PySem.W.Frag}{H:Hp}{v:V}{d:Dt}(h:Den K H v d):L2.kdIs K H v d.kd:=by cases d <;> exact h.kd
end L2
namespace K67
open PySem L2
def top (i:Nat):Stmt:=PySem.Challenge.pw_wapentake_k67_whole_rows_that_are_ruling.main.body.getD i (.Pass ⟨0,0,0,0⟩)
abbrev qq7:Stmt:=top 61
abbrev q95:Stmt:=top 62
structure Bt (mg:Str->Option Value):Prop where
 len:mg "len" = none
 range:mg "range" = none
 all:mg "all" = none
 zip:mg "zip" = none
 abs:mg "abs" = none
 int:mg "int" = none
 str:mg "str" = none
 bool:mg "bool" = none
 list:mg "list" = none
 tuple:mg "tuple" = none
 isi:mg "isinstance" = none
section
variable {P:Program}{w:World}{K:PySem.W.Frag}{mg:Str->Option Value}{base:Heap}
def qX8 (ns:List Int) (k:Nat):Int:=ns.getD k 0
def spCell (K:PySem.W.Frag):Sp:=fun vs H Q _=>∃(a:Addr) (ns:List Int) (k:Nat),vs=[.ref a,.int k]/\SqL K H a (ns.map V.int)/\Q (.int (qX8 ns k)) H
theorem sc_cell:FnScope ["_law_script", "_law_k"] ["_law_script", "_law_k"] (q02 qq7):=⟨rfl,rfl,rfl,by decide +kernel,rfl,by decide +kernel,by decide +kernel⟩
theorem qU4 {f:Addr}{fd:FuncData}(D:Df K mg "_law_cell" qq7 ["_law_script", "_law_k"] f fd) (B:Bt mg):FnOk P w K mg base (CXE P w) 1 f fd ["_law_script", "_law_k"] (spCell K):=by
 refine D.F.okN sc_cell (fun vs H Q E h=>?_) (fun cdv A outer s H vs Q E hr h=>?_)
 ·obtain ⟨a,ns,k,rfl,_⟩:=h
  rfl
 ·obtain ⟨a,ns,k,rfl,hS,q⟩:=h
  refine ⟨_,q04 (q30 (q10 qn7 (pv 1) (q15 q27 (by rfl) B.len PySem.boot_len (q00 (pv 0) q03)) (q13 _))
    (q05 (q12 (q25 ix_list (pv 0) (pv 1) (fun _ _=>rfl)))) q16)
   (q05 (q12 q06)),?_⟩
  refine ⟨_,rfl,_,rfl,a,_,rfl,.inl hS,_,_,rfl,rfl,_,rfl,?_⟩
  refine q77 (fun c=>?_) (fun c=>?_)
  ·have c:(k:Int) < ((ns.map V.int).length:Int):=of_decide_eq_true c
   rw [List.length_map] at c
   have e:(ns.map V.int)[k]? = some (.int (qX8 ns k)):=by
    rw [List.getElem?_map,List.getElem?_eq_getElem (by omega)]
    simp [qX8,List.getD_eq_getElem?_getD,List.getElem?_eq_getElem (show k < ns.length by omega)]
   exact ⟨_,rfl,_,rfl,a,_,_,_,rfl,rfl,hS,q46 e,q⟩
  ·have c:¬ (k:Int) < ((ns.map V.int).length:Int):=fun z=>c (decide_eq_true z)
   rw [List.length_map] at c
   have e:qX8 ns k=0:=by
    simp [qX8,List.getD_eq_getElem?_getD,List.getElem?_eq_none (show ns.length<=k by omega)]
   rw [e] at q
   exact q
end
end K67
namespace K67
open PySem L2
def qT4 (c:Int):Int:=(c * 48271 + 11) % 2147483647
def twoM (c:Int):Int:=(qT4 c * qT4 c + 40692 * qT4 c + c) % 2147483399
def sixM (c:Int):Int:=(twoM c * 16807 + qT4 c) % 1000000007
def absM (c:Int):Int:=if c < 0 then -c else c
def qJ1 (c:Int):Int:=if absM c < 10 ^ 18 then twoM c + 2147483399 * (sixM c + 1000000007 * qT4 c) else absM c - 10 ^ 18
def qd5:Int->List Int->List Int
 | _,[]=>[]
 | c,p :: r=>c % p :: qd5 (c / p) r
def qw1 (c:Int):List Int->Int
 | []=>c
 | p :: r=>qw1 (c / p) r
def qk7 (c:Int) (ps:List Int):List Int:=qd5 (qJ1 c) ps
theorem zb7:∀(ps:List Int) (c:Int),(qd5 c ps).length=ps.length
 | [],_=>rfl
 | p :: r,c=>by show (qd5 (c / p) r).length + 1=r.length + 1; rw [zb7 r]
theorem qA9:∀(ps:List Int) (c:Int) (i:Nat) (p:Int),ps[i]? = some p->qw1 c (ps.take (i + 1))=qw1 c (ps.take i) / p
 | q :: r,c,0,p,h=>by simp at h; subst h; rfl
 | q :: r,c,i + 1,p,h=>by
  show qw1 (c / q) (r.take (i + 1))=qw1 (c / q) (r.take i) / p
  exact qA9 r (c / q) i p (by simpa using h)
theorem qW9:∀(ps:List Int) (c:Int) (i:Nat) (p:Int),ps[i]? = some p->(qd5 c ps).take (i + 1)=(qd5 c ps).take i ++ [qw1 c (ps.take i) % p]
 | q :: r,c,0,p,h=>by simp at h; subst h; simp [qd5,qw1]
 | q :: r,c,i + 1,p,h=>by
  show (c % q) :: (qd5 (c / q) r).take (i + 1)=(c % q) :: ((qd5 (c / q) r).take i ++ [qw1 (c / q) (r.take i) % p])
  rw [qW9 r (c / q) i p (by simpa using h)]
theorem one_b (c:Int):0<=qT4 c/\qT4 c < 2147483647:=⟨Int.emod_nonneg _ (by decide),Int.emod_lt_of_pos _ (by decide)⟩
theorem two_b (c:Int):0<=twoM c/\twoM c < 2147483399:=⟨Int.emod_nonneg _ (by decide),Int.emod_lt_of_pos _ (by decide)⟩
theorem six_b (c:Int):0<=sixM c/\sixM c < 1000000007:=⟨Int.emod_nonneg _ (by decide),Int.emod_lt_of_pos _ (by decide)⟩
section
variable {P:Program}{w:World}{K:PySem.W.Frag}{mg:Str->Option Value}{base:Heap}
def qE2 (K:PySem.W.Frag):Sp:=fun vs H Q _=>∃(c:Int) (p:Addr) (ps:List Int),vs=[.int c,.ref p]/\SqL K H p (ps.map V.int)/\(∀ x∈ps,0 < x/\x < 1073741824)/\ps.length<=100 /\
 ∀ q H',Same H H'->H q=none->H' q=some (.lst ((qk7 c ps).map V.int))->Q (.ref q) H'
theorem sc_draws:FnScope ["_law_cell_here", "_law_parts", "_law_one", "_law_two", "_law_six", "_law_found", "_law_part"] ["_law_cell_here", "_law_parts"] (q02 q95):=⟨rfl,rfl,rfl,by decide +kernel,rfl,by decide +kernel,by decide +kernel⟩
theorem qh2 {f:Addr}{fd:FuncData}(D:Df K mg "_law_draws" q95 ["_law_cell_here", "_law_parts"] f fd) (B:Bt mg):FnOk P w K mg base (CXE P w) 1 f fd ["_law_cell_here", "_law_parts"] (qE2 K):=by
 refine D.F.okN sc_draws (fun vs H Q E h=>?_) (fun cdv A outer s H vs Q E hr h=>?_)
 ·obtain ⟨c,p,ps,rfl,_⟩:=h
  rfl
 ·obtain ⟨c,p,ps,rfl,hS,hps,hl,k⟩:=h
  refine ⟨_,q04 (qS5 (fun σ' H'=>H'=H/\∃ x2 x3 x4,σ'=[some (.int (qJ1 c)),some (.ref p),x2,x3,x4,none,none])
    (q30 (q10 qn7 (q15 qK7 (by rfl) B.abs PyProof.Rows.boot_abs (q00 (pv 0) q03)) (q24 za3 q06 q06) (q13 _))
     (q04 (q21 (i:=2) sc_draws.nd rfl (Or.inl rfl) (q24 q66 (q24 q47 (q24 qf9 (pv 0) q06) q06) q06))
     (q04 (q21 (i:=3) sc_draws.nd rfl (Or.inl rfl) (q24 q66 (q24 q47 (q24 q47 (q24 qf9 (pv 2) (pv 2)) (q24 qf9 q06 (pv 2))) (pv 0)) q06))
     (q04 (q21 (i:=4) sc_draws.nd rfl (Or.inl rfl) (q24 q66 (q24 q47 (q24 qf9 (pv 3) q06) (pv 2)) q06))
     (q05 (q21 (i:=0) sc_draws.nd rfl (Or.inl rfl) (q24 q47 (pv 3) (q24 qf9 q06 (q24 q47 (pv 4) (q24 qf9 q06 (pv 2))))))))))
     (q05 (q21 (i:=0) sc_draws.nd rfl (Or.inl rfl) (q24 za2 (q15 qK7 (by rfl) B.abs PyProof.Rows.boot_abs (q00 (pv 0) q03)) (q24 za3 q06 q06))))))
   (q04 (q21 (i:=5) sc_draws.nd rfl (Or.inl rfl) (q36 q03))
   (q04 (q91 PassesOwn.never rfl (q35 (pv 1)) (q11 (i:=6) sc_draws.nd rfl (Or.inl rfl))
    (q04 (q18 (qi8 PySem.F.plainAttrs_list PySem.F.slot_list_append PySem.F.type_list_append q57 (pv 5) (q00 (q24 q66 (pv 0) (pv 6)) q03)))
    (q05 (q21 (i:=0) sc_draws.nd rfl (Or.inl rfl) (q24 qg0 (pv 0) (pv 6))))))
   (q05 (q12 (pv 5))))),?_⟩
  have b1:=one_b c
  have b2:=two_b c
  have b3:=six_b c
  refine ⟨?_,?_⟩
  ·refine ⟨_,rfl,_,rfl,_,_,rfl,rfl,⟨by decide,by decide,by decide⟩,_,_,rfl,rfl,_,rfl,?_⟩
   refine q77 (fun z=>?_) (fun z=>?_)
   ·have z:absM c < 10 ^ 18:=of_decide_eq_true z
    refine ⟨_,rfl,_,_,rfl,rfl,.inr ⟨by decide,by decide⟩,_,_,rfl,rfl,_,_,rfl,rfl,(by show (0:Int) < 2147483647; decide),?_⟩
    refine ⟨_,rfl,_,rfl,_,_,rfl,rfl,.inl ⟨?_,?_⟩,_,rfl,_,_,rfl,rfl,.inl ⟨by decide,by decide⟩,_,_,rfl,rfl,_,rfl,_,_,rfl,rfl,_,_,rfl,rfl,(by show (0:Int) < 2147483399; decide),?_⟩
    ·show -(2 ^ 64) < qT4 c; omega
    ·show qT4 c < 2 ^ 64; omega
    refine ⟨_,rfl,_,_,rfl,rfl,.inr ⟨by decide,by decide⟩,_,rfl,_,_,rfl,rfl,_,_,rfl,rfl,(by show (0:Int) < 1000000007; decide),?_⟩
    refine ⟨_,rfl,_,rfl,_,rfl,_,_,rfl,rfl,.inl ⟨by decide,by decide⟩,_,_,rfl,rfl,_,_,rfl,rfl,.inl ⟨by decide,by decide⟩,_,_,rfl,rfl,?_⟩
    refine ⟨rfl,some (.int (qT4 c)),some (.int (twoM c)),some (.int (sixM c)),?_⟩
    have e:qJ1 c=twoM c + 2147483399 * (sixM c + 1000000007 * qT4 c):=if_pos z
    rw [e]
    rfl
   ·have z:¬ absM c < 10 ^ 18:=fun q=>z (decide_eq_true q)
    refine ⟨_,rfl,_,rfl,_,_,rfl,rfl,⟨by decide,by decide,by decide⟩,_,_,rfl,rfl,?_⟩
    refine ⟨rfl,none,none,none,?_⟩
    have e:qJ1 c=absM c - 10 ^ 18:=if_neg z
    rw [e]
    rfl
  ·rintro σ' H' ⟨rfl,x2,x3,x4,rfl⟩
   refine ⟨Nat.zero_le _,fun q hq=>?_⟩
   have S0:Same H' (upd H' q (.lst [])):=Same.new hq
   refine ⟨_,rfl,p,rfl,⟨_,S0.seq hS⟩,qo7 (K:=K) (a:=p) (xs:=ps.map V.int) (fun i σ H2=>∃ v,σ=[some (.int (qw1 (qJ1 c) (ps.take i))),some (.ref p),x2,x3,x4,some (.ref q),v]/\Same H' H2/\H2 q=some (.lst (((qk7 c ps).take i).map V.int)))
    ⟨none,rfl,S0,q01⟩ (fun i σ H2 _ ⟨_,_,s2,_⟩=>s2.seq hS) ?_ ?_⟩
   ·rintro i y σ H2 hi ⟨v,rfl,s2,e2⟩
    rw [List.getElem?_map] at hi
    cases z:ps[i]? with
    | none=>rw [z] at hi; cases hi
    | some d =>
     rw [z] at hi
     cases hi
     obtain ⟨d1,d2⟩:=hps d (List.mem_of_getElem? z)
     have il:i < ps.length:=(List.getElem?_eq_some_iff.mp z).1
     refine ⟨_,rfl,.inl ⟨rfl,_,SqL.of e2⟩,_,rfl,_,rfl,_,_,rfl,rfl,d1,q,_,_,rfl,rfl,e2,?_,?_⟩
     ·rw [List.length_map,List.length_take]
      exact qQ8 (by omega)
     refine ⟨_,rfl,_,rfl,_,_,rfl,rfl,⟨d1,d2⟩,?_⟩
     refine ⟨some (.int d),?_,fun b o hb=>?_,?_⟩
     ·rw [qA9 ps (qJ1 c) i d z]; rfl
     ·rw [q08 (q19 hb hq)]
      exact s2 b o hb
     ·rw [q01]
      show some (HO.lst _)=_
      unfold qk7
      rw [qW9 ps (qJ1 c) i d z,List.map_append]
      rfl
   ·rintro σ H2 ⟨v,rfl,s2,e2⟩
    refine ⟨_,rfl,k q H2 s2 hq ?_⟩
    rw [e2]
    have:(qk7 c ps).take (ps.map V.int).length=qk7 c ps:=List.take_of_length_le (by unfold qk7; rw [zb7,List.length_map]; exact Nat.le_refl _)
    rw [this]
end
end K67
namespace K67
open PySem L2
abbrev qm7:Stmt:=top 63
section
variable {P:Program}{w:World}{K:PySem.W.Frag}{mg:Str->Option Value}{base:Heap}
def spSame (K:PySem.W.Frag):Nat->Sp
 | 0=>fun _ _ _ _=>False
 | m + 1=>fun vs H Q _=>∃(v1 v2:V) (d1 d2:Dt),vs=[v1,v2]/\Den K H v1 d1/\Den K H v2 d2/\d2.deep<=m/\∀ H',Same H H'->Q (.bl (d1.eqb d2)) H'
theorem sc_same:FnScope ["_law_found", "_law_due"] ["_law_found", "_law_due"] (q02 qm7):=⟨rfl,rfl,rfl,by decide +kernel,rfl,by decide +kernel,by decide +kernel⟩
theorem qt7 {n:Nat}(h:n<=5000):n < sizeLine:=Nat.lt_of_le_of_lt h (by decide)
theorem nd3:(["_law_k", "_law_found", "_law_due"]:List Str).Nodup:=by decide +kernel
abbrev Ps:List Str:=["_law_found", "_law_due"]
theorem qw9 {f:Addr}{fd:FuncData}(D:Df K mg "_law_same" qm7 Ps f fd) (B:Bt mg) (m:Nat):FnOk P w K mg base (CXE P w) m f fd Ps (spSame K m):=by
 induction m with
 | zero=>exact FnOk.no
 | succ m G =>
  refine D.F.okN sc_same (fun vs H Q E h=>?_) (fun cdv A outer s H vs Q E hr h=>?_)
  ·obtain ⟨v1,v2,d1,d2,rfl,_⟩:=h
   rfl
  ·obtain ⟨v1,v2,d1,d2,rfl,h1,h2,hd,k⟩:=h
   refine ⟨_,q04 (q30 (q10 za4 (pv 1) qS8 (q13 _)) (q05 (q12 (q50 za4 (pv 0) qS8 (q13 _)))) q16)
    (q04 (q30 (q61 (q15 q59 (by rfl) B.isi (by rfl) (q00 (pv 1) (q00 (q86 (by rfl) B.str (v:=.ty "str") (u:=.type "str") (by rfl) rfl) q03))))
      (q05 (q12 (qh7 (q15 q59 (by rfl) B.isi (by rfl) (q00 (pv 0) (q00 (q86 (by rfl) B.str (v:=.ty "str") (u:=.type "str") (by rfl) rfl) q03)))
       (qn3 (q50 q37 (pv 0) (pv 1) (q13 _)))))) q16)
    (q04 (q30 (q61 (q15 q59 (by rfl) B.isi (by rfl) (q00 (pv 1) (q00 (q86 (by rfl) B.int (v:=.ty "int") (u:=.type "int") (by rfl) rfl) q03))))
      (q05 (q12 (qh7 (q15 q59 (by rfl) B.isi (by rfl) (q00 (pv 0) (q00 (q86 (by rfl) B.int (v:=.ty "int") (u:=.type "int") (by rfl) rfl) q03)))
       (qh7 (q50 q37 (q15 q59 (by rfl) B.isi (by rfl) (q00 (pv 0) (q00 (q86 (by rfl) B.bool (v:=.ty "bool") (u:=.type "bool") (by rfl) rfl) q03)))
         (q15 q59 (by rfl) B.isi (by rfl) (q00 (pv 1) (q00 (q86 (by rfl) B.bool (v:=.ty "bool") (u:=.type "bool") (by rfl) rfl) q03))) (q13 _))
        (qn3 (q50 q37 (pv 0) (pv 1) (q13 _))))))) q16)
    (q04 (q30 (PW.pt (qw2 (q10 qr2 (q15 q59 (by rfl) B.isi (by rfl) (q00 (pv 1) (q00 (q86 (by rfl) B.list (v:=.ty "list") (u:=.type "list") (by rfl) rfl) q03)))
         (q15 q59 (by rfl) B.isi (by rfl) (q00 (pv 0) (q00 (q86 (by rfl) B.list (v:=.ty "list") (u:=.type "list") (by rfl) rfl) q03))) (q13 _))
        (qj8 (q10 qr2 (q15 q59 (by rfl) B.isi (by rfl) (q00 (pv 1) (q00 (q86 (by rfl) B.tuple (v:=.ty "tuple") (u:=.type "tuple") (by rfl) rfl) q03)))
         (q15 q59 (by rfl) B.isi (by rfl) (q00 (pv 0) (q00 (q86 (by rfl) B.tuple (v:=.ty "tuple") (u:=.type "tuple") (by rfl) rfl) q03))) (q13 _)))))
      (q05 (q12 qw7)) q16)
    (q05 (q12 (qh7 (q50 q37 (q15 q27 (by rfl) B.len PySem.boot_len (q00 (pv 0) q03)) (q15 q27 (by rfl) B.len PySem.boot_len (q00 (pv 1) q03)) (q13 _))
     (qn3 (q15 (ql1 rfl) (by rfl) B.all (by rfl) (q00
      (q29 (N':=["_law_k", "_law_found", "_law_due"]) (fm:=[none,some 0,some 1]) rfl ⟨rfl,by decide +kernel,by decide +kernel,rfl,rfl,rfl⟩
       (q34 (by rfl) B.range (q00 (q15 q27 (by rfl) B.len PySem.boot_len (q00 (pv 1) q03)) q03))
       (fun _ _ _ _=>q11 (i:=0) nd3 rfl (Or.inl rfl)) (fun _ _ _ _=>q42)
       (fun _ _ _ _=>q14 D G hr q17 (q00 (q25 (r:=rIx K) zb4 (pv 1) (pv 0) (fun _ _=>rfl)) (q00 (q25 (r:=rIx K) zb4 (pv 2) (pv 0) (fun _ _=>rfl)) q03)))) q03))))))))),?_⟩
   have kk:=h1.kdIs
   have fin:=k H (Same.refl H)
   cases h2 with
   | non =>
    refine ⟨_,rfl,rfl,_,rfl,q48 ⟨_,rfl,rfl,?_⟩⟩
    have e:=h1.isN
    rw [e]
    exact fin
   | str y =>
    refine ⟨_,rfl,rfl,_,rfl,q31 ⟨_,rfl,_,.str, "str",true,rfl,trivial,rfl,_,rfl,q48 ?_⟩⟩
    cases h1 with
    | str x =>
     refine ⟨_,rfl,_,.str, "str",true,rfl,trivial,rfl,_,rfl,q48 ⟨_,rfl,_,rfl,rfl,?_⟩⟩
     have e:decide (V.str x=V.str y)=(Dt.str x).eqb (.str y):=by simp [Dt.eqb]
     rw [e]
     exact fin
    | non=>exact ⟨_,rfl,_,.non, "str",false,rfl,kk,rfl,_,rfl,q31 fin⟩
    | bl _=>exact ⟨_,rfl,_,.bl, "str",false,rfl,kk,rfl,_,rfl,q31 fin⟩
    | int _=>exact ⟨_,rfl,_,.int, "str",false,rfl,kk,rfl,_,rfl,q31 fin⟩
    | lst _ _ _ _=>exact ⟨_,rfl,_,.lst, "str",false,rfl,kk,rfl,_,rfl,q31 fin⟩
    | tup _ _ _ _=>exact ⟨_,rfl,_,.tup, "str",false,rfl,kk,rfl,_,rfl,q31 fin⟩
   | int y =>
    refine ⟨_,rfl,rfl,_,rfl,q31 ⟨_,rfl,_,.int, "str",false,rfl,trivial,rfl,_,rfl,q31 ⟨_,rfl,_,.int, "int",true,rfl,trivial,rfl,_,rfl,q48 ?_⟩⟩⟩
    cases h1 with
    | int x =>
     refine ⟨_,rfl,_,.int, "int",true,rfl,trivial,rfl,_,rfl,q48 ⟨_,rfl,_,.int, "bool",false,rfl,trivial,rfl,_,rfl,_,.int, "bool",false,rfl,trivial,rfl,rfl,_,rfl,q48 ⟨_,rfl,_,rfl,rfl,?_⟩⟩⟩
     have e:decide (V.int x=V.int y)=(Dt.int x).eqb (.int y):=q75
     rw [e]
     exact fin
    | bl x=>exact ⟨_,rfl,_,.bl, "int",true,rfl,trivial,rfl,_,rfl,q48 ⟨_,rfl,_,.bl, "bool",true,rfl,trivial,rfl,_,rfl,_,.int, "bool",false,rfl,trivial,rfl,rfl,_,rfl,q31 fin⟩⟩
    | non=>exact ⟨_,rfl,_,.non, "int",false,rfl,kk,rfl,_,rfl,q31 fin⟩
    | str _=>exact ⟨_,rfl,_,.str, "int",false,rfl,kk,rfl,_,rfl,q31 fin⟩
    | lst _ _ _ _=>exact ⟨_,rfl,_,.lst, "int",false,rfl,kk,rfl,_,rfl,q31 fin⟩
    | tup _ _ _ _=>exact ⟨_,rfl,_,.tup, "int",false,rfl,kk,rfl,_,rfl,q31 fin⟩
   | bl y =>
    refine ⟨_,rfl,rfl,_,rfl,q31 ⟨_,rfl,_,.bl, "str",false,rfl,trivial,rfl,_,rfl,q31 ⟨_,rfl,_,.bl, "int",true,rfl,trivial,rfl,_,rfl,q48 ?_⟩⟩⟩
    cases h1 with
    | bl x =>
     refine ⟨_,rfl,_,.bl, "int",true,rfl,trivial,rfl,_,rfl,q48 ⟨_,rfl,_,.bl, "bool",true,rfl,trivial,rfl,_,rfl,_,.bl, "bool",true,rfl,trivial,rfl,rfl,_,rfl,q48 ⟨_,rfl,_,rfl,rfl,?_⟩⟩⟩
     have e:decide (V.bl x=V.bl y)=(Dt.bl x).eqb (.bl y):=qX5
     rw [e]
     exact fin
    | int x=>exact ⟨_,rfl,_,.int, "int",true,rfl,trivial,rfl,_,rfl,q48 ⟨_,rfl,_,.int, "bool",false,rfl,trivial,rfl,_,rfl,_,.bl, "bool",true,rfl,trivial,rfl,rfl,_,rfl,q31 fin⟩⟩
    | non=>exact ⟨_,rfl,_,.non, "int",false,rfl,kk,rfl,_,rfl,q31 fin⟩
    | str _=>exact ⟨_,rfl,_,.str, "int",false,rfl,kk,rfl,_,rfl,q31 fin⟩
    | lst _ _ _ _=>exact ⟨_,rfl,_,.lst, "int",false,rfl,kk,rfl,_,rfl,q31 fin⟩
    | tup _ _ _ _=>exact ⟨_,rfl,_,.tup, "int",false,rfl,kk,rfl,_,rfl,q31 fin⟩
   | @lst a2 xs2 ds2 hq2 hl2 hz2 hx2 =>
    have k2:kdIs K H (.ref a2) .lst:=⟨_,hq2⟩
    refine ⟨_,rfl,rfl,_,rfl,q31 ⟨_,rfl,_,.lst, "str",false,rfl,k2,rfl,_,rfl,q31 ⟨_,rfl,_,.lst, "int",false,rfl,k2,rfl,_,rfl,q31 ⟨_,rfl,_,.lst, "list",true,rfl,k2,rfl,?_⟩⟩⟩⟩
    cases h1 with
    | non=>exact ⟨_,rfl,_,.non, "list",false,rfl,kk,rfl,rfl,_,rfl,q48 (q48 fin)⟩
    | bl _=>exact ⟨_,rfl,_,.bl, "list",false,rfl,kk,rfl,rfl,_,rfl,q48 (q48 fin)⟩
    | int _=>exact ⟨_,rfl,_,.int, "list",false,rfl,kk,rfl,rfl,_,rfl,q48 (q48 fin)⟩
    | str _=>exact ⟨_,rfl,_,.str, "list",false,rfl,kk,rfl,rfl,_,rfl,q48 (q48 fin)⟩
    | tup _ _ _ _=>exact ⟨_,rfl,_,.tup, "list",false,rfl,kk,rfl,rfl,_,rfl,q48 (q48 fin)⟩
    | @lst a1 xs1 ds1 hq1 hl1 hz1 hx1 =>
     refine ⟨_,rfl,_,.lst, "list",true,rfl,kk,rfl,rfl,_,rfl,q31 ⟨_,rfl,_,.lst, "tuple",false,rfl,k2,rfl,_,rfl,_,.lst, "tuple",false,rfl,kk,rfl,rfl,_,rfl,q31 ?_⟩⟩
     refine ⟨_,rfl,a1,_,rfl,.inl hq1,_,rfl,a2,_,rfl,.inl hq2,rfl,_,rfl,?_⟩
     refine q77 (fun c=>?_) (fun c=>?_)
     ·have c:V.int ((xs1.length:Nat):Int)=V.int ((xs2.length:Nat):Int):=of_decide_eq_true c
      have el:ds1.length=ds2.length:=by injection c with c; omega
      cases m with
      | zero=>exact absurd hd (by show ¬ 1 + _<=0; omega)
      | succ m =>
       refine ⟨_,rfl,a2,_,rfl,.inl hq2,_,rfl,by omega,by rw [hl2]; omega,fun p hp=>?_⟩
       have en:((xs2.length:Nat):Int).toNat=ds2.length:=by omega
       rw [en]
       refine q93 (fun i σ H2=>∃ v,σ=[v,some (.ref a1),some (.ref a2)]/\Same H H2/\H2 p=some (.lst ((((ds1.zip ds2).map fun q=>q.1.eqb q.2).take i).map V.bl))) ⟨none,rfl,Same.new hp,q01⟩ ?_ ?_
       ·rintro i σ H2 hi ⟨v,rfl,s2,e2⟩
        have e1:ds1[i]? = some ds1[i]:=List.getElem?_eq_getElem (by omega)
        have e2':ds2[i]? = some ds2[i]:=List.getElem?_eq_getElem hi
        have f1:xs1[i]? = some xs1[i]:=List.getElem?_eq_getElem (by omega)
        have f2:xs2[i]? = some xs2[i]:=List.getElem?_eq_getElem (by omega)
        have ei:(0:Int) + (i:Int)=(i:Int):=Int.zero_add _
        refine q53 ⟨_,rfl,_,rfl,.inl ⟨a1,_,_,_,rfl,rfl,s2.seq hq1,(by rw [ei]; exact q46 f1),_,rfl,_,rfl,.inl ⟨a2,_,_,_,rfl,rfl,s2.seq hq2,(by rw [ei]; exact q46 f2),?_⟩⟩⟩
        refine ⟨_,_,_,_,rfl,(hx1 i _ _ f1 e1).mono s2,(hx2 i _ _ f2 e2').mono s2,?_,fun H3 s3=>?_⟩
        ·have h1:1 + Dt.deep.deeps ds2<=m + 1:=hd
         have:=qy5 e2'
         omega
        ·refine ⟨_,s3 p _ e2,?_,_,rfl,fun b o hb=>?_,?_⟩
         ·rw [List.length_map,List.length_take]
          exact qt7 (by omega)
         ·rw [q08 (q19 hb hp)]
          exact s3 b o (s2 b o hb)
         ·rw [q01]
          have z:((ds1.zip ds2).map fun q=>q.1.eqb q.2)[i]? = some (ds1[i].eqb ds2[i]):=by
           rw [List.getElem?_map,(List.getElem?_zip_eq_some (z:=(ds1[i],ds2[i]))).mpr ⟨e1,e2'⟩]
           rfl
          rw [List.take_add_one,z,List.map_append]
          rfl
       ·rintro σ H2 ⟨v,rfl,s2,e2⟩
        have ek:((ds1.zip ds2).map fun q=>q.1.eqb q.2).take ds2.length=((ds1.zip ds2).map fun q=>q.1.eqb q.2):=List.take_of_length_le (by rw [List.length_map,List.length_zip]; omega)
        rw [ek] at e2
        refine ⟨p,_,rfl,SqL.of e2,?_⟩
        have:=k H2 s2
        have ee:(Dt.lst ds1).eqb (Dt.lst ds2)=((ds1.zip ds2).map fun q=>q.1.eqb q.2).all id:=qy3 ds1 ds2 el
        rw [ee] at this
        exact this
     ·have el:ds1.length≠ds2.length:=fun z=>c (decide_eq_true (by rw [hl1,hl2,z]))
      have ee:(Dt.lst ds1).eqb (Dt.lst ds2)=false:=qy2 ds1 ds2 el
      rw [ee] at fin
      exact fin
   | @tup a2 xs2 ds2 hq2 hl2 hz2 hx2 =>
    have k2:kdIs K H (.ref a2) .tup:=⟨_,hq2⟩
    refine ⟨_,rfl,rfl,_,rfl,q31 ⟨_,rfl,_,.tup, "str",false,rfl,k2,rfl,_,rfl,q31 ⟨_,rfl,_,.tup, "int",false,rfl,k2,rfl,_,rfl,q31 ⟨_,rfl,_,.tup, "list",false,rfl,k2,rfl,?_⟩⟩⟩⟩
    cases h1 with
    | non=>exact ⟨_,rfl,_,.non, "list",false,rfl,kk,rfl,rfl,_,rfl,q31 ⟨_,rfl,_,.tup, "tuple",true,rfl,k2,rfl,_,rfl,_,.non, "tuple",false,rfl,kk,rfl,rfl,_,rfl,q48 fin⟩⟩
    | bl _=>exact ⟨_,rfl,_,.bl, "list",false,rfl,kk,rfl,rfl,_,rfl,q31 ⟨_,rfl,_,.tup, "tuple",true,rfl,k2,rfl,_,rfl,_,.bl, "tuple",false,rfl,kk,rfl,rfl,_,rfl,q48 fin⟩⟩
    | int _=>exact ⟨_,rfl,_,.int, "list",false,rfl,kk,rfl,rfl,_,rfl,q31 ⟨_,rfl,_,.tup, "tuple",true,rfl,k2,rfl,_,rfl,_,.int, "tuple",false,rfl,kk,rfl,rfl,_,rfl,q48 fin⟩⟩
    | str _=>exact ⟨_,rfl,_,.str, "list",false,rfl,kk,rfl,rfl,_,rfl,q31 ⟨_,rfl,_,.tup, "tuple",true,rfl,k2,rfl,_,rfl,_,.str, "tuple",false,rfl,kk,rfl,rfl,_,rfl,q48 fin⟩⟩
    | lst _ _ _ _=>exact ⟨_,rfl,_,.lst, "list",true,rfl,kk,rfl,rfl,_,rfl,q48 (q48 fin)⟩
    | @tup a1 xs1 ds1 hq1 hl1 hz1 hx1 =>
     refine ⟨_,rfl,_,.tup, "list",false,rfl,kk,rfl,rfl,_,rfl,q31 ⟨_,rfl,_,.tup, "tuple",true,rfl,k2,rfl,_,rfl,_,.tup, "tuple",true,rfl,kk,rfl,rfl,_,rfl,q31 ?_⟩⟩
     refine ⟨_,rfl,a1,_,rfl,.inr hq1,_,rfl,a2,_,rfl,.inr hq2,rfl,_,rfl,?_⟩
     refine q77 (fun c=>?_) (fun c=>?_)
     ·have c:V.int ((xs1.length:Nat):Int)=V.int ((xs2.length:Nat):Int):=of_decide_eq_true c
      have el:ds1.length=ds2.length:=by injection c with c; omega
      cases m with
      | zero=>exact absurd hd (by show ¬ 1 + _<=0; omega)
      | succ m =>
       refine ⟨_,rfl,a2,_,rfl,.inr hq2,_,rfl,by omega,by rw [hl2]; omega,fun p hp=>?_⟩
       have en:((xs2.length:Nat):Int).toNat=ds2.length:=by omega
       rw [en]
       refine q93 (fun i σ H2=>∃ v,σ=[v,some (.ref a1),some (.ref a2)]/\Same H H2/\H2 p=some (.lst ((((ds1.zip ds2).map fun q=>q.1.eqb q.2).take i).map V.bl))) ⟨none,rfl,Same.new hp,q01⟩ ?_ ?_
       ·rintro i σ H2 hi ⟨v,rfl,s2,e2⟩
        have e1:ds1[i]? = some ds1[i]:=List.getElem?_eq_getElem (by omega)
        have e2':ds2[i]? = some ds2[i]:=List.getElem?_eq_getElem hi
        have f1:xs1[i]? = some xs1[i]:=List.getElem?_eq_getElem (by omega)
        have f2:xs2[i]? = some xs2[i]:=List.getElem?_eq_getElem (by omega)
        have ei:(0:Int) + (i:Int)=(i:Int):=Int.zero_add _
        refine q53 ⟨_,rfl,_,rfl,.inr (.inl ⟨a1,_,_,_,rfl,rfl,s2.seqT hq1,(by rw [ei]; exact q46 f1),_,rfl,_,rfl,.inr (.inl ⟨a2,_,_,_,rfl,rfl,s2.seqT hq2,(by rw [ei]; exact q46 f2),?_⟩)⟩)⟩
        refine ⟨_,_,_,_,rfl,(hx1 i _ _ f1 e1).mono s2,(hx2 i _ _ f2 e2').mono s2,?_,fun H3 s3=>?_⟩
        ·have h1:1 + Dt.deep.deeps ds2<=m + 1:=hd
         have:=qy5 e2'
         omega
        ·refine ⟨_,s3 p _ e2,?_,_,rfl,fun b o hb=>?_,?_⟩
         ·rw [List.length_map,List.length_take]
          exact qt7 (by omega)
         ·rw [q08 (q19 hb hp)]
          exact s3 b o (s2 b o hb)
         ·rw [q01]
          have z:((ds1.zip ds2).map fun q=>q.1.eqb q.2)[i]? = some (ds1[i].eqb ds2[i]):=by
           rw [List.getElem?_map,(List.getElem?_zip_eq_some (z:=(ds1[i],ds2[i]))).mpr ⟨e1,e2'⟩]
           rfl
          rw [List.take_add_one,z,List.map_append]
          rfl
       ·rintro σ H2 ⟨v,rfl,s2,e2⟩
        have ek:((ds1.zip ds2).map fun q=>q.1.eqb q.2).take ds2.length=((ds1.zip ds2).map fun q=>q.1.eqb q.2):=List.take_of_length_le (by rw [List.length_map,List.length_zip]; omega)
        rw [ek] at e2
        refine ⟨p,_,rfl,SqL.of e2,?_⟩
        have:=k H2 s2
        have ee:(Dt.tup ds1).eqb (Dt.tup ds2)=((ds1.zip ds2).map fun q=>q.1.eqb q.2).all id:=qy3 ds1 ds2 el
        rw [ee] at this
        exact this
     ·have el:ds1.length≠ds2.length:=fun z=>c (decide_eq_true (by rw [hl1,hl2,z]))
      have ee:(Dt.tup ds1).eqb (Dt.tup ds2)=false:=qy2 ds1 ds2 el
      rw [ee] at fin
      exact fin
end
end K67
namespace L2
open PySem PySem.Spec PyProof.Rows
def tx (n:Nat) (c:Nat->Nat):Str:=⟨((List.range n).map c).toArray⟩
def s1 (c:Nat):V:=.str ⟨#[c]⟩
theorem q60 (n:Nat) (c:Nat->Nat):(tx n c).length=n:=by show (((List.range n).map c).toArray).size=_; simp
theorem z00 {n i:Nat}{c:Nat->Nat}(h:i < n):atI (tx n c).cps.toList (i:Int)=some (c i):=by
 refine q46 ?_
 show (((List.range n).map c).toArray.toList)[i]? = _
 simp [h]
theorem sg_tx {n i:Nat}{c:Nat->Nat}(h:i < n):sg (tx n c) i=s1 (c i):=by
 unfold sg s1
 have:(tx n c).cps.getD i 0=c i:=by
  show (((List.range n).map c).toArray).getD i 0=_
  simp [Array.getD_eq_getD_getElem?,h]
 rw [this]
theorem tx_snoc (i:Nat) (c:Nat->Nat):tx i c ++ (⟨#[c i]⟩:Str)=tx (i + 1) c:=by
 show (⟨((List.range i).map c).toArray ++ #[c i]⟩:Str)=⟨((List.range (i + 1)).map c).toArray⟩
 simp [List.range_succ]
theorem qo2 {i:Nat}{c:Nat->Nat}{d:Nat}(h:d=c i):tx i c ++ (⟨#[d]⟩:Str)=tx (i + 1) c:=by rw [h]; exact tx_snoc i c
theorem qc0 {n:Nat}{c d:Nat->Nat}(h:∀ i,i < n->c i=d i):tx n c=tx n d:=by
 unfold tx
 rw [List.map_congr_left fun i hi=>h i (List.mem_range.mp hi)]
theorem qE8 (a b:Nat):(s1 a=s1 b)=(a=b):=propext ⟨fun h=>by
 have h:(⟨#[a]⟩:Str)=⟨#[b]⟩:=by injection h
 have h2 : #[a] = #[b]:=by injection h
 simpa using h2,fun h=>by rw [h]⟩
theorem q68 (a b:Nat):decide (s1 a=s1 b)=decide (a=b):=decide_eq_decide.mpr (by rw [qE8])
theorem qX1:∀(l:List Nat) (b:Array Nat),(l.map fun d=>(⟨#[d]⟩:Str)).foldl (fun acc p=>acc ++ ("" : Str).cps ++ p.cps) b=b ++ l.toArray
 | [],b=>by simp
 | d :: r,b=>by
  rw [List.map_cons,List.foldl_cons,qX1 r]
  show b ++ #[] ++ #[d] ++ r.toArray=b ++ (d :: r).toArray
  have z:(#[d]:Array Nat) ++ r.toArray=(d :: r).toArray:=by
   rw [show (#[d]:Array Nat)=[d].toArray from rfl,List.append_toArray]
   rfl
  rw [Array.append_empty,Array.append_assoc,z]
theorem qv4 (n:Nat) (c:Nat->Nat):Txt.join ("" : Str) ((List.range n).map fun i=>(⟨#[c i]⟩:Str))=tx n c:=by
 have e:((List.range n).map fun i=>(⟨#[c i]⟩:Str))=((List.range n).map c).map fun d=>(⟨#[d]⟩:Str):=by rw [List.map_map]; rfl
 rw [e]
 unfold tx
 generalize (List.range n).map c=l
 show (⟨_⟩:Str)=_
 congr 1
 cases l with
 | nil=>rfl
 | cons d r =>
  show ((r.map fun d=>(⟨#[d]⟩:Str))).foldl (fun acc p=>acc ++ ("" : Str).cps ++ p.cps) #[d]=_
  rw [qX1,show (#[d]:Array Nat)=[d].toArray from rfl,List.append_toArray]
  rfl
theorem qx9 (n:Nat) (c:Nat->Nat):((((List.range n).map fun i=>(⟨#[c i]⟩:Str)).map (·.length)).sum)=n:=by
 rw [List.map_map]
 have:((fun x:Str=>x.length) ∘ fun i=>(⟨#[c i]⟩:Str))=fun _=>1:=rfl
 rw [this,List.map_const',List.sum_replicate_nat,List.length_range,Nat.mul_one]
end L2
namespace L2
open PySem PySem.Spec PyProof.Rows
section
variable {p T:Addr}{K:PySem.W.Frag}{te:TE}{N:St->Hp->Prop}{x y z:V}{σ:St}{H:Hp}
theorem qO5 (hT:H T=some (.tup [x,y,z])) (h:te (((σ.set 0 (some x)).set 1 (some y)).set 2 (some z)) H fun v H4=>∃ ys,H4 p=some (.lst ys)/\ys.length < sizeLine/\N (((σ.set 0 (some x)).set 1 (some y)).set 2 (some z)) (upd H4 p (.lst (ys ++ [v])))) :
  qd7 p (qD5 K 3 (q64 (q54 0) (q64 (q54 1) (q64 (q54 2) qD6)))) tAll te N (.ref T) σ H :=
 ⟨T,_,rfl,.inl (.inl hT),rfl,_,_,rfl,_,_,rfl,_,_,rfl,rfl,q48 (B:=N (((σ.set 0 (some x)).set 1 (some y)).set 2 (some z)) H) h⟩
theorem qj4 (hT:H T=some (.tup [x,y])) (h:te ((σ.set 0 (some x)).set 1 (some y)) H fun v H4=>∃ ys,H4 p=some (.lst ys)/\ys.length < sizeLine/\N ((σ.set 0 (some x)).set 1 (some y)) (upd H4 p (.lst (ys ++ [v])))) :
  qd7 p (qD5 K 2 (q64 (q54 0) (q64 (q54 1) qD6))) tAll te N (.ref T) σ H :=
 ⟨T,_,rfl,.inl (.inl hT),rfl,_,_,rfl,_,_,rfl,rfl,q48 (B:=N ((σ.set 0 (some x)).set 1 (some y)) H) h⟩
end
theorem Same.trans' {H H1 H2:Hp}(a:Same H H1) (b:Same H1 H2):Same H H2:=fun c o e=>b c o (a c o e)
theorem Same.grow {H H2:Hp}{p:Addr}{o:HO}(hp:H p=none) (s:Same H H2):Same H (upd H2 p o):=fun b u e=>by rw [q08 (q19 e hp)]; exact s b u e
end L2
namespace L2
open PySem PySem.Spec PyProof.Rows
def qC1:List Expr->Option (List Int)
 | []=>some []
 | .Constant (.int i) _ _ :: r=>(qC1 r).map (i :: ·)
 | _=>none
def tInts (l:List Int):TA:=fun _ H Q=>Q (l.map V.int) H
theorem qT1 {X:Cx}:∀{es:List Expr}{l:List Int},qC1 es=some l->PA X es (tInts l)
 | [],l,h=>by cases h; exact q03
 | .Constant (.int i) j p :: r,l,h=>by
  have h:(qC1 r).map (i :: ·)=some l:=h
  cases z:qC1 r with
  | none=>rw [z] at h; cases h
  | some l' =>
   rw [z] at h
   cases h
   exact q00 (e:=.Constant (.int i) j p) q06 (qT1 z) rfl
end L2
namespace K67
open PySem L2
abbrev qE5:Stmt:=top 65
abbrev qq9:Stmt:=top 67
theorem q90 {α:Type}(f:Nat->α) (i:Nat):(List.range i).map f ++ [f i]=(List.range (i + 1)).map f:=by rw [List.range_succ,List.map_append]; rfl
theorem q41 (n:Nat) {α:Type}(f:Nat->α) (h:n<=1000):((List.range n).map f).length < sizeLine:=by rw [List.length_map,List.length_range]; exact Nat.lt_of_le_of_lt h (by decide)
theorem zb3 (f:Nat->Bool) (n:Nat):((List.range n).map fun j=>V.bl (f j))=((List.range n).map f).map V.bl:=by rw [List.map_map]; rfl
def Bin (c:Nat->Nat):Prop:=∀ i,c i=121∨c i=110
def hv (d:Int) (x:Int):Nat->Int
 | 0=>x
 | i + 1=>hv d x i / d
def bitC (x:Int) (i:Nat):Nat:=if hv 2 x i % 2=0 then 110 else 121
theorem bit_bin (x:Int):Bin (bitC x):=fun i=>by unfold bitC; split <;> simp
theorem ny_at (y:Int):atI ("ny" : Str).cps.toList (y % 2)=some (if y % 2=0 then 110 else 121):=by
 by_cases h:y % 2=0
 ·rw [if_pos h,h]; rfl
 ·have:y % 2=1:=by omega
  rw [if_neg h,this]; rfl
theorem qg7 (n:Nat) (c:Nat->Nat) (h:n<=1000):(tx n c).length<=sizeLine:=by rw [q60]; exact Nat.le_trans h (by decide)
theorem qe4 (n:Nat) (c:Nat->Nat) (d:Nat) (h:n<=1000):(tx n c).length + (⟨#[d]⟩:Str).length<=sizeLine:=by
 rw [q60]
 exact Nat.le_trans (show n + 1<=1001 by omega) (by decide)
section
variable {P:Program}{w:World}{K:PySem.W.Frag}{mg:Str->Option Value}{base:Heap}
def qF0 (c:Nat):Nat:=if c=121 then 110 else 121
def spNot:Sp:=fun vs H Q _=>∃ c,vs=[s1 c]/\Q (s1 (qF0 c)) H
theorem sc_not:FnScope ["_law_sign"] ["_law_sign"] (q02 qE5):=⟨rfl,rfl,rfl,by decide +kernel,rfl,by decide +kernel,by decide +kernel⟩
theorem ok_not {f:Addr}{fd:FuncData}(D:Df K mg "_law_not" qE5 ["_law_sign"] f fd) (B:Bt mg):FnOk P w K mg base (CXE P w) 1 f fd ["_law_sign"] spNot:=by
 refine D.F.okN sc_not (fun vs H Q E h=>?_) (fun cdv A outer s H vs Q E hr h=>?_)
 ·obtain ⟨c,rfl,_⟩:=h
  rfl
 ·obtain ⟨c,rfl,q⟩:=h
  refine ⟨_,q05 (q12 (q58 (q10 q37 (pv 0) q20 (q13 _)) q20 q20)),?_⟩
  refine ⟨_,rfl,rfl,_,rfl,?_⟩
  refine q77 (fun z=>?_) (fun z=>?_)
  ·have z:s1 c=s1 121:=of_decide_eq_true z
   rw [qE8] at z
   rw [z] at q
   exact q
  ·have z:¬ s1 c=s1 121:=fun y=>z (decide_eq_true y)
   rw [qE8] at z
   have e:qF0 c=121:=if_neg z
   rw [e] at q
   exact q
def spBits:Sp:=fun vs H Q _=>∃(x:Int) (n:Nat),vs=[.int x,.int n]/\n<=100/\Q (.str (tx n (bitC x))) H
abbrev Nb:List Str:=["_law_number", "_law_n", "_law_row", "_law_k"]
theorem sc_bits:FnScope Nb ["_law_number", "_law_n"] (q02 qq9):=⟨rfl,rfl,rfl,by decide +kernel,rfl,by decide +kernel,by decide +kernel⟩
theorem qU5 {f:Addr}{fd:FuncData}(D:Df K mg "_law_bits" qq9 ["_law_number", "_law_n"] f fd) (B:Bt mg):FnOk P w K mg base (CXE P w) 1 f fd ["_law_number", "_law_n"] spBits:=by
 refine D.F.okN sc_bits (fun vs H Q E h=>?_) (fun cdv A outer s H vs Q E hr h=>?_)
 ·obtain ⟨x,n,rfl,_⟩:=h
  rfl
 ·obtain ⟨x,n,rfl,hn,q⟩:=h
  refine ⟨_,q04 (q21 (i:=2) sc_bits.nd rfl (Or.inl rfl) q20)
   (q04 (q91 PassesOwn.never rfl (q34 (by rfl) B.range (q00 (pv 1) q03)) (q11 (i:=3) sc_bits.nd rfl (Or.inl rfl))
    (q04 (q21 (i:=2) sc_bits.nd rfl (Or.inl rfl) (q24 qa1 (pv 2) (q25 q62 q20 (q24 q66 (pv 0) q06) (fun _ _=>rfl))))
    (q05 (q21 (i:=0) sc_bits.nd rfl (Or.inl rfl) (q24 qg0 (pv 0) q06)))))
   (q05 (q12 (pv 2)))),?_⟩
  refine ⟨_,rfl,_,rfl,by omega,by omega,?_⟩
  have en:((n:Nat):Int).toNat=n:=by omega
  rw [en]
  refine q52 (fun i σ H2=>∃ v,σ=[some (.int (hv 2 x i)),some (.int n),some (.str (tx i (bitC x))),v]/\H2=H) ⟨none,rfl,rfl⟩ ?_ ?_
  ·rintro i σ H2 hi ⟨v,rfl,rfl⟩
   refine ⟨_,rfl,_,rfl,_,_,rfl,rfl,(by show (0:Int) < 2; decide),_,_,_,rfl,rfl,(by decide),ny_at _,_,_,rfl,rfl,qe4 i _ _ (by omega),?_⟩
   refine ⟨_,rfl,_,_,rfl,rfl,⟨by decide,by decide⟩,?_⟩
   refine ⟨some (.int (0 + i)),?_,rfl⟩
   rw [qo2 (show (if hv 2 x i % 2=0 then 110 else 121)=bitC x i from rfl)]
   rfl
  ·rintro σ H2 ⟨v,rfl,rfl⟩
   exact ⟨_,rfl,q⟩
end
end K67
namespace K67
open PySem L2
abbrev qc9:Stmt:=top 66
def cb (b:Bool):Nat:=if b then 121 else 110
theorem qX9 (f:Nat->Bool):Bin fun j=>cb (f j):=fun j=>by
 show cb (f j)=121∨cb (f j)=110
 cases f j
 ·exact .inr rfl
 ·exact .inl rfl
theorem ny_b (b:Bool):atI ("ny" : Str).cps.toList (if b then 1 else 0)=some (cb b):=by cases b <;> rfl
theorem q73 {H:Hp}{r p:Addr}{o:HO}(h:upd H r o p=none):H p=none:=by
 by_cases e:p=r
 ·subst e; rw [q01] at h; cases h
 ·rw [q08 e] at h; exact h
theorem qo3 {α β:Type}(F:β->α) (f:Nat->β) (d:β) (i:Nat):(List.range i).map (fun j=>F (f j)) ++ [F d]=(List.range (i + 1)).map fun j=>F ((fun j=>if j=i then d else f j) j):=by
 rw [<- q90]
 congr 1
 ·refine List.map_congr_left fun j hj=>?_
  show F (f j)=F (if j=i then d else f j)
  rw [if_neg (Nat.ne_of_lt (List.mem_range.mp hj))]
 ·show [F d]=[F (if i=i then d else f i)]
  rw [if_pos rfl]
section
variable {P:Program}{w:World}{K:PySem.W.Frag}{mg:Str->Option Value}{base:Heap}
def spHid (K:PySem.W.Frag):Sp:=fun vs H Q _=>∃(a:Addr) (ps:List Int) (p0:Int) (m:Nat) (x:Int),vs=[.ref a,.int m,.int x]/\SqL K H a (ps.map V.int)/\ps[0]? = some p0/\1<=m/\m<=12 /\
 ∀ q H' c,Bin c->Same H H'->H q=none->H' q=some (.lst ((List.range m).map fun j=>s1 (c j)))->Q (.ref q) H'
abbrev Nh:List Str:=["_law_plan_here", "_law_m", "_law_number", "_law_k", "_law_ends", "_law_row"]
abbrev Ph:List Str:=["_law_plan_here", "_law_m", "_law_number"]
theorem sc_hidden:FnScope Nh Ph (q02 qc9):=⟨rfl,rfl,rfl,by decide +kernel,rfl,by decide +kernel,by decide +kernel⟩
theorem nd_h1:(["_law_k", "_law_m", "_law_number"]:List Str).Nodup:=by decide +kernel
theorem nd_h2:(["_law_k", "_law_ends"]:List Str).Nodup:=by decide +kernel
theorem ints_at {ps:List Int}{i:Nat}{d:Int}(h:ps[i]? = some d):atI (ps.map V.int) (i:Int)=some (.int d):=q46 (by rw [List.getElem?_map,h]; rfl)
theorem qU1 {f:Addr}{fd:FuncData}(D:Df K mg "_law_hidden" qc9 Ph f fd) (B:Bt mg):FnOk P w K mg base (CXE P w) 1 f fd Ph (spHid K):=by
 refine D.F.okN sc_hidden (fun vs H Q E h=>?_) (fun cdv A outer s H vs Q E hr h=>?_)
 ·obtain ⟨a,ps,p0,m,x,rfl,_⟩:=h
  rfl
 ·obtain ⟨a,ps,p0,m,x,rfl,hS,hp0,m1,m12,k⟩:=h
  refine ⟨_,q04 (q30 (q10 q37 (q25 ix_list (pv 0) q06 (fun _ _=>rfl)) q06 (q13 _))
    (q05 (q12 (q29 (N':=["_law_k", "_law_m", "_law_number"]) (fm:=[none,some 1,some 2]) rfl ⟨rfl,by decide +kernel,by decide +kernel,rfl,rfl,rfl⟩
     (q34 (by rfl) B.range (q00 (pv 1) q03)) (fun _ _ _ _=>q11 (i:=0) nd_h1 rfl (Or.inl rfl)) (fun _ _ _ _=>q42)
     (fun _ _ _ _=>q25 q62 q20 (qk0 qs6 (by rfl) B.int (by rfl) (q00 (q50 qn7 (pv 0) (q24 q66 (pv 2) (q24 q47 (pv 1) q06)) (q13 _)) q03)) (fun _ _=>rfl))))) q16)
   (q04 (q30 (q10 q37 (q25 ix_list (pv 0) q06 (fun _ _=>rfl)) q06 (q13 _))
    (q04 (q21 (i:=4) sc_hidden.nd rfl (Or.inr rfl) (q36 (q00 (q24 q66 (pv 2) (q24 q47 (pv 1) q06)) (q00 (q24 q66 (q24 qg0 (pv 2) q06) (q24 q47 (pv 1) q06)) q03))))
    (q05 (q12 (q29 (N':=["_law_k", "_law_ends"]) (fm:=[none,some 4]) rfl ⟨rfl,by decide +kernel,by decide +kernel,rfl,rfl,rfl⟩
     (q34 (by rfl) B.range (q00 (pv 1) q03)) (fun _ _ _ _=>q11 (i:=0) nd_h2 rfl (Or.inl rfl)) (fun _ _ _ _=>q42)
     (fun _ _ _ _=>q25 q62 q20 (qk0 qs6 (by rfl) B.int (by rfl) (q00 (q50 qn7 (pv 0) (q25 (r:=qR9 K) ix_list (pv 1) (q24 q66 (pv 0) q06) (fun _ _=>rfl)) (q13 _)) q03)) (fun _ _=>rfl)))))) q16)
   (q04 (q30 (q10 q37 (q25 ix_list (pv 0) q06 (fun _ _=>rfl)) q06 (q13 _))
    (q05 (q12 (q29 (N':=["_law_k", "_law_m", "_law_number"]) (fm:=[none,some 1,some 2]) rfl ⟨rfl,by decide +kernel,by decide +kernel,rfl,rfl,rfl⟩
     (q34 (by rfl) B.range (q00 (pv 1) q03)) (fun _ _ _ _=>q11 (i:=0) nd_h1 rfl (Or.inl rfl)) (fun _ _ _ _=>q42)
     (fun _ _ _ _=>q25 q62 q20 (qk0 qs6 (by rfl) B.int (by rfl) (q00 (q50 (r:=rIn K false) q92 (pv 0) (q84 (q00 (q24 q66 (pv 2) (pv 1)) (q00 (q24 q66 (q24 qg0 (pv 2) q06) (q24 q47 (pv 1) q06)) q03))) (by rfl)) q03)) (fun _ _=>rfl))))) q16)
   (q04 (q21 (i:=5) sc_hidden.nd rfl (Or.inl rfl) (q36 (q00 (q25 q62 q20 (q24 q66 (q24 qg0 (pv 2) q06) q06) (fun _ _=>rfl)) q03)))
   (q04 (q91 PassesOwn.never rfl (qr1 (by rfl) B.range (q00 q06 (q00 (pv 1) q03))) (q11 (i:=3) sc_hidden.nd rfl (Or.inl rfl))
    (q05 (q18 (qi8 PySem.F.plainAttrs_list PySem.F.slot_list_append PySem.F.type_list_append q57 (pv 5) (q00
     (q58 (PW.pt (qw2 (q10 q37 (q25 ix_list (pv 5) (q24 qg0 (q24 za2 (pv 3) q06) q06) (fun _ _=>rfl)) q20 (q13 _)) (qj8 (q10 q37 (q24 q66 (q24 qg0 (pv 2) (q24 q47 q06 (pv 3))) q06) q06 (q13 _))))) q20 q20) q03)))))
   (q05 (q12 (pv 5))))))),?_⟩
  have h0:atI (ps.map V.int) 0=some (.int p0):=ints_at (i:=0) hp0
  have mI:(0:Int) < (m:Int) + 1:=by omega
  have mI0:(0:Int) < (m:Int):=by omega
  have en:((m:Nat):Int).toNat=m:=by omega
  refine ⟨_,rfl,a,_,_,_,rfl,rfl,hS,h0,rfl,_,rfl,q77 (fun _=>?_) (fun _=>?_)⟩
  ·refine ⟨_,rfl,_,rfl,by omega,by omega,fun p hp=>?_⟩
   rw [en]
   refine q93 (fun i σ H2=>∃ v,σ=[v,some (.int m),some (.int x)]/\Same H H2/\H2 p=some (.lst ((List.range i).map fun j:Nat=>s1 (cb (decide ((0:Int) + (j:Int) < x % ((m:Int) + 1))))))) ⟨none,rfl,Same.new hp,q01⟩ ?_ ?_
   ·rintro i σ H2 hi ⟨v,rfl,s2,e2⟩
    refine q53 ⟨_,rfl,_,rfl,_,rfl,_,_,rfl,rfl,_,_,rfl,rfl,mI,_,_,rfl,rfl,.inr ⟨_,rfl,?_⟩⟩
    refine ⟨_,_,_,rfl,rfl,(by decide),ny_b _,_,e2,q41 _ _ (by omega),_,rfl,Same.grow hp s2,?_⟩
    rw [q01,<- q90]
    rfl
   ·rintro σ H2 ⟨v,rfl,s2,e2⟩
    exact k p H2 _ (qX9 _) s2 hp e2
  refine ⟨_,rfl,a,_,_,_,rfl,rfl,hS,h0,rfl,_,rfl,q77 (fun _=>?_) (fun _=>?_)⟩
  ·refine ⟨_,rfl,_,rfl,_,_,rfl,rfl,_,_,rfl,rfl,mI,_,rfl,_,_,rfl,rfl,⟨by decide,by decide⟩,_,rfl,_,_,rfl,rfl,_,_,rfl,rfl,mI,Nat.le_trans (show 2<=2 from Nat.le_refl 2) (by decide),fun r hr0=>?_⟩
   refine ⟨_,rfl,_,rfl,by omega,by omega,fun p hp=>?_⟩
   rw [en]
   have hpH:H p=none:=q73 hp
   have s0:Same H (upd H r (.lst [.int (x % ((m:Int) + 1)),.int (x / 64 % ((m:Int) + 1))])):=Same.new hr0
   have ap:∀ i:Nat,∃ e:Int,atI [V.int (x % ((m:Int) + 1)),V.int (x / 64 % ((m:Int) + 1))] ((0 + (i:Int)) % 2)=some (.int e):=fun i=>by
    rcases (show (0 + (i:Int)) % 2=0∨(0 + (i:Int)) % 2=1 by omega) with z | z
    ·rw [z]; exact ⟨_,rfl⟩
    ·rw [z]; exact ⟨_,rfl⟩
   refine q93 (fun i σ H2=>∃ v f,σ=[v,some (.ref r)]/\Same (upd H r (.lst [.int (x % ((m:Int) + 1)),.int (x / 64 % ((m:Int) + 1))])) H2/\H2 p=some (.lst ((List.range i).map fun j=>s1 (cb (f j))))) ⟨none,fun _=>true,rfl,Same.new hp,q01⟩ ?_ ?_
   ·rintro i σ H2 hi ⟨v,f,rfl,s2,e2⟩
    obtain ⟨e,he⟩:=ap i
    refine q53 ⟨_,rfl,_,rfl,_,rfl,_,_,rfl,rfl,(by show (0:Int) < 2; decide),r,_,_,_,rfl,rfl,SqL.of (s2 r _ q01),he,_,_,rfl,rfl,.inr ⟨_,rfl,?_⟩⟩
    refine ⟨_,_,_,rfl,rfl,(by decide),ny_b _,_,e2,q41 _ _ (by omega),_,fun j=>if j=i then decide ((0:Int) + (i:Int) < e) else f j,rfl,Same.grow hp s2,?_⟩
    rw [q01]
    exact congrArg (fun z=>some (HO.lst z)) (qo3 (fun b=>s1 (cb b)) f _ i)
   ·rintro σ H2 ⟨v,f,rfl,s2,e2⟩
    exact k p H2 _ (qX9 _) (s0.trans' s2) hpH e2
  refine ⟨_,rfl,a,_,_,_,rfl,rfl,hS,h0,rfl,_,rfl,q77 (fun _=>?_) (fun _=>?_)⟩
  ·refine ⟨_,rfl,_,rfl,by omega,by omega,fun p hp=>?_⟩
   rw [en]
   refine q93 (fun i σ H2=>∃ v f,σ=[v,some (.int m),some (.int x)]/\Same H H2/\H2 p=some (.lst ((List.range i).map fun j=>s1 (cb (f j))))) ⟨none,fun _=>true,rfl,Same.new hp,q01⟩ ?_ ?_
   ·rintro i σ H2 hi ⟨v,f,rfl,s2,e2⟩
    refine q53 ⟨_,rfl,_,rfl,_,rfl,_,_,rfl,rfl,mI0,_,rfl,_,_,rfl,rfl,⟨by decide,by decide⟩,_,rfl,_,_,rfl,rfl,_,_,rfl,rfl,mI,Nat.le_trans (show 2<=2 from Nat.le_refl 2) (by decide),fun T hT=>?_⟩
    refine ⟨T,_,rfl,.inr (.inl (.inl q01)),rfl,rfl,.inr ⟨_,rfl,?_⟩⟩
    refine ⟨_,_,_,rfl,rfl,(by decide),ny_b _,_,Same.new hT p _ e2,q41 _ _ (by omega),_,fun j=>if j=i then (inV (.int (0 + (i:Int))) [.int (x % m),.int (x / 64 % ((m:Int) + 1))]) else f j,rfl,Same.grow hp (s2.trans' (Same.new hT)),?_⟩
    rw [q01]
    exact congrArg (fun z=>some (HO.lst z)) (qo3 (fun b=>s1 (cb b)) f _ i)
   ·rintro σ H2 ⟨v,f,rfl,s2,e2⟩
    exact k p H2 _ (qX9 _) s2 hp e2
  ·refine ⟨_,rfl,_,_,rfl,rfl,⟨by decide,by decide⟩,_,_,rfl,rfl,(by show (0:Int) < 2; decide),_,_,_,rfl,rfl,(by decide),ny_at _,Nat.le_trans (show 1<=1 from Nat.le_refl 1) (by decide),fun p hp=>?_⟩
   refine ⟨_,rfl,1,_,rfl,⟨by decide,by decide,by omega,by omega⟩,?_⟩
   have en1:((m:Int) - 1).toNat=m - 1:=by omega
   rw [en1]
   refine q52 (fun i σ H2=>∃ v c,σ=[some (.ref a),some (.int m),some (.int x),v,none,some (.ref p)]/\Bin c/\Same H H2/\H2 p=some (.lst ((List.range (i + 1)).map fun j=>s1 (c j)))) ⟨none,fun _=>(if x / 3 % 2=0 then 110 else 121),rfl,(fun _=>by split <;> simp),Same.new hp,q01⟩ ?_ ?_
   ·rintro i σ H2 hi ⟨v,c,rfl,hc,s2,e2⟩
    have fin:∀ d,(d=121∨d=110)->∃ v' c',[some (.ref a),some (.int m),some (.int x),some (.int (1 + (i:Int))),none,some (.ref p)]=[some (V.ref a),some (V.int m),some (V.int x),v',none,some (V.ref p)]/\Bin c'/\Same H (upd H2 p (.lst (((List.range (i + 1)).map fun j=>s1 (c j)) ++ [s1 d]))) /\
      upd H2 p (.lst (((List.range (i + 1)).map fun j=>s1 (c j)) ++ [s1 d])) p=some (.lst ((List.range (i + 1 + 1)).map fun j=>s1 (c' j))):=fun d hd=>by
     refine ⟨_,fun j=>if j=i + 1 then d else c j,rfl,fun j=>?_,Same.grow hp s2,?_⟩
     ·show (if j=i + 1 then d else c j)=121∨(if j=i + 1 then d else c j)=110
      split
      ·exact hd
      ·exact hc j
     ·rw [q01]
      exact congrArg (fun z=>some (HO.lst z)) (qo3 s1 c d (i + 1))
    have ix:atI ((List.range (i + 1)).map fun j=>s1 (c j)) ((1 + (i:Int) - 1) / 2)=some (s1 (c (i / 2))):=by
     have e:(1 + (i:Int) - 1) / 2=((i / 2:Nat):Int):=by omega
     rw [e]
     refine q46 ?_
     rw [List.getElem?_map,List.getElem?_range (by omega)]
     rfl
    have il:((List.range (i + 1)).map fun j=>s1 (c j)).length < sizeLine:=q41 _ _ (by omega)
    refine ⟨_,rfl,.inl ⟨rfl,_,SqL.of e2⟩,_,rfl,_,rfl,_,_,rfl,rfl,_,_,rfl,rfl,⟨by decide,by decide⟩,p,_,_,_,rfl,rfl,SqL.of e2,ix,rfl,_,rfl,q77 (fun _=>?_) (fun _=>?_)⟩
    ·exact q48 ⟨p,_,_,rfl,rfl,e2,il,fin 110 (.inr rfl)⟩
    ·refine ⟨_,rfl,_,rfl,_,_,rfl,rfl,_,_,rfl,rfl,⟨(by show (0:Int) < 3 + (1 + (i:Int)); omega),(by show (3:Int) + (1 + (i:Int)) < 1073741824; omega)⟩,_,_,rfl,rfl,(by show (0:Int) < 3; decide),rfl,_,rfl,q77 (fun _=>?_) (fun _=>?_)⟩
     ·exact ⟨p,_,_,rfl,rfl,e2,il,fin 110 (.inr rfl)⟩
     ·exact ⟨p,_,_,rfl,rfl,e2,il,fin 121 (.inl rfl)⟩
   ·rintro σ H2 ⟨v,c,rfl,hc,s2,e2⟩
    rw [show m - 1 + 1=m by omega] at e2
    exact ⟨_,rfl,k p H2 c hc s2 hp e2⟩
end
end K67
namespace K67
open PySem L2
abbrev qi2:Stmt:=top 68
abbrev qq4:Stmt:=top 69
abbrev qq3:Stmt:=top 70
abbrev q79:Stmt:=top 64
abbrev Pb:List Str:=["_law_number", "_law_n"]
abbrev Pdr:List Str:=["_law_cell_here", "_law_parts"]
section
variable {P:Program}{w:World}{K:PySem.W.Frag}{mg:Str->Option Value}{base:Heap}
def qP6 (K:PySem.W.Frag):Sp:=fun vs H Q _=>∃(x:Int) (n:Nat) (a:Addr) (p0 p1 p2 p3 p4:Int),vs=[.int x,.int n,.ref a]/\SqL K H a ([p0,p1,p2,p3,p4].map V.int)/\1<=n/\n<=12/\∀ H' c,Bin c->Same H H'->Q (.str (tx n c)) H'
abbrev Nr:List Str:=["_law_number", "_law_n", "_law_plan_here", "_law_m", "_law_hidden_here", "_law_flips", "_law_row", "_law_q", "_law_sign"]
abbrev Pr:List Str:=["_law_number", "_law_n", "_law_plan_here"]
theorem sc_rowby:FnScope Nr Pr (q02 qi2):=⟨rfl,rfl,rfl,by decide +kernel,rfl,by decide +kernel,by decide +kernel⟩
theorem not_bin {c:Nat}(h:c=121∨c=110):qF0 c=121∨qF0 c=110:=by
 unfold qF0
 split
 ·exact .inr rfl
 ·exact .inl rfl
theorem z92 (c:Nat->Nat) (d i:Nat):tx i c ++ (⟨#[d]⟩:Str)=tx (i + 1) fun j=>if j=i then d else c j:=by
 have e:tx i c=tx i fun j=>if j=i then d else c j:=qc0 fun j hj=>by rw [if_neg (Nat.ne_of_lt hj)]
 rw [e]
 exact qo2 (by rw [if_pos rfl])
theorem qY4 {c:Nat->Nat}{d i:Nat}(hc:Bin c) (hd:d=121∨d=110):Bin fun j=>if j=i then d else c j:=fun j=>by
 show (if j=i then d else c j)=121∨(if j=i then d else c j)=110
 split
 ·exact hd
 ·exact hc j
theorem z44 {f fb fh fn:Addr}{fd gb gh gn:FuncData}(D:Df K mg "_law_row_by" qi2 Pr f fd) (Db:Df K mg "_law_bits" qq9 Pb fb gb) (Dh:Df K mg "_law_hidden" qc9 Ph fh gh) (Dn:Df K mg "_law_not" qE5 ["_law_sign"] fn gn) (B:Bt mg):FnOk P w K mg base (CXE P w) 2 f fd Pr (qP6 K):=by
 refine D.F.okN sc_rowby (fun vs H Q E h=>?_) (fun cdv A outer s H vs Q E hr h=>?_)
 ·obtain ⟨x,n,a,p0,p1,p2,p3,p4,rfl,_⟩:=h
  rfl
 ·obtain ⟨x,n,a,p0,p1,p2,p3,p4,rfl,hS,n1,n12,k⟩:=h
  refine ⟨_,q04 (q30 (PW.pt (qw2 (q10 q37 (q25 ix_list (pv 2) q06 (fun _ _=>rfl)) q06 (q13 _)) (qj8 (q10 q37 (q24 q66 (pv 0) q06) q06 (q13 _)))))
    (q05 (q12 (q14 Db (qU5 Db B) hr q17 (q00 (pv 0) (q00 (pv 1) q03))))) q16)
   (q04 (q21 (i:=3) sc_rowby.nd rfl (Or.inl rfl) (q24 q47 q06 (q24 q66 (q25 ix_list (pv 2) q06 (fun _ _=>rfl)) (pv 1))))
   (q04 (q21 (i:=4) sc_rowby.nd rfl (Or.inl rfl) (q14 Dh (qU1 Dh B) hr q17 (q00 (pv 2) (q00 (pv 3) (q00 (pv 0) q03)))))
   (q04 (q21 (i:=5) sc_rowby.nd rfl (Or.inl rfl) (q14 Db (qU5 Db B) hr q17 (q00 (q25 ix_list (pv 2) q06 (fun _ _=>rfl)) (q00 (pv 1) q03))))
   (q04 (q21 (i:=6) sc_rowby.nd rfl (Or.inl rfl) q20)
   (q04 (q91 PassesOwn.never rfl (q34 (by rfl) B.range (q00 (pv 1) q03)) (q11 (i:=7) sc_rowby.nd rfl (Or.inl rfl))
    (q04 (q21 (i:=8) sc_rowby.nd rfl (Or.inl rfl) (q25 ix_list (pv 4) (q24 q66 (q24 q47 (pv 7) (q24 qf9 (q24 qg0 (pv 7) q06) (q25 ix_list (pv 2) q06 (fun _ _=>rfl)))) (pv 3)) (fun _ _=>rfl)))
    (q05 (q21 (i:=6) sc_rowby.nd rfl (Or.inl rfl) (q24 qa1 (pv 6) (q58 (q10 q37 (q25 q62 (pv 5) (pv 7) (fun _ _=>rfl)) q20 (q13 _)) (q14 Dn (ok_not Dn B) hr q17 (q00 (pv 8) q03)) (pv 8)))))))
   (q05 (q12 (pv 6)))))))),?_⟩
  have bits:Q (.str (tx n (bitC x))) H:=k H _ (bit_bin x) (Same.refl H)
  refine ⟨_,rfl,a,_,_,_,rfl,rfl,hS,rfl,rfl,_,rfl,q77 (fun _=>?_) (fun _=>?_)⟩
  ·exact q48 ⟨_,rfl,_,rfl,x,n,rfl,by omega,bits⟩
  refine ⟨_,rfl,_,_,rfl,rfl,(by show (0:Int) < 31; decide),rfl,_,rfl,q77 (fun _=>?_) (fun _=>?_)⟩
  ·exact ⟨_,rfl,_,rfl,x,n,rfl,by omega,bits⟩
  have nI:(0:Int) < (n:Int):=by omega
  have mb:0<=p1 % (n:Int)/\p1 % (n:Int) < n:=⟨Int.emod_nonneg _ (by omega),Int.emod_lt_of_pos _ nI⟩
  refine ⟨_,rfl,a,_,_,_,rfl,rfl,hS,rfl,_,rfl,_,_,rfl,rfl,nI,_,_,rfl,rfl,?_⟩
  obtain ⟨m,hm⟩:∃ m:Nat,(m:Int)=1 + p1 % (n:Int):=⟨(1 + p1 % (n:Int)).toNat,by omega⟩
  refine ⟨_,rfl,_,rfl,_,rfl,a,_,p0,m,x,(by rw [hm]; rfl),hS,rfl,by omega,by omega,fun q H1 hc hb s1' hq e1=>?_⟩
  refine ⟨_,rfl,a,_,_,_,rfl,rfl,s1'.seq hS,rfl,_,rfl,p2,n,rfl,by omega,?_⟩
  refine ⟨_,rfl,_,rfl,by omega,by omega,?_⟩
  have en:((n:Nat):Int).toNat=n:=by omega
  rw [en]
  have mI:(0:Int) < 1 + p1 % (n:Int):=by omega
  refine q52 (fun i σ H2=>∃ v u c,σ=[some (.int x),some (.int n),some (.ref a),some (.int (1 + p1 % (n:Int))),some (.ref q),some (.str (tx n (bitC p2))),some (.str (tx i c)),v,u]/\Bin c/\H2=H1) ⟨none,none,fun _=>121,rfl,fun _=>.inl rfl,rfl⟩ ?_ ?_
  ·rintro i σ H2 hi ⟨v,u,c,rfl,hcb,rfl⟩
   have ei:(0:Int) + (i:Int)=(i:Int):=Int.zero_add _
   have jb:0<=(0 + (i:Int) + (0 + (i:Int)) / 2 * p3) % (1 + p1 % (n:Int))/\(0 + (i:Int) + (0 + (i:Int)) / 2 * p3) % (1 + p1 % (n:Int)) < 1 + p1 % (n:Int):=⟨Int.emod_nonneg _ (by omega),Int.emod_lt_of_pos _ mI⟩
   obtain ⟨j,hj⟩:∃ j:Nat,(j:Int)=(0 + (i:Int) + (0 + (i:Int)) / 2 * p3) % (1 + p1 % (n:Int)):=⟨((0 + (i:Int) + (0 + (i:Int)) / 2 * p3) % (1 + p1 % (n:Int))).toNat,by omega⟩
   have jm:j < m:=by omega
   have ix:atI ((List.range m).map fun j=>s1 (hc j)) ((0 + (i:Int) + (0 + (i:Int)) / 2 * p3) % (1 + p1 % (n:Int)))=some (s1 (hc j)):=by
    rw [<- hj]
    refine q46 ?_
    rw [List.getElem?_map,List.getElem?_range jm]
    rfl
   refine ⟨_,rfl,_,rfl,_,rfl,_,_,rfl,rfl,⟨by decide,by decide⟩,_,rfl,a,_,_,_,rfl,rfl,s1'.seq hS,rfl,_,_,rfl,rfl,.inl ⟨?_,?_⟩,_,_,rfl,rfl,_,rfl,_,_,rfl,rfl,mI,q,_,_,_,rfl,rfl,SqL.of e1,ix,?_⟩
   ·show -(2 ^ 64) < (0 + (i:Int)) / 2; omega
   ·show (0 + (i:Int)) / 2 < 2 ^ 64; omega
   refine ⟨_,rfl,_,rfl,_,rfl,_,_,_,rfl,rfl,qg7 _ _ (by omega),(by rw [ei]; exact z00 hi),rfl,_,rfl,q77 (fun _=>?_) (fun _=>?_)⟩
   ·refine ⟨_,rfl,hc j,rfl,_,_,rfl,rfl,qe4 i _ _ (by omega),some (.int (0 + (i:Int))),some (s1 (hc j)),fun z=>if z=i then qF0 (hc j) else c z,?_,qY4 hcb (not_bin (hb j)),rfl⟩
    rw [z92 c (qF0 (hc j)) i]
    rfl
   ·refine ⟨_,rfl,_,_,rfl,rfl,qe4 i _ _ (by omega),some (.int (0 + (i:Int))),some (s1 (hc j)),fun z=>if z=i then hc j else c z,?_,qY4 hcb (hb j),rfl⟩
    rw [z92 c (hc j) i]
    rfl
  ·rintro σ H2 ⟨v,u,c,rfl,hcb,rfl⟩
   exact ⟨_,rfl,k H2 c hcb s1'⟩
def z96:Sp:=fun vs H Q _=>∃ c:Int,vs=[.int c]/\∀ q H' (p0 p1 p2 p3 p4:Int),Same H H'->H q=none->H' q=some (.lst ([p0,p1,p2,p3,p4].map V.int))->Q (.ref q) H'
theorem sc_plan:FnScope ["_law_cell_here"] ["_law_cell_here"] (q02 qq4):=⟨rfl,rfl,rfl,by decide +kernel,rfl,by decide +kernel,by decide +kernel⟩
theorem q22 {n:Nat}(h:n<=100):n<=sizeLine:=Nat.le_trans h (by decide)
theorem ok_plan {f fr:Addr}{fd gr:FuncData}(D:Df K mg "_law_plan" qq4 ["_law_cell_here"] f fd) (Dr:Df K mg "_law_draws" q95 Pdr fr gr) (B:Bt mg):FnOk P w K mg base (CXE P w) 2 f fd ["_law_cell_here"] z96:=by
 refine D.F.okN sc_plan (fun vs H Q E h=>?_) (fun cdv A outer s H vs Q E hr h=>?_)
 ·obtain ⟨c,rfl,_⟩:=h
  rfl
 ·obtain ⟨c,rfl,k⟩:=h
  refine ⟨_,q05 (q12 (q14 Dr (qh2 Dr B) hr q17 (q00 (pv 0) (q00 (q36 (q00 q06 (q00 q06 (q00 q06 (q00 q06 (q00 q06 q03)))))) q03)))),?_⟩
  refine ⟨_,rfl,q22 (show 5<=100 by decide),fun p hp=>?_⟩
  refine ⟨c,p,[5,12,8192,7,8192],rfl,SqL.of q01,by decide,by decide,fun q H' sm hq e=>?_⟩
  exact k q H' _ _ _ _ _ ((Same.new hp).trans' sm) (q73 hq) e
def z95 (K:PySem.W.Frag):Sp:=fun vs H Q _=>∃(a:Addr) (xs:List Int) (n:Nat) (c:Int),vs=[.ref a,.int n,.int c]/\SqL K H a (xs.map V.int)/\xs.length<=100/\1<=n/\n<=12 /\
 ∀ q H' (r:Nat->Nat->Nat),(∀ i,Bin (r i))->Same H H'->H q=none->H' q=some (.lst ((List.range xs.length).map fun i=>V.str (tx n (r i))))->Q (.ref q) H'
abbrev Ns:List Str:=["_law_cells", "_law_n", "_law_cell_here", "_law_plan_here"]
abbrev Pss:List Str:=["_law_cells", "_law_n", "_law_cell_here"]
theorem sc_rows:FnScope Ns Pss (q02 qq3):=⟨rfl,rfl,rfl,by decide +kernel,rfl,by decide +kernel,by decide +kernel⟩
theorem nd_r:(["_law_one", "_law_n", "_law_plan_here"]:List Str).Nodup:=by decide +kernel
theorem ok_rows {f fr fp fb:Addr}{fd gr gp gb:FuncData}(D:Df K mg "_law_rows" qq3 Pss f fd) (Dr:Df K mg "_law_draws" q95 Pdr fr gr) (Dp:Df K mg "_law_plan" qq4 ["_law_cell_here"] fp gp) (Db:Df K mg "_law_row_by" qi2 Pr fb gb)
  (Gp:FnOk P w K mg base (CXE P w) 2 fp gp ["_law_cell_here"] z96) (Gb:FnOk P w K mg base (CXE P w) 2 fb gb Pr (qP6 K)) (B:Bt mg):FnOk P w K mg base (CXE P w) 3 f fd Pss (z95 K):=by
 refine D.F.okN sc_rows (fun vs H Q E h=>?_) (fun cdv A outer s H vs Q E hr h=>?_)
 ·obtain ⟨a,xs,n,c,rfl,_⟩:=h
  rfl
 ·obtain ⟨a,xs,n,c,rfl,hS,hl,n1,n12,k⟩:=h
  refine ⟨_,q04 (q21 (i:=3) sc_rows.nd rfl (Or.inr rfl) (q14 Dp Gp hr q17 (q00 (pv 2) q03)))
   (q05 (q12 (q29 (N':=["_law_one", "_law_n", "_law_plan_here"]) (fm:=[none,some 1,some 3]) rfl ⟨rfl,by decide +kernel,by decide +kernel,rfl,rfl,rfl⟩
    (q35 (pv 0)) (fun _ _ _ _=>q11 (i:=0) nd_r rfl (Or.inl rfl)) (fun _ _ _ _=>q42)
    (fun _ _ _ _=>q14 Db Gb hr q17 (q00 (q25 (r:=qR9 K) ix_list (q14 Dr (qh2 Dr B) (hr.mono (by decide)) q17 (q00 (pv 0) (q00 (q36 (q00 q06 q03)) q03))) q06 (fun _ _=>rfl)) (q00 (pv 1) (q00 (pv 2) q03))))))),?_⟩
  refine ⟨_,rfl,c,rfl,fun pl H1 p0 p1 p2 p3 p4 sm1 hpl e1=>?_⟩
  refine ⟨_,rfl,a,rfl,⟨_,sm1.seq hS⟩,fun p hp=>?_⟩
  have hpH:H p=none:=by
   cases z:H p with
   | none=>rfl
   | some o=>rw [sm1 p o z] at hp; cases hp
  refine q40 (K:=K) (a:=a) (xs:=xs.map V.int) (fun i σ H2=>∃ v r,σ=[v,some (.int n),some (.ref pl)]/\(∀ i,Bin (r i))/\Same H1 H2/\H2 p=some (.lst ((List.range i).map fun j=>V.str (tx n (r j)))))
   ⟨none,fun _ _=>121,rfl,fun _ _=>.inl rfl,Same.new hp,q01⟩ (fun i σ H2 _ ⟨_,_,_,_,s2,_⟩=>s2.seq (sm1.seq hS)) ?_ ?_
  ·rintro i y σ H2 hi ⟨v,r,rfl,hr',s2,e2⟩
   rw [List.getElem?_map] at hi
   cases z:xs[i]? with
   | none=>rw [z] at hi; cases hi
   | some d =>
    rw [z] at hi
    cases hi
    have il:i < xs.length:=(List.getElem?_eq_some_iff.mp z).1
    refine q53 ⟨_,rfl,q22 (show 1<=100 by decide),fun t ht=>?_⟩
    refine ⟨d,t,[8192],rfl,SqL.of q01,by decide,by decide,fun u H3 s3 hu e3=>?_⟩
    have s23:Same H2 H3:=(Same.new ht).trans' s3
    refine ⟨u,_,_,.int (qJ1 d % 8192),rfl,rfl,SqL.of e3,rfl,_,rfl,_,rfl,?_⟩
    refine ⟨_,n,pl,p0,p1,p2,p3,p4,rfl,(s2.trans' s23).seq (SqL.of e1),n1,n12,fun H4 cc hcc s4=>?_⟩
    refine ⟨_,s4 p _ (s23 p _ e2),q41 _ _ (by omega),_,fun j=>if j=i then cc else r j,rfl,fun j=>?_,Same.grow hp (s2.trans' (s23.trans' s4)),?_⟩
    ·show Bin (if j=i then cc else r j)
     split
     ·exact hcc
     ·exact hr' j
    ·rw [q01]
     exact congrArg (fun z=>some (HO.lst z)) (qo3 (fun c=>V.str (tx n c)) r cc i)
  ·rintro σ H2 ⟨v,r,rfl,hr',s2,e2⟩
   rw [List.length_map] at e2
   exact k p H2 r hr' (sm1.trans' s2) hpH e2
end
end K67
namespace K67
open PySem L2
def retE:List Stmt->Expr
 | [.Return (some e) _]=>e
 | _=>.Constant .none 0 ⟨0,0,0,0⟩
def subA:Expr->Expr
 | .Subscript a _ _=>a
 | e=>e
def subB:Expr->Expr
 | .Subscript _ b _=>b
 | e=>e
def lstE:Expr->List Expr
 | .List es _=>es
 | _=>[]
@[irreducible] def e_ci:Expr:=subB (retE (q07 q79))
@[irreducible] def e_cd:Expr:=subA (subB (retE (q07 q79)))
@[irreducible] def z66:List Expr:=lstE (subA (retE (q07 q79)))
theorem z78:q07 q79=[.Return (some (.Subscript (.List z66 ⟨272,11,272,51⟩) e_ci ⟨272,11,272,88⟩)) ⟨272,4,272,88⟩]:=by delta e_ci z66; rfl
theorem ci_eq:e_ci=.Subscript e_cd (.Constant (.int 0) 0 ⟨272,85,272,86⟩) ⟨272,52,272,87⟩:=by delta e_ci e_cd; rfl
theorem cd_eq:e_cd=.Call (.Name "_law_draws" ⟨272,52,272,62⟩) [.Name "_law_cell_here" ⟨272,63,272,77⟩,.List [.Constant (.int 13) 0 ⟨272,80,272,82⟩] ⟨272,79,272,83⟩] [] ⟨272,52,272,84⟩:=by delta e_cd; rfl
theorem cl_ints:qC1 z66=some [3,4,5,2,6,3,12,4,1,7,5,9,4]:=by delta z66; rfl
theorem z81:qZ0 e_ci:=by delta e_ci; exact fun _ _=>rfl
section
variable {P:Program}{w:World}{K:PySem.W.Frag}{mg:Str->Option Value}{base:Heap}
def spCount:Sp:=fun vs H Q _=>∃ c:Int,vs=[.int c]/\∀(n:Nat) H',1<=n->n<=12->Same H H'->Q (.int n) H'
theorem z26:FnScope ["_law_cell_here"] ["_law_cell_here"] (q02 q79):=⟨rfl,rfl,rfl,by decide +kernel,rfl,by decide +kernel,by decide +kernel⟩
theorem cnt_at (i:Nat) (h:i < 13):∃ n:Nat,1<=n/\n<=12/\atI (([3,4,5,2,6,3,12,4,1,7,5,9,4]:List Int).map V.int) (i:Int)=some (.int n):=by
 match i,h with
 | 0,_=>exact ⟨3,by decide,by decide,rfl⟩
 | 1,_=>exact ⟨4,by decide,by decide,rfl⟩
 | 2,_=>exact ⟨5,by decide,by decide,rfl⟩
 | 3,_=>exact ⟨2,by decide,by decide,rfl⟩
 | 4,_=>exact ⟨6,by decide,by decide,rfl⟩
 | 5,_=>exact ⟨3,by decide,by decide,rfl⟩
 | 6,_=>exact ⟨12,by decide,by decide,rfl⟩
 | 7,_=>exact ⟨4,by decide,by decide,rfl⟩
 | 8,_=>exact ⟨1,by decide,by decide,rfl⟩
 | 9,_=>exact ⟨7,by decide,by decide,rfl⟩
 | 10,_=>exact ⟨5,by decide,by decide,rfl⟩
 | 11,_=>exact ⟨9,by decide,by decide,rfl⟩
 | 12,_=>exact ⟨4,by decide,by decide,rfl⟩
theorem z51 {f fr:Addr}{fd gr:FuncData}(D:Df K mg "_law_count" q79 ["_law_cell_here"] f fd) (Dr:Df K mg "_law_draws" q95 Pdr fr gr) (B:Bt mg):FnOk P w K mg base (CXE P w) 2 f fd ["_law_cell_here"] spCount:=by
 refine D.F.okN z26 (fun vs H Q E h=>?_) (fun cdv A outer s H vs Q E hr h=>?_)
 ·obtain ⟨c,rfl,_⟩:=h
  rfl
 ·obtain ⟨c,rfl,k⟩:=h
  rw [z78]
  have x1:=q36 (X:=(qD7 (CXE P w) P w K mg base ["_law_cell_here"] "_law_count" (q02 q79) f cdv A outer s H E).nox) (pos:=⟨272,11,272,51⟩) (qT1 cl_ints)
  have x2:PE (qD7 (CXE P w) P w K mg base ["_law_cell_here"] "_law_count" (q02 q79) f cdv A outer s H E).nox e_cd (qL6 (qE2 K) [] E0 (qn5 (qO9 0) (qn5 (tLst (qn5 (tC (.int 13)) tNil)) tNil))):=by
   rw [cd_eq]
   exact q14 Dr (qh2 Dr B) hr q17 (q00 (pv 0) (q00 (q36 (q00 q06 q03)) q03))
  have x3:PE (qD7 (CXE P w) P w K mg base ["_law_cell_here"] "_law_count" (q02 q79) f cdv A outer s H E).nox e_ci (tOp (qR9 K) (qL6 (qE2 K) [] E0 (qn5 (qO9 0) (qn5 (tLst (qn5 (tC (.int 13)) tNil)) tNil))) (tC (.int 0))):=by
   rw [ci_eq]
   exact q25 ix_list x2 q06 (fun _ _=>rfl)
  refine ⟨_,q05 (q12 (q25 ix_list x1 x3 z81)),?_⟩
  refine ⟨q22 (show 13<=100 by decide),fun g hg=>?_⟩
  refine ⟨_,rfl,q22 (show 1<=100 by decide),fun t ht=>?_⟩
  refine ⟨c,t,[13],rfl,SqL.of q01,by decide,by decide,fun u H3 s3 hu e3=>?_⟩
  have db:0<=qJ1 c % 13/\qJ1 c % 13 < 13:=⟨Int.emod_nonneg _ (by decide),Int.emod_lt_of_pos _ (by decide)⟩
  obtain ⟨n,n1,n12,en⟩:=cnt_at (qJ1 c % 13).toNat (by omega)
  have e:(((qJ1 c % 13).toNat:Nat):Int)=qJ1 c % 13:=by omega
  rw [e] at en
  have s03:=(Same.new ht).trans' s3
  refine ⟨u,_,_,.int (qJ1 c % 13),rfl,rfl,SqL.of e3,rfl,g,_,_,.int n,rfl,rfl,SqL.of (s03 g _ q01),en,?_⟩
  exact k n H3 n1 n12 ((Same.new hg).trans' s03)
end
end K67
namespace L2
open PySem PySem.Spec PyProof.Rows
section
variable {X:Cx}{pos:Pos}
theorem ps_weak {X:Cx}{st:Stmt}{t t':TS}(h:PS X st t) (hm:∀ D σ H,t' D σ H->t D σ H):PS X st t':=fun pins s σ H D I q=>h pins s σ H D I (hm D σ H q)
end
section
variable {K:PySem.W.Frag}{T p:Addr}{te:TE}{N:St->Hp->Prop}{σ:St}{H:Hp}{x y z u:V}
end
end L2
namespace L2
open PySem PySem.Spec PyProof.Rows
def Ite (x:Str):It:=⟨fun i _=>i < x.length,fun i H v H'=>∃ T,v=.ref T/\H T=none/\H'=upd H T (.tup [.int i,sg x i]),fun i _=>x.length<=i⟩
theorem z69 {P:Program}{w:World}{A:Around}(hh:A.handled=none) (it:Addr) (x:Str) :
  Draws P w A it [it] x.length (fun i v=>∃ u,v=.str ⟨#[x.cps.getD i 0]⟩ u) (fun i h=>StrIt h it x i) where
 live:=fun _ _ st=>let ⟨o,ho,_⟩:=st.obj; ⟨o,ho⟩
 frame:=fun _ _ _ st hk=>st.at fun o e=>hk it (by simp) o e
 item:=fun i s Q E hi st hQ=>q76 st (qA4 hi) fun h' t tk st' sb=>hQ _ h' tk ⟨t,rfl⟩ st' sb
 done:=fun s Q E st hE=>qi9 hh st (Array.getElem?_eq_none (Nat.le_refl _)) hE
section
variable {P:Program}{w:World}{K:PySem.W.Frag}
def EnSt (e it:Addr) (x:Str) (i:Nat) (h:Heap):Prop:=(∃ old,IsEnum h e it i old)/\StrIt h it x i
theorem qO8 {elts:List Expr}{k:Nat}{pos:Pos}(e it:Addr) (hei:e≠it) (x:Str):Turn P w K (.Tuple elts k pos) (Ite x) [e,it] e (EnSt e it x) where
 mem:=by simp
 obj:=fun i h st b hb=>by
  obtain ⟨⟨old,he⟩,st⟩:=st
  rcases List.mem_cons.mp hb with rfl | hb
  ·exact ⟨_,he,fun v q=>by cases q⟩
  ·rw [List.mem_singleton.mp hb]; exact st.obj
 keep:=fun i h h' st k=>by
  obtain ⟨⟨old,he⟩,st⟩:=st
  exact ⟨⟨old,k e (by simp) _ he⟩,st.at fun o q=>k it (by simp) o q⟩
 item:=by
  intro X hP hw hK hc i pins s σ H E I hf st hg
  subst hP hw hK
  have W:=WalksT.enumerateD (A:=X.A) (z69 (P:=X.prog) (w:=X.w) (A:=X.A.in1) (I.ok.hd hc) it x) e hei (by simpa using hei) (by simp)
  refine W.item i s _ _ hg st fun T vals h' tk hv hT hq mid kp=>⟨_,rfl,?_⟩
  refine W.go elts k pos i T { s with heap:=h',toks:=tk } _ _ mid fun h'' st' kp'=>?_
  obtain ⟨t,y,⟨u,rfl⟩,rfl⟩:=hv
  have nT:T∉[e,it]:=W.apart i T h' mid
  have hq2:h''.IsTuple T #[Value.int (i:Int) t,Value.str ⟨#[x.cps.getD i 0]⟩ u]:=by
   obtain ⟨o,h1,r⟩:=hq
   exact ⟨o,kp' T o nT h1,r⟩
  have fr:H T=none:=I.hok.fresh hT
  have I1:Inv X pins σ (upd H T (.tup [.int i,sg x i])) { s with heap:=h'',toks:=tk }:=by
   refine I.turnLaid (fp:=[e,it]) hf (fun b o hb q=>kp' b o hb (kp b o hb q)) hT nT ?_
   exact ⟨by show 2<=sizeLine; rw [sizeLine_eq]; omega,_,.cons ⟨t,rfl⟩ (.cons ⟨u,rfl⟩ .nil),hq2⟩
  refine ⟨.ref T,_,I1,rfl,⟨T,rfl,fr,rfl⟩,st',fun b hb=>?_⟩
  have nb:b≠T:=fun q=>nT (q ▸ hb)
  rw [q08 nb]
  exact (hf b hb).1
 done:=by
  intro X hP hw hK hc i pins s σ H E I hf st hg
  subst hP hw hK
  obtain ⟨⟨old,he⟩,st⟩:=st
  have hx:x.cps[i]? = none:=Array.getElem?_eq_none hg
  have hT:s.TypeIs (.ref e) "enumerate" := ⟨_,he,rfl⟩
  unfold pyNext
  refine wpAny_bind (wpAny_attempt (wpAny_callSpecial?_slot (name:=Str.ofString "__next__") hT F.slot_enumerate_next
   (wpAny_call_entry F.slot_enumerate_next hT F.entry_enumerate_next ?_ (F.args_enumerate_next_1 _))))
  show wpAny _ _ (field (.ref e) 2 >>= _) _ _ _
  refine wpAny_bind (wpAny_field he rfl (x:=.ref it) rfl ?_)
  refine wpAny_bind (qi9 (I.ok.hd hc) st hx fun h' y he' hx'=>?_)
  obtain ⟨o,ho,hcl⟩:=hx'
  refine wpAny_bind (wpAny_isInstance (T := "StopIteration") (b:=true) ⟨o,ho,hcl⟩ isSubtype_stop ?_)
  exact wpAny_pure ⟨rfl,I.turnedL (fp:=[e,it]) (t':=s.toks) hf fun b o hb q=>he' b o (fun z=>hb (by simp [z])) q⟩
 self:=fun A i s Q E st h=>by
  obtain ⟨⟨old,he⟩,_⟩:=st
  exact wpAny_pyIter_enum he h
end
section
variable {X:Cx}
def iEnum (ta:TA):TI:=fun σ H R=>ta σ H fun vs H1=>∃ x,vs=[.str x]/\R (Ite x) H1
theorem ql7 {elts:List Expr}{k:Nat}{tp:Pos}{a:Expr}{ta:TA}{p pos:Pos}(hg:Gl X "enumerate") (hm:X.mg "enumerate" = none) (ha:PA X [a] ta) (hs:starEach [a] X.env=[(false,eval a X.env)]:=by rfl) :
  PI X (.Tuple elts k tp) (.Call (.Name "enumerate" p) [a] [] pos) (iEnum ta):=by
 intro pins s σ H R I h
 refine Call_ (qk5 I hg hm boot_enumerate (PyProof.Rows.callWith_type1 (thn (ha pos pins s σ H _ I h) fun us s1 ⟨vs,H1,I1,r1,q1⟩=>?_) hs rfl))
 obtain ⟨x,rfl,q⟩:=q1
 obtain ⟨u,rfl,ru⟩:=r1.one
 obtain ⟨t,rfl⟩:=ru
 refine call_enumerate_str fun h' he st hz kp=>wpAny_pyIter_enum (s:={ s1 with heap:=h' }) he ?_
 have hst:StrIt h' s1.heap.objs.size x 0:=⟨_,t,st,by unfold strIterType; split <;> simp⟩
 refine ⟨_,[s1.heap.objs.size + 1,s1.heap.objs.size],_,_,H1,rfl,I1.kept (t':=s1.toks) kp,qO8 _ _ (Nat.succ_ne_self _) x,⟨⟨_,by simpa using he⟩,hst⟩,fun b hb=>?_,q⟩
 have hb':s1.heap.objs.size<=b:=by
  simp only [List.mem_cons,List.not_mem_nil,or_false] at hb
  rcases hb with rfl | rfl
  ·exact Nat.le_succ _
  ·exact Nat.le_refl _
 exact I1.fpOk hb' (I1.hok.fresh hb')
end
section
variable {g:TG}{tb:TS}{D:Ends}{σ:St}{H:Hp}{x:Str}
theorem qJ9 (Pv:Nat->St->Hp->Prop) (h0:Pv 0 σ H)
  (hs:∀ i T σ H,i < x.length->H T=none->Pv i σ H->g (.ref T) σ (upd H T (.tup [.int i,sg x i])) fun σ2 H2=>tb { D with nx:=Pv (i + 1),ct:=Pv (i + 1),bk:=D.nx } σ2 H2) (hd:∀ σ H,Pv x.length σ H->D.nx σ H) :
  ∃ W:Nat->Nat->St->Hp->Prop,(∃ m,W 0 m σ H)/\∀ i m σ H,W i m σ H ->
   ((Ite x).stop i H/\D.nx σ H)∨((Ite x).go i H/\∃ N:St->Hp->Prop,(∀ σ' H',N σ' H'->∃ m',m' < m/\W (i + 1) m' σ' H')/\∀ v H',(Ite x).yld i H v H'->g v σ H' fun σ2 H2=>tb { D with nx:=N,ct:=N,bk:=D.nx } σ2 H2):=by
 refine ⟨fun i m σ H=>m=x.length - i/\i<=x.length/\Pv i σ H,⟨x.length,by simp,Nat.zero_le _,h0⟩,?_⟩
 rintro i m σ H ⟨rfl,hi,p⟩
 by_cases hlt:i < x.length
 ·refine .inr ⟨hlt,Pv (i + 1),fun σ' H' p'=>⟨x.length - (i + 1),by omega,rfl,hlt,p'⟩,fun v H' y=>?_⟩
  obtain ⟨T,rfl,hT,rfl⟩:=y
  exact hs i T σ H hlt hT p
 ·have e:i=x.length:=by omega
  subst e
  exact .inl ⟨Nat.le_refl _,hd σ H p⟩
end
section
variable {p:Addr}{g:TG}{tt:TT}{te:TE}{Q:Hp->Prop}{σ0:St}{H0:Hp}{x:Str}
theorem qp0 (Pv:Nat->St->Hp->Prop) (h0:Pv 0 σ0 H0) (hs:∀ i T σ H,i < x.length->H T=none->Pv i σ H->qd7 p g tt te (Pv (i + 1)) (.ref T) σ (upd H T (.tup [.int i,sg x i]))) (hd:∀ σ H,Pv x.length σ H->Q H) :
  qZ3 (Ite x) p g tt te σ0 H0 Q:=by
 refine ⟨fun i m σ H=>m=x.length - i/\i<=x.length/\Pv i σ H,⟨x.length,by simp,Nat.zero_le _,h0⟩,?_⟩
 rintro i m σ H ⟨rfl,hi,r⟩
 by_cases hlt:i < x.length
 ·refine .inr ⟨hlt,Pv (i + 1),fun σ' H' r=>⟨x.length - (i + 1),by omega,rfl,hlt,r⟩,fun v H' y=>?_⟩
  obtain ⟨T,rfl,hT,rfl⟩:=y
  exact hs i T σ H hlt hT r
 ·have e:i=x.length:=by omega
  subst e
  exact .inl ⟨Nat.le_refl _,hd σ H r⟩
end
end L2
namespace L2
open PySem PySem.Spec PyProof.Rows
abbrev TBd:=St->Hp->(St->Hp->Prop)->Prop
def PB (X:Cx) (act:Sem Unit) (t:TBd):Prop :=
 ∀(pins:List (Addr×Obj)) (s:Shared) (σ:St) (H:Hp) (Q:St->Hp->Prop),Inv X pins σ H s->t σ H Q ->
  wpAny (model X.prog X.w) X.A act (fun _ s'=>∃ σ' H',Inv X pins σ' H' s'/\Q σ' H') (fun _ _=>False) s
def qD8 (J:It) (g:TG) (tt:TT) (tb:TBd) (σ0:St) (H0:Hp) (Q:St->Hp->Prop):Prop :=
 ∃ W:Nat->Nat->St->Hp->Prop,(∃ m,W 0 m σ0 H0)/\∀ i m σ H,W i m σ H ->
  (J.stop i H/\Q σ H)∨(J.go i H/\∃ N:St->Hp->Prop,(∀ σ' H',N σ' H'->∃ m',m' < m/\W (i + 1) m' σ' H')/\∀ x H1,J.yld i H x H1->g x σ H1 fun σ2 H2=>tt σ2 H2 fun b H3 =>
   if b=true then tb σ2 H3 N else N σ2 H3)
def tEmit (te:TE) (p:Addr):TBd:=fun σ H N=>te σ H fun v H4=>∃ ys,H4 p=some (.lst ys)/\ys.length < sizeLine/\N σ (upd H4 p (.lst (ys ++ [v])))
def tNest (wi:TI) (g:TG) (tt:TT) (tb:Addr->TBd) (p:Addr):TBd:=fun σ H N=>wi σ H fun J H1=>qD8 J g tt (tb p) σ H1 N
def tCompN (fm:List (Option Nat)) (wi:TI) (g:TG) (tt:TT) (tb:Addr->TBd):TE:=fun σ H Q=>wi σ H fun J H1=>∀ p,H1 p=none ->
 qD8 J g tt (tb p) (seeσ fm σ) (upd H1 p (.lst [])) fun _ H2=>Q (.ref p) H2
def qz8 (ip:Pos) (tg:Expr) (ifs:List Expr) (act:Sem Unit) (e:Expr) (d:Nat) (it acc:Value) (env:Env):Sem Fin:=do
 standAt ip
 match <- pyNext it with
 | none=>pure (.done .next)
 | some v =>
  letOwnedTupleGo tg it v
  assign tg env v
  let mut ok:=true
  for c in ifs do
   if ok then ok <- isTrue c env (eval c env)
  if ok then
   act
  again (.compLoop e d it acc env)
def qX2 (elt:Expr) (acc:Value) (env:Env):Sem Unit:=do let _ <- call (.builtin "list.append") [acc,<- eval elt env]
def qI9 (cl:Comprehension) (e:Expr) (d:Nat) (acc:Value) (env:Env):Sem Unit:=do
 let x <- eval cl.iter env
 standAt cl.iter.pos
 let x <- foldedSetIterable cl.iter env x
 let _ <- runOwn (.compStart e d (<- holding [x] (pyIter x)) acc env) env
def qG6 (elt:Expr) (gens:List Comprehension) (scope:Scope) (pos:Pos) (d:Nat) (acc:Value) (env:Env):Sem Unit :=
 match gens[d + 1]? with
 | some g=>qI9 g (.ListComp elt gens scope pos) (d + 1) acc env
 | none=>qX2 elt acc env
theorem qv5 {elt:Expr}{gens:List Comprehension}{scope:Scope}{pos:Pos}{d:Nat}{cl:Comprehension}(h1:gens[d]? = some cl) (h2:cl.is_async=0) (h3:∀ g,gens[d + 1]? = some g->g.is_async=0) (it acc:Value) (env:Env) :
  compTurn (.ListComp elt gens scope pos) d it acc env=qz8 cl.iter.pos cl.target cl.ifs (qG6 elt gens scope pos d acc env) (.ListComp elt gens scope pos) d it acc env:=by
 unfold compTurn qz8 qG6
 simp only [h1,h2,bne_self_eq_false,Bool.false_eq_true,if_false]
 cases e:gens[d + 1]? with
 | none=>rfl
 | some g =>
  have h:=h3 g e
  simp only [h,qI9,bne_self_eq_false,Bool.false_eq_true,if_false,bind_assoc,pure_bind]
  rfl
section
variable {X:Cx}{elt iter tg:Expr}{gens:List Comprehension}{scope:Scope}{cpos:Pos}{ifs:List Expr}{d:Nat}{ip:Pos}{act:Sem Unit}{g:TG}{tt:TT}{tb:TBd}{te:TE}{acc:Value}
theorem loopD {R:Result->Shared->Prop}{pins:List (Addr×Obj)}{s1:Shared}{it:Addr}{fp:List Addr}{tn:Nat->Heap->Prop}{J:It}{Q:St->Hp->Prop}{H0:Hp}{σ0:St}
  (hc:X.calm=true) (hx:∀ v s,X.xe v s->False) (hq:∀ it,compTurn (.ListComp elt gens scope cpos) d it acc X.env=qz8 ip tg ifs act (.ListComp elt gens scope cpos) d it acc X.env) (hg:PG X tg g) (ht:qZ1 X ifs tt) (hb:PB X act tb)
  (T:Turn X.prog X.w X.K tg J fp it tn) (hfp:∀ b∈fp,qt5 X pins H0 b) (I:Inv X pins σ0 H0 s1) (st:tn 0 s1.heap) (blk:qD8 J g tt tb σ0 H0 Q)
  (hR:∀ σ' H' s',Inv X pins σ' H' s'->Q σ' H'->R (.ok .next) s') :
  codeAny (model X.prog X.w) X.A (.compLoop (.ListComp elt gens scope cpos) d (.ref it) acc X.env) R s1:=by
 obtain ⟨W,⟨m0,w0⟩,turn⟩:=blk
 have stat:∀{H':Hp},(∀ b∈fp,H' b=none)->∀ b∈fp,qt5 X pins H' b:=fun hn b hb=>⟨hn b hb,(hfp b hb).2⟩
 refine codeAny_loop rfl (fun n s'=>∃ i σ' H',Inv X pins σ' H' s'/\tn i s'.heap/\(∀ b∈fp,H' b=none)/\W i n σ' H') (fun n s2 hI=>?_) m0 ⟨0,σ0,H0,I,st,fun b hb=>(hfp b hb).1,w0⟩
 obtain ⟨i,σ2,H2,I2,st2,fr2,w2⟩:=hI
 show wpAny _ X.A ((compTurn (.ListComp elt gens scope cpos) d (.ref it) acc X.env).onRaise fun x=>do noteFrame x X.env; theTreesLotGoes x) _ _ s2
 refine wpAny_noted ?_
 rw [hq]
 unfold qz8
 have lift:∀{α:Type} {t:Sem α} {Q1 Q2:α->Shared->Prop} {E2:Value->Shared->Prop} {s':Shared},wpAny (model X.prog X.w) X.A t Q1 (fun _ _=>False) s'->(∀ a s'',Q1 a s''->Q2 a s'')->wpAny (model X.prog X.w) X.A t Q2 E2 s' :=
  fun h k=>wpAny_mono h k fun _ _ z=>z.elim
 have liftX:∀{α:Type} {t:Sem α} {Q1 Q2:α->Shared->Prop} {E2:Value->Shared->Prop} {s':Shared},wpAny (model X.prog X.w) X.A t Q1 X.xe s'->(∀ a s'',Q1 a s''->Q2 a s'')->wpAny (model X.prog X.w) X.A t Q2 E2 s' :=
  fun h k=>wpAny_mono h k fun v s z=>(hx v s z).elim
 rcases turn i n σ2 H2 w2 with ⟨stop,qn⟩ | ⟨go,N,hN,step⟩
 ·refine wpAny_bind (wpAny_standAt (wpAny_bind (lift (T.done X rfl rfl rfl hc i pins s2 σ2 H2 _ I2 (stat fr2) st2 stop) fun r s3 q=>?_)))
  obtain ⟨hr,I3⟩:=q
  subst hr
  exact wpAny_pure (hR σ2 H2 s3 I3 qn)
 ·refine wpAny_bind (wpAny_standAt (wpAny_bind (lift (T.item X rfl rfl rfl hc i pins s2 σ2 H2 _ I2 (stat fr2) st2 go) fun r s3 q=>?_)))
  obtain ⟨u,hr,h3⟩:=q
  subst hr
  refine wpAny_bind (lift h3 fun _ s4 q4=>?_)
  obtain ⟨x,H4,I4,r4,y4,st4,fr4⟩:=q4
  have I4':=I4.pinned (stat fr4) (T.obj _ _ st4)
  refine wpAny_bind (liftX (hg _ s4 σ2 H4 x u _ I4' r4 (step x H4 y4)) fun _ s5 q5=>?_)
  obtain ⟨σ5,H5,I5,q5⟩:=q5
  refine wpAny_bind (liftX (ht _ s5 σ5 H5 _ I5 q5) fun b s6 q6=>?_)
  obtain ⟨H6,I6,q6⟩:=q6
  have again:∀{σ7:St} {H7:Hp} {s7:Shared} {m':Nat},Inv X (pins ++ qr0 fp s4.heap) σ7 H7 s7->W (i + 1) m' σ7 H7 ->
    ∃ i σ' H',Inv X pins σ' H' s7/\tn i s7.heap/\(∀ b∈fp,H' b=none)/\W i m' σ' H':=fun {σ7 H7 s7 m'} I7 w7=>by
   refine ⟨i + 1,σ7,H7,I7.unpinned,T.keep _ _ _ st4 fun b hb o e=>(I7.pin (b,o) (List.mem_append_right _ (List.mem_append_right _ (qa2 hb e)))).1,fun b hb=>?_,w7⟩
   obtain ⟨o,e,d⟩:=T.obj _ _ st4 b hb
   exact (I7.pin (b,o) (List.mem_append_right _ (List.mem_append_right _ (qa2 hb e)))).2.1
  cases b with
  | false =>
   rw [if_neg Bool.false_ne_true] at q6
   obtain ⟨m',hm,w7⟩:=hN _ _ q6
   exact wpAny_pure ⟨rfl,m',hm,again I6 w7⟩
  | true =>
   rw [if_pos rfl] at q6
   refine wpAny_bind (lift (hb _ s6 σ5 H6 _ I6 q6) fun _ s7 q7=>?_)
   obtain ⟨σ7,H7,I7,n7⟩:=q7
   obtain ⟨m',hm,w7⟩:=hN _ _ n7
   exact wpAny_pure ⟨rfl,m',hm,again I7 w7⟩
theorem qT0 {p:Addr}(hx:∀ v s,X.xe v s->False) (he:PE X elt te):PB X (qX2 elt (.ref p) X.env) (tEmit te p):=by
 intro pins s σ H Q I q
 have liftX:∀{α:Type} {t:Sem α} {Q1 Q2:α->Shared->Prop} {E2:Value->Shared->Prop} {s':Shared},wpAny (model X.prog X.w) X.A t Q1 X.xe s'->(∀ a s'',Q1 a s''->Q2 a s'')->wpAny (model X.prog X.w) X.A t Q2 E2 s' :=
  fun h k=>wpAny_mono h k fun v s z=>(hx v s z).elim
 unfold qX2
 refine wpAny_bind (liftX (he _ s σ H _ I q) fun u s7 q7=>?_)
 obtain ⟨v,H7,I7,r7,ys,hp,hz,n7⟩:=q7
 have ap:=q57 (X:=X) pins s7 σ H7 (.ref p) [v] (.ref p) [u] (fun _ H8=>Q σ H8) I7 rfl (.cons r7 .nil) ⟨p,ys,v,rfl,rfl,hp,hz,n7⟩
 refine wpAny_bind (liftX ap fun _ s8 q8=>?_)
 obtain ⟨_,H8,I8,_,w8⟩:=q8
 exact wpAny_pure ⟨σ,H8,I8,w8⟩
theorem qG2 {R:Result->Shared->Prop}{M:Program}{w:World}{A:Around}{s:Shared}{env:Env}{it:Value}{cl:Comprehension}(h1:(clausesOf (.ListComp elt gens scope cpos))[d]? = some cl) (h2:cl.is_async=0)
  (h0:codeAny (model M w) A (.compLoop (.ListComp elt gens scope cpos) d it acc env) R s)
  (h:wpAny (model M w) A (pyIter it) (fun it' s'=>codeAny (model M w) A (.compLoop (.ListComp elt gens scope cpos) d it' acc env) R s') (notedBy (model M w) A env fun x s'=>R (.error x) s') s) :
  codeAny (model M w) A (.compStart (.ListComp elt gens scope cpos) d it acc env) R s:=by
 refine codeAny_of_tree ?_
 show wpAny _ _ ((compStart (.ListComp elt gens scope cpos) d it acc env).onRaise (fun x=>do noteFrame x env; standAt theWindowsPlace)) _ _ s
 refine wpAny_notedAt ?_
 unfold compStart
 rw [h1]
 simp only [Option.elim,h2,bne_self_eq_false,Bool.false_eq_true,if_false]
 show wpAny _ _ (ask >>= _) _ _ s
 refine wpAny_bind (wpAny_askSetting (wpAny_ite ?_))
 split
 ·first
   | exact wpAny_bind (wpAny_pure (wpAny_pure (And.intro rfl h0)))
   | exact wpAny_pure (And.intro rfl h0)
 ·first
   | exact wpAny_bind (wpAny_rule (wpAny_bind (wpAny_standAt (wpAny_bind (wpAny_mono h (fun it' s' h'=>wpAny_pure (And.intro rfl h')) fun _ _ x=>x)))))
   | (refine wpAny_bind (wpAny_rule ?_); show wpAny _ _ (standAt cl.iter.pos >>= _) _ _ s; exact wpAny_bind (wpAny_standAt (wpAny_bind (wpAny_mono h (fun it' s' h'=>wpAny_pure (And.intro rfl h')) fun _ _ x=>x))))
theorem qS9 {wi:TI}{tbp:Addr->TBd}{p:Addr}{cl:Comprehension}(hc:X.calm=true) (hx:∀ v s,X.xe v s->False) (hi:PI X cl.target cl.iter wi) (hg:PG X cl.target g) (ht:qZ1 X cl.ifs tt) (hb:PB X (qG6 elt gens scope cpos d (.ref p) X.env) (tbp p))
  (h1:(clausesOf (.ListComp elt gens scope cpos))[d]? = some cl:=by rfl) (h2:cl.is_async=0:=by rfl)
  (h3:∀ g,gens[d + 1]? = some g->g.is_async=0:=by intro g h; first | (cases h; rfl) | cases h)
  (hs:∀ x,foldedSetIterable cl.iter X.env x=pure x:=by intro _; rfl):PB X (qI9 cl (.ListComp elt gens scope cpos) d (.ref p) X.env) (tNest wi g tt tbp p):=by
 intro pins s σ H Q I q
 have liftX:∀{α:Type} {t:Sem α} {Q1 Q2:α->Shared->Prop} {E2:Value->Shared->Prop} {s':Shared},wpAny (model X.prog X.w) X.A t Q1 X.xe s'->(∀ a s'',Q1 a s''->Q2 a s'')->wpAny (model X.prog X.w) X.A t Q2 E2 s' :=
  fun h k=>wpAny_mono h k fun v s z=>(hx v s z).elim
 unfold qI9
 refine wpAny_bind (liftX (hi pins s σ H _ I q) fun v s1 h1'=>?_)
 refine wpAny_bind (wpAny_standAt (wpAny_bind (wpAny_of_eq (hs v) (wpAny_bind (wpAny_holding (liftX h1' fun itv s2 h2'=>?_))))))
 obtain ⟨it,fp,tn,J,H2,ei,I2,T,st2,f2,blk⟩:=h2'
 subst ei
 have loop:codeAny (model X.prog X.w) X.A (.compLoop (.ListComp elt gens scope cpos) d (.ref it) (.ref p) X.env) (fun r s'=>match r with | .ok f=>(∃ σ' H',Inv X pins σ' H' s'/\Q σ' H') | .error ev=>cameBackBy (model X.prog X.w) X.A X.env (fun _ _=>False) ev s') s2 :=
  loopD (pins:=pins) hc hx (fun it=>qv5 h1 h2 h3 it _ _) hg ht hb T f2 I2 st2 blk fun σ' H' s' I' q'=>⟨σ',H',I',q'⟩
 have fin:=wpAny_runOwn (M:=model X.prog X.w) (A:=X.A) (env:=X.env) (E:=fun _ _=>False) (h:=none) (Q:=fun _ s'=>∃ σ' H',Inv X pins σ' H' s'/\Q σ' H') (qG2 h1 h2 loop (T.self _ 0 _ _ _ st2 loop))
 exact wpAny_bind (wpAny_mono fin (fun _ _ z=>wpAny_pure z) fun _ _ z=>z)
end
section
variable {X:Cx}{elt iter tg:Expr}{ifs:List Expr}{qd9:List Comprehension}{scope:Scope}{pos:Pos}{N':List Str}{fm:List (Option Nat)}{wi:TI}{g:TG}{tt:TT}{tb:Addr->TBd}
theorem qs4 {RR:Value->Addr->Result->Shared->Prop}{pins:List (Addr×Obj)}{σ:St}{H:Hp}{s:Shared}{it:Addr}{fp:List Addr}{tn:Nat->Heap->Prop}{J:It}{Q:Addr->Hp->Prop}{E:Value->Shared->Prop}
  (hc:X.calm=true) (S:CompSc X scope N' fm) (hg:∀ s H C fp,PG (cxC X scope N' s H C fp) tg g) (ht:∀ s H C fp,qZ1 (cxC X scope N' s H C fp) ifs tt)
  (hb:∀ s H C fp p,PB (cxC X scope N' s H C fp) (qG6 elt (⟨tg,iter,ifs,0⟩ :: qd9) scope pos 0 (.ref p) (cxC X scope N' s H C fp).env) (tb p))
  (hq:∀ it acc env,compTurn (.ListComp elt (⟨tg,iter,ifs,0⟩ :: qd9) scope pos) 0 it acc env=qz8 iter.pos tg ifs (qG6 elt (⟨tg,iter,ifs,0⟩ :: qd9) scope pos 0 acc env) (.ListComp elt (⟨tg,iter,ifs,0⟩ :: qd9) scope pos) 0 it acc env)
  (T:Turn X.prog X.w X.K tg J fp it tn) (I:Inv X pins σ H s) (st:tn 0 s.heap) (hf:∀ b∈fp,qt5 X pins H b)
  (blk:∀ p,H p=none->qD8 J g tt (tb p) (seeσ fm σ) (upd H p (.lst [])) fun _=>Q p)
  (hR:∀ p C H' s' (m:Str->Option Value),s'.heap.Ns C m->(∀ h',Heap.SameBut C s'.heap h'->Inv X pins σ H' { s' with heap:=h' })->qt5 X pins H' C->Q p H'->Inv X pins σ H' s'->RR (.ref p) C (.ok .next) s') :
  wpAny (model X.prog X.w) X.A (newList []) (fun acc s₃=>wpAny (model X.prog X.w) X.A (newFunctionEnv scope X.env.globals (z79 scope X.env) [] X.env.qual none .none (some X.env)) (fun cenv s₄ =>
   codeAny (model X.prog X.w) X.A (.compStart (.ListComp elt (⟨tg,iter,ifs,0⟩ :: qd9) scope pos) 0 (.ref it) acc { cenv with scope:=relabel scope X.env }) (RR acc cenv.locals) s₄) E s₃) E s:=by
 have I1:Inv X pins σ (upd H s.heap.objs.size (.lst [])) { s with heap:=s.heap.push { cls:=.type "list",data:=.seq ([]:List Value).toArray } }:=I.lnew (t':=s.toks) .nil (Nat.zero_le _)
 have hb':=blk _ I.fresh
 refine wpAny_newObj_type (wpAny_newFunctionEnv S.cell (by intro y hy; simp at hy) (fun h1 hn1 hs1=>?_) S.kind)
 dsimp only at hn1 hs1 ⊢
 generalize hq2:s.heap.push { cls:=.type "list",data:=.seq ([]:List Value).toArray }=h2 at hn1 hs1 I1 ⊢
 have sz:h2.objs.size=s.heap.objs.size + 1:=by rw [<- hq2,Heap.size_push]
 have old:∀ b o,h2.get? b=some o->h1.get? b=some o:=fun b o e=>hs1.extBut b o (Nat.ne_of_lt (Heap.lt_size e)) (Heap.get?_push_of_some _ e)
 have old0:∀ b o,s.heap.get? b=some o->h2.get? b=some o:=fun b o e=>hq2 ▸ Heap.get?_push_of_some _ e
 have lt0:∀ b∈fp,b < s.heap.objs.size:=fun b hb=>by
  obtain ⟨o,e,_⟩:=T.obj _ _ st b hb
  exact Heap.lt_size e
 have hf1:∀ b∈fp,qt5 X pins (upd H s.heap.objs.size (.lst [])) b:=fun b hb=>by
  obtain ⟨f0,f⟩:=hf b hb
  exact ⟨by rw [q08 (Nat.ne_of_lt (lt0 b hb))]; exact f0,f⟩
 have lt2:∀ b∈fp,b < h2.objs.size:=fun b hb=>by rw [sz]; exact Nat.lt_succ_of_lt (lt0 b hb)
 have J0:=qv0 (s:={ s with heap:=h2 }) (h':=h1) (tk:=s.toks) (fp:=fp) S I1 hf1 lt2 hn1 old
 have st1:tn 0 h1:=T.keep _ _ _ st fun b _ o e=>old b o (old0 b o e)
 have fpok:∀ b∈fp,qt5 (cxC X scope N' { s with heap:=h2 } (upd H s.heap.objs.size (.lst [])) h2.objs.size fp) [] (upd H s.heap.objs.size (.lst [])) b:=fun b hb=>by
  refine ⟨(hf1 b hb).1,Nat.ne_of_lt (lt2 b hb),fun z=>?_,.inl hb,fun x c e z=>?_,fun p hp=>absurd (show p∈([]:List (Addr×Obj)) from hp) (by simp)⟩
  ·rcases List.mem_cons.mp (I.stkSub b z) with q | q
   ·exact (hf b hb).2.1 q
   ·exact (hf b hb).2.2.1 q
  ·exact (hf b hb).2.2.2.2.1 x c (S.look I e).1 z
 have loop:=loopD (X:=cxC X scope N' { s with heap:=h2 } (upd H s.heap.objs.size (.lst [])) h2.objs.size fp) (R:=RR (.ref s.heap.objs.size) h2.objs.size) (pins:=[]) hc (fun _ _ z=>z) (fun it=>hq it _ _) (hg _ _ _ _) (ht _ _ _ _) (hb _ _ _ _ _) T fpok J0 st1 hb' fun σ' H' s' Jv qv=>by
  obtain ⟨m,hm,_⟩:=Jv.loc
  exact hR _ _ H' s' m hm (fun h' sb=>qk9 (s:={ s with heap:=h2 }) I1 hf1 Jv rfl Jv.bare sb) (I1.fpOk (Nat.le_refl _) Jv.free) qv (qk9 (s:={ s with heap:=h2 }) I1 hf1 Jv rfl Jv.bare (Heap.SameBut.refl ..))
 exact codeAny_compStart_list loop (T.self _ 0 _ _ _ st1 loop)
theorem z34 (hc:X.calm=true) (S:CompSc X scope N' fm) (hi:PI X tg iter wi) (hg:∀ s H C fp,PG (cxC X scope N' s H C fp) tg g) (ht:∀ s H C fp,qZ1 (cxC X scope N' s H C fp) ifs tt)
  (hb:∀ s H C fp p,PB (cxC X scope N' s H C fp) (qG6 elt (⟨tg,iter,ifs,0⟩ :: qd9) scope pos 0 (.ref p) (cxC X scope N' s H C fp).env) (tb p))
  (h3:∀ g,qd9[0]? = some g->g.is_async=0:=by intro g h; first | (cases h; rfl) | cases h)
  (hs:∀ x,foldedSetIterable iter X.env x=pure x:=by intro _; rfl) :
  PE X (.ListComp elt (⟨tg,iter,ifs,0⟩ :: qd9) scope pos) (tCompN fm wi g tt tb):=by
 intro pins s σ H Q I h
 rw [eval_ListComp]
 refine wpAny_comprehension_free (use:=none) rfl hs (qd6 (S.cells I)) S.kind S.names (thn (hi pins s σ H _ I h) fun v s1 h1=>thn h1 fun itv s2 h2=>?_)
 obtain ⟨it,fp,tn,J,H2,e,I2,T,st2,f2,blk⟩:=h2
 subst e
 refine qs4 (RR:=fun acc C=>compPost (model X.prog X.w) X.A X.xe none (EP X pins σ Q) acc C) (Q:=fun p H'=>Q (.ref p) H') hc S hg ht hb (fun it acc env=>qv5 (cl:=⟨tg,iter,ifs,0⟩) (gens:=⟨tg,iter,ifs,0⟩ :: qd9) (d:=0) rfl rfl (fun g h=>h3 g (by simpa using h)) it acc env) T I2 st2 f2 blk ?_
 intro p C H' s' m hm back _ q _
 exact ⟨m,hm,fun h' sb=>⟨.ref p,H',back h' sb,rfl,q⟩⟩
end
section
variable {K:PySem.W.Frag}{g:TG}{tt:TT}{tb:TBd}{σ0:St}{H0:Hp}{Q:St->Hp->Prop}{x:Str}
def z89 (g:TG) (tt:TT) (tb:TBd) (N:St->Hp->Prop) (x:V) (σ:St) (H:Hp):Prop:=g x σ H fun σ2 H2=>tt σ2 H2 fun b H3=>if b=true then tb σ2 H3 N else N σ2 H3
theorem lp_str (Pv:Nat->St->Hp->Prop) (h0:Pv 0 σ0 H0) (hs:∀ i σ H,i < x.length->Pv i σ H->z89 g tt tb (Pv (i + 1)) (sg x i) σ H) (hd:∀ σ H,Pv x.length σ H->Q σ H):qD8 (Its x) g tt tb σ0 H0 Q:=by
 refine ⟨fun i m σ H=>m=x.length - i/\i<=x.length/\Pv i σ H,⟨x.length,by simp,Nat.zero_le _,h0⟩,?_⟩
 rintro i m σ H ⟨rfl,hi,r⟩
 by_cases hlt:i < x.length
 ·refine .inr ⟨hlt,Pv (i + 1),fun σ' H' r=>⟨x.length - (i + 1),by omega,rfl,hlt,r⟩,fun v H' y=>?_⟩
  obtain ⟨rfl,rfl⟩:=y
  exact hs i σ _ hlt r
 ·have e:i=x.length:=by omega
  subst e
  exact .inl ⟨Nat.le_refl _,hd σ H r⟩
theorem qF3 {a:Addr}{xs:List V}(Pv:Nat->St->Hp->Prop) (h0:Pv 0 σ0 H0) (hl:∀ i σ H,i<=xs.length->Pv i σ H->SqL K H a xs) (hs:∀ i x σ H,xs[i]? = some x->Pv i σ H->z89 g tt tb (Pv (i + 1)) x σ H) (hd:∀ σ H,Pv xs.length σ H->Q σ H) :
  qD8 (Itl K a) g tt tb σ0 H0 Q:=by
 refine ⟨fun i m σ H=>m=xs.length - i/\i<=xs.length/\Pv i σ H,⟨xs.length,by simp,Nat.zero_le _,h0⟩,?_⟩
 rintro i m σ H ⟨rfl,hi,r⟩
 have q:=hl i σ H hi r
 by_cases hlt:i < xs.length
 ·refine .inr ⟨⟨xs,xs[i],q,by simp [hlt]⟩,Pv (i + 1),fun σ' H' p'=>⟨xs.length - (i + 1),by omega,rfl,hlt,p'⟩,fun x H' y=>?_⟩
  obtain ⟨e,y⟩:=y
  subst e
  exact hs i x σ _ (y xs q) r
 ·have e:i=xs.length:=by omega
  subst e
  exact .inl ⟨⟨xs,q,Nat.le_refl _⟩,hd σ H r⟩
end
end L2
namespace L2
open PySem PySem.Spec PyProof.Rows
theorem qu0 (ns:List Int):∀ n,n<=ns.length->preSum (fun i=>ns.getD i 0) n=(ns.take n).sum
 | 0,_=>by simp [preSum]
 | n + 1,h=>by
  have ih:=qu0 ns n (by omega)
  show preSum (fun i=>ns.getD i 0) n + ns.getD n 0=_
  rw [ih,List.take_add_one,List.sum_append,List.getElem?_eq_getElem (by omega)]
  simp [List.getD_eq_getElem?_getD,List.getElem?_eq_getElem (show n < ns.length by omega)]
section
variable {X:Cx}{o:Expr}{td:TE}{p apos cpos pos:Pos}
end
end L2
namespace L2
open PySem PySem.W
def ch (x:Str) (i:Nat):Nat:=x.cps.getD i 0
structure Row (n:Nat) (x:Str):Prop where
 len:x.length=n
 bin:∀ i,i < n->ch x i=121∨ch x i=110
theorem qt4 {n:Nat}{x:Str}(h:Row n x) {i:Nat}(hi:i < n):atI x.cps.toList (i:Int)=some (ch x i):=by
 refine q46 ?_
 have hs:i < x.cps.size:=Nat.lt_of_lt_of_eq hi h.len.symm
 show x.cps.toList[i]? = some (x.cps.getD i 0)
 simp [Array.getD_eq_getD_getElem?,hs]
theorem tx_row {n:Nat}{c:Nat->Nat}(h:∀ i,c i=121∨c i=110):Row n (tx n c):=by
 have e:∀ i,i < n->ch (tx n c) i=c i:=fun i hi=>by
  have:=z00 (c:=c) hi
  unfold ch tx
  simp [Array.getD_eq_getD_getElem?,hi]
 exact ⟨q60 n c,fun i hi=>by rw [e i hi]; exact h i⟩
def fK (p:Str×Int):Key×V:=(.inr p.1,.int p.2)
theorem inr_eq {a b:Str}:((Sum.inr a:Key)=.inr b)↔a=b:=⟨fun h=>by injection h,fun h=>by rw [h]⟩
theorem zc3 (x:Str):∀ c:List (Str×Int),((c.map fK).any fun kv=>decide (kv.1=(Sum.inr x:Key)))=kprHas c x
 | []=>rfl
 | p :: r=>by
  rw [List.map_cons,List.any_cons,zc3 x r,kpr_has_cons]
  congr 1
  exact decide_eq_decide.mpr inr_eq
theorem qv3 (x:Str):∀ c:List (Str×Int),qg5 (c.map fK) (.inr x)=if kprHas c x=true then some (.int (kprLook c x 0)) else none
 | []=>rfl
 | p :: r=>by
  rw [List.map_cons]
  by_cases e:p.1=x
  ·rw [q69 (p:=fK p) (inr_eq.mpr e),kpr_has_cons,decide_eq_true e,Bool.true_or,if_pos rfl,kpr_look_cons,if_pos e]
   rfl
  ·rw [q70 (p:=fK p) (fun z=>e (inr_eq.mp z)),qv3 x r,kpr_has_cons,decide_eq_false e,Bool.false_or,kpr_look_cons,if_neg e]
theorem qw3 (c:List (Str×Int)) (x:Str) (v:Int):qn6 (c.map fK) (.inr x) (.int v)=(kprPut c x v).map fK:=by
 unfold qn6
 rw [zc3]
 by_cases h:kprHas c x=true
 ·rw [if_pos h,kpr_put_old h,List.map_map,List.map_map]
  refine List.map_congr_left fun p _=>?_
  show (if (Sum.inr p.1:Key)=.inr x then ((Sum.inr p.1:Key),V.int v) else fK p)=fK (kprSet x v p)
  by_cases e:p.1=x
  ·rw [if_pos (inr_eq.mpr e),kprSet_yes e]; rfl
  ·rw [if_neg (fun z=>e (inr_eq.mp z)),kprSet_no e]
 ·rw [if_neg h,kpr_put_new (by simpa using h),List.map_append]
  rfl
theorem qK1 (x:Str):∀ c:List (Str×Int),qF8 (c.map fK) (.inr x)=(kprDel c x).map fK
 | []=>rfl
 | p :: r=>by
  have ih:=qK1 x r
  unfold qF8 at ih ⊢
  rw [List.map_cons,List.filter_cons,kpr_del_cons]
  by_cases e:p.1=x
  ·rw [if_neg (by simp [fK,e]),if_pos e]; exact ih
  ·rw [if_pos (by simp [fK,e]),if_neg e,List.map_cons,ih]
theorem qP0 (k:Str):∀{c:List (Str×Int)},(c.map (·.1)).Nodup->kprSum (kprDel c k)=kprSum c - kprLook c k 0
 | [],_=>rfl
 | p :: r,h=>by
  rw [List.map_cons,List.nodup_cons] at h
  have ih:=qP0 k h.2
  rw [kpr_del_cons,kpr_look_cons,kpr_sum_cons]
  by_cases e:p.1=k
  ·rw [if_pos e,if_pos e]
   have hn:kprHas r k=false:=kpr_has_false.mpr (by rw [<- e]; exact h.1)
   rw [kpr_del_none hn]
   omega
  ·rw [if_neg e,if_neg e,kpr_sum_cons,ih]
   omega
structure Kept (rs:List Str) (c:List (Str×Int)):Prop where
 nd:(c.map (·.1)).Nodup
 look:∀ x,kprLook c x 0=(rs.count x:Nat)
 pos:∀ p∈c,0 < p.2
 sum:kprSum c=(rs.length:Nat)
theorem Kept.nil:Kept [] []:=⟨List.nodup_nil,fun _=>rfl,fun _ h=>(by cases h),rfl⟩
theorem qJ3:∀{c:List (Str×Int)}{x:Str},kprHas c x=true->∃ p∈c,p.1=x/\kprLook c x 0=p.2
 | [],_,h=>by cases h
 | p :: r,x,h=>by
  rw [kpr_look_cons]
  by_cases e:p.1=x
  ·exact ⟨p,List.mem_cons_self,e,if_pos e⟩
  ·rw [kpr_has_cons,decide_eq_false e,Bool.false_or] at h
   obtain ⟨q,hq,e1,e2⟩:=qJ3 h
   exact ⟨q,List.mem_cons_of_mem _ hq,e1,by rw [if_neg e]; exact e2⟩
theorem Kept.has {rs:List Str}{c:List (Str×Int)}(h:Kept rs c) (x:Str):kprHas c x=true↔x∈rs:=by
 have l:=h.look x
 constructor
 ·intro y
  obtain ⟨p,hp,_,e2⟩:=qJ3 y
  have:=h.pos p hp
  exact List.count_pos_iff.mp (by omega)
 ·intro y
  cases z:kprHas c x with
  | true=>rfl
  | false =>
   rw [kpr_look_none z 0] at l
   have:=List.count_pos_iff.mpr y
   omega
theorem qS0 {c:List (Str×Int)}{x:Str}{v:Int}(h:∀ p∈c,0 < p.2) (hv:0 < v):∀ p∈kprPut c x v,0 < p.2:=by
 intro p hp
 cases z:kprHas c x with
 | true =>
  rw [kpr_put_old z] at hp
  obtain ⟨q,hq,rfl⟩:=List.mem_map.mp hp
  by_cases e:q.1=x
  ·rw [kprSet_yes e]; exact hv
  ·rw [kprSet_no e]; exact h q hq
 | false =>
  rw [kpr_put_new z] at hp
  rcases List.mem_append.mp hp with hp | hp
  ·exact h p hp
  ·rw [List.mem_singleton.mp hp]; exact hv
theorem Kept.add {rs:List Str}{c:List (Str×Int)}(h:Kept rs c) (x:Str):Kept (x :: rs) (kprPut c x (kprLook c x 0 + 1)):=by
 have l:=h.look x
 refine ⟨kpr_nodup h.nd _ _,fun y=>?_,qS0 h.pos (by omega),?_⟩
 ·rw [kpr_look_put,List.count_cons]
  by_cases e:y=x
  ·subst e
   rw [if_pos rfl,l]
   simp
  ·rw [if_neg e,h.look y]
   have:(x == y)=false:=by simpa using fun z=>e z.symm
   simp [this]
 ·rw [kpr_sum_put h.nd,h.sum,List.length_cons]
  omega
theorem Kept.perm {rs rs':List Str}{c:List (Str×Int)}(h:Kept rs c) (p:rs.Perm rs'):Kept rs' c :=
 ⟨h.nd,fun x=>by rw [h.look x,p.count_eq],h.pos,by rw [h.sum,p.length_eq]⟩
theorem Kept.less {rs:List Str}{c:List (Str×Int)}{x:Str}(h:Kept (x :: rs) c) (ne:¬ kprLook c x 0 - 1=0):Kept rs (kprPut c x (kprLook c x 0 - 1)):=by
 have l:=h.look x
 rw [List.count_cons_self] at l
 refine ⟨kpr_nodup h.nd _ _,fun y=>?_,qS0 h.pos (by omega),?_⟩
 ·rw [kpr_look_put]
  by_cases e:y=x
  ·subst e
   rw [if_pos rfl,l]
   omega
  ·rw [if_neg e,h.look y,List.count_cons]
   have:(x == y)=false:=by simpa using fun z=>e z.symm
   simp [this]
 ·have:=h.sum
  rw [List.length_cons] at this
  rw [kpr_sum_put h.nd,this]
  omega
theorem Kept.gone {rs:List Str}{c:List (Str×Int)}{x:Str}(h:Kept (x :: rs) c) (ne:kprLook c x 0 - 1=0):Kept rs (kprDel (kprPut c x (kprLook c x 0 - 1)) x):=by
 have l:=h.look x
 rw [List.count_cons_self] at l
 have nd:=kpr_nodup h.nd x (kprLook c x 0 - 1)
 refine ⟨kpr_del_nodup nd _,fun y=>?_,fun p hp=>?_,?_⟩
 ·rw [kpr_del_look,kpr_look_put]
  by_cases e:y=x
  ·subst e
   rw [if_pos rfl]
   omega
  ·rw [if_neg e,if_neg e,h.look y,List.count_cons]
   have:(x == y)=false:=by simpa using fun z=>e z.symm
   simp [this]
 ·unfold kprDel at hp
  obtain ⟨hp,e⟩:=List.mem_filter.mp hp
  have e:¬ p.1=x:=by simpa using e
  cases z:kprHas c x with
  | true =>
   rw [kpr_put_old z] at hp
   obtain ⟨q,hq,rfl⟩:=List.mem_map.mp hp
   rw [kprSet_key] at e
   rw [kprSet_no e]
   exact h.pos q hq
  | false =>
   rw [kpr_put_new z] at hp
   rcases List.mem_append.mp hp with hp | hp
   ·exact h.pos p hp
   ·rw [List.mem_singleton.mp hp] at e; exact absurd rfl e
 ·have:=h.sum
  rw [List.length_cons] at this
  rw [qP0 x nd,kpr_look_put,if_pos rfl,kpr_sum_put h.nd,this]
  omega
def q65 (rs:List Str) (q a r b:Nat):Nat:=rs.countP fun x=>decide (ch x q=a/\ch x r=b)
def bk (q a r b:Nat):List Key:=[.inl q,.inr ⟨#[a]⟩,.inl r,.inr ⟨#[b]⟩]
theorem bk_eq {q a r b q' a' r' b':Nat}:bk q a r b=bk q' a' r' b'↔q=q'/\a=a'/\r=r'/\b=b':=by
 constructor
 ·intro h
  injection h with h1 h
  injection h with h2 h
  injection h with h3 h
  injection h with h4 h
  injection h1 with h1
  injection h2 with h2
  injection h3 with h3
  injection h4 with h4
  have e2:a=a':=by injection h2 with h2; simpa using h2
  have e4:b=b':=by injection h4 with h4; simpa using h4
  exact ⟨by omega,e2,by omega,e4⟩
 ·rintro ⟨rfl,rfl,rfl,rfl⟩
  rfl
def Both (n:Nat) (f:Nat->Nat->Nat->Nat->Int) (bvs:List (List Key×V)):Prop:=∀ q a r b,q < n->r < n->(qg5 bvs (bk q a r b)).getD (.int 0)=.int (f q a r b)
theorem Both.nil {n:Nat}:Both n (fun _ _ _ _=>0) []:=fun _ _ _ _ _ _=>rfl
theorem Both.congr {n:Nat}{f g:Nat->Nat->Nat->Nat->Int}{bvs:List (List Key×V)}(h:Both n f bvs) (e:∀ q a r b,q < n->r < n->f q a r b=g q a r b):Both n g bvs:=fun q a r b hq hr=>by rw [h q a r b hq hr,e q a r b hq hr]
def tlF (f:Nat->Nat->Nat->Nat->Int) (x:Str) (by':Int) (i j:Nat) (q a r b:Nat):Int:=f q a r b + if (q < i∨(q=i/\r < j))/\ch x q=a/\ch x r=b then by' else 0
theorem Both.step {n:Nat}{f:Nat->Nat->Nat->Nat->Int}{x:Str}{d:Int}{i j:Nat}{bvs:List (List Key×V)}(h:Both n (tlF f x d i j) bvs) (hi:i < n) (hj:j < n) :
  ∃ v:Int,(qg5 bvs (bk i (ch x i) j (ch x j))).getD (.int 0)=.int v/\Both n (tlF f x d i (j + 1)) (qn6 bvs (bk i (ch x i) j (ch x j)) (.int (v + d))):=by
 refine ⟨_,h i (ch x i) j (ch x j) hi hj,fun q a r b hq hr=>?_⟩
 rw [qZ8]
 by_cases e:bk q a r b=bk i (ch x i) j (ch x j)
 ·rw [if_pos e]
  obtain ⟨rfl,rfl,rfl,rfl⟩:=bk_eq.mp e
  show V.int _=_
  congr 1
  unfold tlF
  rw [if_neg (by omega),if_pos ⟨.inr ⟨rfl,by omega⟩,rfl,rfl⟩]
  omega
 ·rw [if_neg e,h q a r b hq hr]
  congr 1
  unfold tlF
  congr 1
  have:((q < i∨q=i/\r < j)/\ch x q=a/\ch x r=b)↔((q < i∨q=i/\r < j + 1)/\ch x q=a/\ch x r=b):=by
   constructor
   ·rintro ⟨z,e1,e2⟩
    exact ⟨by omega,e1,e2⟩
   ·rintro ⟨z,e1,e2⟩
    refine ⟨?_,e1,e2⟩
    rcases z with z | ⟨z1,z2⟩
    ·exact .inl z
    ·by_cases e3:r=j
     ·exfalso
      subst z1 e3
      exact e (bk_eq.mpr ⟨rfl,e1.symm,rfl,e2.symm⟩)
     ·exact .inr ⟨z1,by omega⟩
  by_cases p:(q < i∨q=i/\r < j)/\ch x q=a/\ch x r=b
  ·rw [if_pos p,if_pos (this.mp p)]
  ·rw [if_neg p,if_neg (fun z=>p (this.mpr z))]
theorem Both.turn {n:Nat}{f:Nat->Nat->Nat->Nat->Int}{x:Str}{d:Int}{i:Nat}{bvs:List (List Key×V)}(h:Both n (tlF f x d i n) bvs):Both n (tlF f x d (i + 1) 0) bvs :=
 h.congr fun q a r b hq hr=>by
  unfold tlF
  congr 1
  by_cases p:(q < i∨q=i/\r < n)/\ch x q=a/\ch x r=b
  ·rw [if_pos p,if_pos ⟨by omega,p.2⟩]
  ·rw [if_neg p,if_neg (fun z=>p ⟨by omega,z.2⟩)]
theorem Both.start {n:Nat}{f:Nat->Nat->Nat->Nat->Int}{x:Str}{d:Int}{bvs:List (List Key×V)}(h:Both n f bvs):Both n (tlF f x d 0 0) bvs :=
 h.congr fun q a r b hq hr=>by unfold tlF; rw [if_neg (by omega)]; omega
def qN6 (rs:List Str) (q a r b:Nat):Int:=(q65 rs q a r b:Nat)
theorem qC7 (x:Str) (rs:List Str) (q a r b:Nat):q65 (x :: rs) q a r b=q65 rs q a r b + if ch x q=a/\ch x r=b then 1 else 0:=by
 unfold q65
 rw [List.countP_cons]
 by_cases h:ch x q=a/\ch x r=b <;> simp [h]
theorem Both.add {n:Nat}{rs:List Str}{x:Str}{bvs:List (List Key×V)}(h:Both n (tlF (qN6 rs) x 1 n 0) bvs):Both n (qN6 (x :: rs)) bvs :=
 h.congr fun q a r b hq hr=>by
  unfold tlF qN6
  rw [qC7]
  by_cases p:ch x q=a/\ch x r=b
  ·rw [if_pos ⟨.inl hq,p⟩,if_pos p]; omega
  ·rw [if_neg (fun z=>p z.2),if_neg p]; omega
theorem Both.take {n:Nat}{rs:List Str}{x:Str}{bvs:List (List Key×V)}(h:Both n (tlF (qN6 (x :: rs)) x (-1) n 0) bvs):Both n (qN6 rs) bvs :=
 h.congr fun q a r b hq hr=>by
  unfold tlF qN6
  rw [qC7]
  by_cases p:ch x q=a/\ch x r=b
  ·rw [if_pos p,if_pos ⟨.inl hq,p⟩]; omega
  ·rw [if_neg p,if_neg (fun z=>p z.2)]; omega
theorem Both.perm {n:Nat}{rs rs':List Str}{bvs:List (List Key×V)}(h:Both n (qN6 rs) bvs) (p:rs.Perm rs'):Both n (qN6 rs') bvs :=
 h.congr fun q a r b _ _=>by unfold qN6 q65; rw [p.countP_eq]
end L2
namespace K67
open PySem L2
abbrev q80:Stmt:=top 16
abbrev qd1:Stmt:=top 17
abbrev qf4:Stmt:=top 18
abbrev qq8:Stmt:=top 19
abbrev qf5:Stmt:=top 20
abbrev qc7:Stmt:=top 23
abbrev qh5:Stmt:=top 25
structure Gm (mg:Str->Option Value):Prop where
 enum:mg "enumerate" = none
 sum:mg "sum" = none
 sorted:mg "sorted" = none
 dict:mg "dict" = none
 most:∃ t,mg "MOST_QUESTIONS" = some (.int 12 t)
 signs:∃ t,mg "SIGNS" = some (.str "ny" t)
def qY9 (a:Nat):Prop:=a=121∨a=110
section
variable {P:Program}{w:World}{K:PySem.W.Frag}{mg:Str->Option Value}{base:Heap}
def z07:Sp:=fun vs H Q _=>∃ n:Nat,vs=[.int n]/\1<=n/\n<=12/\Q .non H
theorem qR8:FnScope ["questions"] ["questions"] (q02 q80):=⟨rfl,rfl,rfl,by decide +kernel,rfl,by decide +kernel,by decide +kernel⟩
theorem qk1 {f:Addr}{fd:FuncData}(D:Df K mg "check_count" q80 ["questions"] f fd) (M:Gm mg):FnOk P w K mg base (CXE P w) 1 f fd ["questions"] z07:=by
 refine D.F.okN qR8 (fun vs H Q E h=>?_) (fun cdv A outer s H vs Q E hr h=>?_)
 ·obtain ⟨n,rfl,_⟩:=h
  rfl
 ·obtain ⟨n,rfl,n1,n12,q⟩:=h
  obtain ⟨t,mQ⟩:=M.most
  refine ⟨_,q05 (q30 (PW.pt (qw2 (q10 qn7 (pv 0) q06 (q13 _)) (qj8 (q10 qT2 (pv 0) (ql8 (v:=.int 12) (by rfl) mQ ⟨t,rfl⟩) (q13 _))))) (q05 qg9) q16),?_⟩
  refine ⟨_,rfl,_,_,rfl,rfl,_,rfl,q77 (fun c=>?_) (fun _=>?_)⟩
  ·have c:(n:Int) < 1:=of_decide_eq_true c
   omega
  ·refine ⟨_,rfl,_,_,rfl,rfl,_,rfl,q77 (fun c=>?_) (fun _=>q)⟩
   have c:(12:Int) < n:=of_decide_eq_true c
   omega
def z06:Sp:=fun vs H Q _=>∃ q n:Nat,vs=[.int q,.int n]/\q < n/\Q .non H
abbrev Pcq:List Str:=["question", "questions"]
theorem qR7:FnScope Pcq Pcq (q02 qd1):=⟨rfl,rfl,rfl,by decide +kernel,rfl,by decide +kernel,by decide +kernel⟩
theorem qB4 {f:Addr}{fd:FuncData}(D:Df K mg "check_question" qd1 Pcq f fd):FnOk P w K mg base (CXE P w) 1 f fd Pcq z06:=by
 refine D.F.okN qR7 (fun vs H Q E h=>?_) (fun cdv A outer s H vs Q E hr h=>?_)
 ·obtain ⟨q,n,rfl,_⟩:=h
  rfl
 ·obtain ⟨q,n,rfl,hq,k⟩:=h
  refine ⟨_,q05 (q30 (PW.pt (qw2 (q10 qn7 (pv 0) q06 (q13 _)) (qj8 (q10 op_ge (pv 0) (pv 1) (q13 _))))) (q05 qg9) q16),?_⟩
  refine ⟨_,rfl,_,_,rfl,rfl,_,rfl,q77 (fun c=>?_) (fun _=>?_)⟩
  ·have c:(q:Int) < 0:=of_decide_eq_true c
   omega
  ·refine ⟨_,rfl,_,rfl,_,_,rfl,rfl,_,rfl,q77 (fun c=>?_) (fun _=>k)⟩
   have c:(n:Int)<=q:=of_decide_eq_true c
   omega
def spCsign:Sp:=fun vs H Q _=>∃ a:Nat,vs=[s1 a]/\qY9 a/\Q .non H
theorem z24:FnScope ["sign"] ["sign"] (q02 qf4):=⟨rfl,rfl,rfl,by decide +kernel,rfl,by decide +kernel,by decide +kernel⟩
theorem qx1 {f:Addr}{fd:FuncData}(D:Df K mg "check_sign" qf4 ["sign"] f fd):FnOk P w K mg base (CXE P w) 1 f fd ["sign"] spCsign:=by
 refine D.F.okN z24 (fun vs H Q E h=>?_) (fun cdv A outer s H vs Q E hr h=>?_)
 ·obtain ⟨a,rfl,_⟩:=h
  rfl
 ·obtain ⟨a,rfl,ha,k⟩:=h
  refine ⟨_,q05 (q30 (PW.pt (qe0 (q10 qr2 (pv 0) q20 (q13 _)) (qa6 (q10 qr2 (pv 0) q20 (q13 _))))) (q05 qg9) q16),?_⟩
  refine ⟨_,rfl,rfl,_,rfl,q77 (fun c=>?_) (fun _=>q31 k)⟩
  refine ⟨_,rfl,rfl,_,rfl,q77 (fun c2=>?_) (fun _=>k)⟩
  have c:(!decide (s1 a=s1 121))=true:=c
  have c2:(!decide (s1 a=s1 110))=true:=c2
  rw [q68] at c c2
  rcases ha with e | e
  ·rw [e] at c; exact absurd c (by decide)
  ·rw [e] at c2; exact absurd c2 (by decide)
def z99:Sp:=fun vs H Q _=>∃ q a r b n:Nat,vs=[.int q,s1 a,.int r,s1 b,.int n]/\q < n/\r < n/\qY9 a/\qY9 b/\Q .non H
abbrev Pca:List Str:=["q", "a", "r", "b", "questions"]
theorem sc_cans:FnScope Pca Pca (q02 qq8):=⟨rfl,rfl,rfl,by decide +kernel,rfl,by decide +kernel,by decide +kernel⟩
theorem q44 {f fq fs:Addr}{fd gq gs:FuncData}(D:Df K mg "check_answers" qq8 Pca f fd) (Dq:Df K mg "check_question" qd1 Pcq fq gq) (Ds:Df K mg "check_sign" qf4 ["sign"] fs gs):FnOk P w K mg base (CXE P w) 2 f fd Pca z99:=by
 refine D.F.okN sc_cans (fun vs H Q E h=>?_) (fun cdv A outer s H vs Q E hr h=>?_)
 ·obtain ⟨q,a,r,b,n,rfl,_⟩:=h
  rfl
 ·obtain ⟨q,a,r,b,n,rfl,hq,hr',ha,hb,k⟩:=h
  refine ⟨_,q04 (q18 (q14 Dq (qB4 Dq) hr q17 (q00 (pv 0) (q00 (pv 4) q03))))
   (q04 (q18 (q14 Dq (qB4 Dq) hr q17 (q00 (pv 2) (q00 (pv 4) q03))))
   (q04 (q18 (q14 Ds (qx1 Ds) hr q17 (q00 (pv 1) q03)))
   (q05 (q18 (q14 Ds (qx1 Ds) hr q17 (q00 (pv 3) q03)))))),?_⟩
  exact ⟨_,rfl,_,rfl,q,n,rfl,hq,_,rfl,_,rfl,r,n,rfl,hr',_,rfl,a,rfl,ha,_,rfl,b,rfl,hb,k⟩
def spOnly:Sp:=fun vs H Q _=>∃(x g:Str) (n:Nat),vs=[.str x,.str g]/\x.length=n/\(∀ i,i < n->ch x i∈g.cps.toList)/\n<=100/\∀ H',Same H H'->Q (.bl true) H'
abbrev Pon:List Str:=["text", "signs"]
theorem qR3:FnScope Pon Pon (q02 qh5):=⟨rfl,rfl,rfl,by decide +kernel,rfl,by decide +kernel,by decide +kernel⟩
theorem nd_on:(["sign", "signs"]:List Str).Nodup:=by decide +kernel
theorem in_sg {g:Str}{a:Nat}(h:a∈g.cps.toList):(!(Builtin.Str.occurrences g ⟨#[a]⟩ 0 g.length 1).isEmpty)=true:=by
 rw [PySem.StrLaws.found_one]
 exact decide_eq_true h
theorem ny_in {a:Nat}(h:qY9 a):a∈("ny" : Str).cps.toList:=by
 rcases h with rfl | rfl <;> decide +kernel
theorem ok_only {f:Addr}{fd:FuncData}(D:Df K mg "only_of" qh5 Pon f fd) (B:Bt mg):FnOk P w K mg base (CXE P w) 1 f fd Pon spOnly:=by
 refine D.F.okN qR3 (fun vs H Q E h=>?_) (fun cdv A outer s H vs Q E hr h=>?_)
 ·obtain ⟨x,g,n,rfl,_⟩:=h
  rfl
 ·obtain ⟨x,g,n,rfl,hl,hx,hn,k⟩:=h
  refine ⟨_,q05 (q12 (q15 (ql1 rfl) (by rfl) B.all (by rfl) (q00
   (q29 (N':=["sign", "signs"]) (fm:=[none,some 1]) rfl ⟨rfl,by decide +kernel,by decide +kernel,rfl,rfl,rfl⟩
    (qI0 (pv 0)) (fun _ _ _ _=>q11 (i:=0) nd_on rfl (Or.inl rfl)) (fun _ _ _ _=>q42)
    (fun _ _ _ _=>q50 qB2 (pv 0) (pv 1) (by rfl))) q03))),?_⟩
  refine ⟨_,rfl,_,rfl,fun p hp=>?_⟩
  refine qG4 (fun i σ H2=>∃ u,σ=[u,some (.str g)]/\Same H H2/\H2 p=some (.lst ((List.range i).map fun _=>V.bl true))) ⟨none,rfl,Same.new hp,q01⟩ ?_ ?_
  ·rintro i σ H2 hi ⟨u,rfl,s2,e2⟩
   rw [hl] at hi
   refine q53 ⟨_,rfl,_,rfl,_,_,rfl,rfl,_,e2,q41 _ _ (by omega),_,rfl,Same.grow hp s2,?_⟩
   rw [q01,<- q90]
   have e:=in_sg (hx i hi)
   show some (HO.lst (_ ++ [V.bl _]))=_
   rw [show (!(Builtin.Str.occurrences g ⟨#[x.cps.getD i 0]⟩ 0 g.length 1).isEmpty)=true from e]
  ·rintro σ H2 ⟨u,rfl,s2,e2⟩
   rw [zb3] at e2
   refine ⟨p,_,rfl,SqL.of e2,?_⟩
   have e:(((List.range x.length).map fun _=>true).all id)=true:=by simp
   rw [e]
   exact k H2 s2
def qQ0:Sp:=fun vs H Q _=>∃(x:Str) (n:Nat),vs=[.str x,.int n]/\Row n x/\1<=n/\n<=12/\∀ H',Same H H'->Q (.bl true) H'
abbrev Pir:List Str:=["row", "questions"]
theorem qH6:FnScope Pir Pir (q02 qc7):=⟨rfl,rfl,rfl,by decide +kernel,rfl,by decide +kernel,by decide +kernel⟩
theorem qI5 {f fc fo:Addr}{fd gc go:FuncData}(D:Df K mg "is_row" qc7 Pir f fd) (Dc:Df K mg "check_count" q80 ["questions"] fc gc) (Do:Df K mg "only_of" qh5 Pon fo go) (B:Bt mg) (M:Gm mg):FnOk P w K mg base (CXE P w) 2 f fd Pir qQ0:=by
 refine D.F.okN qH6 (fun vs H Q E h=>?_) (fun cdv A outer s H vs Q E hr h=>?_)
 ·obtain ⟨x,n,rfl,_⟩:=h
  rfl
 ·obtain ⟨x,n,rfl,hx,n1,n12,k⟩:=h
  obtain ⟨t,mS⟩:=M.signs
  refine ⟨_,q04 (q18 (q14 Dc (qk1 Dc M) hr q17 (q00 (pv 1) q03)))
   (q05 (q12 (qh7 (q50 q37 (q15 q49 (by rfl) B.len PySem.boot_len (q00 (pv 0) q03)) (pv 1) (q13 _))
    (qn3 (q14 Do (ok_only Do B) hr q17 (q00 (pv 0) (q00 (ql8 (v:=.str "ny") (by rfl) mS ⟨t,rfl⟩) q03))))))),?_⟩
  refine ⟨_,rfl,n,rfl,n1,n12,_,rfl,_,rfl,?_,_,rfl,rfl,_,rfl,q77 (fun _=>?_) (fun c=>?_)⟩
  ·rw [hx.len]; exact q22 (show n<=100 by omega)
  ·exact ⟨_,rfl,x, "ny",n,rfl,hx.len,fun i hi=>ny_in (hx.bin i hi),by omega,k⟩
  ·exact absurd (decide_eq_true (by rw [hx.len])) c
def qQ3:Sp:=fun vs H Q _=>∃(x:Str) (n:Nat),vs=[.str x,.int n]/\Row n x/\1<=n/\n<=12/\∀ H',Same H H'->Q .non H'
theorem qR6:FnScope Pir Pir (q02 qf5):=⟨rfl,rfl,rfl,by decide +kernel,rfl,by decide +kernel,by decide +kernel⟩
theorem qU3 {f fi:Addr}{fd gi:FuncData}(D:Df K mg "check_row" qf5 Pir f fd) (Di:Df K mg "is_row" qc7 Pir fi gi) (Gi:FnOk P w K mg base (CXE P w) 2 fi gi Pir qQ0):FnOk P w K mg base (CXE P w) 3 f fd Pir qQ3:=by
 refine D.F.okN qR6 (fun vs H Q E h=>?_) (fun cdv A outer s H vs Q E hr h=>?_)
 ·obtain ⟨x,n,rfl,_⟩:=h
  rfl
 ·obtain ⟨x,n,rfl,hx,n1,n12,k⟩:=h
  refine ⟨_,q05 (q30 (qa7 (q61 (q14 Di Gi hr q17 (q00 (pv 0) (q00 (pv 1) q03))))) (q05 qg9) q16),?_⟩
  exact ⟨_,rfl,_,rfl,x,n,rfl,hx,n1,n12,fun H' s'=>⟨_,rfl,q31 (k H' s')⟩⟩
end
end K67
namespace K67
open PySem L2 PySem.W
open PyProof.Rows (envOfC)
abbrev qt8:Stmt:=q88 (top 59) 0
abbrev qE7:Stmt:=q88 (top 59) 1
abbrev qh4:Stmt:=q88 (top 59) 2
abbrev qi0:Stmt:=q88 (top 59) 3
abbrev qA6:Stmt:=q88 (top 59) 4
abbrev qc2:Stmt:=q88 (top 59) 6
structure Tb (K:PySem.W.Frag) (mg:Str->Option Value) (C fi fa ft fy fm fc:Addr) (gi ga gt gy gm gc:FuncData):Prop where
 mC:mg "Table" = some (.ref C)
 cl:Cls K C
 mkC:Mk K C fi
 nQ:NoAttr K C "questions"
 nK:NoAttr K C "kept"
 nB:NoAttr K C "both"
 ma:Meth K C "add" fa
 mt:Meth K C "take" ft
 my:Meth K C "tally" fy
 mm:Meth K C "many" fm
 mc:Meth K C "count" fc
 Fi:Fun K "__init__" "Table.__init__" qt8 fi gi
 Fa:Fun K "add" "Table.add" qE7 fa ga
 Ft:Fun K "take" "Table.take" qh4 ft gt
 Fy:Fun K "tally" "Table.tally" qi0 fy gy
 Fm:Fun K "many" "Table.many" qA6 fm gm
 Fc:Fun K "count" "Table.count" qc2 fc gc
 bi:Binds K gi ["self", "questions"] []
 ba:Binds K ga ["self", "row"] []
 bt:Binds K gt ["self", "row"] []
 by':Binds K gy ["self", "row", "by"] []
 bm:Binds K gm ["self"] []
 bc:Binds K gc ["self", "q", "a", "r", "b"] []
def tfs (n:Nat) (kp bt:Addr):List (Str×V):=[("questions",.int n),("kept",.ref kp),("both",.ref bt)]
structure TabAt (C:Addr) (H:Hp) (t dx kp bt:Addr) (n m:Nat) (rs:List Str):Prop where
 ins:H t=some (.ins C dx (tfs n kp bt))
 ex:∃ c bvs,H kp=some (.dK (c.map fK))/\H bt=some (.dT bvs)/\Kept rs c/\Both n (qN6 rs) bvs/\c.length<=m/\bvs.length<=144 * m
def Keep2 (kp bt:Addr) (H H':Hp):Prop:=∀ b o,b≠kp->b≠bt->H b=some o->H' b=some o
def qZ2 (bt:Addr) (H H':Hp):Prop:=∀ b o,b≠bt->H b=some o->H' b=some o
section
variable {P:Program}{w:World}{K:PySem.W.Frag}{mg:Str->Option Value}{base:Heap}{C fi fa ft fy fm fc:Addr}{gi ga gt gy gm gc:FuncData}
def spTally (C:Addr):Sp:=fun vs H Q _=>∃(t dx kp bt:Addr) (n:Nat) (x:Str) (d:Int) (f:Nat->Nat->Nat->Nat->Int) (bvs:List (List Key×V)),vs=[.ref t,.str x,.int d]/\H t=some (.ins C dx (tfs n kp bt))/\H bt=some (.dT bvs) /\
 Both n f bvs/\bvs.length<=200000/\Row n x/\n<=12/\∀ H' bvs',H' bt=some (.dT bvs')->Both n (tlF f x d n 0) bvs'->bvs'.length<=bvs.length + 144->qZ2 bt H H'->Q .non H'
abbrev Nt:List Str:=["self", "row", "by", "q", "a", "r", "b", "pair"]
theorem sc_tally:FnScope Nt ["self", "row", "by"] (q02 qi0):=⟨rfl,rfl,rfl,by decide +kernel,rfl,by decide +kernel,by decide +kernel⟩
theorem qI2 (T:Tb K mg C fi fa ft fy fm fc gi ga gt gy gm gc) (M:Gm mg):FnOk P w K mg base (CXE P w) 1 fy gy ["self", "row", "by"] (spTally C):=by
 refine T.Fy.okN sc_tally (fun vs H Q E h=>?_) (fun cdv A outer s H vs Q E hr h=>?_)
 ·obtain ⟨t,dx,kp,bt,n,x,d,f,bvs,rfl,_⟩:=h
  rfl
 ·obtain ⟨t,dx,kp,bt,n,x,d,f,bvs,rfl,ht,hb,hB,hl,hx,n12,k⟩:=h
  have hu:(A.deeper (envOfC "Table.tally" (q02 qi0) s.heap.objs.size fy cdv)).units + 1 < cLine:=by have:=hr.units; omega
  refine ⟨_,q05 (q91 PassesOwn.never rfl (ql7 (by rfl) M.enum (q00 (pv 1) q03)) (qa8 rfl (q23 (q11 (i:=3) sc_tally.nd rfl (Or.inl rfl)) (q23 (q11 (i:=4) sc_tally.nd rfl (Or.inl rfl)) q72)))
   (q05 (q91 PassesOwn.never rfl (ql7 (by rfl) M.enum (q00 (pv 1) q03)) (qa8 rfl (q23 (q11 (i:=5) sc_tally.nd rfl (Or.inl rfl)) (q23 (q11 (i:=6) sc_tally.nd rfl (Or.inl rfl)) q72)))
    (q04 (q21 (i:=7) sc_tally.nd rfl (Or.inl rfl) (q84 (q00 (pv 3) (q00 (pv 4) (q00 (pv 5) (q00 (pv 6) q03))))))
    (q05 (qS4 hu (q82 (pv 0) rfl) (pv 7) (q24 q47 (qw6 hu (q82 (pv 0) rfl) (pv 7) q06 ⟨rfl,rfl,rfl,rfl⟩) (pv 2)) rfl)))))),?_⟩
  have keep:∀{H2:Hp} {T:Addr} {o:HO},qZ2 bt H H2->H2 T=none->qZ2 bt H (upd H2 T o):=fun kk hT b o hb e=>Same.new hT b o (kk b o hb e)
  have tbt:t≠bt:=fun z=>by rw [z,hb] at ht; cases ht
  refine ⟨_,rfl,x,rfl,qJ9 (fun i σ H2=>∃ v3 v4 v5 v6 v7 bvs2,σ=[some (.ref t),some (.str x),some (.int d),v3,v4,v5,v6,v7]/\H2 bt=some (.dT bvs2)/\Both n (tlF f x d i 0) bvs2/\bvs2.length<=bvs.length + 12 * i/\qZ2 bt H H2)
   ⟨none,none,none,none,none,bvs,rfl,hb,hB.start,Nat.le_refl _,fun b o _ e=>e⟩ ?_ ?_⟩
  ·rintro i T1 σ H2 hi hT ⟨v3,v4,v5,v6,v7,bvs2,rfl,e2,hB2,l2,k2⟩
   rw [hx.len] at hi
   refine ⟨T1,_,rfl,SqT.of q01,rfl,_,_,rfl,_,_,rfl,rfl,?_⟩
   refine ⟨_,rfl,x,rfl,qJ9 (fun j σ H3=>∃ v5 v6 v7 bvs3,σ=[some (.ref t),some (.str x),some (.int d),some (.int i),some (sg x i),v5,v6,v7]/\H3 bt=some (.dT bvs3)/\Both n (tlF f x d i j) bvs3/\bvs3.length<=bvs.length + 12 * i + j/\qZ2 bt H H3)
    ⟨_,_,_,bvs2,rfl,Same.new hT _ _ e2,hB2,l2,keep k2 hT⟩ ?_ ?_⟩
   ·rintro j T2 σ H3 hj hT2 ⟨u5,u6,u7,bvs3,rfl,e3,hB3,l3,k3⟩
    rw [hx.len] at hj
    refine ⟨T2,_,rfl,SqT.of q01,rfl,_,_,rfl,_,_,rfl,rfl,?_⟩
    refine ⟨_,rfl,_,rfl,_,rfl,_,rfl,q22 (show 4<=100 by decide),fun T3 hT3=>?_⟩
    obtain ⟨v,ev,hB4⟩:=hB3.step hi hj
    have k4:=keep (o:=.tup [.int i,sg x i,.int j,sg x j]) (keep (o:=.tup [.int j,sg x j]) k3 hT2) hT3
    have e4:=Same.new (o:=.tup [.int i,sg x i,.int j,sg x j]) hT3 _ _ (Same.new (o:=.tup [.int j,sg x j]) hT2 _ _ e3)
    have t4:=k4 t _ tbt ht
    have eT:upd (upd H3 T2 (.tup [.int j,sg x j])) T3 (.tup [.int i,sg x i,.int j,sg x j]) T3=some (.tup ((bk i (ch x i) j (ch x j)).map kV)):=q01
    refine ⟨_,rfl,t,C,dx,_,_,rfl,t4,T.cl,T.nB,rfl,bt,rfl,.inr ⟨_,.inl e4⟩,_,rfl,_,DGet.t e4 eT,_,rfl,_,_,ev,rfl,?_⟩
    refine ⟨_,rfl,t,C,dx,_,_,rfl,t4,T.cl,T.nB,rfl,_,rfl,bt,_,rfl,DPut.t e4 eT ?_,?_⟩
    ·rw [sizeLine_eq]; omega
    have lp:=q87 bvs3 (bk i (ch x i) j (ch x j)) (.int (v + d))
    exact ⟨_,_,_,_,rfl,q01,hB4,Nat.le_trans lp (by omega),fun b o hb' e=>by rw [q08 hb']; exact k4 b o hb' e⟩
   ·rintro σ H3 ⟨u5,u6,u7,bvs3,rfl,e3,hB3,l3,k3⟩
    rw [hx.len] at hB3 l3
    exact ⟨_,_,_,_,_,bvs3,rfl,e3,hB3.turn,by omega,k3⟩
  ·rintro σ H2 ⟨v3,v4,v5,v6,v7,bvs2,rfl,e2,hB2,l2,k2⟩
   rw [hx.len] at hB2 l2
   exact k H2 bvs2 e2 hB2 (by omega) k2
end
end K67
namespace K67
open PySem L2 PySem.W
open PyProof.Rows (envOfC)
section
variable {P:Program}{w:World}{K:PySem.W.Frag}{mg:Str->Option Value}{base:Heap}{C fi fa ft fy fm fc:Addr}{gi ga gt gy gm gc:FuncData}
def spTinit (C:Addr):Sp:=fun vs H Q _=>∃(t dx:Addr) (n:Nat),vs=[.ref t,.int n]/\H t=some (.ins C dx [])/\1<=n/\n<=12 /\
 ∀ H' kp bt,TabAt C H' t dx kp bt n 0 []->H kp=none->H bt=none->(∀ b o,b≠t->H b=some o->H' b=some o)->Q .non H'
theorem sc_init:FnScope ["self", "questions"] ["self", "questions"] (q02 qt8):=⟨rfl,rfl,rfl,by decide +kernel,rfl,by decide +kernel,by decide +kernel⟩
theorem z30 (n:Nat) (kp bt:Addr):qn2 "both" (.ref bt) (qn2 "kept" (.ref kp) (qn2 "questions" (.int n) []))=tfs n kp bt:=rfl
theorem z40 {fn:Addr}{gn:FuncData}(T:Tb K mg C fi fa ft fy fm fc gi ga gt gy gm gc) (Dc:Df K mg "check_count" q80 ["questions"] fn gn) (M:Gm mg):FnOk P w K mg base (CXE P w) 2 fi gi ["self", "questions"] (spTinit C):=by
 refine T.Fi.okN sc_init (fun vs H Q E h=>?_) (fun cdv A outer s H vs Q E hr h=>?_)
 ·obtain ⟨t,dx,n,rfl,_⟩:=h
  rfl
 ·obtain ⟨t,dx,n,rfl,ht,n1,n12,k⟩:=h
  refine ⟨_,q04 (q18 (q14 Dc (qk1 Dc M) hr q17 (q00 (pv 1) q03)))
   (q04 (qS3 (pv 0) (pv 1) rfl) (q04 (qS3 (pv 0) qI1 rfl) (q05 (qS3 (pv 0) z33 rfl)))),?_⟩
  refine ⟨_,rfl,n,rfl,n1,n12,_,rfl,_,rfl,t,C,dx,_,rfl,ht,T.cl,T.nQ,(by decide),fun kp hkp=>?_⟩
  have hk:H kp=none:=q73 hkp
  have kt:t≠kp:=fun z=>by rw [<- z,ht] at hk; cases hk
  have e1:upd (upd H t (.ins C dx (qn2 "questions" (.int n) []))) kp (.dK []) t=some (.ins C dx (qn2 "questions" (.int n) [])):=by rw [q08 kt]; exact q01
  refine ⟨_,rfl,t,C,dx,_,rfl,e1,T.cl,T.nK,(show 1 < 1000 by decide),fun bt hbt=>?_⟩
  have hb1:=q73 hbt
  have hb:H bt=none:=q73 (q73 hb1)
  have bt':t≠bt:=fun z=>by rw [<- z,ht] at hb; cases hb
  have kb:kp≠bt:=fun z=>by rw [<- z,q01] at hb1; cases hb1
  have e2:upd (upd (upd (upd H t (.ins C dx (qn2 "questions" (.int n) []))) kp (.dK [])) t (.ins C dx (qn2 "kept" (.ref kp) (qn2 "questions" (.int n) [])))) bt (.dT []) t=some (.ins C dx (qn2 "kept" (.ref kp) (qn2 "questions" (.int n) []))):=by rw [q08 bt']; exact q01
  refine ⟨_,rfl,t,C,dx,_,rfl,e2,T.cl,T.nB,(show 2 < 1000 by decide),?_⟩
  refine k _ kp bt ⟨?_,[],[],?_,?_,Kept.nil,Both.nil,Nat.zero_le _,Nat.zero_le _⟩ hk hb fun b o hb' e=>?_
  ·rw [q01,z30]
  ·rw [q08 (Ne.symm kt),q08 kb,q08 (Ne.symm kt),q01]; rfl
  ·rw [q08 (Ne.symm bt'),q01]
  ·have b1:b≠kp:=fun z=>by rw [z,hk] at e; cases e
   have b2:b≠bt:=fun z=>by rw [z,hb] at e; cases e
   rw [q08 hb',q08 b2,q08 hb',q08 b1,q08 hb']
   exact e
def qj6 (C:Addr):Sp:=fun vs H Q _=>∃(t dx kp bt:Addr) (n m:Nat) (rs:List Str) (q a r b:Nat),vs=[.ref t,.int q,s1 a,.int r,s1 b]/\TabAt C H t dx kp bt n m rs/\q < n/\r < n/\qY9 a/\qY9 b/\∀ H',Same H H'->Q (.int (q65 rs q a r b:Nat)) H'
abbrev Ptc:List Str:=["self", "q", "a", "r", "b"]
theorem qR2:FnScope Ptc Ptc (q02 qc2):=⟨rfl,rfl,rfl,by decide +kernel,rfl,by decide +kernel,by decide +kernel⟩
theorem q26 {fn:Addr}{gn:FuncData}(T:Tb K mg C fi fa ft fy fm fc gi ga gt gy gm gc) (Dn:Df K mg "check_answers" qq8 Pca fn gn) (Gn:FnOk P w K mg base (CXE P w) 2 fn gn Pca z99):FnOk P w K mg base (CXE P w) 3 fc gc Ptc (qj6 C):=by
 refine T.Fc.okN qR2 (fun vs H Q E h=>?_) (fun cdv A outer s H vs Q E hr h=>?_)
 ·obtain ⟨t,dx,kp,bt,n,m,rs,q,a,r,b,rfl,_⟩:=h
  rfl
 ·obtain ⟨t,dx,kp,bt,n,m,rs,q,a,r,b,rfl,⟨ht,c,bvs,hk,hb,hK,hB,lc,lb⟩,hq,hr',ha,hb',k⟩:=h
  have hu:(A.deeper (envOfC "Table.count" (q02 qc2) s.heap.objs.size fc cdv)).units + 1 < cLine:=by have:=hr.units; omega
  refine ⟨_,q04 (q18 (q14 Dn Gn hr q17 (q00 (pv 1) (q00 (pv 2) (q00 (pv 3) (q00 (pv 4) (q00 (q82 (pv 0) rfl) q03)))))))
   (q05 (q12 (qw6 hu (q82 (pv 0) rfl) (q84 (q00 (pv 1) (q00 (pv 2) (q00 (pv 3) (q00 (pv 4) q03))))) q06 ⟨rfl,rfl,rfl,rfl⟩))),?_⟩
  refine ⟨_,rfl,_,rfl,_,rfl,_,rfl,_,rfl,t,C,dx,_,_,rfl,ht,T.cl,T.nQ,rfl,q,a,r,b,n,rfl,hq,hr',ha,hb',?_⟩
  refine ⟨_,rfl,t,C,dx,_,_,rfl,ht,T.cl,T.nB,rfl,bt,rfl,.inr ⟨_,.inl hb⟩,_,rfl,_,rfl,_,rfl,_,rfl,q22 (show 4<=100 by decide),fun p hp=>?_⟩
  have eT:upd H p (.tup [.int q,s1 a,.int r,s1 b]) p=some (.tup ((bk q a r b).map kV)):=q01
  refine ⟨_,DGet.t (Same.new hp _ _ hb) eT,?_⟩
  rw [hB q a r b hq hr']
  exact k _ (Same.new hp)
def qP3 (C:Addr):Sp:=fun vs H Q _=>∃(t dx kp bt:Addr) (n m:Nat) (rs:List Str) (x:Str),vs=[.ref t,.str x]/\TabAt C H t dx kp bt n m rs/\Row n x/\1<=n/\n<=12/\m<=1000 /\
 ∀ H',TabAt C H' t dx kp bt n (m + 1) (x :: rs)->Keep2 kp bt H H'->Q .non H'
abbrev Pta:List Str:=["self", "row"]
theorem sc_tadd:FnScope Pta Pta (q02 qE7):=⟨rfl,rfl,rfl,by decide +kernel,rfl,by decide +kernel,by decide +kernel⟩
theorem ok_tadd {fw:Addr}{gw:FuncData}(T:Tb K mg C fi fa ft fy fm fc gi ga gt gy gm gc) (Dw:Df K mg "check_row" qf5 Pir fw gw) (Gw:FnOk P w K mg base (CXE P w) 3 fw gw Pir qQ3) (M:Gm mg):FnOk P w K mg base (CXE P w) 4 fa ga Pta (qP3 C):=by
 refine T.Fa.okN sc_tadd (fun vs H Q E h=>?_) (fun cdv A outer s H vs Q E hr h=>?_)
 ·obtain ⟨t,dx,kp,bt,n,m,rs,x,rfl,_⟩:=h
  rfl
 ·obtain ⟨t,dx,kp,bt,n,m,rs,x,rfl,⟨ht,c,bvs,hk,hb,hK,hB,lc,lb⟩,hx,n1,n12,m1,k⟩:=h
  have hu:(A.deeper (envOfC "Table.add" (q02 qE7) s.heap.objs.size fa cdv)).units + 1 < cLine:=by have:=hr.units; omega
  refine ⟨_,q04 (q18 (q14 Dw Gw hr q17 (q00 (pv 1) (q00 (q82 (pv 0) rfl) q03))))
   (q04 (qS4 hu (q82 (pv 0) rfl) (pv 1) (q24 q47 (qw6 hu (q82 (pv 0) rfl) (pv 1) q06 ⟨rfl,rfl,rfl,rfl⟩) q06) rfl)
   (q05 (q18 (q96 (pv 0) T.cl T.my (qI2 T M) (hr.mono (by decide)) T.by' .nil q17 (q00 (pv 1) (q00 q06 q03)))))),?_⟩
  refine ⟨_,rfl,_,rfl,t,C,dx,_,_,rfl,ht,T.cl,T.nQ,rfl,x,n,rfl,hx,n1,n12,fun H1 s1'=>?_⟩
  have t1:=s1' _ _ ht
  have k1:=s1' _ _ hk
  have b1:=s1' _ _ hb
  have ev:(qg5 (c.map fK) (.inr x)).getD (.int 0)=.int (PySem.W.kprLook c x 0):=by
   rw [qv3]
   split
   ·rfl
   ·rename_i z
    rw [PySem.W.kpr_look_none (by simpa using z)]
    rfl
  refine ⟨_,rfl,t,C,dx,_,_,rfl,t1,T.cl,T.nK,rfl,kp,rfl,.inl ⟨_,.inl k1⟩,_,rfl,_,DGet.k (k:=.inr x) k1,_,_,ev,rfl,?_⟩
  refine ⟨_,rfl,t,C,dx,_,_,rfl,t1,T.cl,T.nK,rfl,_,rfl,kp,_,rfl,DPut.k (k:=.inr x) k1 ?_,?_⟩
  ·rw [List.length_map,sizeLine_eq]; omega
  have tk:t≠kp:=fun z=>by rw [z,hk] at ht; cases ht
  have bk':bt≠kp:=fun z=>by rw [z,hk] at hb; cases hb
  have ek:qn6 (c.map fK) (.inr x) ((fun i j=>V.int (i + j)) (PySem.W.kprLook c x 0) 1)=(PySem.W.kprPut c x (PySem.W.kprLook c x 0 + 1)).map fK:=qw3 c x _
  rw [ek]
  refine ⟨_,rfl,t,dx,_,rfl,(by rw [q08 tk]; exact t1),rfl,_,rfl,t,dx,kp,bt,n,x,1,qN6 rs,bvs,rfl,(by rw [q08 tk]; exact t1),(by rw [q08 bk']; exact b1),hB,by omega,hx,n12,fun H' bvs' e' hB' l' k'=>?_⟩
  have lp:=q87 (c.map fK) (.inr x) (.int (PySem.W.kprLook c x 0 + 1))
  rw [qw3,List.length_map,List.length_map] at lp
  refine k H' ⟨?_,_,bvs',k' kp _ (Ne.symm bk') q01,e',hK.add x,hB'.add,by omega,by omega⟩ fun b o h1 h2 e=>?_
  ·exact k' t _ (fun z=>by rw [z,hb] at ht; cases ht) (by rw [q08 tk]; exact t1)
  ·exact k' b o h2 (by rw [q08 h1]; exact s1' b o e)
def tDel (C:Addr):TS:=fun D σ H=>∃(t dx kp bt:Addr) (n:Nat) (x:Str) (c:List (Str×Int)),σ=[some (.ref t),some (.str x)]/\H t=some (.ins C dx (tfs n kp bt))/\H kp=some (.dK (c.map fK))/\PySem.W.kprHas c x=true /\
 ∀ H' c',H' kp=some (.dK (c'.map fK))->(PySem.W.kprLook c x 0=0->c'=PySem.W.kprDel c x)->(¬ PySem.W.kprLook c x 0=0->c'=c)->(∀ b o,b≠kp->H b=some o->H' b=some o)->D.nx σ H'
abbrev b_take (j:Nat):Stmt:=(q07 qh4).getD j (.Pass ⟨0,0,0,0⟩)
theorem z17:FnScope Pta Pta (q02 qh4):=⟨rfl,rfl,rfl,by decide +kernel,rfl,by decide +kernel,by decide +kernel⟩
theorem take_if {cdv:Value}{A:Around}{outer:List Env}{s:Shared}{H0:Hp}{E0':XK}(T:Tb K mg C fi fa ft fy fm fc gi ga gt gy gm gc) (hu:(A.deeper (envOfC "Table.take" (q02 qh4) s.heap.objs.size ft cdv)).units + 1 < cLine) :
  PS (qD7 (CXE P w) P w K mg base Pta "Table.take" (q02 qh4) ft cdv A outer s H0 E0').nox (b_take 3) (tDel C):=by
 refine ps_weak (q30 (q10 q37 (pe_dget hu (q82 (pv 0) rfl) (pv 1) (fun _ _=>rfl)) q06 (q13 _)) (q05 (ps_ddel (q82 (pv 0) rfl) (pv 1))) q16) ?_
 rintro D σ H ⟨t,dx,kp,bt,n,x,c,rfl,ht,hk,hh,k⟩
 have ev:qg5 (c.map fK) (.inr x)=some (.int (PySem.W.kprLook c x 0)):=by rw [qv3,if_pos hh]
 refine ⟨_,rfl,t,C,dx,_,_,rfl,ht,T.cl,T.nK,rfl,_,rfl,kp,.int (PySem.W.kprLook c x 0),rfl,(by rw [<- ev]; exact DGet.k (k:=.inr x) hk),rfl,_,rfl,q77 (fun z=>?_) (fun z=>?_)⟩
 ·have z:decide (V.int (PySem.W.kprLook c x 0)=V.int 0)=true:=z
  rw [q75] at z
  have z:PySem.W.kprLook c x 0=0:=by simpa using z
  refine ⟨_,rfl,t,C,dx,_,_,rfl,ht,T.cl,T.nK,rfl,_,rfl,kp,_,.inr x,rfl,hk,rfl,(by rw [ev]; rfl),?_⟩
  rw [qK1]
  exact k _ _ q01 (fun _=>rfl) (fun y=>absurd z y) fun b o hb e=>by rw [q08 hb]; exact e
 ·have z:¬ decide (V.int (PySem.W.kprLook c x 0)=V.int 0)=true:=z
  rw [q75] at z
  have z:¬ PySem.W.kprLook c x 0=0:=by simpa using z
  exact k H c hk (fun y=>absurd y z) (fun _=>rfl) fun b o _ e=>e
def qP2 (C:Addr):Sp:=fun vs H Q _=>∃(t dx kp bt:Addr) (n m:Nat) (rs0 rs:List Str) (x:Str),vs=[.ref t,.str x]/\TabAt C H t dx kp bt n m rs0/\rs0.Perm (x :: rs)/\Row n x/\1<=n/\n<=12/\m<=1000 /\
 ∀ H',TabAt C H' t dx kp bt n (m + 1) rs->Keep2 kp bt H H'->Q .non H'
theorem z39 {fw:Addr}{gw:FuncData}(T:Tb K mg C fi fa ft fy fm fc gi ga gt gy gm gc) (Dw:Df K mg "check_row" qf5 Pir fw gw) (Gw:FnOk P w K mg base (CXE P w) 3 fw gw Pir qQ3) (M:Gm mg):FnOk P w K mg base (CXE P w) 4 ft gt Pta (qP2 C):=by
 refine T.Ft.okN z17 (fun vs H Q E h=>?_) (fun cdv A outer s H vs Q E hr h=>?_)
 ·obtain ⟨t,dx,kp,bt,n,m,rs0,rs,x,rfl,_⟩:=h
  rfl
 ·obtain ⟨t,dx,kp,bt,n,m,rs0,rs,x,rfl,⟨ht,c,bvs,hk,hb,hK0,hB0,lc,lb⟩,hp,hx,n1,n12,m1,k⟩:=h
  have hK:=hK0.perm hp
  have hB:=hB0.perm hp
  have hu:(A.deeper (envOfC "Table.take" (q02 qh4) s.heap.objs.size ft cdv)).units + 1 < cLine:=by have:=hr.units; omega
  refine ⟨_,q04 (q18 (q14 Dw Gw hr q17 (q00 (pv 1) (q00 (q82 (pv 0) rfl) q03))))
   (q04 (q30 (qS2 (qB0 hu (pv 1) (q82 (pv 0) rfl))) (q05 qg9) q16)
   (q04 (ps_daug hu (q82 (pv 0) rfl) (pv 1) q06 in_sub (fun _ _ _=>rfl))
   (q04 (take_if T hu)
   (q05 (q18 (q96 (pv 0) T.cl T.my (qI2 T M) (hr.mono (by decide)) T.by' .nil q17 (q00 (pv 1) (q00 (qL8 qt6 q06) q03)))))))),?_⟩
  refine ⟨_,rfl,_,rfl,t,C,dx,_,_,rfl,ht,T.cl,T.nQ,rfl,x,n,rfl,hx,n1,n12,fun H1 s1'=>?_⟩
  have t1:=s1' _ _ ht
  have k1:=s1' _ _ hk
  have b1:=s1' _ _ hb
  have hh:PySem.W.kprHas c x=true:=(hK.has x).mpr List.mem_cons_self
  have ev:qg5 (c.map fK) (.inr x)=some (.int (PySem.W.kprLook c x 0)):=by rw [qv3,if_pos hh]
  refine ⟨_,rfl,_,rfl,t,C,dx,_,_,rfl,t1,T.cl,T.nK,rfl,kp,some (.int (PySem.W.kprLook c x 0)),rfl,(by rw [<- ev]; exact DGet.k (k:=.inr x) k1),_,rfl,q31 ?_⟩
  refine ⟨_,rfl,t,C,dx,_,_,rfl,t1,T.cl,T.nK,rfl,_,rfl,kp,.int (PySem.W.kprLook c x 0),rfl,(by rw [<- ev]; exact DGet.k (k:=.inr x) k1),_,_,rfl,rfl,_,DPut.k (k:=.inr x) k1 ?_,?_⟩
  ·rw [List.length_map,sizeLine_eq]; omega
  have tk:t≠kp:=fun z=>by rw [z,hk] at ht; cases ht
  have bk':bt≠kp:=fun z=>by rw [z,hk] at hb; cases hb
  have tb:t≠bt:=fun z=>by rw [z,hb] at ht; cases ht
  rw [qw3]
  have lp:=q87 (c.map fK) (.inr x) (.int (PySem.W.kprLook c x 0 - 1))
  rw [qw3,List.length_map,List.length_map] at lp
  have t2:upd H1 kp (.dK ((PySem.W.kprPut c x (PySem.W.kprLook c x 0 - 1)).map fK)) t=some (.ins C dx (tfs n kp bt)):=by rw [q08 tk]; exact t1
  have b2:upd H1 kp (.dK ((PySem.W.kprPut c x (PySem.W.kprLook c x 0 - 1)).map fK)) bt=some (.dT bvs):=by rw [q08 bk']; exact b1
  refine ⟨t,dx,kp,bt,n,x,PySem.W.kprPut c x (PySem.W.kprLook c x 0 - 1),rfl,t2,q01,(by rw [PySem.W.kpr_has_put]; simp),fun H3 c' e3 z0 z1 k3=>?_⟩
  rw [PySem.W.kpr_look_put,if_pos rfl] at z0 z1
  have hK3:Kept rs c':=by
   by_cases z:PySem.W.kprLook c x 0 - 1=0
   ·rw [z0 z]; exact hK.gone z
   ·rw [z1 z]; exact hK.less z
  have lc':c'.length<=m + 1:=by
   by_cases z:PySem.W.kprLook c x 0 - 1=0
   ·rw [z0 z]
    have:=List.length_filter_le (fun p:Str×Int=>!decide (p.1=x)) (PySem.W.kprPut c x (PySem.W.kprLook c x 0 - 1))
    show (List.filter _ _).length<=_
    omega
   ·rw [z1 z]; omega
  have t3:=k3 t _ tk t2
  have b3:=k3 bt _ bk' b2
  refine ⟨_,rfl,t,dx,_,rfl,t3,rfl,_,rfl,_,rfl,t,dx,kp,bt,n,x,-1,qN6 (x :: rs),bvs,rfl,t3,b3,hB,by omega,hx,n12,fun H' bvs' e' hB' l' k'=>?_⟩
  refine k H' ⟨k' t _ tb t3,c',bvs',k' kp _ (Ne.symm bk') e3,e',hK3,hB'.take,by omega,by omega⟩ fun b o h1 h2 e=>?_
  exact k' b o h2 (k3 b o h1 (by rw [q08 h1]; exact s1' b o e))
end
end K67
namespace L2
open PySem PySem.Spec PyProof.Rows
section
variable {X:Cx}
def za0 (K:PySem.W.Frag):R2:=fun x y H Q=>∃ a b xs,x=.ref a/\y=.ref b/\SqL K H a xs/\SqL K H b []/\Q (.bl (!xs.isEmpty)) H
theorem qo6 (hu:X.A.units < cLine):OpR X (compareOp .NotEq) (za0 X.K):=by
 intro pins s σ H x y v u Q I rx ry h
 obtain ⟨a,b,xs,rfl,rfl,ha,hb,q⟩:=h
 cases rx
 cases ry
 obtain ⟨its,r1,p1,_⟩:=I.list ha
 obtain ⟨its2,r2,p2,_⟩:=I.list hb
 cases r2
 cases r1 with
 | nil=>exact PySem.EqBoolInt.of_rcne (SeqAt.RcNeAt.lists (e:=fun _=>true) p1.isList p2.isList rfl hu (fun j h1 _=>absurd h1 (by simp))) ⟨.bl false,H,I,rfl,q⟩
 | cons r t=>exact PySem.EqBoolInt.of_rcne (SeqAt.RcNeAt.lists_lengths p1.isList p2.isList (by simp) hu) ⟨.bl true,H,I,rfl,q⟩
end
def Tups (H:Hp) (rs:List Addr) (ks:List (List Key)):Prop:=rs.length=ks.length/\∀(i:Nat) (r:Addr) (k:List Key),rs[i]? = some r->ks[i]? = some k->H r=some (.tup (k.map kV))
theorem Tups.nil {H:Hp}:Tups H [] []:=⟨rfl,fun _ _ _ h=>by cases h⟩
theorem Tups.mono {H H':Hp}{rs:List Addr}{ks:List (List Key)}(h:Tups H rs ks) (s:Same H H'):Tups H' rs ks:=⟨h.1,fun i r k a b=>s _ _ (h.2 i r k a b)⟩
theorem Tups.upd {H:Hp}{rs:List Addr}{ks:List (List Key)}{p:Addr}{ys zs:List V}(h:Tups H rs ks) (hp:H p=some (.lst ys)):Tups (upd H p (.lst zs)) rs ks:=⟨h.1,fun i r k a b=>by
 have e:=h.2 i r k a b
 rw [q08]
 ·exact e
 ·intro z
  rw [z,hp] at e
  cases e⟩
theorem Tups.append {H:Hp}{rs rs':List Addr}{ks ks':List (List Key)}(h:Tups H rs ks) (h':Tups H rs' ks'):Tups H (rs ++ rs') (ks ++ ks'):=by
 refine ⟨by rw [List.length_append,List.length_append,h.1,h'.1],fun i r k hr hk=>?_⟩
 by_cases hi:i < rs.length
 ·rw [List.getElem?_append_left hi] at hr
  rw [List.getElem?_append_left (by rw [<- h.1]; exact hi)] at hk
  exact h.2 i r k hr hk
 ·rw [List.getElem?_append_right (by omega)] at hr
  rw [List.getElem?_append_right (by rw [<- h.1]; omega),<- h.1] at hk
  exact h'.2 _ r k hr hk
theorem Tups.one {H:Hp}{T:Addr}{k:List Key}(h:H T=some (.tup (k.map kV))):Tups H [T] [k]:=by
 refine ⟨rfl,fun i r k' hr hk=>?_⟩
 cases i with
 | zero=>cases hr; cases hk; exact h
 | succ i=>cases hr
theorem Tups.snoc {H:Hp}{rs:List Addr}{ks:List (List Key)}{T:Addr}{k:List Key}(h:Tups H rs ks) (hT:H T=some (.tup (k.map kV))):Tups H (rs ++ [T]) (ks ++ [k]):=h.append (.one hT)
end L2
namespace L2
open PySem
theorem qV6 {i:Nat}{tb:TBd}{N:St->Hp->Prop}{x:V}{σ:St}{H:Hp}(h:tb (σ.set i (some x)) H N):z89 (q54 i) tAll tb N x σ H:=q48 (B:=N (σ.set i (some x)) H) h
theorem qM4 {K:PySem.W.Frag}{i j:Nat}{tb:TBd}{N:St->Hp->Prop}{x y:V}{T:Addr}{σ:St}{H:Hp}(hT:SqT K H T [x,y]) (h:tb ((σ.set i (some x)).set j (some y)) H N):z89 (qD5 K 2 (q64 (q54 i) (q64 (q54 j) qD6))) tAll tb N (.ref T) σ H :=
 ⟨T,_,rfl,hT,rfl,_,_,rfl,_,_,rfl,rfl,q48 (B:=N ((σ.set i (some x)).set j (some y)) H) h⟩
theorem small_k (l:List (List Key)) (h:l.length<=1000):l.length < sizeLine:=Nat.lt_of_le_of_lt h (by decide)
structure Acc (H0:Hp) (p:Addr) (H:Hp) (ks:List (List Key)):Prop where
 same:Same H0 H
 at_:∃ rs:List Addr,H p=some (.lst (rs.map V.ref))/\Tups H rs ks
theorem Acc.put {H0 H H1:Hp}{p T:Addr}{ks:List (List Key)}{k:List Key}(A:Acc H0 p H ks) (hp:H0 p=none) (s:Same H H1) (hT:H1 T=none):∃ ys,upd H1 T (.tup (k.map kV)) p=some (.lst ys)/\ys.length=ks.length/\Acc H0 p (upd (upd H1 T (.tup (k.map kV))) p (.lst (ys ++ [.ref T]))) (ks ++ [k]):=by
 obtain ⟨s0,rs,e,t⟩:=A
 have s1:=s.trans' (Same.new (o:=.tup (k.map kV)) hT)
 have e1:=s1 _ _ e
 refine ⟨_,e1,by rw [List.length_map]; exact t.1,Same.grow hp (s0.trans' s1),rs ++ [T],?_,?_⟩
 ·rw [q01,List.map_append]
  rfl
 ·have t1:Tups (upd H1 T (.tup (k.map kV))) (rs ++ [T]) (ks ++ [k]):=(t.mono s1).snoc q01
  exact t1.upd e1
theorem Acc.mono {H0 H H1:Hp}{p:Addr}{ks:List (List Key)}(A:Acc H0 p H ks) (s:Same H H1):Acc H0 p H1 ks:=by
 obtain ⟨s0,rs,e,t⟩:=A
 exact ⟨s0.trans' s,rs,s _ _ e,t.mono s⟩
theorem Acc.back {H0 H1 H:Hp}{p:Addr}{ks:List (List Key)}(A:Acc H1 p H ks) (s:Same H0 H1):Acc H0 p H ks:=⟨s.trans' A.same,A.at_⟩
theorem Tups.item {H:Hp}{rs:List Addr}{ks:List (List Key)}(h:Tups H rs ks) {i:Nat}{x:V}(hi:(rs.map V.ref)[i]? = some x):∃ r k,x=.ref r/\ks[i]? = some k/\H r=some (.tup (k.map kV)):=by
 rw [List.getElem?_map] at hi
 cases z:rs[i]? with
 | none=>rw [z] at hi; cases hi
 | some r =>
  rw [z] at hi
  cases hi
  have il:i < rs.length:=(List.getElem?_eq_some_iff.mp z).1
  have e:ks[i]? = some (ks[i]'(by rw [<- h.1]; exact il)):=List.getElem?_eq_getElem (by rw [<- h.1]; exact il)
  exact ⟨r,_,rfl,e,h.2 i r _ z e⟩
def qb0 {α β:Type}(l:List α) (i:Nat) (F:α->List β):List β:=(l.take i).flatMap F
theorem qa0 {α β:Type}{l:List α}{i:Nat}{a:α}{F:α->List β}(h:l[i]? = some a):qb0 l (i + 1) F=qb0 l i F ++ F a:=by
 unfold qb0
 rw [List.take_add_one,h,List.flatMap_append]
 simp
theorem qa3 {α β:Type}{l:List α}{F:α->List β}{m:Nat}(h:∀ a,(F a).length<=m):∀ i,(qb0 l i F).length<=i * m
 | 0=>by simp [qb0]
 | i + 1=>by
  cases e:l[i]? with
  | some a=>rw [qa0 e,List.length_append,Nat.succ_mul]; exact Nat.add_le_add (qa3 h i) (h a)
  | none =>
   have:qb0 l (i + 1) F=qb0 l i F:=by unfold qb0; rw [List.take_add_one,e]; simp
   rw [this,Nat.succ_mul]
   exact Nat.le_trans (qa3 h i) (Nat.le_add_right _ _)
def sk (q a:Nat):List Key:=[.inl q,.inr ⟨#[a]⟩]
def qk (q r:Nat):List Key:=[.inl q,.inl r]
structure Pat (n:Nat) (x:Str):Prop where
 len:x.length=n
 sgn:∀ i,i < n->ch x i=121∨ch x i=110∨ch x i=45
theorem Row.pat {n:Nat}{x:Str}(h:Row n x):Pat n x:=⟨h.len,fun i hi=>(h.bin i hi).imp id .inl⟩
def z86 (x:Str) (q:Nat):List (Nat×Nat):=if ch x q=45 then [] else [(q,ch x q)]
def q78 (x:Str) (n:Nat):List (Nat×Nat):=(List.range n).flatMap (z86 x)
theorem qt0 (x:Str) (n:Nat):q78 x (n + 1)=q78 x n ++ z86 x n:=by unfold q78; rw [List.range_succ,List.flatMap_append]; simp
theorem qp1 (x:Str):∀ n,(q78 x n).length<=n
 | 0=>by simp [q78]
 | n + 1=>by
  rw [qt0,List.length_append]
  have:(z86 x n).length<=1:=by unfold z86; split <;> simp
  have:=qp1 x n
  omega
theorem qh3 {x:Str}{n:Nat}{p:Nat×Nat}(h:p∈q78 x n):p.1 < n/\p.2=ch x p.1/\¬ p.2=45:=by
 obtain ⟨q,hq,h⟩:=List.mem_flatMap.mp h
 unfold z86 at h
 split at h
 ·cases h
 ·rename_i z
  rw [List.mem_singleton.mp h]
  exact ⟨List.mem_range.mp hq,rfl,z⟩
theorem qk3 {x:Str}{n q:Nat}(h:q < n) (z:¬ ch x q=45):(q,ch x q)∈q78 x n:=by
 refine List.mem_flatMap.mpr ⟨q,List.mem_range.mpr h,?_⟩
 unfold z86
 rw [if_neg z]
 exact List.mem_singleton.mpr rfl
def skP (p:Nat×Nat):List Key:=sk p.1 p.2
def pgB (rs:List Str) (m:Nat) (p p':Nat×Nat):List (List Key):=if p.1<=p'.1/\q65 rs p.1 p.2 p'.1 p'.2=m then [qk p.1 p'.1] else []
def pgA (rs:List Str) (m:Nat) (G:List (Nat×Nat)) (p:Nat×Nat):List (List Key):=qb0 G G.length (pgB rs m p)
def pgM (rs:List Str) (m:Nat) (G:List (Nat×Nat)):List (List Key):=qb0 G G.length (pgA rs m G)
theorem qS7 (rs:List Str) (m:Nat) (p p':Nat×Nat):(pgB rs m p p').length<=1:=by unfold pgB; split <;> simp
theorem pgA_len (rs:List Str) (m:Nat) (G:List (Nat×Nat)) (p:Nat×Nat):(pgA rs m G p).length<=G.length:=Nat.le_trans (qa3 (qS7 rs m p) G.length) (by omega)
theorem ql0 (rs:List Str) (q a r b:Nat):q65 rs q a r b=q65 rs r b q a:=by
 unfold q65
 congr 1
 funext x
 exact decide_eq_decide.mpr And.comm
def q39 (rs:List Str) (n:Nat) (x:Str):Prop:=∀ q r,q < n->r < n->0 < q65 rs q (ch x q) r (ch x r)
theorem ql2 {rs:List Str}{n:Nat}{x:Str}(h:x∈rs):q39 rs n x:=fun q r _ _=>List.countP_pos_iff.mpr ⟨x,h,decide_eq_true ⟨rfl,rfl⟩⟩
theorem z61 {rs:List Str}{n:Nat}{x:Str}(h:q39 rs n x):pgM rs 0 (q78 x n)=[]:=by
 refine List.eq_nil_iff_forall_not_mem.mpr fun k hk=>?_
 obtain ⟨p,hp,hk⟩:=List.mem_flatMap.mp hk
 obtain ⟨p',hp',hk⟩:=List.mem_flatMap.mp hk
 obtain ⟨h1,h2,_⟩:=qh3 (List.mem_of_mem_take hp)
 obtain ⟨h3,h4,_⟩:=qh3 (List.mem_of_mem_take hp')
 have:=h p.1 p'.1 h1 h3
 unfold pgB at hk
 rw [if_neg (fun z=>by rw [h2,h4] at z; omega)] at hk
 cases hk
theorem z82 {rs:List Str}{n:Nat}{x:Str}(hx:Row n x) (h:pgM rs 0 (q78 x n)=[]):q39 rs n x:=by
 have go:∀ q r,q < n->r < n->q<=r->0 < q65 rs q (ch x q) r (ch x r):=fun q r hq hr hle=>by
  have nq:¬ ch x q=45:=fun z=>by have:=hx.bin q hq; omega
  have nr:¬ ch x r=45:=fun z=>by have:=hx.bin r hr; omega
  cases z:q65 rs q (ch x q) r (ch x r) with
  | succ _=>omega
  | zero =>
   exfalso
   have:qk q r∈pgM rs 0 (q78 x n):=by
    refine List.mem_flatMap.mpr ⟨(q,ch x q),?_,List.mem_flatMap.mpr ⟨(r,ch x r),?_,?_⟩⟩
    ·rw [List.take_length]; exact qk3 hq nq
    ·rw [List.take_length]; exact qk3 hr nr
    ·unfold pgB
     rw [if_pos ⟨hle,z⟩]
     exact List.mem_singleton.mpr rfl
   rw [h] at this
   cases this
 intro q r hq hr
 by_cases hle:q<=r
 ·exact go q r hq hr hle
 ·rw [ql0]; exact go r q hr hq (by omega)
theorem qd8 {n:Nat}{x:Str}(h:x.length=n):x=tx n (ch x):=by
 obtain ⟨a⟩:=x
 subst h
 unfold tx
 congr 1
 apply Array.ext
 ·simp [Str.length]
 ·intro i h1 h2
  simp [ch]
  rw [Array.getElem?_eq_getElem h1]
  rfl
theorem q55 {n:Nat}{c:Nat->Nat}{i:Nat}(hi:i < n):ch (tx n c) i=c i:=by
 unfold ch tx
 simp [Array.getD_eq_getD_getElem?,hi]
end L2
namespace K67
open PySem L2
open PyProof.Rows (envOfC)
abbrev qA8:Stmt:=top 42
abbrev s_pg:Stmt:=top 41
abbrev qj7:Stmt:=top 40
theorem TabAt.mono {C:Addr}{H H':Hp}{t dx kp bt:Addr}{n m:Nat}{rs:List Str}(h:TabAt C H t dx kp bt n m rs) (s:Same H H'):TabAt C H' t dx kp bt n m rs:=by
 obtain ⟨i,c,bvs,e1,e2,r⟩:=h
 exact ⟨s _ _ i,c,bvs,s _ _ e1,s _ _ e2,r⟩
section
variable {P:Program}{w:World}{K:PySem.W.Frag}{mg:Str->Option Value}{base:Heap}{C fi fa ft fy fm fc:Addr}{gi ga gt gy gm gc:FuncData}
def spAns:Sp:=fun vs H Q _=>∃(x:Str) (n:Nat),vs=[.str x]/\x.length=n/\n<=12/\∀ p H',H p=none->Acc H p H' ((q78 x n).map skP)->Q (.ref p) H'
theorem sc_ans:FnScope ["pattern"] ["pattern"] (q02 qA8):=⟨rfl,rfl,rfl,by decide +kernel,rfl,by decide +kernel,by decide +kernel⟩
theorem qJ0:(["question", "sign"]:List Str).Nodup:=by decide +kernel
theorem za6 {f:Addr}{fd:FuncData}(D:Df K mg "answers" qA8 ["pattern"] f fd) (M:Gm mg):FnOk P w K mg base (CXE P w) 1 f fd ["pattern"] spAns:=by
 refine D.F.okN sc_ans (fun vs H Q E h=>?_) (fun cdv A outer s H vs Q E hr h=>?_)
 ·obtain ⟨x,n,rfl,_⟩:=h
  rfl
 ·obtain ⟨x,n,rfl,hx,n12,k⟩:=h
  refine ⟨_,q05 (q12 (q29 (g:=qD5 K 2 (q64 (q54 0) (q64 (q54 1) qD6))) (N':=["question", "sign"]) (fm:=[none,none]) rfl ⟨rfl,by decide +kernel,by decide +kernel,rfl,rfl,rfl⟩
    (ql7 (by rfl) M.enum (q00 (pv 0) q03))
    (fun _ _ _ _=>qa8 rfl (q23 (q11 (i:=0) qJ0 rfl (Or.inl rfl)) (q23 (q11 (i:=1) qJ0 rfl (Or.inl rfl)) q72)))
    (fun _ _ _ _=>q63 (q10 qr2 (pv 1) q20 (q13 _)))
    (fun _ _ _ _=>q84 (q00 (pv 0) (q00 (pv 1) q03))))),?_⟩
  refine ⟨_,rfl,x,rfl,fun p hp=>?_⟩
  refine qp0 (fun i σ H2=>∃ v0 v1,σ=[v0,v1]/\Acc H p H2 ((q78 x i).map skP)) ⟨none,none,rfl,Same.new hp,[],q01,Tups.nil⟩ ?_ ?_
  ·rintro i T σ H2 hi hT ⟨v0,v1,rfl,a2⟩
   rw [hx] at hi
   have sT:=Same.new (o:=.tup [.int i,sg x i]) hT
   refine ⟨T,_,rfl,SqT.of q01,rfl,_,_,rfl,_,_,rfl,rfl,?_⟩
   refine ⟨_,rfl,rfl,_,rfl,q77 (fun z=>?_) (fun z=>?_)⟩
   ·have z:(!decide (s1 (ch x i)=s1 45))=true:=z
    rw [q68] at z
    have z:¬ ch x i=45:=by simpa using z
    refine ⟨_,rfl,_,rfl,q22 (show 2<=100 by decide),fun T2 hT2=>?_⟩
    obtain ⟨ys,e1,l1,a3⟩:=a2.put (k:=skP (i,ch x i)) hp sT hT2
    refine ⟨ys,e1,?_,_,_,rfl,?_⟩
    ·rw [l1,List.length_map]
     have:=qp1 x i
     exact Nat.lt_of_le_of_lt (show _<=12 by omega) (by decide)
    ·have e:(q78 x (i + 1)).map skP=(q78 x i).map skP ++ [skP (i,ch x i)]:=by
      rw [qt0]; unfold z86; rw [if_neg z,List.map_append]; rfl
     rw [e]
     exact a3
   ·have z:¬ (!decide (s1 (ch x i)=s1 45))=true:=z
    rw [q68] at z
    have z:ch x i=45:=by simpa using z
    refine ⟨_,_,rfl,?_⟩
    have e:(q78 x (i + 1)).map skP=(q78 x i).map skP:=by
     rw [qt0]; unfold z86; rw [if_pos z,List.append_nil]
    rw [e]
    exact a2.mono sT
  ·rintro σ H2 ⟨v0,v1,rfl,a2⟩
   rw [hx] at a2
   exact k p H2 hp a2
def spPg (C:Addr):Sp:=fun vs H Q _=>∃(t dx kp bt:Addr) (n m:Nat) (rs:List Str) (x:Str) (c:Nat),vs=[.ref t,.str x,.int c]/\TabAt C H t dx kp bt n m rs/\Pat n x/\n<=12/\∀ p H',H p=none->Acc H p H' (pgM rs c (q78 x n))->Q (.ref p) H'
abbrev Npg:List Str:=["table", "pattern", "many", "given"]
abbrev Ppg:List Str:=["table", "pattern", "many"]
theorem sc_pg:FnScope Npg Ppg (q02 s_pg):=⟨rfl,rfl,rfl,by decide +kernel,rfl,by decide +kernel,by decide +kernel⟩
abbrev Npc:List Str:=["q", "a", "r", "b", "given", "table", "many"]
theorem z55:Npc.Nodup:=by decide +kernel
theorem qR0 {n:Nat}{x:Str}(h:Pat n x) {p:Nat×Nat}(hp:p∈q78 x n):p.1 < n/\qY9 p.2:=by
 obtain ⟨h1,h2,h3⟩:=qh3 hp
 have:=h.sgn p.1 h1
 exact ⟨h1,by unfold qY9; omega⟩
theorem qn8 {f fn:Addr}{fd gn:FuncData}(D:Df K mg "pairs_given" s_pg Ppg f fd) (Dn:Df K mg "answers" qA8 ["pattern"] fn gn) (T:Tb K mg C fi fa ft fy fm fc gi ga gt gy gm gc) (Gc:FnOk P w K mg base (CXE P w) 3 fc gc Ptc (qj6 C)) (M:Gm mg):FnOk P w K mg base (CXE P w) 4 f fd Ppg (spPg C):=by
 refine D.F.okN sc_pg (fun vs H Q E h=>?_) (fun cdv A outer s H vs Q E hr h=>?_)
 ·obtain ⟨t,dx,kp,bt,n,m,rs,x,c,rfl,_⟩:=h
  rfl
 ·obtain ⟨t,dx,kp,bt,n,m,rs,x,c,rfl,tab,hx,n12,k⟩:=h
  refine ⟨_,q04 (q21 (i:=3) sc_pg.nd rfl (Or.inr rfl) (q14 Dn (za6 Dn M) (hr.mono (by decide)) q17 (q00 (pv 1) q03)))
   (q05 (q12 (z34 (g:=qD5 K 2 (q64 (q54 0) (q64 (q54 1) qD6))) (N':=Npc) (fm:=[none,none,none,none,some 3,some 0,some 2]) rfl ⟨rfl,by decide +kernel,by decide +kernel,rfl,rfl,rfl⟩
    (q35 (pv 3)) (fun _ _ _ _=>qa8 rfl (q23 (q11 (i:=0) z55 rfl (Or.inl rfl)) (q23 (q11 (i:=1) z55 rfl (Or.inl rfl)) q72))) (fun _ _ _ _=>q42)
    (fun _ _ _ _ _=>qS9 (wi:=iList K (qO9 4)) (g:=qD5 K 2 (q64 (q54 2) (q64 (q54 3) qD6))) rfl (fun _ _ z=>z) (q35 (pv 4)) (qa8 rfl (q23 (q11 (i:=2) z55 rfl (Or.inl rfl)) (q23 (q11 (i:=3) z55 rfl (Or.inl rfl)) q72)))
      (q63 (PW.pt (qe0 (q10 op_le (pv 0) (pv 2) (q13 _)) (qa6 (q10 q37 (q96 (pv 5) T.cl T.mc Gc hr T.bc .nil q17 (q00 (pv 0) (q00 (pv 1) (q00 (pv 2) (q00 (pv 3) q03))))) (pv 6) (q13 _))))))
      (qT0 (fun _ _ z=>z) (q84 (q00 (pv 0) (q00 (pv 2) q03)))))))),?_⟩
  refine ⟨_,rfl,x,n,rfl,hx.len,n12,fun g H1 hg a1=>?_⟩
  obtain ⟨s1',grs,eg,tg⟩:=a1
  refine ⟨_,rfl,g,rfl,⟨_,SqL.of eg⟩,fun p hp=>?_⟩
  have gl:=qp1 x n
  have hpH:H p=none:=by
   cases z:H p with
   | none=>rfl
   | some o=>rw [s1' _ _ z] at hp; cases hp
  have lG:grs.length=(q78 x n).length:=by rw [tg.1,List.length_map]
  refine qF3 (K:=K) (a:=g) (xs:=grs.map V.ref) (fun i σ H2=>∃ v0 v1 v2 v3,σ=[v0,v1,v2,v3,some (.ref g),some (.ref t),some (.int c)]/\Acc H1 p H2 (qb0 (q78 x n) i (pgA rs c (q78 x n)))) ⟨none,none,none,none,rfl,Same.new hp,[],q01,Tups.nil⟩
   (fun i σ H2 _ ⟨_,_,_,_,_,a2⟩=>SqL.of (a2.same _ _ eg)) ?_ ?_
  ·rintro i y σ H2 hi ⟨v0,v1,v2,v3,rfl,a2⟩
   obtain ⟨r1,k1,rfl,ek,er⟩:=(tg.mono a2.same).item hi
   rw [List.getElem?_map] at ek
   cases z:(q78 x n)[i]? with
   | none=>rw [z] at ek; cases ek
   | some pq =>
    rw [z] at ek
    cases ek
    obtain ⟨q1,sq⟩:=qR0 hx (List.mem_of_getElem? z)
    have i12:i < 12:=by have:=(List.getElem?_eq_some_iff.mp z).1; omega
    refine qM4 (SqT.of er) ?_
    refine ⟨_,rfl,g,rfl,⟨_,SqL.of (a2.same _ _ eg)⟩,?_⟩
    refine qF3 (K:=K) (a:=g) (xs:=grs.map V.ref) (fun j σ H3=>∃ v2 v3,σ=[some (.int pq.1),some (s1 pq.2),v2,v3,some (.ref g),some (.ref t),some (.int c)]/\Acc H1 p H3 (qb0 (q78 x n) i (pgA rs c (q78 x n)) ++ qb0 (q78 x n) j (pgB rs c pq))) ⟨_,_,rfl,by simpa [qb0] using a2⟩
     (fun j σ H3 _ ⟨_,_,_,a3⟩=>SqL.of (a3.same _ _ eg)) ?_ ?_
    ·rintro j y σ H3 hj ⟨v2,v3,rfl,a3⟩
     obtain ⟨r2,k2,rfl,ek2,er2⟩:=(tg.mono a3.same).item hj
     rw [List.getElem?_map] at ek2
     cases z2:(q78 x n)[j]? with
     | none=>rw [z2] at ek2; cases ek2
     | some rq =>
      rw [z2] at ek2
      cases ek2
      obtain ⟨r1',sr⟩:=qR0 hx (List.mem_of_getElem? z2)
      have j12:j < 12:=by have:=(List.getElem?_eq_some_iff.mp z2).1; omega
      have no:¬ (pq.1<=rq.1/\q65 rs pq.1 pq.2 rq.1 rq.2=c)->qb0 (q78 x n) (j + 1) (pgB rs c pq)=qb0 (q78 x n) j (pgB rs c pq):=fun y=>by
       rw [qa0 z2]; unfold pgB; rw [if_neg y,List.append_nil]
      refine ⟨r2,_,rfl,SqT.of er2,rfl,_,_,rfl,_,_,rfl,rfl,?_⟩
      refine ⟨_,rfl,_,rfl,_,_,rfl,rfl,_,rfl,q77 (fun z0=>?_) (fun z0=>?_)⟩
      ·have z0:(pq.1:Int)<=rq.1:=of_decide_eq_true z0
       have tab3:=tab.mono (s1'.trans' a3.same)
       refine ⟨_,rfl,t,dx,_,rfl,tab3.ins,rfl,_,rfl,_,rfl,_,rfl,_,rfl,t,dx,kp,bt,n,m,rs,pq.1,pq.2,rq.1,rq.2,rfl,tab3,q1,r1',sq,sr,fun H6 s6=>⟨_,rfl,rfl,_,rfl,?_⟩⟩
       refine q77 (fun y=>?_) (fun y=>?_)
       ·have y:decide (V.int (q65 rs pq.1 pq.2 rq.1 rq.2:Nat)=V.int (c:Nat))=true:=y
        rw [q75] at y
        have y:q65 rs pq.1 pq.2 rq.1 rq.2=c:=by
         have:((q65 rs pq.1 pq.2 rq.1 rq.2:Nat):Int)=(c:Nat):=by simpa using y
         omega
        refine ⟨_,rfl,_,rfl,q22 (show 2<=100 by decide),fun T1 hT=>?_⟩
        obtain ⟨ys,e1,l1,a6⟩:=a3.put (k:=qk pq.1 rq.1) hp s6 hT
        refine ⟨ys,e1,?_,_,_,rfl,?_⟩
        ·rw [l1]
         refine small_k _ ?_
         have h1:=qa3 (l:=q78 x n) (pgA_len rs c (q78 x n)) i
         have h4:=qa3 (l:=q78 x n) (qS7 rs c pq) j
         have h5:i * (q78 x n).length<=12 * 12:=Nat.mul_le_mul (by omega) (by omega)
         rw [List.length_append]
         omega
        ·have e:qb0 (q78 x n) (j + 1) (pgB rs c pq)=qb0 (q78 x n) j (pgB rs c pq) ++ [qk pq.1 rq.1]:=by
          rw [qa0 z2]; unfold pgB; rw [if_pos ⟨by omega,y⟩]
         rw [e,<- List.append_assoc]
         exact a6
       ·have y:¬ decide (V.int (q65 rs pq.1 pq.2 rq.1 rq.2:Nat)=V.int (c:Nat))=true:=y
        rw [q75] at y
        refine ⟨_,_,rfl,?_⟩
        rw [no (fun w=>y (by rw [w.2]; exact beq_self_eq_true _))]
        exact a3.mono s6
      ·have z0:¬ decide ((pq.1:Int)<=rq.1)=true:=z0
       have z0:¬ (pq.1:Int)<=rq.1:=by simpa using z0
       refine q31 ⟨_,_,rfl,?_⟩
       rw [no (fun w=>z0 (by omega))]
       exact a3
    ·rintro σ H3 ⟨v2,v3,rfl,a3⟩
     refine ⟨_,_,_,_,rfl,?_⟩
     rw [qa0 z]
     rw [List.length_map,lG] at a3
     exact a3
  ·rintro σ H2 ⟨v0,v1,v2,v3,rfl,a2⟩
   rw [List.length_map,lG] at a2
   exact k p H2 hpH (a2.back s1')
end
end K67
namespace K67
open PySem L2
open PyProof.Rows (envOfC)
abbrev qh6:Stmt:=top 21
abbrev qf1:Stmt:=top 24
section
variable {P:Program}{w:World}{K:PySem.W.Frag}{mg:Str->Option Value}{base:Heap}{C fi fa ft fy fm fc:Addr}{gi ga gt gy gm gc:FuncData}
def qH5 (C:Addr):Sp:=fun vs H Q _=>∃(t dx kp bt:Addr) (n m:Nat) (rs:List Str) (x:Str),vs=[.ref t,.str x]/\TabAt C H t dx kp bt n m rs/\Pat n x/\n<=12/\∀ p H',H p=none->Acc H p H' (pgM rs 0 (q78 x n))->Q (.ref p) H'
abbrev Pgp:List Str:=["table", "pattern"]
theorem sc_gaps:FnScope Pgp Pgp (q02 qj7):=⟨rfl,rfl,rfl,by decide +kernel,rfl,by decide +kernel,by decide +kernel⟩
theorem q97 {f fp:Addr}{fd gp:FuncData}(D:Df K mg "gaps" qj7 Pgp f fd) (Dp:Df K mg "pairs_given" s_pg Ppg fp gp) (Gp:FnOk P w K mg base (CXE P w) 4 fp gp Ppg (spPg C)):FnOk P w K mg base (CXE P w) 5 f fd Pgp (qH5 C):=by
 refine D.F.okN sc_gaps (fun vs H Q E h=>?_) (fun cdv A outer s H vs Q E hr h=>?_)
 ·obtain ⟨t,dx,kp,bt,n,m,rs,x,rfl,_⟩:=h
  rfl
 ·obtain ⟨t,dx,kp,bt,n,m,rs,x,rfl,tab,hx,n12,k⟩:=h
  refine ⟨_,q05 (q12 (q14 Dp Gp hr q17 (q00 (pv 0) (q00 (pv 1) (q00 q06 q03))))),?_⟩
  exact ⟨_,rfl,_,rfl,t,dx,kp,bt,n,m,rs,x,0,rfl,tab,hx,n12,k⟩
end
end K67
namespace L2
open PySem PySem.Spec PyProof.Rows
section
variable {X:Cx}
def rSlX:V->Option Int->Option Int->Hp->VK->Prop:=fun x lo hi H Q=>∃ z,x=.str z/\z.length<=sizeLine/\Q (.str (Txt.slice z lo hi)) H
theorem qQ9:SlR X rSlX:=by
 intro pins s σ H x v vl vu lo hi sl Q I rx hs pl pu h
 obtain ⟨z,rfl,hz,q⟩:=h
 obtain ⟨t,rfl⟩:=rx
 have fin:∀(t' k:Nat),EP X pins σ Q (.str (Txt.slice z lo hi) t') { s with toks:=k }:=fun t' k=>⟨.str _,H,I.tok k,⟨t',rfl⟩,q⟩
 refine ⟨"str",_,slot_str_getitem.lookup,typeIs_str _ _ _,?_⟩
 cases pl with
 | none =>
  cases pu with
  | none=>exact wpAny_getItem_str_slice (l:=none) (u:=none) (st:=none) hs rfl (post_val_or_str ⟨Nat.le_trans (Txt.slice_le z _ _) hz,fun t' k=>fin _ _⟩)
  | int j uj=>exact wpAny_getItem_str_slice (l:=none) (u:=some (j,uj)) (st:=none) hs rfl (post_val_or_str ⟨Nat.le_trans (Txt.slice_le z _ _) hz,fun t' k=>fin _ _⟩)
 | int i ui =>
  cases pu with
  | none=>exact wpAny_getItem_str_slice (l:=some (i,ui)) (u:=none) (st:=none) hs rfl (post_val_or_str ⟨Nat.le_trans (Txt.slice_le z _ _) hz,fun t' k=>fin _ _⟩)
  | int j uj=>exact wpAny_getItem_str_slice (l:=some (i,ui)) (u:=some (j,uj)) (st:=none) hs rfl (post_val_or_str ⟨Nat.le_trans (Txt.slice_le z _ _) hz,fun t' k=>fin _ _⟩)
end
theorem qA2 (x:Str) (l u:Option Int) (a b:Nat) (hb:b<=x.length) (e:Builtin.Str.strSliceIndices l u 1 x.length=sliceRange a b 1):(Txt.slice x l u).cps.toList=(x.cps.toList.drop a).take (b - a):=by
 unfold Txt.slice
 rw [e,sliceRange_one]
 by_cases h:((1:Int) == 1 && ((List.range (b - a)).map (a + ·)).length == x.length)=true
 ·rw [if_pos h]
  rw [List.length_map,List.length_range] at h
  have h:b - a=x.length:=by simpa using h
  have ha:a=0∨x.length=0:=by omega
  have hs:x.cps.toList.length=x.length:=by simp [Str.length]
  rcases ha with ha | ha
  ·subst ha
   rw [List.drop_zero,List.take_of_length_le (by omega)]
  ·have:x.cps.toList=[]:=List.length_eq_zero_iff.mp (by omega)
   rw [this]; simp
 ·rw [if_neg h]
  simp only [pick_run]
theorem z08 (x:Str) (q:Nat) (hq:q<=x.length):(Txt.slice x none (some q)).cps.toList=x.cps.toList.take q:=by
 rw [qA2 x none (some q) 0 q hq]
 ·simp
 ·unfold Builtin.Str.strSliceIndices
  simp only [show (1:Int) > 0 by decide,if_true]
  congr 1
  rw [if_neg (by omega)]
  omega
theorem z09 (x:Str) (q:Nat) (hq:q<=x.length):(Txt.slice x (some q) none).cps.toList=x.cps.toList.drop q:=by
 have hs:x.cps.toList.length=x.length:=by simp [Str.length]
 rw [qA2 x (some q) none q x.length (Nat.le_refl _)]
 ·exact List.take_of_length_le (by rw [List.length_drop]; omega)
 ·unfold Builtin.Str.strSliceIndices
  simp only [show (1:Int) > 0 by decide,if_true]
  congr 1
  rw [if_neg (by omega)]
  omega
def qh8 (x:Str) (q a:Nat) (i:Nat):Nat:=if i=q then a else ch x i
theorem qz9 (n:Nat) (c:Nat->Nat):(tx n c).cps.toList=(List.range n).map c:=by unfold tx; simp
theorem with_tx {n q a:Nat}{x:Str}(hx:x.length=n) (hq:q < n):Txt.slice x none (some (q:Int)) ++ (⟨#[a]⟩:Str) ++ Txt.slice x (some ((q:Int) + 1)) none=tx n (qh8 x q a):=by
 have h1:=z08 x q (by omega)
 have h2:=z09 x (q + 1) (by omega)
 have eq1:(((q + 1:Nat):Int))=(q:Int) + 1:=by omega
 rw [eq1] at h2
 have hxl:x.cps.toList=(List.range n).map (ch x):=by
  have:=qd8 hx
  rw [this,qz9]
  refine List.map_congr_left fun i hi=>?_
  rw [q55 (List.mem_range.mp hi)]
 have key:(Txt.slice x none (some (q:Int)) ++ (⟨#[a]⟩:Str) ++ Txt.slice x (some ((q:Int) + 1)) none).cps.toList=(tx n (qh8 x q a)).cps.toList:=by
  show ((Txt.slice x none (some (q:Int))).cps ++ #[a] ++ (Txt.slice x (some ((q:Int) + 1)) none).cps).toList=_
  rw [Array.toList_append,Array.toList_append,h1,h2,hxl,qz9]
  apply List.ext_getElem?
  intro i
  rw [<- List.map_take,<- List.map_drop]
  by_cases hi:i < q
  ·rw [List.append_assoc,List.getElem?_append_left (by rw [List.length_map,List.length_take,List.length_range]; omega),List.getElem?_map,List.getElem?_map,List.getElem?_take,if_pos hi,List.getElem?_range (by omega)]
   show some (ch x i)=some (qh8 x q a i)
   unfold qh8
   rw [if_neg (by omega)]
  ·by_cases he:i=q
   ·subst he
    rw [List.getElem?_append_left (by rw [List.length_append,List.length_map,List.length_take,List.length_range]; show i < min i n + 1; omega),List.getElem?_append_right (by rw [List.length_map,List.length_take,List.length_range]; omega),List.length_map,List.length_take,List.length_range,List.getElem?_map,List.getElem?_range hq]
    have:i - min i n=0:=by omega
    rw [this]
    show some a=some (qh8 x i a i)
    unfold qh8
    rw [if_pos rfl]
   ·have l1:(List.map (ch x) (List.take q (List.range n)) ++ #[a].toList).length=q + 1:=by
     rw [List.length_append,List.length_map,List.length_take,List.length_range]
     show min q n + 1=q + 1
     omega
    rw [List.getElem?_append_right (by rw [l1]; omega),l1,List.getElem?_map,List.getElem?_drop,List.getElem?_map]
    have e:q + 1 + (i - (q + 1))=i:=by omega
    rw [e]
    by_cases hn:i < n
    ·rw [List.getElem?_range hn]
     show some (ch x i)=some (qh8 x q a i)
     unfold qh8
     rw [if_neg he]
    ·rw [List.getElem?_eq_none (by rw [List.length_range]; omega)]
     rfl
 have:∀ s t:Str,s.cps.toList=t.cps.toList->s=t:=fun s t h=>by
  obtain ⟨s⟩:=s
  obtain ⟨t⟩:=t
  congr 1
  exact Array.toList_inj.mp h
 exact this _ _ key
def qe2 (rs:List Str) (n:Nat) (x:Str):Prop:=∀ q r,q < n->r < n->¬ ch x q=45->¬ ch x r=45->0 < q65 rs q (ch x q) r (ch x r)
def qz1 (rs:List Str) (n:Nat) (x:Str) (q a:Nat):Prop:=0 < q65 rs q a q a/\∀ r,r < n->¬ ch x r=45->0 < q65 rs q a r (ch x r)
theorem cnt_pos {rs:List Str}{q a r b:Nat}:0 < q65 rs q a r b↔∃ x∈rs,ch x q=a/\ch x r=b:=by
 unfold q65
 rw [List.countP_pos_iff]
 exact ⟨fun ⟨x,h,e⟩=>⟨x,h,of_decide_eq_true e⟩,fun ⟨x,h,e⟩=>⟨x,h,decide_eq_true e⟩⟩
theorem fit_set {rs:List Str}{n:Nat}{x:Str}{q a:Nat}(hS:qe2 rs n x) (hq:q < n) (hf:qz1 rs n x q a):qe2 rs n (tx n (qh8 x q a)):=by
 intro i j hi hj
 rw [q55 hi,q55 hj]
 unfold qh8
 by_cases e1:i=q
 ·rw [if_pos e1]
  by_cases e2:j=q
  ·rw [if_pos e2,e1,e2]; exact fun _ _=>hf.1
  ·rw [if_neg e2,e1]; exact fun _ h=>hf.2 j hj h
 ·rw [if_neg e1]
  by_cases e2:j=q
  ·rw [if_pos e2,e2]
   intro h _
   rw [ql0]
   exact hf.2 i hi h
  ·rw [if_neg e2]; exact fun h1 h2=>hS i j hi hj h1 h2
theorem stands_of {rs:List Str}{n:Nat}{x:Str}(h:pgM rs 0 (q78 x n)=[]):qe2 rs n x:=by
 have go:∀ q r,q < n->r < n->q<=r->¬ ch x q=45->¬ ch x r=45->0 < q65 rs q (ch x q) r (ch x r):=fun q r hq hr hle nq nr=>by
  cases z:q65 rs q (ch x q) r (ch x r) with
  | succ _=>omega
  | zero =>
   exfalso
   have:qk q r∈pgM rs 0 (q78 x n):=by
    refine List.mem_flatMap.mpr ⟨(q,ch x q),?_,List.mem_flatMap.mpr ⟨(r,ch x r),?_,?_⟩⟩
    ·rw [List.take_length]; exact qk3 hq nq
    ·rw [List.take_length]; exact qk3 hr nr
    ·unfold pgB
     rw [if_pos ⟨hle,z⟩]
     exact List.mem_singleton.mpr rfl
   rw [h] at this
   cases this
 intro q r hq hr nq nr
 by_cases hle:q<=r
 ·exact go q r hq hr hle nq nr
 ·rw [ql0]; exact go r q hr hq (by omega) nr nq
theorem qJ8 {rs:List Str}{n:Nat}{x:Str}(h:qe2 rs n x):pgM rs 0 (q78 x n)=[]:=by
 refine List.eq_nil_iff_forall_not_mem.mpr fun k hk=>?_
 obtain ⟨p,hp,hk⟩:=List.mem_flatMap.mp hk
 obtain ⟨p',hp',hk⟩:=List.mem_flatMap.mp hk
 obtain ⟨h1,h2,h5⟩:=qh3 (List.mem_of_mem_take hp)
 obtain ⟨h3,h4,h6⟩:=qh3 (List.mem_of_mem_take hp')
 have:=h p.1 p'.1 h1 h3 (by rw [<- h2]; exact h5) (by rw [<- h4]; exact h6)
 unfold pgB at hk
 rw [if_neg (fun z=>by rw [h2,h4] at z; omega)] at hk
 cases hk
end L2
namespace K67
open PySem L2
open PyProof.Rows (envOfC)
abbrev qq1:Stmt:=top 29
abbrev qq5:Stmt:=top 43
abbrev qm9:Stmt:=top 44
def qZ4 (x:Str) (q:Nat):List Nat:=if ch x q=45 then [q] else []
def qt2 (x:Str) (n:Nat):List Nat:=(List.range n).flatMap (qZ4 x)
theorem qo5 (x:Str) (n:Nat):qt2 x (n + 1)=qt2 x n ++ qZ4 x n:=by unfold qt2; rw [List.range_succ,List.flatMap_append]; simp
theorem qw8 (x:Str):∀ n,(qt2 x n).length<=n
 | 0=>by simp [qt2]
 | n + 1=>by
  rw [qo5,List.length_append]
  have:(qZ4 x n).length<=1:=by unfold qZ4; split <;> simp
  have:=qw8 x n
  omega
theorem opn_mem {x:Str}{n q:Nat}:q∈qt2 x n↔q < n/\ch x q=45:=by
 constructor
 ·intro h
  obtain ⟨i,hi,h⟩:=List.mem_flatMap.mp h
  unfold qZ4 at h
  split at h
  ·rename_i z
   rw [List.mem_singleton.mp h]
   exact ⟨List.mem_range.mp hi,z⟩
  ·cases h
 ·rintro ⟨h1,h2⟩
  refine List.mem_flatMap.mpr ⟨q,List.mem_range.mpr h1,?_⟩
  unfold qZ4
  rw [if_pos h2]
  exact List.mem_singleton.mpr rfl
def vN (q:Nat):V:=.int (q:Nat)
section
variable {P:Program}{w:World}{K:PySem.W.Frag}{mg:Str->Option Value}{base:Heap}{C fi fa ft fy fm fc:Addr}{gi ga gt gy gm gc:FuncData}
def spOpen:Sp:=fun vs H Q _=>∃(x:Str) (n:Nat),vs=[.str x]/\x.length=n/\n<=12/\∀ p H',H p=none->Same H H'->H' p=some (.lst ((qt2 x n).map vN))->Q (.ref p) H'
theorem sc_open:FnScope ["pattern"] ["pattern"] (q02 qq5):=⟨rfl,rfl,rfl,by decide +kernel,rfl,by decide +kernel,by decide +kernel⟩
theorem ok_open {f:Addr}{fd:FuncData}(D:Df K mg "open_places" qq5 ["pattern"] f fd) (M:Gm mg):FnOk P w K mg base (CXE P w) 1 f fd ["pattern"] spOpen:=by
 refine D.F.okN sc_open (fun vs H Q E h=>?_) (fun cdv A outer s H vs Q E hr h=>?_)
 ·obtain ⟨x,n,rfl,_⟩:=h
  rfl
 ·obtain ⟨x,n,rfl,hx,n12,k⟩:=h
  refine ⟨_,q05 (q12 (q29 (g:=qD5 K 2 (q64 (q54 0) (q64 (q54 1) qD6))) (N':=["question", "sign"]) (fm:=[none,none]) rfl ⟨rfl,by decide +kernel,by decide +kernel,rfl,rfl,rfl⟩
    (ql7 (by rfl) M.enum (q00 (pv 0) q03))
    (fun _ _ _ _=>qa8 rfl (q23 (q11 (i:=0) qJ0 rfl (Or.inl rfl)) (q23 (q11 (i:=1) qJ0 rfl (Or.inl rfl)) q72)))
    (fun _ _ _ _=>q63 (q10 q37 (pv 1) q20 (q13 _)))
    (fun _ _ _ _=>pv 0))),?_⟩
  refine ⟨_,rfl,x,rfl,fun p hp=>?_⟩
  refine qp0 (fun i σ H2=>∃ v0 v1,σ=[v0,v1]/\Same H H2/\H2 p=some (.lst ((qt2 x i).map vN))) ⟨none,none,rfl,Same.new hp,q01⟩ ?_ ?_
  ·rintro i T σ H2 hi hT ⟨v0,v1,rfl,s2,e2⟩
   rw [hx] at hi
   have sT:=Same.new (o:=.tup [.int i,sg x i]) hT
   refine ⟨T,_,rfl,SqT.of q01,rfl,_,_,rfl,_,_,rfl,rfl,?_⟩
   refine ⟨_,rfl,rfl,_,rfl,q77 (fun z=>?_) (fun z=>?_)⟩
   ·have z:decide (s1 (ch x i)=s1 45)=true:=z
    rw [q68] at z
    have z:ch x i=45:=by simpa using z
    refine ⟨_,rfl,_,sT _ _ e2,?_,_,_,rfl,Same.grow hp (s2.trans' sT),?_⟩
    ·rw [List.length_map]
     have:=qw8 x i
     exact Nat.lt_of_le_of_lt (show _<=12 by omega) (by decide)
    ·rw [q01,qo5,List.map_append]
     unfold qZ4
     rw [if_pos z]
     rfl
   ·have z:¬ decide (s1 (ch x i)=s1 45)=true:=z
    rw [q68] at z
    have z:¬ ch x i=45:=by simpa using z
    refine ⟨_,_,rfl,s2.trans' sT,?_⟩
    rw [qo5]
    unfold qZ4
    rw [if_neg z,List.append_nil]
    exact sT _ _ e2
  ·rintro σ H2 ⟨v0,v1,rfl,s2,e2⟩
   rw [hx] at e2
   exact k p H2 hp s2 e2
def qQ1 (C:Addr):Sp:=fun vs H Q _=>∃(t dx kp bt:Addr) (n m:Nat) (rs:List Str) (x:Str) (q a:Nat),vs=[.ref t,.str x,.int q,s1 a]/\TabAt C H t dx kp bt n m rs/\Pat n x/\n<=12/\q < n/\qY9 a/\∀(b:Bool) H',(b=true↔qz1 rs n x q a)->Same H H'->Q (.bl b) H'
abbrev Nft:List Str:=["table", "pattern", "question", "sign", "given"]
abbrev Pft:List Str:=["table", "pattern", "question", "sign"]
theorem sc_fits:FnScope Nft Pft (q02 qm9):=⟨rfl,rfl,rfl,by decide +kernel,rfl,by decide +kernel,by decide +kernel⟩
abbrev Nfc:List Str:=["r", "b", "table", "question", "sign"]
theorem nd_fc:Nfc.Nodup:=by decide +kernel
def fitB (rs:List Str) (q a:Nat) (p:Nat×Nat):Bool:=decide (0 < q65 rs q a p.1 p.2)
theorem fit_all (rs:List Str) (n:Nat) (x:Str) (q a:Nat) (hq:q < n):((q78 x n ++ [(q,a)]).map (fitB rs q a)).all id=true↔qz1 rs n x q a:=by
 rw [List.all_eq_true]
 constructor
 ·intro h
  refine ⟨of_decide_eq_true (h _ (List.mem_map.mpr ⟨(q,a),List.mem_append_right _ (List.mem_singleton.mpr rfl),rfl⟩)),fun r hr hx=>?_⟩
  exact of_decide_eq_true (h _ (List.mem_map.mpr ⟨(r,ch x r),List.mem_append_left _ (qk3 hr hx),rfl⟩))
 ·rintro ⟨h1,h2⟩ b hb
  obtain ⟨p,hp,rfl⟩:=List.mem_map.mp hb
  refine decide_eq_true ?_
  rcases List.mem_append.mp hp with hp | hp
  ·obtain ⟨e1,e2,e3⟩:=qh3 hp
   rw [e2]
   exact h2 p.1 e1 (by rw [<- e2]; exact e3)
  ·rw [List.mem_singleton.mp hp]; exact h1
theorem qU2 {f fn:Addr}{fd gn:FuncData}(D:Df K mg "fits" qm9 Pft f fd) (Dn:Df K mg "answers" qA8 ["pattern"] fn gn) (T:Tb K mg C fi fa ft fy fm fc gi ga gt gy gm gc) (Gc:FnOk P w K mg base (CXE P w) 3 fc gc Ptc (qj6 C)) (B:Bt mg) (M:Gm mg):FnOk P w K mg base (CXE P w) 4 f fd Pft (qQ1 C):=by
 refine D.F.okN sc_fits (fun vs H Q E h=>?_) (fun cdv A outer s H vs Q E hr h=>?_)
 ·obtain ⟨t,dx,kp,bt,n,m,rs,x,q,a,rfl,_⟩:=h
  rfl
 ·obtain ⟨t,dx,kp,bt,n,m,rs,x,q,a,rfl,tab,hx,n12,hq,ha,k⟩:=h
  refine ⟨_,q04 (q21 (i:=4) sc_fits.nd rfl (Or.inl rfl) (q24 za5 (q14 Dn (za6 Dn M) (hr.mono (by decide)) q17 (q00 (pv 1) q03)) (q36 (q00 (q84 (q00 (pv 2) (q00 (pv 3) q03))) q03))))
   (q05 (q12 (q15 (ql1 rfl) (by rfl) B.all (by rfl) (q00 (q29 (g:=qD5 K 2 (q64 (q54 0) (q64 (q54 1) qD6))) (N':=Nfc) (fm:=[none,none,some 0,some 2,some 3]) rfl ⟨rfl,by decide +kernel,by decide +kernel,rfl,rfl,rfl⟩
    (q35 (pv 4)) (fun _ _ _ _=>qa8 rfl (q23 (q11 (i:=0) nd_fc rfl (Or.inl rfl)) (q23 (q11 (i:=1) nd_fc rfl (Or.inl rfl)) q72))) (fun _ _ _ _=>q42)
    (fun _ _ _ _=>q50 qT2 (q96 (pv 2) T.cl T.mc Gc hr T.bc .nil q17 (q00 (pv 3) (q00 (pv 4) (q00 (pv 0) (q00 (pv 1) q03))))) q06 (q13 _))) q03)))),?_⟩
  refine ⟨_,rfl,x,n,rfl,hx.len,n12,fun g H1 hg a1=>?_⟩
  obtain ⟨s1',grs,eg,tg⟩:=a1
  refine ⟨_,rfl,_,rfl,q22 (show 2<=100 by decide),fun T1 hT1=>⟨q22 (show 1<=100 by decide),fun l1 hl1=>?_⟩⟩
  have sT:=Same.new (o:=.tup [.int q,s1 a]) hT1
  have sl:=Same.new (o:=.lst [.ref T1]) hl1
  have s3:=sT.trans' sl
  have gl:=qp1 x n
  refine ⟨g,l1,_,_,rfl,rfl,s3 _ _ eg,q01,?_,fun g2 hg2=>?_⟩
  ·rw [List.length_map,tg.1,List.length_map]
   exact q22 (show (q78 x n).length + 1<=100 by omega)
  have s4:=Same.new (o:=.lst (grs.map V.ref ++ [.ref T1])) hg2
  have s14:=s3.trans' s4
  have tk:Tups (upd (upd (upd H1 T1 (.tup [.int q,s1 a])) l1 (.lst [.ref T1])) g2 (.lst (grs.map V.ref ++ [.ref T1]))) (grs ++ [T1]) ((q78 x n ++ [(q,a)]).map skP):=by
   rw [List.map_append]
   exact (tg.mono s14).append (.one (s4 _ _ (sl _ _ q01)))
  have eg2:upd (upd (upd H1 T1 (.tup [.int q,s1 a])) l1 (.lst [.ref T1])) g2 (.lst (grs.map V.ref ++ [.ref T1])) g2=some (.lst ((grs ++ [T1]).map V.ref)):=by
   rw [q01,List.map_append]; rfl
  refine ⟨_,rfl,g2,rfl,⟨_,SqL.of eg2⟩,fun p hp=>?_⟩
  have lG:(grs ++ [T1]).length=(q78 x n ++ [(q,a)]).length:=by rw [tk.1,List.length_map]
  have pats:∀ pr∈q78 x n ++ [(q,a)],pr.1 < n/\qY9 pr.2:=fun pr h=>by
   rcases List.mem_append.mp h with h | h
   ·exact qR0 hx h
   ·rw [List.mem_singleton.mp h]; exact ⟨hq,ha⟩
  refine q40 (K:=K) (a:=g2) (xs:=(grs ++ [T1]).map V.ref) (fun i σ H2=>∃ v0 v1,σ=[v0,v1,some (.ref t),some (.int q),some (s1 a)]/\Same (upd (upd (upd H1 T1 (.tup [.int q,s1 a])) l1 (.lst [.ref T1])) g2 (.lst (grs.map V.ref ++ [.ref T1]))) H2/\H2 p=some (.lst ((((q78 x n ++ [(q,a)]).take i).map (fitB rs q a)).map V.bl)))
   ⟨none,none,rfl,Same.new hp,q01⟩ (fun i σ H2 _ ⟨_,_,_,s2,_⟩=>SqL.of (s2 _ _ eg2)) ?_ ?_
  ·rintro i y σ H2 hi ⟨v0,v1,rfl,s2,e2⟩
   obtain ⟨r1,k1,rfl,ek,er⟩:=(tk.mono s2).item hi
   rw [List.getElem?_map] at ek
   cases z:(q78 x n ++ [(q,a)])[i]? with
   | none=>rw [z] at ek; cases ek
   | some pr =>
    rw [z] at ek
    cases ek
    obtain ⟨p1,p2⟩:=pats pr (List.mem_of_getElem? z)
    have tab2:=tab.mono (s1'.trans' (s14.trans' s2))
    refine qj4 er ?_
    refine ⟨_,rfl,t,dx,_,rfl,tab2.ins,rfl,_,rfl,_,rfl,_,rfl,_,rfl,t,dx,kp,bt,n,m,rs,q,a,pr.1,pr.2,rfl,tab2,hq,p1,ha,p2,fun H6 s6=>?_⟩
    refine ⟨_,_,rfl,rfl,_,s6 _ _ e2,?_,_,_,rfl,Same.grow hp (s2.trans' s6),?_⟩
    ·rw [List.length_map,List.length_map,List.length_take,List.length_append]
     exact Nat.lt_of_le_of_lt (show _<=13 by show min i ((q78 x n).length + 1)<=13; omega) (by decide)
    ·rw [q01,List.take_add_one,z,List.map_append,List.map_append]
     have e:fitB rs q a pr=decide ((0:Int) < (q65 rs q a pr.1 pr.2:Nat)):=by
      unfold fitB
      exact decide_eq_decide.mpr ⟨fun h=>by omega,fun h=>by omega⟩
     show some (HO.lst (_ ++ [V.bl (decide ((0:Int) < (q65 rs q a pr.1 pr.2:Nat)))]))=some (HO.lst (_ ++ [V.bl (fitB rs q a pr)]))
     rw [e]
  ·rintro σ H2 ⟨v0,v1,rfl,s2,e2⟩
   rw [List.length_map,lG,List.take_length] at e2
   exact ⟨p,_,rfl,SqL.of e2,k _ H2 (fit_all rs n x q a hq) (s1'.trans' (s14.trans' s2))⟩
def spWith:Sp:=fun vs H Q _=>∃(x:Str) (n q a:Nat),vs=[.str x,.int q,s1 a]/\x.length=n/\q < n/\n<=100/\Q (.str (tx n (qh8 x q a))) H
abbrev Pwi:List Str:=["pattern", "question", "sign"]
theorem sc_with:FnScope Pwi Pwi (q02 qq1):=⟨rfl,rfl,rfl,by decide +kernel,rfl,by decide +kernel,by decide +kernel⟩
theorem ok_with {f:Addr}{fd:FuncData}(D:Df K mg "with_answer" qq1 Pwi f fd):FnOk P w K mg base (CXE P w) 1 f fd Pwi spWith:=by
 refine D.F.okN sc_with (fun vs H Q E h=>?_) (fun cdv A outer s H vs Q E hr h=>?_)
 ·obtain ⟨x,n,q,a,rfl,_⟩:=h
  rfl
 ·obtain ⟨x,n,q,a,rfl,hx,hq,hn,k⟩:=h
  refine ⟨_,q05 (q12 (q24 qa1 (q24 qa1 (qd2 qQ9 (pv 0) qi7 (qi6 (pv 1))) (pv 2)) (qd2 qQ9 (pv 0) (qi6 (q24 q47 (pv 1) q06)) qi7))),?_⟩
  have sz:x.length<=sizeLine:=by rw [hx]; exact q22 hn
  have l1:=Txt.slice_le x none (some (q:Int))
  have l2:=Txt.slice_le x (some ((q:Int) + 1)) none
  refine ⟨_,rfl,_,rfl,_,rfl,_,rfl,sz,_,rfl,_,_,rfl,rfl,?_,_,rfl,_,rfl,_,_,rfl,rfl,_,rfl,_,rfl,sz,_,_,rfl,rfl,?_,?_⟩
  ·show (Txt.slice x none (some (q:Int))).length + 1<=sizeLine
   rw [sizeLine_eq]; omega
  ·have e:(Txt.slice x none (some (q:Int)) ++ (⟨#[a]⟩:Str)).length=(Txt.slice x none (some (q:Int))).length + 1:=by
    show ((Txt.slice x none (some (q:Int))).cps ++ #[a]).size=_
    rw [Array.size_append]; rfl
   show (Txt.slice x none (some (q:Int)) ++ (⟨#[a]⟩:Str)).length + (Txt.slice x (some ((q:Int) + 1)) none).length<=sizeLine
   rw [e,sizeLine_eq]; omega
  ·have:=with_tx (a:=a) hx hq
   rw [<- this] at k
   exact k
end
end K67
namespace K67
open PySem L2
abbrev qA7:Stmt:=top 75
abbrev s_go:Stmt:=top 26
section
variable {P:Program}{w:World}{K:PySem.W.Frag}{mg:Str->Option Value}{base:Heap}
def qx7 (a b c:Nat->Nat) (i:Nat):Nat:=if b i=c i then b i else a i
def spLgo:Sp:=fun vs H Q _=>∃(a b c:Nat->Nat) (n:Nat),vs=[.str (tx n a),.str (tx n b),.str (tx n c)]/\n<=100/\Q (.str (tx n (qx7 a b c))) H
abbrev Ng:List Str:=["_law_one", "_law_two", "_law_three", "_law_found", "_law_k"]
abbrev Pg:List Str:=["_law_one", "_law_two", "_law_three"]
theorem sc_lgo:FnScope Ng Pg (q02 qA7):=⟨rfl,rfl,rfl,by decide +kernel,rfl,by decide +kernel,by decide +kernel⟩
theorem qT9 {f:Addr}{fd:FuncData}(D:Df K mg "_law_go" qA7 Pg f fd) (B:Bt mg):FnOk P w K mg base (CXE P w) 1 f fd Pg spLgo:=by
 refine D.F.okN sc_lgo (fun vs H Q E h=>?_) (fun cdv A outer s H vs Q E hr h=>?_)
 ·obtain ⟨a,b,c,n,rfl,_⟩:=h
  rfl
 ·obtain ⟨a,b,c,n,rfl,hn,q⟩:=h
  refine ⟨_,q04 (q21 (i:=3) sc_lgo.nd rfl (Or.inl rfl) q20)
   (q04 (q91 PassesOwn.never rfl (q34 (by rfl) B.range (q00 (q15 q49 (by rfl) B.len PySem.boot_len (q00 (pv 0) q03)) q03)) (q11 (i:=4) sc_lgo.nd rfl (Or.inl rfl))
    (q05 (q21 (i:=3) sc_lgo.nd rfl (Or.inl rfl) (q24 qa1 (pv 3) (q58 (q10 q37 (q25 q62 (pv 1) (pv 4) (fun _ _=>rfl)) (q25 q62 (pv 2) (pv 4) (fun _ _=>rfl)) (q13 _)) (q25 q62 (pv 1) (pv 4) (fun _ _=>rfl)) (q25 q62 (pv 0) (pv 4) (fun _ _=>rfl)))))))
   (q05 (q12 (pv 3)))),?_⟩
  refine ⟨_,rfl,_,rfl,qg7 _ _ (by omega),_,rfl,by omega,by rw [q60]; omega,?_⟩
  have en:(((tx n a).length:Nat):Int).toNat=n:=by rw [q60]; omega
  rw [en]
  refine q52 (fun i σ H2=>∃ v,σ=[some (.str (tx n a)),some (.str (tx n b)),some (.str (tx n c)),some (.str (tx i (qx7 a b c))),v]/\H2=H) ⟨none,rfl,rfl⟩ ?_ ?_
  ·rintro i σ H2 hi ⟨v,rfl,rfl⟩
   have ei:(0:Int) + (i:Int)=(i:Int):=Int.zero_add _
   have at':∀ a:Nat->Nat,atI (tx n a).cps.toList (0 + (i:Int))=some (a i):=fun a=>by rw [ei]; exact z00 hi
   refine ⟨_,rfl,_,rfl,_,rfl,_,_,_,rfl,rfl,qg7 _ _ (by omega),at' b,_,rfl,_,rfl,_,_,_,rfl,rfl,qg7 _ _ (by omega),at' c,rfl,_,rfl,?_⟩
   refine q77 (fun z=>?_) (fun z=>?_)
   ·have z:s1 (b i)=s1 (c i):=of_decide_eq_true z
    rw [qE8] at z
    refine ⟨_,rfl,_,rfl,_,_,_,rfl,rfl,qg7 _ _ (by omega),at' b,_,_,rfl,rfl,qe4 i _ _ (by omega),some (.int (0 + i)),?_,rfl⟩
    rw [qo2 (show b i=qx7 a b c i from (if_pos z).symm)]
    rfl
   ·have z:¬ s1 (b i)=s1 (c i):=fun y=>z (decide_eq_true y)
    rw [qE8] at z
    refine ⟨_,rfl,_,rfl,_,_,_,rfl,rfl,qg7 _ _ (by omega),at' a,_,_,rfl,rfl,qe4 i _ _ (by omega),some (.int (0 + i)),?_,rfl⟩
    rw [qo2 (show a i=qx7 a b c i from (if_neg z).symm)]
    rfl
  ·rintro σ H2 ⟨v,rfl,rfl⟩
   exact ⟨_,rfl,q⟩
def goC (a b c:Nat->Nat) (i:Nat):Nat:=if a i=b i then a i else c i
def spGo:Sp:=fun vs H Q _=>∃(a b c:Nat->Nat) (n:Nat),vs=[.str (tx n a),.str (tx n b),.str (tx n c)]/\n<=100/\∀ H',Same H H'->Q (.str (tx n (goC a b c))) H'
abbrev Po:List Str:=["one", "two", "three"]
theorem sc_go:FnScope Po Po (q02 s_go):=⟨rfl,rfl,rfl,by decide +kernel,rfl,by decide +kernel,by decide +kernel⟩
theorem qV1:(["a", "b", "c"]:List Str).Nodup:=by decide +kernel
theorem ok_go {f:Addr}{fd:FuncData}(D:Df K mg "go" s_go Po f fd) (B:Bt mg):FnOk P w K mg base (CXE P w) 1 f fd Po spGo:=by
 refine D.F.okN sc_go (fun vs H Q E h=>?_) (fun cdv A outer s H vs Q E hr h=>?_)
 ·obtain ⟨a,b,c,n,rfl,_⟩:=h
  rfl
 ·obtain ⟨a,b,c,n,rfl,hn,q⟩:=h
  refine ⟨_,q05 (q12 (qi8 PySem.F.plainAttrs_str PySem.F.slot_str_join PySem.F.type_str_join qx4 q20 (q00
   (q29 (g:=qD5 K 3 (q64 (q54 0) (q64 (q54 1) (q64 (q54 2) qD6)))) (N':=["a", "b", "c"]) (fm:=[none,none,none]) rfl ⟨rfl,by decide +kernel,by decide +kernel,rfl,rfl,rfl⟩
    (pi_zip3 (by rfl) B.zip (q00 (pv 0) (q00 (pv 1) (q00 (pv 2) q03))))
    (fun _ _ _ _=>qa8 rfl (q23 (q11 (i:=0) qV1 rfl (Or.inl rfl)) (q23 (q11 (i:=1) qV1 rfl (Or.inl rfl)) (q23 (q11 (i:=2) qV1 rfl (Or.inl rfl)) q72)))) (fun _ _ _ _=>q42)
    (fun _ _ _ _=>q58 (q10 q37 (pv 0) (pv 1) (q13 _)) (pv 0) (pv 2))) q03))),?_⟩
  refine ⟨rfl,_,rfl,_,rfl,_,rfl,_,_,_,rfl,fun p hp=>?_⟩
  refine z83 (fun i σ H2=>∃ u v y,σ=[u,v,y]/\Same H H2/\H2 p=some (.lst ((List.range i).map fun j=>s1 (goC a b c j)))) ⟨none,none,none,rfl,Same.new hp,q01⟩ (by rw [q60,q60]; exact Nat.le_refl _) (by rw [q60,q60]; exact Nat.le_refl _) ?_ ?_
  ·rintro i T σ H2 hi hT ⟨u,v,y,rfl,s2,e2⟩
   rw [q60] at hi
   refine qO5 q01 ?_
   rw [sg_tx hi,sg_tx hi,sg_tx hi]
   have e3:upd H2 T (.tup [s1 (a i),s1 (b i),s1 (c i)]) p=some (.lst ((List.range i).map fun j=>s1 (goC a b c j))):=Same.new hT p _ e2
   have s3:Same H (upd H2 T (.tup [s1 (a i),s1 (b i),s1 (c i)])):=s2.trans' (Same.new hT)
   refine ⟨_,rfl,_,rfl,rfl,_,rfl,?_⟩
   refine q77 (fun z=>?_) (fun z=>?_)
   ·have z:s1 (a i)=s1 (b i):=of_decide_eq_true z
    rw [qE8] at z
    refine ⟨_,rfl,_,e3,q41 _ _ (by omega),_,_,_,rfl,Same.grow hp s3,?_⟩
    rw [q01,<- q90,show goC a b c i=a i from if_pos z]
   ·have z:¬ s1 (a i)=s1 (b i):=fun y=>z (decide_eq_true y)
    rw [qE8] at z
    refine ⟨_,rfl,_,e3,q41 _ _ (by omega),_,_,_,rfl,Same.grow hp s3,?_⟩
    rw [q01,<- q90,show goC a b c i=c i from if_neg z]
  ·rintro σ H2 ⟨u,v,y,rfl,s2,e2⟩
   rw [q60] at e2
   refine ⟨_,p,(List.range n).map fun j=>(⟨#[goC a b c j]⟩:Str),rfl,rfl,?_,by decide,?_,?_⟩
   ·rw [List.map_map]
    exact SqL.of e2
   ·rw [qx9,List.length_map,List.length_range]; omega
   ·rw [qv4]
    exact q H2 s2
end
end K67
namespace L2
open PySem PySem.Spec PyProof.Rows
def z85 (h:Heap) (H:Hp) (st:List Env):Heap:=PySem.W.hideAll h (trk h H ++ frs st)
theorem qy9 {h:Heap}{H:Hp}{st:List Env}{b:Addr}{o:Obj}(e:h.get? b=some o) (n:H b=none) (hf:b∉frs st):(z85 h H st).get? b=some o :=
 PySem.W.hideAll_get _ e fun hm=>by
  rcases List.mem_append.mp hm with hm | hm
  ·have q:(H b).isSome=true:=(List.mem_filter.mp hm).2
   rw [n] at q; simp at q
  ·exact hf hm
theorem of_bigB {h:Heap}{H:Hp}{st:List Env}{b:Addr}{o:Obj}(e:(z85 h H st).get? b=some o):h.get? b=some o/\H b=none:=by
 have e':h.get? b=some o:=PySem.W.of_hideAll _ e
 refine ⟨e',?_⟩
 cases q:H b with
 | none=>rfl
 | some x =>
  have hm:b∈trk h H:=List.mem_filter.mpr ⟨List.mem_range.mpr (Heap.lt_size e'),by simp [q]⟩
  have z:(z85 h H st).get? b=none:=PySem.W.hideAll_none _ (List.mem_append_left _ hm)
  rw [z] at e; cases e
theorem Mod.keeps {K:PySem.W.Frag}{mg:Str->Option Value}{b1 b2:Heap}(m:Mod K mg b1) (k:∀ b o,b1.get? b=some o->b2.get? b=some o):Mod K mg b2 :=
 ⟨m.kin.keeps k,m.glob.keeps k,let ⟨mb,h1,h2⟩:=m.blt; ⟨mb,h1.keeps k,h2⟩,m.nolimit.keeps k⟩
theorem Env0.stays {P:Program}{w:World}{K:PySem.W.Frag}{mg:Str->Option Value}{base:Heap}{A:Around}{outer:List Env}{s:Shared}{H:Hp}(e:Env0 P w K mg base A outer s H) {b:Addr}{o:Obj}(q:base.get? b=some o):(z85 s.heap H outer).get? b=some o :=
 qy9 (e.bs b o q).1 (e.bs b o q).2 fun hm=>by
  have:=(e.funs.mem hm).1
  rw [q] at this; cases this
theorem Env0.big {P:Program}{w:World}{K:PySem.W.Frag}{mg:Str->Option Value}{base:Heap}{A:Around}{outer:List Env}{s:Shared}{H:Hp}(e:Env0 P w K mg base A outer s H):Env0 P w K mg (z85 s.heap H outer) A outer s H :=
 ⟨e.frames,e.mod.keeps fun _ _ q=>e.stays q,fun _ _ q=>of_bigB q,Nat.le_of_eq (PySem.W.hideAll_size _ _),PySem.W.funFrames_hide e.funs fun env he a ha=>List.mem_append_right _ (List.mem_filterMap.mpr ⟨env,he,ha⟩),e.frf,e.hok,e.bare⟩
def CodeE (c:Addr) (q:Str):HO:=.ext fun h=>h.CodeRec (.ref c) q
theorem CodeE.ok {P:Program}{w:World}{H:Hp}{h:Heap}{c:Addr}{q:Str}(r:h.CodeRec (.ref c) q):ObjOk P w H h c (CodeE c q):=by
 refine ⟨r,?_,fun h1 h2 r1 k=>?_⟩
 ·obtain ⟨_,o,_,_,e,ho,_⟩:=r
  cases e
  exact ⟨o,ho⟩
 ·obtain ⟨_,o,vs,t,e,ho,r⟩:=r1
  cases e
  exact ⟨c,o,vs,t,rfl,k o ho,r⟩
structure TabOk (H:Hp) (P:Addr) (q:Str):Prop where
 ex:∃ ps,H P=some (.tbl ps)/\TriplesOk ps.toList/\∀ pos cv,codeAmong pos ps.toList=some cv->∃ c,cv=.ref c/\c≠P/\H c=some (CodeE c q)
theorem TabOk.same {H H':Hp}{P:Addr}{q:Str}(t:TabOk H P q) (e:Same H H'):TabOk H' P q:=by
 obtain ⟨ps,h1,h2,h3⟩:=t
 exact ⟨ps,e _ _ h1,h2,fun pos cv z=>let ⟨c,e1,e2,e3⟩:=h3 pos cv z; ⟨c,e1,e2,e _ _ e3⟩⟩
theorem qv2 (pos p2:Pos) (c v:Value):∀(l:List Value),TriplesOk l->codeAmong pos (l ++ [rawInt p2.line,rawInt p2.col,c])=some v->codeAmong pos l=some v∨v=c
 | [],_,h=>by
  rw [List.nil_append] at h
  unfold rawInt at h
  simp only [codeAmong] at h
  split at h
  ·exact .inr (Option.some.inj h).symm
  ·cases h
 | .int a _ :: .int b _ :: x :: r,ok,h=>by
  simp only [List.cons_append,codeAmong] at h ⊢
  split at h
  ·rename_i z
   rw [if_pos z]
   exact .inl h
  ·rename_i z
   rw [if_neg z]
   exact qv2 pos p2 c v r ok h
def SameP (P:Addr) (H H':Hp):Prop:=∀ b o,b≠P->H b=some o->H' b=some o
theorem SameP.refl (P:Addr) (H:Hp):SameP P H H:=fun _ _ _ e=>e
theorem SameP.trans {P:Addr}{H H1 H2:Hp}(a:SameP P H H1) (b:SameP P H1 H2):SameP P H H2:=fun c o n e=>b c o n (a c o n e)
theorem SameP.of {P:Addr}{H H':Hp}(e:Same H H'):SameP P H H':=fun b o _ q=>e b o q
end L2
namespace L2
open PySem PySem.Spec PyProof.Rows
structure BMain (mg:Str->Option Value) (base:Heap):Prop where
 ex:∃ bm ob,mg "__builtins__" = some (.ref bm)/\bm≠builtinsNs/\base.get? bm=some ob/\ob.cls=.type "module" /\ ob.dict=some builtinsNs/\ob.data=.plain
theorem BMain.keeps {mg:Str->Option Value}{b1 b2:Heap}(m:BMain mg b1) (k:∀ b o,b1.get? b=some o->b2.get? b=some o):BMain mg b2 :=
 let ⟨bm,ob,e1,e2,e3,r⟩:=m.ex; ⟨bm,ob,e1,e2,k _ _ e3,r⟩
abbrev qJ7 (qual:Str) (params:Arguments) (body:Expr) (scope:Scope) (cl:List (Str×Addr)) (pm:Value) (c:Addr) (ctv:Value):Obj:=PySem.W.kla_obj "<lambda>" qual params body scope cl pm c ctv
section
variable {X:Cx}{pins:List (Addr×Obj)}{σ:St}{H:Hp}{s:Shared}
theorem Inv.notStack (I:Inv X pins σ H s) {b:Addr}(h:s.heap.objs.size<=b):b∉frs X.stack:=fun hm=>by
 obtain ⟨_,o,ho,_⟩:=I.stack.mem hm
 exact absurd (Nat.lt_of_lt_of_le (Heap.lt_size ho) h) (Nat.lt_irrefl _)
theorem z60 {params:Arguments}{body:Expr}{scope:Scope}{pos:Pos}{c P:Addr}{cl:List (Str×Addr)}{Q:Value->Shared->Prop}(I:Inv X pins σ H s) (hdef:defaultsOf params X.env=([],[])) (hcl:closureFor scope X.env=pure cl) (hcode:X.env.code=.ref c)
  (C:PySem.W.CodeHd X.base c P) (B:BMain X.mg X.base) (T:TabOk H P (X.env.qual ++ "<lambda>"))
  (h:∀(f c':Addr) (ctv:Value) (H1:Hp) (s1:Shared),Inv X pins σ H1 s1->s1.heap.get? f=some (qJ7 (X.env.qual ++ "<lambda>") params body scope cl ((X.mg "__name__").getD .none) c' ctv)->H1 f=none->f∉frs X.stack ->
   H1 c'=some (CodeE c' (X.env.qual ++ "<lambda>"))->TabOk H1 P (X.env.qual ++ "<lambda>")->SameP P H H1->Q (.ref f) s1):wpAny (model X.prog X.w) X.A (eval (.Lambda params body scope pos) X.env) Q X.xe s:=by
 refine PySem.W.kla_eval hdef ?_
 obtain ⟨ps,hT,tr,hcs⟩:=T.ex
 have hP:s.heap.get? P=some (PySem.W.tabObj ps):=I.hok P _ hT
 have hg:=I.ok.mod.glob.keeps I.bk
 have nG:mainGlobals≠P:=fun z=>by
  obtain ⟨o,es,ep,e,_⟩:=I.ok.mod.glob
  have:=(I.bs _ _ e).2
  rw [z,hT] at this; cases this
 obtain ⟨bm,ob,b1,b2,b3,b4,b5,b6⟩:=B.ex
 have nP:bm≠P:=fun z=>by
  have:=(I.bs _ _ b3).2
  rw [z,hT] at this; cases this
 have nM:bm≠mainGlobals:=fun z=>by
  obtain ⟨o,es,ep,e,hd,_⟩:=I.ok.mod.glob
  rw [z,e] at b3; cases b3; rw [hd] at b6; cases b6
 have hB:s.heap.BuiltinsAt X.mg P:=⟨bm,ob,b1,b2,nM,nP,I.bk _ _ b3,b4,b5,b6⟩
 cases hf:codeAmong pos ps.toList with
 | some cv =>
  obtain ⟨c',rfl,ne,hc'⟩:=hcs pos cv hf
  refine PySem.W.kla_makeFunctionHit (mg:=X.mg) hcl I.ok.glob hg hcode (C.keeps I.bk) hP tr hf hB fun ctv h' tk hk hsz=>?_
  have k2:∀ b o,s.heap.get? b=some o->(h'.push (qJ7 (X.env.qual ++ "<lambda>") params body scope cl ((X.mg "__name__").getD .none) c' ctv)).get? b=some o:=fun b o e=>Heap.get?_push_of_some _ (hk b o e)
  have hfr:H h'.objs.size=none:=I.hok.fresh hsz
  exact h _ c' ctv H _ (I.kept k2) (Heap.get?_push_size _ rfl) hfr (I.notStack hsz) hc' T (SameP.refl P H)
 | none =>
  refine PySem.W.kla_makeFunction (mg:=X.mg) hcl I.ok.glob hg hcode (C.keeps I.bk) hP tr hf nG hB fun c' ctv h' tk hx hge hlt hrec htb=>?_
  generalize hO:PySem.W.kla_obj "<lambda>" (X.env.qual ++ "<lambda>") params body scope cl ((X.mg "__name__").getD .none) c' ctv=O
  have k2:∀ b o,b≠P->s.heap.get? b=some o->(h'.push O).get? b=some o:=fun b o n e=>Heap.get?_push_of_some _ (hx b o n e)
  have hc0:H c'=none:=I.hok.fresh hge
  have nc:c'≠P:=fun z=>by rw [z,hT] at hc0; cases hc0
  have hsz:s.heap.objs.size<=h'.objs.size:=Nat.le_of_lt (Nat.lt_of_le_of_lt hge hlt)
  have hf0:H h'.objs.size=none:=I.hok.fresh hsz
  have old:∀ b u,b≠P->H b=some u->upd (upd H P (.tbl (ps ++ #[rawInt pos.line,rawInt pos.col,.ref c']))) c' (CodeE c' (X.env.qual ++ "<lambda>")) b=some u:=fun b u n e=>by
   rw [q08 (q19 e hc0),q08 n]; exact e
  have eP:upd (upd H P (.tbl (ps ++ #[rawInt pos.line,rawInt pos.col,.ref c']))) c' (CodeE c' (X.env.qual ++ "<lambda>")) P=some (.tbl (ps ++ #[rawInt pos.line,rawInt pos.col,.ref c'])):=by
   rw [q08 (Ne.symm nc),q01]
  have J:Inv X pins σ (upd (upd H P (.tbl (ps ++ #[rawInt pos.line,rawInt pos.col,.ref c']))) c' (CodeE c' (X.env.qual ++ "<lambda>"))) { s with heap:=h'.push O,toks:=tk }:=by
   refine I.step (g':=s.gens) (d':=s.drawn) (ch:=[]) (fun _ z=>nomatch z) (fun b o _ _ _ e n=>k2 b o (fun z=>by rw [z,hT] at n; cases n) e) (fun b o _ _ _ e n=>⟨o.slots,k2 b o (fun z=>by rw [z,hT] at n; cases n) e⟩) (fun b o _ e n=>?_) (fun b o _ e=>?_)
    (fun b xs e=>old b _ (fun z=>by rw [z,hT] at e; cases e) e) (fun b o u e=>old b _ (fun z=>by rw [z,hT] at e; cases e) e) (fun b qs e=>?_) (fun m hm=>?_) (fun b u e=>?_) I.bare
   ·rw [q08 (fun z=>absurd (Heap.lt_size e) (by rw [z]; exact Nat.not_lt.mpr hge)),q08 (fun z=>by rw [z,hT] at n; cases n)]
    exact n
   ·by_cases z:b=P
    ·subst z; exact ⟨_,Heap.get?_push_of_some _ htb⟩
    ·exact ⟨o,k2 b o z e⟩
   ·by_cases z:b=P
    ·subst z
     rw [hT] at e; cases e
     exact ⟨_,eP⟩
    ·exact ⟨#[],by rw [old b _ z e]; simp⟩
   ·obtain ⟨o,es,ep,e,r⟩:=hm
    exact ⟨o,es,ep,k2 _ o (fun z=>by have n:=I.free; rw [z,hT] at n; cases n) e,r⟩
   ·by_cases z1:b=c'
    ·subst z1
     rw [q01] at e; cases e
     refine CodeE.ok ?_
     obtain ⟨c2,o,vs,t,e1,e2,r⟩:=hrec
     exact ⟨c2,o,vs,t,e1,Heap.get?_push_of_some _ e2,r⟩
    ·rw [q08 z1] at e
     by_cases z2:b=P
     ·subst z2
      rw [q01] at e; cases e
      exact Heap.get?_push_of_some _ htb
     ·rw [q08 z2] at e
      refine (I.hok b u e).stay (fun d v hd q=>k2 d v ?_ q) (fun d q=>old d _ (fun z=>by rw [z,hT] at q; cases q) q) fun d xs q=>old d _ (fun z=>by rw [z,hT] at q; cases q) q
      rcases hd with z | z
      ·rw [z]; exact z2
      ·intro z3; rw [z3,hT] at z; cases z
  refine h _ c' ctv _ _ J (by rw [<- hO]; exact Heap.get?_push_size _ rfl) ?_ (I.notStack hsz) q01 ⟨_,eP,?_,fun p2 cv z=>?_⟩ (fun b o n e=>old b o n e)
  ·rw [q08 (Nat.ne_of_gt hlt),q08 (fun z=>by rw [z,hT] at hf0; cases hf0)]
   exact hf0
  ·have:=TriplesOk_snoc pos.line pos.col (.ref c') ps.toList tr
   simpa using this
  ·have z':codeAmong p2 (ps.toList ++ [rawInt pos.line,rawInt pos.col,.ref c'])=some cv:=by simpa using z
   rcases qv2 p2 pos (.ref c') cv ps.toList tr z' with y | y
   ·obtain ⟨d,e1,e2,e3⟩:=hcs p2 cv y
    exact ⟨d,e1,e2,old d _ e2 e3⟩
   ·exact ⟨c',y,nc,q01⟩
end
end L2
namespace L2
open PySem PySem.Spec PyProof.Rows
def qG0 (CX:CXT) (P:Program) (w:World) (K:PySem.W.Frag) (mg:Str->Option Value) (base:Heap) (N:List Str) (qual:Str) (scope:Scope) (f:Addr) (cd:Value) (cl:List (Str×Addr)) (A:Around) (outer:List Env) (s:Shared) (H:Hp) (E:XK):Cx where
 prog:=P
 w:=w
 K:=K
 mg:=mg
 base:=base
 A:=A.deeper (PySem.W.envX qual scope s.heap.objs.size f cd cl)
 N:=N
 s₀:=s
 H₀:=H
 env:=PySem.W.envX qual scope s.heap.objs.size f cd cl
 outer:=outer
 stack:=PySem.W.envX qual scope s.heap.objs.size f cd cl :: outer
 ex:=[]
 calm:=true
 fn:=fun _=>false
 pn:=[]
 xe:=fun e s'=>wpAny (model P w) (A.deeper (PySem.W.envX qual scope s.heap.objs.size f cd cl)) (leaving (PySem.W.envX qual scope s.heap.objs.size f cd cl) e) (fun _ s''=>CX outer H s E e s'') (fun e' s''=>CX outer H s E e' s'') s'
structure LamScope (sc:Scope):Prop where
 kind:sc.kind=.function
 co:sc.isCoroutine=false
 gen:sc.isGenerator=false
 nocell:∀ x∈sc.names,x.2≠.cell
structure Caps (base:Heap) (N:List Str) (scope:Scope) (cl:List (Str×Addr)) (σ:St):Prop where
 inj:∀ x y c,cl.lookup x=some c->cl.lookup y=some c->x=y
 has:∀ x,scope.names.lookup x=some .free->∃ c,cl.lookup x=some c
 cell:∀ x c,cl.lookup x=some c->∃ v,base.IsCell c v
 val:∀(i:Nat) (x:Str) (v:V),N[i]? = some x->σ[i]? = some (some v)->∃ c u,scope.names.lookup x=some .free/\cl.lookup x=some c/\base.IsCell c (some u)/\RelV v u
 len:σ.length=N.length
section
variable {CX:CXT}{P:Program}{w:World}{K:PySem.W.Frag}{mg:Str->Option Value}{base:Heap}{k:Nat}{f c:Addr}{qual:Str}{params:Arguments}{body:Expr}{scope:Scope}{cl:List (Str×Addr)}{pm ctv:Value}{N:List Str}{σ:St}{sp:Sp}
theorem lam_fn (ho:base.get? f=some (qJ7 qual params body scope cl pm c ctv)) (S:LamScope scope) (Cp:Caps base N scope cl σ) (len:∀ vs H Q E,sp vs H Q E->vs=[]) (hcd:∀ H Q E,sp [] H Q E->H c=some (CodeE c qual))
  (hbody:∀(A:Around) (outer:List Env) (s:Shared) (H:Hp) (Q:VK) (E:XK),Room k (A.deeper (PySem.W.envX qual scope s.heap.objs.size f (.ref c) cl))->sp [] H Q E ->
   ∃ t,PE (qG0 CX P w K mg base N qual scope f (.ref c) cl A outer s H E) body t/\t σ H Q) :
  FnOk P w K mg base CX (k + 1) f (PySem.W.kla_fn "<lambda>" qual params body scope cl pm (.ref c) ctv) [] sp:=by
 refine ⟨fun vs H Q E h=>by rw [len vs H Q E h]; rfl,fun A outer s H args us vs Q E hr e0 hb r hsp=>?_⟩
 obtain rfl:=len _ _ _ _ hsp
 have lim:s.heap.NoLimit:=e0.mod.nolimit.keeps fun b o e=>(e0.bs b o e).1
 have hC:=hcd H Q E hsp
 have rcd:s.heap.CodeRec (.ref c) qual:=(e0.hok c _ hC).1
 refine PySem.W.kla_callFunE hr.depth (e0.bs _ _ ho).1 rfl S.co S.gen rfl rcd (hb _ _ _ _ ?_)
 refine wpAny_newFunctionEnv S.nocell (fun x hx=>?_) (fun h1 hns hsb=>?_) S.kind
 ·exact absurd (show x∈([]:List (Str×Value)) from hx) (by simp)
 have hk:∀ b o,s.heap.get? b=some o->h1.get? b=some o:=fun b o e=>(hsb.2 b (Nat.ne_of_lt (Heap.lt_size e))).trans (Heap.get?_push_of_some _ e)
 refine ⟨lim.keeps hk,?_⟩
 show codeAny _ _ (.expr body (PySem.W.envX qual scope s.heap.objs.size f (.ref c) cl)) _ _
 obtain ⟨t,ht,hq⟩:=hbody A outer s H Q E (hr.deeper _) hsp
 have cellH:∀ x d v,cl.lookup x=some d->base.IsCell d v->h1.IsCell d v/\H d=none:=fun x d v _ ⟨o,e,z⟩=>⟨⟨o,hk _ _ (e0.bs _ _ e).1,z⟩,(e0.bs _ _ e).2⟩
 have I:Inv (qG0 CX P w K mg base N qual scope f (.ref c) cl A outer s H E) [] σ H { s with heap:=h1,toks:=s.toks + (([]:List Str).zip us).length }:=by
  have noA:∀ b:Addr,b∉(qG0 CX P w K mg base N qual scope f (.ref c) cl A outer s H E).ex:=fun b z=>absurd (show b∈([]:List Addr) from z) (by simp)
  refine ⟨⟨e0.mod,S.kind,rfl,rfl,Nat.le_refl _,Cp.inj,fun y hy=>?_,fun y d z _=>?_,fun _=>hr.hd,Around.frames_deeper e0.frames,.inr ⟨rfl,rfl⟩,fun b z=>absurd z (noA b),e0.bs,e0.bsz,fun b _ _=>noA b,fun b z=>absurd z (noA b),e0.funs,e0.frf⟩,
   rfl,e0.bare,Un.kept hk,⟨_,hns,fun i y v h1 h2 h3=>?_⟩,fun y d h=>?_,e0.hok.fresh (Nat.le_refl _),fun y d h=>?_,fun p hp=>absurd (show p∈([]:List (Addr×Obj)) from hp) (by simp),e0.hok.kept hk,Cp.len⟩
  ·have hy:scope.names.lookup y=some .cell∨scope.names.lookup y=some .free:=hy
   rcases hy with hy | hy
   ·exact absurd rfl (S.nocell _ (PySem.mem_of_lookup hy))
   ·exact Cp.has y hy
  ·exact absurd (show false=true from z) (by decide)
  ·obtain ⟨d,u,k1,k2,k3,k4⟩:=Cp.val i y v h1 h2
   exact ⟨u,k4,.inr ⟨.inr k1,d,k2,(cellH y d _ k2 k3).1⟩⟩
  ·obtain ⟨v,z⟩:=Cp.cell y d h
   exact ⟨v,(cellH y d _ h z).1⟩
  ·obtain ⟨v,z⟩:=Cp.cell y d h
   exact (cellH y d _ h z).2
 refine PySem.W.kla_codeExpr (wpAny_mono (ht [] _ σ H Q I hq) (fun u s' hs=>?_) fun e s' hs=>hs)
 obtain ⟨v,H',J,rv,q⟩:=hs
 exact ⟨v,H',J.os,J.bare,J.base,J.hok,rv,q⟩
end
theorem passL {P:Program}{w:World}{K:PySem.W.Frag}{mg:Str->Option Value}{base:Heap}{N:List Str}{qual:Str}{scope:Scope}{f:Addr}{cd:Value}{cl:List (Str×Addr)}{A:Around}{outer:List Env}{s:Shared}{H:Hp}{E:XK} :
  q94 (CXE P w) (qG0 (CXE P w) P w K mg base N qual scope f cd cl A outer s H E) E:=by
 intro pins σ H1 s1 e s2 I h
 obtain ⟨ea,C,dx,tb,H0,H2,rfl,os,bare,un,hok,e1,ht,sx,n0,q⟩:=h
 have J:Inv (qG0 (CXE P w) P w K mg base N qual scope f cd cl A outer s H E) pins σ H2 s2:=I.call' (ch:=[]) os un hok bare fun b z=>absurd z (by simp)
 refine qJ6 (X:=qG0 (CXE P w) P w K mg base N qual scope f cd cl A outer s H E) rfl rfl J e1 ht fun s3 T H3 J3 e3 eT sx3=>?_
 exact ⟨ea,C,dx,.ref T,H0,H3,rfl,J3.os,J3.bare,J3.base,J3.hok,e3,.inr ⟨T,rfl,eT⟩,fun b o hb z=>sx3 b o hb (sx b o hb z),n0,q⟩
end L2
namespace L2
open PySem PySem.Spec PyProof.Rows
def lcl (env:Env):List (Str×NameKind)->List (Str×Addr)->List (Str×Addr)
 | [],acc=>acc
 | (x,k) :: r,acc=>if (k == .free)=true then lcl env r ((x,(env.cells.lookup x).getD 0) :: acc) else lcl env r acc
theorem qy1 {env:Env}{f:Str×NameKind->List (Str×Addr)->Sem (ForInStep (List (Str×Addr)))}(hf:∀ x k cs,f (x,k) cs=if (k == .free)=true then (do let c <- cellOf env x; pure (.yield ((x,c) :: cs))) else pure (.yield cs)) :
  ∀(names:List (Str×NameKind)) (acc:List (Str×Addr)),(∀ y∈names,y.2=.free->∃ c,env.cells.lookup y.1=some c)->forIn names acc f=pure (lcl env names acc)
 | [],acc,_=>by simp [lcl]
 | (x,k) :: r,acc,h=>by
  rw [List.forIn_cons,hf]
  unfold lcl
  by_cases hk:(k == .free)=true
  ·obtain ⟨c,e⟩:=h (x,k) (.head _) (eq_of_beq hk)
   have e:env.cells.lookup x=some c:=e
   have e2:cellOf env x=pure c:=by unfold cellOf; rw [e]
   rw [if_pos hk,if_pos hk,e2,pure_bind,pure_bind,e]
   exact qy1 hf r _ fun y hy=>h y (.tail _ hy)
  ·rw [if_neg hk,if_neg hk,pure_bind]
   exact qy1 hf r _ fun y hy=>h y (.tail _ hy)
theorem qN1 {scope:Scope}{env:Env}(h:∀ y∈scope.names,y.2=.free->∃ c,env.cells.lookup y.1=some c):closureFor scope env=pure (lcl env scope.names []):=by
 have e:=qy1 (env:=env) (f:=fun x cs=>if (x.2 == .free)=true then (do let c <- cellOf env x.1; pure (.yield ((x.1,c) :: cs))) else pure (.yield cs)) (fun _ _ _=>rfl) scope.names [] h
 show (forIn scope.names [] _ >>= fun cs=>pure cs)=_
 rw [bind_pure]
 exact e
theorem qr8 {env:Env}:∀(names:List (Str×NameKind)) (acc:List (Str×Addr)),(∀ y∈names,y.2=.free->∃ c,env.cells.lookup y.1=some c)->(∀ x c,acc.lookup x=some c->env.cells.lookup x=some c) ->
  ∀ x c,(lcl env names acc).lookup x=some c->env.cells.lookup x=some c
 | [],acc,_,ha=>ha
 | (x,k) :: r,acc,h,ha=>by
  unfold lcl
  by_cases hk:(k == .free)=true
  ·rw [if_pos hk]
   obtain ⟨c,e⟩:=h (x,k) (.head _) (eq_of_beq hk)
   have e:env.cells.lookup x=some c:=e
   refine qr8 r _ (fun y hy=>h y (.tail _ hy)) fun y d q=>?_
   rw [List.lookup_cons] at q
   split at q
   ·rename_i z
    rw [eq_of_beq z,e]
    rw [e] at q
    exact q
   ·exact ha y d q
  ·rw [if_neg hk]
   exact qr8 r _ (fun y hy=>h y (.tail _ hy)) ha
theorem qF5 {env:Env}{x:Str}:∀(names:List (Str×NameKind)) (acc:List (Str×Addr)),(acc.lookup x).isSome=true->((lcl env names acc).lookup x).isSome=true
 | [],acc,h=>h
 | (y,k) :: r,acc,h=>by
  unfold lcl
  split
  ·refine qF5 r _ ?_
   rw [List.lookup_cons]
   split
   ·rfl
   ·exact h
  ·exact qF5 r _ h
theorem qx8 {env:Env}{x:Str}:∀(names:List (Str×NameKind)) (acc:List (Str×Addr)),(x,NameKind.free)∈names->((lcl env names acc).lookup x).isSome=true
 | (y,k) :: r,acc,h=>by
  unfold lcl
  rcases List.mem_cons.mp h with e | e
  ·cases e
   rw [if_pos (show (NameKind.free == NameKind.free)=true by decide)]
   refine qF5 r _ ?_
   rw [List.lookup_cons,beq_self_eq_true]
   rfl
  ·split
   ·exact qx8 r _ e
   ·exact qx8 r _ e
def capt (fm:List Nat) (σ:St):St:=fm.map fun j=>σ.getD j none
theorem caps_of {X:Cx}{pins:List (Addr×Obj)}{σ:St}{H:Hp}{s:Shared}{N:List Str}{scope:Scope}{fm:List Nat}(I:Inv X pins σ H s) (hfn:∀ x,X.fn x=true) (hfr:∀ y∈scope.names,y.2=.free->X.env.kindOf y.1=some .cell) (hfm:fm.length=N.length)
  (hN:∀(i:Nat) (x:Str),N[i]? = some x->scope.names.lookup x=some .free/\∃ j,fm[i]? = some j/\X.N[j]? = some x):Caps (z85 s.heap H X.stack) N scope (lcl X.env scope.names []) (capt fm σ):=by
 have hc:∀ y∈scope.names,y.2=.free->∃ c,X.env.cells.lookup y.1=some c:=fun y hy hk=>I.ok.has y.1 (.inl (hfr y hy hk))
 have sound:∀ x c,(lcl X.env scope.names []).lookup x=some c->X.env.cells.lookup x=some c:=qr8 scope.names [] hc fun x c e=>by cases e
 have cellB:∀ x c v,X.env.cells.lookup x=some c->s.heap.IsCell c v->(z85 s.heap H X.stack).IsCell c v:=fun x c v e ⟨o,ho,hd⟩=>by
  refine ⟨o,qy9 ho (I.freeC x c e) fun hm=>?_,hd⟩
  rcases List.mem_cons.mp (I.stkSub c hm) with z | z
  ·exact I.cne x c e z
  ·obtain ⟨_,o2,ho2,_⟩:=I.ok.funs.mem z
   exact absurd (Nat.lt_of_lt_of_le (Heap.lt_size ho2) (I.ok.cab x c (hfn x) e)) (Nat.lt_irrefl _)
 refine ⟨fun x y c h1 h2=>I.ok.inj x y c (sound x c h1) (sound y c h2),fun x hx=>?_,fun x c e=>?_,fun i x v h1 h2=>?_,by unfold capt; rw [List.length_map]; exact hfm⟩
 ·exact Option.isSome_iff_exists.mp (qx8 scope.names [] (PySem.mem_of_lookup hx))
 ·obtain ⟨v,z⟩:=I.cell x c (sound x c e)
  exact ⟨v,cellB x c v (sound x c e) z⟩
 ·obtain ⟨fr,j,e1,e2⟩:=hN i x h1
  have e3:σ[j]? = some (some v):=by
   unfold capt at h2
   rw [List.getElem?_map,e1] at h2
   have h2:some (σ.getD j none)=some (some v):=h2
   have h3:=Option.some.inj h2
   rw [List.getD_eq_getElem?_getD] at h3
   cases q:σ[j]? with
   | none=>rw [q] at h3; cases h3
   | some a=>rw [q] at h3; exact congrArg some h3
  obtain ⟨c,e4⟩:=Option.isSome_iff_exists.mp (qx8 (env:=X.env) scope.names [] (PySem.mem_of_lookup fr))
  have e5:=sound x c e4
  have kd:X.env.kindOf x=some .cell:=hfr (x,.free) (PySem.mem_of_lookup fr) rfl
  obtain ⟨m,hn,hl⟩:=I.loc
  obtain ⟨u,r,l⟩:=hl j x v e2 e3 (.inr (.inl kd))
  refine ⟨c,u,fr,e4,cellB x c _ e5 ?_,r⟩
  rcases l with ⟨k,_⟩ | ⟨_,c2,k2,z⟩
  ·rw [kd] at k; cases k
  ·rw [e5] at k2; cases k2; exact z
end L2
namespace L2
open PySem PySem.Spec PyProof.Rows
section
variable {X:Cx}{CX:CXT}{k:Nat}{f:Addr}{fd:FuncData}{ps:List Str}{sp:Sp}{E:XK}{x:Str}{p pos:Pos}
theorem run_big {pins:List (Addr×Obj)}{σ:St}{H:Hp}{s:Shared}{Q:VK}{us:List Value}{vs:List V}(F:FnOk X.prog X.w X.K X.mg (z85 s.heap H X.stack) CX k f fd ps sp) (hr:Room k X.A) (hb:Binds X.K fd ps []) (hx:q94 CX X E)
  (I:Inv X pins σ H s) (r:Vals vs us) (h:sp vs H Q E):wpAny (model X.prog X.w) X.A (call (.ref f) us) (EP X pins σ Q) X.xe s:=by
 have hl:(us ++ []).length=ps.length:=by rw [List.append_nil,<- r.length]; exact F.len _ _ _ _ h
 have hbt:=hb s us I.kIn hl
 rw [List.append_nil] at hbt
 refine wpAny_call (codeAny_mono (F.run X.A X.stack s H ⟨us,[]⟩ us vs Q E hr I.env0.big hbt r h) fun r s' hq=>?_)
 cases r with
 | error e=>exact hx pins σ H s e s' I hq
 | ok fl =>
  cases fl with
  | ret u=>exact I.after hq
  | next=>exact False.elim hq
  | brk=>exact False.elim hq
  | cont=>exact False.elim hq
def tCallV (i:Nat) (f:Addr) (sp:Sp) (E:XK):TE:=fun σ H Q=>σ[i]? = some (some (.ref f))/\sp [] H Q E
theorem z35 {i:Nat}(G:FnOk X.prog X.w X.K X.mg X.base CX k f fd [] sp) (hr:Room k X.A) (ho:X.base.get? f=some { cls:=.type "function",data:=.func fd }) (hb:Binds X.K fd [] []) (hx:q94 CX X E) (hN:X.N[i]? = some x) (hv:Vis X.env.scope x)
  (hd:(x == ("__debug__" : Str))=false:=by decide) (hcd:(x == ("__classdict__" : Str))=false:=by decide):PE X (.Call (.Name x p) [] [] pos) (tCallV i f sp E):=by
 intro pins s σ H Q I h
 obtain ⟨e,h⟩:=h
 refine wpAny_Call_Name_kw (thn (za1 hN hv hd hcd pins s σ H (fun v H'=>v=.ref f/\H'=H) I ⟨_,e,rfl,rfl⟩) fun u s1 ⟨v,H1,I1,r,ev,eH⟩=>?_)
 subst ev eH
 obtain rfl:u=Value.ref f:=r
 refine PySem.W.callWith_of (P:=fun h=>h.get? f=some { cls:=.type "function",data:=.func fd }) rfl (fun h q=>⟨.frame,.inl rfl,(PySem.W.Looks.ld (part:=none) q).andThen .now⟩) (evalArgs_nil3 ⟨I1.bk _ _ ho,?_⟩)
 exact qH7 (us:=[]) (vs:=[]) (dvs:=[]) G hr hb .nil hx I1 .nil h
def wordE (K:PySem.W.Frag) (W:Addr) (Q:VK):XK:=fun C d H0=>∃(Ca dx:Addr) (ww:Str),C=.ref Ca/\d=some dx/\H0 dx=some (.xd [("word",.str ww)])/\XSub K Ca W/\XKl K Ca/\∀ H' r,Same H0 H'->H' r=none->Q (.ref r) (upd H' r (.tup [.str ww]))
def toldQ (Q:VK):VK:=fun v H2=>[V.str "told",v].length<=sizeLine/\∀ r,H2 r=none->Q (.ref r) (upd H2 r (.tup [.str "told",v]))
theorem toldQ.mk {Q:VK}{v:V}{H2:Hp}(h:∀ r,H2 r=none->Q (.ref r) (upd H2 r (.tup [.str "told",v]))):toldQ Q v H2:=⟨Nat.le_trans (show 2<=100 by decide) (by decide),h⟩
def z93 (K:PySem.W.Frag) (W f:Addr) (spl:Sp):Sp:=fun vs H Q _=>vs=[.ref f]/\spl [] H (toldQ Q) (wordE K W Q)
def tWord (K:PySem.W.Frag) (W P:Addr) (q:Str) (fm:List Nat) (t:XK->TE):TE:=fun σ H Q=>TabOk H P q/\∀ H1,TabOk H1 P q->SameP P H H1->t (wordE K W Q) (capt fm σ) H1 (toldQ Q)
theorem pe_word {st:Stmt}{y:Str}{fw W c P:Addr}{fdw:FuncData}{kl kw:Nat}{params:Arguments}{body:Expr}{scope:Scope}{lpos:Pos}{N:List Str}{fm:List Nat}{t:XK->TE}(Dw:Df X.K X.mg x st [y] fw fdw)
  (Gw:∀(base:Heap) (f:Addr) (fdl:FuncData) (spl:Sp),base.get? f=some { cls:=.type "function",data:=.func fdl }->Binds X.K fdl [] []->FnOk X.prog X.w X.K X.mg base (CXE X.prog X.w) (kl + 1) f fdl [] spl ->
   FnOk X.prog X.w X.K X.mg base (CXE X.prog X.w) kw fw fdw [y] (z93 X.K W f spl))
  (hr:Room kw X.A) (hcode:X.env.code=.ref c) (C:PySem.W.CodeHd X.base c P) (B:BMain X.mg X.base) (hfn:∀ x,X.fn x=true)
  (S:LamScope scope) (hfr:∀ y∈scope.names,y.2=.free->X.env.kindOf y.1=some .cell) (hfm:fm.length=N.length) (hN:∀(i:Nat) (x:Str),N[i]? = some x->scope.names.lookup x=some .free/\∃ j,fm[i]? = some j/\X.N[j]? = some x)
  (hbl:∀(base:Heap) (f c':Addr) (A:Around) (outer:List Env) (s:Shared) (H:Hp) (E:XK),Room kl (A.deeper (PySem.W.envX (X.env.qual ++ "<lambda>") scope s.heap.objs.size f (.ref c') (lcl X.env scope.names []))) ->
   PE (qG0 (CXE X.prog X.w) X.prog X.w X.K X.mg base N (X.env.qual ++ "<lambda>") scope f (.ref c') (lcl X.env scope.names []) A outer s H E) body (t E))
  (hx:q94 (CXE X.prog X.w) X E0) (hg:Gl X x:=by rfl) (hdef:defaultsOf params X.env=([],[]):=by rfl)
  (hbind:∀(q:Str) (cl:List (Str×Addr)) (pm ctv:Value) (c':Addr),bindArgs (PySem.W.kla_fn "<lambda>" q params body scope cl pm (.ref c') ctv) ⟨[],[]⟩=pure []:=by intro _ _ _ _ _; rfl)
  (hdb:(x == ("__debug__" : Str))=false:=by decide):PE X (.Call (.Name x p) [.Lambda params body scope lpos] [] pos) (tWord X.K W P (X.env.qual ++ "<lambda>") fm t):=by
 intro pins s σ H Q I h
 obtain ⟨T,h⟩:=h
 have hc:∀ y∈scope.names,y.2=.free->∃ c,X.env.cells.lookup y.1=some c:=fun y hy hk=>I.ok.has y.1 (.inl (hfr y hy hk))
 refine wpAny_Call_Name_kw (qj0 I hg Dw.mg ?_ hdb)
 refine PySem.W.callWith_K (h₀:=X.base) I.ok.mod.kin Dw.F.kp ?_ (by rfl) (by rfl)
 show wpAny _ _ (spliced ((false,eval (.Lambda params body scope lpos) X.env) :: backTo pos (starEach [] X.env))) _ _ s
 refine Calls.spliced_cons (z60 I hdef (qN1 hc) hcode C B T fun f c' ctv H1 s1 I1 ho nf nfr hC T1 sp1=>?_)
 refine Calls.spliced_nil ⟨I1.kIn,?_⟩
 have hob:(z85 s1.heap H1 X.stack).get? f=some (qJ7 (X.env.qual ++ "<lambda>") params body scope (lcl X.env scope.names []) ((X.mg "__name__").getD .none) c' ctv):=qy9 ho nf nfr
 have hbl':Binds X.K (PySem.W.kla_fn "<lambda>" (X.env.qual ++ "<lambda>") params body scope (lcl X.env scope.names []) ((X.mg "__name__").getD .none) (.ref c') ctv) [] []:=.all fun us hl=>by
  obtain rfl:=List.eq_nil_of_length_eq_zero hl
  exact hbind _ _ _ _ _
 have L:=lam_fn (CX:=CXE X.prog X.w) (P:=X.prog) (w:=X.w) (K:=X.K) (mg:=X.mg) (k:=kl) (sp:=fun vs H Q E=>vs=[]/\H c'=some (CodeE c' (X.env.qual ++ "<lambda>"))/\t E (capt fm σ) H Q) hob S (caps_of I1 hfn hfr hfm hN) (fun _ _ _ _ z=>z.1) (fun _ _ _ z=>z.2.1)
  fun A outer s H Q E hr z=>⟨t E,hbl _ f c' A outer s H E hr,z.2.2⟩
 exact run_big (E:=E0) (Gw _ f _ _ hob hbl' L) hr Dw.b hx I1 (vs:=[.ref f]) (.cons rfl .nil) ⟨rfl,rfl,hC,h H1 T1 sp1⟩
end
end L2
namespace L2
open PySem PySem.Spec PyProof.Rows
theorem qW4 {P:Program}{w:World}{K:PySem.W.Frag}{mg mb:Str->Option Value}{CX:CXT}{k:Nat}{fa a:Addr}{fd:FuncData}{x:Str}{sp:Sp}{s₁:Shared}{vs:List Value}{ns:List Int}{ts:List Addr}
  (KX:K.In s₁.heap) (hns:s₁.heap.Ns mainGlobals mg) (hb:s₁.heap.Ns builtinsNs mb) (hbb:∀ x:Str,x ≠ "__name__" -> mb x=bootBuiltins x) (hlim:s₁.heap.NoLimit) (hg:s₁.gens = #[])
  (ha:s₁.heap.get? a=some { cls:=.type "list",data:=.seq vs.toArray }) (hi:IntsAre vs ns) (hl:ns.length<=sizeLine) (hr:Room k callerA)
  (hT:∀ P∈ts,s₁.heap.get? P=some (PySem.W.tabObj #[])) (hKT:∀ P∈ts,K.lookup P=none) (hct:∀ P∈ts,isCodeTable s₁.heap P) (BM:BMain mg s₁.heap)
  (F:∀ base:Heap,K.In base->base.Ns mainGlobals mg->BMain mg base->FnOk P w K mg base CX k fa fd [x] sp) (hbind:∀(s:Shared) (u:Value),BindsTo s fd ⟨[u],[]⟩ [(x,u)])
  (hsp:∀ H:Hp,SqL K H a (ns.map V.int)->(∀ P∈ts,H P=some (.tbl #[]))->sp [.ref a] H (fun v _=>v=.bl true) fun _ _ _=>False)
  (hCX:∀ H e s',CX [] H s₁ (fun _ _ _=>False) e s'->False) :
  codeAny (model P w) callerA (.call (.ref fa) ⟨[.ref a],[]⟩) (fun r s'=>r=.ok (.ret (.bool true))/\OldK s₁.heap s'.heap/\s'.os=s₁.os/\AllBare s'.gens) s₁:=by
 have rv:=qz5 hi
 have lenV:=hi.length
 have naT:a∉ts:=fun z=>by
  have:=hT a z
  rw [ha] at this
  cases this
 have core:∀ H:Hp,(∀ b,H b=none∨(b=a/\K.lookup a=none/\∃ xs,H b=some (.frz { cls:=.type "list",data:=.seq vs.toArray } (.lst xs)))∨(b∈ts/\H b=some (.tbl #[])))->SqL K H a (ns.map V.int)->(∀ P∈ts,H P=some (.tbl #[]))->HOk P w H s₁.heap ->
   codeAny (model P w) callerA (.call (.ref fa) ⟨[.ref a],[]⟩) (fun r s'=>r=.ok (.ret (.bool true))/\OldK s₁.heap s'.heap/\s'.os=s₁.os/\AllBare s'.gens) s₁:=by
  intro H hO hS hTs hok
  have base_of:∀{b:Addr} {o:Obj},s₁.heap.get? b=some o->H b=none->(qZ5 s₁.heap H).get? b=some o:=fun e n=>z63 e n
  have noT:∀{b:Addr} {o:Obj},s₁.heap.get? b=some o->(∀ n,o.data≠.seq vs.toArray n)->(∀ xs,o.data≠.fields xs)->H b=none:=fun {b o} e d1 d2=>by
   rcases hO b with z | ⟨rfl,_,_,z⟩ | ⟨z,_⟩
   ·exact z
   ·rw [ha] at e; cases e
    exact absurd rfl (d1 _)
   ·rw [hT b z] at e; cases e
    exact absurd rfl (d2 _)
  have nsK:∀{b:Addr} {m:Str->Option Value},s₁.heap.Ns b m->(qZ5 s₁.heap H).Ns b m:=fun {b m} ⟨o,es,ep,e,d,r⟩=>⟨o,es,ep,base_of e (noT e (fun n z=>by rw [d] at z; cases z) (fun xs z=>by rw [d] at z; cases z)),d,r⟩
  have hKb:K.In (qZ5 s₁.heap H):=fun b o e=>base_of (KX b o e) (by
   rcases hO b with z | ⟨rfl,z,_⟩ | ⟨z,_⟩
   ·exact z
   ·rw [z] at e; cases e
   ·rw [hKT b z] at e; cases e)
  have hM:Mod K mg (qZ5 s₁.heap H):=⟨hKb,nsK hns,⟨mb,nsK hb,hbb⟩,let ⟨mc,h1,h2⟩:=hlim; ⟨mc,nsK h1,h2⟩⟩
  have hBM:BMain mg (qZ5 s₁.heap H):=by
   obtain ⟨bm,ob,e1,e2,e3,e4,e5,e6⟩:=BM.ex
   exact ⟨bm,ob,e1,e2,base_of e3 (noT e3 (fun n z=>by rw [e6] at z; cases z) (fun xs z=>by rw [e6] at z; cases z)),e4,e5,e6⟩
  have e0:Env0 P w K mg (qZ5 s₁.heap H) callerA [] s₁ H:=⟨rfl,hM,fun b o e=>of_hidT e,Nat.le_of_eq (qW8 _ _),trivial,fun b hb=>absurd (show b∈([]:List Addr) from hb) (by simp),hok,.of_eq hg⟩
  refine codeAny_mono ((F _ hKb (nsK hns) hBM).run callerA [] s₁ H ⟨[.ref a],[]⟩ [.ref a] [.ref a] _ _ hr e0 (hbind s₁ (.ref a)) (.cons rfl .nil) (hsp H hS hTs)) fun r s' h=>?_
  cases r with
  | error e=>exact (hCX H e s' h).elim
  | ok fl =>
   cases fl with
   | next=>exact False.elim h
   | brk=>exact False.elim h
   | cont=>exact False.elim h
   | ret u =>
    obtain ⟨v,H',os,bare,un,hok',r',q⟩:=h
    have q':v=.bl true:=q
    subst q'
    obtain rfl:u=Value.bool true:=r'
    refine ⟨rfl,⟨fun b o e=>?_,fun b o e=>un.there b o e (by simp)⟩,os,bare⟩
    rcases hO b with z | ⟨rfl,_,xs,z⟩ | ⟨zt,z⟩
    ·exact .inl (un.keep b o e z (by intro z; exact absurd (show b∈([]:List Addr) from z) (by simp)) (by simp))
    ·have z2:=un.frzs b _ _ z
     obtain ⟨e1,_⟩:=hok b _ z
     obtain ⟨e2,_⟩:=hok' b _ z2
     rw [e] at e1; cases e1
     exact .inl e2
    ·obtain ⟨more,z2⟩:=un.tbls b _ z
     have e1:=hok' b _ z2
     rw [hT b zt] at e; cases e
     exact .inr (.inl ⟨hct b zt,rfl,#[],more,rfl,e1⟩)
 have okT:∀(H:Hp) (b:Addr),b∈ts->ObjOk P w H s₁.heap b (.tbl #[]):=fun H b hb=>hT b hb
 cases hk:K.lookup a with
 | some o =>
  have e:=KX a o hk
  rw [ha] at e
  cases e
  refine core (fun b=>if b∈ts then some (.tbl #[]) else none) (fun b=>?_) (.inr ⟨_,vs.toArray,_,hk,rfl,rfl,rfl,by rw [List.size_toArray,lenV]; exact hl,by simpa using rv⟩) (fun b hb=>if_pos hb) (fun b u z=>?_)
  ·by_cases hb:b∈ts
   ·exact .inr (.inr ⟨hb,if_pos hb⟩)
   ·exact .inl (if_neg hb)
  ·by_cases hb:b∈ts
   ·have z':=(if_pos hb).symm.trans z
    cases z'
    exact okT _ b hb
   ·have z':=(if_neg hb).symm.trans z
    cases z'
 | none =>
  refine core (fun b=>if b∈ts then some (.tbl #[]) else if b=a then some (.frz { cls:=.type "list",data:=.seq vs.toArray } (.lst (ns.map V.int))) else none) (fun b=>?_) (.inl (.inr ⟨{ cls:=.type "list",data:=.seq vs.toArray },?_⟩)) (fun b hb=>if_pos hb) (fun b u z=>?_)
  ·by_cases hb:b∈ts
   ·exact .inr (.inr ⟨hb,if_pos hb⟩)
   ·by_cases hb2:b=a
    ·exact .inr (.inl ⟨hb2,hk,_,(if_neg hb).trans (if_pos hb2)⟩)
    ·exact .inl ((if_neg hb).trans (if_neg hb2))
  ·exact (if_neg naT).trans (if_pos rfl)
  ·by_cases hb:b∈ts
   ·have z':=(if_pos hb).symm.trans z
    cases z'
    exact okT _ b hb
   ·have z:=(if_neg hb).symm.trans z
    by_cases hb2:b=a
    ·have z':=(if_pos hb2).symm.trans z
     cases z'
     subst hb2
     exact ⟨ha,by rw [List.length_map]; exact hl,vs,_,rv,ha⟩
    ·have z':=(if_neg hb2).symm.trans z
     cases z'
theorem walk_ofT {l:PySem.W.OpenLaw}{n k:Nat}{q:Program}{loose:List Str}{XP:(Str->Option Value)->Heap->Prop}{YP:World->Heap->Prop}{d:DefRec}{K:Params->PySem.W.Frag}{CX:World->CXT}{sp:World->Sp}{x:Str}{tabs:List (Addr×Addr)}
  (hn:l.most=some n) (hn2:n<=sizeLine) (hdf:d.params.defaults=[]) (hr:Room k callerA)
  (hY:∀(w:World) (h:Heap),YP w h->(K w.params).In h) (hT:∀(w:World) (h:Heap),YP w h->∀ q∈tabs,h.get? q.2=some (PySem.W.tabObj #[]))
  (hC:∀(w:World) (h:Heap),(K w.params).In h->∀ q∈tabs,PySem.W.CodeHd h q.1 q.2) (hK:∀(w:World),∀ q∈tabs,(K w.params).lookup q.2=none)
  (F:∀(w:World) (mg:Str->Option Value) (fa:Addr) (h:Heap),(K w.params).In h->h.Ns mainGlobals mg->mg d.name=some (.ref fa) ->
   ∃ fd:FuncData,(∀(s:Shared) (u:Value),BindsTo s fd ⟨[u],[]⟩ [(x,u)]) /\
    ∀ base:Heap,(K w.params).In base->base.Ns mainGlobals mg->BMain mg base->FnOk l.prog w (K w.params) mg base (CX w) k fa fd [x] (sp w))
  (hsp:∀(w:World) (H:Hp) (a:Addr) (ns:List Int),ns.length<=n->SqL (K w.params) H a (ns.map V.int)->(∀ q∈tabs,H q.2=some (.tbl #[]))->sp w [.ref a] H (fun v _=>v=.bl true) fun _ _ _=>False)
  (hCX:∀(w:World) (H:Hp) (s:Shared) (e:Value) (s':Shared),CX w [] H s (fun _ _ _=>False) e s'->False) :
  PySem.W.WalkO q loose XP YP l.row.toRowW d [] (fun f vs=>PySem.call f vs):=by
 refine Att.attach_call hn hdf fun w s₀ s₁ mg mb fa o pm cd doc a vs ns G Y ho hd hcd hmg hobj hints hlen hg=>?_
 have KX:=hY w _ Y
 obtain ⟨fd,hb,hF⟩:=F w mg fa _ KX G.T.g hmg
 have tb:∀ P∈tabs.map (·.2),∃ c,(c,P)∈tabs:=fun P hP=>by
  obtain ⟨⟨c,P'⟩,hq,rfl⟩:=List.mem_map.mp hP
  exact ⟨c,hq⟩
 refine qW4 (ts:=tabs.map (·.2)) KX G.T.g G.T.b G.T.builtins G.T.nolimit hg hobj hints (Nat.le_trans hlen hn2) hr (fun P hP=>?_) (fun P hP=>?_) (fun P hP=>?_) ⟨G.T.bmain⟩ hF hb (fun H hS hTs=>hsp w H a ns hlen hS fun q hq=>hTs q.2 (List.mem_map_of_mem hq)) fun H e s'=>hCX w H s₁ e s'
 ·obtain ⟨c,hq⟩:=tb P hP; exact hT w _ Y _ hq
 ·obtain ⟨c,hq⟩:=tb P hP; exact hK w _ hq
 ·obtain ⟨c,hq⟩:=tb P hP
  exact ((hC w _ KX _ hq).tab (hT w _ Y _ hq)).isCodeTable
end L2
namespace L2
open PySem PySem.Spec PyProof.Rows
theorem all_tx (y:Str):y=tx y.length fun i=>y.cps.getD i 0:=by
 obtain ⟨a⟩:=y
 unfold tx
 congr 1
 apply Array.ext
 ·simp [Str.length]
 ·intro i h1 h2
  simp
  rw [Array.getElem?_eq_getElem h1]
  rfl
section
variable {X:Cx}
end
end L2
namespace K67
open PySem L2
open PyProof.Rows (envOfC)
abbrev ql4:Stmt:=q88 (top 2) 0
abbrev ql6:Stmt:=q88 (top 9) 0
abbrev ql5:Stmt:=q88 (top 6) 0
structure Xs (K:PySem.W.Frag) (mg:Str->Option Value) (W BC BS fW fC fS:Addr) (gW gC gS:FuncData):Prop where
 mW:mg "WapentakeError" = some (.ref W)
 mC:mg "NotBorne" = some (.ref BC)
 mS:mg "BadRow" = some (.ref BS)
 mV:mg "ValueError" = none
 kW:XKl K W
 kC:XKl K BC
 kS:XKl K BS
 sC:XSub K BC W
 sS:XSub K BS W
 aW:XAt K W "__init__" fW
 iC:XMk K BC fC
 iS:XMk K BS fS
 FW:Fun K "__init__" "WapentakeError.__init__" ql4 fW gW
 FC:Fun K "__init__" "NotBorne.__init__" ql6 fC gC
 FS:Fun K "__init__" "BadRow.__init__" ql5 fS gS
 bW:Binds K gW ["self", "word"] []
 bC:Binds K gC ["self"] []
 bS:Binds K gS ["self"] []
section
variable {P:Program}{w:World}{K:PySem.W.Frag}{mg:Str->Option Value}{base:Heap}{C fi fa ft fy fm fc:Addr}{gi ga gt gy gm gc:FuncData}{W BC BS fW fC fS:Addr}{gW gC gS:FuncData}
def spWInit (K:PySem.W.Frag):Sp:=fun vs H Q _=>∃(ea C:Addr) (tb:Value) (ww:Str),vs=[.ref ea,.str ww]/\H ea=some (XO C none tb ea)/\XKl K C/\∀ dx,H dx=none->Q .non (upd (upd H ea (XO C (some dx) tb ea)) dx (.xd [("word",.str ww)]))
theorem z15:FnScope ["self", "word"] ["self", "word"] (q02 ql4):=⟨rfl,rfl,rfl,by decide +kernel,rfl,by decide +kernel,by decide +kernel⟩
theorem qh1 (T:Xs K mg W BC BS fW fC fS gW gC gS):FnOk P w K mg base (CXE P w) 1 fW gW ["self", "word"] (spWInit K):=by
 refine T.FW.okN z15 (fun vs H Q E h=>?_) (fun cdv A outer s H vs Q E hr h=>?_)
 ·obtain ⟨ea,C,tb,ww,rfl,_⟩:=h
  rfl
 ·obtain ⟨ea,C,tb,ww,rfl,e1,XC,k⟩:=h
  refine ⟨_,q04 (q18 (z32 (by rfl) T.mV (q00 (pv 0) (q00 (pv 1) q03)))) (q05 (ps_xfld (pv 0) (pv 1))),?_⟩
  exact ⟨_,rfl,_,rfl,ea,C,none,tb,_,rfl,e1,XC,_,rfl,_,rfl,ea,C,tb,rfl,e1,XC,XC.nw,fun dx hd=>k dx hd⟩
def qp6 (C:Addr) (ww:Str):Sp:=fun vs H Q _=>∃(ea:Addr) (tb:Value),vs=[.ref ea]/\H ea=some (XO C none tb ea)/\∀ dx,H dx=none->Q .non (upd (upd H ea (XO C (some dx) tb ea)) dx (.xd [("word",.str ww)]))
theorem z27:FnScope ["self"] ["self"] (q02 ql6):=⟨rfl,rfl,rfl,by decide +kernel,rfl,by decide +kernel,by decide +kernel⟩
theorem z52 (T:Xs K mg W BC BS fW fC fS gW gC gS):FnOk P w K mg base (CXE P w) 2 fC gC ["self"] (qp6 BC "not borne"):=by
 refine T.FC.okN z27 (fun vs H Q E h=>?_) (fun cdv A outer s H vs Q E hr h=>?_)
 ·obtain ⟨ea,tb,rfl,_⟩:=h
  rfl
 ·obtain ⟨ea,tb,rfl,e1,k⟩:=h
  refine ⟨_,q05 (q18 (qh0 T.aW (qh1 T) hr (by rfl) T.mW T.bW q17 (q00 (pv 0) (q00 q20 q03)))),?_⟩
  exact ⟨_,rfl,ea,BC,tb,_,rfl,e1,T.kC,k⟩
theorem z18:FnScope ["self"] ["self"] (q02 ql5):=⟨rfl,rfl,rfl,by decide +kernel,rfl,by decide +kernel,by decide +kernel⟩
theorem z42 (T:Xs K mg W BC BS fW fC fS gW gC gS):FnOk P w K mg base (CXE P w) 2 fS gS ["self"] (qp6 BS "bad row"):=by
 refine T.FS.okN z18 (fun vs H Q E h=>?_) (fun cdv A outer s H vs Q E hr h=>?_)
 ·obtain ⟨ea,tb,rfl,_⟩:=h
  rfl
 ·obtain ⟨ea,tb,rfl,e1,k⟩:=h
  refine ⟨_,q05 (q18 (qh0 T.aW (qh1 T) hr (by rfl) T.mW T.bW q17 (q00 (pv 0) (q00 q20 q03)))),?_⟩
  exact ⟨_,rfl,ea,BS,tb,_,rfl,e1,T.kS,k⟩
def Ref (H:Hp) (E:XK) (C:Addr) (ww:Str):Prop:=∀ dx H0,Same H H0->H0 dx=some (.xd [("word",.str ww)])->E (.ref C) (some dx) H0
theorem Ref.same {H H':Hp}{E:XK}{C:Addr}{ww:Str}(r:Ref H E C ww) (s:Same H H'):Ref H' E C ww:=fun dx H0 s0 e=>r dx H0 (s.trans' s0) e
theorem Ref.out {H:Hp}{E:XK}{C ea dx:Addr}{o u:HO}{ww:Str}(r:Ref H E C ww) (he:H ea=none) (hd:upd H ea o dx=none) :
  E (.ref C) (some dx) fun b=>if b=ea then none else upd (upd (upd H ea o) ea u) dx (.xd [("word",.str ww)]) b:=by
 have ne:dx≠ea:=fun z=>by rw [z,q01] at hd; cases hd
 rw [q08 ne] at hd
 refine r dx _ (fun b v e=>?_) ?_
 ·rw [if_neg (q19 e he),q08 (q19 e hd),q08 (q19 e he),q08 (q19 e he)]
  exact e
 ·rw [if_neg ne,q01]
theorem Ref.raise {C ea:Addr}{H:Hp}{E:XK}{ww:Str}(r:Ref H E C ww) (kC:XKl K C) (he:H ea=none):qp6 C ww [.ref ea] (upd H ea (XO C none .none ea)) (fun v H2=>v=.non/\∃ ea' C' dx,V.ref ea=.ref ea'/\H2 ea'=some (XO C' (some dx) .none ea')/\XKl K C'/\E (.ref C') (some dx) (fun b=>if b=ea' then none else H2 b)) E:=by
 refine ⟨ea,.none,rfl,q01,fun dx hd=>⟨rfl,ea,C,dx,rfl,?_,kC,r.out he hd⟩⟩
 rw [q08 (fun z=>by rw [<- z,q01] at hd; cases hd),q01]
def inG (g:Str) (a:Nat):Bool:=decide (a∈g.cps.toList)
theorem in_occ (g:Str) (a:Nat):(!(Builtin.Str.occurrences g ⟨#[a]⟩ 0 g.length 1).isEmpty)=inG g a:=by
 rw [PySem.StrLaws.found_one]
 rfl
def spOnlyG:Sp:=fun vs H Q _=>∃(x g:Str),vs=[.str x,.str g]/\x.length<=100/\∀ H',Same H H'->Q (.bl (((List.range x.length).map fun i=>inG g (ch x i)).all id)) H'
theorem qI3 {f:Addr}{fd:FuncData}(D:Df K mg "only_of" qh5 Pon f fd) (B:Bt mg):FnOk P w K mg base (CXE P w) 1 f fd Pon spOnlyG:=by
 refine D.F.okN qR3 (fun vs H Q E h=>?_) (fun cdv A outer s H vs Q E hr h=>?_)
 ·obtain ⟨x,g,rfl,_⟩:=h
  rfl
 ·obtain ⟨x,g,rfl,hn,k⟩:=h
  refine ⟨_,q05 (q12 (q15 (ql1 rfl) (by rfl) B.all (by rfl) (q00
   (q29 (N':=["sign", "signs"]) (fm:=[none,some 1]) rfl ⟨rfl,by decide +kernel,by decide +kernel,rfl,rfl,rfl⟩
    (qI0 (pv 0)) (fun _ _ _ _=>q11 (i:=0) nd_on rfl (Or.inl rfl)) (fun _ _ _ _=>q42)
    (fun _ _ _ _=>q50 qB2 (pv 0) (pv 1) (by rfl))) q03))),?_⟩
  refine ⟨_,rfl,_,rfl,fun p hp=>?_⟩
  refine qG4 (fun i σ H2=>∃ u,σ=[u,some (.str g)]/\Same H H2/\H2 p=some (.lst ((List.range i).map fun j=>V.bl (inG g (ch x j))))) ⟨none,rfl,Same.new hp,q01⟩ ?_ ?_
  ·rintro i σ H2 hi ⟨u,rfl,s2,e2⟩
   refine q53 ⟨_,rfl,_,rfl,_,_,rfl,rfl,_,e2,q41 _ _ (by omega),_,rfl,Same.grow hp s2,?_⟩
   rw [q01,<- q90]
   show some (HO.lst (_ ++ [V.bl _]))=_
   rw [show (!(Builtin.Str.occurrences g ⟨#[x.cps.getD i 0]⟩ 0 g.length 1).isEmpty)=inG g (ch x i) from in_occ g _]
  ·rintro σ H2 ⟨u,rfl,s2,e2⟩
   rw [zb3] at e2
   exact ⟨p,_,rfl,SqL.of e2,k H2 s2⟩
end
end K67
namespace L2
open PySem
def qL:Str := "law" ++ ".<locals>." ++ "<lambda>"
theorem TabOk.ne {H:Hp}{Pt b:Addr}{o:HO}(t:TabOk H Pt qL) (e:H b=some o) (n:∀ ps,o≠.tbl ps):b≠Pt:=fun z=>by
 obtain ⟨ps,hp,_⟩:=t.ex
 rw [z,hp] at e; cases e; exact n _ rfl
theorem qn9 {H H':Hp}{Pt b:Addr}{o:HO}(t:TabOk H Pt qL) (s:SameP Pt H H') (e:H b=some o) (n:∀ ps,o≠.tbl ps):H' b=some o:=s _ _ (TabOk.ne t e n) e
theorem z76 (xs:List Int) (n:Nat) (h:xs.length<=1000):qK4 (xs.map V.int) (some n) none=(xs.drop n).map V.int:=by
 unfold qK4
 rw [<- List.map_drop,<- List.map_take]
 congr 1
 have e1:HT.sIx (xs.map V.int).length 0 (some (n:Int))=min n xs.length:=by
  rw [List.length_map]
  unfold HT.sIx
  simp only
  split <;> omega
 have e2:HT.sIx (xs.map V.int).length (xs.map V.int).length none=xs.length:=by
  rw [List.length_map]
  rfl
 rw [e1,e2]
 by_cases z:n<=xs.length
 ·rw [Nat.min_eq_left z]
  exact List.take_of_length_le (by rw [List.length_drop]; exact Nat.le_refl _)
 ·rw [Nat.min_eq_right (by omega),List.drop_of_length_le (Nat.le_refl _),List.drop_of_length_le (by omega)]
  simp
theorem qw5 {L:List Str}(h:0 < L.length) (x:Int):∃ y∈L,atI (L.map V.str) (x % ((L.map V.str).length:Nat))=some (.str y):=by
 rw [List.length_map]
 have b:0<=x % (L.length:Int)/\x % (L.length:Int) < L.length:=⟨Int.emod_nonneg _ (by omega),Int.emod_lt_of_pos _ (by omega)⟩
 obtain ⟨j,hj⟩:∃ j:Nat,(j:Int)=x % (L.length:Int):=⟨(x % (L.length:Int)).toNat,by omega⟩
 have jl:j < L.length:=by omega
 refine ⟨L[j],List.getElem_mem jl,?_⟩
 rw [<- hj]
 refine q46 ?_
 rw [List.getElem?_map,List.getElem?_eq_getElem jl]
 rfl
theorem qX3 {K:PySem.W.Frag}{H:Hp}{p:Addr}{x:V}{d:Dt}(h:H p=some (.tup [x])) (hx:Den K H x d):Den K H (.ref p) (.tup [d]):=by
 refine .tup (.inl (.inl h)) rfl (show 1<=5000 by decide) fun i u v hu hv=>?_
 match i,hu,hv with
 | 0,hu,hv=>cases hu; cases hv; exact hx
 | _ + 1,hu,_=>cases hu
theorem zc0 (a:Str):(Dt.tup [.str a]).eqb (.tup [.str a])=true:=by
 show (decide (a=a) && true)=true
 rw [decide_eq_true rfl]; rfl
theorem qk8 {K:PySem.W.Frag}{H:Hp}{p:Addr}{xs:List Str}(h:H p=some (.lst (xs.map V.str))) (hl:xs.length<=5000):Den K H (.ref p) (.lst (xs.map Dt.str)):=by
 refine .lst (SqL.of h) (by rw [List.length_map,List.length_map]) (by rw [List.length_map]; exact hl) fun i u d hu hd=>?_
 rw [List.getElem?_map] at hu hd
 cases z:xs[i]? with
 | none=>rw [z] at hu; cases hu
 | some y=>rw [z] at hu hd; cases hu; cases hd; exact .str _
theorem qg3:∀ xs:List Str,Dt.eqb.eqbs (xs.map Dt.str) (xs.map Dt.str)=true
 | []=>rfl
 | x :: r=>by
  show ((Dt.str x).eqb (.str x) && Dt.eqb.eqbs (r.map Dt.str) (r.map Dt.str))=true
  rw [qg3 r,Bool.and_true]
  exact decide_eq_true rfl
theorem qb7:∀ xs:List Str,Dt.deep.deeps (xs.map Dt.str)=0
 | []=>rfl
 | x :: r=>by show max 0 (Dt.deep.deeps (r.map Dt.str))=0; rw [qb7 r]; rfl
theorem TabOk.frame {H H':Hp}{P:Addr}{q:Str}(t:TabOk H P q) (e:∀ b o,(∀ xs,o≠.lst xs)->(∀ c,o≠.dK c)->(∀ c,o≠.dT c)->H b=some o->H' b=some o):TabOk H' P q:=by
 obtain ⟨ps,h1,h2,h3⟩:=t
 exact ⟨ps,e _ _ (fun _ z=>by cases z) (fun _ z=>by cases z) (fun _ z=>by cases z) h1,h2,fun pos cv z=>let ⟨c,e1,e2,e3⟩:=h3 pos cv z; ⟨c,e1,e2,e _ _ (fun _ z=>by cases z) (fun _ z=>by cases z) (fun _ z=>by cases z) e3⟩⟩
end L2
namespace L2
open PySem PySem.Spec PyProof.Rows
theorem qa9 {H H':Hp}{p:Addr}(s:Same H H') (h:H' p=none):H p=none:=by
 cases z:H p with
 | none=>rfl
 | some o=>rw [s _ _ z] at h; cases h
theorem five {α:Type}:∀{l:List α},l.length=5->∃ a b c d e,l=[a,b,c,d,e]
 | [a,b,c,d,e],_=>⟨a,b,c,d,e,rfl⟩
theorem pow12 {j:Nat}(h:j<=12):2 ^ j<=4096:=Nat.le_trans (Nat.pow_le_pow_right (by decide) h) (by decide)
section
variable {X:Cx}
def rEqNil (K:PySem.W.Frag):R2:=fun x y H Q=>∃ a b xs,x=.ref a/\y=.ref b/\SqL K H a xs/\SqL K H b []/\Q (.bl xs.isEmpty) H
theorem z36 (hu:X.A.units < cLine):OpR X (compareOp .Eq) (rEqNil X.K):=by
 intro pins s σ H x y v u Q I rx ry h
 obtain ⟨a,b,xs,rfl,rfl,ha,hb,q⟩:=h
 cases rx
 cases ry
 obtain ⟨its,r1,p1,_⟩:=I.list ha
 obtain ⟨its2,r2,p2,_⟩:=I.list hb
 cases r2
 cases r1 with
 | nil=>exact PySem.EqBoolInt.of_rc (SeqAt.RcAt.lists (e:=fun _=>true) p1.isList p2.isList rfl hu (fun j h1 _=>absurd h1 (by simp))) ⟨.bl true,H,I,rfl,q⟩
 | cons r t=>exact PySem.EqBoolInt.of_rc (SeqAt.RcAt.lists_lengths p1.isList p2.isList (by simp) hu) ⟨.bl false,H,I,rfl,q⟩
def tTru (K:PySem.W.Frag) (ta:TE):TT:=fun σ H Q=>ta σ H fun x H'=>∃ k,TruV K x H' k/\Q k H'
theorem qS1 {K:PySem.W.Frag}{a:Expr}{ta:TE}(hK:X.K=K) (ha:PE X a ta) (he:∀ whole,isTrue a X.env whole=(do let v <- whole; standAt a.pos; holding [v] (truthy v))):PT X a (tTru K ta):=by
 subst hK
 exact qo4 ha he
def rLenS (K:PySem.W.Frag):List V->Hp->VK->Prop:=fun xs H Q=>∃ p ys,xs=[V.ref p]/\(SqL K H p ys∨SqT K H p ys)/\Q (V.int ys.length) H
theorem qC9 {K:PySem.W.Frag}(hK:X.K=K):CallR X (.builtin "len") (rLenS K):=by
 subst hK
 exact q27
end
end L2
namespace K67
open PySem L2
open PyProof.Rows (envOfC)
abbrev qf0:Stmt:=top 38
theorem ny_iff {a:Nat}:a∈("ny" : Str).cps.toList↔(a=121∨a=110):=by
 show a∈[110,121]↔_
 simp
 omega
theorem row_iff {g:Str}(hg:∀ a,a∈g.cps.toList↔(a=121∨a=110)) {n:Nat}{x:Str}(hl:x.length=n):((List.range x.length).map fun i=>inG g (ch x i)).all id=true↔Row n x:=by
 rw [List.all_eq_true]
 constructor
 ·intro h
  refine ⟨hl,fun i hi=>?_⟩
  exact (hg _).mp (of_decide_eq_true (h _ (List.mem_map.mpr ⟨i,List.mem_range.mpr (by omega),rfl⟩)))
 ·rintro h b hb
  obtain ⟨i,hi,rfl⟩:=List.mem_map.mp hb
  exact decide_eq_true ((hg _).mpr (h.bin i (by have:=List.mem_range.mp hi; omega)))
section
variable {P:Program}{w:World}{K:PySem.W.Frag}{mg:Str->Option Value}{base:Heap}{C fi fa ft fy fm fc:Addr}{gi ga gt gy gm gc:FuncData}{W BC BS fW fC fS:Addr}{gW gC gS:FuncData}
def qH3:Sp:=fun vs H Q _=>∃(x:Str) (n:Nat),vs=[.str x,.int n]/\x.length<=100/\1<=n/\n<=12/\∀(b:Bool) H',(b=true↔Row n x)->Same H H'->Q (.bl b) H'
theorem q56 {f fc' fo:Addr}{fd gc' go:FuncData}(D:Df K mg "is_row" qc7 Pir f fd) (Dc:Df K mg "check_count" q80 ["questions"] fc' gc') (Do:Df K mg "only_of" qh5 Pon fo go) (B:Bt mg) (M:Gm mg):FnOk P w K mg base (CXE P w) 2 f fd Pir qH3:=by
 refine D.F.okN qH6 (fun vs H Q E h=>?_) (fun cdv A outer s H vs Q E hr h=>?_)
 ·obtain ⟨x,n,rfl,_⟩:=h
  rfl
 ·obtain ⟨x,n,rfl,hx,n1,n12,k⟩:=h
  obtain ⟨t,mS⟩:=M.signs
  refine ⟨_,q04 (q18 (q14 Dc (qk1 Dc M) hr q17 (q00 (pv 1) q03)))
   (q05 (q12 (qh7 (q50 q37 (q15 q49 (by rfl) B.len PySem.boot_len (q00 (pv 0) q03)) (pv 1) (q13 _))
    (qn3 (q14 Do (qI3 Do B) hr q17 (q00 (pv 0) (q00 (ql8 (v:=.str "ny") (by rfl) mS ⟨t,rfl⟩) q03))))))),?_⟩
  refine ⟨_,rfl,n,rfl,n1,n12,_,rfl,_,rfl,q22 hx,_,rfl,rfl,_,rfl,q77 (fun c=>?_) (fun c=>?_)⟩
  ·have c:decide (V.int (x.length:Nat)=V.int (n:Nat))=true:=c
   rw [q75] at c
   have c:((x.length:Nat):Int)=(n:Nat):=by simpa using c
   exact ⟨_,rfl,x,_,rfl,hx,fun H' s'=>k _ H' (row_iff (fun _=>ny_iff) (by omega)) s'⟩
  ·have c:¬ decide (V.int (x.length:Nat)=V.int (n:Nat))=true:=c
   rw [q75] at c
   have c:¬ ((x.length:Nat):Int)=(n:Nat):=by simpa using c
   exact k false H ⟨(fun h=>by cases h),(fun h=>absurd h.len (by omega))⟩ (Same.refl H)
def qE3 (BS:Addr):Sp:=fun vs H Q E=>∃(x:Str) (n:Nat),vs=[.str x,.int n]/\x.length<=100/\1<=n/\n<=12/\(Row n x->∀ H',Same H H'->Q .non H')/\(¬ Row n x->Ref H E BS "bad row")
theorem q83 {f fi':Addr}{fd gi':FuncData}(D:Df K mg "check_row" qf5 Pir f fd) (Di:Df K mg "is_row" qc7 Pir fi' gi') (Gi:FnOk P w K mg base (CXE P w) 2 fi' gi' Pir qH3) (T:Xs K mg W BC BS fW fC fS gW gC gS):FnOk P w K mg base (CXE P w) 4 f fd Pir (qE3 BS):=by
 refine D.F.okE qR6 (fun vs H Q E h=>?_) (fun cdv A outer s H vs Q E hr h=>?_)
 ·obtain ⟨x,n,rfl,_⟩:=h
  rfl
 ·obtain ⟨x,n,rfl,hx,n1,n12,k1,k2⟩:=h
  refine ⟨_,q05 (q30 (qa7 (q61 (q14 Di Gi (hr.mono (by decide)) q17 (q00 (pv 0) (q00 (pv 1) q03))))) (q05 (qg8 rfl q43 (qb6 T.kS T.iS (z42 T) hr (by rfl) T.mS T.bS q43))) q16),?_⟩
  refine ⟨_,rfl,_,rfl,x,n,rfl,hx,n1,n12,fun b H' hb s'=>⟨_,rfl,?_⟩⟩
  cases b with
  | true=>exact q31 (k1 (hb.mp rfl) H' s')
  | false=>exact q48 fun ea he=>((k2 fun h=>by have:=hb.mpr h; cases this).same s').raise T.kS he
def qE0 (C BS:Addr):Sp:=fun vs H Q E=>∃(t dx kp bt:Addr) (n m:Nat) (rs:List Str) (x:Str),vs=[.ref t,.str x]/\TabAt C H t dx kp bt n m rs/\x.length<=100/\1<=n/\n<=12 /\
 (¬ Row n x->Ref H E BS "bad row")/\(Row n x->∀ p H',H p=none->Acc H p H' (pgM rs 0 (q78 x n))->Q (.ref p) H')
abbrev Plk:List Str:=["table", "row"]
theorem z20:FnScope Plk Plk (q02 qf0):=⟨rfl,rfl,rfl,by decide +kernel,rfl,by decide +kernel,by decide +kernel⟩
theorem q89 {f fg fp:Addr}{fd gg gp:FuncData}(D:Df K mg "lacks" qf0 Plk f fd) (Dp:Df K mg "check_row" qf5 Pir fp gp) (Gp:FnOk P w K mg base (CXE P w) 4 fp gp Pir (qE3 BS)) (Dg:Df K mg "gaps" qj7 Pgp fg gg) (Gg:FnOk P w K mg base (CXE P w) 5 fg gg Pgp (qH5 C)) (T:Tb K mg C fi fa ft fy fm fc gi ga gt gy gm gc):FnOk P w K mg base (CXE P w) 6 f fd Plk (qE0 C BS):=by
 refine D.F.okE z20 (fun vs H Q E h=>?_) (fun cdv A outer s H vs Q E hr h=>?_)
 ·obtain ⟨t,dx,kp,bt,n,m,rs,x,rfl,_⟩:=h
  rfl
 ·obtain ⟨t,dx,kp,bt,n,m,rs,x,rfl,tab,hx,n1,n12,k1,k2⟩:=h
  refine ⟨_,q04 (q18 (q14 Dp Gp (hr.mono (by decide)) q43 (q00 (pv 1) (q00 (q82 (pv 0) rfl) q03))))
   (PSs.nox (q05 (q12 (q14 Dg Gg hr q17 (q00 (pv 0) (q00 (pv 1) q03)))))),?_⟩
  refine ⟨_,rfl,_,rfl,t,C,dx,_,_,rfl,tab.ins,T.cl,T.nQ,rfl,x,n,rfl,hx,n1,n12,fun hp H1 s1'=>?_,k1⟩
  exact ⟨_,rfl,_,rfl,t,dx,kp,bt,n,m,rs,x,rfl,tab.mono s1',hp.pat,n12,fun p H2 hp2 a2=>k2 hp p H2 (qa9 s1' hp2) (a2.back s1')⟩
end
end K67
namespace L2
open PySem PySem.Spec PyProof.Rows
theorem qA1 {α:Type}{R:α->α->Prop}(irr:∀ a,¬ R a a) (asy:∀ a b,R a b->¬ R b a):∀{l1 l2:List α},l1.Pairwise R->l2.Pairwise R->(∀ a,a∈l1↔a∈l2)->l1=l2
 | [],[],_,_,_=>rfl
 | [],b :: s,_,_,h=>absurd ((h b).mpr List.mem_cons_self) (by simp)
 | a :: r,[],_,_,h=>absurd ((h a).mp List.mem_cons_self) (by simp)
 | a :: r,b :: s,h1,h2,h=>by
  obtain ⟨a1,r1⟩:=List.pairwise_cons.mp h1
  obtain ⟨b2,s2⟩:=List.pairwise_cons.mp h2
  have e:a=b:=by
   rcases List.mem_cons.mp ((h a).mp List.mem_cons_self) with e | ha
   ·exact e
   ·rcases List.mem_cons.mp ((h b).mpr List.mem_cons_self) with e | hb
    ·exact e.symm
    ·exact absurd (b2 a ha) (asy a b (a1 b hb))
  subst e
  congr 1
  refine qA1 irr asy r1 s2 fun c=>⟨fun hc=>?_,fun hc=>?_⟩
  ·rcases List.mem_cons.mp ((h c).mp (List.mem_cons_of_mem _ hc)) with e | hs
   ·rw [e] at hc; exact absurd (a1 a hc) (irr a)
   ·exact hs
  ·rcases List.mem_cons.mp ((h c).mpr (List.mem_cons_of_mem _ hc)) with e | hs
   ·rw [e] at hc; exact absurd (b2 a hc) (irr a)
   ·exact hs
def Bef (n:Nat) (x y:Str):Prop:=∃ i,i < n/\(∀ j,j < i->ch x j=ch y j)/\ch x i < ch y i
theorem Bef.irr {n:Nat}(x:Str):¬ Bef n x x:=fun ⟨i,_,_,h⟩=>Nat.lt_irrefl _ h
theorem Bef.asy {n:Nat}(x y:Str) (h:Bef n x y):¬ Bef n y x:=by
 obtain ⟨i,hi,e,l⟩:=h
 rintro ⟨j,hj,e',l'⟩
 rcases Nat.lt_trichotomy i j with z | z | z
 ·have:=e' i z; omega
 ·subst z; omega
 ·have:=e j z; omega
theorem bef_eq {n:Nat}{l1 l2:List Str}(h1:l1.Pairwise (Bef n)) (h2:l2.Pairwise (Bef n)) (h:∀ a,a∈l1↔a∈l2):l1=l2:=qA1 Bef.irr Bef.asy h1 h2 h
theorem qp4 {n:Nat}{x y:Str}(hx:x.length=n) (hy:y.length=n) (h:∀ i,i < n->ch x i=ch y i):x=y:=by
 rw [qd8 hx,qd8 hy]
 exact qc0 h
def Goes (rs:List Str) (k:Nat) (t:Str) (a:Nat):Prop:=(∀ q,q < k->0 < q65 rs q (ch t q) k a)/\0 < q65 rs k a k a
noncomputable def rulS (rs:List Str) (k:Nat) (t:Str) (a:Nat):List Str:=open Classical in if Goes rs k t a then [tx (k + 1) (fun i=>if i < k then ch t i else a)] else []
noncomputable def rulF (rs:List Str) (k:Nat) (t:Str):List Str:=rulS rs k t 110 ++ rulS rs k t 121
noncomputable def rul (rs:List Str):Nat->List Str
 | 0=>[⟨#[]⟩]
 | k + 1=>(rul rs k).flatMap (rulF rs k)
theorem mem_rulS {rs:List Str}{k a:Nat}{t z:Str}:z∈rulS rs k t a↔Goes rs k t a/\z=tx (k + 1) (fun i=>if i < k then ch t i else a):=by
 unfold rulS
 split
 ·rename_i h; exact ⟨fun w=>⟨h,List.mem_singleton.mp w⟩,fun w=>List.mem_singleton.mpr w.2⟩
 ·rename_i h; exact ⟨(fun w=>by cases w),(fun w=>absurd w.1 h)⟩
theorem mem_rulF {rs:List Str}{k:Nat}{t z:Str}:z∈rulF rs k t↔∃ a,(a=110∨a=121)/\Goes rs k t a/\z=tx (k + 1) (fun i=>if i < k then ch t i else a):=by
 unfold rulF
 rw [List.mem_append,mem_rulS,mem_rulS]
 exact ⟨fun h=>h.elim (fun h=>⟨110,.inl rfl,h⟩) (fun h=>⟨121,.inr rfl,h⟩),fun ⟨a,ha,h⟩=>ha.elim (fun e=>by subst e; exact .inl h) (fun e=>by subst e; exact .inr h)⟩
theorem rul_mem {rs:List Str}:∀{k:Nat}{z:Str},z∈rul rs k↔Row k z/\q39 rs k z
 | 0,z=>by
  constructor
  ·intro h
   rw [List.mem_singleton.mp h]
   exact ⟨⟨rfl,fun i hi=>by omega⟩,fun q r hq=>by omega⟩
  ·rintro ⟨h,_⟩
   refine List.mem_singleton.mpr ?_
   exact qp4 h.len rfl fun i hi=>by omega
 | k + 1,z=>by
  show z∈(rul rs k).flatMap (rulF rs k)↔_
  rw [List.mem_flatMap]
  constructor
  ·rintro ⟨t,ht,hz⟩
   obtain ⟨rt,bt⟩:=rul_mem.mp ht
   obtain ⟨a,ha,⟨g1,g2⟩,rfl⟩:=mem_rulF.mp hz
   have c1:∀ i,i < k->ch (tx (k + 1) (fun i=>if i < k then ch t i else a)) i=ch t i:=fun i hi=>by rw [q55 (by omega),if_pos hi]
   have c2:ch (tx (k + 1) (fun i=>if i < k then ch t i else a)) k=a:=by rw [q55 (by omega),if_neg (by omega)]
   refine ⟨⟨q60 _ _,fun i hi=>?_⟩,fun q r hq hr=>?_⟩
   ·by_cases h:i < k
    ·rw [c1 i h]; exact rt.bin i h
    ·rw [show i=k by omega,c2]; omega
   ·by_cases h:q < k
    ·by_cases h':r < k
     ·rw [c1 q h,c1 r h']; exact bt q r h h'
     ·rw [show r=k by omega,c1 q h,c2]; exact g1 q h
    ·by_cases h':r < k
     ·rw [show q=k by omega,c1 r h',c2,ql0]; exact g1 r h'
     ·rw [show q=k by omega,show r=k by omega,c2]; exact g2
  ·rintro ⟨rz,bz⟩
   have c1:∀ i,i < k->ch (tx k (ch z)) i=ch z i:=fun i hi=>q55 hi
   refine ⟨tx k (ch z),rul_mem.mpr ⟨⟨q60 _ _,fun i hi=>by rw [c1 i hi]; exact rz.bin i (by omega)⟩,fun q r hq hr=>by rw [c1 q hq,c1 r hr]; exact bz q r (by omega) (by omega)⟩,mem_rulF.mpr ⟨ch z k,by have:=rz.bin k (by omega); omega,⟨fun q hq=>by rw [c1 q hq]; exact bz q k (by omega) (by omega),bz k k (by omega) (by omega)⟩,?_⟩⟩
   refine qp4 rz.len (q60 _ _) fun i hi=>?_
   rw [q55 hi]
   by_cases h:i < k
   ·rw [if_pos h,c1 i h]
   ·rw [if_neg h,show i=k by omega]
theorem qt9 {rs:List Str}:∀ k,(rul rs k).Pairwise (Bef k)
 | 0=>List.pairwise_singleton _ _
 | k + 1=>by
  refine List.pairwise_flatMap.mpr ⟨fun t ht=>?_,?_⟩
  ·unfold rulF
   refine List.pairwise_append.mpr ⟨?_,?_,fun x hx y hy=>?_⟩
   ·unfold rulS; split
    ·exact List.pairwise_singleton _ _
    ·exact List.Pairwise.nil
   ·unfold rulS; split
    ·exact List.pairwise_singleton _ _
    ·exact List.Pairwise.nil
   ·obtain ⟨_,rfl⟩:=mem_rulS.mp hx
    obtain ⟨_,rfl⟩:=mem_rulS.mp hy
    refine ⟨k,by omega,fun j hj=>?_,?_⟩
    ·rw [q55 (by omega),q55 (by omega),if_pos hj,if_pos hj]
    ·rw [q55 (by omega),q55 (by omega),if_neg (by omega),if_neg (by omega)]; decide
  ·refine (qt9 k).imp fun {t t'} h x hx y hy=>?_
   obtain ⟨i,hi,e,l⟩:=h
   obtain ⟨a,_,_,rfl⟩:=mem_rulF.mp hx
   obtain ⟨b,_,_,rfl⟩:=mem_rulF.mp hy
   refine ⟨i,by omega,fun j hj=>?_,?_⟩
   ·rw [q55 (by omega),q55 (by omega),if_pos (by omega),if_pos (by omega)]; exact e j hj
   ·rw [q55 (by omega),q55 (by omega),if_pos hi,if_pos hi]; exact l
noncomputable def mtS (rs:List Str) (n:Nat) (p:Str) (q a:Nat):List Str:=open Classical in if qz1 rs n p q a then [tx n (qh8 p q a)] else []
noncomputable def mtF (rs:List Str) (n q:Nat) (p:Str):List Str:=mtS rs n p q 110 ++ mtS rs n p q 121
theorem mem_mtS {rs:List Str}{n q a:Nat}{p z:Str}:z∈mtS rs n p q a↔qz1 rs n p q a/\z=tx n (qh8 p q a):=by
 unfold mtS
 split
 ·rename_i h; exact ⟨fun w=>⟨h,List.mem_singleton.mp w⟩,fun w=>List.mem_singleton.mpr w.2⟩
 ·rename_i h; exact ⟨(fun w=>by cases w),(fun w=>absurd w.1 h)⟩
theorem mem_mtF {rs:List Str}{n q:Nat}{p z:Str}:z∈mtF rs n q p↔∃ a,(a=110∨a=121)/\qz1 rs n p q a/\z=tx n (qh8 p q a):=by
 unfold mtF
 rw [List.mem_append,mem_mtS,mem_mtS]
 exact ⟨fun h=>h.elim (fun h=>⟨110,.inl rfl,h⟩) (fun h=>⟨121,.inr rfl,h⟩),fun ⟨a,ha,h⟩=>ha.elim (fun e=>by subst e; exact .inl h) (fun e=>by subst e; exact .inr h)⟩
structure Parts (rs:List Str) (n:Nat) (x:Str) (ds:List Nat) (ps:List Str):Prop where
 sorted:ps.Pairwise (Bef n)
 mem:∀ z,z∈ps↔z.length=n/\(∀ i,i < n->i∈ds->ch z i=121∨ch z i=110)/\(∀ i,i < n->i∉ds->ch z i=ch x i)/\qe2 rs n z
theorem Parts.start {rs:List Str}{n:Nat}{x:Str}(hx:x.length=n) (hS:qe2 rs n x):Parts rs n x [] [x]:=by
 refine ⟨List.pairwise_singleton _ _,fun z=>⟨fun h=>?_,fun h=>?_⟩⟩
 ·rw [List.mem_singleton.mp h]
  exact ⟨hx,(fun i _ h=>by cases h),(fun i _ _=>rfl),hS⟩
 ·exact List.mem_singleton.mpr (qp4 h.1 hx fun i hi=>h.2.2.1 i hi (by simp))
theorem Parts.step {rs:List Str}{n q:Nat}{x:Str}{ds:List Nat}{ps:List Str}(h:Parts rs n x ds ps) (hq:q < n) (hx:ch x q=45) (hd:∀ i∈ds,i < q):Parts rs n x (ds ++ [q]) (ps.flatMap (mtF rs n q)):=by
 have nq:q∉ds:=fun z=>Nat.lt_irrefl _ (hd q z)
 refine ⟨List.pairwise_flatMap.mpr ⟨fun p hp=>?_,?_⟩,fun z=>?_⟩
 ·unfold mtF
  refine List.pairwise_append.mpr ⟨?_,?_,fun a ha b hb=>?_⟩
  ·unfold mtS; split
   ·exact List.pairwise_singleton _ _
   ·exact List.Pairwise.nil
  ·unfold mtS; split
   ·exact List.pairwise_singleton _ _
   ·exact List.Pairwise.nil
  ·obtain ⟨_,rfl⟩:=mem_mtS.mp ha
   obtain ⟨_,rfl⟩:=mem_mtS.mp hb
   refine ⟨q,hq,fun j hj=>?_,?_⟩
   ·rw [q55 (by omega),q55 (by omega)]
    unfold qh8
    rw [if_neg (by omega),if_neg (by omega)]
   ·rw [q55 hq,q55 hq]
    unfold qh8
    rw [if_pos rfl,if_pos rfl]
    decide
 ·refine (List.pairwise_iff_forall_sublist.mpr fun {p p'} hs=>?_)
  have b:=List.pairwise_iff_forall_sublist.mp h.sorted hs
  have mp:p∈ps:=hs.subset (by simp)
  have mp':p'∈ps:=hs.subset (by simp)
  obtain ⟨i,hi,e,l⟩:=b
  have iq:i < q:=by
   apply Classical.byContradiction
   intro z
   have:i∉ds:=fun w=>z (hd i w)
   have e1:=((h.mem p).mp mp).2.2.1 i hi this
   have e2:=((h.mem p').mp mp').2.2.1 i hi this
   omega
  intro a ha b hb
  obtain ⟨_,_,_,rfl⟩:=mem_mtF.mp ha
  obtain ⟨_,_,_,rfl⟩:=mem_mtF.mp hb
  refine ⟨i,hi,fun j hj=>?_,?_⟩
  ·rw [q55 (by omega),q55 (by omega)]
   unfold qh8
   rw [if_neg (by omega),if_neg (by omega)]
   exact e j hj
  ·rw [q55 hi,q55 hi]
   unfold qh8
   rw [if_neg (by omega),if_neg (by omega)]
   exact l
 ·rw [List.mem_flatMap]
  constructor
  ·rintro ⟨p,hp,hz⟩
   obtain ⟨l1,l2,l3,l4⟩:=(h.mem p).mp hp
   obtain ⟨a,ha,hf,rfl⟩:=mem_mtF.mp hz
   refine ⟨q60 _ _,fun i hi hm=>?_,fun i hi hm=>?_,fit_set l4 hq hf⟩
   ·rw [q55 hi]
    unfold qh8
    split
    ·omega
    ·rename_i ne
     refine l2 i hi ?_
     rcases List.mem_append.mp hm with hm | hm
     ·exact hm
     ·exact absurd (List.mem_singleton.mp hm) ne
   ·have ne:¬ i=q:=fun z=>hm (List.mem_append_right _ (List.mem_singleton.mpr z))
    rw [q55 hi]
    unfold qh8
    rw [if_neg ne]
    exact l3 i hi fun w=>hm (List.mem_append_left _ w)
  ·rintro ⟨l1,l2,l3,l4⟩
   have sq:ch z q=121∨ch z q=110:=l2 q hq (List.mem_append_right _ (List.mem_singleton.mpr rfl))
   have c1:∀ i,i < n->¬ i=q->ch (tx n (qh8 z q 45)) i=ch z i:=fun i hi ne=>by rw [q55 hi]; unfold qh8; rw [if_neg ne]
   have c2:ch (tx n (qh8 z q 45)) q=45:=by rw [q55 hq]; unfold qh8; rw [if_pos rfl]
   refine ⟨tx n (qh8 z q 45),(h.mem _).mpr ⟨q60 _ _,fun i hi hm=>?_,fun i hi hm=>?_,fun i j hi hj h1 h2=>?_⟩,mem_mtF.mpr ⟨ch z q,by omega,⟨l4 q q hq hq (by omega) (by omega),fun r hr hn=>?_⟩,?_⟩⟩
   ·rw [c1 i hi (fun w=>nq (w ▸ hm))]
    exact l2 i hi (List.mem_append_left _ hm)
   ·by_cases ne:i=q
    ·rw [ne,c2,hx]
    ·rw [c1 i hi ne]
     exact l3 i hi fun w=>(List.mem_append.mp w).elim hm fun w=>ne (List.mem_singleton.mp w)
   ·have ni:¬ i=q:=fun w=>h1 (by rw [w]; exact c2)
    have nj:¬ j=q:=fun w=>h2 (by rw [w]; exact c2)
    rw [c1 i hi ni] at h1 ⊢
    rw [c1 j hj nj] at h2 ⊢
    exact l4 i j hi hj h1 h2
   ·have nr:¬ r=q:=fun w=>hn (by rw [w]; exact c2)
    rw [c1 r hr nr] at hn ⊢
    exact l4 q r hq hr (by omega) hn
   ·refine qp4 l1 (q60 _ _) fun i hi=>?_
    rw [q55 hi]
    by_cases ne:i=q
    ·unfold qh8; rw [if_pos ne,ne]
    ·have:=c1 i hi ne
     unfold qh8
     rw [if_neg ne]
     exact this.symm
theorem Parts.done {rs:List Str}{n:Nat}{x:Str}{ds:List Nat}{ps:List Str}(h:Parts rs n x ds ps) (hx:Pat n x) (hd:∀ i,i < n->(i∈ds↔ch x i=45)) (m:Str->Bool) (hm:∀ z,m z=true↔∀ i,i < n->ch x i=45∨ch x i=ch z i):ps=(rul rs n).filter m:=by
 refine bef_eq h.sorted ((qt9 n).filter _) fun z=>?_
 rw [h.mem,List.mem_filter,rul_mem,hm]
 constructor
 ·rintro ⟨l1,l2,l3,l4⟩
  have bin:∀ i,i < n->ch z i=121∨ch z i=110:=fun i hi=>by
   by_cases w:i∈ds
   ·exact l2 i hi w
   ·have:=hx.sgn i hi
    have nd:¬ ch x i=45:=fun z=>w ((hd i hi).mpr z)
    rw [l3 i hi w]
    omega
  refine ⟨⟨⟨l1,bin⟩,fun q r hq hr=>l4 q r hq hr (by have:=bin q hq; omega) (by have:=bin r hr; omega)⟩,fun i hi=>?_⟩
  by_cases w:i∈ds
  ·exact .inl ((hd i hi).mp w)
  ·exact .inr (l3 i hi w).symm
 ·rintro ⟨⟨rz,bz⟩,mt⟩
  refine ⟨rz.len,fun i hi _=>rz.bin i hi,fun i hi w=>?_,fun q r hq hr _ _=>bz q r hq hr⟩
  rcases mt i hi with e | e
  ·exact absurd ((hd i hi).mpr e) w
  ·exact e.symm
theorem qM1 {rs:List Str}{n:Nat}{x:Str}(hn:¬ pgM rs 0 (q78 x n)=[]) (m:Str->Bool) (hm:∀ z,m z=true↔∀ i,i < n->ch x i=45∨ch x i=ch z i):(rul rs n).filter m=[]:=by
 refine List.eq_nil_iff_forall_not_mem.mpr fun z hz=>hn (qJ8 fun q r hq hr h1 h2=>?_)
 obtain ⟨hr',hz⟩:=List.mem_filter.mp hz
 obtain ⟨rz,bz⟩:=rul_mem.mp hr'
 have mt:=(hm z).mp hz
 rw [(mt q hq).resolve_left h1,(mt r hr).resolve_left h2]
 exact bz q r hq hr
end L2
namespace L2
open PySem PySem.Spec PyProof.Rows
def sCompN (fm:List (Option Nat)) (wi:TI) (g:TG) (tt:TT) (tb:Addr->TBd) (i:Nat):TS:=fun D σ H=>wi σ H fun J H1=>∀ p,H1 p=none ->
 qD8 J g tt (tb p) (seeσ fm σ) (upd H1 p (.lst [])) fun _ H2=>D.nx (σ.set i (some (.ref p))) H2
section
variable {X:Cx}{elt iter tg:Expr}{ifs:List Expr}{qd9:List Comprehension}{scope:Scope}{pos:Pos}{N':List Str}{fm:List (Option Nat)}{wi:TI}{g:TG}{tt:TT}{tb:Addr->TBd}
theorem z31 {i:Nat}{x:Str}{px spos:Pos}(hc:X.calm=true) (hN:X.N.Nodup) (hx:X.N[i]? = some x) (hl:X.env.kindOf x=some .local) (S:CompSc X scope N' fm) (hi:PI X tg iter wi) (hg:∀ s H C fp,PG (cxC X scope N' s H C fp) tg g) (ht:∀ s H C fp,qZ1 (cxC X scope N' s H C fp) ifs tt)
  (hb:∀ s H C fp p,PB (cxC X scope N' s H C fp) (qG6 elt (⟨tg,iter,ifs,0⟩ :: qd9) scope pos 0 (.ref p) (cxC X scope N' s H C fp).env) (tb p))
  (h3:∀ g,qd9[0]? = some g->g.is_async=0:=by intro g h; first | (cases h; rfl) | cases h)
  (hs:∀ x,foldedSetIterable iter X.env x=pure x:=by intro _; rfl)
  (hsw:swapsWith (.ListComp elt (⟨tg,iter,ifs,0⟩ :: qd9) scope pos) (some (.Name x px)) spos.line X.env=pure true:=by rfl) :
  PS X (.Assign [.Name x px] (.ListComp elt (⟨tg,iter,ifs,0⟩ :: qd9) scope pos) spos) (sCompN fm wi g tt tb i):=by
 intro pins s σ H D I h
 rw [exec_Assign_Name_used _ _ _ _ hsw]
 refine wpAny_bind (wpAny_standAt (wpAny_bind ?_))
 show wpAny _ _ (comprehension (.ListComp elt (⟨tg,iter,ifs,0⟩ :: qd9) scope pos) scope X.env _ (newList []) false (eval iter X.env) (some (assign (.Name x px) X.env)) >>= _) _ _ s
 refine wpAny_bind (thn (wpAny_comprehension_free (use:=some (assign (.Name x px) X.env)) (Q:=fun _ s'=>SP X pins D .next s') rfl hs (qd6 (S.cells I)) S.kind S.names
  (thn (hi pins s σ H _ I h) fun v s1 h1=>thn h1 fun itv s2 h2=>?_)) fun _ s' q=>wpAny_pure (wpAny_pure q))
 obtain ⟨it,fp,tn,J,H2,e,I2,T,st2,f2,blk⟩:=h2
 subst e
 refine qs4 (RR:=fun acc C=>compPost (model X.prog X.w) X.A X.xe (some (assign (.Name x px) X.env)) (fun _ s'=>SP X pins D .next s') acc C) (Q:=fun p H'=>D.nx (σ.set i (some (.ref p))) H') hc S hg ht hb (fun it acc env=>qv5 (cl:=⟨tg,iter,ifs,0⟩) (gens:=⟨tg,iter,ifs,0⟩ :: qd9) (d:=0) rfl rfl (fun g h=>h3 g (by simpa using h)) it acc env) T I2 st2 f2 blk ?_
 intro p C H' s' m hm back fC q I'
 obtain ⟨f0,f1,f2,f3,f4,f5⟩:=fC
 show wpAny _ _ (assign (.Name x px) X.env (.ref p)) _ _ s'
 refine wpAny_assign_Name (qp5 I' hN hx (.inl hl) (v:=.ref p) rfl (fun s'' I'' ⟨a,sb,ha⟩=>?_) (.inr hl))
 have haC:C≠a:=by
  rcases ha with z | z
  ·rw [z]; exact f1
  ·exact Ne.symm (f4 x a z)
 refine ⟨m,hm.sameBut sb haC,fun h3 sb3=>⟨σ.set i (some (.ref p)),H',I''.turned (t':=s''.toks) (fun b o hb e=>(sb3.2 b hb).trans e) f0 f1 f3 f4 f5,q⟩⟩
end
end L2
namespace K67
open PySem L2
open PyProof.Rows (envOfC)
abbrev q85:Stmt:=top 39
theorem nyd_iff {a:Nat}:a∈(("ny" : Str) ++ ("-" : Str)).cps.toList↔(a=121∨a=110∨a=45):=by
 show a∈[110,121,45]↔_
 simp
 omega
theorem pat_iff {n:Nat}{x:Str}(hl:x.length=n):((List.range x.length).map fun i=>inG (("ny" : Str) ++ ("-" : Str)) (ch x i)).all id=true↔Pat n x:=by
 rw [List.all_eq_true]
 constructor
 ·intro h
  refine ⟨hl,fun i hi=>?_⟩
  exact nyd_iff.mp (of_decide_eq_true (h _ (List.mem_map.mpr ⟨i,List.mem_range.mpr (by omega),rfl⟩)))
 ·rintro h b hb
  obtain ⟨i,hi,rfl⟩:=List.mem_map.mp hb
  exact decide_eq_true (nyd_iff.mpr (h.sgn i (by have:=List.mem_range.mp hi; omega)))
def mB (x:Str) (n:Nat) (z:Str):Bool:=(List.range n).all fun i=>decide (ch x i=45∨ch x i=ch z i)
theorem qJ2 {x:Str}{n:Nat}(z:Str):mB x n z=true↔∀ i,i < n->ch x i=45∨ch x i=ch z i:=by
 unfold mB
 rw [List.all_eq_true]
 exact ⟨fun h i hi=>of_decide_eq_true (h i (List.mem_range.mpr hi)),fun h i hi=>decide_eq_true (h i (List.mem_range.mp hi))⟩
noncomputable def mL (rs:List Str) (x:Str) (n:Nat):List Str:=(rul rs n).filter (mB x n)
theorem qu2 (x:Str):∀ n,(qt2 x n).Pairwise (· < ·)
 | 0=>List.Pairwise.nil
 | n + 1=>by
  rw [qo5]
  refine List.pairwise_append.mpr ⟨qu2 x n,?_,fun a ha b hb=>?_⟩
  ·unfold qZ4; split
   ·exact List.pairwise_singleton _ _
   ·exact List.Pairwise.nil
  ·have:=(opn_mem.mp ha).1
   unfold qZ4 at hb
   split at hb
   ·rw [List.mem_singleton.mp hb]; exact this
   ·cases hb
theorem qL9 {x:Str}{n j q:Nat}(h:(qt2 x n)[j]? = some q):∀ i∈(qt2 x n).take j,i < q:=by
 intro i hi
 have s:=qu2 x n
 have e:qt2 x n=(qt2 x n).take j ++ (qt2 x n).drop j:=(List.take_append_drop _ _).symm
 rw [e] at s
 refine (List.pairwise_append.mp s).2.2 i hi q ?_
 have:=List.mem_of_getElem? (l:=(qt2 x n).drop j) (i:=0) (a:=q) (by rw [List.getElem?_drop]; simpa using h)
 exact this
theorem qV4 (rs:List Str) (n q:Nat) (p:Str):(mtF rs n q p).length<=2:=by
 unfold mtF mtS
 rw [List.length_append]
 split <;> split <;> simp
noncomputable def mtP (rs:List Str) (n:Nat) (p:Str) (q:Nat):Nat->List Str
 | 0=>[]
 | 1=>mtS rs n p q 110
 | _=>mtF rs n q p
theorem qV3 (rs:List Str) (n:Nat) (p:Str) (q j:Nat):(mtP rs n p q j).length<=2:=by
 match j with
 | 0=>exact Nat.zero_le _
 | 1=>show (mtS rs n p q 110).length<=2; unfold mtS; split <;> simp
 | j + 2=>exact qV4 rs n q p
theorem qK0 {rs:List Str}{n q:Nat}:∀ l:List Str,(l.flatMap (mtF rs n q)).length<=2 * l.length
 | []=>Nat.le_refl _
 | p :: r=>by
  rw [List.flatMap_cons,List.length_append,List.length_cons]
  have:=qK0 (rs:=rs) (n:=n) (q:=q) r
  have:=qV4 rs n q p
  omega
section
variable {P:Program}{w:World}{K:PySem.W.Frag}{mg:Str->Option Value}{base:Heap}{C fi fa ft fy fm fc:Addr}{gi ga gt gy gm gc:FuncData}{W BC BS fW fC fS:Addr}{gW gC gS:FuncData}
def qE1:Sp:=fun vs H Q _=>∃(x:Str) (n:Nat),vs=[.str x,.int n]/\x.length<=100/\1<=n/\n<=12/\∀(b:Bool) H',(b=true↔Pat n x)->Same H H'->Q (.bl b) H'
abbrev Pip:List Str:=["pattern", "questions"]
theorem z21:FnScope Pip Pip (q02 qf1):=⟨rfl,rfl,rfl,by decide +kernel,rfl,by decide +kernel,by decide +kernel⟩
theorem qI6 {f fc' fo:Addr}{fd gc' go:FuncData}(D:Df K mg "is_pattern" qf1 Pip f fd) (Dc:Df K mg "check_count" q80 ["questions"] fc' gc') (Do:Df K mg "only_of" qh5 Pon fo go) (B:Bt mg) (M:Gm mg):FnOk P w K mg base (CXE P w) 2 f fd Pip qE1:=by
 refine D.F.okN z21 (fun vs H Q E h=>?_) (fun cdv A outer s H vs Q E hr h=>?_)
 ·obtain ⟨x,n,rfl,_⟩:=h
  rfl
 ·obtain ⟨x,n,rfl,hx,n1,n12,k⟩:=h
  obtain ⟨t,mS⟩:=M.signs
  refine ⟨_,q04 (q18 (q14 Dc (qk1 Dc M) hr q17 (q00 (pv 1) q03)))
   (q05 (q12 (qh7 (q50 q37 (q15 q49 (by rfl) B.len PySem.boot_len (q00 (pv 0) q03)) (pv 1) (q13 _))
    (qn3 (q14 Do (qI3 Do B) hr q17 (q00 (pv 0) (q00 (q24 qa1 (ql8 (v:=.str "ny") (by rfl) mS ⟨t,rfl⟩) q20) q03))))))),?_⟩
  refine ⟨_,rfl,n,rfl,n1,n12,_,rfl,_,rfl,q22 hx,_,rfl,rfl,_,rfl,q77 (fun c=>?_) (fun c=>?_)⟩
  ·have c:decide (V.int (x.length:Nat)=V.int (n:Nat))=true:=c
   rw [q75] at c
   have c:((x.length:Nat):Int)=(n:Nat):=by simpa using c
   exact ⟨_,rfl,_,_,rfl,rfl,q22 (show 3<=100 by decide),x,_,rfl,hx,fun H' s'=>k _ H' (pat_iff (by omega)) s'⟩
  ·have c:¬ decide (V.int (x.length:Nat)=V.int (n:Nat))=true:=c
   rw [q75] at c
   have c:¬ ((x.length:Nat):Int)=(n:Nat):=by simpa using c
   exact k false H ⟨(fun h=>by cases h),(fun h=>absurd h.len (by omega))⟩ (Same.refl H)
def qQ4:Sp:=fun vs H Q _=>∃(x:Str) (n:Nat),vs=[.str x,.int n]/\x.length<=100/\1<=n/\n<=12/\Pat n x/\∀ H',Same H H'->Q .non H'
theorem sc_cpat:FnScope Pip Pip (q02 qh6):=⟨rfl,rfl,rfl,by decide +kernel,rfl,by decide +kernel,by decide +kernel⟩
theorem z50 {f fi':Addr}{fd gi':FuncData}(D:Df K mg "check_pattern" qh6 Pip f fd) (Di:Df K mg "is_pattern" qf1 Pip fi' gi') (Gi:FnOk P w K mg base (CXE P w) 2 fi' gi' Pip qE1):FnOk P w K mg base (CXE P w) 4 f fd Pip qQ4:=by
 refine D.F.okN sc_cpat (fun vs H Q E h=>?_) (fun cdv A outer s H vs Q E hr h=>?_)
 ·obtain ⟨x,n,rfl,_⟩:=h
  rfl
 ·obtain ⟨x,n,rfl,hx,n1,n12,hp,k⟩:=h
  refine ⟨_,q05 (q30 (qa7 (q61 (q14 Di Gi (hr.mono (by decide)) q17 (q00 (pv 0) (q00 (pv 1) q03))))) (q05 qg9) q16),?_⟩
  refine ⟨_,rfl,_,rfl,x,n,rfl,hx,n1,n12,fun b H' hb s'=>⟨_,rfl,?_⟩⟩
  rw [hb.mpr hp]
  exact q31 (k H' s')
def qP9 (C:Addr):Sp:=fun vs H Q _=>∃(t dx kp bt:Addr) (n m:Nat) (rs:List Str) (x:Str),vs=[.ref t,.str x]/\TabAt C H t dx kp bt n m rs/\x.length<=100/\1<=n/\n<=12 /\
 (Pat n x)/\(∀ p H',H p=none->Same H H'->H' p=some (.lst ((mL rs x n).map V.str))->(mL rs x n).length<=4096->Q (.ref p) H')
abbrev Nmt:List Str:=["table", "pattern", "parts", "question"]
theorem sc_match:FnScope Nmt Pgp (q02 q85):=⟨rfl,rfl,rfl,by decide +kernel,rfl,by decide +kernel,by decide +kernel⟩
abbrev Nmc:List Str:=["part", "sign", "question", "table"]
theorem nd_mc:Nmc.Nodup:=by decide +kernel
theorem z47 {f fg fp fo ff fw:Addr}{fd gg gp go gf gw:FuncData}(D:Df K mg "matching" q85 Pgp f fd) (Dp:Df K mg "check_pattern" qh6 Pip fp gp) (Gp:FnOk P w K mg base (CXE P w) 4 fp gp Pip qQ4) (Dg:Df K mg "gaps" qj7 Pgp fg gg) (Gg:FnOk P w K mg base (CXE P w) 5 fg gg Pgp (qH5 C)) (Do:Df K mg "open_places" qq5 ["pattern"] fo go)
  (Df':Df K mg "fits" qm9 Pft ff gf) (Gf:FnOk P w K mg base (CXE P w) 4 ff gf Pft (qQ1 C)) (Dw:Df K mg "with_answer" qq1 Pwi fw gw) (T:Tb K mg C fi fa ft fy fm fc gi ga gt gy gm gc) (M:Gm mg):FnOk P w K mg base (CXE P w) 6 f fd Pgp (qP9 C):=by
 refine D.F.okN sc_match (fun vs H Q E h=>?_) (fun cdv A outer s H vs Q E hr h=>?_)
 ·obtain ⟨t,dx,kp,bt,n,m,rs,x,rfl,_⟩:=h
  rfl
 ·obtain ⟨t,dx,kp,bt,n,m,rs,x,rfl,tab,hx,n1,n12,hp,k2⟩:=h
  obtain ⟨tk,mS⟩:=M.signs
  refine ⟨_,q04 (q18 (q14 Dp Gp (hr.mono (by decide)) q17 (q00 (pv 1) (q00 (q82 (pv 0) rfl) q03))))
   ((q04 (q30 (qo4 (q14 Dg Gg hr q17 (q00 (pv 0) (q00 (pv 1) q03))) (fun _=>rfl)) (q05 (q12 (q36 q03))) q16)
   (q04 (q21 (i:=2) sc_match.nd rfl (Or.inl rfl) (q36 (q00 (pv 1) q03)))
   (q04 (q91 PassesOwn.never rfl (q35 (q14 Do (ok_open Do M) (hr.mono (by decide)) q17 (q00 (pv 1) q03))) (q11 (i:=3) sc_match.nd rfl (Or.inr rfl))
    (q05 (z31 (i:=2) (N':=Nmc) (fm:=[none,none,some 3,some 0]) rfl sc_match.nd rfl rfl ⟨rfl,by decide +kernel,by decide +kernel,rfl,rfl,rfl⟩
     (q35 (pv 2)) (fun _ _ _ _=>q11 (i:=0) nd_mc rfl (Or.inl rfl)) (fun _ _ _ _=>q42)
     (fun _ _ _ _ _=>qS9 rfl (fun _ _ z=>z) (qI0 (ql8 (v:=.str "ny") (by rfl) mS ⟨tk,rfl⟩)) (q11 (i:=1) nd_mc rfl (Or.inl rfl))
      (q63 (q61 (q14 Df' Gf (hr.mono (by decide)) q17 (q00 (pv 3) (q00 (pv 0) (q00 (pv 2) (q00 (pv 1) q03)))))))
      (qT0 (fun _ _ z=>z) (q14 Dw (ok_with Dw) (hr.mono (by decide)) q17 (q00 (pv 0) (q00 (pv 2) (q00 (pv 1) q03)))))))))
   (q05 (q12 (pv 2))))))),?_⟩
  refine ⟨_,rfl,_,rfl,t,C,dx,_,_,rfl,tab.ins,T.cl,T.nQ,rfl,x,n,rfl,hx,n1,n12,hp,fun H1 s1'=>?_⟩
  refine ⟨_,rfl,_,rfl,t,dx,kp,bt,n,m,rs,x,rfl,tab.mono s1',hp,n12,fun pg H2 hpg a2=>?_⟩
  obtain ⟨s2,as,e2,t2⟩:=a2
  have s02:=s1'.trans' s2
  cases z:pgM rs 0 (q78 x n) with
  | cons k0 kt =>
   rw [z] at t2
   have nm:mL rs x n=[]:=qM1 (by rw [z]; simp) (mB x n) qJ2
   cases as with
   | nil=>exact absurd t2.1 (by simp)
   | cons a0 at' =>
    refine ⟨true,.inl ⟨_,SqL.of e2,rfl⟩,q48 ⟨Nat.zero_le _,fun pe hpe=>?_⟩⟩
    refine k2 pe _ (qa9 s02 hpe) (s02.trans' (Same.new hpe)) ?_ (by rw [nm]; exact Nat.zero_le _)
    rw [nm]
    exact q01
  | nil =>
   rw [z] at t2
   have:as=[]:=List.length_eq_zero_iff.mp t2.1
   subst this
   refine ⟨false,.inl ⟨_,SqL.of e2,rfl⟩,q31 ?_⟩
   refine ⟨_,rfl,q22 (show 1<=100 by decide),fun pl hpl=>?_⟩
   have sl:=Same.new (o:=.lst [.str x]) hpl
   refine ⟨_,rfl,x,n,rfl,hp.len,n12,fun po H4 hpo s4 eo=>⟨po,rfl,⟨_,SqL.of eo⟩,?_⟩⟩
   have s04:=s02.trans' (sl.trans' s4)
   refine qo7 (K:=K) (a:=po) (xs:=(qt2 x n).map vN) (fun j σ H5=>∃(v3:Option V) (pp:Addr) (ps:List Str),σ=[some (.ref t),some (.str x),some (.ref pp),v3]/\H pp=none/\Same H4 H5/\H5 pp=some (.lst (ps.map V.str))/\Parts rs n x ((qt2 x n).take j) ps/\ps.length<=2 ^ j)
    ⟨none,pl,[x],rfl,qa9 s02 hpl,Same.refl _,s4 _ _ q01,Parts.start hp.len (L2.stands_of z),Nat.le_refl _⟩ (fun j σ H5 _ ⟨_,_,_,_,_,s5,_⟩=>SqL.of (s5 _ _ eo)) ?_ ?_
   ·rintro j y σ H5 hj ⟨v3,pp,ps,rfl,hpp,s5,e5,pt,pl2⟩
    rw [List.getElem?_map] at hj
    cases zj:(qt2 x n)[j]? with
    | none=>rw [zj] at hj; cases hj
    | some q =>
     rw [zj] at hj
     cases hj
     obtain ⟨hq,hxq⟩:=opn_mem.mp (List.mem_of_getElem? zj)
     have j12:j < 12:=by have:=(List.getElem?_eq_some_iff.mp zj).1; have:=qw8 x n; omega
     have tk:(qt2 x n).take (j + 1)=(qt2 x n).take j ++ [q]:=by rw [List.take_add_one,zj]; rfl
     refine ⟨_,rfl,pp,rfl,⟨_,SqL.of e5⟩,fun p2 hp2=>?_⟩
     refine qF3 (K:=K) (a:=pp) (xs:=ps.map V.str) (fun i σ H6=>∃ v0 v1,σ=[v0,v1,some (vN q),some (.ref t)]/\Same H5 H6/\H6 p2=some (.lst (((ps.take i).flatMap (mtF rs n q)).map V.str))) ⟨none,none,rfl,Same.new hp2,q01⟩ (fun i σ H6 _ ⟨_,_,_,s6,_⟩=>SqL.of (s6 _ _ e5)) ?_ ?_
     ·rintro i y σ H6 hi ⟨v0,v1,rfl,s6,e6⟩
      rw [List.getElem?_map] at hi
      cases zi:ps[i]? with
      | none=>rw [zi] at hi; cases hi
      | some part =>
       rw [zi] at hi
       cases hi
       have il:i < ps.length:=(List.getElem?_eq_some_iff.mp zi).1
       obtain ⟨l1,l2,l3,l4⟩:=(pt.mem part).mp (List.mem_of_getElem? zi)
       have hpart:Pat n part:=⟨l1,fun i hi=>by
        by_cases w:i∈(qt2 x n).take j
        ·have:=l2 i hi w; omega
        ·rw [l3 i hi w]; exact hp.sgn i hi⟩
       refine qV6 ?_
       refine ⟨_,rfl,?_⟩
       refine lp_str (x := "ny") (fun c σ H7=>∃ v1,σ=[some (.str part),v1,some (vN q),some (.ref t)]/\Same H5 H7/\H7 p2=some (.lst (((ps.take i).flatMap (mtF rs n q) ++ mtP rs n part q c).map V.str))) ⟨_,rfl,s6,by rw [show mtP rs n part q 0=[] from rfl,List.append_nil]; exact e6⟩ ?_ ?_
       ·rintro c σ H7 hc ⟨v1,rfl,s7,e7⟩
        have hc:c < 2:=by rw [show ("ny" : Str).length=2 by decide +kernel] at hc; exact hc
        have P1:mtP rs n part q (0 + 1)=mtP rs n part q 0 ++ mtS rs n part q 110:=rfl
        have P2:mtP rs n part q (1 + 1)=mtP rs n part q 1 ++ mtS rs n part q 121:=rfl
        have hc':c=0∨c=1:=by omega
        rcases hc' with rfl | rfl
        ·
         refine ⟨_,rfl,_,rfl,_,rfl,_,rfl,t,dx,kp,bt,n,m,rs,part,q,110,rfl,tab.mono (s04.trans' (s5.trans' s7)),hpart,n12,hq,.inr rfl,fun b H8 hb s8=>⟨_,rfl,?_⟩⟩
         cases b with
         | true =>
          refine q48 ⟨_,rfl,_,rfl,_,rfl,part,n,q,110,rfl,l1,hq,by omega,_,s8 _ _ e7,?_,_,rfl,Same.grow hp2 (s7.trans' s8),?_⟩
          ·have h1:=qK0 (rs:=rs) (n:=n) (q:=q) (ps.take i)
           have h2:=qV3 rs n part q 0
           rw [List.length_take] at h1
           rw [List.length_map,List.length_append]
           have h3:=pow12 (show j<=12 by omega)
           exact Nat.lt_of_le_of_lt (show _<=9000 by omega) (by decide)
          ·have ef:mtS rs n part q 110=[tx n (qh8 part q 110)]:=if_pos (hb.mp rfl)
           rw [q01,P1,ef,<- List.append_assoc,List.map_append (l₂:=[tx n (qh8 part q 110)])]
           rfl
         | false =>
          have ef:mtS rs n part q 110=[]:=if_neg fun w=>by have:=hb.mpr w; cases this
          refine q31 ⟨_,rfl,s7.trans' s8,?_⟩
          rw [P1,ef,List.append_nil]
          exact s8 _ _ e7
        ·
         refine ⟨_,rfl,_,rfl,_,rfl,_,rfl,t,dx,kp,bt,n,m,rs,part,q,121,rfl,tab.mono (s04.trans' (s5.trans' s7)),hpart,n12,hq,.inl rfl,fun b H8 hb s8=>⟨_,rfl,?_⟩⟩
         cases b with
         | true =>
          refine q48 ⟨_,rfl,_,rfl,_,rfl,part,n,q,121,rfl,l1,hq,by omega,_,s8 _ _ e7,?_,_,rfl,Same.grow hp2 (s7.trans' s8),?_⟩
          ·have h1:=qK0 (rs:=rs) (n:=n) (q:=q) (ps.take i)
           have h2:=qV3 rs n part q 1
           rw [List.length_take] at h1
           rw [List.length_map,List.length_append]
           have h3:=pow12 (show j<=12 by omega)
           exact Nat.lt_of_le_of_lt (show _<=9000 by omega) (by decide)
          ·have ef:mtS rs n part q 121=[tx n (qh8 part q 121)]:=if_pos (hb.mp rfl)
           rw [q01,P2,ef,<- List.append_assoc,List.map_append (l₂:=[tx n (qh8 part q 121)])]
           rfl
         | false =>
          have ef:mtS rs n part q 121=[]:=if_neg fun w=>by have:=hb.mpr w; cases this
          refine q31 ⟨_,rfl,s7.trans' s8,?_⟩
          rw [P2,ef,List.append_nil]
          exact s8 _ _ e7
       ·rintro σ H7 ⟨v1,rfl,s7,e7⟩
        refine ⟨_,_,rfl,s7,?_⟩
        rw [List.take_add_one,zi]
        show _=some (HO.lst (((ps.take i ++ [part]).flatMap (mtF rs n q)).map V.str))
        rw [List.flatMap_append]
        have e:mtP rs n part q ("ny" : Str).length=mtF rs n q part:=by rw [show ("ny" : Str).length=2 by decide +kernel]; rfl
        rw [e] at e7
        simpa using e7
     ·rintro σ H6 ⟨v0,v1,rfl,s6,e6⟩
      rw [List.length_map,List.take_length] at e6
      refine ⟨_,p2,ps.flatMap (mtF rs n q),rfl,qa9 (s04.trans' s5) hp2,s5.trans' s6,e6,?_,?_⟩
      ·rw [tk]
       exact pt.step hq hxq (qL9 zj)
      ·have:=qK0 (rs:=rs) (n:=n) (q:=q) ps
       rw [Nat.pow_succ]
       omega
   ·rintro σ H5 ⟨v3,pp,ps,rfl,hpp,s5,e5,pt,pl2⟩
    rw [List.length_map,List.take_length] at pt
    have ed:ps=mL rs x n:=pt.done hp (fun i hi=>⟨fun h=>(opn_mem.mp h).2,fun h=>opn_mem.mpr ⟨hi,h⟩⟩) (mB x n) qJ2
    rw [List.length_map] at pl2
    rw [ed] at e5 pl2
    exact ⟨_,rfl,k2 pp H5 hpp (s04.trans' s5) e5 (Nat.le_trans pl2 (pow12 (by have:=qw8 x n; omega)))⟩
end
end K67
namespace K67
open PySem L2
open PyProof.Rows (envOfC)
abbrev qf6:Stmt:=top 71
section
variable {P:Program}{w:World}{K:PySem.W.Frag}{mg:Str->Option Value}{base:Heap}{C fi fa ft fy fm fc:Addr}{gi ga gt gy gm gc:FuncData}
def spBears (K:PySem.W.Frag):Sp:=fun vs H Q _=>∃(l:Addr) (n:Nat) (rs:List Str) (q a r b:Nat),vs=[.ref l,.int q,s1 a,.int r,s1 b]/\SqL K H l (rs.map V.str)/\(∀ x∈rs,Row n x)/\n<=12/\q < n/\r < n/\Q (.bl (decide (0 < q65 rs q a r b))) H
abbrev Nbe:List Str:=["_law_rows_here", "_law_q", "_law_a", "_law_r", "_law_b", "_law_row"]
abbrev Pbe:List Str:=["_law_rows_here", "_law_q", "_law_a", "_law_r", "_law_b"]
theorem sc_bears:FnScope Nbe Pbe (q02 qf6):=⟨rfl,rfl,rfl,by decide +kernel,rfl,by decide +kernel,by decide +kernel⟩
theorem qd3 {f:Addr}{fd:FuncData}(D:Df K mg "_law_bears" qf6 Pbe f fd):FnOk P w K mg base (CXE P w) 1 f fd Pbe (spBears K):=by
 refine D.F.okN sc_bears (fun vs H Q E h=>?_) (fun cdv A outer s H vs Q E hr h=>?_)
 ·obtain ⟨l,n,rs,q,a,r,b,rfl,_⟩:=h
  rfl
 ·obtain ⟨l,n,rs,q,a,r,b,rfl,hl,hx,n12,hq,hr',k⟩:=h
  refine ⟨_,q04 (q91 PassesOwn.never rfl (q35 (pv 0)) (q11 (i:=5) sc_bears.nd rfl (Or.inl rfl))
    (q05 (q30 (PW.pt (qe0 (q10 q37 (q25 q62 (pv 5) (pv 1) (fun _ _=>rfl)) (pv 2) (q13 _)) (qa6 (q10 q37 (q25 q62 (pv 5) (pv 3) (fun _ _=>rfl)) (pv 4) (q13 _))))) (q05 (q12 qw7)) q16)))
   (q05 (q12 qw7)),?_⟩
  refine ⟨_,rfl,l,rfl,⟨_,hl⟩,qo7 (K:=K) (a:=l) (xs:=rs.map V.str) (fun i σ H2=>∃ v,σ=[some (.ref l),some (.int q),some (s1 a),some (.int r),some (s1 b),v]/\H2=H/\∀ x∈rs.take i,¬ (ch x q=a/\ch x r=b))
   ⟨none,rfl,rfl,fun x hx=>by simp at hx⟩ (fun i σ H2 _ ⟨_,_,z,_⟩=>by rw [z]; exact hl) ?_ ?_⟩
  ·rintro i y σ H2 hi ⟨v,rfl,rfl,no⟩
   rw [List.getElem?_map] at hi
   cases z:rs[i]? with
   | none=>rw [z] at hi; cases hi
   | some x =>
    rw [z] at hi
    cases hi
    have hrow:=hx x (List.mem_of_getElem? z)
    have sz:x.length<=sizeLine:=by rw [hrow.len]; exact q22 (by omega)
    have next:¬ (ch x q=a/\ch x r=b)->∃ v,[some (V.ref l),some (V.int q),some (s1 a),some (V.int r),some (s1 b),some (V.str x)]=[some (.ref l),some (.int q),some (s1 a),some (.int r),some (s1 b),v]/\H2=H2/\∀ x∈rs.take (i + 1),¬ (ch x q=a/\ch x r=b):=fun hn=>⟨_,rfl,rfl,fun x' hx'=>by
     rw [List.take_add_one,z] at hx'
     rcases List.mem_append.mp hx' with h | h
     ·exact no x' h
     ·rw [List.mem_singleton.mp h]; exact hn⟩
    refine ⟨_,rfl,_,rfl,_,_,_,rfl,rfl,sz,qt4 hrow hq,_,rfl,rfl,_,rfl,q77 (fun c1=>?_) (fun c1=>?_)⟩
    ·have c1:decide (s1 (ch x q)=s1 a)=true:=c1
     rw [q68] at c1
     have c1:ch x q=a:=by simpa using c1
     refine ⟨_,rfl,_,rfl,_,_,_,rfl,rfl,sz,qt4 hrow hr',_,rfl,rfl,_,rfl,q77 (fun c2=>?_) (fun c2=>?_)⟩
     ·have c2:decide (s1 (ch x r)=s1 b)=true:=c2
      rw [q68] at c2
      have c2:ch x r=b:=by simpa using c2
      rw [decide_eq_true (cnt_pos.mpr ⟨x,List.mem_of_getElem? z,c1,c2⟩)] at k
      exact k
     ·have c2:¬ decide (s1 (ch x r)=s1 b)=true:=c2
      rw [q68] at c2
      exact next fun w=>c2 (by rw [w.2]; exact decide_eq_true rfl)
    ·have c1:¬ decide (s1 (ch x q)=s1 a)=true:=c1
     rw [q68] at c1
     exact q31 (next fun w=>c1 (by rw [w.1]; exact decide_eq_true rfl))
  ·rintro σ H2 ⟨v,rfl,rfl,no⟩
   rw [List.length_map,List.take_length] at no
   rw [decide_eq_false (fun w=>by obtain ⟨x,hx',e⟩:=cnt_pos.mp w; exact no x hx' e)] at k
   exact k
end
end K67
namespace K67
open PySem L2
open PyProof.Rows (envOfC)
abbrev qc5:Stmt:=top 72
def llB (rs:List Str) (x:Str) (q r:Nat):List (List Key):=if q65 rs q (ch x q) r (ch x r)=0 then [qk q r] else []
def llR (rs:List Str) (x:Str) (n q j:Nat):List (List Key):=qb0 (List.range (n - q)) j fun d=>llB rs x q (q + d)
def llA (rs:List Str) (x:Str) (n i:Nat):List (List Key):=qb0 (List.range n) i fun q=>llR rs x n q (n - q)
theorem llB_len (rs:List Str) (x:Str) (q r:Nat):(llB rs x q r).length<=1:=by unfold llB; split <;> simp
theorem qW0 (rs:List Str) (x:Str) (n q j:Nat):(llR rs x n q j).length<=j:=by
 have:=qa3 (l:=List.range (n - q)) (F:=fun d=>llB rs x q (q + d)) (fun d=>llB_len rs x q (q + d)) j
 unfold llR
 omega
theorem llA_len (rs:List Str) (x:Str) (n i:Nat):(llA rs x n i).length<=i * n:=qa3 (fun q=>Nat.le_trans (qW0 rs x n q (n - q)) (Nat.sub_le n q)) i
theorem qJ4 {rs:List Str}{x:Str}{n q j:Nat}(h:q + j < n):llR rs x n q (j + 1)=llR rs x n q j ++ llB rs x q (q + j):=qa0 (List.getElem?_range (by omega))
theorem z59 {rs:List Str}{x:Str}{n i:Nat}(h:i < n):llA rs x n (i + 1)=llA rs x n i ++ llR rs x n i (n - i):=qa0 (List.getElem?_range h)
theorem qo8 {α β:Type}{F G:α->List β}:∀{l:List α},(∀ a∈l,F a=G a)->l.flatMap F=l.flatMap G
 | [],_=>rfl
 | a :: r,h=>by rw [List.flatMap_cons,List.flatMap_cons,h a List.mem_cons_self,qo8 fun b hb=>h b (List.mem_cons_of_mem _ hb)]
theorem zb9 {α β:Type}(f:α->β):∀ l:List α,l.flatMap (fun q=>[f q])=l.map f
 | []=>rfl
 | a :: r=>by rw [List.flatMap_cons,List.map_cons,zb9 f r]; rfl
theorem qo1 {α β:Type}(l:List α) (F:α->List β) {k:Nat}(h:l.length=k):qb0 l k F=l.flatMap F:=by unfold qb0; rw [<- h,List.take_length]
theorem ans_row {n:Nat}{x:Str}(h:Row n x):q78 x n=(List.range n).map fun q=>(q,ch x q):=by
 unfold q78
 rw [<- zb9 (fun q=>(q,ch x q)) (List.range n)]
 refine qo8 fun q hq=>?_
 unfold z86
 have:=h.bin q (List.mem_range.mp hq)
 rw [if_neg (by omega)]
theorem ll_pg {rs:List Str}{n:Nat}{x:Str}(h:Row n x):llA rs x n n=pgM rs 0 (q78 x n):=by
 unfold llA pgM
 rw [qo1 _ _ List.length_range,qo1 _ _ rfl,ans_row h,List.flatMap_map]
 refine qo8 fun q hq=>?_
 have hq:=List.mem_range.mp hq
 unfold llR pgA
 rw [qo1 _ _ List.length_range,qo1 _ _ rfl,List.flatMap_map]
 have e:List.range n=List.range q ++ (List.range (n - q)).map (q + ·):=by rw [<- List.range_add]; congr 1; omega
 rw [e,List.flatMap_append,List.flatMap_map]
 have z:(List.range q).flatMap (fun r=>pgB rs 0 (q,ch x q) (r,ch x r))=[]:=by
  refine List.flatMap_eq_nil_iff.mpr fun r hr=>?_
  have hr:=List.mem_range.mp hr
  unfold pgB
  rw [if_neg (fun w=>absurd w.1 (by show ¬ q<=r; omega))]
 rw [z,List.nil_append]
 refine qo8 fun d hd=>?_
 unfold llB pgB
 by_cases c:q65 rs q (ch x q) (q + d) (ch x (q + d))=0
 ·rw [if_pos c,if_pos ⟨Nat.le_add_right q d,c⟩]
 ·rw [if_neg c,if_neg (fun w=>c w.2)]
section
variable {P:Program}{w:World}{K:PySem.W.Frag}{mg:Str->Option Value}{base:Heap}{C fi fa ft fy fm fc:Addr}{gi ga gt gy gm gc:FuncData}
def qH1 (K:PySem.W.Frag):Sp:=fun vs H Q _=>∃(l:Addr) (n:Nat) (rs:List Str) (x:Str),vs=[.ref l,.str x]/\SqL K H l (rs.map V.str)/\(∀ x∈rs,Row n x)/\n<=12/\Row n x/\∀ p H',H p=none->Acc H p H' (pgM rs 0 (q78 x n))->Q (.ref p) H'
abbrev Nll:List Str:=["_law_rows_here", "_law_row", "_law_found", "_law_q", "_law_r"]
abbrev Pll:List Str:=["_law_rows_here", "_law_row"]
theorem sc_llacks:FnScope Nll Pll (q02 qc5):=⟨rfl,rfl,rfl,by decide +kernel,rfl,by decide +kernel,by decide +kernel⟩
theorem qT8 {f fb:Addr}{fd gb:FuncData}(D:Df K mg "_law_lacks" qc5 Pll f fd) (Db:Df K mg "_law_bears" qf6 Pbe fb gb) (B:Bt mg):FnOk P w K mg base (CXE P w) 2 f fd Pll (qH1 K):=by
 refine D.F.okN sc_llacks (fun vs H Q E h=>?_) (fun cdv A outer s H vs Q E hr h=>?_)
 ·obtain ⟨l,n,rs,x,rfl,_⟩:=h
  rfl
 ·obtain ⟨l,n,rs,x,rfl,hl,hrs,n12,hx,k⟩:=h
  refine ⟨_,q04 (q21 (i:=2) sc_llacks.nd rfl (Or.inl rfl) (q36 q03))
   (q04 (q91 PassesOwn.never rfl (q34 (by rfl) B.range (q00 (q15 q49 (by rfl) B.len PySem.boot_len (q00 (pv 1) q03)) q03)) (q11 (i:=3) sc_llacks.nd rfl (Or.inl rfl))
    (q05 (q91 PassesOwn.never rfl (qr1 (by rfl) B.range (q00 (pv 3) (q00 (q15 q49 (by rfl) B.len PySem.boot_len (q00 (pv 1) q03)) q03))) (q11 (i:=4) sc_llacks.nd rfl (Or.inl rfl))
     (q05 (q30 (qa7 (q61 (q14 Db (qd3 Db) hr q17 (q00 (pv 0) (q00 (pv 3) (q00 (q25 q62 (pv 1) (pv 3) (fun _ _=>rfl)) (q00 (pv 4) (q00 (q25 q62 (pv 1) (pv 4) (fun _ _=>rfl)) q03))))))))
      (q05 (q18 (qi8 PySem.F.plainAttrs_list PySem.F.slot_list_append PySem.F.type_list_append q57 (pv 2) (q00 (q84 (q00 (pv 3) (q00 (pv 4) q03))) q03)))) q16)))))
   (q05 (q12 (pv 2)))),?_⟩
  refine ⟨Nat.zero_le _,fun p hp=>?_⟩
  have sz:x.length<=sizeLine:=by rw [hx.len]; exact q22 (by omega)
  refine ⟨_,rfl,_,rfl,sz,_,rfl,by omega,by rw [hx.len]; omega,?_⟩
  have en:((x.length:Nat):Int).toNat=n:=by rw [hx.len]; omega
  rw [en]
  refine q52 (fun i σ H2=>∃ v3 v4,σ=[some (.ref l),some (.str x),some (.ref p),v3,v4]/\Acc H p H2 (llA rs x n i)) ⟨none,none,rfl,Same.new hp,[],q01,.nil⟩ ?_ ?_
  ·rintro i σ H2 hi ⟨v3,v4,rfl,a2⟩
   rw [Int.zero_add]
   refine ⟨_,rfl,_,rfl,_,rfl,sz,_,_,rfl,⟨by omega,by omega,by omega,by rw [hx.len]; omega⟩,?_⟩
   have en2:(((x.length:Nat):Int) - (i:Int)).toNat=n - i:=by rw [hx.len]; omega
   rw [en2]
   refine q52 (fun j σ H3=>∃ v4,σ=[some (.ref l),some (.str x),some (.ref p),some (.int i),v4]/\Acc H p H3 (llA rs x n i ++ llR rs x n i j)) ⟨_,rfl,by rw [show llR rs x n i 0=[] from rfl,List.append_nil]; exact a2⟩ ?_ ?_
   ·rintro j σ H3 hj ⟨v4,rfl,a3⟩
    have ej:(i:Int) + (j:Int)=((i + j:Nat):Int):=by omega
    rw [ej]
    have ijn:i + j < n:=by omega
    refine ⟨_,rfl,_,rfl,_,rfl,_,rfl,_,_,_,rfl,rfl,sz,qt4 hx hi,_,rfl,_,rfl,_,rfl,_,_,_,rfl,rfl,sz,qt4 hx ijn,?_⟩
    refine ⟨l,n,rs,i,ch x i,i + j,ch x (i + j),rfl,a3.same.seq hl,hrs,n12,hi,ijn,_,rfl,?_⟩
    by_cases c:q65 rs i (ch x i) (i + j) (ch x (i + j))=0
    ·have e:llB rs x i (i + j)=[qk i (i + j)]:=if_pos c
     rw [decide_eq_false (show ¬ 0 < q65 rs i (ch x i) (i + j) (ch x (i + j)) by omega)]
     obtain ⟨rs',e3,t3⟩:=a3.at_
     refine q48 ⟨_,rfl,.inl ⟨rfl,_,SqL.of e3⟩,_,rfl,_,rfl,q22 (show 2<=100 by decide),fun T hT=>?_⟩
     obtain ⟨ys,ey,yl,a4⟩:=a3.put (k:=qk i (i + j)) hp (Same.refl _) hT
     refine ⟨p,_,_,rfl,rfl,ey,?_,_,rfl,?_⟩
     ·have h1:=llA_len rs x n i
      have h2:=qW0 rs x n i j
      rw [yl,List.length_append]
      have h3:i * n<=12 * 12:=Nat.mul_le_mul (by omega) n12
      exact Nat.lt_of_le_of_lt (show _<=200 by omega) (by decide)
     ·rw [qJ4 ijn,e,<- List.append_assoc]
      exact a4
    ·have e:llB rs x i (i + j)=[]:=if_neg c
     rw [decide_eq_true (show 0 < q65 rs i (ch x i) (i + j) (ch x (i + j)) by omega)]
     refine q31 ⟨_,rfl,?_⟩
     rw [qJ4 ijn,e,List.append_nil]
     exact a3
   ·rintro σ H3 ⟨v4,rfl,a3⟩
    refine ⟨_,_,rfl,?_⟩
    rw [z59 hi]
    exact a3
  ·rintro σ H2 ⟨v3,v4,rfl,a2⟩
   refine ⟨_,rfl,k p H2 hp ?_⟩
   rw [<- ll_pg hx]
   exact a2
end
end K67
namespace L2
open PySem
theorem qu8 {α β:Type}{f g:α->Option β}:∀{l:List α},(∀ a∈l,f a=g a)->l.filterMap f=l.filterMap g
 | [],_=>rfl
 | a :: r,h=>by rw [List.filterMap_cons,List.filterMap_cons,h a List.mem_cons_self,qu8 fun b hb=>h b (List.mem_cons_of_mem _ hb)]
def opB (rs:List Str) (q:Nat):Bool:=decide (0 < q65 rs q 110 q 110) && decide (0 < q65 rs q 121 q 121)
def akB (rs:List Str) (q r:Nat):Bool:=decide (q65 rs q 110 r 121=0) && decide (q65 rs q 121 r 110=0)
def apB (rs:List Str) (q r:Nat):Bool:=decide (q65 rs q 110 r 110=0) && decide (q65 rs q 121 r 121=0)
def alO (rs:List Str) (q r:Nat):Option Nat:=if akB rs q r=true then some 121 else if apB rs q r=true then some 110 else none
def tgB (rs:List Str) (q r:Nat):Bool:=akB rs q r || apB rs q r
def qj2 (rs:List Str) (l r:Nat):Option (Nat×Nat):=(alO rs l r).map fun a=>(r,a)
def bun (rs:List Str) (n l:Nat):List (Nat×Nat):=(List.range n).filterMap (qj2 rs l)
def qr5 (rs:List Str) (l:Nat):Bool:=opB rs l && (List.range l).all fun q=>!tgB rs q l
def q74 (rs:List Str) (n:Nat):List Nat:=(List.range n).filter (qr5 rs)
def bnl (rs:List Str) (n:Nat):List (List (Nat×Nat)):=(q74 rs n).map (bun rs n)
theorem qo9 {rs:List Str}{q a r b:Nat}:q65 rs q a r b=0↔∀ x∈rs,¬ (ch x q=a/\ch x r=b):=by
 constructor
 ·intro h x hx e
  have:=cnt_pos.mpr ⟨x,hx,e⟩
  omega
 ·intro h
  refine Nat.eq_zero_of_not_pos fun w=>?_
  obtain ⟨x,hx,e⟩:=cnt_pos.mp w
  exact h x hx e
section
variable {rs:List Str}{n:Nat}(hrs:∀ x∈rs,Row n x)
include hrs
theorem qY8 {q r:Nat}(hq:q < n) (hr:r < n):akB rs q r=true↔∀ x∈rs,ch x q=ch x r:=by
 unfold akB
 rw [Bool.and_eq_true,decide_eq_true_iff,decide_eq_true_iff,qo9,qo9]
 constructor
 ·rintro ⟨h1,h2⟩ x hx
  have b1:=(hrs x hx).bin q hq
  have b2:=(hrs x hx).bin r hr
  have h1:=h1 x hx
  have h2:=h2 x hx
  omega
 ·intro h
  refine ⟨fun x hx e=>?_,fun x hx e=>?_⟩ <;> have:=h x hx <;> omega
theorem zc2 {q r:Nat}(hq:q < n) (hr:r < n):apB rs q r=true↔∀ x∈rs,¬ ch x q=ch x r:=by
 unfold apB
 rw [Bool.and_eq_true,decide_eq_true_iff,decide_eq_true_iff,qo9,qo9]
 constructor
 ·rintro ⟨h1,h2⟩ x hx
  have b1:=(hrs x hx).bin q hq
  have b2:=(hrs x hx).bin r hr
  have h1:=h1 x hx
  have h2:=h2 x hx
  omega
 ·intro h
  refine ⟨fun x hx e=>?_,fun x hx e=>?_⟩ <;> have:=h x hx <;> omega
theorem qm5 {q r:Nat}(hq:q < n) (hr:r < n):tgB rs q r=true↔(∀ x∈rs,ch x q=ch x r)∨∀ x∈rs,¬ ch x q=ch x r:=by
 unfold tgB
 rw [Bool.or_eq_true,qY8 hrs hq hr,zc2 hrs hq hr]
theorem qp3 {q:Nat}(hq:q < n):tgB rs q q=true:=(qm5 hrs hq hq).mpr (.inl fun _ _=>rfl)
theorem ql3 {q r:Nat}(hq:q < n) (hr:r < n) (h:tgB rs q r=true):tgB rs r q=true:=by
 rw [qm5 hrs hr hq]
 rcases (qm5 hrs hq hr).mp h with h | h
 ·exact .inl fun x hx=>(h x hx).symm
 ·exact .inr fun x hx e=>h x hx e.symm
theorem qj5 {q r s:Nat}(hq:q < n) (hr:r < n) (hs:s < n) (h:tgB rs q r=true) (h':tgB rs r s=true):tgB rs q s=true:=by
 rw [qm5 hrs hq hs]
 rcases (qm5 hrs hq hr).mp h with h | h <;> rcases (qm5 hrs hr hs).mp h' with h' | h'
 ·exact .inl fun x hx=>(h x hx).trans (h' x hx)
 ·exact .inr fun x hx e=>h' x hx ((h x hx).symm.trans e)
 ·exact .inr fun x hx e=>h x hx (e.trans (h' x hx).symm)
 ·refine .inl fun x hx=>?_
  have b1:=(hrs x hx).bin q hq
  have b2:=(hrs x hx).bin r hr
  have b3:=(hrs x hx).bin s hs
  have h1:=h x hx
  have h2:=h' x hx
  omega
omit hrs in
theorem op_iff {q:Nat}:opB rs q=true↔(∃ x∈rs,ch x q=110)/\∃ x∈rs,ch x q=121:=by
 unfold opB
 rw [Bool.and_eq_true,decide_eq_true_iff,decide_eq_true_iff,cnt_pos,cnt_pos]
 constructor
 ·rintro ⟨⟨x,hx,e,_⟩,y,hy,e',_⟩
  exact ⟨⟨x,hx,e⟩,y,hy,e'⟩
 ·rintro ⟨⟨x,hx,e⟩,y,hy,e'⟩
  exact ⟨⟨x,hx,e,e⟩,y,hy,e',e'⟩
theorem qv7 {q r:Nat}(hq:q < n) (hr:r < n) (h:tgB rs q r=true) (ho:opB rs q=true):opB rs r=true:=by
 obtain ⟨⟨x,hx,e⟩,y,hy,e'⟩:=op_iff.mp ho
 have bx:=(hrs x hx).bin r hr
 have bY:=(hrs y hy).bin r hr
 rw [op_iff]
 rcases (qm5 hrs hq hr).mp h with h | h
 ·have h1:=h x hx
  have h2:=h y hy
  exact ⟨⟨x,hx,by omega⟩,y,hy,by omega⟩
 ·have h1:=h x hx
  have h2:=h y hy
  exact ⟨⟨y,hy,by omega⟩,x,hx,by omega⟩
omit hrs in
theorem alO_none {q r:Nat}:alO rs q r=none↔tgB rs q r=false:=by
 unfold alO tgB
 cases akB rs q r <;> cases apB rs q r <;> simp
omit hrs in
theorem low_iff {l:Nat}:qr5 rs l=true↔opB rs l=true/\∀ q,q < l->tgB rs q l=false:=by
 unfold qr5
 rw [Bool.and_eq_true,List.all_eq_true]
 constructor
 ·rintro ⟨h1,h2⟩
  exact ⟨h1,fun q hq=>by simpa using h2 q (List.mem_range.mpr hq)⟩
 ·rintro ⟨h1,h2⟩
  exact ⟨h1,fun q hq=>by simpa using h2 q (List.mem_range.mp hq)⟩
theorem qV7:∀(q:Nat),q < n->opB rs q=true->∃ l,l<=q/\qr5 rs l=true/\tgB rs l q=true:=by
 intro q
 induction q using Nat.strongRecOn with
 | ind q ih =>
  intro hq ho
  by_cases h:∃ r,r < q/\tgB rs r q=true
  ·obtain ⟨r,rq,tr⟩:=h
   have hr:r < n:=Nat.lt_trans rq hq
   obtain ⟨l,l1,l2,l3⟩:=ih r rq hr (qv7 hrs hq hr (ql3 hrs hr hq tr) ho)
   exact ⟨l,by omega,l2,qj5 hrs (by omega) hr hq l3 tr⟩
  ·refine ⟨q,Nat.le_refl _,low_iff.mpr ⟨ho,fun r hr=>?_⟩,qp3 hrs hq⟩
   exact Bool.eq_false_iff.mpr fun w=>h ⟨r,hr,w⟩
theorem qu3 {i:Nat}(hi:i < n):qr5 rs i=true↔opB rs i=true/\¬ ∃ l,l < i/\qr5 rs l=true/\tgB rs l i=true:=by
 constructor
 ·intro h
  obtain ⟨h1,h2⟩:=low_iff.mp h
  refine ⟨h1,fun ⟨l,l1,_,l3⟩=>?_⟩
  rw [h2 l l1] at l3
  cases l3
 ·rintro ⟨h1,h2⟩
  obtain ⟨l,l1,l2,l3⟩:=qV7 hrs i hi h1
  by_cases e:l=i
  ·rw [<- e]; exact l2
  ·exact absurd ⟨l,by omega,l2,l3⟩ h2
def q32 (rs:List Str) (n k:Nat):List Nat:=(List.range n).filter fun r=>opB rs r && (List.range k).all fun l=>!tgB rs l r
omit hrs in
theorem left_mem {k r:Nat}:r∈q32 rs n k↔r < n/\opB rs r=true/\∀ l,l < k->tgB rs l r=false:=by
 unfold q32
 rw [List.mem_filter,List.mem_range,Bool.and_eq_true,List.all_eq_true]
 constructor
 ·rintro ⟨h0,h1,h2⟩
  exact ⟨h0,h1,fun q hq=>by simpa using h2 q (List.mem_range.mpr hq)⟩
 ·rintro ⟨h0,h1,h2⟩
  exact ⟨h0,h1,fun q hq=>by simpa using h2 q (List.mem_range.mp hq)⟩
omit hrs in
theorem qF4 (k:Nat):(q32 rs n k).Pairwise (· < ·):=List.Pairwise.filter _ List.pairwise_lt_range
omit hrs in
theorem q99 (rs:List Str) (n:Nat):(q74 rs n).length<=n:=by
 have:=List.length_filter_le (qr5 rs) (List.range n)
 rw [List.length_range] at this
 exact this
omit hrs in
theorem qY3 (rs:List Str) (n l:Nat):(bun rs n l).length<=n:=by
 have:=List.length_filterMap_le (qj2 rs l) (List.range n)
 rw [List.length_range] at this
 exact this
omit hrs in
theorem qk4 (rs:List Str) (n:Nat):q74 rs (n + 1)=q74 rs n ++ (if qr5 rs n=true then [n] else []):=by
 unfold q74
 rw [List.range_succ,List.filter_append]
 congr 1
 cases h:qr5 rs n <;> simp [h]
omit hrs in
theorem qB7 {k:Nat}:∀{m:Nat},k<=m->(∀ q,k<=q->q < m->qr5 rs q=false)->q74 rs m=q74 rs k:=by
 intro m
 induction m with
 | zero =>
  intro h _
  have e:k=0:=by omega
  rw [e]
 | succ m ih =>
  intro h f
  by_cases e:k=m + 1
  ·rw [e]
  ·rw [qk4,f m (by omega) (by omega),ih (by omega) fun q a b=>f q a (by omega)]
   simp
theorem qJ5 {k q:Nat}(hq:q < n) (kq:k<=q) (h:qr5 rs q=true):q∈q32 rs n k:=by
 obtain ⟨h1,h2⟩:=low_iff.mp h
 exact left_mem.mpr ⟨hq,h1,fun l hl=>h2 l (by omega)⟩
theorem qW3 {k:Nat}(hk:k<=n) (h:q32 rs n k=[]):q74 rs n=q74 rs k:=by
 refine qB7 hk fun q a b=>Bool.eq_false_iff.mpr fun w=>?_
 have:=qJ5 hrs b a w
 rw [h] at this
 cases this
theorem qW2 {k low:Nat}{qd9:List Nat}(hk:k<=n) (h:q32 rs n k=low :: qd9) :
  low < n/\k<=low/\qr5 rs low=true/\q74 rs (low + 1)=q74 rs k ++ [low]/\(q32 rs n k).filter (fun q=>!akB rs low q && !apB rs low q)=q32 rs n (low + 1) /\
  (q32 rs n k).filterMap (qj2 rs low)=bun rs n low:=by
 have hm:low∈q32 rs n k:=by rw [h]; exact List.mem_cons_self
 obtain ⟨ln,lo,lf⟩:=left_mem.mp hm
 have least:∀ q,q∈q32 rs n k->low<=q:=fun q hq=>by
  have s:=qF4 (rs:=rs) (n:=n) k
  rw [h] at s hq
  rcases List.mem_cons.mp hq with e | hq
  ·omega
  ·exact Nat.le_of_lt ((List.pairwise_cons.mp s).1 q hq)
 have kl:k<=low:=by
  refine Nat.le_of_not_lt fun w=>?_
  have:=lf low w
  rw [qp3 hrs ln] at this
  cases this
 have up:∀ q,q < n->opB rs q=true->q < low->∃ l,l < k/\tgB rs l q=true:=fun q hq ho ql=>by
  refine Classical.byContradiction fun w=>?_
  have:=least q (left_mem.mpr ⟨hq,ho,fun l hl=>Bool.eq_false_iff.mpr fun z=>w ⟨l,hl,z⟩⟩)
  omega
 have ll:qr5 rs low=true:=by
  refine low_iff.mpr ⟨lo,fun q hq=>Bool.eq_false_iff.mpr fun w=>?_⟩
  have qn:q < n:=by omega
  obtain ⟨l,l1,l2⟩:=up q qn (qv7 hrs ln qn (ql3 hrs qn ln w) lo) hq
  have:=lf l l1
  rw [qj5 hrs (by omega) qn ln l2 w] at this
  cases this
 refine ⟨ln,kl,ll,?_,?_,?_⟩
 ·rw [qk4,ll,if_pos rfl,qB7 kl fun q a b=>Bool.eq_false_iff.mpr fun w=>?_]
  have:=least q (qJ5 hrs (by omega) a w)
  omega
 ·unfold q32
  rw [List.filter_filter]
  refine List.filter_congr fun r hr=>?_
  have rn:=List.mem_range.mp hr
  rw [Bool.eq_iff_iff]
  have e:(!akB rs low r && !apB rs low r) = !tgB rs low r:=by unfold tgB; cases akB rs low r <;> cases apB rs low r <;> rfl
  rw [e,Bool.and_eq_true,Bool.and_eq_true,Bool.and_eq_true,List.all_eq_true,List.all_eq_true]
  constructor
  ·rintro ⟨h1,h2,h3⟩
   refine ⟨h2,fun l hl=>?_⟩
   have hl:=List.mem_range.mp hl
   by_cases e1:l < k
   ·exact h3 l (List.mem_range.mpr e1)
   by_cases e2:l=low
   ·rw [e2]; exact h1
   have lN:l < n:=by omega
   cases z:tgB rs l r with
   | false=>rfl
   | true =>
    obtain ⟨l',a,b⟩:=up l lN (qv7 hrs rn lN (ql3 hrs lN rn z) h2) (by omega)
    have:=h3 l' (List.mem_range.mpr a)
    rw [qj5 hrs (by omega) lN rn b z] at this
    cases this
  ·rintro ⟨h1,h2⟩
   exact ⟨h2 low (List.mem_range.mpr (Nat.lt_succ_self _)),h1,fun l hl=>h2 l (List.mem_range.mpr (by have:=List.mem_range.mp hl; omega))⟩
 ·unfold q32 bun
  rw [List.filterMap_filter]
  refine qu8 fun r hr=>?_
  have rn:=List.mem_range.mp hr
  cases z:(opB rs r && (List.range k).all fun l=>!tgB rs l r) with
  | true=>rfl
  | false =>
   show none=qj2 rs low r
   unfold qj2
   cases t:alO rs low r with
   | none=>rfl
   | some a =>
    exfalso
    have tg:tgB rs low r=true:=by
     cases y:tgB rs low r with
     | true=>rfl
     | false=>rw [alO_none.mpr y] at t; cases t
    have ro:=qv7 hrs ln rn tg lo
    rw [ro,Bool.true_and,Bool.eq_false_iff] at z
    refine z (List.all_eq_true.mpr fun l hl=>?_)
    have hl:=List.mem_range.mp hl
    cases y:tgB rs l r with
    | false=>rfl
    | true =>
     have:=lf l hl
     rw [qj5 hrs (by omega) rn ln y (ql3 hrs ln rn tg)] at this
     cases this
theorem qY7 {q:Nat}(hq:q < n):akB rs q q=true:=(qY8 hrs hq hq).mpr fun _ _=>rfl
theorem qK9 {l:Nat}(hl:l < n) (h:qr5 rs l=true):bun rs n l=(List.range (n - l)).filterMap fun d=>qj2 rs l (l + d):=by
 unfold bun
 have e:List.range n=List.range l ++ (List.range (n - l)).map (l + ·):=by rw [<- List.range_add]; congr 1; omega
 rw [e,List.filterMap_append,List.filterMap_map]
 have z:(List.range l).filterMap (qj2 rs l)=[]:=by
  refine List.filterMap_eq_nil_iff.mpr fun r hr=>?_
  have rl:=List.mem_range.mp hr
  unfold qj2
  have t:tgB rs l r=false:=Bool.eq_false_iff.mpr fun w=>by
   have:=(low_iff.mp h).2 r rl
   rw [ql3 hrs hl (by omega) w] at this
   cases this
  rw [alO_none.mpr t]
  rfl
 rw [z,List.nil_append]
 rfl
theorem qK8 {l:Nat}(hl:l < n) (h:qr5 rs l=true):∃ tl,bun rs n l=(l,121) :: tl:=by
 rw [qK9 hrs hl h]
 have e:List.range (n - l)=0 :: (List.range (n - l - 1)).map Nat.succ:=by
  rw [show n - l=(n - l - 1) + 1 by omega,List.range_succ_eq_map]
  rfl
 rw [e,List.filterMap_cons]
 have:qj2 rs l (l + 0)=some (l,121):=by
  unfold qj2 alO
  rw [Nat.add_zero,if_pos (qY7 hrs hl)]
  rfl
 rw [this]
 exact ⟨_,rfl⟩
omit hrs in
theorem qY2 {l r a:Nat}(h:(r,a)∈bun rs n l):r < n/\alO rs l r=some a:=by
 obtain ⟨q,hq,e⟩:=List.mem_filterMap.mp h
 unfold qj2 at e
 cases z:alO rs l q with
 | none=>rw [z] at e; cases e
 | some b =>
  rw [z] at e
  cases e
  exact ⟨List.mem_range.mp hq,z⟩
omit hrs in
theorem qV5 {l r a:Nat}(hr:r < n) (h:alO rs l r=some a):(r,a)∈bun rs n l:=by
 refine List.mem_filterMap.mpr ⟨r,List.mem_range.mpr hr,?_⟩
 unfold qj2
 rw [h]
 rfl
end
end L2
namespace PySem
open Sem (wp)
theorem qC4:typeLookup (.type "list") "keys" = pure none:=am_miss_of_fast (by kernel_rfl)
theorem qk6 {prog:Program}{w:World}{A:Around}{E:Value->Shared->Prop}{s:Shared}{a:Addr}{o:Obj}{xs:Array Value}{k:Nat}{name:Str}{Q:Option Value->Shared->Prop}
  (hx:s.heap.get? a=some o) (hc:o.cls=.type "list") (hdat:o.data=.seq xs k) (hd:o.dict=none) (hmiss:typeLookup (.type "list") name=pure none) (hname:(["__module__", "__name__", "__qualname__", "__doc__", "__annotations__"]:List Str).contains name=false) (hA:A.handled=none)
  (h:∀ h' tk e,Heap.NewExcOf s.heap h' e "AttributeError" -> Q none { s with heap:=h',toks:=tk }) (hsz:name.length + 100<=sizeLine:=by size_fits) :
  wpAny (model prog w) A (getAttr? (.ref a) name) Q E s:=by
 obtain ⟨c,dct,dat,sl⟩:=o
 simp only at hc hdat hd
 subst hc hdat hd
 obtain ⟨hp,g,d,tk,os⟩:=s
 have hT:∀ tk',(⟨hp,g,d,tk',os⟩:Shared).TypeIs (.ref a) "list" := fun _=>⟨_,hx,rfl⟩
 have f1:=sub_AttributeError
 have f3:=F.slot_list_getattribute.lookup
 have f4:=F.slot_list_getattribute.bind (.ref a)
 have f5:=am_list_getattr_none
 unfold getAttr? getAttrBy? getAttrBy
 repeat (any_goals (first | assumption | exact hT _ | ((with_reducible show wpAny _ _ (call (Value.builtin "list.__getattribute__") _ _) _ _ _); refine call_meets F.slot_list_getattribute (hT _) am_entry_list_getattribute (F.args_list_getattribute_2 _ _) (meets_getattribute_miss_list a xs k sl name _ hmiss hname hsz) ⟨hx,hA,fun h' tk' e hx'=>?_⟩) | wp_step))
 obtain ⟨t',u',he⟩:=hx'.there
 show wpAny _ _ (getattributeRaised _ _ _ _ _ _ _) _ _ _
 unfold getattributeRaised
 repeat (any_goals (first | assumption | wp_step))
 exact h _ _ _ hx'.of
theorem qC3:entryFor table "dict.update.loop" = some Builtin.«dict.update.loop» := entryFor_of_tree (by kernel_rfl)
theorem qj9:plainId "dict.update.loop" = true:=by decide +kernel
section
variable {prog:Program}{w:World}{K:Type} [DecidableEq K] {knd:KeyKind prog w K}{A:Around}{R:Result->Shared->Prop}{I:Addr}{fp wr:List Addr}{G:Array GenState->Array GenState->Prop}{n:Nat}{P:Nat->Value->Prop}{St:Nat->Shared->Prop}
theorem qb8 (W:WalksS prog w A.in1 I fp wr G n P St) {D:Addr}(hDf:D∉fp) {h0:Heap}{kvs more:List (K×Value)}(hn:more.length=n) (hsz:kvs.length + more.length<=sizeLine)
  (hitem:∀ i v,P i v->∃ r o k key val m,v=.ref r/\r≠D/\r∉wr/\h0.get? r=some o/\o.cls=.type "tuple" /\ o.data=.seq #[key,val] m/\more[i]? = some (k,val)/\knd.is k key=true) :
  ∀(k i:Nat) (s:Shared),n - i=k->i<=n->St i s->s.heap.DictOf knd D (merged kvs (more.take i))->(∀ b o,b≠D->b∉wr->h0.get? b=some o->s.heap.get? b=some o) ->
  (∀ s',Moved (D :: wr) G s s'->s'.heap.DictOf knd D (merged kvs more)->R (.ok (.ret .none)) s')->codeAny (model prog w) A (.builtin "dict.update.loop" ⟨[.ref D,.ref I,rawInt i,.none],[]⟩) R s:=by
 have hDw:D∉wr:=fun h=>hDf (W.sub _ h)
 have hsub:∀ b∈wr,b∈D :: wr:=fun b hb=>List.mem_cons_of_mem _ hb
 intro k
 induction k with
 | zero =>
  intro i s hk hi hst hD keep hR
  have hin:i=n:=by omega
  subst hin
  refine codeAny_builtin qC3 ?_
  rw [Around.under_plainId qj9 _]
  show wpAny _ A.in1 (pyNext (.ref I) >>= _) _ _ s
  refine wpAny_bind (W.done s _ _ hst fun s' hm=>?_)
  show wpAny _ A.in1 (Builtin.Dict.addKeywords D [] >>= _) _ _ s'
  refine wpAny_bind (wpAny_pure (wpAny_pure (hR s' (hm.mono hsub) ?_)))
  rw [<- hn,List.take_length] at hD
  obtain ⟨o,es,ep,ho,qd9⟩:=hD
  exact ⟨o,es,ep,hm.heap D _ hDw ho,qd9⟩
 | succ k ih =>
  intro i s hk hi hst hD keep hR
  have hlt:i < n:=by omega
  refine codeAny_builtin qC3 ?_
  rw [Around.under_plainId qj9 _]
  show wpAny _ A.in1 (pyNext (.ref I) >>= _) _ _ s
  refine wpAny_bind (W.item i s _ _ hlt hst fun v s' hP hst' hm=>?_)
  obtain ⟨r,o,k',key,val,m,rfl,rD,rw',hr,hc,hd,hmore,hkey⟩:=hitem i v hP
  have hr':=hm.heap r _ rw' (keep r o rD rw' hr)
  have hD':s'.heap.DictOf knd D (merged kvs (more.take i)):=by
   obtain ⟨o,es,ep,ho,qd9⟩:=hD
   exact ⟨o,es,ep,hm.heap D _ hDw ho,qd9⟩
  show wpAny _ A.in1 (holding [Value.ref r] _ >>= _) _ _ s'
  refine wpAny_bind (wpAny_holding ?_)
  refine wpAny_bind (wpAny_tryCatch ?_)
  unfold Builtin.Dict.pairItems
  refine wpAny_bind (wpAny_typeOf ⟨o,hr',hc⟩ ?_)
  rw [if_pos (by decide)]
  refine wpAny_bind (wpAny_seqItems hr' hd (wpAny_pure ?_))
  show wpAny _ A.in1 (holding [key,val] (dictSet D key val)) _ _ s'
  have hmx:(merged kvs (more.take i)).length<=sizeLine:=by
   have e1:=merged_length_le kvs (more.take i)
   have e2:(more.take i).length<=more.length:=by rw [List.length_take]; omega
   omega
  refine wpAny_holding (wpAny_dictSet_pairs (hsz:=hmx) hkey hD' fun h' hD2 hs=>?_)
  rw [<- merged_take_succ kvs more i (k',val) hmore] at hD2
  refine wpAny_pure ⟨plainId_quiet qj9 _,?_⟩
  show codeAny (model prog w) A (.builtin "dict.update.loop" ⟨[.ref D,.ref I,rawInt ((i:Int) + 1),.none],[]⟩) R _
  have ei:((i:Int) + 1)=((i + 1:Nat):Int):=by omega
  rw [ei]
  refine ih (i + 1) _ (by omega) hlt (W.frame _ s' _ _ hst' (Nat.le_succ _) fun b hb o e=>?_) hD2 (fun b o bD bw e=>?_) fun s'' hm'' hD3=>?_
  ·rw [hs.2 b (fun h:b=D=>hDf (by rw [<- h]; exact hb))]; exact e
  ·show h'.get? b=some o
   rw [hs.2 b bD]
   exact hm.heap b o bw (keep b o bD bw e)
  ·refine hR s'' (Moved.trans W.gtrans ((hm.mono hsub).then_heap (Nat.le_succ _) fun b o hb e=>?_) hm'') hD3
   rw [hs.2 b (fun h:b=D=>hb (by rw [h]; exact List.mem_cons_self))]; exact e
end
section
variable {prog:Program}{w:World}{K:Type} [DecidableEq K] {knd:KeyKind prog w K}{A:Around}{E:Value->Shared->Prop}{s:Shared}
theorem qs7 {l:Addr}{items:Array Value}{more:List (K×Value)}{Q:Value->Shared->Prop}(hh:A.handled=none) (hl:s.heap.IsList l items) (hnd:∀ o,s.heap.get? l=some o->o.dict=none) (hn:more.length=items.size) (hsz:more.length<=sizeLine)
  (hitem:∀(i:Nat) (v:Value),items[i]? = some v->∃ r o k key val m,v=.ref r/\s.heap.get? r=some o/\o.cls=.type "tuple" /\ o.data=.seq #[key,val] m/\more[i]? = some (k,val)/\knd.is k key=true)
  (h:∀ h' tk,h'.DictOf knd s.heap.objs.size (merged [] more)->(∀ b o,s.heap.get? b=some o->h'.get? b=some o)->Q (.ref s.heap.objs.size) { s with heap:=h',toks:=tk }) :
  wpAny (model prog w) A (call (.type "dict") [Value.ref l]) Q E s:=by
 refine callType_codes (Q₁:=fun obj s₁=>obj=Value.ref s.heap.objs.size/\s₁={ s with heap:=s.heap.push { cls:=.type "dict",data:=.dict #[] } }) F.kt_called_dict (F.kt_typeCall_dict_1 _) F.entry_dict_init (kt_code_dict_new _ ⟨rfl,rfl⟩) ?_
 rintro obj s₁ ⟨rfl,rfl⟩
 have hnew:(s.heap.push { cls:=.type "dict",data:=.dict #[] }).DictOf knd s.heap.objs.size []:=Heap.DictOf.new s.heap
 have hl1:(s.heap.push { cls:=.type "dict",data:=.dict #[] }).IsList l items:=hl.push _
 refine ⟨hnew.typeIs,F.args_dict_init_2 _ _,?_⟩
 unfold Builtin.«dict.__init__»
 refine wpAny_bind ?_
 unfold Builtin.Dict.selfAndRest
 refine wpAny_bind (wpAny_notOrdered_dict hnew.typeIs ?_)
 show wpAny _ _ (pure (s.heap.objs.size,[Value.ref l])) _ _ _
 refine wpAny_pure ?_
 show wpAny _ _ (Builtin.Dict.updateFrom "dict.__init__" s.heap.objs.size (.ref l) [] .none) _ _ _
 unfold Builtin.Dict.updateFrom
 obtain ⟨ol,hol,hcl,nl,hdl⟩:=hl1
 refine wpAny_bind (wpAny_typeOf ⟨ol,hol,hcl⟩ ?_)
 rw [if_pos (by decide)]
 have hsz0:l < s.heap.objs.size:=by obtain ⟨o,ho,_⟩:=hl; exact Heap.lt_size ho
 have hdn:ol.dict=none:=by
  obtain ⟨o,ho,_⟩:=hl
  have:=(Heap.get?_push_of_some { cls:=.type "dict",data:=.dict #[] } ho).symm.trans hol
  cases this
  exact hnd _ ho
 refine wpAny_bind (qk6 hol hcl hdl hdn qC4 (by decide) (by simp [hh]) fun h1 tk1 e1 ne=>?_)
 have kp:∀ b o,s.heap.get? b=some o->h1.get? b=some o:=fun b o e=>ne.keeps b o (Heap.get?_push_of_some _ e)
 show wpAny _ _ (rule _ >>= _) _ _ _
 refine wpAny_bind (wpAny_rule ?_)
 have hl2:h1.IsList l items:=⟨ol,ne.keeps _ _ hol,hcl,nl,hdl⟩
 refine wpAny_bind (wpAny_pyIter_list (s:={ s with heap:=h1,toks:=tk1 }) hl2 ?_)
 refine wpAny_pure ⟨plainId_quiet qj9 _,?_⟩
 have hd1:h1.DictOf knd s.heap.objs.size []:=by
  obtain ⟨o,es,ep,ho,qd9⟩:=hnew
  exact ⟨o,es,ep,ne.keeps _ _ ho,qd9⟩
 have lt1:l < h1.objs.size:=Heap.lt_size (ne.keeps _ _ hol)
 have Dlt:s.heap.objs.size < h1.objs.size:=by obtain ⟨o,es,ep,ho,_⟩:=hd1; exact Heap.lt_size ho
 have hneI:l≠h1.objs.size:=Nat.ne_of_lt lt1
 have hDf:s.heap.objs.size∉[h1.objs.size,l]:=by
  simp only [List.mem_cons,List.mem_singleton,List.not_mem_nil,or_false,not_or]
  exact ⟨Nat.ne_of_lt Dlt,Nat.ne_of_gt hsz0⟩
 have hh3:A.in1.in1.handled=none:=by simp [hh]
 refine qb8 (knd:=knd) (A:=A.in1) ((Walks.list hh3 h1.objs.size l hneI items).toS) (D:=s.heap.objs.size) hDf (h0:=s.heap) (kvs:=[]) (more:=more) hn (by simpa using hsz) (fun i v hv=>?_) (items.size - 0) 0 _ rfl (Nat.zero_le _) ⟨⟨_,Heap.get?_push_size _ rfl,rfl,rfl⟩,hl2.push _⟩ ?_ (fun b o _ _ e=>Heap.get?_push_of_some _ (kp b o e)) fun s' hm hD=>?_
 ·obtain ⟨r,o,k,key,val,m,e1,e2,e3,e4,e5,e6⟩:=hitem i v (by simpa using hv)
  have rl:=Heap.lt_size e2
  exact ⟨r,o,k,key,val,m,e1,Nat.ne_of_lt rl,fun z=>absurd (List.mem_singleton.mp z) (Nat.ne_of_lt (Nat.lt_trans rl Dlt)),e2,e3,e4,e5,e6⟩
 ·obtain ⟨o,es,ep,ho,qd9⟩:=hd1
  exact ⟨o,es,ep,Heap.get?_push_of_some _ ho,qd9⟩
 ·obtain ⟨h',g',d',tk',os'⟩:=s'
  have eg:g'=s.gens:=hm.gens
  have ed:d'=s.drawn:=hm.drawn
  have eo:os'=s.os:=hm.os
  subst eg; subst ed; subst eo
  refine ⟨rfl,h h' tk' hD fun b o e=>?_⟩
  have bl:=Heap.lt_size e
  refine hm.heap b o ?_ (Heap.get?_push_of_some _ (kp b o e))
  simp only [List.mem_cons,List.mem_singleton,List.not_mem_nil,or_false,not_or]
  exact ⟨Nat.ne_of_lt bl,Nat.ne_of_lt (Nat.lt_trans bl Dlt)⟩
end
end PySem
namespace L2
open PySem PySem.Spec PyProof.Rows
theorem qg2:∀(more kvs:List (Key×V)),(qe1 kvs more).length<=kvs.length + more.length
 | [],kvs=>Nat.le_refl _
 | p :: r,kvs=>by
  show (qe1 (qn6 kvs p.1 p.2) r).length<=_
  have h1:=qg2 r (qn6 kvs p.1 p.2)
  have h2:=q87 kvs p.1 p.2
  rw [List.length_cons]
  omega
def qG7 (H:Hp) (rs:List Addr) (kvs:List (Key×V)):Prop:=rs.length=kvs.length/\∀(i:Nat) (r:Addr) (p:Key×V),rs[i]? = some r->kvs[i]? = some p->H r=some (.tup [kV p.1,p.2])
theorem qu1 {P:Program}{w:World}{H:Hp}{h:Heap}(ok:HOk P w H h):∀{rs:List Addr}{kvs:List (Key×V)},qG7 H rs kvs->∃ vs:List (Key×Value),KV kvs vs/\vs.length=rs.length /\
  ∀(i:Nat) (r:Addr),rs[i]? = some r->∃ o k key val m,h.get? r=some o/\o.cls=.type "tuple" /\ o.data=.seq #[key,val] m/\vs[i]? = some (k,val)/\(q45 P w).is k key=true
 | [],[],_=>⟨[],.nil,rfl,fun i r e=>by cases e⟩
 | [],_ :: _,q=>by cases q.1
 | _ :: _,[],q=>by cases q.1
 | r :: rs,p :: kvs,q=>by
  obtain ⟨vs,kv,ln,f⟩:=qu1 ok (rs:=rs) (kvs:=kvs) ⟨Nat.succ.inj q.1,fun i r p a b=>q.2 (i + 1) r p a b⟩
  have hr:=q.2 0 r p rfl rfl
  obtain ⟨z,its,rv,o,ho,hc,m,hd⟩:=(show ObjOk P w H h r (.tup [kV p.1,p.2]) from ok r _ hr)
  obtain ⟨u,us,rfl,ru,rus⟩:∃ u us,its=u :: us/\RelV (kV p.1) u/\Vals [p.2] us:=by
   cases rv with
   | cons a b=>exact ⟨_,_,rfl,a,b⟩
  obtain ⟨v,rfl,rv'⟩:=rus.one
  refine ⟨(p.1,v) :: vs,.cons ⟨rfl,rv'⟩ kv,by rw [List.length_cons,List.length_cons,ln],fun i r' e=>?_⟩
  cases i with
  | zero =>
   cases e
   exact ⟨o,p.1,u,v,m,ho,hc,by simpa using hd,rfl,qF6 ru⟩
  | succ i =>
   obtain ⟨o',k,key,val,m',e1,e2,e3,e4,e5⟩:=f i r' e
   exact ⟨o',k,key,val,m',e1,e2,e3,e4,e5⟩
section
variable {X:Cx}
theorem qz4:∀{rs:List Addr}{its:List Value},Vals (rs.map V.ref) its->its=rs.map Value.ref
 | [],_,h=>by cases h; rfl
 | r :: rs,_,h=>by
  cases h with
  | cons a b =>
   rw [qz4 b]
   obtain rfl:_=Value.ref r:=a
   rfl
theorem qN2 (hc:X.calm=true):CallR X (.type "dict") (fun xs H Q=>∃(a:Addr) (rs:List Addr) (kvs:List (Key×V)),xs=[.ref a]/\SqL X.K H a (rs.map V.ref)/\qG7 H rs kvs/\∀ p,H p=none->Q (.ref p) (upd H p (.dK (qe1 [] kvs)))):=by
 intro pins s σ H xs us Q I r h
 obtain ⟨a,rs,kvs,rfl,hq,hp,q⟩:=h
 obtain ⟨u,rfl,ru⟩:=r.one
 cases ru
 obtain ⟨its,rv,p,hz⟩:=I.list hq
 have ei:=qz4 rv
 subst ei
 obtain ⟨vs,kv,ln,f⟩:=qu1 I.hok hp
 have lk:kvs.length=rs.length:=hp.1.symm
 rw [List.length_map] at hz
 have hh:X.A.handled=none:=I.ok.hd hc
 refine qs7 (knd:=q45 X.prog X.w) (more:=vs) hh p.isList (fun o e=>?_) (by rw [ln]; simp) (by rw [ln]; exact hz) (fun i v hv=>?_) fun h' tk dd kp=>?_
 ·obtain ⟨o',n,e',_,d,_⟩:=p
  rw [e'] at e
  cases e
  exact d
 ·rw [List.getElem?_toArray,List.getElem?_map] at hv
  cases z:rs[i]? with
  | none=>rw [z] at hv; cases hv
  | some r' =>
   rw [z] at hv
   cases hv
   obtain ⟨o,k,key,val,m,e1,e2,e3,e4,e5⟩:=f i r' z
   exact ⟨r',o,k,key,val,m,rfl,e1,e2,e3,e4,e5⟩
 ·have rel:KV (qe1 [] kvs) (merged [] vs):=KV.merge kv (show KV [] [] from .nil)
  have len:=qg2 kvs []
  exact ⟨.ref s.heap.objs.size,_,I.laid (a:=s.heap.objs.size) (o:=.dK (qe1 [] kvs)) (t':=tk) kp (Nat.le_refl _) (qK2 (by simp at len; omega) (beq_eq_false_iff_ne.mpr (Ne.symm (Nat.ne_of_lt I.big))) rel dd),rfl,q _ (I.hok.fresh (Nat.le_refl _))⟩
theorem qV2:MtR X "dict.update" (fun x xs H Q=>∃(a b:Addr) (kvs more:List (Key×V)),x=.ref a/\xs=[.ref b]/\H a=some (.dK kvs)/\H b=some (.dK more)/\a≠b/\kvs.length + more.length<=sizeLine/\Q .non (upd H a (.dK (qe1 kvs more)))):=by
 intro pins s σ H x xs v us Q I rx rv h
 obtain ⟨a,b,kvs,more,rfl,rfl,ea,eb,nab,len,q⟩:=h
 cases rx
 obtain ⟨u,rfl,ru⟩:=rv.one
 cases ru
 obtain ⟨z,hd,vs,rel,dd⟩:=z70 I.hok ea
 obtain ⟨z2,hd2,ws,rel2,dd2⟩:=z70 I.hok eb
 refine call_meetsIn PySem.F.slot_dict_update dd.typeIs PySem.F.entry_dict_update (PySem.F.args_dict_update_2 _ _) (meets_dict_update (q45 X.prog X.w) a b nab hd2)
  ⟨vs,ws,dd,dd2,by rw [<- rel.length,<- rel2.length]; exact len,fun h' dd' _ hs=>?_⟩
 have he:∃ q,h'.get? a=some q:=let ⟨q,_,_,hq,_⟩:=dd'; ⟨q,hq⟩
 exact ⟨.non,_,qy7 I (by rw [ea]; exact True.intro) hs he (qK2 (Nat.le_trans (qg2 more kvs) len) hd (rel2.merge rel) dd'),rfl,q⟩
end
end L2
namespace L2
open PySem PySem.Spec PyProof.Rows
section
variable {P:Program}{w:World}{K:PySem.W.Frag}
end
section
variable {X:Cx}
end
section
variable {K:PySem.W.Frag}{a:Addr}{xs:List V}
end
end L2
namespace L2
open PySem
def iN (q:Nat):V:=.int (q:Nat)
def aV:Option Nat->V
 | some a=>s1 a
 | none=>.non
structure Buns (H0:Hp) (p:Addr) (H:Hp) (bl:List (List (Nat×Nat))):Prop where
 same:Same H0 H
 fr:H0 p=none
 at_:∃ bs:List Addr,H p=some (.lst (bs.map V.ref))/\bs.length=bl.length/\(∀ b∈bs,b≠p/\H0 b=none)/\∀(i:Nat) (b:Addr) (ks:List (Nat×Nat)),bs[i]? = some b->bl[i]? = some ks->∃ as:List Addr,H b=some (.lst (as.map V.ref))/\Tups H as (ks.map skP)
theorem Buns.mono {H0 H H1:Hp}{p:Addr}{bl:List (List (Nat×Nat))}(B:Buns H0 p H bl) (s:Same H H1):Buns H0 p H1 bl:=by
 obtain ⟨bs,e,l,f,g⟩:=B.at_
 exact ⟨B.same.trans' s,B.fr,bs,s _ _ e,l,f,fun i b ks h1 h2=>let ⟨as,e1,t1⟩:=g i b ks h1 h2; ⟨as,s _ _ e1,t1.mono s⟩⟩
theorem Buns.back {H0 H1 H:Hp}{p:Addr}{bl:List (List (Nat×Nat))}(B:Buns H1 p H bl) (s:Same H0 H1):Buns H0 p H bl:=by
 have nb:∀{q:Addr},H1 q=none->H0 q=none:=fun {q} h=>by
  cases z:H0 q with
  | none=>rfl
  | some o=>rw [s _ _ z] at h; cases h
 obtain ⟨bs,e,l,f,g⟩:=B.at_
 exact ⟨s.trans' B.same,nb B.fr,bs,e,l,fun b hb=>⟨(f b hb).1,nb (f b hb).2⟩,g⟩
theorem Buns.put {H0 H H1:Hp}{p b:Addr}{bl:List (List (Nat×Nat))}{ks:List (Nat×Nat)}(B:Buns H0 p H bl) (hb:H b=none) (A:Acc H b H1 (ks.map skP)) :
  ∃ bs:List Addr,H1 p=some (.lst (bs.map V.ref))/\bs.length=bl.length/\Buns H0 p (upd H1 p (.lst (bs.map V.ref ++ [.ref b]))) (bl ++ [ks]):=by
 obtain ⟨bs,e,l,f,g⟩:=B.at_
 have e1:=A.same _ _ e
 have bp:b≠p:=fun z=>by rw [z,e] at hb; cases hb
 have b0:H0 b=none:=by
  cases z:H0 b with
  | none=>rfl
  | some o=>rw [B.same _ _ z] at hb; cases hb
 refine ⟨bs,e1,l,fun c o z=>?_,B.fr,bs ++ [b],by rw [q01,List.map_append]; rfl,by rw [List.length_append,List.length_append,l]; rfl,fun c hc=>?_,fun i c ks' h1 h2=>?_⟩
 ·rw [q08 (fun w=>by rw [w,B.fr] at z; cases z)]
  exact A.same _ _ (B.same _ _ z)
 ·rcases List.mem_append.mp hc with hc | hc
  ·exact f c hc
  ·rw [List.mem_singleton.mp hc]; exact ⟨bp,b0⟩
 ·by_cases il:i < bs.length
  ·rw [List.getElem?_append_left il] at h1
   rw [List.getElem?_append_left (by omega)] at h2
   obtain ⟨as,e2,t2⟩:=g i c ks' h1 h2
   refine ⟨as,?_,(t2.mono A.same).upd e1⟩
   rw [q08 (f c (List.mem_of_getElem? h1)).1]
   exact A.same _ _ e2
  ·have ie:i=bs.length:=by
    have:=(List.getElem?_eq_some_iff.mp h1).1
    rw [List.length_append] at this
    have:[b].length=1:=rfl
    omega
   subst ie
   rw [List.getElem?_append_right (Nat.le_refl _),Nat.sub_self] at h1
   rw [l,List.getElem?_append_right (Nat.le_refl _),Nat.sub_self] at h2
   cases h1
   cases h2
   obtain ⟨as,e2,t2⟩:=A.at_
   refine ⟨as,?_,t2.upd e1⟩
   rw [q08 bp]
   exact e2
theorem Buns.offD {H0 H:Hp}{p pd:Addr}{bl:List (List (Nat×Nat))}{kvs kvs':List (Key×V)}(B:Buns H0 p H bl) (e0:H0 pd=none) (e:H pd=some (.dK kvs)):Buns H0 p (upd H pd (.dK kvs')) bl:=by
 have ne:∀{q:Addr} {o:HO},H q=some o->(∀ c,o≠.dK c)->upd H pd (.dK kvs') q=some o:=fun {q o} h n=>by
  rw [q08 (fun z=>by rw [z,e] at h; cases h; exact n _ rfl)]
  exact h
 obtain ⟨bs,e1,l,f,g⟩:=B.at_
 refine ⟨fun c o z=>?_,B.fr,bs,ne e1 (fun _ z=>by cases z),l,f,fun i b ks h1 h2=>?_⟩
 ·rw [q08 (fun w=>by rw [w,e0] at z; cases z)]
  exact B.same _ _ z
 ·obtain ⟨as,e2,t2⟩:=g i b ks h1 h2
  exact ⟨as,ne e2 (fun _ z=>by cases z),t2.1,fun i r k a b=>ne (t2.2 i r k a b) (fun _ z=>by cases z)⟩
theorem z57 {κ:Type} [DecidableEq κ] {kvs:List (κ×V)}{k k':κ}{v:V}:k'∈(qn6 kvs k v).map (·.1)↔k'∈kvs.map (·.1)∨k'=k:=by
 unfold qn6
 split
 ·rename_i h
  have e:(kvs.map fun kv=>if kv.1=k then (kv.1,v) else kv).map (·.1)=kvs.map (·.1):=by
   rw [List.map_map]
   refine List.map_congr_left fun p _=>?_
   show (if p.1=k then (p.1,v) else p).1=p.1
   split <;> rfl
  first
   | (rw [e]
      obtain ⟨p,hp,ep⟩:=List.any_eq_true.mp h
      have ep:=of_decide_eq_true ep
      exact ⟨.inl,fun w=>w.elim id fun z=>by rw [z,<- ep]; exact List.mem_map.mpr ⟨p,hp,rfl⟩⟩)
 ·rw [List.map_append]
  simp
theorem qm0 {k:Key}:∀{more kvs:List (Key×V)},k∈(qe1 kvs more).map (·.1)↔k∈kvs.map (·.1)∨k∈more.map (·.1)
 | [],kvs=>by simp [qe1]
 | p :: r,kvs=>by
  show k∈(qe1 (qn6 kvs p.1 p.2) r).map (·.1)↔_
  rw [qm0,z57,List.map_cons,List.mem_cons,or_assoc]
theorem valV_some_iff {κ:Type} [DecidableEq κ] {kvs:List (κ×V)}{k:κ}:(qg5 kvs k).isSome=true↔k∈kvs.map (·.1):=by
 constructor
 ·intro h
  obtain ⟨v,e⟩:=Option.isSome_iff_exists.mp h
  exact valV_in e
 ·intro h
  cases z:qg5 kvs k with
  | some _=>rfl
  | none=>exact absurd h (qZ9 z)
end L2
namespace K67
open PySem L2
open PyProof.Rows (envOfC)
abbrev qc8:Stmt:=top 33
abbrev qi5:Stmt:=top 35
abbrev qi4:Stmt:=top 34
abbrev q81:Stmt:=top 31
abbrev qc4:Stmt:=top 32
def opL (rs:List Str) (q:Nat):Nat->List Bool
 | 0=>[]
 | 1=>[decide (0 < q65 rs q 110 q 110)]
 | _=>[decide (0 < q65 rs q 110 q 110),decide (0 < q65 rs q 121 q 121)]
theorem qT3 (rs:List Str) (q c:Nat):(opL rs q c).length<=2:=by
 match c with
 | 0=>exact Nat.zero_le _
 | 1=>exact (by decide:1<=2)
 | c + 2=>exact Nat.le_refl _
section
variable {P:Program}{w:World}{K:PySem.W.Frag}{mg:Str->Option Value}{base:Heap}{C fi fa ft fy fm fc:Addr}{gi ga gt gy gm gc:FuncData}
def qH4 (C:Addr):Sp:=fun vs H Q _=>∃(t dx kp bt:Addr) (n m:Nat) (rs:List Str) (q:Nat),vs=[.ref t,.int q]/\TabAt C H t dx kp bt n m rs/\q < n/\∀ H',Same H H'->Q (.bl (opB rs q)) H'
abbrev Pio:List Str:=["table", "question"]
theorem qR5:FnScope Pio Pio (q02 qc8):=⟨rfl,rfl,rfl,by decide +kernel,rfl,by decide +kernel,by decide +kernel⟩
abbrev Nio:List Str:=["sign", "table", "question"]
theorem nd_io:Nio.Nodup:=by decide +kernel
theorem qr4 {f:Addr}{fd:FuncData}(D:Df K mg "is_open" qc8 Pio f fd) (T:Tb K mg C fi fa ft fy fm fc gi ga gt gy gm gc) (Gc:FnOk P w K mg base (CXE P w) 3 fc gc Ptc (qj6 C)) (B:Bt mg) (M:Gm mg):FnOk P w K mg base (CXE P w) 4 f fd Pio (qH4 C):=by
 refine D.F.okN qR5 (fun vs H Q E h=>?_) (fun cdv A outer s H vs Q E hr h=>?_)
 ·obtain ⟨t,dx,kp,bt,n,m,rs,q,rfl,_⟩:=h
  rfl
 ·obtain ⟨t,dx,kp,bt,n,m,rs,q,rfl,tab,hq,k⟩:=h
  obtain ⟨tk,mS⟩:=M.signs
  refine ⟨_,q05 (q12 (q15 (ql1 rfl) (by rfl) B.all (by rfl) (q00 (q29 (N':=Nio) (fm:=[none,some 0,some 1]) rfl ⟨rfl,by decide +kernel,by decide +kernel,rfl,rfl,rfl⟩
    (qI0 (ql8 (v:=.str "ny") (by rfl) mS ⟨tk,rfl⟩)) (fun _ _ _ _=>q11 (i:=0) nd_io rfl (Or.inl rfl)) (fun _ _ _ _=>q42)
    (fun _ _ _ _=>q50 qT2 (q96 (pv 1) T.cl T.mc Gc hr T.bc .nil q17 (q00 (pv 2) (q00 (pv 0) (q00 (pv 2) (q00 (pv 0) q03))))) q06 (q13 _))) q03))),?_⟩
  refine ⟨_,rfl,fun p hp=>?_⟩
  have pos:∀ a:Nat,decide ((0:Int) < (q65 rs q a q a:Nat))=decide (0 < q65 rs q a q a):=fun a=>decide_eq_decide.mpr ⟨fun h=>by omega,fun h=>by omega⟩
  refine qG4 (x := "ny") (fun c σ H2=>∃ v,σ=[v,some (.ref t),some (.int q)]/\Same H H2/\H2 p=some (.lst ((opL rs q c).map V.bl))) ⟨none,rfl,Same.new hp,q01⟩ ?_ ?_
  ·rintro c σ H2 hc ⟨v,rfl,s2,e2⟩
   have hc:c < 2:=by rw [show ("ny" : Str).length=2 by decide +kernel] at hc; exact hc
   have hc':c=0∨c=1:=by omega
   have tab2:=tab.mono s2
   rcases hc' with rfl | rfl
   ·refine q53 ⟨_,rfl,t,dx,_,rfl,tab2.ins,rfl,_,rfl,_,rfl,_,rfl,_,rfl,t,dx,kp,bt,n,m,rs,q,110,q,110,rfl,tab2,hq,hq,.inr rfl,.inr rfl,fun H6 s6=>?_⟩
    refine ⟨_,_,rfl,rfl,_,s6 _ _ e2,(by rw [List.length_map]; exact Nat.lt_of_le_of_lt (qT3 rs q _) (by decide)),_,rfl,Same.grow hp (s2.trans' s6),?_⟩
    rw [q01]
    show some (HO.lst ([] ++ [V.bl (decide ((0:Int) < (q65 rs q 110 q 110:Nat)))]))=_
    rw [pos]
    rfl
   ·refine q53 ⟨_,rfl,t,dx,_,rfl,tab2.ins,rfl,_,rfl,_,rfl,_,rfl,_,rfl,t,dx,kp,bt,n,m,rs,q,121,q,121,rfl,tab2,hq,hq,.inl rfl,.inl rfl,fun H6 s6=>?_⟩
    refine ⟨_,_,rfl,rfl,_,s6 _ _ e2,(by rw [List.length_map]; exact Nat.lt_of_le_of_lt (qT3 rs q _) (by decide)),_,rfl,Same.grow hp (s2.trans' s6),?_⟩
    rw [q01]
    show some (HO.lst (_ ++ [V.bl (decide ((0:Int) < (q65 rs q 121 q 121:Nat)))]))=_
    rw [pos]
    rfl
  ·rintro σ H2 ⟨v,rfl,s2,e2⟩
   have e:opL rs q ("ny" : Str).length=opL rs q 2:=by rw [show ("ny" : Str).length=2 by decide +kernel]
   rw [e] at e2
   refine ⟨p,_,rfl,SqL.of e2,?_⟩
   have e3:(opL rs q 2).all id=opB rs q:=by
    show (decide (0 < q65 rs q 110 q 110) && (decide (0 < q65 rs q 121 q 121) && true))=_
    rw [Bool.and_true]
    rfl
   rw [e3]
   exact k H2 s2
def qQ7 (C:Addr):Sp:=fun vs H Q _=>∃(t dx kp bt:Addr) (n m:Nat) (rs:List Str) (q r:Nat),vs=[.ref t,.int q,.int r]/\TabAt C H t dx kp bt n m rs/\q < n/\r < n/\∀ H',Same H H'->Q (aV (alO rs q r)) H'
abbrev Pag:List Str:=["table", "q", "r"]
theorem z28:FnScope Pag Pag (q02 qi5):=⟨rfl,rfl,rfl,by decide +kernel,rfl,by decide +kernel,by decide +kernel⟩
theorem qx3 {f:Addr}{fd:FuncData}(D:Df K mg "answer_along" qi5 Pag f fd) (T:Tb K mg C fi fa ft fy fm fc gi ga gt gy gm gc) (Gc:FnOk P w K mg base (CXE P w) 3 fc gc Ptc (qj6 C)):FnOk P w K mg base (CXE P w) 4 f fd Pag (qQ7 C):=by
 refine D.F.okN z28 (fun vs H Q E h=>?_) (fun cdv A outer s H vs Q E hr h=>?_)
 ·obtain ⟨t,dx,kp,bt,n,m,rs,q,r,rfl,_⟩:=h
  rfl
 ·obtain ⟨t,dx,kp,bt,n,m,rs,q,r,rfl,tab,hq,hr',k⟩:=h
  refine ⟨_,q04 (qS5 (fun σ H1=>σ=[some (.ref t),some (.int q),some (.int r)]/\Same H H1/\akB rs q r=false) (q30 (PW.pt (qe0 (q10 q37 (q96 (pv 0) T.cl T.mc Gc hr T.bc .nil q17 (q00 (pv 1) (q00 q20 (q00 (pv 2) (q00 q20 q03))))) q06 (q13 _)) (qa6 (q10 q37 (q96 (pv 0) T.cl T.mc Gc hr T.bc .nil q17 (q00 (pv 1) (q00 q20 (q00 (pv 2) (q00 q20 q03))))) q06 (q13 _))))) (q05 (q12 q20)) q16))
   (q04 (q30 (PW.pt (qe0 (q10 q37 (q96 (pv 0) T.cl T.mc Gc hr T.bc .nil q17 (q00 (pv 1) (q00 q20 (q00 (pv 2) (q00 q20 q03))))) q06 (q13 _)) (qa6 (q10 q37 (q96 (pv 0) T.cl T.mc Gc hr T.bc .nil q17 (q00 (pv 1) (q00 q20 (q00 (pv 2) (q00 q20 q03))))) q06 (q13 _))))) (q05 (q12 q20)) q16)
   (q05 (q12 qS8))),?_⟩
  have dz:∀ c:Nat,decide (V.int (c:Nat)=V.int 0)=decide (c=0):=fun c=>by
   refine decide_eq_decide.mpr ⟨fun h=>?_,fun h=>by rw [h]; rfl⟩
   injection h with h
   omega
  refine ⟨?_,?_⟩
  ·refine ⟨_,rfl,t,dx,_,rfl,tab.ins,rfl,_,rfl,_,rfl,t,dx,kp,bt,n,m,rs,q,110,r,121,rfl,tab,hq,hr',.inr rfl,.inl rfl,fun H1 s1'=>⟨rfl,_,rfl,?_⟩⟩
   rw [dz]
   cases c1:decide (q65 rs q 110 r 121=0) with
   | false=>exact q31 (q31 ⟨rfl,s1',by unfold akB; rw [c1,Bool.false_and]⟩)
   | true =>
    have tab1:=tab.mono s1'
    refine q48 ⟨_,rfl,t,dx,_,rfl,tab1.ins,rfl,_,rfl,_,rfl,t,dx,kp,bt,n,m,rs,q,121,r,110,rfl,tab1,hq,hr',.inl rfl,.inr rfl,fun H2 s2=>⟨rfl,_,rfl,?_⟩⟩
    rw [dz]
    cases c2:decide (q65 rs q 121 r 110=0) with
    | false=>exact q31 ⟨rfl,s1'.trans' s2,by unfold akB; rw [c1,c2]; rfl⟩
    | true =>
     have e:alO rs q r=some 121:=by unfold alO akB; rw [c1,c2]; rfl
     rw [e] at k
     exact q48 (k H2 (s1'.trans' s2))
  ·rintro σ H1 ⟨rfl,s1',nk⟩
   have tab1:=tab.mono s1'
   refine ⟨_,rfl,t,dx,_,rfl,tab1.ins,rfl,_,rfl,_,rfl,t,dx,kp,bt,n,m,rs,q,110,r,110,rfl,tab1,hq,hr',.inr rfl,.inr rfl,fun H2 s2=>⟨rfl,_,rfl,?_⟩⟩
   have s12:=s1'.trans' s2
   have none_:apB rs q r=false->alO rs q r=none:=fun h=>by unfold alO; rw [nk,h]; rfl
   rw [dz]
   cases c1:decide (q65 rs q 110 r 110=0) with
   | false =>
    rw [none_ (by unfold apB; rw [c1,Bool.false_and])] at k
    exact q31 (q31 (k H2 s12))
   | true =>
    have tab2:=tab.mono s12
    refine q48 ⟨_,rfl,t,dx,_,rfl,tab2.ins,rfl,_,rfl,_,rfl,t,dx,kp,bt,n,m,rs,q,121,r,121,rfl,tab2,hq,hr',.inl rfl,.inl rfl,fun H3 s3=>⟨rfl,_,rfl,?_⟩⟩
    rw [dz]
    cases c2:decide (q65 rs q 121 r 121=0) with
    | false =>
     rw [none_ (by unfold apB; rw [c1,c2]; rfl)] at k
     exact q31 (k H3 (s12.trans' s3))
    | true =>
     have e:alO rs q r=some 110:=by unfold alO apB; rw [nk,c1,c2]; rfl
     rw [e] at k
     exact q48 (k H3 (s12.trans' s3))
def qQ5 (C:Addr):Sp:=fun vs H Q _=>∃(t dx kp bt:Addr) (n m:Nat) (rs:List Str) (l:Nat),vs=[.ref t,.int l]/\TabAt C H t dx kp bt n m rs/\(∀ x∈rs,Row n x)/\l < n/\n<=12/\qr5 rs l=true/\∀ p H',H p=none->Acc H p H' ((bun rs n l).map skP)->Q (.ref p) H'
abbrev Nbf:List Str:=["table", "lowest", "told", "question", "answer"]
abbrev Pbf:List Str:=["table", "lowest"]
theorem sc_bfrom:FnScope Nbf Pbf (q02 qi4):=⟨rfl,rfl,rfl,by decide +kernel,rfl,by decide +kernel,by decide +kernel⟩
def bfP (rs:List Str) (l j:Nat):List (Nat×Nat):=(List.range j).filterMap fun d=>qj2 rs l (l + d)
theorem bfP_len (rs:List Str) (l j:Nat):(bfP rs l j).length<=j:=by
 have:=List.length_filterMap_le (fun d=>qj2 rs l (l + d)) (List.range j)
 rw [List.length_range] at this
 exact this
theorem qL3 (rs:List Str) (l j:Nat):bfP rs l (j + 1)=bfP rs l j ++ (qj2 rs l (l + j)).toList:=by
 unfold bfP
 rw [List.range_succ,List.filterMap_append]
 congr 1
theorem qx2 {f fg:Addr}{fd gg:FuncData}(D:Df K mg "bundle_from" qi4 Pbf f fd) (Dg:Df K mg "answer_along" qi5 Pag fg gg) (Gg:FnOk P w K mg base (CXE P w) 4 fg gg Pag (qQ7 C)) (T:Tb K mg C fi fa ft fy fm fc gi ga gt gy gm gc) (B:Bt mg):FnOk P w K mg base (CXE P w) 5 f fd Pbf (qQ5 C):=by
 refine D.F.okN sc_bfrom (fun vs H Q E h=>?_) (fun cdv A outer s H vs Q E hr h=>?_)
 ·obtain ⟨t,dx,kp,bt,n,m,rs,l,rfl,_⟩:=h
  rfl
 ·obtain ⟨t,dx,kp,bt,n,m,rs,l,rfl,tab,hrs,hl,n12,ll,k⟩:=h
  refine ⟨_,q04 (q21 (i:=2) sc_bfrom.nd rfl (Or.inl rfl) (q36 q03))
   (q04 (q91 PassesOwn.never rfl (qr1 (by rfl) B.range (q00 (pv 1) (q00 (q82 (pv 0) rfl) q03))) (q11 (i:=3) sc_bfrom.nd rfl (Or.inl rfl))
    (q04 (q21 (i:=4) sc_bfrom.nd rfl (Or.inl rfl) (q14 Dg Gg hr q17 (q00 (pv 0) (q00 (pv 1) (q00 (pv 3) q03)))))
    (q05 (q30 (qS2 (pc_notN (pv 4))) (q05 (q18 (qi8 PySem.F.plainAttrs_list PySem.F.slot_list_append PySem.F.type_list_append q57 (pv 2) (q00 (q84 (q00 (pv 3) (q00 (pv 4) q03))) q03)))) q16))))
   (q05 (q12 (pv 2)))),?_⟩
  refine ⟨Nat.zero_le _,fun p hp=>?_⟩
  have tab0:=tab.mono (Same.new (o:=.lst []) hp)
  refine ⟨_,rfl,_,rfl,t,C,dx,_,_,rfl,tab0.ins,T.cl,T.nQ,rfl,_,_,rfl,⟨by omega,by omega,by omega,by omega⟩,?_⟩
  have en:(((n:Nat):Int) - (l:Int)).toNat=n - l:=by omega
  rw [en]
  refine q52 (fun j σ H2=>∃ v3 v4,σ=[some (.ref t),some (.int l),some (.ref p),v3,v4]/\Acc H p H2 ((bfP rs l j).map skP)) ⟨none,none,rfl,Same.new hp,[],q01,.nil⟩ ?_ ?_
  ·rintro j σ H2 hj ⟨v3,v4,rfl,a2⟩
   have ej:(l:Int) + (j:Int)=((l + j:Nat):Int):=by omega
   rw [ej]
   refine ⟨_,rfl,_,rfl,_,rfl,t,dx,kp,bt,n,m,rs,l,l + j,rfl,tab.mono a2.same,hl,by omega,fun H3 s3=>?_⟩
   have a3:=a2.mono s3
   cases z:alO rs l (l + j) with
   | none =>
    have e:qj2 rs l (l + j)=none:=by unfold qj2; rw [z]; rfl
    refine ⟨_,rfl,_,rfl,q31 ⟨_,_,rfl,?_⟩⟩
    rw [qL3,e]
    simpa using a3
   | some a =>
    have e:qj2 rs l (l + j)=some (l + j,a):=by unfold qj2; rw [z]; rfl
    obtain ⟨rs',e3,t3⟩:=a3.at_
    refine ⟨_,rfl,_,rfl,q48 ⟨_,rfl,.inl ⟨rfl,_,SqL.of e3⟩,_,rfl,_,rfl,q22 (show 2<=100 by decide),fun T' hT=>?_⟩⟩
    obtain ⟨ys,ey,yl,a4⟩:=a3.put (k:=skP (l + j,a)) hp (Same.refl _) hT
    refine ⟨p,_,_,rfl,rfl,ey,?_,_,_,rfl,?_⟩
    ·rw [yl,List.length_map]
     have:=bfP_len rs l j
     exact Nat.lt_of_le_of_lt (show _<=12 by omega) (by decide)
    ·rw [qL3,e,List.map_append]
     exact a4
  ·rintro σ H2 ⟨v3,v4,rfl,a2⟩
   refine ⟨_,rfl,k p H2 hp ?_⟩
   rw [qK9 hrs hl ll]
   exact a2
def qp7 (C:Addr):Sp:=fun vs H Q _=>∃(t dx kp bt:Addr) (n m:Nat) (rs:List Str),vs=[.ref t]/\TabAt C H t dx kp bt n m rs/\(∀ x∈rs,Row n x)/\1<=n/\n<=12/\∀ p H',Buns H p H' (bnl rs n)->Q (.ref p) H'
abbrev Nbu:List Str:=["table", "told", "placed", "question", "bundle"]
theorem sc_bundles:FnScope Nbu ["table"] (q02 q81):=⟨rfl,rfl,rfl,by decide +kernel,rfl,by decide +kernel,by decide +kernel⟩
def qB1 (p:Nat×Nat):Key×V:=(.inl (p.1:Int),s1 p.2)
theorem qL5 {H:Hp}{as:List Addr}{ks:List (Nat×Nat)}(t:Tups H as (ks.map skP)):qG7 H as (ks.map qB1):=by
 refine ⟨by rw [List.length_map,t.1,List.length_map],fun i r p h1 h2=>?_⟩
 rw [List.getElem?_map] at h2
 cases z:ks[i]? with
 | none=>rw [z] at h2; cases h2
 | some q =>
  rw [z] at h2
  cases h2
  exact t.2 i r (skP q) h1 (by rw [List.getElem?_map,z]; rfl)
theorem z62 {r:Nat}{rs:List Str}{n l:Nat}:((.inl (r:Int)):Key)∈(((bun rs n l).map qB1).map (·.1))↔r < n/\tgB rs l r=true:=by
 constructor
 ·intro h
  rw [List.map_map] at h
  obtain ⟨p,hp,e⟩:=List.mem_map.mp h
  have e:(p.1:Int)=(r:Int):=by
   have e:(Sum.inl (p.1:Int):Key)=.inl (r:Int):=e
   injection e
  have e:p.1=r:=by omega
  obtain ⟨a,b⟩:=qY2 (r:=p.1) (a:=p.2) hp
  rw [e] at a b
  refine ⟨a,?_⟩
  cases z:tgB rs l r with
  | true=>rfl
  | false=>rw [alO_none.mpr z] at b; cases b
 ·rintro ⟨a,b⟩
  cases z:alO rs l r with
  | none=>rw [alO_none.mp z] at b; cases b
  | some c =>
   rw [List.map_map]
   exact List.mem_map.mpr ⟨(r,c),qV5 a z,rfl⟩
theorem ql9 {f fo fg:Addr}{fd go gg:FuncData}(D:Df K mg "bundles" q81 ["table"] f fd) (Do:Df K mg "is_open" qc8 Pio fo go) (Go:FnOk P w K mg base (CXE P w) 4 fo go Pio (qH4 C)) (Dg:Df K mg "bundle_from" qi4 Pbf fg gg) (Gg:FnOk P w K mg base (CXE P w) 5 fg gg Pbf (qQ5 C)) (T:Tb K mg C fi fa ft fy fm fc gi ga gt gy gm gc) (B:Bt mg) (M:Gm mg):FnOk P w K mg base (CXE P w) 6 f fd ["table"] (qp7 C):=by
 refine D.F.okN sc_bundles (fun vs H Q E h=>?_) (fun cdv A outer s H vs Q E hr h=>?_)
 ·obtain ⟨t,dx,kp,bt,n,m,rs,rfl,_⟩:=h
  rfl
 ·obtain ⟨t,dx,kp,bt,n,m,rs,rfl,tab,hrs,n1,n12,k⟩:=h
  have hu:(A.deeper (envOfC "bundles" (q02 q81) s.heap.objs.size f cdv)).units + 1 < cLine:=by have:=hr.units; omega
  refine ⟨_,q04 (q21 (i:=1) sc_bundles.nd rfl (Or.inl rfl) (q36 q03))
   (q04 (q21 (i:=2) sc_bundles.nd rfl (Or.inl rfl) qI1)
   (q04 (q91 PassesOwn.never rfl (q34 (by rfl) B.range (q00 (q82 (pv 0) rfl) q03)) (q11 (i:=3) sc_bundles.nd rfl (Or.inl rfl))
    (q05 (q30 (PW.pt (qe0 (qS2 (qB0 hu (pv 3) (pv 2))) (qa6 (q61 (q14 Do Go (hr.mono (by decide)) q17 (q00 (pv 0) (q00 (pv 3) q03)))))))
     (q04 (q21 (i:=4) sc_bundles.nd rfl (Or.inl rfl) (q14 Dg Gg hr q17 (q00 (pv 0) (q00 (pv 3) q03))))
     (q04 (q18 (qi8 PySem.F.plainAttrs_list PySem.F.slot_list_append PySem.F.type_list_append q57 (pv 1) (q00 (pv 4) q03)))
     (q05 (q18 (qi8 PySem.F.plainAttrs_dict PySem.F.slot_dict_update PySem.F.type_dict_update qV2 (pv 2) (q00 (qk0 (qN2 rfl) (by rfl) M.dict (by rfl) (q00 (pv 4) q03)) q03)))))) q16)))
   (q05 (q12 (pv 1))))),?_⟩
  refine ⟨Nat.zero_le _,fun p hp=>fun pd hpd=>?_⟩
  have s1':=Same.new (o:=.lst []) hp
  have s2:=Same.new (o:=.dK []) hpd
  have tab0:=tab.mono (s1'.trans' s2)
  refine ⟨_,rfl,t,C,dx,_,_,rfl,tab0.ins,T.cl,T.nQ,rfl,_,rfl,by omega,by omega,?_⟩
  have en:((n:Nat):Int).toNat=n:=by omega
  rw [en]
  refine q52 (fun i σ H2=>∃ v3 v4 kvs,σ=[some (.ref t),some (.ref p),some (.ref pd),v3,v4]/\Buns H p H2 ((q74 rs i).map (bun rs n))/\H2 pd=some (.dK kvs)/\kvs.length<=12 * i/\∀ r,r < n->(((.inl (r:Int)):Key)∈kvs.map (·.1)↔∃ l,l < i/\qr5 rs l=true/\tgB rs l r=true))
   ⟨none,none,[],rfl,⟨s1'.trans' s2,hp,[],s2 _ _ q01,rfl,(fun _ h=>by cases h),fun _ _ _ h=>by cases h⟩,q01,Nat.zero_le _,fun r _=>⟨fun h=>(by cases h),fun ⟨l,h,_⟩=>by omega⟩⟩ ?_ ?_
  ·rintro i σ H2 hi ⟨v3,v4,kvs,rfl,b2,e2,l2,pl⟩
   rw [Int.zero_add]
   have pd0:H pd=none:=q73 hpd
   have stay:∀{H3:Hp} {v4:Option V},Same H2 H3->qr5 rs i=false->∃ v3 v4' kvs,[some (V.ref t),some (V.ref p),some (V.ref pd),some (V.int i),v4]=[some (.ref t),some (.ref p),some (.ref pd),v3,v4']/\Buns H p H3 ((q74 rs (i + 1)).map (bun rs n))/\H3 pd=some (.dK kvs)/\kvs.length<=12 * (i + 1)/\∀ r,r < n->(((.inl (r:Int)):Key)∈kvs.map (·.1)↔∃ l,l < i + 1/\qr5 rs l=true/\tgB rs l r=true):=by
    intro H3 v4 s3 nl
    refine ⟨_,_,kvs,rfl,?_,s3 _ _ e2,by omega,fun r hr=>?_⟩
    ·rw [qk4,nl]
     simpa using b2.mono s3
    ·rw [pl r hr]
     constructor
     ·rintro ⟨l,a,b⟩
      exact ⟨l,by omega,b⟩
     ·rintro ⟨l,a,b,c⟩
      refine ⟨l,Nat.lt_of_le_of_ne (by omega) (fun e=>?_),b,c⟩
      rw [e,nl] at b
      cases b
   refine ⟨_,rfl,_,rfl,pd,_,rfl,DGet.k (k:=.inl (i:Int)) e2,_,rfl,?_⟩
   cases z:(qg5 kvs (.inl (i:Int))).isSome with
   | true =>
    refine q31 (q31 (stay (Same.refl _) (Bool.eq_false_iff.mpr fun w=>?_)))
    exact ((qu3 hrs hi).mp w).2 ((pl i hi).mp (valV_some_iff.mp z))
   | false =>
    refine q48 ⟨_,rfl,_,rfl,t,dx,kp,bt,n,m,rs,i,rfl,tab.mono b2.same,hi,fun H3 s3=>⟨_,rfl,?_⟩⟩
    cases o:opB rs i with
    | false=>exact q31 (stay s3 (by unfold qr5; rw [o,Bool.false_and]))
    | true =>
     have ll:qr5 rs i=true:=(qu3 hrs hi).mpr ⟨o,fun w=>by
      have:=valV_some_iff.mpr ((pl i hi).mpr w)
      rw [z] at this
      cases this⟩
     have b3:=b2.mono s3
     refine q48 ⟨_,rfl,_,rfl,t,dx,kp,bt,n,m,rs,i,rfl,tab.mono b3.same,hrs,hi,n12,ll,fun b H4 hb a4=>?_⟩
     obtain ⟨bs,e4,lb,b5⟩:=b3.put hb a4
     refine ⟨_,rfl,.inl ⟨rfl,_,SqL.of e4⟩,_,rfl,p,_,_,rfl,rfl,e4,?_,?_⟩
     ·rw [List.length_map,lb,List.length_map]
      have:=q99 rs i
      exact Nat.lt_of_le_of_lt (show _<=12 by omega) (by decide)
     obtain ⟨as,ea,ta⟩:=a4.at_
     have bp:b≠p:=fun w=>by
      obtain ⟨bs',e',_⟩:=b3.at_
      rw [w,e'] at hb
      cases hb
     have pdp:pd≠p:=fun w=>by
      obtain ⟨bs',e',_⟩:=b2.at_
      rw [<- w,e2] at e'
      cases e'
     have ed:upd H4 p (.lst (bs.map V.ref ++ [.ref b])) pd=some (.dK kvs):=by rw [q08 pdp]; exact a4.same _ _ (s3 _ _ e2)
     have eb:upd H4 p (.lst (bs.map V.ref ++ [.ref b])) b=some (.lst (as.map V.ref)):=by rw [q08 bp]; exact ea
     have ts:=qL5 (ta.upd (zs:=bs.map V.ref ++ [.ref b]) e4)
     generalize upd H4 p (.lst (bs.map V.ref ++ [.ref b]))=H5 at *
     refine ⟨_,rfl,.inr (.inr (.inl ⟨rfl,.inl ⟨_,ed⟩⟩)),_,rfl,b,as,_,rfl,SqL.of eb,ts,fun dc hdc=>?_⟩
     have sd:=Same.new (o:=.dK (qe1 [] ((bun rs n i).map qB1))) hdc
     have m0:=qg2 ((bun rs n i).map qB1) []
     have m1:=qg2 (qe1 [] ((bun rs n i).map qB1)) kvs
     have m2:=qY3 rs n i
     rw [List.length_map] at m0
     have nd:pd≠dc:=fun w=>by rw [<- w,ed] at hdc; cases hdc
     refine ⟨pd,dc,_,_,rfl,rfl,sd _ _ ed,q01,nd,Nat.le_trans (show _<=1000 by simp at m0; omega) (by decide),?_⟩
     refine ⟨_,_,_,rfl,?_,q01,by simp at m0; omega,fun r hr=>?_⟩
     ·rw [qk4,ll,if_pos rfl,List.map_append]
      exact (b5.mono sd).offD pd0 (sd _ _ ed)
     ·rw [qm0,qm0,pl r hr,z62]
      constructor
      ·rintro (⟨l,a,b⟩ | a | ⟨_,a⟩)
       ·exact ⟨l,by omega,b⟩
       ·cases a
       ·exact ⟨i,Nat.lt_succ_self _,ll,a⟩
      ·rintro ⟨l,a,b,c⟩
       by_cases e:l=i
       ·rw [e] at c
        exact .inr (.inr ⟨hr,c⟩)
       ·exact .inl ⟨l,by omega,b,c⟩
  ·rintro σ H2 ⟨v3,v4,kvs,rfl,b2,_⟩
   exact ⟨_,rfl,k p H2 b2⟩
def qH0 (C:Addr):Sp:=fun vs H Q _=>∃(t dx kp bt:Addr) (n m:Nat) (rs:List Str),vs=[.ref t]/\TabAt C H t dx kp bt n m rs/\(∀ x∈rs,Row n x)/\1<=n/\n<=12/\∀ p H',H p=none->Same H H'->H' p=some (.lst ((q74 rs n).map iN))->Q (.ref p) H'
theorem qR4:FnScope ["table"] ["table"] (q02 qc4):=⟨rfl,rfl,rfl,by decide +kernel,rfl,by decide +kernel,by decide +kernel⟩
theorem nd_lo:(["bundle"]:List Str).Nodup:=by decide +kernel
theorem qT7 {f fg:Addr}{fd gg:FuncData}(D:Df K mg "lowest_questions" qc4 ["table"] f fd) (Dg:Df K mg "bundles" q81 ["table"] fg gg) (Gg:FnOk P w K mg base (CXE P w) 6 fg gg ["table"] (qp7 C)):FnOk P w K mg base (CXE P w) 7 f fd ["table"] (qH0 C):=by
 refine D.F.okN qR4 (fun vs H Q E h=>?_) (fun cdv A outer s H vs Q E hr h=>?_)
 ·obtain ⟨t,dx,kp,bt,n,m,rs,rfl,_⟩:=h
  rfl
 ·obtain ⟨t,dx,kp,bt,n,m,rs,rfl,tab,hrs,n1,n12,k⟩:=h
  refine ⟨_,q05 (q12 (q29 (N':=["bundle"]) (fm:=[none]) rfl ⟨rfl,by decide +kernel,by decide +kernel,rfl,rfl,rfl⟩
   (q35 (q14 Dg Gg hr q17 (q00 (pv 0) q03))) (fun _ _ _ _=>q11 (i:=0) nd_lo rfl (Or.inl rfl)) (fun _ _ _ _=>q42)
   (fun _ _ _ _=>q25 (r:=rIxT K) ix_tup (q25 (r:=qR9 K) ix_list (pv 0) q06 (fun _ _=>rfl)) q06 (fun _ _=>rfl)))),?_⟩
  refine ⟨_,rfl,t,dx,kp,bt,n,m,rs,rfl,tab,hrs,n1,n12,fun q H1 b1=>?_⟩
  obtain ⟨bs,e1,l1,f1,g1⟩:=b1.at_
  refine ⟨q,rfl,⟨_,SqL.of e1⟩,fun p hp=>?_⟩
  have lb:bs.length=(q74 rs n).length:=by rw [l1]; unfold bnl; rw [List.length_map]
  refine q40 (K:=K) (a:=q) (xs:=bs.map V.ref) (fun i σ H2=>∃ v,σ=[v]/\Same H1 H2/\H2 p=some (.lst (((q74 rs n).take i).map iN))) ⟨none,rfl,Same.new hp,q01⟩ (fun i σ H2 _ ⟨_,_,s2,_⟩=>SqL.of (s2 _ _ e1)) ?_ ?_
  ·rintro i y σ H2 hi ⟨v,rfl,s2,e2⟩
   rw [List.getElem?_map] at hi
   cases z:bs[i]? with
   | none=>rw [z] at hi; cases hi
   | some b =>
    rw [z] at hi
    cases hi
    have il:=(List.getElem?_eq_some_iff.mp z).1
    have y:(q74 rs n)[i]? = some (q74 rs n)[i]:=List.getElem?_eq_getElem (by omega)
    have mem:=List.mem_of_getElem? y
    generalize (q74 rs n)[i]=l at *
    unfold q74 at mem
    rw [List.mem_filter,List.mem_range] at mem
    obtain ⟨tl,et⟩:=qK8 hrs mem.1 mem.2
    obtain ⟨as,ea,ta⟩:=g1 i b (bun rs n l) z (by unfold bnl; rw [List.getElem?_map,y]; rfl)
    rw [et] at ta
    cases as with
    | nil=>exact absurd ta.1 (by simp)
    | cons a0 at' =>
     have ea0:=ta.2 0 a0 _ rfl rfl
     refine q53 ⟨_,rfl,b,_,_,_,rfl,rfl,SqL.of (s2 _ _ ea),(show atI _ ((0:Nat):Int)=_ from q46 rfl),a0,_,_,_,rfl,rfl,SqT.of (s2 _ _ ea0),rfl,_,e2,?_,_,rfl,Same.grow hp s2,?_⟩
     ·rw [List.length_map,List.length_take]
      have:=q99 rs n
      exact Nat.lt_of_le_of_lt (show _<=12 by omega) (by decide)
     ·rw [q01,List.take_add_one,y,List.map_append]
      rfl
  ·rintro σ H2 ⟨v,rfl,s2,e2⟩
   rw [List.length_map,lb,List.take_length] at e2
   refine k p H2 ?_ (b1.same.trans' s2) e2
   cases z:H p with
   | none=>rfl
   | some o=>rw [b1.same _ _ z] at hp; cases hp
end
end K67
namespace K67
open PySem L2
open PyProof.Rows (envOfC)
abbrev qm8:Stmt:=top 73
theorem in_iN (q:Nat) (L:List Nat):inV (iN q) (L.map iN)=decide (q∈L):=by
 unfold inV
 rw [List.any_map,Bool.eq_iff_iff,List.any_eq_true,decide_eq_true_iff]
 constructor
 ·rintro ⟨x,hx,e⟩
  have e:((x:Int) == (q:Int))=true:=e
  have e:(x:Int)=q:=by simpa using e
  have:x=q:=by omega
  rw [<- this]; exact hx
 ·intro h
  exact ⟨q,h,show ((q:Int) == (q:Int))=true by simp⟩
theorem qj1 (L:List Nat):(L.map iN).all qt3=true:=by
 rw [List.all_map,List.all_eq_true]
 exact fun _ _=>rfl
theorem q67 {α:Type}{p:α->Bool}{l:List α}{i:Nat}{a:α}(h:l[i]? = some a):(l.take (i + 1)).filter p=(l.take i).filter p ++ (if p a=true then [a] else []):=by
 rw [List.take_add_one,h,List.filter_append]
 congr 1
 cases z:p a <;> simp [z]
section
variable {P:Program}{w:World}{K:PySem.W.Frag}{mg:Str->Option Value}{base:Heap}{C fi fa ft fy fm fc:Addr}{gi ga gt gy gm gc:FuncData}
def z97 (K:PySem.W.Frag):Sp:=fun vs H Q _=>∃(l:Addr) (n:Nat) (rs:List Str),vs=[.ref l,.int n]/\SqL K H l (rs.map V.str)/\(∀ x∈rs,Row n x)/\n<=12/\∀ p H',Buns H p H' (bnl rs n)->Q (.ref p) H'
abbrev N_lb:List Str:=["_law_rows_here", "_law_n", "_law_left", "_law_found", "_law_low", "_law_alike", "_law_apart_here"]
abbrev P_lb:List Str:=["_law_rows_here", "_law_n"]
theorem sc_lb:FnScope N_lb P_lb (q02 qm8):=⟨rfl,rfl,rfl,by decide +kernel,rfl,by decide +kernel,by decide +kernel⟩
abbrev N_lb1:List Str:=["_law_q", "_law_rows_here"]
theorem nd_lb1:N_lb1.Nodup:=by decide +kernel
abbrev N_lb2:List Str:=["_law_q", "_law_rows_here", "_law_low"]
theorem nd_lb2:N_lb2.Nodup:=by decide +kernel
abbrev N_lb3:List Str:=["_law_q", "_law_rows_here", "_law_low"]
theorem nd_lb3:N_lb3.Nodup:=by decide +kernel
abbrev N_lb4:List Str:=["_law_q", "_law_alike", "_law_apart_here"]
theorem nd_lb4:N_lb4.Nodup:=by decide +kernel
abbrev N_lb5:List Str:=["_law_q", "_law_alike", "_law_apart_here"]
theorem nd_lb5:N_lb5.Nodup:=by decide +kernel
theorem ok_lbun {f fb:Addr}{fd gb:FuncData}(D:Df K mg "_law_bundles" qm8 P_lb f fd) (Db:Df K mg "_law_bears" qf6 Pbe fb gb) (B:Bt mg):FnOk P w K mg base (CXE P w) 2 f fd P_lb (z97 K):=by
 refine D.F.okN sc_lb (fun vs H Q E h=>?_) (fun cdv A outer s H vs Q E hr h=>?_)
 ·obtain ⟨l,n,rs,rfl,_⟩:=h
  rfl
 ·obtain ⟨l,n,rs,rfl,hl,hrs,n12,k⟩:=h
  have hu:(A.deeper (envOfC "_law_bundles" (q02 qm8) s.heap.objs.size f cdv)).units < cLine:=hr.units0
  refine ⟨_,q04 (qw4 (i:=2) (N':=N_lb1) (fm:=[none,some 0]) rfl sc_lb.nd rfl rfl ⟨rfl,by decide +kernel,by decide +kernel,rfl,rfl,rfl⟩ (q34 (by rfl) B.range (q00 (pv 1) q03)) (fun _ _ _ _=>(q11 (i:=0) nd_lb1 rfl (Or.inl rfl))) (fun _ _ _ _=>(q63 (PW.pt (qe0 (q10 (r:=za0 K) (qo6 hu) (pv 1) (q36 q03) (q13 _)) (qe0 (q61 (q14 Db (qd3 Db) (hr.mono (by decide)) q17 (q00 (pv 1) (q00 (pv 0) (q00 q20 (q00 (pv 0) (q00 q20 q03))))))) (qa6 (q61 (q14 Db (qd3 Db) (hr.mono (by decide)) q17 (q00 (pv 1) (q00 (pv 0) (q00 q20 (q00 (pv 0) (q00 q20 q03))))))))))))) (fun _ _ _ _=>(pv 0)))
   (q04 (q21 (i:=3) sc_lb.nd rfl (Or.inl rfl) (q36 q03))
   (q04 (qH9 PassesOwn.never (q10 (qo6 hu) (pv 2) (q36 q03) (q13 _))
   (q04 (q21 (i:=4) sc_lb.nd rfl (Or.inr rfl) (q25 ix_list (pv 2) q06 (fun _ _=>rfl)))
   (q04 (q21 (i:=5) sc_lb.nd rfl (Or.inr rfl) (q29 (N':=N_lb2) (fm:=[none,some 0,some 4]) rfl ⟨rfl,by decide +kernel,by decide +kernel,rfl,rfl,rfl⟩ (q35 (pv 2)) (fun _ _ _ _=>(q11 (i:=0) nd_lb2 rfl (Or.inl rfl))) (fun _ _ _ _=>(q63 (PW.pt (qe0 (qa7 (q61 (q14 Db (qd3 Db) (hr.mono (by decide)) q17 (q00 (pv 1) (q00 (pv 2) (q00 q20 (q00 (pv 0) (q00 q20 q03)))))))) (qa6 (qa7 (q61 (q14 Db (qd3 Db) (hr.mono (by decide)) q17 (q00 (pv 1) (q00 (pv 2) (q00 q20 (q00 (pv 0) (q00 q20 q03))))))))))))) (fun _ _ _ _=>(pv 0))))
   (q04 (q21 (i:=6) sc_lb.nd rfl (Or.inr rfl) (q29 (N':=N_lb3) (fm:=[none,some 0,some 4]) rfl ⟨rfl,by decide +kernel,by decide +kernel,rfl,rfl,rfl⟩ (q35 (pv 2)) (fun _ _ _ _=>(q11 (i:=0) nd_lb3 rfl (Or.inl rfl))) (fun _ _ _ _=>(q63 (PW.pt (qe0 (qa7 (q61 (q14 Db (qd3 Db) (hr.mono (by decide)) q17 (q00 (pv 1) (q00 (pv 2) (q00 q20 (q00 (pv 0) (q00 q20 q03)))))))) (qa6 (qa7 (q61 (q14 Db (qd3 Db) (hr.mono (by decide)) q17 (q00 (pv 1) (q00 (pv 2) (q00 q20 (q00 (pv 0) (q00 q20 q03))))))))))))) (fun _ _ _ _=>(pv 0))))
   (q04 (q18 (qi8 PySem.F.plainAttrs_list PySem.F.slot_list_append PySem.F.type_list_append q57 (pv 3) (q00 (q29 (N':=N_lb4) (fm:=[none,some 5,some 6]) rfl ⟨rfl,by decide +kernel,by decide +kernel,rfl,rfl,rfl⟩ (q35 (pv 2)) (fun _ _ _ _=>(q11 (i:=0) nd_lb4 rfl (Or.inl rfl))) (fun _ _ _ _=>(q63 (PW.pt (qw2 (q10 (r:=rIn K false) q92 (pv 0) (pv 1) (by rfl)) (qj8 (q10 (r:=rIn K false) q92 (pv 0) (pv 2) (by rfl))))))) (fun _ _ _ _=>(q84 (q00 (pv 0) (q00 (q58 (q10 (r:=rIn K false) q92 (pv 0) (pv 1) (by rfl)) q20 q20) q03))))) q03)))
   (q05 (qw4 (i:=2) (N':=N_lb5) (fm:=[none,some 5,some 6]) rfl sc_lb.nd rfl rfl ⟨rfl,by decide +kernel,by decide +kernel,rfl,rfl,rfl⟩ (q35 (pv 2)) (fun _ _ _ _=>(q11 (i:=0) nd_lb5 rfl (Or.inl rfl))) (fun _ _ _ _=>(q63 (PW.pt (qe0 (q10 (r:=rIn K true) qf8 (pv 0) (pv 1) (by rfl)) (qa6 (q10 (r:=rIn K true) qf8 (pv 0) (pv 2) (by rfl))))))) (fun _ _ _ _=>(pv 0)))))))))
   (q05 (q12 (pv 3))))),?_⟩
  refine ⟨_,rfl,_,rfl,by omega,by omega,fun p0 hp0=>?_⟩
  have en:((n:Nat):Int).toNat=n:=by omega
  rw [en]
  have tkr:∀ i,i < n->(List.range n)[i]? = some i:=fun i hi=>List.getElem?_range hi
  have opE:∀ q,(decide (rs≠[]) && (decide (0 < q65 rs q 121 q 121) && decide (0 < q65 rs q 110 q 110)))=opB rs q:=fun q=>by
   unfold opB
   by_cases e:rs=[]
   ·subst e; rfl
   ·rw [decide_eq_true e,Bool.true_and,Bool.and_comm]
  have left0:q32 rs n 0=(List.range n).filter (opB rs):=by
   unfold q32
   refine List.filter_congr fun r _=>?_
   rw [show (List.range 0).all (fun l=>!tgB rs l r)=true from rfl,Bool.and_true]
  refine q93 (fun i σ H2=>∃ v,σ=[v,some (.ref l)]/\Same H H2/\H2 p0=some (.lst ((((List.range n).take i).filter (opB rs)).map iN))) ⟨none,rfl,Same.new hp0,q01⟩ ?_ ?_
  ·rintro i σ H2 hi ⟨v,rfl,s2,e2⟩
   rw [Int.zero_add]
   have no:∀{H3:Hp},Same H2 H3->opB rs i=false->∃ v,[some (V.int i),some (V.ref l)]=[v,some (.ref l)]/\Same H H3/\H3 p0=some (.lst ((((List.range n).take (i + 1)).filter (opB rs)).map iN)):=fun s3 f=>by
    refine ⟨_,rfl,s2.trans' s3,?_⟩
    rw [q67 (tkr i hi),f]
    simpa using s3 _ _ e2
   refine ⟨_,rfl,Nat.zero_le _,fun pe hpe=>?_⟩
   have se:=Same.new (o:=.lst []) hpe
   refine ⟨l,pe,_,rfl,rfl,(s2.trans' se).seq hl,SqL.of q01,_,rfl,q77 (fun z0=>?_) (fun z0=>?_)⟩
   ·have z0:(!(rs.map V.str).isEmpty)=true:=z0
    have z0:rs≠[]:=fun e=>by subst e; cases z0
    refine ⟨_,rfl,_,rfl,_,rfl,l,n,rs,i,121,i,121,rfl,(s2.trans' se).seq hl,hrs,n12,hi,hi,_,rfl,?_⟩
    cases c1:decide (0 < q65 rs i 121 i 121) with
    | false=>exact q31 (q31 (no se (by rw [<- opE,c1,Bool.false_and,Bool.and_false])))
    | true =>
     refine q48 ⟨_,rfl,_,rfl,_,rfl,l,n,rs,i,110,i,110,rfl,(s2.trans' se).seq hl,hrs,n12,hi,hi,_,rfl,?_⟩
     cases c2:decide (0 < q65 rs i 110 i 110) with
     | false=>exact q31 (no se (by rw [<- opE,c1,c2]; simp))
     | true =>
      have o:opB rs i=true:=by rw [<- opE,c1,c2,decide_eq_true z0]; rfl
      refine q48 ⟨_,rfl,_,se _ _ e2,?_,_,rfl,Same.grow hp0 (s2.trans' se),?_⟩
      ·rw [List.length_map]
       have:=List.length_filter_le (opB rs) ((List.range n).take i)
       rw [List.length_take,List.length_range] at this
       exact Nat.lt_of_le_of_lt (show _<=12 by omega) (by decide)
      ·rw [q01,q67 (tkr i hi),o,if_pos rfl,List.map_append]
       rfl
   ·have z0:¬ (!(rs.map V.str).isEmpty)=true:=z0
    have z0:rs=[]:=by
     cases rs with
     | nil=>rfl
     | cons _ _=>exact absurd rfl z0
    exact q31 (no se (by rw [z0]; rfl))
  rintro σ H2 ⟨v,rfl,s2,e2⟩
  rw [show (List.range n).take n=List.range n from by rw [List.take_of_length_le]; rw [List.length_range]; exact Nat.le_refl _,<- left0] at e2
  refine ⟨Nat.zero_le _,fun pf hpf=>?_⟩
  have sf:=Same.new (o:=.lst []) hpf
  have pf0:H pf=none:=by
   cases z:H pf with
   | none=>rfl
   | some o=>rw [s2 _ _ z] at hpf; cases hpf
  refine ⟨fun m σ H3=>∃(k:Nat) (pl:Addr) (v4 v5 v6:Option V),σ=[some (.ref l),some (.int n),some (.ref pl),some (.ref pf),v4,v5,v6]/\k<=n/\pl≠pf/\Buns H pf H3 ((q74 rs k).map (bun rs n))/\H3 pl=some (.lst ((q32 rs n k).map iN))/\m=(q32 rs n k).length,⟨_,0,p0,none,none,none,rfl,Nat.zero_le _,(fun e=>by rw [<- e,e2] at hpf; cases hpf),⟨s2.trans' sf,pf0,[],q01,rfl,(fun _ h=>by cases h),fun _ _ _ h=>by cases h⟩,sf _ _ e2,rfl⟩,?_⟩
  rintro m σ H3 ⟨k',pl,v4,v5,v6,rfl,kn,npf,b3,e3,rfl⟩
  refine ⟨_,rfl,Nat.zero_le _,fun pe hpe=>?_⟩
  have se:=Same.new (o:=.lst []) hpe
  refine ⟨pl,pe,_,rfl,rfl,se.seq (SqL.of e3),SqL.of q01,_,rfl,q77 (fun z0=>?_) (fun z0=>?_)⟩
  case refine_2 =>
   have z0:¬ (!((q32 rs n k').map iN).isEmpty)=true:=z0
   have z0:q32 rs n k'=[]:=by
    cases z:q32 rs n k' with
    | nil=>rfl
    | cons _ _=>rw [z] at z0; exact absurd rfl z0
   have b4:=b3.mono se
   rw [<- qW3 hrs kn z0] at b4
   exact ⟨_,rfl,k pf _ b4⟩
  have b4:=b3.mono se
  have e4:=se _ _ e3
  generalize upd H3 pe (.lst [])=H4 at *
  cases z:q32 rs n k' with
  | nil=>rw [z] at z0; exact absurd z0 (by decide)
  | cons low qd9 =>
  obtain ⟨ln,kl,ll,ls,lf,lm⟩:=qW2 hrs kn z
  have L12:(q32 rs n k').length<=12:=by
   have:=List.length_filter_le (fun r=>opB rs r && (List.range k').all fun l=>!tgB rs l r) (List.range n)
   rw [List.length_range] at this
   exact Nat.le_trans this n12
  have L0:(q32 rs n k')[0]? = some low:=by rw [z]; rfl
  have dn:∀ c:Nat,(!decide (0 < c))=decide (c=0):=fun c=>by
   by_cases e:c=0
   ·rw [e]; rfl
   ·rw [decide_eq_true (show 0 < c by omega),decide_eq_false e]; rfl
  rw [<- z]
  refine ⟨fun σ' H'=>∃(pl:Addr) (v4 v5 v6:Option V),σ'=[some (.ref l),some (.int n),some (.ref pl),some (.ref pf),v4,v5,v6]/\pl≠pf/\Buns H pf H' ((q74 rs (low + 1)).map (bun rs n))/\H' pl=some (.lst ((q32 rs n (low + 1)).map iN)),?_,?_⟩
  ·rintro σ' H' ⟨pl',v4',v5',v6',rfl,np',b',e'⟩
   refine ⟨_,?_,low + 1,pl',v4',v5',v6',rfl,ln,np',b',e',rfl⟩
   rw [<- lf]
   refine List.length_filter_lt_length_iff_exists.mpr ⟨low,List.mem_of_getElem? L0,?_⟩
   rw [qY7 hrs ln]
   simp
  refine ⟨_,rfl,pl,_,_,_,rfl,rfl,SqL.of e4,(show atI _ ((0:Nat):Int)=some (iN low) from q46 (by rw [List.getElem?_map,L0]; rfl)),?_⟩
  refine ⟨_,rfl,pl,rfl,⟨_,SqL.of ((Same.refl H4) _ _ e4)⟩,fun pa hpa=>?_⟩
  refine q40 (K:=K) (a:=pl) (xs:=(q32 rs n k').map iN) (fun i σ H5=>∃ v,σ=[v,some (.ref l),some (.int low)]/\Same H4 H5/\H5 pa=some (.lst ((((q32 rs n k').take i).filter (akB rs low)).map iN))) ⟨none,rfl,Same.new hpa,q01⟩ (fun i σ H5 _ ⟨_,_,s5,_⟩=>SqL.of (s5 _ _ ((Same.refl H4) _ _ e4))) ?_ ?_
  ·rintro i y σ H5 hi ⟨v,rfl,s5,e5⟩
   rw [List.getElem?_map] at hi
   cases zi:(q32 rs n k')[i]? with
   | none=>rw [zi] at hi; cases hi
   | some q =>
    rw [zi] at hi
    cases hi
    have qn:=(left_mem.mp (List.mem_of_getElem? zi)).1
    have hl5:SqL K H5 l (rs.map V.str):=(b4.same.trans' ((Same.refl H4).trans' s5)).seq hl
    have no:akB rs low q=false->∃ v,[some (iN q),some (V.ref l),some (V.int low)]=[v,some (.ref l),some (.int low)]/\Same H4 H5/\H5 pa=some (.lst ((((q32 rs n k').take (i + 1)).filter (akB rs low)).map iN)):=fun f=>by
     refine ⟨_,rfl,s5,?_⟩
     rw [q67 zi,f]
     simpa using e5
    refine ⟨_,rfl,_,rfl,_,rfl,l,n,rs,low,121,q,110,rfl,hl5,hrs,n12,ln,qn,_,rfl,?_⟩
    cases c1:decide (0 < q65 rs low 121 q 110) with
    | true=>exact q31 (q31 (no (by unfold akB; rw [<- dn,<- dn,c1]; simp)))
    | false =>
     refine q48 ⟨_,rfl,_,rfl,_,rfl,l,n,rs,low,110,q,121,rfl,hl5,hrs,n12,ln,qn,_,rfl,?_⟩
     cases c2:decide (0 < q65 rs low 110 q 121) with
     | true=>exact q31 (no (by unfold akB; rw [<- dn,<- dn,c2]; simp))
     | false =>
      have o:akB rs low q=true:=by unfold akB; rw [<- dn,<- dn,c1,c2]; rfl
      refine q48 ⟨_,rfl,_,e5,?_,_,rfl,Same.grow hpa s5,?_⟩
      ·rw [List.length_map]
       have h1:=List.length_filter_le (akB rs low) ((q32 rs n k').take i)
       rw [List.length_take] at h1
       exact Nat.lt_of_le_of_lt (show _<=12 by omega) (by decide)
      ·rw [q01,q67 zi,o,if_pos rfl,List.map_append]
       rfl
  rintro σ HA ⟨v,rfl,sA,eA⟩
  rw [List.length_map,List.take_length] at eA
  refine ⟨_,rfl,pl,rfl,⟨_,SqL.of (sA _ _ e4)⟩,fun pb hpb=>?_⟩
  refine q40 (K:=K) (a:=pl) (xs:=(q32 rs n k').map iN) (fun i σ H5=>∃ v,σ=[v,some (.ref l),some (.int low)]/\Same HA H5/\H5 pb=some (.lst ((((q32 rs n k').take i).filter (apB rs low)).map iN))) ⟨none,rfl,Same.new hpb,q01⟩ (fun i σ H5 _ ⟨_,_,s5,_⟩=>SqL.of (s5 _ _ (sA _ _ e4))) ?_ ?_
  ·rintro i y σ H5 hi ⟨v,rfl,s5,e5⟩
   rw [List.getElem?_map] at hi
   cases zi:(q32 rs n k')[i]? with
   | none=>rw [zi] at hi; cases hi
   | some q =>
    rw [zi] at hi
    cases hi
    have qn:=(left_mem.mp (List.mem_of_getElem? zi)).1
    have hl5:SqL K H5 l (rs.map V.str):=(b4.same.trans' (sA.trans' s5)).seq hl
    have no:apB rs low q=false->∃ v,[some (iN q),some (V.ref l),some (V.int low)]=[v,some (.ref l),some (.int low)]/\Same HA H5/\H5 pb=some (.lst ((((q32 rs n k').take (i + 1)).filter (apB rs low)).map iN)):=fun f=>by
     refine ⟨_,rfl,s5,?_⟩
     rw [q67 zi,f]
     simpa using e5
    refine ⟨_,rfl,_,rfl,_,rfl,l,n,rs,low,121,q,121,rfl,hl5,hrs,n12,ln,qn,_,rfl,?_⟩
    cases c1:decide (0 < q65 rs low 121 q 121) with
    | true=>exact q31 (q31 (no (by unfold apB; rw [<- dn,<- dn,c1]; simp)))
    | false =>
     refine q48 ⟨_,rfl,_,rfl,_,rfl,l,n,rs,low,110,q,110,rfl,hl5,hrs,n12,ln,qn,_,rfl,?_⟩
     cases c2:decide (0 < q65 rs low 110 q 110) with
     | true=>exact q31 (no (by unfold apB; rw [<- dn,<- dn,c2]; simp))
     | false =>
      have o:apB rs low q=true:=by unfold apB; rw [<- dn,<- dn,c1,c2]; rfl
      refine q48 ⟨_,rfl,_,e5,?_,_,rfl,Same.grow hpb s5,?_⟩
      ·rw [List.length_map]
       have h1:=List.length_filter_le (apB rs low) ((q32 rs n k').take i)
       rw [List.length_take] at h1
       exact Nat.lt_of_le_of_lt (show _<=12 by omega) (by decide)
      ·rw [q01,q67 zi,o,if_pos rfl,List.map_append]
       rfl
  rintro σ HB ⟨v,rfl,sB,eB⟩
  rw [List.length_map,List.take_length] at eB
  have eA:=sB _ _ eA
  have b5:=b4.mono (sA.trans' sB)
  have e5:=(sA.trans' sB) _ _ e4
  obtain ⟨bs,ef,bl,_⟩:=b5.at_
  have inA:∀ q,q∈q32 rs n k'->inV (iN q) (((q32 rs n k').filter (akB rs low)).map iN)=akB rs low q:=fun q hq=>by
   rw [in_iN,Bool.eq_iff_iff,decide_eq_true_iff,List.mem_filter]
   exact ⟨fun h=>h.2,fun h=>⟨hq,h⟩⟩
  have inB:∀ q,q∈q32 rs n k'->inV (iN q) (((q32 rs n k').filter (apB rs low)).map iN)=apB rs low q:=fun q hq=>by
   rw [in_iN,Bool.eq_iff_iff,decide_eq_true_iff,List.mem_filter]
   exact ⟨fun h=>h.2,fun h=>⟨hq,h⟩⟩
  refine ⟨_,rfl,.inl ⟨rfl,_,SqL.of ef⟩,?_⟩
  refine ⟨_,rfl,pl,rfl,⟨_,SqL.of e5⟩,fun pq hpq=>?_⟩
  refine q40 (K:=K) (a:=pl) (xs:=(q32 rs n k').map iN) (fun i σ H6=>∃ v,σ=[v,some (.ref pa),some (.ref pb)]/\Acc HB pq H6 ((((q32 rs n k').take i).filterMap (qj2 rs low)).map skP)) ⟨none,rfl,Same.new hpq,[],q01,.nil⟩ (fun i σ H6 _ ⟨_,_,a6⟩=>SqL.of (a6.same _ _ e5)) ?_ ?_
  ·rintro i y σ H6 hi ⟨v,rfl,a6⟩
   rw [List.getElem?_map] at hi
   cases zi:(q32 rs n k')[i]? with
   | none=>rw [zi] at hi; cases hi
   | some q =>
    rw [zi] at hi
    cases hi
    have qL:=List.mem_of_getElem? zi
    have sn:(((q32 rs n k').take (i + 1)).filterMap (qj2 rs low)).map skP=(((q32 rs n k').take i).filterMap (qj2 rs low)).map skP ++ ((qj2 rs low q).toList.map skP):=by
     rw [List.take_add_one,zi,List.filterMap_append,List.map_append]
     congr 1
    have fl:((((q32 rs n k').take i).filterMap (qj2 rs low)).map skP).length<=12:=by
     rw [List.length_map]
     have h1:=List.length_filterMap_le (qj2 rs low) ((q32 rs n k').take i)
     rw [List.length_take] at h1
     omega
    refine ⟨_,rfl,_,rfl,pa,_,rfl,.inl (SqL.of (a6.same _ _ eA)),rfl,qj1 _,_,rfl,?_⟩
    show if inV (iN q) _=true then _ else _
    rw [inA q qL]
    cases c1:akB rs low q with
    | true =>
     have eb:qj2 rs low q=some (q,121):=by unfold qj2 alO; rw [c1]; rfl
     refine q48 (q48 ⟨_,rfl,_,rfl,_,rfl,pa,_,rfl,.inl (SqL.of (a6.same _ _ eA)),rfl,qj1 _,_,rfl,?_⟩)
     show if inV (iN q) _=true then _ else _
     rw [inA q qL,c1]
     refine q48 ⟨q22 (show 2<=100 by decide),fun T hT=>?_⟩
     obtain ⟨ys,e1,l1,a7⟩:=a6.put (k:=skP (q,121)) hpq (Same.refl _) hT
     refine ⟨ys,e1,by rw [l1]; exact Nat.lt_of_le_of_lt fl (by decide),_,rfl,?_⟩
     rw [sn,eb]
     exact a7
    | false =>
     refine q31 ⟨_,rfl,_,rfl,pb,_,rfl,.inl (SqL.of (a6.same _ _ eB)),rfl,qj1 _,_,rfl,?_⟩
     show if inV (iN q) _=true then _ else _
     rw [inB q qL]
     cases c2:apB rs low q with
     | true =>
      have eb:qj2 rs low q=some (q,110):=by unfold qj2 alO; rw [c1,c2]; rfl
      refine q48 ⟨_,rfl,_,rfl,_,rfl,pa,_,rfl,.inl (SqL.of (a6.same _ _ eA)),rfl,qj1 _,_,rfl,?_⟩
      show if inV (iN q) _=true then _ else _
      rw [inA q qL,c1]
      refine q31 ⟨q22 (show 2<=100 by decide),fun T hT=>?_⟩
      obtain ⟨ys,e1,l1,a7⟩:=a6.put (k:=skP (q,110)) hpq (Same.refl _) hT
      refine ⟨ys,e1,by rw [l1]; exact Nat.lt_of_le_of_lt fl (by decide),_,rfl,?_⟩
      rw [sn,eb]
      exact a7
     | false =>
      have eb:qj2 rs low q=none:=by unfold qj2 alO; rw [c1,c2]; rfl
      refine q31 ⟨_,rfl,?_⟩
      rw [sn,eb]
      simpa using a6
  rintro σ H6 ⟨v,rfl,a6⟩
  rw [List.length_map,List.take_length,lm] at a6
  obtain ⟨bs',ef',bl',b7⟩:=b5.put hpq a6
  refine ⟨pf,_,_,rfl,rfl,ef',?_,?_⟩
  ·rw [List.length_map,bl',List.length_map]
   have:=q99 rs k'
   exact Nat.lt_of_le_of_lt (show _<=12 by omega) (by decide)
  have keep:∀{b:Addr} {xs:List V},b≠pf->HB b=some (.lst xs)->upd H6 pf (.lst (bs'.map V.ref ++ [.ref pq])) b=some (.lst xs):=fun nb e=>by rw [q08 nb]; exact a6.same _ _ e
  have npa:pa≠pf:=fun e=>by
   obtain ⟨_,e',_⟩:=b4.at_
   rw [e,e'] at hpa
   cases hpa
  have npb:pb≠pf:=fun e=>by
   obtain ⟨_,e',_⟩:=(b4.mono sA).at_
   rw [e,e'] at hpb
   cases hpb
  have e7:=keep npf e5
  have A7:=keep npa eA
  have B7:=keep npb eB
  have f7:∃ ys,upd H6 pf (.lst (bs'.map V.ref ++ [.ref pq])) pf=some (.lst ys):=⟨_,q01⟩
  generalize upd H6 pf (.lst (bs'.map V.ref ++ [.ref pq]))=H7 at *
  refine ⟨_,rfl,pl,rfl,⟨_,SqL.of e7⟩,fun pn hpn=>?_⟩
  refine q40 (K:=K) (a:=pl) (xs:=(q32 rs n k').map iN) (fun i σ H8=>∃ v,σ=[v,some (.ref pa),some (.ref pb)]/\Same H7 H8/\H8 pn=some (.lst ((((q32 rs n k').take i).filter fun q=>!akB rs low q && !apB rs low q).map iN))) ⟨none,rfl,Same.new hpn,q01⟩ (fun i σ H8 _ ⟨_,_,s8,_⟩=>SqL.of (s8 _ _ e7)) ?_ ?_
  ·rintro i y σ H8 hi ⟨v,rfl,s8,e8⟩
   rw [List.getElem?_map] at hi
   cases zi:(q32 rs n k')[i]? with
   | none=>rw [zi] at hi; cases hi
   | some q =>
    rw [zi] at hi
    cases hi
    have qL:=List.mem_of_getElem? zi
    have no:(!akB rs low q && !apB rs low q)=false->∃ v,[some (iN q),some (V.ref pa),some (V.ref pb)]=[v,some (.ref pa),some (.ref pb)]/\Same H7 H8/\H8 pn=some (.lst ((((q32 rs n k').take (i + 1)).filter fun q=>!akB rs low q && !apB rs low q).map iN)):=fun f=>by
     refine ⟨_,rfl,s8,?_⟩
     rw [q67 zi,f]
     simpa using e8
    refine ⟨_,rfl,_,rfl,pa,_,rfl,.inl (SqL.of (s8 _ _ A7)),rfl,qj1 _,_,rfl,?_⟩
    show if (!inV (iN q) _)=true then _ else _
    rw [inA q qL]
    cases c1:akB rs low q with
    | true=>exact q31 (q31 (no (by rw [c1]; rfl)))
    | false =>
     refine q48 ⟨_,rfl,_,rfl,pb,_,rfl,.inl (SqL.of (s8 _ _ B7)),rfl,qj1 _,_,rfl,?_⟩
     show if (!inV (iN q) _)=true then _ else _
     rw [inB q qL]
     cases c2:apB rs low q with
     | true=>exact q31 (no (by rw [c1,c2]; rfl))
     | false =>
      refine q48 ⟨_,rfl,_,e8,?_,_,rfl,Same.grow hpn s8,?_⟩
      ·rw [List.length_map]
       have h1:=List.length_filter_le (fun q=>!akB rs low q && !apB rs low q) ((q32 rs n k').take i)
       rw [List.length_take] at h1
       exact Nat.lt_of_le_of_lt (show _<=12 by omega) (by decide)
      ·rw [q01,q67 zi,c1,c2,List.map_append]
       rfl
  rintro σ H8 ⟨v,rfl,s8,e8⟩
  rw [List.length_map,List.take_length,lf] at e8
  refine ⟨pn,_,_,_,rfl,fun e=>?_,?_,e8⟩
  ·obtain ⟨ys,e'⟩:=f7
   rw [e,e'] at hpn
   cases hpn
  ·rw [ls,List.map_append]
   exact b7.mono s8
end
end K67
namespace K67
open PySem L2
open PyProof.Rows (envOfC)
abbrev qq0:Stmt:=top 77
section
variable {P:Program}{w:World}{K:PySem.W.Frag}{mg:Str->Option Value}{base:Heap}{C fi fa ft fy fm fc:Addr}{gi ga gt gy gm gc:FuncData}{W BC BS fW fC fS:Addr}{gW gC gS:FuncData}
abbrev Nw:List Str:=["_law_asked_here", "e"]
theorem sc_word:FnScope Nw ["_law_asked_here"] (q02 qq0):=⟨rfl,rfl,rfl,by decide +kernel,rfl,by decide +kernel,by decide +kernel⟩
theorem ok_word {fw f:Addr}{gw fdl:FuncData}{k:Nat}{spl:Sp}(D:Df K mg "_law_word" qq0 ["_law_asked_here"] fw gw) (T:Xs K mg W BC BS fW fC fS gW gC gS) (ho:base.get? f=some { cls:=.type "function",data:=.func fdl }) (hb:Binds K fdl [] [])
  (G:FnOk P w K mg base (CXE P w) k f fdl [] spl):FnOk P w K mg base (CXE P w) (k + 1) fw gw ["_law_asked_here"] (z93 K W f spl):=by
 refine D.F.okN sc_word (fun vs H Q E h=>?_) (fun cdv A outer s H vs Q E hr h=>?_)
 ·obtain ⟨rfl,_⟩:=h
  rfl
 ·obtain ⟨rfl,h⟩:=h
  refine ⟨_,q05 (ps_try (i:=1) (th:=tRet (tTup (qn5 (tXGet K (qO9 1) "word") tNil))) (Eh:=wordE K W Q) (W:=W) rfl rfl sc_word.nd rfl rfl (by rfl) T.mW T.kW
   (fun pins Ey hp=>q05 (q12 (q84 (q00 q20 (q00 (z35 (i:=0) G hr ho hb hp rfl (Or.inl rfl)) q03)))))
   (fun ea=>by exact q05 (q12 (q84 (q00 (pe_xget (pv 1)) q03))))),?_⟩
  refine ⟨⟨rfl,h⟩,fun C dx H0 ea T' H' he sx n0 ex=>?_⟩
  obtain ⟨Ca,dx',ww,e1,e2,e3,xs,xk,kk⟩:=he
  cases e1
  cases e2
  have ne:dx≠ea:=q19 e3 n0
  refine ⟨xs,_,rfl,ea,C,dx,_,_,.str ww,rfl,ex,sx dx _ ne e3,rfl,xk,xk.nw,q22 (show 1<=100 by decide),fun r hr'=>?_⟩
  exact kk H' r (fun b o e=>sx b o (q19 e n0) e) hr'
end
end K67
namespace K67
open PySem L2
open PyProof.Rows (envOfC)
abbrev qi3:Stmt:=top 22
abbrev qb2:Stmt:=top 28
abbrev qb5:Stmt:=top 37
abbrev qe9:Stmt:=top 50
def qv6 (qs:List Nat) (x:Str) (i:Nat):Nat:=if i∈qs then qF0 (ch x i) else ch x i
def qe3 (n:Nat) (qs:List Nat) (x:Str):Str:=tx n (qv6 qs x)
theorem not_sgn {c:Nat}(h:c=121∨c=110):qF0 c=121∨qF0 c=110:=by
 rcases h with rfl | rfl
 ·exact .inr rfl
 ·exact .inl rfl
theorem qg6 {n:Nat}{qs:List Nat}{x:Str}(h:Row n x):Row n (qe3 n qs x):=by
 refine ⟨q60 _ _,fun i hi=>?_⟩
 unfold qe3
 rw [q55 hi]
 unfold qv6
 split
 ·exact not_sgn (h.bin i hi)
 ·exact h.bin i hi
def q98 (rs:List Str) (n:Nat) (z:Str):Bool:=(pgM rs 0 (q78 z n)).isEmpty
def nbL (rs:List Str) (n:Nat) (x:Str):List Str:=((bnl rs n).map fun ks=>qe3 n (ks.map (·.1)) x).filter (q98 rs n)
theorem nbL_len (rs:List Str) (n:Nat) (x:Str):(nbL rs n x).length<=n:=by
 unfold nbL
 refine Nat.le_trans (List.length_filter_le _ _) ?_
 rw [List.length_map]
 unfold bnl
 rw [List.length_map]
 exact q99 rs n
section
variable {P:Program}{w:World}{K:PySem.W.Frag}{mg:Str->Option Value}{base:Heap}{C fi fa ft fy fm fc:Addr}{gi ga gt gy gm gc:FuncData}{W BC BS fW fC fS:Addr}{gW gC gS:FuncData}
def qP8:Sp:=fun vs H Q _=>∃ a:Nat,vs=[s1 a]/\qY9 a/\Q (s1 (qF0 a)) H
abbrev N_ot:List Str:=["sign"]
abbrev P_ot:List Str:=["sign"]
theorem sc_ot:FnScope N_ot P_ot (q02 qi3):=⟨rfl,rfl,rfl,by decide +kernel,rfl,by decide +kernel,by decide +kernel⟩
theorem qx0 {f fs:Addr}{fd gs:FuncData}(D:Df K mg "other" qi3 P_ot f fd) (Ds:Df K mg "check_sign" qf4 ["sign"] fs gs):FnOk P w K mg base (CXE P w) 2 f fd P_ot qP8:=by
 refine D.F.okN sc_ot (fun vs H Q E h=>?_) (fun cdv A outer s H vs Q E hr h=>?_)
 ·obtain ⟨a,rfl,_⟩:=h
  rfl
 ·obtain ⟨a,rfl,ha,k⟩:=h
  refine ⟨_,q04 (q18 (q14 Ds (qx1 Ds) (hr.mono (by decide)) q17 (q00 (pv 0) q03)))
   (q05 (q12 (q58 (q10 q37 (pv 0) q20 (q13 _)) q20 q20))),?_⟩
  refine ⟨_,rfl,a,rfl,ha,_,rfl,rfl,_,rfl,q77 (fun c=>?_) (fun c=>?_)⟩
  ·have c:decide (s1 a=s1 121)=true:=c
   rw [q68] at c
   have c:a=121:=by simpa using c
   rw [c] at k
   exact k
  ·have c:¬ decide (s1 a=s1 121)=true:=c
   rw [q68] at c
   have c:¬ a=121:=by simpa using c
   have e:qF0 a=121:=if_neg c
   rw [e] at k
   exact k
def qv9 (K:PySem.W.Frag):Sp:=fun vs H Q _=>∃(l:Addr) (n:Nat) (qs:List Nat) (x:Str),vs=[.str x,.ref l]/\Row n x/\n<=12/\SqL K H l (qs.map iN)/\∀ H',Same H H'->Q (.str (qe3 n qs x)) H'
abbrev N_tu:List Str:=["row", "questions"]
abbrev P_tu:List Str:=["row", "questions"]
theorem sc_tu:FnScope N_tu P_tu (q02 qb2):=⟨rfl,rfl,rfl,by decide +kernel,rfl,by decide +kernel,by decide +kernel⟩
abbrev N_tu1:List Str:=["at", "sign", "questions"]
theorem za8:N_tu1.Nodup:=by decide +kernel
theorem qr3 {f fo:Addr}{fd go:FuncData}(D:Df K mg "turned" qb2 P_tu f fd) (Do:Df K mg "other" qi3 P_ot fo go) (Go:FnOk P w K mg base (CXE P w) 2 fo go P_ot qP8) (M:Gm mg):FnOk P w K mg base (CXE P w) 3 f fd P_tu (qv9 K):=by
 refine D.F.okN sc_tu (fun vs H Q E h=>?_) (fun cdv A outer s H vs Q E hr h=>?_)
 ·obtain ⟨l,n,qs,x,rfl,_⟩:=h
  rfl
 ·obtain ⟨l,n,qs,x,rfl,hx,n12,hl,k⟩:=h
  refine ⟨_,q05 (q12 (qi8 PySem.F.plainAttrs_str PySem.F.slot_str_join PySem.F.type_str_join qx4 q20 (q00 (q29 (g:=(qD5 K 2 (q64 (q54 0) (q64 (q54 1) qD6)))) (N':=N_tu1) (fm:=[none,none,some 1]) rfl ⟨rfl,by decide +kernel,by decide +kernel,rfl,rfl,rfl⟩ (ql7 (by rfl) M.enum (q00 (pv 0) q03)) (fun _ _ _ _=>(qa8 rfl (q23 (q11 (i:=0) za8 rfl (Or.inl rfl)) (q23 (q11 (i:=1) za8 rfl (Or.inl rfl)) q72)))) (fun _ _ _ _=>q42) (fun _ _ _ _=>(q58 (q10 (r:=rIn K false) q92 (pv 0) (pv 2) (by rfl)) (q14 Do Go (hr.mono (by decide)) q17 (q00 (pv 1) q03)) (pv 1)))) q03))),?_⟩
  refine ⟨rfl,_,rfl,x,rfl,fun p hp=>?_⟩
  refine qp0 (fun i σ H2=>∃ v0 v1,σ=[v0,v1,some (.ref l)]/\Same H H2/\H2 p=some (.lst ((List.range i).map fun j=>s1 (qv6 qs x j)))) ⟨none,none,rfl,Same.new hp,q01⟩ ?_ ?_
  ·rintro i T σ H2 hi hT ⟨v0,v1,rfl,s2,e2⟩
   rw [hx.len] at hi
   have sT:=Same.new (o:=.tup [.int i,sg x i]) hT
   have fin:∀ a:Nat,a=qv6 qs x i->∃ ys,upd H2 T (.tup [.int i,sg x i]) p=some (.lst ys)/\ys.length < sizeLine/\∃ v0 v1,[some (V.int i),some (sg x i),some (V.ref l)]=[v0,v1,some (.ref l)]/\Same H (upd (upd H2 T (.tup [.int i,sg x i])) p (.lst (ys ++ [s1 a])))/\upd (upd H2 T (.tup [.int i,sg x i])) p (.lst (ys ++ [s1 a])) p=some (.lst ((List.range (i + 1)).map fun j=>s1 (qv6 qs x j))):=fun a e=>by
    refine ⟨_,sT _ _ e2,q41 _ _ (by omega),_,_,rfl,Same.grow hp (s2.trans' sT),?_⟩
    rw [q01,<- q90,e]
   refine ⟨T,_,rfl,SqT.of q01,rfl,_,_,rfl,_,_,rfl,rfl,q48 (B:=True) ?_⟩
   refine ⟨_,rfl,_,rfl,l,_,rfl,.inl ((s2.trans' sT).seq hl),rfl,qj1 _,_,rfl,?_⟩
   show if inV (iN i) _=true then _ else _
   rw [in_iN]
   by_cases c:i∈qs
   ·rw [decide_eq_true c]
    refine q48 ⟨_,rfl,ch x i,rfl,hx.bin i hi,?_⟩
    exact fin _ (by unfold qv6; rw [if_pos c])
   ·rw [decide_eq_false c]
    refine q31 ⟨_,rfl,?_⟩
    exact fin (ch x i) (by unfold qv6; rw [if_neg c])
  ·rintro σ H2 ⟨v0,v1,rfl,s2,e2⟩
   rw [hx.len] at e2
   refine ⟨_,p,(List.range n).map fun j=>(⟨#[qv6 qs x j]⟩:Str),rfl,rfl,?_,by decide,?_,?_⟩
   ·rw [List.map_map]
    exact SqL.of e2
   ·rw [qx9,List.length_map,List.length_range]; omega
   ·rw [qv4]
    exact k H2 s2
def qm6 (C BC BS:Addr):Sp:=fun vs H Q E=>∃(t dx kp bt:Addr) (n m:Nat) (rs:List Str) (x:Str),vs=[.ref t,.str x]/\TabAt C H t dx kp bt n m rs/\x.length<=100/\1<=n/\n<=12 /\
 (¬ Row n x->Ref H E BS "bad row")/\(Row n x->q98 rs n x=false->Ref H E BC "not borne")/\(Row n x->q98 rs n x=true->∀ H',Same H H'->Q .non H')
abbrev N_ck:List Str:=["table", "row"]
abbrev qD4:List Str:=["table", "row"]
theorem sc_ck:FnScope N_ck qD4 (q02 qb5):=⟨rfl,rfl,rfl,by decide +kernel,rfl,by decide +kernel,by decide +kernel⟩
theorem qg1 {f fk:Addr}{fd gk:FuncData}(D:Df K mg "check_ruling" qb5 qD4 f fd) (Dk:Df K mg "lacks" qf0 Plk fk gk) (Gk:FnOk P w K mg base (CXE P w) 6 fk gk Plk (qE0 C BS)) (X:Xs K mg W BC BS fW fC fS gW gC gS):FnOk P w K mg base (CXE P w) 7 f fd qD4 (qm6 C BC BS):=by
 refine D.F.okE sc_ck (fun vs H Q E h=>?_) (fun cdv A outer s H vs Q E hr h=>?_)
 ·obtain ⟨t,dx,kp,bt,n,m,rs,x,rfl,_⟩:=h
  rfl
 ·obtain ⟨t,dx,kp,bt,n,m,rs,x,rfl,tab,hx,n1,n12,k1,k2,k3⟩:=h
  refine ⟨_,q05 (q30 (qo4 (q14 Dk Gk (hr.mono (by decide)) q43 (q00 (pv 0) (q00 (pv 1) q03))) (fun _=>rfl)) (q05 (qg8 rfl q43 (qb6 X.kC X.iC (z52 X) (hr.mono (by decide)) (by rfl) X.mC X.bC q43))) q16),?_⟩
  refine ⟨_,rfl,_,rfl,t,dx,kp,bt,n,m,rs,x,rfl,tab,hx,n1,n12,k1,fun hr' p H1 hp a1=>?_⟩
  obtain ⟨s1',as,e1,t1⟩:=a1
  cases z:pgM rs 0 (q78 x n) with
  | nil =>
   rw [z] at t1
   have:as=[]:=List.length_eq_zero_iff.mp t1.1
   subst this
   exact ⟨false,.inl ⟨_,SqL.of e1,rfl⟩,q31 (k3 hr' (by unfold q98; rw [z]; rfl) H1 s1')⟩
  | cons k0 kt =>
   rw [z] at t1
   cases as with
   | nil=>exact absurd t1.1 (by simp)
   | cons a0 at' =>
    exact ⟨true,.inl ⟨_,SqL.of e1,rfl⟩,q48 fun ea he=>((k2 hr' (by unfold q98; rw [z]; rfl)).same s1').raise X.kC he⟩
def qD9 (C BC BS:Addr):Sp:=fun vs H Q E=>∃(t dx kp bt:Addr) (n m:Nat) (rs:List Str) (x:Str),vs=[.ref t,.str x]/\TabAt C H t dx kp bt n m rs/\(∀ x∈rs,Row n x)/\x.length<=100/\1<=n/\n<=12 /\
 (¬ Row n x->Ref H E BS "bad row")/\(Row n x->q98 rs n x=false->Ref H E BC "not borne")/\(Row n x->q98 rs n x=true->∀ p H',H p=none->Same H H'->H' p=some (.lst ((nbL rs n x).map V.str))->Q (.ref p) H')
abbrev N_ng:List Str:=["table", "row", "near"]
abbrev P_ng:List Str:=["table", "row"]
theorem sc_ng:FnScope N_ng P_ng (q02 qe9):=⟨rfl,rfl,rfl,by decide +kernel,rfl,by decide +kernel,by decide +kernel⟩
abbrev N_ng1:List Str:=["bundle", "row"]
theorem nd_ng1:N_ng1.Nodup:=by decide +kernel
abbrev N_ng2:List Str:=["question", "sign"]
theorem za9:N_ng2.Nodup:=by decide +kernel
abbrev N_ng3:List Str:=["told", "table"]
theorem nd_ng3:N_ng3.Nodup:=by decide +kernel
theorem qI4 {f fk fc' fb fu:Addr}{fd gk gc' gb gu:FuncData}(D:Df K mg "neighbours" qe9 P_ng f fd) (Dk:Df K mg "lacks" qf0 Plk fk gk) (Gk:FnOk P w K mg base (CXE P w) 6 fk gk Plk (qE0 C BS)) (Dc:Df K mg "check_ruling" qb5 qD4 fc' gc') (Gc:FnOk P w K mg base (CXE P w) 7 fc' gc' qD4 (qm6 C BC BS))
  (Db:Df K mg "bundles" q81 ["table"] fb gb) (Gb:FnOk P w K mg base (CXE P w) 6 fb gb ["table"] (qp7 C)) (Du:Df K mg "turned" qb2 P_tu fu gu) (Gu:FnOk P w K mg base (CXE P w) 3 fu gu P_tu (qv9 K)):FnOk P w K mg base (CXE P w) 8 f fd P_ng (qD9 C BC BS):=by
 refine D.F.okE sc_ng (fun vs H Q E h=>?_) (fun cdv A outer s H vs Q E hr h=>?_)
 ·obtain ⟨t,dx,kp,bt,n,m,rs,x,rfl,_⟩:=h
  rfl
 ·obtain ⟨t,dx,kp,bt,n,m,rs,x,rfl,tab,hrs,hx,n1,n12,k1,k2,k3⟩:=h
  refine ⟨_,q04 (q18 (q14 Dc Gc (hr.mono (by decide)) q43 (q00 (pv 0) (q00 (pv 1) q03))))
   (PSs.nox (q04 (qw4 (i:=2) (N':=N_ng1) (fm:=[none,some 1]) rfl sc_ng.nd rfl rfl ⟨rfl,by decide +kernel,by decide +kernel,rfl,rfl,rfl⟩ (q35 (q14 Db Gb (hr.mono (by decide)) q17 (q00 (pv 0) q03))) (fun _ _ _ _=>(q11 (i:=0) nd_ng1 rfl (Or.inl rfl))) (fun _ _ _ _=>q42) (fun _ _ _ _=>(q14 Du Gu (hr.mono (by decide)) q17 (q00 (pv 1) (q00 (q29 (g:=(qD5 K 2 (q64 (q54 0) (q64 (q54 1) qD6)))) (wi:=iList K (qO9 0)) (N':=N_ng2) (fm:=[none,none]) rfl ⟨rfl,by decide +kernel,by decide +kernel,rfl,rfl,rfl⟩ (q35 (pv 0)) (fun _ _ _ _=>(qa8 rfl (q23 (q11 (i:=0) za9 rfl (Or.inl rfl)) (q23 (q11 (i:=1) za9 rfl (Or.inl rfl)) q72)))) (fun _ _ _ _=>q42) (fun _ _ _ _=>(pv 0))) q03)))))
   (q05 (q12 (q29 (N':=N_ng3) (fm:=[none,some 0]) rfl ⟨rfl,by decide +kernel,by decide +kernel,rfl,rfl,rfl⟩ (q35 (pv 2)) (fun _ _ _ _=>(q11 (i:=0) nd_ng3 rfl (Or.inl rfl))) (fun _ _ _ _=>(q63 (qa7 (qS1 (K:=K) rfl (q14 Dk Gk (hr.mono (by decide)) q17 (q00 (pv 1) (q00 (pv 0) q03))) (fun _=>rfl))))) (fun _ _ _ _=>(pv 0))))))),?_⟩
  refine ⟨_,rfl,_,rfl,t,dx,kp,bt,n,m,rs,x,rfl,tab,hx,n1,n12,k1,k2,fun hr' hf H1 s1'=>?_⟩
  have k3:=k3 hr' hf
  refine ⟨_,rfl,t,dx,kp,bt,n,m,rs,rfl,tab.mono s1',hrs,n1,n12,fun q H2 b2=>?_⟩
  obtain ⟨bs,e2,l2,f2,g2⟩:=b2.at_
  refine ⟨q,rfl,⟨_,SqL.of e2⟩,fun p hp=>?_⟩
  have bl:(bnl rs n).length<=12:=by unfold bnl; rw [List.length_map]; exact Nat.le_trans (q99 rs n) n12
  refine q40 (K:=K) (a:=q) (xs:=bs.map V.ref) (fun i σ H3=>∃ v,σ=[v,some (.str x)]/\Same H2 H3/\H3 p=some (.lst ((((bnl rs n).take i).map fun ks=>qe3 n (ks.map (·.1)) x).map V.str))) ⟨none,rfl,Same.new hp,q01⟩ (fun i σ H3 _ ⟨_,_,s3,_⟩=>SqL.of (s3 _ _ e2)) ?_ ?_
  ·rintro i y σ H3 hi ⟨v,rfl,s3,e3⟩
   rw [List.getElem?_map] at hi
   cases z:bs[i]? with
   | none=>rw [z] at hi; cases hi
   | some b =>
    rw [z] at hi
    cases hi
    have il:=(List.getElem?_eq_some_iff.mp z).1
    have zk:(bnl rs n)[i]? = some (bnl rs n)[i]:=List.getElem?_eq_getElem (by omega)
    generalize (bnl rs n)[i]=ks at *
    obtain ⟨as,ea,ta⟩:=g2 i b ks z zk
    have kl:ks.length<=12:=by
     obtain ⟨lo,_,rfl⟩:=List.mem_map.mp (List.mem_of_getElem? zk)
     exact Nat.le_trans (qY3 rs n lo) n12
    refine q53 ⟨_,rfl,_,rfl,b,rfl,⟨_,SqL.of (s3 _ _ ea)⟩,fun pq hpq=>?_⟩
    refine q40 (K:=K) (a:=b) (xs:=as.map V.ref) (fun j σ H4=>∃ v0 v1,σ=[v0,v1]/\Same H3 H4/\H4 pq=some (.lst (((ks.take j).map (·.1)).map iN))) ⟨none,none,rfl,Same.new hpq,q01⟩ (fun j σ H4 _ ⟨_,_,_,s4,_⟩=>SqL.of (s4 _ _ (s3 _ _ ea))) ?_ ?_
    ·rintro j y σ H4 hj ⟨v0,v1,rfl,s4,e4⟩
     obtain ⟨r1,k1',rfl,ek,er⟩:=(ta.mono (s3.trans' s4)).item hj
     rw [List.getElem?_map] at ek
     cases zj:ks[j]? with
     | none=>rw [zj] at ek; cases ek
     | some pr =>
      rw [zj] at ek
      cases ek
      refine qj4 er ⟨_,rfl,_,e4,?_,_,_,rfl,Same.grow hpq s4,?_⟩
      ·rw [List.length_map,List.length_map,List.length_take]
       exact Nat.lt_of_le_of_lt (show _<=12 by omega) (by decide)
      ·rw [q01,List.take_add_one,zj,List.map_append,List.map_append]
       rfl
    ·rintro σ H4 ⟨v0,v1,rfl,s4,e4⟩
     have lk:(as.map V.ref).length=ks.length:=by rw [List.length_map,ta.1,List.length_map]
     rw [lk,List.take_length] at e4
     refine ⟨pq,n,ks.map (·.1),x,rfl,hr',n12,SqL.of e4,fun H5 s5=>?_⟩
     have s35:=s4.trans' s5
     refine ⟨_,s35 _ _ e3,?_,_,rfl,Same.grow hp (s3.trans' s35),?_⟩
     ·rw [List.length_map,List.length_map,List.length_take]
      exact Nat.lt_of_le_of_lt (show _<=12 by omega) (by decide)
     ·rw [q01,List.take_add_one,zk,List.map_append,List.map_append]
      rfl
  rintro σ H3 ⟨v,rfl,s3,e3⟩
  rw [List.length_map,l2,List.take_length] at e3
  have s03:=s1'.trans' (b2.same.trans' s3)
  refine ⟨_,rfl,p,rfl,⟨_,SqL.of e3⟩,fun pr hpr=>?_⟩
  have nl:((bnl rs n).map fun ks=>qe3 n (ks.map (·.1)) x).length<=12:=by rw [List.length_map]; exact bl
  refine q40 (K:=K) (a:=p) (xs:=((bnl rs n).map fun ks=>qe3 n (ks.map (·.1)) x).map V.str) (fun i σ H4=>∃ v,σ=[v,some (.ref t)]/\Same H3 H4/\H4 pr=some (.lst (((((bnl rs n).map fun ks=>qe3 n (ks.map (·.1)) x).take i).filter (q98 rs n)).map V.str))) ⟨none,rfl,Same.new hpr,q01⟩ (fun i σ H4 _ ⟨_,_,s4,_⟩=>SqL.of (s4 _ _ e3)) ?_ ?_
  ·rintro i y σ H4 hi ⟨v,rfl,s4,e4⟩
   rw [List.getElem?_map] at hi
   cases z:((bnl rs n).map fun ks=>qe3 n (ks.map (·.1)) x)[i]? with
   | none=>rw [z] at hi; cases hi
   | some zz =>
    rw [z] at hi
    cases hi
    have rz:Row n zz:=by
     obtain ⟨ks,_,rfl⟩:=List.mem_map.mp (List.mem_of_getElem? z)
     exact qg6 hr'
    refine ⟨_,rfl,_,rfl,t,dx,kp,bt,n,m,rs,zz,rfl,tab.mono (s03.trans' s4),by rw [rz.len]; omega,n1,n12,fun w=>absurd rz w,fun _ pl H5 hpl a5=>?_⟩
    obtain ⟨s5,as,ea,ta⟩:=a5
    cases zp:pgM rs 0 (q78 zz n) with
    | nil =>
     rw [zp] at ta
     have:as=[]:=List.length_eq_zero_iff.mp ta.1
     subst this
     have fz:q98 rs n zz=true:=by unfold q98; rw [zp]; rfl
     refine ⟨false,.inl ⟨_,SqL.of ea,rfl⟩,q48 ⟨_,rfl,_,s5 _ _ e4,?_,_,rfl,Same.grow hpr (s4.trans' s5),?_⟩⟩
     ·rw [List.length_map]
      have h1:=List.length_filter_le (q98 rs n) (((bnl rs n).map fun ks=>qe3 n (ks.map (·.1)) x).take i)
      rw [List.length_take] at h1
      exact Nat.lt_of_le_of_lt (show _<=12 by omega) (by decide)
     ·rw [q01,q67 z,fz,if_pos rfl,List.map_append]
      rfl
    | cons k0 kt =>
     rw [zp] at ta
     cases as with
     | nil=>exact absurd ta.1 (by simp)
     | cons a0 at' =>
      have fz:q98 rs n zz=false:=by unfold q98; rw [zp]; rfl
      refine ⟨true,.inl ⟨_,SqL.of ea,rfl⟩,q31 ⟨_,rfl,s4.trans' s5,?_⟩⟩
      rw [q67 z,fz]
      simpa using s5 _ _ e4
  ·rintro σ H4 ⟨v,rfl,s4,e4⟩
   rw [List.length_map,List.take_length] at e4
   exact k3 pr H4 (qa9 s03 hpr) (s03.trans' s4) e4
end
end K67
namespace K67
open PySem L2
open PyProof.Rows (envOfC)
abbrev qq2:Stmt:=top 76
theorem qW1 {n:Nat}{x y z:Str}(hx:Row n x) (hy:Row n y) (hz:Row n z):Row n (tx n (qx7 (ch x) (ch y) (ch z))):=⟨q60 _ _,fun i hi=>by
 rw [q55 hi]
 unfold qx7
 split
 ·exact hy.bin i hi
 ·exact hx.bin i hi⟩
section
variable {P:Program}{w:World}{K:PySem.W.Frag}{mg:Str->Option Value}{base:Heap}{C fi fa ft fy fm fc:Addr}{gi ga gt gy gm gc:FuncData}
def z94 (K:PySem.W.Frag):Sp:=fun vs H Q _=>∃(l:Addr) (n:Nat) (rs:List Str) (c:Int),vs=[.ref l,.int c]/\SqL K H l (rs.map V.str)/\(∀ x∈rs,Row n x)/\n<=12/\0 < rs.length/\∀ x H',Row n x->Same H H'->Q (.str x) H'
abbrev N_so:List Str:=["_law_rows_here", "_law_cell_here", "_law_drawn", "_law_found", "_law_first"]
abbrev P_so:List Str:=["_law_rows_here", "_law_cell_here"]
theorem sc_so:FnScope N_so P_so (q02 qq2):=⟨rfl,rfl,rfl,by decide +kernel,rfl,by decide +kernel,by decide +kernel⟩
abbrev N_so1:List Str:=["_law_number", "_law_rows_here"]
theorem nd_so1:N_so1.Nodup:=by decide +kernel
theorem ok_some {f fr fg:Addr}{fd gr gg:FuncData}(D:Df K mg "_law_some" qq2 P_so f fd) (Dr:Df K mg "_law_draws" q95 Pdr fr gr) (Dg:Df K mg "_law_go" qA7 Pg fg gg) (B:Bt mg):FnOk P w K mg base (CXE P w) 2 f fd P_so (z94 K):=by
 refine D.F.okN sc_so (fun vs H Q E h=>?_) (fun cdv A outer s H vs Q E hr h=>?_)
 ·obtain ⟨l,n,rs,c,rfl,_⟩:=h
  rfl
 ·obtain ⟨l,n,rs,c,rfl,hl,hrs,n12,l0,k⟩:=h
  refine ⟨_,q04 (q21 (i:=2) sc_so.nd rfl (Or.inl rfl) (q14 Dr (qh2 Dr B) (hr.mono (by decide)) q17 (q00 (pv 1) (q00 (q36 (q00 q06 (q00 q06 (q00 q06 (q00 q06 (q00 q06 (q00 q06 q03))))))) q03))))
   (q04 (qw4 (i:=3) (N':=N_so1) (fm:=[none,some 0]) rfl sc_so.nd rfl rfl ⟨rfl,by decide +kernel,by decide +kernel,rfl,rfl,rfl⟩ (q35 (qd2 qp8 (pv 2) qi7 (qi6 q06))) (fun _ _ _ _=>(q11 (i:=0) nd_so1 rfl (Or.inl rfl))) (fun _ _ _ _=>q42) (fun _ _ _ _=>(q25 (r:=qR9 K) ix_list (pv 1) (q24 q66 (pv 0) (q15 (qC9 (K:=K) rfl) (by rfl) B.len PySem.boot_len (q00 (pv 1) q03))) (fun _ _=>rfl))))
   (q04 (q30 (q10 q37 (q25 ix_list (pv 2) q06 (fun _ _=>rfl)) q06 (q13 _)) (q05 (q12 (q25 ix_list (pv 3) q06 (fun _ _=>rfl)))) q16)
   (q04 (q21 (i:=4) sc_so.nd rfl (Or.inl rfl) (q14 Dg (qT9 Dg B) (hr.mono (by decide)) q17 (q00 (q25 ix_list (pv 3) q06 (fun _ _=>rfl)) (q00 (q25 ix_list (pv 3) q06 (fun _ _=>rfl)) (q00 (q25 ix_list (pv 3) q06 (fun _ _=>rfl)) q03)))))
   (q05 (q12 (q58 (q10 q37 (q25 ix_list (pv 2) q06 (fun _ _=>rfl)) q06 (q13 _)) (pv 4) (q14 Dg (qT9 Dg B) (hr.mono (by decide)) q17 (q00 (pv 4) (q00 (q25 ix_list (pv 3) q06 (fun _ _=>rfl)) (q00 (q25 ix_list (pv 3) q06 (fun _ _=>rfl)) q03)))))))))),?_⟩
  refine ⟨_,rfl,q22 (show 6<=100 by decide),fun t ht=>?_⟩
  refine ⟨c,t,[67,71,73,79,83,3],rfl,SqL.of q01,by decide,by decide,fun u H1 s1' hu e1=>?_⟩
  have s01:=(Same.new ht).trans' s1'
  obtain ⟨d0,d1,d2,d3,d4,d5,ed⟩:∃ d0 d1 d2 d3 d4 d5:Int,(qk7 c [67,71,73,79,83,3]).map V.int=[.int d0,.int d1,.int d2,.int d3,.int d4,.int d5]:=⟨_,_,_,_,_,_,rfl⟩
  rw [ed] at e1
  refine ⟨_,rfl,_,rfl,u,_,rfl,SqL.of e1,fun ls hls=>?_⟩
  have es:qK4 [V.int d0,.int d1,.int d2,.int d3,.int d4,.int d5] none (some 5)=[d0,d1,d2,d3,d4].map V.int:=rfl
  rw [es]
  have ss:=Same.new (o:=.lst ([d0,d1,d2,d3,d4].map V.int)) hls
  have el:upd H1 ls (.lst ([d0,d1,d2,d3,d4].map V.int)) ls=some (.lst ([d0,d1,d2,d3,d4].map V.int)):=q01
  have e1:=ss _ _ e1
  have s02:=s01.trans' ss
  generalize upd H1 ls (.lst ([d0,d1,d2,d3,d4].map V.int))=H2 at *
  refine ⟨ls,rfl,⟨_,SqL.of el⟩,fun p hp=>?_⟩
  refine q40 (K:=K) (a:=ls) (xs:=[d0,d1,d2,d3,d4].map V.int) (fun i σ H3=>∃ v ys,σ=[v,some (.ref l)]/\Same H2 H3/\H3 p=some (.lst (ys.map V.str))/\ys.length=i/\∀ y∈ys,Row n y) ⟨none,[],rfl,Same.new hp,q01,rfl,(fun _ h=>by cases h)⟩ (fun i σ H3 _ ⟨_,_,_,s3,_⟩=>SqL.of (s3 _ _ el)) ?_ ?_
  ·rintro i y σ H3 hi ⟨v,ys,rfl,s3,e3,yl,yr⟩
   rw [List.getElem?_map] at hi
   have i5:i < 5:=by
    cases z:([d0,d1,d2,d3,d4]:List Int)[i]? with
    | none=>rw [z] at hi; cases hi
    | some d=>exact (List.getElem?_eq_some_iff.mp z).1
   cases z:([d0,d1,d2,d3,d4]:List Int)[i]? with
   | none=>rw [z] at hi; cases hi
   | some d =>
    rw [z] at hi
    cases hi
    obtain ⟨yy,hy,ey⟩:=qw5 (L:=rs) l0 d
    have hl3:=(s02.trans' s3).seq hl
    refine q53 ⟨_,rfl,_,rfl,_,rfl,l,_,rfl,.inl hl3,_,_,rfl,rfl,by rw [List.length_map]; omega,l,_,_,_,rfl,rfl,hl3,ey,_,e3,?_,_,ys ++ [yy],rfl,Same.grow hp s3,?_,?_,?_⟩
    ·rw [List.length_map,yl]
     exact Nat.lt_of_lt_of_le i5 (by decide)
    ·rw [q01,List.map_append]
     rfl
    ·rw [List.length_append,yl]; rfl
    ·intro q hq
     rcases List.mem_append.mp hq with hq | hq
     ·exact yr q hq
     ·rw [List.mem_singleton.mp hq]; exact hrs yy hy
  rintro σ H3 ⟨v,ys,rfl,s3,e3,yl,yr⟩
  obtain ⟨y0,y1,y2,y3,y4,rfl⟩:=five (show ys.length=5 from yl)
  have r0:=yr y0 (by simp)
  have r1:=yr y1 (by simp)
  have r2:=yr y2 (by simp)
  have r3:=yr y3 (by simp)
  have r4:=yr y4 (by simp)
  have s03:=s02.trans' s3
  have e13:=s3 _ _ e1
  refine ⟨_,rfl,u,_,_,_,rfl,rfl,SqL.of e13,rfl,rfl,_,rfl,q77 (fun _=>?_) (fun _=>?_)⟩
  ·exact ⟨_,rfl,p,_,_,_,rfl,rfl,SqL.of e3,rfl,k y0 H3 r0 s03⟩
  ·refine ⟨_,rfl,p,_,_,_,rfl,rfl,SqL.of e3,rfl,_,rfl,p,_,_,_,rfl,rfl,SqL.of e3,rfl,_,rfl,p,_,_,_,rfl,rfl,SqL.of e3,rfl,ch y0,ch y1,ch y2,n,(by rw [<- qd8 r0.len,<- qd8 r1.len,<- qd8 r2.len]; rfl),by omega,?_⟩
   have rg:=qW1 r0 r1 r2
   refine ⟨_,rfl,u,_,_,_,rfl,rfl,SqL.of e13,rfl,rfl,_,rfl,q77 (fun _=>?_) (fun _=>?_)⟩
   ·exact ⟨_,rfl,k _ H3 rg s03⟩
   ·refine ⟨_,rfl,_,rfl,p,_,_,_,rfl,rfl,SqL.of e3,rfl,_,rfl,p,_,_,_,rfl,rfl,SqL.of e3,rfl,qx7 (ch y0) (ch y1) (ch y2),ch y3,ch y4,n,(by rw [<- qd8 r3.len,<- qd8 r4.len]; rfl),by omega,?_⟩
    refine k _ H3 ⟨q60 _ _,fun i hi=>?_⟩ s03
    rw [q55 hi]
    unfold qx7
    split
    ·exact r3.bin i hi
    ·split
     ·exact r1.bin i hi
     ·exact r0.bin i hi
end
end K67
namespace K67
open PySem L2
open PyProof.Rows (envOfC)
def BunsAt (H:Hp) (p:Addr) (bl:List (List (Nat×Nat))):Prop:=∃ bs:List Addr,H p=some (.lst (bs.map V.ref))/\bs.length=bl.length/\∀(i:Nat) (b:Addr) (ks:List (Nat×Nat)),bs[i]? = some b->bl[i]? = some ks->∃ as:List Addr,H b=some (.lst (as.map V.ref))/\Tups H as (ks.map skP)
theorem Buns.now {H0 H:Hp}{p:Addr}{bl:List (List (Nat×Nat))}(B:Buns H0 p H bl):BunsAt H p bl:=by
 obtain ⟨bs,e,l,_,g⟩:=B.at_
 exact ⟨bs,e,l,g⟩
theorem BunsAt.mono {H H':Hp}{p:Addr}{bl:List (List (Nat×Nat))}(B:BunsAt H p bl) (s:Same H H'):BunsAt H' p bl:=by
 obtain ⟨bs,e,l,g⟩:=B
 exact ⟨bs,s _ _ e,l,fun i b ks h1 h2=>let ⟨as,e1,t1⟩:=g i b ks h1 h2; ⟨as,s _ _ e1,t1.mono s⟩⟩
section
variable {P:Program}{w:World}{K:PySem.W.Frag}{mg:Str->Option Value}{base:Heap}
end
end K67
namespace L2
open PySem
def apP (x z:Str) (l:Nat):Bool:=decide (¬ ch x l=ch z l)
def dfc (rs:List Str) (n:Nat) (x z:Str):Nat:=(q74 rs n).countP (apP x z)
theorem qG3 {p q r:Nat->Bool}:∀{L:List Nat},(∀ l∈L,(p l).toNat + (q l).toNat ≥ (r l).toNat)->(L.countP p + L.countP q ≥ L.countP r/\(L.countP p + L.countP q=L.countP r↔∀ l∈L,(p l).toNat + (q l).toNat=(r l).toNat))
 | [],_=>⟨Nat.le_refl _,fun _ _ h=>(by cases h),fun _=>rfl⟩
 | a :: L,h=>by
  obtain ⟨h1,h2⟩:=qG3 (p:=p) (q:=q) (r:=r) (L:=L) fun l hl=>h l (List.mem_cons_of_mem _ hl)
  have ha:=h a List.mem_cons_self
  have e:∀ f:Nat->Bool,(a :: L).countP f=L.countP f + (f a).toNat:=fun f=>by
   rw [List.countP_cons]
   cases f a <;> rfl
  rw [e,e,e]
  refine ⟨by omega,fun w=>?_,fun w=>?_⟩
  ·have e1:L.countP p + L.countP q=L.countP r:=by omega
   have e2:=h2.mp e1
   intro l hl
   rcases List.mem_cons.mp hl with rfl | hl
   ·omega
   ·exact e2 l hl
  ·have e1:=h2.mpr fun l hl=>w l (List.mem_cons_of_mem _ hl)
   have e2:=w a List.mem_cons_self
   omega
section
variable {rs:List Str}{n:Nat}(hrs:∀ x∈rs,Row n x)
include hrs
theorem qL2 {x:Str}(bx:q39 rs n x) {l i:Nat}(hl:l < n) (hi:i < n) (h:akB rs l i=true):ch x l=ch x i:=by
 obtain ⟨y,hy,e1,e2⟩:=cnt_pos.mp (bx l i hl hi)
 have:=(qY8 hrs hl hi).mp h y hy
 omega
theorem qL1 {x:Str}(bx:q39 rs n x) {l i:Nat}(hl:l < n) (hi:i < n) (h:apB rs l i=true):¬ ch x l=ch x i:=by
 obtain ⟨y,hy,e1,e2⟩:=cnt_pos.mp (bx l i hl hi)
 have:=(zc2 hrs hl hi).mp h y hy
 omega
theorem qb1 {x y:Str}(rx:Row n x) (ry:Row n y) (bx:q39 rs n x) (bY:q39 rs n y) {l i:Nat}(hl:l < n) (hi:i < n) (h:tgB rs l i=true):ch x i=ch y i↔ch x l=ch y l:=by
 have a1:=rx.bin i hi
 have a2:=ry.bin i hi
 have a3:=rx.bin l hl
 have a4:=ry.bin l hl
 unfold tgB at h
 rw [Bool.or_eq_true] at h
 rcases h with h | h
 ·have e1:=qL2 hrs bx hl hi h
  have e2:=qL2 hrs bY hl hi h
  omega
 ·have e1:=qL1 hrs bx hl hi h
  have e2:=qL1 hrs bY hl hi h
  omega
theorem qA5 {x y:Str}(bx:q39 rs n x) (bY:q39 rs n y) {i:Nat}(hi:i < n) (h:opB rs i=false):ch x i=ch y i:=by
 obtain ⟨u,hu,e1,_⟩:=cnt_pos.mp (bx i i hi hi)
 obtain ⟨v,hv,e2,_⟩:=cnt_pos.mp (bY i i hi hi)
 have bu:=(hrs u hu).bin i hi
 have bv:=(hrs v hv).bin i hi
 refine Classical.byContradiction fun w=>?_
 have:opB rs i=true:=by
  rw [op_iff]
  rcases bu with bu | bu <;> rcases bv with bv | bv
  ·omega
  ·exact ⟨⟨v,hv,bv⟩,u,hu,bu⟩
  ·exact ⟨⟨u,hu,bu⟩,v,hv,bv⟩
  ·omega
 rw [h] at this
 cases this
theorem box_iff {x y z:Str}(rx:Row n x) (ry:Row n y) (rz:Row n z) (bx:q39 rs n x) (bY:q39 rs n y) (bz:q39 rs n z):dfc rs n x z + dfc rs n z y=dfc rs n x y↔∀ i,i < n->ch x i=ch y i->ch z i=ch x i:=by
 have ln:∀ l∈q74 rs n,l < n/\qr5 rs l=true:=fun l hl=>by
  unfold q74 at hl
  rw [List.mem_filter,List.mem_range] at hl
  exact hl
 have pt:∀ l∈q74 rs n,((apP x z l).toNat + (apP z y l).toNat ≥ (apP x y l).toNat)/\((apP x z l).toNat + (apP z y l).toNat=(apP x y l).toNat↔(ch x l=ch y l->ch z l=ch x l)):=fun l hl=>by
  have l1:=(ln l hl).1
  have b1:=rx.bin l l1
  have b2:=ry.bin l l1
  have b3:=rz.bin l l1
  unfold apP
  rcases b1 with b1 | b1 <;> rcases b2 with b2 | b2 <;> rcases b3 with b3 | b3 <;> rw [b1,b2,b3] <;> simp
 unfold dfc
 rw [(qG3 fun l hl=>(pt l hl).1).2]
 constructor
 ·intro h i hi e
  cases o:opB rs i with
  | false=>exact qA5 hrs bz bx hi o
  | true =>
   obtain ⟨l,l1,l2,l3⟩:=qV7 hrs i hi o
   have hl:l < n:=by omega
   have hm:l∈q74 rs n:=by unfold q74; rw [List.mem_filter,List.mem_range]; exact ⟨hl,l2⟩
   refine (qb1 hrs rz rx bz bx hl hi l3).mpr ((pt l hm).2.mp (h l hm) ?_)
   exact (qb1 hrs rx ry bx bY hl hi l3).mp e
 ·intro h l hl
  exact (pt l hl).2.mpr (h l (ln l hl).1)
end
end L2
namespace K67
open PySem L2
open PyProof.Rows (envOfC)
abbrev qc3:Stmt:=top 48
abbrev qE6:Stmt:=top 49
abbrev qc6:Stmt:=top 74
def Gd (rs:List Str) (n:Nat) (x:Str):Prop:=Row n x/\q98 rs n x=true
noncomputable def bCl (n:Nat) (BC BS:Addr) (x:Str):Addr:=open Classical in if ¬ Row n x then BS else BC
noncomputable def bWd (n:Nat) (x:Str):Str:=open Classical in if ¬ Row n x then "bad row" else "not borne"
theorem Gd.borne {rs:List Str}{n:Nat}{x:Str}(h:Gd rs n x):q39 rs n x:=fun q r hq hr=>by
 have e:pgM rs 0 (q78 x n)=[]:=List.isEmpty_iff.mp h.2
 have b1:=h.1.bin q hq
 have b2:=h.1.bin r hr
 exact stands_of e q r hq hr (by omega) (by omega)
def qL0 (x y:Str) (i:Nat):Nat:=if ch x i=ch y i then ch x i else 45
theorem box_pat {n:Nat}{x y:Str}(hx:Row n x):Pat n (tx n (qL0 x y)):=⟨q60 _ _,fun i hi=>by
 rw [q55 hi]
 unfold qL0
 split
 ·have:=hx.bin i hi; omega
 ·exact .inr (.inr rfl)⟩
section
variable {P:Program}{w:World}{K:PySem.W.Frag}{mg:Str->Option Value}{base:Heap}{C fi fa ft fy fm fc:Addr}{gi ga gt gy gm gc:FuncData}{W BC BS fW fC fS:Addr}{gW gC gS:FuncData}
theorem q38 {H:Hp}{E:XK}{rs:List Str}{n:Nat}{x:Str}(k:¬ Gd rs n x->Ref H E (bCl n BC BS x) (bWd n x)):(¬ Row n x->Ref H E BS "bad row")/\(Row n x->q98 rs n x=false->Ref H E BC "not borne"):=by
 refine ⟨fun h=>?_,fun h f=>?_⟩
 ·have r:=k (fun g=>h g.1)
  unfold bCl bWd at r
  rw [if_pos h,if_pos h] at r
  exact r
 ·have r:=k (fun g=>by have:=g.2; rw [f] at this; cases this)
  unfold bCl bWd at r
  rw [if_neg (fun w=>w h),if_neg (fun w=>w h)] at r
  exact r
def spMid (C BC BS:Addr):Sp:=fun vs H Q E=>∃(t dx kp bt:Addr) (n m:Nat) (rs:List Str) (x y z:Str),vs=[.ref t,.str x,.str y,.str z]/\TabAt C H t dx kp bt n m rs/\x.length<=100/\y.length<=100/\z.length<=100/\1<=n/\n<=12 /\
 (¬ Gd rs n x->Ref H E (bCl n BC BS x) (bWd n x))/\(Gd rs n x->¬ Gd rs n y->Ref H E (bCl n BC BS y) (bWd n y))/\(Gd rs n x->Gd rs n y->¬ Gd rs n z->Ref H E (bCl n BC BS z) (bWd n z)) /\
 (Gd rs n x->Gd rs n y->Gd rs n z->∀ H',Same H H'->Q (.str (tx n (goC (ch x) (ch y) (ch z)))) H')
abbrev N_mi:List Str:=["table", "one", "two", "three"]
abbrev P_mi:List Str:=["table", "one", "two", "three"]
theorem sc_mi:FnScope N_mi P_mi (q02 qc3):=⟨rfl,rfl,rfl,by decide +kernel,rfl,by decide +kernel,by decide +kernel⟩
theorem qT6 {f fk fg:Addr}{fd gk gg:FuncData}(D:Df K mg "middle" qc3 P_mi f fd) (Dc:Df K mg "check_ruling" qb5 qD4 fk gk) (Gc:FnOk P w K mg base (CXE P w) 7 fk gk qD4 (qm6 C BC BS)) (Dg:Df K mg "go" s_go Po fg gg) (B:Bt mg):FnOk P w K mg base (CXE P w) 8 f fd P_mi (spMid C BC BS):=by
 refine D.F.okE sc_mi (fun vs H Q E h=>?_) (fun cdv A outer s H vs Q E hr h=>?_)
 ·obtain ⟨t,dx,kp,bt,n,m,rs,x,y,z,rfl,_⟩:=h
  rfl
 ·obtain ⟨t,dx,kp,bt,n,m,rs,x,y,z,rfl,tab,hx,hy,hz,n1,n12,k1,k2,k3,k4⟩:=h
  refine ⟨_,q04 (q18 (q14 Dc Gc (hr.mono (by decide)) q43 (q00 (pv 0) (q00 (pv 1) q03))))
   (q04 (q18 (q14 Dc Gc (hr.mono (by decide)) q43 (q00 (pv 0) (q00 (pv 2) q03))))
   (q04 (q18 (q14 Dc Gc (hr.mono (by decide)) q43 (q00 (pv 0) (q00 (pv 3) q03))))
   (PSs.nox (q05 (q12 (q14 Dg (ok_go Dg B) (hr.mono (by decide)) q17 (q00 (pv 1) (q00 (pv 2) (q00 (pv 3) q03))))))))),?_⟩
  refine ⟨_,rfl,_,rfl,t,dx,kp,bt,n,m,rs,x,rfl,tab,hx,n1,n12,(q38 k1).1,(q38 k1).2,fun a1 a2 H1 s1'=>?_⟩
  have g1:Gd rs n x:=⟨a1,a2⟩
  refine ⟨_,rfl,_,rfl,t,dx,kp,bt,n,m,rs,y,rfl,tab.mono s1',hy,n1,n12,(q38 fun h=>(k2 g1 h).same s1').1,(q38 fun h=>(k2 g1 h).same s1').2,fun b1 b2 H2 s2=>?_⟩
  have g2:Gd rs n y:=⟨b1,b2⟩
  have s02:=s1'.trans' s2
  refine ⟨_,rfl,_,rfl,t,dx,kp,bt,n,m,rs,z,rfl,tab.mono s02,hz,n1,n12,(q38 fun h=>(k3 g1 g2 h).same s02).1,(q38 fun h=>(k3 g1 g2 h).same s02).2,fun c1 c2 H3 s3=>?_⟩
  have g3:Gd rs n z:=⟨c1,c2⟩
  exact ⟨_,rfl,_,rfl,_,rfl,ch x,ch y,ch z,n,(by rw [<- qd8 a1.len,<- qd8 b1.len,<- qd8 c1.len]; rfl),by omega,fun H4 s4=>k4 g1 g2 g3 H4 (s02.trans' (s3.trans' s4))⟩
def spBox (C BC BS:Addr):Sp:=fun vs H Q E=>∃(t dx kp bt:Addr) (n m:Nat) (rs:List Str) (x y:Str),vs=[.ref t,.str x,.str y]/\TabAt C H t dx kp bt n m rs/\x.length<=100/\y.length<=100/\1<=n/\n<=12 /\
 (¬ Gd rs n x->Ref H E (bCl n BC BS x) (bWd n x))/\(Gd rs n x->¬ Gd rs n y->Ref H E (bCl n BC BS y) (bWd n y)) /\
 (Gd rs n x->Gd rs n y->∀ p H',H p=none->Same H H'->H' p=some (.lst ((mL rs (tx n (qL0 x y)) n).map V.str))->(mL rs (tx n (qL0 x y)) n).length<=4096->Q (.ref p) H')
abbrev N_bx:List Str:=["table", "one", "other"]
abbrev P_bx:List Str:=["table", "one", "other"]
theorem sc_bx:FnScope N_bx P_bx (q02 qE6):=⟨rfl,rfl,rfl,by decide +kernel,rfl,by decide +kernel,by decide +kernel⟩
abbrev N_bx1:List Str:=["a", "b"]
theorem zb1:N_bx1.Nodup:=by decide +kernel
theorem ok_box {f fk fm':Addr}{fd gk gm':FuncData}(D:Df K mg "box" qE6 P_bx f fd) (Dc:Df K mg "check_ruling" qb5 qD4 fk gk) (Gc:FnOk P w K mg base (CXE P w) 7 fk gk qD4 (qm6 C BC BS)) (Dm:Df K mg "matching" q85 Pgp fm' gm') (Gm':FnOk P w K mg base (CXE P w) 6 fm' gm' Pgp (qP9 C)) (B:Bt mg):FnOk P w K mg base (CXE P w) 8 f fd P_bx (spBox C BC BS):=by
 refine D.F.okE sc_bx (fun vs H Q E h=>?_) (fun cdv A outer s H vs Q E hr h=>?_)
 ·obtain ⟨t,dx,kp,bt,n,m,rs,x,y,rfl,_⟩:=h
  rfl
 ·obtain ⟨t,dx,kp,bt,n,m,rs,x,y,rfl,tab,hx,hy,n1,n12,k1,k2,k4⟩:=h
  refine ⟨_,q04 (q18 (q14 Dc Gc (hr.mono (by decide)) q43 (q00 (pv 0) (q00 (pv 1) q03))))
   (q04 (q18 (q14 Dc Gc (hr.mono (by decide)) q43 (q00 (pv 0) (q00 (pv 2) q03))))
   (PSs.nox (q05 (q12 (q14 Dm Gm' (hr.mono (by decide)) q17 (q00 (pv 0) (q00 (qi8 PySem.F.plainAttrs_str PySem.F.slot_str_join PySem.F.type_str_join qx4 q20 (q00 (q29 (g:=(qD5 K 2 (q64 (q54 0) (q64 (q54 1) qD6)))) (N':=N_bx1) (fm:=[none,none]) rfl ⟨rfl,by decide +kernel,by decide +kernel,rfl,rfl,rfl⟩ (pi_zip2 (by rfl) B.zip (q00 (pv 1) (q00 (pv 2) q03))) (fun _ _ _ _=>(qa8 rfl (q23 (q11 (i:=0) zb1 rfl (Or.inl rfl)) (q23 (q11 (i:=1) zb1 rfl (Or.inl rfl)) q72)))) (fun _ _ _ _=>q42) (fun _ _ _ _=>(q58 (q10 q37 (pv 0) (pv 1) (q13 _)) (pv 0) q20))) q03)) q03))))))),?_⟩
  refine ⟨_,rfl,_,rfl,t,dx,kp,bt,n,m,rs,x,rfl,tab,hx,n1,n12,(q38 k1).1,(q38 k1).2,fun a1 a2 H1 s1'=>?_⟩
  have g1:Gd rs n x:=⟨a1,a2⟩
  refine ⟨_,rfl,_,rfl,t,dx,kp,bt,n,m,rs,y,rfl,tab.mono s1',hy,n1,n12,(q38 fun h=>(k2 g1 h).same s1').1,(q38 fun h=>(k2 g1 h).same s1').2,fun b1 b2 H2 s2=>?_⟩
  have g2:Gd rs n y:=⟨b1,b2⟩
  have s02:=s1'.trans' s2
  refine ⟨_,rfl,rfl,_,rfl,_,rfl,x,y,rfl,fun p hp=>?_⟩
  refine z84 (fun i σ H3=>∃ v0 v1,σ=[v0,v1]/\Same H2 H3/\H3 p=some (.lst ((List.range i).map fun j=>s1 (qL0 x y j)))) ⟨none,none,rfl,Same.new hp,q01⟩ (by rw [a1.len,b1.len]; exact Nat.le_refl _) ?_ ?_
  ·rintro i T σ H3 hi hT ⟨v0,v1,rfl,s3,e3⟩
   rw [a1.len] at hi
   have sT:=Same.new (o:=.tup [sg x i,sg y i]) hT
   refine qj4 q01 ⟨_,rfl,_,rfl,rfl,_,rfl,q77 (fun c=>?_) (fun c=>?_)⟩
   ·have c:decide (s1 (ch x i)=s1 (ch y i))=true:=c
    rw [q68] at c
    have c:ch x i=ch y i:=by simpa using c
    refine ⟨_,rfl,_,sT _ _ e3,q41 _ _ (by omega),_,_,rfl,Same.grow hp (s3.trans' sT),?_⟩
    rw [q01,<- q90]
    show some (HO.lst (_ ++ [s1 (ch x i)]))=some (HO.lst (_ ++ [s1 (qL0 x y i)]))
    unfold qL0
    rw [if_pos c]
   ·have c:¬ decide (s1 (ch x i)=s1 (ch y i))=true:=c
    rw [q68] at c
    have c:¬ ch x i=ch y i:=by simpa using c
    refine ⟨_,sT _ _ e3,q41 _ _ (by omega),_,_,rfl,Same.grow hp (s3.trans' sT),?_⟩
    rw [q01,<- q90]
    show some (HO.lst (_ ++ [s1 45]))=some (HO.lst (_ ++ [s1 (qL0 x y i)]))
    unfold qL0
    rw [if_neg c]
  ·rintro σ H3 ⟨v0,v1,rfl,s3,e3⟩
   rw [a1.len] at e3
   refine ⟨_,p,(List.range n).map fun j=>(⟨#[qL0 x y j]⟩:Str),rfl,rfl,?_,by decide,?_,?_⟩
   ·rw [List.map_map]
    exact SqL.of e3
   ·rw [qx9,List.length_map,List.length_range]; omega
   ·rw [qv4]
    have s03:=s02.trans' s3
    exact ⟨t,dx,kp,bt,n,m,rs,_,rfl,tab.mono s03,by rw [q60]; omega,n1,n12,box_pat a1,fun q H4 hq s4 e4 l4=>k4 g1 g2 q H4 (qa9 s03 hq) (s03.trans' s4) e4 l4⟩
def qH2 (K:PySem.W.Frag):Sp:=fun vs H Q _=>∃(sh:Addr) (n:Nat) (rs:List Str) (x y:Str),vs=[.ref sh,.str x,.str y]/\BunsAt H sh (bnl rs n)/\(∀ x∈rs,Row n x)/\Row n x/\Row n y/\n<=12/\∀ p xs H',H p=none->Same H H'->H' p=some (.lst xs)->xs.length=dfc rs n x y->Q (.ref p) H'
abbrev N_la:List Str:=["_law_sheaves", "_law_one", "_law_another"]
abbrev P_la:List Str:=["_law_sheaves", "_law_one", "_law_another"]
theorem sc_la:FnScope N_la P_la (q02 qc6):=⟨rfl,rfl,rfl,by decide +kernel,rfl,by decide +kernel,by decide +kernel⟩
abbrev N_la1:List Str:=["_law_sheaf", "_law_one", "_law_another"]
theorem nd_la1:N_la1.Nodup:=by decide +kernel
theorem qU0 {f:Addr}{fd:FuncData}(D:Df K mg "_law_apart" qc6 P_la f fd):FnOk P w K mg base (CXE P w) 1 f fd P_la (qH2 K):=by
 refine D.F.okN sc_la (fun vs H Q E h=>?_) (fun cdv A outer s H vs Q E hr h=>?_)
 ·obtain ⟨sh,n,rs,x,y,rfl,_⟩:=h
  rfl
 ·obtain ⟨sh,n,rs,x,y,rfl,⟨bs,es,lbs,gs⟩,hrs,hx,hy,n12,k⟩:=h
  refine ⟨_,q05 (q12 (q29 (N':=N_la1) (fm:=[none,some 1,some 2]) rfl ⟨rfl,by decide +kernel,by decide +kernel,rfl,rfl,rfl⟩ (q35 (pv 0)) (fun _ _ _ _=>(q11 (i:=0) nd_la1 rfl (Or.inl rfl))) (fun _ _ _ _=>(q63 (q10 qr2 (q25 q62 (pv 1) (q25 (r:=rIxT K) ix_tup (q25 (r:=qR9 K) ix_list (pv 0) q06 (fun _ _=>rfl)) q06 (fun _ _=>rfl)) (fun _ _=>rfl)) (q25 q62 (pv 2) (q25 (r:=rIxT K) ix_tup (q25 (r:=qR9 K) ix_list (pv 0) q06 (fun _ _=>rfl)) q06 (fun _ _=>rfl)) (fun _ _=>rfl)) (q13 _)))) (fun _ _ _ _=>(pv 0)))),?_⟩
  refine ⟨_,rfl,sh,rfl,⟨_,SqL.of es⟩,fun p hp=>?_⟩
  have lb:bs.length=(q74 rs n).length:=by rw [lbs]; unfold bnl; rw [List.length_map]
  have L12:(q74 rs n).length<=12:=Nat.le_trans (q99 rs n) n12
  refine q40 (K:=K) (a:=sh) (xs:=bs.map V.ref) (fun i σ H2=>∃ v zs,σ=[v,some (.str x),some (.str y)]/\Same H H2/\H2 p=some (.lst zs)/\zs.length=((q74 rs n).take i).countP (apP x y)) ⟨none,[],rfl,Same.new hp,q01,rfl⟩ (fun i σ H2 _ ⟨_,_,_,s2,_⟩=>SqL.of (s2 _ _ es)) ?_ ?_
  ·rintro i v' σ H2 hi ⟨v,zs,rfl,s2,e2,l2⟩
   rw [List.getElem?_map] at hi
   cases z:bs[i]? with
   | none=>rw [z] at hi; cases hi
   | some b =>
    rw [z] at hi
    cases hi
    have il:=(List.getElem?_eq_some_iff.mp z).1
    have yl:(q74 rs n)[i]? = some (q74 rs n)[i]:=List.getElem?_eq_getElem (by omega)
    generalize (q74 rs n)[i]=lo at *
    have mem:=List.mem_of_getElem? yl
    unfold q74 at mem
    rw [List.mem_filter,List.mem_range] at mem
    obtain ⟨tl,et⟩:=qK8 hrs mem.1 mem.2
    obtain ⟨as,ea,ta⟩:=gs i b (bun rs n lo) z (by unfold bnl; rw [List.getElem?_map,yl]; rfl)
    rw [et] at ta
    have sx:x.length<=sizeLine:=by rw [hx.len]; exact q22 (by omega)
    have sy:y.length<=sizeLine:=by rw [hy.len]; exact q22 (by omega)
    cases as with
    | nil=>exact absurd ta.1 (by simp)
    | cons a0 at' =>
     have ea0:=ta.2 0 a0 _ rfl rfl
     have sn:((q74 rs n).take (i + 1)).countP (apP x y)=((q74 rs n).take i).countP (apP x y) + (apP x y lo).toNat:=by
      rw [List.take_add_one,yl,List.countP_append]
      congr 1
     have c12:zs.length<=12:=by
      rw [l2]
      refine Nat.le_trans List.countP_le_length ?_
      rw [List.length_take]
      omega
     refine ⟨_,rfl,_,rfl,b,_,_,_,rfl,rfl,SqL.of (s2 _ _ ea),(show atI _ ((0:Nat):Int)=_ from q46 rfl),a0,_,_,_,rfl,rfl,SqT.of (s2 _ _ ea0),rfl,_,_,_,rfl,rfl,sx,qt4 hx mem.1,_,rfl,_,rfl,b,_,_,_,rfl,rfl,SqL.of (s2 _ _ ea),(show atI _ ((0:Nat):Int)=_ from q46 rfl),a0,_,_,_,rfl,rfl,SqT.of (s2 _ _ ea0),rfl,_,_,_,rfl,rfl,sy,qt4 hy mem.1,rfl,_,rfl,q77 (fun c=>?_) (fun c=>?_)⟩
     ·have c:(!decide (s1 (ch x lo)=s1 (ch y lo)))=true:=c
      rw [q68] at c
      have c:¬ ch x lo=ch y lo:=by simpa using c
      refine ⟨_,rfl,zs,e2,Nat.lt_of_le_of_lt c12 (by decide),_,_,rfl,Same.grow hp s2,q01,?_⟩
      rw [List.length_append,l2,sn]
      unfold apP
      rw [decide_eq_true c]
      rfl
     ·have c:¬ (!decide (s1 (ch x lo)=s1 (ch y lo)))=true:=c
      rw [q68] at c
      have c:ch x lo=ch y lo:=by simpa using c
      refine ⟨_,_,rfl,s2,e2,?_⟩
      rw [l2,sn]
      unfold apP
      rw [decide_eq_false (fun w=>w c)]
      rfl
  ·rintro σ H2 ⟨v,zs,rfl,s2,e2,l2⟩
   rw [List.length_map,lb,List.take_length] at l2
   exact k p zs H2 hp s2 e2 l2
theorem dfc_len (rs:List Str) (n:Nat) (x y:Str):dfc rs n x y<=n:=Nat.le_trans List.countP_le_length (q99 rs n)
end
end K67
namespace L2
open PySem
theorem ap_comm (x y:Str):apP x y=apP y x:=by
 funext l
 unfold apP
 rw [Bool.eq_iff_iff,decide_eq_true_iff,decide_eq_true_iff]
 exact ⟨fun h w=>h w.symm,fun h w=>h w.symm⟩
theorem qy4 (rs:List Str) (n:Nat) (x y:Str):dfc rs n x y=dfc rs n y x:=by
 unfold dfc
 rw [ap_comm]
theorem ap_tri (x y z:Str) (l:Nat):(apP x z l).toNat + (apP z y l).toNat ≥ (apP x y l).toNat:=by
 unfold apP
 by_cases a:ch x l=ch z l <;> by_cases b:ch z l=ch y l <;> by_cases c:ch x l=ch y l <;> simp [a,b,c] <;> omega
theorem qK3 {rs:List Str}{n:Nat}(hrs:∀ x∈rs,Row n x) {x z:Str}(rx:Row n x) (rz:Row n z) (bx:q39 rs n x) (bz:q39 rs n z):dfc rs n x z=0↔x=z:=by
 have s0:dfc rs n x x=0:=by
  unfold dfc
  rw [List.countP_eq_zero]
  intro l _
  unfold apP
  simp
 constructor
 ·intro h
  refine (qp4 rz.len rx.len fun i hi=>?_).symm
  exact (box_iff hrs rx rx rz bx bx bz).mp (by rw [h,qy4 rs n z x,h,s0]) i hi rfl
 ·rintro rfl
  exact s0
end L2
namespace L2
open PySem
theorem zb2 {α:Type}(f:α->Nat):∀{l:List α},l≠[]->∃ a∈l,∀ b∈l,f b<=f a
 | [],h=>absurd rfl h
 | [a],_=>⟨a,List.mem_singleton_self a,fun b hb=>by rw [List.mem_singleton.mp hb]; exact Nat.le_refl _⟩
 | a :: b :: l,_=>by
  obtain ⟨c,hc,h⟩:=zb2 f (l:=b :: l) (by simp)
  by_cases e:f c<=f a
  ·refine ⟨a,List.mem_cons_self,fun d hd=>?_⟩
   rcases List.mem_cons.mp hd with rfl | hd
   ·exact Nat.le_refl _
   ·exact Nat.le_trans (h d hd) e
  ·refine ⟨c,List.mem_cons_of_mem _ hc,fun d hd=>?_⟩
   rcases List.mem_cons.mp hd with rfl | hd
   ·omega
   ·exact h d hd
theorem qs3 {α:Type}{p q:α->Bool}:∀{l:List α},(∀ a∈l,p a=true->q a=true)->∀{b:α},b∈l->p b=false->q b=true->l.countP p < l.countP q
 | a :: l,h,b,hb,h1,h2=>by
  have le:l.countP p<=l.countP q:=List.countP_mono_left fun c hc=>h c (List.mem_cons_of_mem _ hc)
  rw [List.countP_cons,List.countP_cons]
  rcases List.mem_cons.mp hb with rfl | hb
  ·rw [if_neg (by rw [h1]; exact Bool.false_ne_true),if_pos h2]; omega
  ·have lt:=qs3 (fun c hc=>h c (List.mem_cons_of_mem _ hc)) hb h1 h2
   have ha:=h a List.mem_cons_self
   by_cases e:p a=true
   ·rw [if_pos e,if_pos (ha e)]; omega
   ·rw [if_neg e]; omega
def qz0 (rs:List Str) (n l:Nat) (x z:Str):Prop:=∀ i,i < n->(ch z i=ch x i↔tgB rs l i=false)
section
variable {rs:List Str}{n:Nat}(hrs:∀ x∈rs,Row n x)
include hrs
theorem qO6 {x g:Str}(rx:Row n x) (rg:Row n g) (bx:q39 rs n x) (bg:q39 rs n g) (ne:x≠g) :
  ∃ l,l∈q74 rs n/\¬ ch x l=ch g l/\∀ z,Row n z->qz0 rs n l x z->q39 rs n z:=by
 have hD:((q74 rs n).filter (apP x g))≠[]:=fun h=>ne ((qK3 hrs rx rg bx bg).mp (by
  unfold dfc
  rw [List.countP_eq_length_filter,h]; rfl))
 obtain ⟨l,hl,mx⟩:=zb2 (fun l=>rs.countP fun y=>decide (ch y l=ch g l)) hD
 rw [List.mem_filter] at hl
 obtain ⟨hl,dl⟩:=hl
 have dl:¬ ch x l=ch g l:=by unfold apP at dl; exact of_decide_eq_true dl
 have hl':=hl
 unfold q74 at hl'
 rw [List.mem_filter,List.mem_range] at hl'
 obtain ⟨ln,lo⟩:=hl'
 refine ⟨l,hl,dl,fun z rz tz=>?_⟩
 have zg:∀ i,i < n->tgB rs l i=true->ch z i=ch g i:=fun i hi ht=>by
  have a1:¬ ch z i=ch x i:=fun w=>by rw [(tz i hi).mp w] at ht; cases ht
  have a2:¬ ch x i=ch g i:=fun w=>dl ((qb1 hrs rx rg bx bg ln hi ht).mp w)
  have b1:=rz.bin i hi
  have b2:=rx.bin i hi
  have b3:=rg.bin i hi
  omega
 have zx:∀ i,i < n->tgB rs l i=false->ch z i=ch x i:=fun i hi ht=>(tz i hi).mpr ht
 have key:∀ q r,q < n->r < n->tgB rs l q=true->tgB rs l r=false->∃ y∈rs,ch y q=ch g q/\ch y r=ch x r:=by
  intro q r hq hr tq tr
  by_cases e:ch x r=ch g r
  ·obtain ⟨y,hy,e1,e2⟩:=cnt_pos.mp (bg q r hq hr)
   exact ⟨y,hy,e1,by omega⟩
  ·-- if no row did,l's answer of g would bring r's of g with it
   refine Classical.byContradiction fun no=>?_
   have no:∀ y∈rs,ch y q=ch g q->ch y r=ch g r:=fun y hy e1=>Classical.byContradiction fun w=>no ⟨y,hy,e1,by
    have b1:=(hrs y hy).bin r hr
    have b2:=rx.bin r hr
    have b3:=rg.bin r hr
    omega⟩
   have ql:∀ y∈rs,(ch y q=ch g q↔ch y l=ch g l):=fun y hy=>qb1 hrs (hrs y hy) rg (ql2 hy) bg ln hq tq
   have orr:opB rs r=true:=by
    cases z':opB rs r with
    | true=>rfl
    | false=>exact absurd (qA5 hrs bx bg hr z') e
   obtain ⟨l2,l2r,lo2,t2⟩:=qV7 hrs r hr orr
   have l2n:l2 < n:=by omega
   have rl:∀ y∈rs,(ch y r=ch g r↔ch y l2=ch g l2):=fun y hy=>qb1 hrs (hrs y hy) rg (ql2 hy) bg l2n hr t2
   have d2:¬ ch x l2=ch g l2:=fun w=>e ((qb1 hrs rx rg bx bg l2n hr t2).mpr w)
   have m2:l2∈(q74 rs n).filter (apP x g):=by
    rw [List.mem_filter]
    unfold q74
    rw [List.mem_filter,List.mem_range]
    exact ⟨⟨l2n,lo2⟩,decide_eq_true d2⟩
   have imp:∀ y∈rs,ch y l=ch g l->ch y l2=ch g l2:=fun y hy e1=>(rl y hy).mp (no y hy ((ql y hy).mpr e1))
   have le:=mx l2 m2
   have same:∀ y∈rs,ch y l2=ch g l2->ch y l=ch g l:=by
    refine fun y hy e1=>Classical.byContradiction fun w=>?_
    have lt:=qs3 (p:=fun y=>decide (ch y l=ch g l)) (q:=fun y=>decide (ch y l2=ch g l2)) (fun y hy h=>decide_eq_true (imp y hy (of_decide_eq_true h))) hy (decide_eq_false w) (decide_eq_true e1)
    omega
   have tg2:tgB rs l l2=true:=by
    rw [qm5 hrs ln l2n]
    by_cases c:ch g l=ch g l2
    ·refine .inl fun y hy=>?_
     have b1:=(hrs y hy).bin l ln
     have b2:=(hrs y hy).bin l2 l2n
     have b3:=rg.bin l ln
     have i1:=imp y hy
     have i2:=same y hy
     omega
    ·refine .inr fun y hy=>?_
     have b1:=(hrs y hy).bin l ln
     have b2:=(hrs y hy).bin l2 l2n
     have b3:=rg.bin l ln
     have b4:=rg.bin l2 l2n
     have i1:=imp y hy
     have i2:=same y hy
     omega
   rw [qj5 hrs ln l2n hr tg2 t2] at tr
   cases tr
 intro q r hq hr
 refine cnt_pos.mpr ?_
 cases tq:tgB rs l q <;> cases tr:tgB rs l r
 ·obtain ⟨y,hy,e1,e2⟩:=cnt_pos.mp (bx q r hq hr)
  exact ⟨y,hy,by rw [zx q hq tq]; exact e1,by rw [zx r hr tr]; exact e2⟩
 ·obtain ⟨y,hy,e1,e2⟩:=key r q hr hq tr tq
  exact ⟨y,hy,by rw [zx q hq tq]; exact e2,by rw [zg r hr tr]; exact e1⟩
 ·obtain ⟨y,hy,e1,e2⟩:=key q r hq hr tq tr
  exact ⟨y,hy,by rw [zg q hq tq]; exact e1,by rw [zx r hr tr]; exact e2⟩
 ·obtain ⟨y,hy,e1,e2⟩:=cnt_pos.mp (bg q r hq hr)
  exact ⟨y,hy,by rw [zg q hq tq]; exact e1,by rw [zg r hr tr]; exact e2⟩
end
end L2
namespace K67
open PySem L2
open PyProof.Rows (envOfC)
abbrev qd0:Stmt:=top 27
abbrev qc1:Stmt:=top 52
abbrev qE4:Stmt:=top 47
theorem qb9 {rs:List Str}{n:Nat}{x:Str}(h:q39 rs n x):q98 rs n x=true:=by
 unfold q98
 rw [z61 h]; rfl
theorem qu6 {rs:List Str}{n:Nat}{x:Str}(hx:Row n x) (h:q98 rs n x=true):q39 rs n x:=z82 hx (List.isEmpty_iff.mp h)
theorem zb5 {rs:List Str}{n l i:Nat}(hi:i < n):i∈(bun rs n l).map (·.1)↔tgB rs l i=true:=by
 rw [List.mem_map]
 constructor
 ·rintro ⟨⟨r,a⟩,h,rfl⟩
  have h2:=(qY2 h).2
  cases z:tgB rs l r with
  | true=>rfl
  | false=>rw [alO_none.mpr z] at h2; cases h2
 ·intro h
  cases z:alO rs l i with
  | none=>rw [alO_none.mp z] at h; cases h
  | some a=>exact ⟨(i,a),qV5 hi z,rfl⟩
theorem z02 {rs:List Str}{n l:Nat}{x:Str}(hx:Row n x):qz0 rs n l x (qe3 n ((bun rs n l).map (·.1)) x):=fun i hi=>by
 unfold qe3
 rw [q55 hi]
 unfold qv6
 cases z:tgB rs l i with
 | true =>
  rw [if_pos ((zb5 hi).mpr z)]
  have b:=hx.bin i hi
  unfold qF0
  constructor
  ·intro h
   split at h <;> omega
  ·intro h; cases h
 | false=>rw [if_neg (fun w=>by rw [(zb5 hi).mp w] at z; cases z)]; exact ⟨fun _=>rfl,fun _=>rfl⟩
def dif (n:Nat) (x z:Str):Nat:=(List.range n).countP (apP x z)
section
variable {rs:List Str}{n:Nat}(hrs:∀ x∈rs,Row n x)
include hrs
theorem z73 {x z g:Str}{l:Nat}(rx:Row n x) (rg:Row n g) (rz:Row n z) (bx:q39 rs n x) (bg:q39 rs n g) (ln:l < n) (t:qz0 rs n l x z) (d:¬ ch x l=ch g l):dif n z g < dif n x g:=by
 have all:∀ i,i < n->tgB rs l i=true->ch z i=ch g i:=fun i hi ht=>by
  have a1:¬ ch z i=ch x i:=fun w=>by rw [(t i hi).mp w] at ht; cases ht
  have a2:¬ ch x i=ch g i:=fun w=>d ((qb1 hrs rx rg bx bg ln hi ht).mp w)
  have b1:=rz.bin i hi
  have b2:=rx.bin i hi
  have b3:=rg.bin i hi
  omega
 refine qs3 (p:=apP z g) (q:=apP x g) (fun i hi h=>?_) (List.mem_range.mpr ln) ?_ (decide_eq_true d)
 ·have hi:=List.mem_range.mp hi
  have h:¬ ch z i=ch g i:=of_decide_eq_true h
  cases zt:tgB rs l i with
  | true=>exact absurd (all i hi zt) h
  | false=>exact decide_eq_true (by rw [<- (t i hi).mpr zt]; exact h)
 ·exact decide_eq_false (fun w=>w (all l ln (qp3 hrs ln)))
theorem z72 {x z g:Str}{l:Nat}(rx:Row n x) (rg:Row n g) (rz:Row n z) (bx:q39 rs n x) (bg:q39 rs n g) (ln:l < n) (t:qz0 rs n l x z) (h:dif n z g < dif n x g):¬ ch x l=ch g l:=fun d=>by
 have le:dif n x g<=dif n z g:=List.countP_mono_left fun i hi h=>by
  have hi:=List.mem_range.mp hi
  have h:¬ ch x i=ch g i:=of_decide_eq_true h
  cases zt:tgB rs l i with
  | true=>exact absurd ((qb1 hrs rx rg bx bg ln hi zt).mpr d) h
  | false=>exact decide_eq_true (by rw [(t i hi).mpr zt]; exact h)
 omega
theorem z74 {x z g:Str}{l:Nat}(rx:Row n x) (rg:Row n g) (rz:Row n z) (hl:l∈q74 rs n) (t:qz0 rs n l x z) (d:¬ ch x l=ch g l):dfc rs n z g + 1=dfc rs n x g:=by
 have ln:∀ l∈q74 rs n,l < n/\qr5 rs l=true:=fun l hl=>by
  unfold q74 at hl
  rw [List.mem_filter,List.mem_range] at hl
  exact hl
 have nd:(q74 rs n).Nodup:=List.Nodup.sublist List.filter_sublist List.nodup_range
 have other:∀ l2∈q74 rs n,l2≠l->apP z g l2=apP x g l2:=fun l2 h2 ne=>by
  have a:=ln l hl
  have b:=ln l2 h2
  have tf:tgB rs l l2=false:=by
   rcases Nat.lt_or_gt_of_ne ne with w | w
   ·cases zt:tgB rs l l2 with
    | false=>rfl
    | true =>
     have:=ql3 hrs a.1 b.1 zt
     rw [(low_iff.mp a.2).2 l2 w] at this
     cases this
   ·exact (low_iff.mp b.2).2 l w
  unfold apP
  rw [(t l2 b.1).mpr tf]
 have here:apP z g l=false/\apP x g l=true:=by
  refine ⟨decide_eq_false (fun w=>w ?_),decide_eq_true d⟩
  have a:=ln l hl
  have a1:¬ ch z l=ch x l:=fun w=>by
   have:=(t l a.1).mp w
   rw [qp3 hrs a.1] at this
   cases this
  have b1:=rz.bin l a.1
  have b2:=rx.bin l a.1
  have b3:=rg.bin l a.1
  omega
 unfold dfc
 revert other nd hl
 generalize q74 rs n=L
 intro hl nd other
 clear ln
 induction L with
 | nil=>cases hl
 | cons a L ih =>
  rw [List.countP_cons,List.countP_cons]
  rw [List.nodup_cons] at nd
  by_cases e:a=l
  ·subst e
   have:L.countP (apP z g)=L.countP (apP x g):=by
    refine List.countP_congr fun l2 h2=>?_
    rw [other l2 (List.mem_cons_of_mem _ h2) (fun w=>nd.1 (w ▸ h2))]
   rw [this,here.1,here.2]
   rfl
  ·rcases List.mem_cons.mp hl with w | w
   ·exact absurd w.symm e
   ·have:=ih w nd.2 fun l2 h2=>other l2 (List.mem_cons_of_mem _ h2)
    rw [other a List.mem_cons_self e]
    omega
end
structure Wk (rs:List Str) (n:Nat) (x g:Str) (ts:List Str):Prop where
 head:ts[0]? = some x
 good:∀ y∈ts,Row n y/\q39 rs n y
 step:∀ i a b,ts[i]? = some a->ts[i + 1]? = some b->∃ l,l∈q74 rs n/\¬ ch a l=ch g l/\qz0 rs n l a b
section
variable {P:Program}{w:World}{K:PySem.W.Frag}{mg:Str->Option Value}{base:Heap}{C fi fa ft fy fm fc:Addr}{gi ga gt gy gm gc:FuncData}
def z05:Sp:=fun vs H Q _=>∃(n:Nat) (x y:Str),vs=[.str x,.str y]/\Row n x/\Row n y/\n<=12/\∀ p xs H',H p=none->Same H H'->H' p=some (.lst xs)->xs.length=dif n x y->Q (.ref p) H'
abbrev N_df:List Str:=["one", "other"]
abbrev P_df:List Str:=["one", "other"]
theorem sc_df:FnScope N_df P_df (q02 qd0):=⟨rfl,rfl,rfl,by decide +kernel,rfl,by decide +kernel,by decide +kernel⟩
abbrev N_df1:List Str:=["at", "one", "other"]
theorem nd_df1:N_df1.Nodup:=by decide +kernel
theorem qB3 {f:Addr}{fd:FuncData}(D:Df K mg "differ" qd0 P_df f fd) (B:Bt mg):FnOk P w K mg base (CXE P w) 1 f fd P_df z05:=by
 refine D.F.okN sc_df (fun vs H Q E h=>?_) (fun cdv A outer s H vs Q E hr h=>?_)
 ·obtain ⟨n,x,y,rfl,_⟩:=h
  rfl
 ·obtain ⟨n,x,y,rfl,hx,hy,n12,k⟩:=h
  refine ⟨_,q05 (q12 (q29 (N':=N_df1) (fm:=[none,some 0,some 1]) rfl ⟨rfl,by decide +kernel,by decide +kernel,rfl,rfl,rfl⟩ (q34 (by rfl) B.range (q00 (q15 q49 (by rfl) B.len PySem.boot_len (q00 (pv 0) q03)) q03)) (fun _ _ _ _=>(q11 (i:=0) nd_df1 rfl (Or.inl rfl))) (fun _ _ _ _=>(q63 (q10 qr2 (q25 q62 (pv 1) (pv 0) (fun _ _=>rfl)) (q25 q62 (pv 2) (pv 0) (fun _ _=>rfl)) (q13 _)))) (fun _ _ _ _=>(pv 0)))),?_⟩
  have sx:x.length<=sizeLine:=by rw [hx.len]; exact q22 (by omega)
  have sy:y.length<=sizeLine:=by rw [hy.len]; exact q22 (by omega)
  refine ⟨_,rfl,_,rfl,sx,_,rfl,by omega,by rw [hx.len]; omega,fun p hp=>?_⟩
  refine q93 (n:=((x.length:Nat):Int).toNat) (fun i σ H2=>∃ v zs,σ=[v,some (.str x),some (.str y)]/\Same H H2/\H2 p=some (.lst zs)/\zs.length=(List.range i).countP (apP x y)) ⟨none,[],rfl,Same.new hp,q01,rfl⟩ ?_ ?_
  ·rintro i σ H2 hi ⟨v,zs,rfl,s2,e2,l2⟩
   have hi:i < n:=by rw [hx.len] at hi; omega
   have sn:(List.range (i + 1)).countP (apP x y)=(List.range i).countP (apP x y) + (apP x y i).toNat:=by
    rw [List.range_succ,List.countP_append]
    congr 1
   have c12:zs.length<=12:=by
    rw [l2]
    refine Nat.le_trans List.countP_le_length ?_
    rw [List.length_range]
    omega
   rw [Int.zero_add]
   refine ⟨_,rfl,_,rfl,_,_,_,rfl,rfl,sx,qt4 hx hi,_,rfl,_,rfl,_,_,_,rfl,rfl,sy,qt4 hy hi,rfl,_,rfl,q77 (fun c=>?_) (fun c=>?_)⟩
   ·have c:(!decide (s1 (ch x i)=s1 (ch y i)))=true:=c
    rw [q68] at c
    have c:¬ ch x i=ch y i:=by simpa using c
    refine ⟨_,rfl,zs,e2,Nat.lt_of_le_of_lt c12 (by decide),_,_,rfl,Same.grow hp s2,q01,?_⟩
    rw [List.length_append,l2,sn]
    unfold apP
    rw [decide_eq_true c]
    rfl
   ·have c:¬ (!decide (s1 (ch x i)=s1 (ch y i)))=true:=c
    rw [q68] at c
    have c:ch x i=ch y i:=by simpa using c
    refine ⟨_,_,rfl,s2,e2,?_⟩
    rw [l2,sn]
    unfold apP
    rw [decide_eq_false (fun w=>w c)]
    rfl
  ·rintro σ H2 ⟨v,zs,rfl,s2,e2,l2⟩
   have e:((x.length:Nat):Int).toNat=n:=by rw [hx.len]; omega
   rw [e] at l2
   exact k p zs H2 hp s2 e2 l2
end
end K67
namespace K67
open PySem L2
open PyProof.Rows (envOfC)
abbrev qi1:Stmt:=top 46
theorem qx6 {rs:List Str}{n:Nat}{x z:Str}(hx:Row n x):z∈nbL rs n x↔∃ l,l∈q74 rs n/\z=qe3 n ((bun rs n l).map (·.1)) x/\q39 rs n z:=by
 unfold nbL
 rw [List.mem_filter,List.mem_map]
 constructor
 ·rintro ⟨⟨ks,hk,rfl⟩,hf⟩
  obtain ⟨l,hl,rfl⟩:=List.mem_map.mp hk
  exact ⟨l,hl,rfl,qu6 (qg6 hx) hf⟩
 ·rintro ⟨l,hl,rfl,hb⟩
  exact ⟨⟨_,List.mem_map.mpr ⟨l,hl,rfl⟩,rfl⟩,qb9 hb⟩
theorem qs8 (us:List Str) (z:Str):atI ((us ++ [z]).map V.str) (-1)=some (.str z):=by
 unfold atI ixN
 have e:(((us ++ [z]).map V.str).length:Nat)=us.length + 1:=by rw [List.length_map,List.length_append]; rfl
 rw [if_neg (by decide),e,if_pos (by omega)]
 show ((us ++ [z]).map V.str)[_]? = _
 have e2:(-1 + ((us.length + 1:Nat):Int)).toNat=us.length:=by omega
 rw [e2,List.map_append,List.getElem?_append_right (by rw [List.length_map]; exact Nat.le_refl _),List.length_map,Nat.sub_self]
 rfl
theorem qV8 {rs:List Str}{n l:Nat}(h:l∈q74 rs n):l < n:=by
 unfold q74 at h
 rw [List.mem_filter,List.mem_range] at h
 exact h.1
section
variable {P:Program}{w:World}{K:PySem.W.Frag}{mg:Str->Option Value}{base:Heap}{C fi fa ft fy fm fc:Addr}{gi ga gt gy gm gc:FuncData}{W BC BS fW fC fS:Addr}{gW gC gS:FuncData}
def qG9 (C:Addr):Sp:=fun vs H Q _=>∃(t dx kp bt:Addr) (n m:Nat) (rs:List Str) (x g:Str),vs=[.ref t,.str x,.str g]/\TabAt C H t dx kp bt n m rs/\(∀ x∈rs,Row n x)/\Row n x/\q39 rs n x/\Row n g/\q39 rs n g/\x≠g/\1<=n/\n<=12 /\
 ∀ z l H',Row n z->q39 rs n z->l∈q74 rs n->¬ ch x l=ch g l->qz0 rs n l x z->Same H H'->Q (.str z) H'
abbrev N_tw:List Str:=["table", "row", "goal", "far"]
abbrev P_tw:List Str:=["table", "row", "goal"]
theorem sc_tw:FnScope N_tw P_tw (q02 qc1):=⟨rfl,rfl,rfl,by decide +kernel,rfl,by decide +kernel,by decide +kernel⟩
abbrev N_tw1:List Str:=["near", "goal", "far"]
theorem nd_tw1:N_tw1.Nodup:=by decide +kernel
theorem qT5 {f fn fd':Addr}{fd gn gd':FuncData}(D:Df K mg "step_towards" qc1 P_tw f fd) (Dn:Df K mg "neighbours" qe9 P_ng fn gn) (Gn:FnOk P w K mg base (CXE P w) 8 fn gn P_ng (qD9 C BC BS)) (Dd:Df K mg "differ" qd0 P_df fd' gd') (B:Bt mg):FnOk P w K mg base (CXE P w) 9 f fd P_tw (qG9 C):=by
 refine D.F.okN sc_tw (fun vs H Q E h=>?_) (fun cdv A outer s H vs Q E hr h=>?_)
 ·obtain ⟨t,dx,kp,bt,n,m,rs,x,g,rfl,_⟩:=h
  rfl
 ·obtain ⟨t,dx,kp,bt,n,m,rs,x,g,rfl,tab,hrs,rx,bx,rg,bg,ne,n1,n12,k⟩:=h
  refine ⟨_,q04 (q21 (i:=3) sc_tw.nd rfl (Or.inr rfl) (q15 q27 (by rfl) B.len PySem.boot_len (q00 (q14 Dd (qB3 Dd B) (hr.mono (by decide)) q17 (q00 (pv 1) (q00 (pv 2) q03))) q03)))
   (q05 (q12 (q25 ix_list (q29 (N':=N_tw1) (fm:=[none,some 2,some 3]) rfl ⟨rfl,by decide +kernel,by decide +kernel,rfl,rfl,rfl⟩ (q35 (q14 Dn Gn (hr.mono (by decide)) q17 (q00 (pv 0) (q00 (pv 1) q03)))) (fun _ _ _ _=>(q11 (i:=0) nd_tw1 rfl (Or.inl rfl))) (fun _ _ _ _=>(q63 (q10 qn7 (q15 (qC9 (K:=K) rfl) (by rfl) B.len PySem.boot_len (q00 (q14 Dd (qB3 Dd B) (hr.mono (by decide)) q17 (q00 (pv 0) (q00 (pv 1) q03))) q03)) (pv 2) (q13 _)))) (fun _ _ _ _=>(pv 0))) q06 (fun _ _=>rfl)))),?_⟩
  refine ⟨_,rfl,_,rfl,n,x,g,rfl,rx,rg,n12,fun p1 xs1 H1 hp1 s1' e1 l1=>?_⟩
  refine ⟨p1,_,rfl,.inl (SqL.of e1),?_⟩
  refine ⟨_,rfl,_,rfl,t,dx,kp,bt,n,m,rs,x,rfl,tab.mono s1',hrs,by rw [rx.len]; omega,n1,n12,fun w=>absurd rx w,fun _ f=>absurd (f.symm.trans (qb9 bx)) (by decide),fun _ _ q H2 hq s2 e2=>?_⟩
  refine ⟨q,rfl,⟨_,SqL.of e2⟩,fun p hp=>?_⟩
  refine q40 (K:=K) (a:=q) (xs:=(nbL rs n x).map V.str) (fun i σ H3=>∃ v,σ=[v,some (.str g),some (.int (xs1.length:Nat))]/\Same H2 H3/\H3 p=some (.lst ((((nbL rs n x).take i).filter fun z=>decide (dif n z g < dif n x g)).map V.str))) ⟨none,rfl,Same.new hp,q01⟩ (fun i σ H3 _ ⟨_,_,s3,_⟩=>SqL.of (s3 _ _ e2)) ?_ ?_
  ·rintro i y σ H3 hi ⟨v,rfl,s3,e3⟩
   rw [List.getElem?_map] at hi
   cases zz:(nbL rs n x)[i]? with
   | none=>rw [zz] at hi; cases hi
   | some z =>
    rw [zz] at hi
    cases hi
    obtain ⟨l,hl,ez,bz⟩:=(qx6 rx).mp (List.mem_of_getElem? zz)
    have rz:Row n z:=by rw [ez]; exact qg6 rx
    have sn:∀ q:Str->Bool,(((nbL rs n x).take (i + 1)).filter q)=(((nbL rs n x).take i).filter q) ++ [z].filter q:=fun q=>by
     rw [List.take_add_one,zz,List.filter_append]
     rfl
    refine ⟨_,rfl,_,rfl,n,z,g,rfl,rz,rg,n12,fun p3 xs3 H4 hp3 s4 e4 l4=>⟨p3,_,rfl,.inl (SqL.of e4),_,rfl,_,_,rfl,rfl,_,rfl,q77 (fun c=>?_) (fun c=>?_)⟩⟩
    ·have c:decide (((xs3.length:Nat):Int) < (xs1.length:Nat))=true:=c
     have c:dif n z g < dif n x g:=by have:=of_decide_eq_true c; omega
     refine ⟨_,rfl,_,s4 _ _ e3,?_,_,rfl,Same.grow hp (s3.trans' s4),?_⟩
     ·rw [List.length_map]
      exact Nat.lt_of_le_of_lt (show _<=12 from Nat.le_trans (List.length_filter_le _ _) (Nat.le_trans (List.length_take_le' _ _) (Nat.le_trans (nbL_len rs n x) n12))) (by decide)
     ·rw [q01,sn,show [z].filter (fun z=>decide (dif n z g < dif n x g))=[z] from List.filter_cons_of_pos (p:=fun z=>decide (dif n z g < dif n x g)) (decide_eq_true c),List.map_append]
      rfl
    ·have c:¬ decide (((xs3.length:Nat):Int) < (xs1.length:Nat))=true:=c
     have c:¬ dif n z g < dif n x g:=fun w=>c (decide_eq_true (by omega))
     refine ⟨_,rfl,s3.trans' s4,?_⟩
     rw [s4 _ _ e3,sn,show [z].filter (fun z=>decide (dif n z g < dif n x g))=[] from List.filter_cons_of_neg (p:=fun z=>decide (dif n z g < dif n x g)) (fun w=>c (of_decide_eq_true w)),List.append_nil]
  ·rintro σ H3 ⟨v,rfl,s3,e3⟩
   rw [List.length_map,List.take_length] at e3
   obtain ⟨l0,hl0,d0,t0⟩:=qO6 hrs rx rg bx bg ne
   have r0:Row n (qe3 n ((bun rs n l0).map (·.1)) x):=qg6 rx
   have b0:=t0 _ r0 (z02 rx)
   have m0:qe3 n ((bun rs n l0).map (·.1)) x∈(nbL rs n x).filter fun z=>decide (dif n z g < dif n x g):=by
    rw [List.mem_filter]
    exact ⟨(qx6 rx).mpr ⟨l0,hl0,rfl,b0⟩,decide_eq_true (z73 hrs rx rg r0 bx bg (qV8 hl0) (z02 rx) d0)⟩
   cases zl:(nbL rs n x).filter fun z=>decide (dif n z g < dif n x g) with
   | nil=>rw [zl] at m0; cases m0
   | cons z tl =>
    have mz:z∈(nbL rs n x).filter fun z=>decide (dif n z g < dif n x g):=by rw [zl]; exact List.mem_cons_self
    rw [List.mem_filter] at mz
    obtain ⟨l,hl,ez,bz⟩:=(qx6 rx).mp mz.1
    have rz:Row n z:=by rw [ez]; exact qg6 rx
    have tz:qz0 rs n l x z:=by rw [ez]; exact z02 rx
    rw [zl] at e3
    refine ⟨p,_,_,_,rfl,rfl,SqL.of e3,(show atI _ ((0:Nat):Int)=_ from q46 rfl),?_⟩
    exact k z l H3 rz bz hl (z72 hrs rx rg rz bx bg (qV8 hl) tz (of_decide_eq_true mz.2)) tz (s1'.trans' (s2.trans' s3))
def spWay (C BC BS:Addr):Sp:=fun vs H Q E=>∃(t dx kp bt:Addr) (n m:Nat) (rs:List Str) (x g:Str),vs=[.ref t,.str x,.str g]/\TabAt C H t dx kp bt n m rs/\(∀ x∈rs,Row n x)/\x.length<=100/\g.length<=100/\1<=n/\n<=12 /\
 (¬ Gd rs n x->Ref H E (bCl n BC BS x) (bWd n x))/\(Gd rs n x->¬ Gd rs n g->Ref H E (bCl n BC BS g) (bWd n g)) /\
 (Gd rs n x->Gd rs n g->∀ p us H',H p=none->Same H H'->H' p=some (.lst ((us ++ [g]).map V.str))->Wk rs n x g (us ++ [g])->us.length=dfc rs n x g->Q (.ref p) H')
abbrev N_wy:List Str:=["table", "one", "other", "told"]
abbrev P_wy:List Str:=["table", "one", "other"]
theorem sc_wy:FnScope N_wy P_wy (q02 qE4):=⟨rfl,rfl,rfl,by decide +kernel,rfl,by decide +kernel,by decide +kernel⟩
theorem Wk.snoc {rs:List Str}{n:Nat}{x g z z':Str}{us:List Str}{l:Nat}(h:Wk rs n x g (us ++ [z])) (rz:Row n z') (bz:q39 rs n z') (hl:l∈q74 rs n) (d:¬ ch z l=ch g l) (t:qz0 rs n l z z'):Wk rs n x g ((us ++ [z]) ++ [z']):=by
 refine ⟨?_,fun y hy=>?_,fun i a b ha hb=>?_⟩
 ·rw [List.getElem?_append_left (by rw [List.length_append]; exact Nat.succ_pos _)]
  exact h.head
 ·rcases List.mem_append.mp hy with hy | hy
  ·exact h.good y hy
  ·rw [List.mem_singleton.mp hy]; exact ⟨rz,bz⟩
 ·have L:(us ++ [z]).length=us.length + 1:=by rw [List.length_append]; rfl
  by_cases c:i + 1 < us.length + 1
  ·rw [List.getElem?_append_left (by omega)] at ha hb
   exact h.step i a b ha hb
  ·have il:i + 1 < (us ++ [z]).length + 1:=by
    have:=(List.getElem?_eq_some_iff.mp hb).1
    rw [List.length_append] at this
    exact this
   have e:i=us.length:=by omega
   subst e
   rw [List.getElem?_append_left (by omega),List.getElem?_append_right (Nat.le_refl _),Nat.sub_self] at ha
   rw [List.getElem?_append_right (by omega),L,Nat.sub_self] at hb
   cases ha
   cases hb
   exact ⟨l,hl,d,t⟩
theorem ok_way {f fk fs:Addr}{fd gk gs:FuncData}(D:Df K mg "way" qE4 P_wy f fd) (Dc:Df K mg "check_ruling" qb5 qD4 fk gk) (Gc:FnOk P w K mg base (CXE P w) 7 fk gk qD4 (qm6 C BC BS)) (Dt:Df K mg "step_towards" qc1 P_tw fs gs) (Gt:FnOk P w K mg base (CXE P w) 9 fs gs P_tw (qG9 C)):FnOk P w K mg base (CXE P w) 10 f fd P_wy (spWay C BC BS):=by
 refine D.F.okE sc_wy (fun vs H Q E h=>?_) (fun cdv A outer s H vs Q E hr h=>?_)
 ·obtain ⟨t,dx,kp,bt,n,m,rs,x,g,rfl,_⟩:=h
  rfl
 ·obtain ⟨t,dx,kp,bt,n,m,rs,x,g,rfl,tab,hrs,lx,lg,n1,n12,k1,k2,k3⟩:=h
  refine ⟨_,q04 (q18 (q14 Dc Gc (hr.mono (by decide)) q43 (q00 (pv 0) (q00 (pv 1) q03))))
   (q04 (q18 (q14 Dc Gc (hr.mono (by decide)) q43 (q00 (pv 0) (q00 (pv 2) q03))))
   (PSs.nox (q04 (q21 (i:=3) sc_wy.nd rfl (Or.inl rfl) (q36 (q00 (pv 1) q03)))
   (q04 (qH9 PassesOwn.never (q10 qr2 (q25 ix_list (pv 3) (qL8 qt6 q06) (fun _ _=>rfl)) (pv 2) (q13 _))
   (q05 (q18 (qi8 PySem.F.plainAttrs_list PySem.F.slot_list_append PySem.F.type_list_append q57 (pv 3) (q00 (q14 Dt Gt (hr.mono (by decide)) q17 (q00 (pv 0) (q00 (q25 ix_list (pv 3) (qL8 qt6 q06) (fun _ _=>rfl)) (q00 (pv 2) q03)))) q03)))))
   (q05 (q12 (pv 3))))))),?_⟩
  refine ⟨_,rfl,_,rfl,t,dx,kp,bt,n,m,rs,x,rfl,tab,lx,n1,n12,(q38 k1).1,(q38 k1).2,fun a1 a2 H1 s1'=>?_⟩
  have g1:Gd rs n x:=⟨a1,a2⟩
  refine ⟨_,rfl,_,rfl,t,dx,kp,bt,n,m,rs,g,rfl,tab.mono s1',lg,n1,n12,(q38 fun h=>(k2 g1 h).same s1').1,(q38 fun h=>(k2 g1 h).same s1').2,fun b1 b2 H2 s2=>?_⟩
  have g2:Gd rs n g:=⟨b1,b2⟩
  have rx:=a1
  have rg:=b1
  have bx:=g1.borne
  have bg:=g2.borne
  have k:=k3 g1 g2
  have s02:=s1'.trans' s2
  refine ⟨_,rfl,q22 (show 1<=100 by decide),fun p hp=>?_⟩
  refine ⟨fun m σ H3=>∃(us:List Str) (z:Str),σ=[some (.ref t),some (.str x),some (.str g),some (.ref p)]/\Same H2 H3/\H3 p=some (.lst ((us ++ [z]).map V.str))/\Wk rs n x g (us ++ [z])/\us.length + dfc rs n z g=dfc rs n x g/\m=dfc rs n z g,
   ⟨_,[],x,rfl,Same.new hp,q01,⟨rfl,fun y hy=>by rw [List.mem_singleton.mp hy]; exact ⟨rx,bx⟩,fun i a b ha hb=>by cases i <;> cases hb⟩,Nat.zero_add _,rfl⟩,?_⟩
  rintro m' σ H3 ⟨us,z,rfl,s3,e3,wk,ln,rfl⟩
  obtain ⟨rz,bz⟩:=wk.good z (List.mem_append_right _ (List.mem_singleton_self z))
  refine ⟨_,rfl,_,rfl,p,_,_,_,rfl,rfl,SqL.of e3,qs8 us z,_,rfl,rfl,_,rfl,q77 (fun c=>?_) (fun c=>?_)⟩
  ·have c:(!decide (V.str z=V.str g))=true:=c
   rw [qy6] at c
   have c:z≠g:=by simpa using c
   refine ⟨fun σ' H'=>∃ m',m' < dfc rs n z g/\∃(us:List Str) (z:Str),σ'=[some (.ref t),some (.str x),some (.str g),some (.ref p)]/\Same H2 H'/\H' p=some (.lst ((us ++ [z]).map V.str))/\Wk rs n x g (us ++ [z])/\us.length + dfc rs n z g=dfc rs n x g/\m'=dfc rs n z g,fun σ' H' h=>h,?_⟩
   have dl:dfc rs n x g<=12:=Nat.le_trans (dfc_len rs n x g) n12
   refine ⟨_,rfl,.inl ⟨rfl,_,SqL.of e3⟩,_,rfl,_,rfl,_,rfl,p,_,_,_,rfl,rfl,SqL.of e3,qs8 us z,_,rfl,t,dx,kp,bt,n,m,rs,z,g,rfl,tab.mono (s02.trans' s3),hrs,rz,bz,rg,bg,c,n1,n12,fun z' l H4 rz' bz' hl d tz s4=>?_⟩
   refine ⟨p,_,_,rfl,rfl,s4 _ _ e3,?_,?_⟩
   ·rw [List.length_map,List.length_append]
    exact Nat.lt_of_le_of_lt (show us.length + 1<=13 by omega) (by decide)
   have dt:=z74 hrs rz rg rz' hl tz d
   refine ⟨_,(by omega:dfc rs n z' g < dfc rs n z g),us ++ [z],z',rfl,Same.grow hp (s3.trans' s4),?_,wk.snoc rz' bz' hl d tz,?_,rfl⟩
   ·rw [q01,List.map_append (l₁:=us ++ [z])]
    rfl
   ·rw [List.length_append]
    show us.length + 1 + _=_
    omega
  ·have c:¬ (!decide (V.str z=V.str g))=true:=c
   rw [qy6] at c
   have c:z=g:=by simpa using c
   subst c
   have z0:=(qK3 hrs rz rz bz bz).mpr rfl
   exact ⟨_,rfl,k p us H3 (qa9 s02 hp) (s02.trans' s3) e3 wk (by omega)⟩
def qP4 (C BC BS:Addr):Sp:=fun vs H Q E=>∃(t dx kp bt:Addr) (n m:Nat) (rs:List Str) (x y:Str),vs=[.ref t,.str x,.str y]/\TabAt C H t dx kp bt n m rs/\(∀ x∈rs,Row n x)/\x.length<=100/\y.length<=100/\1<=n/\n<=12 /\
 (¬ Gd rs n x->Ref H E (bCl n BC BS x) (bWd n x))/\(Gd rs n x->¬ Gd rs n y->Ref H E (bCl n BC BS y) (bWd n y))/\(Gd rs n x->Gd rs n y->∀ H',Same H H'->Q (.int (dfc rs n x y:Nat)) H')
abbrev N_st:List Str:=["table", "one", "other"]
abbrev P_st:List Str:=["table", "one", "other"]
theorem sc_st:FnScope N_st P_st (q02 qi1):=⟨rfl,rfl,rfl,by decide +kernel,rfl,by decide +kernel,by decide +kernel⟩
abbrev N_st1:List Str:=["question", "one", "other"]
theorem nd_st1:N_st1.Nodup:=by decide +kernel
theorem z41 {f fk fl:Addr}{fd gk gl:FuncData}(D:Df K mg "steps" qi1 P_st f fd) (Dc:Df K mg "check_ruling" qb5 qD4 fk gk) (Gc:FnOk P w K mg base (CXE P w) 7 fk gk qD4 (qm6 C BC BS)) (Dq:Df K mg "lowest_questions" qc4 ["table"] fl gl) (Gq:FnOk P w K mg base (CXE P w) 7 fl gl ["table"] (qH0 C)) (B:Bt mg):FnOk P w K mg base (CXE P w) 8 f fd P_st (qP4 C BC BS):=by
 refine D.F.okE sc_st (fun vs H Q E h=>?_) (fun cdv A outer s H vs Q E hr h=>?_)
 ·obtain ⟨t,dx,kp,bt,n,m,rs,x,y,rfl,_⟩:=h
  rfl
 ·obtain ⟨t,dx,kp,bt,n,m,rs,x,y,rfl,tab,hrs,lx,lg,n1,n12,k1,k2,k3⟩:=h
  refine ⟨_,q04 (q18 (q14 Dc Gc (hr.mono (by decide)) q43 (q00 (pv 0) (q00 (pv 1) q03))))
   (q04 (q18 (q14 Dc Gc (hr.mono (by decide)) q43 (q00 (pv 0) (q00 (pv 2) q03))))
   (PSs.nox (q05 (q12 (q15 q27 (by rfl) B.len PySem.boot_len (q00 (q29 (N':=N_st1) (fm:=[none,some 1,some 2]) rfl ⟨rfl,by decide +kernel,by decide +kernel,rfl,rfl,rfl⟩ (q35 (q14 Dq Gq (hr.mono (by decide)) q17 (q00 (pv 0) q03))) (fun _ _ _ _=>(q11 (i:=0) nd_st1 rfl (Or.inl rfl))) (fun _ _ _ _=>(q63 (q10 qr2 (q25 q62 (pv 1) (pv 0) (fun _ _=>rfl)) (q25 q62 (pv 2) (pv 0) (fun _ _=>rfl)) (q13 _)))) (fun _ _ _ _=>(pv 0))) q03)))))),?_⟩
  refine ⟨_,rfl,_,rfl,t,dx,kp,bt,n,m,rs,x,rfl,tab,lx,n1,n12,(q38 k1).1,(q38 k1).2,fun a1 a2 H1 s1'=>?_⟩
  have g1:Gd rs n x:=⟨a1,a2⟩
  refine ⟨_,rfl,_,rfl,t,dx,kp,bt,n,m,rs,y,rfl,tab.mono s1',lg,n1,n12,(q38 fun h=>(k2 g1 h).same s1').1,(q38 fun h=>(k2 g1 h).same s1').2,fun b1 b2 H2 s2=>?_⟩
  have g2:Gd rs n y:=⟨b1,b2⟩
  have hx:=a1
  have hy:=b1
  have k:=k3 g1 g2
  have s02:=s1'.trans' s2
  refine ⟨_,rfl,t,dx,kp,bt,n,m,rs,rfl,tab.mono s02,hrs,n1,n12,fun lq H3 hlq s3 e3=>?_⟩
  have s03:=s02.trans' s3
  refine ⟨lq,rfl,⟨_,SqL.of e3⟩,fun p hp=>?_⟩
  have L12:(q74 rs n).length<=12:=Nat.le_trans (q99 rs n) n12
  refine q40 (K:=K) (a:=lq) (xs:=(q74 rs n).map iN) (fun i σ H2=>∃ v zs,σ=[v,some (.str x),some (.str y)]/\Same H3 H2/\H2 p=some (.lst zs)/\zs.length=((q74 rs n).take i).countP (apP x y)) ⟨none,[],rfl,Same.new hp,q01,rfl⟩ (fun i σ H2 _ ⟨_,_,_,s2,_⟩=>SqL.of (s2 _ _ e3)) ?_ ?_
  ·rintro i v' σ H2 hi ⟨v,zs,rfl,s2,e2,l2⟩
   rw [List.getElem?_map] at hi
   cases z:(q74 rs n)[i]? with
   | none=>rw [z] at hi; cases hi
   | some lo =>
    rw [z] at hi
    cases hi
    have il:=(List.getElem?_eq_some_iff.mp z).1
    have mem:=List.mem_of_getElem? z
    unfold q74 at mem
    rw [List.mem_filter,List.mem_range] at mem
    have sx:x.length<=sizeLine:=by rw [hx.len]; exact q22 (by omega)
    have sy:y.length<=sizeLine:=by rw [hy.len]; exact q22 (by omega)
    have sn:((q74 rs n).take (i + 1)).countP (apP x y)=((q74 rs n).take i).countP (apP x y) + (apP x y lo).toNat:=by
     rw [List.take_add_one,z,List.countP_append]
     congr 1
    have c12:zs.length<=12:=by
     rw [l2]
     refine Nat.le_trans List.countP_le_length ?_
     rw [List.length_take]
     omega
    refine ⟨_,rfl,_,rfl,_,_,_,rfl,rfl,sx,qt4 hx mem.1,_,rfl,_,rfl,_,_,_,rfl,rfl,sy,qt4 hy mem.1,rfl,_,rfl,q77 (fun c=>?_) (fun c=>?_)⟩
    ·have c:(!decide (s1 (ch x lo)=s1 (ch y lo)))=true:=c
     rw [q68] at c
     have c:¬ ch x lo=ch y lo:=by simpa using c
     refine ⟨_,rfl,zs,e2,Nat.lt_of_le_of_lt c12 (by decide),_,_,rfl,Same.grow hp s2,q01,?_⟩
     rw [List.length_append,l2,sn]
     unfold apP
     rw [decide_eq_true c]
     rfl
    ·have c:¬ (!decide (s1 (ch x lo)=s1 (ch y lo)))=true:=c
     rw [q68] at c
     have c:ch x lo=ch y lo:=by simpa using c
     refine ⟨_,_,rfl,s2,e2,?_⟩
     rw [l2,sn]
     unfold apP
     rw [decide_eq_false (fun w=>w c)]
     rfl
  ·rintro σ H4 ⟨v,zs,rfl,s4,e4,l4⟩
   rw [List.length_map,List.take_length] at l4
   refine ⟨p,zs,rfl,.inl (SqL.of e4),?_⟩
   rw [l4]
   exact k H4 (s03.trans' s4)
end
end K67
namespace L2
open PySem PySem.Spec PyProof.Rows
structure Xc (K:PySem.W.Frag) (mg:Str->Option Value) (W B f:Addr) (g:FuncData) (cls qn:Str) (st:Stmt):Prop where
 m:mg cls=some (.ref B)
 k:XKl K B
 s:XSub K B W
 i:XMk K B f
 F:Fun K "__init__" qn st f g
 b:Binds K g ["self"] []
end L2
namespace L2
open PySem PySem.Spec PyProof.Rows
def Mt (n:Nat) (p z:Str):Prop:=∀ i,i < n->ch p i=45∨ch p i=ch z i
structure Near (rs:List Str) (n:Nat) (p x z:Str):Prop where
 row:Row n z
 fit:∀ i,i < n->qz1 rs n p i (ch x i)->ch z i=ch x i
 nof:∀ i,i < n->¬ qz1 rs n p i (ch x i)->¬ ch z i=ch x i
section
variable {rs:List Str}{n:Nat}(hrs:∀ x∈rs,Row n x) {p x z:Str}(rx:Row n x) (bx:q39 rs n x) (hp:Pat n p) (sp:qe2 rs n p) (N:Near rs n p x z)
theorem qB6 {o:Str}(bo:q39 rs n o) (m:Mt n p o):qe2 rs n p:=fun q r hq hr nq nr=>by
 have e1:ch p q=ch o q:=(m q hq).resolve_left nq
 have e2:ch p r=ch o r:=(m r hr).resolve_left nr
 rw [e1,e2]
 exact bo q r hq hr
include hrs rx bx N
theorem Near.forced {i:Nat}(hi:i < n) (c:¬ ch z i=ch x i):∃ g,g < n/\¬ ch p g=45/\∀ y∈rs,ch y g=ch p g->ch y i=ch z i:=by
 have nf:¬ qz1 rs n p i (ch x i):=fun w=>c (N.fit i hi w)
 have b1:=rx.bin i hi
 have b2:=N.row.bin i hi
 by_cases h:∃ g,g < n/\¬ ch p g=45/\¬ 0 < q65 rs i (ch x i) g (ch p g)
 ·obtain ⟨g,hg,ng,e⟩:=h
  refine ⟨g,hg,ng,fun y hy e2=>?_⟩
  have b3:=(hrs y hy).bin i hi
  have:¬ ch y i=ch x i:=fun w=>e (cnt_pos.mpr ⟨y,hy,w,e2⟩)
  omega
 ·refine absurd ⟨bx i i hi hi,fun r hr nr=>?_⟩ nf
  cases Nat.eq_zero_or_pos (q65 rs i (ch x i) r (ch p r)) with
  | inr h=>exact h
  | inl e=>exact absurd ⟨r,hr,nr,by omega⟩ h
include sp
theorem Near.fits {i:Nat}(hi:i < n):qz1 rs n p i (ch z i):=by
 by_cases c:ch z i=ch x i
 ·by_cases f:qz1 rs n p i (ch x i)
  ·rw [c]; exact f
  ·exact absurd c (N.nof i hi f)
 ·obtain ⟨g,hg,ng,h⟩:=Near.forced hrs rx bx N hi c
  refine ⟨?_,fun r hr nr=>?_⟩
  ·obtain ⟨y,hy,e,_⟩:=cnt_pos.mp (sp g g hg hg ng ng)
   exact cnt_pos.mpr ⟨y,hy,h y hy e,h y hy e⟩
  ·obtain ⟨y,hy,e,e2⟩:=cnt_pos.mp (sp g r hg hr ng nr)
   exact cnt_pos.mpr ⟨y,hy,h y hy e,e2⟩
theorem Near.borne:q39 rs n z:=fun q r hq hr=>by
 by_cases c:ch z q=ch x q
 ·by_cases d:ch z r=ch x r
  ·rw [c,d]; exact bx q r hq hr
  ·obtain ⟨g,hg,ng,h⟩:=Near.forced hrs rx bx N hr d
   obtain ⟨y,hy,e1,e2⟩:=cnt_pos.mp ((Near.fits hrs rx bx sp N hq).2 g hg ng)
   exact cnt_pos.mpr ⟨y,hy,e1,h y hy e2⟩
 ·obtain ⟨g,hg,ng,h⟩:=Near.forced hrs rx bx N hq c
  obtain ⟨y,hy,e1,e2⟩:=cnt_pos.mp ((Near.fits hrs rx bx sp N hr).2 g hg ng)
  exact cnt_pos.mpr ⟨y,hy,h y hy e2,e1⟩
include hp
theorem Near.mt:Mt n p z:=fun i hi=>by
 by_cases e:ch p i=45
 ·exact .inl e
 refine .inr ?_
 by_cases c:ch x i=ch p i
 ·have f:qz1 rs n p i (ch x i):=by
   rw [c]
   exact ⟨sp i i hi hi e e,fun r hr nr=>sp i r hi hr e nr⟩
  rw [N.fit i hi f,c]
 ·have f:¬ qz1 rs n p i (ch x i):=fun f=>by
   obtain ⟨y,hy,e1,e2⟩:=cnt_pos.mp (f.2 i hi e)
   exact c (e1.symm.trans e2)
  have d:=N.nof i hi f
  have b1:=rx.bin i hi
  have b2:=N.row.bin i hi
  have b3:=hp.2 i hi
  omega
omit hp
theorem Near.on {o:Str}(bo:q39 rs n o) (m:Mt n p o) {i:Nat}(hi:i < n) (c:¬ ch z i=ch x i):ch o i=ch z i:=by
 obtain ⟨g,hg,ng,h⟩:=Near.forced hrs rx bx N hi c
 obtain ⟨y,hy,e1,e2⟩:=cnt_pos.mp (bo g i hg hi)
 have e3:ch p g=ch o g:=(m g hg).resolve_left ng
 rw [<- e2]
 exact h y hy (e1.trans e3.symm)
theorem Near.dfc {o:Str}(bo:q39 rs n o) (m:Mt n p o):dfc rs n x z + dfc rs n z o=dfc rs n x o:=by
 refine ((qG3 (p:=apP x z) (q:=apP z o) (r:=apP x o) (L:=q74 rs n) fun l _=>ap_tri x o z l).2).mpr fun l hl=>?_
 have ln:l < n:=by
  unfold q74 at hl
  rw [List.mem_filter,List.mem_range] at hl
  exact hl.1
 unfold apP
 by_cases c:ch z l=ch x l
 ·rw [c,decide_eq_false (show ¬ ¬ ch x l=ch x l from fun w=>w rfl)]
  exact Nat.zero_add _
 ·have d1:¬ ch x l=ch z l:=fun w=>c w.symm
  rw [Near.on hrs rx bx sp N bo m ln c,decide_eq_true d1,decide_eq_false (show ¬ ¬ ch z l=ch z l from fun w=>w rfl)]
  rfl
end
end L2
namespace K67
open PySem L2
open PyProof.Rows (envOfC)
abbrev qe8:Stmt:=q88 (top 7) 0
abbrev qe5:Stmt:=q88 (top 10) 0
abbrev qa4:Stmt:=top 51
section
variable {P:Program}{w:World}{K:PySem.W.Frag}{mg:Str->Option Value}{base:Heap}{C fi fa ft fy fm fc:Addr}{gi ga gt gy gm gc:FuncData}{W BC BS fW fC fS BP fP BU fU:Addr}{gW gC gS gP gU:FuncData}
theorem z19:FnScope ["self"] ["self"] (q02 qe8):=⟨rfl,rfl,rfl,by decide +kernel,rfl,by decide +kernel,by decide +kernel⟩
theorem z46 (T:Xs K mg W BC BS fW fC fS gW gC gS) (Z:Xc K mg W BP fP gP "BadPattern" "BadPattern.__init__" qe8):FnOk P w K mg base (CXE P w) 2 fP gP ["self"] (qp6 BP "bad pattern"):=by
 refine Z.F.okN z19 (fun vs H Q E h=>?_) (fun cdv A outer s H vs Q E hr h=>?_)
 ·obtain ⟨ea,tb,rfl,_⟩:=h
  rfl
 ·obtain ⟨ea,tb,rfl,e1,k⟩:=h
  refine ⟨_,q05 (q18 (qh0 T.aW (qh1 T) hr (by rfl) T.mW T.bW q17 (q00 (pv 0) (q00 q20 q03)))),?_⟩
  exact ⟨_,rfl,ea,BP,tb,_,rfl,e1,Z.k,k⟩
theorem z16:FnScope ["self"] ["self"] (q02 qe5):=⟨rfl,rfl,rfl,by decide +kernel,rfl,by decide +kernel,by decide +kernel⟩
theorem z38 (T:Xs K mg W BC BS fW fC fS gW gC gS) (Z:Xc K mg W BU fU gU "Unmatched" "Unmatched.__init__" qe5):FnOk P w K mg base (CXE P w) 2 fU gU ["self"] (qp6 BU "unmatched"):=by
 refine Z.F.okN z16 (fun vs H Q E h=>?_) (fun cdv A outer s H vs Q E hr h=>?_)
 ·obtain ⟨ea,tb,rfl,_⟩:=h
  rfl
 ·obtain ⟨ea,tb,rfl,e1,k⟩:=h
  refine ⟨_,q05 (q18 (qh0 T.aW (qh1 T) hr (by rfl) T.mW T.bW q17 (q00 (pv 0) (q00 q20 q03)))),?_⟩
  exact ⟨_,rfl,ea,BU,tb,_,rfl,e1,Z.k,k⟩
def z98 (BP:Addr):Sp:=fun vs H Q E=>∃(x:Str) (n:Nat),vs=[.str x,.int n]/\x.length<=100/\1<=n/\n<=12/\(Pat n x->∀ H',Same H H'->Q .non H')/\(¬ Pat n x->Ref H E BP "bad pattern")
theorem z25:FnScope Pip Pip (q02 qh6):=⟨rfl,rfl,rfl,by decide +kernel,rfl,by decide +kernel,by decide +kernel⟩
theorem ok_cpat {f fi':Addr}{fd gi':FuncData}(D:Df K mg "check_pattern" qh6 Pip f fd) (Di:Df K mg "is_pattern" qf1 Pip fi' gi') (Gi:FnOk P w K mg base (CXE P w) 2 fi' gi' Pip qE1) (T:Xs K mg W BC BS fW fC fS gW gC gS) (Z:Xc K mg W BP fP gP "BadPattern" "BadPattern.__init__" qe8):FnOk P w K mg base (CXE P w) 4 f fd Pip (z98 BP):=by
 refine D.F.okE z25 (fun vs H Q E h=>?_) (fun cdv A outer s H vs Q E hr h=>?_)
 ·obtain ⟨x,n,rfl,_⟩:=h
  rfl
 ·obtain ⟨x,n,rfl,hx,n1,n12,k1,k2⟩:=h
  refine ⟨_,q05 (q30 (qa7 (q61 (q14 Di Gi (hr.mono (by decide)) q17 (q00 (pv 0) (q00 (pv 1) q03))))) (q05 (qg8 rfl q43 (qb6 Z.k Z.i (z46 T Z) hr (by rfl) Z.m Z.b q43))) q16),?_⟩
  refine ⟨_,rfl,_,rfl,x,n,rfl,hx,n1,n12,fun b H' hb s'=>⟨_,rfl,?_⟩⟩
  by_cases hp:Pat n x
  ·rw [hb.mpr hp]
   exact q31 (k1 hp H' s')
  ·have:b=false:=by cases b with
    | false=>rfl
    | true=>exact absurd (hb.mp rfl) hp
   subst this
   exact q48 fun ea he=>((k2 hp).same s').raise Z.k he
open Classical in
noncomputable def qN5 (rs:List Str) (n:Nat) (p x:Str) (i:Nat):List Nat:=(List.range i).filter fun q=>decide (¬ qz1 rs n p q (ch x q))
open Classical in
theorem qU8 {rs:List Str}{n:Nat}{p x:Str}(rx:Row n x):Near rs n p x (qe3 n (qN5 rs n p x n) x):=by
 have cc:∀ i,i < n->ch (qe3 n (qN5 rs n p x n) x) i=if i∈qN5 rs n p x n then qF0 (ch x i) else ch x i:=fun i hi=>by
  unfold qe3
  rw [q55 hi]
  rfl
 have mem:∀ i,i < n->(i∈qN5 rs n p x n↔¬ qz1 rs n p i (ch x i)):=fun i hi=>by
  unfold qN5
  rw [List.mem_filter,List.mem_range,decide_eq_true_iff]
  exact ⟨fun h=>h.2,fun h=>⟨hi,h⟩⟩
 refine ⟨qg6 rx,fun i hi f=>?_,fun i hi f=>?_⟩
 ·rw [cc i hi,if_neg (fun w=>(mem i hi).mp w f)]
 ·rw [cc i hi,if_pos ((mem i hi).mpr f)]
  have b:=rx.bin i hi
  unfold qF0
  split <;> omega
def qA0 (C BC BS BP BU:Addr):Sp:=fun vs H Q E=>∃(t dx kp bt:Addr) (n m:Nat) (rs:List Str) (x p:Str),vs=[.ref t,.str x,.str p]/\TabAt C H t dx kp bt n m rs/\x.length<=100/\p.length<=100/\1<=n/\n<=12 /\
 (¬ Gd rs n x->Ref H E (bCl n BC BS x) (bWd n x))/\(Gd rs n x->¬ Pat n p->Ref H E BP "bad pattern")/\(Gd rs n x->Pat n p->¬ qe2 rs n p->Ref H E BU "unmatched")/\(Gd rs n x->Pat n p->qe2 rs n p->∀ z H',Near rs n p x z->Same H H'->Q (.str z) H')
abbrev N_ne:List Str:=["table", "row", "pattern"]
abbrev P_ne:List Str:=["table", "row", "pattern"]
theorem sc_ne:FnScope N_ne P_ne (q02 qa4):=⟨rfl,rfl,rfl,by decide +kernel,rfl,by decide +kernel,by decide +kernel⟩
abbrev N_ne1:List Str:=["question", "sign", "table", "pattern"]
theorem zb0:N_ne1.Nodup:=by decide +kernel
open Classical in
theorem qM0 {f fk fp fg fu ff:Addr}{fd gk gp gg gu gf:FuncData}(D:Df K mg "nearest" qa4 P_ne f fd) (Dc:Df K mg "check_ruling" qb5 qD4 fk gk) (Gc:FnOk P w K mg base (CXE P w) 7 fk gk qD4 (qm6 C BC BS)) (Dp:Df K mg "check_pattern" qh6 Pip fp gp) (Gp:FnOk P w K mg base (CXE P w) 4 fp gp Pip (z98 BP)) (Dg:Df K mg "gaps" qj7 Pgp fg gg) (Gg:FnOk P w K mg base (CXE P w) 5 fg gg Pgp (qH5 C))
  (Du:Df K mg "turned" qb2 P_tu fu gu) (Gu:FnOk P w K mg base (CXE P w) 3 fu gu P_tu (qv9 K)) (Df':Df K mg "fits" qm9 Pft ff gf) (Gf:FnOk P w K mg base (CXE P w) 4 ff gf Pft (qQ1 C)) (T:Tb K mg C fi fa ft fy fm fc gi ga gt gy gm gc) (X:Xs K mg W BC BS fW fC fS gW gC gS) (Z:Xc K mg W BU fU gU "Unmatched" "Unmatched.__init__" qe5) (M:Gm mg):FnOk P w K mg base (CXE P w) 8 f fd P_ne (qA0 C BC BS BP BU):=by
 refine D.F.okE sc_ne (fun vs H Q E h=>?_) (fun cdv A outer s H vs Q E hr h=>?_)
 ·obtain ⟨t,dx,kp,bt,n,m,rs,x,p,rfl,_⟩:=h
  rfl
 ·obtain ⟨t,dx,kp,bt,n,m,rs,x,p,rfl,tab,lx,lp,n1,n12,k1,k2,k3,k4⟩:=h
  refine ⟨_,q04 (q18 (q14 Dc Gc (hr.mono (by decide)) q43 (q00 (pv 0) (q00 (pv 1) q03))))
   (q04 (q18 (q14 Dp Gp (hr.mono (by decide)) q43 (q00 (pv 2) (q00 (q82 (pv 0) rfl) q03))))
   (q04 (q30 (qo4 (q14 Dg Gg (hr.mono (by decide)) q43 (q00 (pv 0) (q00 (pv 2) q03))) (fun _=>rfl)) (q05 (qg8 rfl q43 (qb6 Z.k Z.i (z38 X Z) (hr.mono (by decide)) (by rfl) Z.m Z.b q43))) q16)
   (PSs.nox (q05 (q12 (q14 Du Gu (hr.mono (by decide)) q17 (q00 (pv 1) (q00 (q29 (g:=(qD5 K 2 (q64 (q54 0) (q64 (q54 1) qD6)))) (N':=N_ne1) (fm:=[none,none,some 0,some 2]) rfl ⟨rfl,by decide +kernel,by decide +kernel,rfl,rfl,rfl⟩ (ql7 (by rfl) M.enum (q00 (pv 1) q03)) (fun _ _ _ _=>(qa8 rfl (q23 (q11 (i:=0) zb0 rfl (Or.inl rfl)) (q23 (q11 (i:=1) zb0 rfl (Or.inl rfl)) q72)))) (fun _ _ _ _=>(q63 (qa7 (q61 (q14 Df' Gf (hr.mono (by decide)) q17 (q00 (pv 2) (q00 (pv 3) (q00 (pv 0) (q00 (pv 1) q03))))))))) (fun _ _ _ _=>(pv 0))) q03)))))))),?_⟩
  refine ⟨_,rfl,_,rfl,t,dx,kp,bt,n,m,rs,x,rfl,tab,lx,n1,n12,(q38 k1).1,(q38 k1).2,fun a1 a2 H1 s1'=>?_⟩
  have g1:Gd rs n x:=⟨a1,a2⟩
  have tab1:=tab.mono s1'
  refine ⟨_,rfl,_,rfl,t,C,dx,_,_,rfl,tab1.ins,T.cl,T.nQ,rfl,p,n,rfl,lp,n1,n12,fun hp H2 s2=>?_,fun hp=>(k2 g1 hp).same s1'⟩
  have tab2:=tab1.mono s2
  have s02:=s1'.trans' s2
  refine ⟨_,rfl,_,rfl,t,dx,kp,bt,n,m,rs,p,rfl,tab2,hp,n12,fun pg H3 hpg a3=>?_⟩
  obtain ⟨s3,as,e3,t3⟩:=a3
  have s03:=s02.trans' s3
  cases z:pgM rs 0 (q78 p n) with
  | cons k0 kt =>
   rw [z] at t3
   cases as with
   | nil=>exact absurd t3.1 (by simp)
   | cons a0 at' =>
    have ns:¬ qe2 rs n p:=fun w=>by rw [qJ8 w] at z; cases z
    exact ⟨true,.inl ⟨_,SqL.of e3,rfl⟩,q48 fun ea he=>((k3 g1 hp ns).same s03).raise Z.k he⟩
  | nil =>
   rw [z] at t3
   have:as=[]:=List.length_eq_zero_iff.mp t3.1
   subst this
   have st:=stands_of z
   refine ⟨false,.inl ⟨_,SqL.of e3,rfl⟩,q31 ?_⟩
   have tab3:=tab2.mono s3
   refine ⟨_,rfl,_,rfl,x,rfl,fun pq hpq=>?_⟩
   refine qp0 (fun i σ H4=>∃ v0 v1,σ=[v0,v1,some (.ref t),some (.str p)]/\Same H3 H4/\H4 pq=some (.lst ((qN5 rs n p x i).map iN))) ⟨none,none,rfl,Same.new hpq,q01⟩ ?_ ?_
   ·rintro i Tp σ H4 hi hTp ⟨v0,v1,rfl,s4,e4⟩
    rw [a1.len] at hi
    have sT:=Same.new (o:=.tup [.int i,sg x i]) hTp
    have sn:qN5 rs n p x (i + 1)=qN5 rs n p x i ++ if qz1 rs n p i (ch x i) then [] else [i]:=by
     unfold qN5
     rw [List.range_succ,List.filter_append]
     congr 1
     by_cases w:qz1 rs n p i (ch x i)
     ·rw [if_pos w]
      exact List.filter_cons_of_neg (by simpa using w)
     ·rw [if_neg w]
      exact List.filter_cons_of_pos (p:=fun q=>decide (¬ qz1 rs n p q (ch x q))) (decide_eq_true w)
    have ln:(qN5 rs n p x i).length<=12:=by
     unfold qN5
     refine Nat.le_trans (List.length_filter_le _ _) ?_
     rw [List.length_range]
     omega
    refine ⟨Tp,_,rfl,SqT.of q01,rfl,_,_,rfl,_,_,rfl,rfl,?_⟩
    refine ⟨_,rfl,_,rfl,_,rfl,_,rfl,t,dx,kp,bt,n,m,rs,p,i,ch x i,rfl,tab3.mono (s4.trans' sT),hp,n12,hi,a1.bin i hi,fun b H5 hb s5=>⟨_,rfl,?_⟩⟩
    have s45:=sT.trans' s5
    by_cases w:qz1 rs n p i (ch x i)
    ·rw [hb.mpr w]
     refine q31 ⟨_,_,rfl,s4.trans' s45,?_⟩
     rw [sn,if_pos w,List.append_nil]
     exact s45 _ _ e4
    ·have:b=false:=by cases b with
      | false=>rfl
      | true=>exact absurd (hb.mp rfl) w
     subst this
     refine q48 ⟨_,rfl,_,s45 _ _ e4,?_,_,_,rfl,Same.grow hpq (s4.trans' s45),?_⟩
     ·rw [List.length_map]
      exact Nat.lt_of_le_of_lt ln (by decide)
     ·rw [q01,sn,if_neg w,List.map_append]
      rfl
   ·rintro σ H4 ⟨v0,v1,rfl,s4,e4⟩
    rw [a1.len] at e4
    exact ⟨pq,n,qN5 rs n p x n,x,rfl,a1,n12,SqL.of e4,fun H5 s5=>k4 g1 hp st _ H5 (qU8 a1) (s03.trans' (s4.trans' s5))⟩
end
end K67
namespace L2
open PySem PySem.Spec PyProof.Rows
section
variable {X:Cx}
theorem qK6 (hc:X.calm=true):CallR X (.builtin "sum") (fun xs H Q=>∃(a:Addr) (ns:List Int),xs=[.ref a]/\SqL X.K H a (ns.map V.int)/\Q (.int ns.sum) H):=by
 intro pins s σ H xs us Q I r h
 obtain ⟨a,ns,rfl,hq,q⟩:=h
 obtain ⟨u,rfl,ru⟩:=r.one
 cases ru
 obtain ⟨its,rv,p,hz⟩:=I.list hq
 refine call_sum_walkAnyS (wpAny_pyIter_list p.isList ?_)
 have lt:a < s.heap.objs.size:=by obtain ⟨o,n,e,_⟩:=p; exact Heap.lt_size e
 have ne:a≠s.heap.objs.size:=Nat.ne_of_lt lt
 have hh:X.A.in1.handled=none:=I.ok.hd hc
 have ln:its.length=ns.length:=by rw [<- rv.length,List.length_map]
 refine ⟨s.heap.objs.size,_,_,_,_,_,_,fun i=>ns.getD i 0,rfl,(Walks.list hh _ a ne its.toArray).toS,⟨⟨_,Heap.get?_push_size _ rfl,rfl,rfl⟩,p.isList.push _⟩,fun b hb=>?_,fun i v hv=>?_,fun s' t' hmv=>?_⟩
 ·show b < (s.heap.push _).objs.size
  rw [Heap.size_push]
  rcases List.mem_cons.mp hb with e | hb
  ·rw [e]; exact Nat.lt_succ_self _
  ·rw [List.mem_singleton.mp hb]; exact Nat.lt_succ_of_lt lt
 ·have hv':its[i]? = some v:=by simpa using hv
  have il:i < ns.length:=by rw [<- ln]; exact (List.getElem?_eq_some_iff.mp hv').1
  obtain ⟨u,eu,ru⟩:=rv.get (i:=i) (x:=.int ns[i]) (by rw [List.getElem?_map,List.getElem?_eq_getElem il]; rfl)
  rw [hv'] at eu
  cases eu
  obtain ⟨t,e⟩:=ru
  exact ⟨t,by rw [e]; simp [List.getD_eq_getElem?_getD,List.getElem?_eq_getElem il]⟩
 ·have e:preSum (fun i=>ns.getD i 0) its.toArray.size=ns.sum:=by
   rw [List.size_toArray,ln,qu0 ns _ (Nat.le_refl _),List.take_length]
  have kp:∀ b o,s.heap.get? b=some o->s'.heap.get? b=some o:=fun b o e =>
   hmv.heap b o (fun hI=>by
    rw [List.mem_singleton] at hI
    have lt:=Heap.lt_size e
    rw [hI] at lt
    exact Nat.lt_irrefl _ lt) (Heap.get?_push_of_some _ e)
  rw [Moved.eq_with hmv]
  exact ⟨.int ns.sum,H,I.kept (t':=s'.toks) kp,⟨t',by rw [e]⟩,q⟩
end
end L2
namespace K67
open PySem L2
open PyProof.Rows (envOfC)
abbrev qf2:Stmt:=q88 (top 11) 0
abbrev qf3:Stmt:=q88 (top 12) 0
abbrev qh9:Stmt:=top 54
abbrev qa5:Stmt:=top 55
abbrev qp9:Stmt:=top 56
abbrev qq6:Stmt:=top 57
abbrev CI:=List (Str×Int)
def ckI (p:Str×Int):List Key:=[.inr p.1,.inl p.2]
def CrI (H:Hp) (l:Addr) (cs:CI):Prop:=∃ as:List Addr,H l=some (.lst (as.map V.ref))/\Tups H as (cs.map ckI)
theorem CrI.mono {H H':Hp}{l:Addr}{cs:CI}(h:CrI H l cs) (s:Same H H'):CrI H' l cs:=by
 obtain ⟨rs,a,b⟩:=h
 exact ⟨rs,s _ _ a,b.mono s⟩
def whI (cs:CI):Int:=(cs.map (·.2)).sum
def ywI (cs:CI) (q:Nat):List Int:=(cs.filter fun p=>decide (ch p.1 q=121)).map (·.2)
def qN4 (cs:CI) (q:Nat):Int:=(ywI cs q).sum
def qx5 (y n:Int):Nat:=if n < 2 * y then 121 else if 2 * y < n then 110 else 45
theorem qN8 (cs:CI) (q:Nat) (p:Str×Int):ywI (cs ++ [p]) q=if ch p.1 q=121 then ywI cs q ++ [p.2] else ywI cs q:=by
 unfold ywI
 rw [List.filter_append,List.map_append]
 by_cases z:ch p.1 q=121
 ·rw [if_pos z]; simp [z]
 ·rw [if_neg z]; simp [z]
theorem yw_len (cs:CI) (q:Nat):(ywI cs q).length<=cs.length:=by
 unfold ywI
 rw [List.length_map]
 exact List.length_filter_le _ _
theorem ch_atL {x:Str}{n q:Nat}(h:x.length=n) (hq:q < n):atI x.cps.toList (q:Int)=some (ch x q):=by
 exact (congrArg (fun z:Str=>atI z.cps.toList (q:Int)) (qd8 h)).trans (z00 hq)
section
variable {P:Program}{w:World}{K:PySem.W.Frag}{mg:Str->Option Value}{base:Heap}{C fi fa ft fy fm fc:Addr}{gi ga gt gy gm gc:FuncData}{W BC BS fW fC fS BH fH BE fE:Addr}{gW gC gS gH gE:FuncData}
theorem z22:FnScope ["self"] ["self"] (q02 qf2):=⟨rfl,rfl,rfl,by decide +kernel,rfl,by decide +kernel,by decide +kernel⟩
theorem z48 (T:Xs K mg W BC BS fW fC fS gW gC gS) (Z:Xc K mg W BH fH gH "BadWeight" "BadWeight.__init__" qf2):FnOk P w K mg base (CXE P w) 2 fH gH ["self"] (qp6 BH "bad weight"):=by
 refine Z.F.okN z22 (fun vs H Q E h=>?_) (fun cdv A outer s H vs Q E hr h=>?_)
 ·obtain ⟨ea,tb,rfl,_⟩:=h
  rfl
 ·obtain ⟨ea,tb,rfl,e1,k⟩:=h
  refine ⟨_,q05 (q18 (qh0 T.aW (qh1 T) hr (by rfl) T.mW T.bW q17 (q00 (pv 0) (q00 q20 q03)))),?_⟩
  exact ⟨_,rfl,ea,BH,tb,_,rfl,e1,Z.k,k⟩
theorem z23:FnScope ["self"] ["self"] (q02 qf3):=⟨rfl,rfl,rfl,by decide +kernel,rfl,by decide +kernel,by decide +kernel⟩
theorem z49 (T:Xs K mg W BC BS fW fC fS gW gC gS) (Z:Xc K mg W BE fE gE "Even" "Even.__init__" qf3):FnOk P w K mg base (CXE P w) 2 fE gE ["self"] (qp6 BE "even"):=by
 refine Z.F.okN z23 (fun vs H Q E h=>?_) (fun cdv A outer s H vs Q E hr h=>?_)
 ·obtain ⟨ea,tb,rfl,_⟩:=h
  rfl
 ·obtain ⟨ea,tb,rfl,e1,k⟩:=h
  refine ⟨_,q05 (q18 (qh0 T.aW (qh1 T) hr (by rfl) T.mW T.bW q17 (q00 (pv 0) (q00 q20 q03)))),?_⟩
  exact ⟨_,rfl,ea,BE,tb,_,rfl,e1,Z.k,k⟩
def spCw (BH:Addr):Sp:=fun vs H Q E=>∃ w:Int,vs=[.int w]/\(1<=w->Q .non H)/\(w < 1->Ref H E BH "bad weight")
theorem sc_cw:FnScope ["weight"] ["weight"] (q02 qa5):=⟨rfl,rfl,rfl,by decide +kernel,rfl,by decide +kernel,by decide +kernel⟩
theorem ok_cw {f:Addr}{fd:FuncData}(D:Df K mg "check_weight" qa5 ["weight"] f fd) (T:Xs K mg W BC BS fW fC fS gW gC gS) (Z:Xc K mg W BH fH gH "BadWeight" "BadWeight.__init__" qf2):FnOk P w K mg base (CXE P w) 4 f fd ["weight"] (spCw BH):=by
 refine D.F.okE sc_cw (fun vs H Q E h=>?_) (fun cdv A outer s H vs Q E hr h=>?_)
 ·obtain ⟨x,rfl,_⟩:=h
  rfl
 ·obtain ⟨x,rfl,k1,k2⟩:=h
  refine ⟨_,q05 (q30 (q10 qn7 (pv 0) q06 (q13 _)) (q05 (qg8 rfl q43 (qb6 Z.k Z.i (z48 T Z) hr (by rfl) Z.m Z.b q43))) q16),?_⟩
  refine ⟨_,rfl,_,_,rfl,rfl,_,rfl,q77 (fun z=>?_) (fun z=>?_)⟩
  ·have z:x < 1:=of_decide_eq_true z
   exact fun ea he=>(k2 z).raise Z.k he
  ·have z:¬ decide (x < 1)=true:=z
   have z:¬ x < 1:=fun w=>z (decide_eq_true w)
   exact k1 (by omega)
def spWy:Sp:=fun vs H Q _=>∃(l:Addr) (cs:CI) (n q:Nat),vs=[.ref l,.int q]/\CrI H l cs/\(∀ p∈cs,p.1.length=n)/\q < n/\n<=12/\cs.length<=100/\∀ H',Same H H'->Q (.int (qN4 cs q)) H'
abbrev N_wye:List Str:=["crowd", "question"]
abbrev z88:List Str:=["crowd", "question"]
theorem sc_wye:FnScope N_wye z88 (q02 qp9):=⟨rfl,rfl,rfl,by decide +kernel,rfl,by decide +kernel,by decide +kernel⟩
abbrev N_wye1:List Str:=["row", "weight", "question"]
theorem qV0:N_wye1.Nodup:=by decide +kernel
theorem ok_wy {f:Addr}{fd:FuncData}(D:Df K mg "weight_of_yes" qp9 z88 f fd) (B:Bt mg) (M:Gm mg):FnOk P w K mg base (CXE P w) 1 f fd z88 spWy:=by
 refine D.F.okN sc_wye (fun vs H Q E h=>?_) (fun cdv A outer s H vs Q E hr h=>?_)
 ·obtain ⟨l,cs,n,q,rfl,_⟩:=h
  rfl
 ·obtain ⟨l,cs,n,q,rfl,⟨rs,el,tl⟩,ok,hq,n12,l20,k⟩:=h
  refine ⟨_,q05 (q12 (q15 (qK6 rfl) (by rfl) M.sum (by rfl) (q00 (q29 (g:=(qD5 K 2 (q64 (q54 0) (q64 (q54 1) qD6)))) (N':=N_wye1) (fm:=[none,none,some 1]) rfl ⟨rfl,by decide +kernel,by decide +kernel,rfl,rfl,rfl⟩ (q35 (pv 0)) (fun _ _ _ _=>(qa8 rfl (q23 (q11 (i:=0) qV0 rfl (Or.inl rfl)) (q23 (q11 (i:=1) qV0 rfl (Or.inl rfl)) q72)))) (fun _ _ _ _=>(q63 (q10 q37 (q25 q62 (pv 0) (pv 2) (fun _ _=>rfl)) q20 (q13 _)))) (fun _ _ _ _=>(pv 1))) q03))),?_⟩
  refine ⟨_,rfl,l,rfl,⟨_,SqL.of el⟩,fun p hp=>?_⟩
  have ll:rs.length=cs.length:=by rw [tl.1,List.length_map]
  refine q40 (K:=K) (a:=l) (xs:=rs.map V.ref) (fun i σ H2=>∃ v0 v1,σ=[v0,v1,some (.int q)]/\Same H H2/\H2 p=some (.lst ((ywI (cs.take i) q).map V.int)))
   ⟨none,none,rfl,Same.new hp,q01⟩ (fun i σ H2 _ ⟨_,_,_,s2,_⟩=>SqL.of (s2 _ _ el)) ?_ ?_
  ·rintro i y σ H2 hi ⟨v0,v1,rfl,s2,e2⟩
   obtain ⟨r1,k1,rfl,ek,er⟩:=(tl.mono s2).item hi
   rw [List.getElem?_map] at ek
   cases z:cs[i]? with
   | none=>rw [z] at ek; cases ek
   | some pr =>
    rw [z] at ek
    cases ek
    have p1:=ok pr (List.mem_of_getElem? z)
    have il:i < cs.length:=(List.getElem?_eq_some_iff.mp z).1
    have tk:cs.take (i + 1)=cs.take i ++ [pr]:=by rw [List.take_add_one,z]; rfl
    refine ⟨r1,_,rfl,.inl (.inl er),rfl,_,_,rfl,_,_,rfl,rfl,?_⟩
    refine ⟨_,rfl,_,rfl,_,_,_,rfl,rfl,(by rw [p1]; exact q22 (by omega)),ch_atL p1 hq,rfl,_,rfl,q77 (fun c=>?_) (fun c=>?_)⟩
    ·have c:decide (s1 (ch pr.1 q)=s1 121)=true:=c
     rw [q68] at c
     have c:ch pr.1 q=121:=by simpa using c
     refine ⟨_,rfl,_,e2,?_,_,_,rfl,Same.grow hp s2,?_⟩
     ·rw [List.length_map]
      have:=yw_len (cs.take i) q
      rw [List.length_take] at this
      exact Nat.lt_of_le_of_lt (show _<=100 by omega) (by decide)
     ·rw [q01,tk,qN8,if_pos c,List.map_append]
      rfl
    ·have c:¬ decide (s1 (ch pr.1 q)=s1 121)=true:=c
     rw [q68] at c
     have c:¬ ch pr.1 q=121:=by simpa using c
     refine ⟨_,_,rfl,s2,?_⟩
     rw [tk,qN8,if_neg c]
     exact e2
  ·rintro σ H2 ⟨v0,v1,rfl,s2,e2⟩
   rw [List.length_map,ll,List.take_length] at e2
   exact ⟨p,_,rfl,SqL.of e2,k H2 s2⟩
def spMost:Sp:=fun vs H Q _=>∃(y n:Int),vs=[.int y,.int n]/\Q (s1 (qx5 y n)) H
abbrev N_mo:List Str:=["yes", "whole"]
abbrev P_mo:List Str:=["yes", "whole"]
theorem sc_mo:FnScope N_mo P_mo (q02 qq6):=⟨rfl,rfl,rfl,by decide +kernel,rfl,by decide +kernel,by decide +kernel⟩
theorem ok_most {f:Addr}{fd:FuncData}(D:Df K mg "answer_of_most" qq6 P_mo f fd):FnOk P w K mg base (CXE P w) 1 f fd P_mo spMost:=by
 refine D.F.okN sc_mo (fun vs H Q E h=>?_) (fun cdv A outer s H vs Q E hr h=>?_)
 ·obtain ⟨y,n,rfl,_⟩:=h
  rfl
 ·obtain ⟨y,n,rfl,k⟩:=h
  unfold qx5 at k
  refine ⟨_,q04 (q30 (q10 qT2 (q24 qf9 q06 (pv 0)) (pv 1) (q13 _)) (q05 (q12 q20)) q16)
   (q05 (q12 (q58 (q10 qn7 (q24 qf9 q06 (pv 0)) (pv 1) (q13 _)) q20 q20))),?_⟩
  refine ⟨_,rfl,_,_,rfl,rfl,.inl ⟨by decide,by decide⟩,_,rfl,_,_,rfl,rfl,_,rfl,q77 (fun z=>?_) (fun z=>?_)⟩
  ·have z:n < 2 * y:=of_decide_eq_true z
   rw [if_pos z] at k
   exact k
  ·have z:¬ decide (n < 2 * y)=true:=z
   have z:¬ n < 2 * y:=by simpa using z
   rw [if_neg z] at k
   refine ⟨_,rfl,_,_,rfl,rfl,.inl ⟨by decide,by decide⟩,_,rfl,_,_,rfl,rfl,_,rfl,q77 (fun z2=>?_) (fun z2=>?_)⟩
   ·have z2:2 * y < n:=of_decide_eq_true z2
    rw [if_pos z2] at k
    exact k
   ·have z2:¬ decide (2 * y < n)=true:=z2
    have z2:¬ 2 * y < n:=by simpa using z2
    rw [if_neg z2] at k
    exact k
def Bad (rs:List Str) (n:Nat) (p:Str×Int):Prop:=¬ (Row n p.1/\1<=p.2/\q98 rs n p.1=true)
noncomputable def vWd (rs:List Str) (n:Nat) (p:Str×Int):Str:=open Classical in if ¬ Row n p.1 then "bad row" else if p.2 < 1 then "bad weight" else "not borne"
noncomputable def vCl (n:Nat) (BC BS BH:Addr) (p:Str×Int):Addr:=open Classical in if ¬ Row n p.1 then BS else if p.2 < 1 then BH else BC
def qP1 (C BC BS BH BE:Addr):Sp:=fun vs H Q E=>∃(t dx kp bt l:Addr) (n m:Nat) (rs:List Str) (cs:CI),vs=[.ref t,.ref l]/\TabAt C H t dx kp bt n m rs/\CrI H l cs/\(∀ p∈cs,p.1.length<=100)/\1<=n/\n<=12/\cs.length<=100 /\
 (∀(i:Nat) p,cs[i]? = some p->(∀(j:Nat) p',j < i->cs[j]? = some p'->¬ Bad rs n p')->Bad rs n p->Ref H E (vCl n BC BS BH p) (vWd rs n p))/\((∀ p∈cs,¬ Bad rs n p)->whI cs % 2=0->Ref H E BE "even") /\
 ((∀ p∈cs,¬ Bad rs n p)->¬ whI cs % 2=0->∀ H',Same H H'->Q (.str (tx n fun q=>qx5 (qN4 cs q) (whI cs))) H')
abbrev N_vo:List Str:=["table", "crowd", "row", "weight", "whole"]
abbrev P_vo:List Str:=["table", "crowd"]
theorem sc_vo:FnScope N_vo P_vo (q02 qh9):=⟨rfl,rfl,rfl,by decide +kernel,rfl,by decide +kernel,by decide +kernel⟩
abbrev N_vo1:List Str:=["row", "weight"]
theorem za7:N_vo1.Nodup:=by decide +kernel
abbrev N_vo2:List Str:=["question", "crowd", "whole"]
theorem nd_vo2:N_vo2.Nodup:=by decide +kernel
theorem z37 {f fo fr fw fl fy':Addr}{fd go gr gw gl gy':FuncData}(D:Df K mg "voice" qh9 P_vo f fd) (Do:Df K mg "answer_of_most" qq6 P_mo fo go) (Dr:Df K mg "check_row" qf5 Pir fr gr) (Gr:FnOk P w K mg base (CXE P w) 4 fr gr Pir (qE3 BS)) (Dw:Df K mg "check_weight" qa5 ["weight"] fw gw) (Gw:FnOk P w K mg base (CXE P w) 4 fw gw ["weight"] (spCw BH)) (Dl:Df K mg "check_ruling" qb5 qD4 fl gl) (Gl':FnOk P w K mg base (CXE P w) 7 fl gl qD4 (qm6 C BC BS)) (Dy:Df K mg "weight_of_yes" qp9 z88 fy' gy')
  (T:Tb K mg C fi fa ft fy fm fc gi ga gt gy gm gc) (X:Xs K mg W BC BS fW fC fS gW gC gS) (Z:Xc K mg W BE fE gE "Even" "Even.__init__" qf3) (B:Bt mg) (M:Gm mg):FnOk P w K mg base (CXE P w) 8 f fd P_vo (qP1 C BC BS BH BE):=by
 refine D.F.okE sc_vo (fun vs H Q E h=>?_) (fun cdv A outer s H vs Q E hr h=>?_)
 ·obtain ⟨t,dx,kp,bt,l,n,m,rs,cs,rfl,_⟩:=h
  rfl
 ·obtain ⟨t,dx,kp,bt,l,n,m,rs,cs,rfl,tab,⟨as,el,tl⟩,lx,n1,n12,l20,k1,k2,k3⟩:=h
  refine ⟨_,q04 (q91 PassesOwn.leaving rfl (q35 (pv 1)) (qa8 rfl (q23 (q11 (i:=2) sc_vo.nd rfl (Or.inl rfl)) (q23 (q11 (i:=3) sc_vo.nd rfl (Or.inl rfl)) q72)))
   (q04 (q18 (q14 Dr Gr (hr.mono (by decide)) q43 (q00 (pv 2) (q00 (q82 (pv 0) rfl) q03))))
   (q04 (q18 (q14 Dw Gw (hr.mono (by decide)) q43 (q00 (pv 3) q03)))
   (q05 (q18 (q14 Dl Gl' (hr.mono (by decide)) q43 (q00 (pv 0) (q00 (pv 2) q03))))))))
   (q04 (q21 (i:=4) sc_vo.nd rfl (Or.inr rfl) (q15 (qK6 rfl) (by rfl) M.sum (by rfl) (q00 (q29 (g:=(qD5 K 2 (q64 (q54 0) (q64 (q54 1) qD6)))) (N':=N_vo1) (fm:=[none,none]) rfl ⟨rfl,by decide +kernel,by decide +kernel,rfl,rfl,rfl⟩ (q35 (pv 1)) (fun _ _ _ _=>(qa8 rfl (q23 (q11 (i:=0) za7 rfl (Or.inl rfl)) (q23 (q11 (i:=1) za7 rfl (Or.inl rfl)) q72)))) (fun _ _ _ _=>q42) (fun _ _ _ _=>(pv 1))) q03)))
   (q04 (q30 (q10 q37 (q24 q66 (pv 4) q06) q06 (q13 _)) (q05 (qg8 rfl q43 (qb6 Z.k Z.i (z49 X Z) (hr.mono (by decide)) (by rfl) Z.m Z.b q43))) q16)
   (PSs.nox (q05 (q12 (qi8 PySem.F.plainAttrs_str PySem.F.slot_str_join PySem.F.type_str_join qx4 q20 (q00 (q29 (N':=N_vo2) (fm:=[none,some 1,some 4]) rfl ⟨rfl,by decide +kernel,by decide +kernel,rfl,rfl,rfl⟩ (q34 (by rfl) B.range (q00 (q82 (pv 0) rfl) q03)) (fun _ _ _ _=>(q11 (i:=0) nd_vo2 rfl (Or.inl rfl))) (fun _ _ _ _=>q42) (fun _ _ _ _=>(q14 Do (ok_most Do) (hr.mono (by decide)) q17 (q00 (q14 Dy (ok_wy Dy B M) (hr.mono (by decide)) q17 (q00 (pv 1) (q00 (pv 0) q03))) (q00 (pv 2) q03))))) q03))))))),?_⟩
  have ll:as.length=cs.length:=by rw [tl.1,List.length_map]
  refine ⟨_,rfl,l,rfl,⟨_,SqL.of el⟩,qo7 (K:=K) (a:=l) (xs:=as.map V.ref) (fun i σ H2=>∃ v2 v3,σ=[some (.ref t),some (.ref l),v2,v3,none]/\Same H H2/\∀(j:Nat) p',j < i->cs[j]? = some p'->¬ Bad rs n p') ⟨none,none,rfl,Same.refl H,fun j p' h=>absurd h (Nat.not_lt_zero _)⟩ (fun i σ H2 _ ⟨_,_,_,s2,_⟩=>SqL.of (s2 _ _ el)) ?_ ?_⟩
  ·rintro i y σ H2 hi ⟨v2,v3,rfl,s2,done⟩
   obtain ⟨r1,k1',rfl,ek,er⟩:=(tl.mono s2).item hi
   rw [List.getElem?_map] at ek
   cases z:cs[i]? with
   | none=>rw [z] at ek; cases ek
   | some pr =>
    rw [z] at ek
    cases ek
    have mem:=List.mem_of_getElem? z
    have K1:=k1 i pr z done
    refine ⟨r1,_,rfl,.inl (.inl er),rfl,_,_,rfl,_,_,rfl,rfl,?_⟩
    refine ⟨_,rfl,_,rfl,t,C,dx,_,_,rfl,(tab.mono s2).ins,T.cl,T.nQ,rfl,pr.1,n,rfl,lx pr mem,n1,n12,?_⟩
    refine ⟨fun hr1 H3 s3=>?_,fun hr1=>?_⟩
    case refine_2 =>
     have r:=(K1 (fun g=>hr1 g.1)).same s2
     unfold vCl vWd at r
     rw [if_pos hr1,if_pos hr1] at r
     exact r
    refine ⟨_,rfl,pr.2,rfl,fun w1=>?_,fun w1=>?_⟩
    case refine_2 =>
     have r:=(K1 (fun g=>by have:=g.2.1; omega)).same (s2.trans' s3)
     unfold vCl vWd at r
     rw [if_neg (fun h=>h hr1),if_pos w1,if_neg (fun h=>h hr1),if_pos w1] at r
     exact r
    refine ⟨_,rfl,_,rfl,t,dx,kp,bt,n,m,rs,pr.1,rfl,tab.mono (s2.trans' s3),lx pr mem,n1,n12,fun h=>absurd hr1 h,fun _ f=>?_,fun _ f H4 s4=>?_⟩
    ·have r:=(K1 (fun g=>by have:=g.2.2; rw [f] at this; cases this)).same (s2.trans' s3)
     unfold vCl vWd at r
     rw [if_neg (fun h=>h hr1),if_neg (show ¬ pr.2 < 1 by omega),if_neg (fun h=>h hr1),if_neg (show ¬ pr.2 < 1 by omega)] at r
     exact r
    ·refine ⟨_,_,rfl,s2.trans' (s3.trans' s4),fun j p' hj hp'=>?_⟩
     by_cases jj:j < i
     ·exact done j p' jj hp'
     ·have:j=i:=by omega
      subst this
      rw [z] at hp'
      cases hp'
      exact fun b=>b ⟨hr1,w1,f⟩
  ·rintro σ H2 ⟨v2,v3,rfl,s2,done⟩
   have good:∀ p∈cs,¬ Bad rs n p:=fun p hp=>by
    obtain ⟨j,hj⟩:=List.mem_iff_getElem?.mp hp
    exact done j p (by rw [List.length_map,ll]; exact (List.getElem?_eq_some_iff.mp hj).1) hj
   have el2:=s2 _ _ el
   have tl2:=tl.mono s2
   refine ⟨_,rfl,l,rfl,⟨_,SqL.of el2⟩,fun p hp=>?_⟩
   refine q40 (K:=K) (a:=l) (xs:=as.map V.ref) (fun i σ H3=>∃ v0 v1,σ=[v0,v1]/\Same H2 H3/\H3 p=some (.lst (((cs.take i).map (·.2)).map V.int)))
    ⟨none,none,rfl,Same.new hp,q01⟩ (fun i σ H3 _ ⟨_,_,_,s3,_⟩=>SqL.of (s3 _ _ el2)) ?_ ?_
   ·rintro i y σ H3 hi ⟨v0,v1,rfl,s3,e3⟩
    obtain ⟨r1,k1',rfl,ek,er⟩:=(tl2.mono s3).item hi
    rw [List.getElem?_map] at ek
    cases z:cs[i]? with
    | none=>rw [z] at ek; cases ek
    | some pr =>
     rw [z] at ek
     cases ek
     refine qj4 er ⟨_,rfl,_,e3,?_,_,_,rfl,Same.grow hp s3,?_⟩
     ·rw [List.length_map,List.length_map,List.length_take]
      exact Nat.lt_of_le_of_lt (show _<=100 by omega) (by decide)
     ·rw [q01,List.take_add_one,z,List.map_append,List.map_append]
      rfl
   ·rintro σ H3 ⟨v0,v1,rfl,s3,e3⟩
    rw [List.length_map,ll,List.take_length] at e3
    have s23:=s2.trans' s3
    refine ⟨p,_,rfl,SqL.of e3,?_⟩
    refine ⟨_,rfl,_,_,rfl,rfl,(show (0:Int) < 2 by decide),rfl,_,rfl,q77 (fun c=>?_) (fun c=>?_)⟩
    ·have c:decide (V.int (whI cs % 2)=V.int 0)=true:=c
     rw [q75] at c
     have c:whI cs % 2=0:=by simpa using c
     exact fun ea he=>((k2 good c).same s23).raise Z.k he
    have c:¬ decide (V.int (whI cs % 2)=V.int 0)=true:=c
    rw [q75] at c
    have c:¬ whI cs % 2=0:=by simpa using c
    refine ⟨rfl,_,rfl,t,C,dx,_,_,rfl,(tab.mono s23).ins,T.cl,T.nQ,rfl,_,rfl,by omega,by omega,fun p' hp'=>?_⟩
    have en:((n:Nat):Int).toNat=n:=by omega
    rw [en]
    have okl:∀ p∈cs,p.1.length=n:=fun p hp=>by
     have:=good p hp
     unfold Bad at this
     exact (Classical.not_not.mp this).1.len
    refine q93 (fun i σ H4=>∃ v,σ=[v,some (.ref l),some (.int (whI cs))]/\Same H3 H4/\H4 p'=some (.lst ((List.range i).map fun j=>s1 (qx5 (qN4 cs j) (whI cs))))) ⟨none,rfl,Same.new hp',q01⟩ ?_ ?_
    ·rintro i σ H4 hi ⟨v,rfl,s4,e4⟩
     rw [Int.zero_add]
     refine q53 ⟨_,rfl,_,rfl,l,cs,n,i,rfl,⟨as,(s23.trans' s4) _ _ el,tl.mono (s23.trans' s4)⟩,okl,hi,n12,l20,fun H6 s6=>?_⟩
     refine ⟨_,rfl,qN4 cs i,whI cs,rfl,_,s6 _ _ e4,q41 _ _ (by omega),_,rfl,Same.grow hp' (s4.trans' s6),?_⟩
     rw [q01,<- q90]
    ·rintro σ H4 ⟨v,rfl,s4,e4⟩
     refine ⟨_,p',(List.range n).map fun j=>(⟨#[qx5 (qN4 cs j) (whI cs)]⟩:Str),rfl,rfl,?_,by decide,?_,?_⟩
     ·rw [List.map_map]
      exact SqL.of e4
     ·rw [qx9,List.length_map,List.length_range]; omega
     ·rw [qv4]
      exact k3 good c H4 (s23.trans' s4)
end
end K67
namespace K67
open PySem L2
open PyProof.Rows (envOfC)
section
variable {P:Program}{w:World}{K:PySem.W.Frag}{mg:Str->Option Value}{base:Heap}{C fi fa ft fy fm fc:Addr}{gi ga gt gy gm gc:FuncData}
theorem TabAt.off {C:Addr}{H:Hp}{t dx kp bt l:Addr}{n m:Nat}{rs:List Str}{xs ys:List V}(h:TabAt C H t dx kp bt n m rs) (hl:H l=some (.lst xs)):TabAt C (upd H l (.lst ys)) t dx kp bt n m rs/\l≠kp/\l≠bt:=by
 obtain ⟨i,c,bvs,e1,e2,r⟩:=h
 have n1:l≠kp:=fun z=>by rw [z,e1] at hl; cases hl
 have n2:l≠bt:=fun z=>by rw [z,e2] at hl; cases hl
 have n3:l≠t:=fun z=>by rw [z,i] at hl; cases hl
 exact ⟨⟨by rw [q08 (Ne.symm n3)]; exact i,c,bvs,by rw [q08 (Ne.symm n1)]; exact e1,by rw [q08 (Ne.symm n2)]; exact e2,r⟩,n1,n2⟩
theorem qn4 {α β:Type}(f:α->β):∀(l:List α) (k:Nat),(l.map f).eraseIdx k=(l.eraseIdx k).map f
 | [],_=>rfl
 | _ :: _,0=>rfl
 | a :: r,k + 1=>by
  show f a :: (r.map f).eraseIdx k=f a :: (r.eraseIdx k).map f
  rw [qn4 f r k]
theorem qm2 {α:Type}:∀{l:List α}{k:Nat}{x:α},l[k]? = some x->l.Perm (x :: l.eraseIdx k)
 | a :: r,0,x,h=>by simp at h; subst h; exact .refl _
 | a :: r,k + 1,x,h=>by
  have h':r[k]? = some x:=by simpa using h
  show (a :: r).Perm (x :: a :: r.eraseIdx k)
  exact ((qm2 h').cons a).trans (.swap x a _)
end
end K67
namespace K67
open PySem L2
open PyProof.Rows (envOfC)
section
variable {P:Program}{w:World}{K:PySem.W.Frag}{mg:Str->Option Value}{base:Heap}{C fi fa ft fy fm fc:Addr}{gi ga gt gy gm gc:FuncData}
theorem TabAt.perm {C:Addr}{H:Hp}{t dx kp bt:Addr}{n m:Nat}{rs rs':List Str}(h:TabAt C H t dx kp bt n m rs) (p:rs.Perm rs'):TabAt C H t dx kp bt n m rs':=by
 obtain ⟨i,c,bvs,e1,e2,hK,hB,r⟩:=h
 exact ⟨i,c,bvs,e1,e2,hK.perm p,hB.perm p,r⟩
end
end K67
namespace K67
open PySem L2
open PyProof.Rows (envOfC)
abbrev qe6:Stmt:=top 78
theorem add_app {C t dx kp bt l:Addr}{n m:Nat}{rs:List Str}{y:Str}{H1 H2:Hp}(tab:TabAt C H1 t dx kp bt n m rs) (l1:H1 l=some (.lst (rs.map V.str))) (tab2:TabAt C H2 t dx kp bt n (m + 1) (y :: rs)) (k2:Keep2 kp bt H1 H2) :
  H2 l=some (.lst (rs.map V.str))/\TabAt C (upd H2 l (.lst ((rs ++ [y]).map V.str))) t dx kp bt n (m + 1) (rs ++ [y])/\∀ b o,b≠kp->b≠bt->b≠l->H1 b=some o->upd H2 l (.lst ((rs ++ [y]).map V.str)) b=some o:=by
 obtain ⟨_,nk,nb⟩:=tab.off (ys:=[]) l1
 have l2:=k2 l _ nk nb l1
 refine ⟨l2,(tab2.off l2).1.perm (List.perm_append_comm (l₁:=[y]) (l₂:=rs)),fun b o h1 h2 h3 e=>?_⟩
 rw [q08 h3]
 exact k2 b o h1 h2 e
section
variable {P:Program}{w:World}{K:PySem.W.Frag}{mg:Str->Option Value}{base:Heap}{C fi fa ft fy fm fc:Addr}{gi ga gt gy gm gc:FuncData}
def qP5 (C:Addr):Sp:=fun vs H Q _=>∃(t dx kp bt l dr:Addr) (n m:Nat) (rs:List Str) (x:Str) (d0 d1:Int),vs=[.ref t,.ref l,.str x,.ref dr]/\TabAt C H t dx kp bt n m rs/\H l=some (.lst (rs.map V.str))/\(∀ y∈rs,Row n y)/\Row n x/\H dr=some (.lst [.int d0,.int d1])/\1<=n/\n<=12/\m<=900/\rs.length<=98 /\
 ∀ H' rs' m',TabAt C H' t dx kp bt n m' rs'->m'<=m + 2->H' l=some (.lst (rs'.map V.str))->(∀ y∈rs',Row n y)->rs'.length<=rs.length + 1->(∀ b o,b≠kp->b≠bt->b≠l->H b=some o->H' b=some o)->Q .non H'
abbrev N_sh:List Str:=["_law_made", "_law_rows_here", "_law_fresh", "_law_drawn"]
abbrev P_sh:List Str:=["_law_made", "_law_rows_here", "_law_fresh", "_law_drawn"]
theorem sc_sh:FnScope N_sh P_sh (q02 qe6):=⟨rfl,rfl,rfl,by decide +kernel,rfl,by decide +kernel,by decide +kernel⟩
theorem z43 {f:Addr}{fd:FuncData}(D:Df K mg "_law_shift" qe6 P_sh f fd) (T:Tb K mg C fi fa ft fy fm fc gi ga gt gy gm gc) (Ga:FnOk P w K mg base (CXE P w) 4 fa ga Pta (qP3 C)) (Gt:FnOk P w K mg base (CXE P w) 4 ft gt Pta (qP2 C)) (B:Bt mg):FnOk P w K mg base (CXE P w) 5 f fd P_sh (qP5 C):=by
 refine D.F.okN sc_sh (fun vs H Q E h=>?_) (fun cdv A outer s H vs Q E hr h=>?_)
 ·obtain ⟨t,dx,kp,bt,l,dr,n,m,rs,x,d0,d1,rfl,_⟩:=h
  rfl
 ·obtain ⟨t,dx,kp,bt,l,dr,n,m,rs,x,d0,d1,rfl,tab,hl,hrs,hx,hd,n1,n12,m1,l99,k⟩:=h
  have hu:(A.deeper (envOfC "_law_shift" (q02 qe6) s.heap.objs.size f cdv)).units < cLine:=hr.units0
  refine ⟨_,q04 (q30 (PW.pt (qw2 (q10 (z36 hu) (pv 1) (q36 q03) (q13 _)) (qj8 (q10 qn7 (q25 ix_list (pv 3) q06 (fun _ _=>rfl)) q06 (q13 _))))) (q04 (q18 (q96 (pv 0) T.cl T.ma Ga (hr.mono (by decide)) T.ba .nil q17 (q00 (pv 2) q03)))
   (q04 (q18 (qi8 PySem.F.plainAttrs_list PySem.F.slot_list_append PySem.F.type_list_append q57 (pv 1) (q00 (pv 2) q03)))
   (q05 ps_retN))) q16)
   (q04 (q18 (q96 (pv 0) T.cl T.mt Gt (hr.mono (by decide)) T.bt .nil q17 (q00 (qi8 PySem.F.plainAttrs_list PySem.F.slot_list_pop PySem.F.type_list_pop z56 (pv 1) (q00 (q24 q66 (q25 ix_list (pv 3) q06 (fun _ _=>rfl)) (q15 q27 (by rfl) B.len PySem.boot_len (q00 (pv 1) q03))) q03)) q03)))
   (q05 (q30 (q10 q37 (q25 ix_list (pv 3) q06 (fun _ _=>rfl)) q06 (q13 _)) (q04 (q18 (q96 (pv 0) T.cl T.ma Ga (hr.mono (by decide)) T.ba .nil q17 (q00 (pv 2) q03)))
   (q05 (q18 (qi8 PySem.F.plainAttrs_list PySem.F.slot_list_append PySem.F.type_list_append q57 (pv 1) (q00 (pv 2) q03))))) q16))),?_⟩
  have snoc:∀(rs1:List Str) (y:Str),rs1.map V.str ++ [V.str y]=(rs1 ++ [y]).map V.str:=fun rs1 y=>by rw [List.map_append]; rfl
  have small:∀ rs1:List Str,rs1.length<=100->(rs1.map V.str).length < sizeLine:=fun rs1 h=>by rw [List.length_map]; exact Nat.lt_of_le_of_lt h (by decide)
  have put:∀(rs1:List Str) (y:Str),(∀ z∈rs1,Row n z)->Row n y->∀ z∈rs1 ++ [y],Row n z:=fun rs1 y h1 h2 z hz=>by
   rcases List.mem_append.mp hz with hz | hz
   ·exact h1 z hz
   ·rw [List.mem_singleton.mp hz]; exact h2
  refine ⟨_,rfl,Nat.zero_le _,fun pe hpe=>?_⟩
  have se:=Same.new (o:=.lst []) hpe
  obtain ⟨_,nk,nb⟩:=tab.off (ys:=[]) hl
  obtain ⟨_,dk,db⟩:=tab.off (ys:=[]) hd
  have dl:dr≠l:=qB5 hd hl fun z=>by
   injection z with z
   cases rs with
   | nil=>cases z
   | cons a r=>injection z with z _; cases z
  have addT:∀{H1:Hp} {rs1:List Str} {m1:Nat} {y:Str},TabAt C H1 t dx kp bt n m1 rs1->H1 l=some (.lst (rs1.map V.str))->Row n y->m1<=1000->∀ R:Hp->Prop,(∀ H2,H2 l=some (.lst (rs1.map V.str))->TabAt C (upd H2 l (.lst ((rs1 ++ [y]).map V.str))) t dx kp bt n (m1 + 1) (rs1 ++ [y])->(∀ b o,b≠kp->b≠bt->b≠l->H1 b=some o->upd H2 l (.lst ((rs1 ++ [y]).map V.str)) b=some o)->R H2)->qP3 C [.ref t,.str y] H1 (fun _ H2=>R H2) E0:=fun {H1 rs1 m1 y} t1 e1 ry mm R r =>
   ⟨t,dx,kp,bt,n,m1,rs1,y,rfl,t1,ry,n1,n12,mm,fun H2 tab2 k2=>by
    obtain ⟨a1,a2,a3⟩:=add_app t1 e1 tab2 k2
    exact r H2 a1 a2 a3⟩
  have tabE:=tab.mono se
  have eE:=se _ _ hl
  refine ⟨l,pe,_,rfl,rfl,SqL.of eE,SqL.of q01,_,rfl,q77 (fun c=>q48 ?_) (fun c=>?_)⟩
  ·refine ⟨_,rfl,t,dx,_,rfl,tabE.ins,rfl,_,rfl,addT tabE eE hx (by omega) _ fun H2 a1 a2 a3=>?_⟩
   refine ⟨_,rfl,.inl ⟨rfl,_,SqL.of a1⟩,_,rfl,l,_,_,rfl,rfl,a1,small _ (by omega),?_⟩
   rw [snoc]
   exact k _ _ _ a2 (by omega) q01 (put _ _ hrs hx) (by rw [List.length_append]; exact Nat.le_refl _) fun b o h1 h2 h3 e=>a3 b o h1 h2 h3 (se b o e)
  refine ⟨_,rfl,dr,_,_,_,rfl,rfl,SqL.of (se _ _ hd),(show _=some (V.int d0) from rfl),_,_,rfl,rfl,_,rfl,q77 (fun c2=>?_) (fun c2=>?_)⟩
  ·refine ⟨_,rfl,t,dx,_,rfl,tabE.ins,rfl,_,rfl,addT tabE eE hx (by omega) _ fun H2 a1 a2 a3=>?_⟩
   refine ⟨_,rfl,.inl ⟨rfl,_,SqL.of a1⟩,_,rfl,l,_,_,rfl,rfl,a1,small _ (by omega),?_⟩
   rw [snoc]
   exact k _ _ _ a2 (by omega) q01 (put _ _ hrs hx) (by rw [List.length_append]; exact Nat.le_refl _) fun b o h1 h2 h3 e=>a3 b o h1 h2 h3 (se b o e)
  have z0:0 < rs.length:=by
   cases rs with
   | nil=>exact absurd rfl c
   | cons _ _=>simp
  have lpos:(0:Int) < ((rs.map V.str).length:Nat):=by rw [List.length_map]; omega
  have jb:0<=d1 % ((rs.map V.str).length:Nat)/\d1 % ((rs.map V.str).length:Nat) < ((rs.map V.str).length:Nat):=⟨Int.emod_nonneg _ (by omega),Int.emod_lt_of_pos _ lpos⟩
  obtain ⟨j,hj⟩:∃ j:Nat,(j:Int)=d1 % ((rs.map V.str).length:Nat):=⟨(d1 % ((rs.map V.str).length:Nat)).toNat,by omega⟩
  have jl:j < rs.length:=by rw [List.length_map] at jb hj; omega
  obtain ⟨y,hy⟩:∃ y,rs[j]? = some y:=⟨_,List.getElem?_eq_getElem jl⟩
  have hix:seqIndex? (d1 % ((rs.map V.str).length:Nat)) (rs.map V.str).length=some j:=by
   rw [<- hj]
   exact seqIndex_of (by omega) (by rw [List.length_map]; omega)
  have ry:=hrs y (List.mem_of_getElem? hy)
  refine ⟨_,rfl,t,dx,_,rfl,tabE.ins,rfl,_,rfl,.inl ⟨rfl,_,SqL.of eE⟩,_,rfl,dr,_,_,_,rfl,rfl,SqL.of (se _ _ hd),(show _=some (V.int d1) from rfl),_,rfl,l,_,rfl,.inl (SqL.of eE),_,_,rfl,rfl,lpos,l,_,_,j,.str y,rfl,rfl,eE,?_,?_,hix,(by rw [List.getElem?_map,hy]; rfl),?_⟩
  ·rw [List.length_map] at jb ⊢; omega
  ·rw [List.length_map] at jb ⊢; omega
  rw [qn4]
  obtain ⟨tab1,_,_⟩:=tabE.off (ys:=(rs.eraseIdx j).map V.str) eE
  refine ⟨t,dx,kp,bt,n,m,rs,rs.eraseIdx j,y,rfl,tab1,qm2 hy,ry,n1,n12,by omega,fun H2 tab2 k2=>?_⟩
  have l2:=k2 l _ nk nb q01
  have le2:(rs.eraseIdx j).length=rs.length - 1:=List.length_eraseIdx_of_lt jl
  have keep2:∀ b o,b≠kp->b≠bt->b≠l->H b=some o->H2 b=some o:=fun b o h1 h2 h3 e=>k2 b o h1 h2 (by rw [q08 h3]; exact se b o e)
  have hrs2:∀ z∈rs.eraseIdx j,Row n z:=fun z hz=>hrs z ((qm2 hy).mem_iff.mpr (List.mem_cons_of_mem _ hz))
  have hd2:=keep2 dr _ dk db dl hd
  refine ⟨_,rfl,dr,_,_,_,rfl,rfl,SqL.of hd2,(show _=some (V.int d0) from rfl),rfl,_,rfl,q77 (fun c3=>?_) (fun c3=>?_)⟩
  ·refine ⟨_,rfl,t,dx,_,rfl,tab2.ins,rfl,_,rfl,addT tab2 l2 hx (by omega) _ fun H4 a1 a2 a3=>?_⟩
   refine ⟨_,rfl,.inl ⟨rfl,_,SqL.of a1⟩,_,rfl,l,_,_,rfl,rfl,a1,small _ (by omega),?_⟩
   rw [snoc]
   exact k _ _ _ a2 (by omega) q01 (put _ _ hrs2 hx) (by rw [List.length_append,le2]; show rs.length - 1 + 1<=_; omega) fun b o h1 h2 h3 e=>a3 b o h1 h2 h3 (keep2 b o h1 h2 h3 e)
  ·exact k _ _ _ tab2 (by omega) l2 hrs2 (by omega) keep2
end
end K67
namespace K67
open PySem L2
open PyProof.Rows (envOfC)
abbrev qn0:Stmt:=top 79
def DoorV (rs:List Str) (n:Nat) (d:Int) (x g:Str) (v:V) (H:Hp):Prop :=
 (d=0/\v=.int (dfc rs n x g:Nat))∨(d=1/\v=.int (dfc rs n x g:Nat)) ∨
 (d=2/\∃ p us,v=.ref p/\H p=some (.lst ((us ++ [g]).map V.str))/\(us ++ [g])[0]? = some x/\us.length=dfc rs n x g) ∨
 (d=3/\∃ p us,v=.ref p/\H p=some (.lst ((us ++ [x]).map V.str))/\(us ++ [x])[0]? = some g/\us.length=dfc rs n x g) ∨
 (d=6/\∃(p:Addr) (L:List Str),v=.ref p/\H p=some (.lst (L.map V.str))/\x∈L/\g∈L/\L.length<=4096) ∨
 (d=7/\∃(p:Addr) (L:List Str),v=.ref p/\H p=some (.lst (L.map V.str))/\¬ x∈L/\L.length<=4096) ∨
 ((d=4∨d=10)/\v=.str g)∨((d=5∨d=8∨d=9)/\v=.str x)
theorem DoorV.mono {rs:List Str}{n:Nat}{d:Int}{x g:Str}{v:V}{H H':Hp}(h:DoorV rs n d x g v H) (s:Same H H'):DoorV rs n d x g v H':=by
 rcases h with h | h | ⟨e,p,us,a,b,c⟩ | ⟨e,p,us,a,b,c⟩ | ⟨e,p,L,a,b,c⟩ | ⟨e,p,L,a,b,c⟩ | h | h
 ·exact .inl h
 ·exact .inr (.inl h)
 ·exact .inr (.inr (.inl ⟨e,p,us,a,s _ _ b,c⟩))
 ·exact .inr (.inr (.inr (.inl ⟨e,p,us,a,s _ _ b,c⟩)))
 ·exact .inr (.inr (.inr (.inr (.inl ⟨e,p,L,a,s _ _ b,c⟩))))
 ·exact .inr (.inr (.inr (.inr (.inr (.inl ⟨e,p,L,a,s _ _ b,c⟩)))))
 ·exact .inr (.inr (.inr (.inr (.inr (.inr (.inl h))))))
 ·exact .inr (.inr (.inr (.inr (.inr (.inr (.inr h))))))
theorem qf7 {n:Nat}{z:Str}(h:z.length=n):z=tx n (ch z):=by
 rw [<- h]
 exact all_tx z
theorem qc0 {n:Nat}{f g:Nat->Nat}(h:∀ i,i < n->f i=g i):tx n f=tx n g:=by
 unfold tx
 congr 2
 exact List.map_congr_left fun i hi=>h i (List.mem_range.mp hi)
theorem qX0 {n:Nat}{x y:Str}(hx:Row n x):tx n (goC (ch x) (ch y) (ch x))=x:=by
 refine Eq.trans (qc0 fun i _=>?_) (qf7 hx.len).symm
 unfold goC
 split <;> rfl
theorem qU9 {rs:List Str}{n:Nat}(hrs:∀ x∈rs,Row n x) {x z:Str}(rx:Row n x) (bx:q39 rs n x) (N:Near rs n x x z):z=x:=by
 have hp:Pat n x:=⟨rx.len,fun i hi=>by have:=rx.bin i hi; omega⟩
 have st:qe2 rs n x:=qB6 bx fun i _=>.inr rfl
 have m:=Near.mt hrs rx bx hp st N
 rw [qf7 N.row.len,qf7 rx.len]
 exact qc0 fun i hi=>((m i hi).resolve_left (by have:=rx.bin i hi; omega)).symm
theorem pat_row {n:Nat}{x:Str}(rx:Row n x):Pat n x:=⟨rx.len,fun i hi=>by have:=rx.bin i hi; omega⟩
theorem zb6 {rs:List Str}{n:Nat}{x y:Str}(rx:Row n x) (ry:Row n y) (bx:q39 rs n x) (by':q39 rs n y):x∈mL rs (tx n (qL0 y x)) n/\y∈mL rs (tx n (qL0 y x)) n:=by
 constructor
 ·refine List.mem_filter.mpr ⟨rul_mem.mpr ⟨rx,bx⟩,(qJ2 x).mpr fun i hi=>?_⟩
  rw [q55 hi]; unfold qL0
  split
  ·rename_i e; exact .inr e
  ·exact .inl rfl
 ·refine List.mem_filter.mpr ⟨rul_mem.mpr ⟨ry,by'⟩,(qJ2 y).mpr fun i hi=>?_⟩
  rw [q55 hi]; unfold qL0
  split
  ·exact .inr rfl
  ·exact .inl rfl
theorem not_nb {rs:List Str}{n:Nat}{x:Str}(hrs:∀ y∈rs,Row n y) (rx:Row n x):¬ x∈nbL rs n x:=fun h=>by
 obtain ⟨l,hl,e,_⟩:=(qx6 rx).mp h
 have ln:=qV8 hl
 have t:=z02 (rs:=rs) (l:=l) rx
 rw [<- e] at t
 have tl:=(t l ln).mp rfl
 have tg:tgB rs l l=true:=qp3 hrs ln
 rw [tg] at tl
 cases tl
theorem nb_len (rs:List Str) {n:Nat}(h:n<=12) (x:Str):(nbL rs n x).length<=4096:=by
 unfold nbL
 refine Nat.le_trans (List.length_filter_le _ _) ?_
 rw [List.length_map]
 unfold bnl
 rw [List.length_map]
 have:=q99 rs n
 omega
theorem qu9 {rs:List Str}{n:Nat}{x:Str}{k:Int}(rx:Row n x) (k1:1<=k):Bad rs n (x,k)↔q98 rs n x=false:=by
 unfold Bad
 constructor
 ·intro h
  cases z:q98 rs n x with
  | false=>rfl
  | true=>exact absurd ⟨rx,k1,z⟩ h
 ·rintro h ⟨_,_,z⟩
  rw [h] at z
  cases z
theorem z77 {n:Nat}{BC BS BH:Addr}{rs:List Str}{x:Str}{k:Int}(rx:Row n x) (k1:1<=k):vCl n BC BS BH (x,k)=BC/\vWd rs n (x,k) = "not borne" := by
 unfold vCl vWd
 rw [if_neg (fun z=>z rx),if_neg (by show ¬ k < 1; omega),if_neg (fun z=>z rx),if_neg (by show ¬ k < 1; omega)]
 exact ⟨rfl,rfl⟩
theorem qj3 (x:Str) (k:Int) (cs:CI) (q:Nat):qN4 ((x,k) :: cs) q=(if ch x q=121 then k else 0) + qN4 cs q:=by
 unfold qN4 ywI
 by_cases h:ch x q=121
 ·rw [List.filter_cons_of_pos (by simpa using h),if_pos h]
  simp
 ·rw [List.filter_cons_of_neg (by simpa using h),if_neg h]
  simp
theorem voice2 {n:Nat}{x g:Str}(rx:Row n x):(tx n fun q=>qx5 (qN4 [(g,1),(x,2)] q) (whI [(g,1),(x,2)]))=x:=by
 refine Eq.trans (qc0 fun q hq=>?_) (qf7 rx.len).symm
 rw [qj3,qj3,show qN4 [] q=0 from rfl,show whI [(g,1),(x,2)]=3 from rfl]
 unfold qx5
 have:=rx.bin q hq
 by_cases a:ch x q=121 <;> by_cases b:ch g q=121 <;> simp [a,b] <;> omega
theorem voice3 {n:Nat}{x g:Str}(rg:Row n g):(tx n fun q=>qx5 (qN4 [(x,1),(g,4),(x,2)] q) (whI [(x,1),(g,4),(x,2)]))=g:=by
 refine Eq.trans (qc0 fun q hq=>?_) (qf7 rg.len).symm
 rw [qj3,qj3,qj3,show qN4 [] q=0 from rfl,show whI [(x,1),(g,4),(x,2)]=7 from rfl]
 unfold qx5
 have:=rg.bin q hq
 by_cases a:ch x q=121 <;> by_cases b:ch g q=121 <;> simp [a,b] <;> omega
section
variable {P:Program}{w:World}{K:PySem.W.Frag}{mg:Str->Option Value}{base:Heap}{C fi fa ft fy fm fc:Addr}{gi ga gt gy gm gc:FuncData}{W BC BS fW fC fS BP fP BU fU BH BE:Addr}{gW gC gS gP gU:FuncData}
abbrev N_do:List Str:=["_law_made", "_law_door_here", "_law_row", "_law_good"]
abbrev P_do:List Str:=["_law_made", "_law_door_here", "_law_row", "_law_good"]
theorem sc_do:FnScope N_do P_do (q02 qn0):=⟨rfl,rfl,rfl,by decide +kernel,rfl,by decide +kernel,by decide +kernel⟩
def qQ2 (C BC:Addr):Sp:=fun vs H Q E=>∃(t dx kp bt:Addr) (n m:Nat) (rs:List Str) (d:Int) (x g:Str),vs=[.ref t,.int d,.str x,.str g]/\TabAt C H t dx kp bt n m rs/\(∀ y∈rs,Row n y)/\Row n x/\Row n g/\q39 rs n g/\1<=n/\n<=12/\0<=d/\d < 11/\(¬ q39 rs n x->Ref H E BC "not borne")/\(q39 rs n x->∀ v H',Same H H'->DoorV rs n d x g v H'->Q v H')
theorem ok_door {f fs fw' fm' fx fn fr fv:Addr}{fd gs gw' gm' gx gn gr gv:FuncData}(D:Df K mg "_law_door" qn0 P_do f fd) (Ds:Df K mg "steps" qi1 P_st fs gs) (Gs:FnOk P w K mg base (CXE P w) 8 fs gs P_st (qP4 C BC BS)) (Dw:Df K mg "way" qE4 P_wy fw' gw') (Gw:FnOk P w K mg base (CXE P w) 10 fw' gw' P_wy (spWay C BC BS))
  (Dm:Df K mg "middle" qc3 P_mi fm' gm') (Gm':FnOk P w K mg base (CXE P w) 8 fm' gm' P_mi (spMid C BC BS)) (Dx:Df K mg "box" qE6 P_bx fx gx) (Gx:FnOk P w K mg base (CXE P w) 8 fx gx P_bx (spBox C BC BS)) (Dn:Df K mg "neighbours" qe9 P_ng fn gn) (Gn:FnOk P w K mg base (CXE P w) 8 fn gn P_ng (qD9 C BC BS))
  (Dr:Df K mg "nearest" qa4 P_ne fr gr) (Gr:FnOk P w K mg base (CXE P w) 8 fr gr P_ne (qA0 C BC BS BP BU)) (Dv:Df K mg "voice" qh9 P_vo fv gv) (Gv:FnOk P w K mg base (CXE P w) 8 fv gv P_vo (qP1 C BC BS BH BE)):FnOk P w K mg base (CXE P w) 11 f fd P_do (qQ2 C BC):=by
 refine D.F.okE sc_do (fun vs H Q E h=>?_) (fun cdv A outer s H vs Q E hr h=>?_)
 ·obtain ⟨t,dx,kp,bt,n,m,rs,d,x,g,rfl,_⟩:=h
  rfl
 obtain ⟨t,dx,kp,bt,n,m,rs,d,x,g,rfl,tab,hrs,rx,rg,bg,n1,n12,d0,d11,k1,k2⟩:=h
 have hu:(A.deeper (envOfC "_law_door" (q02 qn0) s.heap.objs.size f cdv)).units < cLine:=hr.units0
 refine ⟨_,q04 (q30 (q10 q37 (pv 1) q06 (q13 _)) (q05 (q12 (q14 Ds Gs (hr.mono (by decide)) q43 (q00 (pv 0) (q00 (pv 2) (q00 (pv 3) q03)))))) q16)
   (q04 (q30 (q10 q37 (pv 1) q06 (q13 _)) (q05 (q12 (q14 Ds Gs (hr.mono (by decide)) q43 (q00 (pv 0) (q00 (pv 3) (q00 (pv 2) q03)))))) q16)
   (q04 (q30 (q10 q37 (pv 1) q06 (q13 _)) (q05 (q12 (q14 Dw Gw (hr.mono (by decide)) q43 (q00 (pv 0) (q00 (pv 2) (q00 (pv 3) q03)))))) q16)
   (q04 (q30 (q10 q37 (pv 1) q06 (q13 _)) (q05 (q12 (q14 Dw Gw (hr.mono (by decide)) q43 (q00 (pv 0) (q00 (pv 3) (q00 (pv 2) q03)))))) q16)
   (q04 (q30 (q10 q37 (pv 1) q06 (q13 _)) (q05 (q12 (q14 Dm Gm' (hr.mono (by decide)) q43 (q00 (pv 0) (q00 (pv 3) (q00 (pv 2) (q00 (pv 3) q03))))))) q16)
   (q04 (q30 (q10 q37 (pv 1) q06 (q13 _)) (q05 (q12 (q14 Dm Gm' (hr.mono (by decide)) q43 (q00 (pv 0) (q00 (pv 2) (q00 (pv 3) (q00 (pv 2) q03))))))) q16)
   (q04 (q30 (q10 q37 (pv 1) q06 (q13 _)) (q05 (q12 (q14 Dx Gx (hr.mono (by decide)) q43 (q00 (pv 0) (q00 (pv 3) (q00 (pv 2) q03)))))) q16)
   (q04 (q30 (q10 q37 (pv 1) q06 (q13 _)) (q05 (q12 (q14 Dn Gn (hr.mono (by decide)) q43 (q00 (pv 0) (q00 (pv 2) q03))))) q16)
   (q04 (q30 (q10 q37 (pv 1) q06 (q13 _)) (q05 (q12 (q14 Dr Gr (hr.mono (by decide)) q43 (q00 (pv 0) (q00 (pv 2) (q00 (pv 2) q03)))))) q16)
   (q04 (q30 (q10 q37 (pv 1) q06 (q13 _)) (q05 (q12 (q14 Dv Gv (hr.mono (by decide)) q43 (q00 (pv 0) (q00 (q36 (q00 (q84 (q00 (pv 3) (q00 q06 q03))) (q00 (q84 (q00 (pv 2) (q00 q06 q03))) q03))) q03))))) q16)
   (q05 (q12 (q14 Dv Gv (hr.mono (by decide)) q43 (q00 (pv 0) (q00 (q36 (q00 (q84 (q00 (pv 2) (q00 q06 q03))) (q00 (q84 (q00 (pv 3) (q00 q06 q03))) (q00 (q84 (q00 (pv 2) (q00 q06 q03))) q03)))) q03)))))))))))))),?_⟩
 have gg:Gd rs n g:=⟨rg,qb9 bg⟩
 have gx:q39 rs n x->Gd rs n x:=fun b=>⟨rx,qb9 b⟩
 have kx:¬ Gd rs n x->Ref H E (bCl n BC BS x) (bWd n x):=fun h=>by
  unfold bCl bWd
  rw [if_neg (fun z=>z rx),if_neg (fun z=>z rx)]
  exact k1 fun b=>h (gx b)
 have kg:∀{P:Prop},¬ Gd rs n g->P:=fun h=>absurd gg h
 have xl:x.length<=100:=by rw [rx.len]; omega
 have gl:g.length<=100:=by rw [rg.len]; omega
 have de:∀{a:Int},decide (V.int d=V.int a)=true->d=a:=fun h=>by rw [q75] at h; simpa using h
 have dn:∀{a:Int},¬ decide (V.int d=V.int a)=true->¬ d=a:=fun h=>by rw [q75] at h; simpa using h
 refine ⟨_,rfl,rfl,_,rfl,q77 (fun c=>?_) (fun c0=>?_)⟩
 ·exact ⟨_,rfl,_,rfl,_,rfl,t,dx,kp,bt,n,m,rs,x,g,rfl,tab,hrs,xl,gl,n1,n12,kx,(fun _=>kg),fun a _ H' s'=>k2 a.borne _ H' s' (.inl ⟨de c,rfl⟩)⟩
 refine ⟨_,rfl,rfl,_,rfl,q77 (fun c=>?_) (fun c1=>?_)⟩
 ·exact ⟨_,rfl,_,rfl,_,rfl,t,dx,kp,bt,n,m,rs,g,x,rfl,tab,hrs,gl,xl,n1,n12,(fun h=>kg h),(fun _=>kx),fun _ a H' s'=>k2 a.borne _ H' s' (.inr (.inl ⟨de c,by rw [qy4]⟩))⟩
 refine ⟨_,rfl,rfl,_,rfl,q77 (fun c=>?_) (fun c2=>?_)⟩
 ·exact ⟨_,rfl,_,rfl,_,rfl,t,dx,kp,bt,n,m,rs,x,g,rfl,tab,hrs,xl,gl,n1,n12,kx,(fun _=>kg),fun a _ p us H' _ s' e wk ul=>k2 a.borne _ H' s' (.inr (.inr (.inl ⟨de c,p,us,rfl,e,wk.head,ul⟩)))⟩
 refine ⟨_,rfl,rfl,_,rfl,q77 (fun c=>?_) (fun c3=>?_)⟩
 ·exact ⟨_,rfl,_,rfl,_,rfl,t,dx,kp,bt,n,m,rs,g,x,rfl,tab,hrs,gl,xl,n1,n12,(fun h=>kg h),(fun _=>kx),fun _ a p us H' _ s' e wk ul=>k2 a.borne _ H' s' (.inr (.inr (.inr (.inl ⟨de c,p,us,rfl,e,wk.head,by rw [ul,qy4]⟩))))⟩
 refine ⟨_,rfl,rfl,_,rfl,q77 (fun c=>?_) (fun c4=>?_)⟩
 ·exact ⟨_,rfl,_,rfl,_,rfl,_,rfl,t,dx,kp,bt,n,m,rs,g,x,g,rfl,tab,gl,xl,gl,n1,n12,(fun h=>kg h),(fun _=>kx),(fun _ _=>kg),fun _ a _ H' s'=>k2 a.borne _ H' s' (.inr (.inr (.inr (.inr (.inr (.inr (.inl ⟨.inl (de c),by rw [qX0 rg]⟩)))))))⟩
 refine ⟨_,rfl,rfl,_,rfl,q77 (fun c=>?_) (fun c5=>?_)⟩
 ·exact ⟨_,rfl,_,rfl,_,rfl,_,rfl,t,dx,kp,bt,n,m,rs,x,g,x,rfl,tab,xl,gl,xl,n1,n12,kx,(fun _=>kg),(fun a _ h=>absurd a h),fun a _ _ H' s'=>k2 a.borne _ H' s' (.inr (.inr (.inr (.inr (.inr (.inr (.inr ⟨.inl (de c),by rw [qX0 rx]⟩)))))))⟩
 refine ⟨_,rfl,rfl,_,rfl,q77 (fun c=>?_) (fun c6=>?_)⟩
 ·exact ⟨_,rfl,_,rfl,_,rfl,t,dx,kp,bt,n,m,rs,g,x,rfl,tab,gl,xl,n1,n12,(fun h=>kg h),(fun _=>kx),fun _ a p H' _ s' e l=>k2 a.borne _ H' s' (.inr (.inr (.inr (.inr (.inl ⟨de c,p,_,rfl,e,(zb6 rx rg a.borne bg).1,(zb6 rx rg a.borne bg).2,l⟩)))))⟩
 refine ⟨_,rfl,rfl,_,rfl,q77 (fun c=>?_) (fun c7=>?_)⟩
 ·exact ⟨_,rfl,_,rfl,t,dx,kp,bt,n,m,rs,x,rfl,tab,hrs,xl,n1,n12,(q38 kx).1,(q38 kx).2,fun _ a p H' _ s' e=>k2 (Gd.borne ⟨rx,a⟩) _ H' s' (.inr (.inr (.inr (.inr (.inr (.inl ⟨de c,p,_,rfl,e,not_nb hrs rx,nb_len rs n12 x⟩))))))⟩
 refine ⟨_,rfl,rfl,_,rfl,q77 (fun c=>?_) (fun c8=>?_)⟩
 ·exact ⟨_,rfl,_,rfl,_,rfl,t,dx,kp,bt,n,m,rs,x,x,rfl,tab,xl,xl,n1,n12,kx,(fun _ h=>absurd (pat_row rx) h),(fun a _ h=>absurd (qB6 a.borne fun i _=>.inr rfl) h),fun a _ _ z H' N s'=>k2 a.borne _ H' s' (.inr (.inr (.inr (.inr (.inr (.inr (.inr ⟨.inr (.inl (de c)),by rw [qU9 hrs rx a.borne N]⟩)))))))⟩
 refine ⟨_,rfl,rfl,_,rfl,q77 (fun c=>?_) (fun c9=>?_)⟩
 ·refine ⟨_,rfl,_,rfl,q22 (show 2<=100 by decide),fun T1 h1=>⟨_,rfl,q22 (show 2<=100 by decide),fun T2 h2=>⟨q22 (show 2<=100 by decide),fun L hL=>?_⟩⟩⟩
  have e1:=Same.new (o:=.tup [.str g,.int 1]) h1
  have e2:=Same.new (o:=.tup [.str x,.int 2]) h2
  have e3:=Same.new (o:=.lst [.ref T1,.ref T2]) hL
  have s3:=e1.trans' (e2.trans' e3)
  have cr:CrI (upd (upd (upd H T1 (.tup [.str g,.int 1])) T2 (.tup [.str x,.int 2])) L (.lst [.ref T1,.ref T2])) L [(g,1),(x,2)]:=⟨[T1,T2],q01,rfl,fun i r k a b=>by
   match i,a,b with
   | 0,a,b=>cases a; cases b; exact e3 _ _ (e2 _ _ q01)
   | 1,a,b=>cases a; cases b; exact e3 _ _ q01
   | _ + 2,a,_=>cases a⟩
  generalize upd (upd (upd H T1 (.tup [.str g,.int 1])) T2 (.tup [.str x,.int 2])) L (.lst [.ref T1,.ref T2])=H3 at *
  refine ⟨t,dx,kp,bt,L,n,m,rs,[(g,1),(x,2)],rfl,tab.mono s3,cr,?_,n1,n12,(show 2<=100 by decide),?_,?_,?_⟩
  ·intro p hp
   rcases List.mem_cons.mp hp with rfl | hp
   ·exact gl
   ·rw [List.mem_singleton.mp hp]; exact xl
  ·intro i p hi _ bad
   match i,hi with
   | 0,hi =>
    cases hi
    rw [qu9 rg (by decide),gg.2] at bad
    cases bad
   | 1,hi =>
    cases hi
    rw [(z77 (rs:=rs) rx (by decide)).1,(z77 (BC:=BC) (BS:=BS) (BH:=BH) rx (by decide)).2]
    refine (k1 fun b=>?_).same s3
    rw [qu9 rx (by decide),(gx b).2] at bad
    cases bad
   | _ + 2,hi=>cases hi
  ·intro _ h
   exact absurd h (by show ¬ (3:Int) % 2=0; decide)
  ·intro h _ H' s'
   rw [voice2 rx]
   refine k2 (Gd.borne ⟨rx,?_⟩) _ H' (s3.trans' s') (.inr (.inr (.inr (.inr (.inr (.inr (.inr ⟨.inr (.inr (de c)),rfl⟩)))))))
   have:=h (x,2) (List.mem_cons_of_mem _ List.mem_cons_self)
   rw [qu9 rx (by decide)] at this
   simpa using this
 ·refine ⟨_,rfl,_,rfl,q22 (show 2<=100 by decide),fun T1 h1=>⟨_,rfl,q22 (show 2<=100 by decide),fun T2 h2=>⟨_,rfl,q22 (show 2<=100 by decide),fun T3 h3=>⟨q22 (show 3<=100 by decide),fun L hL=>?_⟩⟩⟩⟩
  have e1:=Same.new (o:=.tup [.str x,.int 1]) h1
  have e2:=Same.new (o:=.tup [.str g,.int 4]) h2
  have e3:=Same.new (o:=.tup [.str x,.int 2]) h3
  have e4:=Same.new (o:=.lst [.ref T1,.ref T2,.ref T3]) hL
  have s3:=e1.trans' (e2.trans' (e3.trans' e4))
  have cr:CrI (upd (upd (upd (upd H T1 (.tup [.str x,.int 1])) T2 (.tup [.str g,.int 4])) T3 (.tup [.str x,.int 2])) L (.lst [.ref T1,.ref T2,.ref T3])) L [(x,1),(g,4),(x,2)]:=⟨[T1,T2,T3],q01,rfl,fun i r k a b=>by
   match i,a,b with
   | 0,a,b=>cases a; cases b; exact e4 _ _ (e3 _ _ (e2 _ _ q01))
   | 1,a,b=>cases a; cases b; exact e4 _ _ (e3 _ _ q01)
   | 2,a,b=>cases a; cases b; exact e4 _ _ q01
   | _ + 3,a,_=>cases a⟩
  generalize upd (upd (upd (upd H T1 (.tup [.str x,.int 1])) T2 (.tup [.str g,.int 4])) T3 (.tup [.str x,.int 2])) L (.lst [.ref T1,.ref T2,.ref T3])=H3 at *
  refine ⟨t,dx,kp,bt,L,n,m,rs,[(x,1),(g,4),(x,2)],rfl,tab.mono s3,cr,?_,n1,n12,(show 3<=100 by decide),?_,?_,?_⟩
  ·intro p hp
   rcases List.mem_cons.mp hp with rfl | hp
   ·exact xl
   rcases List.mem_cons.mp hp with rfl | hp
   ·exact gl
   ·rw [List.mem_singleton.mp hp]; exact xl
  ·intro i p hi _ bad
   have nx:∀{k:Int},1<=k->Bad rs n (x,k)->Ref H3 E (vCl n BC BS BH (x,k)) (vWd rs n (x,k)):=fun hk bad=>by
    rw [(z77 (rs:=rs) rx hk).1,(z77 (BC:=BC) (BS:=BS) (BH:=BH) rx hk).2]
    refine (k1 fun b=>?_).same s3
    rw [qu9 rx hk,(gx b).2] at bad
    cases bad
   match i,hi with
   | 0,hi=>cases hi; exact nx (by decide) bad
   | 1,hi =>
    cases hi
    rw [qu9 rg (by decide),gg.2] at bad
    cases bad
   | 2,hi=>cases hi; exact nx (by decide) bad
   | _ + 3,hi=>cases hi
  ·intro _ h
   exact absurd h (by show ¬ (7:Int) % 2=0; decide)
  ·intro h _ H' s'
   rw [voice3 rg]
   have d10:d=10:=by have:=dn c0; have:=dn c1; have:=dn c2; have:=dn c3; have:=dn c4; have:=dn c5; have:=dn c6; have:=dn c7; have:=dn c8; have:=dn c9; omega
   refine k2 (Gd.borne ⟨rx,?_⟩) _ H' (s3.trans' s') (.inr (.inr (.inr (.inr (.inr (.inr (.inl ⟨.inr d10,rfl⟩)))))))
   have:=h (x,1) List.mem_cons_self
   rw [qu9 rx (by decide)] at this
   simpa using this
end
end K67
namespace K67
open PySem L2
open PyProof.Rows (envOfC)
abbrev qe7:Stmt:=top 80
theorem qk8 {K:PySem.W.Frag}{H:Hp}{p:Addr}{xs:List Str}(h:H p=some (.lst (xs.map V.str))) (hl:xs.length<=5000):Den K H (.ref p) (.lst (xs.map Dt.str)):=by
 refine .lst (SqL.of h) (by rw [List.length_map,List.length_map]) (by rw [List.length_map]; exact hl) fun i u d hu hd=>?_
 rw [List.getElem?_map] at hu hd
 cases z:xs[i]? with
 | none=>rw [z] at hu; cases hu
 | some y=>rw [z] at hu hd; cases hu; cases hd; exact .str _
theorem qg3:∀ xs:List Str,Dt.eqb.eqbs (xs.map Dt.str) (xs.map Dt.str)=true
 | []=>rfl
 | x :: r=>by
  show ((Dt.str x).eqb (.str x) && Dt.eqb.eqbs (r.map Dt.str) (r.map Dt.str))=true
  rw [qg3 r,Bool.and_true]
  exact decide_eq_true rfl
theorem qb7:∀ xs:List Str,Dt.deep.deeps (xs.map Dt.str)=0
 | []=>rfl
 | x :: r=>by show max 0 (Dt.deep.deeps (r.map Dt.str))=0; rw [qb7 r]; rfl
theorem qy0 (r:Str):∀ L:List Str,inV (.str r) (L.map V.str)=decide (r∈L)
 | []=>rfl
 | y :: L=>by
  show ((y == r) || inV (.str r) (L.map V.str))=_
  rw [qy0 r L,Bool.eq_iff_iff,Bool.or_eq_true,decide_eq_true_iff,decide_eq_true_iff,List.mem_cons,beq_iff_eq]
  exact ⟨fun h=>h.imp Eq.symm id,fun h=>h.imp Eq.symm id⟩
theorem qs2 (L:List Str):(L.map V.str).all qt3=true:=by
 rw [List.all_map]
 exact List.all_eq_true.mpr fun _ _=>rfl
section
variable {P:Program}{w:World}{K:PySem.W.Frag}{mg:Str->Option Value}{base:Heap}
abbrev N_ri:List Str:=["_law_found", "_law_door_here", "_law_rows_here", "_law_row", "_law_good", "_law_far", "_law_ends"]
abbrev P_ri:List Str:=["_law_found", "_law_door_here", "_law_rows_here", "_law_row", "_law_good"]
theorem sc_ri:FnScope N_ri P_ri (q02 qe7):=⟨rfl,rfl,rfl,by decide +kernel,rfl,by decide +kernel,by decide +kernel⟩
def qP7 (K:PySem.W.Frag):Sp:=fun vs H Q _=>∃(v:V) (l:Addr) (n:Nat) (rs:List Str) (d:Int) (x g:Str),vs=[v,.int d,.ref l,.str x,.str g]/\H l=some (.lst (rs.map V.str))/\(∀ y∈rs,Row n y)/\Row n x/\Row n g/\n<=12/\DoorV rs n d x g v H/\∀ H',Same H H'->Q (.bl true) H'
theorem z45 {f fb fp fe:Addr}{fd gb gp ge:FuncData}(D:Df K mg "_law_right" qe7 P_ri f fd) (Db:Df K mg "_law_bundles" qm8 P_lb fb gb) (Gb:FnOk P w K mg base (CXE P w) 2 fb gb P_lb (z97 K)) (Dp:Df K mg "_law_apart" qc6 P_la fp gp) (Gp:FnOk P w K mg base (CXE P w) 1 fp gp P_la (qH2 K)) (De:Df K mg "_law_same" qm7 Ps fe ge) (B:Bt mg):FnOk P w K mg base (CXE P w) 6 f fd P_ri (qP7 K):=by
 refine D.F.okN sc_ri (fun vs H Q E h=>?_) (fun cdv A outer s H vs Q E hr h=>?_)
 ·obtain ⟨v,l,n,rs,d,x,g,rfl,_⟩:=h
  rfl
 obtain ⟨v,l,n,rs,d,x,g,rfl,el,hrs,rx,rg,n12,dv,k⟩:=h
 have hu:(A.deeper (envOfC "_law_right" (q02 qe7) s.heap.objs.size f cdv)).units < cLine:=hr.units0
 refine ⟨_,q04 (q21 (i:=5) sc_ri.nd rfl (Or.inl rfl) (q15 q27 (by rfl) B.len PySem.boot_len (q00 (q14 Dp Gp (hr.mono (by decide)) q17 (q00 (q14 Db Gb (hr.mono (by decide)) q17 (q00 (pv 2) (q00 (q15 q49 (by rfl) B.len PySem.boot_len (q00 (pv 3) q03)) q03))) (q00 (pv 3) (q00 (pv 4) q03)))) q03)))
   (q04 (q30 (q10 qn7 (pv 1) q06 (q13 _)) (q05 (q12 (q14 De (qw9 De B 3) (hr.mono (by decide)) q17 (q00 (pv 0) (q00 (pv 5) q03))))) q16)
   (q04 (q30 (q10 qn7 (pv 1) q06 (q13 _)) (q04 (q21 (i:=6) sc_ri.nd rfl (Or.inl rfl) (q58 (q10 q37 (pv 1) q06 (q13 _)) (q36 (q00 (pv 3) (q00 (pv 4) q03))) (q36 (q00 (pv 4) (q00 (pv 3) q03)))))
   (q04 (q30 (PW.pt (qw2 (qa7 (q61 (q15 q59 (by rfl) B.isi (by rfl) (q00 (pv 0) (q00 (q86 (by rfl) B.list (v:=.ty "list") (u:=.type "list") (by rfl) rfl) q03))))) (qj8 (q10 qr2 (q15 q27 (by rfl) B.len PySem.boot_len (q00 (pv 0) q03)) (q24 q47 (pv 5) q06) (q13 _))))) (q05 (q12 qw7)) q16)
   (q05 (q12 (q14 De (qw9 De B 3) (hr.mono (by decide)) q17 (q00 (q36 (q00 (q25 ix_list (pv 0) q06 (fun _ _=>rfl)) (q00 (q25 ix_list (pv 0) (qL8 qt6 q06) (fun _ _=>rfl)) q03))) (q00 (pv 6) q03))))))) q16)
   (q04 (q30 (q10 q37 (pv 1) q06 (q13 _)) (q05 (q12 (qh7 (q15 q59 (by rfl) B.isi (by rfl) (q00 (pv 0) (q00 (q86 (by rfl) B.list (v:=.ty "list") (u:=.type "list") (by rfl) rfl) q03))) (qh7 (q50 q92 (pv 3) (pv 0) (by rfl)) (qn3 (q50 q92 (pv 4) (pv 0) (by rfl))))))) q16)
   (q04 (q30 (q10 q37 (pv 1) q06 (q13 _)) (q05 (q12 (qh7 (q15 q59 (by rfl) B.isi (by rfl) (q00 (pv 0) (q00 (q86 (by rfl) B.list (v:=.ty "list") (u:=.type "list") (by rfl) rfl) q03))) (qn3 (q50 qf8 (pv 3) (pv 0) (by rfl)))))) q16)
   (q05 (q12 (q14 De (qw9 De B 3) (hr.mono (by decide)) q17 (q00 (pv 0) (q00 (q58 (q10 q92 (pv 1) (q84 (q00 q06 (q00 q06 q03))) (by rfl)) (pv 4) (pv 3)) q03))))))))),?_⟩
 refine ⟨_,rfl,_,rfl,x,rfl,?_,l,n,rs,?_,SqL.of el,hrs,n12,fun sh H1 Bs=>?_⟩
 ·rw [rx.len]; exact q22 (by omega)
 ·rw [rx.len]; rfl
 have s1:=Bs.same
 refine ⟨_,rfl,_,rfl,sh,n,rs,x,g,rfl,Buns.now Bs,hrs,rx,rg,n12,fun p2 xs2 H2 hp2 s2 e2 l2=>⟨p2,_,rfl,.inl (SqL.of e2),?_⟩⟩
 rw [l2]
 have s02:=s1.trans' s2
 have dv2:=dv.mono s02
 have k2:∀ H',Same H2 H'->Q (.bl true) H':=fun H' s'=>k H' (s02.trans' s')
 have sI:∀{a:Int},true=(Dt.int a).eqb (.int a):=fun {a}=>(decide_eq_true (rfl:a=a)).symm
 have sS:∀{a:Str},true=(Dt.str a).eqb (.str a):=fun {a}=>(decide_eq_true (rfl:a=a)).symm
 rcases dv2 with ⟨rfl,rfl⟩ | ⟨rfl,rfl⟩ | ⟨rfl,p,us,rfl,ep,hd,ul⟩ | ⟨rfl,p,us,rfl,ep,hd,ul⟩ | ⟨rfl,p,L,rfl,ep,ix,ig,ll⟩ | ⟨rfl,p,L,rfl,ep,ix,ll⟩ | ⟨hd,rfl⟩ | ⟨hd,rfl⟩
 ·exact ⟨_,rfl,_,_,rfl,rfl,_,rfl,q48 ⟨_,rfl,_,rfl,_,_,_,_,rfl,.int _,.int _,(by show 0<=2; decide),fun H' s'=>sI ▸ k2 H' s'⟩⟩
 ·exact ⟨_,rfl,_,_,rfl,rfl,_,rfl,q48 ⟨_,rfl,_,rfl,_,_,_,_,rfl,.int _,.int _,(by show 0<=2; decide),fun H' s'=>sI ▸ k2 H' s'⟩⟩
 ·refine ⟨_,rfl,_,_,rfl,rfl,_,rfl,q31 ⟨_,rfl,_,_,rfl,rfl,_,rfl,q48 ?_⟩⟩
  refine ⟨_,rfl,rfl,_,rfl,q48 ⟨_,rfl,_,rfl,q22 (show 2<=100 by decide),fun el2 hel=>?_⟩⟩
  have se:=Same.new (o:=.lst ([x,g].map V.str)) hel
  have eE:upd H2 el2 (.lst ([x,g].map V.str)) el2=some (.lst ([x,g].map V.str)):=q01
  have ep3:=se _ _ ep
  refine ⟨_,rfl,.ref p,.lst, "list",true,rfl,⟨_,SqL.of ep3⟩,rfl,_,rfl,q31 ⟨_,rfl,p,_,rfl,.inl (SqL.of ep3),_,rfl,_,_,rfl,rfl,rfl,_,rfl,?_⟩⟩
  have e:(V.int (((us ++ [g]).map V.str).length:Nat)=V.int ((dfc rs n x g:Nat) + 1)):=by rw [List.length_map,List.length_append,ul]; rfl
  show if (!decide (V.int (((us ++ [g]).map V.str).length:Nat)=V.int ((dfc rs n x g:Nat) + 1)))=true then _ else _
  rw [decide_eq_true e]
  refine q31 ⟨_,rfl,p,_,_,_,rfl,rfl,SqL.of ep3,(show _=some (V.str x) from q46 (j:=0) (by rw [List.getElem?_map,hd]; rfl)),_,rfl,_,rfl,p,_,_,_,rfl,rfl,SqL.of ep3,qs8 us g,q22 (show 2<=100 by decide),fun l3 h3=>?_⟩
  have s3:=Same.new (o:=.lst ([x,g].map V.str)) h3
  refine ⟨_,rfl,_,_,_,_,rfl,qk8 (xs:=[x,g]) q01 (show 2<=5000 by decide),qk8 (xs:=[x,g]) (s3 _ _ eE) (show 2<=5000 by decide),?_,fun H' s'=>?_⟩
  ·show 1 + Dt.deep.deeps _<=2
   rw [qb7]; decide
  ·show Q (.bl (Dt.eqb.eqbs _ _)) H'
   rw [qg3]
   exact k2 H' (se.trans' (s3.trans' s'))
 ·refine ⟨_,rfl,_,_,rfl,rfl,_,rfl,q31 ⟨_,rfl,_,_,rfl,rfl,_,rfl,q48 ?_⟩⟩
  refine ⟨_,rfl,rfl,_,rfl,q31 ⟨_,rfl,_,rfl,q22 (show 2<=100 by decide),fun el2 hel=>?_⟩⟩
  have se:=Same.new (o:=.lst ([g,x].map V.str)) hel
  have eE:upd H2 el2 (.lst ([g,x].map V.str)) el2=some (.lst ([g,x].map V.str)):=q01
  have ep3:=se _ _ ep
  refine ⟨_,rfl,.ref p,.lst, "list",true,rfl,⟨_,SqL.of ep3⟩,rfl,_,rfl,q31 ⟨_,rfl,p,_,rfl,.inl (SqL.of ep3),_,rfl,_,_,rfl,rfl,rfl,_,rfl,?_⟩⟩
  have e:(V.int (((us ++ [x]).map V.str).length:Nat)=V.int ((dfc rs n x g:Nat) + 1)):=by rw [List.length_map,List.length_append,ul]; rfl
  show if (!decide (V.int (((us ++ [x]).map V.str).length:Nat)=V.int ((dfc rs n x g:Nat) + 1)))=true then _ else _
  rw [decide_eq_true e]
  refine q31 ⟨_,rfl,p,_,_,_,rfl,rfl,SqL.of ep3,(show _=some (V.str g) from q46 (j:=0) (by rw [List.getElem?_map,hd]; rfl)),_,rfl,_,rfl,p,_,_,_,rfl,rfl,SqL.of ep3,qs8 us x,q22 (show 2<=100 by decide),fun l3 h3=>?_⟩
  have s3:=Same.new (o:=.lst ([g,x].map V.str)) h3
  refine ⟨_,rfl,_,_,_,_,rfl,qk8 (xs:=[g,x]) q01 (show 2<=5000 by decide),qk8 (xs:=[g,x]) (s3 _ _ eE) (show 2<=5000 by decide),?_,fun H' s'=>?_⟩
  ·show 1 + Dt.deep.deeps _<=2
   rw [qb7]; decide
  ·show Q (.bl (Dt.eqb.eqbs _ _)) H'
   rw [qg3]
   exact k2 H' (se.trans' (s3.trans' s'))
 ·refine ⟨_,rfl,_,_,rfl,rfl,_,rfl,q31 ⟨_,rfl,_,_,rfl,rfl,_,rfl,q31 ⟨_,rfl,rfl,_,rfl,q48 ?_⟩⟩⟩
  refine ⟨_,rfl,.ref p,.lst, "list",true,rfl,⟨_,SqL.of ep⟩,rfl,_,rfl,q48 ⟨_,rfl,_,rfl,p,_,rfl,.inl (SqL.of ep),rfl,qs2 L,?_⟩⟩
  show ∃ c,V.bl (inV (.str x) (L.map V.str))=.bl c/\_
  rw [qy0,decide_eq_true ix]
  refine ⟨_,rfl,q48 ⟨_,rfl,_,rfl,p,_,rfl,.inl (SqL.of ep),rfl,qs2 L,?_⟩⟩
  show Q (.bl (inV (.str g) (L.map V.str))) H2
  rw [qy0,decide_eq_true ig]
  exact k2 H2 (Same.refl _)
 ·refine ⟨_,rfl,_,_,rfl,rfl,_,rfl,q31 ⟨_,rfl,_,_,rfl,rfl,_,rfl,q31 ⟨_,rfl,rfl,_,rfl,q31 ⟨_,rfl,rfl,_,rfl,q48 ?_⟩⟩⟩⟩
  refine ⟨_,rfl,.ref p,.lst, "list",true,rfl,⟨_,SqL.of ep⟩,rfl,_,rfl,q48 ⟨_,rfl,_,rfl,p,_,rfl,.inl (SqL.of ep),rfl,qs2 L,?_⟩⟩
  show Q (.bl (!inV (.str x) (L.map V.str))) H2
  rw [qy0,decide_eq_false ix]
  exact k2 H2 (Same.refl _)
 ·rcases hd with rfl | rfl
  ·refine ⟨_,rfl,_,_,rfl,rfl,_,rfl,q31 ⟨_,rfl,_,_,rfl,rfl,_,rfl,q31 ⟨_,rfl,rfl,_,rfl,q31 ⟨_,rfl,rfl,_,rfl,q31 ?_⟩⟩⟩⟩
   refine ⟨_,rfl,_,rfl,q22 (show 2<=100 by decide),fun Tp nT=>⟨Tp,_,rfl,.inr (SqT.of q01),rfl,rfl,_,rfl,q48 ⟨_,rfl,_,_,_,_,rfl,.str _,.str _,(by show 0<=2; decide),fun H' s'=>sS ▸ k2 H' ((Same.new nT).trans' s')⟩⟩⟩
  ·refine ⟨_,rfl,_,_,rfl,rfl,_,rfl,q31 ⟨_,rfl,_,_,rfl,rfl,_,rfl,q31 ⟨_,rfl,rfl,_,rfl,q31 ⟨_,rfl,rfl,_,rfl,q31 ?_⟩⟩⟩⟩
   refine ⟨_,rfl,_,rfl,q22 (show 2<=100 by decide),fun Tp nT=>⟨Tp,_,rfl,.inr (SqT.of q01),rfl,rfl,_,rfl,q48 ⟨_,rfl,_,_,_,_,rfl,.str _,.str _,(by show 0<=2; decide),fun H' s'=>sS ▸ k2 H' ((Same.new nT).trans' s')⟩⟩⟩
 ·rcases hd with rfl | rfl | rfl
  all_goals
   refine ⟨_,rfl,_,_,rfl,rfl,_,rfl,q31 ⟨_,rfl,_,_,rfl,rfl,_,rfl,q31 ⟨_,rfl,rfl,_,rfl,q31 ⟨_,rfl,rfl,_,rfl,q31 ?_⟩⟩⟩⟩
   exact ⟨_,rfl,_,rfl,q22 (show 2<=100 by decide),fun Tp nT=>⟨Tp,_,rfl,.inr (SqT.of q01),rfl,rfl,_,rfl,q31 ⟨_,rfl,_,_,_,_,rfl,.str _,.str _,(by show 0<=2; decide),fun H' s'=>sS ▸ k2 H' ((Same.new nT).trans' s')⟩⟩⟩
end
end K67
namespace K67
open PySem L2
open PyProof.Rows (envOfC)
abbrev q71:Stmt:=top 81
def qA:Str := "_law_asked" ++ ".<locals>." ++ "<lambda>"
theorem TabOk.ne {H:Hp}{Pt b:Addr}{o:HO}{q:Str}(t:TabOk H Pt q) (e:H b=some o) (n:∀ ps,o≠.tbl ps):b≠Pt:=fun z=>by
 obtain ⟨ps,hp,_⟩:=t.ex
 rw [z,hp] at e; cases e; exact n _ rfl
theorem qn9 {H H':Hp}{Pt b:Addr}{o:HO}{q:Str}(t:TabOk H Pt q) (s:SameP Pt H H') (e:H b=some o) (n:∀ ps,o≠.tbl ps):H' b=some o:=s _ _ (TabOk.ne t e n) e
theorem TabAt.monoP {C:Addr}{H H':Hp}{Pt t dx kp bt:Addr}{n m:Nat}{rs:List Str}{q:Str}(T:TabOk H Pt q) (s:SameP Pt H H') (h:TabAt C H t dx kp bt n m rs):TabAt C H' t dx kp bt n m rs:=by
 obtain ⟨i,c,bvs,e1,e2,r⟩:=h
 exact ⟨qn9 T s i (fun ps z=>by cases z),c,bvs,qn9 T s e1 (fun ps z=>by cases z),qn9 T s e2 (fun ps z=>by cases z),r⟩
structure FQ (C Pt:Addr) (H0 H:Hp) (t dx kp bt l el:Addr) (n m:Nat) (rs es:List Str):Prop where
 tb:TabOk H Pt qA
 sp:SameP Pt H0 H
 tab:TabAt C H t dx kp bt n m rs
 er:H l=some (.lst (rs.map V.str))
 ee:H el=some (.lst (es.map V.str))
 rows:∀ y∈rs,Row n y
 erows:∀ y∈es,Row n y
 r1:0 < rs.length
 e1:0 < es.length
 n1:1<=n
 n12:n<=12
theorem FQ.mono {C Pt:Addr}{H0 H H':Hp}{t dx kp bt l el:Addr}{n m:Nat}{rs es:List Str}(h:FQ C Pt H0 H t dx kp bt l el n m rs es) (s:Same H H'):FQ C Pt H0 H' t dx kp bt l el n m rs es :=
 { h with tb:=h.tb.same s,sp:=h.sp.trans (fun b o _ e=>s b o e),tab:=h.tab.mono s,er:=s _ _ h.er,ee:=s _ _ h.ee }
theorem FQ.monoP {C Pt:Addr}{H0 H H':Hp}{t dx kp bt l el:Addr}{n m:Nat}{rs es:List Str}(h:FQ C Pt H0 H t dx kp bt l el n m rs es) (T:TabOk H' Pt qA) (s:SameP Pt H H'):FQ C Pt H0 H' t dx kp bt l el n m rs es :=
 { h with tb:=T,sp:=h.sp.trans s,tab:=TabAt.monoP h.tb s h.tab,er:=qn9 h.tb s h.er (fun ps z=>by cases z),ee:=qn9 h.tb s h.ee (fun ps z=>by cases z) }
theorem qX3 {K:PySem.W.Frag}{H:Hp}{p:Addr}{x:V}{d:Dt}(h:H p=some (.tup [x])) (hx:Den K H x d):Den K H (.ref p) (.tup [d]):=by
 refine .tup (.inl (.inl h)) rfl (show 1<=5000 by decide) fun i u v hu hv=>?_
 match i,hu,hv with
 | 0,hu,hv=>cases hu; cases hv; exact hx
 | _ + 1,hu,_=>cases hu
theorem zc0 (a:Str):(Dt.tup [.str a]).eqb (.tup [.str a])=true:=by
 show (decide (a=a) && true)=true
 rw [decide_eq_true rfl]; rfl
section
variable {P:Program}{w:World}{K:PySem.W.Frag}{mg:Str->Option Value}{base:Heap}{C fi fa ft fy fm fc:Addr}{gi ga gt gy gm gc:FuncData}{W BC BS fW fC fS:Addr}{gW gC gS:FuncData}
abbrev N_ak:List Str:=["_law_made", "_law_rows_here", "_law_elder", "_law_cell_here", "_law_k", "_law_drawn", "_law_row", "_law_good", "_law_lone", "_law_turn", "_law_found"]
abbrev P_ak:List Str:=["_law_made", "_law_rows_here", "_law_elder", "_law_cell_here"]
theorem sc_ak:FnScope N_ak P_ak (q02 q71):=⟨rfl,rfl,rfl,by decide +kernel,rfl,by decide +kernel,by decide +kernel⟩
abbrev XA (P:Program) (w:World) (K:PySem.W.Frag) (mg:Str->Option Value) (base:Heap) (f:Addr) (cc:Addr) (A:Around) (outer:List Env) (s:Shared) (H:Hp) (E:XK):Cx :=
 (qD7 (CXE P w) P w K mg base N_ak "_law_asked" (q02 q71) f (.ref cc) A outer s H E).nox
variable {f cc Pt:Addr}
def qQ6 (C Pt:Addr):Sp:=fun vs H Q _=>∃(t dx kp bt l el:Addr) (n m:Nat) (rs es:List Str) (c:Int),vs=[.ref t,.ref l,.ref el,.int c]/\FQ C Pt H H t dx kp bt l el n m rs es/\∀ H',TabOk H' Pt qA->SameP Pt H H'->Q (.bl true) H'
theorem z53 {oc kV doc pm ct:Value}{od an:Option Addr}{osl:Array (Option Value)}{fr fl fw fe fd ft':Addr}{gr gl gw ge gd gt':FuncData}
  (lk:K.lookup f=some ⟨oc,od,.func (PySem.W.fnOf "_law_asked" "_law_asked" (q09 q71) (q07 q71) (q02 q71) .none kV doc pm an (.ref cc) ct),osl⟩) (hcd:PySem.W.codeIn K (.ref cc) "_law_asked" = true)
  (Dr:Df K mg "_law_draws" q95 Pdr fr gr) (Dl:Df K mg "_law_lacks" qc5 Pll fl gl) (Gl:FnOk P w K mg base (CXE P w) 2 fl gl Pll (qH1 K)) (Dw:Df K mg "_law_word" qq0 ["_law_asked_here"] fw gw) (De:Df K mg "_law_same" qm7 Ps fe ge)
  (Dd:Df K mg "_law_door" qn0 P_do fd gd) (Gd1:∀ base,FnOk P w K mg base (CXE P w) 11 fd gd P_do (qQ2 C BC)) (Dt:Df K mg "_law_right" qe7 P_ri ft' gt') (Gt:FnOk P w K mg base (CXE P w) 6 ft' gt' P_ri (qP7 K))
  (X:Xs K mg W BC BS fW fC fS gW gC gS) (B:Bt mg) (Cd:PySem.W.CodeHd base cc Pt) (BM:BMain mg base) :
  FnOk P w K mg base (CXE P w) 14 f (PySem.W.fnOf "_law_asked" "_law_asked" (q09 q71) (q07 q71) (q02 q71) .none kV doc pm an (.ref cc) ct) P_ak (qQ6 C Pt):=by
 refine z65 lk hcd sc_ak (fun vs H Q E h=>?_) fun A outer s H vs Q E hr h=>?_
 ·obtain ⟨t,dx,kp,bt,l,el,n,m,rs,es,c,rfl,_⟩:=h
  rfl
 obtain ⟨t,dx,kp,bt,l,el,n,m,rs,es,c,rfl,F0,k⟩:=h
 suffices hsuff:∃ t',PSs (XA P w K mg base f cc A outer s H E) (q07 q71) t'/\t' { nx:=fun _ H'=>Q .non H',rt:=Q } (start N_ak [.ref t,.ref l,.ref el,.int c]) H by
  obtain ⟨t,h1,h2⟩:=hsuff
  exact ⟨t,h1.nox,h2⟩
 have hu:(XA P w K mg base f cc A outer s H E).A.units < cLine:=hr.units0
 refine ⟨_,q04 (q91 PassesOwn.never rfl (q34 (by rfl) B.range (q00 q06 q03)) (q11 (i:=4) sc_ak.nd rfl (Or.inl rfl))
   (q04 (q21 (i:=5) sc_ak.nd rfl (Or.inr rfl) (q14 Dr (qh2 Dr B) (hr.mono (by decide)) q17 (q00 (q24 q47 (pv 3) (q24 qf9 q06 (pv 4))) (q00 (q36 (q00 q06 (q00 q06 (q00 q06 q03)))) q03))))
   (q04 (q21 (i:=6) sc_ak.nd rfl (Or.inr rfl) (q25 ix_list (pv 2) (q24 q66 (q25 ix_list (pv 5) q06 (fun _ _=>rfl)) (q15 q27 (by rfl) B.len PySem.boot_len (q00 (pv 2) q03))) (fun _ _=>rfl)))
   (q04 (q21 (i:=7) sc_ak.nd rfl (Or.inr rfl) (q25 ix_list (pv 1) (q24 q66 (q25 ix_list (pv 5) q06 (fun _ _=>rfl)) (q15 q27 (by rfl) B.len PySem.boot_len (q00 (pv 1) q03))) (fun _ _=>rfl)))
   (q04 (q21 (i:=8) sc_ak.nd rfl (Or.inl rfl) (q50 (qo6 hu) (q14 Dl Gl (hr.mono (by decide)) q17 (q00 (pv 1) (q00 (pv 6) q03))) (q36 q03) (q13 _)))
   (q05 (q91 PassesOwn.never rfl (q34 (by rfl) B.range (q00 q06 q03)) (q11 (i:=9) sc_ak.nd rfl (Or.inl rfl))
   (q04 (q21 (i:=10) sc_ak.nd rfl (Or.inl rfl) (pe_word (W:=W) (P:=Pt) (c:=cc) (kl:=11) (kw:=13) (N:=["_law_made", "_law_drawn", "_law_row", "_law_good"]) (fm:=[0,5,6,7]) (t:=fun E=>qL6 (qQ2 C BC) [] E (qn5 (qO9 0) (qn5 (tOp (qR9 K) (qO9 1) (tC (.int 1))) (qn5 (qO9 2) (qn5 (qO9 3) tNil))))) Dw (fun base f fdl spl ho hb G=>ok_word Dw X ho hb G) (hr.mono (by decide)) rfl Cd BM (fun _=>rfl) (by exact ⟨rfl,rfl,rfl,by decide +kernel⟩) (by exact (show ∀ y:Str×NameKind,y∈_->y.2=NameKind.free->(q02 q71).names.lookup y.1=some NameKind.cell by decide +kernel)) rfl (by intro i x h; match i,h with | 0,h=>cases h; exact ⟨rfl,0,rfl,rfl⟩ | 1,h=>cases h; exact ⟨rfl,5,rfl,rfl⟩ | 2,h=>cases h; exact ⟨rfl,6,rfl,rfl⟩ | 3,h=>cases h; exact ⟨rfl,7,rfl,rfl⟩ | _ + 4,h=>cases h) (by intro base f c' A outer s H E hr; exact q14 Dd (Gd1 base) hr passL (q00 (pv 0) (q00 (q25 (r:=qR9 K) ix_list (pv 1) q06 (fun _ _=>rfl)) (q00 (pv 2) (q00 (pv 3) q03))))) q17))
   (q04 (q30 (PW.pt (qe0 (q61 (pv 8)) (qa6 (qa7 (q61 (q14 De (qw9 De B 3) (hr.mono (by decide)) q17 (q00 (pv 10) (q00 (q84 (q00 q20 q03)) q03)))))))) (q05 (q12 qw7)) q16)
   (q04 (q30 (q61 (pv 8)) (q05 qE9) q16)
   (q05 (q30 (PW.pt (qw2 (q10 qr2 (q25 ix_tup (pv 10) q06 (fun _ _=>rfl)) q20 (q13 _)) (qj8 (qa7 (q61 (q14 Dt Gt (hr.mono (by decide)) q17 (q00 (q25 ix_tup (pv 10) q06 (fun _ _=>rfl)) (q00 (q25 ix_list (pv 5) q06 (fun _ _=>rfl)) (q00 (pv 1) (q00 (pv 6) (q00 (pv 7) q03))))))))))) (q05 (q12 qw7)) q16))))))))))))
   (q05 (q12 qw7)),?_⟩
 have n12:=F0.n12
 refine ⟨_,rfl,by decide,by decide,?_⟩
 refine q52 (n:=3) (fun i σ H1=>∃ v4 v5 v6 v7 v8 v9 v10,σ=[some (.ref t),some (.ref l),some (.ref el),some (.int c),v4,v5,v6,v7,v8,v9,v10]/\FQ C Pt H H1 t dx kp bt l el n m rs es) ⟨none,none,none,none,none,none,none,rfl,F0⟩ ?_ (fun σ H1 ⟨_,_,_,_,_,_,_,_,F1⟩=>k H1 F1.tb F1.sp)
 rintro i σ H1 hi ⟨v4,v5,v6,v7,v8,v9,v10,rfl,F1⟩
 refine ⟨_,rfl,_,rfl,_,_,rfl,rfl,.inl ⟨by decide,by decide⟩,_,_,rfl,rfl,q22 (show 3<=100 by decide),fun t' ht'=>?_⟩
 refine ⟨_,t',[12,11,67],rfl,SqL.of q01,by decide,by decide,fun u H2 s2 hu' e2=>?_⟩
 obtain ⟨d0,d1,d2,ed,h10,h11⟩:∃ d0 d1 d2:Int,(qk7 (c + 37 * (0 + (i:Int))) [12,11,67]).map V.int=[.int d0,.int d1,.int d2]/\0<=d1/\d1 < 11:=⟨_,_,_,rfl,Int.emod_nonneg _ (by decide),Int.emod_lt_of_pos _ (by decide)⟩
 rw [ed] at e2
 have F2:=F1.mono ((Same.new ht').trans' s2)
 obtain ⟨x,hx,ex⟩:=qw5 (L:=es) F2.e1 d0
 obtain ⟨g,hg,eg⟩:=qw5 (L:=rs) F2.r1 d2
 have e1:=F2.e1
 have r1:=F2.r1
 refine ⟨_,rfl,_,rfl,u,_,_,_,rfl,rfl,SqL.of e2,(show _=some (V.int d0) from rfl),_,rfl,el,_,rfl,.inl (SqL.of F2.ee),_,_,rfl,rfl,(by rw [List.length_map]; omega),el,_,_,_,rfl,rfl,SqL.of F2.ee,ex,?_⟩
 refine ⟨_,rfl,_,rfl,u,_,_,_,rfl,rfl,SqL.of e2,(show _=some (V.int d2) from rfl),_,rfl,l,_,rfl,.inl (SqL.of F2.er),_,_,rfl,rfl,(by rw [List.length_map]; omega),l,_,_,_,rfl,rfl,SqL.of F2.er,eg,?_⟩
 have rx:=F2.erows x hx
 have rg:=F2.rows g hg
 refine ⟨_,rfl,_,rfl,l,n,rs,x,rfl,SqL.of F2.er,F2.rows,n12,rx,fun pk H3 hpk a3=>?_⟩
 have F3:=F2.mono a3.same
 have u3:=a3.same _ _ e2
 obtain ⟨xs,exs,txs⟩:=a3.at_
 refine ⟨Nat.zero_le _,fun pe hpe=>?_⟩
 have se:=Same.new (o:=.lst []) hpe
 have F4:=F3.mono se
 have u4:=se _ _ u3
 have x4:=se _ _ exs
 have e4:upd H3 pe (.lst []) pe=some (.lst []):=q01
 generalize upd H3 pe (.lst [])=H4 at *
 refine ⟨pk,pe,_,rfl,rfl,SqL.of x4,SqL.of e4,?_⟩
 have lone:(!(xs.map V.ref).isEmpty) = !q98 rs n x:=by
  unfold q98
  congr 1
  have:=txs.1
  cases xs with
  | nil=>cases z:pgM rs 0 (q78 x n) with
   | nil=>rfl
   | cons a b=>rw [z] at this; cases this
  | cons a b=>cases z:pgM rs 0 (q78 x n) with
   | nil=>rw [z] at this; cases this
   | cons a b=>rfl
 rw [lone]
 clear lone txs exs a3 x4 e4 F3 u3 F2 e2 ex eg
 by_cases hb:q39 rs n x
 ·rw [qb9 hb]
  refine ⟨_,rfl,by decide,by decide,?_⟩
  refine q52 (n:=2) (fun j σ H5=>∃ v9 v10,σ=[some (.ref t),some (.ref l),some (.ref el),some (.int c),some (.int (0 + (i:Int))),some (.ref u),some (.str x),some (.str g),some (.bl false),v9,v10]/\FQ C Pt H H5 t dx kp bt l el n m rs es/\H5 u=some (.lst [.int d0,.int d1,.int d2])) ⟨_,_,rfl,F4,u4⟩ ?_ (fun σ H5 ⟨_,_,e,F5,_⟩=>⟨_,_,_,_,_,_,_,e,F5⟩)
  rintro j σ H5 hj ⟨v9,v10,rfl,F5,u5⟩
  refine ⟨F5.tb,fun H6 T6 sp6=>?_⟩
  have F6:=F5.monoP T6 sp6
  have u6:=qn9 F5.tb sp6 u5 (fun ps z=>by cases z)
  refine ⟨_,rfl,_,rfl,u,_,_,_,rfl,rfl,SqL.of u6,(show _=some (V.int d1) from rfl),_,rfl,_,rfl,t,dx,kp,bt,n,m,rs,d1,x,g,rfl,F6.tab,F6.rows,rx,rg,ql2 hg,F6.n1,n12,h10,h11,(fun h=>absurd hb h),fun _ v H7 s7 dv=>toldQ.mk fun r nr=>?_⟩
  have sr:=Same.new (o:=.tup [.str "told",v]) nr
  have F8:=(F6.mono s7).mono sr
  have u8:=sr _ _ (s7 _ _ u6)
  have dv8:=dv.mono sr
  have er:upd H7 r (.tup [.str "told",v]) r=some (.tup [.str "told",v]):=q01
  generalize upd H7 r (.tup [.str "told",v])=H8 at *
  refine ⟨_,rfl,_,rfl,q31 (q31 ⟨_,rfl,_,rfl,q31 ⟨_,rfl,r,_,_,_,rfl,rfl,SqT.of er,(show _=some (V.str "told") from rfl),rfl,_,rfl,?_⟩⟩)⟩
  show if (!decide (V.str ("told" : Str)=V.str ("told" : Str)))=true then _ else _
  rw [decide_eq_true rfl]
  exact q31 ⟨_,rfl,r,_,_,_,rfl,rfl,SqT.of er,(show _=some v from rfl),_,rfl,u,_,_,_,rfl,rfl,SqL.of u8,(show _=some (V.int d1) from rfl),_,rfl,_,rfl,_,rfl,v,l,n,rs,d1,x,g,rfl,F8.er,F8.rows,rx,rg,n12,dv8,fun H9 s9=>⟨_,rfl,q31 ⟨_,_,rfl,F8.mono s9,s9 _ _ u8⟩⟩⟩
 ·have fb:q98 rs n x=false:=by
   cases z:q98 rs n x with
   | false=>rfl
   | true=>exact absurd (qu6 rx z) hb
  rw [fb]
  refine ⟨_,rfl,by decide,by decide,?_⟩
  refine q52 (n:=2) (fun j σ H5=>∃ v9 v10,σ=[some (.ref t),some (.ref l),some (.ref el),some (.int c),some (.int (0 + (i:Int))),some (.ref u),some (.str x),some (.str g),some (.bl true),v9,v10]/\FQ C Pt H H5 t dx kp bt l el n m rs es/\H5 u=some (.lst [.int d0,.int d1,.int d2])) ⟨_,_,rfl,F4,u4⟩ ?_ (fun σ H5 ⟨_,_,e,F5,_⟩=>⟨_,_,_,_,_,_,_,e,F5⟩)
  rintro j σ H5 hj ⟨v9,v10,rfl,F5,u5⟩
  refine ⟨F5.tb,fun H6 T6 sp6=>?_⟩
  have F6:=F5.monoP T6 sp6
  have u6:=qn9 F5.tb sp6 u5 (fun ps z=>by cases z)
  refine ⟨_,rfl,_,rfl,u,_,_,_,rfl,rfl,SqL.of u6,(show _=some (V.int d1) from rfl),_,rfl,_,rfl,t,dx,kp,bt,n,m,rs,d1,x,g,rfl,F6.tab,F6.rows,rx,rg,ql2 hg,F6.n1,n12,h10,h11,(fun _ dx' H7 s7 e7=>⟨BC,dx', "not borne",rfl,rfl,e7,X.sC,X.kC,fun H8 r s8 nr=>?_⟩),fun h=>absurd h hb⟩
  have sr:=Same.new (o:=.tup [.str "not borne"]) nr
  have s68:=s7.trans' (s8.trans' sr)
  have F9:=F6.mono s68
  have u9:=s68 _ _ u6
  have er:upd H8 r (.tup [.str "not borne"]) r=some (.tup [.str "not borne"]):=q01
  generalize upd H8 r (.tup [.str "not borne"])=H9 at *
  refine ⟨_,rfl,_,rfl,q48 ⟨_,rfl,q22 (show 1<=100 by decide),fun T nT=>?_⟩⟩
  have sT:=Same.new (o:=.tup [.str "not borne"]) nT
  refine ⟨_,_,_,_,rfl,qX3 (sT _ _ er) (.str _),qX3 q01 (.str _),(by decide),fun HA sA=>⟨_,rfl,?_⟩⟩
  rw [zc0]
  have sTA:=sT.trans' sA
  exact q31 ⟨_,rfl,_,rfl,q48 ⟨_,_,rfl,F9.mono sTA,sTA _ _ u9⟩⟩
end
end K67
namespace K67
open PySem L2
open PyProof.Rows (envOfC)
abbrev qt1:Stmt:=top 82
structure Fct (C Pt:Addr) (H:Hp) (p q ed t dx kp bt l:Addr) (n m i:Nat) (ms:List Int) (fr es rs:List Str):Prop where
 tb:TabOk H Pt qA
 ep:H p=some (.lst (ms.map V.int))
 eq:H q=some (.lst (fr.map V.str))
 ee:H ed=some (.lst (es.map V.str))
 el:H l=some (.lst (rs.map V.str))
 rows:∀ y∈rs,Row n y
 frows:∀ y∈fr,Row n y
 erows:∀ y∈es,Row n y
 e12:es.length<=12
 tab:TabAt C H t dx kp bt n m rs
 n1:1<=n
 n12:n<=12
 ms63:ms.length<=63
 fl:fr.length<=ms.length - 2
 mi:m<=2 * i
 ri:rs.length<=i
 lp:p≠l
 lq:q≠l
 le:ed≠l
section
variable {C Pt:Addr}{H H':Hp}{p q ed t dx kp bt l:Addr}{n m i:Nat}{ms:List Int}{fr es rs:List Str}
theorem Fct.mono (h:Fct C Pt H p q ed t dx kp bt l n m i ms fr es rs) (s:Same H H'):Fct C Pt H' p q ed t dx kp bt l n m i ms fr es rs :=
 { h with tb:=h.tb.same s,ep:=s _ _ h.ep,eq:=s _ _ h.eq,ee:=s _ _ h.ee,el:=s _ _ h.el,tab:=h.tab.mono s }
theorem Fct.monoP (h:Fct C Pt H p q ed t dx kp bt l n m i ms fr es rs) (T:TabOk H' Pt qA) (s:SameP Pt H H'):Fct C Pt H' p q ed t dx kp bt l n m i ms fr es rs :=
 { h with tb:=T,ep:=qn9 h.tb s h.ep (fun ps z=>by cases z),eq:=qn9 h.tb s h.eq (fun ps z=>by cases z),ee:=qn9 h.tb s h.ee (fun ps z=>by cases z),el:=qn9 h.tb s h.el (fun ps z=>by cases z),tab:=TabAt.monoP h.tb s h.tab }
theorem Fct.off (h:Fct C Pt H p q ed t dx kp bt l n m i ms fr es rs) (fm:∀ b o,b≠kp->b≠bt->b≠l->H b=some o->H' b=some o) {b:Addr}{xs:List V}(hb:b≠l) (e:H b=some (.lst xs)):H' b=some (.lst xs):=by
 obtain ⟨_,c,bvs,e1,e2,r⟩:=h.tab
 exact fm b _ (fun z=>by rw [z,e1] at e; cases e) (fun z=>by rw [z,e2] at e; cases e) hb e
theorem Fct.chg {m':Nat}{rs':List Str}(h:Fct C Pt H p q ed t dx kp bt l n m i ms fr es rs) (tab':TabAt C H' t dx kp bt n m' rs') (hm:m'<=m + 2) (el':H' l=some (.lst (rs'.map V.str))) (rows':∀ y∈rs',Row n y) (len':rs'.length<=rs.length + 1)
  (fm:∀ b o,b≠kp->b≠bt->b≠l->H b=some o->H' b=some o):Fct C Pt H' p q ed t dx kp bt l n m' (i + 1) ms fr es rs':=by
 have:=h.mi
 have:=h.ri
 have t':TabOk H' Pt qA:=h.tb.frame fun b o n1 n2 n3 e=>by
  obtain ⟨_,c,bvs,e1,e2,r⟩:=h.tab
  refine fm b o (fun z=>?_) (fun z=>?_) (fun z=>?_) e
  ·rw [z,e1] at e; exact n2 _ (Option.some.inj e).symm
  ·rw [z,e2] at e; exact n3 _ (Option.some.inj e).symm
  ·rw [z,h.el] at e; exact n1 _ (Option.some.inj e).symm
 exact { h with tb:=t',ep:=h.off fm h.lp h.ep,eq:=h.off fm h.lq h.eq,ee:=h.off fm h.le h.ee,el:=el',rows:=rows',tab:=tab',mi:=by omega,ri:=by omega }
end
theorem cut_sub (ps:List Str) (lo hi:Option Int):∃ ys:List Str,qK4 (ps.map V.str) lo hi=ys.map V.str/\(∀ y∈ys,y∈ps)/\ys.length<=ps.length:=by
 unfold qK4
 rw [<- List.map_drop,<- List.map_take]
 exact ⟨_,rfl,fun y hy=>List.mem_of_mem_drop (List.mem_of_mem_take hy),by rw [List.length_take,List.length_drop]; omega⟩
theorem z75 (xs:List V):qK4 xs (some (-12)) none=xs.drop (xs.length - 12):=by
 unfold qK4
 have e:HT.sIx xs.length 0 (some (-12))=xs.length - 12:=by
  unfold HT.sIx
  simp only
  split <;> omega
 rw [e]
 simp [HT.sIx]
 rw [List.take_of_length_le (by rw [List.length_drop]; exact Nat.le_refl _)]
def M0 (H:Hp):St->Hp->Prop:=fun σ H'=>∃(p q:Addr) (ms:List Int) (n:Nat) (fr:List Str),σ=[some (.ref p),some (.int n),some (.ref q),none,none,none,none,none,none,none]/\H' q=some (.lst (fr.map V.str))/\(∀ y∈fr,Row n y)/\fr.length<=ms.length - 2/\H' p=some (.lst (ms.map V.int))/\Same H H'/\1<=n/\n<=12/\ms.length<=63
section
variable {P:Program}{w:World}{K:PySem.W.Frag}{mg:Str->Option Value}{base:Heap}{C fi fa ft fy fm fc:Addr}{gi ga gt gy gm gc:FuncData}
abbrev N_lw:List Str:=["_law_script", "_law_n", "_law_fresh", "_law_made", "_law_rows_here", "_law_elder", "_law_k", "_law_drawn", "_law_one", "_law_two"]
abbrev P_lw:List Str:=["_law_script"]
theorem sc_lw:FnScope N_lw P_lw (q02 qt1):=⟨rfl,rfl,rfl,by decide +kernel,rfl,by decide +kernel,by decide +kernel⟩
def z04 (K:PySem.W.Frag) (Pt:Addr):Sp:=fun vs H Q _=>∃(a:Addr) (ns:List Int),vs=[.ref a]/\SqL K H a (ns.map V.int)/\ns.length<=63/\H Pt=some (.tbl #[])/\∀ H',Q (.bl true) H'
theorem ok_law {Pt f fn fr fl fw fh fk fs fg fo:Addr}{fd gn gr gl gw gh gk gs gg go:FuncData}(D:Df K mg "law" qt1 ["_law_script"] f fd) (Dl:Df K mg "_law_cell" qq7 ["_law_script", "_law_k"] fl gl) (Dr:Df K mg "_law_draws" q95 Pdr fr gr) (Dn:Df K mg "_law_count" q79 ["_law_cell_here"] fn gn)
  (Dw:Df K mg "_law_rows" qq3 Pss fw gw) (Gw:FnOk P w K mg base (CXE P w) 3 fw gw Pss (z95 K)) (Dh:Df K mg "_law_shift" qe6 P_sh fh gh) (Gh:FnOk P w K mg base (CXE P w) 5 fh gh P_sh (qP5 C)) (Ds:Df K mg "_law_some" qq2 P_so fs gs) (Gs:FnOk P w K mg base (CXE P w) 2 fs gs P_so (z94 K)) (Dg:Df K mg "_law_go" qA7 Pg fg gg)
  (Do:Df K mg "_law_asked" q71 P_ak fo go) (Go:FnOk P w K mg base (CXE P w) 14 fo go P_ak (qQ6 C Pt)) (T:Tb K mg C fi fa ft fy fm fc gi ga gt gy gm gc) (Dc:Df K mg "check_count" q80 ["questions"] fk gk) (B:Bt mg) (M:Gm mg):FnOk P w K mg base (CXE P w) 15 f fd ["_law_script"] (z04 K Pt):=by
 refine D.F.okN sc_lw (fun vs H Q E h=>?_) (fun cdv A outer s H vs Q E hr h=>?_)
 ·obtain ⟨a,ns,rfl,_⟩:=h
  rfl
 obtain ⟨a,ns,rfl,hS,hl,hP,k⟩:=h
 have hu:(A.deeper (envOfC "law" (q02 qt1) s.heap.objs.size f cdv)).units < cLine:=hr.units0
 refine ⟨_,q04 (q21 (i:=0) sc_lw.nd rfl (Or.inl rfl) (qd2 qp8 (pv 0) qi7 (qi6 q06)))
   (q04 (q21 (i:=1) sc_lw.nd rfl (Or.inl rfl) (q14 Dn (z51 Dn Dr B) (hr.mono (by decide)) q17 (q00 (q14 Dl (qU4 Dl B) (hr.mono (by decide)) q17 (q00 (pv 0) (q00 q06 q03))) q03)))
   (q04 (q21 (i:=2) sc_lw.nd rfl (Or.inl rfl) (q14 Dw Gw (hr.mono (by decide)) q17 (q00 (qd2 qp8 (pv 0) (qi6 q06) qi7) (q00 (pv 1) (q00 (q14 Dl (qU4 Dl B) (hr.mono (by decide)) q17 (q00 (pv 0) (q00 q06 q03))) q03)))))
   (q04 (qS5 (M0 H) (q30 (q10 qT2 (pv 1) q06 (q13 _)) (q05 (q21 (i:=2) sc_lw.nd rfl (Or.inl rfl) (qd2 qp8 (pv 2) qi7 (qi6 q06)))) q16))
   (q04 (q21 (i:=3) sc_lw.nd rfl (Or.inl rfl) (pe_make T.mkC (z40 T Dc M) (hr.mono (by decide)) (by rfl) T.mC T.bi .nil q17 (q00 (pv 1) q03)))
   (q04 (q21 (i:=4) sc_lw.nd rfl (Or.inl rfl) (q36 q03))
   (q04 (q21 (i:=5) sc_lw.nd rfl (Or.inl rfl) (q36 q03))
   (q04 (q91 PassesOwn.never rfl (q34 (by rfl) B.range (q00 (q15 q27 (by rfl) B.len PySem.boot_len (q00 (pv 2) q03)) q03)) (q11 (i:=6) sc_lw.nd rfl (Or.inl rfl))
   (q04 (q21 (i:=7) sc_lw.nd rfl (Or.inl rfl) (q14 Dr (qh2 Dr B) (hr.mono (by decide)) q17 (q00 (q24 q47 (q25 ix_list (pv 0) (q24 q47 q06 (pv 6)) (fun _ _=>rfl)) q06) (q00 (q36 (q00 q06 (q00 q06 q03))) q03))))
   (q04 (q18 (q14 Dh Gh (hr.mono (by decide)) q17 (q00 (pv 3) (q00 (pv 4) (q00 (q25 ix_list (pv 2) (pv 6) (fun _ _=>rfl)) (q00 (pv 7) q03))))))
   (q05 (q30 (q10 (qo6 hu) (pv 4) (q36 q03) (q13 _)) (q04 (q21 (i:=8) sc_lw.nd rfl (Or.inl rfl) (q14 Ds Gs (hr.mono (by decide)) q17 (q00 (pv 4) (q00 (q24 q47 (q25 ix_list (pv 0) (q24 q47 q06 (pv 6)) (fun _ _=>rfl)) q06) q03))))
   (q04 (q21 (i:=9) sc_lw.nd rfl (Or.inl rfl) (q14 Ds Gs (hr.mono (by decide)) q17 (q00 (pv 4) (q00 (q24 q47 (q25 ix_list (pv 0) (q24 q47 q06 (pv 6)) (fun _ _=>rfl)) q06) q03))))
   (q04 (q21 (i:=5) sc_lw.nd rfl (Or.inl rfl) (qd2 qp8 (q24 za5 (pv 5) (q36 (q00 (pv 8) (q00 (q14 Dg (qT9 Dg B) (hr.mono (by decide)) q17 (q00 (pv 8) (q00 (pv 9) (q00 (q25 ix_list (pv 4) (qL8 qt6 q06) (fun _ _=>rfl)) q03)))) q03)))) (qi6 (qL8 qt6 q06)) qi7))
   (q05 (q30 (qa7 (q61 (q14 Do Go (hr.mono (by decide)) q17 (q00 (pv 3) (q00 (pv 4) (q00 (pv 5) (q00 (q24 q47 (q25 ix_list (pv 0) (q24 q47 q06 (pv 6)) (fun _ _=>rfl)) (q24 qf9 q06 (pv 6))) q03))))))) (q05 (q12 qw7)) q16))))) q16)))))
   (q05 (q12 qw7))))))))),?_⟩
 refine ⟨_,rfl,_,rfl,a,_,rfl,hS,fun p hp=>?_⟩
 obtain ⟨ms,em,lm⟩:∃ ys:List Int,qK4 (ns.map V.int) none (some 63)=ys.map V.int/\ys.length<=ns.length:=by
  unfold qK4
  rw [<- List.map_drop,<- List.map_take]
  refine ⟨_,rfl,?_⟩
  rw [List.length_take,List.length_drop]
  omega
 rw [em]
 have s1:=Same.new (o:=.lst (ms.map V.int)) hp
 refine ⟨_,rfl,p,ms,0,rfl,SqL.of q01,_,rfl,fun n H2 n1 n12 s2=>?_⟩
 have e2:=s2 p _ q01
 have s02:=s1.trans' s2
 refine ⟨_,rfl,_,rfl,p,_,rfl,SqL.of e2,fun lc hlc=>?_⟩
 have ex:qK4 (ms.map V.int) (some 2) none=(ms.drop 2).map V.int:=z76 ms 2 (by omega)
 rw [ex]
 have s23:=Same.new (o:=.lst ((ms.drop 2).map V.int)) hlc
 refine ⟨_,rfl,_,rfl,p,ms,1,rfl,SqL.of (s23 p _ e2),?_⟩
 have lx:(ms.drop 2).length=ms.length - 2:=List.length_drop
 refine ⟨lc,ms.drop 2,n,_,rfl,SqL.of q01,by omega,n1,n12,fun q H3 r hr' s3 hq e3=>?_⟩
 have p3:=s3 p _ (s23 p _ e2)
 have s03:=s02.trans' (s23.trans' s3)
 obtain ⟨fr,ef,hfr,flr⟩:∃ fr:List Str,((List.range (ms.drop 2).length).map fun i=>V.str (tx n (r i)))=fr.map V.str/\(∀ y∈fr,Row n y)/\fr.length=ms.length - 2:=by
  refine ⟨(List.range (ms.drop 2).length).map fun i=>tx n (r i),by rw [List.map_map]; rfl,fun y hy=>?_,by rw [List.length_map,List.length_range,lx]⟩
  obtain ⟨j,_,rfl⟩:=List.mem_map.mp hy
  exact tx_row (hr' j)
 rw [ef] at e3
 refine ⟨?_,?_⟩
 ·refine ⟨_,rfl,_,_,rfl,rfl,_,rfl,q77 (fun _=>?_) (fun _=>?_)⟩
  ·obtain ⟨ys,ey,hy,yl⟩:=cut_sub fr none (some 16)
   refine ⟨_,rfl,_,rfl,q,_,rfl,SqL.of e3,fun q2 hq2=>?_⟩
   rw [ey]
   have sq:=Same.new (o:=.lst (ys.map V.str)) hq2
   exact ⟨p,q2,ms,n,ys,rfl,q01,fun y h=>hfr y (hy y h),by omega,sq _ _ p3,s03.trans' sq,n1,n12,by omega⟩
  ·exact ⟨p,q,ms,n,fr,rfl,e3,hfr,by omega,p3,s03,n1,n12,by omega⟩
 clear hq e3 ef hfr flr
 rintro σ H4 ⟨p,q,ms,n,fr,rfl,q4,hfr,fl,p4,s04,n1,n12,ml⟩
 refine ⟨_,rfl,fun t dx ht hdx htd=>?_⟩
 refine ⟨t,dx,n,rfl,q01,n1,n12,fun H7 kp bt tab7 hk7 hb7 keep7=>⟨rfl,?_⟩⟩
 have s47:Same H4 H7:=fun b o e=>keep7 b o (fun z=>by rw [z,ht] at e; cases e) (by
  rw [q08 (fun z=>by rw [z,ht] at e; cases e),q08 (fun z=>by rw [z,hdx] at e; cases e)]
  exact e)
 refine ⟨Nat.zero_le _,fun l hl7=>⟨Nat.zero_le _,fun ed hed=>?_⟩⟩
 have s78:=Same.new (o:=.lst []) hl7
 have s89:=Same.new (o:=.lst []) hed
 have s79:=s78.trans' s89
 have s49:=s47.trans' s79
 have el8:=s89 _ _ (q01:upd H7 l (.lst []) l=some (.lst (([]:List Str).map V.str)))
 have ee8:upd (upd H7 l (.lst [])) ed (.lst []) ed=some (.lst (([]:List Str).map V.str)):=q01
 have F8:Fct C Pt (upd (upd H7 l (.lst [])) ed (.lst [])) p q ed t dx kp bt l n 0 0 ms fr [] []:=⟨⟨#[],(s04.trans' s49) _ _ hP,True.intro,fun pos cv z=>by cases z⟩,s49 _ _ p4,s49 _ _ q4,ee8,el8,(fun _ h=>by cases h),hfr,(fun _ h=>by cases h),Nat.zero_le _,tab7.mono s79,n1,n12,ml,fl,Nat.zero_le _,Nat.zero_le _,
  (fun z=>by rw [<- z,s47 _ _ p4] at hl7; cases hl7),(fun z=>by rw [<- z,s47 _ _ q4] at hl7; cases hl7),(fun z=>by rw [z,q01] at hed; cases hed)⟩
 generalize upd (upd H7 l (.lst [])) ed (.lst [])=H8 at *
 refine ⟨_,rfl,q,_,rfl,.inl (SqL.of F8.eq),_,rfl,?_,?_,?_⟩
 ·omega
 ·rw [List.length_map]; omega
 have en:(((fr.map V.str).length:Nat):Int).toNat=fr.length:=by rw [List.length_map]; omega
 rw [en]
 refine q52 (fun i σ H9=>∃ v6 v7 v8 v9 ed es m rs,σ=[some (.ref p),some (.int n),some (.ref q),some (.ref t),some (.ref l),some (.ref ed),v6,v7,v8,v9]/\Fct C Pt H9 p q ed t dx kp bt l n m i ms fr es rs) ⟨_,_,_,_,ed,[],0,[],rfl,F8⟩ ?_ (fun σ H9 _=>k H9)
 rintro i σ H9 hi ⟨v6,v7,v8,v9,ed,es,m,rs,rfl,F9⟩
 rw [Int.zero_add]
 have il:2 + i < ms.length:=by omega
 have at1:atI (ms.map V.int) (2 + (i:Int))=some (.int ms[2 + i]):=by
  have e:(2:Int) + (i:Int)=((2 + i:Nat):Int):=by omega
  rw [e]
  refine q46 ?_
  rw [List.getElem?_map,List.getElem?_eq_getElem il]
  rfl
 have at2:atI (fr.map V.str) (i:Int)=some (.str fr[i]):=by
  refine q46 ?_
  rw [List.getElem?_map,List.getElem?_eq_getElem hi]
  rfl
 have mi:=F9.mi
 have ri:=F9.ri
 refine ⟨_,rfl,_,rfl,_,_,rfl,rfl,p,_,_,_,rfl,rfl,SqL.of F9.ep,at1,_,_,rfl,rfl,q22 (show 2<=100 by decide),fun t' ht'=>?_⟩
 refine ⟨_,t',[6,67],rfl,SqL.of q01,by decide,by decide,fun u HA sA hu' eA=>?_⟩
 obtain ⟨d0,d1,ed'⟩:∃ d0 d1:Int,(qk7 (ms[2 + i] + 5) [6,67]).map V.int=[.int d0,.int d1]:=⟨_,_,rfl⟩
 rw [ed'] at eA
 have FA:=F9.mono ((Same.new ht').trans' sA)
 refine ⟨_,rfl,_,rfl,_,rfl,_,rfl,q,_,_,_,rfl,rfl,SqL.of FA.eq,at2,_,rfl,?_⟩
 refine ⟨t,dx,kp,bt,l,u,n,m,rs,fr[i],d0,d1,rfl,FA.tab,FA.el,FA.rows,FA.frows _ (List.getElem_mem hi),eA,n1,n12,by omega,by omega,fun HB rs' m' tabB mB' lB rowsB lenB keepB=>?_⟩
 have FB:=FA.chg tabB mB' lB rowsB lenB keepB
 clear FA F9 keepB tabB lB
 refine ⟨_,rfl,Nat.zero_le _,fun pe hpe=>?_⟩
 have se:=Same.new (o:=.lst []) hpe
 have FC:=FB.mono se
 have eC:upd HB pe (.lst []) pe=some (.lst []):=q01
 generalize upd HB pe (.lst [])=HC at *
 clear FB
 refine ⟨l,pe,_,rfl,rfl,SqL.of FC.el,SqL.of eC,_,rfl,q77 (fun c=>?_) (fun c=>?_)⟩
 ·have rp:0 < rs'.length:=by
   cases rs' with
   | nil=>exact absurd c (by decide)
   | cons a b=>exact Nat.succ_pos _
  obtain ⟨us,z,rfl⟩:∃ us z,rs'=us ++ [z]:=⟨rs'.dropLast,rs'.getLast (by intro h; rw [h] at rp; cases rp),(List.dropLast_concat_getLast _).symm⟩
  refine ⟨_,rfl,_,rfl,_,rfl,_,_,rfl,rfl,p,_,_,_,rfl,rfl,SqL.of FC.ep,at1,_,_,rfl,rfl,l,n,us ++ [z],_,rfl,SqL.of FC.el,FC.rows,n12,rp,fun x1 HD rx1 sD=>?_⟩
  have FD:=FC.mono sD
  refine ⟨_,rfl,_,rfl,_,rfl,_,_,rfl,rfl,p,_,_,_,rfl,rfl,SqL.of FD.ep,at1,_,_,rfl,rfl,l,n,us ++ [z],_,rfl,SqL.of FD.el,FD.rows,n12,rp,fun x2 HE rx2 sE=>?_⟩
  have FE:=FD.mono sE
  have rz:Row n z:=FE.rows z (List.mem_append_right _ List.mem_cons_self)
  refine ⟨_,rfl,_,rfl,_,rfl,_,rfl,_,rfl,_,rfl,l,_,_,_,rfl,rfl,SqL.of FE.el,qs8 us z,ch x1,ch x2,ch z,n,?_,by omega,q22 (show 2<=100 by decide),fun lb hlb=>?_⟩
  ·show [V.str x1,V.str x2,V.str z]=_
   rw [<- qf7 rx1.len,<- qf7 rx2.len,<- qf7 rz.len]
  have rl:Row n (tx n (qx7 (ch x1) (ch x2) (ch z))):=by
   have:=qW1 rx1 rx2 rz
   exact this
  have sb:=Same.new (o:=.lst ([x1,tx n (qx7 (ch x1) (ch x2) (ch z))].map V.str)) hlb
  have FF:=FE.mono sb
  have eb:upd HE lb (.lst ([x1,tx n (qx7 (ch x1) (ch x2) (ch z))].map V.str)) lb=some (.lst ([x1,tx n (qx7 (ch x1) (ch x2) (ch z))].map V.str)):=q01
  have e12:=FF.e12
  refine ⟨ed,lb,_,_,rfl,rfl,FF.ee,eb,?_,fun g hg=>?_⟩
  ·rw [List.length_map]
   exact q22 (show es.length + 2<=100 by omega)
  have sg:=Same.new (o:=.lst (es.map V.str ++ [x1,tx n (qx7 (ch x1) (ch x2) (ch z))].map V.str)) hg
  refine ⟨_,rfl,_,rfl,g,_,rfl,SqL.of q01,fun th hth=>?_⟩
  rw [z75]
  obtain ⟨ys,ey,hys,y1,y12⟩:∃ ys:List Str,(es.map V.str ++ [x1,tx n (qx7 (ch x1) (ch x2) (ch z))].map V.str).drop ((es.map V.str ++ [x1,tx n (qx7 (ch x1) (ch x2) (ch z))].map V.str).length - 12)=ys.map V.str/\(∀ y∈ys,Row n y)/\0 < ys.length/\ys.length<=12:=by
   rw [<- List.map_append,<- List.map_drop,List.length_map]
   refine ⟨_,rfl,fun y hy=>?_,?_,?_⟩
   ·rcases List.mem_append.mp (List.mem_of_mem_drop hy) with h | h
    ·exact FF.erows y h
    rcases List.mem_cons.mp h with rfl | h
    ·exact rx1
    ·rw [List.mem_singleton.mp h]; exact rl
   ·rw [List.length_drop,List.length_append]; show 0 < es.length + 2 - (es.length + 2 - 12); omega
   ·rw [List.length_drop,List.length_append]; show es.length + 2 - (es.length + 2 - 12)<=12; omega
  rw [ey]
  have st:=Same.new (o:=.lst (ys.map V.str)) hth
  have FG:=FF.mono (sg.trans' st)
  have et:upd (upd (upd HE lb (.lst ([x1,tx n (qx7 (ch x1) (ch x2) (ch z))].map V.str))) g (.lst (es.map V.str ++ [x1,tx n (qx7 (ch x1) (ch x2) (ch z))].map V.str))) th (.lst (ys.map V.str)) th=some (.lst (ys.map V.str)):=q01
  have tl:th≠l:=fun z=>by rw [z,(FF.mono sg).el] at hth; cases hth
  have FH:Fct C Pt (upd (upd (upd HE lb (.lst ([x1,tx n (qx7 (ch x1) (ch x2) (ch z))].map V.str))) g (.lst (es.map V.str ++ [x1,tx n (qx7 (ch x1) (ch x2) (ch z))].map V.str))) th (.lst (ys.map V.str))) p q th t dx kp bt l n m' (i + 1) ms fr ys (us ++ [z]):={ FG with ee:=et,erows:=hys,e12:=y12,le:=tl }
  refine ⟨_,rfl,_,rfl,_,rfl,_,rfl,_,rfl,_,_,rfl,rfl,p,_,_,_,rfl,rfl,SqL.of FH.ep,at1,_,rfl,_,_,rfl,rfl,.inl ⟨by decide,by decide⟩,_,_,rfl,rfl,t,dx,kp,bt,l,th,n,m',us ++ [z],ys,_,rfl,⟨FH.tb,(fun b o _ e=>e),FH.tab,FH.el,FH.ee,FH.rows,FH.erows,rp,y1,n1,n12⟩,fun HI TI sI=>⟨_,rfl,q31 ?_⟩⟩
  exact ⟨_,_,_,_,th,ys,m',us ++ [z],rfl,FH.monoP TI sI⟩
 ·exact ⟨_,_,_,_,ed,es,m',rs',rfl,FC⟩
end
end K67
namespace K67
open PySem L2
theorem all_mk {l:PySem.W.OpenLaw}{w:World}{K:PySem.W.Frag}{h:Heap}{mg:Str->Option Value}{fa cc Pt CT f1 f2 f3 f4 f5 f6 f7 f8 f9 f10 f11 f12 f13 f14 f15 f16 f17 f18 f19 f20 f21 f22 f23 f24 f25 f26 f27 f28 f29 f30 f31 f32 f33 f34 f35 f36 f37 f38 f39 f40 f41 f42 f43 f44 f45 f46 f47 f48 f49 f50 f51 f52 f53 f54 f55 f56 f57 f58 f59 f60 mf0 mf1 mf2 mf3 mf4 mf5:Addr}(X:K.In h) (G:h.Ns mainGlobals mg) (hfa:mg "law" = some (.ref fa))
  {od1 an1 od2 an2 od3 an3 od4 an4 od5 an5 od6 an6 od7 an7 od8 an8 od9 an9 od10 an10 od11 an11 od12 an12 od13 an13 od14 an14 od15 an15 od16 an16 od17 an17 od18 an18 od19 an19 od20 an20 od21 an21 od22 an22 od23 an23 od24 an24 od25 an25 od26 an26 od27 an27 od28 an28 od29 an29 od30 an30 od31 an31 od32 an32 od33 an33 od34 an34 od35 an35 od36 an36 od37 an37 od38 an38 od39 an39 od40 an40 od41 an41 od42 an42 od43 an43 od44 an44 od45 an45 od46 an46 od47 an47 od48 an48 od49 an49 od50 an50 od51 an51 od52 an52 od53 an53 od54 an54 od55 an55 od56 an56 od57 an57 od58 an58 od59 an59 od60 an60 mo0 ma0 mo1 ma1 mo2 ma2 mo3 ma3 mo4 ma4 mo5 ma5:Option Addr} {sl1 sl2 sl3 sl4 sl5 sl6 sl7 sl8 sl9 sl10 sl11 sl12 sl13 sl14 sl15 sl16 sl17 sl18 sl19 sl20 sl21 sl22 sl23 sl24 sl25 sl26 sl27 sl28 sl29 sl30 sl31 sl32 sl33 sl34 sl35 sl36 sl37 sl38 sl39 sl40 sl41 sl42 sl43 sl44 sl45 sl46 sl47 sl48 sl49 sl50 sl51 sl52 sl53 sl54 sl55 sl56 sl57 sl58 sl59 sl60 ms0 ms1 ms2 ms3 ms4 ms5:Array (Option Value)} {oc1 kV1 dc1 pm1 cd1 ct1 oc2 kV2 dc2 pm2 cd2 ct2 oc3 kV3 dc3 pm3 cd3 ct3 oc4 kV4 dc4 pm4 cd4 ct4 oc5 kV5 dc5 pm5 cd5 ct5 oc6 kV6 dc6 pm6 cd6 ct6 oc7 kV7 dc7 pm7 cd7 ct7 oc8 kV8 dc8 pm8 cd8 ct8 oc9 kV9 dc9 pm9 cd9 ct9 oc10 kV10 dc10 pm10 cd10 ct10 oc11 kV11 dc11 pm11 cd11 ct11 oc12 kV12 dc12 pm12 cd12 ct12 oc13 kV13 dc13 pm13 cd13 ct13 oc14 kV14 dc14 pm14 cd14 ct14 oc15 kV15 dc15 pm15 cd15 ct15 oc16 kV16 dc16 pm16 cd16 ct16 oc17 kV17 dc17 pm17 cd17 ct17 oc18 kV18 dc18 pm18 cd18 ct18 oc19 kV19 dc19 pm19 cd19 ct19 oc20 kV20 dc20 pm20 cd20 ct20 oc21 kV21 dc21 pm21 cd21 ct21 oc22 kV22 dc22 pm22 cd22 ct22 oc23 kV23 dc23 pm23 cd23 ct23 oc24 kV24 dc24 pm24 cd24 ct24 oc25 kV25 dc25 pm25 cd25 ct25 oc26 kV26 dc26 pm26 cd26 ct26 oc27 kV27 dc27 pm27 cd27 ct27 oc28 kV28 dc28 pm28 cd28 ct28 oc29 kV29 dc29 pm29 cd29 ct29 oc30 kV30 dc30 pm30 cd30 ct30 oc31 kV31 dc31 pm31 cd31 ct31 oc32 kV32 dc32 pm32 cd32 ct32 oc33 kV33 dc33 pm33 cd33 ct33 oc34 kV34 dc34 pm34 cd34 ct34 oc35 kV35 dc35 pm35 cd35 ct35 oc36 kV36 dc36 pm36 cd36 ct36 oc37 kV37 dc37 pm37 cd37 ct37 oc38 kV38 dc38 pm38 cd38 ct38 oc39 kV39 dc39 pm39 cd39 ct39 oc40 kV40 dc40 pm40 cd40 ct40 oc41 kV41 dc41 pm41 cd41 ct41 oc42 kV42 dc42 pm42 cd42 ct42 oc43 kV43 dc43 pm43 cd43 ct43 oc44 kV44 dc44 pm44 cd44 ct44 oc45 kV45 dc45 pm45 cd45 ct45 oc46 kV46 dc46 pm46 cd46 ct46 oc47 kV47 dc47 pm47 cd47 ct47 oc48 kV48 dc48 pm48 cd48 ct48 oc49 kV49 dc49 pm49 cd49 ct49 oc50 kV50 dc50 pm50 cd50 ct50 oc51 kV51 dc51 pm51 cd51 ct51 oc52 kV52 dc52 pm52 cd52 ct52 oc53 kV53 dc53 pm53 cd53 ct53 oc54 kV54 dc54 pm54 cd54 ct54 oc55 kV55 dc55 pm55 cd55 ct55 oc56 kV56 dc56 pm56 cd56 ct56 oc57 kV57 dc57 pm57 cd57 ct57 oc58 kV58 dc58 pm58 cd58 ct58 oc59 kV59 dc59 pm59 ct59 oc60 kV60 dc60 pm60 cd60 ct60 mq0 mk0 md0 mp0 mc0 mt0 mq1 mk1 md1 mp1 mc1 mt1 mq2 mk2 md2 mp2 mc2 mt2 mq3 mk3 md3 mp3 mc3 mt3 mq4 mk4 md4 mp4 mc4 mt4 mq5 mk5 md5 mp5 mc5 mt5:Value}
  {oZ:Value} {dZ:Option Addr} {vZ:Array Value} {sZ:Array (Option Value)} (lZ:K.lookup cc=some ⟨oZ,dZ,.fields vZ,sZ⟩) (hZ:vZ[11]? = some (.ref Pt)) (hH:PySem.W.codeHdIn K cc Pt=true)
  (a1:PySem.W.nsIn K mainGlobals "check_count" = some (some (.ref f1))) (l1:K.lookup f1=some ⟨oc1,od1,.func (PySem.W.fnOf "check_count" "check_count" (q09 q80) (q07 q80) (q02 q80) .none kV1 dc1 pm1 an1 cd1 ct1),sl1⟩) (c1:PySem.W.codeIn K cd1 "check_count" = true) (k1:PySem.W.keepIn K (.ref f1)=true)
  (a2:PySem.W.nsIn K mainGlobals "check_question" = some (some (.ref f2))) (l2:K.lookup f2=some ⟨oc2,od2,.func (PySem.W.fnOf "check_question" "check_question" (q09 qd1) (q07 qd1) (q02 qd1) .none kV2 dc2 pm2 an2 cd2 ct2),sl2⟩) (c2:PySem.W.codeIn K cd2 "check_question" = true) (k2:PySem.W.keepIn K (.ref f2)=true)
  (a3:PySem.W.nsIn K mainGlobals "check_sign" = some (some (.ref f3))) (l3:K.lookup f3=some ⟨oc3,od3,.func (PySem.W.fnOf "check_sign" "check_sign" (q09 qf4) (q07 qf4) (q02 qf4) .none kV3 dc3 pm3 an3 cd3 ct3),sl3⟩) (c3:PySem.W.codeIn K cd3 "check_sign" = true) (k3:PySem.W.keepIn K (.ref f3)=true)
  (a4:PySem.W.nsIn K mainGlobals "check_answers" = some (some (.ref f4))) (l4:K.lookup f4=some ⟨oc4,od4,.func (PySem.W.fnOf "check_answers" "check_answers" (q09 qq8) (q07 qq8) (q02 qq8) .none kV4 dc4 pm4 an4 cd4 ct4),sl4⟩) (c4:PySem.W.codeIn K cd4 "check_answers" = true) (k4:PySem.W.keepIn K (.ref f4)=true)
  (a5:PySem.W.nsIn K mainGlobals "check_row" = some (some (.ref f5))) (l5:K.lookup f5=some ⟨oc5,od5,.func (PySem.W.fnOf "check_row" "check_row" (q09 qf5) (q07 qf5) (q02 qf5) .none kV5 dc5 pm5 an5 cd5 ct5),sl5⟩) (c5:PySem.W.codeIn K cd5 "check_row" = true) (k5:PySem.W.keepIn K (.ref f5)=true)
  (a6:PySem.W.nsIn K mainGlobals "check_pattern" = some (some (.ref f6))) (l6:K.lookup f6=some ⟨oc6,od6,.func (PySem.W.fnOf "check_pattern" "check_pattern" (q09 qh6) (q07 qh6) (q02 qh6) .none kV6 dc6 pm6 an6 cd6 ct6),sl6⟩) (c6:PySem.W.codeIn K cd6 "check_pattern" = true) (k6:PySem.W.keepIn K (.ref f6)=true)
  (a7:PySem.W.nsIn K mainGlobals "other" = some (some (.ref f7))) (l7:K.lookup f7=some ⟨oc7,od7,.func (PySem.W.fnOf "other" "other" (q09 qi3) (q07 qi3) (q02 qi3) .none kV7 dc7 pm7 an7 cd7 ct7),sl7⟩) (c7:PySem.W.codeIn K cd7 "other" = true) (k7:PySem.W.keepIn K (.ref f7)=true)
  (a8:PySem.W.nsIn K mainGlobals "is_row" = some (some (.ref f8))) (l8:K.lookup f8=some ⟨oc8,od8,.func (PySem.W.fnOf "is_row" "is_row" (q09 qc7) (q07 qc7) (q02 qc7) .none kV8 dc8 pm8 an8 cd8 ct8),sl8⟩) (c8:PySem.W.codeIn K cd8 "is_row" = true) (k8:PySem.W.keepIn K (.ref f8)=true)
  (a9:PySem.W.nsIn K mainGlobals "is_pattern" = some (some (.ref f9))) (l9:K.lookup f9=some ⟨oc9,od9,.func (PySem.W.fnOf "is_pattern" "is_pattern" (q09 qf1) (q07 qf1) (q02 qf1) .none kV9 dc9 pm9 an9 cd9 ct9),sl9⟩) (c9:PySem.W.codeIn K cd9 "is_pattern" = true) (k9:PySem.W.keepIn K (.ref f9)=true)
  (a10:PySem.W.nsIn K mainGlobals "only_of" = some (some (.ref f10))) (l10:K.lookup f10=some ⟨oc10,od10,.func (PySem.W.fnOf "only_of" "only_of" (q09 qh5) (q07 qh5) (q02 qh5) .none kV10 dc10 pm10 an10 cd10 ct10),sl10⟩) (c10:PySem.W.codeIn K cd10 "only_of" = true) (k10:PySem.W.keepIn K (.ref f10)=true)
  (a11:PySem.W.nsIn K mainGlobals "go" = some (some (.ref f11))) (l11:K.lookup f11=some ⟨oc11,od11,.func (PySem.W.fnOf "go" "go" (q09 s_go) (q07 s_go) (q02 s_go) .none kV11 dc11 pm11 an11 cd11 ct11),sl11⟩) (c11:PySem.W.codeIn K cd11 "go" = true) (k11:PySem.W.keepIn K (.ref f11)=true)
  (a12:PySem.W.nsIn K mainGlobals "differ" = some (some (.ref f12))) (l12:K.lookup f12=some ⟨oc12,od12,.func (PySem.W.fnOf "differ" "differ" (q09 qd0) (q07 qd0) (q02 qd0) .none kV12 dc12 pm12 an12 cd12 ct12),sl12⟩) (c12:PySem.W.codeIn K cd12 "differ" = true) (k12:PySem.W.keepIn K (.ref f12)=true)
  (a13:PySem.W.nsIn K mainGlobals "turned" = some (some (.ref f13))) (l13:K.lookup f13=some ⟨oc13,od13,.func (PySem.W.fnOf "turned" "turned" (q09 qb2) (q07 qb2) (q02 qb2) .none kV13 dc13 pm13 an13 cd13 ct13),sl13⟩) (c13:PySem.W.codeIn K cd13 "turned" = true) (k13:PySem.W.keepIn K (.ref f13)=true)
  (a14:PySem.W.nsIn K mainGlobals "with_answer" = some (some (.ref f14))) (l14:K.lookup f14=some ⟨oc14,od14,.func (PySem.W.fnOf "with_answer" "with_answer" (q09 qq1) (q07 qq1) (q02 qq1) .none kV14 dc14 pm14 an14 cd14 ct14),sl14⟩) (c14:PySem.W.codeIn K cd14 "with_answer" = true) (k14:PySem.W.keepIn K (.ref f14)=true)
  (a15:PySem.W.nsIn K mainGlobals "bundles" = some (some (.ref f15))) (l15:K.lookup f15=some ⟨oc15,od15,.func (PySem.W.fnOf "bundles" "bundles" (q09 q81) (q07 q81) (q02 q81) .none kV15 dc15 pm15 an15 cd15 ct15),sl15⟩) (c15:PySem.W.codeIn K cd15 "bundles" = true) (k15:PySem.W.keepIn K (.ref f15)=true)
  (a16:PySem.W.nsIn K mainGlobals "lowest_questions" = some (some (.ref f16))) (l16:K.lookup f16=some ⟨oc16,od16,.func (PySem.W.fnOf "lowest_questions" "lowest_questions" (q09 qc4) (q07 qc4) (q02 qc4) .none kV16 dc16 pm16 an16 cd16 ct16),sl16⟩) (c16:PySem.W.codeIn K cd16 "lowest_questions" = true) (k16:PySem.W.keepIn K (.ref f16)=true)
  (a17:PySem.W.nsIn K mainGlobals "is_open" = some (some (.ref f17))) (l17:K.lookup f17=some ⟨oc17,od17,.func (PySem.W.fnOf "is_open" "is_open" (q09 qc8) (q07 qc8) (q02 qc8) .none kV17 dc17 pm17 an17 cd17 ct17),sl17⟩) (c17:PySem.W.codeIn K cd17 "is_open" = true) (k17:PySem.W.keepIn K (.ref f17)=true)
  (a18:PySem.W.nsIn K mainGlobals "bundle_from" = some (some (.ref f18))) (l18:K.lookup f18=some ⟨oc18,od18,.func (PySem.W.fnOf "bundle_from" "bundle_from" (q09 qi4) (q07 qi4) (q02 qi4) .none kV18 dc18 pm18 an18 cd18 ct18),sl18⟩) (c18:PySem.W.codeIn K cd18 "bundle_from" = true) (k18:PySem.W.keepIn K (.ref f18)=true)
  (a19:PySem.W.nsIn K mainGlobals "answer_along" = some (some (.ref f19))) (l19:K.lookup f19=some ⟨oc19,od19,.func (PySem.W.fnOf "answer_along" "answer_along" (q09 qi5) (q07 qi5) (q02 qi5) .none kV19 dc19 pm19 an19 cd19 ct19),sl19⟩) (c19:PySem.W.codeIn K cd19 "answer_along" = true) (k19:PySem.W.keepIn K (.ref f19)=true)
  (a20:PySem.W.nsIn K mainGlobals "check_ruling" = some (some (.ref f20))) (l20:K.lookup f20=some ⟨oc20,od20,.func (PySem.W.fnOf "check_ruling" "check_ruling" (q09 qb5) (q07 qb5) (q02 qb5) .none kV20 dc20 pm20 an20 cd20 ct20),sl20⟩) (c20:PySem.W.codeIn K cd20 "check_ruling" = true) (k20:PySem.W.keepIn K (.ref f20)=true)
  (a21:PySem.W.nsIn K mainGlobals "lacks" = some (some (.ref f21))) (l21:K.lookup f21=some ⟨oc21,od21,.func (PySem.W.fnOf "lacks" "lacks" (q09 qf0) (q07 qf0) (q02 qf0) .none kV21 dc21 pm21 an21 cd21 ct21),sl21⟩) (c21:PySem.W.codeIn K cd21 "lacks" = true) (k21:PySem.W.keepIn K (.ref f21)=true)
  (a22:PySem.W.nsIn K mainGlobals "matching" = some (some (.ref f22))) (l22:K.lookup f22=some ⟨oc22,od22,.func (PySem.W.fnOf "matching" "matching" (q09 q85) (q07 q85) (q02 q85) .none kV22 dc22 pm22 an22 cd22 ct22),sl22⟩) (c22:PySem.W.codeIn K cd22 "matching" = true) (k22:PySem.W.keepIn K (.ref f22)=true)
  (a23:PySem.W.nsIn K mainGlobals "gaps" = some (some (.ref f23))) (l23:K.lookup f23=some ⟨oc23,od23,.func (PySem.W.fnOf "gaps" "gaps" (q09 qj7) (q07 qj7) (q02 qj7) .none kV23 dc23 pm23 an23 cd23 ct23),sl23⟩) (c23:PySem.W.codeIn K cd23 "gaps" = true) (k23:PySem.W.keepIn K (.ref f23)=true)
  (a24:PySem.W.nsIn K mainGlobals "pairs_given" = some (some (.ref f24))) (l24:K.lookup f24=some ⟨oc24,od24,.func (PySem.W.fnOf "pairs_given" "pairs_given" (q09 s_pg) (q07 s_pg) (q02 s_pg) .none kV24 dc24 pm24 an24 cd24 ct24),sl24⟩) (c24:PySem.W.codeIn K cd24 "pairs_given" = true) (k24:PySem.W.keepIn K (.ref f24)=true)
  (a25:PySem.W.nsIn K mainGlobals "answers" = some (some (.ref f25))) (l25:K.lookup f25=some ⟨oc25,od25,.func (PySem.W.fnOf "answers" "answers" (q09 qA8) (q07 qA8) (q02 qA8) .none kV25 dc25 pm25 an25 cd25 ct25),sl25⟩) (c25:PySem.W.codeIn K cd25 "answers" = true) (k25:PySem.W.keepIn K (.ref f25)=true)
  (a26:PySem.W.nsIn K mainGlobals "open_places" = some (some (.ref f26))) (l26:K.lookup f26=some ⟨oc26,od26,.func (PySem.W.fnOf "open_places" "open_places" (q09 qq5) (q07 qq5) (q02 qq5) .none kV26 dc26 pm26 an26 cd26 ct26),sl26⟩) (c26:PySem.W.codeIn K cd26 "open_places" = true) (k26:PySem.W.keepIn K (.ref f26)=true)
  (a27:PySem.W.nsIn K mainGlobals "fits" = some (some (.ref f27))) (l27:K.lookup f27=some ⟨oc27,od27,.func (PySem.W.fnOf "fits" "fits" (q09 qm9) (q07 qm9) (q02 qm9) .none kV27 dc27 pm27 an27 cd27 ct27),sl27⟩) (c27:PySem.W.codeIn K cd27 "fits" = true) (k27:PySem.W.keepIn K (.ref f27)=true)
  (a28:PySem.W.nsIn K mainGlobals "steps" = some (some (.ref f28))) (l28:K.lookup f28=some ⟨oc28,od28,.func (PySem.W.fnOf "steps" "steps" (q09 qi1) (q07 qi1) (q02 qi1) .none kV28 dc28 pm28 an28 cd28 ct28),sl28⟩) (c28:PySem.W.codeIn K cd28 "steps" = true) (k28:PySem.W.keepIn K (.ref f28)=true)
  (a29:PySem.W.nsIn K mainGlobals "way" = some (some (.ref f29))) (l29:K.lookup f29=some ⟨oc29,od29,.func (PySem.W.fnOf "way" "way" (q09 qE4) (q07 qE4) (q02 qE4) .none kV29 dc29 pm29 an29 cd29 ct29),sl29⟩) (c29:PySem.W.codeIn K cd29 "way" = true) (k29:PySem.W.keepIn K (.ref f29)=true)
  (a30:PySem.W.nsIn K mainGlobals "middle" = some (some (.ref f30))) (l30:K.lookup f30=some ⟨oc30,od30,.func (PySem.W.fnOf "middle" "middle" (q09 qc3) (q07 qc3) (q02 qc3) .none kV30 dc30 pm30 an30 cd30 ct30),sl30⟩) (c30:PySem.W.codeIn K cd30 "middle" = true) (k30:PySem.W.keepIn K (.ref f30)=true)
  (a31:PySem.W.nsIn K mainGlobals "box" = some (some (.ref f31))) (l31:K.lookup f31=some ⟨oc31,od31,.func (PySem.W.fnOf "box" "box" (q09 qE6) (q07 qE6) (q02 qE6) .none kV31 dc31 pm31 an31 cd31 ct31),sl31⟩) (c31:PySem.W.codeIn K cd31 "box" = true) (k31:PySem.W.keepIn K (.ref f31)=true)
  (a32:PySem.W.nsIn K mainGlobals "neighbours" = some (some (.ref f32))) (l32:K.lookup f32=some ⟨oc32,od32,.func (PySem.W.fnOf "neighbours" "neighbours" (q09 qe9) (q07 qe9) (q02 qe9) .none kV32 dc32 pm32 an32 cd32 ct32),sl32⟩) (c32:PySem.W.codeIn K cd32 "neighbours" = true) (k32:PySem.W.keepIn K (.ref f32)=true)
  (a33:PySem.W.nsIn K mainGlobals "nearest" = some (some (.ref f33))) (l33:K.lookup f33=some ⟨oc33,od33,.func (PySem.W.fnOf "nearest" "nearest" (q09 qa4) (q07 qa4) (q02 qa4) .none kV33 dc33 pm33 an33 cd33 ct33),sl33⟩) (c33:PySem.W.codeIn K cd33 "nearest" = true) (k33:PySem.W.keepIn K (.ref f33)=true)
  (a34:PySem.W.nsIn K mainGlobals "step_towards" = some (some (.ref f34))) (l34:K.lookup f34=some ⟨oc34,od34,.func (PySem.W.fnOf "step_towards" "step_towards" (q09 qc1) (q07 qc1) (q02 qc1) .none kV34 dc34 pm34 an34 cd34 ct34),sl34⟩) (c34:PySem.W.codeIn K cd34 "step_towards" = true) (k34:PySem.W.keepIn K (.ref f34)=true)
  (a35:PySem.W.nsIn K mainGlobals "voice" = some (some (.ref f35))) (l35:K.lookup f35=some ⟨oc35,od35,.func (PySem.W.fnOf "voice" "voice" (q09 qh9) (q07 qh9) (q02 qh9) .none kV35 dc35 pm35 an35 cd35 ct35),sl35⟩) (c35:PySem.W.codeIn K cd35 "voice" = true) (k35:PySem.W.keepIn K (.ref f35)=true)
  (a36:PySem.W.nsIn K mainGlobals "check_weight" = some (some (.ref f36))) (l36:K.lookup f36=some ⟨oc36,od36,.func (PySem.W.fnOf "check_weight" "check_weight" (q09 qa5) (q07 qa5) (q02 qa5) .none kV36 dc36 pm36 an36 cd36 ct36),sl36⟩) (c36:PySem.W.codeIn K cd36 "check_weight" = true) (k36:PySem.W.keepIn K (.ref f36)=true)
  (a37:PySem.W.nsIn K mainGlobals "weight_of_yes" = some (some (.ref f37))) (l37:K.lookup f37=some ⟨oc37,od37,.func (PySem.W.fnOf "weight_of_yes" "weight_of_yes" (q09 qp9) (q07 qp9) (q02 qp9) .none kV37 dc37 pm37 an37 cd37 ct37),sl37⟩) (c37:PySem.W.codeIn K cd37 "weight_of_yes" = true) (k37:PySem.W.keepIn K (.ref f37)=true)
  (a38:PySem.W.nsIn K mainGlobals "answer_of_most" = some (some (.ref f38))) (l38:K.lookup f38=some ⟨oc38,od38,.func (PySem.W.fnOf "answer_of_most" "answer_of_most" (q09 qq6) (q07 qq6) (q02 qq6) .none kV38 dc38 pm38 an38 cd38 ct38),sl38⟩) (c38:PySem.W.codeIn K cd38 "answer_of_most" = true) (k38:PySem.W.keepIn K (.ref f38)=true)
  (a39:PySem.W.nsIn K mainGlobals "_law_cell" = some (some (.ref f39))) (l39:K.lookup f39=some ⟨oc39,od39,.func (PySem.W.fnOf "_law_cell" "_law_cell" (q09 qq7) (q07 qq7) (q02 qq7) .none kV39 dc39 pm39 an39 cd39 ct39),sl39⟩) (c39:PySem.W.codeIn K cd39 "_law_cell" = true) (k39:PySem.W.keepIn K (.ref f39)=true)
  (a40:PySem.W.nsIn K mainGlobals "_law_draws" = some (some (.ref f40))) (l40:K.lookup f40=some ⟨oc40,od40,.func (PySem.W.fnOf "_law_draws" "_law_draws" (q09 q95) (q07 q95) (q02 q95) .none kV40 dc40 pm40 an40 cd40 ct40),sl40⟩) (c40:PySem.W.codeIn K cd40 "_law_draws" = true) (k40:PySem.W.keepIn K (.ref f40)=true)
  (a41:PySem.W.nsIn K mainGlobals "_law_same" = some (some (.ref f41))) (l41:K.lookup f41=some ⟨oc41,od41,.func (PySem.W.fnOf "_law_same" "_law_same" (q09 qm7) (q07 qm7) (q02 qm7) .none kV41 dc41 pm41 an41 cd41 ct41),sl41⟩) (c41:PySem.W.codeIn K cd41 "_law_same" = true) (k41:PySem.W.keepIn K (.ref f41)=true)
  (a42:PySem.W.nsIn K mainGlobals "_law_count" = some (some (.ref f42))) (l42:K.lookup f42=some ⟨oc42,od42,.func (PySem.W.fnOf "_law_count" "_law_count" (q09 q79) (q07 q79) (q02 q79) .none kV42 dc42 pm42 an42 cd42 ct42),sl42⟩) (c42:PySem.W.codeIn K cd42 "_law_count" = true) (k42:PySem.W.keepIn K (.ref f42)=true)
  (a43:PySem.W.nsIn K mainGlobals "_law_not" = some (some (.ref f43))) (l43:K.lookup f43=some ⟨oc43,od43,.func (PySem.W.fnOf "_law_not" "_law_not" (q09 qE5) (q07 qE5) (q02 qE5) .none kV43 dc43 pm43 an43 cd43 ct43),sl43⟩) (c43:PySem.W.codeIn K cd43 "_law_not" = true) (k43:PySem.W.keepIn K (.ref f43)=true)
  (a44:PySem.W.nsIn K mainGlobals "_law_hidden" = some (some (.ref f44))) (l44:K.lookup f44=some ⟨oc44,od44,.func (PySem.W.fnOf "_law_hidden" "_law_hidden" (q09 qc9) (q07 qc9) (q02 qc9) .none kV44 dc44 pm44 an44 cd44 ct44),sl44⟩) (c44:PySem.W.codeIn K cd44 "_law_hidden" = true) (k44:PySem.W.keepIn K (.ref f44)=true)
  (a45:PySem.W.nsIn K mainGlobals "_law_bits" = some (some (.ref f45))) (l45:K.lookup f45=some ⟨oc45,od45,.func (PySem.W.fnOf "_law_bits" "_law_bits" (q09 qq9) (q07 qq9) (q02 qq9) .none kV45 dc45 pm45 an45 cd45 ct45),sl45⟩) (c45:PySem.W.codeIn K cd45 "_law_bits" = true) (k45:PySem.W.keepIn K (.ref f45)=true)
  (a46:PySem.W.nsIn K mainGlobals "_law_row_by" = some (some (.ref f46))) (l46:K.lookup f46=some ⟨oc46,od46,.func (PySem.W.fnOf "_law_row_by" "_law_row_by" (q09 qi2) (q07 qi2) (q02 qi2) .none kV46 dc46 pm46 an46 cd46 ct46),sl46⟩) (c46:PySem.W.codeIn K cd46 "_law_row_by" = true) (k46:PySem.W.keepIn K (.ref f46)=true)
  (a47:PySem.W.nsIn K mainGlobals "_law_plan" = some (some (.ref f47))) (l47:K.lookup f47=some ⟨oc47,od47,.func (PySem.W.fnOf "_law_plan" "_law_plan" (q09 qq4) (q07 qq4) (q02 qq4) .none kV47 dc47 pm47 an47 cd47 ct47),sl47⟩) (c47:PySem.W.codeIn K cd47 "_law_plan" = true) (k47:PySem.W.keepIn K (.ref f47)=true)
  (a48:PySem.W.nsIn K mainGlobals "_law_rows" = some (some (.ref f48))) (l48:K.lookup f48=some ⟨oc48,od48,.func (PySem.W.fnOf "_law_rows" "_law_rows" (q09 qq3) (q07 qq3) (q02 qq3) .none kV48 dc48 pm48 an48 cd48 ct48),sl48⟩) (c48:PySem.W.codeIn K cd48 "_law_rows" = true) (k48:PySem.W.keepIn K (.ref f48)=true)
  (a49:PySem.W.nsIn K mainGlobals "_law_bears" = some (some (.ref f49))) (l49:K.lookup f49=some ⟨oc49,od49,.func (PySem.W.fnOf "_law_bears" "_law_bears" (q09 qf6) (q07 qf6) (q02 qf6) .none kV49 dc49 pm49 an49 cd49 ct49),sl49⟩) (c49:PySem.W.codeIn K cd49 "_law_bears" = true) (k49:PySem.W.keepIn K (.ref f49)=true)
  (a50:PySem.W.nsIn K mainGlobals "_law_lacks" = some (some (.ref f50))) (l50:K.lookup f50=some ⟨oc50,od50,.func (PySem.W.fnOf "_law_lacks" "_law_lacks" (q09 qc5) (q07 qc5) (q02 qc5) .none kV50 dc50 pm50 an50 cd50 ct50),sl50⟩) (c50:PySem.W.codeIn K cd50 "_law_lacks" = true) (k50:PySem.W.keepIn K (.ref f50)=true)
  (a51:PySem.W.nsIn K mainGlobals "_law_bundles" = some (some (.ref f51))) (l51:K.lookup f51=some ⟨oc51,od51,.func (PySem.W.fnOf "_law_bundles" "_law_bundles" (q09 qm8) (q07 qm8) (q02 qm8) .none kV51 dc51 pm51 an51 cd51 ct51),sl51⟩) (c51:PySem.W.codeIn K cd51 "_law_bundles" = true) (k51:PySem.W.keepIn K (.ref f51)=true)
  (a52:PySem.W.nsIn K mainGlobals "_law_apart" = some (some (.ref f52))) (l52:K.lookup f52=some ⟨oc52,od52,.func (PySem.W.fnOf "_law_apart" "_law_apart" (q09 qc6) (q07 qc6) (q02 qc6) .none kV52 dc52 pm52 an52 cd52 ct52),sl52⟩) (c52:PySem.W.codeIn K cd52 "_law_apart" = true) (k52:PySem.W.keepIn K (.ref f52)=true)
  (a53:PySem.W.nsIn K mainGlobals "_law_go" = some (some (.ref f53))) (l53:K.lookup f53=some ⟨oc53,od53,.func (PySem.W.fnOf "_law_go" "_law_go" (q09 qA7) (q07 qA7) (q02 qA7) .none kV53 dc53 pm53 an53 cd53 ct53),sl53⟩) (c53:PySem.W.codeIn K cd53 "_law_go" = true) (k53:PySem.W.keepIn K (.ref f53)=true)
  (a54:PySem.W.nsIn K mainGlobals "_law_some" = some (some (.ref f54))) (l54:K.lookup f54=some ⟨oc54,od54,.func (PySem.W.fnOf "_law_some" "_law_some" (q09 qq2) (q07 qq2) (q02 qq2) .none kV54 dc54 pm54 an54 cd54 ct54),sl54⟩) (c54:PySem.W.codeIn K cd54 "_law_some" = true) (k54:PySem.W.keepIn K (.ref f54)=true)
  (a55:PySem.W.nsIn K mainGlobals "_law_word" = some (some (.ref f55))) (l55:K.lookup f55=some ⟨oc55,od55,.func (PySem.W.fnOf "_law_word" "_law_word" (q09 qq0) (q07 qq0) (q02 qq0) .none kV55 dc55 pm55 an55 cd55 ct55),sl55⟩) (c55:PySem.W.codeIn K cd55 "_law_word" = true) (k55:PySem.W.keepIn K (.ref f55)=true)
  (a56:PySem.W.nsIn K mainGlobals "_law_shift" = some (some (.ref f56))) (l56:K.lookup f56=some ⟨oc56,od56,.func (PySem.W.fnOf "_law_shift" "_law_shift" (q09 qe6) (q07 qe6) (q02 qe6) .none kV56 dc56 pm56 an56 cd56 ct56),sl56⟩) (c56:PySem.W.codeIn K cd56 "_law_shift" = true) (k56:PySem.W.keepIn K (.ref f56)=true)
  (a57:PySem.W.nsIn K mainGlobals "_law_door" = some (some (.ref f57))) (l57:K.lookup f57=some ⟨oc57,od57,.func (PySem.W.fnOf "_law_door" "_law_door" (q09 qn0) (q07 qn0) (q02 qn0) .none kV57 dc57 pm57 an57 cd57 ct57),sl57⟩) (c57:PySem.W.codeIn K cd57 "_law_door" = true) (k57:PySem.W.keepIn K (.ref f57)=true)
  (a58:PySem.W.nsIn K mainGlobals "_law_right" = some (some (.ref f58))) (l58:K.lookup f58=some ⟨oc58,od58,.func (PySem.W.fnOf "_law_right" "_law_right" (q09 qe7) (q07 qe7) (q02 qe7) .none kV58 dc58 pm58 an58 cd58 ct58),sl58⟩) (c58:PySem.W.codeIn K cd58 "_law_right" = true) (k58:PySem.W.keepIn K (.ref f58)=true)
  (a59:PySem.W.nsIn K mainGlobals "_law_asked" = some (some (.ref f59))) (l59:K.lookup f59=some ⟨oc59,od59,.func (PySem.W.fnOf "_law_asked" "_law_asked" (q09 q71) (q07 q71) (q02 q71) .none kV59 dc59 pm59 an59 (.ref cc) ct59),sl59⟩) (c59:PySem.W.codeIn K (.ref cc) "_law_asked" = true) (k59:PySem.W.keepIn K (.ref f59)=true)
  (a60:PySem.W.nsIn K mainGlobals "law" = some (some (.ref f60))) (l60:K.lookup f60=some ⟨oc60,od60,.func (PySem.W.fnOf "law" "law" (q09 qt1) (q07 qt1) (q02 qt1) .none kV60 dc60 pm60 an60 cd60 ct60),sl60⟩) (c60:PySem.W.codeIn K cd60 "law" = true) (k60:PySem.W.keepIn K (.ref f60)=true)
  {XW iW NW:Addr} {nmW qnW:Str} {bsW bmW sbW:List Value} {snW:List Str} {abW:Bool} {coW:Option Bool} {ddW:Option Addr} {x0W x1W x2W x3W x5W:Option Value} {oiW kiW diW piW ciW tiW:Value} {ojW aiW:Option Addr} {siW:Array (Option Value)}
  (mW:PySem.W.nsIn K mainGlobals "WapentakeError" = some (some (.ref XW))) (oW:K.lookup XW=some (excClassObj nmW qnW XW NW bsW bmW true snW sbW abW coW ddW x0W x1W x2W x3W x5W "ValueError.__new__"))
  (vW:XBases bmW) (saW:PySem.W.findIn K (.ref XW) "__setattr__" = some (some (.builtin "object.__setattr__"))) (gaW:PySem.W.findIn K (.ref XW) "__getattribute__" = some (some (.builtin "BaseException.__getattribute__"))) (gnW:PySem.W.findIn K (.ref XW) "__getattr__" = some none) (nwW:PySem.W.findIn K (.ref XW) "word" = some none)
  (inW:PySem.W.findIn K (.ref XW) "__init__" = some (some (.ref iW))) (ifW:PySem.W.isFn K (.ref iW)=true) (kpW:PySem.W.keepIn K (.ref XW)=true) (liW:K.lookup iW=some ⟨oiW,ojW,.func (PySem.W.fnOf "__init__" "WapentakeError.__init__" (q09 ql4) (q07 ql4) (q02 ql4) .none kiW diW piW aiW ciW tiW),siW⟩) (cdW:PySem.W.codeIn K ciW "WapentakeError.__init__" = true) (keW:PySem.W.keepIn K (.ref iW)=true)
  {XC iC NC:Addr} {nmC qnC:Str} {bsC bmC sbC:List Value} {snC:List Str} {abC:Bool} {coC:Option Bool} {ddC:Option Addr} {x0C x1C x2C x3C x5C:Option Value} {oiC kiC diC piC ciC tiC:Value} {ojC aiC:Option Addr} {siC:Array (Option Value)}
  (mC:PySem.W.nsIn K mainGlobals "NotBorne" = some (some (.ref XC))) (oC:K.lookup XC=some (excClassObj nmC qnC XC NC bsC bmC true snC sbC abC coC ddC x0C x1C x2C x3C x5C "ValueError.__new__"))
  (vC:XBases bmC) (saC:PySem.W.findIn K (.ref XC) "__setattr__" = some (some (.builtin "object.__setattr__"))) (gaC:PySem.W.findIn K (.ref XC) "__getattribute__" = some (some (.builtin "BaseException.__getattribute__"))) (gnC:PySem.W.findIn K (.ref XC) "__getattr__" = some none) (nwC:PySem.W.findIn K (.ref XC) "word" = some none)
  (inC:PySem.W.findIn K (.ref XC) "__init__" = some (some (.ref iC))) (ifC:PySem.W.isFn K (.ref iC)=true) (kpC:PySem.W.keepIn K (.ref XC)=true) (liC:K.lookup iC=some ⟨oiC,ojC,.func (PySem.W.fnOf "__init__" "NotBorne.__init__" (q09 ql6) (q07 ql6) (q02 ql6) .none kiC diC piC aiC ciC tiC),siC⟩) (cdC:PySem.W.codeIn K ciC "NotBorne.__init__" = true) (keC:PySem.W.keepIn K (.ref iC)=true)
  {XS iS NS:Addr} {nmS qnS:Str} {bsS bmS sbS:List Value} {snS:List Str} {abS:Bool} {coS:Option Bool} {ddS:Option Addr} {x0S x1S x2S x3S x5S:Option Value} {oiS kiS diS piS ciS tiS:Value} {ojS aiS:Option Addr} {siS:Array (Option Value)}
  (mS:PySem.W.nsIn K mainGlobals "BadRow" = some (some (.ref XS))) (oS:K.lookup XS=some (excClassObj nmS qnS XS NS bsS bmS true snS sbS abS coS ddS x0S x1S x2S x3S x5S "ValueError.__new__"))
  (vS:XBases bmS) (saS:PySem.W.findIn K (.ref XS) "__setattr__" = some (some (.builtin "object.__setattr__"))) (gaS:PySem.W.findIn K (.ref XS) "__getattribute__" = some (some (.builtin "BaseException.__getattribute__"))) (gnS:PySem.W.findIn K (.ref XS) "__getattr__" = some none) (nwS:PySem.W.findIn K (.ref XS) "word" = some none)
  (inS:PySem.W.findIn K (.ref XS) "__init__" = some (some (.ref iS))) (ifS:PySem.W.isFn K (.ref iS)=true) (kpS:PySem.W.keepIn K (.ref XS)=true) (liS:K.lookup iS=some ⟨oiS,ojS,.func (PySem.W.fnOf "__init__" "BadRow.__init__" (q09 ql5) (q07 ql5) (q02 ql5) .none kiS diS piS aiS ciS tiS),siS⟩) (cdS:PySem.W.codeIn K ciS "BadRow.__init__" = true) (keS:PySem.W.keepIn K (.ref iS)=true)
  {XP iP NP:Addr} {nmP qnP:Str} {bsP bmP sbP:List Value} {snP:List Str} {abP:Bool} {coP:Option Bool} {ddP:Option Addr} {x0P x1P x2P x3P x5P:Option Value} {oiP kiP diP piP ciP tiP:Value} {ojP aiP:Option Addr} {siP:Array (Option Value)}
  (mP:PySem.W.nsIn K mainGlobals "BadPattern" = some (some (.ref XP))) (oP:K.lookup XP=some (excClassObj nmP qnP XP NP bsP bmP true snP sbP abP coP ddP x0P x1P x2P x3P x5P "ValueError.__new__"))
  (vP:XBases bmP) (saP:PySem.W.findIn K (.ref XP) "__setattr__" = some (some (.builtin "object.__setattr__"))) (gaP:PySem.W.findIn K (.ref XP) "__getattribute__" = some (some (.builtin "BaseException.__getattribute__"))) (gnP:PySem.W.findIn K (.ref XP) "__getattr__" = some none) (nwP:PySem.W.findIn K (.ref XP) "word" = some none)
  (inP:PySem.W.findIn K (.ref XP) "__init__" = some (some (.ref iP))) (ifP:PySem.W.isFn K (.ref iP)=true) (kpP:PySem.W.keepIn K (.ref XP)=true) (liP:K.lookup iP=some ⟨oiP,ojP,.func (PySem.W.fnOf "__init__" "BadPattern.__init__" (q09 qe8) (q07 qe8) (q02 qe8) .none kiP diP piP aiP ciP tiP),siP⟩) (cdP:PySem.W.codeIn K ciP "BadPattern.__init__" = true) (keP:PySem.W.keepIn K (.ref iP)=true)
  {XU iU NU:Addr} {nmU qnU:Str} {bsU bmU sbU:List Value} {snU:List Str} {abU:Bool} {coU:Option Bool} {ddU:Option Addr} {x0U x1U x2U x3U x5U:Option Value} {oiU kiU diU piU ciU tiU:Value} {ojU aiU:Option Addr} {siU:Array (Option Value)}
  (mU:PySem.W.nsIn K mainGlobals "Unmatched" = some (some (.ref XU))) (oU:K.lookup XU=some (excClassObj nmU qnU XU NU bsU bmU true snU sbU abU coU ddU x0U x1U x2U x3U x5U "ValueError.__new__"))
  (vU:XBases bmU) (saU:PySem.W.findIn K (.ref XU) "__setattr__" = some (some (.builtin "object.__setattr__"))) (gaU:PySem.W.findIn K (.ref XU) "__getattribute__" = some (some (.builtin "BaseException.__getattribute__"))) (gnU:PySem.W.findIn K (.ref XU) "__getattr__" = some none) (nwU:PySem.W.findIn K (.ref XU) "word" = some none)
  (inU:PySem.W.findIn K (.ref XU) "__init__" = some (some (.ref iU))) (ifU:PySem.W.isFn K (.ref iU)=true) (kpU:PySem.W.keepIn K (.ref XU)=true) (liU:K.lookup iU=some ⟨oiU,ojU,.func (PySem.W.fnOf "__init__" "Unmatched.__init__" (q09 qe5) (q07 qe5) (q02 qe5) .none kiU diU piU aiU ciU tiU),siU⟩) (cdU:PySem.W.codeIn K ciU "Unmatched.__init__" = true) (keU:PySem.W.keepIn K (.ref iU)=true)
  {XH iH NH:Addr} {nmH qnH:Str} {bsH bmH sbH:List Value} {snH:List Str} {abH:Bool} {coH:Option Bool} {ddH:Option Addr} {x0H x1H x2H x3H x5H:Option Value} {oiH kiH diH piH ciH tiH:Value} {ojH aiH:Option Addr} {siH:Array (Option Value)}
  (mH:PySem.W.nsIn K mainGlobals "BadWeight" = some (some (.ref XH))) (oH:K.lookup XH=some (excClassObj nmH qnH XH NH bsH bmH true snH sbH abH coH ddH x0H x1H x2H x3H x5H "ValueError.__new__"))
  (vH:XBases bmH) (saH:PySem.W.findIn K (.ref XH) "__setattr__" = some (some (.builtin "object.__setattr__"))) (gaH:PySem.W.findIn K (.ref XH) "__getattribute__" = some (some (.builtin "BaseException.__getattribute__"))) (gnH:PySem.W.findIn K (.ref XH) "__getattr__" = some none) (nwH:PySem.W.findIn K (.ref XH) "word" = some none)
  (inH:PySem.W.findIn K (.ref XH) "__init__" = some (some (.ref iH))) (ifH:PySem.W.isFn K (.ref iH)=true) (kpH:PySem.W.keepIn K (.ref XH)=true) (liH:K.lookup iH=some ⟨oiH,ojH,.func (PySem.W.fnOf "__init__" "BadWeight.__init__" (q09 qf2) (q07 qf2) (q02 qf2) .none kiH diH piH aiH ciH tiH),siH⟩) (cdH:PySem.W.codeIn K ciH "BadWeight.__init__" = true) (keH:PySem.W.keepIn K (.ref iH)=true)
  {XE iE NE:Addr} {nmE qnE:Str} {bsE bmE sbE:List Value} {snE:List Str} {abE:Bool} {coE:Option Bool} {ddE:Option Addr} {x0E x1E x2E x3E x5E:Option Value} {oiE kiE diE piE ciE tiE:Value} {ojE aiE:Option Addr} {siE:Array (Option Value)}
  (mE:PySem.W.nsIn K mainGlobals "Even" = some (some (.ref XE))) (oE:K.lookup XE=some (excClassObj nmE qnE XE NE bsE bmE true snE sbE abE coE ddE x0E x1E x2E x3E x5E "ValueError.__new__"))
  (vE:XBases bmE) (saE:PySem.W.findIn K (.ref XE) "__setattr__" = some (some (.builtin "object.__setattr__"))) (gaE:PySem.W.findIn K (.ref XE) "__getattribute__" = some (some (.builtin "BaseException.__getattribute__"))) (gnE:PySem.W.findIn K (.ref XE) "__getattr__" = some none) (nwE:PySem.W.findIn K (.ref XE) "word" = some none)
  (inE:PySem.W.findIn K (.ref XE) "__init__" = some (some (.ref iE))) (ifE:PySem.W.isFn K (.ref iE)=true) (kpE:PySem.W.keepIn K (.ref XE)=true) (liE:K.lookup iE=some ⟨oiE,ojE,.func (PySem.W.fnOf "__init__" "Even.__init__" (q09 qf3) (q07 qf3) (q02 qf3) .none kiE diE piE aiE ciE tiE),siE⟩) (cdE:PySem.W.codeIn K ciE "Even.__init__" = true) (keE:PySem.W.keepIn K (.ref iE)=true)
  (uC:(Value.ref XC :: bmC).contains (.ref XW)=true) (uS:(Value.ref XS :: bmS).contains (.ref XW)=true)
  (wg:PySem.W.specialIn K (.ref XW) "__getattribute__" = some (some (.builtin "type.__getattribute__"))) (wr:PySem.W.readsIn K XW (.type "type")=true) (wf:PySem.W.findCls K (.ref XW) (.type "type") "__init__" = some (.val (.ref iW)))
  (gv:PySem.W.nsIn K mainGlobals "ValueError" = some none)
  (uP:(Value.ref XP :: bmP).contains (.ref XW)=true)
  (uU:(Value.ref XU :: bmU).contains (.ref XW)=true)
  (uH:(Value.ref XH :: bmH).contains (.ref XW)=true)
  (uE:(Value.ref XE :: bmE).contains (.ref XW)=true)
  (tC:PySem.W.nsIn K mainGlobals "Table" = some (some (.ref CT))) (t1:PySem.W.plainGet K CT Str.empty=true) (t2:PySem.W.hasDictIn K CT=true) (t3:PySem.W.plainOver K CT=true) (t4:PySem.W.findIn K (.ref CT) "__setattr__" = some (some (.builtin "object.__setattr__"))) (t5:PySem.W.makesIn K CT=true) (t6:PySem.W.keepIn K (.ref CT)=true)
  (n_questions:PySem.W.findIn K (.ref CT) "questions" = some none)
  (n_kept:PySem.W.findIn K (.ref CT) "kept" = some none)
  (n_both:PySem.W.findIn K (.ref CT) "both" = some none)
  (ha0:PySem.W.findIn K (.ref CT) "__init__" = some (some (.ref mf0))) (hf0:PySem.W.isFn K (.ref mf0)=true) (hl0:K.lookup mf0=some ⟨mq0,mo0,.func (PySem.W.fnOf "__init__" "Table.__init__" (q09 qt8) (q07 qt8) (q02 qt8) .none mk0 md0 mp0 ma0 mc0 mt0),ms0⟩) (hc0:PySem.W.codeIn K mc0 "Table.__init__" = true) (hk0:PySem.W.keepIn K (.ref mf0)=true)
  (ha1:PySem.W.findIn K (.ref CT) "add" = some (some (.ref mf1))) (hf1:PySem.W.isFn K (.ref mf1)=true) (hl1:K.lookup mf1=some ⟨mq1,mo1,.func (PySem.W.fnOf "add" "Table.add" (q09 qE7) (q07 qE7) (q02 qE7) .none mk1 md1 mp1 ma1 mc1 mt1),ms1⟩) (hc1:PySem.W.codeIn K mc1 "Table.add" = true) (hk1:PySem.W.keepIn K (.ref mf1)=true)
  (ha2:PySem.W.findIn K (.ref CT) "take" = some (some (.ref mf2))) (hf2:PySem.W.isFn K (.ref mf2)=true) (hl2:K.lookup mf2=some ⟨mq2,mo2,.func (PySem.W.fnOf "take" "Table.take" (q09 qh4) (q07 qh4) (q02 qh4) .none mk2 md2 mp2 ma2 mc2 mt2),ms2⟩) (hc2:PySem.W.codeIn K mc2 "Table.take" = true) (hk2:PySem.W.keepIn K (.ref mf2)=true)
  (ha3:PySem.W.findIn K (.ref CT) "tally" = some (some (.ref mf3))) (hf3:PySem.W.isFn K (.ref mf3)=true) (hl3:K.lookup mf3=some ⟨mq3,mo3,.func (PySem.W.fnOf "tally" "Table.tally" (q09 qi0) (q07 qi0) (q02 qi0) .none mk3 md3 mp3 ma3 mc3 mt3),ms3⟩) (hc3:PySem.W.codeIn K mc3 "Table.tally" = true) (hk3:PySem.W.keepIn K (.ref mf3)=true)
  (ha4:PySem.W.findIn K (.ref CT) "many" = some (some (.ref mf4))) (hf4:PySem.W.isFn K (.ref mf4)=true) (hl4:K.lookup mf4=some ⟨mq4,mo4,.func (PySem.W.fnOf "many" "Table.many" (q09 qA6) (q07 qA6) (q02 qA6) .none mk4 md4 mp4 ma4 mc4 mt4),ms4⟩) (hc4:PySem.W.codeIn K mc4 "Table.many" = true) (hk4:PySem.W.keepIn K (.ref mf4)=true)
  (ha5:PySem.W.findIn K (.ref CT) "count" = some (some (.ref mf5))) (hf5:PySem.W.isFn K (.ref mf5)=true) (hl5:K.lookup mf5=some ⟨mq5,mo5,.func (PySem.W.fnOf "count" "Table.count" (q09 qc2) (q07 qc2) (q02 qc2) .none mk5 md5 mp5 ma5 mc5 mt5),ms5⟩) (hc5:PySem.W.codeIn K mc5 "Table.count" = true) (hk5:PySem.W.keepIn K (.ref mf5)=true)
  {tq ts:Tok} (gq:PySem.W.nsIn K mainGlobals "MOST_QUESTIONS" = some (some (.int 12 tq))) (gs:PySem.W.nsIn K mainGlobals "SIGNS" = some (some (.str "ny" ts)))
  (z0:PySem.W.nsIn K mainGlobals "len" = some none) (z1:PySem.W.nsIn K mainGlobals "range" = some none) (z2:PySem.W.nsIn K mainGlobals "all" = some none) (z3:PySem.W.nsIn K mainGlobals "zip" = some none) (z4:PySem.W.nsIn K mainGlobals "abs" = some none) (z5:PySem.W.nsIn K mainGlobals "int" = some none) (z6:PySem.W.nsIn K mainGlobals "str" = some none) (z7:PySem.W.nsIn K mainGlobals "bool" = some none) (z8:PySem.W.nsIn K mainGlobals "list" = some none) (z9:PySem.W.nsIn K mainGlobals "tuple" = some none) (z10:PySem.W.nsIn K mainGlobals "isinstance" = some none) (z11:PySem.W.nsIn K mainGlobals "enumerate" = some none) (z12:PySem.W.nsIn K mainGlobals "sum" = some none) (z13:PySem.W.nsIn K mainGlobals "sorted" = some none) (z14:PySem.W.nsIn K mainGlobals "dict" = some none) :
  ∃ fd:FuncData,(∀(s:Shared) (v:Value),BindsTo s fd ⟨[v],[]⟩ [("_law_script",v)])/\PySem.W.codeHdIn K cc Pt=true/\∀ base:Heap,K.In base->base.Ns mainGlobals mg->BMain mg base->FnOk l.prog w K mg base (CXE l.prog w) 15 fa fd ["_law_script"] (z04 K Pt):=by
 have e:=hfa.symm.trans (PySem.W.mg_of X G a60)
 cases e
 have B:Bt mg:=⟨PySem.W.mg_none_of X G z0,PySem.W.mg_none_of X G z1,PySem.W.mg_none_of X G z2,PySem.W.mg_none_of X G z3,PySem.W.mg_none_of X G z4,PySem.W.mg_none_of X G z5,PySem.W.mg_none_of X G z6,PySem.W.mg_none_of X G z7,PySem.W.mg_none_of X G z8,PySem.W.mg_none_of X G z9,PySem.W.mg_none_of X G z10⟩
 have M:Gm mg:=⟨PySem.W.mg_none_of X G z11,PySem.W.mg_none_of X G z12,PySem.W.mg_none_of X G z13,PySem.W.mg_none_of X G z14,⟨_,PySem.W.mg_of X G gq⟩,⟨_,PySem.W.mg_of X G gs⟩⟩
 have D1:=q28 (st:=q80) (ps:=["questions"]) X G a1 l1 c1 k1 fun _ _ _ _ _ _ us hl=>match us,hl with | [_],_=>rfl
 have D2:=q28 (st:=qd1) (ps:=["question", "questions"]) X G a2 l2 c2 k2 fun _ _ _ _ _ _ us hl=>match us,hl with | [_,_],_=>rfl
 have D3:=q28 (st:=qf4) (ps:=["sign"]) X G a3 l3 c3 k3 fun _ _ _ _ _ _ us hl=>match us,hl with | [_],_=>rfl
 have D4:=q28 (st:=qq8) (ps:=["q", "a", "r", "b", "questions"]) X G a4 l4 c4 k4 fun _ _ _ _ _ _ us hl=>match us,hl with | [_,_,_,_,_],_=>rfl
 have D5:=q28 (st:=qf5) (ps:=["row", "questions"]) X G a5 l5 c5 k5 fun _ _ _ _ _ _ us hl=>match us,hl with | [_,_],_=>rfl
 have D6:=q28 (st:=qh6) (ps:=["pattern", "questions"]) X G a6 l6 c6 k6 fun _ _ _ _ _ _ us hl=>match us,hl with | [_,_],_=>rfl
 have D7:=q28 (st:=qi3) (ps:=["sign"]) X G a7 l7 c7 k7 fun _ _ _ _ _ _ us hl=>match us,hl with | [_],_=>rfl
 have D8:=q28 (st:=qc7) (ps:=["row", "questions"]) X G a8 l8 c8 k8 fun _ _ _ _ _ _ us hl=>match us,hl with | [_,_],_=>rfl
 have D9:=q28 (st:=qf1) (ps:=["pattern", "questions"]) X G a9 l9 c9 k9 fun _ _ _ _ _ _ us hl=>match us,hl with | [_,_],_=>rfl
 have D10:=q28 (st:=qh5) (ps:=["text", "signs"]) X G a10 l10 c10 k10 fun _ _ _ _ _ _ us hl=>match us,hl with | [_,_],_=>rfl
 have D11:=q28 (st:=s_go) (ps:=["one", "two", "three"]) X G a11 l11 c11 k11 fun _ _ _ _ _ _ us hl=>match us,hl with | [_,_,_],_=>rfl
 have D12:=q28 (st:=qd0) (ps:=["one", "other"]) X G a12 l12 c12 k12 fun _ _ _ _ _ _ us hl=>match us,hl with | [_,_],_=>rfl
 have D13:=q28 (st:=qb2) (ps:=["row", "questions"]) X G a13 l13 c13 k13 fun _ _ _ _ _ _ us hl=>match us,hl with | [_,_],_=>rfl
 have D14:=q28 (st:=qq1) (ps:=["pattern", "question", "sign"]) X G a14 l14 c14 k14 fun _ _ _ _ _ _ us hl=>match us,hl with | [_,_,_],_=>rfl
 have D15:=q28 (st:=q81) (ps:=["table"]) X G a15 l15 c15 k15 fun _ _ _ _ _ _ us hl=>match us,hl with | [_],_=>rfl
 have D16:=q28 (st:=qc4) (ps:=["table"]) X G a16 l16 c16 k16 fun _ _ _ _ _ _ us hl=>match us,hl with | [_],_=>rfl
 have D17:=q28 (st:=qc8) (ps:=["table", "question"]) X G a17 l17 c17 k17 fun _ _ _ _ _ _ us hl=>match us,hl with | [_,_],_=>rfl
 have D18:=q28 (st:=qi4) (ps:=["table", "lowest"]) X G a18 l18 c18 k18 fun _ _ _ _ _ _ us hl=>match us,hl with | [_,_],_=>rfl
 have D19:=q28 (st:=qi5) (ps:=["table", "q", "r"]) X G a19 l19 c19 k19 fun _ _ _ _ _ _ us hl=>match us,hl with | [_,_,_],_=>rfl
 have D20:=q28 (st:=qb5) (ps:=["table", "row"]) X G a20 l20 c20 k20 fun _ _ _ _ _ _ us hl=>match us,hl with | [_,_],_=>rfl
 have D21:=q28 (st:=qf0) (ps:=["table", "row"]) X G a21 l21 c21 k21 fun _ _ _ _ _ _ us hl=>match us,hl with | [_,_],_=>rfl
 have D22:=q28 (st:=q85) (ps:=["table", "pattern"]) X G a22 l22 c22 k22 fun _ _ _ _ _ _ us hl=>match us,hl with | [_,_],_=>rfl
 have D23:=q28 (st:=qj7) (ps:=["table", "pattern"]) X G a23 l23 c23 k23 fun _ _ _ _ _ _ us hl=>match us,hl with | [_,_],_=>rfl
 have D24:=q28 (st:=s_pg) (ps:=["table", "pattern", "many"]) X G a24 l24 c24 k24 fun _ _ _ _ _ _ us hl=>match us,hl with | [_,_,_],_=>rfl
 have D25:=q28 (st:=qA8) (ps:=["pattern"]) X G a25 l25 c25 k25 fun _ _ _ _ _ _ us hl=>match us,hl with | [_],_=>rfl
 have D26:=q28 (st:=qq5) (ps:=["pattern"]) X G a26 l26 c26 k26 fun _ _ _ _ _ _ us hl=>match us,hl with | [_],_=>rfl
 have D27:=q28 (st:=qm9) (ps:=["table", "pattern", "question", "sign"]) X G a27 l27 c27 k27 fun _ _ _ _ _ _ us hl=>match us,hl with | [_,_,_,_],_=>rfl
 have D28:=q28 (st:=qi1) (ps:=["table", "one", "other"]) X G a28 l28 c28 k28 fun _ _ _ _ _ _ us hl=>match us,hl with | [_,_,_],_=>rfl
 have D29:=q28 (st:=qE4) (ps:=["table", "one", "other"]) X G a29 l29 c29 k29 fun _ _ _ _ _ _ us hl=>match us,hl with | [_,_,_],_=>rfl
 have D30:=q28 (st:=qc3) (ps:=["table", "one", "two", "three"]) X G a30 l30 c30 k30 fun _ _ _ _ _ _ us hl=>match us,hl with | [_,_,_,_],_=>rfl
 have D31:=q28 (st:=qE6) (ps:=["table", "one", "other"]) X G a31 l31 c31 k31 fun _ _ _ _ _ _ us hl=>match us,hl with | [_,_,_],_=>rfl
 have D32:=q28 (st:=qe9) (ps:=["table", "row"]) X G a32 l32 c32 k32 fun _ _ _ _ _ _ us hl=>match us,hl with | [_,_],_=>rfl
 have D33:=q28 (st:=qa4) (ps:=["table", "row", "pattern"]) X G a33 l33 c33 k33 fun _ _ _ _ _ _ us hl=>match us,hl with | [_,_,_],_=>rfl
 have D34:=q28 (st:=qc1) (ps:=["table", "row", "goal"]) X G a34 l34 c34 k34 fun _ _ _ _ _ _ us hl=>match us,hl with | [_,_,_],_=>rfl
 have D35:=q28 (st:=qh9) (ps:=["table", "crowd"]) X G a35 l35 c35 k35 fun _ _ _ _ _ _ us hl=>match us,hl with | [_,_],_=>rfl
 have D36:=q28 (st:=qa5) (ps:=["weight"]) X G a36 l36 c36 k36 fun _ _ _ _ _ _ us hl=>match us,hl with | [_],_=>rfl
 have D37:=q28 (st:=qp9) (ps:=["crowd", "question"]) X G a37 l37 c37 k37 fun _ _ _ _ _ _ us hl=>match us,hl with | [_,_],_=>rfl
 have D38:=q28 (st:=qq6) (ps:=["yes", "whole"]) X G a38 l38 c38 k38 fun _ _ _ _ _ _ us hl=>match us,hl with | [_,_],_=>rfl
 have D39:=q28 (st:=qq7) (ps:=["_law_script", "_law_k"]) X G a39 l39 c39 k39 fun _ _ _ _ _ _ us hl=>match us,hl with | [_,_],_=>rfl
 have D40:=q28 (st:=q95) (ps:=["_law_cell_here", "_law_parts"]) X G a40 l40 c40 k40 fun _ _ _ _ _ _ us hl=>match us,hl with | [_,_],_=>rfl
 have D41:=q28 (st:=qm7) (ps:=["_law_found", "_law_due"]) X G a41 l41 c41 k41 fun _ _ _ _ _ _ us hl=>match us,hl with | [_,_],_=>rfl
 have D42:=q28 (st:=q79) (ps:=["_law_cell_here"]) X G a42 l42 c42 k42 fun _ _ _ _ _ _ us hl=>match us,hl with | [_],_=>rfl
 have D43:=q28 (st:=qE5) (ps:=["_law_sign"]) X G a43 l43 c43 k43 fun _ _ _ _ _ _ us hl=>match us,hl with | [_],_=>rfl
 have D44:=q28 (st:=qc9) (ps:=["_law_plan_here", "_law_m", "_law_number"]) X G a44 l44 c44 k44 fun _ _ _ _ _ _ us hl=>match us,hl with | [_,_,_],_=>rfl
 have D45:=q28 (st:=qq9) (ps:=["_law_number", "_law_n"]) X G a45 l45 c45 k45 fun _ _ _ _ _ _ us hl=>match us,hl with | [_,_],_=>rfl
 have D46:=q28 (st:=qi2) (ps:=["_law_number", "_law_n", "_law_plan_here"]) X G a46 l46 c46 k46 fun _ _ _ _ _ _ us hl=>match us,hl with | [_,_,_],_=>rfl
 have D47:=q28 (st:=qq4) (ps:=["_law_cell_here"]) X G a47 l47 c47 k47 fun _ _ _ _ _ _ us hl=>match us,hl with | [_],_=>rfl
 have D48:=q28 (st:=qq3) (ps:=["_law_cells", "_law_n", "_law_cell_here"]) X G a48 l48 c48 k48 fun _ _ _ _ _ _ us hl=>match us,hl with | [_,_,_],_=>rfl
 have D49:=q28 (st:=qf6) (ps:=["_law_rows_here", "_law_q", "_law_a", "_law_r", "_law_b"]) X G a49 l49 c49 k49 fun _ _ _ _ _ _ us hl=>match us,hl with | [_,_,_,_,_],_=>rfl
 have D50:=q28 (st:=qc5) (ps:=["_law_rows_here", "_law_row"]) X G a50 l50 c50 k50 fun _ _ _ _ _ _ us hl=>match us,hl with | [_,_],_=>rfl
 have D51:=q28 (st:=qm8) (ps:=["_law_rows_here", "_law_n"]) X G a51 l51 c51 k51 fun _ _ _ _ _ _ us hl=>match us,hl with | [_,_],_=>rfl
 have D52:=q28 (st:=qc6) (ps:=["_law_sheaves", "_law_one", "_law_another"]) X G a52 l52 c52 k52 fun _ _ _ _ _ _ us hl=>match us,hl with | [_,_,_],_=>rfl
 have D53:=q28 (st:=qA7) (ps:=["_law_one", "_law_two", "_law_three"]) X G a53 l53 c53 k53 fun _ _ _ _ _ _ us hl=>match us,hl with | [_,_,_],_=>rfl
 have D54:=q28 (st:=qq2) (ps:=["_law_rows_here", "_law_cell_here"]) X G a54 l54 c54 k54 fun _ _ _ _ _ _ us hl=>match us,hl with | [_,_],_=>rfl
 have D55:=q28 (st:=qq0) (ps:=["_law_asked_here"]) X G a55 l55 c55 k55 fun _ _ _ _ _ _ us hl=>match us,hl with | [_],_=>rfl
 have D56:=q28 (st:=qe6) (ps:=["_law_made", "_law_rows_here", "_law_fresh", "_law_drawn"]) X G a56 l56 c56 k56 fun _ _ _ _ _ _ us hl=>match us,hl with | [_,_,_,_],_=>rfl
 have D57:=q28 (st:=qn0) (ps:=["_law_made", "_law_door_here", "_law_row", "_law_good"]) X G a57 l57 c57 k57 fun _ _ _ _ _ _ us hl=>match us,hl with | [_,_,_,_],_=>rfl
 have D58:=q28 (st:=qe7) (ps:=["_law_found", "_law_door_here", "_law_rows_here", "_law_row", "_law_good"]) X G a58 l58 c58 k58 fun _ _ _ _ _ _ us hl=>match us,hl with | [_,_,_,_,_],_=>rfl
 have D59:=q28 (st:=q71) (ps:=["_law_made", "_law_rows_here", "_law_elder", "_law_cell_here"]) X G a59 l59 c59 k59 fun _ _ _ _ _ _ us hl=>match us,hl with | [_,_,_,_],_=>rfl
 have D60:=q28 (st:=qt1) (ps:=["_law_script"]) X G a60 l60 c60 k60 fun _ _ _ _ _ _ us hl=>match us,hl with | [_],_=>rfl
 have F0:=qb3 (st:=qt8) hl0 hc0 hk0
 have b0:=F0.binds (ps:=["self", "questions"]) fun _ _ _ _ _ _ us hl=>match us,hl with | [_,_],_=>rfl
 have F1:=qb3 (st:=qE7) hl1 hc1 hk1
 have b1:=F1.binds (ps:=["self", "row"]) fun _ _ _ _ _ _ us hl=>match us,hl with | [_,_],_=>rfl
 have F2:=qb3 (st:=qh4) hl2 hc2 hk2
 have b2:=F2.binds (ps:=["self", "row"]) fun _ _ _ _ _ _ us hl=>match us,hl with | [_,_],_=>rfl
 have F3:=qb3 (st:=qi0) hl3 hc3 hk3
 have b3:=F3.binds (ps:=["self", "row", "by"]) fun _ _ _ _ _ _ us hl=>match us,hl with | [_,_,_],_=>rfl
 have F4:=qb3 (st:=qA6) hl4 hc4 hk4
 have b4:=F4.binds (ps:=["self"]) fun _ _ _ _ _ _ us hl=>match us,hl with | [_],_=>rfl
 have F5:=qb3 (st:=qc2) hl5 hc5 hk5
 have b5:=F5.binds (ps:=["self", "q", "a", "r", "b"]) fun _ _ _ _ _ _ us hl=>match us,hl with | [_,_,_,_,_],_=>rfl
 have T:Tb K mg CT mf0 mf1 mf2 mf3 mf4 mf5 _ _ _ _ _ _:=⟨PySem.W.mg_of X G tC,⟨t1,t2,t3,t4⟩,⟨t5,ha0,hf0,t6⟩,n_questions,n_kept,n_both,⟨ha1,hf1,hk1⟩,⟨ha2,hf2,hk2⟩,⟨ha3,hf3,hk3⟩,⟨ha4,hf4,hk4⟩,⟨ha5,hf5,hk5⟩,F0,F1,F2,F3,F4,F5,b0,b1,b2,b3,b4,b5⟩
 have FW:=qb3 (st:=ql4) liW cdW keW
 have bW:=FW.binds (ps:=["self", "word"]) fun _ _ _ _ _ _ us hl=>match us,hl with | [_,_],_=>rfl
 have kW:XKl K XW:=⟨⟨⟨_,_,_,_,_,_,_,_,_,_,_,_,_,_,_,oW,vW⟩⟩,saW,gaW,gnW,nwW⟩
 have FC:=qb3 (st:=ql6) liC cdC keC
 have bC:=FC.binds (ps:=["self"]) fun _ _ _ _ _ _ us hl=>match us,hl with | [_],_=>rfl
 have kC:XKl K XC:=⟨⟨⟨_,_,_,_,_,_,_,_,_,_,_,_,_,_,_,oC,vC⟩⟩,saC,gaC,gnC,nwC⟩
 have FS:=qb3 (st:=ql5) liS cdS keS
 have bS:=FS.binds (ps:=["self"]) fun _ _ _ _ _ _ us hl=>match us,hl with | [_],_=>rfl
 have kS:XKl K XS:=⟨⟨⟨_,_,_,_,_,_,_,_,_,_,_,_,_,_,_,oS,vS⟩⟩,saS,gaS,gnS,nwS⟩
 have FP:=qb3 (st:=qe8) liP cdP keP
 have bP:=FP.binds (ps:=["self"]) fun _ _ _ _ _ _ us hl=>match us,hl with | [_],_=>rfl
 have kP:XKl K XP:=⟨⟨⟨_,_,_,_,_,_,_,_,_,_,_,_,_,_,_,oP,vP⟩⟩,saP,gaP,gnP,nwP⟩
 have FU:=qb3 (st:=qe5) liU cdU keU
 have bU:=FU.binds (ps:=["self"]) fun _ _ _ _ _ _ us hl=>match us,hl with | [_],_=>rfl
 have kU:XKl K XU:=⟨⟨⟨_,_,_,_,_,_,_,_,_,_,_,_,_,_,_,oU,vU⟩⟩,saU,gaU,gnU,nwU⟩
 have FH:=qb3 (st:=qf2) liH cdH keH
 have bH:=FH.binds (ps:=["self"]) fun _ _ _ _ _ _ us hl=>match us,hl with | [_],_=>rfl
 have kH:XKl K XH:=⟨⟨⟨_,_,_,_,_,_,_,_,_,_,_,_,_,_,_,oH,vH⟩⟩,saH,gaH,gnH,nwH⟩
 have FE:=qb3 (st:=qf3) liE cdE keE
 have bE:=FE.binds (ps:=["self"]) fun _ _ _ _ _ _ us hl=>match us,hl with | [_],_=>rfl
 have kE:XKl K XE:=⟨⟨⟨_,_,_,_,_,_,_,_,_,_,_,_,_,_,_,oE,vE⟩⟩,saE,gaE,gnE,nwE⟩
 have XX:Xs K mg XW XC XS iW iC iS _ _ _:=⟨PySem.W.mg_of X G mW,PySem.W.mg_of X G mC,PySem.W.mg_of X G mS,PySem.W.mg_none_of X G gv,kW,kC,kS,⟨⟨_,_,_,_,_,_,_,_,_,_,_,_,_,_,_,oC,uC⟩⟩,⟨⟨_,_,_,_,_,_,_,_,_,_,_,_,_,_,_,oS,uS⟩⟩,⟨wg,wr,wf,keW⟩,⟨inC,ifC,kpC⟩,⟨inS,ifS,kpS⟩,FW,FC,FS,bW,bC,bS⟩
 have Z_BadPattern:Xc K mg XW XP iP _ "BadPattern" "BadPattern.__init__" qe8:=⟨PySem.W.mg_of X G mP,kP,⟨⟨_,_,_,_,_,_,_,_,_,_,_,_,_,_,_,oP,uP⟩⟩,⟨inP,ifP,kpP⟩,FP,bP⟩
 have Z_Unmatched:Xc K mg XW XU iU _ "Unmatched" "Unmatched.__init__" qe5:=⟨PySem.W.mg_of X G mU,kU,⟨⟨_,_,_,_,_,_,_,_,_,_,_,_,_,_,_,oU,uU⟩⟩,⟨inU,ifU,kpU⟩,FU,bU⟩
 have Z_BadWeight:Xc K mg XW XH iH _ "BadWeight" "BadWeight.__init__" qf2:=⟨PySem.W.mg_of X G mH,kH,⟨⟨_,_,_,_,_,_,_,_,_,_,_,_,_,_,_,oH,uH⟩⟩,⟨inH,ifH,kpH⟩,FH,bH⟩
 have Z_Even:Xc K mg XW XE iE _ "Even" "Even.__init__" qf3:=⟨PySem.W.mg_of X G mE,kE,⟨⟨_,_,_,_,_,_,_,_,_,_,_,_,_,_,_,oE,uE⟩⟩,⟨inE,ifE,kpE⟩,FE,bE⟩
 refine ⟨_,fun s v=>BindsTo.of_eq (fd:=PySem.W.fnOf "law" "law" (q09 qt1) (q07 qt1) (q02 qt1) .none kV60 dc60 pm60 an60 cd60 ct60) rfl,hH,fun base KB _ BM=>?_⟩
 exact ok_law D60 D39 D40 D42 D48 (ok_rows D48 D40 D47 D46 (ok_plan D47 D40 B) (z44 D46 D45 D44 D43 B) B) D56 (z43 D56 T (ok_tadd T D5 (qU3 D5 D8 (qI5 D8 D1 D10 B M)) M) (z39 T D5 (qU3 D5 D8 (qI5 D8 D1 D10 B M)) M) B) D54 (ok_some D54 D40 D53 B) D53 D59 (z53 l59 c59 D40 D50 (qT8 D50 D49 B) D55 D41 D57 (fun _=>ok_door D57 D28 (z41 D28 D20 (qg1 D20 D21 (q89 D21 D5 (q83 D5 D8 (q56 D8 D1 D10 B M) XX) D23 (q97 D23 D24 (qn8 D24 D25 T (q26 T D4 (q44 D4 D2 D3)) M)) T) XX) D16 (qT7 D16 D15 (ql9 D15 D17 (qr4 D17 T (q26 T D4 (q44 D4 D2 D3)) B M) D18 (qx2 D18 D19 (qx3 D19 T (q26 T D4 (q44 D4 D2 D3))) T B) T B M)) B) D29 (ok_way D29 D20 (qg1 D20 D21 (q89 D21 D5 (q83 D5 D8 (q56 D8 D1 D10 B M) XX) D23 (q97 D23 D24 (qn8 D24 D25 T (q26 T D4 (q44 D4 D2 D3)) M)) T) XX) D34 (qT5 D34 D32 (qI4 D32 D21 (q89 D21 D5 (q83 D5 D8 (q56 D8 D1 D10 B M) XX) D23 (q97 D23 D24 (qn8 D24 D25 T (q26 T D4 (q44 D4 D2 D3)) M)) T) D20 (qg1 D20 D21 (q89 D21 D5 (q83 D5 D8 (q56 D8 D1 D10 B M) XX) D23 (q97 D23 D24 (qn8 D24 D25 T (q26 T D4 (q44 D4 D2 D3)) M)) T) XX) D15 (ql9 D15 D17 (qr4 D17 T (q26 T D4 (q44 D4 D2 D3)) B M) D18 (qx2 D18 D19 (qx3 D19 T (q26 T D4 (q44 D4 D2 D3))) T B) T B M) D13 (qr3 D13 D7 (qx0 D7 D3) M)) D12 B)) D30 (qT6 D30 D20 (qg1 D20 D21 (q89 D21 D5 (q83 D5 D8 (q56 D8 D1 D10 B M) XX) D23 (q97 D23 D24 (qn8 D24 D25 T (q26 T D4 (q44 D4 D2 D3)) M)) T) XX) D11 B) D31 (ok_box D31 D20 (qg1 D20 D21 (q89 D21 D5 (q83 D5 D8 (q56 D8 D1 D10 B M) XX) D23 (q97 D23 D24 (qn8 D24 D25 T (q26 T D4 (q44 D4 D2 D3)) M)) T) XX) D22 (z47 D22 D6 (z50 D6 D9 (qI6 D9 D1 D10 B M)) D23 (q97 D23 D24 (qn8 D24 D25 T (q26 T D4 (q44 D4 D2 D3)) M)) D26 D27 (qU2 D27 D25 T (q26 T D4 (q44 D4 D2 D3)) B M) D14 T M) B) D32 (qI4 D32 D21 (q89 D21 D5 (q83 D5 D8 (q56 D8 D1 D10 B M) XX) D23 (q97 D23 D24 (qn8 D24 D25 T (q26 T D4 (q44 D4 D2 D3)) M)) T) D20 (qg1 D20 D21 (q89 D21 D5 (q83 D5 D8 (q56 D8 D1 D10 B M) XX) D23 (q97 D23 D24 (qn8 D24 D25 T (q26 T D4 (q44 D4 D2 D3)) M)) T) XX) D15 (ql9 D15 D17 (qr4 D17 T (q26 T D4 (q44 D4 D2 D3)) B M) D18 (qx2 D18 D19 (qx3 D19 T (q26 T D4 (q44 D4 D2 D3))) T B) T B M) D13 (qr3 D13 D7 (qx0 D7 D3) M)) D33 (qM0 D33 D20 (qg1 D20 D21 (q89 D21 D5 (q83 D5 D8 (q56 D8 D1 D10 B M) XX) D23 (q97 D23 D24 (qn8 D24 D25 T (q26 T D4 (q44 D4 D2 D3)) M)) T) XX) D6 (ok_cpat D6 D9 (qI6 D9 D1 D10 B M) XX Z_BadPattern) D23 (q97 D23 D24 (qn8 D24 D25 T (q26 T D4 (q44 D4 D2 D3)) M)) D13 (qr3 D13 D7 (qx0 D7 D3) M) D27 (qU2 D27 D25 T (q26 T D4 (q44 D4 D2 D3)) B M) T XX Z_Unmatched M) D35 (z37 D35 D38 D5 (q83 D5 D8 (q56 D8 D1 D10 B M) XX) D36 (ok_cw D36 XX Z_BadWeight) D20 (qg1 D20 D21 (q89 D21 D5 (q83 D5 D8 (q56 D8 D1 D10 B M) XX) D23 (q97 D23 D24 (qn8 D24 D25 T (q26 T D4 (q44 D4 D2 D3)) M)) T) XX) D37 T XX Z_Even B M)) D58 (z45 D58 D51 (ok_lbun D51 D49 B) D52 (qU0 D52) D41 B) XX B (PySem.W.codeHd_of_K KB hH) BM) T D1 B M
theorem walk {l:PySem.W.OpenLaw}{q:Program}{loose:List Str}{XP:(Str->Option Value)->Heap->Prop}{YP:World->Heap->Prop}{d:DefRec}{K:Params->PySem.W.Frag}{cc Pt:Addr}(hn:l.most=some 63) (hdf:d.params.defaults=[])
  (hY:∀(w:World) (h:Heap),YP w h->(K w.params).In h) (hT:∀(w:World) (h:Heap),YP w h->h.get? Pt=some (PySem.W.tabObj #[])) (hC:∀ w:World,PySem.W.codeHdIn (K w.params) cc Pt=true) (hK:∀ w:World,(K w.params).lookup Pt=none)
  (F:∀(w:World) (mg:Str->Option Value) (fa:Addr) (h:Heap),(K w.params).In h->h.Ns mainGlobals mg->mg d.name=some (.ref fa) ->
   ∃ fd:FuncData,(∀(s:Shared) (u:Value),BindsTo s fd ⟨[u],[]⟩ [("_law_script",u)])/\PySem.W.codeHdIn (K w.params) cc Pt=true/\∀ base:Heap,(K w.params).In base->base.Ns mainGlobals mg->BMain mg base->FnOk l.prog w (K w.params) mg base (CXE l.prog w) 15 fa fd ["_law_script"] (z04 (K w.params) Pt)) :
  PySem.W.WalkO q loose XP YP l.row.toRowW d [] (fun f vs=>PySem.call f vs) :=
 L2.walk_ofT (n:=63) (k:=15) (x := "_law_script") (tabs:=[(cc,Pt)]) (CX:=fun w=>CXE l.prog w) (sp:=fun w=>z04 (K w.params) Pt) hn (by decide) hdf ⟨rfl,by decide,by decide⟩ hY
  (fun w h Y q hq=>by obtain rfl:=List.mem_singleton.mp hq; exact hT w h Y) (fun w h KX q hq=>by obtain rfl:=List.mem_singleton.mp hq; exact PySem.W.codeHd_of_K KX (hC w)) (fun w q hq=>by obtain rfl:=List.mem_singleton.mp hq; exact hK w)
  (fun w mg fa h h1 h2 h3=>let ⟨fd,e1,_,e2⟩:=F w mg fa h h1 h2 h3; ⟨fd,e1,e2⟩) (fun _ _ a ns hl hS hTs=>⟨a,ns,rfl,hS,hl,hTs (cc,Pt) (List.mem_singleton.mpr rfl),fun _=>rfl⟩) fun _ _ _ _ _ z=>by
  obtain ⟨_,_,_,_,_,_,_,_,_,_,_,_,_,_,_,q⟩:=z
  exact q.elim
end K67
open PySem PySem.W PyProof.Rows
def PySem.W.Fast.tw3889636463154758662:Unit:=()
def PySem.W.Fast.tw12299497305794534305:Unit:=()
def PySem.W.Fast.tw5940459788705566157:Unit:=()
def PySem.W.Fast.tw7779352632938865361:Unit:=()
def PySem.W.Fast.tw1068784139874545556:Unit:=()
def PySem.W.Fast.tw8209380765172479687:Unit:=()
def PySem.W.Fast.tw4974855888216079858:Unit:=()
def PySem.W.Fast.tw13483730478112067166:Unit:=()
def PySem.W.Fast.tw8055461763810168804:Unit:=()
def PySem.W.Fast.tw14187870262125950156:Unit:=()
def PySem.W.Fast.tw5345080021896841426:Unit:=()
def PySem.W.Fast.tw2635537746906610558:Unit:=()
def PySem.W.Fast.tw3726234226570210647:Unit:=()
def PySem.W.Fast.tw5380420060400943253:Unit:=()
def PySem.W.Fast.tw3918802386488135996:Unit:=()
def PySem.W.Fast.tw15019817038103122287:Unit:=()
def PySem.W.Fast.tw5029192263409621617:Unit:=()
def PySem.W.Fast.tw2199808094723676213:Unit:=()
def PySem.W.Fast.tw9157596960778251797:Unit:=()
def PySem.W.Fast.tw5567185842986811912:Unit:=()
def PySem.W.Fast.tw4822184252702392041:Unit:=()
def PySem.W.Fast.tw14293535229486078851:Unit:=()
def PySem.W.Fast.tw17176953978470745235:Unit:=()
def PySem.W.Fast.tw11499946721639335629:Unit:=()
def PySem.W.Fast.tw7711178139178901756:Unit:=()
def PySem.W.Fast.tw2400623480819916521:Unit:=()
def PySem.W.Fast.tw16903310355406835518:Unit:=()
def PySem.W.Fast.tw9808689502919638700:Unit:=()
def PySem.W.Fast.tw12357809964747156344:Unit:=()
def PySem.W.Fast.tw2546415766112150398:Unit:=()
def PySem.W.Fast.tw17692747108729604129:Unit:=()
def PySem.W.Fast.tw5968048334971292123:Unit:=()
def PySem.W.Fast.tw11810903161939012262:Unit:=()
def PySem.W.Fast.tw16262426311769426026:Unit:=()
def PySem.W.Fast.tw9475382233255724801:Unit:=()
def PySem.W.Fast.tw17165008258892318204:Unit:=()
def PySem.W.Fast.tw7746683025642570980:Unit:=()
def PySem.W.Fast.tw5658493269149472775:Unit:=()
def PySem.W.Fast.tw13262211694374379144:Unit:=()
def PySem.W.Fast.tw13773001711737087293:Unit:=()
def PySem.W.Fast.tw12505043429699105346:Unit:=()
def PySem.W.Fast.tw15656796660809700790:Unit:=()
def PySem.W.Fast.tw10643910524983280221:Unit:=()
def PySem.W.Fast.tw16625116351451499087:Unit:=()
def PySem.W.Fast.tw5598271169593135573:Unit:=()
def PySem.W.Fast.tw7515618298694202105:Unit:=()
def PySem.W.Fast.tw1408550162034213617:Unit:=()
def PySem.W.Fast.tw10564716734444146883:Unit:=()
def PySem.W.Fast.tw6471967995255257652:Unit:=()
def PySem.W.Fast.tw8968441995698069802:Unit:=()
def PySem.W.Fast.tw6582742885234951842:Unit:=()
def PySem.W.Fast.tw10029509054078510975:Unit:=()
def PySem.W.Fast.tw14372462734677340810:Unit:=()
def PySem.W.Fast.tw15489610741282797925:Unit:=()
def PySem.W.Fast.tw845872560073922549:Unit:=()
def PySem.W.Fast.tw17620709990638056633:Unit:=()
def PySem.W.Fast.tw7520016927310218590:Unit:=()
def PySem.W.Fast.tw7393702133452459329:Unit:=()
def PySem.W.Fast.tw8035345432026877957:Unit:=()
def PySem.W.Fast.tw10290187898408992175:Unit:=()
def PySem.W.Fast.tw16725418808212239815:Unit:=()
def PySem.W.Fast.tw1344796128819669023:Unit:=()
def PySem.W.Fast.tw5345591058777559422:Unit:=()
def PySem.W.Fast.tw16609847504321004641:Unit:=()
def PySem.W.Fast.tw69576040880881989:Unit:=()
def PySem.W.Fast.tw6347603573096283456:Unit:=()
def PySem.W.Fast.tw2039918793561785296:Unit:=()
def PySem.W.Fast.tw9282521990300375407:Unit:=()
def PySem.W.Fast.tw7736921549174865379:Unit:=()
def PySem.W.Fast.tw11835547554861558138:Unit:=()
def PySem.W.Fast.tw5828593728760692456:Unit:=()
def PySem.W.Fast.tw7357768383060883840:Unit:=()
def PySem.W.Fast.tw9794623516810148017:Unit:=()
def PySem.W.Fast.tw16713498513598935669:Unit:=()
def PySem.W.Fast.tw3984667117713617287:Unit:=()
def PySem.W.Fast.tw16198397387626254577:Unit:=()
def PySem.W.Fast.tw11919313124849614539:Unit:=()
def PySem.W.Fast.tw9928668063897212262:Unit:=()
def PySem.W.Fast.tw14938129653404749777:Unit:=()
def PySem.W.Fast.tw10017252680703701801:Unit:=()
def PySem.W.Fast.tw9985548477546535973:Unit:=()
def PySem.W.Fast.tw10049437789013507799:Unit:=()
def PySem.W.Fast.tw3957766730491785926:Unit:=()
def PySem.W.Fast.tw9639542929848600227:Unit:=()
def PySem.W.Fast.tw8776123926467921828:Unit:=()
def PySem.W.Fast.tw8966717090120758949:Unit:=()
def PySem.W.Fast.tw14213580391941520565:Unit:=()
def PySem.W.Fast.tw6333470596590972628:Unit:=()
def PySem.W.Fast.tw16553516494394674775:Unit:=()
def PySem.W.Fast.tw8280187627191124876:Unit:=()
def PySem.W.Fast.tw15107694517734155242:Unit:=()
def PySem.W.Fast.tw8317415582721846053:Unit:=()
def PySem.W.Fast.tw10759771166206556499:Unit:=()
def PySem.W.Fast.tw15676457719825080992:Unit:=()
def PySem.W.Fast.tw14486907728070850898:Unit:=()
def PySem.W.Fast.tw7726331903330816251:Unit:=()
def PySem.W.Fast.tw15761994405084386910:Unit:=()
def PySem.W.Fast.tw15436701247920865670:Unit:=()
def PySem.W.Fast.tw5843569319459415722:Unit:=()
def PySem.W.Fast.tw6185627097284464685:Unit:=()
def PySem.W.Fast.tw17841635370356596221:Unit:=()
def PySem.W.Fast.tw13281545024330149828:Unit:=()
def PySem.W.Fast.tw5631749758742956150:Unit:=()
def PySem.W.Fast.tw5193872906710046439:Unit:=()
def PySem.W.Fast.tw7299750705562502685:Unit:=()
def PySem.W.Fast.tw5460452402324257108:Unit:=()
def PySem.W.Fast.tw6000822485246636904:Unit:=()
def PySem.W.Fast.tw260508768078134235:Unit:=()
def PySem.W.Fast.tw17068787034193786083:Unit:=()
def PySem.W.Fast.tw5786997146843800871:Unit:=()
def PySem.W.Fast.tw14977139998973686107:Unit:=()
def PySem.W.Fast.tw5134123381696823158:Unit:=()
def PySem.W.Fast.tw6495329966650832930:Unit:=()
def PySem.W.Fast.tw10522497108335375412:Unit:=()
def PySem.W.Fast.tw3022740449243907414:Unit:=()
def PySem.W.Fast.tw16084155097662455984:Unit:=()
def PySem.W.Fast.tw17473372005543948962:Unit:=()
def PySem.W.Fast.tw15769433991026592172:Unit:=()
def PySem.W.Fast.tw11691478516837151973:Unit:=()
def PySem.W.Fast.tw170071305129181973:Unit:=()
def PySem.W.Fast.tw15115967086958290382:Unit:=()
def PySem.W.Fast.tw3173277458416541646:Unit:=()
def PySem.W.Fast.tw14298398622653490629:Unit:=()
def PySem.W.Fast.tw8369090185703258687:Unit:=()
def PySem.W.Fast.tw18123273689951470066:Unit:=()
def PySem.W.Fast.tw4396585227776043355:Unit:=()
def PySem.W.Fast.tw13086028027760372631:Unit:=()
def PySem.W.Fast.tw16780144805667982805:Unit:=()
def PySem.W.Fast.tw12613209387328733164:Unit:=()
def PySem.W.Fast.tw7389505324003508416:Unit:=()
def PySem.W.Fast.tw13476665241601654841:Unit:=()
def PySem.W.Fast.tw9507655676922055792:Unit:=()
def PySem.W.Fast.tw15577562785760648408:Unit:=()
def PySem.W.Fast.tw14609846315932254774:Unit:=()
def PySem.W.Fast.tw9216578884867281103:Unit:=()
def PySem.W.Fast.tw12059252054901733684:Unit:=()
def PySem.W.Fast.tw4041355865158154931:Unit:=()
def PySem.W.Fast.tw8781496324375693689:Unit:=()
def PySem.W.Fast.tw12950844476959440980:Unit:=()
def PySem.W.Fast.tw12652951711561326070:Unit:=()
def PySem.W.Fast.tw11051902693202460535:Unit:=()
def PySem.W.Fast.tw12575418779245616921:Unit:=()
def PySem.W.Fast.tw6643846055451312627:Unit:=()
def PySem.W.Fast.tw9210030530521572439:Unit:=()
def PySem.W.Fast.tw18249288266544101090:Unit:=()
def PySem.W.Fast.tw11697939699081104879:Unit:=()
def PySem.W.Fast.tw17541674444844296844:Unit:=()
def PySem.W.Fast.tw12318288162913719160:Unit:=()
def PySem.W.Fast.tw9986748469968961652:Unit:=()
def PySem.W.Fast.tw2353615402267508531:Unit:=()
def PySem.W.Fast.tw1148894214107480894:Unit:=()
def PySem.W.Fast.tw7669324618505404476:Unit:=()
def PySem.W.Fast.tw17899808467991645249:Unit:=()
def PySem.W.Fast.tw1231004346467848689:Unit:=()
def PySem.W.Fast.tw8109094239771979383:Unit:=()
def PySem.W.Fast.tw1742351379082859307:Unit:=()
def PySem.W.Fast.tw3366507475703259167:Unit:=()
def PySem.W.Fast.tw16794600132182525200:Unit:=()
def PySem.W.Fast.tw13037094205799828700:Unit:=()
def PySem.W.Fast.tw14303631918043713977:Unit:=()
def PySem.W.Fast.tw15659657444109193890:Unit:=()
def PySem.W.Fast.tw6291572293836645955:Unit:=()
def PySem.W.Fast.tw4639091234231642522:Unit:=()
def PySem.W.Fast.tw10403961284790150747:Unit:=()
def PySem.W.Fast.tw14649090716957527188:Unit:=()
def PySem.W.Fast.tw17279146142609591151:Unit:=()
def PySem.W.Fast.tw3197265525209645885:Unit:=()
def PySem.W.Fast.tw17915181332873873951:Unit:=()
def PySem.W.Fast.tw13573457794372597754:Unit:=()
def PySem.W.Fast.tw16625513316767168236:Unit:=()
def PySem.W.Fast.tw10791401831780814853:Unit:=()
def PySem.W.Fast.tw9755534665850219335:Unit:=()
def PySem.W.Fast.tw11062222965197117182:Unit:=()
def PySem.W.Fast.tw14631214106553558595:Unit:=()
def PySem.W.Fast.tw7595235837974627775:Unit:=()
def PySem.W.Fast.tw8198121958172090302:Unit:=()
def PySem.W.Fast.tw9507286869799505873:Unit:=()
def PySem.W.Fast.tw5289569816181993305:Unit:=()
def PySem.W.Fast.tw10416573815736551645:Unit:=()
def PySem.W.Fast.tw8717657182140541603:Unit:=()
def PySem.W.Fast.tw8953475866782177507:Unit:=()
def PySem.W.Fast.tw5220318773600157460:Unit:=()
def PySem.W.Fast.tw1542927542048609137:Unit:=()
def PySem.W.Fast.tw2344124083653198247:Unit:=()
def PySem.W.Fast.tw13175421522043515739:Unit:=()
def PySem.W.Fast.tw310717732036068808:Unit:=()
def PySem.W.Fast.tw10897251669599766066:Unit:=()
def PySem.W.Fast.tw17804059793670424453:Unit:=()
def PySem.W.Fast.tw9313054383171978383:Unit:=()
def PySem.W.Fast.tw12426022507783585526:Unit:=()
def PySem.W.Fast.tw242972298463312313:Unit:=()
def PySem.W.Fast.tw584216928765979167:Unit:=()
def PySem.W.Fast.tw7596650169916007670:Unit:=()
def PySem.W.Fast.tw8729716336634866950:Unit:=()
def PySem.W.Fast.tw16700375833826520523:Unit:=()
def PySem.W.Fast.tw5130277983388893143:Unit:=()
def PySem.W.Fast.tw5382226863373803783:Unit:=()
def PySem.W.Fast.tw325371051911179292:Unit:=()
def PySem.W.Fast.tw5543565938525194983:Unit:=()
def PySem.W.Fast.tw15499396651469185961:Unit:=()
def PySem.W.Fast.tw11610965772150225432:Unit:=()
def PySem.W.Fast.tw12386374613842574986:Unit:=()
def PySem.W.Fast.tw3516760861199668019:Unit:=()
def PySem.W.Fast.tw14150036518003933307:Unit:=()
def PySem.W.Fast.tw15412195089086652984:Unit:=()
def PySem.W.Fast.tw12397744556820401218:Unit:=()
def PySem.W.Fast.tw9778455504576196096:Unit:=()
def PySem.W.Fast.tw9534017947705114093:Unit:=()
def PySem.W.Fast.tw4145899539482036971:Unit:=()
def PySem.W.Fast.tw8948203393284626441:Unit:=()
def PySem.W.Fast.tw436328385569116815:Unit:=()
def PySem.W.Fast.tw2417744805339355254:Unit:=()
def PySem.W.Fast.tw14640088682857531438:Unit:=()
def PySem.W.Fast.tw15916513569746058673:Unit:=()
def PySem.W.Fast.tw7793254272353317592:Unit:=()
def PySem.W.Fast.tw17383467948603568453:Unit:=()
def PySem.W.Fast.tw11436888870450612099:Unit:=()
def PySem.W.Fast.tw220674502049246508:Unit:=()
def PySem.W.Fast.tw15258132740085510513:Unit:=()
def PySem.W.Fast.tw10192314883806619678:Unit:=()
def PySem.W.Fast.tw728186309336733608:Unit:=()
def PySem.W.Fast.tw14847684027239525334:Unit:=()
def PySem.W.Fast.tw10488738320765277253:Unit:=()
def PySem.W.Fast.tw18173047231808915321:Unit:=()
def PySem.W.Fast.tw1930741171452400138:Unit:=()
def PySem.W.Fast.tw10830406044943571342:Unit:=()
def PySem.W.Fast.tw2318410147648331011:Unit:=()
def PySem.W.Fast.tw12366324098041494922:Unit:=()
def PySem.W.Fast.tw7551046155930893126:Unit:=()
def PySem.W.Fast.tw16364558424080544628:Unit:=()
def PySem.W.Fast.tw15499457015911277814:Unit:=()
def PySem.W.Fast.tw6922126634019343704:Unit:=()
def PySem.W.Fast.tw506107852184521900:Unit:=()
def PySem.W.Fast.tw12912847774864662163:Unit:=()
def PySem.W.Fast.tw4842198201736207928:Unit:=()
def PySem.W.Fast.tw13937810118604820026:Unit:=()
def PySem.W.Fast.tw3910666221223144979:Unit:=()
def PySem.W.Fast.tw6983168840976833829:Unit:=()
def PySem.W.Fast.tw8780826899796716123:Unit:=()
def PySem.W.Fast.tw4641518469199431737:Unit:=()
def PySem.W.Fast.tw11441684511334551087:Unit:=()
def PySem.W.Fast.tw4200937206613950765:Unit:=()
def PySem.W.Fast.tw8854077207474204215:Unit:=()
def PySem.W.Fast.tw10845772747003841826:Unit:=()
def PySem.W.Fast.tw9296797317038065983:Unit:=()
def PySem.W.Fast.tw15095882123014823439:Unit:=()
def PySem.W.Fast.tw2176410238359837562:Unit:=()
def PySem.W.Fast.tw1235323538857039681:Unit:=()
def PySem.W.Fast.tw11709286512963706820:Unit:=()
def PySem.W.Fast.tw5522050187062390926:Unit:=()
def PySem.W.Fast.tw11867259576940024870:Unit:=()
def PySem.W.Fast.tw12603432211116832824:Unit:=()
def PySem.W.Fast.tw12121975604260575144:Unit:=()
def PySem.W.Fast.tw15353380490120164238:Unit:=()
def PySem.W.Fast.tw14450370226603413171:Unit:=()
def PySem.W.Fast.tw817664199630056774:Unit:=()
def PySem.W.Fast.tw17231531000702519789:Unit:=()
def PySem.W.Fast.tw5039134351708228024:Unit:=()
def PySem.W.Fast.tw768381475373264170:Unit:=()
def PySem.W.Fast.tw16658736172950645388:Unit:=()
def PySem.W.Fast.tw9035173600205218639:Unit:=()
def PySem.W.Fast.tw8292573992859464415:Unit:=()
def PySem.W.Fast.tw13274263103305212124:Unit:=()
def PySem.W.Fast.tw15461263632014927486:Unit:=()
def PySem.W.Fast.tw16943070413926823891:Unit:=()
def PySem.W.Fast.tw11021161629493770019:Unit:=()
def PySem.W.Fast.tw11997116816316435987:Unit:=()
def PySem.W.Fast.tw1909110814454165480:Unit:=()
def PySem.W.Fast.tw5222279139271826156:Unit:=()
def PySem.W.Fast.tw14152193558328695765:Unit:=()
def PySem.W.Fast.tw17587801327779161962:Unit:=()
def PySem.W.Fast.tw6734122423000022382:Unit:=()
def PySem.W.Fast.tw3785336426261609529:Unit:=()
def PySem.W.Fast.tw14345860327928566736:Unit:=()
def PySem.W.Fast.tw5704600226055343044:Unit:=()
def PySem.W.Fast.tw16016381047241282740:Unit:=()
def PySem.W.Fast.tw5460292380603745633:Unit:=()
def PySem.W.Fast.tw15137873941306704520:Unit:=()
def PySem.W.Fast.tw4253190303761175923:Unit:=()
def PySem.W.Fast.tw12876116160491431144:Unit:=()
def PySem.W.Fast.tw17372153726229496930:Unit:=()
def PySem.W.Fast.tw395416211185405223:Unit:=()
def PySem.W.Fast.tw9315714214907253082:Unit:=()
def PySem.W.Fast.tw854470523139937192:Unit:=()
def PySem.W.Fast.tw14504034248202607237:Unit:=()
def PySem.W.Fast.tw18246297915282655767:Unit:=()
def PySem.W.Fast.tw4842640052177662093:Unit:=()
def PySem.W.Fast.tw9198550424667841963:Unit:=()
def PySem.W.Fast.tw728858121070174947:Unit:=()
set_option maxRecDepth 100000 in
set_option maxHeartbeats 0 in
theorem PySem.Challenge.cw_wapentake_k67_whole_rows_that_are_ruling_holds : PySem.Challenge.rw_wapentake_k67_whole_rows_that_are_ruling.Holds := by
  w_on; o_law; k_head; (case hw => w_witness2)
  k_fill
  refine' K67.walk (l := PySem.Challenge.rw_wapentake_k67_whole_rows_that_are_ruling) (cc := _) (Pt := _) rfl rfl (fun w h Y => PySem.W.km_in_of Y) ?hT ?hC0 ?hK ?F
  case F =>
    intro w mg fa h KX G hmg
    refine' K67.all_mk KX G hmg ?lZ ?hZ ?hH ?a1 ?l1 ?c1 ?k1 ?a2 ?l2 ?c2 ?k2 ?a3 ?l3 ?c3 ?k3 ?a4 ?l4 ?c4 ?k4 ?a5 ?l5 ?c5 ?k5 ?a6 ?l6 ?c6 ?k6 ?a7 ?l7 ?c7 ?k7 ?a8 ?l8 ?c8 ?k8 ?a9 ?l9 ?c9 ?k9 ?a10 ?l10 ?c10 ?k10 ?a11 ?l11 ?c11 ?k11 ?a12 ?l12 ?c12 ?k12 ?a13 ?l13 ?c13 ?k13 ?a14 ?l14 ?c14 ?k14 ?a15 ?l15 ?c15 ?k15 ?a16 ?l16 ?c16 ?k16 ?a17 ?l17 ?c17 ?k17 ?a18 ?l18 ?c18 ?k18 ?a19 ?l19 ?c19 ?k19 ?a20 ?l20 ?c20 ?k20 ?a21 ?l21 ?c21 ?k21 ?a22 ?l22 ?c22 ?k22 ?a23 ?l23 ?c23 ?k23 ?a24 ?l24 ?c24 ?k24 ?a25 ?l25 ?c25 ?k25 ?a26 ?l26 ?c26 ?k26 ?a27 ?l27 ?c27 ?k27 ?a28 ?l28 ?c28 ?k28 ?a29 ?l29 ?c29 ?k29 ?a30 ?l30 ?c30 ?k30 ?a31 ?l31 ?c31 ?k31 ?a32 ?l32 ?c32 ?k32 ?a33 ?l33 ?c33 ?k33 ?a34 ?l34 ?c34 ?k34 ?a35 ?l35 ?c35 ?k35 ?a36 ?l36 ?c36 ?k36 ?a37 ?l37 ?c37 ?k37 ?a38 ?l38 ?c38 ?k38 ?a39 ?l39 ?c39 ?k39 ?a40 ?l40 ?c40 ?k40 ?a41 ?l41 ?c41 ?k41 ?a42 ?l42 ?c42 ?k42 ?a43 ?l43 ?c43 ?k43 ?a44 ?l44 ?c44 ?k44 ?a45 ?l45 ?c45 ?k45 ?a46 ?l46 ?c46 ?k46 ?a47 ?l47 ?c47 ?k47 ?a48 ?l48 ?c48 ?k48 ?a49 ?l49 ?c49 ?k49 ?a50 ?l50 ?c50 ?k50 ?a51 ?l51 ?c51 ?k51 ?a52 ?l52 ?c52 ?k52 ?a53 ?l53 ?c53 ?k53 ?a54 ?l54 ?c54 ?k54 ?a55 ?l55 ?c55 ?k55 ?a56 ?l56 ?c56 ?k56 ?a57 ?l57 ?c57 ?k57 ?a58 ?l58 ?c58 ?k58 ?a59 ?l59 ?c59 ?k59 ?a60 ?l60 ?c60 ?k60 ?mW ?oW ?vW ?saW ?gaW ?gnW ?nwW ?inW ?ifW ?kpW ?liW ?cdW ?keW ?mC ?oC ?vC ?saC ?gaC ?gnC ?nwC ?inC ?ifC ?kpC ?liC ?cdC ?keC ?mS ?oS ?vS ?saS ?gaS ?gnS ?nwS ?inS ?ifS ?kpS ?liS ?cdS ?keS ?mP ?oP ?vP ?saP ?gaP ?gnP ?nwP ?inP ?ifP ?kpP ?liP ?cdP ?keP ?mU ?oU ?vU ?saU ?gaU ?gnU ?nwU ?inU ?ifU ?kpU ?liU ?cdU ?keU ?mH ?oH ?vH ?saH ?gaH ?gnH ?nwH ?inH ?ifH ?kpH ?liH ?cdH ?keH ?mE ?oE ?vE ?saE ?gaE ?gnE ?nwE ?inE ?ifE ?kpE ?liE ?cdE ?keE ?uC ?uS ?wg ?wr ?wf ?gv ?uP ?uU ?uH ?uE ?tC ?t1 ?t2 ?t3 ?t4 ?t5 ?t6 ?n_questions ?n_kept ?n_both ?ha0 ?hf0 ?hl0 ?hc0 ?hk0 ?ha1 ?hf1 ?hl1 ?hc1 ?hk1 ?ha2 ?hf2 ?hl2 ?hc2 ?hk2 ?ha3 ?hf3 ?hl3 ?hc3 ?hk3 ?ha4 ?hf4 ?hl4 ?hc4 ?hk4 ?ha5 ?hf5 ?hl5 ?hc5 ?hk5 ?gq ?gs ?z0 ?z1 ?z2 ?z3 ?z4 ?z5 ?z6 ?z7 ?z8 ?z9 ?z10 ?z11 ?z12 ?z13 ?z14
    (case a1 => k_is)
    (case l1 => k_is)
    (case c1 => k_is)
    (case k1 => k_is)
    (case a2 => k_is)
    (case l2 => k_is)
    (case c2 => k_is)
    (case k2 => k_is)
    (case a3 => k_is)
    (case l3 => k_is)
    (case c3 => k_is)
    (case k3 => k_is)
    (case a4 => k_is)
    (case l4 => k_is)
    (case c4 => k_is)
    (case k4 => k_is)
    (case a5 => k_is)
    (case l5 => k_is)
    (case c5 => k_is)
    (case k5 => k_is)
    (case a6 => k_is)
    (case l6 => k_is)
    (case c6 => k_is)
    (case k6 => k_is)
    (case a7 => k_is)
    (case l7 => k_is)
    (case c7 => k_is)
    (case k7 => k_is)
    (case a8 => k_is)
    (case l8 => k_is)
    (case c8 => k_is)
    (case k8 => k_is)
    (case a9 => k_is)
    (case l9 => k_is)
    (case c9 => k_is)
    (case k9 => k_is)
    (case a10 => k_is)
    (case l10 => k_is)
    (case c10 => k_is)
    (case k10 => k_is)
    (case a11 => k_is)
    (case l11 => k_is)
    (case c11 => k_is)
    (case k11 => k_is)
    (case a12 => k_is)
    (case l12 => k_is)
    (case c12 => k_is)
    (case k12 => k_is)
    (case a13 => k_is)
    (case l13 => k_is)
    (case c13 => k_is)
    (case k13 => k_is)
    (case a14 => k_is)
    (case l14 => k_is)
    (case c14 => k_is)
    (case k14 => k_is)
    (case a15 => k_is)
    (case l15 => k_is)
    (case c15 => k_is)
    (case k15 => k_is)
    (case a16 => k_is)
    (case l16 => k_is)
    (case c16 => k_is)
    (case k16 => k_is)
    (case a17 => k_is)
    (case l17 => k_is)
    (case c17 => k_is)
    (case k17 => k_is)
    (case a18 => k_is)
    (case l18 => k_is)
    (case c18 => k_is)
    (case k18 => k_is)
    (case a19 => k_is)
    (case l19 => k_is)
    (case c19 => k_is)
    (case k19 => k_is)
    (case a20 => k_is)
    (case l20 => k_is)
    (case c20 => k_is)
    (case k20 => k_is)
    (case a21 => k_is)
    (case l21 => k_is)
    (case c21 => k_is)
    (case k21 => k_is)
    (case a22 => k_is)
    (case l22 => k_is)
    (case c22 => k_is)
    (case k22 => k_is)
    (case a23 => k_is)
    (case l23 => k_is)
    (case c23 => k_is)
    (case k23 => k_is)
    (case a24 => k_is)
    (case l24 => k_is)
    (case c24 => k_is)
    (case k24 => k_is)
    (case a25 => k_is)
    (case l25 => k_is)
    (case c25 => k_is)
    (case k25 => k_is)
    (case a26 => k_is)
    (case l26 => k_is)
    (case c26 => k_is)
    (case k26 => k_is)
    (case a27 => k_is)
    (case l27 => k_is)
    (case c27 => k_is)
    (case k27 => k_is)
    (case a28 => k_is)
    (case l28 => k_is)
    (case c28 => k_is)
    (case k28 => k_is)
    (case a29 => k_is)
    (case l29 => k_is)
    (case c29 => k_is)
    (case k29 => k_is)
    (case a30 => k_is)
    (case l30 => k_is)
    (case c30 => k_is)
    (case k30 => k_is)
    (case a31 => k_is)
    (case l31 => k_is)
    (case c31 => k_is)
    (case k31 => k_is)
    (case a32 => k_is)
    (case l32 => k_is)
    (case c32 => k_is)
    (case k32 => k_is)
    (case a33 => k_is)
    (case l33 => k_is)
    (case c33 => k_is)
    (case k33 => k_is)
    (case a34 => k_is)
    (case l34 => k_is)
    (case c34 => k_is)
    (case k34 => k_is)
    (case a35 => k_is)
    (case l35 => k_is)
    (case c35 => k_is)
    (case k35 => k_is)
    (case a36 => k_is)
    (case l36 => k_is)
    (case c36 => k_is)
    (case k36 => k_is)
    (case a37 => k_is)
    (case l37 => k_is)
    (case c37 => k_is)
    (case k37 => k_is)
    (case a38 => k_is)
    (case l38 => k_is)
    (case c38 => k_is)
    (case k38 => k_is)
    (case a39 => k_is)
    (case l39 => k_is)
    (case c39 => k_is)
    (case k39 => k_is)
    (case a40 => k_is)
    (case l40 => k_is)
    (case c40 => k_is)
    (case k40 => k_is)
    (case a41 => k_is)
    (case l41 => k_is)
    (case c41 => k_is)
    (case k41 => k_is)
    (case a42 => k_is)
    (case l42 => k_is)
    (case c42 => k_is)
    (case k42 => k_is)
    (case a43 => k_is)
    (case l43 => k_is)
    (case c43 => k_is)
    (case k43 => k_is)
    (case a44 => k_is)
    (case l44 => k_is)
    (case c44 => k_is)
    (case k44 => k_is)
    (case a45 => k_is)
    (case l45 => k_is)
    (case c45 => k_is)
    (case k45 => k_is)
    (case a46 => k_is)
    (case l46 => k_is)
    (case c46 => k_is)
    (case k46 => k_is)
    (case a47 => k_is)
    (case l47 => k_is)
    (case c47 => k_is)
    (case k47 => k_is)
    (case a48 => k_is)
    (case l48 => k_is)
    (case c48 => k_is)
    (case k48 => k_is)
    (case a49 => k_is)
    (case l49 => k_is)
    (case c49 => k_is)
    (case k49 => k_is)
    (case a50 => k_is)
    (case l50 => k_is)
    (case c50 => k_is)
    (case k50 => k_is)
    (case a51 => k_is)
    (case l51 => k_is)
    (case c51 => k_is)
    (case k51 => k_is)
    (case a52 => k_is)
    (case l52 => k_is)
    (case c52 => k_is)
    (case k52 => k_is)
    (case a53 => k_is)
    (case l53 => k_is)
    (case c53 => k_is)
    (case k53 => k_is)
    (case a54 => k_is)
    (case l54 => k_is)
    (case c54 => k_is)
    (case k54 => k_is)
    (case a55 => k_is)
    (case l55 => k_is)
    (case c55 => k_is)
    (case k55 => k_is)
    (case a56 => k_is)
    (case l56 => k_is)
    (case c56 => k_is)
    (case k56 => k_is)
    (case a57 => k_is)
    (case l57 => k_is)
    (case c57 => k_is)
    (case k57 => k_is)
    (case a58 => k_is)
    (case l58 => k_is)
    (case c58 => k_is)
    (case k58 => k_is)
    (case a59 => k_is)
    (case l59 => k_is)
    (case c59 => k_is)
    (case lZ => k_is)
    (case hZ => rfl)
    (case hH => kernel_rfl)
    (case k59 => k_is)
    (case a60 => k_is)
    (case l60 => k_is)
    (case c60 => k_is)
    (case k60 => k_is)
    (case mW => k_is)
    (case oW => k_is)
    (case vW => exact ⟨by decide +kernel, by decide +kernel, by decide +kernel, by decide +kernel, by decide +kernel, fun _ => rfl⟩)
    (case saW => k_is)
    (case gaW => k_is)
    (case gnW => k_is)
    (case nwW => k_is)
    (case inW => k_is)
    (case ifW => k_is)
    (case kpW => k_is)
    (case liW => k_is)
    (case cdW => k_is)
    (case keW => k_is)
    (case mC => k_is)
    (case oC => k_is)
    (case vC => exact ⟨by decide +kernel, by decide +kernel, by decide +kernel, by decide +kernel, by decide +kernel, fun _ => rfl⟩)
    (case saC => k_is)
    (case gaC => k_is)
    (case gnC => k_is)
    (case nwC => k_is)
    (case inC => k_is)
    (case ifC => k_is)
    (case kpC => k_is)
    (case liC => k_is)
    (case cdC => k_is)
    (case keC => k_is)
    (case mS => k_is)
    (case oS => k_is)
    (case vS => exact ⟨by decide +kernel, by decide +kernel, by decide +kernel, by decide +kernel, by decide +kernel, fun _ => rfl⟩)
    (case saS => k_is)
    (case gaS => k_is)
    (case gnS => k_is)
    (case nwS => k_is)
    (case inS => k_is)
    (case ifS => k_is)
    (case kpS => k_is)
    (case liS => k_is)
    (case cdS => k_is)
    (case keS => k_is)
    (case mP => k_is)
    (case oP => k_is)
    (case vP => exact ⟨by decide +kernel, by decide +kernel, by decide +kernel, by decide +kernel, by decide +kernel, fun _ => rfl⟩)
    (case saP => k_is)
    (case gaP => k_is)
    (case gnP => k_is)
    (case nwP => k_is)
    (case inP => k_is)
    (case ifP => k_is)
    (case kpP => k_is)
    (case liP => k_is)
    (case cdP => k_is)
    (case keP => k_is)
    (case mU => k_is)
    (case oU => k_is)
    (case vU => exact ⟨by decide +kernel, by decide +kernel, by decide +kernel, by decide +kernel, by decide +kernel, fun _ => rfl⟩)
    (case saU => k_is)
    (case gaU => k_is)
    (case gnU => k_is)
    (case nwU => k_is)
    (case inU => k_is)
    (case ifU => k_is)
    (case kpU => k_is)
    (case liU => k_is)
    (case cdU => k_is)
    (case keU => k_is)
    (case mH => k_is)
    (case oH => k_is)
    (case vH => exact ⟨by decide +kernel, by decide +kernel, by decide +kernel, by decide +kernel, by decide +kernel, fun _ => rfl⟩)
    (case saH => k_is)
    (case gaH => k_is)
    (case gnH => k_is)
    (case nwH => k_is)
    (case inH => k_is)
    (case ifH => k_is)
    (case kpH => k_is)
    (case liH => k_is)
    (case cdH => k_is)
    (case keH => k_is)
    (case mE => k_is)
    (case oE => k_is)
    (case vE => exact ⟨by decide +kernel, by decide +kernel, by decide +kernel, by decide +kernel, by decide +kernel, fun _ => rfl⟩)
    (case saE => k_is)
    (case gaE => k_is)
    (case gnE => k_is)
    (case nwE => k_is)
    (case inE => k_is)
    (case ifE => k_is)
    (case kpE => k_is)
    (case liE => k_is)
    (case cdE => k_is)
    (case keE => k_is)
    (case uC => decide +kernel)
    (case uS => decide +kernel)
    (case wg => k_is)
    (case wr => k_is)
    (case wf => k_is)
    (case gv => k_is)
    (case uP => decide +kernel)
    (case uU => decide +kernel)
    (case uH => decide +kernel)
    (case uE => decide +kernel)
    (case tC => k_is)
    (case t1 => k_is)
    (case t2 => k_is)
    (case t3 => k_is)
    (case t4 => k_is)
    (case t5 => k_is)
    (case t6 => k_is)
    (case n_questions => k_is)
    (case n_kept => k_is)
    (case n_both => k_is)
    (case ha0 => k_is)
    (case hf0 => k_is)
    (case hl0 => k_is)
    (case hc0 => k_is)
    (case hk0 => k_is)
    (case ha1 => k_is)
    (case hf1 => k_is)
    (case hl1 => k_is)
    (case hc1 => k_is)
    (case hk1 => k_is)
    (case ha2 => k_is)
    (case hf2 => k_is)
    (case hl2 => k_is)
    (case hc2 => k_is)
    (case hk2 => k_is)
    (case ha3 => k_is)
    (case hf3 => k_is)
    (case hl3 => k_is)
    (case hc3 => k_is)
    (case hk3 => k_is)
    (case ha4 => k_is)
    (case hf4 => k_is)
    (case hl4 => k_is)
    (case hc4 => k_is)
    (case hk4 => k_is)
    (case ha5 => k_is)
    (case hf5 => k_is)
    (case hl5 => k_is)
    (case hc5 => k_is)
    (case hk5 => k_is)
    (case gq => k_is)
    (case gs => k_is)
    (case z0 => k_is)
    (case z1 => k_is)
    (case z2 => k_is)
    (case z3 => k_is)
    (case z4 => k_is)
    (case z5 => k_is)
    (case z6 => k_is)
    (case z7 => k_is)
    (case z8 => k_is)
    (case z9 => k_is)
    (case z10 => k_is)
    (case z11 => k_is)
    (case z12 => k_is)
    (case z13 => k_is)
    (case z14 => k_is)
  case hT => exact fun w h Y => PySem.W.km_tabs_of Y _ (by decide)
  case hC0 => intro w; kernel_rfl
  case hK => intro w; kernel_rfl
#print axioms PySem.Challenge.cw_wapentake_k67_whole_rows_that_are_ruling_holds
